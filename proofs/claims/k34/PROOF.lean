import PyProof.Rows.All
import Wide.All
import OpenK.AllK
import Wide.FinOn
import Lean
import PyProof.EqAt
import PyProof.EqKinds
import PyProof.TupleCall
import PyProof.ExcClass3
import PyProof.ExcInit
import PyProof.RulesTry
import PyProof.RulesAs
import PyProof.CodeObj
import PyProof.FactsLen
import PyProof.DictTruth
import KE.KRevIter
import PyProof.ListRange
import PyProof.ExcBaseAll.ValueError
import PyProof.InstStoreFacts
import PyProof.ExcArgsOwn
import KE.KIsAll
import PyProof.IsiBase
import PyProof.ReprRoads
import PyProof.NsDelKeeps
import KE.KTryMore
import PyProof.Rows.SortPure
import PyProof.Rows.SortShell
import KE.KIntText
import PyProof.Rows.StrItems
import PyProof.ZipIter
import PyProof.DictKeyH
import KE.RegKIsAll
import KE.RegKTryMore
import PyProof.Rows.KernelRfl
import PySem.Challenge.RW_calmwires_k34_whole_calls_stay
set_option Elab.async false
set_option linter.all false
namespace L2
open PySem PySem.W
noncomputable def pT (l:List Obj):BT->Nat->Option BT :=
 @List.rec Obj (fun _=>BT->Nat->Option BT) (fun t _=>some t) (fun o _ ih t n=>bif ((t.ins n o).get n).isSome then ih (t.ins n o) (n + 1) else none) l
theorem pTo (life:Life):∀ {l:List Obj} {t t' : BT} {n:Nat},pT l t n = some t'->absHeap t' (n + l.length) life = ⟨(absHeap t n life).objs++l.toArray,life⟩
 | [],t,t',n,h=>by
  cases h
  show absHeap t n life = _
  simp
  rfl
 | o :: r,t,t',n,h=>by
  have h' : (bif ((t.ins n o).get n).isSome then pT r (t.ins n o) (n + 1) else none) = some t':=h
  cases e:((t.ins n o).get n).isSome with
  | false=>rw [e] at h'; cases h'
  | true =>
   rw [e] at h'
   have i:=pTo life (l:=r) h'
   rw [absHeap_ins e] at i
   rw [show n + (o :: r).length = n + 1 + r.length by simp only [List.length_cons]; omega,i]
   show Heap.mk ((absHeap t n life).objs.push o++r.toArray) life = _
   congr 1
   apply Array.toList_inj.mp
   simp
noncomputable def pn (s:Shared):Option SharedT:=(pT s.heap.objs.toList .nil 0).map fun t=>⟨t,s.heap.objs.size,s.heap.life,s.gens,s.drawn,s.toks,s.os⟩
theorem po {s:Shared} {S:SharedT} (h:pn s = some S):S.abs = s:=by
 obtain ⟨t,e,rfl⟩:=Option.map_eq_some_iff.mp h
 have i:=pTo s.heap.life e
 obtain ⟨⟨objs,life⟩,gens,drawn,toks,os⟩:=s
 show Shared.mk (absHeap t objs.size life) gens drawn toks os = _
 have j:absHeap t objs.size life = ⟨objs,life⟩:=by
  rw [Nat.zero_add] at i
  have k:(absHeap BT.nil 0 life).objs = #[]:=rfl
  simp only [k] at i
  rw [show objs.size = objs.toList.length from rfl,i]
  simp
 rw [j]
noncomputable def goT (st:SharedT->Thread->Option (SharedT × Thread)) (ok:Thread->Bool) (n:Nat):SharedT->Thread->Option SharedT :=
 @Nat.rec (fun _=>SharedT->Thread->Option SharedT) (fun _ _=>none) (fun _ ih s t=>bif through t then some s else bif ok t then (st s t).bind fun z=>ih z.1 z.2 else none) n
theorem gTo {tb:String->Option Builtin} {p:Program} {w:World} {m:Nat} {a:Option Value}:∀ {n:Nat} {s s' : SharedT} {t:Thread},goT (stepT (denote tb) p w) (stepOk m a) n s t = some s'->topRun tb p w m a n s.abs t = some s'.abs
 | 0,_,_,_,h=>nomatch h
 | n + 1,s,s',t,h=>by
  have h' : (bif through t then some s else bif stepOk m a t then (stepT (denote tb) p w s t).bind fun z=>goT (stepT (denote tb) p w) (stepOk m a) n z.1 z.2 else none) = some s':=h
  unfold topRun
  cases e:through t with
  | true=>rw [e] at h'; cases h'; rfl
  | false =>
   rw [e] at h'
   cases e2:stepOk m a t with
   | false=>rw [e2] at h'; cases h'
   | true =>
    rw [e2] at h'
    obtain ⟨⟨s2,t2⟩,e3,e4⟩:=Option.bind_eq_some_iff.mp h'
    rw [stepT_spec e3]
    exact gTo e4
noncomputable def aT (tb:String->Option Builtin) (p:Program) (w:World) (N:Nat) (z:Shared):Option Shared :=
 bif z.heap.isNs mainGlobals && z.gens.size == 0 then
  (pn z).bind fun S=>(goT (stepT (denote tb) p w) (stepOk z.heap.objs.size (z.heap.nsMap mainGlobals "__annotations__")) N S (topStub p)).bind fun y =>
   bif staticsOk (importedModules p.main.body) z.heap y.abs.heap && namesBound p y.abs.heap && gensDone y.abs && laidKept z.heap y.abs.heap then some y.abs else none
 else none
theorem aTo {tb:String->Option Builtin} {p:Program} {w:World} {N:Nat} {z y:Shared} (h:aT tb p w N z = some y):topFrom tb p w N z = some y:=by
 unfold aT at h
 unfold topFrom
 cases e:(z.heap.isNs mainGlobals && z.gens.size == 0) with
 | false=>rw [e] at h; cases h
 | true =>
  rw [e] at h
  obtain ⟨S,e1,h⟩:=Option.bind_eq_some_iff.mp h
  obtain ⟨Y,e2,h⟩:=Option.bind_eq_some_iff.mp h
  have r:=gTo e2
  rw [po e1] at r
  dsimp only
  rw [r]
  cases e3:(staticsOk (importedModules p.main.body) z.heap Y.abs.heap && namesBound p Y.abs.heap && gensDone Y.abs && laidKept z.heap Y.abs.heap) with
  | false=>rw [e3] at h; cases h
  | true =>
   rw [e3] at h
   cases h
   show (match staticsOk (importedModules p.main.body) z.heap Y.abs.heap && namesBound p Y.abs.heap && gensDone Y.abs && laidKept z.heap Y.abs.heap with | true=>_ | false=>_) = _
   rw [e3]
theorem l2 {p q:Program} {loose:List PySem.Str} {Xt:Shared->Bool} {α:Type} {Yf:Shared->α} {Ya:World->α} {N:Nat} {g0:Bool}
  (h1:∀ w,((fencedOpening treeTable p w N).bind (aT treeTable p w N)).map (fun s=>openSeen q loose (importedModules p.main.body) Xt g0 s) = some (openGood q loose))
  (h2:∀ w,((fencedOpening treeTable p w N).bind (aT treeTable p w N)).map Yf = some (Ya w)):LeftO p q loose Xt Yf Ya N g0:=fun w=>by
 obtain ⟨s,e,e2⟩:=Option.map_eq_some_iff.mp (h1 w)
 have h3:=h2 w
 rw [e] at h3
 obtain ⟨z,e3,e4⟩:=Option.bind_eq_some_iff.mp e
 unfold openEnds
 rw [e3]
 show (topFrom treeTable p w N z).map _ = _
 rw [aTo e4]
 show some (openSeen q loose (importedModules p.main.body) Xt g0 s,Yf s) = _
 rw [e2,show Yf s = Ya w from Option.some.inj h3]
end L2
section
open PySem PySem.W PyProof.Rows PySem.W.Fast
lay_quick PySem.Challenge.pw_calmwires_k34_whole_calls_stay
local macro_rules | `(tactic| refine $f:ident $as*) => do if (f.getId.toString.splitOn "holds_open").length > 1 then `(tactic| (refine' $f $as*; case' $(Lean.mkIdent `hl):ident => (refine' L2.l2 (fun w => ?_) (fun w => ?_); (· unfold fencedOpening L2.aT; rw [show PySem.Challenge.rw_calmwires_k34_whole_calls_stay.row.prog = _ from te10876922674803559059,te10156331382660048174,te11892475500146522536,te6613529449190102663,te10274390034422433532,te14289696077712309145,te14364793385576792824,te1435165496053646825,te8920871248978507458,te4187177175401517315]; kernel_rfl!); (· unfold fencedOpening L2.aT; rw [show PySem.Challenge.rw_calmwires_k34_whole_calls_stay.row.prog = _ from te10876922674803559059,te10156331382660048174,te11892475500146522536,te6613529449190102663,te10274390034422433532,te14289696077712309145,te14364793385576792824,te1435165496053646825,te8920871248978507458]; kernel_rfl!)))) else Lean.Macro.throwUnsupported
set_option maxRecDepth 100000 in
set_option maxHeartbeats 0 in
open_top theTop for PySem.Challenge.rw_calmwires_k34_whole_calls_stay
end
open List (mem_filter mem_range filterMap_cons mem_cons_self mem_cons_of_mem mem_cons mem_append mem_append_left mem_append_right size_toArray append_nil nodup_cons of_mem_zip length_take getElem?_append_right getElem?_append_left getElem?_map mem_of_getElem? length_append length_map length_replicate length_drop map_nil map_cons length_singleton lookup_cons all_eq_true mem_map mem_singleton length_cons all_cons any_cons any_map drop_eq_getElem_cons take_succ_cons length_range drop_zero take_of_length_le length_eq_zero_iff take_zero reverse_cons getElem?_range length_set getElem?_set find?_cons nodup_nil mem_map_of_mem getElem_of_mem getElem?_eq_getElem getElem_mem map_append nodup_append mem_replicate map_map any_eq_true take_append_drop idxOf_cons getElem?_of_mem getElem?_cons filter_sublist take_succ forall_mem_cons)
open PySem.W (instObj methodObj lookIn plainGet kitOne kia_one kitx_list kitx_tuple kitx_dict cellsFrom_some fnOf codeIn codeRec_of mg_of mg_none_of)
open Nat (lt_of_lt_of_le lt_irrefl ne_of_lt le_trans le_of_lt le_refl le_of_eq lt_of_le_of_lt le_succ zero_le zero_add not_lt pow_le_pow_right lt_or_ge strongRecOn testBit_or testBit_two_pow eq_of_testBit_eq mod_lt two_pow_pos testBit_xor testBit_and eq_zero_or_pos zero_testBit)
open PySem.Heap (lt_size SameBut get?_push_of_some get?_push_size get?_update_other size_push get?_update_self ExtBut size_update)
noncomputable section
set_option Elab.async false
set_option linter.all false
set_option maxRecDepth 100000
namespace L2
open PySem PySem.Spec PyProof.Rows
abbrev Uq:=Sum Int Str
def Ny:Uq->Value->Bool
 | .inl k,v=>Value.isInt k v
 | .inr x,v=>Value.isStrOf x v
def Zfa (w:World):Uq->Int
 | .inl k=>hashInt k
 | .inr x=>hashStr w x
theorem Wm:∀ {k:Uq} {v:Value},Ny k v=true->(∃ i t,k=Sum.inl i/\v=Value.int i t)\/(∃ x t,k=Sum.inr x/\v=Value.str x t)
 | .inl i,v,h=>by
  obtain ⟨t,e⟩:=Value.isInt_shape (k:=i) (v:=v) h;exact .inl ⟨i,t,rfl,e⟩
 | .inr x,v,h=>by
  obtain ⟨t,e⟩:=Value.isStrOf_shape (x:=x) (v:=v) h;exact .inr ⟨x,t,rfl,e⟩
theorem Z1z (i:Int) (t:Tok):Ny (.inl i) (.int i t)=true:=by simp [Ny,Value.isInt]
theorem Z2c (x:Str) (t:Tok):Ny (.inr x) (.str x t)=true:=by simp [Ny,Value.isStrOf]
theorem Za5 (a b:Int):decide ((Sum.inl a:Uq)=Sum.inl b)=(a==b):=by
 by_cases e:a=b
 ·subst e;simp
 ·have h:¬ (Sum.inl a:Uq)=Sum.inl b:=fun q=>e (Sum.inl.inj q)
  rw [decide_eq_false h];exact (beq_eq_false_iff_ne.mpr e).symm
theorem Zau (a b:Str):decide ((Sum.inr a:Uq)=Sum.inr b)=decide (a=b):=by
 by_cases e:a=b
 ·subst e;simp
 ·have h:¬ (Sum.inr a:Uq)=Sum.inr b:=fun q=>e (Sum.inr.inj q)
  rw [decide_eq_false h,decide_eq_false e]
theorem Zb2 (a:Int) (b:Str):decide ((Sum.inl a:Uq)=Sum.inr b)=false:=decide_eq_false (fun q=>nomatch q)
theorem Zby (a:Str) (b:Int):decide ((Sum.inr a:Uq)=Sum.inl b)=false:=decide_eq_false (fun q=>nomatch q)
def Va (prog:Program) (w:World):PySem.KeyKind prog w Uq where
 is:=Ny
 hash:=Zfa w
 inj:=fun v a b ha hb=>by
  rcases Wm ha with ⟨i,t,rfl,rfl⟩ | ⟨x,t,rfl,rfl⟩
  ·rcases Wm hb with ⟨j,u,rfl,e⟩ | ⟨y,u,rfl,e⟩
   ·injection e with e1 _;rw [e1]
   ·exact nomatch e
  ·rcases Wm hb with ⟨j,u,rfl,e⟩ | ⟨y,u,rfl,e⟩
   ·exact nomatch e
   ·injection e with e1 _;rw [e1]
 byValue:=fun k v h=>by
  rcases Wm h with ⟨i,t,rfl,rfl⟩ | ⟨x,t,rfl,rfl⟩<;>rfl
 pyHash:=fun hv h=>by
  rcases Wm hv with ⟨i,t,rfl,rfl⟩ | ⟨x,t,rfl,rfl⟩
  ·exact wpAny_pyHash_int h
  ·exact wpAny_pyHash_str h
 eqBool:=fun hu hv h=>by
  rcases Wm hu with ⟨i,t,rfl,rfl⟩ | ⟨x,t,rfl,rfl⟩
  ·rcases Wm hv with ⟨j,u,rfl,rfl⟩ | ⟨y,u,rfl,rfl⟩
   ·rw [Za5] at h;exact wpAny_eqBool_int h
   ·rw [Zb2] at h;exact SeqAt.EqAt.int_str i t y u _ _ _ _ h
  ·rcases Wm hv with ⟨j,u,rfl,rfl⟩ | ⟨y,u,rfl,rfl⟩
   ·rw [Zby] at h;exact SeqAt.EqAt.str_int x t j u _ _ _ _ h
   ·rw [Zau] at h;exact wpAny_eqBool_str h
 «strs» := fun k x t v h=>by
  rcases Wm h with ⟨i,u,rfl,e⟩ | ⟨y,u,rfl,e⟩
  ·exact nomatch e
  ·injection e with e1 _
   subst e1;cases v<;>rfl
theorem Fe (prog:Program) (w:World) (i:Int) (t:Tok):(Va prog w).is (.inl i) (.int i t)=true:=Z1z i t
theorem Xr (prog:Program) (w:World) (x:Str) (t:Tok):(Va prog w).is (.inr x) (.str x t)=true:=Z2c x t
inductive V where
 | non | bl (b:Bool) | int (i:Int) | str (x:Str) | byt (b:Array UInt8) | flt (b:UInt64) | ref (a:Addr) | ty (n:String)
 deriving DecidableEq
def Yv:V->Value->Prop
 | .non,u=>u=Value.none
 | .bl b,u=>u=Value.bool b
 | .int i,u=>∃ t,u=Value.int i t
 | .str x,u=>∃ t,u=Value.str x t
 | .byt b,u=>∃ t,u=Value.bytes b t
 | .flt b,u=>∃ t,u=Value.float b t
 | .ref a,u=>u=Value.ref a
 | .ty n,u=>u=Value.type n
abbrev Y2:List V->List Value->Prop:=Paired Yv
theorem Y2.length {xs:List V} {us:List Value} (r:Y2 xs us):xs.length=us.length:=Paired.length r
theorem Y2.get:∀ {xs:List V} {us:List Value} {i:Nat} {x:V},Y2 xs us->xs[i]?=some x->∃ u,us[i]?=some u/\Yv x u
 | _,_,_,_,.nil,e=>by simp at e
 | _,_,0,_,.cons r _,e=>by simp at e;subst e;exact ⟨_,rfl,r⟩
 | _,_,i+1,x,.cons _ t,e=>by
  obtain ⟨u,h1,h2⟩:=Y2.get (i:=i) (x:=x) t (by simpa using e);exact ⟨u,by simpa using h1,h2⟩
theorem Y2.append:∀ {xs ys:List V} {us ws:List Value},Y2 xs us->Y2 ys ws->Y2 (xs++ys) (us++ws)
 | _,_,_,_,.nil,s=>s
 | _,_,_,_,.cons r t,s=>.cons r (Y2.append t s)
theorem Y2.take:∀ {xs:List V} {us:List Value} (n:Nat),Y2 xs us->Y2 (xs.take n) (us.take n)
 | _,_,0,_=>.nil
 | _,_,_+1,.nil=>.nil
 | _,_,n+1,.cons r t=>.cons r (Y2.take n t)
theorem Y2.drop:∀ {xs:List V} {us:List Value} (n:Nat),Y2 xs us->Y2 (xs.drop n) (us.drop n)
 | _,_,0,r=>r
 | _,_,_+1,.nil=>.nil
 | _,_,n+1,.cons _ t=>Y2.drop n t
def Ig:Option V->Option Value->Prop
 | some v,some u=>Yv v u
 | none,none=>True
 | _,_=>False
def KV {κ:Type}:List (κ×V)->List (κ×Value)->Prop:=Paired fun (p:κ×V) (q:κ×Value)=>p.1=q.1/\Yv p.2 q.2
def kV:Uq->V
 | .inl i=>.int i
 | .inr x=>.str x
inductive HO where
 | lst (xs:List V)
 | tup (xs:List V)
 | dK (kvs:List (Uq×V)) | dT (kvs:List (List Uq×V))
 | set (S:Int->Bool) (n:Nat)
 | ins (C dx:Addr) (fs:List (Str×V))
 | own (x:Addr)
 | xd (fs:List (Str×V))
 | met (f x:Addr)
 | rng (lo hi:Int)
 | frz (o:Obj) (u:HO)
 | tbl (ps:Array Value)
 | ext (φ:Heap->Prop)
abbrev Hp:=Addr->Option HO
def We (H:Hp) (a:Addr) (o:HO):Hp:=fun b=>if b=a then some o else H b
theorem Zt {H:Hp} {a:Addr} {o:HO}:We H a o a=some o:=by unfold We;rw [if_pos rfl]
theorem Zh {H:Hp} {a b:Addr} {o:HO} (h:b≠a):We H a o b=H b:=by unfold We;rw [if_neg h]
theorem Z8z {H:Hp} {a b:Addr} {o u:HO} (h:H a=some o) (h':H b=some u) (d:o≠u):a≠b:=by
 intro e;subst e;rw [h] at h';exact d (Option.some.inj h')
theorem Y5 {H:Hp} {a b:Addr} {o:HO} (h:H a=some o) (h':H b=none):a≠b:=by
 intro e;subst e;rw [h] at h';cases h'
section
variable (P:Program) (w:World)
def W9 (H:Hp) (h:Heap) (a:Addr):HO->Prop
 | .lst xs=>xs.length<=sizeLine/\∃ (its:List Value) (n:Nat),Y2 xs its/\h.get? a=some { cls:=.type "list",data:=.seq its.toArray n }
 | .tup xs=>xs.length<=sizeLine/\∃ its:List Value,Y2 xs its/\IsTup h a its.toArray
 | .dK kvs=>kvs.length<=sizeLine/\(a==sysModules)=false/\∃ vs,KV kvs vs/\h.DictOf (Va P w) a vs
 | .dT kvs=>kvs.length<=sizeLine/\(a==sysModules)=false/\∃ xs:List (List Uq×Addr×Value),
  Paired (fun (p:List Uq×V) (q:List Uq×Addr×Value)=>p.1=q.1/\H q.2.1=some (.tup (p.1.map kV))/\Yv p.2 q.2.2) kvs xs /\
  ∃ o es ep,h.get? a=some o/\o.ExactDict/\o.data=.dict es ep/\es.toList=xs.map (entryOfKey (tupleKind (Va P w)))/\(xs.map (·.1)).Nodup
 | .set S n=>h.SetOf (intKind P w) a S n
 | .ins C dx fs=>H dx=some (.own a)/\fs.length<=1000/\dx≠a/\h.get? a=some (instObj C dx) /\
  ∃ mA,h.Ns1 dx mA/\(∀ f,Ig (fs.lookup f) (mA f))/\PySem.Within mA (fs.map (·.1))
 | .own _=>∃ o,h.get? a=some o
 | .xd fs=>∃ mA,h.Ns1 a mA/\∀ f,Ig (fs.lookup f) (mA f)
 | .rng lo hi=>∃ t u v,h.get? a=some { cls:=.type "range",data:=.fields #[.int lo t,.int hi u,.int 1 v] }
 | .frz o u=>h.get? a=some o/\W9 H h a u
 | .tbl ps=>h.get? a=some { cls:=.none,data:=.fields ps }
 | .met f x=>h.get? a=some (methodObj (.ref f) (.ref x))
 | .ext φ=>φ h/\(∃ o,h.get? a=some o)/\∀ h1 h2:Heap,φ h1->(∀ o,h1.get? a=some o->h2.get? a=some o)->φ h2
def My (H:Hp) (h:Heap):Prop:=∀ a o,H a=some o->W9 P w H h a o
end
section
variable {P:Program} {w:World} {H H':Hp} {h h':Heap} {a:Addr} {o:HO}
theorem W9.lt (x:W9 P w H h a o):a<h.objs.size:=by
 cases o with
 | lst xs=>obtain ⟨_,_,_,_,e⟩:=x;exact lt_size e
 | tup xs=>obtain ⟨_,_,_,p⟩:=x;exact p.lt
 | dK kvs=>obtain ⟨_,_,_,_,o,_,_,e,_⟩:=x;exact lt_size e
 | dT kvs=>obtain ⟨_,_,_,_,o,_,_,e,_⟩:=x;exact lt_size e
 | set S n=>obtain ⟨o,_,_,_,e,_⟩:=x;exact lt_size e
 | ins C dx fs=>obtain ⟨_,_,_,e,_⟩:=x;exact lt_size e
 | own y=>obtain ⟨_,e⟩:=x;exact lt_size e
 | xd fs=>obtain ⟨_,⟨_,_,_,e,_⟩,_⟩:=x;exact lt_size e
 | rng lo hi=>obtain ⟨_,_,_,e⟩:=x;exact lt_size e
 | frz ob u=>obtain ⟨e,_⟩:=x;exact lt_size e
 | tbl ps=>exact lt_size (show h.get? a=some _ from x)
 | met f y=>exact lt_size (show h.get? a=some _ from x)
 | ext φ=>obtain ⟨_,⟨_,e⟩,_⟩:=x;exact lt_size e
theorem Paired.mapP {α β:Type} {F G:α->β->Prop}:∀ {l₁:List α} {l₂:List β},Paired F l₁ l₂->(∀ a b,F a b->G a b)->Paired G l₁ l₂
 | _,_,.nil,_=>.nil
 | _,_,.cons r t,f=>.cons (f _ _ r) (Paired.mapP t f)
theorem W9.stay (x:W9 P w H h a o) (k:∀ b u,(b=a\/H b=some (.own a))->h.get? b=some u->h'.get? b=some u)
  (ho:∀ b,H b=some (.own a)->H' b=some (.own a)) (ht:∀ b xs,H b=some (.tup xs)->H' b=some (.tup xs)):W9 P w H' h' a o:=by
 induction o with
 | lst xs=>obtain ⟨z,its,n,r,e⟩:=x;exact ⟨z,its,n,r,k _ _ (.inl rfl) e⟩
 | tup xs=>obtain ⟨z,its,r,ob,e,c⟩:=x;exact ⟨z,its,r,ob,k _ _ (.inl rfl) e,c⟩
 | dK kvs=>obtain ⟨z,y,vs,r,ob,es,ep,e,c⟩:=x;exact ⟨z,y,vs,r,ob,es,ep,k _ _ (.inl rfl) e,c⟩
 | dT kvs =>
  obtain ⟨z,y,xs,r,ob,es,ep,e,c⟩:=x;exact ⟨z,y,xs,Paired.mapP r fun p q z=>⟨z.1,ht _ _ z.2.1,z.2.2⟩,ob,es,ep,k _ _ (.inl rfl) e,c⟩
 | set S n=>obtain ⟨ob,es,ep,t,e,c⟩:=x;exact ⟨ob,es,ep,t,k _ _ (.inl rfl) e,c⟩
 | ins C dx fs =>
  obtain ⟨d,z,ne,e,mA,⟨od,es,ep,e2,c⟩,r⟩:=x;exact ⟨ho _ d,z,ne,k _ _ (.inl rfl) e,mA,⟨od,es,ep,k _ _ (.inr d) e2,c⟩,r⟩
 | own y=>obtain ⟨ob,e⟩:=x;exact ⟨ob,k _ _ (.inl rfl) e⟩
 | xd fs=>obtain ⟨mA,⟨od,es,ep,e,c⟩,r⟩:=x;exact ⟨mA,⟨od,es,ep,k _ _ (.inl rfl) e,c⟩,r⟩
 | rng lo hi=>obtain ⟨t,u,v,e⟩:=x;exact ⟨t,u,v,k _ _ (.inl rfl) e⟩
 | frz ob u ih=>obtain ⟨e,q⟩:=x;exact ⟨k _ _ (.inl rfl) e,ih q⟩
 | tbl ps =>
  have e:h.get? a=some { cls:=.none,data:=.fields ps }:=x;show h'.get? a=some { cls:=.none,data:=.fields ps };exact k a _ (.inl rfl) e
 | met f y =>
  have e:h.get? a=some (methodObj (.ref f) (.ref y)):=x;show h'.get? a=some (methodObj (.ref f) (.ref y));exact k a _ (.inl rfl) e
 | ext φ=>obtain ⟨p,⟨o,e⟩,st⟩:=x;exact ⟨st _ _ p fun o q=>k _ _ (.inl rfl) q,⟨o,k _ _ (.inl rfl) e⟩,st⟩
theorem My.lt (x:My P w H h) (e:H a=some o):a<h.objs.size:=(x a o e).lt
theorem My.fresh (x:My P w H h) (e:h.objs.size<=a):H a=none:=by
 cases q:H a with
 | none=>rfl
 | some u=>exact absurd (lt_of_lt_of_le (x.lt q) e) (lt_irrefl _)
theorem My.kept (x:My P w H h) (k:∀ b u,h.get? b=some u->h'.get? b=some u):My P w H h':=fun a o e =>
 (x a o e).stay (fun b u _ q=>k b u q) (fun _ q=>q) fun _ _ q=>q
theorem My.laid (x:My P w H h) (k:∀ b u,h.get? b=some u->h'.get? b=some u) (hp:h.objs.size<=a) (new:W9 P w (We H a o) h' a o):My P w (We H a o) h':=fun b u e=>by
 have hn:=x.fresh hp;by_cases hb:b=a
 ·subst hb;rw [Zt] at e;cases e;exact new
 ·rw [Zh hb] at e
  exact (x b u e).stay (fun c v _ q=>k c v q) (fun c q=>by rw [Zh (Y5 q hn)];exact q) fun c xs q=>by rw [Zh (Y5 q hn)];exact q
end
def Rd (H:Hp) (a:Addr) (u:HO):Prop:=H a=some u\/∃ o,H a=some (.frz o u)
theorem Rd.of {H:Hp} {a:Addr} {u:HO} (h:H a=some u):Rd H a u:=.inl h
theorem Rd.ok {P:Program} {w:World} {H:Hp} {h:Heap} {a:Addr} {u:HO} (r:Rd H a u) (x:My P w H h):W9 P w H h a u:=by
 rcases r with r | ⟨o,r⟩
 ·exact x a u r
 ·obtain ⟨_,q⟩:=x a _ r
  exact q
def Mut:Option HO->Prop
 | some (.lst _)=>True
 | some (.dK _)=>True
 | some (.dT _)=>True
 | some (.set _ _)=>True
 | some (.ins _ _ _)=>True
 | some (.ext _)=>True
 | _=>False
section
variable {P:Program} {w:World} {H:Hp} {h h':Heap} {x e:Addr} {o':HO}
theorem My.write (ok:My P w H h) (mu:Mut (H x)) (he:e=x\/H e=some (.own x)) (k:∀ b u,b≠e->h.get? b=some u->h'.get? b=some u) (heo:∃ u,h'.get? e=some u)
  (new:W9 P w (We H x o') h' x o'):My P w (We H x o') h':=fun b u q=>by
 have nown:∀ c y,H c=some (.own y)->c≠x:=fun c y r z=>by subst z;rw [r] at mu;exact mu
 have ntup:∀ c xs,H c=some (.tup xs)->c≠x:=fun c xs r z=>by subst z;rw [r] at mu;exact mu
 by_cases hb:b=x
 ·subst hb;rw [Zt] at q;cases q;exact new
 ·rw [Zh hb] at q
  by_cases hbe:b=e
  ·have q':H b=some (.own x):=by
    rcases he with z | z
    ·exact absurd (hbe.trans z) hb
    ·rw [hbe];exact z
   rw [q] at q';cases q';obtain ⟨v,hv⟩:=heo;exact ⟨v,by rw [hbe];exact hv⟩
  ·refine (ok b u q).stay (fun c v hc r=>k c v ?_ r) (fun c r=>by rw [Zh (nown c b r)];exact r) fun c xs r=>by rw [Zh (ntup c xs r)];exact r
   rcases hc with rfl | hc
   ·exact hbe
   ·rintro rfl
    rcases he with z | z
    ·exact nown c b hc z
    ·rw [hc] at z;cases z;exact hb rfl
end
structure Un (fs ex:List Addr) (H H':Hp) (h h':Heap):Prop where
 keep:∀ b o,h.get? b=some o->H b=none->b∉fs->b∉ex->h'.get? b=some o
 slot:∀ b o,h.get? b=some o->H b=none->b∈fs->b∉ex->∃ sl,h'.get? b=some { o with slots:=sl }
 free:∀ b o,h.get? b=some o->H b=none->b∉ex->H' b=none
 there:∀ b o,h.get? b=some o->b∉ex->∃ o',h'.get? b=some o'
 tups:∀ b xs,H b=some (.tup xs)->H' b=some (.tup xs)
 frzs:∀ b o u,H b=some (.frz o u)->H' b=some (.frz o u)
 tbls:∀ b ps,H b=some (.tbl ps)->∃ more,H' b=some (.tbl (ps++more))
section
variable {fs fs' ex ex':List Addr} {H H1 H2:Hp} {h h1 h2 h':Heap} {a x e:Addr} {o:HO}
theorem Un.any (u:Un fs ex H H1 h h1) {b:Addr} {ob:Obj} (q:h.get? b=some ob) (n:H b=none) (hx:b∉ex):∃ sl,h1.get? b=some { ob with slots:=sl }:=by
 by_cases hb:b∈fs
 ·exact u.slot b ob q n hb hx
 ·exact ⟨ob.slots,u.keep b ob q n hb hx⟩
theorem Un.kept (k:∀ b u,h.get? b=some u->h'.get? b=some u):Un fs ex H H h h' :=
 ⟨fun b ob q _ _ _=>k b ob q,fun b ob q _ _ _=>⟨ob.slots,k b ob q⟩,fun _ _ _ n _=>n,fun b ob q _=>⟨ob,k b ob q⟩,fun _ _ q=>q,fun _ _ _ q=>q,fun _ ps q=>⟨#[],by rw [q];simp⟩⟩
theorem Un.refl:Un fs ex H H h h:=Un.kept fun _ _ q=>q
theorem Un.laid (k:∀ b u,h.get? b=some u->h'.get? b=some u) (hp:h.objs.size<=a) (hn:H a=none):Un fs ex H (We H a o) h h' where
 keep:=fun b u q _ _ _=>k b u q
 slot:=fun b u q _ _ _=>⟨u.slots,k b u q⟩
 free:=fun b u q n _=>by rw [Zh (ne_of_lt (lt_of_lt_of_le (lt_size q) hp))];exact n
 there:=fun b u q _=>⟨u,k b u q⟩
 tups:=fun b xs q=>by rw [Zh (Y5 q hn)];exact q
 frzs:=fun b u xs q=>by rw [Zh (Y5 q hn)];exact q
 tbls:=fun b ps q=>⟨#[],by rw [Zh (Y5 q hn),q];simp⟩
theorem Un.write (mu:Mut (H x)) (he:e=x\/H e=some (.own x)) (k:∀ b u,b≠e->h.get? b=some u->h'.get? b=some u) (heo:∃ u,h'.get? e=some u):Un fs ex H (We H x o) h h':=by
 have hx:∀ b,H b=none->b≠x:=fun b n z=>by subst z;rw [n] at mu;exact mu
 have hb:∀ b,H b=none->b≠e:=fun b n z=>by
  subst z;rcases he with r | r
  ·exact hx b n r
  ·rw [n] at r;cases r
 have hm:∀ b u,H b=some u->¬ Mut (some u)->b≠x:=fun b u q nm z=>by subst z;rw [q] at mu;exact nm mu
 refine ⟨fun b u q n _ _=>k b u (hb b n) q,fun b u q n _ _=>⟨u.slots,k b u (hb b n) q⟩,fun b u q n _=>by rw [Zh (hx b n)];exact n,fun b u q _=>?_,
  fun b xs q=>by rw [Zh (hm b _ q fun z=>z)];exact q,fun b u xs q=>by rw [Zh (hm b _ q fun z=>z)];exact q,fun b ps q=>⟨#[],by rw [Zh (hm b _ q fun z=>z),q];simp⟩⟩
 by_cases hbe:b=e
 ·subst hbe;exact heo
 ·exact ⟨u,k b u hbe q⟩
end
def trk (h:Heap) (H:Hp):List Addr:=(List.range h.objs.size).filter fun a=>(H a).isSome
def Oq (h:Heap) (H:Hp):Heap:=PySem.W.hideAll h (trk h H)
theorem Z0u (h:Heap) (H:Hp):(Oq h H).objs.size=h.objs.size:=PySem.W.hideAll_size _ _
theorem Z3q {h:Heap} {H:Hp} {b:Addr} {o:Obj} (e:h.get? b=some o) (n:H b=none):(Oq h H).get? b=some o :=
 PySem.W.hideAll_get _ e fun hm=>by
  have q:(H b).isSome=true:=(mem_filter.mp hm).2;rw [n] at q;simp at q
theorem Z7f {h:Heap} {H:Hp} {b:Addr} {o:Obj} (e:(Oq h H).get? b=some o):h.get? b=some o/\H b=none:=by
 have e':h.get? b=some o:=PySem.W.of_hideAll (trk h H) e;refine ⟨e',?_⟩;cases q:H b with
 | none=>rfl
 | some x =>
  have hm:b∈trk h H:=mem_filter.mpr ⟨mem_range.mpr (lt_size e'),by simp [q]⟩;have z:(Oq h H).get? b=none:=PySem.W.hideAll_none (trk h H) hm;rw [z] at e;cases e
structure Mod (K:PySem.W.Frag) (mg:Str->Option Value) (base:Heap):Prop where
 kin:K.In base
 glob:base.Ns mainGlobals mg
 blt:∃ mb,base.Ns builtinsNs mb/\∀ x:Str,x≠"__name__" -> mb x=bootBuiltins x
 nolimit:base.NoLimit
structure Cx where
 prog:Program
 w:World
 K:PySem.W.Frag
 mg:Str->Option Value
 base:Heap
 A:Around
 N:List Str
 s₀:Shared
 H₀:Hp
 env:Env
 outer:List Env
 stack:List Env
 ex:List Addr
 fn:Str->Bool
 calm:Bool
 pn:List (Addr×Obj)
 xe:Value->Shared->Prop
 pl:Bool:=false
def Sw (l:List Env):List Addr:=l.filterMap (·.frame)
abbrev Cx.fs (X:Cx):List Addr:=Sw X.outer
def Vis (sc:Scope) (x:Str):Prop:=sc.names.lookup x=some .local\/sc.names.lookup x=some .cell\/sc.names.lookup x=some .free
def Cy (sc:Scope) (x:Str):Prop:=sc.names.lookup x=some .local\/sc.names.lookup x=some .cell
def Zfu (env:Env) (h:Heap) (m:Str->Option Value) (x:Str) (u:Value):Prop :=
 (env.kindOf x=some .local/\m x=some u)\/((env.kindOf x=some .cell\/env.kindOf x=some .free)/\∃ c,env.cells.lookup x=some c/\h.IsCell c (some u))
structure Cx.Ok (X:Cx):Prop where
 mod:Mod X.K X.mg X.base
 kind:X.env.scope.kind=.function
 glob:X.env.globals=mainGlobals
 blt:X.env.builtins=builtinsNs
 above:X.s₀.heap.objs.size<=X.env.locals
 inj:∀ x y c,X.env.cells.lookup x=some c->X.env.cells.lookup y=some c->x=y
 has:∀ x,(X.env.kindOf x=some .cell\/X.env.kindOf x=some .free)->∃ c,X.env.cells.lookup x=some c
 cab:∀ x c,X.fn x=true->X.env.cells.lookup x=some c->X.s₀.heap.objs.size<=c
 hd:X.calm=true->X.A.handled=none
 frames:X.A.frames=some X.stack
 stk:X.stack=X.outer\/(X.stack=X.env::X.outer/\X.env.frame=some X.env.locals)
 exf:∀ b∈X.ex,b≠X.env.locals/\∀ x c,X.env.cells.lookup x=some c->c≠b
 bs:∀ b o,X.base.get? b=some o->X.s₀.heap.get? b=some o/\X.H₀ b=none
 bsz:X.base.objs.size<=X.s₀.heap.objs.size
 noex:∀ b o,X.base.get? b=some o->b∉X.ex
 exfs:∀ b∈X.ex,b∉X.fs
 funs:X.s₀.heap.FunFrames X.base X.outer
 frf:∀ b∈X.fs,X.H₀ b=none
structure Inv (X:Cx) (pins:List (Addr×Obj)) (σ:List (Option V)) (H:Hp) (s:Shared):Prop where
 ok:X.Ok
 os:s.os=X.s₀.os
 bare:AllBare s.gens
 base:Un X.fs X.ex X.H₀ H X.s₀.heap s.heap
 loc:∃ m,s.heap.Ns X.env.locals m/\∀ (i:Nat) (x:Str) (v:V),X.N[i]?=some x->σ[i]?=some (some v)->Vis X.env.scope x->∃ u,Yv v u/\Zfu X.env s.heap m x u
 cell:∀ x c,X.env.cells.lookup x=some c->∃ v,s.heap.IsCell c v
 free:H X.env.locals=none
 freeC:∀ x c,X.env.cells.lookup x=some c->H c=none
 pin:∀ p∈X.pn++pins,s.heap.get? p.1=some p.2/\H p.1=none/\p.1≠X.env.locals/\p.1∉X.fs/\∀ v,p.2.data≠.cell v
 hok:My X.prog X.w H s.heap
 len:σ.length=X.N.length
section
variable {X:Cx} {pins:List (Addr×Obj)} {σ:List (Option V)} {H H':Hp} {s:Shared} {h':Heap}
theorem Cx.Ok.nofr (ok:X.Ok) {b:Addr} {o:Obj} (e:X.base.get? b=some o):b∉X.fs:=fun hb=>by
 have:=(ok.funs.mem hb).1;rw [e] at this;cases this
theorem Inv.bs (I:Inv X pins σ H s):∀ b o,X.base.get? b=some o->s.heap.get? b=some o/\H b=none:=fun b o e =>
 ⟨I.base.keep b o (I.ok.bs b o e).1 (I.ok.bs b o e).2 (I.ok.nofr e) (I.ok.noex b o e),I.base.free b o (I.ok.bs b o e).1 (I.ok.bs b o e).2 (I.ok.noex b o e)⟩
theorem Inv.bk (I:Inv X pins σ H s):∀ b o,X.base.get? b=some o->s.heap.get? b=some o:=fun b o e=>(I.bs b o e).1
theorem Inv.mod (I:Inv X pins σ H s):Mod X.K X.mg X.base:=I.ok.mod
theorem Inv.kIn (I:Inv X pins σ H s):X.K.In s.heap:=I.ok.mod.kin.keeps I.bk
theorem Inv.lt (I:Inv X pins σ H s):X.env.locals<s.heap.objs.size:=let ⟨_,hn,_⟩:=I.loc;hn.lt
theorem Inv.sz (I:Inv X pins σ H s):X.s₀.heap.objs.size<=s.heap.objs.size:=le_trans I.ok.above (le_of_lt I.lt)
theorem Inv.nofs (I:Inv X pins σ H s) {a:Addr} (h:s.heap.objs.size<=a):a∉X.fs:=fun hb=>by
 obtain ⟨_,o,ho,_⟩:=I.ok.funs.mem hb;exact absurd (lt_of_lt_of_le (lt_size ho) (le_trans I.sz h)) (lt_irrefl _)
theorem Inv.cne (I:Inv X pins σ H s):∀ x c,X.env.cells.lookup x=some c->c≠X.env.locals:=fun x c e z=>by
 obtain ⟨v,o,ho,hd⟩:=I.cell x c e;obtain ⟨m,⟨o',es,ep,ho',hd',_⟩,_⟩:=I.loc;rw [z,ho'] at ho;cases ho;rw [hd'] at hd;cases hd
theorem Inv.funs (I:Inv X pins σ H s):s.heap.FunFrames X.base X.outer:=by
 have all:∀ (l:List Env),(∀ b∈Sw l,b∈X.fs)->X.s₀.heap.FunFrames X.base l->s.heap.FunFrames X.base l:=by
  intro l;induction l with
  | nil=>intro _ _;trivial
  | cons env r ih =>
   intro hs hl;obtain ⟨hk,⟨L,o,hf,hn,ho,hd⟩,hr⟩:=hl;have hL:L∈X.fs:=hs L (by unfold Sw;rw [filterMap_cons,hf];exact mem_cons_self);obtain ⟨sl,e⟩:=I.base.slot L o ho (I.ok.frf L hL) hL fun z=>I.ok.exfs L z hL
   exact ⟨hk,⟨L,_,hf,hn,e,hd⟩,ih (fun b hb=>hs b (by unfold Sw;rw [filterMap_cons,hf];exact mem_cons_of_mem _ hb)) hr⟩
 exact all X.outer (fun _ hb=>hb) I.ok.funs
theorem Inv.stack (I:Inv X pins σ H s):s.heap.FunFrames X.base X.stack:=by
 rcases I.ok.stk with e | ⟨e,hf⟩
 ·rw [e];exact I.funs
 ·rw [e]
  obtain ⟨m,hn,_⟩:=I.loc;refine .cons (by rw [I.ok.kind];decide) hf hn ?_ I.funs;exact Heap.get?_none_of_le (le_trans I.ok.bsz I.ok.above)
theorem Inv.stkSub (I:Inv X pins σ H s):∀ b∈Sw X.stack,b∈X.env.locals::X.fs:=fun b hb=>by
 rcases I.ok.stk with e | ⟨e,hf⟩
 ·rw [e] at hb;exact mem_cons_of_mem _ hb
 ·rw [e] at hb
  unfold Sw at hb;rw [filterMap_cons,hf] at hb;exact hb
theorem Inv.stkFree (I:Inv X pins σ H s):∀ b∈Sw X.stack,H b=none:=fun b hb=>by
 rcases mem_cons.mp (I.stkSub b hb) with e | hb
 ·rw [e];exact I.free
 ·obtain ⟨_,o,ho,_⟩:=I.ok.funs.mem hb
  exact I.base.free b o ho (I.ok.frf b hb) fun z=>I.ok.exfs b z hb
theorem Inv.step {g':Array GenState} {t':Nat} {d':Drawn} {ch:List Addr} (I:Inv X pins σ H s)
  (hch:∀ b∈ch,(b∈X.ex\/X.s₀.heap.objs.size<=b)/\b≠X.env.locals/\(∀ x c,X.env.cells.lookup x=some c->c≠b)/\∀ p∈X.pn++pins,p.1≠b)
  (keep:∀ b o,b≠X.env.locals->b∉X.fs->b∉ch->s.heap.get? b=some o->H b=none->h'.get? b=some o)
  (slot:∀ b o,b≠X.env.locals->b∈X.fs->b∉ch->s.heap.get? b=some o->H b=none->∃ sl,h'.get? b=some { o with slots:=sl }) (free:∀ b o,b∉ch->s.heap.get? b=some o->H b=none->H' b=none)
  (there:∀ b o,b∉ch->s.heap.get? b=some o->∃ o',h'.get? b=some o')
  (tups:∀ b xs,H b=some (.tup xs)->H' b=some (.tup xs)) (frzs:∀ b o u,H b=some (.frz o u)->H' b=some (.frz o u)) (tbls:∀ b ps,H b=some (.tbl ps)->∃ more,H' b=some (.tbl (ps++more)))
  (ns:∀ m,s.heap.Ns X.env.locals m->h'.Ns X.env.locals m) (hok:My X.prog X.w H' h') (hg:AllBare g') :
  Inv X pins σ H' { s with heap:=h',gens:=g',drawn:=d',toks:=t' }:=by
 have neL:∀ b o,X.s₀.heap.get? b=some o->b≠X.env.locals:=fun b o e=>ne_of_lt (lt_of_lt_of_le (lt_size e) I.ok.above)
 have neC:∀ b o,X.s₀.heap.get? b=some o->b∉X.ex->b∉ch:=fun b o e hx hb=>by
  rcases (hch b hb).1 with z | z
  ·exact hx z
  ·exact absurd (lt_of_lt_of_le (lt_size e) z) (lt_irrefl _)
 have cellK:∀ x c,X.env.cells.lookup x=some c->∀ v,s.heap.IsCell c v->h'.IsCell c v:=fun x c e v zz=>by
  obtain ⟨o,ho,hd⟩:=zz;have nch:c∉ch:=fun z=>(hch c z).2.2.1 x c e rfl
  by_cases hc:c∈X.fs
  ·obtain ⟨sl,q⟩:=slot c o (I.cne x c e) hc nch ho (I.freeC x c e)
   exact ⟨_,q,hd⟩
  ·exact ⟨o,keep c o (I.cne x c e) hc nch ho (I.freeC x c e),hd⟩
 refine ⟨I.ok,I.os,hg,⟨fun b o e n hb hx=>?_,fun b o e n hb hx=>?_,fun b o e n hx=>?_,fun b o e hx=>?_,fun b xs e=>tups b xs (I.base.tups b xs e),fun b o xs e=>frzs b o xs (I.base.frzs b o xs e),fun b ps e=>?_⟩,?_,fun x c e=>?_,?_,fun x c e=>?_,fun p hp=>?_,hok,I.len⟩
 ·exact keep b o (neL b o e) hb (neC b o e hx) (I.base.keep b o e n hb hx) (I.base.free b o e n hx)
 ·obtain ⟨sl,e1⟩:=I.base.slot b o e n hb hx
  obtain ⟨sl',e2⟩:=slot b _ (neL b o e) hb (neC b o e hx) e1 (I.base.free b o e n hx);exact ⟨sl',e2⟩
 ·obtain ⟨o',e1⟩:=I.base.there b o e hx
  exact free b o' (neC b o e hx) e1 (I.base.free b o e n hx)
 ·obtain ⟨o',e1⟩:=I.base.there b o e hx
  exact there b o' (neC b o e hx) e1
 ·obtain ⟨m1,e1⟩:=I.base.tbls b ps e
  obtain ⟨m2,e2⟩:=tbls b _ e1;exact ⟨m1++m2,by rw [e2,Array.append_assoc]⟩
 ·obtain ⟨m,hn,hl⟩:=I.loc
  refine ⟨m,ns m hn,fun i x v e1 e2 e3=>?_⟩;obtain ⟨u,r,l⟩:=hl i x v e1 e2 e3;refine ⟨u,r,?_⟩;rcases l with l | ⟨k,c,e,z⟩
  ·exact .inl l
  ·exact .inr ⟨k,c,e,cellK x c e _ z⟩
 ·obtain ⟨v,z⟩:=I.cell x c e
  exact ⟨v,cellK x c e v z⟩
 ·obtain ⟨m,⟨o,_,_,ho,_⟩,_⟩:=I.loc
  exact free _ o (fun z=>(hch _ z).2.1 rfl) ho I.free
 ·obtain ⟨v,o,ho,hd⟩:=I.cell x c e
  exact free c o (fun z=>(hch c z).2.2.1 x c e rfl) ho (I.freeC x c e)
 ·obtain ⟨e,n,ne,nf,d⟩:=I.pin p hp
  have nch:p.1∉ch:=fun z=>(hch p.1 z).2.2.2 p hp rfl
  exact ⟨keep p.1 p.2 ne nf nch e n,free p.1 p.2 nch e n,ne,nf,d⟩
theorem Inv.un {t':Nat} (I:Inv X pins σ H s) (u:Un X.fs [] H H' s.heap h') (hok:My X.prog X.w H' h'):Inv X pins σ H' { s with heap:=h',toks:=t' }:=by
 obtain ⟨m,⟨o,es,ep,ho,r⟩,_⟩:=id I.loc;obtain ⟨sl,hL⟩:=u.any ho I.free (by simp);exact I.step (g':=s.gens) (d':=s.drawn) (ch:=[]) (fun _ z=>nomatch z) (fun b o _ hb _ e n=>u.keep b o e n hb (by simp)) (fun b o _ hb _ e n=>u.slot b o e n hb (by simp)) (fun b o _ e n=>u.free b o e n (by simp)) (fun b o _ e=>u.there b o e (by simp)) u.tups u.frzs u.tbls (fun m' hm=>by
  obtain ⟨o',es',ep',ho',r'⟩:=hm;rw [ho] at ho';cases ho';exact ⟨_,es',ep',hL,r'⟩) hok I.bare
theorem Inv.call {g':Array GenState} {t':Nat} {d':Drawn} {ch:List Addr} (I:Inv X pins σ H s) (u:Un (Sw X.stack) ch H H' s.heap h') (hok:My X.prog X.w H' h') (hg:AllBare g')
  (hch:∀ b∈ch,(b∈X.ex\/X.s₀.heap.objs.size<=b)/\b≠X.env.locals/\(∀ x c,X.env.cells.lookup x=some c->c≠b)/\∀ p∈X.pn++pins,p.1≠b) :
  Inv X pins σ H' { s with heap:=h',gens:=g',drawn:=d',toks:=t' }:=by
 obtain ⟨m,⟨o,es,ep,ho,r⟩,_⟩:=id I.loc;obtain ⟨sl,hL⟩:=u.any ho I.free fun z=>(hch _ z).2.1 rfl
 exact I.step (ch:=ch) hch (fun b o hL hb hc e n=>u.keep b o e n (fun z=>(mem_cons.mp (I.stkSub b z)).elim hL hb) hc) (fun b o _ _ hc e n=>u.any e n hc) (fun b o hc e n=>u.free b o e n hc) (fun b o hc e=>u.there b o e hc) u.tups u.frzs u.tbls (fun m' hm=>by
  obtain ⟨o',es',ep',ho',r'⟩:=hm;rw [ho] at ho';cases ho';exact ⟨_,es',ep',hL,r'⟩) hok hg
theorem Inv.turned {t':Nat} {it:Addr} (I:Inv X pins σ H s) (k:∀ b o,b≠it->s.heap.get? b=some o->h'.get? b=some o) (hn:H it=none) (hL:it≠X.env.locals)
  (h1:it∈X.ex\/X.s₀.heap.objs.size<=it) (h2:∀ x c,X.env.cells.lookup x=some c->c≠it) (h3:∀ p∈X.pn++pins,p.1≠it):Inv X pins σ H { s with heap:=h',toks:=t' }:=by
 have nit:∀ b u,H b=some u->b≠it:=fun b u e z=>by rw [z,hn] at e;cases e
 refine I.step (g':=s.gens) (d':=s.drawn) (ch:=[it]) (fun b hb=>?_) (fun b o _ _ hc e _=>k b o (fun z=>hc (by simp [z])) e) (fun b o _ _ hc e _=>⟨o.slots,k b o (fun z=>hc (by simp [z])) e⟩) (fun _ _ _ _ n=>n)
  (fun b o hc e=>⟨o,k b o (fun z=>hc (by simp [z])) e⟩) (fun _ _ e=>e) (fun _ _ _ e=>e) (fun b ps e=>⟨#[],by rw [e];simp⟩) (fun m hm=>?_) (fun b u e=>?_) I.bare
 ·have e:b=it:=by simpa using hb
  subst e;exact ⟨h1,hL,h2,h3⟩
 ·obtain ⟨o,es,ep,ho,r⟩:=hm
  exact ⟨o,es,ep,k _ o (Ne.symm hL) ho,r⟩
 ·refine (I.hok b u e).stay (fun c v hc q=>k c v ?_ q) (fun _ q=>q) fun _ _ q=>q
  rcases hc with z | z
  ·rw [z];exact nit b u e
  ·exact nit c _ z
theorem Inv.tok (I:Inv X pins σ H s) (t:Nat):Inv X pins σ H { s with toks:=t }:=I.un (h':=s.heap) (t':=t) Un.refl I.hok
theorem Inv.kept {t':Nat} (I:Inv X pins σ H s) (k:∀ b u,s.heap.get? b=some u->h'.get? b=some u):Inv X pins σ H { s with heap:=h',toks:=t' }:=I.un (Un.kept k) (I.hok.kept k)
theorem Inv.laid {a:Addr} {o:HO} {t':Nat} (I:Inv X pins σ H s) (k:∀ b u,s.heap.get? b=some u->h'.get? b=some u) (hp:s.heap.objs.size<=a) (new:W9 X.prog X.w (We H a o) h' a o) :
 Inv X pins σ (We H a o) { s with heap:=h',toks:=t' }:=I.un (Un.laid k hp (I.hok.fresh hp)) (I.hok.laid k hp new)
theorem Inv.write {x e:Addr} {o:HO} {t':Nat} (I:Inv X pins σ H s) (mu:Mut (H x)) (he:e=x\/H e=some (.own x)) (k:∀ b u,b≠e->s.heap.get? b=some u->h'.get? b=some u) (heo:∃ u,h'.get? e=some u)
 (new:W9 X.prog X.w (We H x o) h' x o):Inv X pins σ (We H x o) { s with heap:=h',toks:=t' }:=I.un (Un.write mu he k heo) (I.hok.write mu he k heo new)
theorem Inv.weak {σ':List (Option V)} (I:Inv X pins σ H s) (hl:σ'.length=σ.length) (w:∀ (i:Nat) v,σ'[i]?=some (some v)->σ[i]?=some (some v)):Inv X pins σ' H s :=
 ⟨I.ok,I.os,I.bare,I.base,let ⟨m,hn,hl'⟩:=I.loc;⟨m,hn,fun i x v e1 e2 e3=>hl' i x v e1 (w i v e2) e3⟩,I.cell,I.free,I.freeC,I.pin,I.hok,hl.trans I.len⟩
theorem Inv.pins_of {pins':List (Addr×Obj)} (I:Inv X pins σ H s) (h:∀ p∈pins',s.heap.get? p.1=some p.2/\H p.1=none/\p.1≠X.env.locals/\p.1∉X.fs/\∀ v,p.2.data≠.cell v):Inv X pins' σ H s :=
 ⟨I.ok,I.os,I.bare,I.base,I.loc,I.cell,I.free,I.freeC,fun p hp=>(mem_append.mp hp).elim (fun z=>I.pin p (mem_append_left _ z)) (h p),I.hok,I.len⟩
theorem Fy {N:List Str} (hN:N.Nodup) {i j:Nat} {x:Str} (a:N[i]?=some x) (b:N[j]?=some x):i=j:=by
 obtain ⟨h1,e1⟩:=List.getElem?_eq_some_iff.mp a;obtain ⟨h2,e2⟩:=List.getElem?_eq_some_iff.mp b;exact (List.getElem_inj hN).mp (e1.trans e2.symm)
theorem O6 {M:Model} {A:Around} {E:Value->Shared->Prop} {i:Nat} {x:Str} {v:V} {u:Value} {Q:Unit->Shared->Prop} (I:Inv X pins σ H s) (hN:X.N.Nodup) (hi:X.N[i]?=some x) (hx:Cy X.env.scope x) (r:Yv v u)
   (h:∀ s',Inv X pins (σ.set i (some v)) H s'->(∃ a,SameBut a s.heap s'.heap/\(a=X.env.locals\/X.env.cells.lookup x=some a))->Q () s') (hf:X.fn x=true\/X.env.scope.names.lookup x=some .local:=by first | exact .inl rfl | exact .inr rfl | assumption):wpAny M A (storeName X.env x u) Q E s:=by
 obtain ⟨m,hn,hl⟩:=id I.loc;have hcls:(X.env.scope.kind==.class||(X.env.scope.kind==.module&&X.env.locals != X.env.globals))=false:=by rw [I.ok.kind];rfl
 have hiσ:i<σ.length:=by rw [I.len];exact (List.getElem?_eq_some_iff.mp hi).1
 have cne:=I.cne;have tracked:∀ {a:Addr} {h':Heap},(∃ o,s.heap.get? a=some o/\H a=none)->SameBut a s.heap h'->My X.prog X.w H h':=fun {a h'} ha hs b ob e=>by
   obtain ⟨_,_,hfree⟩:=ha;refine (I.hok b ob e).stay (fun c w' hc q=>(hs.2 c ?_).trans q) (fun _ q=>q) fun _ _ q=>q
   rintro rfl;rcases hc with rfl | hc
   · rw [hfree] at e;cases e
   · rw [hfree] at hc;cases hc
 rcases hx with hk | hk
 · refine wpAny_storeName_local hk hn (fun h' hn' hs=>?_) hcls
   obtain ⟨oL,_,_,hoL,_⟩:=id hn;refine h _ ⟨I.ok,I.os,I.bare,⟨fun b o e n hb hx=>?_,fun b o e n hb hx=>?_,I.base.free,fun b o e hx=>?_,I.base.tups,I.base.frzs,I.base.tbls⟩,⟨_,hn',fun j y v' e1 e2 e3=>?_⟩,fun y c e=>?_,I.free,I.freeC,fun p hp=>?_,tracked ⟨oL,hoL,I.free⟩ hs,by simpa using I.len⟩ ⟨_,hs,.inl rfl⟩
   · exact (hs.2 b (ne_of_lt (lt_of_lt_of_le (lt_size e) I.ok.above))).trans (I.base.keep b o e n hb hx)
   · obtain ⟨sl,e1⟩:=I.base.slot b o e n hb hx
     exact ⟨sl,(hs.2 b (ne_of_lt (lt_of_lt_of_le (lt_size e) I.ok.above))).trans e1⟩
   · obtain ⟨o',e1⟩:=I.base.there b o e hx
     exact ⟨o',(hs.2 b (ne_of_lt (lt_of_lt_of_le (lt_size e) I.ok.above))).trans e1⟩
   · by_cases hj:j=i
     · subst hj
       rw [hi] at e1;cases e1;rw [List.getElem?_set_self hiσ] at e2;cases e2;exact ⟨u,r,.inl ⟨hk,by simp⟩⟩
     · rw [List.getElem?_set_ne (Ne.symm hj)] at e2
       obtain ⟨u',r',q⟩:=hl j y v' e1 e2 e3;refine ⟨u',r',?_⟩;rcases q with ⟨k,e⟩ | ⟨k,c,e,z⟩
       · refine .inl ⟨k,?_⟩
         have:y≠x:=fun e=>hj (Fy hN e1 (e▸hi))
         simp [this,e]
       · exact .inr ⟨k,c,e,z.sameBut hs (cne y c e)⟩
   · obtain ⟨w',z⟩:=I.cell y c e
     exact ⟨w',z.sameBut hs (cne y c e)⟩
   · obtain ⟨e,n,ne,nf,d⟩:=I.pin p hp
     exact ⟨(hs.2 p.1 ne).trans e,n,ne,nf,d⟩
 · have hfn:X.fn x=true:=by
     rcases hf with z | z
     · exact z
     · rw [z] at hk;cases hk
   obtain ⟨c,hc⟩:=I.ok.has x (.inl hk);obtain ⟨w',z⟩:=I.cell x c hc;refine wpAny_storeName_cell I.ok.kind hk hc z (fun h' hc' hs=>?_);obtain ⟨oc,hoc,hocd⟩:=id z;refine h { s with heap:=h' } ⟨I.ok,I.os,I.bare,⟨fun b o e n hb hx=>?_,fun b o e n hb hx=>?_,I.base.free,fun b o e hx=>?_,I.base.tups,I.base.frzs,I.base.tbls⟩,⟨m,hn.sameBut hs (Ne.symm (cne x c hc)),fun j y v' e1 e2 e3=>?_⟩,fun y c' e=>?_,I.free,I.freeC,fun p hp=>?_,tracked ⟨oc,hoc,I.freeC x c hc⟩ hs,by simpa using I.len⟩ ⟨c,hs,.inr hc⟩
   · exact (hs.2 b (ne_of_lt (lt_of_lt_of_le (lt_size e) (I.ok.cab x c hfn hc)))).trans (I.base.keep b o e n hb hx)
   · obtain ⟨sl,e1⟩:=I.base.slot b o e n hb hx
     exact ⟨sl,(hs.2 b (ne_of_lt (lt_of_lt_of_le (lt_size e) (I.ok.cab x c hfn hc)))).trans e1⟩
   · obtain ⟨o',e1⟩:=I.base.there b o e hx
     exact ⟨o',(hs.2 b (ne_of_lt (lt_of_lt_of_le (lt_size e) (I.ok.cab x c hfn hc)))).trans e1⟩
   · by_cases hj:j=i
     · subst hj
       rw [hi] at e1;cases e1;rw [List.getElem?_set_self hiσ] at e2;cases e2;exact ⟨u,r,.inr ⟨.inl hk,c,hc,hc'⟩⟩
     · rw [List.getElem?_set_ne (Ne.symm hj)] at e2
       obtain ⟨u',r',q⟩:=hl j y v' e1 e2 e3;refine ⟨u',r',?_⟩;rcases q with q | ⟨k,c',e,z'⟩
       · exact .inl q
       · refine .inr ⟨k,c',e,z'.sameBut hs ?_⟩
         rintro rfl;exact hj (Fy hN e1 (I.ok.inj _ _ _ e hc▸hi))
   · by_cases hcc:c'=c
     · subst hcc;exact ⟨_,hc'⟩
     · obtain ⟨w2,z2⟩:=I.cell y c' e
       exact ⟨w2,z2.sameBut hs hcc⟩
   · obtain ⟨e,n,ne,nf,d⟩:=I.pin p hp
     refine ⟨(hs.2 p.1 ?_).trans e,n,ne,nf,d⟩;intro q;rw [q,hoc] at e;have q':oc=p.2:=Option.some.inj e;exact d w' (by rw [← q'];exact hocd)
theorem Kf {M:Model} {A:Around} {E:Value->Shared->Prop} {i:Nat} {x:Str} {v:V} {u:Value} {Q:Unit->Shared->Prop} (I:Inv X pins σ H s) (hN:X.N.Nodup) (hi:X.N[i]?=some x) (hx:Cy X.env.scope x) (r:Yv v u)
  (h:∀ s',Inv X pins (σ.set i (some v)) H s'->Q () s') (hf:X.fn x=true\/X.env.scope.names.lookup x=some .local:=by first | exact .inl rfl | exact .inr rfl | assumption):wpAny M A (storeName X.env x u) Q E s :=
 O6 I hN hi hx r (fun s' I' _=>h s' I') hf
theorem Inv.call' {s':Shared} {ch:List Addr} (I:Inv X pins σ H s) (ho:s'.os=s.os) (u:Un (Sw X.stack) ch H H' s.heap s'.heap) (hok:My X.prog X.w H' s'.heap) (hg:AllBare s'.gens)
  (hch:∀ b∈ch,(b∈X.ex\/X.s₀.heap.objs.size<=b)/\b≠X.env.locals/\(∀ x c,X.env.cells.lookup x=some c->c≠b)/\∀ p∈X.pn++pins,p.1≠b):Inv X pins σ H' s':=by
 obtain ⟨h',g',d',t',o'⟩:=s';have e:o'=s.os:=ho;subst e;exact I.call (g':=g') (t':=t') (d':=d') u hok hg hch
end
abbrev XK:=Value->Option Addr->Hp->Prop
abbrev St:=List (Option V)
abbrev VK:=V->Hp->Prop
abbrev TE:=St->Hp->VK->Prop
abbrev TT:=St->Hp->(Bool->Hp->Prop)->Prop
abbrev TA:=St->Hp->(List V->Hp->Prop)->Prop
structure Ends where
 nx:St->Hp->Prop
 rt:VK
 bk:St->Hp->Prop:=fun _ _=>False
 ct:St->Hp->Prop:=fun _ _=>False
abbrev TS:=Ends->St->Hp->Prop
def EP (X:Cx) (pins:List (Addr×Obj)) (σ:St) (Q:VK) (u:Value) (s':Shared):Prop:=∃ v H',Inv X pins σ H' s'/\Yv v u/\Q v H'
def TP (X:Cx) (pins:List (Addr×Obj)) (σ:St) (Q:Bool->Hp->Prop) (b:Bool) (s':Shared):Prop:=∃ H',Inv X pins σ H' s'/\Q b H'
def AP (X:Cx) (pins:List (Addr×Obj)) (σ:St) (Q:List V->Hp->Prop) (us:List Value) (s':Shared):Prop:=∃ vs H',Inv X pins σ H' s'/\Y2 vs us/\Q vs H'
def SP (X:Cx) (pins:List (Addr×Obj)) (D:Ends) (f:Flow) (s':Shared):Prop :=
 match f with
 | .next=>∃ σ' H',Inv X pins σ' H' s'/\D.nx σ' H'
 | .brk=>∃ σ' H',Inv X pins σ' H' s'/\D.bk σ' H'
 | .cont=>∃ σ' H',Inv X pins σ' H' s'/\D.ct σ' H'
 | .ret u=>∃ v σ' H',Inv X pins σ' H' s'/\Yv v u/\D.rt v H'
def PE (X:Cx) (e:Expr) (t:TE):Prop :=
 ∀ (pins:List (Addr×Obj)) (s:Shared) (σ:St) (H:Hp) (Q:VK),Inv X pins σ H s->t σ H Q->wpAny (model X.prog X.w) X.A (eval e X.env) (EP X pins σ Q) X.xe s
def PT (X:Cx) (e:Expr) (t:TT):Prop :=
 ∀ (pins:List (Addr×Obj)) (s:Shared) (σ:St) (H:Hp) (Q:Bool->Hp->Prop),Inv X pins σ H s->t σ H Q->wpAny (model X.prog X.w) X.A (isTrue e X.env (eval e X.env)) (TP X pins σ Q) X.xe s
def PW (X:Cx) (e:Expr) (t:TT):Prop :=
 ∀ (whole:Sem Value) (pins:List (Addr×Obj)) (s:Shared) (σ:St) (H:Hp) (Q:Bool->Hp->Prop),Inv X pins σ H s->t σ H Q->wpAny (model X.prog X.w) X.A (isTrue e X.env whole) (TP X pins σ Q) X.xe s
theorem PW.pt {X:Cx} {e:Expr} {t:TT} (h:PW X e t):PT X e t:=h _
def PA (X:Cx) (es:List Expr) (t:TA):Prop :=
 ∀ (pos:Pos) (pins:List (Addr×Obj)) (s:Shared) (σ:St) (H:Hp) (Q:List V->Hp->Prop),Inv X pins σ H s->t σ H Q->wpAny (model X.prog X.w) X.A (spliced (backTo pos (starEach es X.env))) (AP X pins σ Q) X.xe s
def PS (X:Cx) (st:Stmt) (t:TS):Prop :=
 ∀ (pins:List (Addr×Obj)) (s:Shared) (σ:St) (H:Hp) (D:Ends),Inv X pins σ H s->t D σ H->wpAny (model X.prog X.w) X.A (exec st X.env) (SP X pins D) X.xe s
def Sx (X:Cx) (st:List Stmt) (t:TS):Prop :=
 ∀ (pins:List (Addr×Obj)) (s:Shared) (σ:St) (H:Hp) (D:Ends),Inv X pins σ H s->t D σ H->wpAny (model X.prog X.w) X.A (execs st X.env) (SP X pins D) X.xe s
theorem Wt {α:Type} {t:Sem α} {Q Q':α->Shared->Prop} {M:Model} {A:Around} {E:Value->Shared->Prop} {s:Shared} (h:wpAny M A t Q E s) (hQ:∀ a s,Q a s->Q' a s):wpAny M A t Q' E s:=wpAny_mono h hQ fun _ _ x=>x
section
variable {X:Cx}
def Dq (i:Nat):TE:=fun σ H Q=>∃ v,σ[i]?=some (some v)/\Q v H
def tC (v:V):TE:=fun _ H Q=>Q v H
theorem R3 {i:Nat} {x:Str} {pos:Pos} (hN:X.N[i]?=some x) (hv:Vis X.env.scope x) (hd:(x==("__debug__" : Str))=false:=by decide) (hcd:(x==("__classdict__" : Str))=false:=by decide):PE X (.Name x pos) (Dq i):=by
 intro pins s σ H Q I h;obtain ⟨v,e,h⟩:=h;obtain ⟨m,hn,hl⟩:=I.loc;obtain ⟨u,r,l⟩:=hl i x v hN e hv;have fin:EP X pins σ Q u s:=⟨v,H,I,r,h⟩;rcases l with ⟨hk,hm⟩ | ⟨hk,c,hc,hcell⟩
 ·exact wpAny_Name (wpAny_loadName_local I.ok.kind hk hn hm fin) hd
 ·rcases hk with hk | hk
  ·exact wpAny_Name (wpAny_loadName_cell I.ok.kind hk hc hcell fin) hd
  ·exact wpAny_Name (wpAny_loadName_free I.ok.kind hk hc hcell fin hcd) hd
theorem Z9e {i j pos}:PE X (.Constant (.int i) j pos) (tC (.int i)):=fun _ _ _ H _ I h=>wpAny_Constant_int ⟨.int i,H,I.tok _,⟨_,rfl⟩,h⟩
theorem Zdm {b j pos}:PE X (.Constant (.bool b) j pos) (tC (.bl b)):=fun _ _ _ H _ I h=>Constant_bool ⟨.bl b,H,I,rfl,h⟩
theorem Zao {j pos}:PE X (.Constant .none j pos) (tC .non):=fun _ _ _ H _ I h=>Constant_none ⟨.non,H,I,rfl,h⟩
theorem Z3h {x j pos}:PE X (.Constant (.str x) j pos) (tC (.str x)):=fun _ _ _ H _ I h=>Calls.Constant_str ⟨.str x,H,I.tok _,⟨_,rfl⟩,h⟩
def Gl (X:Cx) (x:Str):Prop:=X.env.kindOf x=some .globalImplicit
theorem U9 {E:Value->Shared->Prop} {pins:List (Addr×Obj)} {s:Shared} {σ:St} {H:Hp} {x:Str} {u:Value} {pos:Pos} {Q:Value->Shared->Prop} (I:Inv X pins σ H s) (hg:Gl X x) (hm:X.mg x=some u) (h:Q u s)
  (hd:(x==("__debug__" : Str))=false:=by decide):wpAny (model X.prog X.w) X.A (eval (.Name x pos) X.env) Q E s :=
 Calls.Name_function_global I.ok.kind hg (Calls.loadGlobal_global (by rw [I.ok.glob];exact I.mod.glob.keeps I.bk) hm h) hd
theorem R1 {E:Value->Shared->Prop} {pins:List (Addr×Obj)} {s:Shared} {σ:St} {H:Hp} {x:Str} {u:Value} {pos:Pos} {Q:Value->Shared->Prop} (I:Inv X pins σ H s) (hg:Gl X x) (hm:X.mg x=none) (hv:bootBuiltins x=some u) (h:Q u s)
  (hn:x≠"__name__" := by decide) (hd:(x==("__debug__" : Str))=false:=by decide):wpAny (model X.prog X.w) X.A (eval (.Name x pos) X.env) Q E s:=by
 obtain ⟨mb,h1,h2⟩:=I.mod.blt;exact Calls.Name_function_global I.ok.kind hg (Calls.loadGlobal_builtin (by rw [I.ok.glob];exact I.mod.glob.keeps I.bk) hm (by rw [I.ok.blt];exact h1.keeps I.bk) ((h2 x hn).trans hv) h) hd
theorem Z77 {x:Str} {v:V} {u:Value} {pos:Pos} (hg:Gl X x) (hm:X.mg x=none) (hv:bootBuiltins x=some u) (r:Yv v u) (hn:x≠"__name__" := by decide) (hd:(x==("__debug__" : Str))=false:=by decide):PE X (.Name x pos) (tC v) :=
 fun _ _ _ H _ I h=>R1 I hg hm hv ⟨v,H,I,r,h⟩ hn hd
variable {a b:Expr} {ta tb:TE} {pos:Pos}
def PC (X:Cx) (op:CmpOp) (a b:Expr) (t:TE):Prop :=
 ∀ (pins:List (Addr×Obj)) (s:Shared) (σ:St) (H:Hp) (Q:VK),Inv X pins σ H s->t σ H Q ->
  wpAny (model X.prog X.w) X.A (eval a X.env) (fun v s₁=>wpAny (model X.prog X.w) X.A (eval b X.env) (fun u s₂=>wpAny (model X.prog X.w) X.A (compareOp op v u) (EP X pins σ Q) X.xe s₂) X.xe s₁) X.xe s
def tB (t:TE):TT:=fun σ H Q=>t σ H fun x H1=>∃ c,x=.bl c/\Q c H1
theorem Zb5 {op:CmpOp} {t:TE} (h:PC X op a b t) (h1:behindInMarks op b=false:=by first | exact nobehind _ (by decide) (by decide) | rfl):PT X (.Compare a [op] [b] pos) (tB t):=by
 intro pins s σ H Q I hw;refine wpAny_isTrue_Compare1 (Wt (h pins s σ H _ I hw) fun v s1 h1=>Wt h1 fun u s2 h2=>Wt h2 fun c s3 ⟨x,H1,I1,r1,q1⟩=>?_) h1;obtain ⟨d,rfl,q⟩:=q1;cases r1;exact wpAny_truthy_bool ⟨H1,I1,q⟩
variable {tA tB':TT} {rest:List Expr}
def Zf3 (t u:TT):TT:=fun σ H Q=>t σ H fun c H1=>if c=true then u σ H1 Q else Q false H1
def tOr (t u:TT):TT:=fun σ H Q=>t σ H fun c H1=>if c=true then Q true H1 else u σ H1 Q
def Zew (t:TT):TT:=fun σ H Q=>t σ H fun c H1=>Q (!c) H1
theorem Z6e (ha:PT X a tA):PW X (.BoolOp .And [a] pos) tA:=by
 intro wh pins s σ H Q I h;refine isTrue_and (Wt (ha pins s σ H Q I h) fun c s1 e=>?_);cases c with
 | true=>exact isTrue_and_nil e
 | false=>exact e
theorem Zc3 (ha:PT X a tA):PW X (.BoolOp .Or [a] pos) tA:=by
 intro wh pins s σ H Q I h;refine isTrue_or (Wt (ha pins s σ H Q I h) fun c s1 e=>?_);cases c with
 | false=>exact isTrue_or_nil e
 | true=>exact e
theorem Zb4 (ha:PT X a tA) (hb:PW X (.BoolOp .And (b::rest) pos) tB'):PW X (.BoolOp .And (a::b::rest) pos) (Zf3 tA tB'):=by
 intro wh pins s σ H Q I h;refine isTrue_and (Wt (ha pins s σ H _ I h) fun c s1 ⟨H1,I1,q1⟩=>?_);cases c with
 | true=>exact hb wh pins s1 σ H1 Q I1 q1
 | false=>exact ⟨H1,I1,q1⟩
theorem Zcw (ha:PT X a tA) (hb:PW X (.BoolOp .Or (b::rest) pos) tB'):PW X (.BoolOp .Or (a::b::rest) pos) (tOr tA tB'):=by
 intro wh pins s σ H Q I h;refine isTrue_or (Wt (ha pins s σ H _ I h) fun c s1 ⟨H1,I1,q1⟩=>?_);cases c with
 | true=>exact ⟨H1,I1,q1⟩
 | false=>exact hb wh pins s1 σ H1 Q I1 q1
theorem Zai (ha:PT X a tA):PT X (.UnaryOp .Not a pos) (Zew tA):=by
 intro pins s σ H Q I h;exact isTrue_not (ha pins s σ H (fun c H1=>Q (!c) H1) I h)
def Zcl (ta tb:TE):TE:=fun σ H Q=>ta σ H fun x H1=>∃ c,x=.bl c/\if c=true then tb σ H1 Q else Q (.bl false) H1
def Zff (ta tb:TE):TE:=fun σ H Q=>ta σ H fun x H1=>∃ c,x=.bl c/\if c=true then Q (.bl true) H1 else tb σ H1 Q
def Zd9 (ta:TE):TE:=fun σ H Q=>ta σ H fun x H1=>∃ c,x=.bl c/\Q (.bl (!c)) H1
theorem Zbz {op} {t:TE} (h:PE X a t):PE X (.BoolOp op [a] pos) t:=fun pins s σ H Q I hw=>BoolOp_one (h pins s σ H Q I hw)
theorem Zb3 (ha:PE X a ta) (hb:PE X (.BoolOp .And (b::rest) pos) tb):PE X (.BoolOp .And (a::b::rest) pos) (Zcl ta tb):=by
 intro pins s σ H Q I h;refine BoolOp_and (Wt (ha pins s σ H _ I h) fun v s1 ⟨x,H1,I1,r1,q1⟩=>?_);obtain ⟨c,rfl,q1⟩:=q1;cases r1;refine wpAny_truthy_bool ?_;cases c with
 | true=>exact hb pins s1 σ H1 Q I1 q1
 | false=>exact ⟨.bl false,H1,I1,rfl,q1⟩
theorem Ze5 (ha:PE X a ta) (hb:PE X (.BoolOp .Or (b::rest) pos) tb):PE X (.BoolOp .Or (a::b::rest) pos) (Zff ta tb):=by
 intro pins s σ H Q I h;refine BoolOp_or (Wt (ha pins s σ H _ I h) fun v s1 ⟨x,H1,I1,r1,q1⟩=>?_);obtain ⟨c,rfl,q1⟩:=q1;cases r1;refine wpAny_truthy_bool ?_;cases c with
 | false=>exact hb pins s1 σ H1 Q I1 q1
 | true=>exact ⟨.bl true,H1,I1,rfl,q1⟩
theorem Za2 (ha:PE X a ta):PE X (.UnaryOp .Not a pos) (Zd9 ta):=by
 intro pins s σ H Q I h;refine UnaryOp_ (Wt (ha pins s σ H _ I h) fun v s1 ⟨x,H1,I1,r1,q1⟩=>?_);obtain ⟨c,rfl,q1⟩:=q1;cases r1;exact not_of (wpAny_truthy_bool ⟨.bl (!c),H1,I1,rfl,q1⟩)
end
def S9 (K:PySem.W.Frag) (H:Hp) (a:Addr) (xs:List V):Prop :=
 Rd H a (.lst xs) \/
  ∃ (o:Obj) (its:Array Value) (n:Nat),K.lookup a=some o/\o.cls=.type "list" /\ o.dict=none/\o.data=.seq its n/\its.size<=sizeLine/\Y2 xs its.toList
def Sz (K:PySem.W.Frag) (H:Hp) (a:Addr) (xs:List V):Prop :=
 H a=some (.tup xs) \/
  ∃ (o:Obj) (its:Array Value) (n:Nat),K.lookup a=some o/\o.cls=.type "tuple" /\ o.data=.seq its n/\its.size<=sizeLine/\Y2 xs its.toList/\∀ i:Int,V.int i∉xs
def Zg3:Value->Option V
 | .none=>some .non
 | .bool b=>some (.bl b)
 | .int i _=>some (.int i)
 | .str x _=>some (.str x)
 | .bytes b _=>some (.byt b)
 | .float b _=>some (.flt b)
 | .ref a=>some (.ref a)
 | .type n=>some (.ty n)
 | _=>none
theorem Yv.abs {x:V} {u:Value} (r:Yv x u):Zg3 u=some x:=by
 cases x with
 | non=>cases r;rfl
 | bl _=>cases r;rfl
 | int _=>obtain ⟨t,rfl⟩:=r;rfl
 | str _=>obtain ⟨t,rfl⟩:=r;rfl
 | byt _=>obtain ⟨t,rfl⟩:=r;rfl
 | flt _=>obtain ⟨t,rfl⟩:=r;rfl
 | ref _=>cases r;rfl
 | ty _=>cases r;rfl
theorem Yv.inj {x y:V} {u:Value} (r:Yv x u) (q:Yv y u):x=y:=Option.some.inj (r.abs.symm.trans q.abs)
theorem Y2.inj:∀ {xs ys:List V} {us:List Value},Y2 xs us->Y2 ys us->xs=ys
 | _,_,_,.nil,.nil=>rfl
 | _,_,_,.cons r t,.cons r' t'=>by rw [r.inj r',Y2.inj t t']
section
variable {X:Cx} {pins:List (Addr×Obj)} {σ:St} {H:Hp} {s:Shared} {a:Addr} {xs ys:List V}
theorem S9.of {K:PySem.W.Frag} (h:H a=some (.lst xs)):S9 K H a xs:=.inl (.inl h)
theorem Inv.list (I:Inv X pins σ H s) (h:S9 X.K H a xs):∃ its:List Value,Y2 xs its/\PlainL s.heap a its.toArray/\xs.length<=sizeLine:=by
 rcases h with h | ⟨o,its,n,hk,hc,hd,hs,hz,r⟩
 ·obtain ⟨z,its,n,r,e⟩:=h.ok I.hok
  exact ⟨its,r,⟨_,n,e,rfl,rfl,rfl⟩,z⟩
 ·refine ⟨its.toList,r,⟨o,n,I.kIn a o hk,hc,hd,by simpa using hs⟩,?_⟩
  have e:=r.length;simp only [Array.length_toList] at e;lia
theorem Inv.tuple (I:Inv X pins σ H s) (h:Sz X.K H a xs):∃ its:List Value,Y2 xs its/\IsTup s.heap a its.toArray/\xs.length<=sizeLine:=by
 rcases h with h | ⟨o,its,n,hk,hc,hs,hz,r,_⟩
 ·obtain ⟨z,its,r,p⟩:=(Rd.of h).ok I.hok
  exact ⟨its,r,p,z⟩
 ·refine ⟨its.toList,r,⟨o,I.kIn a o hk,hc,n,by simpa using hs⟩,?_⟩
  have e:=r.length;simp only [Array.length_toList] at e;lia
theorem Inv.list_inj (I:Inv X pins σ H s) (h:S9 X.K H a xs) (h':S9 X.K H a ys):xs=ys:=by
 obtain ⟨its,r,⟨o,n,e,_,_,d⟩,_⟩:=I.list h;obtain ⟨its',r',⟨o',n',e',_,_,d'⟩,_⟩:=I.list h';rw [e] at e';cases e';rw [d] at d';injection d' with d1 _
 have:its=its':=by simpa using congrArg Array.toList d1
 subst this;exact r.inj r'
theorem Inv.tuple_inj (I:Inv X pins σ H s) (h:Sz X.K H a xs) (h':Sz X.K H a ys):xs=ys:=by
 obtain ⟨its,r,⟨o,e,_,n,d⟩,_⟩:=I.tuple h;obtain ⟨its',r',⟨o',e',_,n',d'⟩,_⟩:=I.tuple h';rw [e] at e';cases e';rw [d] at d';injection d' with d1 _
 have:its=its':=by simpa using congrArg Array.toList d1
 subst this;exact r.inj r'
end
abbrev Cx.wish (X:Cx) (E:Value->Shared->Prop):Cx:={ X with xe:=E }
abbrev Cx.nox (X:Cx):Cx:=X.wish fun _ _=>False
theorem Cx.Ok.wish {X:Cx} (ok:X.Ok) (E:Value->Shared->Prop):(X.wish E).Ok :=
 ⟨ok.mod,ok.kind,ok.glob,ok.blt,ok.above,ok.inj,ok.has,ok.cab,ok.hd,ok.frames,ok.stk,ok.exf,ok.bs,ok.bsz,ok.noex,ok.exfs,ok.funs,ok.frf⟩
theorem Cx.Ok.unwish {X:Cx} {E:Value->Shared->Prop} (ok:(X.wish E).Ok):X.Ok :=
 ⟨ok.mod,ok.kind,ok.glob,ok.blt,ok.above,ok.inj,ok.has,ok.cab,ok.hd,ok.frames,ok.stk,ok.exf,ok.bs,ok.bsz,ok.noex,ok.exfs,ok.funs,ok.frf⟩
section
variable {X:Cx} {pins:List (Addr×Obj)} {σ:St} {H:Hp} {s:Shared} {E:Value->Shared->Prop}
theorem Inv.wish (I:Inv X pins σ H s) (E:Value->Shared->Prop):Inv (X.wish E) pins σ H s:=⟨I.ok.wish E,I.os,I.bare,I.base,I.loc,I.cell,I.free,I.freeC,I.pin,I.hok,I.len⟩
theorem Inv.unwish (I:Inv (X.wish E) pins σ H s):Inv X pins σ H s:=⟨I.ok.unwish,I.os,I.bare,I.base,I.loc,I.cell,I.free,I.freeC,I.pin,I.hok,I.len⟩
theorem SP.unwish {D:Ends} {f:Flow} {s':Shared} (h:SP (X.wish E) pins D f s'):SP X pins D f s':=by
 cases f with
 | next=>obtain ⟨σ',H',I,q⟩:=h;exact ⟨σ',H',I.unwish,q⟩
 | brk=>obtain ⟨σ',H',I,q⟩:=h;exact ⟨σ',H',I.unwish,q⟩
 | cont=>obtain ⟨σ',H',I,q⟩:=h;exact ⟨σ',H',I.unwish,q⟩
 | ret u=>obtain ⟨v,σ',H',I,r,q⟩:=h;exact ⟨v,σ',H',I.unwish,r,q⟩
theorem Sx.nox {st:List Stmt} {t:TS} (h:Sx X.nox st t):Sx X st t:=fun pins s σ H D I hw =>
 wpAny_mono (h pins s σ H D (I.wish _) hw) (fun _ _ q=>q.unwish) fun _ _ z=>False.elim z
end
section
variable {X:Cx} {st:Stmt} {rest:List Stmt} {t u:TS} {e:Expr} {te:TE} {pos:Pos}
def Zea:TS:=fun D σ H=>D.nx σ H
def Bx (t u:TS):TS:=fun D σ H=>t { D with nx:=u D } σ H
theorem Z80:Sx X [] Zea:=fun _ _ σ H _ I h=>wpAny_execs_nil ⟨σ,H,I,h⟩
theorem Mb (h1:PS X st t) (h2:Sx X rest u):Sx X (st::rest) (Bx t u):=by
 intro pins s σ H D I h;refine wpAny_execs_cons (Wt (h1 pins s σ H { D with nx:=u D } I h) fun f s1 q=>?_);cases f with
 | next =>
  obtain ⟨σ',H',I',q⟩:=q;exact h2 pins s1 σ' H' D I' q
 | ret v=>exact q
 | brk=>exact q
 | cont=>exact q
theorem G1 (h1:PS X st t):Sx X [st] t:=by
 intro pins s σ H D I h;refine wpAny_execs_cons (Wt (h1 pins s σ H D I h) fun f s1 q=>?_);cases f with
 | next=>exact wpAny_execs_nil q
 | ret v=>exact q
 | brk=>exact q
 | cont=>exact q
def Ze7:TS:=fun D σ H=>D.ct σ H
theorem Fa:PS X (.Continue pos) Ze7:=fun _ _ σ H _ I h=>wpAny_Continue ⟨σ,H,I,h⟩
theorem Inv.quiet {pins:List (Addr×Obj)} {σ:St} {H:Hp} {s:Shared} (I:Inv X pins σ H s):interactive X.env=false:=by simp [interactive,I.ok.kind]
def Z06 (te:TE):TS:=fun D σ H=>te σ H fun _ H1=>D.nx σ H1
theorem Mf (he:PE X e te) (hs:swapsWith e none pos.line X.env=pure false:=by rfl):PS X (.Expr e pos) (Z06 te):=by
 intro pins s σ H D I h;exact wpAny_Expr_any (Wt (he pins s σ H _ I h) fun v s1 ⟨x,H1,I1,r1,q1⟩=>⟨σ,H1,I1,q1⟩) I.quiet hs
def Zg6 (te:TE):TS:=fun D σ H=>te σ H D.rt
theorem P6 (he:PE X e te):PS X (.Return (some e) pos) (Zg6 te):=by
 intro pins s σ H D I h;exact wpAny_Return_some (Wt (he pins s σ H _ I h) fun v s1 ⟨x,H1,I1,r1,q1⟩=>⟨x,σ,H1,I1,r1,q1⟩)
def Zfx (c:TT) (t u:TS):TS:=fun D σ H=>c σ H fun b H1=>if b=true then t D σ H1 else u D σ H1
theorem Zdx {c:Expr} {a b:List Stmt} {tc:TT} (hc:PT X c tc) (ha:Sx X a t) (hb:Sx X b u):PS X (.If c a b pos) (Zfx tc t u):=by
 intro pins s σ H D I h;refine wpAny_If (Wt (hc pins s σ H _ I h) fun d s1 ⟨H1,I1,q1⟩=>?_);cases d with
 | true=>exact ha pins s1 σ H1 D I1 q1
 | false=>exact hb pins s1 σ H1 D I1 q1
end
abbrev TG:=V->St->Hp->(St->Hp->Prop)->Prop
abbrev TGs:=List V->St->Hp->(St->Hp->Prop)->Prop
def PG (X:Cx) (target:Expr) (t:TG):Prop :=
 ∀ (pins:List (Addr×Obj)) (s:Shared) (σ:St) (H:Hp) (v:V) (u:Value) (Q:St->Hp->Prop),Inv X pins σ H s->Yv v u->t v σ H Q ->
  wpAny (model X.prog X.w) X.A (assign target X.env u) (fun _ s'=>∃ σ' H',Inv X pins σ' H' s'/\Q σ' H') X.xe s
def PGs (X:Cx) (ts:List Expr) (t:TGs):Prop :=
 ∀ (pins:List (Addr×Obj)) (s:Shared) (σ:St) (H:Hp) (vs:List V) (us:List Value) (Q:St->Hp->Prop),Inv X pins σ H s->Y2 vs us->t vs σ H Q ->
  wpAny (model X.prog X.w) X.A (assignInOrder ((assignEach ts X.env).map (·.2)) us) (fun _ s'=>∃ σ' H',Inv X pins σ' H' s'/\Q σ' H') X.xe s
abbrev TIp:=V->V->Hp->VK->Prop
def PIp (X:Cx) (op:Operator) (t:TIp):Prop :=
 ∀ (pins:List (Addr×Obj)) (s:Shared) (σ:St) (H:Hp) (x y:V) (v u:Value) (Q:VK),Inv X pins σ H s->Yv x v->Yv y u->t x y H Q ->
  wpAny (model X.prog X.w) X.A (inplaceOp op v u) (EP X pins σ Q) X.xe s
section
variable {X:Cx} {pos:Pos}
def Z0c (i:Nat):TG:=fun v σ H Q=>Q (σ.set i (some v)) H
theorem Z7z {i:Nat} {x:Str} (hN:X.N.Nodup) (hi:X.N[i]?=some x) (hx:Cy X.env.scope x) (hf:X.fn x=true\/X.env.scope.names.lookup x=some .local:=by first | exact .inl rfl | exact .inr rfl | assumption):PG X (.Name x pos) (Z0c i):=by
 intro pins s σ H v u Q I r h;exact wpAny_assign_Name (Kf I hN hi hx r (fun s' I'=>⟨_,H,I',h⟩) hf)
def Zfq:TGs:=fun vs σ H Q=>vs=[]/\Q σ H
def Zcj (t:TG) (u:TGs):TGs:=fun vs σ H Q=>∃ v r,vs=v::r/\t v σ H fun σ' H'=>u r σ' H' Q
theorem Z7c:PGs X [] Zfq:=by
 intro pins s σ H vs us Q I r h;obtain ⟨e,h⟩:=h;subst e;cases r;exact assignInOrder_nil ⟨σ,H,I,h⟩
theorem Z4e {e:Expr} {es:List Expr} {t:TG} {u:TGs} (h1:PG X e t) (h2:PGs X es u)
  (hs:(assignEach (e::es) X.env).map (·.2)=assign e X.env::(assignEach es X.env).map (·.2):=by rfl):PGs X (e::es) (Zcj t u):=by
 intro pins s σ H vs us Q I r h;obtain ⟨v,vr,e1,h⟩:=h;subst e1;cases r with
 | cons r rr =>
  rw [hs];refine assignInOrder_cons (Wt (h1 pins s σ H _ _ _ I r h) fun _ s1 ⟨σ1,H1,I1,q1⟩=>?_);exact h2 pins s1 σ1 H1 _ _ Q I1 rr q1
def Zdy (K:PySem.W.Frag) (n:Nat) (t:TGs):TG:=fun v σ H Q=>∃ a xs,v=.ref a/\Sz K H a xs/\xs.length=n/\t xs σ H Q
theorem Zam {es:List Expr} {k:Nat} {t:TGs} {n:Nat} (hc:X.calm=true) (h:PGs X es t)
  (hn:(assignEach es X.env).length=n:=by rfl) (hst:(assignEach es X.env).findIdx? (·.1)=none:=by rfl):PG X (.Tuple es k pos) (Zdy X.K n t):=by
 intro pins s σ H v u Q I r hw;obtain ⟨a,xs,e1,hq,hl,hw⟩:=hw;subst e1;cases r;obtain ⟨its,rv,ht,hz⟩:=I.tuple hq;refine assign_Tuple_tuple (I.ok.hd hc) ht (by simp [hn,← hl,rv.length]) hst fun h' hx=>?_
 have I1:Inv X pins σ H { s with heap:=h' }:=I.kept (t':=s.toks) fun b o e=>hx b o (ne_of_lt (lt_size e)) e
 exact h pins _ σ H xs _ Q I1 (by simpa using rv) hw
def Z9r (te:TE) (g:TG):TS:=fun D σ H=>te σ H fun x H1=>g x σ H1 D.nx
theorem Zc2 {tg e:Expr} {te:TE} {g:TG} (he:PE X e te) (hg:PG X tg g) (hs:swapsWithSole [tg] e pos.line X.env=pure false:=by rfl) (hw:swappedStores [tg] e X.env=pure none:=by rfl)
  (h1:(assignEach [tg] X.env).map (·.2)=[assign tg X.env]:=by rfl):PS X (.Assign [tg] e pos) (Z9r te g):=by
 intro pins s σ H D I h;refine wpAny_Assign_stores (Wt (he pins s σ H _ I h) fun v s1 ⟨x,H1,I1,r1,q1⟩=>?_) hs hw;rw [h1];exact Wt (hg pins s1 σ H1 x v _ I1 r1 q1) fun _ s2 q=>q
theorem Ow {i:Nat} {x:Str} {e:Expr} {te:TE} {pos':Pos} (hN:X.N.Nodup) (hi:X.N[i]?=some x) (hx:Cy X.env.scope x) (he:PE X e te) (hs:swapsWith e (some (.Name x pos')) pos.line X.env=pure false:=by rfl) (hf:X.fn x=true\/X.env.scope.names.lookup x=some .local:=by first | exact .inl rfl | exact .inr rfl | assumption) :
  PS X (.Assign [.Name x pos'] e pos) (Z9r te (Z0c i)):=by
 intro pins s σ H D I h;refine wpAny_Assign_Name (Wt (he pins s σ H _ I h) fun v s1 ⟨y,H1,I1,r1,q1⟩=>?_) hs;exact Kf I1 hN hi hx r1 (fun s2 I2=>⟨_,H1,I2,q1⟩) hf
def Zfb (i:Nat) (te:TE) (ti:TIp):TS:=fun D σ H=>∃ x,σ[i]?=some (some x)/\te σ H fun y H1=>ti x y H1 fun z H2=>D.nx (σ.set i (some z)) H2
theorem Z9c {i:Nat} {x:Str} {e:Expr} {te:TE} {op:Operator} {ti:TIp} {pos':Pos} (hN:X.N.Nodup) (hi:X.N[i]?=some x) (hx:Cy X.env.scope x) (he:PE X e te) (ho:PIp X op ti) (hf:X.fn x=true\/X.env.scope.names.lookup x=some .local:=by first | exact .inl rfl | exact .inr rfl | assumption) :
  PS X (.AugAssign (.Name x pos') op e pos) (Zfb i te ti):=by
 intro pins s σ H D I h;obtain ⟨v,e1,h⟩:=h;obtain ⟨m,hn,hl⟩:=I.loc;have vis:Vis X.env.scope x:=by rcases hx with k | k;exact .inl k;exact .inr (.inl k)
 obtain ⟨u,r,l⟩:=hl i x v hi e1 vis;refine wpAny_AugAssign_Name ?_;have go:wpAny (model X.prog X.w) X.A (eval e X.env) (fun w s₂=>wpAny (model X.prog X.w) X.A (inplaceOp op u w) (fun r s₃=>wpAny (model X.prog X.w) X.A (storeName X.env x r) (fun _=>SP X pins D .next) X.xe s₃) X.xe s₂) X.xe s:=by
  refine Wt (he pins s σ H _ I h) fun w s1 ⟨y,H1,I1,r1,q1⟩=>?_
  refine Wt (ho pins s1 σ H1 v y u w _ I1 r r1 q1) fun z s2 ⟨zv,H2,I2,r2,q2⟩=>?_
  exact Kf I2 hN hi hx r2 (fun s3 I3=>⟨_,H2,I3,q2⟩) hf
 rcases l with ⟨hk,hm⟩ | ⟨hk,c,hc,hcell⟩
 ·exact wpAny_loadName_local I.ok.kind hk hn hm go
 ·rcases hk with hk | hk
  ·exact wpAny_loadName_cell I.ok.kind hk hc hcell go
  ·rcases hx with k | k
   ·have:X.env.scope.names.lookup x=some .free:=hk
    rw [k] at this;cases this
   ·have:X.env.scope.names.lookup x=some .free:=hk
    rw [k] at this;cases this
def ipI (f:Int->Int->Int):TIp:=fun x y H Q=>∃ i j,x=.int i/\y=.int j/\Q (.int (f i j)) H
theorem Z9i:PIp X .Add (ipI fun i j=>i+j):=by
 intro pins s σ H x y v u Q I r1 r2 h;obtain ⟨i,j,e1,e2,q⟩:=h;subst e1;subst e2;obtain ⟨t,rfl⟩:=r1;obtain ⟨t',rfl⟩:=r2;exact iadd_int ⟨.int _,H,I.tok _,⟨_,rfl⟩,q⟩
def Zc7 (c:TT) (tb:TS):TS:=fun D σ H=>∃ W:Nat->St->Hp->Prop,(∃ m,W m σ H)/\∀ m σ H,W m σ H ->
 c σ H fun b H1=>if b=true then ∃ N:St->Hp->Prop,(∀ σ' H',N σ' H'->∃ m',m'<m/\W m' σ' H')/\tb { D with nx:=N,ct:=N,bk:=D.nx } σ H1 else D.nx σ H1
theorem Z39 {c:Expr} {body:List Stmt} {tc:TT} {tb:TS} (hp:PassesOwn (model X.prog X.w) X.A X.env X.xe) (hc:PT X c tc) (hb:Sx X body tb):PS X (.While c body [] pos) (Zc7 tc tb):=by
 intro pins s σ H D I h;obtain ⟨W,⟨m0,w0⟩,turn⟩:=h;refine wpAny_While (codeAny_whileLoop (fun n s'=>∃ σ' H',Inv X pins σ' H' s'/\W n σ' H') ?_ m0 ⟨σ,H,I,w0⟩);rintro n s1 ⟨σ1,H1,I1,w1⟩;refine wpAny_passesOwn hp (Wt (hc pins s1 σ1 H1 _ I1 (turn n σ1 H1 w1)) fun b s2 ⟨H2,I2,q2⟩=>?_);cases b with
 | true =>
  obtain ⟨N,hN,q2⟩:=q2;rw [if_pos rfl];refine wpAny_passesOwn hp (Wt (hb pins s2 σ1 H2 _ I2 q2) fun f s3 q3=>?_);cases f with
  | next =>
   obtain ⟨σ3,H3,I3,n3⟩:=q3;obtain ⟨m',hm,w3⟩:=hN σ3 H3 n3;exact ⟨m',hm,σ3,H3,I3,w3⟩
  | cont =>
   obtain ⟨σ3,H3,I3,n3⟩:=q3;obtain ⟨m',hm,w3⟩:=hN σ3 H3 n3;exact ⟨m',hm,σ3,H3,I3,w3⟩
  | brk=>exact q3
  | ret v=>exact q3
 | false =>
  rw [if_neg Bool.false_ne_true];exact wpAny_execs_nil ⟨σ1,H2,I2,q2⟩
end
structure It where
 go:Nat->Hp->Prop
 yld:Nat->Hp->V->Hp->Prop
 stop:Nat->Hp->Prop
def D8 (X:Cx) (pins:List (Addr×Obj)) (H:Hp) (b:Addr):Prop :=
 H b=none/\b≠X.env.locals/\b∉X.fs/\(b∈X.ex\/X.s₀.heap.objs.size<=b)/\(∀ x c,X.env.cells.lookup x=some c->c≠b)/\∀ p∈X.pn++pins,p.1≠b
theorem Inv.fpOk {X:Cx} {pins:List (Addr×Obj)} {σ:St} {H H':Hp} {s:Shared} {b:Addr} (I:Inv X pins σ H s) (hb:s.heap.objs.size<=b) (hn:H' b=none):D8 X pins H' b:=by
 refine ⟨hn,Nat.ne_of_gt (lt_of_lt_of_le I.lt hb),I.nofs hb,.inr (le_trans I.sz hb),fun x c e z=>?_,fun p hp z=>?_⟩
 ·obtain ⟨v,q⟩:=I.cell x c e
  exact absurd (lt_of_lt_of_le q.lt (by rw [z];exact hb)) (lt_irrefl _)
 ·exact absurd (lt_of_lt_of_le (lt_size (I.pin p hp).1) (by rw [z];exact hb)) (lt_irrefl _)
structure Turn (P:Program) (w:World) (K:PySem.W.Frag) (tg:Expr) (J:It) (fp:List Addr) (it:Addr) (tn:Nat->Heap->Prop):Prop where
 mem:it∈fp
 obj:∀ i h,tn i h->∀ b∈fp,∃ o,h.get? b=some o/\∀ v,o.data≠.cell v
 keep:∀ i h h',tn i h->(∀ b∈fp,∀ o,h.get? b=some o->h'.get? b=some o)->tn i h'
 item:∀ (X:Cx),X.prog=P->X.w=w->X.K=K->X.calm=true->∀ (i:Nat) (pins:List (Addr×Obj)) (s:Shared) (σ:St) (H:Hp) (E:Value->Shared->Prop),Inv X pins σ H s->(∀ b∈fp,D8 X pins H b)->tn i s.heap->J.go i H ->
  wpAny (model P w) X.A (pyNext (.ref it)) (fun r s1=>∃ u,r=some u /\
   wpAny (model P w) X.A (letOwnedTupleGo tg (.ref it) u) (fun _ s2=>∃ x H',Inv X pins σ H' s2/\Yv x u/\J.yld i H x H'/\tn (i+1) s2.heap/\∀ b∈fp,H' b=none) E s1) E s
 done:∀ (X:Cx),X.prog=P->X.w=w->X.K=K->X.calm=true->∀ (i:Nat) (pins:List (Addr×Obj)) (s:Shared) (σ:St) (H:Hp) (E:Value->Shared->Prop),Inv X pins σ H s->(∀ b∈fp,D8 X pins H b)->tn i s.heap->J.stop i H ->
  wpAny (model P w) X.A (pyNext (.ref it)) (fun r s1=>r=none/\Inv X pins σ H s1) E s
 self:∀ (A:Around) (i:Nat) (s:Shared) (Q:Value->Shared->Prop) (E:Value->Shared->Prop),tn i s.heap->Q (.ref it) s->wpAny (model P w) A (pyIter (.ref it)) Q E s
abbrev TI:=St->Hp->(It->Hp->Prop)->Prop
def PIE (X:Cx) (pins:List (Addr×Obj)) (σ:St) (tg:Expr) (R:It->Hp->Prop) (itv:Value) (s2:Shared):Prop :=
 ∃ (it:Addr) (fp:List Addr) (tn:Nat->Heap->Prop) (J:It) (H':Hp),itv=.ref it/\Inv X pins σ H' s2/\Turn X.prog X.w X.K tg J fp it tn/\tn 0 s2.heap/\(∀ b∈fp,D8 X pins H' b)/\R J H'
def PI (X:Cx) (tg iter:Expr) (wi:TI):Prop :=
 ∀ (pins:List (Addr×Obj)) (s:Shared) (σ:St) (H:Hp) (R:It->Hp->Prop),Inv X pins σ H s->wi σ H R ->
  wpAny (model X.prog X.w) X.A (eval iter X.env) (fun v s1=>wpAny (model X.prog X.w) X.A (pyIter v) (PIE X pins σ tg R) X.xe s1) X.xe s
theorem Z5l {M:Model} {A:Around} {E:Value->Shared->Prop} {s:Shared} {tg:Expr} {it:Addr} {u:Value} {o:Obj} {n:String} {vs:Array Value} {Q:Unit->Shared->Prop} (ho:s.heap.get? it=some o) (hc:o.cls=.type n) (hd:o.data=.fields vs)
   (hn:["enumerate","zip","dict_itemiterator","dict_reverseitemiterator","odict_iterator","itertools.zip_longest","itertools.pairwise"].contains n=false) (hQ:Q () s):wpAny M A (letOwnedTupleGo tg (.ref it) u) Q E s:=by
 unfold letOwnedTupleGo;cases tg<;>first
   | exact wpAny_pure hQ
   | (cases u<;>first
       | exact wpAny_pure hQ
       | (refine wpAny_bind (wpAny_load ho ?_)
          rw [hc,hd];show wpAny M A (if (["enumerate","zip","dict_itemiterator","dict_reverseitemiterator","odict_iterator","itertools.zip_longest","itertools.pairwise"].contains n&&vs[0]?==some (rawInt _))=true then _ else _) Q E s;rw [if_neg (by intro h;rw [hn,Bool.false_and] at h;cases h)];exact wpAny_pure hQ))
def Itl (K:PySem.W.Frag) (a:Addr):It :=
 ⟨fun i H=>∃ xs x,S9 K H a xs/\xs[i]?=some x,fun i H x H'=>H'=H/\∀ xs,S9 K H a xs->xs[i]?=some x,fun i H=>∃ xs,S9 K H a xs/\xs.length<=i⟩
def Itt (K:PySem.W.Frag) (a:Addr):It :=
 ⟨fun i H=>∃ xs x,Sz K H a xs/\xs[i]?=some x,fun i H x H'=>H'=H/\∀ xs,Sz K H a xs->xs[i]?=some x,fun i H=>∃ xs,Sz K H a xs/\xs.length<=i⟩
def Itr (lo:Int) (n:Nat):It:=⟨fun i _=>i<n,fun i H x H'=>H'=H/\x=.int (lo+i),fun i _=>n<=i⟩
theorem Z20 {P:Program} {w:World} {K:PySem.W.Frag} {tg:Expr} (a it:Addr):Turn P w K tg (Itl K a) [it] it (fun i h=>h.IsListIter it a i) where
 mem:=by simp
 obj:=fun i h st b hb=>by
  have e:b=it:=by simpa using hb
  subst e;obtain ⟨o,e,c,d⟩:=st;exact ⟨o,e,fun v z=>by rw [d] at z;cases z⟩
 keep:=fun i h h' st k=>st.at fun o e=>k it (by simp) o e
 item:=by
  intro X hP hw hK hc i pins s σ H E I hf st hg;subst hP hw hK;obtain ⟨xs,x,hq,hx⟩:=hg;obtain ⟨its,rv,p,hz⟩:=I.list hq;obtain ⟨u,hu,ru⟩:=rv.get hx;obtain ⟨f0,f1,f2,f3,f4,f5⟩:=hf it (by simp);refine wpAny_pyNext_list_item st p.isList (x:=u) (by simpa using hu) fun h' st' sb=>?_
  have I1:Inv X pins σ H { s with heap:=h' }:=I.turned (t':=s.toks) (fun b o hb e=>(sb.2 b hb).trans e) f0 f1 f3 f4 f5;obtain ⟨o,e,c,d⟩:=id st';exact ⟨u,rfl,Z5l (s:={ s with heap:=h' }) e c d (by decide) ⟨x,H,I1,ru,⟨rfl,fun ys hy=>by rw [I.list_inj hy hq];exact hx⟩,st',fun b hb=>(hf b hb).1⟩⟩
 done:=by
  intro X hP hw hK hc i pins s σ H E I hf st hg;subst hP hw hK;obtain ⟨xs,hq,hx⟩:=hg;obtain ⟨its,rv,p,hz⟩:=I.list hq;obtain ⟨f0,f1,f2,f3,f4,f5⟩:=hf it (by simp);have hl:=rv.length;exact wpAny_pyNext_list_end (I.ok.hd hc) st p.isList (by simp;lia) fun h' eb=>⟨rfl,I.turned (t':=s.toks) (fun b o hb e=>eb b o hb e) f0 f1 f3 f4 f5⟩
 self:=fun _ _ _ _ _ st h=>wpAny_pyIter_listiter st h
theorem Bl {P:Program} {w:World} {K:PySem.W.Frag} {tg:Expr} (a it:Addr):Turn P w K tg (Itt K a) [it] it (fun i h=>h.IsTupleIter it a i) where
 mem:=by simp
 obj:=fun i h st b hb=>by
  have e:b=it:=by simpa using hb
  subst e;obtain ⟨o,e,c,d⟩:=st;exact ⟨o,e,fun v z=>by rw [d] at z;cases z⟩
 keep:=fun i h h' st k=>st.at fun o e=>k it (by simp) o e
 item:=by
  intro X hP hw hK hc i pins s σ H E I hf st hg;subst hP hw hK;obtain ⟨xs,x,hq,hx⟩:=hg;obtain ⟨its,rv,p,hz⟩:=I.tuple hq;obtain ⟨u,hu,ru⟩:=rv.get hx;obtain ⟨f0,f1,f2,f3,f4,f5⟩:=hf it (by simp);refine wpAny_pyNext_tuple_item st (show s.heap.IsTuple a its.toArray from p) (x:=u) (by simpa using hu) fun h' st' sb=>?_
  have I1:Inv X pins σ H { s with heap:=h' }:=I.turned (t':=s.toks) (fun b o hb e=>(sb.2 b hb).trans e) f0 f1 f3 f4 f5;obtain ⟨o,e,c,d⟩:=id st';exact ⟨u,rfl,Z5l (s:={ s with heap:=h' }) e c d (by decide) ⟨x,H,I1,ru,⟨rfl,fun ys hy=>by rw [I.tuple_inj hy hq];exact hx⟩,st',fun b hb=>(hf b hb).1⟩⟩
 done:=by
  intro X hP hw hK hc i pins s σ H E I hf st hg;subst hP hw hK;obtain ⟨xs,hq,hx⟩:=hg;obtain ⟨its,rv,p,hz⟩:=I.tuple hq;obtain ⟨f0,f1,f2,f3,f4,f5⟩:=hf it (by simp);have hl:=rv.length;exact wpAny_pyNext_tuple_end (I.ok.hd hc) st (show s.heap.IsTuple a its.toArray from p) (by simp;lia) fun h' eb=>⟨rfl,I.turned (t':=s.toks) (fun b o hb e=>eb b o hb e) f0 f1 f3 f4 f5⟩
 self:=fun _ _ _ _ _ st h=>wpAny_pyIter_tupleiter st h
theorem Bo {P:Program} {w:World} {K:PySem.W.Frag} {tg:Expr} (it:Addr) (lo:Int) (n:Nat):Turn P w K tg (Itr lo n) [it] it (fun i h=>IsRangeIter h it (lo+(i:Nat)*1) ((n:Int) - (i:Nat)) 1) where
 mem:=by simp
 obj:=fun i h st b hb=>by
  have e:b=it:=by simpa using hb
  subst e;exact ⟨_,st,fun v z=>by
   have z':Data.fields _=Data.cell v:=z;cases z'⟩
 keep:=fun i h h' st k=>k it (by simp) _ st
 item:=by
  intro X hP hw hK hc i pins s σ H E I hf st hg;subst hP hw hK;obtain ⟨f0,f1,f2,f3,f4,f5⟩:=hf it (by simp);have W:=Walks.range (prog:=X.prog) (w:=X.w) (I.ok.hd hc) it lo 1 n;refine W.item i s _ _ hg st fun v h' tk hv st' kk=>?_
  obtain ⟨t,rfl⟩:=hv;have I1:Inv X pins σ H { s with heap:=h',toks:=tk }:=I.turned (fun b o hb e=>kk b o (by simpa using hb) e) f0 f1 f3 f4 f5;refine ⟨_,rfl,Z5l (s:={ s with heap:=h',toks:=tk }) (n:="range_iterator") st' rfl rfl (by decide) ⟨.int (lo+i),H,I1,⟨t,?_⟩,⟨rfl,rfl⟩,st',fun b hb=>(hf b hb).1⟩⟩;rw [Int.mul_one]
 done:=by
  intro X hP hw hK hc i pins s σ H E I hf st hg;subst hP hw hK;obtain ⟨f0,f1,f2,f3,f4,f5⟩:=hf it (by simp);exact wpAny_pyNext_range_end (I.ok.hd hc) st (by have:n<=i:=hg;lia) fun h' eb=>⟨rfl,I.turned (t':=s.toks) (fun b o hb e=>eb b o hb e) f0 f1 f3 f4 f5⟩
 self:=fun _ _ _ _ _ st h=>wpAny_pyIter_rangeiter st h
section
variable {X:Cx} {tg:Expr}
def Z90 (K:PySem.W.Frag) (tl:TE):TI:=fun σ H R=>tl σ H fun x H1=>∃ a,x=.ref a/\(∃ xs,S9 K H1 a xs)/\R (Itl K a) H1
def Ze2 (K:PySem.W.Frag) (tl:TE):TI:=fun σ H R=>tl σ H fun x H1=>∃ a,x=.ref a/\(∃ xs,Sz K H1 a xs)/\R (Itt K a) H1
theorem Z7u {l:Expr} {tl:TE} (hl:PE X l tl):PI X tg l (Z90 X.K tl):=by
 intro pins s σ H R I h;refine Wt (hl pins s σ H _ I h) fun v s1 ⟨x,H1,I1,r1,q1⟩=>?_
 obtain ⟨a,e,⟨xs,hq⟩,q⟩:=q1;subst e;cases r1;obtain ⟨its,rv,p,hz⟩:=I1.list hq;refine wpAny_pyIter_list p.isList ?_;refine ⟨s1.heap.objs.size,[s1.heap.objs.size],_,_,H1,rfl,I1.kept (t':=s1.toks) fun b o e=>get?_push_of_some _ e,Z20 a _,⟨_,get?_push_size _ rfl,rfl,rfl⟩,fun b hb=>?_,q⟩;have e:b=s1.heap.objs.size:=by simpa using hb
 subst e;exact I1.fpOk (le_refl _) (I1.hok.fresh (le_refl _))
theorem Zar {l:Expr} {tl:TE} (hl:PE X l tl):PI X tg l (Ze2 X.K tl):=by
 intro pins s σ H R I h;refine Wt (hl pins s σ H _ I h) fun v s1 ⟨x,H1,I1,r1,q1⟩=>?_
 obtain ⟨a,e,⟨xs,hq⟩,q⟩:=q1;subst e;cases r1;obtain ⟨its,rv,p,hz⟩:=I1.tuple hq;refine wpAny_pyIter_tuple (show s1.heap.IsTuple a its.toArray from p) ?_;refine ⟨s1.heap.objs.size,[s1.heap.objs.size],_,_,H1,rfl,I1.kept (t':=s1.toks) fun b o e=>get?_push_of_some _ e,Bl a _,⟨_,get?_push_size _ rfl,rfl,rfl⟩,fun b hb=>?_,q⟩;have e:b=s1.heap.objs.size:=by simpa using hb
 subst e;exact I1.fpOk (le_refl _) (I1.hok.fresh (le_refl _))
theorem Ac {pins:List (Addr×Obj)} {σ:St} {H:Hp} {s:Shared} {R:It->Hp->Prop} {E:Value->Shared->Prop} {lo hi:Int} {t u v:Tok} {tk:Nat} (I:Inv X pins σ H s) (h1 : -(2^62)<=lo) (h2:lo<2^62) (h3 : -(2^62)<=hi) (h4:hi<2^62)
  (q:R (Itr lo (hi - lo).toNat) H):wpAny (model X.prog X.w) X.A (pyIter (.ref s.heap.objs.size)) (PIE X pins σ tg R) E { s with heap:=s.heap.push { cls:=.type "range",data:=.fields #[.int lo t,.int hi u,.int 1 v] },toks:=tk }:=by
 refine wpAny_pyIter_range (IsRange.new ..) (small_one h1 h2 h3 h4) ?_;have I1:Inv X pins σ H { s with heap:=s.heap.push { cls:=.type "range",data:=.fields #[.int lo t,.int hi u,.int 1 v] },toks:=tk }:=I.kept fun b o e=>get?_push_of_some _ e
 refine ⟨(s.heap.push { cls:=.type "range",data:=.fields #[.int lo t,.int hi u,.int 1 v] }).objs.size,[(s.heap.push { cls:=.type "range",data:=.fields #[.int lo t,.int hi u,.int 1 v] }).objs.size],_,_,H,rfl,
  I1.kept (t':=tk) fun b o e=>get?_push_of_some _ e,Bo _ lo (hi - lo).toNat,?_,fun b hb=>?_,q⟩
 ·have e1:lo+((0:Nat):Int)*1=lo:=by simp
  have e2:(((hi - lo).toNat:Nat):Int) - ((0:Nat):Int)=Builtin.Range.rangeSize lo hi 1:=by rw [rangeSize_one];split<;>lia
  show IsRangeIter _ _ (lo+((0:Nat):Int)*1) ((((hi - lo).toNat:Nat):Int) - ((0:Nat):Int)) 1;rw [e1,e2];exact get?_push_size _ rfl
 ·have e:b=(s.heap.push { cls:=.type "range",data:=.fields #[.int lo t,.int hi u,.int 1 v] }).objs.size:=by simpa using hb
  subst e;exact I1.fpOk (le_refl _) (I1.hok.fresh (le_refl _))
def Zcy (ta:TA):TI:=fun σ H R=>ta σ H fun vs H1=>∃ j:Int,vs=[.int j]/\-(2^62)<=j/\j<2^62/\R (Itr 0 j.toNat) H1
def Zdp (ta:TA):TI:=fun σ H R=>ta σ H fun vs H1=>∃ i j:Int,vs=[.int i,.int j]/\(-(2^62)<=i/\i<2^62/\-(2^62)<=j/\j<2^62)/\R (Itr i (j - i).toNat) H1
theorem Z1e {a:Expr} {ta:TA} {p pos:Pos} (hg:Gl X "range") (hm:X.mg "range" = none) (ha:PA X [a] ta) (hs:starEach [a] X.env=[(false,eval a X.env)]:=by rfl):PI X tg (.Call (.Name "range" p) [a] [] pos) (Zcy ta):=by
 intro pins s σ H R I h;refine Call_ (R1 I hg hm boot_range (PyProof.Rows.callWith_type1 (Wt (ha pos pins s σ H _ I h) fun us s1 ⟨vs,H1,I1,r1,q1⟩=>?_) hs rfl));obtain ⟨j,e,q1,q2,q⟩:=q1;subst e;cases r1 with
 | cons r rr =>
  cases rr;obtain ⟨t,rfl⟩:=r;exact call_range_1 (Ac I1 (by lia) (by lia) q1 q2 (by simpa using q))
theorem Z1w {a b:Expr} {ta:TA} {p pos:Pos} (hg:Gl X "range") (hm:X.mg "range" = none) (ha:PA X [a,b] ta) (hs:starEach [a,b] X.env=[(false,eval a X.env),(false,eval b X.env)]:=by rfl) (hs2:starEach [b] X.env=[(false,eval b X.env)]:=by rfl) :
  PI X tg (.Call (.Name "range" p) [a,b] [] pos) (Zdp ta):=by
 intro pins s σ H R I h;refine Call_ (R1 I hg hm boot_range (PyProof.Rows.callWith_type1 (Wt (ha pos pins s σ H _ I h) fun us s1 ⟨vs,H1,I1,r1,q1⟩=>?_) (by rw [hs,hs2]) (by rw [hs2];rfl)));obtain ⟨i,j,e,⟨q1,q2,q3,q4⟩,q⟩:=q1;subst e;cases r1 with
 | cons r rr =>
  cases rr with
  | cons r' rr =>
   cases rr;obtain ⟨t,rfl⟩:=r;obtain ⟨t',rfl⟩:=r';exact call_range_2 (Ac I1 q1 q2 q3 q4 q)
def Zgf (wi:TI) (g:TG) (tb:TS):TS:=fun D σ H=>wi σ H fun J H1=>∃ W:Nat->Nat->St->Hp->Prop,(∃ m,W 0 m σ H1)/\∀ i m σ H,W i m σ H ->
 (J.stop i H/\D.nx σ H)\/(J.go i H/\∃ N:St->Hp->Prop,(∀ σ' H',N σ' H'->∃ m',m'<m/\W (i+1) m' σ' H')/\∀ x H',J.yld i H x H'->g x σ H' fun σ2 H2=>tb { D with nx:=N,ct:=N,bk:=D.nx } σ2 H2)
def L9 (fp:List Addr) (h:Heap):List (Addr×Obj):=fp.filterMap fun b=>(h.get? b).map fun o=>(b,o)
theorem Ml {fp:List Addr} {h:Heap} {b:Addr} {o:Obj} (hb:b∈fp) (e:h.get? b=some o):(b,o)∈L9 fp h:=List.mem_filterMap.mpr ⟨b,hb,by rw [e];rfl⟩
theorem Z2h {fp:List Addr} {h:Heap} {p:Addr×Obj} (hp:p∈L9 fp h):p.1∈fp/\h.get? p.1=some p.2:=by
 obtain ⟨b,hb,e⟩:=List.mem_filterMap.mp hp;cases q:h.get? b with
 | none=>rw [q] at e;cases e
 | some o =>
  rw [q] at e;have e':(b,o)=p:=Option.some.inj e;subst e';exact ⟨hb,q⟩
theorem Inv.pinned {pins:List (Addr×Obj)} {σ:St} {H:Hp} {s:Shared} {fp:List Addr} (I:Inv X pins σ H s) (hf:∀ b∈fp,D8 X pins H b) (ho:∀ b∈fp,∃ o,s.heap.get? b=some o/\∀ v,o.data≠.cell v):Inv X (pins++L9 fp s.heap) σ H s :=
 I.pins_of fun p hp=>(mem_append.mp hp).elim (fun z=>I.pin p (mem_append_right _ z)) fun z=>by
  obtain ⟨hb,e⟩:=Z2h z;obtain ⟨f0,f1,f2,_⟩:=hf p.1 hb;obtain ⟨o,e',d⟩:=ho p.1 hb;rw [e] at e';cases e';exact ⟨e,f0,f1,f2,d⟩
theorem Inv.unpinned {pins pl:List (Addr×Obj)} {σ:St} {H:Hp} {s:Shared} (I:Inv X (pins++pl) σ H s):Inv X pins σ H s:=I.pins_of fun p hp=>I.pin p (mem_append_right _ (mem_append_left _ hp))
theorem Zaq {iter:Expr} {body:List Stmt} {wi:TI} {g:TG} {tb:TS} {pos:Pos} (hp:PassesOwn (model X.prog X.w) X.A X.env X.xe) (hc:X.calm=true) (hi:PI X tg iter wi) (hg:PG X tg g) (hb:Sx X body tb)
  (hs:∀ x,foldedSetIterable iter X.env x=pure x:=by intro _;rfl):PS X (.For tg iter body [] pos) (Zgf wi g tb):=by
 intro pins s σ H D I h;refine wpAny_For (Wt (hi pins s σ H _ I h) fun v s1 h1=>Wt h1 fun itv s2 h2=>?_) hs;obtain ⟨it,fp,tn,J,H2,e,I2,T,st2,f2,W,⟨m0,w0⟩,turn⟩:=h2;subst e
 -- what stays true of the iterator's objects through the loop
 have stat:∀ {H':Hp},(∀ b∈fp,H' b=none)->∀ b∈fp,D8 X pins H' b:=fun hn b hb=>⟨hn b hb,(f2 b hb).2⟩
 refine codeAny_forLoop_any (fun n s'=>∃ i σ' H',Inv X pins σ' H' s'/\tn i s'.heap/\(∀ b∈fp,H' b=none)/\W i n σ' H') ?_ m0 ⟨0,σ,H2,I2,st2,fun b hb=>(f2 b hb).1,w0⟩;rintro n s3 ⟨i,σ3,H3,I3,st3,fr3,w3⟩;rcases turn i n σ3 H3 w3 with ⟨stop,qn⟩ | ⟨go,N,hN,step⟩
 ·refine wpAny_passesOwn hp (Wt (T.done X rfl rfl rfl hc i pins s3 σ3 H3 X.xe I3 (stat fr3) st3 stop) fun r s4 ⟨hr,I4⟩=>?_)
  subst hr;exact wpAny_execs_nil ⟨σ3,H3,I4,qn⟩
 ·refine wpAny_passesOwn hp (Wt (T.item X rfl rfl rfl hc i pins s3 σ3 H3 X.xe I3 (stat fr3) st3 go) fun r s4 ⟨u,hr,h4⟩=>?_)
  subst hr;refine wpAny_passesOwn hp (Wt h4 fun _ s5 ⟨x,H5,I5,r5,y5,st5,fr5⟩=>?_);have I5':=I5.pinned (stat fr5) (T.obj _ _ st5);refine wpAny_passesOwn hp (Wt (hg _ s5 σ3 H5 x u _ I5' r5 (step x H5 y5)) fun _ s6 ⟨σ6,H6,I6,q6⟩=>?_);refine wpAny_passesOwn hp (Wt (hb _ s6 σ6 H6 _ I6 q6) fun f s7 q7=>?_);have again:∀ {σ7:St} {H7:Hp},Inv X (pins++L9 fp s5.heap) σ7 H7 s7->N σ7 H7->∃ m,m<n/\∃ i σ' H',Inv X pins σ' H' s7/\tn i s7.heap/\(∀ b∈fp,H' b=none)/\W i m σ' H':=fun {σ7 H7} I7 n7=>by
   obtain ⟨m',hm,w7⟩:=hN σ7 H7 n7;refine ⟨m',hm,i+1,σ7,H7,I7.unpinned,T.keep _ _ _ st5 fun b hb o e=>(I7.pin (b,o) (mem_append_right _ (mem_append_right _ (Ml hb e)))).1,fun b hb=>?_,w7⟩;obtain ⟨o,e,d⟩:=T.obj _ _ st5 b hb;exact (I7.pin (b,o) (mem_append_right _ (mem_append_right _ (Ml hb e)))).2.1
  cases f with
  | next=>obtain ⟨σ7,H7,I7,n7⟩:=q7;exact again I7 n7
  | cont=>obtain ⟨σ7,H7,I7,n7⟩:=q7;exact again I7 n7
  | brk=>obtain ⟨σ7,H7,I7,q7⟩:=q7;exact ⟨σ7,H7,I7.unpinned,q7⟩
  | ret v=>obtain ⟨x7,σ7,H7,I7,r7,q7⟩:=q7;exact ⟨x7,σ7,H7,I7.unpinned,r7,q7⟩
end
abbrev R2:=V->V->Hp->VK->Prop
def Rf (X:Cx) (f:Value->Value->Sem Value) (r:R2):Prop :=
 ∀ (pins:List (Addr×Obj)) (s:Shared) (σ:St) (H:Hp) (x y:V) (v u:Value) (Q:VK),Inv X pins σ H s->Yv x v->Yv y u->r x y H Q ->
  wpAny (model X.prog X.w) X.A (f v u) (EP X pins σ Q) X.xe s
def UnR (X:Cx) (f:Value->Sem Value) (r:V->Hp->VK->Prop):Prop :=
 ∀ (pins:List (Addr×Obj)) (s:Shared) (σ:St) (H:Hp) (x:V) (v:Value) (Q:VK),Inv X pins σ H s->Yv x v->r x H Q ->
  wpAny (model X.prog X.w) X.A (f v) (EP X pins σ Q) X.xe s
def V5 (X:Cx) (f:Value) (r:List V->Hp->VK->Prop):Prop :=
 ∀ (pins:List (Addr×Obj)) (s:Shared) (σ:St) (H:Hp) (xs:List V) (us:List Value) (Q:VK),Inv X pins σ H s->Y2 xs us->r xs H Q ->
  wpAny (model X.prog X.w) X.A (call f us) (EP X pins σ Q) X.xe s
def Zfh (X:Cx) (r:V->Hp->(Bool->Hp->Prop)->Prop):Prop :=
 ∀ (pins:List (Addr×Obj)) (s:Shared) (σ:St) (H:Hp) (x:V) (v:Value) (Q:Bool->Hp->Prop),Inv X pins σ H s->Yv x v->r x H Q ->
  wpAny (model X.prog X.w) X.A (truthy v) (TP X pins σ Q) X.xe s
def tOp (r:R2) (ta tb:TE):TE:=fun σ H Q=>ta σ H fun x H1=>tb σ H1 fun y H2=>r x y H2 Q
def tUn (r:V->Hp->VK->Prop) (ta:TE):TE:=fun σ H Q=>ta σ H fun x H1=>r x H1 Q
def rI (C:Int->Int->Prop) (g:Int->Int->V):R2:=fun x y H Q=>∃ i j,x=.int i/\y=.int j/\C i j/\Q (g i j) H
def rI0 (g:Int->Int->V):R2:=fun x y H Q=>∃ i j,x=.int i/\y=.int j/\Q (g i j) H
def rU (g:Int->V):V->Hp->VK->Prop:=fun x H Q=>∃ i,x=.int i/\Q (g i) H
section
variable {X:Cx} {a b c:Expr} {ta tb tc:TE} {pos:Pos}
theorem Zc4 (ha:PE X a ta) (hb:PE X b tb) {pins:List (Addr×Obj)} {s:Shared} {σ:St} {H:Hp} {R:V->V->Hp->Prop} (I:Inv X pins σ H s)
  (h:ta σ H fun x H1=>tb σ H1 fun y H2=>R x y H2) {Q:Value->Shared->Prop} {f:Value->Value->Sem Value}
  (hf:∀ v u s2 x y H2,Inv X pins σ H2 s2->Yv x v->Yv y u->R x y H2->wpAny (model X.prog X.w) X.A (f v u) Q X.xe s2) :
  wpAny (model X.prog X.w) X.A (eval a X.env) (fun v s₁=>wpAny (model X.prog X.w) X.A (eval b X.env) (fun u s₂=>wpAny (model X.prog X.w) X.A (f v u) Q X.xe s₂) X.xe s₁) X.xe s:=by
 refine Wt (ha pins s σ H _ I h) fun v s1 ⟨x,H1,I1,r1,q1⟩=>?_
 refine Wt (hb pins s1 σ H1 _ I1 q1) fun u s2 ⟨y,H2,I2,r2,q2⟩=>?_
 exact hf v u s2 x y H2 I2 r1 r2 q2
theorem Z94 {op:Operator} {r:R2} (ho:Rf X (binaryOp op) r) (ha:PE X a ta) (hb:PE X b tb):PE X (.BinOp a op b pos) (tOp r ta tb):=by
 intro pins s σ H Q I h;exact wpAny_BinOp (Zc4 ha hb I h fun v u s2 x y H2 I2 rx ry q=>ho pins s2 σ H2 x y v u Q I2 rx ry q)
theorem Zdk {op:UnaryOp} {r:V->Hp->VK->Prop} (ho:UnR X (unaryOp op) r) (ha:PE X a ta):PE X (.UnaryOp op a pos) (tUn r ta):=by
 intro pins s σ H Q I h;exact UnaryOp_ (Wt (ha pins s σ H _ I h) fun v s1 ⟨x,H1,I1,r1,q1⟩=>ho pins s1 σ H1 x v Q I1 r1 q1)
theorem opI {f:Value->Value->Sem Value} {C:Int->Int->Prop} {g:Int->Int->Int}
  (rule:∀ (i j:Int) (t u:Tok) (s:Shared) (Q:Value->Shared->Prop) (E:Value->Shared->Prop),C i j->Q (.int (g i j) s.toks) { s with toks:=s.toks+1 }->wpAny (model X.prog X.w) X.A (f (.int i t) (.int j u)) Q E s) :
  Rf X f (rI C fun i j=>.int (g i j)):=by
 intro pins s σ H x y v u Q I rx ry h;obtain ⟨i,j,rfl,rfl,hc,q⟩:=h;obtain ⟨t,rfl⟩:=rx;obtain ⟨t',rfl⟩:=ry;exact rule i j t t' s _ _ hc ⟨.int (g i j),H,I.tok _,⟨_,rfl⟩,q⟩
theorem Z4v {f:Value->Value->Sem Value} {g:Int->Int->Int}
  (rule:∀ (i j:Int) (t u:Tok) (s:Shared) (Q:Value->Shared->Prop) (E:Value->Shared->Prop),Q (.int (g i j) s.toks) { s with toks:=s.toks+1 }->wpAny (model X.prog X.w) X.A (f (.int i t) (.int j u)) Q E s) :
  Rf X f (rI0 fun i j=>.int (g i j)):=by
 intro pins s σ H x y v u Q I rx ry h;obtain ⟨i,j,rfl,rfl,q⟩:=h;obtain ⟨t,rfl⟩:=rx;obtain ⟨t',rfl⟩:=ry;exact rule i j t t' s _ _ ⟨.int (g i j),H,I.tok _,⟨_,rfl⟩,q⟩
theorem Zbk {f:Value->Value->Sem Value} {g:Int->Int->Bool}
  (rule:∀ (i j:Int) (t u:Tok) (s:Shared) (Q:Value->Shared->Prop) (E:Value->Shared->Prop),Q (.bool (g i j)) s->wpAny (model X.prog X.w) X.A (f (.int i t) (.int j u)) Q E s) :
  Rf X f (rI0 fun i j=>.bl (g i j)):=by
 intro pins s σ H x y v u Q I rx ry h;obtain ⟨i,j,rfl,rfl,q⟩:=h;obtain ⟨t,rfl⟩:=rx;obtain ⟨t',rfl⟩:=ry;exact rule i j t t' s _ _ ⟨.bl (g i j),H,I,rfl,q⟩
def Z52 (i j:Int):Prop:=0<j/\j<1073741824
def Z26 (i j:Int):Prop:=0<=j/\j<=1000000/\i.natAbs<2^64
def Ar (i j:Int):Prop:=(-(2^64)<i/\i<2^64)\/(-(2^64)<j/\j<2^64)
theorem Ar.ok {i j:Int} (h:Ar i j):IntMulOk i j:=by
 rcases h with ⟨h1,h2⟩ | ⟨h1,h2⟩
 ·exact .of_left (intBits_le_64 h1 h2)
 ·exact .of_right (intBits_le_64 h1 h2)
theorem Bj (k:Nat):(0:Int)<=2^k:=by
 rw [two_pow_cast];exact Int.natCast_nonneg _
theorem Zbm:Rf X (binaryOp .Add) (rI0 fun i j=>.int (i+j)):=Z4v fun _ _ _ _ _ _ _ q=>add_int q
theorem Z9v:Rf X (binaryOp .Sub) (rI0 fun i j=>.int (i - j)):=Z4v fun _ _ _ _ _ _ _ q=>sub_int q
theorem Zag:Rf X (binaryOp .Mult) (rI Ar fun i j=>.int (i*j)):=opI fun _ _ _ _ _ _ _ hc q=>mul_int q hc.ok
theorem Z63:Rf X (binaryOp .FloorDiv) (rI Z52 fun i j=>.int (i / j)):=opI fun i j _ _ _ _ _ hc q=>by
 have h1:(0:Int)<j:=hc.1;have h2:j<1073741824:=hc.2;exact floordiv_int (by lia) (by rw [Int.fdiv_eq_ediv_of_nonneg i (by lia)];exact q) (.inl (PyProof.noPylong_small (by lia)))
theorem Za4:Rf X (binaryOp .Mod) (rI (fun _ j=>0<j) fun i j=>.int (i % j)):=opI fun i j _ _ _ _ _ hc q=>by
 have h1:(0:Int)<j:=hc;exact mod_int' (by lia) (by rw [Int.fmod_eq_emod_of_nonneg i (by lia)];exact q)
theorem Zbo:Rf X (binaryOp .Pow) (rI Z26 fun i j=>.int (i^j.toNat)):=opI fun _ _ _ _ _ _ _ hc q=>pow_int_small hc.1 hc.2.1 hc.2.2 q
theorem Z9l:Rf X (binaryOp .LShift) (rI Z26 fun i j=>.int (i*2^j.toNat)):=opI fun _ _ _ _ _ _ _ hc q=>lshift_int_small hc.1 hc.2.1 hc.2.2 q
theorem Zbw:Rf X (binaryOp .RShift) (rI (fun _ j=>0<=j) fun i j=>.int (i / 2^j.toNat)):=opI fun i j _ _ _ _ _ hc q =>
 rshift_int hc (by rw [Int.fdiv_eq_ediv_of_nonneg i (Bj _)];exact q)
theorem Z9x:Rf X (binaryOp .BitAnd) (rI0 fun i j=>.int (Builtin.bitAnd i j)):=Z4v fun _ _ _ _ _ _ _ q=>and_int q
theorem Ze9:Rf X (binaryOp .BitOr) (rI0 fun i j=>.int (Builtin.bitOr i j)):=Z4v fun _ _ _ _ _ _ _ q=>or_int q
theorem Za3:Rf X (binaryOp .BitXor) (rI0 fun i j=>.int (Builtin.bitXor i j)):=Z4v fun _ _ _ _ _ _ _ q=>xor_int q
theorem unI {f:Value->Sem Value} {g:Int->Int}
  (rule:∀ (i:Int) (t:Tok) (s:Shared) (Q:Value->Shared->Prop) (E:Value->Shared->Prop),Q (.int (g i) s.toks) { s with toks:=s.toks+1 }->wpAny (model X.prog X.w) X.A (f (.int i t)) Q E s) :
  UnR X f (rU fun i=>.int (g i)):=by
 intro pins s σ H x v Q I rx h;obtain ⟨i,rfl,q⟩:=h;obtain ⟨t,rfl⟩:=rx;exact rule i t s _ _ ⟨.int (g i),H,I.tok _,⟨_,rfl⟩,q⟩
theorem Za6:UnR X (unaryOp .USub) (rU fun i=>.int (-i)):=unI fun _ _ _ _ _ q=>neg_int q
theorem Zak:UnR X (unaryOp .Invert) (rU fun i=>.int (Builtin.bitNot i)):=unI fun _ _ _ _ _ q=>invert_int q
theorem Bb {pins:List (Addr×Obj)} {σ:St} {H:Hp} {s:Shared} {Q:VK} {k k':Bool} (I:Inv X pins σ H s) (q:Q (.bl k) H) (e:k=k'):EP X pins σ Q (.bool k') s:=by
 subst e;exact ⟨.bl k,H,I,rfl,q⟩
theorem Zdd:Rf X (compareOp .Lt) (rI0 fun i j=>.bl (decide (i<j))):=Zbk fun _ _ _ _ _ _ _ q=>lt_int q
theorem Ze8:Rf X (compareOp .Gt) (rI0 fun i j=>.bl (decide (j<i))):=Zbk fun _ _ _ _ _ _ _ q=>gt_int q
theorem Zcr:Rf X (compareOp .GtE) (rI0 fun i j=>.bl (decide (j<=i))):=Zbk fun _ _ _ _ _ _ _ q=>ge_int q
theorem Z1f:Rf X (compareOp .In) (fun x y H Q=>∃ i j,x=.str i/\y=.str j/\Q (.bl (!(Builtin.Str.occurrences j i 0 j.length 1).isEmpty)) H):=by
 intro pins s σ H x y v u Q I rx ry h;obtain ⟨i,j,rfl,rfl,q⟩:=h;obtain ⟨t,rfl⟩:=rx;obtain ⟨t',rfl⟩:=ry;exact in_str (Bb I q rfl)
theorem Zbc:Rf X (compareOp .Is) (fun x y H Q=>y=.non/\Q (.bl (decide (x=.non))) H):=by
 intro pins s σ H x y v u Q I rx ry h;obtain ⟨rfl,q⟩:=h;cases ry;refine is_none_gen (Bb I q ?_);cases x<;>first
   | (cases rx;rfl)
   | (obtain ⟨t,rfl⟩:=rx;rfl)
theorem Z84:Rf X (compareOp .IsNot) (fun x y H Q=>y=.non/\Q (.bl (!decide (x=.non))) H):=by
 intro pins s σ H x y v u Q I rx ry h;obtain ⟨rfl,q⟩:=h;cases ry;refine isnot_none_gen (Bb I q ?_);cases x<;>first
   | (cases rx;rfl)
   | (obtain ⟨t,rfl⟩:=rx;rfl)
theorem Zw (b:Expr) {op:CmpOp} (h:op≠.In:=by decide) (h2:op≠.NotIn:=by decide):behindInMarks op b=false:=by
 have e1:(op==CmpOp.In)=false:=by cases op<;>first | rfl | exact absurd rfl h
 have e2:(op==CmpOp.NotIn)=false:=by cases op<;>first | rfl | exact absurd rfl h2
 cases b<;>simp [behindInMarks,e1,e2]
theorem Z8f {op:CmpOp} {r:R2} (ho:Rf X (compareOp op) r) (ha:PE X a ta) (hb:PE X b tb) (hm:behindInMarks op b=false):PE X (.Compare a [op] [b] pos) (tOp r ta tb):=by
 intro pins s σ H Q I h;exact wpAny_Compare1 (Zc4 ha hb I h fun v u s2 x y H2 I2 rx ry q=>ho pins s2 σ H2 x y v u Q I2 rx ry q) hm
def Ze6 (t:TE):TT:=fun σ H Q=>t σ H fun x H'=>∃ k,x=.bl k/\Q k H'
theorem Z7d {op:CmpOp} {r:R2} (ho:Rf X (compareOp op) r) (ha:PE X a ta) (hb:PE X b tb) (hm:behindInMarks op b=false):PT X (.Compare a [op] [b] pos) (Ze6 (tOp r ta tb)):=by
 intro pins s σ H Q I h;refine wpAny_isTrue_Compare1 (Wt (ha pins s σ H _ I h) fun v s1 ⟨x,H1,I1,r1,q1⟩=>Wt (hb pins s1 σ H1 _ I1 q1) fun u s2 ⟨y,H2,I2,r2,q2⟩ =>
  Wt (ho pins s2 σ H2 x y v u _ I2 r1 r2 q2) fun c s3 ⟨z,H3,I3,r3,k,e,q3⟩=>?_) hm
 subst e;cases r3;exact wpAny_truthy_bool ⟨H3,I3,q3⟩
def Zcq (K:PySem.W.Frag) (x:V) (H:Hp) (k:Bool):Prop :=
 match x with
 | .non=>k=false
 | .bl b=>k=b
 | .int i=>k=(i != 0)
 | .str y=>y.length<=sizeLine/\k=((y.length:Int) != 0)
 | .byt y=>y.size<=sizeLine/\k=((y.size:Int) != 0)
 | .ref p=>(∃ xs,S9 K H p xs/\k=!xs.isEmpty)\/(∃ xs,Sz K H p xs/\k=!xs.isEmpty)\/∃ kvs,H p=some (.dK kvs)/\k=!kvs.isEmpty
 | _=>False
theorem Az {κ:Type} {kvs:List (κ×V)} {vs:List (κ×Value)} (r:KV kvs vs):(!vs.isEmpty)=!kvs.isEmpty:=by
 cases r<;>rfl
theorem N4 {xs:List V} {its:List Value} (r:Y2 xs its):(!its.toArray.isEmpty)=!xs.isEmpty:=by
 cases r<;>simp
theorem G6:(sizeLine:Nat)<2^63:=by rw [sizeLine_eq];decide
theorem Z9f:Zfh X (fun x H Q=>∃ k,Zcq X.K x H k/\Q k H):=by
 intro pins s σ H x v Q I rx h;obtain ⟨k,e,q⟩:=h;have hl:=G6;have hs:sizeLine=16777216:=sizeLine_eq;cases x with
 | non =>
  cases rx;have e':k=false:=e;subst e';exact truthy_none ⟨H,I,q⟩
 | bl b =>
  cases rx;have e':k=b:=e;subst e';exact wpAny_truthy_bool ⟨H,I,q⟩
 | int i =>
  obtain ⟨t,rfl⟩:=rx;have e':k=(i != 0):=e;subst e';exact PySem.P.truthy_int ⟨H,I,q⟩
 | str y =>
  obtain ⟨t,rfl⟩:=rx;obtain ⟨hy,e'⟩:y.length<=sizeLine/\k=((y.length:Int) != 0):=e;subst e';exact PySem.P.truthy_str (by lia) ⟨H,I.tok _,q⟩
 | byt y =>
  obtain ⟨t,rfl⟩:=rx;obtain ⟨hy,e'⟩:y.size<=sizeLine/\k=((y.size:Int) != 0):=e;subst e';exact PySem.W.truthy_bytes (by lia) ⟨H,I.tok _,q⟩
 | ref p =>
  cases rx;have e':(∃ xs,S9 X.K H p xs/\k=!xs.isEmpty)\/(∃ xs,Sz X.K H p xs/\k=!xs.isEmpty)\/∃ kvs,H p=some (.dK kvs)/\k=!kvs.isEmpty:=e;rcases e' with ⟨xs,hx,e'⟩ | ⟨xs,hx,e'⟩ | ⟨kvs,hx,e'⟩
  ·subst e'
   obtain ⟨its,r,pl,hz⟩:=I.list hx;have hlen:=r.length;exact wpAny_truthy_list pl.isList (by simp only [size_toArray];lia) ⟨H,I.tok _,by rw [N4 r];exact q⟩
  ·subst e'
   obtain ⟨its,r,pl,hz⟩:=I.tuple hx;have hlen:=r.length;exact truthy_tuple pl (by simp only [size_toArray];lia) ⟨H,I.tok _,by rw [N4 r];exact q⟩
  ·subst e'
   obtain ⟨hz,hS,vs,r,m⟩:kvs.length<=sizeLine/\(p==sysModules)=false/\∃ vs,KV kvs vs/\s.heap.DictOf (Va X.prog X.w) p vs:=I.hok p _ hx;have hlen:kvs.length=vs.length:=Paired.length r;exact wpAny_truthy_dict hS m (by lia) ⟨H,I.tok _,by rw [Az r];exact q⟩
 | _=>exact (show False from e).elim
theorem Z3z (ha:PE X a ta) (he:∀ whole,isTrue a X.env whole=(do let v ← whole;standAt a.pos;holding [v] (truthy v))) :
  PT X a (fun σ H Q=>ta σ H fun x H'=>∃ k,Zcq X.K x H' k/\Q k H'):=by
 intro pins s σ H Q I h;exact isTrue_plain (Wt (ha pins s σ H _ I h) fun v s1 ⟨x,H1,I1,r1,q1⟩=>Z9f pins s1 σ H1 x v Q I1 r1 q1) (he _)
theorem Bt:Rf X (binaryOp .Add) (fun x y H Q=>∃ i j,x=.str i/\y=.str j/\i.length+j.length<=sizeLine/\Q (.str (i++j)) H):=by
 intro pins s σ H x y v u Q I rx ry h;obtain ⟨i,j,rfl,rfl,hz,q⟩:=h;obtain ⟨t,rfl⟩:=rx;obtain ⟨t',rfl⟩:=ry;exact add_str (fun t' tk=>⟨.str (i++j),H,I.tok _,⟨_,rfl⟩,q⟩) hz
theorem Ji {x:V} {us:List Value} (r:Y2 [x] us):∃ u,us=[u]/\Yv x u:=by
 cases r with
 | cons r1 r2=>cases r2;exact ⟨_,rfl,r1⟩
theorem Z03 {x y:V} {us:List Value} (r:Y2 [x,y] us):∃ u w',us=[u,w']/\Yv x u/\Yv y w':=by
 cases r with
 | cons r1 r2 =>
  cases r2 with
  | cons r3 r4=>cases r4;exact ⟨_,_,rfl,r1,r3⟩
theorem Z4w:V5 X (.builtin "abs") (fun xs H Q=>∃ i,xs=[.int i]/\Q (.int (if i<0 then -i else i)) H):=by
 intro pins s σ H xs us Q I r h;obtain ⟨i,rfl,q⟩:=h;obtain ⟨u,rfl,t,rfl⟩:=Ji r;exact call_abs_int fun u tk=>⟨.int (if i<0 then -i else i),H,I.tok _,⟨_,rfl⟩,q⟩
theorem Z1s (hc:X.calm=true):V5 X (.builtin "max") (fun xs H Q=>∃ i j,xs=[.int i,.int j]/\Q (.int (if j > i then j else i)) H):=by
 intro pins s σ H xs us Q I r h;obtain ⟨i,j,rfl,q⟩:=h;obtain ⟨u,w',rfl,⟨t,rfl⟩,⟨t',rfl⟩⟩:=Z03 r;refine max_two_ints (I.ok.hd hc) fun h' tk k=>⟨_,H,I.kept k,?_,q⟩
 by_cases hj:j > i
 ·rw [if_pos hj,if_pos hj];exact ⟨_,rfl⟩
 ·rw [if_neg hj,if_neg hj];exact ⟨_,rfl⟩
theorem Z2l (hc:X.calm=true):V5 X (.builtin "min") (fun xs H Q=>∃ i j,xs=[.int i,.int j]/\Q (.int (if j<i then j else i)) H):=by
 intro pins s σ H xs us Q I r h;obtain ⟨i,j,rfl,q⟩:=h;obtain ⟨u,w',rfl,⟨t,rfl⟩,⟨t',rfl⟩⟩:=Z03 r;refine min_two_ints (I.ok.hd hc) fun h' tk k=>⟨_,H,I.kept k,?_,q⟩
 by_cases hj:j<i
 ·rw [if_pos hj,if_pos hj];exact ⟨_,rfl⟩
 ·rw [if_neg hj,if_neg hj];exact ⟨_,rfl⟩
end
structure ObjM (h:Heap) (x dx C:Addr) (mA:Str->Option Value):Prop where
 obj:h.get? x=some (instObj C dx)
 ns:h.Ns1 dx mA
 ne:dx≠x
theorem Z23 {h:Heap} {dx:Addr} {mA:Str->Option Value} (n:h.Ns1 dx mA):∃ od,h.get? dx=some od/\∀ name,lookIn name od=some (mA name):=by
 obtain ⟨o,es,ep,ho,hd,hk,_,hm⟩:=n;refine ⟨o,ho,fun name=>?_⟩;have e:=hm name;unfold nsFind findBy at e;rw [← Array.find?_toList] at e;unfold lookIn;rw [hd];dsimp only;split
 ·rename_i y q
  rw [q] at e;exact congrArg some e
 ·rename_i q
  rw [q] at e;have a:es.toList.any (·.refKey)=false:=by
   rw [List.any_eq_false];intro y hy;obtain ⟨z,t,hkey⟩:=hk y (Array.mem_toList_iff.mp hy);simp [DictEntry.refKey,hkey]
  have a':¬ es.toList.any (·.refKey)=true:=by rw [a];exact Bool.false_ne_true
  rw [if_neg a'];exact congrArg some e
theorem ObjM.look {h:Heap} {x dx C:Addr} {mA:Str->Option Value} (I:ObjM h x dx C mA):∃ od,PySem.W.InstAt h x (instObj C dx) C (some od)/\∀ name,lookIn name od=some (mA name) :=
 let ⟨od,ho,hl⟩:=Z23 I.ns
 ⟨od,⟨I.obj,rfl,rfl,ho⟩,hl⟩
section
variable {prog:Program} {w:World} {A:Around} {E:Value->Shared->Prop} {s:Shared} {K:PySem.W.Frag} {x dx C f:Addr} {mA:Str->Option Value} {name:Str} {v:Value}
end
section
variable {P:Program} {w:World} {H H':Hp} {h h':Heap} {a C dx:Addr} {fs fs':List (Str×V)}
theorem Z6j (hok:My P w H h) (e:H a=some (.ins C dx fs)):∃ mA,ObjM h a dx C mA/\(∀ f,Ig (fs.lookup f) (mA f))/\PySem.Within mA (fs.map (·.1))/\fs.length<=1000/\H dx=some (.own a):=by
 obtain ⟨d,z,ne,ob,mA,n,r,q⟩:=(show W9 P w H h a (.ins C dx fs) from hok a _ e);exact ⟨mA,⟨ob,n,ne⟩,r,q,z,d⟩
end
structure Cls (K:PySem.W.Frag) (C:Addr):Prop where
 pg:plainGet K C Str.empty=true
 hd:PySem.W.hasDictIn K C=true
 po:PySem.W.plainOver K C=true
 sa:PySem.W.findIn K (.ref C) "__setattr__" = some (some (.builtin "object.__setattr__"))
theorem Cls.get {K:PySem.W.Frag} {C:Addr} (c:Cls K C) (f:Str):plainGet K C f=true:=c.pg
section
variable {X:Cx} {pins:List (Addr×Obj)} {σ:St} {H:Hp} {s:Shared} {a C dx:Addr} {fs:List (Str×V)} {f:Str} {v:V} {A:Around} {E:Value->Shared->Prop}
end
section
variable {X:Cx} {o e value:Expr} {f:Str} {pos pos' tpos:Pos} {ta tv:TE}
end
section
variable {X:Cx} {pins:List (Addr×Obj)} {σ:St} {H:Hp} {s:Shared} {A:Around} {E:Value->Shared->Prop} {Q:Value->Shared->Prop} {c:Value} {b:Bool}
inductive TyOf (K:PySem.W.Frag) (H:Hp):V->Value->Prop where
 | non:TyOf K H .non (.type "NoneType")
 | bl (x:Bool):TyOf K H (.bl x) (.type "bool")
 | int (i:Int):TyOf K H (.int i) (.type "int")
 | str (x:Str):TyOf K H (.str x) (.type "str")
 | flt (x:UInt64):TyOf K H (.flt x) (.type "float")
 | lst {a:Addr} {xs:List V} (e:H a=some (.lst xs)):TyOf K H (.ref a) (.type "list")
 | frz {a:Addr} {o:Obj} {xs:List V} (e:H a=some (.frz o (.lst xs))):TyOf K H (.ref a) (.type "list")
 | tup {a:Addr} {xs:List V} (e:H a=some (.tup xs)):TyOf K H (.ref a) (.type "tuple")
 | dK {a:Addr} {kvs:List (Uq×V)} (e:H a=some (.dK kvs)):TyOf K H (.ref a) (.type "dict")
 | dT {a:Addr} {kvs:List (List Uq×V)} (e:H a=some (.dT kvs)):TyOf K H (.ref a) (.type "dict")
 | ins {a C dx:Addr} {fs:List (Str×V)} (e:H a=some (.ins C dx fs)) (cl:Cls K C) (ha:PySem.W.findIn K (.ref C) "__class__" = some (some (.builtin "object.__class__")))
  (hn:PySem.W.specialIn K (.builtin "object.__class__") "__get__" = some (some (.builtin "getset_descriptor.__get__"))) (htk:PySem.W.takesIn K (.builtin "object.__class__")=some true)
  (hm:PySem.W.mroIn K C (.type "object")=some true):TyOf K H (.ref a) (.ref C)
theorem S7 {x:V} {u t:Value} (I:Inv X pins σ H s) (rx:Yv x u) (ty:TyOf X.K H x t) (e:kitOne X.K t c=some b) (h:∀ tk,Q (.bool b) { s with toks:=tk }) :
  wpAny (model X.prog X.w) A (call (.builtin "isinstance") [u,c]) Q E s:=by
 cases ty with
 | non=>cases (show u=Value.none from rx);exact kia_one PySem.W.kitx_none I.kIn True.intro e (fun z=>nomatch z) h
 | bl y=>cases (show u=Value.bool y from rx);exact kia_one PySem.W.kitx_bool I.kIn True.intro e (fun z=>nomatch z) h
 | int i=>obtain ⟨t,q⟩:=(show ∃ t,u=Value.int i t from rx);cases q;exact kia_one PySem.W.kitx_int I.kIn True.intro e (fun z=>nomatch z) h
 | str y=>obtain ⟨t,q⟩:=(show ∃ t,u=Value.str y t from rx);cases q;exact kia_one PySem.W.kitx_str I.kIn True.intro e (fun z=>nomatch z) h
 | flt y=>obtain ⟨t,q⟩:=(show ∃ t,u=Value.float y t from rx);cases q;exact kia_one PySem.W.kitx_float I.kIn True.intro e (fun z=>nomatch z) h
 | @lst a xs ea =>
  cases (show u=Value.ref a from rx);obtain ⟨_,_,n,_,h1⟩:=(show W9 X.prog X.w H s.heap a (.lst xs) from I.hok a _ ea);exact kia_one kitx_list I.kIn ⟨_,h1,rfl⟩ e (fun z=>nomatch z) h
 | @frz a ob xs ea =>
  cases (show u=Value.ref a from rx);obtain ⟨_,_,_,n,_,h1⟩:=(show W9 X.prog X.w H s.heap a (.frz ob (.lst xs)) from I.hok a _ ea);exact kia_one kitx_list I.kIn ⟨_,h1,rfl⟩ e (fun z=>nomatch z) h
 | @tup a xs ea =>
  cases (show u=Value.ref a from rx);obtain ⟨_,_,_,p⟩:=(show W9 X.prog X.w H s.heap a (.tup xs) from I.hok a _ ea);obtain ⟨o,h1,h2,_⟩:=p;exact kia_one kitx_tuple I.kIn ⟨o,h1,h2⟩ e (fun z=>nomatch z) h
 | @dK a kvs ea =>
  cases (show u=Value.ref a from rx);obtain ⟨_,_,vs,_,p⟩:=(show W9 X.prog X.w H s.heap a (.dK kvs) from I.hok a _ ea);obtain ⟨o,es,ep,h1,h2,_⟩:=p;exact kia_one kitx_dict I.kIn ⟨o,h1,h2.1⟩ e (fun z=>nomatch z) h
 | @dT a kvs ea =>
  cases (show u=Value.ref a from rx);obtain ⟨_,_,xs,_,o,es,ep,h1,h2,_⟩:=(show W9 X.prog X.w H s.heap a (.dT kvs) from I.hok a _ ea);exact kia_one kitx_dict I.kIn ⟨o,h1,h2.1⟩ e (fun z=>nomatch z) h
 | @ins a C dx fs ea cl ha hn htk hm =>
  cases (show u=Value.ref a from rx);obtain ⟨mA,O,_⟩:=Z6j I.hok ea;obtain ⟨od,J,_⟩:=O.look;exact kia_one (PySem.W.kitx_own (cl.get _) cl.hd ha hn htk hm) I.kIn J e (fun z=>nomatch z) h
end
structure Room (k:Nat) (A:Around):Prop where
 hd:A.handled=none
 dp:A.depth+3*k+5<recursionLimit
 un:A.units+16*k+200<cLine
 gd:A.guards=some []
theorem Room.mono {j k:Nat} {A:Around} (r:Room k A) (h:j<=k):Room j A:=⟨r.hd,by have:=r.dp;lia,by have:=r.un;lia,r.gd⟩
theorem Room.deeper {k:Nat} {A:Around} (r:Room (k+1) A) (env:Env):Room k (A.deeper env) :=
 ⟨r.hd,by have:=r.dp;show A.depth+1+3*k+5<_;lia,by have:=r.un;show A.units+3+16*k+200<_;lia,r.gd⟩
theorem Lf {A:Around} {C:Addr} {us:List Value} {kw:List (Str×Value)}:(A.under (.builtin "type.__call__" ⟨.ref C::us,kw⟩)).depth=A.depth+1:=by
 first | rfl | simp [Around.under,Code.weight,Code.isCreation,Code.isGuard,Code.isCaller,Code.frames,Code.isFrame,guardIds]
theorem Ka {A:Around} {C:Addr} {us:List Value} {kw:List (Str×Value)}:(A.under (.builtin "type.__call__" ⟨.ref C::us,kw⟩)).units=A.units+1:=by
 first | rfl | simp [Around.under,Code.cUnits,Code.frames,Code.isFrame]
theorem Room.make {k:Nat} {A:Around} (r:Room (k+1) A) (C:Addr) (us:List Value) (kw:List (Str×Value)):Room k (A.under (.builtin "type.__call__" ⟨.ref C::us,kw⟩)) :=
 ⟨r.hd,by have:=r.dp;rw [Lf];lia,by have:=r.un;rw [Ka];lia,r.gd⟩
theorem Room.depth {k:Nat} {A:Around} (r:Room k A):A.depth<recursionLimit:=by have:=r.dp;lia
theorem Room.units {k:Nat} {A:Around} (r:Room k A):A.units+64<cLine:=by have:=r.un;lia
def Z1c:TA:=fun _ H Q=>Q [] H
def E4 (ta:TE) (tr:TA):TA:=fun σ H Q=>ta σ H fun x H1=>tr σ H1 fun xs H2=>Q (x::xs) H2
section
variable {X:Cx} {e:Expr} {es:List Expr} {te:TE} {t:TA} {pos:Pos}
theorem T3:PA X [] Z1c:=fun _ _ _ _ H Q I h=>Calls.spliced_nil ⟨[],H,I,.nil,h⟩
theorem Wl (ha:PE X e te) (hr:PA X es t) (hs:starEach (e::es) X.env=(false,eval e X.env)::starEach es X.env:=by rfl):PA X (e::es) (E4 te t):=by
 intro pos pins s σ H Q I h;rw [hs];show wpAny _ _ (spliced ((false,eval e X.env)::backTo pos (starEach es X.env))) _ _ s;refine Calls.spliced_cons (Wt (ha pins s σ H _ I h) fun u s1 ⟨x,H1,I1,r1,q1⟩=>?_);exact Wt (hr pos pins s1 σ H1 _ I1 q1) fun us s2 ⟨xs,H2,I2,r2,q2⟩=>⟨x::xs,H2,I2,.cons r1 r2,q2⟩
def Zg4 (t:TA):TE:=fun σ H Q=>t σ H fun xs H1=>xs.length<=sizeLine/\∀ p,H1 p=none->Q (.ref p) (We H1 p (.tup xs))
def Zf0 (t:TA):TE:=fun σ H Q=>t σ H fun xs H1=>xs.length<=sizeLine/\∀ p,H1 p=none->Q (.ref p) (We H1 p (.lst xs))
theorem Z99 {x1} (h:PA X es t):PE X (.Tuple es x1 pos) (Zg4 t):=by
 intro pins s σ H Q I hq;refine wpAny_Tuple_spliced (Wt (h pos pins s σ H _ I hq) fun us s1 ⟨xs,H1,I1,r,z,q⟩=>⟨by rw [← r.length];exact z,?_⟩);have hf:H1 s1.heap.objs.size=none:=I1.hok.fresh (le_refl _);refine ⟨.ref s1.heap.objs.size,We H1 s1.heap.objs.size (.tup xs),I1.laid (t':=s1.toks) (fun b u e=>get?_push_of_some _ e) (le_refl _) ?_,rfl,q _ hf⟩;exact ⟨z,us,r,⟨_,get?_push_size _ rfl,rfl,_,rfl⟩⟩
theorem Z4h (h:PA X es t):PE X (.List es pos) (Zf0 t):=by
 intro pins s σ H Q I hq;refine wpAny_List_spliced (Wt (h pos pins s σ H _ I hq) fun us s1 ⟨xs,H1,I1,r,z,q⟩=>⟨by rw [← r.length];exact z,?_⟩);have hf:H1 s1.heap.objs.size=none:=I1.hok.fresh (le_refl _);refine ⟨.ref s1.heap.objs.size,We H1 s1.heap.objs.size (.lst xs),I1.laid (t':=s1.toks) (fun b u e=>get?_push_of_some _ e) (le_refl _) ?_,rfl,q _ hf⟩;exact ⟨z,us,0,r,get?_push_size _ rfl⟩
end
abbrev Sp:=List V->Hp->VK->XK->Prop
abbrev N9:=List Env->Hp->Shared->XK->Value->Shared->Prop
structure Env0 (P:Program) (w:World) (K:PySem.W.Frag) (mg:Str->Option Value) (base:Heap) (A:Around) (outer:List Env) (s:Shared) (H:Hp):Prop where
 frames:A.frames=some outer
 mod:Mod K mg base
 bs:∀ b o,base.get? b=some o->s.heap.get? b=some o/\H b=none
 bsz:base.objs.size<=s.heap.objs.size
 funs:s.heap.FunFrames base outer
 frf:∀ b∈Sw outer,H b=none
 hok:My P w H s.heap
 bare:AllBare s.gens
def CE (outer:List Env) (P:Program) (w:World) (H:Hp) (s:Shared) (Q:VK) (u:Value) (s':Shared):Prop :=
 ∃ v H',s'.os=s.os/\AllBare s'.gens/\Un (Sw outer) [] H H' s.heap s'.heap/\My P w H' s'.heap/\Yv v u/\Q v H'
def CR (CX:N9) (outer:List Env) (P:Program) (w:World) (H:Hp) (s:Shared) (Q:VK) (E:XK) (r:Result) (s':Shared):Prop :=
 match r with
 | .ok (.ret u)=>CE outer P w H s Q u s'
 | .ok _=>False
 | .error e=>CX outer H s E e s'
structure FnOk (P:Program) (w:World) (K:PySem.W.Frag) (mg:Str->Option Value) (base:Heap) (CX:N9) (k:Nat) (f:Addr) (fd:FuncData) (ps:List Str) (sp:Sp):Prop where
 len:∀ vs H Q E,sp vs H Q E->vs.length=ps.length
 run:∀ (A:Around) (outer:List Env) (s:Shared) (H:Hp) (args:Args) (us:List Value) (vs:List V) (Q:VK) (E:XK),Room k A->Env0 P w K mg base A outer s H->BindsTo s fd args (ps.zip us)->Y2 vs us->sp vs H Q E ->
  codeAny (model P w) A (.call (.ref f) args) (CR CX outer P w H s Q E) s
theorem Env0.make {P:Program} {w:World} {K:PySem.W.Frag} {mg:Str->Option Value} {base:Heap} {A:Around} {outer:List Env} {s:Shared} {H:Hp} (e:Env0 P w K mg base A outer s H) (C:Addr) (us:List Value) (kw:List (Str×Value)) :
 Env0 P w K mg base (A.under (.builtin "type.__call__" ⟨.ref C::us,kw⟩)) outer s H:=⟨by first | exact e.frames | (simpa [Around.under,Code.envs,Code.isFrame,pushEnvs] using e.frames),e.mod,e.bs,e.bsz,e.funs,e.frf,e.hok,e.bare⟩
section
variable {X:Cx} {pins:List (Addr×Obj)} {σ:St} {H:Hp} {s s':Shared}
theorem Inv.env0 (I:Inv X pins σ H s):Env0 X.prog X.w X.K X.mg X.base X.A X.stack s H :=
 ⟨I.ok.frames,I.ok.mod,I.bs,le_trans I.ok.bsz I.sz,I.stack,I.stkFree,I.hok,I.bare⟩
theorem Inv.after {Q:VK} {u:Value} (I:Inv X pins σ H s) (h:CE X.stack X.prog X.w H s Q u s'):EP X pins σ Q u s':=by
 obtain ⟨v,H',os,bare,un,hok,r,q⟩:=h;obtain ⟨hh,g,d,t,os'⟩:=s';obtain rfl:os'=s.os:=os;exact ⟨v,H',I.call (h':=hh) (g':=g) (d':=d) (t':=t) (ch:=[]) un hok bare (fun b z=>absurd z (by simp)),r,q⟩
end
def Z0k (sp:Sp) (dvs:List V) (E:XK) (t:TA):TE:=fun σ H Q=>t σ H fun vs H1=>sp (vs++dvs) H1 Q E
def Jw (K:PySem.W.Frag) (fd:FuncData) (ps:List Str) (ds:List Value):Prop :=
 ∀ (s:Shared) (us:List Value),K.In s.heap->(us++ds).length=ps.length->BindsTo s fd ⟨us,[]⟩ (ps.zip (us++ds))
theorem Jw.all {K:PySem.W.Frag} {fd:FuncData} {ps:List Str} (h:∀ us:List Value,us.length=ps.length->bindArgs fd ⟨us,[]⟩=pure (ps.zip us)):Jw K fd ps []:=fun s us _ hl=>by
 rw [append_nil] at hl ⊢;exact .of_eq (h us hl)
def Kb (CX:N9) (X:Cx) (E:XK):Prop:=∀ (pins:List (Addr×Obj)) (σ:St) (H:Hp) (s:Shared) (e:Value) (s':Shared),Inv X pins σ H s->CX X.stack H s E e s'->X.xe e s'
section
variable {X:Cx} {CX:N9} {k:Nat} {f C:Addr} {fd:FuncData} {ps:List Str} {sp:Sp} {dvs:List V} {ds:List Value} {E:XK} {x m:Str} {p pos apos:Pos} {e o:Expr} {es:List Expr} {ta:TE} {t:TA}
theorem Z9z {pins:List (Addr×Obj)} {σ:St} {H:Hp} {s:Shared} {Q:VK} {us:List Value} {vs:List V} (F:FnOk X.prog X.w X.K X.mg X.base CX k f fd ps sp) (hr:Room k X.A) (hb:Jw X.K fd ps ds) (hd:Y2 dvs ds) (hx:Kb CX X E)
  (I:Inv X pins σ H s) (r:Y2 vs us) (h:sp (vs++dvs) H Q E):wpAny (model X.prog X.w) X.A (call (.ref f) us) (EP X pins σ Q) X.xe s:=by
 have r2:Y2 (vs++dvs) (us++ds):=r.append hd;have hl:(us++ds).length=ps.length:=by rw [← r2.length];exact F.len _ _ _ _ h
 refine wpAny_call (codeAny_mono (F.run X.A X.stack s H ⟨us,[]⟩ (us++ds) (vs++dvs) Q E hr I.env0 (hb s us I.kIn hl) r2 h) fun r s' hq=>?_);cases r with
 | error e=>exact hx pins σ H s e s' I hq
 | ok fl =>
  cases fl with
  | ret u=>exact I.after hq
  | next=>exact False.elim hq
  | brk=>exact False.elim hq
  | cont=>exact False.elim hq
theorem Z7l (F:FnOk X.prog X.w X.K X.mg X.base CX k f fd ps sp) (hr:Room k X.A) (hg:Gl X x) (hm:X.mg x=some (.ref f)) (hk:PySem.W.keepIn X.K (.ref f)=true) (hb:Jw X.K fd ps ds) (hd:Y2 dvs ds) (hx:Kb CX X E)
  (ha:PA X (e::es) t) (hdb:(x==("__debug__" : Str))=false:=by decide) (he:starEach (e::es) X.env=(false,eval e X.env)::starEach es X.env:=by rfl) (hpl:(backTo pos (starEach es X.env)).any (·.1)=false:=by rfl) :
  PE X (.Call (.Name x p) (e::es) [] pos) (Z0k sp dvs E t):=by
 intro pins s σ H Q I h;refine wpAny_Call_Name_kw (U9 I hg hm ?_ hdb);refine PySem.W.callWith_K (h₀:=X.base) I.ok.mod.kin hk (Wt (ha pos pins s σ H _ I h) fun us s1 ⟨vs,H1,I1,r,q⟩=>⟨I1.kIn,?_⟩) he hpl;exact Z9z F hr hb hd hx I1 r q
end
section
variable {X:Cx} {CX:N9} {k:Nat} {f C:Addr} {fd:FuncData} {ps ks:List Str} {sp:Sp} {E:XK} {x m:Str} {p pos apos kpos:Pos} {e o:Expr} {es:List Expr} {kws:List Keyword} {te ta:TE} {t tk:TA} {nm:Option Str}
variable {g:List Value->List Value->List Value} {gV:List V->List V->List V}
end
structure FnScope (N P:List Str) (sc:Scope):Prop where
 kind:sc.kind=.function
 co:sc.isCoroutine=false
 gen:sc.isGenerator=false
 nd:N.Nodup
 pre:N.take P.length=P
 par:∀ x∈P,sc.names.lookup x=some .local\/sc.names.lookup x=some .cell
 nofree:∀ y∈sc.names,y.2≠.free
theorem Nq {kindOf:Str->Option NameKind} {x:Str}:∀ {binds:List (Str×Value)} {m:Str->Option Value},(∀ v,(x,v)∉binds)->bindL kindOf binds m x=m x
 | [],_,_=>rfl
 | (n,v)::r,m,h=>by
   unfold bindL;rw [Nq fun w hw=>h w (mem_cons_of_mem _ hw)];split
   · have:x≠n:=by rintro rfl;exact h v mem_cons_self
     simp [this]
   · rfl
theorem Od {kindOf:Str->Option NameKind} {x:Str}:∀ {binds:List (Str×Value)} {m:Str->Option Value},(∀ v,(x,v)∉binds)->bindC kindOf binds m x=m x
 | [],_,_=>rfl
 | (n,v)::r,m,h=>by
   unfold bindC;rw [Od fun w hw=>h w (mem_cons_of_mem _ hw)];split
   · rfl
   · have:x≠n:=by rintro rfl;exact h v mem_cons_self
     simp [this]
theorem Gp {kindOf:Str->Option NameKind} {x:Str} {v:Value}:∀ {P:List Str} {vs:List Value} {i:Nat} {m:Str->Option Value},P.Nodup->P[i]?=some x->vs[i]?=some v->kindOf x=some .local ->
  bindL kindOf (P.zip vs) m x=some v
 | [],_,_,_,_,h,_,_=>by simp at h
 | _::_,[],_,_,_,_,h,_=>by simp at h
 | p::P,w::vs,0,m,nd,h1,h2,hk=>by
  simp at h1 h2;subst h1;subst h2;show bindL kindOf ((p,w)::P.zip vs) m p=_;unfold bindL;rw [Nq fun v hv=>(nodup_cons.mp nd).1 (of_mem_zip hv).1,if_pos hk];simp
 | p::P,w::vs,i+1,m,nd,h1,h2,hk=>by
  show bindL kindOf ((p,w)::P.zip vs) m x=_;unfold bindL;exact Gp (i:=i) (nodup_cons.mp nd).2 (by simpa using h1) (by simpa using h2) hk
theorem Gm {kindOf:Str->Option NameKind} {x:Str} {v:Value}:∀ {P:List Str} {vs:List Value} {i:Nat} {m:Str->Option Value},P.Nodup->P[i]?=some x->vs[i]?=some v->kindOf x≠some .local ->
  bindC kindOf (P.zip vs) m x=some v
 | [],_,_,_,_,h,_,_=>by simp at h
 | _::_,[],_,_,_,_,h,_=>by simp at h
 | p::P,w::vs,0,m,nd,h1,h2,hk=>by
  simp at h1 h2;subst h1;subst h2;show bindC kindOf ((p,w)::P.zip vs) m p=_;unfold bindC;rw [Od fun v hv=>(nodup_cons.mp nd).1 (of_mem_zip hv).1,if_neg hk];simp
 | p::P,w::vs,i+1,m,nd,h1,h2,hk=>by
  show bindC kindOf ((p,w)::P.zip vs) m x=_;unfold bindC;exact Gm (i:=i) (nodup_cons.mp nd).2 (by simpa using h1) (by simpa using h2) hk
def start (N:List Str) (vs:List V):St:=vs.map some++List.replicate (N.length - vs.length) none
def Qh (CX:N9) (P:Program) (w:World) (K:PySem.W.Frag) (mg:Str->Option Value) (base:Heap) (N:List Str) (qual:Str) (scope:Scope) (f:Addr) (cd:Value) (A:Around) (outer:List Env) (s:Shared) (H:Hp) (E:XK):Cx where
 prog:=P
 w:=w
 K:=K
 mg:=mg
 base:=base
 A:=A.deeper (envOfC qual scope s.heap.objs.size f cd)
 N:=N
 s₀:=s
 H₀:=H
 env:=envOfC qual scope s.heap.objs.size f cd
 outer:=outer
 stack:=envOfC qual scope s.heap.objs.size f cd::outer
 ex:=[]
 calm:=true
 fn:=fun _=>true
 pn:=[]
 xe:=fun e s'=>wpAny (model P w) (A.deeper (envOfC qual scope s.heap.objs.size f cd)) (leaving (envOfC qual scope s.heap.objs.size f cd) e) (fun _ s''=>CX outer H s E e s'') (fun e' s''=>CX outer H s E e' s'') s'
theorem En {sc:Scope} {n:Nat} {x:Str} (h:sc.names.lookup x=some .cell):∃ c,(cellsFrom n sc.names []).lookup x=some c:=by
 have q:=cellsFrom_some sc.names n [] (.inl h);exact Option.isSome_iff_exists.mp q
theorem Z1p {CX:N9} {P:Program} {w:World} {K:PySem.W.Frag} {mg:Str->Option Value} {base:Heap} {N ps:List Str} {qual:Str} {scope:Scope} {f:Addr} {cd:Value} {A:Around} {outer:List Env} {s s1:Shared} {H:Hp} {E:XK} {us:List Value} {vs:List V}
  (S:FnScope N ps scope) (hd:A.handled=none) (e0:Env0 P w K mg base A outer s H) (hl:vs.length=ps.length) (r:Y2 vs us)
  (x:InCallC s s.heap.objs.size (bindL (envOfC qual scope s.heap.objs.size f cd).kindOf (ps.zip us) fun _=>none) (cellsFrom (s.heap.objs.size+1) scope.names []) (bindC (envOfC qual scope s.heap.objs.size f cd).kindOf (ps.zip us) fun _=>none) s1) :
  Inv (Qh CX P w K mg base N qual scope f cd A outer s H E) [] (start N vs) H s1:=by
 have hpl:ps.length<=N.length:=by have:=congrArg List.length S.pre;rw [length_take] at this;lia
 obtain ⟨h1,tk,rfl,hk⟩:=x.done;have noA:∀ b:Addr,b∉(Qh CX P w K mg base N qual scope f cd A outer s H E).ex:=fun b z=>absurd (show b∈([]:List Addr) from z) (by simp)
 refine ⟨⟨e0.mod,S.kind,rfl,rfl,le_refl _,fun y z c h1 h2=>?_,fun y hy=>?_,fun y c _ h=>?_,fun _=>hd,Around.frames_deeper e0.frames,.inr ⟨rfl,rfl⟩,fun b z=>absurd z (noA b),e0.bs,e0.bsz,fun b _ _=>noA b,fun b z=>absurd z (noA b),e0.funs,e0.frf⟩,
  rfl,e0.bare,Un.kept hk,⟨_,x.toInCall.ns,fun i y v h1 h2 h3=>?_⟩,fun y c h=>⟨_,x.cell y c h⟩,e0.hok.fresh (le_refl _),fun y c h=>?_,fun p hp=>absurd (show p∈([]:List (Addr×Obj)) from hp) (by simp),e0.hok.kept hk,?_⟩
 ·exact name_of_addr x.apart (PySem.mem_of_lookup h1) (PySem.mem_of_lookup h2)
 ·have hy:scope.names.lookup y=some .cell\/scope.names.lookup y=some .free:=hy
  rcases hy with hy | hy
  ·exact En hy
  ·exact absurd rfl (S.nofree _ (PySem.mem_of_lookup hy))
 ·exact le_of_lt (x.above y c (PySem.mem_of_lookup h))
 ·have hi:i<vs.length:=by
   unfold start at h2;by_cases hi:i<vs.length
   ·exact hi
   ·rw [getElem?_append_right (by simpa using hi)] at h2
    rw [List.getElem?_replicate] at h2;split at h2<;>cases h2
  have ha:vs[i]?=some v:=by
   unfold start at h2;rw [getElem?_append_left (by simpa using hi),getElem?_map] at h2;cases e:vs[i]? with
   | none=>rw [e] at h2;cases h2
   | some a=>rw [e] at h2;cases h2;rfl
  obtain ⟨u,hu,rv⟩:=r.get ha;have hp:ps[i]?=some y:=by
   rw [← S.pre,List.getElem?_take_of_lt (by lia)];exact h1
  have ndP:ps.Nodup:=by rw [← S.pre];exact S.nd.sublist (List.take_sublist _ _)
  refine ⟨u,rv,?_⟩;rcases S.par y (mem_of_getElem? hp) with k | k
  ·exact .inl ⟨k,Gp ndP hp hu k⟩
  ·obtain ⟨c,e⟩:=En (n:=s.heap.objs.size+1) k
   refine .inr ⟨.inl k,c,e,?_⟩;have q:=x.cell y c e;rw [Gm ndP hp hu (by show scope.names.lookup y≠_;rw [k];decide)] at q;exact q
 ·exact e0.hok.fresh (le_of_lt (x.above y c (PySem.mem_of_lookup h)))
 ·unfold start
  show _=N.length;rw [length_append,length_map,length_replicate];lia
theorem Z8u {CX:N9} {P:Program} {w:World} {K:PySem.W.Frag} {mg:Str->Option Value} {base:Heap} {k:Nat} {f:Addr} {name qual:Str} {params:Arguments} {body:List Stmt} {scope:Scope} {dV kV doc pm cdv ct oc:Value} {an od:Option Addr}
  {osl:Array (Option Value)} {N ps:List Str} {sp:Sp} (lk:K.lookup f=some ⟨oc,od,.func (fnOf name qual params body scope dV kV doc pm an cdv ct),osl⟩) (hcd:codeIn K cdv qual=true) (S:FnScope N ps scope)
  (len:∀ vs H Q E,sp vs H Q E->vs.length=ps.length)
  (hbody:∀ (A:Around) (outer:List Env) (s:Shared) (H:Hp) (vs:List V) (Q:VK) (E:XK),Room k (A.deeper (envOfC qual scope s.heap.objs.size f cdv))->sp vs H Q E ->
   ∃ t,Sx (Qh CX P w K mg base N qual scope f cdv A outer s H E) body t/\t { nx:=fun _ H'=>Q .non H',rt:=Q } (start N vs) H) :
  FnOk P w K mg base CX (k+1) f (fnOf name qual params body scope dV kV doc pm an cdv ct) ps sp:=by
 refine ⟨len,fun A outer s H args us vs Q E hr e0 hb r hsp=>?_⟩;have hl:=len _ _ _ _ hsp;have KX:K.In s.heap:=e0.mod.kin.keeps fun b o e=>(e0.bs b o e).1
 have lim:s.heap.NoLimit:=e0.mod.nolimit.keeps fun b o e=>(e0.bs b o e).1
 have hkind:∀ y∈ps.zip us,scope.names.lookup y.1=some .local\/(scope.names.lookup y.1=some .cell/\((cellsFrom (s.heap.objs.size+1) scope.names []).lookup y.1).isSome=true):=fun ⟨n,v⟩ hy=>by
  rcases S.par n (of_mem_zip hy).1 with q | q
  ·exact .inl q
  ·exact .inr ⟨q,cellsFrom_some _ _ _ (.inl q)⟩
 refine codeAny_call_function hr.depth (KX _ _ lk) rfl S.co S.gen rfl (codeRec_of KX hcd) (hb _ _ _ _ ?_);refine wpAny_newFunctionEnv_cells S.kind hkind fun env he s1 x=>?_
 subst he;refine ⟨lim.keeps x.toInCall.keep,codeAny_func ?_⟩;obtain ⟨t,ht,hq⟩:=hbody A outer s H vs Q E (hr.deeper _) hsp;have I:Inv (Qh CX P w K mg base N qual scope f cdv A outer s H E) [] (start N vs) H s1:=Z1p S hr.hd e0 hl r x;refine wpAny_mono (ht [] s1 (start N vs) H _ I hq) (fun fl s' hs=>?_) fun e s' hs=>hs
 have fin:∀ {σ':St} {H':Hp} {v:V} {u:Value},Inv (Qh CX P w K mg base N qual scope f cdv A outer s H E) [] σ' H' s'->Yv v u->Q v H'->CE outer P w H s Q u s' :=
  fun {σ' H' v u} J rv q=>⟨v,H',J.os,J.bare,J.base,J.hok,rv,q⟩
 cases fl with
 | ret u =>
  obtain ⟨v,σ',H',J,rv,q⟩:=hs;exact fin J rv q
 | next =>
  obtain ⟨σ',H',J,q⟩:=hs;exact fin (v:=V.non) (u:=Value.none) J rfl q
 | brk =>
  obtain ⟨_,_,_,q⟩:=hs;exact False.elim q
 | cont =>
  obtain ⟨_,_,_,q⟩:=hs;exact False.elim q
section
variable {X:Cx} {x:Str} {p pos:Pos} {e:Expr} {es:List Expr} {t:TA} {id T:String} {r:List V->Hp->VK->Prop}
def tCB (r:List V->Hp->VK->Prop) (t:TA):TE:=fun σ H Q=>t σ H fun vs H1=>r vs H1 Q
theorem N2 (hc:V5 X (.builtin id) r) (hg:Gl X x) (hm:X.mg x=none) (hv:bootBuiltins x=some (.builtin id)) (ha:PA X (e::es) t) (hn:x≠"__name__" := by decide) (hdb:(x==("__debug__" : Str))=false:=by decide)
  (he:starEach (e::es) X.env=(false,eval e X.env)::starEach es X.env:=by rfl) (hpl:(backTo pos (starEach es X.env)).any (·.1)=false:=by rfl):PE X (.Call (.Name x p) (e::es) [] pos) (tCB r t):=by
 intro pins s σ H Q I h;refine wpAny_Call_Name_kw (R1 I hg hm hv ?_ hn hdb);exact PyProof.Rows.callWith_builtin1 (Wt (ha pos pins s σ H _ I h) fun us s1 ⟨vs,H1,I1,r1,q1⟩=>hc pins s1 σ H1 vs us Q I1 r1 q1) he hpl
theorem Se (hc:V5 X (.type T) r) (hg:Gl X x) (hm:X.mg x=none) (hv:bootBuiltins x=some (.type T)) (ha:PA X (e::es) t) (hn:x≠"__name__" := by decide) (hdb:(x==("__debug__" : Str))=false:=by decide)
  (he:starEach (e::es) X.env=(false,eval e X.env)::starEach es X.env:=by rfl) (hpl:(backTo pos (starEach es X.env)).any (·.1)=false:=by rfl):PE X (.Call (.Name x p) (e::es) [] pos) (tCB r t):=by
 intro pins s σ H Q I h;refine wpAny_Call_Name_kw (R1 I hg hm hv ?_ hn hdb);exact PyProof.Rows.callWith_type1 (Wt (ha pos pins s σ H _ I h) fun us s1 ⟨vs,H1,I1,r1,q1⟩=>hc pins s1 σ H1 vs us Q I1 r1 q1) he hpl
end
end L2
namespace HT
open PySem PyProof.Rows
section
open PySem.SeqAt
open PySem.AutoSeq1 (wpAny_loadPart')
open PySem.MeetsSeq PySem.MeetsSeq2 PySem.MeetsSeq3
end
section
variable {prog:Program} {w:World} {A:Around} {E:Value->Shared->Prop} {s:Shared}
theorem cat_tup {t b:Addr} {vs ws:List Value} {Q:Value->Shared->Prop} (ht:IsTup s.heap t vs.toArray) (hb:IsTup s.heap b ws.toArray) (hv:vs≠[])
  (h1:ws=[]->Q (.ref t) s) (h2:ws≠[]->Q (.ref s.heap.objs.size) { s with heap:=s.heap.push { cls:=.type "tuple",data:=.seq (vs++ws).toArray } })
  (hsz:vs.length+ws.length<=sizeLine):wpAny (model prog w) A (binaryOp .Add (.ref t) (.ref b)) Q E s:=by
 obtain ⟨⟨cls,dd,data,sl⟩,ho,hc,n,hd⟩:=id ht;obtain ⟨⟨cls2,dd2,data2,sl2⟩,ho2,hc2,n2,hd2⟩:=id hb;simp only at hc hd hc2 hd2;subst hc hd hc2 hd2;have e:vs.toArray++ws.toArray=(vs++ws).toArray:=by simp
 by_cases hw:ws=[]
 ·exact concat_meets ⟨_,ho,rfl⟩ ⟨_,ho2,rfl⟩ noFill_tuple_add seq_tuple_add PySem.F.slot_tuple_add PySem.F.entry_tuple_add (PySem.F.args_tuple_add_2 _ _)
   (tuple_addW1 t b vs.toArray ws.toArray n n2 dd dd2 sl sl2 (by simpa using hv) (by simp [hw])) ⟨ho,ho2,h1 hw⟩
 ·refine concat_meets ⟨_,ho,rfl⟩ ⟨_,ho2,rfl⟩ noFill_tuple_add seq_tuple_add PySem.F.slot_tuple_add PySem.F.entry_tuple_add (PySem.F.args_tuple_add_2 _ _)
   (tuple_addW2 t b vs.toArray ws.toArray n n2 dd dd2 sl sl2 (by simpa using hv) (by simpa using hw) (by rw [size_toArray,size_toArray];exact hsz)) ⟨ho,ho2,?_⟩
  rw [e];exact h2 hw
def sIx (n d:Nat):Option Int->Nat
 | none=>d
 | some v=>if v<0 then (v+(n:Int)).toNat else min v.toNat n
theorem sIx_none (n d:Nat):sIx n d none=d:=rfl
theorem sIx_nat (n d k:Nat):sIx n d (some (k:Int))=min k n:=by
 show (if (k:Int)<0 then ((k:Int)+(n:Int)).toNat else min (k:Int).toNat n)=min k n;rw [if_neg (by lia),Int.toNat_natCast]
theorem sIx_le (n d:Nat) (hd:d<=n) (o:Option Int):sIx n d o<=n:=by
 cases o with
 | none=>exact hd
 | some v =>
  show (if v<0 then (v+(n:Int)).toNat else min v.toNat n)<=n;by_cases hv:v<0
  ·rw [if_pos hv];lia
  ·rw [if_neg hv];exact Nat.min_le_right _ _
theorem clip_eq (v:Int) (n d:Nat):(if v<0 then max (v+(n:Int)) 0 else min v (n:Int))=((sIx n d (some v):Nat):Int):=by
 show (if v<0 then max (v+(n:Int)) 0 else min v (n:Int))=(((if v<0 then (v+(n:Int)).toNat else min v.toNat n):Nat):Int);by_cases hv:v<0
 ·simp only [if_pos hv];lia
 ·simp only [if_neg hv];lia
theorem B4 (lo hi:Option Int) (n:Nat):Builtin.Slice.sliceAdjust lo hi 1 (n:Int)=(((sIx n 0 lo:Nat):Int),((sIx n n hi:Nat):Int)):=by
 have h1:¬ ((1:Int)<0):=by lia
 unfold Builtin.Slice.sliceAdjust;simp only [h1,if_false];refine Prod.ext ?_ ?_
 ·cases lo with
  | none=>rfl
  | some v=>exact clip_eq v n 0
 ·cases hi with
  | none=>rfl
  | some v=>exact clip_eq v n n
theorem Br (i j:Nat):Builtin.Slice.slicePlaces (i:Int) (j:Int) 1=j - i:=by
 unfold Builtin.Slice.slicePlaces;have h1:(1:Int) > 0:=by lia
 simp only [h1,if_true,Int.ediv_one];split<;>lia
theorem Lj {v:Value} {o:Option Int} {Q:Option Int->Shared->Prop} (p:IsPart v o) (h:Q o s):wpAny (model prog w) A (Builtin.Slice.slicePartIndex v) Q E s:=by
 cases p with
 | none=>exact slicePart_none h
 | int i t=>exact slicePart_int h
theorem M4 {sl:Addr} {vl vu:Value} {lo hi:Option Int} {n:Nat} {Q:Int×Int×Nat->Shared->Prop} (hs:s.heap.IsSliceOf sl vl vu .none) (pl:IsPart vl lo) (pu:IsPart vu hi)
   (h:Q (((sIx n 0 lo:Nat):Int),1,sIx n n hi - sIx n 0 lo) s):wpAny (model prog w) A (Builtin.Slice.sliceApplied (.ref sl) (pure (n:Int))) Q E s:=by
 obtain ⟨os,hos,hcs,hds⟩:=id hs;unfold Builtin.Slice.sliceApplied Builtin.Slice.sliceFields;refine wpAny_bind (wpAny_bind (wpAny_field hos hds (x:=vl) rfl (wpAny_bind (wpAny_field hos hds (x:=vu) rfl (wpAny_bind (wpAny_field hos hds (x:=.none) rfl (wpAny_pure ?_)))))));refine wpAny_bind (slicePart_none ?_);show wpAny _ _ (if ((1:Int)==0)=true then _ else _) _ _ s;rw [if_neg (by decide)];refine wpAny_bind (Lj pl (wpAny_bind (Lj pu (wpAny_bind (wpAny_pure ?_)))));show wpAny _ _ (match Builtin.Slice.sliceAdjust lo hi 1 (n:Int) with | (lo,hi)=>pure (lo,(1:Int),Builtin.Slice.slicePlaces lo hi 1)) _ _ s;rw [B4 lo hi n];show wpAny _ _ (pure (((sIx n 0 lo:Nat):Int),(1:Int),Builtin.Slice.slicePlaces ((sIx n 0 lo:Nat):Int) ((sIx n n hi:Nat):Int) 1)) _ _ s;rw [Br];exact wpAny_pure h
theorem Z4l (xs:Array Value) (i k:Nat):((List.range k).filterMap fun (m:Nat)=>xs[((i:Int)+(m:Int)*1).toNat]?).toArray=((xs.toList.drop i).take k).toArray:=by
 have e:(fun (m:Nat)=>xs[((i:Int)+(m:Int)*1).toNat]?)=fun m=>xs[i+m]?:=by
  funext m
  have:((i:Int)+(m:Int)*1).toNat=i+m:=by lia
  rw [this]
 rw [e];have:=pick_run xs i k;rw [List.filterMap_map] at this;have e2:((fun x=>xs[x]?) ∘ fun x=>i+x)=fun m=>xs[i+m]?:=rfl
 rw [e2] at this;rw [this]
theorem getItem_tuple_cut {t sl:Addr} {items:Array Value} {vl vu:Value} {lo hi:Option Int} {Q:Value->Shared->Prop} (ht:IsTup s.heap t items) (hs:s.heap.IsSliceOf sl vl vu .none) (pl:IsPart vl lo) (pu:IsPart vu hi)
   (hw:¬ (sIx items.size 0 lo=0/\sIx items.size items.size hi=items.size))
   (h:Q (.ref s.heap.objs.size) { s with heap:=s.heap.push { cls:=.type "tuple",data:=.seq ((items.toList.drop (sIx items.size 0 lo)).take (sIx items.size items.size hi - sIx items.size 0 lo)).toArray } })
   (hsz:items.size<=sizeLine):wpAny (model prog w) A (getItem (.ref t) (.ref sl)) Q E s:=by
 have htake:sizeOk (.seq ((items.toList.drop (sIx items.size 0 lo)).take (sIx items.size items.size hi - sIx items.size 0 lo)).toArray):=by
   show ((items.toList.drop (sIx items.size 0 lo)).take (sIx items.size items.size hi - sIx items.size 0 lo)).toArray.size<=sizeLine;rw [size_toArray,length_take,length_drop,Array.length_toList];lia
 have hj:sIx items.size items.size hi<=items.size:=sIx_le _ _ (le_refl _) hi;obtain ⟨os,hos,hcs,hds⟩:=id hs;have hTs:s.TypeIs (.ref sl) "slice" := ⟨os,hos,hcs⟩;unfold getItem;try with_reducible refine wpAny_holding ?_
 first | refine wpAny_bind (wpAny_pure ?_) | skip
 refine wpAny_bind (wpAny_sequenceKey ht.typeIs (by decide) ?_);refine wpAny_bind (wpAny_callSpecial?_slot (name:=Str.ofString "__getitem__") ht.typeIs PyProof.Rows.slot_tuple_getitem
   (wpAny_call_entry PyProof.Rows.slot_tuple_getitem ht.typeIs entry_tuple_getitem ?_ (args_tuple_getitem _ _)))
 show wpAny _ _ (Builtin.Tuple.tupleItemsOf (.ref t) >>= _) _ _ s;refine wpAny_bind (tupleItemsOf_ ht ?_);refine wpAny_bind (wpAny_typeOf hTs ?_);rw [if_pos (by decide)];refine wpAny_bind (M4 hs pl pu ?_);have hno:¬ ((((sIx items.size 0 lo:Nat):Int)==0&&(1:Int)==1&&(sIx items.size items.size hi - sIx items.size 0 lo)==items.size)=true):=by
   intro q;rw [Bool.and_eq_true,Bool.and_eq_true] at q;have q1:((sIx items.size 0 lo:Nat):Int)=0:=eq_of_beq q.1.1;have q2:sIx items.size items.size hi - sIx items.size 0 lo=items.size:=eq_of_beq q.2;exact hw ⟨by lia,by lia⟩
 show wpAny _ _ (if (((sIx items.size 0 lo:Nat):Int)==0&&(1:Int)==1&&(sIx items.size items.size hi - sIx items.size 0 lo)==items.size)=true then _ else _) _ _ s;rw [if_neg hno,Z4l];first
   | exact wpAny_bind (m:=Builtin.Tuple.tupleExact _) (wpAny_newObj_type (wpAny_pure ⟨_,rfl,wpAny_pure h⟩) htake)
   | exact wpAny_bind (m:=Builtin.Tuple.tupleExact _) (wpAny_newObj_type (wpAny_bind (wpAny_pure (wpAny_pure ⟨_,rfl,wpAny_pure h⟩))) htake)
   | exact wpAny_bind (wpAny_bind (m:=Builtin.Tuple.tupleExact _) (wpAny_newObj_type (wpAny_pure (wpAny_pure ⟨_,rfl,wpAny_pure h⟩)) htake))
   | exact wpAny_bind (wpAny_bind (m:=Builtin.Tuple.tupleExact _) (wpAny_newObj_type (wpAny_pure ⟨_,rfl,wpAny_pure h⟩) htake))
end
end HT
namespace L2
open PySem PySem.Spec PyProof.Rows
abbrev TO:=St->Hp->(Option Int->Hp->Prop)->Prop
def PO (X:Cx) (e:Option Expr) (t:TO):Prop :=
 ∀ (pins:List (Addr×Obj)) (s:Shared) (σ:St) (H:Hp) (Q:Option Int->Hp->Prop),Inv X pins σ H s->t σ H Q ->
  wpAny (model X.prog X.w) X.A (evalPart e X.env) (fun u s'=>∃ o H',Inv X pins σ H' s'/\IsPart u o/\Q o H') X.xe s
def Z7a:TO:=fun _ H Q=>Q none H
def Zd5 (t:TE):TO:=fun σ H Q=>t σ H fun x H1=>∃ i,x=.int i/\Q (some i) H1
theorem Kc {ns:List Int}:∀ {us:List Value},Y2 (ns.map V.int) us->IntsAre us ns:=by
 induction ns with
 | nil=>intro us r;rw [map_nil] at r;cases r;exact .nil
 | cons n ns ih =>
  intro us r;rw [map_cons] at r;cases r with
  | cons r1 r2 =>
   obtain ⟨t,e⟩:=r1;subst e;exact .cons n t (ih r2)
section
variable {X:Cx} {e:Expr} {te:TE} {lo hi:Option Expr} {tl th:TO} {pos p2:Pos}
theorem Z86:PO X none Z7a:=by
 intro pins s σ H Q I h;rw [evalPart_none];exact wpAny_pure ⟨none,H,I,.none,h⟩
theorem Z6k (h:PE X e te):PO X (some e) (Zd5 te):=by
 intro pins s σ H Q I hw;rw [evalPart_some];refine Wt (h pins s σ H _ I hw) fun u s1 ⟨x,H1,I1,r1,q1⟩=>?_
 obtain ⟨i,rfl,q⟩:=q1;obtain ⟨t,rfl⟩:=r1;exact ⟨some i,H1,I1,.int i t,q⟩
def Ch (X:Cx) (r:V->Option Int->Option Int->Hp->VK->Prop):Prop :=
 ∀ (pins:List (Addr×Obj)) (s:Shared) (σ:St) (H:Hp) (x:V) (v vl vu:Value) (lo hi:Option Int) (sl:Addr) (Q:VK),Inv X pins σ H s->Yv x v->s.heap.IsSliceOf sl vl vu .none->IsPart vl lo->IsPart vu hi->r x lo hi H Q ->
  ∃ T id,typeLookup (.type T) "__getitem__" = pure (some (.builtin id))/\s.TypeIs v T/\wpAny (model X.prog X.w) X.A (getItem v (.ref sl)) (EP X pins σ Q) X.xe s
theorem Ch.or {r r':V->Option Int->Option Int->Hp->VK->Prop} (h:Ch X r) (h':Ch X r'):Ch X (fun x lo hi H Q=>r x lo hi H Q\/r' x lo hi H Q):=by
 intro pins s σ H x v vl vu lo hi sl Q I rx hs pl pu q;rcases q with q | q
 ·exact h pins s σ H x v vl vu lo hi sl Q I rx hs pl pu q
 ·exact h' pins s σ H x v vl vu lo hi sl Q I rx hs pl pu q
def tSl (r:V->Option Int->Option Int->Hp->VK->Prop) (te:TE) (tl th:TO):TE:=fun σ H Q=>te σ H fun x H1=>tl σ H1 fun l H2=>th σ H2 fun u H3=>r x l u H3 Q
theorem Z2x {r:V->Option Int->Option Int->Hp->VK->Prop} (hr:Ch X r) (he:PE X e te) (hl:PO X lo tl) (hu:PO X hi th):PE X (.Subscript e (.Slice lo hi none p2) pos) (tSl r te tl th):=by
 intro pins s σ H Q I h;refine Subscript_ (Wt (he pins s σ H _ I h) fun v s1 ⟨x,H1,I1,r1,q1⟩=>?_);refine wpAny_Slice (Wt (hl pins s1 σ H1 _ I1 q1) fun vl s2 ⟨l,H2,I2,pl,q2⟩=>Wt (hu pins s2 σ H2 _ I2 q2) fun vu s3 ⟨u,H3,I3,pu,q3⟩=>?_);rw [evalPart_none];refine wpAny_pure ?_;have I4:Inv X pins σ H3 { s3 with heap:=s3.heap.push { cls:=.type "slice",data:=.fields #[vl,vu,.none] } }:=I3.kept (t':=s3.toks) fun b ob q=>get?_push_of_some _ q
 obtain ⟨T,id,hT,ht,hg⟩:=hr pins { s3 with heap:=s3.heap.push { cls:=.type "slice",data:=.fields #[vl,vu,.none] } } σ H3 x v vl vu l u s3.heap.objs.size Q I4 r1 (Heap.IsSliceOf.new ..) pl pu q3;show wpAny (model X.prog X.w) X.A (subscriptTail e (.Slice lo hi none p2) v (.ref s3.heap.objs.size)) (EP X pins σ Q) X.xe { s3 with heap:=s3.heap.push { cls:=.type "slice",data:=.fields #[vl,vu,.none] } };exact tail_any (ops:=[.ref s3.heap.objs.size,v]) ht hT hg (by with_unfolding_all rfl)
def Xh (xs:List V) (lo hi:Option Int):List V:=(xs.drop (HT.sIx xs.length 0 lo)).take (HT.sIx xs.length xs.length hi - HT.sIx xs.length 0 lo)
theorem Hb (xs:List V) (lo hi:Option Int):(Xh xs lo hi).length<=xs.length:=by
 unfold Xh;rw [length_take,length_drop];lia
def Zcz (K:PySem.W.Frag):V->Option Int->Option Int->Hp->VK->Prop:=fun x lo hi H Q=>∃ a xs,x=.ref a/\Sz K H a xs /\
 ¬ (HT.sIx xs.length 0 lo=0/\HT.sIx xs.length xs.length hi=xs.length)/\∀ p,H p=none->Q (.ref p) (We H p (.tup (Xh xs lo hi)))
theorem Zb1:Ch X (Zcz X.K):=by
 intro pins s σ H x v vl vu lo hi sl Q I rx hs pl pu h;obtain ⟨a,xs,rfl,hx,hw,q⟩:=h;cases rx;obtain ⟨its,r,ht,hz⟩:=I.tuple hx;have hlen:its.toArray.size=xs.length:=by rw [size_toArray];exact r.length.symm
 refine ⟨"tuple",_,PyProof.Rows.slot_tuple_getitem.lookup,ht.typeIs,?_⟩;refine HT.getItem_tuple_cut ht hs pl pu (by rw [hlen];exact hw) ?_ (by rw [hlen];exact hz);rw [hlen];refine ⟨.ref s.heap.objs.size,_,I.laid (t':=s.toks) (o:=.tup (Xh xs lo hi)) (fun b ob q=>get?_push_of_some _ q) (le_refl _) ?_,rfl,q _ (I.hok.fresh (le_refl _))⟩;exact ⟨le_trans (Hb xs lo hi) hz,_,(r.drop (HT.sIx xs.length 0 lo)).take (HT.sIx xs.length xs.length hi - HT.sIx xs.length 0 lo),IsTup.new _ _⟩
def Zco (K:PySem.W.Frag):R2:=fun x y H Q=>∃ a b xs ys,x=.ref a/\y=.ref b/\Sz K H a xs/\Sz K H b ys/\xs≠[]/\xs.length+ys.length<=sizeLine /\
 (ys=[]->Q (.ref a) H)/\(ys≠[]->∀ p,H p=none->Q (.ref p) (We H p (.tup (xs++ys))))
theorem Y2.nil_iff {xs:List V} {us:List Value} (r:Y2 xs us):us=[]↔xs=[]:=by
 cases r with
 | nil=>simp
 | cons _ _=>simp
theorem Z75:Rf X (binaryOp .Add) (Zco X.K):=by
 intro pins s σ H x y v u Q I rx ry h;obtain ⟨a,b,xs,ys,rfl,rfl,ha,hb,hx,hz,q1,q2⟩:=h;cases rx;cases ry;obtain ⟨its,r1,p1,_⟩:=I.tuple ha;obtain ⟨its2,r2,p2,_⟩:=I.tuple hb;refine HT.cat_tup p1 p2 (fun z=>hx (r1.nil_iff.mp z)) (fun z=>⟨.ref a,H,I,rfl,q1 (r2.nil_iff.mp z)⟩) (fun z=>?_) (by rw [← r1.length,← r2.length];exact hz);refine ⟨.ref s.heap.objs.size,_,I.laid (t':=s.toks) (o:=.tup (xs++ys)) (fun b ob q=>get?_push_of_some _ q) (le_refl _) ?_,rfl,q2 (fun w=>z (r2.nil_iff.mpr w)) _ (I.hok.fresh (le_refl _))⟩;exact ⟨by rw [length_append];exact hz,_,r1.append r2,IsTup.new _ _⟩
end
def ixN (n:Nat) (i:Int):Option Nat:=if 0<=i then (if i<n then some i.toNat else none) else if -(n:Int)<=i then some (i+n).toNat else none
def Nz {α:Type} (xs:List α) (i:Int):Option α:=(ixN xs.length i).bind fun j=>xs[j]?
theorem Z83 {n:Nat} {i:Int} {j:Nat} (h:ixN n i=some j):seqIndex? i n=some j/\j<n/\-(n:Int)<=i/\i<n:=by
 unfold ixN at h;by_cases h0:0<=i
 ·rw [if_pos h0] at h
  by_cases h1:i<n
  ·rw [if_pos h1] at h
   have e:i.toNat=j:=Option.some.inj h;exact ⟨by rw [seqIndex_of h0 h1,e],by lia,by lia,h1⟩
  ·rw [if_neg h1] at h;cases h
 ·rw [if_neg h0] at h
  by_cases h1 : -(n:Int)<=i
  ·rw [if_pos h1] at h
   have e:(i+n).toNat=j:=Option.some.inj h;exact ⟨by rw [seqIndex_neg (by lia) h1,e],by lia,h1,by lia⟩
  ·rw [if_neg h1] at h;cases h
theorem Op {α:Type} {xs:List α} {i:Int} {v:α} (h:Nz xs i=some v):∃ j,seqIndex? i xs.length=some j/\xs[j]?=some v/\j<xs.length/\-(xs.length:Int)<=i/\i<xs.length:=by
 unfold Nz at h;cases e:ixN xs.length i with
 | none=>rw [e] at h;cases h
 | some j =>
  rw [e] at h;obtain ⟨h1,h2,h3,h4⟩:=Z83 e;exact ⟨j,h1,h,h2,h3,h4⟩
theorem Et {α:Type} {xs:List α} {j:Nat} {v:α} (h:xs[j]?=some v):Nz xs (j:Int)=some v:=by
 have hj:j<xs.length:=(List.getElem?_eq_some_iff.mp h).1;have e:ixN xs.length (j:Int)=some j:=by
  unfold ixN;rw [if_pos (by lia),if_pos (by lia)];simp
 unfold Nz;rw [e];exact h
def K1 (b:Expr):Prop:=∀ o i,subscripted b false o i=operate [o,i] (getItem o i)
def Cm (X:Cx) (r:R2):Prop :=
 ∀ (value slice:Expr) (pins:List (Addr×Obj)) (s:Shared) (σ:St) (H:Hp) (x y:V) (v u:Value) (Q:VK),Inv X pins σ H s->Yv x v->Yv y u->r x y H Q ->
  subscripted slice false v u=operate [v,u] (getItem v u)->wpAny (model X.prog X.w) X.A (subscriptTail value slice v u) (EP X pins σ Q) X.xe s
def MtR (X:Cx) (id:String) (r:V->List V->Hp->VK->Prop):Prop :=
 ∀ (pins:List (Addr×Obj)) (s:Shared) (σ:St) (H:Hp) (x:V) (xs:List V) (v:Value) (us:List Value) (Q:VK),Inv X pins σ H s->Yv x v->Y2 xs us->r x xs H Q ->
  wpAny (model X.prog X.w) X.A (call (.builtin id) (v::us)) (EP X pins σ Q) X.xe s
section
variable {X:Cx} {a b:Expr} {ta tb:TE} {pos:Pos}
theorem Cm.or {r r':R2} (h:Cm X r) (h':Cm X r'):Cm X (fun x y H Q=>r x y H Q\/r' x y H Q):=by
 intro value slice pins s σ H x y v u Q I rx ry q hs;rcases q with q | q
 ·exact h value slice pins s σ H x y v u Q I rx ry q hs
 ·exact h' value slice pins s σ H x y v u Q I rx ry q hs
theorem Z5g {r:R2} (hr:Cm X r) (ha:PE X a ta) (hb:PE X b tb) (hs:K1 b):PE X (.Subscript a b pos) (tOp r ta tb):=by
 intro pins s σ H Q I h;exact Subscript_ (Zc4 ha hb I h fun v u s2 x y H2 I2 rx ry q=>hr a b pins s2 σ H2 x y v u Q I2 rx ry q (hs _ _))
def Zdt (K:PySem.W.Frag):R2:=fun x y H Q=>∃ p xs i v,x=.ref p/\y=.int i/\S9 K H p xs/\Nz xs i=some v/\Q v H
def Zd8 (K:PySem.W.Frag):R2:=fun x y H Q=>∃ p xs i v,x=.ref p/\y=.int i/\Sz K H p xs/\Nz xs i=some v/\Q v H
def Zd0:R2:=fun x y H Q=>∃ z i c,x=.str z/\y=.int i/\z.length<=sizeLine/\Nz z.cps.toList i=some c/\Q (.str ⟨#[c]⟩) H
theorem Ol:Cm X (Zdt X.K):=by
 intro value slice pins s σ H x y v u Q I rx ry h hs;obtain ⟨p,xs,i,z,rfl,rfl,hq,he,q⟩:=h;cases rx;obtain ⟨t,rfl⟩:=ry;obtain ⟨its,r,pl,hz⟩:=I.list hq;obtain ⟨j,h1,h2,h3,h4,h5⟩:=Op he;obtain ⟨w,ew,rw'⟩:=r.get h2;have hl:=r.length;have hn:=G6;have fin:EP X pins σ Q w s:=⟨z,H,I,rw',q⟩;by_cases h0:0<=i
 ·have hj:i.toNat=j:=by
   rw [seqIndex_of h0 h5] at h1;exact Option.some.inj h1
  exact item_listR pl.isList h0 (by lia) (by rw [hj];simpa using ew) fin hs
 ·have hj:(i+(its.toArray.size:Int)).toNat=j:=by
   rw [seqIndex_neg (by lia) h4] at h1;rw [size_toArray,← hl];exact Option.some.inj h1
  exact subscriptTail_builtinR (x:=w) pl.isList.typeIs slot_list_getitem.lookup
   (wpAny_getItem_list_neg (Q:=fun r s'=>r=w/\EP X pins σ Q r s') pl.isList (by lia) (by rw [size_toArray]<;>lia) (by lia) (by rw [hj];simpa using ew) ⟨rfl,fin⟩) hs
theorem Zbe:Cm X (Zd8 X.K):=by
 intro value slice pins s σ H x y v u Q I rx ry h hs;obtain ⟨p,xs,i,z,rfl,rfl,hq,he,q⟩:=h;cases rx;obtain ⟨t,rfl⟩:=ry;obtain ⟨its,r,pl,hz⟩:=I.tuple hq;obtain ⟨j,h1,h2,h3,h4,h5⟩:=Op he;obtain ⟨w,ew,rw'⟩:=r.get h2;have hl:=r.length;have hn:=G6;have fin:EP X pins σ Q w s:=⟨z,H,I,rw',q⟩;exact subscriptTail_builtinR (x:=w) pl.typeIs slot_tuple_getitem.lookup
  (getItem_tuple (j:=j) (Q:=fun r s'=>r=w/\EP X pins σ Q r s') pl (by lia) (by lia) (by rw [size_toArray,← hl];exact h1) (by simpa using ew) ⟨rfl,fin⟩) hs
theorem Zbl:Cm X Zd0:=by
 intro value slice pins s σ H x y v u Q I rx ry h hs;obtain ⟨z,i,c,rfl,rfl,hz,he,q⟩:=h;obtain ⟨t,rfl⟩:=rx;obtain ⟨t',rfl⟩:=ry;obtain ⟨j,h1,h2,h3,h4,h5⟩:=Op he;have hl:z.cps.toList.length=z.length:=by simp [Str.length]
 rw [hl] at h1 h4 h5;have hn:=G6;exact tail_any (typeIs_str s z t) slot_str_getitem.lookup (getItem_str (c:=c) (by
  have e1:decide (i < -(2^63:Int))=false:=decide_eq_false (by lia);have e2:decide (i≥2^63)=false:=decide_eq_false (by lia);rw [e1,e2,Bool.or_false]) (by rw [h1];simpa using h2) ⟨.str ⟨#[c]⟩,H,I.tok _,⟨_,rfl⟩,q⟩) hs
def rIx (K:PySem.W.Frag):R2:=fun x y H Q=>Zdt K x y H Q\/Zd8 K x y H Q\/Zd0 x y H Q
theorem Z9h:Cm X (rIx X.K):=Ol.or (Zbe.or Zbl)
theorem X3 (lo hi:Option Int) (n:Nat):(sliceBounds lo hi none n).1=((HT.sIx n 0 lo:Nat):Int)/\(sliceBounds lo hi none n).2.1=((HT.sIx n n hi:Nat):Int)/\(sliceBounds lo hi none n).2.2=1:=by
 refine ⟨?_,?_,rfl⟩
 ·cases lo with
  | none=>simp [sliceBounds,HT.sIx]
  | some i =>
   simp only [sliceBounds,HT.sIx,Option.getD_none,show (1:Int) > 0 by decide,if_true];by_cases h:i<0
   ·simp only [h,if_true]<;>lia
   ·simp only [h,if_false]<;>lia
 ·cases hi with
  | none=>simp [sliceBounds,HT.sIx]
  | some i =>
   simp only [sliceBounds,HT.sIx,Option.getD_none,show (1:Int) > 0 by decide,if_true];by_cases h:i<0
   ·simp only [h,if_true]<;>lia
   ·simp only [h,if_false]<;>lia
theorem Nh (its:List Value) (lo hi:Option Int):slicePick its.toArray lo hi none=((its.drop (HT.sIx its.length 0 lo)).take (HT.sIx its.length its.length hi - HT.sIx its.length 0 lo)).toArray:=by
 obtain ⟨h1,h2,h3⟩:=X3 lo hi its.toArray.size;unfold slicePick;rw [h1,h2,h3];simp only [sliceRange_one,pick_run,size_toArray]<;>rfl
def Zdh (K:PySem.W.Frag):V->Option Int->Option Int->Hp->VK->Prop:=fun x lo hi H Q=>∃ a xs,x=.ref a/\S9 K H a xs/\∀ p,H p=none->Q (.ref p) (We H p (.lst (Xh xs lo hi)))
theorem Z7e:Ch X (Zdh X.K):=by
 intro pins s σ H x v vl vu lo hi sl Q I rx hs pl pu h;obtain ⟨a,xs,rfl,hx,q⟩:=h;cases rx;obtain ⟨its,r,ht,hz⟩:=I.list hx;have hlen:=r.length;refine ⟨"list",_,slot_list_getitem.lookup,ht.isList.typeIs,?_⟩;refine wpAny_getItem_list_slice ht.isList hs pl pu .none (by simp) ?_ (by rw [size_toArray]<;>lia);rw [Nh,← hlen];refine ⟨.ref s.heap.objs.size,_,I.laid (t':=s.toks) (o:=.lst (Xh xs lo hi)) (fun b ob q=>get?_push_of_some _ q) (le_refl _) ?_,rfl,q _ (I.hok.fresh (le_refl _))⟩;exact ⟨le_trans (Hb xs lo hi) hz,_,0,(r.drop (HT.sIx xs.length 0 lo)).take (HT.sIx xs.length xs.length hi - HT.sIx xs.length 0 lo),get?_push_size _ rfl⟩
theorem Pz:Rf X (compareOp .NotIn) (fun x y H Q=>∃ i j,x=.str i/\y=.str j/\Q (.bl (!(!(Builtin.Str.occurrences j i 0 j.length 1).isEmpty))) H):=by
 intro pins s σ H x y v u Q I rx ry h;obtain ⟨i,j,rfl,rfl,q⟩:=h;obtain ⟨t,rfl⟩:=rx;obtain ⟨t',rfl⟩:=ry;exact notIn_str ⟨.bl _,H,I,rfl,q⟩
theorem Pg:V5 X (.builtin "len") (fun xs H Q=>∃ p ys,xs=[.ref p]/\(S9 X.K H p ys\/Sz X.K H p ys)/\Q (.int ys.length) H):=by
 intro pins s σ H xs us Q I r h;obtain ⟨p,ys,rfl,hq,q⟩:=h;obtain ⟨u,rfl,rx⟩:=Ji r;cases rx;have hn:=G6;rcases hq with hq | hq
 ·obtain ⟨its,r',pl,hz⟩:=I.list hq
  have hlen:=r'.length;exact Calls.call_len_list pl.isList (by simp only [size_toArray]<;>lia) ⟨.int ys.length,H,I.tok _,⟨s.toks+1,by rw [size_toArray,hlen]⟩,q⟩
 ·obtain ⟨its,r',pl,hz⟩:=I.tuple hq
  have hlen:=r'.length;exact len_tuple pl (by simp only [size_toArray]<;>lia) ⟨.int ys.length,H,I.tok _,⟨s.toks+1,by rw [size_toArray,hlen]⟩,q⟩
theorem Pj:V5 X (.builtin "len") (fun xs H Q=>∃ z,xs=[.str z]/\z.length<=sizeLine/\Q (.int z.length) H):=by
 intro pins s σ H xs us Q I r h;obtain ⟨z,rfl,hz,q⟩:=h;obtain ⟨u,rfl,t,rfl⟩:=Ji r;have hn:=G6;exact len_str (by lia) ⟨.int z.length,H,I.tok _,⟨_,rfl⟩,q⟩
theorem V5.or {f:Value} {r r':List V->Hp->VK->Prop} (h:V5 X f r) (h':V5 X f r'):V5 X f (fun xs H Q=>r xs H Q\/r' xs H Q):=by
 intro pins s σ H xs us Q I rs q;rcases q with q | q
 ·exact h pins s σ H xs us Q I rs q
 ·exact h' pins s σ H xs us Q I rs q
theorem Xb:V5 X (.type "list") (fun xs H Q=>∃ p ys,xs=[.ref p]/\(S9 X.K H p ys\/Sz X.K H p ys)/\∀ l,H l=none->Q (.ref l) (We H l (.lst ys))):=by
 intro pins s σ H xs us Q I r h;obtain ⟨p,ys,rfl,hq,q⟩:=h;obtain ⟨u,rfl,rx⟩:=Ji r;cases rx;have fin:∀ (its:List Value),Y2 ys its->ys.length<=sizeLine->∀ (h':Heap) (c':Nat),(∀ b o',s.heap.get? b=some o'->h'.get? b=some o') ->
   h'.get? s.heap.objs.size=some { cls:=.type "list",dict:=none,data:=.seq its.toArray c',slots:=#[] }->EP X pins σ Q (.ref s.heap.objs.size) { s with heap:=h' }:=fun its r' hz h' c' kp e =>
  ⟨.ref s.heap.objs.size,_,I.laid (t':=s.toks) kp (le_refl _) (show W9 X.prog X.w _ h' _ (.lst ys) from ⟨hz,its,c',r',e⟩),rfl,q _ (I.hok.fresh (le_refl _))⟩
 rcases hq with hq | hq
 ·obtain ⟨its,r',pl,hz⟩:=I.list hq
  have hlen:=r'.length;obtain ⟨o,ho,hc,n,hd⟩:=pl.isList;exact call_list_seq p (.inl rfl) ho hc hd (fun h' c' kp e=>fin its r' hz h' c' kp e) (by simp only [size_toArray]<;>lia)
 ·obtain ⟨its,r',pl,hz⟩:=I.tuple hq
  have hlen:=r'.length;obtain ⟨o,ho,hc,n,hd⟩:=pl;exact call_list_seq p (.inr rfl) ho hc hd (fun h' c' kp e=>fin its r' hz h' c' kp e) (by simp only [size_toArray]<;>lia)
theorem Na:V5 X (.type "tuple") (fun xs H Q=>∃ p ys,xs=[.ref p]/\((S9 X.K H p ys/\∀ l,H l=none->Q (.ref l) (We H l (.tup ys)))\/(Sz X.K H p ys/\Q (.ref p) H))):=by
 intro pins s σ H xs us Q I r h;obtain ⟨p,ys,rfl,h⟩:=h;obtain ⟨u,rfl,rx⟩:=Ji r;cases rx;rcases h with ⟨hq,q⟩ | ⟨hq,q⟩
 ·obtain ⟨its,r',pl,hz⟩:=I.list hq
  have hlen:=r'.length;refine call_tuple_list pl.isList (fun h' kp=>?_) (by simp only [size_toArray]<;>lia);have I1:Inv X pins σ H { s with heap:=h' }:=I.kept (t':=s.toks) kp;have I2:Inv X pins σ (We H h'.objs.size (.tup ys)) { s with heap:=h'.push { cls:=.type "tuple",data:=.seq its.toArray } } :=
   I1.laid (t':=s.toks) (fun b o e=>get?_push_of_some _ e) (le_refl _) (show W9 X.prog X.w _ _ _ (.tup ys) from ⟨hz,its,r',IsTup.new _ _⟩)
  exact ⟨.ref h'.objs.size,_,I2,rfl,q _ (I1.hok.fresh (le_refl _))⟩
 ·obtain ⟨its,r',pl,hz⟩:=I.tuple hq
  exact call_tuple_same pl ⟨.ref p,H,I,rfl,q⟩
def tyV (K:PySem.W.Frag) (T:String) (x:V) (H:Hp):Prop:=match x with
 | .str _=>T="str"
 | .int _=>T="int"
 | .ref p=>(T="list" /\ ∃ xs,S9 K H p xs)\/(T="tuple" /\ ∃ o,K.lookup p=some o/\o.cls=.type "tuple" /\ o.dict=none) \/
  (T="dict" /\ ((∃ kvs,H p=some (.dK kvs))\/∃ kvs,H p=some (.dT kvs)))\/(T="set" /\ ∃ S n,H p=some (.set S n))
 | _=>False
theorem Zap {pins:List (Addr×Obj)} {σ:St} {H:Hp} {s:Shared} {T:String} {x:V} {v:Value} (I:Inv X pins σ H s) (r:Yv x v) (ty:tyV X.K T x H) :
  s.TypeIs v T/\∀ a,v=.ref a->∃ ob,s.heap.get? a=some ob/\ob.dict=none:=by
 cases x with
 | str z =>
  obtain ⟨t,rfl⟩:=r;cases (show T="str" from ty);exact ⟨typeIs_str s z t,fun _ e=>nomatch e⟩
 | int i =>
  obtain ⟨t,rfl⟩:=r;cases (show T="int" from ty);exact ⟨typeIs_int s i t,fun _ e=>nomatch e⟩
 | ref p =>
  cases r;rcases ty with ⟨rfl,xs,hq⟩ | ⟨rfl,o,hk,hc,hd⟩ | ⟨rfl,hk⟩ | ⟨rfl,S,n,hk⟩
  ·obtain ⟨its,_,pl,_⟩:=I.list hq
   refine ⟨pl.isList.typeIs,fun a e=>?_⟩;cases e;obtain ⟨o,n,e,c,hd,_⟩:=pl;exact ⟨o,e,hd⟩
  ·refine ⟨⟨o,I.kIn p o hk,hc⟩,fun a e=>?_⟩
   cases e;exact ⟨o,I.kIn _ o hk,hd⟩
  ·have z:∃ o,s.heap.get? p=some o/\o.ExactDict:=by
    rcases hk with ⟨kvs,hk⟩ | ⟨kvs,hk⟩
    ·obtain ⟨_,_,_,_,o,_,_,e,ex,_⟩:=I.hok p _ hk
     exact ⟨o,e,ex⟩
    ·obtain ⟨_,_,_,_,o,_,_,e,ex,_⟩:=I.hok p _ hk
     exact ⟨o,e,ex⟩
   obtain ⟨o,e,ex⟩:=z;refine ⟨⟨o,e,ex.1⟩,fun a e2=>?_⟩;cases e2;exact ⟨o,e,ex.2.1⟩
  ·obtain ⟨o,_,_,_,e,ex,_⟩:=I.hok p _ hk
   refine ⟨⟨o,e,ex.1⟩,fun a e2=>?_⟩;cases e2;exact ⟨o,e,ex.2.1⟩
 | _=>exact False.elim ty
def tBM (K:PySem.W.Frag) (T:String) (r:V->List V->Hp->VK->Prop) (to:TE) (t:TA):TE:=fun σ H Q=>to σ H fun x H1=>tyV K T x H1/\t σ H1 fun xs H2=>r x xs H2 Q
variable {o e:Expr} {es:List Expr} {to:TE} {t:TA} {name:Str} {apos cpos:Pos} {T id:String} {r:V->List V->Hp->VK->Prop}
theorem Z3a (pa:PlainAttrs T) (slot:Slot T name id) (hty:typeOf (.builtin id)=pure (.type "method_descriptor")) (hm:MtR X id r) (ho:PE X o to) (ha:PA X (e::es) t)
   (hbase:attributeBase o name X.env (eval o X.env)=eval o X.env:=by rfl)
   (hfew:((backTo cpos (starEach (e::es) X.env)).all (fun x=>!x.1)&&(backToKw cpos (keywordEach [] X.env)).all (fun x=>x.1.isSome)
     && decide ((e::es).length+([]:List Keyword).length+(if ([]:List Keyword).isEmpty then 0 else 1)<30))=true:=by rfl)
   (hline:(apos.endLine==cpos.line)=true:=by rfl) (hs:starEach (e::es) X.env=(false,eval e X.env)::starEach es X.env:=by rfl) (hplain:(backTo cpos (starEach es X.env)).any (·.1)=false:=by rfl) :
   PE X (.Call (.Attribute o name apos) (e::es) [] cpos) (tBM X.K T r to t):=by
 intro pins s σ H Q I h;refine wpAny_Call_method_late hbase hfew hline rfl (Wt (ho pins s σ H _ I h) fun v s1 ⟨x,H1,I1,r1,ty,q1⟩=>?_);obtain ⟨h1,h2⟩:=Zap I1 r1 ty;refine ⟨T,id,pa,slot,hty,h1,h2,?_⟩;have hA:=ha cpos pins s1 σ H1 _ I1 q1;rw [hs] at hA ⊢;refine Calls.callWith_builtin (by show (false||(backTo cpos (starEach es X.env)).any (·.1))=false;rw [hplain]<;>rfl) (Calls.evalArgs_plain ?_);exact Wt hA fun us s2 ⟨vs,H2,I2,r2,q2⟩=>hm pins s2 σ H2 x vs v us Q I2 r1 r2 q2
end
def MtM (X:Cx) (id:String) (r:V->List V->Hp->VK->Prop):Prop :=
 ∀ (pins:List (Addr×Obj)) (s:Shared) (σ:St) (H:Hp) (x:V) (xs:List V) (v:Value) (us:List Value) (Q:VK),Inv X pins σ H s->Yv x v->Y2 xs us->r x xs H Q ->
  wpAny (model X.prog X.w) X.A (call (.builtin id) (v::us)) (EP X pins σ Q) X.xe s
theorem Y2.one:∀ {x:V} {us:List Value},Y2 [x] us->∃ u,us=[u]/\Yv x u
 | _,_,.cons r .nil=>⟨_,rfl,r⟩
section
variable {X:Cx} {pins:List (Addr×Obj)} {σ:St} {H:Hp} {s:Shared} {l b:Addr} {xs ys zs:List V}
theorem Inv.lset {its its':List Value} {n:Nat} {f:Array Value->Array Value} {t':Nat} (I:Inv X pins σ H s) (hH:H l=some (.lst xs))
  (e:s.heap.get? l=some { cls:=.type "list",data:=.seq its.toArray n }) (hf:f its.toArray=its'.toArray) (hv:Y2 ys its') (hz:ys.length<=sizeLine) :
  Inv X pins σ (We H l (.lst ys)) { s with heap:=s.heap.update l (Obj.mapSeq f),toks:=t' }:=by
 have q:=PySem.IsL.update e f;rw [hf] at q;refine I.write (x:=l) (e:=l) (by rw [hH];exact trivial) (.inl rfl) (fun b' u hb hu=>(get?_update_other s.heap (Obj.mapSeq f) (Ne.symm hb)).trans hu) ⟨_,q⟩ ?_;exact ⟨hz,its',_,hv,q⟩
theorem Inv.lnew {its:List Value} {t':Nat} (I:Inv X pins σ H s) (hv:Y2 ys its) (hz:ys.length<=sizeLine) :
  Inv X pins σ (We H s.heap.objs.size (.lst ys)) { s with heap:=s.heap.push { cls:=.type "list",data:=.seq its.toArray },toks:=t' } :=
 I.laid (fun _ _ q=>get?_push_of_some _ q) (le_refl _) ⟨hz,its,0,hv,get?_push_size _ rfl⟩
theorem Inv.fresh (I:Inv X pins σ H s):H s.heap.objs.size=none:=I.hok.fresh (le_refl _)
theorem Inv.lstM (I:Inv X pins σ H s) (hH:H l=some (.lst xs)):xs.length<=sizeLine/\∃ (its:List Value) (n:Nat),Y2 xs its/\xs.length=its.length/\s.heap.get? l=some { cls:=.type "list",data:=.seq its.toArray n }:=by
 obtain ⟨z,its,n,r,e⟩:=I.hok l _ hH;exact ⟨z,its,n,r,r.length,e⟩
end
section
variable {X:Cx}
def Z8a:V->List V->Hp->VK->Prop:=fun x vs H Q=>∃ l xs y,x=.ref l/\vs=[y]/\H l=some (.lst xs)/\xs.length<sizeLine/\Q .non (We H l (.lst (xs++[y])))
theorem Nl:MtM X "list.append" Z8a:=by
 intro pins s σ H x vs v us Q I rx rv h;obtain ⟨l,xs,y,rfl,rfl,hH,hz,q⟩:=h;cases rx;obtain ⟨u,rfl,ru⟩:=rv.one;obtain ⟨z,its,n,r,hl,e⟩:=I.lstM hH;refine call_meets F.slot_list_append ⟨_,e,rfl⟩ F.entry_list_append (F.args_list_append_2 _ _) (PySem.list_append l its.toArray n u (by rw [size_toArray];lia)) ⟨e,?_⟩;refine ⟨.non,_,I.lset (its':=its++[u]) hH e (by simp) (r.append (.cons ru .nil)) ?_,rfl,q⟩;rw [length_append,length_singleton];lia
end
section
variable {prog:Program} {w:World} {A:Around} {E:Value->Shared->Prop} {s:Shared}
end
section
variable {X:Cx}
end
end L2
namespace Att
open PySem PySem.W PySem.Calls PyProof.Rows
theorem I0 {P:Params} {h:Heap}:∀ (ns:List Int) (vs:List Value),WellAll P h vs (ns.map WData.int)->IntsAre vs ns:=by
 intro ns;induction ns with
 | nil =>
  intro vs w;rw [map_nil] at w;cases w;exact .nil
 | cons n ns ih =>
  intro vs w;rw [map_cons] at w;cases w with
  | cons a b =>
   cases a;exact .cons _ _ (ih _ b)
theorem Z1v {l:OpenLaw} {n:Nat} (hn:l.most=some n) {P:Params} {h:Heap} {args:List WData} {vals:List Value}
   (hpre:l.row.toRowW.claim.pre args=true) (hwl:WellAll P h vals args) :
   ∃ a vs ns,vals=[Value.ref a]/\args=[WData.list (ns.map WData.int)]/\h.get? a=some { cls:=.type "list",data:=.seq vs.toArray }/\IntsAre vs ns/\ns.length<=n:=by
 have hsh:WShape.hasAll [] args [.list .int]=true:=(pre_splitW hpre).1;have hc:l.pre.holds [] { args:=args }=true:=(pre_splitW hpre).2;obtain ⟨d,r,rfl,h1,h2⟩:=hasAllW_cons hsh;obtain rfl:=hasAllW_nil h2;obtain ⟨xs,rfl,h3⟩:=hasW_list h1;obtain ⟨ns,rfl⟩:=items_int h3;have hlen:ns.length<=n:=by
   unfold OpenLaw.pre at hc;have h4:(WTm.not (.lt (.lit (.int (n:Int))) (.len (.arg 0)))).holds [] { args:=[.list (ns.map .int)] }=true:=by
     have h4:=(holds_andW hc).1;rw [hn] at h4;exact h4
   have h5:=condW_of h4 (w_not (w_lt w_lit (w_len_list (w_arg rfl))));rw [length_map] at h5;refine Nat.le_of_not_lt fun q=>?_
   have q':(n:Int)<((ns.length:Nat):Int):=by lia
   first
     | (rw [decide_eq_true q'] at h5;exact absurd h5 (by decide))
     | (simp at h5;lia)
 cases hwl with
 | cons w1 w2 =>
   cases w2;cases w1 with
   | list ho hall=>exact ⟨_,_,ns,rfl,rfl,ho,I0 ns _ hall,hlen⟩
theorem Z17 (l:OpenLaw) (args:List WData):l.row.toRowW.claim.post args (.bool true) args=true :=
 postW_of (r:=l.row.toRowW) (X:=(true==true))
  (show WShape.has [] (.bool true) .bool=true by first | rfl | decide | simp [WShape.has,WShape.arms,WShape.armsAll])
  (show (WTm.eq .res (.lit (.bool true))).value [] { args:=args,res:=some (.bool true),after:=args }=some (.bool (true==true)) from w_eq_bool (w_res rfl) w_lit) rfl
theorem attach_call {l:OpenLaw} {n:Nat} {q:Program} {loose:List Str} {XP:(Str->Option Value)->Heap->Prop} {YP:World->Heap->Prop} {d:DefRec}
  (hn:l.most=some n) (hdf:d.params.defaults=[])
  (call:∀ (w:World) (s₀ s₁:Shared) (mg mb:Str->Option Value) (fa:Addr) (o:Obj) (pm cd doc:Value) (a:Addr) (vs:List Value) (ns:List Int),
   Ground q loose [] XP w s₀ mg mb s₁.heap->YP w s₁.heap ->
   s₁.heap.get? fa=some o->o.data=.func (docDef d.name d.params d.body d.scope pm cd doc)->s₁.heap.CodeRec cd d.name->mg d.name=some (.ref fa) ->
   s₁.heap.get? a=some { cls:=.type "list",data:=.seq vs.toArray }->IntsAre vs ns->ns.length<=n->s₁.gens=#[] ->
   codeAny (model l.prog w) callerA (.call (.ref fa) ⟨[.ref a],[]⟩) (fun r s'=>r=.ok (.ret (.bool true))/\OldK s₁.heap s'.heap/\s'.os=s₁.os/\AllBare s'.gens) s₁) :
  WalkO q loose XP YP l.row.toRowW d [] (fun f vs=>PySem.call f vs):=by
 intro w s₀ s₁ mg mb G Y fa o pm cd doc dV kV ho hd hcd hD hmg hg args vals as hpre hlay hrd hwl hlo;obtain rfl:dV=.none:=Dflts.none hD hdf;obtain rfl:kV=.none:=Dflts.noKw hD;obtain ⟨a,vs,ns,rfl,rfl,hobj,hints,hlen⟩:=Z1v hn hpre hwl;refine enter_call (codeAny_mono (call w s₀ s₁ mg mb fa o pm cd doc a vs ns G Y ho (fd_plain hd) hcd hmg hobj hints hlen hg) fun r s' hq=>?_);obtain ⟨rfl,h2,h3,h4⟩:=hq;exact ⟨.inl ⟨.bool true,.bool true,[],rfl,fun _=>rfl,.bool true,Z17 l _,fun _=>⟨List.Pairwise.nil,fun _ hm=>(nomatch hm)⟩⟩,h2,h3,h4⟩
section
variable {prog:Program} {w:World} {A:Around} {E:Value->Shared->Prop} {s:Shared} {K:Frag}
end
end Att
namespace L2
open PySem PySem.Spec PyProof.Rows
theorem O4:∀ {vs:List Value} {ns:List Int},IntsAre vs ns->Y2 (ns.map V.int) vs
 | _,_,.nil=>.nil
 | _,_,.cons n t h=>.cons ⟨t,rfl⟩ (O4 h)
def SL (K:PySem.W.Frag) (H:Hp) (a:Addr) (xs:List V):Prop :=
 Rd H a (.lst xs)\/∃ (its:List Value) (n:Nat),K.lookup a=some { cls:=.type "list",data:=.seq its.toArray n }/\xs.length<=sizeLine/\Y2 xs its
def Z9y (H:Hp):Prop:=∀ b,H b=none\/∃ o xs,H b=some (.frz o (.lst xs))
theorem Z4m {P:Program} {w:World} {K:PySem.W.Frag} {mg mb:Str->Option Value} {CX:N9} {k:Nat} {fa a:Addr} {fd:FuncData} {x:Str} {sp:Sp} {s₁:Shared} {vs:List Value} {ns:List Int}
  (KX:K.In s₁.heap) (hns:s₁.heap.Ns mainGlobals mg) (hb:s₁.heap.Ns builtinsNs mb) (hbb:∀ x:Str,x≠"__name__" -> mb x=bootBuiltins x) (hlim:s₁.heap.NoLimit) (hg:s₁.gens=#[])
  (ha:s₁.heap.get? a=some { cls:=.type "list",data:=.seq vs.toArray }) (hi:IntsAre vs ns) (hl:ns.length<=sizeLine) (hr:Room k callerA)
  (F:∀ base:Heap,K.In base->base.Ns mainGlobals mg->FnOk P w K mg base CX k fa fd [x] sp) (hbind:∀ (s:Shared) (u:Value),BindsTo s fd ⟨[u],[]⟩ [(x,u)])
  (hsp:∀ H:Hp,Z9y H->SL K H a (ns.map V.int)->sp [.ref a] H (fun v _=>v=.bl true) fun _ _ _=>False)
  (hCX:∀ H e s',CX [] H s₁ (fun _ _ _=>False) e s'->False) :
  codeAny (model P w) callerA (.call (.ref fa) ⟨[.ref a],[]⟩) (fun r s'=>r=.ok (.ret (.bool true))/\OldK s₁.heap s'.heap/\s'.os=s₁.os/\AllBare s'.gens) s₁:=by
 have rv:=O4 hi;have lenV:=hi.length
 -- from an abstract heap in which nothing but the script may be tracked
 have core:∀ H:Hp,Z9y H->SL K H a (ns.map V.int)->My P w H s₁.heap->(∀ b,H b≠none->b=a)->(H a≠none->K.lookup a=none) ->
   codeAny (model P w) callerA (.call (.ref fa) ⟨[.ref a],[]⟩) (fun r s'=>r=.ok (.ret (.bool true))/\OldK s₁.heap s'.heap/\s'.os=s₁.os/\AllBare s'.gens) s₁:=by
  intro H hO hS hok hA hK;have base_of:∀ {b:Addr} {o:Obj},s₁.heap.get? b=some o->H b=none->(Oq s₁.heap H).get? b=some o:=fun e n=>Z3q e n
  have noA:∀ {b:Addr} {o:Obj} {es:Array DictEntry} {ep:Nat},s₁.heap.get? b=some o->o.data=.dict es ep->H b=none:=fun {b o es ep} e d=>by
   cases q:H b with
   | none=>rfl
   | some u =>
    have e':b=a:=hA b (by rw [q];simp);subst e';rw [ha] at e;cases e;have d':Data.seq vs.toArray _=Data.dict es ep:=d;cases d'
  have nsK:∀ {b:Addr} {m:Str->Option Value},s₁.heap.Ns b m->(Oq s₁.heap H).Ns b m:=fun {b m} ⟨o,es,ep,e,d,r⟩=>⟨o,es,ep,base_of e (noA e d),d,r⟩
  have hKb:K.In (Oq s₁.heap H):=fun b o e=>base_of (KX b o e) (by
   cases q:H b with
   | none=>rfl
   | some u =>
    have e':b=a:=hA b (by rw [q];simp);subst e';rw [hK (by rw [q];simp)] at e;cases e)
  have hM:Mod K mg (Oq s₁.heap H):=⟨hKb,nsK hns,⟨mb,nsK hb,hbb⟩,let ⟨mc,h1,h2⟩:=hlim;⟨mc,nsK h1,h2⟩⟩;have e0:Env0 P w K mg (Oq s₁.heap H) callerA [] s₁ H:=⟨rfl,hM,fun b o e=>Z7f e,le_of_eq (Z0u _ _),trivial,fun b hb=>absurd (show b∈([]:List Addr) from hb) (by simp),hok,.of_eq hg⟩;refine codeAny_mono ((F _ hKb (nsK hns)).run callerA [] s₁ H ⟨[.ref a],[]⟩ [.ref a] [.ref a] _ _ hr e0 (hbind s₁ (.ref a)) (.cons rfl .nil) (hsp H hO hS)) fun r s' h=>?_
  cases r with
  | error e=>exact (hCX H e s' h).elim
  | ok fl =>
   cases fl with
   | next=>exact False.elim h
   | brk=>exact False.elim h
   | cont=>exact False.elim h
   | ret u =>
    obtain ⟨v,H',os,bare,un,hok',r',q⟩:=h;have q':v=.bl true:=q;subst q';obtain rfl:u=Value.bool true:=r';refine ⟨rfl,OldK.of_keep fun b o e=>?_,os,bare⟩;cases q:H b with
    | none=>exact un.keep b o e q (by intro z;exact absurd (show b∈([]:List Addr) from z) (by simp)) (by simp)
    | some u =>
     rcases hO b with z | ⟨ob,xs,z⟩
     ·rw [q] at z;cases z
     ·have z2:=un.frzs b ob _ z
      obtain ⟨e1,_⟩:=hok b _ z;obtain ⟨e2,_⟩:=hok' b _ z2;rw [e] at e1;cases e1;exact e2
 cases hk:K.lookup a with
 | some o =>
  -- the script is one of the module's own objects
  have e:=KX a o hk;rw [ha] at e;cases e;refine core (fun _=>none) (fun _=>.inl rfl) (.inr ⟨vs,_,hk,by rw [length_map];exact hl,rv⟩) (fun b u z=>by have z':(none:Option HO)=some u:=z;cases z') (fun b z=>absurd rfl z) fun z=>absurd rfl z
 | none =>
  refine core (fun b=>if b=a then some (.frz { cls:=.type "list",data:=.seq vs.toArray } (.lst (ns.map V.int))) else none) (fun b=>?_) (.inl (.inr ⟨{ cls:=.type "list",data:=.seq vs.toArray },if_pos rfl⟩)) (fun b u z=>?_) (fun b z=>?_) fun _=>hk
  ·by_cases hb:b=a
   ·exact .inr ⟨_,_,if_pos hb⟩
   ·exact .inl (if_neg hb)
  ·by_cases hb:b=a
   ·have z':=(if_pos hb).symm.trans z
    cases z';subst hb;exact ⟨ha,by rw [length_map];exact hl,vs,_,rv,ha⟩
   ·have z':=(if_neg hb).symm.trans z
    cases z'
  ·by_cases hb:b=a
   ·exact hb
   ·exact absurd (if_neg hb) z
theorem Zeo {l:PySem.W.OpenLaw} {n k:Nat} {q:Program} {loose:List Str} {XP:(Str->Option Value)->Heap->Prop} {YP:World->Heap->Prop} {d:DefRec} {K:Params->PySem.W.Frag} {CX:World->N9} {sp:World->Sp} {x:Str}
  (hn:l.most=some n) (hn2:n<=sizeLine) (hdf:d.params.defaults=[]) (hr:Room k callerA)
  (hY:∀ (w:World) (h:Heap),YP w h->(K w.params).In h)
  (F:∀ (w:World) (mg:Str->Option Value) (fa:Addr) (h:Heap),(K w.params).In h->h.Ns mainGlobals mg->mg d.name=some (.ref fa) ->
   ∃ fd:FuncData,(∀ (s:Shared) (u:Value),BindsTo s fd ⟨[u],[]⟩ [(x,u)]) /\
    ∀ base:Heap,(K w.params).In base->base.Ns mainGlobals mg->FnOk l.prog w (K w.params) mg base (CX w) k fa fd [x] (sp w))
  (hsp:∀ (w:World) (H:Hp) (a:Addr) (ns:List Int),ns.length<=n->Z9y H->SL (K w.params) H a (ns.map V.int)->sp w [.ref a] H (fun v _=>v=.bl true) fun _ _ _=>False)
  (hCX:∀ (w:World) (H:Hp) (s:Shared) (e:Value) (s':Shared),CX w [] H s (fun _ _ _=>False) e s'->False) :
  PySem.W.WalkO q loose XP YP l.row.toRowW d [] (fun f vs=>PySem.call f vs):=by
 refine Att.attach_call hn hdf fun w s₀ s₁ mg mb fa o pm cd doc a vs ns G Y ho hd hcd hmg hobj hints hlen hg=>?_
 have KX:=hY w _ Y;obtain ⟨fd,hb,hF⟩:=F w mg fa _ KX G.T.g hmg;exact Z4m KX G.T.g G.T.b G.T.builtins G.T.nolimit hg hobj hints (le_trans hlen hn2) hr hF hb (fun H hO hS=>hsp w H a ns hlen hO hS) fun H e s'=>hCX w H s₁ e s'
def K3 (s:Stmt) (j:Nat):Stmt:=match s with
 | .ClassDef _ _ _ body _ _ _ _ _ _ _=>body.getD j (.Pass ⟨0,0,0,0⟩)
 | _=>.Pass ⟨0,0,0,0⟩
def Wn (s:Stmt):Arguments:=match s with
 | .FunctionDef _ a _ _ _ _ _ _ _ _=>a
 | _=>{ posonlyargs:=[],args:=[],vararg:=none,kwonlyargs:=[],kw_defaults:=[],kwarg:=none,defaults:=[] }
def Y8 (s:Stmt):List Stmt:=match s with
 | .FunctionDef _ _ b _ _ _ _ _ _ _=>b
 | _=>[]
def Z6 (s:Stmt):Scope:=match s with
 | .FunctionDef _ _ _ _ _ _ sc _ _ _=>sc
 | _=>{ kind:=.function,names:=[],isGenerator:=false,isCoroutine:=false }
abbrev D9:N9:=fun _ _ _ _ _ _=>False
abbrev E0:XK:=fun _ _ _=>False
theorem Z97 {X:Cx}:Kb D9 X E0:=fun _ _ _ _ _ _ _ h=>h.elim
structure Fun (K:PySem.W.Frag) (x qual:Str) (st:Stmt) (f:Addr) (fd:FuncData):Prop where
 ex:∃ (oc:Value) (od:Option Addr) (kV doc pm:Value) (an:Option Addr) (cdv ct:Value) (osl:Array (Option Value)),
  fd=fnOf x qual (Wn st) (Y8 st) (Z6 st) .none kV doc pm an cdv ct/\K.lookup f=some ⟨oc,od,.func fd,osl⟩/\codeIn K cdv qual=true
 kp:PySem.W.keepIn K (.ref f)=true
section
variable {P:Program} {w:World} {K:PySem.W.Frag} {mg:Str->Option Value} {base:Heap}
theorem Fun.ok {x qual:Str} {st:Stmt} {f:Addr} {fd:FuncData} {N ps:List Str} {k:Nat} {sp:Sp} (F:Fun K x qual st f fd) (S:FnScope N ps (Z6 st)) (len:∀ vs H Q E,sp vs H Q E->vs.length=ps.length)
  (hbody:∀ (cdv:Value) (A:Around) (outer:List Env) (s:Shared) (H:Hp) (vs:List V) (Q:VK) (E:XK),Room k (A.deeper (envOfC qual (Z6 st) s.heap.objs.size f cdv))->sp vs H Q E ->
   ∃ t,Sx (Qh D9 P w K mg base N qual (Z6 st) f cdv A outer s H E).nox (Y8 st) t/\t { nx:=fun _ H'=>Q .non H',rt:=Q } (start N vs) H):FnOk P w K mg base D9 (k+1) f fd ps sp:=by
 obtain ⟨oc,od,kV,doc,pm,an,cdv,ct,osl,rfl,lk,hcd⟩:=F.ex;refine Z8u lk hcd S len fun A outer s H vs Q E hr hsp=>?_
 obtain ⟨t,h,q⟩:=hbody cdv A outer s H vs Q E hr hsp;exact ⟨t,h.nox,q⟩
theorem Fun.binds {x qual:Str} {st:Stmt} {f:Addr} {fd:FuncData} {ps:List Str} (F:Fun K x qual st f fd)
  (h:∀ (kV doc pm:Value) (an:Option Addr) (cdv ct:Value) (us:List Value),us.length=ps.length->bindArgs (fnOf x qual (Wn st) (Y8 st) (Z6 st) .none kV doc pm an cdv ct) ⟨us,[]⟩=pure (ps.zip us)):Jw K fd ps []:=by
 obtain ⟨oc,od,kV,doc,pm,an,cdv,ct,osl,rfl,lk,hcd⟩:=F.ex;exact .all (h kV doc pm an cdv ct)
theorem Gu {x qual:Str} {st:Stmt} {f:Addr} {oc:Value} {od an:Option Addr} {osl:Array (Option Value)} {kV doc pm cdv ct:Value} (l:K.lookup f=some ⟨oc,od,.func (fnOf x qual (Wn st) (Y8 st) (Z6 st) .none kV doc pm an cdv ct),osl⟩)
 (c:codeIn K cdv qual=true) (k:PySem.W.keepIn K (.ref f)=true):Fun K x qual st f (fnOf x qual (Wn st) (Y8 st) (Z6 st) .none kV doc pm an cdv ct):=⟨⟨oc,od,kV,doc,pm,an,cdv,ct,osl,rfl,l,c⟩,k⟩
end
theorem Z2r {A:Around} {k:Nat} (hr:Room k A):A.units+1<cLine:=lt_of_le_of_lt (Nat.add_le_add_left (by decide:1<=64) _) hr.units
theorem Tx {n:Nat} (h:n<=1000):n<sizeLine:=lt_of_le_of_lt h (by decide)
section
variable {X:Cx}
theorem pv (i:Nat) {x:Str} {pos:Pos} (hN:X.N[i]?=some x:=by rfl) (hv:Vis X.env.scope x:=by first | exact Or.inl rfl | exact Or.inr (Or.inl rfl) | exact Or.inr (Or.inr rfl)) (hd:(x==("__debug__" : Str))=false:=by decide)
 (hcd:(x==("__classdict__" : Str))=false:=by decide):PE X (.Name x pos) (Dq i):=R3 hN hv hd hcd
end
theorem Zcx {A B:Prop} (h:B):if false=true then A else B:=by
 rw [if_neg Bool.false_ne_true];exact h
theorem Ze1 {A B:Prop} (h:A):if true=true then A else B:=by
 rw [if_pos rfl];exact h
def Zs (H H':Hp):Prop:=∀ b o,H b=some o->H' b=some o
theorem Zs.refl (H:Hp):Zs H H:=fun _ _ h=>h
theorem Zs.trans {H H1 H2:Hp} (a:Zs H H1) (b:Zs H1 H2):Zs H H2:=fun c o h=>b c o (a c o h)
theorem Zs.free {H H':Hp} (e:Zs H H') {l:Addr} (h:H' l=Option.none):H l=Option.none:=by
 cases q:H l with
 | none=>rfl
 | some o =>
  rw [e l o q] at h;cases h
theorem Ft {prog:Program} {w:World} {A:Around} {R:Result->Shared->Prop} {s:Shared} {elt target iter:Expr} {ifs:List Expr} {scope:Scope} {pos:Pos} {it acc:Value} {env:Env} (I:Nat->Shared->Prop)
  (turn:∀ n s,I n s->wpAny (model prog w) A (pyNext it) (fun r s₁=>match r with
   | none=>R (.ok .next) s₁
   | some v=>wpAny (model prog w) A (letOwnedTupleGo target it v) (fun _ s₁'=>wpAny (model prog w) A (assign target env v) (fun _ s₂ =>
    wpAny (model prog w) A (forIn ifs true fun c r=>if r=true then do let ok ← isTrue c env (eval c env);pure (ForInStep.yield ok) else pure (ForInStep.yield r)) (fun ok s₃ =>
     if ok=true then wpAny (model prog w) A (eval elt env) (fun x s₄ =>
      wpAny (model prog w) A (call (.builtin "list.append") [acc,x]) (fun _ s₅=>∃ m,m<n/\I m s₅) (fun _ _=>False) s₄) (fun _ _=>False) s₃
     else ∃ m,m<n/\I m s₃) (fun _ _=>False) s₂) (fun _ _=>False) s₁') (fun _ _=>False) s₁) (fun _ _=>False) s)
  (n:Nat) (h:I n s) :
  codeAny (model prog w) A (.compLoop (.ListComp elt [⟨target,iter,ifs,0⟩] scope pos) 0 it acc env) R s:=by
 refine codeAny_loop rfl I (fun n s hI=>?_) n h;show wpAny _ A ((compTurn (.ListComp elt [⟨target,iter,ifs,0⟩] scope pos) 0 it acc env).onRaise (fun x=>do noteFrame x env;theTreesLotGoes x)) _ _ s;refine wpAny_noted ?_;rw [compTurn_list];refine wpAny_bind (wpAny_standAt (wpAny_bind (wpAny_mono (turn n s hI) (fun r s₁ h₁=>?_) fun _ _ h'=>h'.elim)));cases r with
 | none=>exact wpAny_pure h₁
 | some v =>
  refine wpAny_bind (wpAny_mono h₁ (fun _ s₁' h₁'=>?_) fun _ _ h'=>h'.elim);refine wpAny_bind (wpAny_mono h₁' (fun _ s₂ h₂=>wpAny_bind (wpAny_mono h₂ (fun ok s₃ h₃=>?_) fun _ _ h'=>h'.elim)) fun _ _ h'=>h'.elim);cases ok with
  | false=>exact wpAny_pure ⟨rfl,h₃⟩
  | true =>
   exact wpAny_bind (wpAny_bind (wpAny_mono h₃ (fun x s₄ h₄=>wpAny_bind (wpAny_mono h₄ (fun _ s₅ h₅=>wpAny_pure (wpAny_pure ⟨rfl,h₅⟩)) fun _ _ h'=>h'.elim)) fun _ _ h'=>h'.elim))
def G9 (cells:List (Str×Addr)):List (Str×NameKind)->List (Str×Addr)->List (Str×Addr)
 | [],acc=>acc
 | (n,k)::r,acc=>G9 cells r (if k==.free then (n,(cells.lookup n).getD 0)::acc else acc)
theorem Lx {sc:Scope} {env:Env} (h:∀ y∈sc.names,y.2=.free->∃ c,env.cells.lookup y.1=some c):closureFor sc env=pure (G9 env.cells sc.names []):=by
 unfold closureFor;generalize ([]:List (Str×Addr))=acc;generalize hl:sc.names=names at h;clear hl;induction names generalizing acc with
 | nil=>rfl
 | cons y r ih =>
  obtain ⟨n,k⟩:=y;have ih':=fun acc=>ih acc fun y hy=>h y (mem_cons_of_mem _ hy)
  dsimp only at ih' ⊢;rw [List.forIn_cons];by_cases hk:k=.free
  ·subst hk
   obtain ⟨c,hc⟩:=h (n,.free) mem_cons_self rfl;simp only [cellOf,hc,beq_self_eq_true,if_true,pure_bind,G9,Option.getD_some];exact ih' _
  ·have hb:(k==NameKind.free)=false:=by simpa using hk
   simp only [hb,Bool.false_eq_true,if_false,pure_bind,G9];exact ih' _
theorem Ht {cells:List (Str×Addr)}:∀ (names:List (Str×NameKind)) (acc:List (Str×Addr)),(∀ y∈names,y.2=.free->∃ c,cells.lookup y.1=some c)->(∀ x c,acc.lookup x=some c->cells.lookup x=some c) ->
   ∀ x c,(G9 cells names acc).lookup x=some c->cells.lookup x=some c
 | [],_,_,ha,x,c,e=>ha x c e
 | (n,k)::r,acc,h,ha,x,c,e=>by
   unfold G9 at e;refine Ht r _ (fun y hy=>h y (mem_cons_of_mem _ hy)) (fun x' c' e'=>?_) x c e;split at e'
   · rename_i hk
     have hk':k=.free:=by simpa using hk
     obtain ⟨c0,hc0⟩:=h (n,k) mem_cons_self hk';simp only at hc0;rw [lookup_cons] at e';split at e'
     · rename_i hx
       have hx':x'=n:=by simpa using hx
       subst hx';rw [hc0] at e';simp at e';rw [hc0,e']
     · exact ha x' c' e'
   · exact ha x' c' e'
theorem Lq {cells:List (Str×Addr)}:∀ (names:List (Str×NameKind)) (acc:List (Str×Addr)) (x:Str),((x,NameKind.free)∈names\/(acc.lookup x).isSome=true)->((G9 cells names acc).lookup x).isSome=true
 | [],acc,x,h=>by
   rcases h with h | h
   · simp at h
   · exact h
 | (n,k)::r,acc,x,h=>by
   unfold G9;refine Lq r _ x ?_;rcases h with h | h
   · rcases mem_cons.mp h with e | h
     · cases e
       right;simp
     · exact .inl h
   · right
     split
     · rw [lookup_cons]
       split
       · rfl
       · exact h
     · exact h
def V0 (X:Cx) (sc:Scope) (N:List Str) (C:Addr) (s:Shared) (H:Hp) (fp:List Addr):Cx :=
 { X with N:=N,s₀:=s,H₀:=H,env:=compEnvC sc (G9 X.env.cells sc.names []) C X.env,outer:=X.stack,ex:=fp,fn:=fun _=>false,pn:=[],xe:=fun _ _=>False }
def Z8m (psc sc:Scope) (NX N:List Str) (fs:List (Option Nat)):Bool :=
 N.length==fs.length&&(N.zip fs).all (fun p=>match p.2 with | none=>true | some j=>NX[j]?==some p.1&&sc.names.lookup p.1==some .free) &&
 sc.names.all (fun y=>y.2 != .cell&&(y.2 != .free||(psc.names.lookup y.1==some .cell||psc.names.lookup y.1==some .free))&&(y.2 != .local||sc.names.lookup y.1==some .local))&&sc.kind==.function
structure CompOk (psc sc:Scope) (NX N:List Str) (fs:List (Option Nat)):Prop where
 len:N.length=fs.length
 frees:∀ (i j:Nat),fs[i]?=some (some j)->∃ x,N[i]?=some x/\NX[j]?=some x/\sc.names.lookup x=some .free
 nocell:∀ y∈sc.names,y.2≠.cell
 par:∀ y∈sc.names,y.2=.free->psc.names.lookup y.1=some .cell\/psc.names.lookup y.1=some .free
 loc:∀ y∈sc.names,y.2=.local->sc.names.lookup y.1=some .local
 kind:sc.kind=.function
theorem CompOk.of {psc sc:Scope} {NX N:List Str} {fs:List (Option Nat)} (h:Z8m psc sc NX N fs=true):CompOk psc sc NX N fs:=by
 unfold Z8m at h;simp only [Bool.and_eq_true,beq_iff_eq,all_eq_true,bne_iff_ne,ne_eq,Bool.or_eq_true] at h;obtain ⟨⟨⟨h1,h2⟩,h3⟩,h4⟩:=h;refine ⟨h1,fun i j e=>?_,fun y hy=>(h3 y hy).1.1,fun y hy e=>?_,fun y hy e=>?_,h4⟩
 ·have hi:i<fs.length:=(List.getElem?_eq_some_iff.mp e).1
  have hN:i<N.length:=by lia
  have hz:(N.zip fs)[i]?=some (N[i],some j):=by
   rw [List.getElem?_zip_eq_some];exact ⟨by simp [hN],e⟩
  have:=h2 _ (mem_of_getElem? hz);simp only [Bool.and_eq_true,beq_iff_eq] at this;exact ⟨N[i],by simp [hN],this.1,this.2⟩
 ·rcases (h3 y hy).1.2 with z | z
  ·exact absurd e z
  ·exact z
 ·rcases (h3 y hy).2 with z | z
  ·exact absurd e z
  ·exact z
theorem D3 {sc:Scope} {env:Env} {x:Str} {k:NameKind} (nc:∀ y∈sc.names,y.2≠.cell) (h:(relabel sc env).names.lookup x=some k) (hk:k=.cell\/k=.free):(x,NameKind.free)∈sc.names:=by
 have hm:=PySem.mem_of_lookup h;unfold relabel at hm;simp only [mem_map] at hm;obtain ⟨⟨n,k'⟩,hy,e⟩:=hm;dsimp only at e;split at e
 ·rename_i hc
  simp only [Bool.and_eq_true,beq_iff_eq] at hc;cases e;rw [hc.1.1] at hy;exact hy
 ·cases e
  rcases hk with z | z
  ·exact absurd z (nc _ hy)
  ·rw [z] at hy;exact hy
theorem Om {sc:Scope} {env:Env} {x:Str} (h:sc.names.lookup x=some .free):(relabel sc env).names.lookup x=some .cell\/(relabel sc env).names.lookup x=some .free:=by
 unfold relabel;dsimp only;generalize sc.names=names at h;induction names with
 | nil=>simp at h
 | cons y r ih =>
  obtain ⟨n,k⟩:=y;rw [lookup_cons] at h;rw [map_cons];split at h
  ·rename_i hx
   cases h;have:x=n:=by simpa using hx
   subst this;dsimp only;split
   ·left;rw [lookup_cons];simp
   ·right;rw [lookup_cons];simp
  ·rename_i hx
   dsimp only;split
   ·rw [lookup_cons,hx];exact ih h
   ·rw [lookup_cons,hx];exact ih h
section
variable {X:Cx} {pins:List (Addr×Obj)} {σ:St} {H:Hp} {s:Shared} {sc psc:Scope} {N:List Str} {fs:List (Option Nat)} {C:Addr} {fp:List Addr}
theorem Db (I:Inv X pins σ H s) (hp:X.env.scope=psc) (S:CompOk psc sc X.N N fs):∀ y∈sc.names,y.2=.free->∃ c,X.env.cells.lookup y.1=some c:=fun y hy e=>by
 refine I.ok.has y.1 ?_;have:=S.par y hy e;rw [← hp] at this;exact this
theorem Jf (I:Inv X pins σ H s) (hp:X.env.scope=psc) (S:CompOk psc sc X.N N fs):∀ x c,(G9 X.env.cells sc.names []).lookup x=some c->X.env.cells.lookup x=some c :=
 Ht sc.names [] (Db I hp S) fun x c e=>by simp at e
theorem Z1g (I:Inv X pins σ H s) (hp:X.env.scope=psc) (S:CompOk psc sc X.N N fs) (hf:∀ b∈fp,D8 X pins H b) (hfl:∀ b∈fp,b<s.heap.objs.size) (hC:s.heap.objs.size<=C):(V0 X sc N C s H fp).Ok where
 mod:=I.ok.mod
 kind:=S.kind
 glob:=I.ok.glob
 blt:=I.ok.blt
 above:=hC
 inj:=fun x y c h1 h2=>I.ok.inj x y c (Jf I hp S x c h1) (Jf I hp S y c h2)
 has:=fun x hx=>by
  have hm:(x,NameKind.free)∈sc.names:=by
   rcases hx with hx | hx
   ·exact D3 S.nocell hx (.inl rfl)
   ·exact D3 S.nocell hx (.inr rfl)
  exact Option.isSome_iff_exists.mp (Lq sc.names [] x (.inl hm))
 cab:=fun x c h _=>by cases h
 hd:=I.ok.hd
 frames:=I.ok.frames
 stk:=.inl rfl
 exf:=fun b hb=>⟨ne_of_lt (lt_of_lt_of_le (hfl b hb) hC),fun x c e=>(hf b hb).2.2.2.2.1 x c (Jf I hp S x c e)⟩
 bs:=I.bs
 bsz:=le_trans I.ok.bsz I.sz
 noex:=fun b o e hb=>by
  rcases (hf b hb).2.2.2.1 with z | z
  ·exact I.ok.noex b o e z
  ·exact absurd (lt_of_lt_of_le (lt_size e) (le_trans I.ok.bsz z)) (lt_irrefl _)
 exfs:=fun b hb hs=>by
  rcases mem_cons.mp (I.stkSub b hs) with z | z
  ·exact (hf b hb).2.1 z
  ·exact (hf b hb).2.2.1 z
 funs:=I.stack
 frf:=I.stkFree
def Vp (fs:List (Option Nat)) (σ:St):St:=fs.map fun o=>match o with | none=>none | some j=>(σ[j]?).getD none
theorem As {h₁:Heap} {tk:Nat} {D:Addr} {oD:Obj} {m₁:Str->Option Value} (I:Inv X pins σ H s) (hp:X.env.scope=psc) (S:CompOk psc sc X.N N fs) (hf:∀ b∈fp,D8 X pins H b) (hfl:∀ b∈fp,b<s.heap.objs.size) (hC:s.heap.objs.size<=C)
  (old:∀ b o,s.heap.get? b=some o->h₁.get? b=some o) (hn:h₁.Ns C m₁) (hD:h₁.get? D=some oD) (hDs:s.heap.objs.size<=D) (hDC:D≠C) (hDd:∀ v,oD.data≠.cell v) :
  Inv (V0 X sc N C s H fp) [(D,oD)] (Vp fs σ) H { s with heap:=h₁,toks:=tk }:=by
 refine ⟨Z1g I hp S hf hfl hC,rfl,I.bare,Un.kept old,⟨m₁,hn,fun i x v e1 e2 e3=>?_⟩,fun x c e=>?_,I.hok.fresh hC,fun x c e=>I.freeC x c (Jf I hp S x c e),fun p hpn=>?_,I.hok.kept old,?_⟩
 ·unfold Vp at e2
  rw [getElem?_map] at e2;cases hfi:fs[i]? with
  | none=>rw [hfi] at e2;cases e2
  | some o =>
   rw [hfi] at e2;cases o with
   | none=>simp at e2
   | some j =>
    simp only [Option.map_some,Option.some.injEq] at e2;obtain ⟨x',ex,ej,el⟩:=S.frees i j hfi;have:x'=x:=by
     have q:N[i]?=some x:=e1;rw [ex] at q;exact Option.some.inj q
    subst this;have ev:σ[j]?=some (some v):=by
     cases q:σ[j]? with
     | none=>rw [q] at e2;simp at e2
     | some z=>rw [q] at e2;simp at e2;rw [e2]
    have kk:X.env.scope.names.lookup x'=some .cell\/X.env.scope.names.lookup x'=some .free:=by
     rw [hp];exact S.par (x',.free) (PySem.mem_of_lookup el) rfl
    obtain ⟨m,hm,hl⟩:=I.loc;obtain ⟨u,r,l⟩:=hl j x' v ej ev (by
     rcases kk with k | k
     ·exact .inr (.inl k)
     ·exact .inr (.inr k))
    refine ⟨u,r,.inr ⟨Om el,?_⟩⟩;rcases l with ⟨k,_⟩ | ⟨_,c,hc,hcell⟩
    ·have k':X.env.scope.names.lookup x'=some .local:=k
     rcases kk with z | z<;>rw [z] at k'<;>cases k'
    ·obtain ⟨c',hc'⟩:=Option.isSome_iff_exists.mp (Lq (cells:=X.env.cells) sc.names [] x' (.inl (PySem.mem_of_lookup el)))
     have:=Jf I hp S x' c' hc';rw [hc] at this;cases this;obtain ⟨oc,ho,hd⟩:=hcell;exact ⟨c,hc',oc,old _ _ ho,hd⟩
 ·obtain ⟨v,oc,ho,hd⟩:=I.cell x c (Jf I hp S x c e)
  exact ⟨v,oc,old _ _ ho,hd⟩
 ·have hpn':p=(D,oD):=by
   rcases mem_append.mp hpn with z | z
   ·exact absurd (show p∈([]:List (Addr×Obj)) from z) (by simp)
   ·simpa using z
  subst hpn';refine ⟨hD,I.hok.fresh hDs,hDC,fun hs=>?_,hDd⟩;have hb:D∈X.env.locals::X.fs:=I.stkSub D hs;rcases mem_cons.mp hb with z | z
  ·exact absurd (lt_of_lt_of_le I.lt (by rw [← z];exact hDs)) (lt_irrefl _)
  ·exact I.nofs hDs z
 ·show (Vp fs σ).length=N.length
  unfold Vp;rw [length_map,S.len]
theorem My.adopt {P:Program} {w:World} {H:Hp} {h:Heap} {D:Addr} {ys:List V} {its:List Value} {n:Nat} (ok:My P w H h) (hD:H D=none) (ho:h.get? D=some { cls:=.type "list",data:=.seq its.toArray n }) (r:Y2 ys its) (hz:ys.length<=sizeLine) :
  My P w (We H D (.lst ys)) h:=fun b u e=>by
 by_cases hb:b=D
 ·subst hb
  rw [Zt] at e;cases e;exact ⟨hz,its,n,r,ho⟩
 ·rw [Zh hb] at e
  refine (ok b u e).stay (fun c v _ q=>q) (fun c q=>?_) fun c xs q=>?_
  ·rw [Zh (Y5 q hD)];exact q
  ·rw [Zh (Y5 q hD)];exact q
theorem Un.adopt {fs ex:List Addr} {H H':Hp} {h h':Heap} {D:Addr} {o:HO} (u:Un fs ex H H' h h') (hD:h.objs.size<=D) (hn:H' D=none):Un fs ex H (We H' D o) h h' where
 keep:=u.keep
 slot:=u.slot
 free:=fun b ob q n hx=>by rw [Zh (ne_of_lt (lt_of_lt_of_le (lt_size q) hD))];exact u.free b ob q n hx
 there:=u.there
 tups:=fun b xs q=>by rw [Zh (Y5 (u.tups b xs q) hn)];exact u.tups b xs q
 frzs:=fun b ob x q=>by rw [Zh (Y5 (u.frzs b ob x q) hn)];exact u.frzs b ob x q
 tbls:=fun b ps q=>by
  obtain ⟨more,e⟩:=u.tbls b ps q;exact ⟨more,by rw [Zh (Y5 e hn)];exact e⟩
def PIf (Y:Cx) (ifs:List Expr) (tt:TT):Prop :=
 ∀ (pins:List (Addr×Obj)) (s:Shared) (σ:St) (H:Hp) (Q:Bool->Hp->Prop),Inv Y pins σ H s->tt σ H Q ->
  wpAny (model Y.prog Y.w) Y.A (forIn ifs true fun c r=>if r=true then do let ok ← isTrue c Y.env (eval c Y.env);pure (ForInStep.yield ok) else pure (ForInStep.yield r)) (TP Y pins σ Q) Y.xe s
def Zfk:TT:=fun _ H Q=>Q true H
theorem Z7m {Y:Cx}:PIf Y [] Zfk:=fun _ _ _ H _ I h=>wpAny_tests_nil ⟨H,I,h⟩
theorem Z8e {Y:Cx} {c:Expr} {tc:TT} (h:PT Y c tc):PIf Y [c] tc:=fun pins s σ H Q I q=>wpAny_tests_one (h pins s σ H Q I q)
def Ext (σ σ2:St):Prop:=σ.length=σ2.length/\∀ (i:Nat) v,σ[i]?=some (some v)->σ2[i]?=some (some v)
def Z8s (wi:TI) (fs:List (Option Nat)) (g:TG) (tt:TT) (te:TE):TE:=fun σ H Q=>wi σ H fun J H1=>∃ W:Nat->Nat->List V->Hp->Prop,(∃ m,W 0 m [] H1)/\∀ i m ys H,W i m ys H ->
 (J.stop i H/\ys.length<=sizeLine/\∀ p,H p=none->Q (.ref p) (We H p (.lst ys))) \/
 (J.go i H/\ys.length<=sizeLine/\∃ N:List V->Hp->Prop,(∀ ys' H',N ys' H'->∃ m',m'<m/\W (i+1) m' ys' H')/\∀ x H',J.yld i H x H'->g x (Vp fs σ) H' fun σ2 H2=>Ext (Vp fs σ) σ2 /\
  tt σ2 H2 fun b H3=>if b=true then te σ2 H3 fun v H4=>N (ys++[v]) H4 else N ys H3)
theorem Fj {elt tg iter:Expr} {ifs:List Expr} {pos:Pos} {it:Addr} {tn:Nat->Heap->Prop} {J:It} {g:TG} {tt:TT} {te:TE} {E:Value->Shared->Prop} {RR:Value->Addr->Result->Shared->Prop}
  (hp:X.env.scope=psc) (S:CompOk psc sc X.N N fs) (hc:X.calm=true)
  (hb:∀ (C:Addr) (s:Shared) (H:Hp) (fp:List Addr),PG (V0 X sc N C s H fp) tg g/\PIf (V0 X sc N C s H fp) ifs tt/\PE (V0 X sc N C s H fp) elt te)
  (I:Inv X pins σ H s) (T:Turn X.prog X.w X.K tg J fp it tn) (st:tn 0 s.heap) (hf:∀ b∈fp,D8 X pins H b) {Q:VK}
  (hW:∃ W:Nat->Nat->List V->Hp->Prop,(∃ m,W 0 m [] H)/\∀ i m ys H,W i m ys H ->
   (J.stop i H/\ys.length<=sizeLine/\∀ p,H p=none->Q (.ref p) (We H p (.lst ys))) \/
   (J.go i H/\ys.length<=sizeLine/\∃ N:List V->Hp->Prop,(∀ ys' H',N ys' H'->∃ m',m'<m/\W (i+1) m' ys' H')/\∀ x H',J.yld i H x H'->g x (Vp fs σ) H' fun σ2 H2=>Ext (Vp fs σ) σ2 /\
    tt σ2 H2 fun b H3=>if b=true then te σ2 H3 fun v H4=>N (ys++[v]) H4 else N ys H3))
  (hRR:∀ (D C:Addr) (s':Shared) (H':Hp),(∃ m,s'.heap.Ns C m)->Inv X pins σ H' s'->D8 X pins H' C->Q (.ref D) H'->RR (.ref D) C (.ok .next) s') :
  wpAny (model X.prog X.w) X.A (newList []) (fun acc s₃=>wpAny (model X.prog X.w) X.A (newFunctionEnv sc X.env.globals (G9 X.env.cells sc.names []) [] X.env.qual none .none (some X.env)) (fun cenv s₄ =>
   codeAny (model X.prog X.w) X.A (.compStart (.ListComp elt [⟨tg,iter,ifs,0⟩] sc pos) 0 (.ref it) acc { cenv with scope:=relabel sc X.env }) (RR acc cenv.locals) s₄) E s₃) E s:=by
 refine wpAny_newObj_type (wpAny_newFunctionEnv S.nocell (by intro y hy;simp at hy) (fun h₁ hns₁ hsb₁=>?_) S.kind);dsimp only at hns₁ hsb₁ ⊢;generalize hH2:s.heap.push { cls:=.type "list",dict:=none,data:=.seq ([]:List Value).toArray }=G2 at hns₁ hsb₁ ⊢;have hC:G2.objs.size=s.heap.objs.size+1:=by rw [← hH2,size_push]
 have hDC:s.heap.objs.size≠G2.objs.size:=by rw [hC];exact ne_of_lt (Nat.lt_succ_self _)
 have hCle:s.heap.objs.size<=G2.objs.size:=by rw [hC];exact le_succ _
 have below:∀ b,b<s.heap.objs.size->b≠G2.objs.size/\b≠s.heap.objs.size:=fun b hb=>⟨by rw [hC];exact ne_of_lt (Nat.lt_succ_of_lt hb),ne_of_lt hb⟩
 have hfl:∀ b∈fp,b<s.heap.objs.size:=fun b hb=>by
  obtain ⟨o,e,_⟩:=T.obj _ _ st b hb;exact lt_size e
 have old:∀ b o,s.heap.get? b=some o->h₁.get? b=some o:=fun b o e=>hsb₁.extBut b o (below b (lt_size e)).1 (get?_push_of_some _ (hH2▸get?_push_of_some _ e))
 have hacc:h₁.get? s.heap.objs.size=some { cls:=.type "list",data:=.seq ([]:List Value).toArray 0 }:=hsb₁.extBut _ _ hDC (get?_push_of_some _ (hH2▸get?_push_size _ rfl));have st1:tn 0 h₁:=T.keep _ _ _ st fun b _ o e=>old b o e
 obtain ⟨W,⟨m0,w0⟩,turn⟩:=hW;obtain ⟨pg,pif,pe⟩:=hb G2.objs.size s H fp;generalize hY:V0 X sc N G2.objs.size s H fp=Y at pg pif pe;have Ye:Y.env=compEnvC sc (G9 X.env.cells sc.names []) G2.objs.size X.env:=by rw [← hY];rfl
 have YA:Y.A=X.A:=by rw [← hY];rfl
 have Yp:Y.prog=X.prog:=by rw [← hY];rfl
 have Yw:Y.w=X.w:=by rw [← hY];rfl
 have YK:Y.K=X.K:=by rw [← hY];rfl
 have Yx:Y.xe=fun _ _=>False:=by rw [← hY];rfl
 have Yc:Y.calm=true:=by rw [← hY];exact hc
 have cellN:∀ x c,X.env.cells.lookup x=some c->c<s.heap.objs.size:=fun x c e=>by
  obtain ⟨v,q⟩:=I.cell x c e;exact q.lt
 have loop:∀ s₃:Shared,s₃={ s with heap:=h₁,toks:=s.toks+([]:List (Str×Value)).length } ->
   codeAny (model X.prog X.w) X.A (.compLoop (.ListComp elt [⟨tg,iter,ifs,0⟩] sc pos) 0 (.ref it) (.ref s.heap.objs.size) (compEnvC sc (G9 X.env.cells sc.names []) G2.objs.size X.env)) (RR (.ref s.heap.objs.size) G2.objs.size) s₃:=by
  rintro s₃ rfl;refine Ft (fun n s'=>∃ (i:Nat) (H':Hp) (ys:List V) (its:List Value) (k:Nat),Y2 ys its/\Inv Y [(s.heap.objs.size,{ cls:=.type "list",data:=.seq its.toArray k })] (Vp fs σ) H' s'/\tn i s'.heap/\(∀ b∈fp,H' b=none)/\W i n ys H') ?_ m0
   ⟨0,H,[],[],0,.nil,hY▸As (D:=s.heap.objs.size) I hp S hf hfl hCle old hns₁ hacc (le_refl _) hDC (fun v z=>by cases z),st1,fun b hb=>(hf b hb).1,w0⟩
  rintro n s1 ⟨i,H1,ys,its,k,rv,I1,st',fr1,w1⟩;have stat:∀ {H':Hp} {pl:List (Addr×Obj)},(∀ b∈fp,H' b=none)->(∀ p∈pl,p.1=s.heap.objs.size)->∀ b∈fp,D8 Y pl H' b:=fun {H' pl} hn hpl b hb=>by
   rw [← hY];refine ⟨hn b hb,(below b (hfl b hb)).1,fun z=>?_,.inl hb,fun x c e=>(hf b hb).2.2.2.2.1 x c (Jf I hp S x c e),fun p hpp=>?_⟩
   ·rcases mem_cons.mp (I.stkSub b z) with z | z
    ·exact (hf b hb).2.1 z
    ·exact (hf b hb).2.2.1 z
   ·have hpp':p∈pl:=by
     rcases mem_append.mp hpp with z | z
     ·exact absurd (show p∈([]:List (Addr×Obj)) from z) (by simp)
     ·exact z
    rw [hpl p hpp'];exact Ne.symm (below b (hfl b hb)).2
  have one:∀ {o:Obj} (p:Addr×Obj),p∈([(s.heap.objs.size,o)]:List (Addr×Obj))->p.1=s.heap.objs.size:=fun {o} p hpp=>by
   have:p=_:=mem_singleton.mp hpp;rw [this]
  rcases turn i n ys H1 w1 with ⟨stop,hz,qn⟩ | ⟨go,hz,N',hN,step⟩
  ·have:=T.done Y Yp Yw YK Yc i _ s1 _ H1 (fun _ _=>False) I1 (stat fr1 one) st' stop
   rw [YA] at this;refine Wt this fun r s4 ⟨hr,I4⟩=>?_
   subst hr;have Ib:=I4.base;have pinD:=I4.pin (s.heap.objs.size,_) (mem_append_right _ mem_cons_self);obtain ⟨mC,hmC,_⟩:=I4.loc;have e1:Y.fs=Sw X.stack:=by rw [← hY];rfl
   have e2:Y.ex=fp:=by rw [← hY];rfl
   have e3:Y.H₀=H:=by rw [← hY];rfl
   have e4:Y.s₀=s:=by rw [← hY];rfl
   have e5:Y.env.locals=G2.objs.size:=by rw [← hY];rfl
   rw [e1,e2,e3,e4] at Ib;rw [e5] at hmC;have hok4:My X.prog X.w H1 s4.heap:=by
    have:=I4.hok;rw [Yp,Yw] at this;exact this
   have freeC:H1 G2.objs.size=none:=by have:=I4.free;rw [e5] at this;exact this
   have freeC':We H1 s.heap.objs.size (.lst ys) G2.objs.size=none:=by rw [Zh (Ne.symm hDC)];exact freeC
   have os4:s4.os=s.os:=by have:=I4.os;rw [e4] at this;exact this
   refine hRR _ _ s4 (We H1 s.heap.objs.size (.lst ys)) ⟨mC,hmC⟩ ?_ (I.fpOk hCle freeC') (qn _ pinD.2.1);exact I.call' (s':=s4) (ch:=fp) os4 (Ib.adopt (le_refl _) pinD.2.1) (hok4.adopt pinD.2.1 pinD.1 rv hz) I4.bare fun b hb=>⟨(hf b hb).2.2.2.1,(hf b hb).2.1,(hf b hb).2.2.2.2.1,(hf b hb).2.2.2.2.2⟩
  ·have:=T.item Y Yp Yw YK Yc i _ s1 _ H1 (fun _ _=>False) I1 (stat fr1 one) st' go
   rw [YA] at this;refine Wt this fun r s4 ⟨u,hr,h4⟩=>?_
   subst hr;refine Wt h4 fun _ s5 ⟨x,H5,I5,r5,y5,st5,fr5⟩=>?_
   have I5':=I5.pinned (stat fr5 one) (T.obj _ _ st5);have a1:=pg _ s5 _ H5 x u _ I5' r5 (step x H5 y5);rw [YA,Yp,Yw,Yx,Ye] at a1;refine Wt a1 fun _ s6 ⟨σ6,H6,I6,ext,q6⟩=>?_
   have a2:=pif _ s6 σ6 H6 _ I6 q6;rw [YA,Yp,Yw,Yx,Ye] at a2;refine Wt a2 fun b s7 ⟨H7,I7,q7⟩=>?_
   have back:∀ {H8:Hp} {s8:Shared},Inv Y ([(s.heap.objs.size,({ cls:=.type "list",data:=.seq its.toArray k }:Obj))]++L9 fp s5.heap) σ6 H8 s8->Inv Y [(s.heap.objs.size,{ cls:=.type "list",data:=.seq its.toArray k })] (Vp fs σ) H8 s8/\tn (i+1) s8.heap/\∀ b∈fp,H8 b=none:=fun {H8 s8} I8 =>
    ⟨I8.unpinned.weak ext.1 ext.2,T.keep _ _ _ st5 fun b hb o e=>(I8.pin (b,o) (mem_append_right _ (mem_append_right _ (Ml hb e)))).1,fun b hb=>by
     obtain ⟨o,e,d⟩:=T.obj _ _ st5 b hb;exact (I8.pin (b,o) (mem_append_right _ (mem_append_right _ (Ml hb e)))).2.1⟩
   cases b with
   | false =>
    rw [if_neg Bool.false_ne_true] at q7 ⊢;obtain ⟨m',hm,w7⟩:=hN _ _ q7;obtain ⟨I7',st7,fr7⟩:=back I7;exact ⟨m',hm,i+1,H7,ys,its,k,rv,I7',st7,fr7,w7⟩
   | true =>
    rw [if_pos rfl] at q7 ⊢;have a3:=pe _ s7 σ6 H7 _ I7 q7;rw [YA,Yp,Yw,Yx,Ye] at a3;refine Wt a3 fun y s8 ⟨v,H8,I8,r8,q8⟩=>?_
    obtain ⟨m',hm,w8⟩:=hN _ _ q8;obtain ⟨I8',st8,fr8⟩:=back I8;have pinD:=I8'.pin (s.heap.objs.size,_) (mem_append_right _ mem_cons_self);refine append_at (hsz:=by show its.toArray.size<=sizeLine;rw [size_toArray,← rv.length];exact hz) pinD.1 fun h9 hs9 hD9=>?_
    have e5:Y.env.locals=G2.objs.size:=by rw [← hY];rfl
    have I9:Inv Y [] (Vp fs σ) H8 { s8 with heap:=h9 }:=by
     have J0:Inv Y [] (Vp fs σ) H8 s8:=I8'.pins_of fun p hp=>absurd hp (by simp)
     refine J0.turned (t':=s8.toks) (it:=s.heap.objs.size) (fun b o hb e=>hs9.extBut b o hb e) pinD.2.1 (by rw [e5];exact hDC) (.inr ?_) (fun x c e=>?_) fun p hp=>?_
     ·rw [← hY];exact le_refl _
     ·rw [← hY] at e
      exact ne_of_lt (cellN x c (Jf I hp S x c e))
     ·rw [← hY] at hp
      exact absurd (show p∈([]:List (Addr×Obj)) from hp) (by simp)
    refine ⟨m',hm,i+1,H8,ys++[v],its++[y],k+1,rv.append (.cons r8 .nil),I9.pins_of fun p hp=>?_,T.keep _ _ _ st8 fun b hb o e=>hs9.extBut b o (below b (hfl b hb)).2 e,fr8,w8⟩;have:p=_:=mem_singleton.mp hp;subst this;refine ⟨?_,pinD.2.1,pinD.2.2.1,pinD.2.2.2.1,fun v z=>by cases z⟩;have e9:its.toArray.push y=(its++[y]).toArray:=by simp
    rw [← e9];exact hD9
 exact codeAny_compStart_list (loop _ rfl) (T.self _ 0 _ _ _ st1 (loop _ rfl))
theorem Inv.letGo {H':Hp} {h':Heap} (I:Inv X pins σ H s) (f:D8 X pins H C) (hs:SameBut C s.heap h'):Inv X pins σ H { s with heap:=h' }:=by
 obtain ⟨f0,f1,f2,f3,f4,f5⟩:=f;exact I.turned (t':=s.toks) (fun b o hb e=>hs.extBut b o hb e) f0 f1 f3 f4 f5
theorem Z7y {elt tg iter:Expr} {ifs:List Expr} {pos:Pos} {wi:TI} {g:TG} {tt:TT} {te:TE} (psc:Scope) (fs:List (Option Nat)) (N:List Str) (hp:X.env.scope=psc) (S:CompOk psc sc X.N N fs) (hc:X.calm=true) (hi:PI X tg iter wi)
  (hb:∀ (C:Addr) (s:Shared) (H:Hp) (fp:List Addr),PG (V0 X sc N C s H fp) tg g/\PIf (V0 X sc N C s H fp) ifs tt/\PE (V0 X sc N C s H fp) elt te)
  (hs:∀ x,foldedSetIterable iter X.env x=pure x:=by intro _;rfl):PE X (.ListComp elt [⟨tg,iter,ifs,0⟩] sc pos) (Z8s wi fs g tt te):=by
 intro pins s σ H Q I h;rw [eval_ListComp];refine wpAny_comprehension_free (use:=none) rfl hs (Lx (Db I hp S)) S.kind S.loc (Wt (hi pins s σ H _ I h) fun xv s₁ h₁=>Wt h₁ fun itv s₂ h₂=>?_);obtain ⟨it,fp,tn,J,H2,e,I2,T,st2,f2,hW⟩:=h₂;subst e;refine Fj (RR:=fun acc C=>compPost (model X.prog X.w) X.A X.xe none (EP X pins σ Q) acc C) hp S hc hb I2 T st2 f2 hW ?_;intro D C s' H' ⟨m,hm⟩ I' f q;exact ⟨m,hm,fun h' hs'=>⟨.ref D,H',I'.letGo (H':=H') f hs',rfl,q⟩⟩
theorem N3 {i:Nat} {x:Str} {elt tg iter:Expr} {ifs:List Expr} {pos pos' spos:Pos} {wi:TI} {g:TG} {tt:TT} {te:TE} (hN:X.N.Nodup) (hi':X.N[i]?=some x) (hx:Cy X.env.scope x) (psc:Scope) (fs:List (Option Nat)) (N:List Str) (hp:X.env.scope=psc) (S:CompOk psc sc X.N N fs) (hc:X.calm=true) (hi:PI X tg iter wi)
  (hb:∀ (C:Addr) (s:Shared) (H:Hp) (fp:List Addr),PG (V0 X sc N C s H fp) tg g/\PIf (V0 X sc N C s H fp) ifs tt/\PE (V0 X sc N C s H fp) elt te)
  (hs:∀ x,foldedSetIterable iter X.env x=pure x:=by intro _;rfl) (hsw:swapsWith (.ListComp elt [⟨tg,iter,ifs,0⟩] sc pos) (some (.Name x pos')) spos.line X.env=pure true:=by rfl)
  (hf:X.fn x=true\/X.env.scope.names.lookup x=some .local:=by first | exact .inl rfl | exact .inr rfl | assumption) :
  PS X (.Assign [.Name x pos'] (.ListComp elt [⟨tg,iter,ifs,0⟩] sc pos) spos) (Z9r (Z8s wi fs g tt te) (Z0c i)):=by
 intro pins s σ H D I h;rw [exec_Assign_Name_used _ _ _ _ hsw];refine wpAny_bind (wpAny_standAt (wpAny_bind ?_));show wpAny _ X.A (do let _ ← comprehension (.ListComp elt [⟨tg,iter,ifs,0⟩] sc pos) sc X.env _ (newList []) false (eval iter X.env) (some (assign (.Name x pos') X.env))) _ _ s;refine wpAny_bind (wpAny_mono (wpAny_comprehension_free (use:=some (assign (.Name x pos') X.env)) (Q:=fun _ s'=>SP X pins D .next s') rfl hs (Lx (Db I hp S)) S.kind S.loc
  (Wt (hi pins s σ H _ I h) fun xv s₁ h₁=>Wt h₁ fun itv s₂ h₂=>?_)) (fun _ s' hq=>wpAny_pure (wpAny_pure hq)) fun _ _ e=>e)
 obtain ⟨it,fp,tn,J,H2,e,I2,T,st2,f2,hW⟩:=h₂;subst e;refine Fj (Q:=fun v H'=>Z0c i v σ H' D.nx) (RR:=fun acc C=>compPost (model X.prog X.w) X.A X.xe (some (assign (.Name x pos') X.env)) (fun _ s'=>SP X pins D .next s') acc C) hp S hc hb I2 T st2 f2 hW ?_;intro L C s' H' ⟨m,hm⟩ I' f q;refine wpAny_assign_Name (O6 I' hN hi' hx (show Yv (V.ref L) (Value.ref L) from rfl) (fun s'' I'' ⟨a,hsb,ha⟩=>?_) hf);have hCa:C≠a:=by
  rintro rfl;rcases ha with z | z
  ·exact f.2.1 z
  ·exact f.2.2.2.2.1 x _ z rfl
 refine ⟨m,hm.sameBut hsb hCa,fun h' hs'=>⟨_,H',I''.letGo (H':=H') f hs',q⟩⟩
end
section
variable {t u:TS} {a b c:St->Hp->Prop} {r:VK} {σ:St} {H:Hp} {te ta tb:TE} {tc td:TT} {Q:VK} {i:Nat}
end
section
variable {X:Cx}
def Zdw (K:PySem.W.Frag):List V->Hp->VK->Prop:=fun xs H Q=>(∃ p ys,xs=[.ref p]/\(S9 K H p ys\/Sz K H p ys)/\(ys.length<=sizeLine->Q (.int ys.length) H))\/∃ z,xs=[.str z]/\z.length<=sizeLine/\Q (.int z.length) H
theorem Z0v:V5 X (.builtin "len") (Zdw X.K):=by
 intro pins s σ H xs us Q I r h;rcases h with ⟨p,ys,e,hq,q⟩ | h
 ·refine Pg pins s σ H xs us Q I r ⟨p,ys,e,hq,q ?_⟩
  rcases hq with hq | hq
  ·exact (I.list hq).choose_spec.2.2
  ·exact (I.tuple hq).choose_spec.2.2
 ·exact Pj pins s σ H xs us Q I r h
theorem PI.or {tg iter:Expr} {w1 w2:TI} (h1:PI X tg iter w1) (h2:PI X tg iter w2):PI X tg iter (fun σ H R=>w1 σ H R\/w2 σ H R):=by
 intro pins s σ H R I h;rcases h with h | h
 ·exact h1 pins s σ H R I h
 ·exact h2 pins s σ H R I h
def Zes (K:PySem.W.Frag) (tl:TE):TI:=fun σ H R=>Z90 K tl σ H R\/Ze2 K tl σ H R
theorem Z3s {tg l:Expr} {tl:TE} (hl:PE X l tl):PI X tg l (Zes X.K tl):=(Z7u hl).or (Zar hl)
end
section
variable {K:PySem.W.Frag} {tl:TE} {ta:TA} {g:TG} {tb:TS} {D:Ends} {σ:St} {H:Hp} {a b c:St->Hp->Prop} {r:VK}
variable {tt:TT} {te:TE} {fs:List (Option Nat)} {Q:VK}
end
structure Def (K:PySem.W.Frag) (mg:Str->Option Value) (x:Str) (st:Stmt):Prop where
 ex:∃ f fd,Fun K x x st f fd/\mg x=some (.ref f)
structure Cal (P:Program) (w:World) (K:PySem.W.Frag) (mg:Str->Option Value) (base:Heap) (k:Nat) (x:Str) (ps:List Str) (sp:Sp):Prop where
 ex:∃ f fd,FnOk P w K mg base D9 k f fd ps sp/\mg x=some (.ref f)/\PySem.W.keepIn K (.ref f)=true/\Jw K fd ps []
def Zdi (sp:Sp) (t:TA):TE:=fun σ H Q=>t σ H fun vs H1=>sp vs H1 Q E0
section
variable {P:Program} {w:World} {K:PySem.W.Frag} {mg:Str->Option Value} {base:Heap}
theorem Zat {X:Cx} {k:Nat} {x:Str} {ps:List Str} {sp:Sp} {p pos:Pos} {e:Expr} {es:List Expr} {t:TA} (C:Cal X.prog X.w X.K X.mg X.base k x ps sp) (hr:Room k X.A) (ha:PA X (e::es) t) (hg:Gl X x:=by rfl)
  (hdb:(x==("__debug__" : Str))=false:=by decide) (he:starEach (e::es) X.env=(false,eval e X.env)::starEach es X.env:=by rfl) (hpl:(backTo pos (starEach es X.env)).any (·.1)=false:=by rfl) :
  PE X (.Call (.Name x p) (e::es) [] pos) (Zdi sp t):=by
 obtain ⟨f,fd,F,hm,hk,hb⟩:=C.ex;have:=Z7l (dvs:=[]) (ds:=[]) (E:=E0) F hr hg hm hk hb .nil Z97 ha hdb he hpl (p:=p);intro pins s σ H Q I h;refine this pins s σ H Q I ?_;unfold Z0k;simp only [append_nil];exact h
theorem Zbb {x:Str} {st:Stmt} {N ps:List Str} {k:Nat} {sp:Sp} (D:Def K mg x st) (S:FnScope N ps (Z6 st))
  (hbi:∀ (kV doc pm:Value) (an:Option Addr) (cdv ct:Value) (us:List Value),us.length=ps.length->bindArgs (fnOf x x (Wn st) (Y8 st) (Z6 st) .none kV doc pm an cdv ct) ⟨us,[]⟩=pure (ps.zip us))
  (len:∀ vs H Q E,sp vs H Q E->vs.length=ps.length)
  (hbody:∀ (f:Addr) (cdv:Value) (A:Around) (outer:List Env) (s:Shared) (H:Hp) (vs:List V) (Q:VK) (E:XK),Room k (A.deeper (envOfC x (Z6 st) s.heap.objs.size f cdv))->sp vs H Q E ->
   ∃ t,Sx (Qh D9 P w K mg base N x (Z6 st) f cdv A outer s H E).nox (Y8 st) t/\t (Ends.mk (fun _ H'=>Q .non H') Q (fun _ _=>False) (fun _ _=>False)) (start N vs) H):Cal P w K mg base (k+1) x ps sp:=by
 obtain ⟨f,fd,F,hm⟩:=D.ex;exact ⟨f,fd,F.ok S len (fun cdv A outer s H vs Q E hr h=>hbody f cdv A outer s H vs Q E hr h),hm,F.kp,F.binds hbi⟩
theorem Z7q {x:Str} {st:Stmt} {f:Addr} {fd:FuncData} {N ps:List Str} {k:Nat} {sp:Sp} (F:Fun K x x st f fd) (S:FnScope N ps (Z6 st)) (len:∀ vs H Q E,sp vs H Q E->vs.length=ps.length)
  (hbody:∀ (cdv:Value) (A:Around) (outer:List Env) (s:Shared) (H:Hp) (vs:List V) (Q:VK) (E:XK),Room k (A.deeper (envOfC x (Z6 st) s.heap.objs.size f cdv))->sp vs H Q E ->
   ∃ t,Sx (Qh D9 P w K mg base N x (Z6 st) f cdv A outer s H E).nox (Y8 st) t/\t (Ends.mk (fun _ H'=>Q .non H') Q (fun _ _=>False) (fun _ _=>False)) (start N vs) H):FnOk P w K mg base D9 (k+1) f fd ps sp :=
 F.ok S len hbody
end
theorem Zs.new {H:Hp} {l:Addr} {o:HO} (h:H l=none):Zs H (We H l o):=fun b u e=>by rw [Zh (Y5 e h)];exact e
theorem Zs.seqT {K:PySem.W.Frag} {H H':Hp} {a:Addr} {xs:List V} (e:Zs H H') (h:Sz K H a xs):Sz K H' a xs:=by
 rcases h with h | h
 ·exact .inl (e _ _ h)
 ·exact .inr h
section
variable {X:Cx}
theorem Zaj {x:Str} {T:String} {pos:Pos} (hg:Gl X x) (hm:X.mg x=none) (hv:bootBuiltins x=some (.type T)) (hn:x≠"__name__" := by decide) (hd:(x==("__debug__" : Str))=false:=by decide):PE X (.Name x pos) (tC (.ty T)) :=
 Z77 (v:=.ty T) hg hm hv rfl hn hd
def Z5k (T n:String):Option Bool:=if (Value.type T==Value.type n)=true then some true else if PySem.W.kitMeta n=true then (PySem.fastBuiltinMro T).map (·.contains (.type n)) else none
theorem Z9n {K:PySem.W.Frag} {T n:String} {b:Bool} (h:Z5k T n=some b):kitOne K (.type T) (.type n)=some b:=h
def Zef:V->Option Int->Option Int->Hp->VK->Prop:=fun x lo hi H Q=>∃ z,x=.str z/\z.length<=sizeLine/\Q (.str (Txt.slice z lo hi)) H
theorem Z9m:Ch X Zef:=by
 intro pins s σ H x v vl vu lo hi sl Q I rx hs pl pu h;obtain ⟨z,rfl,hz,q⟩:=h;obtain ⟨t,rfl⟩:=rx;have fin:∀ t' k,EP X pins σ Q (.str (Txt.slice z lo hi) t') { s with toks:=k }:=fun t' k=>⟨.str (Txt.slice z lo hi),H,I.tok _,⟨_,rfl⟩,q⟩
 refine ⟨"str",_,F.slot_str_getitem.lookup,typeIs_str _ _ _,?_⟩;cases pl with
 | none =>
  cases pu with
  | none=>exact wpAny_getItem_str_slice (l:=none) (u:=none) (st:=none) hs rfl (post_val_or_str ⟨le_trans (Txt.slice_le z _ _) hz,fin⟩)
  | int j tj=>exact wpAny_getItem_str_slice (l:=none) (u:=some (j,tj)) (st:=none) hs rfl (post_val_or_str ⟨le_trans (Txt.slice_le z _ _) hz,fin⟩)
 | int i ti =>
  cases pu with
  | none=>exact wpAny_getItem_str_slice (l:=some (i,ti)) (u:=none) (st:=none) hs rfl (post_val_or_str ⟨le_trans (Txt.slice_le z _ _) hz,fin⟩)
  | int j tj=>exact wpAny_getItem_str_slice (l:=some (i,ti)) (u:=some (j,tj)) (st:=none) hs rfl (post_val_or_str ⟨le_trans (Txt.slice_le z _ _) hz,fin⟩)
def Zfl (K:PySem.W.Frag):V->Option Int->Option Int->Hp->VK->Prop:=fun x lo hi H Q=>Zdh K x lo hi H Q\/Zcz K x lo hi H Q\/Zef x lo hi H Q
theorem Zfj:Ch X (Zfl X.K):=Z7e.or (Zb1.or Z9m)
theorem Dw {ns:List Int}:∀ {us:List Value},IntsAre us ns->Y2 (ns.map V.int) us:=by
 intro us h;induction h with
 | nil=>exact .nil
 | cons n t h ih=>exact .cons ⟨t,rfl⟩ ih
def Z76 (K:PySem.W.Frag):List V->Hp->VK->Prop:=fun xs H Q=>∃ p ns,xs=[.ref p]/\S9 K H p (ns.map V.int)/\ns.length<64 /\
 ∀ (ms:List Int) (l:Addr),ms.Perm ns->ms.Pairwise (·<=·)->H l=none->Q (.ref l) (We H l (.lst (ms.map V.int)))
theorem Pq:V5 X (.builtin "sorted") (Z76 X.K):=by
 intro pins s σ H xs us Q I r h;obtain ⟨p,ns,rfl,hq,h64,q⟩:=h;obtain ⟨u,rfl,rx⟩:=Ji r;cases rx;obtain ⟨its,r',pl,hz⟩:=I.list hq;have hlen:=r'.length;rw [length_map] at hlen;refine sorted_ints pl.isList (Kc r') (by lia) fun out ms h1 h2 h3=>?_
 obtain ⟨e,he⟩:=sortedAll_at s.heap its out;have hl:ms.length=ns.length:=h2.length_eq;refine ⟨.ref (s.heap.objs.size+1),We H (s.heap.objs.size+1) (.lst (ms.map V.int)),I.laid (t':=s.toks) (fun b o q=>sortedAll_old q) (le_succ _) ?_,rfl,q ms _ h2 h3 (I.hok.fresh (le_succ _))⟩;refine ⟨by rw [length_map] at hz ⊢;lia,out.toList,e,Dw h1,?_⟩;rw [he]
theorem Hc {A:Around} {its:List Value} {bs:List Bool} (r:Y2 (bs.map V.bl) its):TruthOf X.prog X.w A (fun i v=>its.toArray[i]?=some v) (fun i=>bs.getD i false):=by
 intro i v s Q E hv h;have hv':its[i]?=some v:=by simpa using hv
 have hi:i<its.length:=(List.getElem?_eq_some_iff.mp hv').1;have hl:=r.length;rw [length_map] at hl;have hb:(bs.map V.bl)[i]?=some (V.bl (bs[i]'(by lia))):=by simp [show i<bs.length by lia]
 obtain ⟨u,hu,ru⟩:=r.get hb;rw [hv'] at hu;cases hu;cases ru;have:bs.getD i false=bs[i]'(by lia):=by simp [List.getD,show i<bs.length by lia]
 have h':Q (bs.getD i false) s:=h;rw [this] at h';exact wpAny_truthy_bool h'
theorem Z0t (bs:List Bool):(List.range bs.length).all (fun i=>bs.getD i false)=bs.all id:=by
 induction bs with
 | nil=>rfl
 | cons b bs ih =>
  rw [length_cons,List.range_succ_eq_map,all_cons,List.all_map,all_cons];have:(fun i=>(b::bs).getD i false) ∘ Nat.succ=fun i=>bs.getD i false:=by funext i;rfl
  rw [this,ih];rfl
theorem Z2i (bs:List Bool):(List.range bs.length).any (fun i=>bs.getD i false)=bs.any id:=by
 induction bs with
 | nil=>rfl
 | cons b bs ih =>
  rw [length_cons,List.range_succ_eq_map,any_cons,any_map,any_cons];have:(fun i=>(b::bs).getD i false) ∘ Nat.succ=fun i=>bs.getD i false:=by funext i;rfl
  rw [this,ih];rfl
def Zg1 (K:PySem.W.Frag):List V->Hp->VK->Prop:=fun xs H Q=>∃ (p:Addr) (bs:List Bool),xs=[.ref p]/\S9 K H p (bs.map V.bl)/\Q (.bl (bs.all id)) H
def Zft (K:PySem.W.Frag):List V->Hp->VK->Prop:=fun xs H Q=>∃ (p:Addr) (bs:List Bool),xs=[.ref p]/\S9 K H p (bs.map V.bl)/\Q (.bl (bs.any id)) H
theorem Z24 (hc:X.calm=true):V5 X (.builtin "all") (Zg1 X.K):=by
 intro pins s σ H xs us Q I r h;obtain ⟨p,bs,rfl,hq,q⟩:=h;obtain ⟨u,rfl,rx⟩:=Ji r;cases rx;obtain ⟨its,r',pl,hz⟩:=I.list hq;have hl:=pl.isList;have hlt:p<s.heap.objs.size:=by obtain ⟨o,e,_⟩:=hl;exact lt_size e
 have hlen:=r'.length;rw [length_map] at hlen;refine call_all_walk (wpAny_pyIter_list hl ⟨s.heap.objs.size,_,_,_,_,_,fun i=>bs.getD i false,rfl,Walks.list (A:=X.A.in1) (I.ok.hd hc) s.heap.objs.size p (ne_of_lt hlt) its.toArray,⟨⟨_,get?_push_size _ rfl,rfl,rfl⟩,hl.push _⟩,Hc r',fun h' tk hk=>?_⟩);have e:(List.range its.toArray.size).all (fun i=>bs.getD i false)=bs.all id:=by rw [size_toArray,← hlen];exact Z0t bs
 rw [e];exact ⟨.bl _,H,I.kept (h':=h') (t':=tk) (fun b o e=>hk b o (by simpa using ne_of_lt (lt_size e)) (get?_push_of_some _ e)),rfl,q⟩
theorem Z1a (hc:X.calm=true):V5 X (.builtin "any") (Zft X.K):=by
 intro pins s σ H xs us Q I r h;obtain ⟨p,bs,rfl,hq,q⟩:=h;obtain ⟨u,rfl,rx⟩:=Ji r;cases rx;obtain ⟨its,r',pl,hz⟩:=I.list hq;have hl:=pl.isList;have hlt:p<s.heap.objs.size:=by obtain ⟨o,e,_⟩:=hl;exact lt_size e
 have hlen:=r'.length;rw [length_map] at hlen;refine call_any_walk (wpAny_pyIter_list hl ⟨s.heap.objs.size,_,_,_,_,_,fun i=>bs.getD i false,rfl,Walks.list (A:=X.A.in1) (I.ok.hd hc) s.heap.objs.size p (ne_of_lt hlt) its.toArray,⟨⟨_,get?_push_size _ rfl,rfl,rfl⟩,hl.push _⟩,Hc r',fun h' tk hk=>?_⟩);have e:(List.range its.toArray.size).any (fun i=>bs.getD i false)=bs.any id:=by rw [size_toArray,← hlen];exact Z2i bs
 rw [e];exact ⟨.bl _,H,I.kept (h':=h') (t':=tk) (fun b o e=>hk b o (by simpa using ne_of_lt (lt_size e)) (get?_push_of_some _ e)),rfl,q⟩
abbrev TJ:=St->Hp->Str->VK->Prop
def PJ (X:Cx) (vs:List Expr) (t:TJ):Prop :=
 ∀ (pins:List (Addr×Obj)) (s:Shared) (σ:St) (H:Hp) (acc:Str) (Q:VK),Inv X pins σ H s->acc.length<=sizeLine->t σ H acc Q->wpAny (model X.prog X.w) X.A (joinParts acc (evalEach vs X.env)) (EP X pins σ Q) X.xe s
def Zdb:TJ:=fun _ H acc Q=>Q (.str acc) H
def Zci (c:Str) (r:TJ):TJ:=fun σ H acc Q=>(acc++c).length<=sizeLine/\r σ H (acc++c) Q
theorem C7:PJ X [] Zdb:=fun pins s σ H acc Q I hz h=>joinParts_nil ⟨.str acc,H,I.tok _,⟨_,rfl⟩,h⟩ hz
theorem Lh {c:Str} {j:Nat} {pos:Pos} {vs:List Expr} {r:TJ} (hr:PJ X vs r):PJ X (.Constant (.str c) j pos::vs) (Zci c r):=by
 intro pins s σ H acc Q I hz h;refine joinParts_cons (Calls.Constant_str ?_);exact ⟨h.1,hr pins _ σ H (acc++c) Q (I.tok _) h.1 h.2⟩
def P8 (r:TJ):TE:=fun σ H Q=>r σ H Str.empty Q
theorem G7 {v1 v2:Expr} {rest:List Expr} {pos:Pos} {r:TJ} (h:PJ X (v1::v2::rest) r):PE X (.JoinedStr (v1::v2::rest) pos) (P8 r):=by
 intro pins s σ H Q I hq;exact JoinedStr_many (h pins s σ H Str.empty Q I (by decide) hq)
end
abbrev cl (z:Str):List Nat:=z.cps.toList
theorem K7 (z:Str):(cl z).length=z.length:=by simp [cl,Str.length]
theorem Z36 (x y:Str):cl (x++y)=cl x++cl y:=by
 show (x.cps++y.cps).toList=_;simp [cl]
def Ta {α:Type} (xs:List α) (lo hi:Option Int):List α:=(xs.drop (HT.sIx xs.length 0 lo)).take (HT.sIx xs.length xs.length hi - HT.sIx xs.length 0 lo)
theorem Z34 (xs:List Nat) (i k:Nat):((List.range k).map fun (m:Nat)=>((i:Int)+1*(m:Int)).toNat).filterMap (xs[·]?)=(xs.drop i).take k:=by
 rw [List.filterMap_map];induction k generalizing i with
 | zero=>simp
 | succ k ih =>
  rw [List.range_succ_eq_map,filterMap_cons,List.filterMap_map];have e0:((fun x=>xs[x]?) ∘ fun m:Nat=>((i:Int)+1*(m:Int)).toNat) 0=xs[i]?:=by simp [Function.comp]
  rw [e0];have e1:(((fun x=>xs[x]?) ∘ fun m:Nat=>((i:Int)+1*(m:Int)).toNat) ∘ Nat.succ)=((fun x=>xs[x]?) ∘ fun m:Nat=>(((i+1:Nat):Int)+1*(m:Int)).toNat):=by
   funext m
   simp only [Function.comp,Nat.succ_eq_add_one];congr 1
   lia
  rw [e1,ih];cases h:xs[i]? with
  | none =>
   have hl:xs.length<=i:=List.getElem?_eq_none_iff.mp h;simp [List.drop_eq_nil_of_le hl,List.drop_eq_nil_of_le (Nat.le_succ_of_le hl)]
  | some c =>
   obtain ⟨hi,hc⟩:=List.getElem?_eq_some_iff.mp h;rw [drop_eq_getElem_cons hi,take_succ_cons,hc]
theorem Z49 (lo hi:Option Int) (n:Nat):Builtin.Str.strSliceIndices lo hi 1 n=(List.range (HT.sIx n n hi - HT.sIx n 0 lo)).map fun (m:Nat)=>(((HT.sIx n 0 lo:Nat):Int)+1*(m:Int)).toNat:=by
 have c:∀ (v:Option Int) (d:Nat),(match v with | none=>(d:Int) | some i=>(let i:=if i<0 then i+(n:Int) else i;if (1:Int) > 0 then max 0 (min i (n:Int)) else max (-1) (min i ((n:Int) - 1))))=((HT.sIx n d v:Nat):Int):=by
  intro v d;cases v with
  | none=>rfl
  | some i =>
   rw [← HT.clip_eq i n d];dsimp only;rw [if_pos (by decide)];by_cases hi:i<0
   ·rw [if_pos hi,if_pos hi];lia
   ·rw [if_neg hi,if_neg hi];lia
 have key:∀ (x y:Int) (a b:Nat),x=a->y=b->sliceRange x y 1=(List.range (b - a)).map fun (m:Nat)=>((a:Int)+1*(m:Int)).toNat:=by
  rintro x y a b rfl rfl;unfold sliceRange;dsimp only;rw [if_pos (by decide)];congr 1
  congr 1
  by_cases h:(a:Int)<(b:Int)
  ·rw [if_pos h];lia
  ·rw [if_neg h];lia
 unfold Builtin.Str.strSliceIndices;dsimp only;have e1:=c lo 0;have e2:=c hi n;dsimp only at e1 e2;simp only [show (1:Int) > 0 by decide,if_true] at e1 e2 ⊢;exact key _ _ _ _ e1 e2
theorem Z33 (z:Str) (lo hi:Option Int):cl (Txt.slice z lo hi)=Ta (cl z) lo hi:=by
 have hn:(cl z).length=z.length:=K7 z;unfold Txt.slice Ta;rw [hn];have hle:=HT.sIx_le z.length z.length (le_refl _) hi;split
 ·rename_i h
  rw [Z49,length_map,length_range] at h;have h':HT.sIx z.length z.length hi - HT.sIx z.length 0 lo=z.length:=by simpa using h
  have h0:HT.sIx z.length 0 lo=0\/z.length=0:=by lia
  rcases h0 with h0 | h0
  ·rw [h',h0,drop_zero,take_of_length_le (by lia)]
  ·have:cl z=[]:=length_eq_zero_iff.mp (by lia)
   rw [this];simp
 ·show (((Builtin.Str.strSliceIndices lo hi 1 z.length).filterMap (z.cps[·]?)).toArray).toList=_
  rw [Z49];have e:(fun x:Nat=>z.cps[x]?)=fun x=>(cl z)[x]?:=by funext x;simp [cl]
  rw [e];exact Z34 _ _ _
section
variable {X:Cx} (K:PySem.W.Frag)
def Z50 (K:PySem.W.Frag):List V->Hp->VK->Prop:=fun xs H Q=>∃ p ys,xs=[.ref p]/\(S9 K H p ys\/Sz K H p ys)/\∀ l,H l=none->Q (.ref l) (We H l (.lst ys))
theorem Di (h:X.K=K:=by rfl):V5 X (.type "list") (Z50 K):=by subst h;exact Xb
variable {o e:Expr} {es:List Expr} {to:TE} {t:TA} {name:Str} {apos cpos:Pos} {T id:String} {r:V->List V->Hp->VK->Prop}
end
end L2
namespace PySem
open AutoSeq1 (wpAny_loadPart')
section
variable {prog:Program} {w:World} {A:Around} {E:Value->Shared->Prop} {s:Shared}
theorem M7 {it l:Addr} {i:Nat} {items} {x:Value} {Q:Value->Shared->Prop} (hit:s.heap.IsTupleIter it l i)
  (hl:s.heap.IsTuple l items) (hx:items[i]?=some x)
  (hQ:∀ h',h'.IsTupleIter it l (i+1)->SameBut it s.heap h'->Q x { s with heap:=h' }) :
  wpAny (model prog w) A (Builtin.SmallTypes.nextOf (.ref it)) Q E s:=by
 obtain ⟨o,ho,hc,hd⟩:=id hit;obtain ⟨ol,hol,_,nl,hdl⟩:=hl;unfold Builtin.SmallTypes.nextOf;refine wpAny_bind (wpAny_callSpecial?_slot (name:=Str.ofString "__next__") hit.typeIs F.slot_tuple_iterator_next
  (wpAny_call_entry F.slot_tuple_iterator_next hit.typeIs F.entry_tuple_iterator_next ?_ (F.args_tuple_iterator_next_1 _)))
 show wpAny _ _ (field (.ref it) 0 >>= _) _ _ s;refine wpAny_bind (wpAny_field ho hd (x:=.ref l) rfl ?_);show wpAny _ _ (if (Value.ref l==Value.none)=true then _ else _) _ _ s;rw [if_neg (show ¬ ((Value.ref l==Value.none)=true) from Bool.false_ne_true)];show wpAny _ _ (field (.ref it) 1 >>= _) _ _ s;refine wpAny_bind (wpAny_field ho hd (x:=.int i 0) rfl ?_);show wpAny _ _ (seqItems? (.ref l) >>= _) _ _ s;refine wpAny_bind (wpAny_seqItems hol hdl ?_);simp only [Int.toNat_natCast,hx];refine wpAny_bind (wpAny_setField ho hd (by simp) (wpAny_pure ⟨x,rfl,wpAny_pure (hQ _ ?_ (SameBut.update ..))⟩));exact ⟨_,get?_update_self _ ho (Obj.isFreed_of_fields (Obj.data_mapFields hd _)),(Obj.cls_mapFields ..).trans hc,by
  rw [Obj.data_mapFields hd];simp [rawInt]⟩
theorem Mp {it l:Addr} {i:Nat} {items} {Q:Value->Shared->Prop} (hh:A.handled=none)
   (hit:s.heap.IsTupleIter it l i) (hl:s.heap.IsTuple l items) (hx:items[i]?=none)
   (hE:∀ h' e,ExtBut it s.heap h'->(∃ o,h'.get? e=some o/\o.cls=.type "StopIteration")->E (.ref e) { s with heap:=h' }) :
   wpAny (model prog w) A (Builtin.SmallTypes.nextOf (.ref it)) Q E s:=by
 obtain ⟨o,ho,hc,hd⟩:=id hit;obtain ⟨ol,hol,_,nl,hdl⟩:=hl;unfold Builtin.SmallTypes.nextOf;refine wpAny_bind (wpAny_callSpecial?_slot (name:=Str.ofString "__next__") hit.typeIs F.slot_tuple_iterator_next
   (wpAny_call_entry F.slot_tuple_iterator_next hit.typeIs F.entry_tuple_iterator_next ?_ (F.args_tuple_iterator_next_1 _)))
 show wpAny _ _ (field (.ref it) 0 >>= _) _ _ s;refine wpAny_bind (wpAny_field ho hd (x:=.ref l) rfl ?_);show wpAny _ _ (if (Value.ref l==Value.none)=true then _ else _) _ _ s;rw [if_neg (show ¬ ((Value.ref l==Value.none)=true) from Bool.false_ne_true)];show wpAny _ _ (field (.ref it) 1 >>= _) _ _ s;refine wpAny_bind (wpAny_field ho hd (x:=.int i 0) rfl ?_);show wpAny _ _ (seqItems? (.ref l) >>= _) _ _ s;refine wpAny_bind (wpAny_seqItems hol hdl ?_);simp only [Int.toNat_natCast,hx];refine wpAny_bind (wpAny_rule (wpAny_bind (wpAny_setField ho hd (by simp) ?_)));show wpAny _ _ (newExc (.type "StopIteration") [] >>= _) _ _ _;refine wpAny_bind ?_;simp only [newExc,newTuple];refine wpAny_bind (wpAny_newObj_type ?_ (by size_fits));refine wpAny_bind (m:=firstArgMember _ _) (wpAny_of_eq (a:=Value.none) (by first | rfl | (simp only [firstArgMember];rfl)) ?_);refine wpAny_newObj_type ?_ (by size_fits);simp only [raiseNew];refine wpAny_bind (wpAny_handled ?_);first | rw [show A.in1.handled=none from hh] | rw [hh]
 refine wpAny_bind (wpAny_pure (wpAny_throw ?_));exact hE _ _ (((SameBut.update ..).extBut.push _).push _) ⟨_,get?_push_size _ rfl,rfl⟩
end
theorem Draws.tupleD {prog:Program} {w:World} {A:Around} (hh:A.handled=none) (it l:Addr) (hne:l≠it) (items:Array Value) :
  Draws prog w A it [it,l] items.size (fun i v=>items[i]?=some v) (fun i h=>h.IsTupleIter it l i/\h.IsTuple l items) where
 live:=fun _ _ st=>let ⟨o,ho,_⟩:=st.1;⟨o,ho⟩
 frame:=fun _ _ _ st hk=>⟨st.1.at fun o e=>hk it (by simp) o e,let ⟨o,ho,r⟩:=st.2;⟨o,hk l (by simp) o ho,r⟩⟩
 item:=fun i s Q E hi st hQ=>by
  refine M7 st.1 st.2 (x:=items[i]) (by simp [hi]) fun h' hit' hs'=>?_
  exact hQ _ h' s.toks (by simp [hi]) ⟨hit',st.2.extBut hs'.extBut hne⟩ hs'
 done:=fun s Q E st hE=>Mp hh st.1 st.2 (by simp) hE
theorem Rn (l:Addr) (items:Array Value) (n:Nat) (dct:Option Addr) (sl:Array (Option Value)) :
  Meets (Builtin.«enumerate.__new__» ⟨[.type "enumerate",.ref l],[]⟩) (fun _ R s=>s.heap.get? l=some { cls:=.type "tuple",dict:=dct,data:=.seq items n,slots:=sl } /\
   R (.ok (.ret (.ref (s.heap.push { cls:=.type "tuple_iterator",data:=.fields #[.ref l,.int 0 0] }).objs.size)))
    { s with heap:=(s.heap.push { cls:=.type "tuple_iterator",data:=.fields #[.ref l,.int 0 0] }).push { cls:=.type "enumerate",data:=.fields #[.none,.bool false,.ref s.heap.objs.size,rawInt 0,.none,.none] } }) :=
 .of_wp fun prog w A R s h=>by
  obtain ⟨hp,g,d,tk,os⟩:=s;obtain ⟨hl,h⟩:=h;have hsub:=sub_enumerate;have hL:Heap.IsTuple (Shared.heap ⟨hp,g,d,tk,os⟩) l items:=⟨_,hl,rfl,n,rfl⟩
  wp_walk using wpAny_loadPart' hl
  refine wpAny_stack_any fun st=>wpAny_pure ?_
  split
  ·rename_i c _ _ _ _ _
   cases (c==Value.type "enumerate")
   ·wp_walk using wpAny_loadPart' hl,wpAny_pyIter_tuple hL
    exact ⟨_,rfl,h⟩
   ·wp_walk using wpAny_loadPart' hl,wpAny_pyIter_tuple hL
    exact ⟨_,rfl,h⟩
  ·wp_walk using wpAny_loadPart' hl,wpAny_pyIter_tuple hL
   exact ⟨_,rfl,h⟩
theorem Rr {prog:Program} {w:World} {A:Around} {E:Value->Shared->Prop} {s:Shared} {l:Addr} {items:Array Value} {Q:Value->Shared->Prop} (hL:s.heap.IsTuple l items)
  (h:∀ h',IsEnum h' (s.heap.objs.size+1) s.heap.objs.size 0 .none->h'.IsTupleIter s.heap.objs.size l 0->h'.objs.size=s.heap.objs.size+2 ->
   (∀ b o,s.heap.get? b=some o->h'.get? b=some o)->Q (.ref (s.heap.objs.size+1)) { s with heap:=h' }) :
  wpAny (model prog w) A (call (.type "enumerate") [.ref l]) Q E s:=by
 obtain ⟨⟨c,dct,dt,sl⟩,hl,hc,n,hd⟩:=hL;replace hc:c=.type "tuple" := hc;replace hd:dt=.seq items n:=hd;subst hc hd;refine callType_new F.called_enumerate (by decide) (F.typeCall_enumerate_1 _) (F.newCall_enumerate_1 _) (fun obj=>F.args_object_init_2 obj _) F.entry_enumerate_new
  (Rn l items n dct sl) ⟨hl,?_⟩
 have hz:(s.heap.push { cls:=.type "tuple_iterator",data:=.fields #[.ref l,.int 0 0] }).objs.size=s.heap.objs.size+1:=size_push ..;show _/\_;rw [hz];have he:IsEnum ((s.heap.push { cls:=.type "tuple_iterator",data:=.fields #[.ref l,.int 0 0] }).push
   { cls:=.type "enumerate",data:=.fields #[.none,.bool false,.ref s.heap.objs.size,rawInt 0,.none,.none] }) (s.heap.objs.size+1) s.heap.objs.size 0 .none:=by
  have:=get?_push_size (s.heap.push { cls:=.type "tuple_iterator",data:=.fields #[.ref l,.int 0 0] })
   (o:={ cls:=.type "enumerate",data:=.fields #[.none,.bool false,.ref s.heap.objs.size,rawInt 0,.none,.none] }) rfl
  rw [hz] at this;exact this
 refine ⟨⟨_,he,rfl⟩,h _ he ⟨_,get?_push_of_some _ (get?_push_size _ rfl),rfl,rfl⟩ (by rw [size_push,hz]) fun b o x=>get?_push_of_some _ (get?_push_of_some _ x)⟩
end PySem
namespace L2
open PySem PySem.Spec PyProof.Rows
inductive XD where
 | int (i:Int) | nums (is:List Int)
inductive Dat where
 | non | bl (b:Bool) | int (i:Int) | str (x:Str) | tup (xs:List Dat) | lst (xs:List Dat) | dct (kvs:List (Dat×Dat)) | exc (c:Str) (fs:List (Str×XD))
def T4 (K:PySem.W.Frag) (c:Str) (C:Addr):Prop:=PySem.W.nsIn K mainGlobals c=some (some (.ref C))
def XIs (e C:Addr) (dct:Option Addr) (h:Heap):Prop:=∃ o,h.get? e=some o/\o.cls=.ref C/\o.dict=dct/\∀ c,o.data≠.cls c
def Z61 (K:PySem.W.Frag) (H:Hp):XD->V->Prop
 | .int i,v=>v=.int i
 | .nums is,v=>∃ a,v=.ref a/\SL K H a (is.map V.int)/\is.length<=sizeLine
def Xg (K:PySem.W.Frag) (H:Hp):Option Addr->List (Str×XD)->Prop
 | none,fs=>fs=[]
 | some dx,fs=>∃ fvs,H dx=some (.xd fvs)/\∀ f,(fs.lookup f=none/\fvs.lookup f=none)\/∃ d v,fs.lookup f=some d/\fvs.lookup f=some v/\Z61 K H d v
def XRp (K:PySem.W.Frag) (H:Hp) (c:Str) (fs:List (Str×XD)) (v:V):Prop:=∃ e C dct,v=.ref e/\H e=some (.ext (XIs e C dct))/\T4 K c C/\Xg K H dct fs
structure SOk (x:Str):Prop where
 ok:PyData.strOk x=true
 le:x.length<=sizeLine
instance (x:Str):Decidable (SOk x):=decidable_of_iff (PyData.strOk x=true/\x.length<=sizeLine) ⟨fun h=>⟨h.1,h.2⟩,fun h=>⟨h.ok,h.le⟩⟩
theorem SOk.of {x:Str} (h:PyData.strOk x=true) (h':x.length<=sizeLine):SOk x:=⟨h,h'⟩
mutual
def Rp (K:PySem.W.Frag) (H:Hp):Dat->V->Prop
 | .non,v=>v=.non
 | .bl b,v=>v=.bl b
 | .int i,v=>v=.int i
 | .str x,v=>v=.str x/\SOk x
 | .tup ds,v=>ds.length<=sizeLine/\∃ a vs,v=.ref a/\Sz K H a vs/\Wk K H ds vs
 | .lst ds,v=>ds.length<=sizeLine/\∃ a vs,v=.ref a/\SL K H a vs/\Wk K H ds vs
 | .dct _,_=>False
 | .exc c fs,v=>XRp K H c fs v
def Wk (K:PySem.W.Frag) (H:Hp):List Dat->List V->Prop
 | [],vs=>vs=[]
 | d::ds,vs=>∃ v r,vs=v::r/\Rp K H d v/\Wk K H ds r
end
abbrev AS:=Addr->Bool
def av (H:Hp) (A:AS):Hp:=fun a=>if A a=true then none else H a
theorem V9 {H:Hp} {A:AS} {a:Addr} {o:HO} (h:H a=some o) (hA:A a=false):av H A a=some o:=by unfold av;rw [hA];exact h
theorem Js {H:Hp} {A:AS} {a:Addr} {o:HO} (h:av H A a=some o):A a=false/\H a=some o:=by
 unfold av at h;split at h
 ·cases h
 ·rename_i q;exact ⟨by simpa using q,h⟩
theorem W6 {H:Hp} {A:AS}:Zs (av H A) H:=fun b o e=>(Js e).2
theorem Vk {H H':Hp} {A:AS} (h:Zs H H'):Zs (av H A) (av H' A):=fun b o e=>V9 (h b o (Js e).2) (Js e).1
theorem Qr {H:Hp} {A B:AS} (h:∀ a,B a=true->A a=true):Zs (av H A) (av H B):=fun b o e=>by
 obtain ⟨h1,h2⟩:=Js e;refine V9 h2 ?_;cases q:B b with
 | false=>rfl
 | true=>rw [h b q] at h1;cases h1
def no:AS:=fun _=>false
theorem Cr {H:Hp}:av H no=H:=by funext a;simp [av,no]
theorem Zs.sl {K:PySem.W.Frag} {H H':Hp} {a:Addr} {xs:List V} (e:Zs H H') (h:SL K H a xs):SL K H' a xs:=by
 rcases h with (h | ⟨o,h⟩) | h
 ·exact .inl (.inl (e _ _ h))
 ·exact .inl (.inr ⟨o,e _ _ h⟩)
 ·exact .inr h
theorem SL.sq {K:PySem.W.Frag} {H:Hp} {a:Addr} {xs:List V} (h:SL K H a xs):S9 K H a xs:=by
 rcases h with h | ⟨its,n,h1,h2,h3⟩
 ·exact .inl h
 ·refine .inr ⟨_,its.toArray,n,h1,rfl,rfl,rfl,?_,by simpa using h3⟩
  have:=h3.length;simp only [size_toArray];lia
theorem SL.get {X:Cx} {pins:List (Addr×Obj)} {σ:St} {H:Hp} {s:Shared} {a:Addr} {xs:List V} (h:SL X.K H a xs) (I:Inv X pins σ H s) :
  ∃ (its:List Value) (n:Nat),Y2 xs its/\s.heap.get? a=some { cls:=.type "list",data:=.seq its.toArray n }/\xs.length<=sizeLine:=by
 rcases h with h | ⟨its,n,h1,h2,h3⟩
 ·obtain ⟨z,its,n,r,e⟩:=h.ok I.hok
  exact ⟨its,n,r,e,z⟩
 ·exact ⟨its,n,h3,I.kIn _ _ h1,h2⟩
theorem Z61.mono {K:PySem.W.Frag} {H H':Hp} (e:Zs H H') {d:XD} {v:V} (h:Z61 K H d v):Z61 K H' d v:=by
 cases d with
 | int i=>exact h
 | nums is=>obtain ⟨a,e1,e2,e3⟩:=h;exact ⟨a,e1,e.sl e2,e3⟩
theorem Xg.mono {K:PySem.W.Frag} {H H':Hp} (e:Zs H H') {dct:Option Addr} {fs:List (Str×XD)} (h:Xg K H dct fs):Xg K H' dct fs:=by
 cases dct with
 | none=>exact h
 | some dx =>
  obtain ⟨fvs,e1,e2⟩:=h;exact ⟨fvs,e _ _ e1,fun f=>(e2 f).imp id fun ⟨d,v,a,b,c⟩=>⟨d,v,a,b,c.mono e⟩⟩
theorem XRp.mono {K:PySem.W.Frag} {H H':Hp} (e:Zs H H') {c:Str} {fs:List (Str×XD)} {v:V} (h:XRp K H c fs v):XRp K H' c fs v:=by
 obtain ⟨x,C,dct,e1,e2,e3,e4⟩:=h;exact ⟨x,C,dct,e1,e _ _ e2,e3,e4.mono e⟩
mutual
theorem Rp.mono {K:PySem.W.Frag} {H H':Hp} (e:Zs H H'):∀ {d:Dat} {v:V},Rp K H d v->Rp K H' d v
 | .non,v,h=>by unfold Rp at h ⊢;exact h
 | .bl b,v,h=>by unfold Rp at h ⊢;exact h
 | .int i,v,h=>by unfold Rp at h ⊢;exact h
 | .str x,v,h=>by unfold Rp at h ⊢;exact h
 | .dct _,v,h=>by unfold Rp at h;exact h.elim
 | .exc _ _,v,h=>by unfold Rp at h ⊢;exact XRp.mono e h
 | .tup ds,v,h=>by
  unfold Rp at h ⊢;obtain ⟨hz,a,vs,e1,e2,e3⟩:=h;exact ⟨hz,a,vs,e1,e.seqT e2,Wk.mono e e3⟩
 | .lst ds,v,h=>by
  unfold Rp at h ⊢;obtain ⟨hz,a,vs,e1,e2,e3⟩:=h;exact ⟨hz,a,vs,e1,e.sl e2,Wk.mono e e3⟩
theorem Wk.mono {K:PySem.W.Frag} {H H':Hp} (e:Zs H H'):∀ {ds:List Dat} {vs:List V},Wk K H ds vs->Wk K H' ds vs
 | [],vs,h=>by unfold Wk at h ⊢;exact h
 | d::ds,vs,h=>by
  unfold Wk at h ⊢;obtain ⟨v,r,e1,e2,e3⟩:=h;exact ⟨v,r,e1,Rp.mono e e2,Wk.mono e e3⟩
end
section
variable {K:PySem.W.Frag} {H:Hp}
theorem Ub:Wk K H [] []:=by unfold Wk;rfl
theorem Uz {d:Dat} {ds:List Dat} {v:V} {vs:List V} (h:Rp K H d v) (t:Wk K H ds vs):Wk K H (d::ds) (v::vs):=by unfold Wk;exact ⟨v,vs,rfl,h,t⟩
theorem Yu {vs:List V} (h:Wk K H [] vs):vs=[]:=by unfold Wk at h;exact h
theorem Y0 {d:Dat} {ds:List Dat} {vs:List V} (h:Wk K H (d::ds) vs):∃ v r,vs=v::r/\Rp K H d v/\Wk K H ds r:=by unfold Wk at h;exact h
theorem Zy:∀ {ds:List Dat} {vs:List V},Wk K H ds vs->vs.length=ds.length
 | [],vs,h=>by rw [Yu h];rfl
 | d::ds,vs,h=>by
  obtain ⟨v,r,e1,e2,e3⟩:=Y0 h;rw [e1,length_cons,length_cons,Zy e3]
theorem S5:∀ {ds:List Dat} {vs:List V} {i:Nat} {d:Dat},Wk K H ds vs->ds[i]?=some d->∃ v,vs[i]?=some v/\Rp K H d v
 | [],vs,i,d,h,e=>by simp at e
 | d'::ds,vs,0,d,h,e=>by
  obtain ⟨v,r,e1,e2,e3⟩:=Y0 h;simp at e;subst e;exact ⟨v,by rw [e1];rfl,e2⟩
 | d'::ds,vs,i+1,d,h,e=>by
  obtain ⟨v,r,e1,e2,e3⟩:=Y0 h;obtain ⟨v',h1,h2⟩:=S5 (i:=i) e3 (by simpa using e);exact ⟨v',by rw [e1];simpa using h1,h2⟩
theorem Vb:∀ {ds es:List Dat} {vs us:List V},Wk K H ds vs->Wk K H es us->Wk K H (ds++es) (vs++us)
 | [],es,vs,us,h,k=>by rw [Yu h];exact k
 | d::ds,es,vs,us,h,k=>by
  obtain ⟨v,r,e1,e2,e3⟩:=Y0 h;subst e1;exact Uz e2 (Vb e3 k)
theorem Lo:∀ (n:Nat) {ds:List Dat} {vs:List V},Wk K H ds vs->Wk K H (ds.take n) (vs.take n)
 | 0,_,_,_=>by simp only [take_zero];exact Ub
 | n+1,[],vs,h=>by rw [Yu h];simp only [List.take_nil];exact Ub
 | n+1,d::ds,vs,h=>by
  obtain ⟨v,r,e1,e2,e3⟩:=Y0 h;subst e1;exact Uz e2 (Lo n e3)
theorem Ll:∀ (n:Nat) {ds:List Dat} {vs:List V},Wk K H ds vs->Wk K H (ds.drop n) (vs.drop n)
 | 0,_,_,h=>h
 | n+1,[],vs,h=>by rw [Yu h];simp only [List.drop_nil];exact Ub
 | n+1,d::ds,vs,h=>by
  obtain ⟨v,r,e1,e2,e3⟩:=Y0 h;subst e1;exact Ll n e3
theorem Jp {d:Dat} {v:V} (h:Rp K H d v):Wk K H [d] [v]:=Uz h Ub
theorem Z7h {ds:List Dat}:∀ {vs:List V},Wk K H ds vs->Wk K H ds.reverse vs.reverse:=by
 induction ds with
 | nil=>intro vs h;rw [Yu h];exact Ub
 | cons d ds ih =>
  intro vs h;obtain ⟨v,r,e1,e2,e3⟩:=Y0 h;subst e1;rw [reverse_cons,reverse_cons];exact Vb (ih e3) (Jp e2)
theorem Ex:∀ (ns:List Int),Wk K H (ns.map Dat.int) (ns.map V.int)
 | []=>Ub
 | n::ns=>Uz (by unfold Rp;rfl) (Ex ns)
theorem L6:Rp K H .non .non:=by unfold Rp;rfl
theorem Vy {b:Bool}:Rp K H (.bl b) (.bl b):=by unfold Rp;rfl
theorem W4 {i:Int}:Rp K H (.int i) (.int i):=by unfold Rp;rfl
theorem Gi {x:Str} (h:SOk x):Rp K H (.str x) (.str x):=by unfold Rp;exact ⟨rfl,h⟩
theorem Bw {a:Addr} {vs:List V} {ds:List Dat} (hz:ds.length<=sizeLine) (h:Sz K H a vs) (r:Wk K H ds vs):Rp K H (.tup ds) (.ref a):=by unfold Rp;exact ⟨hz,a,vs,rfl,h,r⟩
theorem Gn {a:Addr} {vs:List V} {ds:List Dat} (hz:ds.length<=sizeLine) (h:SL K H a vs) (r:Wk K H ds vs):Rp K H (.lst ds) (.ref a):=by unfold Rp;exact ⟨hz,a,vs,rfl,h,r⟩
theorem Ks {v:V} (h:Rp K H .non v):v=.non:=by unfold Rp at h;exact h
theorem Gy {b:Bool} {v:V} (h:Rp K H (.bl b) v):v=.bl b:=by unfold Rp at h;exact h
theorem Mi {i:Int} {v:V} (h:Rp K H (.int i) v):v=.int i:=by unfold Rp at h;exact h
theorem Kk {x:Str} {v:V} (h:Rp K H (.str x) v):v=.str x/\SOk x:=by unfold Rp at h;exact h
theorem Mn {ds:List Dat} {v:V} (h:Rp K H (.tup ds) v):∃ a vs,v=.ref a/\Sz K H a vs/\Wk K H ds vs:=by unfold Rp at h;exact h.2
theorem Cw {ds:List Dat} {v:V} (h:Rp K H (.tup ds) v):ds.length<=sizeLine:=by unfold Rp at h;exact h.1
theorem Z8d {ds:List Dat} {v:V} (h:Rp K H (.lst ds) v):ds.length<=sizeLine:=by unfold Rp at h;exact h.1
theorem Mt {ds:List Dat} {v:V} (h:Rp K H (.lst ds) v):∃ a vs,v=.ref a/\SL K H a vs/\Wk K H ds vs:=by unfold Rp at h;exact h.2
theorem Za0 {ds:List (Dat×Dat)} {v:V} (h:Rp K H (.dct ds) v):False:=by unfold Rp at h;exact h
theorem Zan {c:Str} {ds:List (Str×XD)} {v:V} (h:Rp K H (.exc c ds) v):XRp K H c ds v:=by unfold Rp at h;exact h
end
def Pk (K:PySem.W.Frag) (A:AS) (H:Hp) (d:Dat) (v:V):Prop :=
 Rp K (av H A) d v\/∃ a vs ds,d=.lst ds/\v=.ref a/\ds.length<=sizeLine/\H a=some (.lst vs)/\Wk K (av H A) ds vs
section
variable {K:PySem.W.Frag} {A:AS} {H H':Hp} {d:Dat} {v:V}
theorem Pk.mono (e:Zs H H') (h:Pk K A H d v):Pk K A H' d v:=by
 rcases h with h | ⟨a,vs,ds,e1,e2,hz,e3,e4⟩
 ·exact .inl (h.mono (Vk e))
 ·exact .inr ⟨a,vs,ds,e1,e2,hz,e _ _ e3,e4.mono (Vk e)⟩
theorem Pk.rp (h:Pk K A H d v):Rp K H d v:=by
 rcases h with h | ⟨a,vs,ds,e1,e2,hz,e3,e4⟩
 ·exact h.mono W6
 ·subst e1 e2;exact Gn hz (.inl (.inl e3)) (e4.mono W6)
theorem Pk.lenL {ds:List Dat} (h:Pk K A H (.lst ds) v):ds.length<=sizeLine:=Z8d h.rp
theorem Pk.lenT {ds:List Dat} (h:Pk K A H (.tup ds) v):ds.length<=sizeLine:=Cw h.rp
theorem Pk.non (h:Pk K A H .non v):v=.non:=Ks h.rp
theorem Pk.bl {b:Bool} (h:Pk K A H (.bl b) v):v=.bl b:=Gy h.rp
theorem Pk.int {i:Int} (h:Pk K A H (.int i) v):v=.int i:=Mi h.rp
theorem Pk.str {x:Str} (h:Pk K A H (.str x) v):v=.str x/\SOk x:=Kk h.rp
theorem Pk.tup {ds:List Dat} (h:Pk K A H (.tup ds) v):∃ a vs,v=.ref a/\Sz K H a vs/\Wk K (av H A) ds vs:=by
 rcases h with h | ⟨a,vs,ds,e1,e2,e3,e4⟩
 ·obtain ⟨a,vs,e1,e2,e3⟩:=Mn h
  exact ⟨a,vs,e1,W6.seqT e2,e3⟩
 ·cases e1
theorem Pk.lst {ds:List Dat} (h:Pk K A H (.lst ds) v):∃ a vs,v=.ref a/\SL K H a vs/\Wk K (av H A) ds vs:=by
 rcases h with h | ⟨a,vs,ds',e1,e2,hz,e3,e4⟩
 ·obtain ⟨a,vs,e1,e2,e3⟩:=Mt h
  exact ⟨a,vs,e1,W6.sl e2,e3⟩
 ·cases e1;exact ⟨a,vs,e2,.inl (.inl e3),e4⟩
end
mutual
def Sg:Dat->Dat->Bool
 | .non,.non=>true
 | .bl a,.bl b=>a==b
 | .bl a,.int j=>(if a then 1 else 0)==j
 | .int i,.bl b=>i==(if b then 1 else 0)
 | .int i,.int j=>i==j
 | .str x,.str y=>x==y
 | .lst xs,.lst ys=>Xu xs ys
 | .tup xs,.tup ys=>Xu xs ys
 | _,_=>false
def Xu:List Dat->List Dat->Bool
 | [],[]=>true
 | x::xs,y::ys=>Sg x y&&Xu xs ys
 | _,_=>false
end
def pd:Nat->Dat->Bool
 | 0,.lst _=>false
 | 0,.tup _=>false
 | n+1,.lst xs=>xs.all (pd n)
 | n+1,.tup xs=>xs.all (pd n)
 | _,.dct _=>false
 | _,.exc _ _=>false
 | _,.non=>true
 | _,.bl _=>true
 | _,.int _=>true
 | _,.str _=>true
mutual
def toP:Dat->PyData
 | .non=>.none
 | .bl b=>.bool b
 | .int i=>.int i
 | .str x=>.str x
 | .tup xs=>.tuple (Kl xs)
 | .lst xs=>.list (Kl xs)
 | .dct _=>.none
 | .exc _ _=>.none
def Kl:List Dat->List PyData
 | []=>[]
 | x::xs=>toP x::Kl xs
end
theorem X1 {n:Nat} {xs:List Dat} (h:pd n (.lst xs)=true):∃ m,n=m+1/\∀ x∈xs,pd m x=true:=by
 cases n with
 | zero=>cases h
 | succ n=>exact ⟨n,rfl,by simpa [pd] using h⟩
theorem Pt {n:Nat} {xs:List Dat} (h:pd n (.tup xs)=true):∃ m,n=m+1/\∀ x∈xs,pd m x=true:=by
 cases n with
 | zero=>cases h
 | succ n=>exact ⟨n,rfl,by simpa [pd] using h⟩
theorem Ps {n:Nat} {xs} (h:pd n (.dct xs)=true):False:=by cases n<;>cases h
theorem X8 {n:Nat} {c xs} (h:pd n (.exc c xs)=true):False:=by cases n<;>cases h
mutual
theorem Sk:∀ {n m:Nat} (x y:Dat),pd n x=true->pd m y=true->PyData.eqv (toP x) (toP y)=Sg x y
 | n,m,.dct _,y,h,_=>(Ps h).elim
 | n,m,.exc _ _,y,h,_=>(X8 h).elim
 | n,m,x,.dct _,_,h=>(Ps h).elim
 | n,m,x,.exc _ _,_,h=>(X8 h).elim
 | n,m,.non,.non,_,_=>rfl
 | n,m,.non,.bl _,_,_=>rfl
 | n,m,.non,.int _,_,_=>rfl
 | n,m,.non,.str _,_,_=>rfl
 | n,m,.non,.tup _,_,_=>rfl
 | n,m,.non,.lst _,_,_=>rfl
 | n,m,.bl _,.non,_,_=>rfl
 | n,m,.bl _,.bl _,_,_=>rfl
 | n,m,.bl _,.int _,_,_=>rfl
 | n,m,.bl _,.str _,_,_=>rfl
 | n,m,.bl _,.tup _,_,_=>rfl
 | n,m,.bl _,.lst _,_,_=>rfl
 | n,m,.int _,.non,_,_=>rfl
 | n,m,.int _,.bl _,_,_=>rfl
 | n,m,.int _,.int _,_,_=>rfl
 | n,m,.int _,.str _,_,_=>rfl
 | n,m,.int _,.tup _,_,_=>rfl
 | n,m,.int _,.lst _,_,_=>rfl
 | n,m,.str _,.non,_,_=>rfl
 | n,m,.str _,.bl _,_,_=>rfl
 | n,m,.str _,.int _,_,_=>rfl
 | n,m,.str _,.str _,_,_=>rfl
 | n,m,.str _,.tup _,_,_=>rfl
 | n,m,.str _,.lst _,_,_=>rfl
 | n,m,.lst _,.non,_,_=>rfl
 | n,m,.lst _,.bl _,_,_=>rfl
 | n,m,.lst _,.int _,_,_=>rfl
 | n,m,.lst _,.str _,_,_=>rfl
 | n,m,.lst _,.tup _,_,_=>rfl
 | n,m,.lst xs,.lst ys,h,k=>by
  obtain ⟨n',_,hx⟩:=X1 h;obtain ⟨m',_,hy⟩:=X1 k;simp only [toP,PyData.eqv,Sg];exact Kj xs ys hx hy
 | n,m,.tup _,.non,_,_=>rfl
 | n,m,.tup _,.bl _,_,_=>rfl
 | n,m,.tup _,.int _,_,_=>rfl
 | n,m,.tup _,.str _,_,_=>rfl
 | n,m,.tup _,.lst _,_,_=>rfl
 | n,m,.tup xs,.tup ys,h,k=>by
  obtain ⟨n',_,hx⟩:=Pt h;obtain ⟨m',_,hy⟩:=Pt k;simp only [toP,PyData.eqv,Sg];exact Kj xs ys hx hy
theorem Kj:∀ {n m:Nat} (xs ys:List Dat),(∀ x∈xs,pd n x=true)->(∀ y∈ys,pd m y=true)->PyData.eqvAll (Kl xs) (Kl ys)=Xu xs ys
 | n,m,[],[],_,_=>rfl
 | n,m,[],_::_,_,_=>rfl
 | n,m,_::_,[],_,_=>rfl
 | n,m,x::xs,y::ys,hx,hy=>by
  simp only [Kl,PyData.eqvAll,Xu];rw [Sk (n:=n) (m:=m) x y (hx x mem_cons_self) (hy y mem_cons_self),Kj (n:=n) (m:=m) xs ys (fun z hz=>hx z (mem_cons_of_mem _ hz)) (fun z hz=>hy z (mem_cons_of_mem _ hz))]
end
mutual
theorem S4:∀ (n:Nat) (x:Dat),pd n x=true->(toP x).depth<=n
 | n,.dct _,h=>(Ps h).elim
 | n,.exc _ _,h=>(X8 h).elim
 | n,.non,_=>zero_le _
 | n,.bl _,_=>zero_le _
 | n,.int _,_=>zero_le _
 | n,.str _,_=>zero_le _
 | n,.lst xs,h=>by
  obtain ⟨m,e,hx⟩:=X1 h;subst e;simp only [toP,PyData.depth];exact Nat.succ_le_succ (Dk m xs hx)
 | n,.tup xs,h=>by
  obtain ⟨m,e,hx⟩:=Pt h;subst e;simp only [toP,PyData.depth];exact Nat.succ_le_succ (Dk m xs hx)
theorem Dk:∀ (n:Nat) (xs:List Dat),(∀ x∈xs,pd n x=true)->PyData.depthAll (Kl xs)<=n
 | n,[],_=>zero_le _
 | n,x::xs,h=>by
  simp only [Kl,PyData.depthAll];exact Nat.max_le.mpr ⟨S4 n x (h x mem_cons_self),Dk n xs fun z hz=>h z (mem_cons_of_mem _ hz)⟩
end
section
variable {X:Cx} {pins:List (Addr×Obj)} {σ:St} {H:Hp} {s:Shared}
mutual
theorem Rp.reads (I:Inv X pins σ H s):∀ {n:Nat} (d:Dat) (v:V) (u:Value),pd n d=true->Rp X.K H d v->Yv v u->∃ as,Reads s.heap u (toP d) as/\(toP d).canLay0=true
 | n,.dct _,v,u,h,_,_=>(Ps h).elim
 | n,.exc _ _,v,u,h,_,_=>(X8 h).elim
 | n,.non,v,u,_,i,r=>by cases Ks i;cases r;exact ⟨_,.none,rfl⟩
 | n,.bl b,v,u,_,i,r=>by cases Gy i;cases r;exact ⟨_,.bool b,rfl⟩
 | n,.int k,v,u,_,i,r=>by cases Mi i;obtain ⟨t,rfl⟩:=r;exact ⟨_,.int k t,rfl⟩
 | n,.str x,v,u,_,i,r=>by
  obtain ⟨e,hs⟩:=Kk i;subst e;obtain ⟨t,rfl⟩:=r;exact ⟨_,.str x t,hs.ok⟩
 | n,.tup ds,v,u,h,i,r=>by
  obtain ⟨m,_,hx⟩:=Pt h;obtain ⟨a,vs,e1,e2,e3⟩:=Mn i;subst e1;cases r;obtain ⟨its,rv,⟨o,ho,hc,k,hd⟩,_⟩:=I.tuple e2;obtain ⟨as,ra,hl⟩:=Wk.reads I ds vs its hx e3 rv;exact ⟨_,.tuple ho hc hd (by simpa using ra),hl⟩
 | n,.lst ds,v,u,h,i,r=>by
  obtain ⟨m,_,hx⟩:=X1 h;obtain ⟨a,vs,e1,e2,e3⟩:=Mt i;subst e1;cases r;obtain ⟨its,rv,⟨o,k,ho,hc,_,hd⟩,_⟩:=I.list e2.sq;obtain ⟨as,ra,hl⟩:=Wk.reads I ds vs its hx e3 rv;exact ⟨_,.list ho hc hd (by simpa using ra),hl⟩
theorem Wk.reads (I:Inv X pins σ H s):∀ {n:Nat} (ds:List Dat) (vs:List V) (us:List Value),(∀ x∈ds,pd n x=true)->Wk X.K H ds vs->Y2 vs us->∃ as,ReadsAll s.heap us (Kl ds) as/\PyData.canLayAll0 (Kl ds)=true
 | n,[],vs,us,_,i,r=>by
  rw [Yu i] at r;cases r;exact ⟨_,.nil,rfl⟩
 | n,d::ds,vs,us,h,i,r=>by
  obtain ⟨v,rr,e1,e2,e3⟩:=Y0 i;subst e1;cases r with
  | cons r1 r2 =>
   obtain ⟨as,h1,l1⟩:=Rp.reads I d v _ (h d mem_cons_self) e2 r1;obtain ⟨bs,h2,l2⟩:=Wk.reads I ds rr _ (fun z hz=>h z (mem_cons_of_mem _ hz)) e3 r2;exact ⟨_,.cons h1 h2,by simp only [Kl,PyData.canLayAll0,l1,l2];rfl⟩
end
theorem Rp.eqAt (I:Inv X pins σ H s) {A:Around} {n m:Nat} {d e:Dat} {v w:V} {u u':Value} (hd:pd n d=true) (he:pd m e=true) (hn:n<=60) (hu:A.units+60<cLine) (r1:Rp X.K H d v) (r2:Rp X.K H e w) (q1:Yv v u) (q2:Yv w u') :
  SeqAt.EqAt A s u u' (Sg d e):=by
 obtain ⟨as,a1,a2⟩:=Rp.reads I d v u hd r1 q1;obtain ⟨bs,b1,b2⟩:=Rp.reads I e w u' he r2 q2;rw [← Sk d e hd he];have:=S4 n d hd;exact SeqAt.eqAt_reads _ _ A s u u' as bs a1 b1 a2 b2 (by lia)
end
def Mtb:Option HO->Prop
 | some (.lst _)=>True
 | some (.dK _)=>True
 | some (.dT _)=>True
 | _=>False
def T7 (A:AS) (H:Hp):Prop:=∀ a,A a=true->Mtb (H a)
theorem T7.new {A:AS} {H:Hp} (m:T7 A H) {p:Addr} (h:H p=none):A p=false:=by
 cases q:A p with
 | false=>rfl
 | true=>have:=m p q;rw [h] at this;exact this.elim
theorem T7.mono {A:AS} {H H':Hp} (m:T7 A H) (e:Zs H H'):T7 A H':=fun a h=>by
 have:=m a h;cases q:H a with
 | none=>rw [q] at this;exact this.elim
 | some o=>rw [q] at this;rw [e a o q];exact this
def ins (A:AS) (p:Addr):AS:=fun a=>A a||a==p
theorem Fm {A:AS} {p:Addr}:ins A p p=true:=by simp [ins]
theorem Gs {A:AS} {p a:Addr} (h:A a=true):ins A p a=true:=by simp [ins,h]
theorem Ki {A:AS} {p a:Addr} (h:ins A p a=true):A a=true\/a=p:=by simpa [ins] using h
theorem Zb9 {A:AS} {p a:Addr} (h:A a=false) (hn:a≠p):ins A p a=false:=by simp [ins,h,hn]
structure Step (A:AS) (H:Hp) (A':AS) (H':Hp):Prop where
 keep:∀ a o,H a=some o->A a=false->H' a=some o
 sub:∀ a,A' a=true->A a=true\/H a=none
theorem Step.refl (A:AS) (H:Hp):Step A H A H:=⟨fun _ _ h _=>h,fun _ h=>.inl h⟩
theorem Step.same {A:AS} {H H':Hp} (e:Zs H H'):Step A H A H':=⟨fun a o h _=>e a o h,fun _ h=>.inl h⟩
theorem Step.trans {A A1 A2:AS} {H H1 H2:Hp} (a:Step A H A1 H1) (b:Step A1 H1 A2 H2):Step A H A2 H2 where
 keep:=fun c o h hA=>b.keep c o (a.keep c o h hA) (by
  cases q:A1 c with
  | false=>rfl
  | true =>
   rcases a.sub c q with z | z
   ·rw [z] at hA;cases hA
   ·rw [z] at h;cases h)
 sub:=fun c h=>by
  rcases b.sub c h with z | z
  ·exact a.sub c z
  ·cases qA:A c with
   | true=>exact .inl rfl
   | false =>
    cases q:H c with
    | none=>exact .inr rfl
    | some o=>rw [a.keep c o q qA] at z;cases z
theorem Step.av {A A':AS} {H H':Hp} (s:Step A H A' H'):Zs (av H A) (av H' A'):=fun b o e=>by
 obtain ⟨h1,h2⟩:=Js e;refine V9 (s.keep b o h2 h1) ?_;cases q:A' b with
 | false=>rfl
 | true =>
  rcases s.sub b q with z | z
  ·rw [z] at h1;cases h1
  ·rw [z] at h2;cases h2
inductive GX where
 | nest (dss:List (List Dat)) | dict (kvs:List (List Uq×Dat))
def GOk (K:PySem.W.Frag) (A:AS) (H:Hp) (o:Addr->Prop):GX->V->Prop
 | .nest dss,v=>∃ (a:Addr) (as:List Addr),v=.ref a/\o a/\dss.length<=sizeLine/\H a=some (.lst (as.map V.ref))/\as.length=dss.length/\as.Nodup/\a∉as/\∀ (n:Nat) b ds,as[n]?=some b->dss[n]?=some ds->o b/\ds.length<=sizeLine/\∃ vs,H b=some (.lst vs)/\Wk K (av H A) ds vs
 | .dict kvs,v=>∃ (a:Addr) (us:List (List Uq×V)),v=.ref a/\o a/\kvs.length<=sizeLine/\H a=some (.dT us)/\us.map (·.1)=kvs.map (·.1)/\Wk K (av H A) (kvs.map (·.2)) (us.map (·.2))
theorem GOk.frame {K:PySem.W.Frag} {A A':AS} {H H':Hp} {o o':Addr->Prop} {g:GX} {v:V} (h:GOk K A H o g v) (ho:∀ b,o b->o' b) (hf:∀ b x,o b->H b=some x->H' b=some x) (ha:Zs (av H A) (av H' A')):GOk K A' H' o' g v:=by
 cases g with
 | nest dss =>
  obtain ⟨a,as,e1,e2,e3,e4,e5,e6,e7,e8⟩:=h;refine ⟨a,as,e1,ho a e2,e3,hf _ _ e2 e4,e5,e6,e7,fun n b ds q1 q2=>?_⟩;obtain ⟨f1,f2,vs,f3,f4⟩:=e8 n b ds q1 q2;exact ⟨ho b f1,f2,vs,hf _ _ f1 f3,f4.mono ha⟩
 | dict kvs =>
  obtain ⟨a,us,e1,e2,e3,e4,e5,e6⟩:=h;exact ⟨a,us,e1,ho a e2,e3,hf _ _ e2 e4,e5,e6.mono ha⟩
inductive Slt where
 | un | fz (d:Dat) | pk (d:Dat) | ow (ds:List Dat) | gx (g:GX)
abbrev Ev:=List Slt
def Ot (K:PySem.W.Frag) (A:AS) (H:Hp) (o:Addr->Prop):Slt->Option V->Prop
 | .un,_=>True
 | .fz d,x=>∃ v,x=some v/\Rp K (av H A) d v
 | .pk d,x=>∃ v,x=some v/\Pk K A H d v
 | .ow ds,x=>∃ a vs,x=some (.ref a)/\o a/\ds.length<=sizeLine/\H a=some (.lst vs)/\Wk K (av H A) ds vs
 | .gx g,x=>∃ v,x=some v/\GOk K A H o g v
structure Bs where
 H₀:Hp
 R:AS
 st:Bool
structure EnvOk (K:PySem.W.Frag) (B:Bs) (A:AS) (H:Hp) (σ:St) (env:Ev):Prop where
 h0:Zs B.H₀ H
 r0:∀ a,B.R a=true->∃ o,B.H₀ a=some o
 ra:∀ a,B.R a=true->A a=true
 ar:∀ a,A a=true->B.R a=true\/B.H₀ a=none
 mu:T7 A H
 len:σ.length=env.length
 np:B.st=true->∀ (i:Nat) d,env[i]?≠some (.pk d)
 sl:∃ own:Nat->Addr->Prop,(∀ i j a,own i a->own j a->i=j)/\(∀ i a,own i a->A a=true/\B.R a=false) /\
  ∀ (i:Nat) s,env[i]?=some s->∃ x,σ[i]?=some x/\Ot K A H (own i) s x
theorem Ot.mono {K:PySem.W.Frag} {A:AS} {H H':Hp} (e:Zs H H') {o:Addr->Prop} {s:Slt} {x:Option V} (h:Ot K A H o s x):Ot K A H' o s x:=by
 cases s with
 | un=>trivial
 | fz d=>obtain ⟨v,e1,e2⟩:=h;exact ⟨v,e1,e2.mono (Vk e)⟩
 | pk d=>obtain ⟨v,e1,e2⟩:=h;exact ⟨v,e1,e2.mono e⟩
 | ow ds=>obtain ⟨a,vs,e1,e2,hz,e3,e4⟩:=h;exact ⟨a,vs,e1,e2,hz,e _ _ e3,e4.mono (Vk e)⟩
 | gx g=>obtain ⟨v,e1,e2⟩:=h;exact ⟨v,e1,e2.frame (fun _ z=>z) (fun b x _ q=>e b x q) (Vk e)⟩
theorem EnvOk.mono {K:PySem.W.Frag} {B:Bs} {A:AS} {H H':Hp} {σ:St} {env:Ev} (k:EnvOk K B A H σ env) (e:Zs H H'):EnvOk K B A H' σ env:=by
 obtain ⟨own,h1,h2,h4⟩:=k.sl;exact ⟨k.h0.trans e,k.r0,k.ra,k.ar,k.mu.mono e,k.len,k.np,own,h1,h2,fun i s q=>let ⟨x,q2,q3⟩:=h4 i s q;⟨x,q2,q3.mono e⟩⟩
def Rm (m:Bool) (K:PySem.W.Frag) (A:AS) (H:Hp) (d:Dat) (v:V):Prop:=match m with
 | true=>Pk K A H d v
 | false=>Rp K (av H A) d v
theorem Rm.any {m:Bool} {K:PySem.W.Frag} {A:AS} {H:Hp} {d:Dat} {v:V} (h:Rp K (av H A) d v):Rm m K A H d v:=by
 cases m with
 | true=>exact .inl h
 | false=>exact h
theorem Rm.pk {m:Bool} {K:PySem.W.Frag} {A:AS} {H:Hp} {d:Dat} {v:V} (h:Rm m K A H d v):Pk K A H d v:=by
 cases m with
 | true=>exact h
 | false=>exact .inl h
theorem Rm.mono {m:Bool} {K:PySem.W.Frag} {A:AS} {H H':Hp} (e:Zs H H') {d:Dat} {v:V} (h:Rm m K A H d v):Rm m K A H' d v:=by
 cases m with
 | true=>exact Pk.mono e h
 | false=>exact Rp.mono (Vk e) h
def Xl (m:Bool) (K:PySem.W.Frag) (A:AS) (H:Hp):List Dat->List V->Prop
 | [],vs=>vs=[]
 | d::ds,vs=>∃ v r,vs=v::r/\Rm m K A H d v/\Xl m K A H ds r
theorem Xl.rps {K:PySem.W.Frag} {A:AS} {H:Hp}:∀ {ds:List Dat} {vs:List V},Xl false K A H ds vs->Wk K (av H A) ds vs
 | [],vs,h=>by rw [show vs=[] from h];exact Ub
 | _::_,_,⟨v,r,e1,e2,e3⟩=>by rw [e1];exact Uz e2 (Xl.rps e3)
theorem Xl.full {m:Bool} {K:PySem.W.Frag} {A:AS} {H:Hp}:∀ {ds:List Dat} {vs:List V},Xl m K A H ds vs->Wk K H ds vs
 | [],vs,h=>by rw [show vs=[] from h];exact Ub
 | _::_,_,⟨v,r,e1,e2,e3⟩=>by rw [e1];exact Uz e2.pk.rp (Xl.full e3)
theorem Xl.one {m:Bool} {K:PySem.W.Frag} {A:AS} {H:Hp} {d:Dat} {vs:List V} (h:Xl m K A H [d] vs):∃ v,vs=[v]/\Pk K A H d v:=by
 obtain ⟨v,r,e1,e2,e3⟩:=h;exact ⟨v,by rw [e1,show r=[] from e3],e2.pk⟩
theorem Xl.two {m:Bool} {K:PySem.W.Frag} {A:AS} {H:Hp} {d d':Dat} {vs:List V} (h:Xl m K A H [d,d'] vs):∃ v v',vs=[v,v']/\Pk K A H d v/\Pk K A H d' v':=by
 obtain ⟨v,r,e1,e2,v',r',e3,e4,e5⟩:=h;exact ⟨v,v',by rw [e1,e3,show r'=[] from e5],e2.pk,e4.pk⟩
def Qd (m:Bool) (K:PySem.W.Frag) (A:AS) (H:Hp) (d:Dat) (Q:VK):Prop:=∀ v H',Zs H H'->Rm m K A H' d v->Q v H'
def N6 (K:PySem.W.Frag) (A:AS) (H:Hp) (ds:List Dat) (Q:VK):Prop:=∀ p vs H',ds.length<=sizeLine->Zs H H'->H p=none->H' p=some (.lst vs)->Wk K (av H' (ins A p)) ds vs->Q (.ref p) H'
section
variable {m:Bool} {K:PySem.W.Frag} {A:AS} {H H':Hp} {d:Dat} {ds:List Dat} {Q:VK}
theorem Qd.mono (h:Qd m K A H d Q) (e:Zs H H'):Qd m K A H' d Q:=fun v H2 e2 r=>h v H2 (e.trans e2) r
theorem N6.mono (h:N6 K A H ds Q) (e:Zs H H'):N6 K A H' ds Q:=fun p vs H2 hz e2 hn hp r=>h p vs H2 hz (e.trans e2) (e.free hn) hp r
theorem Qd.any (h:Qd m K A H d Q):Qd false K A H d Q:=fun v H' e r=>h v H' e (Rm.any r)
theorem Qd.here {v:V} (h:Qd m K A H d Q) (r:Rp K (av H A) d v):Q v H:=h v H (Zs.refl H) (Rm.any r)
theorem Qd.new (h:Qd m K A H (.lst ds) Q) (mu:T7 A H):N6 K A H ds Q:=fun p vs H' hz e hn hp r=>by
 refine h _ H' e (Rm.any (Gn hz (.inl (.inl (V9 hp (mu.new hn)))) (r.mono (Qr fun a q=>Gs q))))
theorem N6.at {vs:List V} (h:N6 K A H ds Q) (hz:ds.length<=sizeLine) (r:Wk K (av H A) ds vs):∀ p,H p=none->Q (.ref p) (We H p (.lst vs)):=fun p hp=>by
 refine h p vs _ hz (Zs.new hp) hp Zt (r.mono fun b o e=>?_);obtain ⟨h1,h2⟩:=Js e;have hb:b≠p:=Y5 h2 hp;exact V9 (by rw [Zh hb];exact h2) (Zb9 h1 hb)
theorem Qd.tup {vs:List V} (h:Qd m K A H (.tup ds) Q) (mu:T7 A H) (hz:ds.length<=sizeLine) (r:Wk K (av H A) ds vs):∀ p,H p=none->Q (.ref p) (We H p (.tup vs)):=fun p hp=>by
 refine h _ _ (Zs.new hp) (Rm.any (Bw hz (.inl ((V9 Zt (mu.new hp)))) (r.mono (Vk (Zs.new hp)))))
end
def Wq (m:Bool) (X:Cx) (e:Expr) (f:Ev->Option Dat):Prop:=PE X e fun σ H Q=>∃ env R A d,EnvOk X.K R A H σ env/\f env=some d/\Qd m X.K A H d Q
def PNd (X:Cx) (e:Expr) (f:Ev->Option (List Dat)):Prop:=PE X e fun σ H Q=>∃ env R A ds,EnvOk X.K R A H σ env/\f env=some ds/\N6 X.K A H ds Q
def O9 (m:Bool) (X:Cx) (es:List Expr) (f:Ev->Option (List Dat)):Prop:=PA X es fun σ H Q=>∃ env R A ds,EnvOk X.K R A H σ env/\f env=some ds/\∀ vs H',Zs H H'->Xl m X.K A H' ds vs->Q vs H'
def PTd (X:Cx) (e:Expr) (f:Ev->Option Bool):Prop:=PT X e fun σ H Q=>∃ env R A b,EnvOk X.K R A H σ env/\f env=some b/\∀ H',Zs H H'->Q b H'
def Nk (X:Cx) (e:Expr) (f:Ev->Option Bool):Prop:=PW X e fun σ H Q=>∃ env R A b,EnvOk X.K R A H σ env/\f env=some b/\∀ H',Zs H H'->Q b H'
theorem PE.weak {X:Cx} {e:Expr} {t t':TE} (h:PE X e t) (w:∀ σ H Q,t' σ H Q->t σ H Q):PE X e t':=fun pins s σ H Q I q=>h pins s σ H Q I (w σ H Q q)
theorem PT.weak {X:Cx} {e:Expr} {t t':TT} (h:PT X e t) (w:∀ σ H Q,t' σ H Q->t σ H Q):PT X e t':=fun pins s σ H Q I q=>h pins s σ H Q I (w σ H Q q)
theorem PW.weak {X:Cx} {e:Expr} {t t':TT} (h:PW X e t) (w:∀ σ H Q,t' σ H Q->t σ H Q):PW X e t':=fun wh pins s σ H Q I q=>h wh pins s σ H Q I (w σ H Q q)
theorem PA.weak {X:Cx} {e:List Expr} {t t':TA} (h:PA X e t) (w:∀ σ H Q,t' σ H Q->t σ H Q):PA X e t':=fun pos pins s σ H Q I q=>h pos pins s σ H Q I (w σ H Q q)
theorem PS.weak {X:Cx} {e:Stmt} {t t':TS} (h:PS X e t) (w:∀ D σ H,t' D σ H->t D σ H):PS X e t':=fun pins s σ H D I q=>h pins s σ H D I (w D σ H q)
theorem Sx.weak {X:Cx} {e:List Stmt} {t t':TS} (h:Sx X e t) (w:∀ D σ H,t' D σ H->t D σ H):Sx X e t':=fun pins s σ H D I q=>h pins s σ H D I (w D σ H q)
section
variable {m:Bool} {X:Cx} {e:Expr} {f:Ev->Option Dat}
theorem Wq.any (h:Wq false X e f):Wq m X e f:=h.weak fun _ _ _ ⟨env,R,A,d,k,q1,q2⟩=>⟨env,R,A,d,k,q1,q2.any⟩
def dL (g:Ev->Option (List Dat)):Ev->Option Dat:=fun env=>(g env).map .lst
theorem PNd.x {g:Ev->Option (List Dat)} (h:PNd X e g):Wq m X e (dL g):=h.weak fun _ _ _ zz=>by
 obtain ⟨env,R,A,d,k,q1,q2⟩:=zz;unfold dL at q1;cases q:g env with
 | none=>rw [q] at q1;cases q1
 | some ds =>
  rw [q] at q1;cases q1;exact ⟨env,R,A,ds,k,q,q2.new k.mu⟩
theorem bind_some {α β:Type} {a:Option α} {g:α->Option β} {b:β} (h:a.bind g=some b):∃ x,a=some x/\g x=some b:=by
 cases a with
 | none=>cases h
 | some x=>exact ⟨x,rfl,h⟩
def dV (i:Nat):Ev->Option Dat:=fun env=>match env[i]? with
 | some (.fz d)=>some d
 | _=>none
def dP (i:Nat):Ev->Option Dat:=fun env=>match env[i]? with
 | some (.fz d)=>some d
 | some (.pk d)=>some d
 | some (.ow ds)=>some (.lst ds)
 | _=>none
theorem EnvOk.fz {R:Bs} {A:AS} {H:Hp} {σ:St} {env:Ev} {i:Nat} {d:Dat} (k:EnvOk X.K R A H σ env) (h:env[i]?=some (.fz d)):∃ v,σ[i]?=some (some v)/\Rp X.K (av H A) d v:=by
 obtain ⟨own,h1,h2,h4⟩:=k.sl;obtain ⟨x,q2,v,e1,e2⟩:=h4 i _ h;subst e1;exact ⟨v,q2,e2⟩
theorem EnvOk.look {R:Bs} {A:AS} {H:Hp} {σ:St} {env:Ev} {i:Nat} {d:Dat} (k:EnvOk X.K R A H σ env) (h:dP i env=some d):∃ v,σ[i]?=some (some v)/\Pk X.K A H d v:=by
 obtain ⟨own,h1,h2,h4⟩:=k.sl;unfold dP at h;split at h
 ·rename_i z e
  cases h;obtain ⟨x,q2,v,e1,e2⟩:=h4 i _ e;subst e1;exact ⟨v,q2,.inl e2⟩
 ·rename_i z e
  cases h;obtain ⟨x,q2,v,e1,e2⟩:=h4 i _ e;subst e1;exact ⟨v,q2,e2⟩
 ·rename_i z e
  cases h;obtain ⟨x,q2,a,vs,e1,e2,hz,e3,e4⟩:=h4 i _ e;subst e1;exact ⟨.ref a,q2,.inr ⟨a,vs,z,rfl,rfl,hz,e3,e4⟩⟩
 ·cases h
theorem xv (i:Nat) {x:Str} {pos:Pos} (hN:X.N[i]?=some x:=by rfl) (hv:Vis X.env.scope x:=by first | exact Or.inl rfl | exact Or.inr (Or.inl rfl) | exact Or.inr (Or.inr rfl)) (hd:(x==("__debug__" : Str))=false:=by decide)
  (hcd:(x==("__classdict__" : Str))=false:=by decide):Wq m X (.Name x pos) (dV i):=Wq.any ((R3 hN hv hd hcd).weak fun σ H Q zz=>by
 obtain ⟨env,R,A,d,k,q1,q2⟩:=zz;unfold dV at q1;split at q1
 ·rename_i z e
  cases q1;obtain ⟨v,h1,h2⟩:=k.fz e;exact ⟨v,h1,q2.here h2⟩
 ·cases q1)
theorem xo (i:Nat) {x:Str} {pos:Pos} (hN:X.N[i]?=some x:=by rfl) (hv:Vis X.env.scope x:=by first | exact Or.inl rfl | exact Or.inr (Or.inl rfl) | exact Or.inr (Or.inr rfl)) (hd:(x==("__debug__" : Str))=false:=by decide)
  (hcd:(x==("__classdict__" : Str))=false:=by decide):Wq true X (.Name x pos) (dP i):=(R3 hN hv hd hcd).weak fun σ H Q zz=>by
 obtain ⟨env,R,A,d,k,q1,q2⟩:=zz;obtain ⟨v,h1,h2⟩:=k.look q1;exact ⟨v,h1,q2 v H (Zs.refl H) h2⟩
def dC (d:Dat):Ev->Option Dat:=fun _=>some d
theorem Zee {i:Int} {j pos}:Wq m X (.Constant (.int i) j pos) (dC (.int i)):=Wq.any (Z9e.weak fun _ _ _ ⟨_,_,_,_,_,q1,q2⟩=>by cases q1;exact q2.here W4)
theorem xbl {b:Bool} {j pos}:Wq m X (.Constant (.bool b) j pos) (dC (.bl b)):=Wq.any (Zdm.weak fun _ _ _ ⟨_,_,_,_,_,q1,q2⟩=>by cases q1;exact q2.here Vy)
theorem Z2u {j pos}:Wq m X (.Constant .none j pos) (dC .non):=Wq.any (Zao.weak fun _ _ _ ⟨_,_,_,_,_,q1,q2⟩=>by cases q1;exact q2.here L6)
theorem Zdv {x:Str} {j pos} (h:SOk x:=by decide +kernel):Wq m X (.Constant (.str x) j pos) (dC (.str x)):=Wq.any (Z3h.weak fun _ _ _ ⟨_,_,_,_,_,q1,q2⟩=>by cases q1;exact q2.here (Gi h))
end
def rD (K:PySem.W.Frag) (F:Dat->Dat->Option Dat):R2:=fun v u H Q=>∃ A x y d,T7 A H/\F x y=some d/\Pk K A H x v/\Pk K A H y u/\Qd false K A H d Q
def rN (K:PySem.W.Frag) (F:Dat->Dat->Option (List Dat)):R2:=fun v u H Q=>∃ A x y ds,T7 A H/\F x y=some ds/\Pk K A H x v/\Pk K A H y u/\N6 K A H ds Q
def Mh (X:Cx) (f:Value->Value->Sem Value) (F:Dat->Dat->Option Dat):Prop:=Rf X f (rD X.K F)
def OpN (X:Cx) (f:Value->Value->Sem Value) (F:Dat->Dat->Option (List Dat)):Prop:=Rf X f (rN X.K F)
theorem Rf.weak {X:Cx} {f:Value->Value->Sem Value} {r r':R2} (h:Rf X f r) (w:∀ x y H Q,r' x y H Q->r x y H Q):Rf X f r':=fun pins s σ H x y v u Q I rx ry q=>h pins s σ H x y v u Q I rx ry (w _ _ _ _ q)
theorem OpN.d {X:Cx} {f:Value->Value->Sem Value} {F:Dat->Dat->Option (List Dat)} (h:OpN X f F):Mh X f (fun x y=>(F x y).map .lst):=Rf.weak h fun v u H Q zz=>by
 obtain ⟨A,x,y,d,mu,e,p1,p2,q⟩:=zz;dsimp only at e;cases z:F x y with
 | none=>rw [z] at e;cases e
 | some ds=>rw [z] at e;cases e;exact ⟨A,x,y,ds,mu,z,p1,p2,q.new mu⟩
def dO (F:Dat->Dat->Option α) (f g:Ev->Option Dat):Ev->Option α:=fun env=>(f env).bind fun x=>(g env).bind fun y=>F x y
section
variable {m m1 m2:Bool} {X:Cx} {a b:Expr} {f g:Ev->Option Dat} {F:Dat->Dat->Option Dat} {G:Dat->Dat->Option (List Dat)} {pos:Pos}
theorem two {r:R2} {σ:St} {H:Hp} {Q:VK} {env:Ev} {R:Bs} {A:AS} {x y:Dat} (k:EnvOk X.K R A H σ env) (e1:f env=some x) (e2:g env=some y)
  (h:∀ v u H2,Zs H H2->Pk X.K A H2 x v->Pk X.K A H2 y u->T7 A H2->r v u H2 Q) :
  tOp r (fun σ H Q=>∃ env R A d,EnvOk X.K R A H σ env/\f env=some d/\Qd m1 X.K A H d Q) (fun σ H Q=>∃ env R A d,EnvOk X.K R A H σ env/\g env=some d/\Qd m2 X.K A H d Q) σ H Q :=
 ⟨env,R,A,x,k,e1,fun v H1 s1 p1=>⟨env,R,A,y,k.mono s1,e2,fun u H2 s2 p2=>h v u H2 (s1.trans s2) (p1.pk.mono s2) p2.pk (k.mu.mono (s1.trans s2))⟩⟩
theorem Ew {α:Type} {F:Dat->Dat->Option α} {env:Ev} {d:α} (h:dO F f g env=some d):∃ x y,f env=some x/\g env=some y/\F x y=some d:=by
 obtain ⟨x,e1,h⟩:=bind_some h;obtain ⟨y,e2,h⟩:=bind_some h;exact ⟨x,y,e1,e2,h⟩
theorem xop {op:Operator} (ho:Mh X (binaryOp op) F) (ha:Wq m1 X a f) (hb:Wq m2 X b g):Wq m X (.BinOp a op b pos) (dO F f g):=Wq.any ((Z94 ho ha hb).weak fun σ H Q zz=>by
 obtain ⟨env,R,A,d,k,q1,q2⟩:=zz;obtain ⟨x,y,e1,e2,e3⟩:=Ew q1;exact two k e1 e2 fun v u H2 s p1 p2 mu=>⟨A,x,y,d,mu,e3,p1,p2,q2.mono s⟩)
theorem nop {op:Operator} (ho:OpN X (binaryOp op) G) (ha:Wq m1 X a f) (hb:Wq m2 X b g):PNd X (.BinOp a op b pos) (dO G f g):=(Z94 ho ha hb).weak fun σ H Q zz=>by
 obtain ⟨env,R,A,d,k,q1,q2⟩:=zz;obtain ⟨x,y,e1,e2,e3⟩:=Ew q1;exact two k e1 e2 fun v u H2 s p1 p2 mu=>⟨A,x,y,d,mu,e3,p1,p2,q2.mono s⟩
theorem Z2w {op:CmpOp} (ho:Mh X (compareOp op) F) (ha:Wq m1 X a f) (hb:Wq m2 X b g) (hm:behindInMarks op b=false):Wq m X (.Compare a [op] [b] pos) (dO F f g):=Wq.any ((Z8f ho ha hb hm).weak fun σ H Q zz=>by
 obtain ⟨env,R,A,d,k,q1,q2⟩:=zz;obtain ⟨x,y,e1,e2,e3⟩:=Ew q1;exact two k e1 e2 fun v u H2 s p1 p2 mu=>⟨A,x,y,d,mu,e3,p1,p2,q2.mono s⟩)
def dB (f:Ev->Option Dat):Ev->Option Bool:=fun env=>match f env with
 | some (.bl b)=>some b
 | _=>none
theorem Eo {env:Ev} {b:Bool} (h:dB f env=some b):f env=some (.bl b):=by
 unfold dB at h;split at h
 ·rename_i z e;cases h;exact e
 ·cases h
theorem V4 {op:CmpOp} (ho:Mh X (compareOp op) F) (ha:Wq m1 X a f) (hb:Wq m2 X b g) (hm:behindInMarks op b=false):PTd X (.Compare a [op] [b] pos) (dB (dO F f g)):=(Z7d ho ha hb hm).weak fun σ H Q zz=>by
 obtain ⟨env,R,A,d,k,q1,q2⟩:=zz;obtain ⟨x,y,e1,e2,e3⟩:=Ew (Eo q1);show tOp (rD X.K F) _ _ σ H (fun x H'=>∃ k,x=.bl k/\Q k H');exact two k e1 e2 fun v u H2 s p1 p2 mu=>⟨A,x,y,.bl d,mu,e3,p1,p2,fun v H' s' r=>⟨d,r.pk.bl,q2 H' (s.trans s')⟩⟩
theorem xix (ho:Cm X (rD X.K F)) (ha:Wq m1 X a f) (hb:Wq m2 X b g) (hs:K1 b):Wq m X (.Subscript a b pos) (dO F f g):=Wq.any ((Z5g ho ha hb hs).weak fun σ H Q zz=>by
 obtain ⟨env,R,A,d,k,q1,q2⟩:=zz;obtain ⟨x,y,e1,e2,e3⟩:=Ew q1;exact two k e1 e2 fun v u H2 s p1 p2 mu=>⟨A,x,y,d,mu,e3,p1,p2,q2.mono s⟩)
end
section
variable {m m1 m2:Bool} {X:Cx} {a b c:Expr} {rest:List Expr} {f g h:Ev->Option Dat} {t u:Ev->Option Bool} {pos:Pos}
def J5 (t u:Ev->Option Bool):Ev->Option Bool:=fun env=>(t env).bind fun b=>if b=true then u env else some false
def Z1i (t u:Ev->Option Bool):Ev->Option Bool:=fun env=>(t env).bind fun b=>if b=true then some true else u env
def L5 (t:Ev->Option Bool):Ev->Option Bool:=fun env=>(t env).map (!·)
theorem Mg (ha:PTd X a t):Nk X (.BoolOp .And [a] pos) t:=Z6e ha
theorem Z4y (ha:PTd X a t):Nk X (.BoolOp .Or [a] pos) t:=Zc3 ha
theorem R7 (ha:PTd X a t) (hb:Nk X (.BoolOp .And (b::rest) pos) u):Nk X (.BoolOp .And (a::b::rest) pos) (J5 t u):=(Zb4 ha hb).weak fun σ H Q zz=>by
 obtain ⟨env,R,A,d,k,q1,q2⟩:=zz;obtain ⟨x,e1,e2⟩:=bind_some q1;refine ⟨env,R,A,x,k,e1,fun H1 s1=>?_⟩;cases x with
 | true =>
  rw [if_pos rfl] at e2 ⊢;exact ⟨env,R,A,d,k.mono s1,e2,fun H2 s2=>q2 H2 (s1.trans s2)⟩
 | false =>
  rw [if_neg Bool.false_ne_true] at e2 ⊢;cases e2;exact q2 H1 s1
theorem Zaw (ha:PTd X a t) (hb:Nk X (.BoolOp .Or (b::rest) pos) u):Nk X (.BoolOp .Or (a::b::rest) pos) (Z1i t u):=(Zcw ha hb).weak fun σ H Q zz=>by
 obtain ⟨env,R,A,d,k,q1,q2⟩:=zz;obtain ⟨x,e1,e2⟩:=bind_some q1;refine ⟨env,R,A,x,k,e1,fun H1 s1=>?_⟩;cases x with
 | true =>
  rw [if_pos rfl] at e2 ⊢;cases e2;exact q2 H1 s1
 | false =>
  rw [if_neg Bool.false_ne_true] at e2 ⊢;exact ⟨env,R,A,d,k.mono s1,e2,fun H2 s2=>q2 H2 (s1.trans s2)⟩
theorem Nk.pt {e:Expr} (h:Nk X e t):PTd X e t:=PW.pt h
theorem Zba (ha:PTd X a t):PTd X (.UnaryOp .Not a pos) (L5 t):=(Zai ha).weak fun σ H Q zz=>by
 obtain ⟨env,R,A,d,k,q1,q2⟩:=zz;unfold L5 at q1;cases e:t env with
 | none=>rw [e] at q1;cases q1
 | some x =>
  rw [e] at q1;cases q1;exact ⟨env,R,A,x,k,e,fun H1 s1=>q2 H1 s1⟩
def Z7o (f g:Ev->Option Dat):Ev->Option Dat:=fun env=>(dB f env).bind fun b=>if b=true then g env else some (.bl false)
def dOr (f g:Ev->Option Dat):Ev->Option Dat:=fun env=>(dB f env).bind fun b=>if b=true then some (.bl true) else g env
def Z7t (f:Ev->Option Dat):Ev->Option Dat:=fun env=>(dB f env).map fun b=>.bl (!b)
theorem Zal {op} (ha:Wq m X a f):Wq m X (.BoolOp op [a] pos) f:=Zbz ha
theorem Zgd (ha:Wq m1 X a f) (hb:Wq false X (.BoolOp .And (b::rest) pos) g):Wq m X (.BoolOp .And (a::b::rest) pos) (Z7o f g):=Wq.any ((Zb3 ha hb).weak fun σ H Q zz=>by
 obtain ⟨env,R,A,d,k,q1,q2⟩:=zz;obtain ⟨x,e1,e2⟩:=bind_some q1;refine ⟨env,R,A,.bl x,k,Eo e1,fun v H1 s1 p1=>⟨x,p1.pk.bl,?_⟩⟩;cases x with
 | true =>
  rw [if_pos rfl] at e2 ⊢;exact ⟨env,R,A,d,k.mono s1,e2,q2.mono s1⟩
 | false =>
  rw [if_neg Bool.false_ne_true] at e2 ⊢;cases e2;exact (q2.mono s1).here Vy)
theorem xor (ha:Wq m1 X a f) (hb:Wq false X (.BoolOp .Or (b::rest) pos) g):Wq m X (.BoolOp .Or (a::b::rest) pos) (dOr f g):=Wq.any ((Ze5 ha hb).weak fun σ H Q zz=>by
 obtain ⟨env,R,A,d,k,q1,q2⟩:=zz;obtain ⟨x,e1,e2⟩:=bind_some q1;refine ⟨env,R,A,.bl x,k,Eo e1,fun v H1 s1 p1=>⟨x,p1.pk.bl,?_⟩⟩;cases x with
 | true =>
  rw [if_pos rfl] at e2 ⊢;cases e2;exact (q2.mono s1).here Vy
 | false =>
  rw [if_neg Bool.false_ne_true] at e2 ⊢;exact ⟨env,R,A,d,k.mono s1,e2,q2.mono s1⟩)
theorem Zdl (ha:Wq m1 X a f):Wq m X (.UnaryOp .Not a pos) (Z7t f):=Wq.any ((Za2 ha).weak fun σ H Q zz=>by
 obtain ⟨env,R,A,d,k,q1,q2⟩:=zz;unfold Z7t at q1;cases e:dB f env with
 | none=>rw [e] at q1;cases q1
 | some x =>
  rw [e] at q1;cases q1;exact ⟨env,R,A,.bl x,k,Eo e,fun v H1 s1 p1=>⟨x,p1.pk.bl,(q2.mono s1).here Vy⟩⟩)
def Zfw:Dat->Option Bool
 | .non=>some false
 | .bl b=>some b
 | .int i=>some (i != 0)
 | .str y=>some ((y.length:Int) != 0)
 | .lst xs=>some (!xs.isEmpty)
 | .tup xs=>some (!xs.isEmpty)
 | _=>none
def dT (f:Ev->Option Dat):Ev->Option Bool:=fun env=>(f env).bind Zfw
theorem Hl {K:PySem.W.Frag} {H:Hp} {ds:List Dat} {vs:List V} (r:Wk K H ds vs):vs.isEmpty=ds.isEmpty:=by
 cases ds with
 | nil=>rw [Yu r];rfl
 | cons d ds=>obtain ⟨v,r',e,_⟩:=Y0 r;rw [e];rfl
theorem G8 (ha:Wq true X a f) (he:∀ whole,isTrue a X.env whole=(do let v ← whole;standAt a.pos;holding [v] (truthy v)):=by intro _;rfl):PTd X a (dT f):=(Z3z ha he).weak fun σ H Q zz=>by
 obtain ⟨env,R,A,b,k,q1,q2⟩:=zz;obtain ⟨x,e1,e2⟩:=bind_some q1;refine ⟨env,R,A,x,k,e1,fun v H1 s1 p1=>⟨b,?_,q2 H1 s1⟩⟩;have p:Pk X.K A H1 x v:=p1;cases x with
 | non=>cases e2;rw [p.non];rfl
 | bl b'=>cases e2;rw [p.bl];rfl
 | int i=>cases e2;rw [p.int];rfl
 | str y=>cases e2;obtain ⟨e,h⟩:=p.str;rw [e];exact ⟨h.le,rfl⟩
 | lst xs=>cases e2;obtain ⟨a',vs,e,h1,h2⟩:=p.lst;rw [e];exact .inl ⟨vs,h1.sq,by rw [Hl h2]⟩
 | tup xs=>cases e2;obtain ⟨a',vs,e,h1,h2⟩:=p.tup;rw [e];exact .inr (.inl ⟨vs,h1,by rw [Hl h2]⟩)
 | dct _=>cases e2
 | exc _ _=>cases e2
end
section
variable {m:Bool} {X:Cx} {e:Expr} {es:List Expr} {f:Ev->Option Dat} {fs:Ev->Option (List Dat)} {pos:Pos}
def Zc:Ev->Option (List Dat):=fun _=>some []
def Z2 (f:Ev->Option Dat) (fs:Ev->Option (List Dat)):Ev->Option (List Dat):=fun env=>(f env).bind fun d=>(fs env).map fun ds=>d::ds
theorem Z9:O9 m X [] Zc:=T3.weak fun σ H Q ⟨env,R,A,ds,k,q1,q2⟩=>by cases q1;exact q2 [] H (Zs.refl H) rfl
theorem Z0 (ha:Wq m X e f) (hr:O9 m X es fs) (hs:starEach (e::es) X.env=(false,eval e X.env)::starEach es X.env:=by rfl):O9 m X (e::es) (Z2 f fs):=(Wl ha hr hs).weak fun σ H Q zz=>by
 obtain ⟨env,R,A,ds,k,q1,q2⟩:=zz;obtain ⟨d,e1,e2⟩:=bind_some q1;cases e3:fs env with
 | none=>rw [e3] at e2;cases e2
 | some r =>
  rw [e3] at e2;cases e2;exact ⟨env,R,A,d,k,e1,fun v H1 s1 p1=>⟨env,R,A,r,k.mono s1,e3,fun vs H2 s2 p2=>q2 (v::vs) H2 (s1.trans s2) ⟨v,vs,rfl,p1.mono s2,p2⟩⟩⟩
def Ys (fs:Ev->Option (List Dat)):Ev->Option Dat:=fun env=>(fs env).bind fun ds=>if ds.length<=1000 then some (.tup ds) else none
def U3 (fs:Ev->Option (List Dat)):Ev->Option (List Dat):=fun env=>(fs env).bind fun ds=>if ds.length<=1000 then some ds else none
theorem Zdf {x1} (h:O9 false X es fs):Wq m X (.Tuple es x1 pos) (Ys fs):=Wq.any ((Z99 h).weak fun σ H Q zz=>by
 obtain ⟨env,R,A,d,k,q1,q2⟩:=zz;obtain ⟨ds,e1,e2⟩:=bind_some q1;split at e2
 ·rename_i hz
  cases e2;have hz':ds.length<=sizeLine:=le_of_lt (Tx hz);refine ⟨env,R,A,ds,k,e1,fun vs H1 s1 p1=>⟨?_,(q2.mono s1).tup (k.mu.mono s1) hz' p1.rps⟩⟩;rw [Zy p1.rps];exact hz'
 ·cases e2)
theorem Qg (h:O9 false X es fs):PNd X (.List es pos) (U3 fs):=(Z4h h).weak fun σ H Q zz=>by
 obtain ⟨env,R,A,d,k,q1,q2⟩:=zz;obtain ⟨ds,e1,e2⟩:=bind_some q1;split at e2
 ·rename_i hz
  cases e2;have hz':d.length<=sizeLine:=le_of_lt (Tx hz);refine ⟨env,R,A,d,k,e1,fun vs H1 s1 p1=>⟨?_,(q2.mono s1).at hz' p1.rps⟩⟩;rw [Zy p1.rps];exact hz'
 ·cases e2
def D4 (X:Cx) (f:Value) (F:List Dat->Option Dat):Prop:=V5 X f (fun vs H Q=>∃ A ds d,T7 A H/\F ds=some d/\Xl true X.K A H ds vs/\Qd false X.K A H d Q)
def Z91 (X:Cx) (f:Value) (F:List Dat->Option (List Dat)):Prop:=V5 X f (fun vs H Q=>∃ A ds d,T7 A H/\F ds=some d/\Xl true X.K A H ds vs/\N6 X.K A H d Q)
theorem V5.weak {f:Value} {r r':List V->Hp->VK->Prop} (h:V5 X f r) (w:∀ xs H Q,r' xs H Q->r xs H Q):V5 X f r':=fun pins s σ H xs us Q I rv q=>h pins s σ H xs us Q I rv (w _ _ _ q)
def dF (F:List Dat->Option α) (fs:Ev->Option (List Dat)):Ev->Option α:=fun env=>(fs env).bind F
variable {x:Str} {p:Pos} {id T:String} {F:List Dat->Option Dat} {G:List Dat->Option (List Dat)}
theorem Z32 (hc:D4 X (.builtin id) F) (hg:Gl X x) (hm:X.mg x=none) (hv:bootBuiltins x=some (.builtin id)) (ha:O9 true X (e::es) fs) (hn:x≠"__name__" := by decide) (hdb:(x==("__debug__" : Str))=false:=by decide)
  (he:starEach (e::es) X.env=(false,eval e X.env)::starEach es X.env:=by rfl) (hpl:(backTo pos (starEach es X.env)).any (·.1)=false:=by rfl):Wq m X (.Call (.Name x p) (e::es) [] pos) (dF F fs) :=
 Wq.any ((N2 hc hg hm hv ha hn hdb he hpl).weak fun σ H Q zz=>by
  obtain ⟨env,R,A,d,k,q1,q2⟩:=zz;obtain ⟨ds,e1,e2⟩:=bind_some q1;exact ⟨env,R,A,ds,k,e1,fun vs H1 s1 p1=>⟨A,ds,d,k.mu.mono s1,e2,p1,q2.mono s1⟩⟩)
theorem Tj (hc:D4 X (.type T) F) (hg:Gl X x) (hm:X.mg x=none) (hv:bootBuiltins x=some (.type T)) (ha:O9 true X (e::es) fs) (hn:x≠"__name__" := by decide) (hdb:(x==("__debug__" : Str))=false:=by decide)
  (he:starEach (e::es) X.env=(false,eval e X.env)::starEach es X.env:=by rfl) (hpl:(backTo pos (starEach es X.env)).any (·.1)=false:=by rfl):Wq m X (.Call (.Name x p) (e::es) [] pos) (dF F fs) :=
 Wq.any ((Se hc hg hm hv ha hn hdb he hpl).weak fun σ H Q zz=>by
  obtain ⟨env,R,A,d,k,q1,q2⟩:=zz;obtain ⟨ds,e1,e2⟩:=bind_some q1;exact ⟨env,R,A,ds,k,e1,fun vs H1 s1 p1=>⟨A,ds,d,k.mu.mono s1,e2,p1,q2.mono s1⟩⟩)
theorem Oo (hc:Z91 X (.builtin id) G) (hg:Gl X x) (hm:X.mg x=none) (hv:bootBuiltins x=some (.builtin id)) (ha:O9 true X (e::es) fs) (hn:x≠"__name__" := by decide) (hdb:(x==("__debug__" : Str))=false:=by decide)
  (he:starEach (e::es) X.env=(false,eval e X.env)::starEach es X.env:=by rfl) (hpl:(backTo pos (starEach es X.env)).any (·.1)=false:=by rfl):PNd X (.Call (.Name x p) (e::es) [] pos) (dF G fs) :=
 (N2 hc hg hm hv ha hn hdb he hpl).weak fun σ H Q zz=>by
  obtain ⟨env,R,A,d,k,q1,q2⟩:=zz;obtain ⟨ds,e1,e2⟩:=bind_some q1;exact ⟨env,R,A,ds,k,e1,fun vs H1 s1 p1=>⟨A,ds,d,k.mu.mono s1,e2,p1,q2.mono s1⟩⟩
end
section
variable {m m1:Bool} {X:Cx} {o e:Expr} {es:List Expr} {f:Ev->Option Dat} {fs:Ev->Option (List Dat)} {pos apos cpos:Pos} {name:Str} {T id:String} {α:Type}
def Ap (T:String):Dat->Bool
 | .str _=>T=="str"
 | .int _=>T=="int"
 | .lst _=>T=="list"
 | _=>false
theorem Z9t {K:PySem.W.Frag} {A:AS} {H:Hp} {d:Dat} {v:V} (h:Ap T d=true) (p:Pk K A H d v):tyV K T v H:=by
 cases d with
 | str x=>rw [p.str.1];show T="str";simpa [Ap] using h
 | int x=>rw [p.int];show T="int";simpa [Ap] using h
 | lst x=>obtain ⟨a,vs,e,h1,h2⟩:=p.lst;rw [e];exact .inl ⟨by simpa [Ap] using h,vs,h1.sq⟩
 | _=>cases h
def MtD (X:Cx) (id:String) (F:Dat->List Dat->Option Dat):Prop:=MtR X id (fun v vs H Q=>∃ A x ds d,T7 A H/\F x ds=some d/\Pk X.K A H x v/\Xl true X.K A H ds vs/\Qd false X.K A H d Q)
def dM (T:String) (F:Dat->List Dat->Option α) (f:Ev->Option Dat) (fs:Ev->Option (List Dat)):Ev->Option α:=fun env=>(f env).bind fun x=>if Ap T x=true then (fs env).bind fun ds=>F x ds else none
theorem Z60 {F:Dat->List Dat->Option α} {env:Ev} {d:α} (h:dM T F f fs env=some d):∃ x ds,f env=some x/\Ap T x=true/\fs env=some ds/\F x ds=some d:=by
 obtain ⟨x,e1,h⟩:=bind_some h;split at h
 ·rename_i ht
  obtain ⟨ds,e2,h⟩:=bind_some h;exact ⟨x,ds,e1,ht,e2,h⟩
 ·cases h
theorem MtR.weak {r r':V->List V->Hp->VK->Prop} (h:MtR X id r) (w:∀ x xs H Q,r' x xs H Q->r x xs H Q):MtR X id r':=fun pins s σ H x xs v us Q I rx rv q=>h pins s σ H x xs v us Q I rx rv (w _ _ _ _ q)
variable {F:Dat->List Dat->Option Dat} {G:Dat->List Dat->Option (List Dat)}
theorem xbm (pa:PlainAttrs T) (slot:Slot T name id) (hty:typeOf (.builtin id)=pure (.type "method_descriptor")) (hm:MtD X id F) (ho:Wq m1 X o f) (ha:O9 true X (e::es) fs)
  (hbase:attributeBase o name X.env (eval o X.env)=eval o X.env:=by rfl)
  (hfew:((backTo cpos (starEach (e::es) X.env)).all (fun x=>!x.1)&&(backToKw cpos (keywordEach [] X.env)).all (fun x=>x.1.isSome)
   && decide ((e::es).length+([]:List Keyword).length+(if ([]:List Keyword).isEmpty then 0 else 1)<30))=true:=by rfl)
  (hline:(apos.endLine==cpos.line)=true:=by rfl) (hs:starEach (e::es) X.env=(false,eval e X.env)::starEach es X.env:=by rfl) (hplain:(backTo cpos (starEach es X.env)).any (·.1)=false:=by rfl) :
  Wq m X (.Call (.Attribute o name apos) (e::es) [] cpos) (dM T F f fs):=Wq.any ((Z3a pa slot hty hm ho ha hbase hfew hline hs hplain).weak fun σ H Q zz=>by
 obtain ⟨env,R,A,d,k,q1,q2⟩:=zz;obtain ⟨x,ds,e1,ht,e2,e3⟩:=Z60 q1;exact ⟨env,R,A,x,k,e1,fun v H1 s1 p1=>⟨Z9t ht p1.pk,env,R,A,ds,k.mono s1,e2,fun vs H2 s2 p2=>⟨A,x,ds,d,k.mu.mono (s1.trans s2),e3,p1.pk.mono s2,p2,q2.mono (s1.trans s2)⟩⟩⟩)
def POd (X:Cx) (e:Option Expr) (f:Ev->Option (Option Int)):Prop:=PO X e fun σ H Q=>∃ env R A i,EnvOk X.K R A H σ env/\f env=some i/\∀ H',Zs H H'->Q i H'
def Rx:Ev->Option (Option Int):=fun _=>some none
def U0 (f:Ev->Option Dat):Ev->Option (Option Int):=fun env=>match f env with
 | some (.int i)=>some (some i)
 | _=>none
theorem PO.weak {e:Option Expr} {t t':TO} (h:PO X e t) (w:∀ σ H Q,t' σ H Q->t σ H Q):PO X e t':=fun pins s σ H Q I q=>h pins s σ H Q I (w σ H Q q)
theorem R4:POd X none Rx:=Z86.weak fun σ H Q ⟨env,R,A,i,k,q1,q2⟩=>by cases q1;exact q2 H (Zs.refl H)
theorem Jc (h:Wq m X e f):POd X (some e) (U0 f):=(Z6k h).weak fun σ H Q zz=>by
 obtain ⟨env,R,A,i,k,q1,q2⟩:=zz;unfold U0 at q1;split at q1
 ·rename_i n e1
  cases q1;exact ⟨env,R,A,_,k,e1,fun v H1 s1 p1=>⟨n,p1.pk.int,q2 H1 s1⟩⟩
 ·cases q1
def SlD (X:Cx) (F:Dat->Option Int->Option Int->Option Dat):Prop:=Ch X (fun v lo hi H Q=>∃ A x d,T7 A H/\F x lo hi=some d/\Pk X.K A H x v/\Qd false X.K A H d Q)
def dS (F:Dat->Option Int->Option Int->Option α) (f:Ev->Option Dat) (g h:Ev->Option (Option Int)):Ev->Option α:=fun env=>(f env).bind fun x=>(g env).bind fun l=>(h env).bind fun u=>F x l u
variable {lo hi:Option Expr} {gl gh:Ev->Option (Option Int)} {p2:Pos}
theorem Z6n {F:Dat->Option Int->Option Int->Option α} {env:Ev} {d:α} (h:dS F f gl gh env=some d):∃ x l u,f env=some x/\gl env=some l/\gh env=some u/\F x l u=some d:=by
 obtain ⟨x,e1,h⟩:=bind_some h;obtain ⟨l,e2,h⟩:=bind_some h;obtain ⟨u,e3,h⟩:=bind_some h;exact ⟨x,l,u,e1,e2,e3,h⟩
theorem Pf {F:Dat->Option Int->Option Int->Option Dat} (hr:SlD X F) (he:Wq m1 X e f) (hl:POd X lo gl) (hu:POd X hi gh):Wq m X (.Subscript e (.Slice lo hi none p2) pos) (dS F f gl gh):=Wq.any ((Z2x hr he hl hu).weak fun σ H Q zz=>by
 obtain ⟨env,R,A,d,k,q1,q2⟩:=zz;obtain ⟨x,l,u,e1,e2,e3,e4⟩:=Z6n q1;exact ⟨env,R,A,x,k,e1,fun v H1 s1 p1=>⟨env,R,A,l,k.mono s1,e2,fun H2 s2=>⟨env,R,A,u,k.mono (s1.trans s2),e3,fun H3 s3=>⟨A,x,d,k.mu.mono ((s1.trans s2).trans s3),e4,p1.pk.mono (s2.trans s3),q2.mono ((s1.trans s2).trans s3)⟩⟩⟩⟩)
def UnD (X:Cx) (g:Value->Sem Value) (F:Dat->Option Dat):Prop:=UnR X g (fun v H Q=>∃ A x d,T7 A H/\F x=some d/\Pk X.K A H x v/\Qd false X.K A H d Q)
def dU (F:Dat->Option Dat) (f:Ev->Option Dat):Ev->Option Dat:=fun env=>(f env).bind F
theorem xun {op:UnaryOp} {F:Dat->Option Dat} (ho:UnD X (unaryOp op) F) (ha:Wq m1 X e f):Wq m X (.UnaryOp op e pos) (dU F f):=Wq.any ((Zdk ho ha).weak fun σ H Q zz=>by
 obtain ⟨env,R,A,d,k,q1,q2⟩:=zz;obtain ⟨x,e1,e2⟩:=bind_some q1;exact ⟨env,R,A,x,k,e1,fun v H1 s1 p1=>⟨A,x,d,k.mu.mono s1,e2,p1.pk,q2.mono s1⟩⟩)
end
section
variable {X:Cx}
def Iv (C:Int->Int->Prop) [∀ i j,Decidable (C i j)] (g:Int->Int->Dat):Dat->Dat->Option Dat
 | .int i,.int j=>if C i j then some (g i j) else none
 | _,_=>none
theorem Ba {f:Value->Value->Sem Value} {C:Int->Int->Prop} [∀ i j,Decidable (C i j)] {g:Int->Int->V} {G:Int->Int->Dat} (h:Rf X f (rI C g)) (hg:∀ K H i j,Rp K H (G i j) (g i j)):Mh X f (Iv C G):=h.weak fun v u H Q zz=>by
 obtain ⟨A,x,y,d,mu,e,p1,p2,q⟩:=zz;unfold Iv at e;split at e
 ·rename_i i j
  split at e
  ·rename_i hc
   cases e;exact ⟨i,j,p1.int,p2.int,hc,q.here (hg _ _ _ _)⟩
  ·cases e
 ·cases e
theorem Hd {f:Value->Value->Sem Value} {g:Int->Int->V} {G:Int->Int->Dat} (h:Rf X f (rI0 g)) (hg:∀ K H i j,Rp K H (G i j) (g i j)):Mh X f (Iv (fun _ _=>True) G):=h.weak fun v u H Q zz=>by
 obtain ⟨A,x,y,d,mu,e,p1,p2,q⟩:=zz;unfold Iv at e;split at e
 ·rename_i i j
  rw [if_pos trivial] at e;cases e;exact ⟨i,j,p1.int,p2.int,q.here (hg _ _ _ _)⟩
 ·cases e
instance:∀ i j,Decidable (Ar i j):=fun i j=>by unfold Ar;infer_instance
instance:∀ i j,Decidable (Z52 i j):=fun i j=>by unfold Z52;infer_instance
instance:∀ i j,Decidable (Z26 i j):=fun i j=>by unfold Z26;infer_instance
def N8:=Iv (fun _ _=>True) fun i j=>.int (i - j)
def Yt:=Iv Z52 fun i j=>.int (i / j)
def Wg:=Iv (fun _ j=>0<j) fun i j=>.int (i % j)
def Z2t:=Iv Z26 fun i j=>.int (i^j.toNat)
def Qz:=Iv Z26 fun i j=>.int (i*2^j.toNat)
def M1:=Iv (fun _ j=>0<=j) fun i j=>.int (i / 2^j.toNat)
def T6:=Iv (fun _ _=>True) fun i j=>.int (Builtin.bitAnd i j)
def orD:=Iv (fun _ _=>True) fun i j=>.int (Builtin.bitOr i j)
def Z64:=Iv (fun _ _=>True) fun i j=>.int (Builtin.bitXor i j)
def ltD:=Iv (fun _ _=>True) fun i j=>.bl (decide (i<j))
def gtD:=Iv (fun _ _=>True) fun i j=>.bl (decide (j<i))
def geD:=Iv (fun _ _=>True) fun i j=>.bl (decide (j<=i))
theorem Lp:Mh X (binaryOp .Sub) N8:=Hd Z9v fun _ _ _ _=>W4
theorem Yg:Mh X (binaryOp .FloorDiv) Yt:=Ba Z63 fun _ _ _ _=>W4
theorem Yl:Mh X (binaryOp .Mod) Wg:=Ba Za4 fun _ _ _ _=>W4
theorem Z93:Mh X (binaryOp .Pow) Z2t:=Ba Zbo fun _ _ _ _=>W4
theorem Td:Mh X (binaryOp .LShift) Qz:=Ba Z9l fun _ _ _ _=>W4
theorem Ro:Mh X (binaryOp .RShift) M1:=Ba Zbw fun _ _ _ _=>W4
theorem Tb:Mh X (binaryOp .BitAnd) T6:=Hd Z9x fun _ _ _ _=>W4
theorem Z45:Mh X (binaryOp .BitOr) orD:=Hd Ze9 fun _ _ _ _=>W4
theorem Z8w:Mh X (binaryOp .BitXor) Z64:=Hd Za3 fun _ _ _ _=>W4
theorem Zd3:Mh X (compareOp .Lt) ltD:=Hd Zdd fun _ _ _ _=>Vy
theorem Zfs:Mh X (compareOp .Gt) gtD:=Hd Ze8 fun _ _ _ _=>Vy
theorem Zfc:Mh X (compareOp .GtE) geD:=Hd Zcr fun _ _ _ _=>Vy
theorem Mh.or {f:Value->Value->Sem Value} {F G E:Dat->Dat->Option Dat} (h:Mh X f F) (h':Mh X f G) (he:∀ x y d,E x y=some d->F x y=some d\/G x y=some d):Mh X f E:=fun pins s σ H x y v u Q I rx ry zz=>by
 obtain ⟨A,a,b,d,mu,e,p1,p2,q⟩:=zz;rcases he _ _ _ e with e | e
 ·exact h pins s σ H x y v u Q I rx ry ⟨A,a,b,d,mu,e,p1,p2,q⟩
 ·exact h' pins s σ H x y v u Q I rx ry ⟨A,a,b,d,mu,e,p1,p2,q⟩
def Zas:Dat->Option Dat
 | .int i=>some (.int (-i))
 | _=>none
def Z6f:Dat->Option Dat
 | .int i=>some (.int (Builtin.bitNot i))
 | _=>none
theorem UnR.weak {f:Value->Sem Value} {r r':V->Hp->VK->Prop} (h:UnR X f r) (w:∀ x H Q,r' x H Q->r x H Q):UnR X f r':=fun pins s σ H x v Q I rx q=>h pins s σ H x v Q I rx (w _ _ _ q)
theorem Zed:UnD X (unaryOp .USub) Zas:=UnR.weak Za6 fun v H Q zz=>by
 obtain ⟨A,x,d,mu,e,p,q⟩:=zz;unfold Zas at e;split at e
 ·cases e;exact ⟨_,p.int,q.here W4⟩
 ·cases e
theorem Z8i:UnD X (unaryOp .Invert) Z6f:=UnR.weak Zak fun v H Q zz=>by
 obtain ⟨A,x,d,mu,e,p,q⟩:=zz;unfold Z6f at e;split at e
 ·cases e;exact ⟨_,p.int,q.here W4⟩
 ·cases e
theorem Lg {x:Str} (h:∀ c∈cl x,c<0x110000):PyData.strOk x=true:=by
 unfold PyData.strOk;rw [Array.all_eq_true'];intro c hc;exact decide_eq_true (h c (by simpa [cl] using hc))
theorem E3 {x:Str} (h:PyData.strOk x=true):∀ c∈cl x,c<0x110000:=by
 unfold PyData.strOk at h;rw [Array.all_eq_true'] at h;intro c hc;exact of_decide_eq_true (h c (by simpa [cl] using hc))
theorem Z1d {x y:Str} (h:PyData.strOk x=true) (k:PyData.strOk y=true):PyData.strOk (x++y)=true:=Lg fun c hc=>by
 rw [Z36] at hc;rcases mem_append.mp hc with z | z
 ·exact E3 h c z
 ·exact E3 k c z
theorem Cs (x y:Str):(x++y).length=x.length+y.length:=by rw [← K7,Z36,length_append,K7,K7]
def Z9u:Dat->Dat->Option Dat
 | .str x,.str y=>if x.length+y.length<=sizeLine then some (.str (x++y)) else none
 | _,_=>none
theorem Za8:Mh X (binaryOp .Add) Z9u:=Bt.weak fun v u H Q zz=>by
 obtain ⟨A,x,y,d,mu,e,p1,p2,q⟩:=zz;unfold Z9u at e;split at e
 ·rename_i i j
  split at e
  ·rename_i hz
   cases e;obtain ⟨e1,k1⟩:=p1.str;obtain ⟨e2,k2⟩:=p2.str;exact ⟨i,j,e1,e2,hz,q.here (Gi (SOk.of (Z1d k1.ok k2.ok) (by rw [Cs];exact hz)))⟩
  ·cases e
 ·cases e
def Ke:Dat->Dat->Option (List Dat)
 | .lst xs,.lst ys=>if xs.length+ys.length<=sizeLine then some (xs++ys) else none
 | _,_=>none
theorem Ca:OpN X (binaryOp .Add) Ke:=fun pins s σ H x y v u Q I rx ry zz=>by
 obtain ⟨A,a,b,d,mu,e,p1,p2,q⟩:=zz;unfold Ke at e;split at e
 ·rename_i xs ys
  split at e
  ·rename_i hz
   cases e;obtain ⟨l1,vs,e1,h1,r1⟩:=p1.lst;obtain ⟨l2,us,e2,h2,r2⟩:=p2.lst;subst e1 e2;cases rx;cases ry;obtain ⟨its,n,w1,g1,_⟩:=h1.get I;obtain ⟨its2,n2,w2,g2,_⟩:=h2.get I;have z1:=w1.length;have z2:=w2.length;have z3:=Zy r1;have z4:=Zy r2;refine PySem.P.add_list g1 g2 ?_ (by rw [size_toArray,size_toArray];lia);have ea:its.toArray++its2.toArray=(its++its2).toArray:=by simp
   rw [ea];exact ⟨.ref _,_,I.lnew (t':=s.toks) (w1.append w2) (by rw [length_append];lia),rfl,q.at (by rw [length_append];exact hz) (Vb r1 r2) _ I.fresh⟩
  ·cases e
 ·cases e
theorem Z1t {K:PySem.W.Frag} {H:Hp} {ds:List Dat} {vs:List V} (r:Wk K H ds vs) (h:ds.length≠0):vs≠[]:=by
 intro e;subst e;have:=Zy r;simp at this;lia
def Yi:Dat->Dat->Option Dat
 | .int i,.int j=>some (.int (i+j))
 | .str x,.str y=>if x.length+y.length<=sizeLine then some (.str (x++y)) else none
 | .lst xs,.lst ys=>if xs.length+ys.length<=sizeLine then some (.lst (xs++ys)) else none
 | _,_=>none
theorem Zc6:Mh X (binaryOp .Add) (Iv (fun _ _=>True) fun i j=>.int (i+j)):=Hd Zbm fun _ _ _ _=>W4
theorem Y6:Mh X (binaryOp .Add) Yi:=by
 have h1:=Mh.or (E:=fun x y=>match x,y with | .int i,.int j=>some (.int (i+j)) | .str x,.str y=>if x.length+y.length<=sizeLine then some (.str (x++y)) else none | _,_=>none) (Zc6 (X:=X)) Za8 (fun x y d e=>by
  split at e
  ·left;simp [Iv];exact by simpa using e
  ·right;simp only [Z9u];exact e
  ·cases e)
 refine Mh.or h1 Ca.d fun x y d e=>?_
 unfold Yi at e;split at e
 ·left;exact e
 ·left;exact e
 ·right
  rename_i xs ys;simp only [Ke];split at e
  ·rename_i hz;cases e;rw [if_pos hz];rfl
  ·cases e
 ·cases e
def Zcv:=Iv Ar fun i j=>.int (i*j)
theorem Zc5:Mh X (binaryOp .Mult) Zcv:=Ba Zag fun _ _ _ _=>W4
def Q8:Dat->Dat->Option Dat:=fun x y=>if (pd 20 x&&pd 20 y)=true then some (.bl (Sg x y)) else none
def Ec:Dat->Dat->Option Dat:=fun x y=>if (pd 20 x&&pd 20 y)=true then some (.bl (!Sg x y)) else none
theorem U2 (hu:X.A.units+64<cLine):Mh X (compareOp .Eq) Q8:=fun pins s σ H x y v u Q I rx ry zz=>by
 obtain ⟨A,a,b,d,mu,e,p1,p2,q⟩:=zz;unfold Q8 at e;split at e
 ·rename_i hp
  rw [Bool.and_eq_true] at hp;cases e;obtain ⟨as,a1,a2⟩:=Rp.reads I a x v hp.1 p1.rp rx;obtain ⟨bs,b1,b2⟩:=Rp.reads I b y u hp.2 p2.rp ry;have:=S4 20 a hp.1;refine SeqAt.compareEq_reads a1 b1 a2 b2 (by lia) ⟨.bl _,H,I,rfl,?_⟩;rw [Sk a b hp.1 hp.2];exact q.here Vy
 ·cases e
theorem Hy (hu:X.A.units+64<cLine):Mh X (compareOp .NotEq) Ec:=fun pins s σ H x y v u Q I rx ry zz=>by
 obtain ⟨A,a,b,d,mu,e,p1,p2,q⟩:=zz;unfold Ec at e;split at e
 ·rename_i hp
  rw [Bool.and_eq_true] at hp;cases e;obtain ⟨as,a1,a2⟩:=Rp.reads I a x v hp.1 p1.rp rx;obtain ⟨bs,b1,b2⟩:=Rp.reads I b y u hp.2 p2.rp ry;have:=S4 20 a hp.1;refine SeqAt.compareNe_reads a1 b1 a2 b2 (by lia) ⟨.bl _,H,I,rfl,?_⟩;rw [Sk a b hp.1 hp.2];exact q.here Vy
 ·cases e
def isN:Dat->Bool
 | .non=>true
 | _=>false
theorem Z8n {K:PySem.W.Frag} {H:Hp} {d:Dat} {v:V} (r:Rp K H d v):decide (v=V.non)=isN d:=by
 cases d with
 | non=>rw [Ks r];rfl
 | bl b=>rw [Gy r];rfl
 | int b=>rw [Mi r];rfl
 | str b=>rw [(Kk r).1];rfl
 | tup b=>obtain ⟨a,_,e,_⟩:=Mn r;rw [e];rfl
 | lst b=>obtain ⟨a,_,e,_⟩:=Mt r;rw [e];rfl
 | dct _=>exact (Za0 r).elim
 | exc _ _=>obtain ⟨_,_,_,e,_⟩:=Zan r;subst e;rfl
def isF:Dat->Dat->Option Dat
 | x,.non=>some (.bl (isN x))
 | _,_=>none
def Zaf:Dat->Dat->Option Dat
 | x,.non=>some (.bl (!isN x))
 | _,_=>none
theorem Zga:Mh X (compareOp .Is) isF:=Zbc.weak fun v u H Q zz=>by
 obtain ⟨A,x,y,d,mu,e,p1,p2,q⟩:=zz;unfold isF at e;split at e
 ·cases e
  exact ⟨p2.non,by rw [Z8n p1.rp];exact q.here Vy⟩
 ·cases e
theorem Zec:Mh X (compareOp .IsNot) Zaf:=Z84.weak fun v u H Q zz=>by
 obtain ⟨A,x,y,d,mu,e,p1,p2,q⟩:=zz;unfold Zaf at e;split at e
 ·cases e
  exact ⟨p2.non,by rw [Z8n p1.rp];exact q.here Vy⟩
 ·cases e
def inS:Str->Str->Bool:=fun i j=>!(Builtin.Str.occurrences j i 0 j.length 1).isEmpty
def inB:Dat->Dat->Option Bool
 | x,.lst ys=>if (pd 20 x&&ys.all (pd 20))=true then some (ys.any fun y=>Sg y x) else none
 | x,.tup ys=>if (pd 20 x&&ys.all (pd 20))=true then some (ys.any fun y=>Sg y x) else none
 | .str i,.str j=>some (inS i j)
 | _,_=>none
def inF:Dat->Dat->Option Dat:=fun x y=>(inB x y).map .bl
def B9:Dat->Dat->Option Dat:=fun x y=>(inB x y).map fun b=>.bl (!b)
theorem Mk {pins:List (Addr×Obj)} {σ:St} {H:Hp} {s:Shared} (I:Inv X pins σ H s) (hu:X.A.units+64<cLine) {a:Dat} {x:V} {v:Value} (ha:pd 20 a=true) (rx:Rp X.K H a x) (qx:Yv x v) :
  ∃ e:Value->Bool,∀ {ys:List Dat} {vs:List V} {us:List Value},Wk X.K H ys vs->Y2 vs us->(∀ y∈ys,pd 20 y=true)->(∀ u∈us,SeqAt.EqAt X.A.in1 s u v (e u))/\us.any e=ys.any fun y=>Sg y a:=by
 classical
 have hu':X.A.in1.units+60<cLine:=by show X.A.units+1+60<cLine;lia
 have key:∀ {y:Dat} {w:V} {u:Value},Rp X.K H y w->Yv w u->pd 20 y=true->SeqAt.EqAt X.A.in1 s u v (Sg y a):=fun {y w u} r q h=>Rp.eqAt I h ha (by decide) hu' r rx q qx
 let e:Value->Bool:=fun u=>decide (∃ (y:Dat) (w:V),Rp X.K H y w/\Yv w u/\pd 20 y=true/\Sg y a=true)
 have he:∀ {y:Dat} {w:V} {u:Value},Rp X.K H y w->Yv w u->pd 20 y=true->e u=Sg y a:=fun {y w u} r q h=>by
  cases z:Sg y a with
  | true=>exact decide_eq_true ⟨y,w,r,q,h,z⟩
  | false =>
   refine decide_eq_false ?_;rintro ⟨y',w',r',q',h',z'⟩;have:=q.inj q';subst this;obtain ⟨as,a1,a2⟩:=Rp.reads I y w u h r q;obtain ⟨bs,b1,b2⟩:=Rp.reads I y' w u h' r' q;have eqP:=SeqAt.Reads.unique _ _ _ _ _ a2 a1 b1;rw [← Sk y a h ha,eqP,Sk y' a h' ha,z'] at z;cases z
 refine ⟨e,fun {ys}=>?_⟩;induction ys with
 | nil=>intro vs us r q _;rw [Yu r] at q;cases q;exact ⟨fun u hu=>(by cases hu),rfl⟩
 | cons y ys ih =>
  intro vs us r q hp;obtain ⟨w,vs',e1,r1,r2⟩:=Y0 r;subst e1;cases q with
  | cons q1 q2 =>
   rename_i u us;obtain ⟨h1,h2⟩:=ih r2 q2 fun z hz=>hp z (mem_cons_of_mem _ hz)
   have hy:=hp y mem_cons_self;refine ⟨fun u' hu'=>?_,?_⟩
   ·rcases mem_cons.mp hu' with z | z
    ·subst z;rw [he r1 q1 hy];exact key r1 q1 hy
    ·exact h1 u' z
   ·rw [any_cons,any_cons,h2,he r1 q1 hy]
theorem Z8c (hu:X.A.units+64<cLine):Mh X (compareOp .In) inF:=fun pins s σ H x y v u Q I rx ry zz=>by
 obtain ⟨A,a,b,d,mu,e,p1,p2,q⟩:=zz;unfold inF at e;unfold inB at e;split at e
 ·rename_i ys
  split at e
  ·rename_i hp
   rw [Bool.and_eq_true,all_eq_true] at hp;cases e;obtain ⟨l,vs,e1,h1,r1⟩:=p2.lst;subst e1;cases ry;obtain ⟨its,w1,pl,_⟩:=I.list h1.sq;obtain ⟨f,hf⟩:=Mk I hu hp.1 p1.rp rx;obtain ⟨k1,k2⟩:=hf (r1.mono W6) w1 hp.2;refine SeqAt.in_listAt f pl.isList (fun w hw=>k1 w (by simpa using hw)) ⟨.bl _,H,I,rfl,?_⟩;rw [show its.toArray.any f=its.any f by simp,k2];exact q.here Vy
  ·cases e
 ·rename_i ys
  split at e
  ·rename_i hp
   rw [Bool.and_eq_true,all_eq_true] at hp;cases e;obtain ⟨l,vs,e1,h1,r1⟩:=p2.tup;subst e1;cases ry;obtain ⟨its,w1,pl,_⟩:=I.tuple h1;obtain ⟨f,hf⟩:=Mk I hu hp.1 p1.rp rx;obtain ⟨k1,k2⟩:=hf (r1.mono W6) w1 hp.2;refine SeqAt.in_tupleAt f pl (fun w hw=>k1 w (by simpa using hw)) ⟨.bl _,H,I,rfl,?_⟩;rw [show its.toArray.any f=its.any f by simp,k2];exact q.here Vy
  ·cases e
 ·rename_i i j
  cases e;obtain ⟨e1,k1⟩:=p1.str;obtain ⟨e2,k2⟩:=p2.str;exact Z1f pins s σ H x y v u Q I rx ry ⟨i,j,e1,e2,q.here Vy⟩
 ·cases e
theorem Z8k (hu:X.A.units+64<cLine):Mh X (compareOp .NotIn) B9:=fun pins s σ H x y v u Q I rx ry zz=>by
 obtain ⟨A,a,b,d,mu,e,p1,p2,q⟩:=zz;unfold B9 at e;unfold inB at e;split at e
 ·rename_i ys
  split at e
  ·rename_i hp
   rw [Bool.and_eq_true,all_eq_true] at hp;cases e;obtain ⟨l,vs,e1,h1,r1⟩:=p2.lst;subst e1;cases ry;obtain ⟨its,w1,pl,_⟩:=I.list h1.sq;obtain ⟨f,hf⟩:=Mk I hu hp.1 p1.rp rx;obtain ⟨k1,k2⟩:=hf (r1.mono W6) w1 hp.2;refine SeqAt.notIn_listAt f pl.isList (fun w hw=>k1 w (by simpa using hw)) ⟨.bl _,H,I,rfl,?_⟩;rw [show its.toArray.any f=its.any f by simp,k2];exact q.here Vy
  ·cases e
 ·rename_i ys
  split at e
  ·rename_i hp
   rw [Bool.and_eq_true,all_eq_true] at hp;cases e;obtain ⟨l,vs,e1,h1,r1⟩:=p2.tup;subst e1;cases ry;obtain ⟨its,w1,pl,_⟩:=I.tuple h1;obtain ⟨f,hf⟩:=Mk I hu hp.1 p1.rp rx;obtain ⟨k1,k2⟩:=hf (r1.mono W6) w1 hp.2;refine SeqAt.notIn_tupleAt f pl (fun w hw=>k1 w (by simpa using hw)) ⟨.bl _,H,I,rfl,?_⟩;rw [show its.toArray.any f=its.any f by simp,k2];exact q.here Vy
  ·cases e
 ·rename_i i j
  cases e;obtain ⟨e1,k1⟩:=p1.str;obtain ⟨e2,k2⟩:=p2.str;exact Pz pins s σ H x y v u Q I rx ry ⟨i,j,e1,e2,q.here Vy⟩
 ·cases e
def W7:Dat->Dat->Option Dat
 | .lst xs,.int i=>Nz xs i
 | .tup xs,.int i=>Nz xs i
 | .str z,.int i=>(Nz (cl z) i).map fun c=>.str ⟨#[c]⟩
 | _,_=>none
theorem Cf {K:PySem.W.Frag} {H:Hp} {ds:List Dat} {vs:List V} {i:Int} {d:Dat} (r:Wk K H ds vs) (h:Nz ds i=some d):∃ v,Nz vs i=some v/\Rp K H d v:=by
 unfold Nz at h ⊢;rw [Zy r];obtain ⟨j,e1,e2⟩:=bind_some h;obtain ⟨v,h1,h2⟩:=S5 r e2;exact ⟨v,by rw [e1];exact h1,h2⟩
theorem Z7i {α:Type} {xs:List α} {i:Int} {x:α} (h:Nz xs i=some x):x∈xs:=by
 unfold Nz at h;obtain ⟨j,e1,e2⟩:=bind_some h;exact mem_of_getElem? e2
theorem Z5z {z:Str} {c:Nat} (h:SOk z) (hc:c∈cl z):SOk ⟨#[c]⟩:=SOk.of (Lg fun c' hc'=>by
 have:c'=c:=by simpa [cl] using hc'
 rw [this];exact E3 h.ok c hc) (by rw [← K7];simp [cl];decide)
theorem Cm.weak {r r':R2} (h:Cm X r) (w:∀ x y H Q,r' x y H Q->r x y H Q):Cm X r':=fun value slice pins s σ H x y v u Q I rx ry q hs=>h value slice pins s σ H x y v u Q I rx ry (w _ _ _ _ q) hs
theorem Y3:Cm X (rD X.K W7):=Z9h.weak fun v u H Q zz=>by
 obtain ⟨A,x,y,d,mu,e,p1,p2,q⟩:=zz;unfold W7 at e;split at e
 ·rename_i xs i
  obtain ⟨l,vs,e1,h1,r1⟩:=p1.lst;obtain ⟨w,h2,r2⟩:=Cf r1 e;exact .inl ⟨l,vs,i,w,e1,p2.int,h1.sq,h2,q.here r2⟩
 ·rename_i xs i
  obtain ⟨l,vs,e1,h1,r1⟩:=p1.tup;obtain ⟨w,h2,r2⟩:=Cf r1 e;exact .inr (.inl ⟨l,vs,i,w,e1,p2.int,h1,h2,q.here r2⟩)
 ·rename_i z i
  obtain ⟨e1,k1⟩:=p1.str;cases hc:Nz (cl z) i with
  | none=>rw [hc] at e;cases e
  | some c =>
   rw [hc] at e;cases e;exact .inr (.inr ⟨z,i,c,e1,p2.int,k1.le,hc,q.here (Gi (Z5z k1 (Z7i hc)))⟩)
 ·cases e
theorem C9 {K:PySem.W.Frag} {H:Hp} {ds:List Dat} {vs:List V} (lo hi:Option Int) (r:Wk K H ds vs):Wk K H (Ta ds lo hi) (Xh vs lo hi):=by
 unfold Ta Xh;rw [Zy r];exact Lo _ (Ll _ r)
theorem Z3f {α:Type} {xs:List α} {lo hi:Option Int} {x:α} (h:x∈Ta xs lo hi):x∈xs:=List.mem_of_mem_drop (List.mem_of_mem_take h)
theorem Xm {α:Type} {xs:List α} {lo hi:Option Int} {n:Nat} (h:xs.length<=n):(Ta xs lo hi).length<=n:=by unfold Ta;rw [length_take,length_drop];lia
theorem Ch.weak {r r':V->Option Int->Option Int->Hp->VK->Prop} (h:Ch X r) (w:∀ x lo hi H Q,r' x lo hi H Q->r x lo hi H Q):Ch X r':=fun pins s σ H x v vl vu lo hi sl Q I rx hs pl pu q=>h pins s σ H x v vl vu lo hi sl Q I rx hs pl pu (w _ _ _ _ _ q)
def slD:Dat->Option Int->Option Int->Option Dat
 | .lst xs,lo,hi=>some (.lst (Ta xs lo hi))
 | .str z,lo,hi=>some (.str (Txt.slice z lo hi))
 | .tup xs,lo,hi=>if HT.sIx xs.length 0 lo=0/\HT.sIx xs.length xs.length hi=xs.length then none else some (.tup (Ta xs lo hi))
 | _,_,_=>none
theorem Z0z {z:Str} {lo hi:Option Int} (h:SOk z):SOk (Txt.slice z lo hi):=SOk.of (Lg fun c hc=>by
 rw [Z33] at hc;exact E3 h.ok c (Z3f hc)) (le_trans (Txt.slice_le z _ _) h.le)
theorem Zfe:SlD X slD:=Zfj.weak fun v lo hi H Q zz=>by
 obtain ⟨A,x,d,mu,e,p1,q⟩:=zz;unfold slD at e;split at e
 ·rename_i xs
  cases e;obtain ⟨l,vs,e1,h1,r1⟩:=p1.lst;exact .inl ⟨l,vs,e1,h1.sq,(q.new mu).at (Xm p1.lenL) (C9 lo hi r1)⟩
 ·rename_i z
  cases e;obtain ⟨e1,k1⟩:=p1.str;exact .inr (.inr ⟨z,e1,k1.le,q.here (Gi (Z0z k1))⟩)
 ·rename_i xs
  split at e
  ·cases e
  ·rename_i hn
   cases e;obtain ⟨l,vs,e1,h1,r1⟩:=p1.tup;exact .inr (.inl ⟨l,vs,e1,h1,by rw [Zy r1];exact hn,q.tup mu (Xm p1.lenT) (C9 lo hi r1)⟩)
 ·cases e
end
section
variable {X:Cx} {m:Bool}
def Ti:List Dat->Option Dat
 | [.lst xs]=>some (.int xs.length)
 | [.tup xs]=>some (.int xs.length)
 | [.str z]=>some (.int z.length)
 | _=>none
theorem Qj:D4 X (.builtin "len") Ti:=Z0v.weak fun vs H Q zz=>by
 obtain ⟨A,ds,d,mu,e,p,q⟩:=zz;unfold Ti at e;split at e
 ·obtain ⟨v,e1,p1⟩:=p.one
  obtain ⟨l,us,e2,h1,r1⟩:=p1.lst;cases e;exact .inl ⟨l,us,by rw [e1,e2],.inl h1.sq,fun _=>by rw [Zy r1];exact q.here W4⟩
 ·obtain ⟨v,e1,p1⟩:=p.one
  obtain ⟨l,us,e2,h1,r1⟩:=p1.tup;cases e;exact .inl ⟨l,us,by rw [e1,e2],.inr h1,fun _=>by rw [Zy r1];exact q.here W4⟩
 ·obtain ⟨v,e1,p1⟩:=p.one
  obtain ⟨e2,h1⟩:=p1.str;cases e;exact .inr ⟨_,by rw [e1,e2],h1.le,q.here W4⟩
 ·cases e
def tupleD:List Dat->Option Dat
 | [.lst xs]=>some (.tup xs)
 | [.tup xs]=>some (.tup xs)
 | _=>none
theorem Vw:D4 X (.type "tuple") tupleD:=Na.weak fun vs H Q zz=>by
 obtain ⟨A,ds,d,mu,e,p,q⟩:=zz;unfold tupleD at e;split at e
 ·obtain ⟨v,e1,p1⟩:=p.one
  obtain ⟨l,us,e2,h1,r1⟩:=p1.lst;cases e;exact ⟨l,us,by rw [e1,e2],.inl ⟨h1.sq,q.tup mu p1.lenL r1⟩⟩
 ·obtain ⟨v,e1,p1⟩:=p.one
  rcases p1 with p1 | ⟨_,_,_,z,_⟩
  ·obtain ⟨l,us,e2,h1,r1⟩:=Mn p1
   cases e;exact ⟨l,us,by rw [e1,e2],.inr ⟨W6.seqT h1,by rw [← e2];exact q.here p1⟩⟩
  ·cases z
 ·cases e
def Ja:List Dat->Option (List Int)
 | []=>some []
 | .int i::r=>(Ja r).map (i::·)
 | _=>none
def F7:List Dat->Option (List Bool)
 | []=>some []
 | .bl i::r=>(F7 r).map (i::·)
 | _=>none
theorem Ss (ns:List Int):Ja (ns.map .int)=some ns:=by
 induction ns with
 | nil=>rfl
 | cons n ns ih=>rw [map_cons,Ja,ih];rfl
theorem A3 (ns:List Bool):F7 (ns.map .bl)=some ns:=by
 induction ns with
 | nil=>rfl
 | cons n ns ih=>rw [map_cons,F7,ih];rfl
theorem Qy:∀ {ds:List Dat} {ns:List Int},Ja ds=some ns->ds=ns.map .int
 | [],_,h=>by cases h;rfl
 | d::ds,ns,h=>by
  cases d<;>try cases h
  rename_i i;rw [Ja] at h;cases e:Ja ds with
  | none=>rw [e] at h;cases h
  | some r=>rw [e] at h;cases h;rw [Qy e];rfl
theorem Pl:∀ {ds:List Dat} {ns:List Bool},F7 ds=some ns->ds=ns.map .bl
 | [],_,h=>by cases h;rfl
 | d::ds,ns,h=>by
  cases d<;>try cases h
  rename_i i;rw [F7] at h;cases e:F7 ds with
  | none=>rw [e] at h;cases h
  | some r=>rw [e] at h;cases h;rw [Pl e];rfl
theorem V6 {K:PySem.W.Frag} {H:Hp}:∀ {ns:List Int} {vs:List V},Wk K H (ns.map .int) vs->vs=ns.map .int
 | [],vs,h=>Yu h
 | n::ns,vs,h=>by obtain ⟨v,r,e,h1,h2⟩:=Y0 h;rw [e,Mi h1,V6 h2];rfl
theorem Dg {K:PySem.W.Frag} {H:Hp}:∀ {ns:List Bool} {vs:List V},Wk K H (ns.map .bl) vs->vs=ns.map .bl
 | [],vs,h=>Yu h
 | n::ns,vs,h=>by obtain ⟨v,r,e,h1,h2⟩:=Y0 h;rw [e,Gy h1,Dg h2];rfl
def Ds (ns:List Int):List Int:=ns.mergeSort (fun a b=>decide (a<=b))
theorem Tq (ns:List Int):(Ds ns).Perm ns:=List.mergeSort_perm ns _
theorem E2 (ns:List Int):(Ds ns).Pairwise (·<=·):=by
 have:=List.pairwise_mergeSort (le:=fun a b:Int=>decide (a<=b)) (by intro a b c h1 h2;simp only [decide_eq_true_eq] at *;lia) (by intro a b;simp only [Bool.or_eq_true,decide_eq_true_eq];lia) ns;exact this.imp fun h=>of_decide_eq_true h
theorem M0:∀ {xs ys:List Int},xs.Perm ys->xs.Pairwise (·<=·)->ys.Pairwise (·<=·)->xs=ys
 | [],ys,p,_,_=>by rw [List.nil_perm.mp p]
 | x::xs,[],p,_,_=>by have:=p.length_eq;simp at this
 | x::xs,y::ys,p,h1,h2=>by
  have hx:=List.pairwise_cons.mp h1;have hy:=List.pairwise_cons.mp h2;have e:x=y:=by
   have m1:x∈y::ys:=p.mem_iff.mp mem_cons_self;have m2:y∈x::xs:=p.mem_iff.mpr mem_cons_self;rcases mem_cons.mp m1 with z | z
   ·exact z
   ·rcases mem_cons.mp m2 with w | w
    ·exact w.symm
    ·have a1:=hx.1 y w
     have a2:=hy.1 x z;lia
  subst e;rw [M0 (List.Perm.cons_inv p) hx.2 hy.2]
def Cg:List Dat->Option (List Dat)
 | [.lst xs]=>(Ja xs).bind fun ns=>if ns.length<64 then some ((Ds ns).map .int) else none
 | _=>none
def Z48:List Dat->Option Dat
 | [.lst xs]=>(F7 xs).map fun bs=>.bl (bs.all id)
 | _=>none
def Z10:List Dat->Option Dat
 | [.lst xs]=>(F7 xs).map fun bs=>.bl (bs.any id)
 | _=>none
theorem map_some {α β:Type} {a:Option α} {g:α->β} {b:β} (h:a.map g=some b):∃ x,a=some x/\g x=b:=by
 cases a with
 | none=>cases h
 | some x=>cases h;exact ⟨x,rfl,rfl⟩
theorem Zcs (hc:X.calm=true):D4 X (.builtin "all") Z48:=(Z24 hc).weak fun vs H Q zz=>by
 obtain ⟨A,ds,d,mu,e,p,q⟩:=zz;unfold Z48 at e;split at e
 ·obtain ⟨v,e1,p1⟩:=p.one
  obtain ⟨l,us,e2,h1,r1⟩:=p1.lst;obtain ⟨bs,hb,e⟩:=map_some e;subst e;rw [Pl hb] at r1;have eu:=Dg r1;subst eu;exact ⟨l,bs,by rw [e1,e2],h1.sq,q.here Vy⟩
 ·cases e
theorem Z8h (hc:X.calm=true):D4 X (.builtin "any") Z10:=(Z1a hc).weak fun vs H Q zz=>by
 obtain ⟨A,ds,d,mu,e,p,q⟩:=zz;unfold Z10 at e;split at e
 ·obtain ⟨v,e1,p1⟩:=p.one
  obtain ⟨l,us,e2,h1,r1⟩:=p1.lst;obtain ⟨bs,hb,e⟩:=map_some e;subst e;rw [Pl hb] at r1;have eu:=Dg r1;subst eu;exact ⟨l,bs,by rw [e1,e2],h1.sq,q.here Vy⟩
 ·cases e
def Z7v:List Dat->Option Dat
 | [.int i]=>some (.int (if i<0 then -i else i))
 | _=>none
theorem Zd7:D4 X (.builtin "abs") Z7v:=Z4w.weak fun vs H Q zz=>by
 obtain ⟨A,ds,d,mu,e,p,q⟩:=zz;unfold Z7v at e;split at e
 ·obtain ⟨v,e1,p1⟩:=p.one
  cases e;exact ⟨_,by rw [e1,p1.int],q.here W4⟩
 ·cases e
def Fb:List Dat->Option Dat
 | [.int i,.int j]=>some (.int (if j > i then j else i))
 | _=>none
def Ox:List Dat->Option Dat
 | [.int i,.int j]=>some (.int (if j<i then j else i))
 | _=>none
theorem Z5r (hc:X.calm=true):D4 X (.builtin "max") Fb:=(Z1s hc).weak fun vs H Q zz=>by
 obtain ⟨A,ds,d,mu,e,p,q⟩:=zz;unfold Fb at e;split at e
 ·obtain ⟨v,w,e1,p1,p2⟩:=p.two
  cases e;exact ⟨_,_,by rw [e1,p1.int,p2.int],q.here W4⟩
 ·cases e
theorem Z3w (hc:X.calm=true):D4 X (.builtin "min") Ox:=(Z2l hc).weak fun vs H Q zz=>by
 obtain ⟨A,ds,d,mu,e,p,q⟩:=zz;unfold Ox at e;split at e
 ·obtain ⟨v,w,e1,p1,p2⟩:=p.two
  cases e;exact ⟨_,_,by rw [e1,p1.int,p2.int],q.here W4⟩
 ·cases e
def tyN:Dat->Option String
 | .non=>some "NoneType" | .bl _=>some "bool" | .int _=>some "int" | .str _=>some "str" | .tup _=>some "tuple" | .lst _=>some "list" | _=>none
def Z88 (T:String) (d:Dat):Option Bool:=(tyN d).bind fun t=>Z5k t T
def dI (T:String) (f:Ev->Option Dat):Ev->Option Dat:=fun env=>(f env).bind fun d=>(Z88 T d).map .bl
theorem Zb0 {pins:List (Addr×Obj)} {σ:St} {H:Hp} {s:Shared} {A:Around} {E:Value->Shared->Prop} {Q:Value->Shared->Prop} {d:Dat} {v:V} {u:Value} {T t:String} {b:Bool} (I:Inv X pins σ H s) (r:Rp X.K H d v) (ru:Yv v u) (ht:tyN d=some t) (e:kitOne X.K (.type t) (.type T)=some b) (h:∀ tk,Q (.bool b) { s with toks:=tk }) :
  wpAny (model X.prog X.w) A (call (.builtin "isinstance") [u,.type T]) Q E s:=by
 cases d with
 | non=>cases ht;rw [Ks r] at ru;exact S7 I ru .non e h
 | bl y=>cases ht;rw [Gy r] at ru;exact S7 I ru (.bl y) e h
 | int y=>cases ht;rw [Mi r] at ru;exact S7 I ru (.int y) e h
 | str y=>cases ht;rw [(Kk r).1] at ru;exact S7 I ru (.str y) e h
 | tup ds =>
  cases ht;obtain ⟨a,vs,e1,h1,_⟩:=Mn r;subst e1;cases ru;obtain ⟨its,_,⟨o,ho,hc,_⟩,_⟩:=I.tuple h1;exact kia_one kitx_tuple I.kIn ⟨o,ho,hc⟩ e (fun z=>nomatch z) h
 | lst ds =>
  cases ht;obtain ⟨a,vs,e1,h1,_⟩:=Mt r;subst e1;cases ru;obtain ⟨its,n,_,ho,_⟩:=h1.get I;exact kia_one kitx_list I.kIn ⟨_,ho,rfl⟩ e (fun z=>nomatch z) h
 | dct _=>cases ht
 | exc _ _=>cases ht
theorem Zgb {e:Expr} {f:Ev->Option Dat} {T:String} {tx:Str} {p p2 pos:Pos} (he:Wq true X e f) (hg:Gl X "isinstance") (hm:X.mg "isinstance" = none) (hv:bootBuiltins "isinstance" = some (.builtin "isinstance")) (hgT:Gl X tx) (hmT:X.mg tx=none) (hvT:bootBuiltins tx=some (.type T)) (hnT:tx≠"__name__" := by decide) (hdT:(tx==("__debug__" : Str))=false:=by decide)
  (hs:starEach [e,.Name tx p2] X.env=(false,eval e X.env)::starEach [.Name tx p2] X.env:=by rfl):Wq m X (.Call (.Name "isinstance" p) [e,.Name tx p2] [] pos) (dI T f):=by
 have hc:V5 X (.builtin "isinstance") (fun vs H Q=>∃ v A d b,vs=[v,.ty T]/\T7 A H/\Z88 T d=some b/\Pk X.K A H d v/\Qd false X.K A H (.bl b) Q):=by
  intro pins s σ H xs us Q I r ⟨v,A,d,b,e1,mu,e2,p1,q⟩;subst e1;obtain ⟨u,w',rfl,ru,rw'⟩:=Z03 r;cases rw';obtain ⟨t,ht,hk⟩:=bind_some e2;exact Zb0 I p1.rp ru ht (Z9n hk) fun tk=>⟨.bl b,H,I.tok _,rfl,q.here Vy⟩
 refine Wq.any ((N2 hc hg hm hv (Wl he (Wl (Zaj hgT hmT hvT hnT hdT) T3) hs) (he:=hs)).weak fun σ H Q ⟨env,R,A,d,k,q1,q2⟩=>?_);obtain ⟨x,e1,h⟩:=bind_some q1;obtain ⟨b,e2,h⟩:=map_some h;subst h;exact ⟨env,R,A,x,k,e1,fun v H1 s1 p1=>⟨v,A,x,b,rfl,k.mu.mono s1,e2,p1,q2.mono s1⟩⟩
end
def Adv (st:Bool) (A:AS) (H:Hp) (A1:AS) (H1:Hp):Prop:=match st with
 | true=>Step A H A1 H1
 | false=>A1=A/\Zs H H1
theorem Adv.step {st:Bool} {A A1:AS} {H H1:Hp} (h:Adv st A H A1 H1):Step A H A1 H1:=by
 cases st with
 | true=>exact h
 | false=>obtain ⟨rfl,h⟩:=h;exact Step.same h
def Bv (st:Bool) (K:PySem.W.Frag) (A:AS) (H:Hp) (ds:List Dat) (J:It):Prop:=∀ A1 H1,Adv st A H A1 H1->T7 A1 H1 ->
 (∀ (i:Nat) x,ds[i]?=some x->J.go i H1/\∀ v H2,J.yld i H1 v H2->Zs H1 H2/\Rp K (av H2 A1) x v)/\J.stop ds.length H1
def PId (st:Bool) (X:Cx) (tg iter:Expr) (src:Ev->Option (List Dat)):Prop:=PI X tg iter fun σ H R'=>∃ env R A ds,EnvOk X.K R A H σ env/\src env=some ds /\
 ∀ J H',ds.length<=sizeLine->Zs H H'->Bv st X.K A H' ds J->R' J H'
theorem PI.weak {X:Cx} {tg iter:Expr} {t t':TI} (h:PI X tg iter t) (w:∀ σ H Q,t' σ H Q->t σ H Q):PI X tg iter t':=fun pins s σ H Q I q=>h pins s σ H Q I (w σ H Q q)
section
variable {st m:Bool} {X:Cx} {tg l:Expr} {f:Ev->Option Dat} {fs:Ev->Option (List Dat)}
def Tv (f:Ev->Option Dat):Ev->Option (List Dat):=fun env=>match f env with
 | some (.lst xs)=>some xs
 | some (.tup xs)=>some xs
 | _=>none
theorem Z0b {K:PySem.W.Frag} {A:AS} {H:Hp} {a:Addr} {vs:List V} {ds:List Dat} (h:∀ A1 H1,Adv st A H A1 H1->S9 K H1 a vs) (r:Wk K (av H A) ds vs):Bv st K A H ds (Itl K a):=fun A1 H1 adv _=>by
 have h1:=h A1 H1 adv;have r1:=r.mono adv.step.av;refine ⟨fun i x e=>?_,⟨vs,h1,le_of_eq (Zy r)⟩⟩;obtain ⟨v,e1,e2⟩:=S5 r1 e;refine ⟨⟨vs,v,h1,e1⟩,fun v' H2 ⟨e3,e4⟩=>?_⟩;subst e3;have:=e4 vs h1;rw [e1] at this;cases this;exact ⟨Zs.refl _,e2⟩
theorem Z59 {K:PySem.W.Frag} {A:AS} {H:Hp} {a:Addr} {vs:List V} {ds:List Dat} (h:∀ A1 H1,Adv st A H A1 H1->Sz K H1 a vs) (r:Wk K (av H A) ds vs):Bv st K A H ds (Itt K a):=fun A1 H1 adv _=>by
 have h1:=h A1 H1 adv;have r1:=r.mono adv.step.av;refine ⟨fun i x e=>?_,⟨vs,h1,le_of_eq (Zy r)⟩⟩;obtain ⟨v,e1,e2⟩:=S5 r1 e;refine ⟨⟨vs,v,h1,e1⟩,fun v' H2 ⟨e3,e4⟩=>?_⟩;subst e3;have:=e4 vs h1;rw [e1] at this;cases this;exact ⟨Zs.refl _,e2⟩
theorem Hh (h:Wq false X l f):PId st X tg l (Tv f):=(Z3s h).weak fun σ H R' zz=>by
 obtain ⟨env,R,A,ds,k,e,q⟩:=zz;unfold Tv at e;split at e
 ·rename_i xs e1
  cases e;refine .inl ⟨env,R,A,.lst ds,k,e1,fun v H1 s1 p1=>?_⟩;obtain ⟨a,vs,e2,h1,r1⟩:=Mt (show Rp X.K (av H1 A) (.lst ds) v from p1);subst e2;exact ⟨a,rfl,⟨vs,(W6.sl h1).sq⟩,q _ H1 p1.pk.lenL s1 (Z0b (vs:=vs) (fun A1 H2 adv=>(W6.sl (adv.step.av.sl h1)).sq) r1)⟩
 ·rename_i xs e1
  cases e;refine .inr ⟨env,R,A,.tup ds,k,e1,fun v H1 s1 p1=>?_⟩;obtain ⟨a,vs,e2,h1,r1⟩:=Mn (show Rp X.K (av H1 A) (.tup ds) v from p1);subst e2;exact ⟨a,rfl,⟨vs,W6.seqT h1⟩,q _ H1 p1.pk.lenT s1 (Z59 (vs:=vs) (fun A1 H2 adv=>W6.seqT (adv.step.av.seqT h1)) r1)⟩
 ·cases e
theorem Dd (h:Wq true X l f):PId false X tg l (Tv f):=(Z3s h).weak fun σ H R' zz=>by
 obtain ⟨env,R,A,ds,k,e,q⟩:=zz;unfold Tv at e;split at e
 ·rename_i xs e1
  cases e;refine .inl ⟨env,R,A,.lst ds,k,e1,fun v H1 s1 p1=>?_⟩;obtain ⟨a,vs,e2,h1,r1⟩:=p1.pk.lst;subst e2;exact ⟨a,rfl,⟨vs,h1.sq⟩,q _ H1 p1.pk.lenL s1 (Z0b (vs:=vs) (fun A1 H2 adv=>(adv.2.sl h1).sq) r1)⟩
 ·rename_i xs e1
  cases e;refine .inr ⟨env,R,A,.tup ds,k,e1,fun v H1 s1 p1=>?_⟩;obtain ⟨a,vs,e2,h1,r1⟩:=p1.pk.tup;subst e2;exact ⟨a,rfl,⟨vs,h1⟩,q _ H1 p1.pk.lenT s1 (Z59 (vs:=vs) (fun A1 H2 adv=>adv.2.seqT h1) r1)⟩
 ·cases e
def rng (lo:Int) (n:Nat):List Dat:=(List.range n).map fun (k:Nat)=>.int (lo+k)
theorem U8 {lo:Int} {n:Nat}:(rng lo n).length=n:=by simp [rng]
theorem Z4n {K:PySem.W.Frag} {A:AS} {H:Hp} {lo:Int} {n:Nat}:Bv st K A H (rng lo n) (Itr lo n):=fun A1 H1 adv _=>by
 refine ⟨fun i x e=>?_,by show n<=(rng lo n).length;simp [rng]⟩;unfold rng at e;rw [getElem?_map] at e;by_cases hi:i<n
 ·rw [getElem?_range hi] at e
  cases e;exact ⟨hi,fun v H2 ⟨e1,e2⟩=>by subst e1 e2;exact ⟨Zs.refl _,W4⟩⟩
 ·rw [List.getElem?_eq_none (by simpa using hi)] at e
  cases e
def Vx (fs:Ev->Option (List Dat)):Ev->Option (List Dat):=fun env=>match fs env with
 | some [.int j]=>if -(2^62)<=j/\j<2^62/\j.toNat<=sizeLine then some (rng 0 j.toNat) else none
 | _=>none
def Fc (fs:Ev->Option (List Dat)):Ev->Option (List Dat):=fun env=>match fs env with
 | some [.int i,.int j]=>if (-(2^62)<=i/\i<2^62/\-(2^62)<=j/\j<2^62)/\(j - i).toNat<=sizeLine then some (rng i (j - i).toNat) else none
 | _=>none
theorem W0 {a:Expr} {p pos:Pos} (hg:Gl X "range") (hm:X.mg "range" = none) (ha:O9 true X [a] fs) (hs:starEach [a] X.env=[(false,eval a X.env)]:=by rfl):PId st X tg (.Call (.Name "range" p) [a] [] pos) (Vx fs):=(Z1e hg hm ha hs).weak fun σ H R' zz=>by
 obtain ⟨env,R,A,ds,k,e,q⟩:=zz;unfold Vx at e;split at e
 ·rename_i j e1
  split at e
  ·rename_i hj
   cases e;refine ⟨env,R,A,_,k,e1,fun vs H1 s1 p1=>?_⟩;obtain ⟨v,e2,p2⟩:=p1.one;exact ⟨j,by rw [e2,p2.int],hj.1,hj.2.1,q _ H1 (by rw [U8];exact hj.2.2) s1 Z4n⟩
  ·cases e
 ·cases e
theorem Z4u {a b:Expr} {p pos:Pos} (hg:Gl X "range") (hm:X.mg "range" = none) (ha:O9 true X [a,b] fs) (hs:starEach [a,b] X.env=[(false,eval a X.env),(false,eval b X.env)]:=by rfl) (hs2:starEach [b] X.env=[(false,eval b X.env)]:=by rfl):PId st X tg (.Call (.Name "range" p) [a,b] [] pos) (Fc fs):=(Z1w hg hm ha hs hs2).weak fun σ H R' zz=>by
 obtain ⟨env,R,A,ds,k,e,q⟩:=zz;unfold Fc at e;split at e
 ·rename_i i j e1
  split at e
  ·rename_i hj
   cases e;refine ⟨env,R,A,_,k,e1,fun vs H1 s1 p1=>?_⟩;obtain ⟨v,w,e2,p2,p3⟩:=p1.two;exact ⟨i,j,by rw [e2,p2.int,p3.int],hj.1,q _ H1 (by rw [U8];exact hj.2) s1 Z4n⟩
  ·cases e
 ·cases e
end
def Gz (is:List Nat) (σ σ':St):Prop:=σ'.length=σ.length/\∀ j,j∉is->σ'[j]?=σ[j]?
def PGd (is:List Nat) (X:Cx) (tg:Expr) (g:Dat->Ev->Option Ev):Prop:=PG X tg fun v σ H Q=>∃ env R A d env',EnvOk X.K R A H σ env/\Rp X.K (av H A) d v/\g d env=some env'/\∀ σ',EnvOk X.K R A H σ' env'->Gz is σ σ'->Q σ' H
def Z6m (is:List Nat) (X:Cx) (tgs:List Expr) (g:List Dat->Ev->Option Ev):Prop:=PGs X tgs fun vs σ H Q=>∃ env R A ds env',EnvOk X.K R A H σ env/\Wk X.K (av H A) ds vs/\g ds env=some env'/\∀ σ',EnvOk X.K R A H σ' env'->Gz is σ σ'->Q σ' H
theorem EnvOk.put {K:PySem.W.Frag} {B:Bs} {A:AS} {H:Hp} {σ:St} {env:Ev} (k:EnvOk K B A H σ env) (i:Nat) {d:Dat} {v:V} (r:Rp K (av H A) d v):EnvOk K B A H (σ.set i (some v)) (env.set i (.fz d)):=by
 obtain ⟨own,h1,h2,h4⟩:=k.sl;refine ⟨k.h0,k.r0,k.ra,k.ar,k.mu,by rw [length_set,length_set];exact k.len,fun hs j d'=>?_,fun j a=>j≠i/\own j a,fun j j' a q q'=>h1 j j' a q.2 q'.2,fun j a q=>h2 j a q.2,fun j s e=>?_⟩
 ·rw [getElem?_set]
  split
  ·split
   ·intro z;cases z
   ·intro z;cases z
  ·exact k.np hs j d'
 by_cases hj:i=j
 ·subst hj
  rw [getElem?_set] at e;rw [if_pos rfl] at e;split at e
  ·rename_i hl
   cases e;refine ⟨some v,?_,v,rfl,r⟩;rw [getElem?_set,if_pos rfl,if_pos (by rw [k.len];exact hl)]
  ·cases e
 ·rw [getElem?_set,if_neg hj] at e
  obtain ⟨x,q1,q2⟩:=h4 j s e;refine ⟨x,by rw [getElem?_set,if_neg hj];exact q1,?_⟩;cases s with
  | un=>trivial
  | fz d=>exact q2
  | pk d=>exact q2
  | ow ds=>obtain ⟨a,vs,e1,e2,e3⟩:=q2;exact ⟨a,vs,e1,⟨Ne.symm hj,e2⟩,e3⟩
  | gx g=>obtain ⟨v,e1,e2⟩:=q2;exact ⟨v,e1,e2.frame (fun _ z=>⟨Ne.symm hj,z⟩) (fun _ _ _ z=>z) (Zs.refl _)⟩
theorem PG.weak {X:Cx} {e:Expr} {t t':TG} (h:PG X e t) (w:∀ v σ H Q,t' v σ H Q->t v σ H Q):PG X e t':=fun pins s σ H v u Q I r q=>h pins s σ H v u Q I r (w _ _ _ _ q)
theorem PGs.weak {X:Cx} {e:List Expr} {t t':TGs} (h:PGs X e t) (w:∀ v σ H Q,t' v σ H Q->t v σ H Q):PGs X e t':=fun pins s σ H v u Q I r q=>h pins s σ H v u Q I r (w _ _ _ _ q)
section
variable {X:Cx} {pos:Pos}
def Yh (i:Nat):Dat->Ev->Option Ev:=fun d env=>some (env.set i (.fz d))
theorem Z1r {σ:St} {i:Nat} {v:Option V}:Gz [i] σ (σ.set i v):=⟨by rw [length_set],fun j hj=>by rw [getElem?_set,if_neg (by intro e;exact hj (by simp [e]))]⟩
theorem Zv (i:Nat) {x:Str} (hN:X.N.Nodup) (hi:X.N[i]?=some x) (hx:Cy X.env.scope x) (hf:X.fn x=true\/X.env.scope.names.lookup x=some .local:=by first | exact .inl rfl | exact .inr rfl | assumption):PGd [i] X (.Name x pos) (Yh i):=(Z7z hN hi hx hf).weak fun v σ H Q zz=>by
 obtain ⟨env,R,A,d,env',k,r,e,q⟩:=zz;cases e;exact q _ (k.put i r) Z1r
def Rv:List Dat->Ev->Option Ev:=fun ds env=>match ds with
 | []=>some env
 | _=>none
def Wh (g:Dat->Ev->Option Ev) (gs:List Dat->Ev->Option Ev):List Dat->Ev->Option Ev:=fun ds env=>match ds with
 | d::ds=>(g d env).bind fun env'=>gs ds env'
 | _=>none
theorem Ms:Z6m [] X [] Rv:=Z7c.weak fun vs σ H Q zz=>by
 obtain ⟨env,R,A,ds,env',k,r,e,q⟩:=zz;unfold Rv at e;split at e
 ·cases e
  exact ⟨Yu r,q σ k ⟨rfl,fun _ _=>rfl⟩⟩
 ·cases e
theorem Yz {e:Expr} {es:List Expr} {is js:List Nat} {g:Dat->Ev->Option Ev} {gs:List Dat->Ev->Option Ev} (h1:PGd is X e g) (h2:Z6m js X es gs)
  (hs:(assignEach (e::es) X.env).map (·.2)=assign e X.env::(assignEach es X.env).map (·.2):=by rfl):Z6m (is++js) X (e::es) (Wh g gs):=(Z4e h1 h2 hs).weak fun vs σ H Q zz=>by
 obtain ⟨env,R,A,ds,env',k,r,e,q⟩:=zz;unfold Wh at e;split at e
 ·rename_i d ds'
  obtain ⟨env1,e1,e2⟩:=bind_some e;obtain ⟨v,us,ev,r1,r2⟩:=Y0 r;refine ⟨v,us,ev,env,R,A,d,env1,k,r1,e1,fun σ1 k1 a1=>⟨env1,R,A,ds',env',k1,r2,e2,fun σ2 k2 a2=>q σ2 k2 ⟨by rw [a2.1,a1.1],fun j hj=>?_⟩⟩⟩;rw [mem_append,not_or] at hj;rw [a2.2 j hj.2,a1.2 j hj.1]
 ·cases e
end
def Tg (fs:List (Option Nat)) (env:Ev):Ev:=fs.map fun o=>match o with
 | none=>.un
 | some j=>match env[j]? with
  | some (.fz d)=>.fz d
  | some (.pk d)=>.pk d
  | some (.ow ds)=>.pk (.lst ds)
  | _=>.un
theorem EnvOk.inn {K:PySem.W.Frag} {B:Bs} {A:AS} {H:Hp} {σ:St} {env:Ev} (k:EnvOk K B A H σ env) (fs:List (Option Nat)):EnvOk K ⟨H,A,false⟩ A H (Vp fs σ) (Tg fs env):=by
 obtain ⟨own,h1,h2,h4⟩:=k.sl;refine ⟨Zs.refl H,fun a h=>?_,fun _ h=>h,fun _ h=>.inl h,k.mu,by simp [Vp,Tg],fun z=>(by cases z),fun _ _=>False,fun _ _ _ h=>h.elim,fun _ _ h=>h.elim,fun i s e=>?_⟩
 ·have:=k.mu a h
  cases q:H a with
  | none=>rw [q] at this;exact this.elim
  | some o=>exact ⟨o,q⟩
 ·unfold Tg at e
  rw [getElem?_map] at e;unfold Vp;rw [getElem?_map];cases hf:fs[i]? with
  | none=>rw [hf] at e;cases e
  | some o =>
   rw [hf] at e;cases o with
   | none=>cases e;exact ⟨_,rfl,trivial⟩
   | some j =>
    simp only [Option.map_some,Option.some.injEq] at e ⊢;refine ⟨_,rfl,?_⟩;split at e
    ·rename_i d hd
     obtain ⟨x,q1,q2⟩:=h4 j _ hd;subst e;rw [q1];exact q2
    ·rename_i d hd
     obtain ⟨x,q1,q2⟩:=h4 j _ hd;subst e;rw [q1];exact q2
    ·rename_i ds hd
     obtain ⟨x,q1,a,vs,e1,_,hz,e3,e4⟩:=h4 j _ hd;subst e;rw [q1];exact ⟨.ref a,e1,.inr ⟨a,vs,ds,rfl,rfl,hz,e3,e4⟩⟩
    ·subst e;trivial
def V8 (g:Dat->Ev->Option Ev) (t:Ev->Option Bool) (f:Ev->Option Dat) (env:Ev):List Dat->Option (List Dat)
 | []=>some []
 | x::xs=>(g x env).bind fun env1=>(t env1).bind fun b=>if b=true then (f env1).bind fun y=>(V8 g t f env xs).map (y::·) else V8 g t f env xs
def Tc (src:Ev->Option (List Dat)) (fs:List (Option Nat)) (g:Dat->Ev->Option Ev) (t:Ev->Option Bool) (f:Ev->Option Dat):Ev->Option (List Dat):=fun env=>(src env).bind fun ds=>V8 g t f (Tg fs env) ds
theorem Gj {g:Dat->Ev->Option Ev} {t:Ev->Option Bool} {f:Ev->Option Dat} {env:Ev}:∀ {xs ys:List Dat},V8 g t f env xs=some ys->ys.length<=xs.length
 | [],ys,h=>by cases h;exact le_refl _
 | x::xs,ys,h=>by
  rw [V8] at h;obtain ⟨env1,e1,h⟩:=bind_some h;obtain ⟨b,e2,h⟩:=bind_some h;split at h
  ·obtain ⟨y,e3,h⟩:=bind_some h
   obtain ⟨zs,e4,h⟩:=map_some h;subst h;exact Nat.succ_le_succ (Gj e4)
  ·exact Nat.le_succ_of_le (Gj h)
def PFd (X:Cx) (ifs:List Expr) (t:Ev->Option Bool):Prop:=PIf X ifs fun σ H Q=>∃ env R A b,EnvOk X.K R A H σ env/\t env=some b/\∀ H',Zs H H'->Q b H'
def Jo:Ev->Option Bool:=fun _=>some true
theorem PIf.weak {X:Cx} {e:List Expr} {t t':TT} (h:PIf X e t) (w:∀ σ H Q,t' σ H Q->t σ H Q):PIf X e t':=fun pins s σ H Q I q=>h pins s σ H Q I (w σ H Q q)
theorem L1 {X:Cx}:PFd X [] Jo:=(Z7m (Y:=X)).weak fun σ H Q ⟨env,R,A,b,k,e,q⟩=>by cases e;exact q H (Zs.refl H)
theorem Ek {X:Cx} {c:Expr} {t:Ev->Option Bool} (h:PTd X c t):PFd X [c] t:=Z8e h
section
variable {X:Cx} {sc:Scope}
theorem Z04 {J:It} {fs:List (Option Nat)} {is:List Nat} {g:Dat->Ev->Option Ev} {t:Ev->Option Bool} {f:Ev->Option Dat} {σ:St} {H1:Hp} {Q:VK} {K:PySem.W.Frag} {A:AS} {B:Bs} {env:Ev} {ds ys:List Dat}
  (hfs:∀ i∈is,fs[i]?=some none) (k:EnvOk K B A H1 σ env) (hJ:Bv false K A H1 ds J) (hz:ds.length<=sizeLine) (hc:V8 g t f (Tg fs env) ds=some ys) (q:N6 K A H1 ys Q) :
  ∃ W:Nat->Nat->List V->Hp->Prop,(∃ m,W 0 m [] H1)/\∀ i m zs H,W i m zs H ->
   (J.stop i H/\zs.length<=sizeLine/\∀ p,H p=none->Q (.ref p) (We H p (.lst zs))) \/
   (J.go i H/\zs.length<=sizeLine/\∃ N:List V->Hp->Prop,(∀ ys' H',N ys' H'->∃ m',m'<m/\W (i+1) m' ys' H')/\∀ x H',J.yld i H x H'->(∃ env R A d env',EnvOk K R A H' (Vp fs σ) env/\Rp K (av H' A) d x/\g d env=some env'/\∀ σ',EnvOk K R A H' σ' env'->Gz is (Vp fs σ) σ' ->
    (Ext (Vp fs σ) σ'/\∃ env R A b,EnvOk K R A H' σ' env/\t env=some b/\∀ H3,Zs H' H3->if b=true then ∃ env R A d,EnvOk K R A H3 σ' env/\f env=some d/\Qd false K A H3 d (fun v H4=>N (zs++[v]) H4) else N zs H3))):=by
 have hl:=Gj hc;refine ⟨fun i m zs H=>m=ds.length - i/\i<=ds.length/\Zs H1 H/\∃ us rest,V8 g t f (Tg fs env) (ds.drop i)=some rest/\us++rest=ys/\Wk K (av H A) us zs,
  ⟨ds.length,by simp,zero_le _,Zs.refl _,[],ys,by simpa using hc,rfl,Ub⟩,?_⟩
 rintro i m zs H ⟨rfl,hi,s1,us,rest,e1,e2,r⟩;have hzs:zs.length<=sizeLine:=by
  rw [Zy r];have:us.length<=ys.length:=by rw [← e2,length_append];lia
  lia
 obtain ⟨hgo,hstop⟩:=hJ A H ⟨rfl,s1⟩ (k.mono s1).mu;by_cases hlt:i<ds.length
 ·have hx:ds[i]?=some ds[i]:=by simp [hlt]
  obtain ⟨go,yl⟩:=hgo i _ hx;rw [drop_eq_getElem_cons hlt,V8] at e1;obtain ⟨env1,b1,e1⟩:=bind_some e1;obtain ⟨b,b2,e1⟩:=bind_some e1;refine .inr ⟨go,hzs,fun zs' H'=>i+1<=ds.length/\Zs H1 H'/\∃ us rest,V8 g t f (Tg fs env) (ds.drop (i+1))=some rest/\us++rest=ys/\Wk K (av H' A) us zs',
   fun zs' H' h=>⟨ds.length - (i+1),by lia,rfl,h⟩,fun x H' hy=>?_⟩
  obtain ⟨s2,rx⟩:=yl x H' hy;refine ⟨Tg fs env,⟨H1,A,false⟩,A,ds[i],env1,(k.inn fs).mono (s1.trans s2),rx,b1,fun σ' k' ag=>⟨⟨ag.1.symm,fun j v ej=>?_⟩,env1,⟨H1,A,false⟩,A,b,k',b2,fun H3 s3=>?_⟩⟩
  ·have hj:j∉is:=fun hj=>by
    have:=hfs j hj;unfold Vp at ej;rw [getElem?_map,this] at ej;cases ej
   rw [ag.2 j hj];exact ej
  ·cases b with
   | true =>
    rw [if_pos rfl] at e1 ⊢;obtain ⟨y,b3,e1⟩:=bind_some e1;obtain ⟨rest',b4,e1⟩:=map_some e1;subst e1;refine ⟨env1,⟨H1,A,false⟩,A,y,k'.mono s3,b3,fun v H4 s4 rv=>⟨hlt,((s1.trans s2).trans s3).trans s4,us++[y],rest',b4,by rw [List.append_assoc];exact e2,Vb (r.mono (Vk ((s2.trans s3).trans s4))) (Jp rv)⟩⟩
   | false =>
    rw [if_neg Bool.false_ne_true] at e1 ⊢;exact ⟨hlt,(s1.trans s2).trans s3,us,rest,e1,e2,r.mono (Vk (s2.trans s3))⟩
 ·have e:i=ds.length:=by lia
  subst e;rw [List.drop_length,V8] at e1;cases e1;rw [append_nil] at e2;subst e2;exact .inl ⟨hstop,hzs,(q.mono s1).at (by lia) r⟩
variable {elt tg iter:Expr} {ifs:List Expr} {pos:Pos} {src:Ev->Option (List Dat)} {is:List Nat} {g:Dat->Ev->Option Ev} {t:Ev->Option Bool} {f:Ev->Option Dat}
theorem Jx (psc:Scope) (fs:List (Option Nat)) (N:List Str) (hp:X.env.scope=psc) (S:CompOk psc sc X.N N fs) (hc:X.calm=true) (hi:PId false X tg iter src)
  (hb:∀ (C:Addr) (s:Shared) (H:Hp) (fp:List Addr),PGd is (V0 X sc N C s H fp) tg g/\PFd (V0 X sc N C s H fp) ifs t/\Wq false (V0 X sc N C s H fp) elt f)
  (hfs:∀ i∈is,fs[i]?=some none) (hs:∀ x,foldedSetIterable iter X.env x=pure x:=by intro _;rfl):PNd X (.ListComp elt [⟨tg,iter,ifs,0⟩] sc pos) (Tc src fs g t f):=by
 refine PE.weak (Z7y (g:=fun v σ H Q=>∃ env R A d env',EnvOk X.K R A H σ env/\Rp X.K (av H A) d v/\g d env=some env'/\∀ σ',EnvOk X.K R A H σ' env'->Gz is σ σ'->Q σ' H) (tt:=fun σ H Q=>∃ env R A b,EnvOk X.K R A H σ env/\t env=some b/\∀ H',Zs H H'->Q b H') (te:=fun σ H Q=>∃ env R A d,EnvOk X.K R A H σ env/\f env=some d/\Qd false X.K A H d Q) psc fs N hp S hc hi hb hs) fun σ H Q ⟨env,R,A,ys,k,e,q⟩=>?_
 obtain ⟨ds,e1,e2⟩:=bind_some e;exact ⟨env,R,A,ds,k,e1,fun J H1 hz s1 hJ=>Z04 hfs (k.mono s1) hJ hz e2 (q.mono s1)⟩
end
def G5 (h base:Heap) (e T:Addr) (cls:Value×Option Value) (dct:Option Addr) (fl:Value):Prop :=
 ∃ oe vs oT ts,h.get? e=some oe/\(oe.cls,vs[2]?)=cls/\oe.dict=dct/\oe.data=.fields vs/\vs[1]?=some (.ref T)/\base.get? T=none/\T≠e/\h.get? T=some oT/\oT.data=.fields ts/\ts[3]?=some fl
def L8 (l:List Env) (ch:List Addr) (h h':Heap):Prop:=∀ b o,h.get? b=some o->b∉ch->(b∉Sw l->h'.get? b=some o)/\∃ sl,h'.get? b=some { o with slots:=sl }
theorem L8.of {l:List Env} {ch:List Addr} {h h1:Heap} (a:∀ b o,h.get? b=some o->b∉ch->h1.get? b=some o):L8 l ch h h1:=fun c o q hc=>⟨fun _=>a c o q hc,o.slots,a c o q hc⟩
theorem Kd (f:Array Value->Array Value) (o:Obj):(Obj.mapFields f o).dict=o.dict:=by
 unfold Obj.mapFields;split<;>rfl
section
variable {M:Model} {A:Around} {E:Value->Shared->Prop} {s:Shared}
theorem Z4q {base:Heap} {env:Env} {outer:List Env} {L e:Addr} {oe:Obj} {vs:Array Value} {head:Value} {hadNext:Bool} {Q:Unit->Shared->Prop}
   (hfr:A.frames=some (env::outer)) (hl:s.heap.FunFrames base (env::outer)) (hf:env.frame=some L)
   (he:s.heap.get? e=some oe) (hkb:base.StaysIn s.heap) (hen:base.get? e=none) (hd:oe.data=.fields vs) (hsz:1<vs.size)
   (h:∀ h' T,s.heap.objs.size<=T->base.StaysIn h'->h'.FunFrames base (env::outer)->G5 h' base e T (oe.cls,vs[2]?) oe.dict (rawInt L)->L8 (env::outer) [e] s.heap h'->s.heap.objs.size<=h'.objs.size->Q () { s with heap:=h' }) :
   wpAny M A (do let a ← frameOf env;let pl ← entryPlaceOf L hadNext;let b ← EntryCells.newEntry head a .none (rawInt L) .none pl;setField (.ref e) 1 b) Q E s:=by
 have hene:e∉(env::outer).filterMap (·.frame):=fun hm=>by
   obtain ⟨_,o,ho,hnf⟩:=hl.mem hm;rw [he] at ho;injection ho with ho;subst ho;exact hnf vs hd
 refine wpAny_bind (wpAny_frameOf_fun hfr hl hf fun h₁ hs₁=>?_);refine wpAny_bind (wpAny_entryPlaceOf fun pl hpl=>?_);unfold EntryCells.newEntry newFields;refine wpAny_bind (wpAny_newObj_type ?_ (hpl.sizeOk5 _ _ _ _ _));have he₁:h₁.get? e=some oe:=(hs₁.2.1 e hene).trans he;have kb₁:base.StaysIn h₁:=fun b o hbo=>(hs₁.2.1 b fun hm=>by rw [(hl.mem hm).1] at hbo;cases hbo).trans (hkb b o hbo)
 have he₂:=get?_push_of_some (h:=h₁) { cls:=.type "traceback",dict:=none,data:=.fields ([head,.ref L,.none,rawInt L,.none]++(if pl.isEmpty then List.replicate 6 Value.none else pl)).toArray } he₁;have hlow:s.heap.objs.size<=h₁.objs.size:=le_of_eq hs₁.1.symm;have hTe:h₁.objs.size≠e:=Nat.ne_of_gt (lt_size he₁);have hd₃:=Obj.data_mapFields hd (·.setIfInBounds 1 (Value.ref h₁.objs.size));have he₃:=get?_update_self (Obj.mapFields (·.setIfInBounds 1 (Value.ref h₁.objs.size))) he₂ (Obj.isFreed_of_fields hd₃);have hT₃:=(get?_update_other (h₁.push { cls:=.type "traceback",dict:=none,data:=.fields ([head,.ref L,.none,rawInt L,.none]++(if pl.isEmpty then List.replicate 6 Value.none else pl)).toArray })
   (Obj.mapFields (·.setIfInBounds 1 (Value.ref h₁.objs.size))) (Ne.symm hTe)).trans (get?_push_size h₁ rfl)
 have keep:∀ b o,b≠e->h₁.get? b=some o ->
     ((h₁.push { cls:=.type "traceback",dict:=none,data:=.fields ([head,.ref L,.none,rawInt L,.none]++(if pl.isEmpty then List.replicate 6 Value.none else pl)).toArray }).update e (Obj.mapFields (·.setIfInBounds 1 (Value.ref h₁.objs.size)))).get? b=some o :=
   fun b o hbe hb=>by
     rw [get?_update_other _ _ (Ne.symm hbe)];exact get?_push_of_some _ hb
 refine wpAny_setField he₂ hd hsz (h _ h₁.objs.size hlow ?_ ?_ ?_ ?_ ?_)
 · exact fun b o hbo=>keep b o (fun q=>by rw [q,hen] at hbo;cases hbo) (kb₁ b o hbo)
 · refine hl.of_keeps fun b o hb hnf=>?_
   obtain ⟨sl,hs⟩:=hs₁.2.2 b o hb;have hbe:b≠e:=fun q=>by rw [q,he] at hb;injection hb with hb;subst hb;exact hnf vs hd
   exact ⟨_,keep b _ hbe hs,rfl⟩
 · exact ⟨_,_,_,_,he₃,by rw [Obj.cls_mapFields];simp [Array.getElem?_setIfInBounds],Kd _ _,hd₃,by simp [hsz],kb₁.fresh,hTe,hT₃,rfl,by first | (simp;done) | (rcases hpl with rfl | ⟨_,_,_,_,_,_,_,rfl⟩<;>simp)⟩
 · intro b o hb hbe
   have hbe':b≠e:=fun z=>hbe (by simp [z])
   obtain ⟨sl,hs⟩:=hs₁.2.2 b o hb;exact ⟨fun hfr'=>keep b o hbe' ((hs₁.2.1 b hfr').trans hb),sl,keep b _ hbe' hs⟩
 · rw [size_update,size_push];exact Nat.le_succ_of_le hlow
theorem Hg {base:Heap} {l:List Env} {e T:Addr} {cls:Value×Option Value} {dct:Option Addr} {fl:Value} {Q:Unit->Shared->Prop}
  (hkb:base.StaysIn s.heap) (hl:s.heap.FunFrames base l) (ht:G5 s.heap base e T cls dct fl)
  (h:∀ h',base.StaysIn h'->h'.FunFrames base l->G5 h' base e T cls dct .none->(∀ b o,s.heap.get? b=some o->b∉[T]->h'.get? b=some o)->h'.objs.size=s.heap.objs.size->Q () { s with heap:=h' }) :
  wpAny M A (setFlight (.ref e) none) Q E s:=by
 obtain ⟨oe,vs,oT,ts,he,hcls,hdct,hd,h1,hnT,hTe,hT,hdT,h3⟩:=ht;have hsz3:3<ts.size:=(Array.getElem?_eq_some_iff.mp h3).1;have other:∀ b,b≠T->(s.heap.update T (Obj.mapFields (·.setIfInBounds 3 ((none:Option Addr).elim Value.none fun f=>rawInt f)))).get? b=s.heap.get? b :=
  fun b hb=>get?_update_other _ _ (Ne.symm hb)
 have noRecord:∀ b o,s.heap.get? b=some o->(∀ vs,o.data≠.fields vs)->b≠T:=fun b o hb hnf q=>by
  rw [q,hT] at hb;injection hb with hb;subst hb;exact hnf ts hdT
 unfold setFlight;refine wpAny_bind (wpAny_field he hd h1 ?_);rw [if_pos (show (Value.ref T != Value.none)=true from by simp)];refine wpAny_setField hT hdT hsz3 (h _ (fun b o hbo=>(other b fun q=>by rw [q,hnT] at hbo;cases hbo).trans (hkb b o hbo))
  (hl.of_keeps fun b o hb hnf=>⟨o,(other b (noRecord b o hb hnf)).trans hb,rfl⟩) ?_ (fun b o hb hnf=>(other b (fun z=>hnf (by simp [z]))).trans hb) (size_update ..))
 exact ⟨oe,vs,_,_,(other e (Ne.symm hTe)).trans he,hcls,hdct,hd,h1,hnT,hTe,get?_update_self _ hT (Obj.isFreed_of_fields (Obj.data_mapFields hdT _)),Obj.data_mapFields hdT _,by simp [hsz3]⟩
theorem Z05 {base:Heap} {env:Env} {outer:List Env} {L e T:Addr} {cls:Value×Option Value} {dct:Option Addr} {Q:Unit->Shared->Prop}
  (hfr:A.frames=some (env::outer)) (hl:s.heap.FunFrames base (env::outer)) (hf:env.frame=some L) (ht:G5 s.heap base e T cls dct .none) (hkb:base.StaysIn s.heap) (hen:base.get? e=none)
  (h:∀ h' T',s.heap.objs.size<=T'->base.StaysIn h'->h'.FunFrames base (env::outer)->G5 h' base e T' cls dct (rawInt L)->L8 (env::outer) [e,T] s.heap h'->s.heap.objs.size<=h'.objs.size->Q () { s with heap:=h' }):wpAny M A (noteFrame (.ref e) env) Q E s:=by
 obtain ⟨oe,vs,oT,ts,he,hcls,hdct,hd,h1,hnT,hTe,hT,hdT,h3⟩:=ht;subst hcls hdct;unfold noteFrame;simp only [hf];refine wpAny_bind (wpAny_field he hd h1 ?_);rw [if_pos (show (Value.ref T != Value.none)=true from by simp)];refine wpAny_bind (wpAny_field hT hdT h3 ?_);rw [if_neg (show ¬ ((Value.none==rawInt L)=true) from by simp [rawInt])];refine wpAny_bind (wpAny_setField hT hdT (Array.getElem?_eq_some_iff.mp h3).1 ?_);have other:∀ b,b≠T->(s.heap.update T (Obj.mapFields (·.setIfInBounds 3 Value.none))).get? b=s.heap.get? b:=fun b hb=>get?_update_other _ _ (Ne.symm hb)
 have noRecord:∀ b o,s.heap.get? b=some o->(∀ vs,o.data≠.fields vs)->b≠T:=fun b o hb hnf q=>by
  rw [q,hT] at hb;injection hb with hb;subst hb;exact hnf ts hdT
 have hsz:(s.heap.update T (Obj.mapFields (·.setIfInBounds 3 Value.none))).objs.size=s.heap.objs.size:=size_update ..;refine Z4q (s:={ s with heap:=s.heap.update T (Obj.mapFields (·.setIfInBounds 3 Value.none)) }) hfr (hl.of_keeps fun b o hb hnf=>⟨o,(other b (noRecord b o hb hnf)).trans hb,rfl⟩) hf ((other e (Ne.symm hTe)).trans he)
  (fun b o hbo=>(other b fun q=>by rw [q,hnT] at hbo;cases hbo).trans (hkb b o hbo)) hen hd (Array.getElem?_eq_some_iff.mp h1).1
  fun h' T' x0 x1 x2 x3 x4 x5=>h h' T' (by rw [← hsz];exact x0) x1 x2 x3 (fun b o hb hc=>?_) (by rw [← hsz];exact x5)
 have hbT:b≠T:=fun z=>hc (by simp [z])
 exact x4 b o ((other b hbT).trans hb) (fun z=>hc (by simp at z;simp [z]))
theorem Jg {base:Heap} {env:Env} {outer:List Env} {L e:Addr} {oe:Obj} {vs:Array Value} {Q:Unit->Shared->Prop}
  (hfr:A.frames=some (env::outer)) (hl:s.heap.FunFrames base (env::outer)) (hf:env.frame=some L)
  (he:s.heap.get? e=some oe) (hkb:base.StaysIn s.heap) (hen:base.get? e=none) (hd:oe.data=.fields vs) (h1:vs[1]?=some .none)
  (h:∀ h' T',s.heap.objs.size<=T'->base.StaysIn h'->h'.FunFrames base (env::outer)->G5 h' base e T' (oe.cls,vs[2]?) oe.dict (rawInt L)->L8 (env::outer) [e] s.heap h'->s.heap.objs.size<=h'.objs.size->Q () { s with heap:=h' }):wpAny M A (noteFrame (.ref e) env) Q E s:=by
 unfold noteFrame;simp only [hf];refine wpAny_bind (wpAny_field he hd h1 ?_);rw [if_neg (by decide)];exact Z4q hfr hl hf he hkb hen hd (Array.getElem?_eq_some_iff.mp h1).1 h
theorem Xc {base:Heap} {env:Env} {outer:List Env} {L e:Addr} {oe:Obj} {vs:Array Value} {Q:Unit->Shared->Prop}
  (hfr:A.frames=some (env::outer)) (hl:s.heap.FunFrames base (env::outer)) (hf:env.frame=some L)
  (he:s.heap.get? e=some oe) (hkb:base.StaysIn s.heap) (hen:base.get? e=none) (hd:oe.data=.fields vs) (h1:vs[1]?=some .none)
  (h:∀ h' T',s.heap.objs.size<=T'->base.StaysIn h'->h'.FunFrames base (env::outer)->G5 h' base e T' (oe.cls,vs[2]?) oe.dict .none->L8 (env::outer) [e] s.heap h'->Q () { s with heap:=h' }):wpAny M A (leaving env (.ref e)) Q E s:=by
 unfold leaving;refine wpAny_bind (Jg hfr hl hf he hkb hen hd h1 fun h' T' x0 x1 x2 x3 x4 x5=>?_);refine Hg (s:={ s with heap:=h' }) x1 x2 x3 fun h2 y1 y2 y3 y4 y5=>h h2 T' x0 y1 y2 y3 (fun b o hb hc=>?_)
 obtain ⟨k1,sl,k2⟩:=x4 b o hb hc;have hbT:b∉[T']:=fun z=>by
  have e1:b=T':=by simpa using z
  have e2:=lt_size hb;rw [e1] at e2;exact absurd (lt_of_lt_of_le e2 x0) (lt_irrefl _)
 exact ⟨fun hfr'=>y4 b o (k1 hfr') hbT,sl,y4 b _ k2 hbT⟩
theorem Zc1 {base:Heap} {env:Env} {outer:List Env} {L e T:Addr} {cls:Value×Option Value} {dct:Option Addr} {Q:Unit->Shared->Prop}
  (hfr:A.frames=some (env::outer)) (hl:s.heap.FunFrames base (env::outer)) (hf:env.frame=some L) (ht:G5 s.heap base e T cls dct .none) (hkb:base.StaysIn s.heap) (hen:base.get? e=none)
  (h:∀ h' T',s.heap.objs.size<=T'->base.StaysIn h'->h'.FunFrames base (env::outer)->G5 h' base e T' cls dct .none->L8 (env::outer) [e,T] s.heap h'->Q () { s with heap:=h' }):wpAny M A (leaving env (.ref e)) Q E s:=by
 unfold leaving;refine wpAny_bind (Z05 hfr hl hf ht hkb hen fun h' T' x0 x1 x2 x3 x4 x5=>?_);refine Hg (s:={ s with heap:=h' }) x1 x2 x3 fun h2 y1 y2 y3 y4 y5=>h h2 T' x0 y1 y2 y3 (fun b o hb hc=>?_)
 obtain ⟨k1,sl,k2⟩:=x4 b o hb hc;have hbT:b∉[T']:=fun z=>by
  have e1:b=T':=by simpa using z
  have e2:=lt_size hb;rw [e1] at e2;exact absurd (lt_of_lt_of_le e2 x0) (lt_irrefl _)
 exact ⟨fun hfr'=>y4 b o (k1 hfr') hbT,sl,y4 b _ k2 hbT⟩
end
inductive Fl where
 | next (env:Ev) | ret (d:Dat) | brk (env:Ev) | cont (env:Ev) | exc (env:Ev) (c:Str) (fs:List (Str×XD)) | no
def NwT (K:PySem.W.Frag) (B:Bs) (H':Hp) (d:Dat) (v:V):Prop:=∀ ds,d=.lst ds->∃ p vs,v=.ref p/\B.H₀ p=none/\H' p=some (.lst vs)/\ds.length<=sizeLine/\Wk K (av H' (ins B.R p)) ds vs
structure XSt (X:Cx) (pins:List (Addr×Obj)) (H:Hp) (h:Heap) (e C:Addr) (dct:Option Addr):Prop where
 lo:X.s₀.heap.objs.size<=e
 un:H e=none
 ob:(∃ o vs,h.get? e=some o/\o.cls=.ref C/\o.dict=dct/\o.data=.fields vs/\vs[1]?=some .none/\(X.pl=true->vs[2]?=some .none))\/∃ T c2,X.s₀.heap.objs.size<=T/\H T=none/\(∀ p∈X.pn++pins,p.1≠T)/\G5 h X.base e T (.ref C,c2) dct .none/\(X.pl=true->c2=some .none)
 pe:∀ p∈X.pn++pins,p.1≠e
def X9 (H0 H:Hp) (dct:Option Addr):Prop:=∀ dx,dct=some dx->H0 dx=none/\∀ fvs f a,H dx=some (.xd fvs)->fvs.lookup f=some (.ref a)->H0 a=none
theorem X9.mono {H0 H1 H:Hp} {dct:Option Addr} (h:X9 H1 H dct) (m:∀ b,H1 b=none->H0 b=none):X9 H0 H dct:=fun dx e=>⟨m _ (h dx e).1,fun fvs f a q l=>m _ ((h dx e).2 fvs f a q l)⟩
theorem Xs {H0 H:Hp} {dx:Addr} {fvs:List (Str×V)} (h1:H0 dx=none) (h2:H dx=some (.xd fvs)) (h3:∀ f a,(f,V.ref a)∈fvs->H0 a=none):X9 H0 H (some dx):=fun dx' e=>by
 cases e;refine ⟨h1,fun fvs' f a q l=>?_⟩;rw [h2] at q;cases q;exact h3 f a (PySem.mem_of_lookup l)
theorem Z3o {H0 H:Hp}:X9 H0 H none:=fun dx e=>by cases e
theorem Zs.none {H H':Hp} (s:Zs H H') {b:Addr} (h:H' b=none):H b=none:=by
 cases q:H b with
 | none=>rfl
 | some o=>rw [s b o q] at h;cases h
def XW (X:Cx) (H0:Hp) (A:AS) (H:Hp) (σ:St) (c:Str) (fs:List (Str×XD)):Prop :=
 ∀ (pins:List (Addr×Obj)) (s:Shared) (e C:Addr) (dct:Option Addr),Inv X pins σ H s->T4 X.K c C->XSt X pins H s.heap e C dct->Xg X.K (av H A) dct fs->X9 H0 H dct->X.xe (.ref e) s
def E6 (fr:Bool) (X:Cx) (B:Bs) (A:AS) (H:Hp) (D:Ends):Fl->Prop
 | .next env'=>∀ A' H' σ',Step A H A' H'->EnvOk X.K B A' H' σ' env'->D.nx σ' H'
 | .brk env'=>∀ A' H' σ',Step A H A' H'->EnvOk X.K B A' H' σ' env'->D.bk σ' H'
 | .cont env'=>∀ A' H' σ',Step A H A' H'->EnvOk X.K B A' H' σ' env'->D.ct σ' H'
 | .ret d=>∀ v H',Zs B.H₀ H'->Rp X.K (av H' B.R) d v->(fr=true->NwT X.K B H' d v)->D.rt v H'
 | .exc env' c fs=>∀ A' H' σ',Step A H A' H'->EnvOk X.K B A' H' σ' env'->XW X B.H₀ A' H' σ' c fs
 | .no=>False
def tS (fr:Bool) (X:Cx) (g:Ev->Fl):TS:=fun D σ H=>∃ env B A,EnvOk X.K B A H σ env/\B.st=true/\E6 fr X B A H D (g env)
def Gc (fr:Bool) (X:Cx) (st:Stmt) (g:Ev->Fl):Prop:=PS X st (tS fr X g)
def Nd (fr:Bool) (X:Cx) (st:List Stmt) (g:Ev->Fl):Prop:=Sx X st (tS fr X g)
theorem E6.step {fr:Bool} {X:Cx} {B:Bs} {A A':AS} {H H':Hp} {D:Ends} {r:Fl} (h:E6 fr X B A H D r) (s:Step A H A' H'):E6 fr X B A' H' D r:=by
 cases r with
 | next e=>exact fun A2 H2 σ2 s2 k=>h A2 H2 σ2 (s.trans s2) k
 | brk e=>exact fun A2 H2 σ2 s2 k=>h A2 H2 σ2 (s.trans s2) k
 | cont e=>exact fun A2 H2 σ2 s2 k=>h A2 H2 σ2 (s.trans s2) k
 | ret d=>exact h
 | exc e c fs=>exact fun A2 H2 σ2 s2 k=>h A2 H2 σ2 (s.trans s2) k
 | no=>exact h
section
variable {fr m:Bool} {X:Cx} {st:Stmt} {rest a b:List Stmt} {e c:Expr} {g h:Ev->Fl} {f:Ev->Option Dat} {fs:Ev->Option (List Dat)} {t:Ev->Option Bool} {pos:Pos}
def Tz:Ev->Fl:=fun env=>.next env
def Ze (g h:Ev->Fl):Ev->Fl:=fun env=>match g env with
 | .next env'=>h env'
 | r=>r
theorem Vf:Nd fr X [] Tz:=Z80.weak fun D σ H ⟨env,B,A,k,hst,q⟩=>q A H σ (Step.refl A H) k
theorem Zb (h1:Gc fr X st g) (h2:Nd fr X rest h):Nd fr X (st::rest) (Ze g h):=(Mb h1 h2).weak fun D σ H zz=>by
 obtain ⟨env,B,A,k,hst,q⟩:=zz;refine ⟨env,B,A,k,hst,?_⟩;unfold Ze at q;split at q
 ·rename_i env' e
  rw [e];exact fun A' H' σ' s k'=>⟨env',B,A',k',hst,q.step s⟩
 ·rename_i r hn
  cases e:g env with
  | next env'=>exact absurd e (hn env')
  | brk e'=>rw [e] at q;exact q
  | cont e'=>rw [e] at q;exact q
  | ret d=>rw [e] at q;exact q
  | exc e' c fs=>rw [e] at q;exact q
  | no=>rw [e] at q;exact q
theorem Zm (h1:Gc fr X st g):Nd fr X [st] g:=G1 h1
theorem Z9j:Gc fr X (.Continue pos) (fun env=>.cont env):=Fa.weak fun D σ H ⟨env,B,A,k,hst,q⟩=>q A H σ (Step.refl A H) k
def Rc (t:Ev->Option Bool) (g h:Ev->Fl):Ev->Fl:=fun env=>match t env with
 | some true=>g env
 | some false=>h env
 | none=>.no
theorem T9 (hc:PTd X c t) (ha:Nd fr X a g) (hb:Nd fr X b h):Gc fr X (.If c a b pos) (Rc t g h):=(Zdx hc ha hb).weak fun D σ H zz=>by
 obtain ⟨env,B,A,k,hst,q⟩:=zz;unfold Rc at q;split at q
 ·rename_i e
  refine ⟨env,B,A,true,k,e,fun H' s=>?_⟩;exact Ze1 ⟨env,B,A,k.mono s,hst,q.step (Step.same s)⟩
 ·rename_i e
  refine ⟨env,B,A,false,k,e,fun H' s=>?_⟩;exact Zcx ⟨env,B,A,k.mono s,hst,q.step (Step.same s)⟩
 ·exact q.elim
def Wi (f:Ev->Option Dat):Ev->Fl:=fun env=>match f env with
 | some d=>.ret d
 | none=>.no
theorem Pa {B:Bs} {A:AS} {H H':Hp} {σ:St} {env:Ev} {d:Dat} {v:V} (k:EnvOk X.K B A H σ env) (s:Zs H H') (r:Rp X.K (av H' A) d v):Zs B.H₀ H'/\Rp X.K (av H' B.R) d v:=⟨k.h0.trans s,r.mono (Qr k.ra)⟩
theorem Yy (he:Wq false X e f):Gc false X (.Return (some e) pos) (Wi f):=(P6 he).weak fun D σ H zz=>by
 obtain ⟨env,B,A,k,hst,q⟩:=zz;unfold Wi at q;split at q
 ·rename_i d e
  exact ⟨env,B,A,d,k,e,fun v H' s r=>q v H' (Pa k s r).1 (Pa k s r).2 (fun z=>by cases z)⟩
 ·exact q.elim
theorem Z9b {B:Bs} {A:AS} {H H':Hp} {σ:St} {env:Ev} {ds:List Dat} {p:Addr} {vs:List V} (k:EnvOk X.K B A H σ env) (hz:ds.length<=sizeLine) (s:Zs H H') (hn:H p=none) (hp:H' p=some (.lst vs)) (r:Wk X.K (av H' (ins A p)) ds vs):B.H₀ p=none/\B.R p=false/\Wk X.K (av H' (ins B.R p)) ds vs:=by
 have h0:B.H₀ p=none:=k.h0.free hn;refine ⟨h0,?_,r.mono (Qr fun a ha=>?_)⟩
 ·cases q:B.R p with
  | false=>rfl
  | true=>obtain ⟨o,ho⟩:=k.r0 p q;rw [h0] at ho;cases ho
 ·rcases Ki ha with z | z
  ·exact Gs (k.ra a z)
  ·subst z;exact Fm
theorem Bp (he:PNd X e fs):Gc fr X (.Return (some e) pos) (Wi (dL fs)):=(P6 he).weak fun D σ H zz=>by
 obtain ⟨env,B,A,k,hst,q⟩:=zz;unfold Wi at q;split at q
 ·rename_i d e
  obtain ⟨ds,e1,e2⟩:=map_some e;subst e2;refine ⟨env,B,A,ds,k,e1,fun p vs H' hz s hn hp r=>?_⟩;obtain ⟨h1,h2,h3⟩:=Z9b k hz s hn hp r;refine q (.ref p) H' (k.h0.trans s) (Gn hz (.inl (.inl (V9 hp h2))) (h3.mono (Qr fun a ha=>Gs ha))) fun _ ds' ed=>?_
  cases ed;exact ⟨p,vs,rfl,h1,hp,hz,h3⟩
 ·exact q.elim
theorem Li {env:Ev} {i:Nat} {s:Slt} (h:∀ (j:Nat) d,env[j]?≠some (.pk d)) (hs:∀ d,s≠.pk d):∀ (j:Nat) d,(env.set i s)[j]?≠some (.pk d):=fun j d=>by
 rw [getElem?_set];split
 ·split
  ·intro z;exact hs d (Option.some.inj z)
  ·intro z;cases z
 ·exact h j d
theorem EnvOk.own {K:PySem.W.Frag} {B:Bs} {A:AS} {H:Hp} {σ:St} {env:Ev} {i:Nat} {ds:List Dat} (k:EnvOk K B A H σ env) (hst:B.st=true) (h:env[i]?=some (.ow ds)) :
  ∃ a vs,σ[i]?=some (some (.ref a))/\H a=some (.lst vs)/\Wk K (av H A) ds vs/\ds.length<=sizeLine/\A a=true/\B.R a=false/\B.H₀ a=none /\
   (∀ ds' vs',ds'.length<=sizeLine->Wk K (av H A) ds' vs'->Step A H A (We H a (.lst vs'))/\EnvOk K B A (We H a (.lst vs')) σ (env.set i (.ow ds'))) /\
   Step A H (fun b=>A b&&b != a) H/\EnvOk K B (fun b=>A b&&b != a) H σ (env.set i (.fz (.lst ds))):=by
 obtain ⟨own,h1,h2,h4⟩:=k.sl;obtain ⟨x,q1,a,vs,e1,e2,hz,e3,e4⟩:=h4 i _ h;subst e1;obtain ⟨hA,hR⟩:=h2 i a e2;have h0:B.H₀ a=none:=by
  rcases k.ar a hA with z | z
  ·rw [z] at hR;cases hR
  ·exact z
 have avs:∀ vs',Zs (av H A) (av (We H a (.lst vs')) A):=fun vs' b o e=>by
  obtain ⟨z1,z2⟩:=Js e;have hb:b≠a:=by intro z;rw [z,hA] at z1;cases z1
  exact V9 (by rw [Zh hb];exact z2) z1
 refine ⟨a,vs,q1,e3,e4,hz,hA,hR,h0,fun ds' vs' hz' r'=>⟨⟨fun b o hb hAb=>?_,fun b hb=>.inl hb⟩,?_⟩,⟨fun b o hb _=>hb,fun b hb=>.inl ?_⟩,?_⟩
 ·have hn:b≠a:=by intro z;rw [z,hA] at hAb;cases hAb
  rw [Zh hn];exact hb
 ·refine ⟨fun b o hb=>?_,k.r0,k.ra,k.ar,fun b hb=>?_,by rw [length_set];exact k.len,fun hs j d'=>Li (k.np hs) (fun _ z=>by cases z) j d',own,h1,h2,fun j s e=>?_⟩
  ·have hn:b≠a:=Y5 hb h0
   rw [Zh hn];exact k.h0 b o hb
  ·by_cases hn:b=a
   ·subst hn;rw [Zt];trivial
   ·rw [Zh hn];exact k.mu b hb
  ·by_cases hj:i=j
   ·subst hj
    rw [getElem?_set,if_pos rfl] at e;split at e
    ·cases e
     exact ⟨_,q1,a,vs',rfl,e2,hz',Zt,r'.mono (avs vs')⟩
    ·cases e
   ·rw [getElem?_set,if_neg hj] at e
    obtain ⟨x,p1,p2⟩:=h4 j s e;refine ⟨x,p1,?_⟩;cases s with
    | un=>trivial
    | fz d=>obtain ⟨v,z1,z2⟩:=p2;exact ⟨v,z1,z2.mono (avs vs')⟩
    | pk d =>
     exact absurd e (k.np hst j d)
    | ow es =>
     obtain ⟨b,us,z1,z2,z3,z4,z5⟩:=p2;have hn:b≠a:=fun z=>hj (h1 i j a e2 (z▸z2))
     exact ⟨b,us,z1,z2,z3,by rw [Zh hn];exact z4,z5.mono (avs vs')⟩
    | gx g =>
     obtain ⟨v,z1,z2⟩:=p2;exact ⟨v,z1,z2.frame (fun _ z=>z) (fun b x ob z=>by
      have hn:b≠a:=fun w=>hj (h1 i j a e2 (w▸ob))
      rw [Zh hn];exact z) (avs vs')⟩
 ·rw [Bool.and_eq_true] at hb;exact hb.1
 ·have less:Zs (av H A) (av H fun b=>A b&&b != a):=Qr fun b hb=>by rw [Bool.and_eq_true] at hb;exact hb.1
  refine ⟨k.h0,k.r0,fun b hb=>?_,fun b hb=>?_,fun b hb=>?_,by rw [length_set];exact k.len,fun hs j d'=>Li (k.np hs) (fun _ z=>by cases z) j d',fun j b=>j≠i/\own j b,fun j j' b z z'=>h1 j j' b z.2 z'.2,fun j b z=>?_,fun j s e=>?_⟩
  ·have hn:b≠a:=by intro z;rw [z,hR] at hb;cases hb
   simp [k.ra b hb,hn]
  ·rw [Bool.and_eq_true] at hb;exact k.ar b hb.1
  ·rw [Bool.and_eq_true] at hb;exact k.mu b hb.1
  ·have hn:b≠a:=fun w=>z.1 (h1 j i a (w▸z.2) e2)
   simp [(h2 j b z.2).1,(h2 j b z.2).2,hn]
  ·by_cases hj:i=j
   ·subst hj
    rw [getElem?_set,if_pos rfl] at e;split at e
    ·cases e
     exact ⟨_,q1,.ref a,rfl,Gn hz (.inl (.inl (V9 e3 (by simp)))) (e4.mono less)⟩
    ·cases e
   ·rw [getElem?_set,if_neg hj] at e
    obtain ⟨x,p1,p2⟩:=h4 j s e;refine ⟨x,p1,?_⟩;cases s with
    | un=>trivial
    | fz d=>obtain ⟨v,z1,z2⟩:=p2;exact ⟨v,z1,z2.mono less⟩
    | pk d =>
     obtain ⟨v,z1,z2⟩:=p2;refine ⟨v,z1,?_⟩;rcases z2 with z2 | ⟨b,us,es,y1,y2,y3,y4,y5⟩
     ·exact .inl (z2.mono less)
     ·exact .inr ⟨b,us,es,y1,y2,y3,y4,y5.mono less⟩
    | ow es =>
     obtain ⟨b,us,z1,z2,z3,z4,z5⟩:=p2;exact ⟨b,us,z1,⟨Ne.symm hj,z2⟩,z3,z4,z5.mono less⟩
    | gx g =>
     obtain ⟨v,z1,z2⟩:=p2;exact ⟨v,z1,z2.frame (fun _ z=>⟨Ne.symm hj,z⟩) (fun _ _ _ z=>z) less⟩
def H9 (i:Nat):Ev->Fl:=fun env=>match env[i]? with
 | some (.ow ds)=>.ret (.lst ds)
 | _=>.no
theorem P7 (i:Nat) {x:Str} {p:Pos} (hN:X.N[i]?=some x:=by rfl) (hv:Vis X.env.scope x:=by first | exact Or.inl rfl | exact Or.inr (Or.inl rfl) | exact Or.inr (Or.inr rfl)) (hd:(x==("__debug__" : Str))=false:=by decide)
  (hcd:(x==("__classdict__" : Str))=false:=by decide):Gc fr X (.Return (some (.Name x p)) pos) (H9 i):=(P6 (R3 hN hv hd hcd)).weak fun D σ H zz=>by
 obtain ⟨env,B,A,k,hst,q⟩:=zz;unfold H9 at q;split at q
 ·rename_i ds e
  obtain ⟨a,vs,h1,h2,h3,hz,hA,hR,h0,_⟩:=k.own hst e;have less:∀ b,ins B.R a b=true->A b=true:=fun b hb=>by
   rcases Ki hb with z | z
   ·exact k.ra b z
   ·rw [z];exact hA
  have r:=h3.mono (Qr (H:=H) less);refine ⟨.ref a,h1,q (.ref a) H k.h0 (Gn hz (.inl (.inl (V9 h2 hR))) (r.mono (Qr fun b hb=>Gs hb))) fun _ ds' ed=>?_⟩;cases ed;exact ⟨a,vs,rfl,h0,h2,hz,r⟩
 ·exact q.elim
def Zu (i:Nat) (f:Ev->Option Dat):Ev->Fl:=fun env=>match f env with
 | some d=>.next (env.set i (.fz d))
 | none=>.no
def Er (i:Nat) (f:Ev->Option (List Dat)):Ev->Fl:=fun env=>match f env with
 | some ds=>.next (env.set i (.ow ds))
 | none=>.no
theorem EnvOk.putO {K:PySem.W.Frag} {B:Bs} {A:AS} {H H':Hp} {σ:St} {env:Ev} (k:EnvOk K B A H σ env) (hst:B.st=true) (i:Nat) {ds:List Dat} {p:Addr} {vs:List V} (hz:ds.length<=sizeLine) (s:Zs H H') (hn:H p=none) (hp:H' p=some (.lst vs)) (r:Wk K (av H' (ins A p)) ds vs) :
  Step A H (ins A p) H'/\EnvOk K B (ins A p) H' (σ.set i (some (.ref p))) (env.set i (.ow ds)):=by
 have st:Step A H (ins A p) H':=⟨fun a o h _=>s a o h,fun a h=>by
  rcases Ki h with z | z
  ·exact .inl z
  ·rw [z];exact .inr hn⟩
 have hAp:A p=false:=k.mu.new hn;have h0:B.H₀ p=none:=k.h0.free hn;obtain ⟨own,h1,h2,h4⟩:=k.sl;refine ⟨st,k.h0.trans s,k.r0,fun a h=>Gs (k.ra a h),fun a h=>?_,fun a h=>?_,by rw [length_set,length_set];exact k.len,fun hs j d'=>Li (k.np hs) (fun _ z=>by cases z) j d',
  fun j a=>(j≠i/\own j a)\/(j=i/\a=p),fun j j' a z z'=>?_,fun j a z=>?_,fun j sl e=>?_⟩
 ·rcases Ki h with z | z
  ·exact k.ar a z
  ·rw [z];exact .inr h0
 ·rcases Ki h with z | z
  ·exact k.mu.mono s a z
  ·rw [z,hp];trivial
 ·rcases z with z | z<;>rcases z' with z' | z'
  ·exact h1 j j' a z.2 z'.2
  ·have:=(h2 j a z.2).1;rw [z'.2,hAp] at this;cases this
  ·have:=(h2 j' a z'.2).1;rw [z.2,hAp] at this;cases this
  ·rw [z.1,z'.1]
 ·rcases z with z | z
  ·exact ⟨Gs (h2 j a z.2).1,(h2 j a z.2).2⟩
  ·refine ⟨by rw [z.2];exact Fm,?_⟩
   cases q:B.R a with
   | false=>rfl
   | true=>obtain ⟨o,ho⟩:=k.r0 a q;rw [z.2,h0] at ho;cases ho
 ·by_cases hj:i=j
  ·subst hj
   rw [getElem?_set,if_pos rfl] at e;split at e
   ·rename_i hl
    cases e;exact ⟨some (.ref p),by rw [getElem?_set,if_pos rfl,if_pos (by rw [k.len];exact hl)],p,vs,rfl,.inr ⟨rfl,rfl⟩,hz,hp,r⟩
   ·cases e
  ·rw [getElem?_set,if_neg hj] at e
   obtain ⟨x,p1,p2⟩:=h4 j sl e;refine ⟨x,by rw [getElem?_set,if_neg hj];exact p1,?_⟩;cases sl with
   | un=>trivial
   | fz d=>obtain ⟨v,z1,z2⟩:=p2;exact ⟨v,z1,z2.mono st.av⟩
   | pk d=>exact absurd e (k.np hst j d)
   | ow es =>
    obtain ⟨b,us,z1,z2,z3,z4,z5⟩:=p2;exact ⟨b,us,z1,.inl ⟨Ne.symm hj,z2⟩,z3,s _ _ z4,z5.mono st.av⟩
   | gx g =>
    obtain ⟨v,z1,z2⟩:=p2;exact ⟨v,z1,z2.frame (fun _ z=>.inl ⟨Ne.symm hj,z⟩) (fun b x _ z=>s b x z) st.av⟩
theorem Zl (i:Nat) {x:Str} {pos':Pos} (hN:X.N.Nodup) (hi:X.N[i]?=some x) (hx:Cy X.env.scope x) (he:Wq false X e f) (hs:swapsWith e (some (.Name x pos')) pos.line X.env=pure false:=by rfl)
  (hf:X.fn x=true\/X.env.scope.names.lookup x=some .local:=by first | exact .inl rfl | exact .inr rfl | assumption):Gc fr X (.Assign [.Name x pos'] e pos) (Zu i f):=(Ow hN hi hx he hs hf).weak fun D σ H zz=>by
 obtain ⟨env,B,A,k,hst,q⟩:=zz;unfold Zu at q;split at q
 ·rename_i d e
  exact ⟨env,B,A,d,k,e,fun v H' s r=>q A H' _ (Step.same s) ((k.mono s).put i r)⟩
 ·exact q.elim
theorem D7 (i:Nat) {x:Str} {pos':Pos} (hN:X.N.Nodup) (hi:X.N[i]?=some x) (hx:Cy X.env.scope x) (he:PNd X e fs) (hs:swapsWith e (some (.Name x pos')) pos.line X.env=pure false:=by rfl)
  (hf:X.fn x=true\/X.env.scope.names.lookup x=some .local:=by first | exact .inl rfl | exact .inr rfl | assumption):Gc fr X (.Assign [.Name x pos'] e pos) (Er i fs):=(Ow hN hi hx he hs hf).weak fun D σ H zz=>by
 obtain ⟨env,B,A,k,hst,q⟩:=zz;unfold Er at q;split at q
 ·rename_i ds e
  refine ⟨env,B,A,ds,k,e,fun p vs H' hz s hn hp r=>?_⟩;obtain ⟨h1,h2⟩:=k.putO hst i hz s hn hp r;exact q _ H' _ h1 h2
 ·exact q.elim
variable {sc:Scope} {elt tg iter:Expr} {ifs:List Expr} {src:Ev->Option (List Dat)} {is:List Nat} {gg:Dat->Ev->Option Ev} {tt:Ev->Option Bool}
theorem X4 (i:Nat) {x:Str} {pos' spos:Pos} (hN:X.N.Nodup) (hi':X.N[i]?=some x) (hx:Cy X.env.scope x) (psc:Scope) (fs:List (Option Nat)) (N:List Str) (hp:X.env.scope=psc) (S:CompOk psc sc X.N N fs) (hc:X.calm=true) (hi:PId false X tg iter src)
  (hb:∀ (C:Addr) (s:Shared) (H:Hp) (fp:List Addr),PGd is (V0 X sc N C s H fp) tg gg/\PFd (V0 X sc N C s H fp) ifs tt/\Wq false (V0 X sc N C s H fp) elt f)
  (hfs:∀ i∈is,fs[i]?=some none) (hs:∀ x,foldedSetIterable iter X.env x=pure x:=by intro _;rfl) (hsw:swapsWith (.ListComp elt [⟨tg,iter,ifs,0⟩] sc pos) (some (.Name x pos')) spos.line X.env=pure true:=by rfl)
  (hf:X.fn x=true\/X.env.scope.names.lookup x=some .local:=by first | exact .inl rfl | exact .inr rfl | assumption) :
  Gc fr X (.Assign [.Name x pos'] (.ListComp elt [⟨tg,iter,ifs,0⟩] sc pos) spos) (Zu i (dL (Tc src fs gg tt f))):=(N3 (g:=fun v σ H Q=>∃ env R A d env',EnvOk X.K R A H σ env/\Rp X.K (av H A) d v/\gg d env=some env'/\∀ σ',EnvOk X.K R A H σ' env'->Gz is σ σ'->Q σ' H) (tt:=fun σ H Q=>∃ env R A b,EnvOk X.K R A H σ env/\tt env=some b/\∀ H',Zs H H'->Q b H') (te:=fun σ H Q=>∃ env R A d,EnvOk X.K R A H σ env/\f env=some d/\Qd false X.K A H d Q) hN hi' hx psc fs N hp S hc hi hb hs hsw hf).weak fun D σ H zz=>by
 obtain ⟨env,B,A,k,hst,q⟩:=zz;unfold Zu at q;split at q
 ·rename_i d e
  obtain ⟨ys,e',ed⟩:=map_some e;subst ed;obtain ⟨ds,e1,e2⟩:=bind_some e';have q':Qd false X.K A H (.lst ys) (fun v H'=>D.nx (σ.set i (some v)) H'):=fun v H' s r=>q A H' _ (Step.same s) ((k.mono s).put i r)
  exact ⟨env,B,A,ds,k,e1,fun J H1 hz s1 hJ=>Z04 (Q:=fun v H'=>D.nx (σ.set i (some v)) H') hfs (k.mono s1) hJ hz e2 ((q'.new k.mu).mono s1)⟩
 ·exact q.elim
def Z1k (f:Ev->Option Dat) (g:Dat->Ev->Option Ev):Ev->Fl:=fun env=>match (f env).bind fun d=>g d env with
 | some env'=>.next env'
 | none=>.no
theorem Z8l {tg e:Expr} {is:List Nat} {g:Dat->Ev->Option Ev} (he:Wq false X e f) (hg:PGd is X tg g) (hs:swapsWithSole [tg] e pos.line X.env=pure false:=by rfl) (hw:swappedStores [tg] e X.env=pure none:=by rfl) (h1:(assignEach [tg] X.env).map (·.2)=[assign tg X.env]:=by rfl):Gc fr X (.Assign [tg] e pos) (Z1k f g):=(Zc2 he hg hs hw h1).weak fun D σ H zz=>by
 obtain ⟨env,B,A,k,hst,q⟩:=zz;unfold Z1k at q;split at q
 ·rename_i env' e
  obtain ⟨d,e1,e2⟩:=bind_some e;exact ⟨env,B,A,d,k,e1,fun v H' s r=>⟨env,B,A,d,env',k.mono s,r,e2,fun σ' k' _=>q A H' σ' (Step.same s) k'⟩⟩
 ·exact q.elim
def Ih (g:Dat->Ev->Option Ev) (body:Ev->Fl):List Dat->Ev->Fl
 | [],env=>.next env
 | x::xs,env=>match g x env with
  | none=>.no
  | some env1=>match body env1 with
   | .next e=>Ih g body xs e
   | .cont e=>Ih g body xs e
   | .brk e=>.next e
   | .ret d=>.ret d
   | .exc e c fs=>.exc e c fs
   | .no=>.no
def T8 (src:Ev->Option (List Dat)) (g:Dat->Ev->Option Ev) (body:Ev->Fl):Ev->Fl:=fun env=>match src env with
 | none=>.no
 | some ds=>Ih g body ds env
theorem Vz {body:List Stmt} (hp:PassesOwn (model X.prog X.w) X.A X.env X.xe) (hc:X.calm=true) (hi:PId true X tg iter src) (hg:PGd is X tg gg) (hb:Nd fr X body g)
  (hs:∀ x,foldedSetIterable iter X.env x=pure x:=by intro _;rfl):Gc fr X (.For tg iter body [] pos) (T8 src gg g):=(Zaq hp hc hi hg hb hs).weak fun D σ H zz=>by
 obtain ⟨env,B,A,k,hst,q⟩:=zz;unfold T8 at q;split at q
 ·exact q.elim
 rename_i ds e;refine ⟨env,B,A,ds,k,e,fun J H1 hz s1 hJ=>?_⟩;refine ⟨fun i m σ' H'=>m=ds.length - i/\i<=ds.length/\∃ A' env',Step A H1 A' H'/\EnvOk X.K B A' H' σ' env'/\E6 fr X B A' H' D (Ih gg g (ds.drop i) env'),
  ⟨ds.length,by simp,zero_le _,A,env,Step.refl A H1,k.mono s1,by simpa using q.step (Step.same s1)⟩,?_⟩
 rintro i m σ' H' ⟨rfl,hi',A',env',s',k',q'⟩;obtain ⟨hgo,hstop⟩:=hJ A' H' s' k'.mu;by_cases hlt:i<ds.length
 ·obtain ⟨go,yl⟩:=hgo i _ (show ds[i]?=some ds[i] by simp [hlt])
  refine .inr ⟨go,fun σ2 H2=>i+1<=ds.length/\∃ A2 env2,Step A H1 A2 H2/\EnvOk X.K B A2 H2 σ2 env2/\E6 fr X B A2 H2 D (Ih gg g (ds.drop (i+1)) env2),fun σ2 H2 z=>⟨ds.length - (i+1),by lia,rfl,z⟩,fun x H2 hy=>?_⟩;obtain ⟨s2,rx⟩:=yl x H2 hy;rw [drop_eq_getElem_cons hlt,Ih] at q';split at q'
  ·exact q'.elim
  rename_i env1 e1;refine ⟨env',B,A',ds[i],env1,k'.mono s2,rx,e1,fun σ3 k3 _=>⟨env1,B,A',k3,hst,?_⟩⟩;have st2:Step A' H' A' H2:=Step.same s2;split at q'
  ·rename_i e2 eb
   rw [eb];exact fun A4 H4 σ4 s4 k4=>⟨hlt,A4,e2,s'.trans (st2.trans s4),k4,q'.step (st2.trans s4)⟩
  ·rename_i e2 eb
   rw [eb];exact fun A4 H4 σ4 s4 k4=>⟨hlt,A4,e2,s'.trans (st2.trans s4),k4,q'.step (st2.trans s4)⟩
  ·rename_i e2 eb
   rw [eb];exact fun A4 H4 σ4 s4 k4=>q' A4 H4 σ4 (st2.trans s4) k4
  ·rename_i d eb
   rw [eb];exact q'
  ·rename_i e2 c2 f2 eb
   rw [eb];exact fun A4 H4 σ4 s4 k4=>q' A4 H4 σ4 (st2.trans s4) k4
  ·exact q'.elim
 ·have e:i=ds.length:=by lia
  subst e;rw [List.drop_length,Ih] at q';exact .inl ⟨hstop,q' A' H' σ' (Step.refl _ _) k'⟩
def Wy (t:Ev->Option Bool) (body:Ev->Fl):Nat->Ev->Fl
 | 0,_=>.no
 | n+1,env=>match t env with
  | none=>.no
  | some false=>.next env
  | some true=>match body env with
   | .next e=>Wy t body n e
   | .cont e=>Wy t body n e
   | .brk e=>.next e
   | .ret d=>.ret d
   | .exc e c fs=>.exc e c fs
   | .no=>.no
theorem Uj {t:Ev->Option Bool} {body:Ev->Fl}:∀ {n:Nat} {env:Ev} (k:Nat),Wy t body n env≠.no->Wy t body (n+k) env=Wy t body n env
 | 0,env,k,h=>absurd rfl h
 | n+1,env,k,h=>by
  rw [show n+1+k=(n+k)+1 by lia];simp only [Wy] at h ⊢;split
  ·rfl
  ·rfl
  ·rename_i e1
   simp only [e1] at h;split
   ·rename_i e2 eb;simp only [eb] at h;exact Uj k h
   ·rename_i e2 eb;simp only [eb] at h;exact Uj k h
   ·rfl
   ·rfl
   ·rfl
   ·rfl
open Classical in
def Rk (t:Ev->Option Bool) (body:Ev->Fl):Ev->Fl:=fun env=>if h:∃ n,Wy t body n env≠.no then Wy t body (Classical.choose h) env else .no
theorem Nx {t:Ev->Option Bool} {body:Ev->Fl} {n:Nat} {env:Ev} (h:Wy t body n env≠.no):Rk t body env=Wy t body n env:=by
 unfold Rk;have hx:∃ n,Wy t body n env≠.no:=⟨n,h⟩;rw [dif_pos hx];have hc:=Classical.choose_spec hx;have e1:=Uj n hc;have e2:=Uj (Classical.choose hx) h;rw [← e1,← e2,Nat.add_comm]
theorem Z01 {body:List Stmt} (hp:PassesOwn (model X.prog X.w) X.A X.env X.xe) (hc:PTd X c t) (hb:Nd fr X body g):Gc fr X (.While c body [] pos) (Rk t g):=(Z39 hp hc hb).weak fun D σ H zz=>by
 obtain ⟨env,B,A,k,hst,q⟩:=zz;unfold Rk at q;split at q
 ·rename_i hx
  refine ⟨fun n σ' H'=>∃ A' env',EnvOk X.K B A' H' σ' env'/\E6 fr X B A' H' D (Wy t g n env'),⟨_,A,env,k,q⟩,?_⟩;rintro n σ' H' ⟨A',env',k',q'⟩;cases n with
  | zero=>exact q'.elim
  | succ n =>
   rw [Wy] at q';split at q'
   ·exact q'.elim
   ·rename_i e1
    refine ⟨env',B,A',false,k',e1,fun H1 s1=>?_⟩;refine Zcx ?_;exact q' A' H1 σ' (Step.same s1) (k'.mono s1)
   ·rename_i e1
    refine ⟨env',B,A',true,k',e1,fun H1 s1=>?_⟩;refine Ze1 ?_;refine ⟨fun σ2 H2=>∃ A2 env2,EnvOk X.K B A2 H2 σ2 env2/\E6 fr X B A2 H2 D (Wy t g n env2),fun σ2 H2 z=>⟨n,Nat.lt_succ_self n,z⟩,env',B,A',k'.mono s1,hst,?_⟩;have st2:Step A' H' A' H1:=Step.same s1;split at q'
    ·rename_i e2 eb
     rw [eb];exact fun A4 H4 σ4 s4 k4=>⟨A4,e2,k4,q'.step (st2.trans s4)⟩
    ·rename_i e2 eb
     rw [eb];exact fun A4 H4 σ4 s4 k4=>⟨A4,e2,k4,q'.step (st2.trans s4)⟩
    ·rename_i e2 eb
     rw [eb];exact fun A4 H4 σ4 s4 k4=>q' A4 H4 σ4 (st2.trans s4) k4
    ·rename_i d eb
     rw [eb];exact q'
    ·rename_i e2 c2 f2 eb
     rw [eb];exact fun A4 H4 σ4 s4 k4=>q' A4 H4 σ4 (st2.trans s4) k4
    ·exact q'.elim
 ·exact q.elim
def MtU (X:Cx) (id:String) (F:List Dat->List Dat->Option (List Dat)):Prop:=MtR X id (fun v us H Q=>∃ A a vs ds as ds',T7 A H/\v=.ref a/\H a=some (.lst vs)/\Wk X.K (av H A) ds vs/\Xl false X.K A H as us/\F ds as=some ds'/\∀ w vs',ds'.length<=sizeLine->Wk X.K (av H A) ds' vs'->Q w (We H a (.lst vs')))
def J8 (i:Nat) (F:List Dat->List Dat->Option (List Dat)) (fs:Ev->Option (List Dat)):Ev->Fl:=fun env=>match env[i]? with
 | some (.ow ds)=>match (fs env).bind fun as=>F ds as with
  | some ds'=>.next (env.set i (.ow ds'))
  | none=>.no
 | _=>.no
theorem Jy (i:Nat) {x:Str} {es:List Expr} {name:Str} {id:String} {F:List Dat->List Dat->Option (List Dat)} {p apos cpos:Pos} (slot:Slot "list" name id) (hty:typeOf (.builtin id)=pure (.type "method_descriptor")) (hm:MtU X id F) (ha:O9 false X (e::es) fs)
  (hN:X.N[i]?=some x:=by rfl) (hv:Vis X.env.scope x:=by first | exact Or.inl rfl | exact Or.inr (Or.inl rfl) | exact Or.inr (Or.inr rfl)) (hd:(x==("__debug__" : Str))=false:=by decide) (hcd:(x==("__classdict__" : Str))=false:=by decide)
  (hsw:swapsWith (.Call (.Attribute (.Name x p) name apos) (e::es) [] cpos) none pos.line X.env=pure false:=by rfl)
  (hbase:attributeBase (.Name x p) name X.env (eval (.Name x p) X.env)=eval (.Name x p) X.env:=by rfl)
  (hfew:((backTo cpos (starEach (e::es) X.env)).all (fun x=>!x.1)&&(backToKw cpos (keywordEach [] X.env)).all (fun x=>x.1.isSome)
   && decide ((e::es).length+([]:List Keyword).length+(if ([]:List Keyword).isEmpty then 0 else 1)<30))=true:=by rfl)
  (hline:(apos.endLine==cpos.line)=true:=by rfl) (hs:starEach (e::es) X.env=(false,eval e X.env)::starEach es X.env:=by rfl) (hplain:(backTo cpos (starEach es X.env)).any (·.1)=false:=by rfl) :
  Gc fr X (.Expr (.Call (.Attribute (.Name x p) name apos) (e::es) [] cpos) pos) (J8 i F fs):=(Mf (Z3a PySem.F.plainAttrs_list slot hty hm (R3 hN hv hd hcd) ha hbase hfew hline hs hplain) hsw).weak fun D σ H zz=>by
 obtain ⟨env,B,A,k,hst,q⟩:=zz;unfold J8 at q;split at q
 ·rename_i ds e
  split at q
  ·rename_i ds' e2
   obtain ⟨as,e3,e4⟩:=bind_some e2;obtain ⟨a,vs,h1,h2,h3,_⟩:=k.own hst e;refine ⟨.ref a,h1,.inl ⟨rfl,vs,S9.of h2⟩,env,B,A,as,k,e3,fun us H2 s2 rs=>?_⟩;have k2:=k.mono s2;obtain ⟨a',vs',g1,g2,g3,_,_,_,_,g4,_⟩:=k2.own hst e;rw [h1] at g1;cases g1;refine ⟨A,a,vs',ds,as,ds',k2.mu,rfl,g2,g3,rs,e4,fun w vs2 hz r2=>?_⟩;obtain ⟨z1,z2⟩:=g4 ds' vs2 hz r2;exact q A _ σ ((Step.same s2).trans z1) z2
  ·exact q.elim
 ·exact q.elim
def Wu:List Dat->List Dat->Option (List Dat)
 | ds,[d]=>if ds.length<sizeLine then some (ds++[d]) else none
 | _,_=>none
theorem Qa:MtU X "list.append" Wu:=MtR.weak (id:="list.append") Nl fun v us H Q zz=>by
 obtain ⟨A,a,vs,ds,as,ds',mu,e1,h1,r1,r2,e2,q⟩:=zz;unfold Wu at e2;split at e2
 ·rename_i d
  split at e2
  ·rename_i hl
   cases e2;obtain ⟨w,us',e3,r3,e4⟩:=r2;refine ⟨a,vs,w,e1,by rw [e3,show us'=[] from e4],h1,by rw [Zy r1];exact hl,q _ _ (by simp;lia) (Vb r1 (Jp r3))⟩
  ·cases e2
 ·cases e2
end
inductive Rs where
 | ok (d:Dat) | exc (c:Str) (fs:List (Str×XD)) | no
def Qe (n:Nat) (ds:List Dat):Ev:=ds.map .fz++List.replicate (n - ds.length) .un
def Wa (n p:Nat) (g:Ev->Fl):List Dat->Rs:=fun ds=>if ds.length=p then (match g (Qe n ds) with
 | .ret d=>.ok d
 | .next _=>.ok .non
 | .exc _ c fs=>.exc c fs
 | _=>.no) else .no
def spD (K:PySem.W.Frag) (fr:Bool) (p:Nat) (F:List Dat->Rs):Sp:=fun vs H Q _=>vs.length=p/\∃ ds R d,T7 R H/\Wk K (av H R) ds vs/\F ds=.ok d/\∀ v H',Zs H H'->Rp K (av H' R) d v->(fr=true->NwT K ⟨H,R,true⟩ H' d v)->Q v H'
structure CalD (P:Program) (w:World) (K:PySem.W.Frag) (mg:Str->Option Value) (base:Heap) (k:Nat) (x:Str) (ps:List Str) (fr:Bool) (F:List Dat->Rs):Prop where
 cal:Cal P w K mg base k x ps (spD K fr ps.length F)
 len:∀ ds d,F ds=.ok d->ds.length=ps.length
theorem Mtb.some {o:Option HO} (h:Mtb o):∃ u,o=Option.some u:=by
 cases o with
 | none=>exact h.elim
 | some u=>exact ⟨u,rfl⟩
theorem Ky {K:PySem.W.Frag} {H:Hp} {R:AS} {N:List Str} {ds:List Dat} {vs:List V} (mu:T7 R H) (r:Wk K (av H R) ds vs) (hl:ds.length<=N.length):EnvOk K ⟨H,R,true⟩ R H (start N vs) (Qe N.length ds):=by
 have hn:=Zy r;refine ⟨Zs.refl H,fun a h=>(mu a h).some,fun _ h=>h,fun _ h=>.inl h,mu,by simp [start,Qe];lia,fun _ i d=>?_,fun _ _=>False,fun _ _ _ h=>h.elim,fun _ _ h=>h.elim,fun i s e=>?_⟩
 ·unfold Qe
  rw [List.getElem?_append];split
  ·rw [getElem?_map]
   cases ds[i]?<;>simp
  ·rw [List.getElem?_replicate]
   split<;>simp
 ·unfold Qe at e
  unfold start;rw [List.getElem?_append] at e ⊢;simp only [length_map] at e ⊢;rw [hn];split at e
  ·rename_i hi
   rw [if_pos hi];rw [getElem?_map] at e ⊢;cases hd:ds[i]? with
   | none=>rw [hd] at e;cases e
   | some d =>
    rw [hd] at e;cases e;obtain ⟨v,h1,h2⟩:=S5 r hd;rw [h1];exact ⟨some v,rfl,v,rfl,h2⟩
  ·rename_i hi
   rw [if_neg hi];rw [List.getElem?_replicate] at e ⊢;split at e
   ·rename_i h2
    cases e;rw [if_pos h2];exact ⟨none,rfl,trivial⟩
   ·cases e
theorem Ko {fr:Bool} {X:Cx} {N:List Str} {p:Nat} {g:Ev->Fl} {ds:List Dat} {d:Dat} {R:AS} {H:Hp} {vs:List V} {Q:VK} (hp:p<=N.length) (mu:T7 R H) (r:Wk X.K (av H R) ds vs) (hF:Wa N.length p g ds=.ok d)
  (q:∀ v H',Zs H H'->Rp X.K (av H' R) d v->(fr=true->NwT X.K ⟨H,R,true⟩ H' d v)->Q v H') :
  tS fr X g (Ends.mk (fun _ H'=>Q .non H') Q (fun _ _=>False) (fun _ _=>False)) (start N vs) H:=by
 unfold Wa at hF;split at hF
 ·rename_i hl
  refine ⟨Qe N.length ds,⟨H,R,true⟩,R,Ky mu r (by lia),rfl,?_⟩;split at hF
  ·rename_i d' e
   cases hF;rw [e];exact fun v H' s r n=>q v H' s r n
  ·rename_i env e
   cases hF;rw [e];exact fun A' H' σ' s k=>q .non H' k.h0 L6 (fun _ ds e=>by cases e)
  ·cases hF
  ·cases hF
 ·cases hF
section
variable {P:Program} {w:World} {K:PySem.W.Frag} {mg:Str->Option Value} {base:Heap}
theorem Xy {n p:Nat} {g:Ev->Fl} {ds:List Dat} {d:Dat} (h:Wa n p g ds=.ok d):ds.length=p:=by
 unfold Wa at h;split at h
 ·assumption
 ·cases h
theorem ar0 {α:Type} {P:List α->Prop} (us:List α) (hl:us.length=0) (h:P []):P us:=by cases us with | nil=>exact h | cons _ _=>cases hl
@[elab_as_elim] theorem ar1 {α:Type} {P:List α->Prop} (us:List α) (hl:us.length=1) (h:∀ a,P [a]):P us:=by
 cases us with
 | nil=>cases hl
 | cons a us=>exact ar0 (P:=fun us=>P (a::us)) us (Nat.succ.inj hl) (h a)
@[elab_as_elim] theorem ar2 {α:Type} {P:List α->Prop} (us:List α) (hl:us.length=2) (h:∀ a b,P [a,b]):P us:=by
 cases us with
 | nil=>cases hl
 | cons a us=>exact ar1 (P:=fun us=>P (a::us)) us (Nat.succ.inj hl) (h a)
@[elab_as_elim] theorem ar3 {α:Type} {P:List α->Prop} (us:List α) (hl:us.length=3) (h:∀ a b c,P [a,b,c]):P us:=by
 cases us with
 | nil=>cases hl
 | cons a us=>exact ar2 (P:=fun us=>P (a::us)) us (Nat.succ.inj hl) (h a)
@[elab_as_elim] theorem ar4 {α:Type} {P:List α->Prop} (us:List α) (hl:us.length=4) (h:∀ a b c d,P [a,b,c,d]):P us:=by
 cases us with
 | nil=>cases hl
 | cons a us=>exact ar3 (P:=fun us=>P (a::us)) us (Nat.succ.inj hl) (h a)
@[elab_as_elim] theorem ar5 {α:Type} {P:List α->Prop} (us:List α) (hl:us.length=5) (h:∀ a b c d e,P [a,b,c,d,e]):P us:=by
 cases us with
 | nil=>cases hl
 | cons a us=>exact ar4 (P:=fun us=>P (a::us)) us (Nat.succ.inj hl) (h a)
@[elab_as_elim] theorem ar6 {α:Type} {P:List α->Prop} (us:List α) (hl:us.length=6) (h:∀ a b c d e f,P [a,b,c,d,e,f]):P us:=by
 cases us with
 | nil=>cases hl
 | cons a us=>exact ar5 (P:=fun us=>P (a::us)) us (Nat.succ.inj hl) (h a)
theorem Wr {x:Str} {st:Stmt} {N ps:List Str} {k:Nat} {fr:Bool} {g:Ev->Fl} (D:Def K mg x st) (S:FnScope N ps (Z6 st))
  (hbi:∀ (kV doc pm:Value) (an:Option Addr) (cdv ct:Value) (us:List Value),us.length=ps.length->bindArgs (fnOf x x (Wn st) (Y8 st) (Z6 st) .none kV doc pm an cdv ct) ⟨us,[]⟩=pure (ps.zip us))
  (hb:∀ (f:Addr) (cdv:Value) (A:Around) (outer:List Env) (s:Shared) (H:Hp) (E:XK),Room k (A.deeper (envOfC x (Z6 st) s.heap.objs.size f cdv))->Nd fr (Qh D9 P w K mg base N x (Z6 st) f cdv A outer s H E).nox (Y8 st) g) :
  CalD P w K mg base (k+1) x ps fr (Wa N.length ps.length g):=by
 have hpl:ps.length<=N.length:=by have:=congrArg List.length S.pre;rw [length_take] at this;lia
 refine ⟨Zbb D S hbi (fun vs H Q E h=>h.1) fun f cdv A outer s H vs Q E hr ⟨hl,ds,R,d,mu,r,hF,q⟩=>⟨_,hb f cdv A outer s H E hr,?_⟩,fun ds d h=>Xy h⟩;exact Ko hpl mu r hF q
def Xn (K:PySem.W.Frag):Sp:=fun vs H Q _=>∃ (a:Addr) (ns:List Int),vs=[.ref a]/\SL K H a (ns.map V.int)/\ns.length<=63/\∀ H',Q (.bl true) H'
theorem Zds {x:Str} {st:Stmt} {f:Addr} {fd:FuncData} {N ps:List Str} {k:Nat} {g:Ev->Fl} (F:Fun K x x st f fd) (S:FnScope N ps (Z6 st)) (hps:ps.length=1)
  (hb:∀ (cdv:Value) (A:Around) (outer:List Env) (s:Shared) (H:Hp) (E:XK),Room k (A.deeper (envOfC x (Z6 st) s.heap.objs.size f cdv))->Nd false (Qh D9 P w K mg base N x (Z6 st) f cdv A outer s H E).nox (Y8 st) g)
  (law:∀ ns:List Int,ns.length<=63->Wa N.length 1 g [.lst (ns.map .int)]=.ok (.bl true)):FnOk P w K mg base D9 (k+1) f fd ps (Xn K):=by
 have hpl:ps.length<=N.length:=by have:=congrArg List.length S.pre;rw [length_take] at this;lia
 refine Z7q F S (fun vs H Q E ⟨a,ns,e,_⟩=>by rw [e,hps];rfl) fun cdv A outer s H vs Q E hr ⟨a,ns,e,hS,hl,q⟩=>⟨_,hb cdv A outer s H E hr,?_⟩
 subst e;refine Ko (R:=no) (d:=.bl true) (by lia) (fun a h=>by cases h) (ds:=[.lst (ns.map .int)]) ?_ (law ns hl) fun v H' _ r _=>by rw [Gy r];exact q H'
 rw [Cr];refine Jp (Gn ?_ hS (Ex ns));rw [length_map];exact le_of_lt (Tx (by lia))
variable {X:Cx} {m:Bool} {fr:Bool} {F:List Dat->Rs} {k:Nat} {x:Str} {ps:List Str} {e:Expr} {es:List Expr} {fs:Ev->Option (List Dat)} {p pos:Pos}
def okR:Rs->Option Dat
 | .ok d=>some d
 | _=>none
theorem F8 {r:Rs} {d:Dat} (h:okR r=some d):r=.ok d:=by cases r<;>cases h;rfl
def Yf (F:List Dat->Rs) (fs:Ev->Option (List Dat)):Ev->Option Dat:=fun env=>(fs env).bind fun ds=>okR (F ds)
theorem Zdj (C:CalD X.prog X.w X.K X.mg X.base k x ps fr F) (hr:Room k X.A) (ha:O9 false X (e::es) fs) (hg:Gl X x:=by rfl)
  (hdb:(x==("__debug__" : Str))=false:=by decide) (he:starEach (e::es) X.env=(false,eval e X.env)::starEach es X.env:=by rfl) (hpl:(backTo pos (starEach es X.env)).any (·.1)=false:=by rfl) :
  Wq m X (.Call (.Name x p) (e::es) [] pos) (Yf F fs):=Wq.any ((Zat C.cal hr ha hg hdb he hpl).weak fun σ H Q zz=>by
 obtain ⟨env,R,A,d,k,q1,q2⟩:=zz;obtain ⟨ds,e1,e2⟩:=bind_some q1;have e3:=F8 e2;refine ⟨env,R,A,ds,k,e1,fun vs H1 s1 rs=>⟨by rw [Zy rs.rps];exact C.len ds d e3,ds,A,d,k.mu.mono s1,rs.rps,e3,fun v H' s r _=>q2 v H' (s1.trans s) r⟩⟩)
mutual
def A0:Dat->Bool
 | .lst _=>false
 | .dct _=>false
 | .exc _ _=>false
 | .tup xs=>Py xs
 | .non=>true
 | .bl _=>true
 | .int _=>true
 | .str _=>true
def Py:List Dat->Bool
 | []=>true
 | x::xs=>A0 x&&Py xs
end
theorem Zay {K:PySem.W.Frag} {H:Hp} {A:AS} {a:Addr} {vs:List V} (mu:T7 A H) (h:Sz K H a vs):Sz K (av H A) a vs:=by
 rcases h with h | h
 ·left
  have hA:A a=false:=by
   cases q:A a with
   | false=>rfl
   | true =>
    have:=mu a q;rw [h] at this;exact this.elim
  exact V9 h hA
 ·exact .inr h
mutual
theorem Rp.pure {K:PySem.W.Frag} {H:Hp} {A:AS} (mu:T7 A H):∀ {d:Dat} {v:V},A0 d=true->Rp K H d v->Rp K (av H A) d v
 | .non,v,_,r=>by rw [Ks r];exact L6
 | .bl b,v,_,r=>by rw [Gy r];exact Vy
 | .int b,v,_,r=>by rw [Mi r];exact W4
 | .str b,v,_,r=>by obtain ⟨e,h⟩:=Kk r;rw [e];exact Gi h
 | .lst _,v,h,_=>by cases h
 | .dct _,v,h,_=>by cases h
 | .exc _ _,v,h,_=>by cases h
 | .tup xs,v,h,r=>by
  obtain ⟨a,vs,e,h1,h2⟩:=Mn r;subst e;exact Bw (Cw r) (Zay mu h1) (Wk.pure mu (by simpa [A0] using h) h2)
theorem Wk.pure {K:PySem.W.Frag} {H:Hp} {A:AS} (mu:T7 A H):∀ {ds:List Dat} {vs:List V},Py ds=true->Wk K H ds vs->Wk K (av H A) ds vs
 | [],vs,_,r=>by rw [Yu r];exact Ub
 | d::ds,vs,h,r=>by
  obtain ⟨v,us,e,r1,r2⟩:=Y0 r;subst e;rw [Py,Bool.and_eq_true] at h;exact Uz (Rp.pure mu h.1 r1) (Wk.pure mu h.2 r2)
end
end
section
variable {X:Cx} {m:Bool}
end
def Ite (sq:Hp->List V->Prop):It :=
 ⟨fun i H=>∃ xs x,sq H xs/\xs[i]?=some x,
  fun i H v H'=>∃ p x,v=.ref p/\H p=none/\(∀ xs,sq H xs->xs[i]?=some x)/\H'=We H p (.tup [.int i,x]),
  fun i H=>∃ xs,sq H xs/\xs.length=i⟩
theorem Inv.turnedT {X:Cx} {pins:List (Addr×Obj)} {σ:St} {H:Hp} {s:Shared} {h':Heap} {tk:Nat} {ch:List Addr} {T:Addr} {xs:List V} {its:List Value} (I:Inv X pins σ H s) (hf:∀ b∈ch,D8 X pins H b)
  (kk:∀ b o,b∉ch->s.heap.get? b=some o->h'.get? b=some o) (hT:s.heap.objs.size<=T) (rv:Y2 xs its) (hz:xs.length<=sizeLine) (ht:IsTup h' T its.toArray) :
  Inv X pins σ (We H T (.tup xs)) { s with heap:=h',toks:=tk }:=by
 have hn:H T=none:=I.hok.fresh hT;have nch:∀ b u,H b=some u->b∉ch:=fun b u e z=>by rw [(hf b z).1] at e;cases e
 refine I.call' (ch:=ch) rfl ⟨fun b o q n _ hx=>kk b o hx q,fun b o q n _ hx=>⟨o.slots,kk b o hx q⟩,fun b o q n hx=>?_,fun b o q hx=>⟨o,kk b o hx q⟩,fun b ys q=>?_,fun b o u q=>?_,fun b ps q=>⟨#[],?_⟩⟩ (fun b u e=>?_) I.bare fun b hb=>⟨(hf b hb).2.2.2.1,(hf b hb).2.1,(hf b hb).2.2.2.2.1,(hf b hb).2.2.2.2.2⟩
 ·rw [Zh (ne_of_lt (lt_of_lt_of_le (lt_size q) hT))];exact n
 ·rw [Zh (Y5 q hn)];exact q
 ·rw [Zh (Y5 q hn)];exact q
 ·rw [Zh (Y5 q hn),q];simp
 ·by_cases hb:b=T
  ·subst hb
   rw [Zt] at e;cases e;exact ⟨hz,its,rv,ht⟩
  ·rw [Zh hb] at e
   refine (I.hok b u e).stay (fun c v hc q=>?_) (fun c q=>?_) fun c ys q=>?_
   ·rcases hc with hc | hc
    ·subst hc;exact kk c v (nch c u e) q
    ·exact kk c v (nch c _ hc) q
   ·rw [Zh (Y5 q hn)];exact q
   ·rw [Zh (Y5 q hn)];exact q
theorem Inv.turnedN {X:Cx} {pins:List (Addr×Obj)} {σ:St} {H:Hp} {s:Shared} {h':Heap} {tk:Nat} {ch:List Addr} (I:Inv X pins σ H s) (hf:∀ b∈ch,D8 X pins H b)
  (kk:∀ b o,b∉ch->s.heap.get? b=some o->h'.get? b=some o):Inv X pins σ H { s with heap:=h',toks:=tk }:=by
 have nch:∀ b u,H b=some u->b∉ch:=fun b u e z=>by rw [(hf b z).1] at e;cases e
 refine I.call' (ch:=ch) rfl ⟨fun b o q n _ hx=>kk b o hx q,fun b o q n _ hx=>⟨o.slots,kk b o hx q⟩,fun b o q n hx=>n,fun b o q hx=>⟨o,kk b o hx q⟩,fun b ys q=>q,fun b o u q=>q,fun b ps q=>⟨#[],by rw [q];simp⟩⟩ (fun b u e=>?_) I.bare fun b hb=>⟨(hf b hb).2.2.2.1,(hf b hb).2.1,(hf b hb).2.2.2.2.1,(hf b hb).2.2.2.2.2⟩
 refine (I.hok b u e).stay (fun c v hc q=>?_) (fun c q=>q) fun c ys q=>q
 rcases hc with hc | hc
 ·subst hc;exact kk c v (nch c u e) q
 ·exact kk c v (nch c _ hc) q
theorem Nn {P:Program} {w:World} {K:PySem.W.Frag} {es:List Expr} {k:Nat} {pos:Pos} (a e it:Addr) (itS:Nat->Heap->Prop) (IsS:Heap->Array Value->Prop) (sq:Hp->List V->Prop)
  (hS:∀ h h' i,itS i h->(∀ o,h.get? it=some o->h'.get? it=some o)->itS i h')
  (hO:∀ h i,itS i h->∃ o,h.get? it=some o/\o.cls≠.type "enumerate" /\ ∀ v,o.data≠.cell v)
  (hA:∀ h items,IsS h items->∃ o,h.get? a=some o/\o.cls≠.type "enumerate" /\ ∀ h' i,itS i h'->∀ o',h'.get? it=some o'->o'.cls≠o.cls)
  (hD:∀ A:Around,A.handled=none->a≠it->∀ items:Array Value,Draws P w A it [it,a] items.size (fun i v=>items[i]?=some v) (fun i h=>itS i h/\IsS h items))
  (hg:∀ (X:Cx) (pins:List (Addr×Obj)) (σ:St) (H:Hp) (s:Shared) (xs:List V),X.K=K->Inv X pins σ H s->sq H xs->∃ its,Y2 xs its/\IsS s.heap its.toArray)
  (hj:∀ (X:Cx) (pins:List (Addr×Obj)) (σ:St) (H:Hp) (s:Shared) (xs ys:List V),X.K=K->Inv X pins σ H s->sq H xs->sq H ys->xs=ys) :
  Turn P w K (.Tuple es k pos) (Ite sq) [e,it] e (fun i h=>(∃ old,IsEnum h e it i old)/\itS i h) where
 mem:=by simp
 obj:=fun i h st b hb=>by
  rcases mem_cons.mp hb with rfl | hb
  ·obtain ⟨⟨old,z⟩,_⟩:=st;exact ⟨_,z,fun v q=>by cases q⟩
  ·rw [mem_singleton.mp hb];obtain ⟨o,h1,_,h2⟩:=hO h i st.2;exact ⟨o,h1,h2⟩
 keep:=fun i h h' st kk=>by
  obtain ⟨⟨old,z⟩,q⟩:=st;exact ⟨⟨old,kk e (by simp) _ z⟩,hS h h' i q fun o r=>kk it (by simp) o r⟩
 item:=by
  intro X hP hw hK hc i pins s σ H E I hf st hgo;subst hP hw;obtain ⟨xs,x,hsq,hx⟩:=hgo;obtain ⟨its,rv,hI⟩:=hg X pins σ H s xs hK I hsq;obtain ⟨u,hu,ru⟩:=rv.get hx;obtain ⟨⟨old,hE⟩,hIt⟩:=st;obtain ⟨oi,hoi,hci,_⟩:=hO _ _ hIt;obtain ⟨oa,hoa,hca,hcc⟩:=hA _ _ hI;have hne:a≠it:=by intro z;rw [z,hoi] at hoa;cases hoa;exact hcc _ _ hIt _ hoi rfl
  have hei:e≠it:=by intro z;rw [← z,hE] at hoi;cases hoi;exact hci rfl
  have hea:e≠a:=by intro z;rw [← z,hE] at hoa;cases hoa;exact hca rfl
  have W:=WalksT.enumerateD (hD X.A.in1 (I.ok.hd hc) hne its.toArray) e hei (by simp [hei,hea]) (by simp);have hi:i<its.toArray.size:=by rw [size_toArray];exact (List.getElem?_eq_some_iff.mp hu).1
  refine W.item i s _ _ hi ⟨⟨old,hE⟩,hIt,hI⟩ fun T vals h' tk hPt hT hTup hM hk=>⟨.ref T,rfl,W.go es k pos i T _ _ _ hM fun h2 hst hk2=>?_⟩
  obtain ⟨t,x',hx',rfl⟩:=hPt;have hxu:x'=u:=by
   have:its[i]?=some x':=by simpa using hx'
   rw [hu] at this;exact (Option.some.inj this).symm
  subst hxu;have hTup2:IsTup h2 T #[.int i t,x']:=by
   obtain ⟨o,ho,r⟩:=hTup;exact ⟨o,hk2 T o (W.apart i T h' hM) ho,r⟩
  have I2:=Inv.turnedT (s:=s) (h':=h2) (tk:=tk) (ch:=[e,it]) (its:=[.int i t,x']) (xs:=[.int i,x]) I hf (fun b o hb q=>hk2 b o hb (hk b o hb q)) hT (.cons ⟨t,rfl⟩ (.cons ru .nil)) (by show 2<=sizeLine;decide) hTup2;refine ⟨.ref T,We H T (.tup [.int i,x]),I2,rfl,⟨T,x,rfl,I.hok.fresh hT,fun ys hy=>?_,rfl⟩,⟨hst.1,hst.2.1⟩,fun b hb=>?_⟩
  ·rw [hj X pins σ H s ys xs hK I hy hsq];exact hx
  ·rw [Zh ?_];exact (hf b hb).1
   intro z;have hlt:b<s.heap.objs.size:=by
    rcases mem_cons.mp hb with rfl | hb
    ·exact lt_size hE
    ·rw [mem_singleton.mp hb];exact lt_size hoi
   exact absurd (lt_of_lt_of_le hlt (by rw [z];exact hT)) (lt_irrefl _)
 done:=by
  intro X hP hw hK hc i pins s σ H E I hf st hs;subst hP hw;obtain ⟨xs,hsq,hl⟩:=hs;obtain ⟨its,rv,hI⟩:=hg X pins σ H s xs hK I hsq;obtain ⟨⟨old,hE⟩,hIt⟩:=st;obtain ⟨oi,hoi,hci,_⟩:=hO _ _ hIt;obtain ⟨oa,hoa,hca,hcc⟩:=hA _ _ hI;have hne:a≠it:=by intro z;rw [z,hoi] at hoa;cases hoa;exact hcc _ _ hIt _ hoi rfl
  have hei:e≠it:=by intro z;rw [← z,hE] at hoi;cases hoi;exact hci rfl
  have hea:e≠a:=by intro z;rw [← z,hE] at hoa;cases hoa;exact hca rfl
  have W:=WalksT.enumerateD (hD X.A.in1 (I.ok.hd hc) hne its.toArray) e hei (by simp [hei,hea]) (by simp);have hn:its.toArray.size=i:=by rw [size_toArray,← rv.length];exact hl
  refine W.done s _ _ (by rw [hn];exact ⟨⟨old,hE⟩,hIt,hI⟩) fun h' tk hk=>⟨rfl,I.turnedN (ch:=[e,it]) hf fun b o hb q=>hk b o hb q⟩
 self:=fun A i s Q E st h=>by
  obtain ⟨⟨old,z⟩,_⟩:=st;exact wpAny_pyIter_enum z h
section
variable {st m:Bool} {X:Cx} {l:Expr} {es:List Expr} {f:Ev->Option Dat} {tk:Nat} {tpos:Pos}
theorem Bg (a e it:Addr):Turn X.prog X.w X.K (.Tuple es tk tpos) (Ite fun H xs=>Sz X.K H a xs) [e,it] e (fun i h=>(∃ old,IsEnum h e it i old)/\h.IsTupleIter it a i) :=
 Nn a e it (fun i h=>h.IsTupleIter it a i) (fun h items=>h.IsTuple a items) _ (fun h h' i q kk=>let ⟨o,h1,r⟩:=q;⟨o,kk o h1,r⟩)
  (fun h i q=>let ⟨o,h1,h2,h3⟩:=q;⟨o,h1,by rw [h2];decide,fun v z=>by rw [h3] at z;cases z⟩)
  (fun h items q=>let ⟨o,h1,h2,_⟩:=q;⟨o,h1,by rw [h2];decide,fun h' i r o' e'=>by obtain ⟨o2,g1,g2,_⟩:=r;rw [g1] at e';cases e';rw [g2,h2];decide⟩)
  (fun A hh hne items=>Draws.tupleD hh it a hne items)
  (fun Y pins σ H s xs hK I h=>by rw [← hK] at h;obtain ⟨its,r,p,_⟩:=I.tuple h;exact ⟨its,r,p⟩)
  (fun Y pins σ H s xs ys hK I h h'=>by rw [← hK] at h h';exact I.tuple_inj h h')
theorem Bk (a e it:Addr):Turn X.prog X.w X.K (.Tuple es tk tpos) (Ite fun H xs=>S9 X.K H a xs) [e,it] e (fun i h=>(∃ old,IsEnum h e it i old)/\h.IsListIter it a i) :=
 Nn a e it (fun i h=>h.IsListIter it a i) (fun h items=>h.IsList a items) _ (fun h h' i q kk=>let ⟨o,h1,r⟩:=q;⟨o,kk o h1,r⟩)
  (fun h i q=>let ⟨o,h1,h2,h3⟩:=q;⟨o,h1,by rw [h2];decide,fun v z=>by rw [h3] at z;cases z⟩)
  (fun h items q=>let ⟨o,h1,h2,_⟩:=q;⟨o,h1,by rw [h2];decide,fun h' i r o' e'=>by obtain ⟨o2,g1,g2,_⟩:=r;rw [g1] at e';cases e';rw [g2,h2];decide⟩)
  (fun A hh hne items=>Draws.list hh it a hne items)
  (fun Y pins σ H s xs hK I h=>by rw [← hK] at h;obtain ⟨its,r,p,_⟩:=I.list h;exact ⟨its,r,p.isList⟩)
  (fun Y pins σ H s xs ys hK I h h'=>by rw [← hK] at h h';exact I.list_inj h h')
def R8:Nat->List Dat->List Dat
 | _,[]=>[]
 | k,x::xs=>.tup [.int k,x]::R8 (k+1) xs
theorem Lw:∀ (xs:List Dat) (k i:Nat),(R8 k xs)[i]?=(xs[i]?).map fun x=>.tup [.int ((k+i:Nat):Int),x]
 | [],k,i=>by simp [R8]
 | x::xs,k,0=>by simp [R8]
 | x::xs,k,i+1=>by
  rw [R8,List.getElem?_cons_succ,List.getElem?_cons_succ,Lw xs (k+1) i,show k+1+i=k+(i+1) by lia]
theorem Ur:∀ (xs:List Dat) (k:Nat),(R8 k xs).length=xs.length
 | [],_=>rfl
 | x::xs,k=>by rw [R8,length_cons,length_cons,Ur xs]
def Ld (f:Ev->Option Dat):Ev->Option (List Dat):=fun env=>(Tv f env).map (R8 0)
theorem Ij {K:PySem.W.Frag} {A:AS} {H:Hp} {vs:List V} {ds:List Dat} {sq:Hp->List V->Prop} (h:∀ A1 H1,Adv st A H A1 H1->sq H1 vs) (r:Wk K (av H A) ds vs):Bv st K A H (R8 0 ds) (Ite sq):=fun A1 H1 adv mu=>by
 have h1:=h A1 H1 adv;have r1:=r.mono adv.step.av;refine ⟨fun i x e=>?_,⟨vs,h1,by rw [Ur];exact Zy r⟩⟩;rw [Lw] at e;obtain ⟨d,e1,e2⟩:=map_some e;subst e2;obtain ⟨v,e3,e4⟩:=S5 r1 e1;refine ⟨⟨vs,v,h1,e3⟩,fun v' H2 ⟨p,x,z1,z2,z3,z4⟩=>?_⟩;subst z1 z4;have:=z3 vs h1;rw [e3] at this;cases this;refine ⟨Zs.new z2,Bw (by show 2<=sizeLine;decide) (.inl (V9 Zt (mu.new z2))) (Uz ?_ (Jp (e4.mono (Vk (Zs.new z2)))))⟩;rw [zero_add];exact W4
def Zbq (K:PySem.W.Frag) (ta:TA):TI:=fun σ H R=>ta σ H fun vs H1=>∃ a,vs=[.ref a]/\(∃ xs,S9 K H1 a xs)/\R (Ite fun H xs=>S9 K H a xs) H1
def Zac (K:PySem.W.Frag) (ta:TA):TI:=fun σ H R=>ta σ H fun vs H1=>∃ a,vs=[.ref a]/\(∃ xs,Sz K H1 a xs)/\R (Ite fun H xs=>Sz K H a xs) H1
theorem fp2 {pins:List (Addr×Obj)} {σ:St} {H:Hp} {s:Shared} (I:Inv X pins σ H s):∀ b∈[s.heap.objs.size+1,s.heap.objs.size],D8 X pins H b:=fun b hb=>by
 rcases mem_cons.mp hb with rfl | hb
 ·exact I.fpOk (le_succ _) (I.hok.fresh (le_succ _))
 ·rw [mem_singleton.mp hb];exact I.fpOk (le_refl _) (I.hok.fresh (le_refl _))
theorem Fi {ta:TA} {p pos:Pos} (hg:Gl X "enumerate") (hm:X.mg "enumerate" = none) (hv:bootBuiltins "enumerate" = some (.type "enumerate")) (ha:PA X [l] ta) (hs:starEach [l] X.env=[(false,eval l X.env)]:=by rfl):PI X (.Tuple es tk tpos) (.Call (.Name "enumerate" p) [l] [] pos) (Zbq X.K ta):=by
 intro pins s σ H R I h;refine Call_ (R1 I hg hm hv (PyProof.Rows.callWith_type1 (Wt (ha pos pins s σ H _ I h) fun us s1 ⟨vs,H1,I1,r1,q1⟩=>?_) hs rfl));obtain ⟨a,e,⟨xs,hq⟩,q⟩:=q1;subst e;obtain ⟨u,rfl,ru⟩:=Ji r1;cases ru;obtain ⟨its,rv,pl,hz⟩:=I1.list hq;refine call_enumerate_list pl.isList fun h' h1 h2 h3 h4=>?_
 have I2:Inv X pins σ H1 { s1 with heap:=h' }:=I1.kept (t':=s1.toks) h4;refine wpAny_pyIter_enum (s:={ s1 with heap:=h' }) h1 ?_;exact ⟨s1.heap.objs.size+1,[s1.heap.objs.size+1,s1.heap.objs.size],_,_,H1,rfl,I2,Bk a _ _,⟨⟨_,h1⟩,h2⟩,fp2 I1,q⟩
theorem Xx {ta:TA} {p pos:Pos} (hg:Gl X "enumerate") (hm:X.mg "enumerate" = none) (hv:bootBuiltins "enumerate" = some (.type "enumerate")) (ha:PA X [l] ta) (hs:starEach [l] X.env=[(false,eval l X.env)]:=by rfl):PI X (.Tuple es tk tpos) (.Call (.Name "enumerate" p) [l] [] pos) (Zac X.K ta):=by
 intro pins s σ H R I h;refine Call_ (R1 I hg hm hv (PyProof.Rows.callWith_type1 (Wt (ha pos pins s σ H _ I h) fun us s1 ⟨vs,H1,I1,r1,q1⟩=>?_) hs rfl));obtain ⟨a,e,⟨xs,hq⟩,q⟩:=q1;subst e;obtain ⟨u,rfl,ru⟩:=Ji r1;cases ru;obtain ⟨its,rv,pl,hz⟩:=I1.tuple hq;refine Rr (show s1.heap.IsTuple a its.toArray from pl) fun h' h1 h2 h3 h4=>?_
 have I2:Inv X pins σ H1 { s1 with heap:=h' }:=I1.kept (t':=s1.toks) h4;refine wpAny_pyIter_enum (s:={ s1 with heap:=h' }) h1 ?_;exact ⟨s1.heap.objs.size+1,[s1.heap.objs.size+1,s1.heap.objs.size],_,_,H1,rfl,I2,Bg a _ _,⟨⟨_,h1⟩,h2⟩,fp2 I1,q⟩
theorem Bi {p pos:Pos} (hg:Gl X "enumerate") (hm:X.mg "enumerate" = none) (h:Wq false X l f) (hv:bootBuiltins "enumerate" = some (.type "enumerate"):=by decide +kernel) (hs:starEach [l] X.env=[(false,eval l X.env)]:=by rfl):PId st X (.Tuple es tk tpos) (.Call (.Name "enumerate" p) [l] [] pos) (Ld f) :=
 ((Fi hg hm hv (Wl h T3 hs) hs).or (Xx hg hm hv (Wl h T3 hs) hs)).weak fun σ H R' zz=>by
 obtain ⟨env,R,A,ds,k,e,q⟩:=zz;obtain ⟨xs,e0,e1⟩:=map_some e;subst e1;unfold Tv at e0;split at e0
 ·rename_i ys e1
  cases e0;refine .inl ⟨env,R,A,.lst xs,k,e1,fun v H1 s1 p1=>?_⟩;obtain ⟨a,vs,e2,h1,r1⟩:=Mt (show Rp X.K (av H1 A) (.lst xs) v from p1);subst e2;exact ⟨a,rfl,⟨vs,(W6.sl h1).sq⟩,q _ H1 (by rw [Ur];exact p1.pk.lenL) s1 (Ij (vs:=vs) (fun A1 H2 adv=>(W6.sl (adv.step.av.sl h1)).sq) r1)⟩
 ·rename_i ys e1
  cases e0;refine .inr ⟨env,R,A,.tup xs,k,e1,fun v H1 s1 p1=>?_⟩;obtain ⟨a,vs,e2,h1,r1⟩:=Mn (show Rp X.K (av H1 A) (.tup xs) v from p1);subst e2;exact ⟨a,rfl,⟨vs,W6.seqT h1⟩,q _ H1 (by rw [Ur];exact p1.pk.lenT) s1 (Ij (vs:=vs) (fun A1 H2 adv=>W6.seqT (adv.step.av.seqT h1)) r1)⟩
 ·cases e0
theorem Z7g {p pos:Pos} (hg:Gl X "enumerate") (hm:X.mg "enumerate" = none) (h:Wq true X l f) (hv:bootBuiltins "enumerate" = some (.type "enumerate"):=by decide +kernel) (hs:starEach [l] X.env=[(false,eval l X.env)]:=by rfl):PId false X (.Tuple es tk tpos) (.Call (.Name "enumerate" p) [l] [] pos) (Ld f) :=
 ((Fi hg hm hv (Wl h T3 hs) hs).or (Xx hg hm hv (Wl h T3 hs) hs)).weak fun σ H R' zz=>by
 obtain ⟨env,R,A,ds,k,e,q⟩:=zz;obtain ⟨xs,e0,e1⟩:=map_some e;subst e1;unfold Tv at e0;split at e0
 ·rename_i ys e1
  cases e0;refine .inl ⟨env,R,A,.lst xs,k,e1,fun v H1 s1 p1=>?_⟩;obtain ⟨a,vs,e2,h1,r1⟩:=p1.pk.lst;subst e2;exact ⟨a,rfl,⟨vs,h1.sq⟩,q _ H1 (by rw [Ur];exact p1.pk.lenL) s1 (Ij (vs:=vs) (fun A1 H2 adv=>(adv.2.sl h1).sq) r1)⟩
 ·rename_i ys e1
  cases e0;refine .inr ⟨env,R,A,.tup xs,k,e1,fun v H1 s1 p1=>?_⟩;obtain ⟨a,vs,e2,h1,r1⟩:=p1.pk.tup;subst e2;exact ⟨a,rfl,⟨vs,h1⟩,q _ H1 (by rw [Ur];exact p1.pk.lenT) s1 (Ij (vs:=vs) (fun A1 H2 adv=>adv.2.seqT h1) r1)⟩
 ·cases e0
end
end L2
namespace L2
open PySem
section
variable {prog:Program} {w:World} {A:Around} {E:Value->Shared->Prop} {h:Heap} {g:Array GenState} {d:Drawn} {t:Nat} {os:OsState}
variable {nm q:Str} {C N:Addr} {bs bm bmB:List Value} {hdct:Bool} {sn:List Str} {sub:List Value} {ab:Bool} {col:Option Bool} {dd:Option Addr} {k0 k1 k2 k3 k5:Option Value} {B Bn newId nid initId inN:String} {bmN:List Value}
theorem Ii (Fn:ExcBaseFacts Bn newId inN bmN) (hBn:bmB.contains (.type Bn)=true) (F:ExcBaseFacts B nid initId bmB) (T:OwnTail h bmB bm) {mN:Str->Option Value} {rest:List Value} {fI:Addr} {oI:Obj} {Q:Fin->Shared->Prop}
   (hC:h.get? C=some (excClassObj nm q C N bs bm hdct sn sub ab col dd k0 k1 k2 k3 k5 newId)) (hn:h.Ns N mN) (hi:mN "__init__" = some (.ref fI))
   (hfI:h.get? fI=some oI) (hfc:oI.cls=.type "function")
   (hq:∀ h' e,h.objs.size<=e->Heap.MadeExcOf h h' e (.ref C) rest ->
     wpAny (model prog w) A (call (.ref fI) (.ref e::rest)) (fun r s'=>r=.none/\Q (.done (.ret (.ref e))) s') E ⟨h',g,d,t,os⟩) (hrest:rest.length<=sizeLine:=by size_fits) :
   wpAny (model prog w) A (Builtin.«type.__call__» ⟨.ref C::rest,[]⟩) Q E ⟨h,g,d,t,os⟩:=by
 repeat (first | with_reducible refine wpAny_loadPart_at hC ?_ | with_reducible refine wpAny_madeBy_exc hC ?_ | wp_step)
 refine codeAny_call_builtin_code (Code.quiet_builtin _ Fn.quiet) (wpAny_check_new_subU Fn hBn T hC ?_);refine codeAny_exc_new_subU Fn hBn F T hC ?_ hrest;show wpAny _ _ _ _ _ _;have hC₁:=get?_push_of_some { cls:=.ref C,data:=.fields #[.ref h.objs.size,.none,.none,.none,.bool false,.none] }
   (get?_push_of_some { cls:=.type "tuple",data:=.seq rest.toArray } hC)
 have hfI₁:=get?_push_of_some { cls:=.ref C,data:=.fields #[.ref h.objs.size,.none,.none,.none,.bool false,.none] }
   (get?_push_of_some { cls:=.type "tuple",data:=.seq rest.toArray } hfI)
 have hn₁:((h.push { cls:=.type "tuple",data:=.seq rest.toArray }).push { cls:=.ref C,data:=.fields #[.ref h.objs.size,.none,.none,.none,.bool false,.none] }).Ns N mN :=
   let ⟨o,es,ep,e,r⟩:=hn;⟨o,es,ep,get?_push_of_some _ (get?_push_of_some _ e),r⟩
 have hget:((h.push { cls:=.type "tuple",data:=.seq rest.toArray }).push
     { cls:=.ref C,data:=.fields #[.ref h.objs.size,.none,.none,.none,.bool false,.none] }).get? (h.objs.size+1)=some
     { cls:=.ref C,data:=.fields #[.ref h.objs.size,.none,.none,.none,.bool false,.none] }:=by heap_get
 have hcC:(Value.ref C::bm).contains (.ref C)=true:=by simp
 have T₁:=T.keeps (h':=(h.push { cls:=.type "tuple",data:=.seq rest.toArray }).push { cls:=.ref C,data:=.fields #[.ref h.objs.size,.none,.none,.none,.bool false,.none] })
   fun b o e=>get?_push_of_some _ (get?_push_of_some _ e)
 unfold isInstance;repeat (first | with_reducible refine wpAny_loadPart_at hget ?_ | (with_reducible refine wpAny_isSubtype_exc hC₁ ?_;rw [hcC]) | wp_step)
 show wpAny _ _ (typeLookup (.ref C) _) _ _ _;refine wpAny_typeLookup_tail hC₁ hn₁ T₁ F.mroIs F.init.lookup ?_;rw [hi];refine wpAny_holding (wpAny_bind ?_);unfold bindSpecial;refine wpAny_bind (wpAny_typeOf (T:="function") ⟨_,hfI₁,hfc⟩ ?_);rw [if_pos (by decide)];refine wpAny_pure (wpAny_bind (wpAny_mono (hq _ (h.objs.size+1) (le_succ _) ⟨fun b o hb=>get?_push_of_some _ (get?_push_of_some _ hb),Heap.get?_none_of_le (le_succ _),h.objs.size,hget,Heap.get?_none_of_le (le_refl _),?_⟩) (fun r s' hr=>?_) fun _ _ x=>x))
 · exact get?_push_of_some _ (Heap.get?_push_at rfl rfl)
 · obtain ⟨rfl,hQ⟩:=hr
   wp_walk
   exact hQ
theorem N1 (Fn:ExcBaseFacts Bn newId inN bmN) (hBn:bmB.contains (.type Bn)=true) (F:ExcBaseFacts B nid initId bmB) (T:OwnTail h bmB bm) {mN:Str->Option Value} {rest:List Value} {fI:Addr} {oI:Obj} {Q:Value->Shared->Prop}
  (hC:h.get? C=some (excClassObj nm q C N bs bm hdct sn sub ab col dd k0 k1 k2 k3 k5 newId)) (hn:h.Ns N mN) (hi:mN "__init__" = some (.ref fI))
  (hfI:h.get? fI=some oI) (hfc:oI.cls=.type "function")
  (hq:∀ h' e,h.objs.size<=e->Heap.MadeExcOf h h' e (.ref C) rest ->
   wpAny (model prog w) (A.under (.builtin "type.__call__" ⟨.ref C::rest,[]⟩)) (call (.ref fI) (.ref e::rest)) (fun r s'=>r=.none/\Q (.ref e) s') E ⟨h',g,d,t,os⟩) (hrest:rest.length<=sizeLine:=by size_fits) :
  wpAny (model prog w) A (call (.ref C) rest) Q E ⟨h,g,d,t,os⟩:=by
 have f1:=tc_lookup;have f2:=tc_bind (.ref C);have hT:(⟨h,g,d,t,os⟩:Shared).TypeIs (.ref C) "type" := ⟨_,hC,rfl⟩;refine wpAny_call (codeAny_of_tree ?_);show wpAny _ _ (callAny (.ref C) _) _ _ _;repeat (any_goals (first | assumption | with_reducible refine wpAny_loadPart_at hC ?_ | wp_step))
 refine ⟨rfl,?_⟩;refine codeAny_call_builtin_at (Code.quiet_builtin _ (by decide +kernel)) entry_typeCall (wpAny_check_type_call_sub hC (Ii (hrest:=hrest) Fn hBn F T hC hn hi hfI hfc fun h' e hlo hm=>?_));exact hq h' e hlo hm
end
section
variable {M:Model} {A:Around} {E:Value->Shared->Prop} {env:Env}
variable {nm q:Str} {C N:Addr} {bs bm:List Value} {hdct:Bool} {sn:List Str} {sub:List Value} {ab:Bool} {col:Option Bool} {dd:Option Addr} {k0 k1 k2 k3 k5:Option Value} {newId:String}
theorem Hq {s:Shared} {x:Sem Value} {Q:Flow->Shared->Prop} (hbase:bm.contains (.type "BaseException")=true) (hh:A.handled=none)
   (h:wpAny M A x (fun v s₁=>∃ e a dct,v=.ref e/\s₁.heap.get? C=some (excClassObj nm q C N bs bm hdct sn sub ab col dd k0 k1 k2 k3 k5 newId) /\
     s₁.heap.get? e=some { cls:=.ref C,dict:=dct,data:=.fields #[a,.none,.none,.none,.bool false,.none] }/\E (.ref e) s₁) E s) :
   wpAny M A (raiseStmt env (some x) none) Q E s:=by
 have hcB:(Value.ref C::bm).contains (.type "BaseException")=true:=by rw [List.contains_cons,hbase,Bool.or_true]
 unfold raiseStmt;refine wpAny_bind (wpAny_mono h (fun v s₁ h₁=>?_) fun _ _ x=>x);obtain ⟨e,a,dct,rfl,hC,he,hE⟩:=h₁;obtain ⟨hp,g,d,tk,os⟩:=s₁;repeat (first | with_reducible refine wpAny_loadPart_at he ?_ | with_reducible refine wpAny_loadPart_at hC ?_ | (with_reducible refine wpAny_isSubtype_exc hC ?_;rw [hcB]) | wp_step)
 exact wpAny_raiseNew_none hh hE
end
theorem Ng:entryFor table "proto.unchain" = some Builtin.«proto.unchain» := entryFor_of_fast (by kernel_rfl)
section
variable {prog:Program} {w:World} {A:Around} {E:Value->Shared->Prop} {s:Shared}
theorem Po {e h:Addr} {o:Obj} {vs:Array Value} {Q:Value->Shared->Prop} (ho:s.heap.get? h=some o) (hd:o.data=.fields vs) (hc:vs[2]?=some .none) (hq:Q .none s) :
  wpAny (model prog w) A (runValue (.builtin "proto.unchain" ⟨[.ref e,.ref h,.ref h,.bool false],[]⟩)) Q E s:=by
 refine wpAny_runValue (codeAny_builtin Ng ?_);unfold Builtin.«proto.unchain»;refine wpAny_bind (wpAny_field ho hd hc ?_);exact wpAny_pure hq
theorem Pn {α:Type} {e h:Addr} {oe oh:Obj} {ve vh:Array Value} {Q:α->Shared->Prop} (hh:A.handled=some (.ref h)) (ne:h≠e) (he:s.heap.get? e=some oe) (hde:oe.data=.fields ve) (h2:2<ve.size)
  (ho:s.heap.get? h=some oh) (hdh:oh.data=.fields vh) (hc:vh[2]?=some .none) (hE:E (.ref e) { s with heap:=s.heap.update e (Obj.mapFields (·.setIfInBounds 2 (.ref h))) }):wpAny (model prog w) A (raiseNew (.ref e):Sem α) Q E s:=by
 unfold raiseNew;refine wpAny_bind (wpAny_handled ?_);rw [hh];have hne:(Value.ref h != Value.ref e)=true:=by
  simp only [bne_iff_ne,ne_eq];intro z;cases z;exact ne rfl
 dsimp only;rw [if_pos hne];refine wpAny_bind (wpAny_holding (Po ho hdh hc ?_));show wpAny _ _ (setField (.ref e) 2 (.ref h) >>= _) _ _ _;refine wpAny_bind (wpAny_mono (wpAny_setField (x:=.ref h) he hde h2 (Q:=fun _ s'=>s'={ s with heap:=s.heap.update e (Obj.mapFields (·.setIfInBounds 2 (.ref h))) }) rfl) (fun _ s' z=>?_) fun _ _ x=>x);rw [z];exact wpAny_throw hE
theorem Fx {env:Env} {nm q:Str} {C N h:Addr} {bs bm:List Value} {hdct:Bool} {sn:List Str} {sub:List Value} {ab:Bool} {col:Option Bool} {dd:Option Addr} {k0 k1 k2 k3 k5:Option Value} {newId:String} {x cz:Sem Value} {Q:Flow->Shared->Prop} (hbase:bm.contains (.type "BaseException")=true) (hh:A.handled=some (.ref h))
   (hx:wpAny (model prog w) A x (fun v s₁=>∃ e a dct,v=.ref e/\s₁.heap.get? C=some (excClassObj nm q C N bs bm hdct sn sub ab col dd k0 k1 k2 k3 k5 newId) /\
     s₁.heap.get? e=some { cls:=.ref C,dict:=dct,data:=.fields #[a,.none,.none,.none,.bool false,.none] }/\h≠e/\(∃ oh vh,s₁.heap.get? h=some oh/\oh.data=.fields vh/\vh[2]?=some .none) /\
     wpAny (model prog w) A cz (fun v' s₂=>v'=.none/\s₂.heap=s₁.heap/\∀ h',(∀ b,b≠e->h'.get? b=s₁.heap.get? b)->h'.get? e=some { cls:=.ref C,dict:=dct,data:=.fields #[a,.none,.ref h,.none,.bool true,.none] }->h'.objs.size=s₁.heap.objs.size->E (.ref e) { s₂ with heap:=h' }) E s₁) E s) :
   wpAny (model prog w) A (raiseStmt env (some x) (some cz)) Q E s:=by
 have hcB:(Value.ref C::bm).contains (.type "BaseException")=true:=by rw [List.contains_cons,hbase,Bool.or_true]
 unfold raiseStmt;refine wpAny_bind (wpAny_mono hx (fun v s₁ h₁=>?_) fun _ _ x=>x);obtain ⟨e,a,dct,rfl,hC,he,hne,⟨oh,vh,ho,hdh,hc⟩,hz⟩:=h₁;refine wpAny_bind (wpAny_holding (wpAny_mono hz (fun v' s₂ h₂=>?_) fun _ _ x=>x));obtain ⟨rfl,hhp,hE⟩:=h₂;obtain ⟨hp,g,d,tk,os⟩:=s₂;have hhp':hp=s₁.heap:=hhp;subst hhp';repeat (first | with_reducible refine wpAny_loadPart_at he ?_ | with_reducible refine wpAny_loadPart_at hC ?_ | (with_reducible refine wpAny_isSubtype_exc hC ?_;rw [hcB]) | wp_step)
 have hCe:e≠C:=by
   intro z;subst z;rw [he] at hC;injection hC with hC
   have:=congrArg Obj.data hC;simp [excClassObj] at this
 have hC3:((s₁.heap.update e (Obj.mapFields fun x=>x.setIfInBounds 3 Value.none)).update e (Obj.mapFields fun x=>x.setIfInBounds 4 (Value.bool true))).get? C=some (excClassObj nm q C N bs bm hdct sn sub ab col dd k0 k1 k2 k3 k5 newId):=by
   rw [get?_update_other _ _ hCe,get?_update_other _ _ hCe];exact hC
 have he3:((s₁.heap.update e (Obj.mapFields fun x=>x.setIfInBounds 3 Value.none)).update e (Obj.mapFields fun x=>x.setIfInBounds 4 (Value.bool true))).get? e=some { cls:=.ref C,dict:=dct,data:=.fields #[a,.none,.none,.none,.bool true,.none] } :=
   get?_update_self _ (get?_update_self _ he rfl) rfl
 have ho3:((s₁.heap.update e (Obj.mapFields fun x=>x.setIfInBounds 3 Value.none)).update e (Obj.mapFields fun x=>x.setIfInBounds 4 (Value.bool true))).get? h=some oh:=by
   rw [get?_update_other _ _ (Ne.symm hne),get?_update_other _ _ (Ne.symm hne)];exact ho
 repeat (first | with_reducible refine wpAny_loadPart_at hC3 ?_ | with_reducible refine wpAny_loadPart_at he3 ?_ | wp_step)
 refine Pn hh hne he3 rfl (by show 2<6;decide) ho3 hdh hc ?_;refine hE _ (fun b hb=>?_) (get?_update_self _ he3 rfl) ?_
 · show (((s₁.heap.update e _).update e _).update e _).get? b=_
   rw [get?_update_other _ _ (Ne.symm hb),get?_update_other _ _ (Ne.symm hb),get?_update_other _ _ (Ne.symm hb)]
 · show (((s₁.heap.update e _).update e _).update e _).objs.size=_
   simp [Heap.update]
end
end L2
namespace L2
open PySem PySem.Spec PyProof.Rows
section
variable (P:Program) (w:World)
end
section
variable {P:Program} {w:World} {H H':Hp} {h h':Heap} {a:Addr} {o:HO}
end
section
variable {P:Program} {w:World} {H:Hp} {h h':Heap} {x e:Addr} {o':HO}
end
section
variable {fs fs' ex ex':List Addr} {H H1 H2:Hp} {h h1 h2 h':Heap} {a x e:Addr} {o:HO}
end
section
variable {X:Cx} {pins:List (Addr×Obj)} {σ:List (Option V)} {H H':Hp} {s:Shared} {h':Heap}
end
section
variable {X:Cx}
variable {a b:Expr} {ta tb:TE} {pos:Pos}
variable {tA tB':TT} {rest:List Expr}
end
section
variable {X:Cx} {pins:List (Addr×Obj)} {σ:St} {H:Hp} {s:Shared} {a:Addr} {xs ys:List V}
end
section
variable {X:Cx} {pins:List (Addr×Obj)} {σ:St} {H:Hp} {s:Shared} {E:Value->Shared->Prop}
end
section
variable {X:Cx} {st:Stmt} {rest:List Stmt} {t u:TS} {e:Expr} {te:TE} {pos:Pos}
end
section
variable {X:Cx} {pos:Pos}
end
section
variable {X:Cx} {tg:Expr}
end
section
variable {X:Cx} {a b c:Expr} {ta tb tc:TE} {pos:Pos}
end
section
variable {prog:Program} {w:World} {A:Around} {E:Value->Shared->Prop} {s:Shared} {K:PySem.W.Frag} {x dx C f:Addr} {mA:Str->Option Value} {name:Str} {v:Value}
end
section
variable {P:Program} {w:World} {H H':Hp} {h h':Heap} {a C dx:Addr} {fs fs':List (Str×V)}
end
section
variable {X:Cx} {pins:List (Addr×Obj)} {σ:St} {H:Hp} {s:Shared} {a C dx:Addr} {fs:List (Str×V)} {f:Str} {v:V} {A:Around} {E:Value->Shared->Prop}
end
section
variable {X:Cx} {o e value:Expr} {f:Str} {pos pos' tpos:Pos} {ta tv:TE}
end
section
variable {X:Cx} {pins:List (Addr×Obj)} {σ:St} {H:Hp} {s:Shared} {A:Around} {E:Value->Shared->Prop} {Q:Value->Shared->Prop} {c:Value} {b:Bool}
end
section
variable {X:Cx} {e:Expr} {es:List Expr} {te:TE} {t:TA} {pos:Pos}
end
section
variable {X:Cx} {pins:List (Addr×Obj)} {σ:St} {H:Hp} {s s':Shared}
end
section
variable {X:Cx} {CX:N9} {k:Nat} {f C:Addr} {fd:FuncData} {ps:List Str} {sp:Sp} {dvs:List V} {ds:List Value} {E:XK} {x m:Str} {p pos apos:Pos} {e o:Expr} {es:List Expr} {ta:TE} {t:TA}
end
section
variable {X:Cx} {CX:N9} {k:Nat} {f C:Addr} {fd:FuncData} {ps ks:List Str} {sp:Sp} {E:XK} {x m:Str} {p pos apos kpos:Pos} {e o:Expr} {es:List Expr} {kws:List Keyword} {te ta:TE} {t tk:TA} {nm:Option Str}
variable {g:List Value->List Value->List Value} {gV:List V->List V->List V}
end
section
variable {X:Cx} {x:Str} {p pos:Pos} {e:Expr} {es:List Expr} {t:TA} {id T:String} {r:List V->Hp->VK->Prop}
end
section
variable {κ:Type} [DecidableEq κ]
def Sy (kvs:List (κ×V)) (k:κ):Option V:=(kvs.find? fun kv=>decide (kv.1=k)).map (·.2)
def Ef (kvs:List (κ×V)) (k:κ) (v:V):List (κ×V) :=
 if (kvs.any fun kv=>decide (kv.1=k))=true then kvs.map (fun kv=>if kv.1=k then (kv.1,v) else kv) else kvs++[(k,v)]
theorem Lm {p:κ×V} {r:List (κ×V)} {k:κ} (e:p.1=k):Sy (p::r) k=some p.2:=by simp [Sy,find?_cons,e]
theorem Kq {p:κ×V} {r:List (κ×V)} {k:κ} (e:¬ p.1=k):Sy (p::r) k=Sy r k:=by simp [Sy,find?_cons,e]
theorem Dx (k:κ):∀ kvs:List (κ×V),(kvs.any fun kv=>decide (kv.1=k))=(Sy kvs k).isSome
 | []=>rfl
 | p::r=>by
  rw [any_cons];by_cases e:p.1=k
  ·simp only [Lm e,decide_eq_true e,Bool.true_or,Option.isSome_some]
  ·rw [Kq e,decide_eq_false e,Bool.false_or];exact Dx k r
theorem Hn (kvs:List (κ×V)) (k:κ) (v:V):(Ef kvs k v).length<=kvs.length+1:=by
 unfold Ef;split
 ·rw [length_map];lia
 ·rw [length_append,length_cons,List.length_nil];lia
theorem Z57 {kvs:List (κ×V)} {k:κ} (v:V) (h:Sy kvs k=none):Ef kvs k v=kvs++[(k,v)]:=by
 unfold Ef;rw [Dx,h];exact if_neg (by decide)
theorem Ig.isSome_eq {o:Option V} {u:Option Value} (r:Ig o u):o.isSome=u.isSome:=by
 cases o with
 | none=>cases u with
  | none=>rfl
  | some _=>exact (show False from r).elim
 | some _=>cases u with
  | none=>exact (show False from r).elim
  | some _=>rfl
theorem KV.val {kvs:List (κ×V)} {vs:List (κ×Value)} (r:KV kvs vs) (k:κ):Ig (Sy kvs k) (valueAt vs k):=by
 unfold KV at r;induction r with
 | nil=>exact True.intro
 | @cons p q ps qs h t ih =>
  obtain ⟨h1,h2⟩:=h;by_cases e:p.1=k
  ·have e':q.1=k:=h1.symm.trans e
   have b:valueAt (q::qs) k=some q.2:=by simp [valueAt,find?_cons,e']
   rw [Lm e,b];exact h2
  ·have e':¬ q.1=k:=fun z=>e (h1.trans z)
   have b:valueAt (q::qs) k=valueAt qs k:=by simp [valueAt,find?_cons,e']
   rw [Kq e,b];exact ih
theorem KV.any {kvs:List (κ×V)} {vs:List (κ×Value)} (r:KV kvs vs) (k:κ):(kvs.any fun kv=>decide (kv.1=k))=vs.any fun kv=>decide (kv.1=k):=by
 unfold KV at r;induction r with
 | nil=>rfl
 | cons h t ih=>rw [any_cons,any_cons,ih,h.1]
theorem KV.repl {kvs:List (κ×V)} {vs:List (κ×Value)} (r:KV kvs vs) (k:κ) {y:V} {u:Value} (ry:Yv y u) :
  KV (kvs.map fun kv=>if kv.1=k then (kv.1,y) else kv) (vs.map fun kv=>if kv.1=k then (kv.1,u) else kv):=by
 unfold KV at r ⊢;induction r with
 | nil=>exact .nil
 | @cons p q ps qs h t ih =>
  rw [map_cons,map_cons];refine .cons ?_ ih;obtain ⟨h1,h2⟩:=h;by_cases e:p.1=k
  ·rw [if_pos e,if_pos (h1.symm.trans e)];exact ⟨h1,ry⟩
  ·rw [if_neg e,if_neg (fun z=>e (h1.trans z))];exact ⟨h1,h2⟩
theorem KV.put {kvs:List (κ×V)} {vs:List (κ×Value)} (r:KV kvs vs) (k:κ) {y:V} {u:Value} (ry:Yv y u):KV (Ef kvs k y) (stored vs k u):=by
 unfold Ef stored;rw [r.any k];by_cases e:(vs.any fun kv=>decide (kv.1=k))=true
 ·rw [if_pos e,if_pos e];exact r.repl k ry
 ·rw [if_neg e,if_neg e];exact Paired.snoc r ⟨rfl,ry⟩
theorem KV.length {kvs:List (κ×V)} {vs:List (κ×Value)} (r:KV kvs vs):kvs.length=vs.length:=Paired.length r
end
theorem Z3c {P:Program} {w:World} {k:Uq} {u:Value} (r:Yv (kV k) u):(Va P w).is k u=true:=by
 cases k with
 | inl i=>obtain ⟨t,e⟩:=(show ∃ t,u=Value.int i t from r);subst e;exact Fe P w i t
 | inr x=>obtain ⟨t,e⟩:=(show ∃ t,u=Value.str x t from r);subst e;exact Xr P w x t
theorem Oe {P:Program} {w:World}:∀ {ks:List Uq} {us:List Value},Y2 (ks.map kV) us->ItemsAre (Va P w) ks us
 | [],_,r=>by rw [map_nil] at r;cases r;exact .nil
 | k::ks,_,r=>by
  rw [map_cons] at r;cases r with
  | cons h t=>exact .cons (Z3c h) (Oe t)
abbrev KT (H:Hp):List (List Uq×V)->List (List Uq×Addr×Value)->Prop:=Paired fun p q=>p.1=q.1/\H q.2.1=some (.tup (p.1.map kV))/\Yv p.2 q.2.2
theorem KT.val {H:Hp} {kvs:List (List Uq×V)} {xs:List (List Uq×Addr×Value)} (r:KT H kvs xs) (k:List Uq):Ig (Sy kvs k) ((atKey xs k).map (·.2)):=by
 induction r with
 | nil=>exact True.intro
 | @cons p q ps qs h t ih =>
  obtain ⟨h1,_,h2⟩:=h;by_cases e:p.1=k
  ·have e':q.1=k:=h1.symm.trans e
   have b:atKey (q::qs) k=some q.2:=by simp [atKey,find?_cons,e']
   rw [Lm e,b];exact h2
  ·have e':¬ q.1=k:=fun z=>e (h1.trans z)
   have b:atKey (q::qs) k=atKey qs k:=by simp [atKey,find?_cons,e']
   rw [Kq e,b];exact ih
theorem KT.repl {H:Hp} {kvs:List (List Uq×V)} {xs:List (List Uq×Addr×Value)} (r:KT H kvs xs) (k:List Uq) {y:V} {u:Value} (ry:Yv y u) :
  KT H (kvs.map fun kv=>if kv.1=k then (kv.1,y) else kv) (xs.map (putAt k u)):=by
 induction r with
 | nil=>exact .nil
 | @cons p q ps qs h t ih =>
  rw [map_cons,map_cons];refine .cons ?_ ih;obtain ⟨h1,h2,h3⟩:=h;unfold putAt;by_cases e:p.1=k
  ·rw [if_pos e,if_pos (h1.symm.trans e)];exact ⟨h1,h2,ry⟩
  ·rw [if_neg e,if_neg (fun z=>e (h1.trans z))];exact ⟨h1,h2,h3⟩
theorem KT.put {H:Hp} {kvs:List (List Uq×V)} {xs:List (List Uq×Addr×Value)} (r:KT H kvs xs) (k:List Uq) {b:Addr} {y:V} {u:Value} (hb:H b=some (.tup (k.map kV))) (ry:Yv y u) :
  KT H (Ef kvs k y) (storedH xs k b u):=by
 have e:(kvs.any fun kv=>decide (kv.1=k))=(atKey xs k).isSome:=by
  rw [Dx,(r.val k).isSome_eq,Option.isSome_map]
 unfold Ef storedH;rw [e];by_cases q:(atKey xs k).isSome=true
 ·rw [if_pos q,if_pos q];exact r.repl k ry
 ·rw [if_neg q,if_neg q];exact Paired.snoc r ⟨rfl,hb,ry⟩
theorem KT.keeps {H H':Hp} {kvs:List (List Uq×V)} {xs:List (List Uq×Addr×Value)} (r:KT H kvs xs) (ht:∀ b ys,H b=some (.tup ys)->H' b=some (.tup ys)):KT H' kvs xs :=
 Paired.mapP r fun _ _ z=>⟨z.1,ht _ _ z.2.1,z.2.2⟩
section
variable {P:Program} {w:World} {H:Hp} {h:Heap} {a:Addr}
theorem Z8x {u:HO} (ok:My P w H h) (e:Rd H a u):W9 P w H h a u:=e.ok ok
theorem Z8r {kvs:List (Uq×V)} (ok:My P w H h) (e:Rd H a (.dK kvs)):kvs.length<=sizeLine/\(a==sysModules)=false/\∃ vs,KV kvs vs/\h.DictOf (Va P w) a vs :=
 show W9 P w H h a (.dK kvs) from Z8x ok e
theorem Ze0 {kvs:List (Uq×V)} (ok:My P w H h) (e:H a=some (.dK kvs)):kvs.length<=sizeLine/\(a==sysModules)=false/\∃ vs,KV kvs vs/\h.DictOf (Va P w) a vs:=Z8r ok (.inl e)
theorem On {ks:List Uq} (ok:My P w H h) (e:H a=some (.tup (ks.map kV))):(tupleKind (Va P w)).is h ks a:=by
 obtain ⟨_,its,r,o,h1,h2,n,h3⟩:=(show W9 P w H h a (.tup (ks.map kV)) from ok a _ e);exact ⟨o,its.toArray,n,h1,h2,h3,by simpa using Oe r⟩
theorem Z98 {kvs:List (List Uq×V)} (ok:My P w H h) (e:Rd H a (.dT kvs)):kvs.length<=sizeLine/\(a==sysModules)=false /\
  ∃ xs,KT H kvs xs/\h.DictOfH (tupleKind (Va P w)) a xs:=by
 obtain ⟨z,y,xs,r,o,es,ep,h1,h2,h3,h4,h5⟩:=(show W9 P w H h a (.dT kvs) from Z8x ok e);refine ⟨z,y,xs,r,o,es,ep,h1,h2,h3,h4,fun x hx=>?_,h5⟩;have all:∀ {l:List (List Uq×V)} {m:List (List Uq×Addr×Value)},KT H l m->∀ x∈m,(tupleKind (Va P w)).is h x.1 x.2.1:=by
  intro l m q;induction q with
  | nil=>intro x hx;exact nomatch hx
  | @cons p q ps qs hq t ih =>
   intro x hx;rcases mem_cons.mp hx with e | hx
   ·subst e
    exact On ok (by rw [← hq.1];exact hq.2.1)
   ·exact ih x hx
 exact all r x hx
theorem Z8j {kvs:List (List Uq×V)} (ok:My P w H h) (e:H a=some (.dT kvs)):kvs.length<=sizeLine/\(a==sysModules)=false /\
 ∃ xs,KT H kvs xs/\h.DictOfH (tupleKind (Va P w)) a xs:=Z98 ok (.inl e)
end
def Z3y (H:Hp) (a:Addr) (y:V) (r:Option V):Prop :=
 (∃ kvs k,Rd H a (.dK kvs)/\y=kV k/\r=Sy kvs k)\/∃ kvs k b,Rd H a (.dT kvs)/\y=.ref b/\H b=some (.tup (k.map kV))/\r=Sy kvs k
def Z2p (H:Hp) (a:Addr) (y v:V) (H':Hp):Prop :=
 (∃ kvs k,H a=some (.dK kvs)/\y=kV k/\kvs.length<sizeLine/\H'=We H a (.dK (Ef kvs k v))) \/
 ∃ kvs k b,H a=some (.dT kvs)/\y=.ref b/\H b=some (.tup (k.map kV))/\kvs.length<sizeLine/\H'=We H a (.dT (Ef kvs k v))
theorem Z3y.t {H:Hp} {a b:Addr} {kvs:List (List Uq×V)} {k:List Uq} (e:H a=some (.dT kvs)) (eb:H b=some (.tup (k.map kV))):Z3y H a (.ref b) (Sy kvs k):=.inr ⟨kvs,k,b,.inl e,rfl,eb,rfl⟩
theorem Z2p.t {H:Hp} {a b:Addr} {kvs:List (List Uq×V)} {k:List Uq} {v:V} (e:H a=some (.dT kvs)) (eb:H b=some (.tup (k.map kV))) (hl:kvs.length<sizeLine) :
 Z2p H a (.ref b) v (We H a (.dT (Ef kvs k v))):=.inr ⟨kvs,k,b,e,rfl,eb,hl,rfl⟩
section
variable {X:Cx} {pins:List (Addr×Obj)} {σ:St} {H:Hp} {s:Shared} {a:Addr} {y v:V} {u r:Value} {o:Option V} {A:Around} {E:Value->Shared->Prop}
theorem Inv.big (I:Inv X pins σ H s):sysModules<s.heap.objs.size:=by
 have h:mainGlobals<s.heap.objs.size:=(I.mod.glob.keeps I.bk).lt;exact Nat.lt_trans (by decide) h
theorem Zf8 {Q:Value->Shared->Prop} (hu:A.units+1<cLine) (I:Inv X pins σ H s) (g:Z3y H a y o) (ry:Yv y u) (h:∀ s',Inv X pins σ H s'->Q (.bool o.isSome) s') :
  wpAny (model X.prog X.w) A (compareOp .In u (.ref a)) Q E s:=by
 rcases g with ⟨kvs,k,e,ey,l⟩ | ⟨kvs,k,b,e,ey,eb,l⟩
 ·subst ey
  obtain ⟨z,hd,vs,rel,dd⟩:=Z8r I.hok e;refine wpAny_in_of (Z3c ry) hd dd.mapOf ?_;rw [← (rel.val k).isSome_eq,← l];exact h _ (I.tok _)
 ·subst ey
  cases (show u=Value.ref b from ry);obtain ⟨z,hd,xs,rel,dd⟩:=Z98 I.hok e;refine wpAny_in_heap (tupleKind_room_in1 hu) (On I.hok eb) hd dd ?_;have q:=(rel.val k).isSome_eq;rw [Option.isSome_map] at q;rw [← q,← l];exact h _ (I.tok _)
theorem Oy {h':Heap} {t':Nat} {ob:HO} (I:Inv X pins σ H s) (mu:Mut (H a)) (hs:SameBut a s.heap h') (he:∃ q,h'.get? a=some q) (new:W9 X.prog X.w (We H a ob) h' a ob) :
  Inv X pins σ (We H a ob) { s with heap:=h',toks:=t' } :=
 I.write (x:=a) (e:=a) mu (.inl rfl) (fun b q hb z=>(hs.2 b hb).trans z) he new
theorem Z9p {P:Program} {w:World} {H':Hp} {h':Heap} {kvs:List (Uq×V)} {vs:List (Uq×Value)} (z:kvs.length<=sizeLine) (hd:(a==sysModules)=false) (rel:KV kvs vs) (dd:h'.DictOf (Va P w) a vs) :
 W9 P w H' h' a (.dK kvs):=⟨z,hd,vs,rel,dd⟩
theorem Z1j {H':Hp} {Q:Unit->Shared->Prop} (hu:A.units+1<cLine) (I:Inv X pins σ H s) (g:Z2p H a y v H') (ry:Yv y u) (rv:Yv v r) (h:∀ s',Inv X pins σ H' s'->Q () s') :
  wpAny (model X.prog X.w) A (setItem (.ref a) u r) Q E s:=by
 rcases g with ⟨kvs,k,e,ey,l,eH⟩ | ⟨kvs,k,b,e,ey,eb,l,eH⟩
 ·subst ey eH
  obtain ⟨z,hd,vs,rel,dd⟩:=Ze0 I.hok e;have hz:vs.length<=sizeLine:=by rw [← rel.length];exact z
  have hl:(Ef kvs k v).length<=sizeLine:=by have:=Hn kvs k v;lia
  refine wpAny_setItem_pairs (hsz:=hz) (Z3c ry) dd fun h' dd' hs=>h _ ?_
  have he:∃ q,h'.get? a=some q:=let ⟨q,_,_,hq,_⟩:=dd';⟨q,hq⟩
  exact Oy I (by rw [e];exact True.intro) hs he (Z9p hl hd (rel.put k rv) dd')
 ·subst ey eH
  cases (show u=Value.ref b from ry);obtain ⟨z,hd,xs,rel,dd⟩:=Z8j I.hok e;have hz:xs.length<=sizeLine:=by rw [← Paired.length rel];exact z
  have hl:(Ef kvs k v).length<=sizeLine:=by have:=Hn kvs k v;lia
  refine wpAny_setItem_heap (hsz:=hz) (tupleKind_room_in1 hu) (On I.hok eb) dd fun h' dd' hs=>h _ ?_
  obtain ⟨q,es,ep,hq,h2,h3,h4,_,h5⟩:=dd';refine Oy I (by rw [e];exact True.intro) hs ⟨q,hq⟩ ⟨hl,hd,_,(rel.put k eb rv).keeps fun c ys ec=>?_,q,es,ep,hq,h2,h3,h4,h5⟩;rw [Zh (Z8z ec e (fun z=>nomatch z))];exact ec
end
section
variable {X:Cx} {pins:List (Addr×Obj)} {σ:St} {H:Hp} {s:Shared} {a:Addr} {kvs:List (Uq×V)} {k:Uq} {u:Value} {A:Around} {E:Value->Shared->Prop}
end
def Zf2 (ty td:TE):TE:=fun σ H Q=>ty σ H fun y H1=>td σ H1 fun x H2=>∃ a o,x=.ref a/\Z3y H2 a y o/\Q (.bl o.isSome) H2
def Ze4 (td ty tv:TE):TS:=fun D σ H=>tv σ H fun v H1=>td σ H1 fun x H2=>ty σ H2 fun y H3=>∃ a H4,x=.ref a/\Z2p H3 a y v H4/\D.nx σ H4
section
variable {X:Cx} {o i e value:Expr} {pos pos' tpos:Pos} {td ty tv:TE}
theorem Zb8 (hu:X.A.units+1<cLine) (hi:PE X i ty) (ho:PE X o td):PC X .In i o (Zf2 ty td):=by
 intro pins s σ H Q I h;refine Wt (hi pins s σ H _ I h) fun iv s1 ⟨y,H1,I1,ry,q1⟩=>Wt (ho pins s1 σ H1 _ I1 q1) fun u s2 ⟨x,H2,I2,rx,a,ov,ex,g,q2⟩=>?_
 subst ex;obtain rfl:u=Value.ref a:=rx;exact Zf8 hu I2 g ry fun s3 I3=>⟨.bl ov.isSome,H2,I3,rfl,q2⟩
theorem Z6o (hu:X.A.units+1<cLine) (ho:PE X o td) (hi:PE X i ty) (hv:PE X value tv) (hs:swapsWith value (some (.Subscript o i pos')) pos.line X.env=pure false) :
  PS X (.Assign [.Subscript o i pos'] value pos) (Ze4 td ty tv):=by
 intro pins s σ H D I h;refine wpAny_Assign_Subscript (Wt (hv pins s σ H _ I h) fun r s1 ⟨v,H1,I1,rv,q1⟩=>Wt (ho pins s1 σ H1 _ I1 q1) fun u s2 ⟨x,H2,I2,rx,q2⟩=>Wt (hi pins s2 σ H2 _ I2 q2) fun iv s3 ⟨y,H3,I3,ry,a,H4,ex,g,q3⟩=>?_) hs;subst ex;obtain rfl:u=Value.ref a:=rx;exact Z1j hu I3 g ry rv fun s4 I4=>⟨σ,H4,I4,q3⟩
end
theorem Z4k {P:Program} {w:World} {H:Hp} (h:Heap) (hb:sysModules<h.objs.size):W9 P w H (h.push { cls:=.type "dict",data:=.dict #[] }) h.objs.size (.dT []) :=
 ⟨zero_le _,beq_eq_false_iff_ne.mpr (Ne.symm (ne_of_lt hb)),[],.nil,_,#[],0,get?_push_size _ rfl,⟨rfl,rfl,rfl⟩,rfl,rfl,nodup_nil⟩
section
variable {X:Cx} {pos:Pos}
end
section
variable {X:Cx} {pins:List (Addr×Obj)} {σ:St} {H:Hp} {s:Shared} {a:Addr} {y d:V} {u r:Value} {o:Option V} {A:Around} {E:Value->Shared->Prop}
end
section
variable {X:Cx} {o e f:Expr} {apos cpos:Pos} {td ty tx:TE}
end
section
variable {X:Cx} {pins:List (Addr×Obj)} {σ:St} {H:Hp} {s:Shared} {a:Addr} {kvs:List (Uq×V)} {A:Around} {E:Value->Shared->Prop}
end
section
variable {X:Cx} {pins:List (Addr×Obj)} {σ:St} {H:Hp} {s:Shared} {a:Addr} {y:V} {u:Value} {A:Around} {E:Value->Shared->Prop}
end
end L2
namespace Att
open PySem PySem.W PySem.Calls PyProof.Rows
section
variable {prog:Program} {w:World} {A:Around} {E:Value->Shared->Prop} {s:Shared} {K:Frag}
end
end Att
namespace L2
open PySem PySem.Spec PyProof.Rows
section
variable {P:Program} {w:World} {K:PySem.W.Frag} {mg:Str->Option Value} {base:Heap}
end
section
variable {X:Cx}
end
section
variable {κ:Type} [DecidableEq κ]
end
structure RoomN (k:Nat) (A:Around):Prop where
 dp:A.depth+3*k+5<recursionLimit
 un:A.units+16*k+200<cLine
 gd:A.guards=some []
theorem RoomN.mono {j k:Nat} {A:Around} (r:RoomN k A) (h:j<=k):RoomN j A:=⟨by have:=r.dp;lia,by have:=r.un;lia,r.gd⟩
theorem RoomN.deeper {k:Nat} {A:Around} (r:RoomN (k+1) A) (env:Env):RoomN k (A.deeper env) :=
 ⟨by have:=r.dp;show A.depth+1+3*k+5<_;lia,by have:=r.un;show A.units+3+16*k+200<_;lia,r.gd⟩
theorem RoomN.depth {k:Nat} {A:Around} (r:RoomN k A):A.depth<recursionLimit:=by have:=r.dp;lia
def HdS (A:Around) (h:Heap):Prop:=A.handled=none\/∃ e oe ve,A.handled=some (.ref e)/\h.get? e=some oe/\oe.data=.fields ve/\ve[2]?=some .none
def HdK (A:Around) (fs:List Addr) (H:Hp) (h:Heap):Prop:=A.handled=none\/∃ e oe ve,A.handled=some (.ref e)/\h.get? e=some oe/\oe.data=.fields ve/\ve[2]?=some .none/\H e=none/\e∉fs
def HdN (X:Cx):Prop:=∀ pins σ H s,Inv X pins σ H s->HdS X.A s.heap
def HdC (X:Cx):Prop:=∀ pins σ H s,Inv X pins σ H s->HdK X.A (Sw X.stack) H s.heap
theorem HdN.of {X:Cx} (k:HdK X.A X.fs X.H₀ X.s₀.heap) (hx:X.ex=[]):HdN X:=fun _ _ _ _ I=>k.imp id fun ⟨e,oe,ve,h1,h2,h3,h4,h5,h6⟩=>⟨e,oe,ve,h1,I.base.keep e oe h2 h5 h6 (by rw [hx];simp),h3,h4⟩
theorem Room.n {k:Nat} {A:Around} (r:Room k A):RoomN k A:=⟨r.dp,r.un,r.gd⟩
structure FnOkN (P:Program) (w:World) (K:PySem.W.Frag) (mg:Str->Option Value) (base:Heap) (CX:N9) (k:Nat) (f:Addr) (fd:FuncData) (ps:List Str) (sp:Sp):Prop where
 len:∀ vs H Q E,sp vs H Q E->vs.length=ps.length
 run:∀ (A:Around) (outer:List Env) (s:Shared) (H:Hp) (args:Args) (us:List Value) (vs:List V) (Q:VK) (E:XK),RoomN k A->HdK A (Sw outer) H s.heap->Env0 P w K mg base A outer s H->BindsTo s fd args (ps.zip us)->Y2 vs us->sp vs H Q E ->
  codeAny (model P w) A (.call (.ref f) args) (CR CX outer P w H s Q E) s
section
variable {X:Cx} {CX:N9} {k:Nat} {f C:Addr} {fd:FuncData} {ps:List Str} {sp:Sp} {dvs:List V} {ds:List Value} {E:XK} {x m:Str} {p pos apos:Pos} {e o:Expr} {es:List Expr} {ta:TE} {t:TA}
theorem Z6q {pins:List (Addr×Obj)} {σ:St} {H:Hp} {s:Shared} {Q:VK} {us:List Value} {vs:List V} (F:FnOkN X.prog X.w X.K X.mg X.base CX k f fd ps sp) (hr:RoomN k X.A) (hk:HdC X) (hb:Jw X.K fd ps ds) (hd:Y2 dvs ds) (hx:Kb CX X E)
  (I:Inv X pins σ H s) (r:Y2 vs us) (h:sp (vs++dvs) H Q E):wpAny (model X.prog X.w) X.A (call (.ref f) us) (EP X pins σ Q) X.xe s:=by
 have r2:Y2 (vs++dvs) (us++ds):=r.append hd;have hl:(us++ds).length=ps.length:=by rw [← r2.length];exact F.len _ _ _ _ h
 refine wpAny_call (codeAny_mono (F.run X.A X.stack s H ⟨us,[]⟩ (us++ds) (vs++dvs) Q E hr (hk _ _ _ _ I) I.env0 (hb s us I.kIn hl) r2 h) fun r s' hq=>?_);cases r with
 | error e=>exact hx pins σ H s e s' I hq
 | ok fl =>
  cases fl with
  | ret u=>exact I.after hq
  | next=>exact False.elim hq
  | brk=>exact False.elim hq
  | cont=>exact False.elim hq
theorem Z37 (F:FnOkN X.prog X.w X.K X.mg X.base CX k f fd ps sp) (hr:RoomN k X.A) (hh:HdC X) (hg:Gl X x) (hm:X.mg x=some (.ref f)) (hk:PySem.W.keepIn X.K (.ref f)=true) (hb:Jw X.K fd ps ds) (hd:Y2 dvs ds) (hx:Kb CX X E)
  (ha:PA X (e::es) t) (hdb:(x==("__debug__" : Str))=false:=by decide) (he:starEach (e::es) X.env=(false,eval e X.env)::starEach es X.env:=by rfl) (hpl:(backTo pos (starEach es X.env)).any (·.1)=false:=by rfl) :
  PE X (.Call (.Name x p) (e::es) [] pos) (Z0k sp dvs E t):=by
 intro pins s σ H Q I h;refine wpAny_Call_Name_kw (U9 I hg hm ?_ hdb);refine PySem.W.callWith_K (h₀:=X.base) I.ok.mod.kin hk (Wt (ha pos pins s σ H _ I h) fun us s1 ⟨vs,H1,I1,r,q⟩=>⟨I1.kIn,?_⟩) he hpl;exact Z6q F hr hh hb hd hx I1 r q
end
def Rq (CX:N9) (P:Program) (w:World) (K:PySem.W.Frag) (mg:Str->Option Value) (base:Heap) (N:List Str) (qual:Str) (scope:Scope) (f:Addr) (cd:Value) (A:Around) (outer:List Env) (s:Shared) (H:Hp) (E:XK):Cx where
 prog:=P
 w:=w
 K:=K
 mg:=mg
 base:=base
 A:=A.deeper (envOfC qual scope s.heap.objs.size f cd)
 N:=N
 s₀:=s
 H₀:=H
 env:=envOfC qual scope s.heap.objs.size f cd
 outer:=outer
 stack:=envOfC qual scope s.heap.objs.size f cd::outer
 ex:=[]
 calm:=false
 fn:=fun _=>true
 pn:=[]
 xe:=fun e s'=>wpAny (model P w) (A.deeper (envOfC qual scope s.heap.objs.size f cd)) (leaving (envOfC qual scope s.heap.objs.size f cd) e) (fun _ s''=>CX outer H s E e s'') (fun e' s''=>CX outer H s E e' s'') s'
theorem Ay {CX:N9} {P:Program} {w:World} {K:PySem.W.Frag} {mg:Str->Option Value} {base:Heap} {N ps:List Str} {qual:Str} {scope:Scope} {f:Addr} {cd:Value} {A:Around} {outer:List Env} {s s1:Shared} {H:Hp} {E:XK} {us:List Value} {vs:List V}
  (S:FnScope N ps scope) (e0:Env0 P w K mg base A outer s H) (hl:vs.length=ps.length) (r:Y2 vs us)
  (x:InCallC s s.heap.objs.size (bindL (envOfC qual scope s.heap.objs.size f cd).kindOf (ps.zip us) fun _=>none) (cellsFrom (s.heap.objs.size+1) scope.names []) (bindC (envOfC qual scope s.heap.objs.size f cd).kindOf (ps.zip us) fun _=>none) s1) :
  Inv (Rq CX P w K mg base N qual scope f cd A outer s H E) [] (start N vs) H s1:=by
 have hpl:ps.length<=N.length:=by have:=congrArg List.length S.pre;rw [length_take] at this;lia
 obtain ⟨h1,tk,rfl,hk⟩:=x.done;have noA:∀ b:Addr,b∉(Rq CX P w K mg base N qual scope f cd A outer s H E).ex:=fun b z=>absurd (show b∈([]:List Addr) from z) (by simp)
 refine ⟨⟨e0.mod,S.kind,rfl,rfl,le_refl _,fun y z c h1 h2=>?_,fun y hy=>?_,fun y c _ h=>?_,(fun z=>nomatch z),Around.frames_deeper e0.frames,.inr ⟨rfl,rfl⟩,fun b z=>absurd z (noA b),e0.bs,e0.bsz,fun b _ _=>noA b,fun b z=>absurd z (noA b),e0.funs,e0.frf⟩,
  rfl,e0.bare,Un.kept hk,⟨_,x.toInCall.ns,fun i y v h1 h2 h3=>?_⟩,fun y c h=>⟨_,x.cell y c h⟩,e0.hok.fresh (le_refl _),fun y c h=>?_,fun p hp=>absurd (show p∈([]:List (Addr×Obj)) from hp) (by simp),e0.hok.kept hk,?_⟩
 ·exact name_of_addr x.apart (PySem.mem_of_lookup h1) (PySem.mem_of_lookup h2)
 ·have hy:scope.names.lookup y=some .cell\/scope.names.lookup y=some .free:=hy
  rcases hy with hy | hy
  ·exact En hy
  ·exact absurd rfl (S.nofree _ (PySem.mem_of_lookup hy))
 ·exact le_of_lt (x.above y c (PySem.mem_of_lookup h))
 ·have hi:i<vs.length:=by
   unfold start at h2;by_cases hi:i<vs.length
   ·exact hi
   ·rw [getElem?_append_right (by simpa using hi)] at h2
    rw [List.getElem?_replicate] at h2;split at h2<;>cases h2
  have ha:vs[i]?=some v:=by
   unfold start at h2;rw [getElem?_append_left (by simpa using hi),getElem?_map] at h2;cases e:vs[i]? with
   | none=>rw [e] at h2;cases h2
   | some a=>rw [e] at h2;cases h2;rfl
  obtain ⟨u,hu,rv⟩:=r.get ha;have hp:ps[i]?=some y:=by
   rw [← S.pre,List.getElem?_take_of_lt (by lia)];exact h1
  have ndP:ps.Nodup:=by rw [← S.pre];exact S.nd.sublist (List.take_sublist _ _)
  refine ⟨u,rv,?_⟩;rcases S.par y (mem_of_getElem? hp) with k | k
  ·exact .inl ⟨k,Gp ndP hp hu k⟩
  ·obtain ⟨c,e⟩:=En (n:=s.heap.objs.size+1) k
   refine .inr ⟨.inl k,c,e,?_⟩;have q:=x.cell y c e;rw [Gm ndP hp hu (by show scope.names.lookup y≠_;rw [k];decide)] at q;exact q
 ·exact e0.hok.fresh (le_of_lt (x.above y c (PySem.mem_of_lookup h)))
 ·unfold start
  show _=N.length;rw [length_append,length_map,length_replicate];lia
theorem Zaa {CX:N9} {P:Program} {w:World} {K:PySem.W.Frag} {mg:Str->Option Value} {base:Heap} {k:Nat} {f:Addr} {name qual:Str} {params:Arguments} {body:List Stmt} {scope:Scope} {dV kV doc pm cdv ct oc:Value} {an od:Option Addr}
  {osl:Array (Option Value)} {N ps:List Str} {sp:Sp} (lk:K.lookup f=some ⟨oc,od,.func (fnOf name qual params body scope dV kV doc pm an cdv ct),osl⟩) (hcd:codeIn K cdv qual=true) (S:FnScope N ps scope)
  (len:∀ vs H Q E,sp vs H Q E->vs.length=ps.length)
  (hbody:∀ (A:Around) (outer:List Env) (s:Shared) (H:Hp) (vs:List V) (Q:VK) (E:XK),RoomN k (A.deeper (envOfC qual scope s.heap.objs.size f cdv))->HdK A (Sw outer) H s.heap->sp vs H Q E ->
   ∃ t,Sx (Rq CX P w K mg base N qual scope f cdv A outer s H E) body t/\t { nx:=fun _ H'=>Q .non H',rt:=Q } (start N vs) H) :
  FnOkN P w K mg base CX (k+1) f (fnOf name qual params body scope dV kV doc pm an cdv ct) ps sp:=by
 refine ⟨len,fun A outer s H args us vs Q E hr hk e0 hb r hsp=>?_⟩;have hl:=len _ _ _ _ hsp;have KX:K.In s.heap:=e0.mod.kin.keeps fun b o e=>(e0.bs b o e).1
 have lim:s.heap.NoLimit:=e0.mod.nolimit.keeps fun b o e=>(e0.bs b o e).1
 have hkind:∀ y∈ps.zip us,scope.names.lookup y.1=some .local\/(scope.names.lookup y.1=some .cell/\((cellsFrom (s.heap.objs.size+1) scope.names []).lookup y.1).isSome=true):=fun ⟨n,v⟩ hy=>by
  rcases S.par n (of_mem_zip hy).1 with q | q
  ·exact .inl q
  ·exact .inr ⟨q,cellsFrom_some _ _ _ (.inl q)⟩
 refine codeAny_call_function hr.depth (KX _ _ lk) rfl S.co S.gen rfl (codeRec_of KX hcd) (hb _ _ _ _ ?_);refine wpAny_newFunctionEnv_cells S.kind hkind fun env he s1 x=>?_
 subst he;refine ⟨lim.keeps x.toInCall.keep,codeAny_func ?_⟩;obtain ⟨t,ht,hq⟩:=hbody A outer s H vs Q E (hr.deeper _) hk hsp;have I:Inv (Rq CX P w K mg base N qual scope f cdv A outer s H E) [] (start N vs) H s1:=Ay S e0 hl r x;refine wpAny_mono (ht [] s1 (start N vs) H _ I hq) (fun fl s' hs=>?_) fun e s' hs=>hs
 have fin:∀ {σ':St} {H':Hp} {v:V} {u:Value},Inv (Rq CX P w K mg base N qual scope f cdv A outer s H E) [] σ' H' s'->Yv v u->Q v H'->CE outer P w H s Q u s' :=
  fun {σ' H' v u} J rv q=>⟨v,H',J.os,J.bare,J.base,J.hok,rv,q⟩
 cases fl with
 | ret u =>
  obtain ⟨v,σ',H',J,rv,q⟩:=hs;exact fin J rv q
 | next =>
  obtain ⟨σ',H',J,q⟩:=hs;exact fin (v:=V.non) (u:=Value.none) J rfl q
 | brk =>
  obtain ⟨_,_,_,q⟩:=hs;exact False.elim q
 | cont =>
  obtain ⟨_,_,_,q⟩:=hs;exact False.elim q
theorem FnOkN.x {P:Program} {w:World} {K:PySem.W.Frag} {mg:Str->Option Value} {base:Heap} {CX:N9} {k:Nat} {f:Addr} {fd:FuncData} {ps:List Str} {sp:Sp} (F:FnOkN P w K mg base CX k f fd ps sp):FnOk P w K mg base CX k f fd ps sp :=
 ⟨F.len,fun A outer s H args us vs Q E hr e0 hb r hsp=>F.run A outer s H args us vs Q E hr.n (.inl hr.hd) e0 hb r hsp⟩
end L2
namespace PySem
open Sem (wp)
open AutoSeq1 (wpAny_loadPart')
namespace F
theorem nolen_lr:typeLookup (.type "list_reverseiterator") "__len__" = pure none:=by rw [typeLookup_type,builtinLookup_eq_fast];kernel_rfl
theorem hint_lr:typeLookup (.type "list_reverseiterator") "__length_hint__" = pure (some (.builtin "list_reverseiterator.__length_hint__")):=by rw [typeLookup_type,builtinLookup_eq_fast];kernel_rfl
end F
section
variable {prog:Program} {w:World} {A:Around} {E:Value->Shared->Prop} {s:Shared}
end
section
variable {prog:Program} {w:World} {A:Around} {s:Shared} {R:Result->Shared->Prop}
variable {I:Addr} {fp wr:List Addr} {G:Array GenState->Array GenState->Prop} {n:Nat} {P:Nat->Value->Prop} {St:Nat->Shared->Prop}
def P0 (prog:Program) (w:World) (A:Around) (I:Addr) (St:Nat->Shared->Prop):Prop:=∀ (s:Shared) (Q:Bool->Shared->Prop) (E:Value->Shared->Prop),St 0 s->(∀ tk,s.toks<=tk->Q false { s with toks:=tk })->wpAny (model prog w) A (Builtin.List.listLengthHint (.ref I)) Q E s
theorem Ic {T:String} (W:WalksS prog w A.in1 I fp wr G n P St) (hT:∀ i s,St i s->s.TypeIs (.ref I) T) (hTm:T="range_iterator" \/ T="list_reverseiterator") (hh:P0 prog w A.in1 I St) (S:Addr) (res:Value) (c₀:Nat) (hst:St 0 s) (hSf:S∉fp) (hI:I∈fp)
  (hS:s.heap.get? S=some { cls:=.type "list",data:=.seq #[] c₀ })
  (hR:∀ s' acc' c',Moved (S::wr) G s s'->s'.heap.get? S=some { cls:=.type "list",dict:=none,data:=.seq acc' c',slots:=#[] }->ItemsOf P acc' n->R (.ok (.ret res)) s') (hn:n<=sizeLine) :
  wpAny (model prog w) A.in1 (Builtin.List.listExtendWith (.ref S) (.ref I) res)
   (fun fin s'=>match fin with | .done f=>R (.ok f) s' | .again c'=>c'.quiet=true/\codeAny (model prog w) A c' R s') (fun e s'=>R (.error e) s') s:=by
 have hSI:S≠I:=fun e=>hSf (e▸hI)
 unfold Builtin.List.listExtendWith;refine wpAny_bind (wpAny_typeOf (hT 0 _ hst) ?_);have h1:Builtin.List.listSameRef (.ref S) (.ref I)=false:=by simp [Builtin.List.listSameRef,hSI]
 have h2:(Value.type T==Value.type "list")=false:=by rcases hTm with rfl | rfl<;>decide
 have h3:(Value.type T==Value.type "tuple")=false:=by rcases hTm with rfl | rfl<;>decide
 simp only [h1,h2,h3,Bool.or_false,Bool.false_eq_true,if_false];refine wpAny_bind (W.self 0 _ _ _ hst ?_);refine wpAny_bind (wpAny_holding (hh s _ _ hst fun tk htk=>?_));rw [if_neg (by rcases hTm with rfl | rfl<;>decide)];have hst₂:=W.frame 0 _ _ tk hst htk fun b _ o e=>e
 refine wpAny_pure ⟨plainId_quiet F.plain_extend_loop _,codeAny_extend_loopS W hn _ hSf _ n 0 _ _ _ rfl (zero_le _) hst₂ hS (ItemsOf.nil P) fun s' acc' c' hm hS' hacc=>?_⟩;exact hR s' acc' c' (Moved.trans W.gtrans ((Moved.refl W.grefl).then_heap htk fun b o hb e=>e) hm) hS' hacc
theorem Dm {T:String} (W:WalksS prog w A.in1 I fp wr G n P St) (hT:∀ i s,St i s->s.TypeIs (.ref I) T) (hTm:T="range_iterator" \/ T="list_reverseiterator") (hh:P0 prog w A.in1 I St) (S:Addr) (hst:St 0 s) (hSf:S∉fp) (hI:I∈fp)
  (hS:s.heap.get? S=some { cls:=.type "list",data:=.seq #[] })
  (hR:∀ s' acc' c',Moved (S::wr) G s s'->s'.heap.get? S=some { cls:=.type "list",dict:=none,data:=.seq acc' c',slots:=#[] }->ItemsOf P acc' n->R (.ok (.ret .none)) s') (hn:n<=sizeLine) :
  wpAny (model prog w) A.in1 (Builtin.«list.__init__» ⟨[.ref S,.ref I],[]⟩)
   (fun fin s'=>match fin with | .done f=>R (.ok f) s' | .again c'=>c'.quiet=true/\codeAny (model prog w) A c' R s') (fun e s'=>R (.error e) s') s:=by
 show wpAny _ A.in1 (do let old ← Builtin.List.listItems (.ref S);Builtin.List.listUpdate (.ref S) (fun _=>#[]);letGo old.toList.reverse;Builtin.List.listExtendWith (.ref S) (.ref I) .none) _ _ s;refine wpAny_bind ?_;unfold Builtin.List.listItems;refine wpAny_bind (wpAny_seqItems hS rfl (wpAny_pure ?_));show wpAny _ A.in1 (updateSeq S (fun _=>#[]) >>= fun _=>letGo (#[]:Array Value).toList.reverse >>= fun _=>Builtin.List.listExtendWith (.ref S) (.ref I) .none) _ _ s;refine wpAny_bind (wpAny_updateSeq hS rfl ?_);have hS₂:=get?_update_self (Obj.mapSeq (fun _=>(#[]:Array Value))) hS rfl;have oth:∀ b o,b≠S->s.heap.get? b=some o->(s.heap.update S (Obj.mapSeq (fun _=>(#[]:Array Value)))).get? b=some o :=
  fun b o hb e=>(get?_update_other _ _ (Ne.symm hb)).trans e
 refine wpAny_bind (wpAny_letGo ?_);refine Ic (hn:=hn) W hT hTm hh S .none _ (W.frame 0 s _ s.toks hst (le_refl _) fun b hb o e=>oth b o (fun h=>hSf (h▸hb)) e) hSf hI hS₂ fun s' acc' c' hm hS' hacc=>?_
 exact hR s' acc' c' (Moved.trans W.gtrans ((Moved.refl W.grefl).then_heap (le_refl _) fun b o hb e=>oth b o (fun h=>hb (h▸mem_cons_self)) e) hm) hS' hacc
end
section
variable {prog:Program} {w:World} {A:Around} {E:Value->Shared->Prop} {s:Shared}
variable {I:Addr} {fp wr:List Addr} {n:Nat} {P:Nat->Value->Prop} {St:Nat->Shared->Prop}
theorem P4 {T:String} {Q:Value->Shared->Prop} (W:WalksS prog w A.in1.in1 I fp wr (fun a b=>b=a) n P St) (hT:∀ i s,St i s->s.TypeIs (.ref I) T) (hTm:T="range_iterator" \/ T="list_reverseiterator") (hh:P0 prog w A.in1.in1 I St) (hst:St 0 s) (hfp:∀ b∈fp,b<s.heap.objs.size) (hI:I∈fp)
  (hQ:∀ h' tk acc' c',(∀ b o,b∉wr->s.heap.get? b=some o->h'.get? b=some o)->h'.get? s.heap.objs.size=some { cls:=.type "list",dict:=none,data:=.seq acc' c',slots:=#[] }->ItemsOf P acc' n->Q (.ref s.heap.objs.size) { s with heap:=h',toks:=tk }) (hn:n<=sizeLine) :
  wpAny (model prog w) A (call (.type "list") [.ref I]) Q E s:=by
 have hSf:s.heap.objs.size∉fp:=fun hm=>lt_irrefl _ (hfp _ hm)
 refine callType_codes (Q₁:=fun obj s₁=>obj=.ref s.heap.objs.size/\s₁={ s with heap:=s.heap.push { cls:=.type "list",data:=.seq #[] } }) F.called_list (F.typeCall_list_1 _) F.entry_list_init
  (code_list_new _ ⟨rfl,rfl⟩) fun obj s₁ h₁=>?_
 obtain ⟨rfl,rfl⟩:=h₁;have hS:(s.heap.push { cls:=.type "list",data:=.seq #[] }).get? s.heap.objs.size=some { cls:=.type "list",data:=.seq #[] }:=get?_push_size _ rfl;refine ⟨⟨_,hS,rfl⟩,F.args_list_init_2 _ _,Dm (hn:=hn) W hT hTm hh _ (W.frame 0 s _ s.toks hst (le_refl _) fun b _ o e=>get?_push_of_some _ e) hSf hI hS fun s' acc' c' hm hS' hacc=>?_⟩;refine ⟨rfl,?_⟩;rw [Moved.eq_with hm];refine hQ s'.heap s'.toks acc' c' (fun b o hb e=>hm.heap b o (fun hmem=>?_) (get?_push_of_some _ e)) hS' hacc;rcases mem_cons.mp hmem with e' | hmem
 ·exact absurd (lt_size e) (by rw [e'];exact lt_irrefl _)
 ·exact hb hmem
end
section
variable {prog:Program} {w:World} {A:Around}
theorem Z4p (it:Addr) (St:Nat->Shared->Prop) (hT:∀ s,St 0 s->s.TypeIs (.ref it) "list_reverseiterator"):P0 prog w A it St:=fun s Q E hst hQ=>by
 unfold Builtin.List.listLengthHint;refine wpAny_bind (wpAny_specialOf (hT s hst) F.nolen_lr ?_);show wpAny _ _ (specialOf (Value.ref it) (Str.ofString "__length_hint__") >>= _) _ _ _;refine wpAny_bind (wpAny_specialOf (hT s hst) F.hint_lr ?_)
 (generalize hid:("list_reverseiterator.__length_hint__" : String)=id0;(fail_if_success (clear hid id0));wp_delta;rw [show splitId id0=some ("list_reverseiterator","__length_hint__") from by subst hid;decide +kernel];subst hid)
 refine wpAny_bind (wpAny_isInstance (b:=true) (hT s hst) (by rw [isSubtype_type];kernel_rfl) ?_);exact wpAny_pure (hQ s.toks (le_refl _))
end
section
variable {prog:Program} {w:World} {A:Around} {E:Value->Shared->Prop} {s:Shared}
theorem R9 {it l h:Addr} {oh:Obj} {vh:Array Value} {Q:Option Value->Shared->Prop} (hh:A.handled=some (.ref h)) (hoh:s.heap.get? h=some oh) (hdh:oh.data=.fields vh) (hc2:vh[2]?=some .none) (hit:s.heap.IsRevIter it l (-1))
   (hQ:∀ h',ExtBut it s.heap h'->Q none { s with heap:=h' }):wpAny (model prog w) A (pyNext (.ref it)) Q E s:=by
 obtain ⟨o,ho,hc,hd⟩:=id hit;unfold pyNext;refine wpAny_bind (wpAny_attempt (wpAny_callSpecial?_slot (name:=Str.ofString "__next__") hit.typeIs F.slot_lri_next
   (wpAny_call_entry F.slot_lri_next hit.typeIs F.entry_lri_next ?_ (F.args_lri_next_1 _))))
 unfold Builtin.«list_reverseiterator.__next__»;refine wpAny_bind (wpAny_of_eq (a:=(Value.ref it,[])) rfl ?_);try dsimp only
 refine wpAny_bind (wpAny_field ho hd (x:=rawInt (-1)) rfl ?_);show wpAny _ _ (if (-1:Int)<0 then _ else _) _ _ s;rw [if_pos (by decide)];refine wpAny_bind (wpAny_rule ?_);first
 | show wpAny _ _ (newExc (.type "StopIteration") [] >>= _) _ _ _
 | (refine wpAny_bind ?_;show wpAny _ _ (newExc (.type "StopIteration") [] >>= _) _ _ _)
 refine wpAny_bind ?_;simp only [newExc,newTuple];refine wpAny_bind (wpAny_newObj_type ?_ (by size_fits));refine wpAny_bind (m:=firstArgMember _ _) (wpAny_of_eq (a:=Value.none) (by first | rfl | (simp only [firstArgMember];rfl)) ?_);refine wpAny_newObj_type ?_ (by size_fits);have hlt:=lt_size hoh;refine L2.Pn (A:=A.in1) (h:=h) hh ?_ (get?_push_size _ rfl) rfl (by simp;lia) (get?_push_of_some _ (get?_push_of_some _ hoh)) hdh hc2 ?_
 · intro z
   rw [z] at hlt;exact absurd hlt (not_lt.mpr (by first | (rw [size_push];exact le_succ _) | (show _<=(Heap.push _ _).objs.size;rw [size_push];exact le_succ _)))
 refine wpAny_bind (wpAny_isInstance (T:="StopIteration") (b:=true) ⟨_,get?_update_self _ (get?_push_size _ rfl) rfl,rfl⟩ isSubtype_stop ?_);refine wpAny_pure (hQ _ fun b ob hb eo=>?_);have hb2:=lt_size eo;refine (get?_update_other _ _ ?_).trans (get?_push_of_some _ (get?_push_of_some _ eo));intro z;rw [← z] at hb2;exact absurd hb2 (not_lt.mpr (by first | (rw [size_push];exact le_succ _) | (show _<=(Heap.push _ _).objs.size;rw [size_push];exact le_succ _)))
end
theorem Walks.listRevH {prog:Program} {w:World} {A:Around} (hs:List (Addr×Obj)) (hh:A.handled=none\/∃ p∈hs,A.handled=some (.ref p.1)/\∃ ve,p.2.data=.fields ve/\ve[2]?=some .none) (I l:Addr) (hne:l≠I) (hn:∀ p∈hs,p.1≠I) (items:Array Value) :
  Walks prog w A I (I::l::hs.map (·.1)) [I] items.size (fun i v=>items[items.size - 1 - i]?=some v) (fun i h=>i<=items.size/\h.IsRevIter I l ((items.size:Int) - 1 - (i:Int))/\h.IsList l items/\∀ p∈hs,h.get? p.1=some p.2) where
 sub:=fun b hb=>by simp at hb;simp [hb]
 frame:=fun _ _ _ x hk=>⟨x.1,x.2.1.at fun o e=>hk I (by simp) o e,x.2.2.1.at fun o e=>hk l (by simp) o e,fun p hp=>hk p.1 (mem_cons_of_mem _ (mem_cons_of_mem _ (mem_map_of_mem hp))) p.2 (x.2.2.2 p hp)⟩
 item:=fun i s Q E hi x hQ=>by
  have e:(items.size:Int) - 1 - (i:Int)=((items.size - 1 - i:Nat):Int):=by lia
  have hit:=x.2.1;rw [e] at hit;have hx:items[items.size - 1 - i]?=some (items[items.size - 1 - i]'(by lia)):=Array.getElem?_eq_getElem (by lia);refine wpAny_pyNext_rev_item hit x.2.2.1 hx fun h' hit' hs'=>?_
  have e2:((items.size - 1 - i:Nat):Int) - 1=(items.size:Int) - 1 - ((i+1:Nat):Int):=by lia
  rw [e2] at hit';exact hQ _ h' s.toks hx ⟨hi,hit',x.2.2.1.at fun o eo=>(hs'.2 l hne).trans eo,fun p hp=>(hs'.2 p.1 (hn p hp)).trans (x.2.2.2 p hp)⟩ fun b o hb eo=>hs'.extBut b o (fun h=>hb (by simp [h])) eo
 done:=fun s Q E x hQ=>by
  have e:(items.size:Int) - 1 - (items.size:Int) = -1:=by lia
  have hit:=x.2.1;rw [e] at hit;rcases hh with hh | ⟨p,hp,hh,ve,h1,h2⟩
  ·exact wpAny_pyNext_rev_end hh hit fun h' he'=>hQ h' s.toks fun b o hb eo=>he' b o (fun h=>hb (by simp [h])) eo
  ·exact R9 hh (x.2.2.2 p hp) h1 h2 hit fun h' he'=>hQ h' s.toks fun b o hb eo=>he' b o (fun h=>hb (by simp [h])) eo
 self:=fun _ _ _ _ x hQ=>wpAny_pyIter_revIter x.2.1 hQ
end PySem
namespace L2
open PySem PySem.Spec PyProof.Rows
section
variable {X:Cx} {m:Bool} {e:Expr} {f:Ev->Option Dat} {fs:Ev->Option (List Dat)}
theorem So (h:Heap) (o:Obj):(h.push o).objs.size=h.objs.size+1:=by cases h;exact Array.size_push ..
def dLR (fs:Ev->Option (List Dat)):Ev->Option (List Dat):=fun env=>match fs env with
 | some [.lst xs]=>some xs.reverse
 | _=>none
theorem Y2.rev:∀ {xs:List V} {us:List Value},Y2 xs us->Y2 xs.reverse us.reverse
 | [],[],_=>.nil
 | x::xs,u::us,.cons h r=>by rw [reverse_cons,reverse_cons];exact (Y2.rev r).append (.cons h .nil)
theorem Z2k {p1 p2 q1 q2:Pos} (hgL:Gl X "list") (hmL:X.mg "list" = none) (hgR:Gl X "reversed") (hmR:X.mg "reversed" = none) (ha:O9 true X [e] fs) (hc:HdN X:=by first | exact HdN.calm rfl | assumption)
  (hvL:bootBuiltins "list" = some (.type "list"):=by decide +kernel) (hvR:bootBuiltins "reversed" = some (.type "reversed"):=by decide +kernel)
  (hs1:starEach [.Call (.Name "reversed" p2) [e] [] q2] X.env=[(false,eval (.Call (.Name "reversed" p2) [e] [] q2) X.env)]:=by rfl)
  (hs3:starEach [e] X.env=[(false,eval e X.env)]:=by rfl) :
  PNd X (.Call (.Name "list" p1) [.Call (.Name "reversed" p2) [e] [] q2] [] q1) (dLR fs):=by
 intro pins s σ H Q I ⟨env,R,A,ds,k,e1,q⟩;unfold dLR at e1;split at e1
 case h_2=>cases e1
 rename_i xs en;cases e1;refine Call_ (R1 I hgL hmL hvL (callWith_type1 ?_ hs1 rfl));rw [hs1];refine Calls.spliced_cons ?_;refine Call_ (R1 I hgR hmR hvR (callWith_type1 (Wt (ha q2 pins s σ H (fun vs H1=>∃ v,Zs H H1/\vs=[v]/\Pk X.K A H1 (.lst xs) v) I ⟨env,R,A,[.lst xs],k,en,fun vs H1 s1 r1=>?_⟩) fun us s1 ⟨vs,H1,I1,r1,v,sm,ev,pv⟩=>?_) hs3 rfl))
 ·obtain ⟨v,e3,p1⟩:=r1.one
  exact ⟨v,s1,e3,p1⟩
 subst ev;obtain ⟨a,ys,ea,h1,r2⟩:=pv.lst;subst ea;obtain ⟨u,rfl,ru⟩:=Ji r1;cases ru;obtain ⟨its,rv0,pl,hz⟩:=I1.list h1.sq;refine call_reversed_list pl.isList ?_;refine Calls.spliced_nil ?_;have hlt:=I1.hok;obtain ⟨oa,hoa,_⟩:=id pl.isList;have hne:a≠s1.heap.objs.size:=ne_of_lt (lt_size hoa);obtain ⟨hs,hsh,hsg⟩:∃ hs:List (Addr×Obj),(X.A.in1.in1.handled=none\/∃ p∈hs,X.A.in1.in1.handled=some (.ref p.1)/\∃ ve,p.2.data=.fields ve/\ve[2]?=some .none)/\∀ p∈hs,s1.heap.get? p.1=some p.2:=by
  rcases hc _ _ _ _ I1 with z | ⟨eh,oh,vh,z1,z2,z3,z4⟩
  ·exact ⟨[],.inl z,fun p hp=>by cases hp⟩
  ·exact ⟨[(eh,oh)],.inr ⟨_,mem_singleton.mpr rfl,z1,vh,z3,z4⟩,fun p hp=>by rw [mem_singleton.mp hp];exact z2⟩
 have hsn:∀ p∈hs,p.1≠s1.heap.objs.size:=fun p hp=>ne_of_lt (lt_size (hsg p hp))
 have W:=(Walks.listRevH (prog:=X.prog) (w:=X.w) (A:=X.A.in1.in1) hs hsh s1.heap.objs.size a hne hsn its.toArray).toS;have hlen:=rv0.length;refine P4 W (T:="list_reverseiterator") (fun i s st=>st.2.1.typeIs) (.inr rfl) (Z4p _ _ fun s st=>st.2.1.typeIs) ⟨zero_le _,?_,pl.isList.at fun o eo=>get?_push_of_some _ eo,fun p hp=>get?_push_of_some _ (hsg p hp)⟩ ?_ (by simp) ?_ ?_
 ·refine ⟨_,get?_push_size _ rfl,rfl,?_⟩
  simp [revObj]
 ·intro b hb
  rcases mem_cons.mp hb with rfl | hb
  ·rw [So];exact Nat.lt_succ_self _
  ·rcases mem_cons.mp hb with rfl | hb
   ·exact lt_of_lt_of_le (lt_size hoa) (by rw [So];lia)
   ·obtain ⟨p,hp,rfl⟩:=mem_map.mp hb
    exact lt_of_lt_of_le (lt_size (hsg p hp)) (by rw [So];lia)
 ·intro h' tk acc' c' hk hl hi
  have kp:∀ b o,s1.heap.get? b=some o->h'.get? b=some o:=fun b o eb=>hk b o (fun hm=>by
   have hlt:=lt_size eb;rw [mem_singleton.mp hm] at hlt;exact lt_irrefl _ hlt) (get?_push_of_some _ eb)
  have eacc:acc'.toList=its.reverse:=by
   apply List.ext_getElem?;intro i;by_cases hi':i<its.length
   ·have hia:i<acc'.size:=by rw [hi.1];simpa using hi'
    have:=hi.2 i acc'[i] (by simp [hia]);rw [Array.getElem?_toList,Array.getElem?_eq_getElem hia,List.getElem?_reverse hi'];simpa using this.symm
   ·rw [List.getElem?_eq_none (l:=acc'.toList) (by rw [Array.length_toList,hi.1];simpa using hi'),List.getElem?_eq_none (l:=its.reverse) (by rw [List.length_reverse];exact Nat.le_of_not_lt hi')]
  generalize hS:({ heap:=s1.heap.push (revObj a ((its.toArray.size:Int) - 1)),gens:=s1.gens,drawn:=s1.drawn,toks:=s1.toks,os:=s1.os }:Shared).heap.objs.size=S at hl ⊢;have hSz:s1.heap.objs.size<=S:=by
   rw [← hS];show _<=(Heap.push _ _).objs.size;rw [So];exact le_succ _
  have I2:Inv X pins σ (We H1 S (.lst ys.reverse)) { s1 with heap:=h',toks:=tk }:=I1.laid kp hSz (show W9 X.prog X.w _ h' _ (.lst ys.reverse) from ⟨by rw [List.length_reverse];exact hz,acc'.toList,c',by rw [eacc];exact rv0.rev,by rw [Array.toArray_toList];exact hl⟩);exact ⟨.ref S,_,I2,rfl,(q.mono sm).at (vs:=ys.reverse) (by rw [List.length_reverse,← Zy r2];exact hz) (Z7h r2) _ (I1.hok.fresh hSz)⟩
 ·rw [size_toArray,← hlen];exact hz
def Za1:Dat->Dat->Option Dat
 | .str x,.int k=>if 1<=k/\k<=1000/\x.length<=1000 then some (.str (Txt.mul x k)) else none
 | _,_=>none
theorem Ae {α:Type} (x:Array α) (c:α):∀ (n:Nat) (acc:Array α),c∈(List.replicate n x).foldl (·++·) acc->c∈acc\/c∈x
 | 0,acc,h=>.inl h
 | n+1,acc,h=>by
  rw [List.replicate_succ,List.foldl_cons] at h;rcases Ae x c n _ h with h | h
  ·rcases Array.mem_append.mp h with h | h
   ·exact .inl h
   ·exact .inr h
  ·exact .inr h
theorem Z2j {x:Str} {k:Int} (h:PyData.strOk x=true):PyData.strOk (Txt.mul x k)=true:=by
 unfold Txt.mul;split
 ·unfold PyData.strOk Str.empty;simp
 ·split
  ·exact h
  ·unfold PyData.strOk at h ⊢
   rw [Array.all_eq_true'] at h ⊢;intro c hc;rcases Ae x.cps c _ _ hc with z | z
   ·simp at z
   ·exact h c z
theorem Zah:Mh X (binaryOp .Mult) Za1:=fun pins s σ H x y v u Q I rx ry zz=>by
 obtain ⟨A,a,b,d,mu,e,p1,p2,q⟩:=zz;unfold Za1 at e;split at e
 ·rename_i z k
  split at e
  ·rename_i hz
   cases e;obtain ⟨e1,k1⟩:=p1.str;have e2:=p2.int;subst e1 e2;obtain ⟨t,rfl⟩:=rx;obtain ⟨t',rfl⟩:=ry;have hl:(Txt.mul z k).length<=1000*1000:=len_mul_leN hz.2.2 hz.2.1;refine SB.mul (mulOk_of 1000 1000 hz.2.2 hz.2.1 (by lia) (by decide) (by decide)) fun t' k'=>⟨.str (Txt.mul z k),H,I.tok _,⟨_,rfl⟩,q.here (Gi (SOk.of (Z2j k1.ok) (le_trans hl (by decide))))⟩
  ·cases e
 ·cases e
def Rb:Dat->Dat->Option Dat
 | .int i,.int j=>Zcv (.int i) (.int j)
 | .str x,.int k=>Za1 (.str x) (.int k)
 | _,_=>none
theorem M2:Mh X (binaryOp .Mult) Rb:=Mh.or Zc5 Zah fun x y d e=>by
 unfold Rb at e;split at e
 ·exact .inl e
 ·exact .inr e
 ·cases e
end
end L2
namespace L2
open PySem
section
variable {prog:Program} {w:World} {A:Around} {E:Value->Shared->Prop} {h:Heap} {g:Array GenState} {d:Drawn} {t:Nat} {os:OsState}
variable {nm q:Str} {C N:Addr} {bs bm bmB:List Value} {hdct:Bool} {sn:List Str} {sub:List Value} {ab:Bool} {col:Option Bool} {dd:Option Addr} {k0 k1 k2 k3 k5:Option Value} {newId nid:String}
theorem Nf (T:OwnTail h [.type "ValueError",.type "Exception",.type "BaseException",.type "object"] bm) {e t0:Addr} {x:Value} {dct:Option Addr} {Q:Value->Shared->Prop}
  (hC:h.get? C=some (excClassObj nm q C N bs bm hdct sn sub ab col dd k0 k1 k2 k3 k5 newId)) (he:h.get? e=some { cls:=.ref C,dict:=dct,data:=.fields #[.ref t0,.none,.none,.none,.bool false,.none] })
  (hq:∀ h',h'.get? e=some { cls:=.ref C,dict:=dct,data:=.fields #[.ref h.objs.size,.none,.none,.none,.bool false,.none] }->(∀ b o,b≠e->h.get? b=some o->h'.get? b=some o)->h.objs.size<=h'.objs.size->Q .none ⟨h',g,d,t,os⟩) :
  wpAny (model prog w) A (call (.builtin "ValueError.__init__") [.ref e,x]) Q E ⟨h,g,d,t,os⟩:=by
 have F:=PySem.F.excBase_ValueError;refine wpAny_call (codeAny_call_builtin F.init.plain F.initEntry (wpAny_check_init_subU F T hC he rfl ?_));have he2:=get?_push_of_some { cls:=.type "tuple",data:=.seq #[x] } he
 wp_walk
 refine hq _ ?_ ?_ ?_
 ·rw [get?_update_self _ he2 rfl]
  rfl
 ·intro b o hb hbo
  rw [get?_update_other _ _ (Ne.symm hb)];exact get?_push_of_some _ hbo
 ·rw [Heap.size_after_update,size_push];exact le_succ _
end
end L2
namespace L2
open PySem PySem.Spec PyProof.Rows PySem.W
open PySem.Builtin PySem.Builtin.ObjectAttr
def Je:List Value:=[.type "ValueError",.type "Exception",.type "BaseException",.type "object"]
section
variable {prog:Program} {w:World} {A:Around} {E:Value->Shared->Prop} {s:Shared} {K:Frag} {x C a b:Addr} {cd:ClassData} {R:Result->Shared->Prop} {v:Value} {name:Str}
theorem Z8q {ox:Obj} {od:Option Obj} {tk:Tok} (X:K.In s.heap) (I:InstAt s.heap x ox C od) (hc:clsIn K C=some cd) (hm:cd.mro=.ref a::.ref b::Je) (ha:findIn K (.ref C) name=some none)
  (h:wpAny (model prog w) A.in1 (storeInOwnDict (.ref x) (.ref C) (.str name tk) name v false)
   (fun fin s'=>match fin with | .done f=>R (.ok f) s' | .again c'=>c'.quiet=true/\codeAny (model prog w) A c' R s') (fun e s'=>R (.error e) s') s) :
  codeAny (model prog w) A (.call (.builtin "object.__setattr__") ⟨[.ref x,.str name tk,v],[]⟩) R s:=by
 have SF:=PySem.F.store_object;have sub:Looks (model prog w) s.heap (isInstance (.ref x) (.type "object")) true:=I.type.andThen (looks_mroIn X (by unfold mroIn;rw [hc,Option.bind_some,hm];rfl));refine codeAny_call_builtin SF.slot.plain SF.entry (@check_slot (model prog w) _ _ s "object.__setattr__" "object" "__setattr__" (.ref x) [.str name tk,v] [] _ SF.kind SF.split sub (SF.args (.ref x) (.str name tk) v) ?_);have hmr:Looks (model prog w) s.heap (mroOf (.ref C)) cd.mro:=(looks_clsIn X hc).andThen .now;rw [osa_eq,refuse_eq];refine wpAny_bind (wpAny_bind (I.type.here (wpAny_bind (hmr.here ?_))));rw [hm,refuseLoop_ref,refuseLoop_ref,show Je=[.type "ValueError",.type "Exception",.type "BaseException",.type "object"] from rfl,PySem.F.store_ValueError.passes];refine wpAny_pure (wpAny_bind (I.type.here (wpAny_bind ((looks_findIn X ha).here (wpAny_bind ?_)))));exact wpAny_pure h
end
section
variable {prog:Program} {w:World} {A:Around} {E:Value->Shared->Prop} {h:Heap} {g:Array GenState} {d:Drawn} {t:Nat} {os:OsState} {x C:Addr} {v:Value} {name:Str} {oC:Obj} {cd:ClassData}
theorem Z2e {o:Obj} {tk:Tok} {Q:Fin->Shared->Prop} (hx:h.get? x=some o) (hc:o.cls=.ref C) (hnc:∀ c,o.data≠.cls c) (hdn:o.dict=none) (hC:h.get? C=some oC) (hcd:oC.data=.cls cd) (hhd:cd.hasDict=true)
   (hq:∀ h' tk',h'.get? x=some { cls:=o.cls,dict:=some h.objs.size,data:=o.data,slots:=o.slots }->h'.Ns1 h.objs.size (fun y=>if y=name then some v else none)->(∀ b ob,b≠x->h.get? b=some ob->h'.get? b=some ob)->h.objs.size<h'.objs.size->Q (.done (.ret .none)) ⟨h',g,d,tk',os⟩) :
   wpAny (model prog w) A (storeInOwnDict (.ref x) (.ref C) (.str name tk) name v false) Q E ⟨h,g,d,t,os⟩:=by
 unfold storeInOwnDict;repeat (first | (with_reducible refine wpAny_loadPart_at hx ?_;rw [hc]) | with_reducible refine wpAny_loadPart_at hC ?_ | wp_step)
 rw [hcd];refine wpAny_pure ?_;rw [hhd,if_neg (by decide),hdn];show wpAny _ _ (if (!true||!typeHasDict (Value.ref C))=true then pure none else _) _ _ _;rw [if_neg (by simp [typeHasDict])];have hx₁:(h.push { cls:=.type "dict",data:=.dict #[] }).get? x=some o:=get?_push_of_some _ hx;have hxs:x≠h.objs.size:=ne_of_lt (lt_size hx);split
 · rename_i c hcd'
   exact absurd hcd' (hnc c)
 · refine wpAny_bind (wpAny_alloc' ?_)
   refine wpAny_bind (wpAny_update' hx₁ ?_);refine wpAny_pure ?_;have hgd:((h.push { cls:=.type "dict",data:=.dict #[] }).update x fun o=>{ cls:=o.cls,dict:=some h.objs.size,data:=o.data,slots:=o.slots }).get? h.objs.size
       = some { cls:=.type "dict",data:=.dict #[] } :=
     (Heap.get?_update_ne _ _ _ _ hxs.symm).trans (Heap.get?_push_at rfl rfl)
   have hnd:((h.push { cls:=.type "dict",data:=.dict #[] }).update x fun o=>{ cls:=o.cls,dict:=some h.objs.size,data:=o.data,slots:=o.slots }).Ns h.objs.size (fun _=>none) :=
     ⟨_,#[],_,hgd,rfl,fun e he=>absurd he (by simp),fun _=>rfl⟩
   show wpAny _ _ (storeInDict h.objs.size (.str name tk) name v) _ _ _;unfold storeInDict newKeyGuard;refine wpAny_bind (wpAny_pure (wpAny_bind (wpAny_nsSet1 (Heap.Ns1.of_empty hnd) fun h' hn' hs=>?_)));obtain ⟨oD,esD,epD,hoD,hdD,hcD⟩:=hn'.count (Within.cons name v Within.nil);refine wpAny_bind (wpAny_lookBehind hoD (by rw [hdD];exact pastItsLine_dict (le_trans hcD (by rw [length_cons,List.length_nil,sizeLine_eq];lia))) ?_)
   wp_walk
   have hx':h'.get? x=some { cls:=o.cls,dict:=some h.objs.size,data:=o.data,slots:=o.slots }:=by
     refine (hs.2 x hxs).trans (get?_update_self _ hx₁ ?_);have hfr:=(Heap.get?_some_iff.mp hx).2;obtain ⟨oc,od,odt,osl⟩:=o;cases odt<;>first | rfl | exact hfr
   refine hq h' _ hx' hn' (fun b ob hbx hb=>?_) ?_
   · exact (hs.2 b (ne_of_lt (lt_size hb))).trans ((Heap.get?_update_ne _ _ _ _ hbx).trans (get?_push_of_some _ hb))
   · have h1:=hs.1
     rw [Heap.size_after_update,size_push] at h1;lia
theorem Bu {o:Obj} {dx:Addr} {mA:Str->Option Value} {ns:List Str} {tk:Tok} {Q:Fin->Shared->Prop} (hx:h.get? x=some o) (hc:o.cls=.ref C) (hdx:o.dict=some dx) (hns:h.Ns1 dx mA) (hw:Within mA ns) (hsz:ns.length<=1000) (hC:h.get? C=some oC) (hcd:oC.data=.cls cd) (hhd:cd.hasDict=true)
   (hq:∀ h' tk',h'.Ns1 dx (fun y=>if y=name then some v else mA y)->(∀ b ob,b≠dx->h.get? b=some ob->h'.get? b=some ob)->h.objs.size<=h'.objs.size->Q (.done (.ret .none)) ⟨h',g,d,tk',os⟩) :
   wpAny (model prog w) A (storeInOwnDict (.ref x) (.ref C) (.str name tk) name v false) Q E ⟨h,g,d,t,os⟩:=by
 unfold storeInOwnDict;repeat (first | (with_reducible refine wpAny_loadPart_at hx ?_;rw [hc]) | with_reducible refine wpAny_loadPart_at hC ?_ | wp_step)
 rw [hcd];refine wpAny_pure ?_;rw [hhd,if_neg (by decide),hdx];refine wpAny_pure ?_;show wpAny _ _ (storeInDict dx (.str name tk) name v) _ _ _;unfold storeInDict newKeyGuard;refine wpAny_bind (wpAny_pure (wpAny_bind (wpAny_nsSet1 hns fun h' hn' hs=>?_)));obtain ⟨oD,esD,epD,hoD,hdD,hcD⟩:=hn'.count (Within.cons name v hw);refine wpAny_bind (wpAny_lookBehind hoD (by rw [hdD];exact pastItsLine_dict (le_trans hcD (by rw [length_cons,sizeLine_eq];lia))) ?_)
 wp_walk
 exact hq h' _ hn' (fun b ob hbx hb=>(hs.2 b hbx).trans hb) (by have h1:h'.objs.size=h.objs.size:=hs.1;lia)
end
open PySem.Builtin PySem.Builtin.ObjectAttr
section
variable {prog:Program} {w:World} {A:Around} {E:Value->Shared->Prop} {h:Heap} {g:Array GenState} {d:Drawn} {t:Nat} {os:OsState} {x C dx:Addr} {v:Value} {name:Str} {oC o:Obj} {cd:ClassData} {K:Frag} {mA:Str->Option Value}
end
open PySem.Builtin PySem.Builtin.ObjectAttr
section
variable {prog:Program} {w:World} {A:Around} {E:Value->Shared->Prop} {h:Heap} {g:Array GenState} {d:Drawn} {t:Nat} {os:OsState} {x C:Addr} {o:Obj} {K:Frag}
structure XCls (K:Frag) (C:Addr):Prop where
 cd:∃ cd,clsIn K C=some cd/\cd.hasDict=true/\∃ a b,cd.mro=.ref a::.ref b::Je
 cl:findIn K (.ref C) "__class__" = some (some (.builtin "object.__class__"))
 ga:findIn K (.ref C) "__getattribute__" = some (some (.builtin "BaseException.__getattribute__"))
 gh:findIn K (.ref C) "__getattr__" = some none
 sa:findIn K (.ref C) "__setattr__" = some (some (.builtin "object.__setattr__"))
theorem XCls.ld (c:XCls K C) (X:K.In h):∃ oC cd,h.get? C=some oC/\oC.data=.cls cd/\cd.hasDict=true:=by
 obtain ⟨cd,hc,hd,_⟩:=c.cd;unfold clsIn at hc;split at hc
 ·rename_i c' d' cd' sl' ho
  cases hc;exact ⟨_,_,X _ _ ho,rfl,hd⟩
 ·cases hc
end
end L2
namespace L2
open PySem PySem.Spec PyProof.Rows
theorem Jq {P:Program} {w:World} {l:List Env} {ch:List Addr} {H:Hp} {h h':Heap} (ok:My P w H h) (k:L8 l ch h h') (hc:∀ b∈ch,H b=none) (hf:∀ b∈Sw l,H b=none):My P w H h':=fun a o e=>by
 have key:∀ b u,H b≠none->h.get? b=some u->h'.get? b=some u:=fun b u n q=>(k b u q fun z=>n (hc b z)).1 fun z=>n (hf b z)
 exact (ok a o e).stay (fun b u z q=>key b u (by rcases z with z | z<;>simp_all) q) (fun _ q=>q) fun _ _ q=>q
theorem Gx {l:List Env} {ch:List Addr} {H:Hp} {h h':Heap} (k:L8 l ch h h') (hc:∀ b∈ch,H b=none):Un (Sw l) ch H H h h' where
 keep:=fun b o q n hf hx=>(k b o q hx).1 hf
 slot:=fun b o q n hf hx=>(k b o q hx).2
 free:=fun b o q n hx=>n
 there:=fun b o q hx=>by obtain ⟨sl,z⟩:=(k b o q hx).2;exact ⟨_,z⟩
 tups:=fun b xs q=>q
 frzs:=fun b o u q=>q
 tbls:=fun b ps q=>⟨#[],by simpa using q⟩
def CXv (P:Program) (w:World) (base:Heap) (pl:Bool:=false):N9:=fun outer H s E ev s'=>∃ e C dct T H' c2,ev=.ref e/\s'.os=s.os/\AllBare s'.gens/\Un (Sw outer) [] H H' s.heap s'.heap/\My P w H' s'.heap /\
 s.heap.objs.size<=e/\s.heap.objs.size<=T/\H' e=none/\H' T=none/\G5 s'.heap base e T (.ref C,c2) dct .none/\(pl=true->c2=some .none)/\X9 H H' dct/\E (.ref C) dct H'
theorem Inv.noBase {X:Cx} {pins:List (Addr×Obj)} {σ:St} {H:Hp} {s:Shared} (I:Inv X pins σ H s) {e:Addr} (h:X.s₀.heap.objs.size<=e):X.base.get? e=none:=by
 cases q:X.base.get? e with
 | none=>rfl
 | some o=>exact absurd (lt_size (I.ok.bs e o q).1) (not_lt.mpr h)
theorem Km {P:Program} {w:World} {K:PySem.W.Frag} {mg:Str->Option Value} {base:Heap} {pl:Bool} {Y:Cx} {N:List Str} {qual:Str} {scope:Scope} {f:Addr} {cd:Value} {A:Around} {outer:List Env} {s:Shared} {H:Hp} {E:XK} {pins:List (Addr×Obj)} {σ:St} {H':Hp} {s':Shared} {e C:Addr} {dct:Option Addr}
  (I:Inv (Qh (CXv P w base pl) P w K mg base N qual scope f cd A outer s H E) pins σ H' s') (x:XSt Y pins H' s'.heap e C dct) (hY:Y={ Qh (CXv P w base pl) P w K mg base N qual scope f cd A outer s H E with pl:=pl }) (hnw:X9 H H' dct) (q:E (.ref C) dct H') :
  (Qh (CXv P w base pl) P w K mg base N qual scope f cd A outer s H E).xe (.ref e) s':=by
 subst hY;have hfr:(A.deeper (envOfC qual scope s.heap.objs.size f cd)).frames=some (envOfC qual scope s.heap.objs.size f cd::outer):=I.ok.frames;have hl:s'.heap.FunFrames base (envOfC qual scope s.heap.objs.size f cd::outer):=I.stack;have hkb:base.StaysIn s'.heap:=I.bk;have lo:s.heap.objs.size<=e:=x.lo;have hen:base.get? e=none:=I.noBase x.lo;have bs:Un (Sw outer) [] H H' s.heap s'.heap:=I.base;have hfree:∀ b∈Sw (envOfC qual scope s.heap.objs.size f cd::outer),H' b=none:=I.stkFree;have fin:∀ (h':Heap) (T':Addr) (c2:Option Value) (ch:List Addr),(pl=true->c2=some .none)->(∀ b∈ch,H' b=none/\s.heap.objs.size<=b)->s.heap.objs.size<=T'->H' T'=none->G5 h' base e T' (.ref C,c2) dct .none->L8 (envOfC qual scope s.heap.objs.size f cd::outer) ch s'.heap h' ->
   CXv P w base pl outer H s E (.ref e) { s' with heap:=h' }:=fun h' T' c2 ch hc2 hch hT hTn ht kp=>by
  have ncb:∀ {b:Addr} {o:Obj},s.heap.get? b=some o->b∉ch:=fun {b o} q z=>absurd (lt_size q) (not_lt.mpr (hch b z).2)
  have nfr:∀ {b:Addr} {o:Obj},s.heap.get? b=some o->b∉Sw outer->b∉Sw (envOfC qual scope s.heap.objs.size f cd::outer):=fun {b o} q n z=>by
   rcases mem_cons.mp (I.stkSub b z) with e1 | e1
   ·have:b=s.heap.objs.size:=e1
    exact absurd (lt_size q) (by rw [this];exact lt_irrefl _)
   ·exact n e1
  refine ⟨e,C,dct,T',H',c2,rfl,I.os,I.bare,⟨?_,?_,?_,?_,bs.tups,bs.frzs,bs.tbls⟩,Jq I.hok kp (fun b z=>(hch b z).1) hfree,lo,hT,x.un,hTn,ht,hc2,hnw,q⟩
  ·exact fun b o q n hf hx=>(kp b o (bs.keep b o q n hf hx) (ncb q)).1 (nfr q hf)
  ·intro b o q n hf hx
   obtain ⟨sl,z⟩:=bs.slot b o q n hf hx;obtain ⟨sl',z'⟩:=(kp b _ z (ncb q)).2;exact ⟨sl',z'⟩
  ·exact fun b o q n hx=>bs.free b o q n hx
  ·intro b o q hx
   obtain ⟨o',z⟩:=bs.there b o q hx;obtain ⟨sl,z'⟩:=(kp b o' z (ncb q)).2;exact ⟨_,z'⟩
 have sz:s.heap.objs.size<=s'.heap.objs.size:=I.sz;rcases x.ob with ⟨o,vs,he,hc,hd,hda,h1,hp⟩ | ⟨T,c2,hT,hTn,_,ht,hp⟩
 ·refine Xc hfr hl rfl he hkb hen hda h1 fun h' T' z0 z1 z2 z3 z4=>?_
  rw [hc,hd] at z3;exact fin h' T' _ [e] hp (fun b hb=>by rw [mem_singleton.mp hb];exact ⟨x.un,lo⟩) (le_trans sz z0) (I.hok.fresh z0) z3 z4
 ·refine Zc1 hfr hl rfl ht hkb hen fun h' T' z0 z1 z2 z3 z4=>?_
  refine fin h' T' _ [e,T] hp (fun b hb=>?_) (le_trans sz z0) (I.hok.fresh z0) z3 z4;rcases mem_cons.mp hb with e1 | e1
  ·rw [e1];exact ⟨x.un,lo⟩
  ·rw [mem_singleton.mp e1];exact ⟨hTn,hT⟩
def Z0e (K:PySem.W.Frag) (fr:Bool) (R:AS) (H:Hp) (Q:VK) (E:XK):Rs->Prop
 | .ok d=>∀ v H',Zs H H'->Rp K (av H' R) d v->(fr=true->NwT K ⟨H,R,true⟩ H' d v)->Q v H'
 | .exc c fs=>∀ C dct H',Zs H H'->T4 K c C->Xg K (av H' R) dct fs->E (.ref C) dct H'
 | .no=>False
def spX (K:PySem.W.Frag) (fr:Bool) (p:Nat) (F:List Dat->Rs):Sp:=fun vs H Q E=>vs.length=p/\∃ ds R,T7 R H/\Wk K (av H R) ds vs/\Z0e K fr R H Q E (F ds)
structure CalX (P:Program) (w:World) (K:PySem.W.Frag) (mg:Str->Option Value) (base:Heap) (k:Nat) (x:Str) (ps:List Str) (fr:Bool) (F:List Dat->Rs) (pl:Bool:=false):Prop where
 ex:∃ f fd,FnOk P w K mg base (CXv P w base pl) k f fd ps (spX K fr ps.length F)/\mg x=some (.ref f)/\PySem.W.keepIn K (.ref f)=true/\Jw K fd ps []
 len:∀ ds,F ds≠.no->ds.length=ps.length
section
variable {P:Program} {w:World} {K:PySem.W.Frag} {mg:Str->Option Value} {base:Heap}
theorem Fun.okX {x qual:Str} {st:Stmt} {f:Addr} {fd:FuncData} {N ps:List Str} {k:Nat} {sp:Sp} {CX:N9} (F:Fun K x qual st f fd) (S:FnScope N ps (Z6 st)) (len:∀ vs H Q E,sp vs H Q E->vs.length=ps.length)
  (hbody:∀ (cdv:Value) (A:Around) (outer:List Env) (s:Shared) (H:Hp) (vs:List V) (Q:VK) (E:XK),Room k (A.deeper (envOfC qual (Z6 st) s.heap.objs.size f cdv))->sp vs H Q E ->
   ∃ t,Sx (Qh CX P w K mg base N qual (Z6 st) f cdv A outer s H E) (Y8 st) t/\t { nx:=fun _ H'=>Q .non H',rt:=Q } (start N vs) H):FnOk P w K mg base CX (k+1) f fd ps sp:=by
 obtain ⟨oc,od,kV,doc,pm,an,cdv,ct,osl,rfl,lk,hcd⟩:=F.ex;exact Z8u lk hcd S len fun A outer s H vs Q E hr hsp=>hbody cdv A outer s H vs Q E hr hsp
theorem O1 {n p:Nat} {g:Ev->Fl} {ds:List Dat} (h:Wa n p g ds≠.no):ds.length=p:=by
 unfold Wa at h;split at h
 ·assumption
 ·exact absurd rfl h
end
section
variable {X:Cx} {m fr fr':Bool} {F:List Dat->Rs} {k:Nat} {x:Str} {ps:List Str} {e:Expr} {es:List Expr} {fs:Ev->Option (List Dat)} {p pos:Pos}
def tXx (X:Cx) (fr:Bool) (F:List Dat->Rs) (fs:Ev->Option (List Dat)):TE:=fun σ H Q=>∃ env B A ds,EnvOk X.K B A H σ env/\fs env=some ds/\match F ds with
 | .ok d=>∀ v H',Zs H H'->Rp X.K (av H' A) d v->Q v H'
 | .exc c fl=>∀ A' H' σ',Step A H A' H'->EnvOk X.K B A' H' σ' env->σ'=σ->XW X B.H₀ A' H' σ' c fl
 | .no=>False
theorem Z3k {pl:Bool} (C:CalX X.prog X.w X.K X.mg X.base k x ps fr F pl) (hr:Room k X.A) (ha:O9 false X (e::es) fs) (hg:Gl X x:=by rfl)
  (hdb:(x==("__debug__" : Str))=false:=by decide) (he:starEach (e::es) X.env=(false,eval e X.env)::starEach es X.env:=by rfl) (hpl:(backTo pos (starEach es X.env)).any (·.1)=false:=by rfl) (hp:X.pl=true->pl=true:=by first | exact fun _=>rfl | exact fun z=>nomatch z) :
  PE X (.Call (.Name x p) (e::es) [] pos) (tXx X fr F fs):=by
 obtain ⟨f,fd,Ff,hm,hk,hb⟩:=C.ex;intro pins s σ H Q I ⟨env,B,A,ds,kk,e1,q⟩;refine wpAny_Call_Name_kw (U9 I hg hm ?_ hdb);refine PySem.W.callWith_K (h₀:=X.base) I.ok.mod.kin hk (Wt (ha pos pins s σ H (fun vs H1=>Zs H H1/\Wk X.K (av H1 A) ds vs) I ⟨env,B,A,ds,kk,e1,fun vs H1 s1 rs=>⟨s1,rs.rps⟩⟩) fun us s1 ⟨vs,H1,I1,r,sm,rs⟩=>⟨I1.kIn,?_⟩) he hpl;have hne:F ds≠.no:=fun z=>by rw [z] at q;exact q
 have hl:us.length=ps.length:=by rw [← r.length,Zy rs];exact C.len ds hne
 let E:XK:=fun cls dct H'=>∃ c fl C,F ds=.exc c fl/\cls=.ref C/\T4 X.K c C/\Zs H1 H'/\Xg X.K (av H' A) dct fl
 refine wpAny_call (codeAny_mono (Ff.run X.A X.stack s1 H1 ⟨us,[]⟩ us vs Q E hr I1.env0 (by simpa using hb s1 us I1.kIn (by simpa using hl)) r ⟨by rw [Zy rs];exact C.len ds hne,ds,A,kk.mu.mono sm,rs,?_⟩) fun rr s' hq=>?_)
 ·unfold Z0e
  split
  ·rename_i d hd
   rw [hd] at q;exact fun v H' s2 r2 _=>q v H' (sm.trans s2) r2
  ·rename_i c fl hd
   exact fun C dct H' s2 hc hf=>⟨c,fl,C,hd,rfl,hc,s2,hf⟩
  ·rename_i hd
   exact hne hd
 ·cases rr with
  | error ev =>
   obtain ⟨ex,C,dct,T,H',c2,rfl,ho,hbr,un,hok,h1,h2,h3,h4,ht,hc2,hnw,c,fl,C',hF,eC,hc,sm2,hf⟩:=hq;cases eC;rw [hF] at q;have I2:Inv X pins σ H' s':=I1.call' (ch:=[]) ho un hok hbr (fun b z=>absurd z (by simp));have sz:X.s₀.heap.objs.size<=s1.heap.objs.size:=I1.sz;have np:∀ {a:Addr},s1.heap.objs.size<=a->∀ p∈X.pn++pins,p.1≠a:=fun {a} ha p hp z=>by
    have:=(I1.pin p hp).1;rw [z] at this;exact absurd (lt_size this) (not_lt.mpr ha)
   exact q A H' σ (Step.same (sm.trans sm2)) (kk.mono (sm.trans sm2)) rfl pins s' ex C dct I2 hc ⟨le_trans sz h1,h3,.inr ⟨T,c2,le_trans sz h2,h4,np h2,ht,fun z=>hc2 (hp z)⟩,np h1⟩ hf (hnw.mono fun b z=>kk.h0.none (sm.none z))
  | ok fl =>
   cases fl with
   | ret u=>exact I1.after hq
   | next=>exact False.elim hq
   | brk=>exact False.elim hq
   | cont=>exact False.elim hq
def Hx (i:Nat) (F:List Dat->Rs) (fs:Ev->Option (List Dat)):Ev->Fl:=fun env=>match fs env with
 | none=>.no
 | some ds=>match F ds with
  | .ok d=>.next (env.set i (.fz d))
  | .exc c fl=>.exc env c fl
  | .no=>.no
theorem Z2o (i:Nat) {x:Str} {pos':Pos} (hN:X.N.Nodup) (hi:X.N[i]?=some x) (hx:Cy X.env.scope x) (he:PE X e (tXx X fr' F fs)) (hs:swapsWith e (some (.Name x pos')) pos.line X.env=pure false:=by rfl)
  (hf:X.fn x=true\/X.env.scope.names.lookup x=some .local:=by first | exact .inl rfl | exact .inr rfl | assumption):Gc fr X (.Assign [.Name x pos'] e pos) (Hx i F fs):=(Ow hN hi hx he hs hf).weak fun D σ H zz=>by
 obtain ⟨env,B,A,k,hst,q⟩:=zz;unfold Hx at q;split at q
 ·exact q.elim
 rename_i ds e1;refine ⟨env,B,A,ds,k,e1,?_⟩;split at q
 ·rename_i d hd
  exact fun v H' s r=>q A H' _ (Step.same s) ((k.mono s).put i r)
 ·rename_i c fl hd
  exact fun A' H' σ' s k' _=>q A' H' σ' s k'
 ·exact q.elim
def Xz (F:List Dat->Rs) (fs:Ev->Option (List Dat)):Ev->Fl:=fun env=>match fs env with
 | none=>.no
 | some ds=>match F ds with
  | .ok d=>.ret d
  | .exc c fl=>.exc env c fl
  | .no=>.no
theorem Z9a (he:PE X e (tXx X fr' F fs)):Gc false X (.Return (some e) pos) (Xz F fs):=(P6 he).weak fun D σ H zz=>by
 obtain ⟨env,B,A,k,hst,q⟩:=zz;unfold Xz at q;split at q
 ·exact q.elim
 rename_i ds e1;refine ⟨env,B,A,ds,k,e1,?_⟩;split at q
 ·rename_i d hd
  exact fun v H' s r=>q v H' (Pa k s r).1 (Pa k s r).2 (fun z=>by cases z)
 ·rename_i c fl hd
  exact fun A' H' σ' s k' _=>q A' H' σ' s k'
 ·exact q.elim
end
theorem Be:∀ i:Fin 1000,(Str.ofString (toString (i.val:Int))).length<=3:=by decide +kernel
theorem Hw {i:Int} (h0:0<=i) (h1:i<1000):(Str.ofString (toString i)).length<=3:=by
 have:=Be ⟨i.toNat,by lia⟩;have e:((i.toNat:Nat):Int)=i:=by lia
 rw [e] at this;exact this
theorem Hi:∀ (ts:List Str) (k:Nat) (acc:Str),(textFrom k acc ts).length<=acc.length+piled ts
 | [],k,acc=>by rw [piled_nil];exact le_refl _
 | t::ts,k,acc=>by
  have h:=Hi ts (k+1) (acc++(if k > 0 then ", " else "" : String)++t);rw [piled_cons];have e:(acc++(if k > 0 then ", " else "" : String)++t).length<=acc.length+2+t.length:=by
   rw [strLen_append,strLen_append];have:(Str.ofString (if k > 0 then ", " else "")).length<=2:=by split<;>decide
   lia
  show (textFrom (k+1) (acc++(if k > 0 then ", " else "" : String)++t) ts).length<=_;lia
def Gr (ns:List Int):Prop:=ns.length<=500/\∀ n∈ns,0<=n/\n<1000
theorem F9 {ns:List Int} (h:Gr ns):(PyData.shown (.list (ns.map PyData.int))).length<=3000:=by
 have key:∀ ns:List Int,(∀ n∈ns,0<=n/\n<1000)->piled (PyData.shownAll (ns.map PyData.int))<=5*ns.length:=by
  intro ns;induction ns with
  | nil=>intro _;simp [PyData.shownAll,piled_nil]
  | cons n ns ih =>
   intro hn;have h1:=ih fun m hm=>hn m (mem_cons_of_mem _ hm)
   have h2:=hn n mem_cons_self;rw [map_cons,PyData.shownAll,piled_cons,length_cons];have:(PyData.shown (.int n)).length<=3:=by rw [PyData.shown];exact Hw h2.1 h2.2
   lia
 have hk:=key ns h.2;have h5:=h.1;rw [PyData.shown];show (textFrom 0 "[" _++"]").length<=_;rw [strLen_append];have:=Hi (PyData.shownAll (ns.map PyData.int)) 0 "[";have e1:(Str.ofString "[").length=1:=by decide
 have e2:(Str.ofString "]").length=1:=by decide
 lia
theorem Ry:∀ {ns:List Int},(∀ n∈ns,0<=n/\n<1000)->PyData.showableAll (ns.map PyData.int)=true
 | [],_=>by simp [PyData.showableAll]
 | n::ns,h=>by
  have h2:=h n mem_cons_self;rw [map_cons,PyData.showableAll,Ry fun m hm=>h m (mem_cons_of_mem _ hm),Bool.and_true,PyData.showable];have h3:n.natAbs<2^1920:=lt_of_lt_of_le (show n.natAbs<2^10 by lia) (pow_le_pow_right (by decide) (by decide));by_cases h0:n.natAbs=0
  ·rw [h0];decide
  ·exact decide_eq_true ((Nat.log2_lt h0).mpr h3)
theorem Hk:∀ (ns:List Int),PyData.hasDictAll (ns.map PyData.int)=false
 | []=>by simp [PyData.hasDictAll]
 | n::ns=>by rw [map_cons,PyData.hasDictAll,Hk ns,PyData.hasDict];rfl
theorem Ku:∀ (ns:List Int),PyData.depthAll (ns.map PyData.int)=0
 | []=>by simp [PyData.depthAll]
 | n::ns=>by rw [map_cons,PyData.depthAll,Ku ns,PyData.depth];rfl
theorem Kx {h:Heap}:∀ {ns:List Int} {its:List Value},Y2 (ns.map V.int) its->ReadsAll h its (ns.map PyData.int) []
 | [],[],_=>.nil
 | [],_::_,r=>by have:=r.length;simp at this
 | _::_,[],r=>by have:=r.length;simp at this
 | n::ns,v::its,r=>by
  cases r with
  | cons h1 r' =>
   obtain ⟨t,rfl⟩:=h1;exact .cons (as:=[]) (bs:=[]) (.int n t) (Kx r')
section
variable {X:Cx}
def Zbn (K:PySem.W.Frag) (te:TE) (r:TJ):TJ:=fun σ H acc Q=>te σ H fun x H1=>((∃ i:Int,x=.int i/\0<=i/\i<1000)\/∃ a ns,x=.ref a/\SL K H1 a (ns.map V.int)/\Gr ns)/\acc.length<=100000/\∀ y:Str,y.length<=3000->r σ H1 (acc++y) Q
theorem Pe {k:Nat} (hr:RoomN k X.A) {e:Expr} {pos:Pos} {te:TE} {vs:List Expr} {r:TJ} (he:PE X e te) (hrr:PJ X vs r):PJ X (.FormattedValue e (-1) none pos::vs) (Zbn X.K te r):=by
 intro pins s σ H acc Q I hz h;refine joinParts_cons (FormattedValue_plain (Wt (he pins s σ H _ I h) fun v s1 ⟨x,H1,I1,r1,hx,hacc,q⟩=>?_));have hle:∀ y:Str,y.length<=3000->(acc++y).length<=sizeLine:=fun y hy=>by rw [strLen_append,sizeLine_eq];lia
 rcases hx with ⟨i,rfl,h0,h1⟩ | ⟨a,ns,rfl,hS,hsm⟩
 ·obtain ⟨t,rfl⟩:=r1
  have hy:(Str.ofString (toString i)).length<=3000:=le_trans (Hw h0 h1) (by decide);refine formatField_int_small ?_ ⟨hle _ hy,hrr pins _ σ H1 _ Q (I1.tok _) (hle _ hy) (q _ hy)⟩;by_cases h00:i.natAbs=0
  ·rw [h00];decide
  ·exact (Nat.log2_lt h00).mpr (lt_of_lt_of_le (show i.natAbs<2^10 by lia) (pow_le_pow_right (by decide) (by decide)))
 ·cases r1
  obtain ⟨its,n,w1,g1,_⟩:=hS.get I1;have hy:=F9 hsm;have rd:Reads s1.heap (.ref a) (.list (ns.map PyData.int)) [a]:=.list g1 rfl rfl (by simpa using Kx w1);refine formatField_of_reads (h₀:=s1.heap) rd (by rw [PyData.showable];exact Ry hsm.2) (PyData.noDict_hsm (by rw [PyData.hasDict];exact Hk ns)) hr.gd (by rw [PyData.depth,Ku];have:=hr.un;lia) (fun _ _ q=>q) (fun h' u tk hk=>?_) (le_trans hy (by decide));exact ⟨hle _ hy,hrr pins _ σ H1 _ Q (I1.kept hk) (hle _ hy) (q _ hy)⟩
theorem B8 {k:Nat} (hr:Room k X.A) {e:Expr} {pos:Pos} {te:TE} {vs:List Expr} {r:TJ} (he:PE X e te) (hrr:PJ X vs r):PJ X (.FormattedValue e (-1) none pos::vs) (Zbn X.K te r):=Pe hr.n he hrr
end
end L2
namespace L2
open PySem PySem.Spec PyProof.Rows PySem.W
theorem C6 {K:Frag} {h:Heap} {N:Addr} {mg:Str->Option Value} {n:Str} {v:Value} (X:K.In h) (G:h.Ns N mg) (e:nsIn K N n=some (some v)):mg n=some v:=by
 obtain ⟨o,es,ep,ho,hd,_,hf⟩:=G;unfold nsIn at e;split at e
 ·rename_i c d es' n' sl q
  have:=X _ _ q;rw [ho] at this;cases this;cases hd;split at e
  ·rename_i en he
   cases e;rw [← hf];unfold nsFind findBy;rw [← Array.find?_toList,he];rfl
  ·split at e<;>cases e
 ·cases e
def Qi (K:Frag) (C fI D:Addr):Bool:=match K.lookup C with
 | some ⟨.type "type",_,.cls cd,sl⟩=>(match cd.mro,sl.toList with
  | .ref C'::bm,[_,_,_,_,some (.builtin n),_]=>C'==C&&n=="ValueError.__new__" && !cd.hasDel&&cd.hasDict&&bm==.ref D::Je&&tailIn K Je bm&&nsOkIn K cd.ns&&nsIn K cd.ns "__init__" == some (some (.ref fI))
  | _,_=>false)
 | _=>false
theorem K8 {K:Frag} {h:Heap} {C fI D:Addr} (X:K.In h) (q:Qi K C fI D=true):∃ nm qn N bs sn sub ab col dd k0 k1 k2 k3 k5 mN,
  h.get? C=some (excClassObj nm qn C N bs (.ref D::Je) true sn sub ab col dd k0 k1 k2 k3 k5 "ValueError.__new__")/\h.Ns N mN/\mN "__init__" = some (.ref fI)/\OwnTail h Je (.ref D::Je):=by
 unfold Qi at q;split at q
 ·rename_i dd cd sl ho
  split at q
  ·rename_i C' bm k0 k1 k2 k3 n k5 hm hs
   simp only [Bool.and_eq_true,beq_iff_eq,Bool.not_eq_true'] at q;obtain ⟨⟨⟨⟨⟨⟨⟨rfl,rfl⟩,hdel⟩,hdi⟩,rfl⟩,ht⟩,hok⟩,hni⟩:=q;obtain ⟨nm,bs,mro,ns,qn,hd,sn,sub,ab,col,del⟩:=cd;dsimp only at hm hdel hok hni hdi;subst hm hdel hdi;have hsl:sl=#[k0,k1,k2,k3,some (.builtin "ValueError.__new__"),k5]:=by
    obtain ⟨l⟩:=sl;simp only at hs;rw [hs]
   subst hsl;have G:h.Ns ns (h.nsMap ns):=.of_isNs (isNs_of_in X hok);exact ⟨nm,qn,ns,bs,sn,sub,ab,col,dd,k0,k1,k2,k3,k5,_,X _ _ ho,G,C6 X G hni,tail_of_in X ht⟩
  ·cases q
 ·cases q
def Dl (e C:Addr) (dct:Option Addr) (h:Heap):Prop:=∃ t:Addr,h.get? e=some { cls:=.ref C,dict:=dct,data:=.fields #[.ref t,.none,.none,.none,.bool false,.none] }
theorem Zbr {H:Hp} {a:Addr} {o:HO} (h:H a=some o):We H a o=H:=by
 funext b;unfold We;split
 ·rename_i e;rw [e,h]
 ·rfl
theorem Pi {P:Program} {w:World} {H:Hp} {h:Heap} {e C:Addr} {dct:Option Addr} (x:Dl e C dct h):W9 P w H h e (.ext (Dl e C dct)):=by
 obtain ⟨t,ht⟩:=x;exact ⟨⟨t,ht⟩,⟨_,ht⟩,fun h1 h2 ⟨t,q⟩ k=>⟨t,k _ q⟩⟩
structure BaseC (K:Frag) (mg:Str->Option Value) (D:Addr):Prop where
 mg:mg "CalmError" = some (.ref D)
 ga:specialIn K (.ref D) "__getattribute__" = some (some (.builtin "type.__getattribute__"))
 rd:readsIn K D (.type "type")=true
 fi:findCls K (.ref D) (.type "type") "__init__" = some (.val (.builtin "ValueError.__init__"))
section
variable {X:Cx} {e:Expr} {es:List Expr} {t:TA} {p apos pos pos':Pos} {D:Addr}
def Cq (K:Frag) (t:TA):TE:=fun σ H Q=>t σ H fun vs H1=>∃ e C dct v fI D,vs=[.ref e,v]/\H1 e=some (.ext (Dl e C dct))/\Qi K C fI D=true/\Q .non H1
theorem Im {pl:Sem Bool} (B:BaseC X.K X.mg D) (ha:PA X (e::es) t) (hg:Gl X "CalmError" := by rfl) (he:starEach (e::es) X.env=(false,eval e X.env)::starEach es X.env:=by rfl) (hpl:(backTo pos (starEach es X.env)).any (·.1)=false:=by rfl)
  (ht:eval (.Call (.Attribute (.Name "CalmError" p) "__init__" apos) (e::es) [] pos) X.env=(do
   let ov ← eval (.Name "CalmError" p) X.env
   standAt apos.atName
   let (f,first) ← holding [ov] (getMethod ov "__init__" pl)
   callWith pos f first (backTo pos (starEach (e::es) X.env)) (backToKw pos (keywordEach [] X.env))):=by rfl) :
  PE X (.Call (.Attribute (.Name "CalmError" p) "__init__" apos) (e::es) [] pos) (Cq X.K t):=by
 intro pins s σ H Q I h;refine methodCall_KW (pl:=pl) (U9 I hg B.mg ?_ (by decide)) ht;refine method_cls I.kIn B.ga (cls_value I.kIn B.rd B.fi rfl ?_);refine PyProof.Rows.callWith_builtin1 (Wt (ha pos pins _ σ H _ (I.tok _) h) fun us s1 ⟨vs,H1,I1,r,ex,C,dct,v,fI,D',ev,hx,hc,q⟩=>?_) he hpl;subst ev;obtain ⟨u,w',rfl,r1,r2⟩:=Z03 r;cases r1;obtain ⟨nm,qn,N,bs,sn,sub,ab,col,dd,k0,k1,k2,k3,k5,mN,hC,hN,hi,T⟩:=K8 I1.kIn hc;obtain ⟨⟨t0,ht0⟩,_,_⟩:=(show W9 X.prog X.w H1 s1.heap ex (.ext (Dl ex C dct)) from I1.hok ex _ hx);obtain ⟨hh,g,d,tk,os⟩:=s1;refine Nf T hC ht0 fun h' he' hk hsz=>⟨.non,H1,?_,rfl,q⟩
 have:=I1.write (h':=h') (x:=ex) (e:=ex) (o:=.ext (Dl ex C dct)) (t':=tk) (by rw [hx];trivial) (.inl rfl) (fun b u hb q=>hk b u hb q) ⟨_,he'⟩ (Pi ⟨_,he'⟩);rw [Zbr hx] at this;exact this
def Z3r (K:Frag) (ta tv:TE) (f:Str):TS:=fun D σ H=>tv σ H fun y H1=>ta σ H1 fun x H2=>∃ a C dct fI D',x=.ref a/\H2 a=some (.ext (Dl a C dct))/\Qi K C fI D'=true/\XCls K C/\findIn K (.ref C) f=some none /\
 match dct with
 | none=>∀ dx,H2 dx=none->dx≠a->D.nx σ (We (We H2 a (.ext (Dl a C (some dx)))) dx (.xd [(f,y)]))
 | some dx=>False
theorem X2 {o value:Expr} {f:Str} {ta tv:TE} (ha:PE X o ta) (hv:PE X value tv) (hs:swapsWith value (some (.Attribute o f pos')) pos.line X.env=pure false:=by rfl):PS X (.Assign [.Attribute o f pos'] value pos) (Z3r X.K ta tv f):=by
 intro pins s σ H D I h;refine plainObj_wpAny_Assign_Attribute (Wt (hv pins s σ H _ I h) fun u s1 ⟨y,H1,I1,ry,q⟩=>Wt (ha pins s1 σ H1 _ I1 q) fun ov s2 ⟨x,H2,I2,rx,a,C,dct,fI,D',ex,ea,hc,xc,hf,q2⟩=>?_) hs;subst ex;obtain rfl:ov=Value.ref a:=rx;cases dct with
 | some dx=>exact q2.elim
 | none =>
  obtain ⟨⟨t0,ht0⟩,_,_⟩:=(show W9 X.prog X.w H2 s2.heap a (.ext (Dl a C none)) from I2.hok a _ ea);obtain ⟨cd,hcd,hhd,a',b',hm⟩:=xc.cd;obtain ⟨oC,cd',hC,hcd',hhd'⟩:=xc.ld I2.kIn;have IA:InstAt s2.heap a { cls:=.ref C,dict:=none,data:=.fields #[.ref t0,.none,.none,.none,.bool false,.none] } C none:=⟨ht0,rfl,rfl,trivial⟩;refine set_plain I2.kIn IA xc.sa ?_;refine Z8q (s:={ s2 with toks:=s2.toks+1 }) I2.kIn IA hcd hm hf ?_;obtain ⟨hh,g,d,tk,os⟩:=s2;refine Z2e ht0 rfl (fun c z=>by cases z) rfl hC hcd' hhd' fun h' tk' hx' hns hk hsz=>?_
  have hlt:a<hh.objs.size:=lt_size ht0;have hfr:H2 hh.objs.size=none:=I2.hok.fresh (le_refl _);have hda:hh.objs.size≠a:=Nat.ne_of_gt hlt;have agr:∀ b,b≠a->b≠hh.objs.size->We (We H2 a (.ext (Dl a C (some hh.objs.size)))) hh.objs.size (.xd [(f,y)]) b=H2 b:=fun b h1 h2=>by rw [Zh h2,Zh h1]
  have nex:∀ {b:Addr} {o:HO},H2 b=some o->b≠hh.objs.size:=fun {b o} q z=>by rw [z,hfr] at q;cases q
  have un:Un X.fs [] H2 (We (We H2 a (.ext (Dl a C (some hh.objs.size)))) hh.objs.size (.xd [(f,y)])) hh h':=by
   refine ⟨fun b o q n _ _=>hk b o (fun z=>by rw [z,ea] at n;cases n) q,fun b o q n _ _=>⟨o.slots,hk b o (fun z=>by rw [z,ea] at n;cases n) q⟩,fun b o q n _=>?_,fun b o q _=>?_,fun b xs q=>?_,fun b o u q=>?_,fun b ps q=>?_⟩
   ·rw [agr b (fun z=>by rw [z,ea] at n;cases n) (fun z=>by rw [z] at q;exact absurd (lt_size q) (lt_irrefl _))];exact n
   ·by_cases z:b=a
    ·subst z;exact ⟨_,hx'⟩
    ·exact ⟨_,hk b o z q⟩
   ·rw [agr b (fun z=>by rw [z,ea] at q;cases q) (nex q)];exact q
   ·rw [agr b (fun z=>by rw [z,ea] at q;cases q) (nex q)];exact q
   ·exact ⟨#[],by rw [agr b (fun z=>by rw [z,ea] at q;cases q) (nex q)];simpa using q⟩
  have hok:My X.prog X.w (We (We H2 a (.ext (Dl a C (some hh.objs.size)))) hh.objs.size (.xd [(f,y)])) h':=by
   intro b o q;by_cases z2:b=hh.objs.size
   ·subst z2
    rw [Zt] at q;cases q;refine ⟨_,hns,fun g=>?_⟩;show Ig (List.lookup g [(f,y)]) (if g=f then some u else none);by_cases e:g=f
    ·subst e;simp [List.lookup,Ig];exact ry
    ·have e':(g==f)=false:=by simpa using e
     simp [List.lookup,e',e,Ig]
   ·by_cases z1:b=a
    ·subst z1
     rw [Zh z2,Zt] at q;cases q;exact Pi ⟨t0,hx'⟩
    ·rw [agr b z1 z2] at q
     refine (I2.hok b o q).stay (fun c v z w=>hk c v (fun zz=>?_) w) (fun c w=>?_) fun c xs w=>?_
     ·rcases z with z | z
      ·exact z1 (z.symm.trans zz)
      ·rw [zz,ea] at z;cases z
     ·rw [agr c (fun zz=>by rw [zz,ea] at w;cases w) (nex w)];exact w
     ·rw [agr c (fun zz=>by rw [zz,ea] at w;cases w) (nex w)];exact w
  exact ⟨σ,_,I2.un (h':=h') (t':=tk') un hok,q2 _ hfr hda⟩
end
def spG (K:Frag) (C:Addr) (p:Nat) (G:List Dat->Option (List (Str×XD))):Sp:=fun vs H Q _=>∃ e ws ds R fl,vs=.ref e::ws/\ws.length=p/\H e=some (.ext (Dl e C none))/\T7 R H/\R e=false/\Wk K (av H R) ds ws/\G ds=some fl /\
 ∀ H' dct,(∀ c o,c≠e->H c=some o->H' c=some o)->H' e=some (.ext (Dl e C dct))->Xg K (av H' R) dct fl->X9 H H' dct->Q .non H'
structure XMake (P:Program) (w:World) (K:Frag) (mg:Str->Option Value) (base:Heap) (k:Nat) (c:Str) (p:Nat) (G:List Dat->Option (List (Str×XD))):Prop where
 ex:∃ C fI D fd ps,T4 K c C/\mg c=some (.ref C)/\keepIn K (.ref C)=true/\Qi K C fI D=true/\XCls K C/\isFn K (.ref fI)=true/\FnOk P w K mg base D9 k fI fd ps (spG K C p G)/\Jw K fd ps []
 len:∀ ds fl,G ds=some fl->ds.length=p
 few:p<=10
theorem Xg.of_ne {K:Frag} {H H':Hp} {e:Addr} {dct:Option Addr} {fs:List (Str×XD)} {g:Heap->Prop} (he:H e=some (.ext g)) (k:∀ c o,c≠e->H c=some o->H' c=some o) (h:Xg K H dct fs):Xg K H' dct fs:=by
 have ne:∀ {c:Addr} {o:HO},H c=some o->(∀ g,o≠.ext g)->H' c=some o:=fun {c o} q n=>k c o (fun z=>by rw [z,he] at q;exact n _ (Option.some.inj q).symm) q
 cases dct with
 | none=>exact h
 | some dx =>
  obtain ⟨fvs,e1,e2⟩:=h;refine ⟨fvs,ne e1 (fun _ z=>by cases z),fun f=>(e2 f).imp id fun ⟨d,v,a,b,c⟩=>⟨d,v,a,b,?_⟩⟩;cases d with
  | int i=>exact c
  | nums is =>
   obtain ⟨a,z1,z2,z3⟩:=c;refine ⟨a,z1,?_,z3⟩;rcases z2 with (z | ⟨o,z⟩) | z
   ·exact .inl (.inl (ne z (fun _ w=>by cases w)))
   ·exact .inl (.inr ⟨o,ne z (fun _ w=>by cases w)⟩)
   ·exact .inr z
def drp (H:Hp) (a:Addr):Hp:=fun b=>if b=a then none else H b
theorem Dj {H:Hp} {a b:Addr} (h:b≠a):drp H a b=H b:=by unfold drp;rw [if_neg h]
theorem G0 {H:Hp} {a:Addr}:drp H a a=none:=by unfold drp;rw [if_pos rfl]
theorem Dr {H:Hp} {a b:Addr} (h:H b=none):drp H a b=none:=by unfold drp;split<;>first | rfl | exact h
theorem Inv.drop {X:Cx} {pins:List (Addr×Obj)} {σ:St} {H:Hp} {s:Shared} {a:Addr} {g:Heap->Prop} (I:Inv X pins σ H s) (ha:H a=some (.ext g)):Inv X pins σ (drp H a) s:=by
 have ne:∀ {b:Addr} {o:HO},H b=some o->(∀ g,o≠.ext g)->drp H a b=some o:=fun {b o} q n=>by rw [Dj (fun z=>by rw [z,ha] at q;exact n _ (Option.some.inj q).symm)];exact q
 refine ⟨I.ok,I.os,I.bare,⟨I.base.keep,I.base.slot,fun b o q n hx=>Dr (I.base.free b o q n hx),I.base.there,fun b xs q=>ne (I.base.tups b xs q) (fun _ z=>by cases z),fun b o u q=>ne (I.base.frzs b o u q) (fun _ z=>by cases z),fun b ps q=>?_⟩,I.loc,I.cell,Dr I.free,fun x c e=>Dr (I.freeC x c e),fun p hp=>?_,fun b o q=>?_,I.len⟩
 ·obtain ⟨more,z⟩:=I.base.tbls b ps q
  exact ⟨more,ne z (fun _ z=>by cases z)⟩
 ·obtain ⟨h1,h2,h3⟩:=I.pin p hp
  exact ⟨h1,Dr h2,h3⟩
 ·have hb:b≠a:=fun z=>by rw [z,G0] at q;cases q
  rw [Dj hb] at q;exact (I.hok b o q).stay (fun _ _ _ w=>w) (fun c w=>ne w (fun _ z=>by cases z)) fun c xs w=>ne w (fun _ z=>by cases z)
theorem Ct {H0 H H':Hp} {ex:Addr} {o:HO} {dct:Option Addr} (h:X9 (We H ex o) H' dct) (s:Zs H0 H):X9 H0 (drp H' ex) dct:=fun dx e=>by
 have m:∀ b,We H ex o b=none->H0 b=none:=fun b z=>by
  have hb:b≠ex:=fun w=>by rw [w,Zt] at z;cases z
  rw [Zh hb] at z;exact s.none z
 refine ⟨m _ (h dx e).1,fun fvs f a q l=>m _ ((h dx e).2 fvs f a ?_ l)⟩;have hb:dx≠ex:=fun w=>by rw [w,G0] at q;cases q
 rw [Dj hb] at q;exact q
theorem Xj {H:Hp} {a:Addr} {o:HO} (h:H a=none):Zs H (We H a o):=fun b u e=>by rw [Zh (fun z=>by rw [z,h] at e;cases e)];exact e
section
variable {X:Cx} {fr:Bool} {e:Expr} {es:List Expr} {fs:Ev->Option (List Dat)} {p pos cpos:Pos} {k n:Nat} {c:Str} {G:List Dat->Option (List (Str×XD))}
def U1 (c:Str) (G:List Dat->Option (List (Str×XD))) (fs:Ev->Option (List Dat)):Ev->Fl:=fun env=>match (fs env).bind G with
 | none=>.no
 | some fl=>.exc env c fl
theorem O0 {pins:List (Addr×Obj)} {σ:St} {H:Hp} {s:Shared} {us:List Value} {vs:List V} {ds:List Dat} {fl:List (Str×XD)} {env:Ev} {B:Bs} {A:AS} (M:XMake X.prog X.w X.K X.mg X.base k c n G) (hr:Room (k+1) X.A)
  (I:Inv X pins σ H s) (kk:EnvOk X.K B A H σ env) (r:Y2 vs us) (rs:Wk X.K (av H A) ds vs) (hG:G ds=some fl) {C fI D:Addr} (hcl:T4 X.K c C) (hx:Qi X.K C fI D=true) {fd:FuncData} {ps:List Str} (hfn:isFn X.K (.ref fI)=true) (F:FnOk X.prog X.w X.K X.mg X.base D9 k fI fd ps (spG X.K C n G)) (hb:Jw X.K fd ps [])
  (q:∀ H' σ',σ'=σ->Zs H H'->EnvOk X.K B A H' σ env->XW X B.H₀ A H' σ c fl) :
  wpAny (model X.prog X.w) X.A (call (.ref C) us) (fun v s'=>∃ ex t dct,v=.ref ex/\(∃ o,s'.heap.get? C=some o)/\s'.heap.get? ex=some { cls:=.ref C,dict:=dct,data:=.fields #[.ref t,.none,.none,.none,.bool false,.none] }/\X.K.In s'.heap/\X.xe (.ref ex) s') X.xe s:=by
 obtain ⟨nm,qn,N,bs,sn,sub,ab,col,dd,k0,k1,k2,k3,k5,mN,hC,hN,hi,T⟩:=K8 I.kIn hx;have hfI:∃ oI,s.heap.get? fI=some oI/\oI.cls=.type "function" := by
  have:=beq_iff_eq.mp hfn;obtain ⟨oI,h1,h2⟩:=Option.map_eq_some_iff.mp this;exact ⟨oI,I.kIn _ _ h1,h2⟩
 obtain ⟨oI,hfI,hfc⟩:=hfI;have hlen:us.length<=sizeLine:=by
  have h1:=r.length;have h2:=Zy rs;have h3:=M.len ds fl hG;have h4:=M.few;exact le_of_lt (Tx (by lia))
 obtain ⟨hh,g,d,tk,os⟩:=s;refine N1 (hrest:=hlen) PySem.F.excBase_ValueError (by decide) PySem.F.excBase_ValueError T hC hN hi hfI hfc fun h' ex hlo hm=>?_
 obtain ⟨t0,ht0,_,_⟩:=hm.there;have hfr:H ex=none:=I.hok.fresh hlo;have I2:Inv X pins σ (We H ex (.ext (Dl ex C none))) ⟨h',g,d,tk,os⟩:=I.laid (h':=h') (t':=tk) (a:=ex) (o:=.ext (Dl ex C none)) hm.keeps hlo (Pi ⟨t0,ht0⟩);have aex:A ex=false:=by
  cases z:A ex with
  | false=>rfl
  | true=>obtain ⟨o,ho⟩:=(kk.mu ex z).some;rw [hfr] at ho;cases ho
 have sm1:Zs H (We H ex (.ext (Dl ex C none))):=Xj hfr;let Q':VK:=fun v H'=>v=.non/\∃ dct,(∀ c o,c≠ex->We H ex (.ext (Dl ex C none)) c=some o->H' c=some o)/\H' ex=some (.ext (Dl ex C dct))/\Xg X.K (av H' A) dct fl/\X9 (We H ex (.ext (Dl ex C none))) H' dct
 have hsp:spG X.K C n G (.ref ex::vs) (We H ex (.ext (Dl ex C none))) Q' E0:=⟨ex,vs,ds,A,fl,rfl,by rw [Zy rs];exact M.len ds fl hG,Zt,kk.mu.mono sm1,aex,rs.mono (Vk sm1),hG,fun H' dct h1 h2 h3 h4=>⟨rfl,dct,h1,h2,h3,h4⟩⟩;have hl2:(Value.ref ex::us).length=ps.length:=by
  have e1:=F.len _ _ _ _ hsp;have e2:=r.length;rw [length_cons] at e1 ⊢;lia
 refine wpAny_call (codeAny_mono (F.run _ X.stack ⟨h',g,d,tk,os⟩ _ ⟨Value.ref ex::us,[]⟩ (Value.ref ex::us) (V.ref ex::vs) Q' E0 (hr.make C us []) (I2.env0.make C us []) (by simpa using hb _ (Value.ref ex::us) I2.kIn (by simpa using hl2)) (.cons rfl r) hsp) fun rr s' hq=>?_);cases rr with
 | error e=>exact False.elim hq
 | ok fl' =>
  cases fl' with
  | ret u =>
   obtain ⟨v,H',I3,rv,ev,dct,h1,h2,h3,h4⟩:=I2.after hq;subst ev;have eu:u=.none:=rv;subst eu;refine ⟨rfl,?_⟩;obtain ⟨⟨t1,ht1⟩,_,_⟩:=(show W9 X.prog X.w H' s'.heap ex (.ext (Dl ex C dct)) from I3.hok ex _ h2);have I4:=I3.drop h2;have sm:Zs H (drp H' ex):=fun b o q=>by
    have hb:b≠ex:=fun z=>by rw [z,hfr] at q;cases q
    rw [Dj hb];exact h1 b o hb (by rw [Zh hb];exact q)
   have lo2:X.s₀.heap.objs.size<=ex:=le_trans I.sz hlo;obtain ⟨nm',qn',N',bs',sn',sub',ab',col',dd',k0',k1',k2',k3',k5',mN',hC',_,_,_⟩:=K8 I3.kIn hx;refine ⟨ex,t1,dct,rfl,⟨_,hC'⟩,ht1,I3.kIn,?_⟩;refine q (drp H' ex) σ rfl sm (kk.mono sm) pins s' ex C dct I4 hcl ⟨lo2,G0,.inl ⟨_,_,ht1,rfl,rfl,rfl,rfl,fun _=>rfl⟩,fun p hp z=>?_⟩ ?_ (Ct h4 kk.h0)
   ·have:=(I.pin p hp).1
    rw [z] at this;exact absurd (lt_size this) (not_lt.mpr hlo)
   ·exact h3.of_ne (e:=ex) (V9 h2 aex) fun c o hc q=>V9 (by rw [Dj hc];exact (Js q).2) (Js q).1
  | next=>exact False.elim hq
  | brk=>exact False.elim hq
  | cont=>exact False.elim hq
theorem Ph (M:XMake X.prog X.w X.K X.mg X.base k c n G) (hr:Room (k+1) X.A) (hc:X.calm=true) (ha:O9 false X (e::es) fs) (hg:Gl X c:=by rfl) (hdb:(c==("__debug__" : Str))=false:=by decide)
  (he:starEach (e::es) X.env=(false,eval e X.env)::starEach es X.env:=by rfl) (hpl:(backTo cpos (starEach es X.env)).any (·.1)=false:=by rfl):Gc fr X (.Raise (some (.Call (.Name c p) (e::es) [] cpos)) none pos) (U1 c G fs):=by
 intro pins s σ H D I ⟨env,B,A,kk,hst,q⟩;obtain ⟨C,fI,D',fd,ps,hcl,hm,hkp,hx,xc,hfn,F,hb⟩:=M.ex;unfold U1 at q;split at q
 ·exact q.elim
 rename_i fl hfl;obtain ⟨ds,e1,hG⟩:=bind_some hfl;obtain ⟨nm,qn,N,bs,sn,sub,ab,col,dd,k0,k1,k2,k3,k5,mN,hC,hN,hi,T⟩:=K8 I.kIn hx;have key:wpAny (model X.prog X.w) X.A (eval (.Call (.Name c p) (e::es) [] cpos) X.env) (fun v s'=>∃ ex t dct,v=.ref ex/\(∃ o,s'.heap.get? C=some o)/\s'.heap.get? ex=some { cls:=.ref C,dict:=dct,data:=.fields #[.ref t,.none,.none,.none,.bool false,.none] }/\X.K.In s'.heap/\X.xe (.ref ex) s') X.xe s:=by
  refine wpAny_Call_Name_kw (U9 I hg hm ?_ hdb);refine callWith_K (h₀:=X.base) I.ok.mod.kin hkp (Wt (ha cpos pins s σ H (fun vs H1=>Zs H H1/\Wk X.K (av H1 A) ds vs) I ⟨env,B,A,ds,kk,e1,fun vs H1 s1 rs=>⟨s1,rs.rps⟩⟩) fun us s1 ⟨vs,H1,I1,r,sm,rs⟩=>⟨I1.kIn,?_⟩) he hpl;exact O0 M hr I1 (kk.mono sm) r rs hG hcl hx hfn F hb fun H' σ' _ sm2 k2=>q A H' σ (Step.same (sm.trans sm2)) k2
 rw [arm_exec_Raise];refine wpAny_bind (wpAny_standAt (Hq (C:=C) (nm:=nm) (q:=qn) (N:=N) (bs:=bs) (bm:=.ref D'::Je) (hdct:=true) (sn:=sn) (sub:=sub) (ab:=ab) (col:=col) (dd:=dd) (k0:=k0) (k1:=k1) (k2:=k2) (k3:=k3) (k5:=k5) (newId:="ValueError.__new__") (by simp [Je]) (I.ok.hd hc) (wpAny_bind (wpAny_mono key (fun v s₃ h₃=>wpAny_bind (wpAny_standAt (wpAny_pure ?_))) fun _ _ x=>x))));obtain ⟨ex,t,dct,rfl,_,hex,hK,hxe⟩:=h₃;obtain ⟨o,lk⟩:∃ o,X.K.lookup C=some o:=by
  unfold Qi at hx;split at hx
  ·rename_i ho;exact ⟨_,ho⟩
  ·cases hx
 have e2:=(I.kIn _ _ lk).symm.trans hC;cases e2;exact ⟨ex,.ref t,dct,rfl,hK _ _ lk,hex,hxe⟩
end
def Mj (ns:List Int):Bool:=decide (ns.length<=500)&&ns.all fun n=>decide (0<=n)&&decide (n<1000)
theorem Oc {ns:List Int} (h:Mj ns=true):Gr ns:=by
 unfold Mj at h;rw [Bool.and_eq_true,all_eq_true] at h;refine ⟨of_decide_eq_true h.1,fun n hn=>?_⟩;have:=h.2 n hn;rw [Bool.and_eq_true] at this;exact ⟨of_decide_eq_true this.1,of_decide_eq_true this.2⟩
def gW (f:Str):List Dat->Option (List (Str×XD))
 | [.lst xs]=>(Ja xs).bind fun ns=>if Mj ns=true then some [(f,.nums ns)] else none
 | _=>none
def JOk (n:Nat) (σ:St) (H:Hp) (r:TJ):Prop:=∀ (acc:Str) (Q:VK),acc.length<=n->(∀ z,Q (.str z) H)->r σ H acc Q
theorem Pb {n:Nat} {σ:St} {H:Hp}:JOk n σ H Zdb:=fun acc Q _ q=>q acc
theorem Eh {n:Nat} {σ:St} {H:Hp} {c:Str} {r:TJ} (hr:JOk (n+c.length) σ H r) (h:n+c.length<=100000):JOk n σ H (Zci c r):=fun acc Q ha q=>by
 have e:(acc++c).length=acc.length+c.length:=strLen_append _ _;exact ⟨by rw [e,sizeLine_eq];lia,hr _ Q (by rw [e];lia) q⟩
theorem Ei {n i:Nat} {K:Frag} {σ:St} {H:Hp} {v:V} {r:TJ} (hr:JOk (n+3000) σ H r) (h:n<=90000) (hv:σ[i]?=some (some v)) (hs:(∃ i:Int,v=.int i/\0<=i/\i<1000)\/∃ a ns,v=.ref a/\SL K H a (ns.map V.int)/\Gr ns):JOk n σ H (Zbn K (Dq i) r):=fun acc Q ha q =>
 ⟨v,hv,hs,by lia,fun y hy=>hr _ Q (by rw [strLen_append];lia) q⟩
section
variable {P:Program} {w:World} {K:Frag} {mg:Str->Option Value} {base:Heap}
end
section
variable {X:Cx} {pins:List (Addr×Obj)} {σ:St} {H:Hp} {s:Shared}
abbrev Cx.inTry (X:Cx) (pn:List (Addr×Obj)) (E:Value->Shared->Prop):Cx:={ X with pn:=pn,xe:=E }
abbrev Cx.inH (X:Cx) (pn:List (Addr×Obj)) (e:Addr):Cx:={ X with A:=X.A.mark (some (.ref e)),calm:=false,pn:=pn,xe:=fun _ _=>False }
theorem Inv.toTry {E:Value->Shared->Prop} (I:Inv X pins σ H s):Inv (X.inTry (X.pn++pins) E) [] σ H s :=
 ⟨⟨I.ok.mod,I.ok.kind,I.ok.glob,I.ok.blt,I.ok.above,I.ok.inj,I.ok.has,I.ok.cab,I.ok.hd,I.ok.frames,I.ok.stk,I.ok.exf,I.ok.bs,I.ok.bsz,I.ok.noex,I.ok.exfs,I.ok.funs,I.ok.frf⟩,I.os,I.bare,I.base,I.loc,I.cell,I.free,I.freeC,fun p hp=>I.pin p (by simpa using hp),I.hok,I.len⟩
theorem Inv.ofTry {E:Value->Shared->Prop} {pins':List (Addr×Obj)} (ok:X.Ok) (I:Inv (X.inTry (X.pn++pins) E) pins' σ H s):Inv X pins σ H s :=
 ⟨ok,I.os,I.bare,I.base,I.loc,I.cell,I.free,I.freeC,fun p hp=>I.pin p (mem_append_left _ hp),I.hok,I.len⟩
theorem Inv.toH {e:Addr} (I:Inv X pins σ H s):Inv (X.inH (X.pn++pins) e) [] σ H s :=
 ⟨⟨I.ok.mod,I.ok.kind,I.ok.glob,I.ok.blt,I.ok.above,I.ok.inj,I.ok.has,I.ok.cab,(fun z=>nomatch z),I.ok.frames,I.ok.stk,I.ok.exf,I.ok.bs,I.ok.bsz,I.ok.noex,I.ok.exfs,I.ok.funs,I.ok.frf⟩,I.os,I.bare,I.base,I.loc,I.cell,I.free,I.freeC,fun p hp=>I.pin p (by simpa using hp),I.hok,I.len⟩
end
theorem Ma {l:List Env} {ch:List Addr} {T':Addr} {h h' h2:Heap} (k:L8 l ch h h') (hT:h.objs.size<=T') (y:∀ b o,h'.get? b=some o->b∉[T']->h2.get? b=some o):L8 l ch h h2:=fun b o hb hc=>by
 obtain ⟨k1,sl,k2⟩:=k b o hb hc;have hbT:b∉[T']:=fun z=>by
  have e1:b=T':=by simpa using z
  rw [e1] at hb;exact absurd (lt_size hb) (not_lt.mpr hT)
 exact ⟨fun hl=>y b o (k1 hl) hbT,sl,y b _ k2 hbT⟩
section
variable {X:Cx} {fr:Bool} {g h:Ev->Fl} {body:List Stmt} {b₀:Stmt} {suite:List Stmt} {T n:Str} {np hpos pos:Pos} {i:Nat} {sub:Str->Bool} {DT:Addr}
end
section
variable {X:Cx} {m:Bool} {e:Expr} {f:Ev->Option Dat} {p p2 pos:Pos}
end
end L2
namespace L2
open PySem
end L2
namespace L2
open PySem PySem.Spec PyProof.Rows
section
variable {P:Program} {w:World} {A:Around} {E:Value->Shared->Prop} {s:Shared}
end
section
variable {P:Program} {w:World} {A:Around} {R:Result->Shared->Prop} {I:Addr} {fp wr:List Addr} {G:Array GenState->Array GenState->Prop} {n:Nat} {Pv:Nat->Value->Prop} {St:Nat->Shared->Prop}
end
section
variable {P:Program} {w:World} {A:Around} {E:Value->Shared->Prop} {s:Shared}
end
end L2
namespace PySem
namespace F
end F
end PySem
namespace L2
open PySem PySem.Spec PyProof.Rows
section
variable {P:Program} {w:World} {A:Around} {E:Value->Shared->Prop} {s:Shared}
end
end L2
namespace PySem.F
end PySem.F
namespace L2
open PySem PySem.Spec PyProof.Rows
section
variable {P:Program} {w:World} {A:Around} {E:Value->Shared->Prop} {s:Shared}
end
end L2
namespace Sq
open PySem PyProof PyProof.Rows
section
variable {prog:Program} {w:World} {A:Around} {E:Value->Shared->Prop} {s:Shared} {a₀:Array Keyed} {p:Array (Nat×Nat×Nat)}
end
section
variable {prog:Program} {w:World} {A:Around} {E:Value->Shared->Prop} {s:Shared}
end
section
variable {r:Int->Int->Prop} {a b out:List Keyed} {ia ib:Nat}
end
section
variable {prog:Program} {w:World} {A:Around} {E:Value->Shared->Prop} {s:Shared} {a b:Array Keyed} {n0:Nat}
end
section
variable {prog:Program} {w:World} {A:Around} {E:Value->Shared->Prop} {s:Shared} {a₀:Array Keyed}
end
section
variable {prog:Program} {w:World} {A:Around} {E:Value->Shared->Prop} {s:Shared}
end
end Sq
namespace L2
open PySem PySem.Spec PyProof.Rows
section
variable {P:Program} {w:World} {A:Around} {E:Value->Shared->Prop} {s:Shared}
end
section
variable {X:Cx} {e:Expr} {fs:Ev->Option (List Dat)}
end
end L2
set_option maxHeartbeats 4000000
namespace L2
open PySem PySem.Spec PyProof.Rows
section
variable {X:Cx}
theorem D5:∀ {its:List Value} {ns:List Int},Y2 (ns.map V.int) its->∃ xs:List (Int×Tok),its=xs.map (fun p=>Value.int p.1 p.2)/\xs.map (·.1)=ns
 | [],[],_=>⟨[],rfl,rfl⟩
 | [],_::_,r=>by have:=r.length;simp at this
 | _::_,[],r=>by have:=r.length;simp at this
 | v::its,n::ns,r=>by
  cases r with
  | cons h r' =>
   obtain ⟨xs,e1,e2⟩:=D5 r';obtain ⟨t,rfl⟩:=h;exact ⟨(n,t)::xs,by rw [e1];rfl,by rw [map_cons,e2]⟩
def Zf6 (K:PySem.W.Frag):List V->Hp->VK->Prop:=fun xs H Q=>∃ (p:Addr) (ns:List Int),xs=[.ref p]/\S9 K H p (ns.map V.int)/\Q (.int ns.sum) H
theorem Z1h (hc:X.calm=true):V5 X (.builtin "sum") (Zf6 X.K):=by
 intro pins s σ H xs us Q I r h;obtain ⟨p,ns,rfl,hq,q⟩:=h;obtain ⟨u,rfl,rx⟩:=Ji r;cases rx;obtain ⟨its,r',pl,hz⟩:=I.list hq;have hl:=pl.isList;obtain ⟨ys,e1,e2⟩:=D5 r';have hl':s.heap.IsList p (intItems ys.toArray):=by
  have:intItems ys.toArray=its.toArray:=by rw [e1];simp [intItems]
  rw [this];exact hl
 refine sum_intListG (I.ok.hd hc) hl' fun h' tk t' hk=>?_
 have e:preSum (numAt ys.toArray) ys.toArray.size=ns.sum:=by
  rw [preSum_eq,take_of_length_le (by simp)];show (List.map (·.1) ys).sum=_;rw [e2]
 rw [e];exact ⟨.int _,H,I.kept (h':=h') (t':=tk) hk,⟨_,rfl⟩,q⟩
def Bc:List Dat->Option Dat
 | [.lst xs]=>(Ja xs).map fun ns=>.int ns.sum
 | _=>none
theorem Zdc (hc:X.calm=true):D4 X (.builtin "sum") Bc:=(Z1h hc).weak fun vs H Q zz=>by
 obtain ⟨A,ds,d,mu,e,p,q⟩:=zz;unfold Bc at e;split at e
 ·obtain ⟨v,e1,p1⟩:=p.one
  obtain ⟨l,us,e2,h1,r1⟩:=p1.lst;obtain ⟨ns,hn,e⟩:=map_some e;subst e;rw [Qy hn] at r1;have eu:=V6 r1;subst eu;exact ⟨l,ns,by rw [e1,e2],h1.sq,q.here W4⟩
 ·cases e
theorem Z3t {P:Program} {w:World} {A:Around} {E:Value->Shared->Prop} {s:Shared} {t b:Addr} {vs ws:List Value} {Q:Value->Shared->Prop} (ht:IsTup s.heap t vs.toArray) (hb:IsTup s.heap b ws.toArray) (hv:vs=[]) (h0:Q (.ref b) s):wpAny (model P w) A (binaryOp .Add (.ref t) (.ref b)) Q E s:=by
 obtain ⟨⟨cls,dd,data,sl⟩,ho,hc,n,hd⟩:=id ht;obtain ⟨⟨cls2,dd2,data2,sl2⟩,ho2,hc2,n2,hd2⟩:=id hb;simp only at hc hd hc2 hd2;subst hc hd hc2 hd2;exact concat_meets ⟨_,ho,rfl⟩ ⟨_,ho2,rfl⟩ noFill_tuple_add seq_tuple_add PySem.F.slot_tuple_add PySem.F.entry_tuple_add (PySem.F.args_tuple_add_2 _ _)
  (tuple_addW0 t b vs.toArray ws.toArray n n2 dd dd2 sl sl2 (by simp [hv])) ⟨ho,ho2,h0⟩
theorem Pk.tupR {K:PySem.W.Frag} {A:AS} {H:Hp} {ds:List Dat} {v:V} (h:Pk K A H (.tup ds) v):Rp K (av H A) (.tup ds) v:=by
 rcases h with h | ⟨a,vs,ds,e1,e2,e3,e4⟩
 ·exact h
 ·cases e1
def Ov:Dat->Dat->Option Dat
 | .tup xs,.tup ys=>if xs.length+ys.length<=sizeLine then some (.tup (xs++ys)) else none
 | _,_=>none
theorem An:Mh X (binaryOp .Add) Ov:=fun pins s σ H x y v u Q I rx ry zz=>by
 obtain ⟨A,a,b,d,mu,e,p1,p2,q⟩:=zz;unfold Ov at e;split at e
 ·rename_i xs ys
  split at e
  ·rename_i hz
   cases e;obtain ⟨l1,vs,e1,h1,r1⟩:=p1.tup;obtain ⟨l2,us,e2,h2,r2⟩:=p2.tup;have z1:=Zy r1;have z2:=Zy r2;have w1:=p1.tupR;have w2:=p2.tupR;by_cases hx:xs=[]
   ·subst hx e1 e2
    cases rx;cases ry;obtain ⟨its,y1,g1,_⟩:=I.tuple h1;obtain ⟨its2,y2,g2,_⟩:=I.tuple h2;have hn:its=[]:=by
     have:=y1.length;rw [z1] at this;exact length_eq_zero_iff.mp this.symm
    refine Z3t g1 g2 hn ⟨.ref l2,H,I,rfl,?_⟩;exact q.here w2
   ·refine Z75 pins s σ H x y v u Q I rx ry ⟨l1,l2,vs,us,e1,e2,h1,h2,Z1t r1 (by simpa using hx),by lia,fun hy=>?_,fun hy=>?_⟩
    ·have:ys=[]:=by subst hy;exact length_eq_zero_iff.mp z2.symm
     subst this;rw [append_nil] at q;rw [e1] at w1;exact q.here w1
    ·exact q.tup mu (by rw [length_append];exact hz) (Vb r1 r2)
  ·cases e
 ·cases e
end
end L2
namespace L2
open PySem PySem.Spec PyProof.Rows PySem.W
section
variable {X:Cx} {m fr:Bool} {e:Expr} {f:Ev->Option Dat} {g h:Ev->Fl} {p p2 pos:Pos} {body:List Stmt} {b₀:Stmt} {suite:List Stmt} {T n tx:Str} {np hpos:Pos} {i:Nat} {sub:Str->Bool} {sb:Str->Option Bool}
end
section
variable {K:Frag} {mg:Str->Option Value}
end
section
variable {X:Cx}
end
section
variable {X:Cx} {m:Bool} {e:Expr} {f:Ev->Option Dat} {pos:Pos} {vs:List Expr} {r:Ev->Str->Option Str}
end
end L2
namespace L2
open PySem PySem.Spec PyProof.Rows PySem.W PySem.Builtin PySem.Builtin.Str
section
variable {X:Cx}
end
end L2
namespace L2
open PySem PySem.Spec PyProof.Rows PySem.W
section
variable {X:Cx} {fr:Bool} {p pos cpos:Pos} {k n:Nat} {c:Str} {G:List Dat->Option (List (Str×XD))}
theorem Z5h (M:XMake X.prog X.w X.K X.mg X.base k c n G) (hr:Room (k+1) X.A) (hc:X.calm=true) (hg:Gl X c:=by rfl) (hdb:(c==("__debug__" : Str))=false:=by decide)
  : Gc fr X (.Raise (some (.Call (.Name c p) [] [] cpos)) none pos) (U1 c G Zc):=by
 intro pins s σ H D I ⟨env,B,A,kk,hst,q⟩;obtain ⟨C,fI,D',fd,ps,hcl,hm,hkp,hx,xc,hfn,F,hb⟩:=M.ex;unfold U1 at q;split at q
 ·exact q.elim
 rename_i fl hfl;obtain ⟨ds,e1,hG⟩:=bind_some hfl;obtain ⟨nm,qn,N,bs,sn,sub,ab,col,dd,k0,k1,k2,k3,k5,mN,hC,hN,hi,T⟩:=K8 I.kIn hx;have key:wpAny (model X.prog X.w) X.A (eval (.Call (.Name c p) [] [] cpos) X.env) (fun v s'=>∃ ex t dct,v=.ref ex/\(∃ o,s'.heap.get? C=some o)/\s'.heap.get? ex=some { cls:=.ref C,dict:=dct,data:=.fields #[.ref t,.none,.none,.none,.bool false,.none] }/\X.K.In s'.heap/\X.xe (.ref ex) s') X.xe s:=by
  refine wpAny_Call_Name_kw (U9 I hg hm ?_ hdb);refine callWith_K0 I.kIn hkp ?_;cases e1;exact O0 M hr I kk .nil Ub hG hcl hx hfn F hb fun H' σ' _ sm2 k2=>q A H' σ (Step.same sm2) k2
 rw [arm_exec_Raise];refine wpAny_bind (wpAny_standAt (Hq (C:=C) (nm:=nm) (q:=qn) (N:=N) (bs:=bs) (bm:=.ref D'::Je) (hdct:=true) (sn:=sn) (sub:=sub) (ab:=ab) (col:=col) (dd:=dd) (k0:=k0) (k1:=k1) (k2:=k2) (k3:=k3) (k5:=k5) (newId:="ValueError.__new__") (by simp [Je]) (I.ok.hd hc) (wpAny_bind (wpAny_mono key (fun v s₃ h₃=>wpAny_bind (wpAny_standAt (wpAny_pure ?_))) fun _ _ x=>x))));obtain ⟨ex,t,dct,rfl,_,hex,hK,hxe⟩:=h₃;obtain ⟨o,lk⟩:∃ o,X.K.lookup C=some o:=by
  unfold Qi at hx;split at hx
  ·rename_i ho;exact ⟨_,ho⟩
  ·cases hx
 have e2:=(I.kIn _ _ lk).symm.trans hC;cases e2;exact ⟨ex,.ref t,dct,rfl,hK _ _ lk,hex,hxe⟩
end
def gZ:List Dat->Option (List (Str×XD))
 | []=>some []
 | _=>none
theorem Z4a:∀ ds fl,gZ ds=some fl->ds.length=0:=fun ds fl h=>by
 unfold gZ at h;split at h
 ·rfl
 ·cases h
section
variable {P:Program} {w:World} {K:Frag} {mg:Str->Option Value} {base:Heap}
theorem Zav {qual:Str} {st:Stmt} {fI C D fI':Addr} {fd:FuncData} {k:Nat} {z:Str} (F:Fun K "__init__" qual st fI fd) (S:FnScope ["self"] ["self"] (Z6 st)) (hx:Qi K C fI' D=true)
  (hb:∀ (cdv:Value) (A:Around) (outer:List Env) (s:Shared) (H:Hp) (E:XK),Room k (A.deeper (envOfC qual (Z6 st) s.heap.objs.size fI cdv)) ->
   Sx (Qh D9 P w K mg base ["self"] qual (Z6 st) fI cdv A outer s H E).nox (Y8 st) (Z06 (Cq K (E4 (Dq 0) (E4 (tC (.str z)) Z1c))))) :
  FnOk P w K mg base D9 (k+1) fI fd ["self"] (spG K C 0 gZ):=by
 refine F.ok S (fun vs H Q E ⟨e,ws,ds,R,fl,ev,hl,_⟩=>by rw [ev,length_cons,hl];rfl) fun cdv A outer s H vs Q E hr ⟨e,ws,ds,R,fl,ev,hl,he,mu,re,rs,hG,q⟩=>⟨_,hb cdv A outer s H E hr,?_⟩
 subst ev;have ew:ws=[]:=length_eq_zero_iff.mp hl;subst ew;have ed:ds=[]:=length_eq_zero_iff.mp (Z4a ds fl hG);subst ed;cases hG;exact ⟨.ref e,rfl,e,C,none,.str z,fI',D,rfl,he,hx,q H none (fun _ _ _ h=>h) he rfl Z3o⟩
end
section
variable {X:Cx} {pos pos':Pos}
def Z3v (K:Frag) (ta tv:TE) (f:Str):TS:=fun D σ H=>tv σ H fun y H1=>ta σ H1 fun x H2=>∃ a C dx fvs fI D',x=.ref a/\H2 a=some (.ext (Dl a C (some dx)))/\H2 dx=some (.xd fvs)/\fvs.length<=100/\fvs.lookup f=none/\Qi K C fI D'=true/\XCls K C/\findIn K (.ref C) f=some none /\
 D.nx σ (We H2 dx (.xd (fvs++[(f,y)])))
theorem Hs {β:Type} (f g:Str) (y:β):∀ (l:List (Str×β)),(l++[(f,y)]).lookup g=match l.lookup g with | some v=>some v | none=>if g=f then some y else none
 | []=>by
   by_cases e:g=f
   · subst e;simp [List.lookup]
   · have e':(g==f)=false:=by simpa using e
     simp [List.lookup,e',e]
 | (h,z)::l=>by
   rw [List.cons_append,lookup_cons,lookup_cons];cases hh:(g==h) with
   | true=>rfl
   | false=>exact Hs f g y l
theorem Ly {β:Type} {z:Str} {v:β}:∀ {l:List (Str×β)},l.lookup z=some v->z∈l.map (·.1)
 | [],h=>by simp at h
 | (k,w)::l,h=>by
   rw [lookup_cons] at h;cases hh:(z==k) with
   | true=>rw [beq_iff_eq.mp hh];simp
   | false=>rw [hh] at h;exact mem_cons_of_mem _ (Ly h)
theorem Z0o {o value:Expr} {f:Str} {ta tv:TE} (ha:PE X o ta) (hv:PE X value tv) (hs:swapsWith value (some (.Attribute o f pos')) pos.line X.env=pure false:=by rfl):PS X (.Assign [.Attribute o f pos'] value pos) (Z3v X.K ta tv f):=by
 intro pins s σ H D I h;refine plainObj_wpAny_Assign_Attribute (Wt (hv pins s σ H _ I h) fun u s1 ⟨y,H1,I1,ry,q⟩=>Wt (ha pins s1 σ H1 _ I1 q) fun ov s2 ⟨x,H2,I2,rx,a,C,dx,fvs,fI,D',ex,ea,ed,hle,hnf,hc,xc,hf,q2⟩=>?_) hs;subst ex;obtain rfl:ov=Value.ref a:=rx;obtain ⟨⟨t0,ht0⟩,_,_⟩:=(show W9 X.prog X.w H2 s2.heap a (.ext (Dl a C (some dx))) from I2.hok a _ ea);obtain ⟨mA,hns,hrel⟩:=(show W9 X.prog X.w H2 s2.heap dx (.xd fvs) from I2.hok dx _ ed);obtain ⟨cd,hcd,hhd,a',b',hm⟩:=xc.cd;obtain ⟨oC,cd',hC,hcd',hhd'⟩:=xc.ld I2.kIn;have hns':=hns;obtain ⟨od,es,ep,hod,hcod⟩:=hns;have IA:InstAt s2.heap a { cls:=.ref C,dict:=some dx,data:=.fields #[.ref t0,.none,.none,.none,.bool false,.none] } C (some od):=⟨ht0,rfl,rfl,hod⟩;refine set_plain I2.kIn IA xc.sa ?_;refine Z8q (s:={ s2 with toks:=s2.toks+1 }) I2.kIn IA hcd hm hf ?_;obtain ⟨hh,g,d,tk,os⟩:=s2;have hw:Within mA (fvs.map (·.1)):=fun z hz=>by
  have:=hrel z;cases e:fvs.lookup z with
  | none =>
   rw [e] at this;cases e2:mA z with
   | none=>exact absurd e2 hz
   | some v=>rw [e2] at this;exact this.elim
  | some v=>exact Ly e
 refine Bu ht0 rfl rfl hns' hw (by rw [length_map];lia) hC hcd' hhd' fun h' tk' hn' hk hsz=>?_
 have nd:∀ {b:Addr} {o:HO},H2 b=some o->(∀ l,o≠.xd l)->b≠dx:=fun {b o} q n z=>by rw [z,ed] at q;cases q;exact n _ rfl
 have n0:∀ {b:Addr},H2 b=none->b≠dx:=fun {b} q z=>by rw [z,ed] at q;cases q
 have un:Un X.fs [] H2 (We H2 dx (.xd (fvs++[(f,y)]))) hh h':=by
  refine ⟨fun b o q n _ _=>hk b o (n0 n) q,fun b o q n _ _=>⟨o.slots,hk b o (n0 n) q⟩,fun b o q n _=>by rw [Zh (n0 n)];exact n,fun b o q _=>?_,fun b xs q=>by rw [Zh (nd q (fun _ z=>by cases z))];exact q,fun b o u q=>by rw [Zh (nd q (fun _ z=>by cases z))];exact q,fun b ps q=>⟨#[],by rw [Zh (nd q (fun _ z=>by cases z))];simpa using q⟩⟩;by_cases z:b=dx
  ·subst z
   obtain ⟨od2,_,_,h2,_⟩:=hn';exact ⟨_,h2⟩
  ·exact ⟨_,hk b o z q⟩
 have hok:My X.prog X.w (We H2 dx (.xd (fvs++[(f,y)]))) h':=by
  intro b o q;by_cases z2:b=dx
  ·subst z2
   rw [Zt] at q;cases q;refine ⟨_,hn',fun g=>?_⟩;show Ig (List.lookup g (fvs++[(f,y)])) (if g=f then some u else mA g);rw [Hs];by_cases e:g=f
   ·subst e
    rw [hnf];simp [Ig];exact ry
   ·have:=hrel g
    cases e3:fvs.lookup g with
    | none=>rw [e3] at this;simpa [e] using this
    | some v=>rw [e3] at this;simpa [e] using this
  ·rw [Zh z2] at q
   refine (I2.hok b o q).stay (fun c v z w=>hk c v (fun zz=>?_) w) (fun c w=>?_) fun c xs w=>?_
   ·rcases z with z | z
    ·exact z2 (z.symm.trans zz)
    ·rw [zz,ed] at z;cases z
   ·rw [Zh (fun zz=>by rw [zz,ed] at w;cases w)];exact w
   ·rw [Zh (fun zz=>by rw [zz,ed] at w;cases w)];exact w
 exact ⟨σ,_,I2.un (h':=h') (t':=tk') un hok,q2⟩
end
def Ge (i:Int):Bool:=decide (0<=i)&&decide (i<1000)
theorem O5 {i:Int} (h:Ge i=true):0<=i/\i<1000:=by
 unfold Ge at h;rw [Bool.and_eq_true] at h;exact ⟨of_decide_eq_true h.1,of_decide_eq_true h.2⟩
def gC (f1 f2 f3:Str):List Dat->Option (List (Str×XD))
 | [.lst xs,.int i,.int j]=>(Ja xs).bind fun ns=>if (Mj ns&&Ge i&&Ge j)=true then some [(f1,.nums ns),(f2,.int i),(f3,.int j)] else none
 | _=>none
section
variable {P:Program} {w:World} {K:Frag} {mg:Str->Option Value} {base:Heap}
theorem Zbv {qual x1 x2 x3:Str} {st:Stmt} {fI C D fI':Addr} {fd:FuncData} {k:Nat} {f1 f2 f3:Str} {r:TJ} (F:Fun K "__init__" qual st fI fd) (S:FnScope ["self",x1,x2,x3] ["self",x1,x2,x3] (Z6 st)) (hx:Qi K C fI' D=true) (xc:XCls K C) (h1:findIn K (.ref C) f1=some none) (h2:findIn K (.ref C) f2=some none) (h3:findIn K (.ref C) f3=some none)
  (n12:f1≠f2) (n13:f1≠f3) (n23:f2≠f3)
  (hb:∀ (cdv:Value) (A:Around) (outer:List Env) (s:Shared) (H:Hp) (E:XK),Room k (A.deeper (envOfC qual (Z6 st) s.heap.objs.size fI cdv)) ->
   Sx (Qh D9 P w K mg base ["self",x1,x2,x3] qual (Z6 st) fI cdv A outer s H E).nox (Y8 st) (Bx (Z06 (Cq K (E4 (Dq 0) (E4 (P8 r) Z1c)))) (Bx (Z3r K (Dq 0) (tCB (Z50 K) (E4 (Dq 1) Z1c)) f1) (Bx (Z3v K (Dq 0) (Dq 2) f2) (Z3v K (Dq 0) (Dq 3) f3)))))
  (hj:∀ (H:Hp) (e a:Addr) (ns:List Int) (i j:Int),SL K H a (ns.map V.int)->Gr ns->0<=i->i<1000->0<=j->j<1000->JOk 0 [some (.ref e),some (.ref a),some (.int i),some (.int j)] H r) :
  FnOk P w K mg base D9 (k+1) fI fd ["self",x1,x2,x3] (spG K C 3 (gC f1 f2 f3)):=by
 refine F.ok S (fun vs H Q E ⟨e,ws,ds,R,fl,ev,hl,_⟩=>by rw [ev,length_cons,hl];rfl) fun cdv A outer s H vs Q E hr ⟨e,ws,ds,R,fl,ev,hl,he,mu,re,rs,hG,q⟩=>⟨_,hb cdv A outer s H E hr,?_⟩
 subst ev;unfold gC at hG;split at hG
 ·rename_i xs i j
  obtain ⟨ns,hn,hG⟩:=bind_some hG;split at hG
  ·rename_i hs
   cases hG;rw [Bool.and_eq_true,Bool.and_eq_true] at hs;obtain ⟨⟨hs,hi⟩,hjj⟩:=hs;have hs:=Oc hs;obtain ⟨hi0,hi1⟩:=O5 hi;obtain ⟨hj0,hj1⟩:=O5 hjj;obtain ⟨v,r',e1,r1,r2⟩:=Y0 rs;obtain ⟨v2,r'',e2,r3,r4⟩:=Y0 r2;obtain ⟨v3,r''',e3,r5,r6⟩:=Y0 r4;have e4:=Yu r6;have e5:=Mi r3;have e6:=Mi r5;subst e1 e2 e3 e4 e5 e6;obtain ⟨a,us,e3,hS,ru⟩:=Mt r1;rw [Qy hn] at ru;have e4:=V6 ru;subst e3 e4;have hS':SL K H a (ns.map V.int):=W6.sl hS;show Bx _ _ _ [some (.ref e),some (.ref a),some (.int i),some (.int j)] H;refine ⟨.ref e,rfl,?_⟩;refine hj H e a ns i j hS' hs hi0 hi1 hj0 hj1 Str.empty _ (by decide) fun z=>?_
   refine ⟨e,C,none,.str z,fI',D,rfl,he,hx,?_⟩;refine ⟨.ref a,rfl,a,ns.map V.int,rfl,.inl hS'.sq,fun l hln=>?_⟩;have hle:l≠e:=fun z=>by rw [z,he] at hln;cases hln
   refine ⟨.ref e,rfl,e,C,none,fI',D,rfl,by rw [Zh (Ne.symm hle)];exact he,hx,xc,h1,fun dx hdx hde=>?_⟩;have hdl:dx≠l:=fun z=>by rw [z,Zt] at hdx;cases hdx
   have hdn:H dx=none:=by rw [Zh hdl] at hdx;exact hdx
   have nR:∀ {b:Addr},H b=none->R b=false:=fun {b} z=>by
    cases y:R b with
    | false=>rfl
    | true=>obtain ⟨o,ho⟩:=(mu b y).some;rw [z] at ho;cases ho
   have u2:∀ (G:Hp) (o o':HO),We (We G dx o) dx o'=We G dx o':=fun G o o'=>by funext b;unfold We;split<;>rfl
   have a1:(f2==f1)=false:=by simpa using Ne.symm n12
   have a2:(f3==f1)=false:=by simpa using Ne.symm n13
   have a3:(f3==f2)=false:=by simpa using Ne.symm n23
   have lk2:List.lookup f2 [(f1,V.ref l)]=none:=by simp [List.lookup,a1]
   have lk3:List.lookup f3 [(f1,V.ref l),(f2,V.int i)]=none:=by simp [List.lookup,a2,a3]
   refine ⟨.int i,rfl,.ref e,rfl,e,C,dx,[(f1,.ref l)],fI',D,rfl,by rw [Zh (Ne.symm hde),Zt],Zt,by simp,lk2,hx,xc,h2,?_⟩;refine ⟨.int j,rfl,.ref e,rfl,e,C,dx,[(f1,.ref l),(f2,.int i)],fI',D,rfl,by rw [Zh (Ne.symm hde),Zh (Ne.symm hde),Zt],Zt,by simp,lk3,hx,xc,h3,?_⟩;rw [u2,u2];refine q _ (some dx) (fun c o hc h=>?_) ?_ ?_ (Xs hdn Zt fun g a hm=>by simp at hm;obtain ⟨_,rfl⟩:=hm;exact hln)
   ·have c1:c≠dx:=fun z=>by rw [z,hdn] at h;cases h
    have c2:c≠l:=fun z=>by rw [z,hln] at h;cases h
    rw [Zh c1,Zh hc,Zh c2];exact h
   ·rw [Zh (Ne.symm hde),Zt]
   ·refine ⟨[(f1,.ref l),(f2,.int i),(f3,.int j)],V9 Zt (nR hdn),fun g=>?_⟩
    by_cases g1:g=f1
    ·subst g1
     refine .inr ⟨.nums ns,.ref l,by simp [List.lookup],by simp [List.lookup],l,rfl,.inl (.inl (V9 ?_ (nR hln))),?_⟩
     ·rw [Zh (Ne.symm hdl),Zh hle,Zt]
     ·exact le_of_lt (Tx (by have:=hs.1;lia))
    have b1:(g==f1)=false:=by simpa using g1
    by_cases g2:g=f2
    ·subst g2
     exact .inr ⟨.int i,.int i,by simp [List.lookup,b1],by simp [List.lookup,b1],rfl⟩
    have b2:(g==f2)=false:=by simpa using g2
    by_cases g3:g=f3
    ·subst g3
     exact .inr ⟨.int j,.int j,by simp [List.lookup,b1,b2],by simp [List.lookup,b1,b2],rfl⟩
    have b3:(g==f3)=false:=by simpa using g3
    exact .inl ⟨by simp [List.lookup,b1,b2,b3],by simp [List.lookup,b1,b2,b3]⟩
  ·cases hG
 ·cases hG
end
theorem Z55 {f:Str}:∀ ds fl,gW f ds=some fl->ds.length=1:=fun ds fl h=>by
 unfold gW at h;split at h
 ·rfl
 ·cases h
theorem Za9 {f1 f2 f3:Str}:∀ ds fl,gC f1 f2 f3 ds=some fl->ds.length=3:=fun ds fl h=>by
 unfold gC at h;split at h
 ·rfl
 ·cases h
theorem Iu {K:PySem.W.Frag} {C fI D:Addr} (q:Qi K C fI D=true) (cl:PySem.W.findIn K (.ref C) "__class__" = some (some (.builtin "object.__class__"))) (ga:PySem.W.findIn K (.ref C) "__getattribute__" = some (some (.builtin "BaseException.__getattribute__"))) (gh:PySem.W.findIn K (.ref C) "__getattr__" = some none) (sa:PySem.W.findIn K (.ref C) "__setattr__" = some (some (.builtin "object.__setattr__"))):XCls K C:=by
 refine ⟨?_,cl,ga,gh,sa⟩;unfold Qi at q;split at q
 ·rename_i dd cd sl ho
  split at q
  ·rename_i C' bm k0 k1 k2 k3 n k5 hm hs
   simp only [Bool.and_eq_true,beq_iff_eq,Bool.not_eq_true'] at q;obtain ⟨⟨⟨⟨⟨⟨⟨e1,_⟩,_⟩,hdi⟩,e2⟩,_⟩,_⟩,_⟩:=q;exact ⟨cd,by unfold PySem.W.clsIn;rw [ho],hdi,C',D,by rw [hm,e2]⟩
  ·cases q
 ·cases q
section
variable {M:Model} {A:Around} {E:Value->Shared->Prop} {s:Shared}
theorem O2 {base:Heap} {env:Env} {L e T:Addr} {cls:Value×Option Value} {dct:Option Addr} {Q:Unit->Shared->Prop} (hf:env.frame=some L) (ht:G5 s.heap base e T cls dct (rawInt L)) (h:Q () s):wpAny M A (noteFrame (.ref e) env) Q E s:=by
 obtain ⟨oe,vs,oT,ts,he,hcls,hdct,hd,h1,hnT,hTe,hT,hdT,h3⟩:=ht;unfold noteFrame;simp only [hf];refine wpAny_bind (wpAny_field he hd h1 ?_);rw [if_pos (show (Value.ref T != Value.none)=true from by simp)];refine wpAny_bind (wpAny_field hT hdT h3 ?_);rw [if_pos (show ((rawInt L==rawInt L)=true) from by simp)];exact wpAny_pure h
theorem Zbu {base:Heap} {l:List Env} {e T:Addr} {cls:Value×Option Value} {dct:Option Addr} {fl:Value} {fr:Option Addr} {Q:Unit->Shared->Prop}
  (hkb:base.StaysIn s.heap) (hl:s.heap.FunFrames base l) (ht:G5 s.heap base e T cls dct fl)
  (h:∀ h',base.StaysIn h'->h'.FunFrames base l->G5 h' base e T cls dct (fr.elim Value.none fun f=>rawInt f)->(∀ b o,s.heap.get? b=some o->b∉[T]->h'.get? b=some o)->h'.objs.size=s.heap.objs.size->Q () { s with heap:=h' }) :
  wpAny M A (setFlight (.ref e) fr) Q E s:=by
 obtain ⟨oe,vs,oT,ts,he,hcls,hdct,hd,h1,hnT,hTe,hT,hdT,h3⟩:=ht;have hsz3:3<ts.size:=(Array.getElem?_eq_some_iff.mp h3).1;have other:∀ b,b≠T->(s.heap.update T (Obj.mapFields (·.setIfInBounds 3 (fr.elim Value.none fun f=>rawInt f)))).get? b=s.heap.get? b :=
  fun b hb=>get?_update_other _ _ (Ne.symm hb)
 have noRecord:∀ b o,s.heap.get? b=some o->(∀ vs,o.data≠.fields vs)->b≠T:=fun b o hb hnf q=>by
  rw [q,hT] at hb;injection hb with hb;subst hb;exact hnf ts hdT
 unfold setFlight;refine wpAny_bind (wpAny_field he hd h1 ?_);rw [if_pos (show (Value.ref T != Value.none)=true from by simp)];refine wpAny_setField hT hdT hsz3 (h _ (fun b o hbo=>(other b fun q=>by rw [q,hnT] at hbo;cases hbo).trans (hkb b o hbo))
  (hl.of_keeps fun b o hb hnf=>⟨o,(other b (noRecord b o hb hnf)).trans hb,rfl⟩) ?_ (fun b o hb hnf=>(other b (fun z=>hnf (by simp [z]))).trans hb) (size_update ..))
 exact ⟨oe,vs,_,_,(other e (Ne.symm hTe)).trans he,hcls,hdct,hd,h1,hnT,hTe,get?_update_self _ hT (Obj.isFreed_of_fields (Obj.data_mapFields hdT _)),Obj.data_mapFields hdT _,by simp [hsz3]⟩
theorem Ak {base:Heap} {env:Env} {l:List Env} {L e T:Addr} {cls:Value×Option Value} {dct:Option Addr} {Q:Unit->Shared->Prop} (hf:env.frame=some L)
  (hkb:base.StaysIn s.heap) (hl:s.heap.FunFrames base l) (ht:G5 s.heap base e T cls dct (rawInt L))
  (h:∀ h',base.StaysIn h'->h'.FunFrames base l->G5 h' base e T cls dct .none->L8 l [T] s.heap h'->Q () { s with heap:=h' }):wpAny M A (leaving env (.ref e)) Q E s:=by
 unfold leaving;refine wpAny_bind (O2 hf ht ?_);exact Zbu (fr:=none) hkb hl ht fun h' y1 y2 y3 y4 y5=>h h' y1 y2 y3 (L8.of fun b o hb hc=>y4 b o hb hc)
theorem Zeg {A':Around} {base:Heap} {env:Env} {l:List Env} {L e T:Addr} {cls:Value×Option Value} {dct:Option Addr} {E':Value->Shared->Prop} (hf:env.frame=some L)
  (hkb:base.StaysIn s.heap) (hl:s.heap.FunFrames base l) (ht:G5 s.heap base e T cls dct (rawInt L))
  (h:∀ h',base.StaysIn h'->h'.FunFrames base l->G5 h' base e T cls dct (rawInt L)->L8 l [T] s.heap h'->E' (.ref e) { s with heap:=h' }):notedBy M A' env (cameBackBy M A env E') (.ref e) s:=by
 refine O2 (A:=A') (E:=cameBackBy M A env E') hf ht ?_;obtain ⟨oe,vs,oT,ts,he,hcls,hdct,hd,h1,hnT,hTe,hT,hdT,h3⟩:=id ht;refine wpAny_bind (wpAny_field he hd h1 ?_);rw [if_neg (show ¬ (Value.ref T==Value.none)=true from by simp)];rw [hf];exact Zbu (fr:=some L) hkb hl ht fun h' y1 y2 y3 y4 y5=>h h' y1 y2 y3 (L8.of fun b o hb hc=>y4 b o hb hc)
theorem Z92 {base:Heap} {env:Env} {l:List Env} {L e T:Addr} {cls:Value×Option Value} {dct:Option Addr} {E':Value->Shared->Prop} (hf:env.frame=some L)
  (hkb:base.StaysIn s.heap) (hl:s.heap.FunFrames base l) (ht:G5 s.heap base e T cls dct (rawInt L))
  (h:∀ h',base.StaysIn h'->h'.FunFrames base l->G5 h' base e T cls dct (rawInt L)->(∀ b o,s.heap.get? b=some o->b∉[T]->h'.get? b=some o)->E' (.ref e) { s with heap:=h' }):cameBackBy M A env E' (.ref e) s:=by
 obtain ⟨oe,vs,oT,ts,he,hcls,hdct,hd,h1,hnT,hTe,hT,hdT,h3⟩:=id ht;refine wpAny_bind (wpAny_field he hd h1 ?_);rw [if_neg (show ¬ (Value.ref T==Value.none)=true from by simp)];rw [hf];exact Zbu (fr:=some L) hkb hl ht fun h' y1 y2 y3 y4 y5=>h h' y1 y2 y3 y4
end
def A5 (X:Cx) (E:XK):Value->Shared->Prop:=fun v s=>∃ (e C:Addr) (dct:Option Addr) (pins:List (Addr×Obj)) (σ:St) (H:Hp),v=.ref e/\Inv X pins σ H s/\X.s₀.heap.objs.size<=e/\H e=none/\(∀ p∈X.pn++pins,p.1≠e) /\
 ((∃ o vs,s.heap.get? e=some o/\o.cls=.ref C/\o.dict=dct/\o.data=.fields vs/\vs[1]?=some .none)\/∃ T fl c2,X.s₀.heap.objs.size<=T/\H T=none/\(∀ p∈X.pn++pins,p.1≠T)/\G5 s.heap X.base e T (.ref C,c2) dct fl/\(fl=.none\/fl=rawInt X.env.locals))/\X9 X.H₀ H dct/\E (.ref C) dct H
theorem XSt.lie {X:Cx} {E:XK} {pins:List (Addr×Obj)} {σ:St} {H:Hp} {s:Shared} {e C:Addr} {dct:Option Addr} (I:Inv X pins σ H s) (x:XSt X pins H s.heap e C dct) (hnw:X9 X.H₀ H dct) (q:E (.ref C) dct H):A5 X E (.ref e) s :=
 ⟨e,C,dct,pins,σ,H,rfl,I,x.lo,x.un,x.pe,x.ob.imp (fun ⟨o,vs,a,b,c,d,g,_⟩=>⟨o,vs,a,b,c,d,g⟩) fun ⟨T,c2,h1,h2,h3,h4,_⟩=>⟨T,.none,c2,h1,h2,h3,h4,.inl rfl⟩,hnw,q⟩
theorem Z4b {X:Cx} {E:XK} {A':Around} (hA:A'.frames=X.A.frames) (hstk:X.stack=X.env::X.outer/\X.env.frame=some X.env.locals):PassesOwnAt (model X.prog X.w) A' X.A X.env (A5 X E):=by
 rintro ev s1 ⟨e,C,dct,pins,σ,H,rfl,J1,lo,un,pe,ob,hnw,q⟩;have hfr:A'.frames=some (X.env::X.outer):=by rw [hA,← hstk.1];exact J1.ok.frames
 have hl:s1.heap.FunFrames X.base (X.env::X.outer):=by rw [← hstk.1];exact J1.stack
 have hkb:X.base.StaysIn s1.heap:=J1.bk;have hen:X.base.get? e=none:=J1.noBase lo;have hfree:∀ b∈Sw (X.env::X.outer),H b=none:=by rw [← hstk.1];exact J1.stkFree
 have nloc:∀ {a:Addr} {o:Obj} {vs:Array Value},s1.heap.get? a=some o->o.data=.fields vs->a≠X.env.locals/\∀ y c,X.env.cells.lookup y=some c->c≠a:=fun {a o vs} ho hd=>by
  refine ⟨fun z=>?_,fun y c hc z=>?_⟩
  ·obtain ⟨m,⟨o',es,ep,ho',hd',_⟩,_⟩:=J1.loc
   rw [z,ho'] at ho;cases ho;rw [hd] at hd';cases hd'
  ·obtain ⟨v,o',ho',hd'⟩:=J1.cell y c hc
   rw [z,ho] at ho';cases ho';rw [hd] at hd';cases hd'
 have after:∀ (h2:Heap) (T':Addr) (c2:Option Value) (ch:List Addr),(X.s₀.heap.objs.size<=T'/\H T'=none/\∀ p∈X.pn++pins,p.1≠T')->G5 h2 X.base e T' (.ref C,c2) dct (rawInt X.env.locals)->L8 (X.env::X.outer) ch s1.heap h2->(∀ b∈ch,H b=none/\X.s₀.heap.objs.size<=b/\b≠X.env.locals/\(∀ y c,X.env.cells.lookup y=some c->c≠b)/\∀ p∈X.pn++pins,p.1≠b)->A5 X E (.ref e) { s1 with heap:=h2 }:=fun h2 T' c2 ch hT tr kp hch=>by
  have J2:Inv X pins σ H { s1 with heap:=h2 }:=J1.call' (s':={ s1 with heap:=h2 }) (ch:=ch) rfl (by rw [hstk.1];exact Gx kp fun b hb=>(hch b hb).1) (Jq J1.hok kp (fun b hb=>(hch b hb).1) hfree) J1.bare fun b hb=>⟨.inr (hch b hb).2.1,(hch b hb).2.2.1,(hch b hb).2.2.2.1,(hch b hb).2.2.2.2⟩
  exact ⟨e,C,dct,pins,σ,H,rfl,J2,lo,un,pe,.inr ⟨T',_,c2,hT.1,hT.2.1,hT.2.2,tr,.inr rfl⟩,hnw,q⟩
 have fresh:∀ {T':Addr},s1.heap.objs.size<=T'->X.s₀.heap.objs.size<=T'/\H T'=none/\∀ p∈X.pn++pins,p.1≠T':=fun {T'} h=>⟨le_trans J1.sz h,J1.hok.fresh h,fun p hp z=>by
  have:=(J1.pin p hp).1;rw [z] at this;exact absurd (lt_size this) (not_lt.mpr h)⟩
 rcases ob with ⟨o,vs,he,hc,hd,hda,h1⟩ | ⟨T,fl,c2,hT1,hT2,hT3,ht,hfl⟩
 ·have el:=nloc he hda
  refine Jg (E:=cameBackBy (model X.prog X.w) X.A X.env (A5 X E)) hfr hl hstk.2 he hkb hen hda h1 fun h' T' z0 z1 z2 z3 z4 z5=>?_
  rw [hc,hd] at z3;exact Z92 (s:={ s1 with heap:=h' }) hstk.2 z1 z2 z3 fun h2 y1 y2 y3 y4=>after h2 T' _ [e] (fresh z0) y3 (Ma z4 z0 y4) fun b hb=>by rw [mem_singleton.mp hb];exact ⟨un,lo,el.1,el.2,pe⟩
 ·obtain ⟨oe,ve,oT,ts,g1,g2,g3,g4,g5,g6,g7,g8,g9,g10⟩:=id ht
  have el:=nloc g1 g4;have eT:=nloc g8 g9;rcases hfl with hfl | hfl
  ·subst hfl
   refine Z05 (E:=cameBackBy (model X.prog X.w) X.A X.env (A5 X E)) hfr hl hstk.2 ht hkb hen fun h' T' z0 z1 z2 z3 z4 z5=>?_
   refine Z92 (s:={ s1 with heap:=h' }) hstk.2 z1 z2 z3 fun h2 y1 y2 y3 y4=>after h2 T' _ [e,T] (fresh z0) y3 (Ma z4 z0 y4) fun b hb=>?_
   rcases mem_cons.mp hb with e1 | e1
   ·rw [e1];exact ⟨un,lo,el.1,el.2,pe⟩
   ·rw [mem_singleton.mp e1];exact ⟨hT2,hT1,eT.1,eT.2,hT3⟩
  ·subst hfl
   exact Zeg hstk.2 hkb hl ht fun h2 y1 y2 y3 kp=>after h2 T _ [T] ⟨hT1,hT2,hT3⟩ y3 kp fun b hb=>by rw [mem_singleton.mp hb];exact ⟨hT2,hT1,eT.1,eT.2,hT3⟩
theorem Zeb {X:Cx} {E:XK} (hstk:X.stack=X.env::X.outer/\X.env.frame=some X.env.locals):PassesOwn (model X.prog X.w) X.A X.env (A5 X E):=fun e s h=>Z4b rfl hstk e s h
end L2
namespace L2
open PySem PySem.Spec PyProof.Rows
theorem Z14 {P:Program} {w:World} {K:PySem.W.Frag} {mg:Str->Option Value} {base:Heap} {N:List Str} {qual:Str} {scope:Scope} {f:Addr} {cd:Value} {A:Around} {outer:List Env} {s:Shared} {H:Hp} {E:XK} {pins:List (Addr×Obj)} {σ:St} {H':Hp} {s':Shared} {e C T:Addr} {dct:Option Addr} {c2:Option Value}
  (I:Inv (Qh (CXv P w base) P w K mg base N qual scope f cd A outer s H E) pins σ H' s') (lo:s.heap.objs.size<=e) (un:H' e=none) (hT:s.heap.objs.size<=T) (hTn:H' T=none) (ht:G5 s'.heap base e T (.ref C,c2) dct (rawInt s.heap.objs.size)) (hnw:X9 H H' dct) (q:E (.ref C) dct H') :
  (Qh (CXv P w base) P w K mg base N qual scope f cd A outer s H E).xe (.ref e) s':=by
 have hl:s'.heap.FunFrames base (envOfC qual scope s.heap.objs.size f cd::outer):=I.stack;have hkb:base.StaysIn s'.heap:=I.bk;have bs:Un (Sw outer) [] H H' s.heap s'.heap:=I.base;have hfree:∀ b∈Sw (envOfC qual scope s.heap.objs.size f cd::outer),H' b=none:=I.stkFree;refine Ak (env:=envOfC qual scope s.heap.objs.size f cd) rfl hkb hl ht fun h' z1 z2 z3 kp=>?_
 have hch:∀ b∈[T],H' b=none/\s.heap.objs.size<=b:=fun b hb=>by rw [mem_singleton.mp hb];exact ⟨hTn,hT⟩
 have ncb:∀ {b:Addr} {o:Obj},s.heap.get? b=some o->b∉[T]:=fun {b o} q z=>absurd (lt_size q) (not_lt.mpr (hch b z).2)
 have nfr:∀ {b:Addr} {o:Obj},s.heap.get? b=some o->b∉Sw outer->b∉Sw (envOfC qual scope s.heap.objs.size f cd::outer):=fun {b o} q n z=>by
  rcases mem_cons.mp (I.stkSub b z) with e1 | e1
  ·have:b=s.heap.objs.size:=e1
   exact absurd (lt_size q) (by rw [this];exact lt_irrefl _)
  ·exact n e1
 refine ⟨e,C,dct,T,H',c2,rfl,I.os,I.bare,⟨?_,?_,?_,?_,bs.tups,bs.frzs,bs.tbls⟩,Jq I.hok kp (fun b z=>(hch b z).1) hfree,lo,hT,un,hTn,z3,(fun z=>nomatch z),hnw,q⟩
 ·exact fun b o q n hf hx=>(kp b o (bs.keep b o q n hf hx) (ncb q)).1 (nfr q hf)
 ·intro b o q n hf hx
  obtain ⟨sl,z⟩:=bs.slot b o q n hf hx;obtain ⟨sl',z'⟩:=(kp b _ z (ncb q)).2;exact ⟨sl',z'⟩
 ·exact fun b o q n hx=>bs.free b o q n hx
 ·intro b o q hx
  obtain ⟨o',z⟩:=bs.there b o q hx;obtain ⟨sl,z'⟩:=(kp b o' z (ncb q)).2;exact ⟨_,z'⟩
theorem Z1q {P:Program} {w:World} {K:PySem.W.Frag} {mg:Str->Option Value} {base:Heap} {N:List Str} {qual:Str} {scope:Scope} {f:Addr} {cd:Value} {A:Around} {outer:List Env} {s:Shared} {H:Hp} {E:XK} {v:Value} {s':Shared}
  (h:A5 (Qh (CXv P w base) P w K mg base N qual scope f cd A outer s H E) E v s'):(Qh (CXv P w base) P w K mg base N qual scope f cd A outer s H E).xe v s':=by
 obtain ⟨e,C,dct,pins,σ,H',rfl,J,lo,un,pe,ob,hnw,q⟩:=h;rcases ob with ⟨o,vs,a1,a2,a3,a4,a5⟩ | ⟨T,fl,c2,h1,h2,h3,h4,h5 | h5⟩
 ·exact Km J ⟨lo,un,.inl ⟨o,vs,a1,a2,a3,a4,a5,fun z=>nomatch z⟩,pe⟩ rfl hnw q
 ·subst h5
  exact Km J ⟨lo,un,.inr ⟨T,c2,h1,h2,h3,h4,fun z=>nomatch z⟩,pe⟩ rfl hnw q
 ·subst h5
  exact Z14 J lo un h1 h2 h4 hnw q
theorem Sx.wishE {X:Cx} {E:Value->Shared->Prop} {st:List Stmt} {t:TS} (h:Sx (X.wish E) st t) (he:∀ v s,E v s->X.xe v s):Sx X st t:=fun pins s σ H D I hw =>
 wpAny_mono (h pins s σ H D (I.wish _) hw) (fun _ _ q=>q.unwish) he
section
variable {P:Program} {w:World} {K:PySem.W.Frag} {mg:Str->Option Value} {base:Heap}
abbrev cxL (P:Program) (w:World) (K:PySem.W.Frag) (mg:Str->Option Value) (base:Heap) (N:List Str) (qual:Str) (scope:Scope) (f:Addr) (cd:Value) (A:Around) (outer:List Env) (s:Shared) (H:Hp) (E:XK):Cx :=
 (Qh (CXv P w base) P w K mg base N qual scope f cd A outer s H E).wish (A5 (Qh (CXv P w base) P w K mg base N qual scope f cd A outer s H E) E)
theorem Z2a {fr:Bool} {N:List Str} {qual:Str} {scope:Scope} {f:Addr} {cd:Value} {A:Around} {outer:List Env} {s:Shared} {H:Hp} {E:XK} {p:Nat} {g:Ev->Fl} {ds:List Dat} {R:AS} {vs:List V} {Q:VK} (hp:p<=N.length) (mu:T7 R H) (r:Wk K (av H R) ds vs)
  (q:Z0e K fr R H Q E (Wa N.length p g ds)) :
  tS fr (cxL P w K mg base N qual scope f cd A outer s H E) g (Ends.mk (fun _ H'=>Q .non H') Q (fun _ _=>False) (fun _ _=>False)) (start N vs) H:=by
 unfold Wa at q;split at q
 ·rename_i hl
  refine ⟨Qe N.length ds,⟨H,R,true⟩,R,Ky mu r (by lia),rfl,?_⟩;split at q
  ·rename_i d' e
   rw [e];exact fun v H' s r n=>q v H' s r n
  ·rename_i env e
   rw [e];exact fun A' H' σ' s k=>q .non H' k.h0 L6 (fun _ ds e=>by cases e)
  ·rename_i env c fs e
   rw [e];exact fun A' H' σ' st k pins s' e C dct I hc x hf hnw=>XSt.lie (I.unwish) ⟨x.lo,x.un,x.ob,x.pe⟩ hnw (q C dct H' k.h0 hc (hf.mono (Qr k.ra)))
  ·exact q.elim
 ·exact q.elim
theorem B1 {x:Str} {st:Stmt} {N ps:List Str} {k:Nat} {fr:Bool} {g:Ev->Fl} (D:Def K mg x st) (S:FnScope N ps (Z6 st))
  (hbi:∀ (kV doc pm:Value) (an:Option Addr) (cdv ct:Value) (us:List Value),us.length=ps.length->bindArgs (fnOf x x (Wn st) (Y8 st) (Z6 st) .none kV doc pm an cdv ct) ⟨us,[]⟩=pure (ps.zip us))
  (hb:∀ (f:Addr) (cdv:Value) (A:Around) (outer:List Env) (s:Shared) (H:Hp) (E:XK),Room k (A.deeper (envOfC x (Z6 st) s.heap.objs.size f cdv))->Nd fr (cxL P w K mg base N x (Z6 st) f cdv A outer s H E) (Y8 st) g) :
  CalX P w K mg base (k+1) x ps fr (Wa N.length ps.length g):=by
 have hpl:ps.length<=N.length:=by have:=congrArg List.length S.pre;rw [length_take] at this;lia
 obtain ⟨f,fd,F,hm⟩:=D.ex;refine ⟨⟨f,fd,F.okX S (fun vs H Q E h=>h.1) fun cdv A outer s H vs Q E hr ⟨hl,ds,R,mu,r,q⟩=>⟨_,Sx.wishE (hb f cdv A outer s H E hr) fun v s' z=>Z1q z,?_⟩,hm,F.kp,F.binds hbi⟩,fun ds h=>O1 h⟩;exact Z2a hpl mu r q
theorem X5 {N:List Str} {qual:Str} {scope:Scope} {f:Addr} {cd:Value} {A:Around} {outer:List Env} {s:Shared} {H:Hp} {E:XK} :
  PassesOwn (model P w) (cxL P w K mg base N qual scope f cd A outer s H E).A (cxL P w K mg base N qual scope f cd A outer s H E).env (cxL P w K mg base N qual scope f cd A outer s H E).xe :=
 Zeb (X:=Qh (CXv P w base) P w K mg base N qual scope f cd A outer s H E) ⟨rfl,rfl⟩
end
section
variable {X:Cx}
def Z74:V->List V->Hp->VK->Prop:=fun x vs H Q=>∃ l xs i y,x=.ref l/\vs=[.int i,y]/\H l=some (.lst xs)/\0<=i/\i<=xs.length/\xs.length<sizeLine/\Q .non (We H l (.lst (xs.take i.toNat++y::xs.drop i.toNat)))
theorem Nj:∀ {vs:List V} {us:List Value} (n:Nat),Y2 vs us->Y2 (vs.take n) (us.take n)
 | _,_,0,_=>by simp;exact .nil
 | [],us,n+1,h=>by cases h;exact .nil
 | v::vs,us,n+1,h=>by cases h with | cons a b=>exact .cons a (Nj n b)
theorem Np:∀ {vs:List V} {us:List Value} (n:Nat),Y2 vs us->Y2 (vs.drop n) (us.drop n)
 | _,_,0,h=>h
 | [],us,n+1,h=>by cases h;exact .nil
 | v::vs,us,n+1,h=>by cases h with | cons a b=>exact Np n b
theorem Z1n:MtM X "list.insert" Z74:=by
 intro pins s σ H x vs v us Q I rx rv h;obtain ⟨l,xs,i,y,rfl,rfl,hH,h0,h1,hz,q⟩:=h;cases rx;cases rv with
 | cons r1 r2 =>
  cases r2 with
  | cons ru r3 =>
   cases r3;obtain ⟨t,rfl⟩:=r1;rename_i u;obtain ⟨z,its,n,r,hl,e⟩:=I.lstM hH;have hfit:¬ (!Builtin.List.listFitsIndex i)=true:=by
    have:(sizeLine:Nat)<2^62:=by decide
    rw [fitsIndex_both (by lia) (by lia)]
    decide
   refine call_meets F.slot_list_insert ⟨_,e,rfl⟩ F.entry_list_insert (F.args_list_insert_3 _ _ _) (AutoSeq1.list_insert_list_int_val_1 l its.toArray n i t u hfit (by rw [size_toArray];lia)) ⟨e,?_⟩;refine ⟨.non,_,I.lset (its':=its.take i.toNat++u::its.drop i.toNat) hH e ?_ ((Nj _ r).append (.cons ru (Np _ r))) ?_,rfl,q⟩
   ·apply Array.toList_inj.mp
    have hm:(if i<0 then (i+(its.toArray.size:Int)).toNat else min i.toNat its.toArray.size)=i.toNat:=by
     rw [if_neg (by lia),size_toArray,Nat.min_eq_left (by lia)]
    show ((its.toArray.extract 0 (if i<0 then (i+(its.toArray.size:Int)).toNat else min i.toNat its.toArray.size)).push u++its.toArray.extract (if i<0 then (i+(its.toArray.size:Int)).toNat else min i.toNat its.toArray.size)).toList=_;rw [hm];simp [List.extract];exact take_of_length_le (by rw [length_drop];lia)
   ·rw [length_append,length_cons,length_take,length_drop]
    lia
def Ee:List Dat->List Dat->Option (List Dat)
 | ds,[.int i,d]=>if 0<=i/\i<=ds.length/\ds.length<sizeLine then some (ds.take i.toNat++d::ds.drop i.toNat) else none
 | _,_=>none
theorem F4:MtU X "list.insert" Ee:=MtR.weak (id:="list.insert") Z1n fun v us H Q zz=>by
 obtain ⟨A,a,vs,ds,as,ds',mu,e1,h1,r1,r2,e2,q⟩:=zz;unfold Ee at e2;split at e2
 ·rename_i i d
  split at e2
  ·rename_i hl
   cases e2;obtain ⟨w,us',e3,r3,e4⟩:=r2;obtain ⟨w2,us2,e5,r5,e6⟩:=e4;have hw:w=.int i:=(Rm.pk r3).int;have hlen:=Zy r1;refine ⟨a,vs,i,w2,e1,by rw [e3,e5,show us2=[] from e6,hw],h1,hl.1,by rw [hlen];exact hl.2.1,by rw [hlen];exact hl.2.2,q _ _ (by rw [length_append,length_cons,length_take,length_drop];lia) (Vb (Lo _ r1) (Uz r5 (Ll _ r1)))⟩
  ·cases e2
 ·cases e2
def Z9w (c:Int):Value->Bool
 | .int z _=>z==c
 | _=>false
theorem X0:∀ {ns:List Int} {us:List Value},Y2 (ns.map V.int) us->∀ (j:Nat) (h:j<us.length) (h':j<ns.length),∃ t,us[j]=.int ns[j] t
 | [],us,r,j,h,h'=>by simp at h'
 | n::ns,us,r,j,h,h'=>by
  rw [map_cons] at r;cases r with
  | cons r1 r2 =>
   obtain ⟨t,e⟩:=r1;subst e;cases j with
   | zero=>exact ⟨t,rfl⟩
   | succ j=>exact X0 r2 j (by simpa using h) (by simpa using h')
theorem Z9q {ns:List Int} {us:List Value} (r:Y2 (ns.map V.int) us) {y:Value} (h:y∈us):∃ z t,y=.int z t:=by
 obtain ⟨j,hj,rfl⟩:=getElem_of_mem h;have hl:=r.length;rw [length_map] at hl;obtain ⟨t,e⟩:=X0 r j hj (by lia);exact ⟨_,t,e⟩
theorem Z0y:MtR X "list.index" (fun x vs H Q=>∃ (p:Addr) (zs:List Int) (c:Int),x=.ref p/\vs=[.int c]/\S9 X.K H p (zs.map V.int)/\c∈zs/\Q (.int ((zs.idxOf c:Nat):Int)) H):=by
 intro pins s σ H x vs v us Q I rx rs h;obtain ⟨p,zs,c,rfl,rfl,hq,hm,q⟩:=h;cases rx;obtain ⟨u',rfl,ru⟩:=Ji rs;obtain ⟨u,rfl⟩:=ru;obtain ⟨its,r',pl,hz⟩:=I.list hq;obtain ⟨⟨cls,dd,data,sl⟩,ho,hc,n,hd⟩:=pl.isList;simp only at hc hd;subst hc hd;have hlen':=r'.length;rw [length_map] at hlen' hz;have hj:zs.idxOf c<zs.length:=List.idxOf_lt_length_iff.mpr hm;have hsl:sizeLine<2^63 - 1:=by decide
 refine call_meets PySem.F.slot_list_index ⟨_,ho,rfl⟩ PySem.F.entry_list_index (PySem.F.args_list_index_2 _ _) (SeqAt.list_indexAt p _ n dd sl (.int c u) (Z9w c) (zs.idxOf c) (by simpa [← hlen'] using hj) (by lia) ?_ ?_) ⟨ho,fun y hy=>?_,⟨.int _,H,I.tok _,⟨_,rfl⟩,q⟩⟩
 ·obtain ⟨t,e⟩:=X0 r' (zs.idxOf c) (by lia) hj
  show Z9w c (its[zs.idxOf c]'(by lia))=true;rw [e];show (zs[zs.idxOf c]==c)=true;simpa using List.getElem_idxOf hj
 ·intro j hjs hlt
  have hjb:j<zs.length:=by lia
  obtain ⟨t,e⟩:=X0 r' j (by lia) hjb;show Z9w c (its[j]'(by lia))=false;rw [e];show (zs[j]==c)=false;have:=List.not_of_lt_findIdx (xs:=zs) (p:=(·==c)) (i:=j) (by simpa [List.idxOf] using hlt);simpa using this
 ·obtain ⟨z,t,rfl⟩:=Z9q r' (by simpa using hy)
  exact SeqAt.EqAt.int_int z t c u
def Lr:Dat->List Dat->Option Dat
 | .lst xs,[.int c]=>(Ja xs).bind fun zs=>if c∈zs then some (.int ((zs.idxOf c:Nat):Int)) else none
 | _,_=>none
theorem Ab:MtD X "list.index" Lr:=Z0y.weak fun v vs H Q zz=>by
 obtain ⟨A,x,ds,d,mu,e,p,ps,q⟩:=zz;unfold Lr at e;split at e
 ·rename_i xs c
  obtain ⟨l,us,e2,h1,r1⟩:=p.lst;obtain ⟨v1,e3,p1⟩:=ps.one;obtain ⟨zs,hy,e⟩:=bind_some e;split at e
  ·rename_i hc
   cases e;rw [Qy hy] at r1;have eu:=V6 r1;subst eu;exact ⟨l,zs,c,e2,by rw [e3,p1.int],h1.sq,hc,q.here W4⟩
  ·cases e
 ·cases e
end
section
variable {fr m:Bool} {X:Cx} {e:Expr} {f fa fb:Ev->Option Dat} {pos:Pos}
end
theorem EnvOk.gx {K:PySem.W.Frag} {B:Bs} {A:AS} {H:Hp} {σ:St} {env:Ev} {i:Nat} {g:GX} (k:EnvOk K B A H σ env) (hst:B.st=true) (h:env[i]?=some (.gx g)) :
  ∃ (v:V) (o:Addr->Prop),σ[i]?=some (some v)/\GOk K A H o g v/\(∀ b,o b->A b=true/\B.H₀ b=none) /\
   ∀ (b:Addr) (O:HO) (g':GX),o b->Mtb (some O)->GOk K A (We H b O) o g' v->Step A H A (We H b O)/\EnvOk K B A (We H b O) σ (env.set i (.gx g')):=by
 obtain ⟨own,h1,h2,h4⟩:=k.sl;obtain ⟨x,q1,v,e1,e2⟩:=h4 i _ h;subst e1;have hb0:∀ b,own i b->A b=true/\B.H₀ b=none:=fun b ob=>by
  obtain ⟨hA,hR⟩:=h2 i b ob;refine ⟨hA,?_⟩;rcases k.ar b hA with z | z
  ·rw [z] at hR;cases hR
  ·exact z
 refine ⟨v,own i,q1,e2,hb0,fun a O g' oa hO hg=>?_⟩;obtain ⟨hA,h0⟩:=hb0 a oa;have avs:Zs (av H A) (av (We H a O) A):=fun b o e=>by
  obtain ⟨z1,z2⟩:=Js e;have hb:b≠a:=by intro z;rw [z,hA] at z1;cases z1
  exact V9 (by rw [Zh hb];exact z2) z1
 refine ⟨⟨fun b o hb hAb=>?_,fun b hb=>.inl hb⟩,?_⟩
 ·have hn:b≠a:=by intro z;rw [z,hA] at hAb;cases hAb
  rw [Zh hn];exact hb
 ·refine ⟨fun b o hb=>?_,k.r0,k.ra,k.ar,fun b hb=>?_,by rw [length_set];exact k.len,fun hs j d'=>Li (k.np hs) (fun _ z=>by cases z) j d',own,h1,h2,fun j s e=>?_⟩
  ·have hn:b≠a:=Y5 hb h0
   rw [Zh hn];exact k.h0 b o hb
  ·by_cases hn:b=a
   ·subst hn;rw [Zt];exact hO
   ·rw [Zh hn];exact k.mu b hb
  ·by_cases hj:i=j
   ·subst hj
    rw [getElem?_set,if_pos rfl] at e;split at e
    ·cases e
     exact ⟨_,q1,v,rfl,hg⟩
    ·cases e
   ·rw [getElem?_set,if_neg hj] at e
    obtain ⟨x,p1,p2⟩:=h4 j s e;refine ⟨x,p1,?_⟩;cases s with
    | un=>trivial
    | fz d=>obtain ⟨v,z1,z2⟩:=p2;exact ⟨v,z1,z2.mono avs⟩
    | pk d=>exact absurd e (k.np hst j d)
    | ow es =>
     obtain ⟨b,us,z1,z2,z3,z4,z5⟩:=p2;have hn:b≠a:=fun z=>hj (h1 i j a oa (z▸z2))
     exact ⟨b,us,z1,z2,z3,by rw [Zh hn];exact z4,z5.mono avs⟩
    | gx g2 =>
     obtain ⟨w,z1,z2⟩:=p2;exact ⟨w,z1,z2.frame (fun _ z=>z) (fun b x ob z=>by
      have hn:b≠a:=fun y=>hj (h1 i j a oa (y▸ob))
      rw [Zh hn];exact z) avs⟩
def Nb (A:AS) (S:Addr->Bool):AS:=fun b=>A b||S b
theorem EnvOk.putG {K:PySem.W.Frag} {B:Bs} {A:AS} {H H':Hp} {σ:St} {env:Ev} (k:EnvOk K B A H σ env) (hst:B.st=true) (i:Nat) {g:GX} {v:V} {S:Addr->Bool} (s:Zs H H') (hn:∀ p,S p=true->H p=none) (hm:∀ p,S p=true->Mtb (H' p)) (r:GOk K (Nb A S) H' (fun b=>S b=true) g v) :
  Step A H (Nb A S) H'/\EnvOk K B (Nb A S) H' (σ.set i (some v)) (env.set i (.gx g)):=by
 have or_of:∀ {b},Nb A S b=true->A b=true\/S b=true:=fun {b} h=>by unfold Nb at h;rw [Bool.or_eq_true] at h;exact h
 have inl_of:∀ {b},A b=true->Nb A S b=true:=fun {b} h=>by unfold Nb;rw [h];rfl
 have inr_of:∀ {b},S b=true->Nb A S b=true:=fun {b} h=>by unfold Nb;rw [h,Bool.or_true]
 have st:Step A H (Nb A S) H':=⟨fun a o h _=>s a o h,fun a h=>(or_of h).imp id fun z=>hn a z⟩;have hAp:∀ p,S p=true->A p=false:=fun p hp=>k.mu.new (hn p hp)
 have h0:∀ p,S p=true->B.H₀ p=none:=fun p hp=>k.h0.free (hn p hp)
 obtain ⟨own,h1,h2,h4⟩:=k.sl;refine ⟨st,k.h0.trans s,k.r0,fun a h=>inl_of (k.ra a h),fun a h=>?_,fun a h=>?_,by rw [length_set,length_set];exact k.len,fun hs j d'=>Li (k.np hs) (fun _ z=>by cases z) j d',
  fun j a=>(j≠i/\own j a)\/(j=i/\S a=true),fun j j' a z z'=>?_,fun j a z=>?_,fun j sl e=>?_⟩
 ·rcases or_of h with z | z
  ·exact k.ar a z
  ·exact .inr (h0 a z)
 ·rcases or_of h with z | z
  ·exact k.mu.mono s a z
  ·exact hm a z
 ·rcases z with z | z<;>rcases z' with z' | z'
  ·exact h1 j j' a z.2 z'.2
  ·have:=(h2 j a z.2).1;rw [hAp a z'.2] at this;cases this
  ·have:=(h2 j' a z'.2).1;rw [hAp a z.2] at this;cases this
  ·rw [z.1,z'.1]
 ·rcases z with z | z
  ·exact ⟨inl_of (h2 j a z.2).1,(h2 j a z.2).2⟩
  ·refine ⟨inr_of z.2,?_⟩
   cases q:B.R a with
   | false=>rfl
   | true=>obtain ⟨o,ho⟩:=k.r0 a q;rw [h0 a z.2] at ho;cases ho
 ·by_cases hj:i=j
  ·subst hj
   rw [getElem?_set,if_pos rfl] at e;split at e
   ·rename_i hl
    cases e;exact ⟨some v,by rw [getElem?_set,if_pos rfl,if_pos (by rw [k.len];exact hl)],v,rfl,r.frame (fun _ z=>.inr ⟨rfl,z⟩) (fun _ _ _ z=>z) (Zs.refl _)⟩
   ·cases e
  ·rw [getElem?_set,if_neg hj] at e
   obtain ⟨x,p1,p2⟩:=h4 j sl e;refine ⟨x,by rw [getElem?_set,if_neg hj];exact p1,?_⟩;cases sl with
   | un=>trivial
   | fz d=>obtain ⟨v,z1,z2⟩:=p2;exact ⟨v,z1,z2.mono st.av⟩
   | pk d=>exact absurd e (k.np hst j d)
   | ow es =>
    obtain ⟨b,us,z1,z2,z3,z4,z5⟩:=p2;exact ⟨b,us,z1,.inl ⟨Ne.symm hj,z2⟩,z3,s _ _ z4,z5.mono st.av⟩
   | gx g2 =>
    obtain ⟨w,z1,z2⟩:=p2;exact ⟨w,z1,z2.frame (fun _ z=>.inl ⟨Ne.symm hj,z⟩) (fun b x _ z=>s b x z) st.av⟩
section
variable {fr m:Bool} {X:Cx} {e ix:Expr} {f fa:Ev->Option Dat} {fs:Ev->Option (List Dat)} {pos:Pos}
def De (dss:List (List Dat)) (k:Int):Option (List Dat):=if 0<=k then dss[k.toNat]? else none
def Z2g (i:Nat) (fa:Ev->Option Dat):Ev->Option Dat:=fun env=>match env[i]?,fa env with
 | some (.gx (.nest dss)),some (.int k)=>(De dss k).map .lst
 | _,_=>none
theorem EnvOk.nest {K:PySem.W.Frag} {B:Bs} {A:AS} {H:Hp} {σ:St} {env:Ev} {i:Nat} {dss:List (List Dat)} (k:EnvOk K B A H σ env) (h:env[i]?=some (.gx (.nest dss))) :
  ∃ (a:Addr) (as:List Addr),σ[i]?=some (some (.ref a))/\H a=some (.lst (as.map V.ref))/\as.length=dss.length/\∀ (n:Nat) b ds,as[n]?=some b->dss[n]?=some ds->ds.length<=sizeLine/\∃ vs,H b=some (.lst vs)/\Wk K (av H A) ds vs:=by
 obtain ⟨own,h1,h2,h4⟩:=k.sl;obtain ⟨x,q1,v,e1,a,as,e2,e3,e4,e5,e6,e7,e8,e9⟩:=h4 i _ h;subst e1 e2;exact ⟨a,as,q1,e5,e6,fun n b ds z1 z2=>⟨(e9 n b ds z1 z2).2.1,(e9 n b ds z1 z2).2.2⟩⟩
theorem Hj {dss:List (List Dat)} {k:Int} {ds:List Dat} (h:De dss k=some ds):0<=k/\dss[k.toNat]?=some ds/\k=((k.toNat:Nat):Int):=by
 unfold De at h;split at h
 ·rename_i h0;exact ⟨h0,h,(Int.toNat_of_nonneg h0).symm⟩
 ·cases h
theorem Zdz (i:Nat) {x:Str} {p:Pos} (ha:Wq true X ix fa) (hpl:K1 ix)
  (hN:X.N[i]?=some x:=by rfl) (hv:Vis X.env.scope x:=by first | exact Or.inl rfl | exact Or.inr (Or.inl rfl) | exact Or.inr (Or.inr rfl)) (hd:(x==("__debug__" : Str))=false:=by decide) (hcd:(x==("__classdict__" : Str))=false:=by decide) :
  Wq true X (.Subscript (.Name x p) ix pos) (Z2g i fa):=PE.weak (Z5g Ol (R3 hN hv hd hcd) ha hpl) fun σ H Q zz=>by
 obtain ⟨env,B,A,d,k,e,q⟩:=zz;unfold Z2g at e;split at e
 ·rename_i dss n e1 e2
  obtain ⟨ds,e3,e4⟩:=map_some e;subst e4;obtain ⟨h0,e5,e6⟩:=Hj e3;obtain ⟨a,as,h1,h2,h3,h4⟩:=k.nest e1;refine ⟨.ref a,h1,env,B,A,.int n,k,e2,fun w H2 s2 r2=>?_⟩;have hw:w=.int n:=(Rm.pk r2).int;have hlt:n.toNat<as.length:=by rw [h3];exact (List.getElem?_eq_some_iff.mp e5).1
  obtain ⟨hz,vs,g1,g2⟩:=h4 n.toNat _ ds (getElem?_eq_getElem hlt) e5;refine ⟨a,as.map V.ref,n,.ref as[n.toNat],rfl,hw,S9.of (s2 _ _ h2),?_,q _ _ s2 (.inr ⟨_,vs,ds,rfl,rfl,hz,s2 _ _ g1,g2.mono (Vk s2)⟩)⟩;have hat:Nz (as.map V.ref) ((n.toNat:Nat):Int)=some (.ref as[n.toNat]):=Et (by rw [getElem?_map,getElem?_eq_getElem hlt];rfl)
  rwa [← e6] at hat
 ·cases e
def Ha (i:Nat) (fa:Ev->Option Dat) (fs:Ev->Option (List Dat)):Ev->Fl:=fun env=>match env[i]?,fa env with
 | some (.gx (.nest dss)),some (.int k)=>match De dss k with
  | some ds=>match (fs env).bind fun as=>Wu ds as with
   | some ds'=>.next (env.set i (.gx (.nest (dss.set k.toNat ds'))))
   | none=>.no
  | none=>.no
 | _,_=>.no
theorem P3 (i:Nat) {x:Str} {es:List Expr} {p p2 apos cpos:Pos} (ha:Wq true X ix fa) (hpl:K1 ix) (hb:O9 false X (e::es) fs)
  (hN:X.N[i]?=some x:=by rfl) (hv:Vis X.env.scope x:=by first | exact Or.inl rfl | exact Or.inr (Or.inl rfl) | exact Or.inr (Or.inr rfl)) (hd:(x==("__debug__" : Str))=false:=by decide) (hcd:(x==("__classdict__" : Str))=false:=by decide)
  (hsw:swapsWith (.Call (.Attribute (.Subscript (.Name x p) ix p2) "append" apos) (e::es) [] cpos) none pos.line X.env=pure false:=by rfl)
  (hbase:attributeBase (.Subscript (.Name x p) ix p2) "append" X.env (eval (.Subscript (.Name x p) ix p2) X.env)=eval (.Subscript (.Name x p) ix p2) X.env:=by rfl)
  (hfew:((backTo cpos (starEach (e::es) X.env)).all (fun x=>!x.1)&&(backToKw cpos (keywordEach [] X.env)).all (fun x=>x.1.isSome)
   && decide ((e::es).length+([]:List Keyword).length+(if ([]:List Keyword).isEmpty then 0 else 1)<30))=true:=by rfl)
  (hline:(apos.endLine==cpos.line)=true:=by rfl) (hs:starEach (e::es) X.env=(false,eval e X.env)::starEach es X.env:=by rfl) (hplain:(backTo cpos (starEach es X.env)).any (·.1)=false:=by rfl) :
  Gc fr X (.Expr (.Call (.Attribute (.Subscript (.Name x p) ix p2) "append" apos) (e::es) [] cpos) pos) (Ha i fa fs):=(Mf (Z3a PySem.F.plainAttrs_list PySem.F.slot_list_append PySem.F.type_list_append (id:="list.append") Nl (Z5g Ol (R3 hN hv hd hcd) ha hpl) hb hbase hfew hline hs hplain) hsw).weak fun D σ H zz=>by
 obtain ⟨env,B,A,k,hst,q⟩:=zz;unfold Ha at q;split at q
 ·rename_i dss n e1 e2
  split at q
  ·rename_i ds e3
   split at q
   ·rename_i ds' e4
    obtain ⟨as0,e5,e6⟩:=bind_some e4;obtain ⟨h0,e7,e8⟩:=Hj e3;obtain ⟨a,as,h1,h2,h3,h4⟩:=k.nest e1;refine ⟨.ref a,h1,env,B,A,.int n,k,e2,fun w H2 s2 r2=>?_⟩;have hw:w=.int n:=(Rm.pk r2).int;have hlt:n.toNat<as.length:=by rw [h3];exact (List.getElem?_eq_some_iff.mp e7).1
    obtain ⟨hz,vs,g1,g2⟩:=h4 n.toNat _ ds (getElem?_eq_getElem hlt) e7;refine ⟨a,as.map V.ref,n,.ref as[n.toNat],rfl,hw,S9.of (s2 _ _ h2),?_,.inl ⟨rfl,vs,S9.of (s2 _ _ g1)⟩,env,B,A,as0,k.mono s2,e5,fun us H3 s3 rs=>?_⟩
    ·have hat:Nz (as.map V.ref) ((n.toNat:Nat):Int)=some (.ref as[n.toNat]):=Et (by rw [getElem?_map,getElem?_eq_getElem hlt];rfl)
     rwa [← e8] at hat
    have k3:=k.mono (s2.trans s3);obtain ⟨v,o,m1,m2,m3,m4⟩:=k3.gx hst e1;rw [h1] at m1;cases m1;obtain ⟨a',as',z1,z2,z3,z4,z5,z6,z7,z8⟩:=m2;cases z1;have eas:as'.map V.ref=as.map V.ref:=by
     have:=(s2.trans s3) _ _ h2;rw [z4] at this;exact HO.lst.inj (Option.some.inj this)
    have eas2:as'=as:=by
     have hinj:∀ (l1 l2:List Addr),l1.map V.ref=l2.map V.ref->l1=l2:=fun l1=>by
      induction l1 with
      | nil=>intro l2 hl;cases l2 with | nil=>rfl | cons=>cases hl
      | cons y l1 ih =>
       intro l2 hl;cases l2 with
       | nil=>cases hl
       | cons y2 l2=>simp at hl;rw [hl.1,ih l2 (by simpa using hl.2)]
     exact hinj _ _ eas
    subst eas2;obtain ⟨ob,hz2,vs2,g3,g4⟩:=z8 n.toNat _ ds (getElem?_eq_getElem hlt) e7;generalize hbq:as'[n.toNat]=b at *;have hbm:b∈as':=by rw [← hbq];exact getElem_mem hlt
    unfold Wu at e6;split at e6
    ·rename_i d
     split at e6
     ·rename_i hl
      cases e6;obtain ⟨y,us',e9,r3,e10⟩:=rs;have hus:us=[y]:=by rw [e9,show us'=[] from e10]
      refine ⟨b,vs2,y,rfl,hus,g3,by rw [Zy g4];exact hl,?_⟩;have hA:A b=true:=(m3 b ob).1;have avs:Zs (av H3 A) (av (We H3 b (.lst (vs2++[y]))) A):=fun c o2 ec=>by
       obtain ⟨y1,y2⟩:=Js ec;have hc:c≠b:=by intro z;rw [z,hA] at y1;cases y1
       exact V9 (by rw [Zh hc];exact y2) y1
      have hab:a≠b:=fun z=>z7 (z▸hbm)
      have hg:GOk X.K A (We H3 b (.lst (vs2++[y]))) o (.nest (dss.set n.toNat (ds++[d]))) (.ref a):=by
       refine ⟨a,as',rfl,z2,by rw [length_set];exact z3,by rw [Zh hab];exact z4,by rw [length_set];exact z5,z6,z7,fun j c es q1 q2=>?_⟩;by_cases hj:n.toNat=j
       ·subst hj
        rw [getElem?_eq_getElem hlt,hbq] at q1;cases q1;rw [getElem?_set,if_pos rfl,if_pos (by rw [← h3];exact hlt)] at q2;cases q2;exact ⟨ob,by rw [length_append,length_singleton];lia,vs2++[y],Zt,Vb (g4.mono avs) (Jp (Rp.mono avs r3))⟩
       ·rw [getElem?_set,if_neg hj] at q2
        obtain ⟨y1,y2,us2,y3,y4⟩:=z8 j c es q1 q2;have hcb:c≠b:=fun z=>by
         obtain ⟨hjl1,hjl2⟩:=List.getElem?_eq_some_iff.mp q1;have:=List.nodup_iff_pairwise_ne.mp z6;rw [List.pairwise_iff_getElem] at this;rcases lt_or_ge n.toNat j with hlt2 | hge2
         ·exact this n.toNat j hlt hjl1 hlt2 (by rw [hbq,hjl2,z])
         ·exact this j n.toNat hjl1 hlt (by lia) (by rw [hbq,hjl2,z])
        exact ⟨y1,y2,us2,by rw [Zh hcb];exact y3,y4.mono avs⟩
      obtain ⟨w1,w2⟩:=m4 b (.lst (vs2++[y])) _ ob trivial hg;exact q A _ σ (((Step.same s2).trans (Step.same s3)).trans w1) w2
     ·cases e6
    ·cases e6
   ·exact q.elim
  ·exact q.elim
 ·exact q.elim
end
section
variable {fr:Bool} {X:Cx} {sc:Scope} {tg iter:Expr} {pos:Pos} {src:Ev->Option (List Dat)} {is:List Nat} {gg:Dat->Ev->Option Ev}
def No (i:Nat) (src:Ev->Option (List Dat)) (fs:List (Option Nat)) (gg:Dat->Ev->Option Ev):Ev->Fl:=fun env=>match src env with
 | some ds=>if ds.all (fun d=>(gg d (Tg fs env)).isSome)=true then .next (env.set i (.gx (.nest (List.replicate ds.length [])))) else .no
 | none=>.no
theorem Z31 {J:It} {fs:List (Option Nat)} {is:List Nat} {g:Dat->Ev->Option Ev} {σ:St} {H1:Hp} {Q:VK} {K:PySem.W.Frag} {A:AS} {B:Bs} {env:Ev} {ds:List Dat}
  (hfs:∀ i∈is,fs[i]?=some none) (k:EnvOk K B A H1 σ env) (hJ:Bv false K A H1 ds J) (hz:ds.length<=sizeLine) (hc:∀ d∈ds,∃ e',g d (Tg fs env)=some e')
  (q:∀ (p:Addr) (as:List Addr) (H':Hp),Zs H1 H'->H1 p=none->H' p=some (.lst (as.map V.ref))->as.length=ds.length->as.Nodup->p∉as->(∀ b∈as,H1 b=none/\H' b=some (.lst []))->Q (.ref p) H') :
  ∃ W:Nat->Nat->List V->Hp->Prop,(∃ m,W 0 m [] H1)/\∀ i m zs H,W i m zs H ->
   (J.stop i H/\zs.length<=sizeLine/\∀ p,H p=none->Q (.ref p) (We H p (.lst zs))) \/
   (J.go i H/\zs.length<=sizeLine/\∃ N:List V->Hp->Prop,(∀ ys' H',N ys' H'->∃ m',m'<m/\W (i+1) m' ys' H')/\∀ x H',J.yld i H x H'->(∃ env R A d env',EnvOk K R A H' (Vp fs σ) env/\Rp K (av H' A) d x/\g d env=some env'/\∀ σ',EnvOk K R A H' σ' env'->Gz is (Vp fs σ) σ' ->
    (Ext (Vp fs σ) σ'/\∃ env R A b,EnvOk K R A H' σ' env/\Jo env=some b/\∀ H3,Zs H' H3->if b=true then (∀ p,H3 p=none->N (zs++[.ref p]) (We H3 p (.lst []))) else N zs H3))):=by
 refine ⟨fun i m zs H=>m=ds.length - i/\i<=ds.length/\Zs H1 H/\∃ as:List Addr,zs=as.map V.ref/\as.length=i/\as.Nodup/\∀ b∈as,H1 b=none/\H b=some (.lst []),
  ⟨ds.length,by simp,zero_le _,Zs.refl _,[],rfl,rfl,nodup_nil,fun b hb=>nomatch hb⟩,?_⟩
 rintro i m zs H ⟨rfl,hi,s1,as,rfl,hal,hnd,has⟩;have hzs:(as.map V.ref).length<=sizeLine:=by rw [length_map];lia
 obtain ⟨hgo,hstop⟩:=hJ A H ⟨rfl,s1⟩ (k.mono s1).mu;by_cases hlt:i<ds.length
 ·have hx:ds[i]?=some ds[i]:=by simp [hlt]
  obtain ⟨go,yl⟩:=hgo i _ hx;obtain ⟨env1,b1⟩:=hc _ (getElem_mem hlt);refine .inr ⟨go,hzs,fun zs' H'=>i+1<=ds.length/\Zs H1 H'/\∃ as:List Addr,zs'=as.map V.ref/\as.length=i+1/\as.Nodup/\∀ b∈as,H1 b=none/\H' b=some (.lst []),
   fun zs' H' h=>⟨ds.length - (i+1),by lia,rfl,h⟩,fun x H' hy=>?_⟩
  obtain ⟨s2,rx⟩:=yl x H' hy;refine ⟨Tg fs env,⟨H1,A,false⟩,A,ds[i],env1,(k.inn fs).mono (s1.trans s2),rx,b1,fun σ' k' ag=>⟨⟨ag.1.symm,fun j v ej=>?_⟩,env1,⟨H1,A,false⟩,A,true,k',rfl,fun H3 s3=>?_⟩⟩
  ·have hj:j∉is:=fun hj=>by
    have:=hfs j hj;unfold Vp at ej;rw [getElem?_map,this] at ej;cases ej
   rw [ag.2 j hj];exact ej
  ·rw [if_pos rfl]
   intro p hp;have s4:Zs H1 H3:=(s1.trans s2).trans s3;have hpa:p∉as:=fun z=>by
    have:=(s2.trans s3) _ _ (has p z).2;rw [hp] at this;cases this
   refine ⟨hlt,fun b o hb=>?_,as++[p],by rw [map_append];rfl,by rw [length_append,length_singleton,hal],nodup_append.mpr ⟨hnd,nodup_cons.mpr ⟨by simp,nodup_nil⟩,fun a ha b hb=>by rw [mem_singleton.mp hb];intro z;exact hpa (z▸ha)⟩,fun b hb=>?_⟩
   ·have hn:b≠p:=fun z=>by have:=s4 b o hb;rw [z,hp] at this;cases this
    rw [Zh hn];exact s4 b o hb
   ·rcases mem_append.mp hb with hb | hb
    ·have hn:b≠p:=fun z=>hpa (z▸hb)
     exact ⟨(has b hb).1,by rw [Zh hn];exact (s2.trans s3) _ _ (has b hb).2⟩
    ·rw [mem_singleton.mp hb]
     exact ⟨s4.free hp,Zt⟩
 ·have e:i=ds.length:=by lia
  subst e;refine .inl ⟨hstop,hzs,fun p hp=>q p as _ (fun b o hb=>?_) (s1.free hp) Zt hal hnd (fun z=>by have:=(has p z).2;rw [hp] at this;cases this) fun b hb=>⟨(has b hb).1,?_⟩⟩
  ·have hn:b≠p:=fun z=>by have:=s1 b o hb;rw [z,hp] at this;cases this
   rw [Zh hn];exact s1 b o hb
  ·have hn:b≠p:=fun z=>by have:=(has b hb).2;rw [z,hp] at this;cases this
   rw [Zh hn];exact (has b hb).2
theorem Z5n (i:Nat) {x:Str} {pos' spos lpos:Pos} (hN:X.N.Nodup) (hi':X.N[i]?=some x) (hx:Cy X.env.scope x) (psc:Scope) (fs:List (Option Nat)) (N:List Str) (hp:X.env.scope=psc) (S:CompOk psc sc X.N N fs) (hc:X.calm=true) (hi:PId false X tg iter src)
  (hb:∀ (C:Addr) (s:Shared) (H:Hp) (fp:List Addr),PGd is (V0 X sc N C s H fp) tg gg/\PFd (V0 X sc N C s H fp) [] Jo)
  (hfs:∀ i∈is,fs[i]?=some none) (hs:∀ x,foldedSetIterable iter X.env x=pure x:=by intro _;rfl) (hsw:swapsWith (.ListComp (.List [] lpos) [⟨tg,iter,[],0⟩] sc pos) (some (.Name x pos')) spos.line X.env=pure true:=by rfl)
  (hf:X.fn x=true\/X.env.scope.names.lookup x=some .local:=by first | exact .inl rfl | exact .inr rfl | assumption) :
  Gc fr X (.Assign [.Name x pos'] (.ListComp (.List [] lpos) [⟨tg,iter,[],0⟩] sc pos) spos) (No i src fs gg):=(N3 (g:=fun v σ H Q=>∃ env R A d env',EnvOk X.K R A H σ env/\Rp X.K (av H A) d v/\gg d env=some env'/\∀ σ',EnvOk X.K R A H σ' env'->Gz is σ σ'->Q σ' H) (tt:=fun σ H Q=>∃ env R A b,EnvOk X.K R A H σ env/\Jo env=some b/\∀ H',Zs H H'->Q b H') (te:=fun σ H Q=>∀ p,H p=none->Q (.ref p) (We H p (.lst []))) hN hi' hx psc fs N hp S hc hi (fun C s H fp=>⟨(hb C s H fp).1,(hb C s H fp).2,(Z4h T3).weak fun σ H Q h=>⟨zero_le _,h⟩⟩) hs hsw hf).weak fun D σ H zz=>by
 obtain ⟨env,B,A,k,hst,q⟩:=zz;unfold No at q;split at q
 ·rename_i ds e
  split at q
  ·rename_i hall
   refine ⟨env,B,A,ds,k,e,fun J H1 hz s1 hJ=>Z31 (Q:=fun v H'=>D.nx (σ.set i (some v)) H') hfs (k.mono s1) hJ hz (fun d hd=>Option.isSome_iff_exists.mp (all_eq_true.mp hall d hd)) fun p as H' s2 hn hp1 hal hnd hpa has=>?_⟩;have h1:=k.putG hst i (g:=.nest (List.replicate ds.length [])) (v:=.ref p) (S:=fun b=>decide (b=p)||decide (b∈as)) (s1.trans s2) (fun b hb=>?_) (fun b hb=>?_) ⟨p,as,rfl,by simp,by rw [length_replicate];exact hz,hp1,by rw [length_replicate];exact hal,hnd,hpa,fun n b es q1 q2=>?_⟩
   ·exact q _ H' _ h1.1 h1.2
   ·rw [Bool.or_eq_true,decide_eq_true_eq,decide_eq_true_eq] at hb
    rcases hb with z | z
    ·rw [z];exact s1.free hn
    ·exact s1.free (has b z).1
   ·rw [Bool.or_eq_true,decide_eq_true_eq,decide_eq_true_eq] at hb
    rcases hb with z | z
    ·rw [z,hp1];trivial
    ·rw [(has b z).2];trivial
   ·have hbm:b∈as:=mem_of_getElem? q1
    have hes:es=[]:=by
     have:=mem_of_getElem? q2;exact (mem_replicate.mp this).2
    subst hes;exact ⟨by simp [hbm],zero_le _,[],(has b hbm).2,Ub⟩
  ·exact q.elim
 ·exact q.elim
end
section
variable {X:Cx} {m:Bool}
end
section
variable {prog:Program} {w:World} {A:Around} {E:Value->Shared->Prop} {s:Shared} {z TI TO i1 i2:Addr} {f1 f2:List Addr} {n i:Nat} {P1 P2:Nat->Value->Prop} {S1 S2:Nat->Heap->Prop} {a b:Value}
end
section
variable {st m:Bool} {X:Cx} {l1 l2:Expr} {es:List Expr} {fs:Ev->Option (List Dat)} {tk:Nat} {tpos:Pos}
end
section
variable {prog:Program} {w:World} {A:Around} {E:Value->Shared->Prop} {s:Shared}
theorem Xi {l:Addr} {vs:List Value} {Q:List Value->Shared->Prop} (hl:s.heap.IsTuple l vs.toArray)
  (h:Q vs { s with heap:=(s.heap.push (seqObj "list" #[] 0)).update s.heap.objs.size (Obj.mapSeq (·++vs.toArray)) }) (hsz:vs.length<=sizeLine) :
  wpAny (model prog w) A (collect (.ref l)) Q E s:=by
 obtain ⟨o,ho,hc,n,hd⟩:=id hl;unfold collect;refine wpAny_bind (wpAny_runValue (codeAny_builtin entry_proto_collect' ?_));show wpAny _ _ (do again (.builtin "list.__iadd__" ⟨[← newList [],.ref l],[]⟩)) _ _ s;refine wpAny_bind (wpAny_newList (wpAny_pure ⟨Code.quiet_builtin _ (by decide +kernel),codeAny_builtin entry_list_iadd' ?_⟩));show wpAny _ _ (Builtin.List.listExtendWith (.ref s.heap.objs.size) (.ref l) (.ref s.heap.objs.size)) _ _ { s with heap:=s.heap.push (seqObj "list" #[] 0) };unfold Builtin.List.listExtendWith;have ho':(s.heap.push (seqObj "list" #[] 0)).get? l=some o:=get?_push_of_some _ ho;refine wpAny_bind (wpAny_typeOf (T:="tuple") ⟨o,ho',hc⟩ ?_);have ht:(Value.type "tuple" == Value.type "tuple")=true:=by rfl
 rw [if_pos (by rw [ht];simp)];refine wpAny_bind (listItems_at ho' hd ?_);refine wpAny_bind (listItems_at (xs:=#[]) (n:=0) (get?_push_size _ rfl) rfl ?_);rw [if_neg (by simp)];refine wpAny_bind (listUpdate_at (xs:=#[]) (n:=0) (get?_push_size _ rfl) rfl ?_ (zero_le _) (by show (#[]++vs.toArray).size<=sizeLine+1;simp only [Array.size_append,size_toArray,List.length_nil];lia));refine wpAny_pure ?_;show wpAny (model prog w) A (do
   let o ← load s.heap.objs.size
   match o.data with
   | .seq xs _=>pure xs.toList
   | _=>unsupported "internal:collect") Q E { s with heap:=(s.heap.push (seqObj "list" #[] 0)).update s.heap.objs.size (Obj.mapSeq (·++vs.toArray)) }
 refine wpAny_bind (wpAny_load (get?_update_seq (get?_push_size _ rfl) _) ?_);show wpAny _ _ (pure ((#[]:Array Value)++vs.toArray).toList) Q E _;rw [show ((#[]:Array Value)++vs.toArray).toList=vs by simp];exact wpAny_pure h
theorem C2 {l:Addr} {vs:List Value} {ns:List Int} {Q:Value->Shared->Prop} (hl:s.heap.IsTuple l vs.toArray) (hI:IntsAre vs ns) (h64:vs.length<64)
  (h:∀ (out:Array Value) (ns':List Int),IntsAre out.toList ns'->ns'.Perm ns->ns'.Pairwise (·<=·)->Q (.ref (s.heap.objs.size+1)) { s with heap:=sortedAll s.heap vs out }) :
  wpAny (model prog w) A (call (.builtin "sorted") [.ref l]) Q E s:=by
 refine Calls.call_function_entry kind_sorted plain_sorted entry_sorted (args_sorted1 _) ?_;unfold Builtin.«sorted»;refine wpAny_bind (m:=checkCount "sorted" 1 1 _) (wpAny_pure ?_);refine wpAny_bind (Xi hl ?_ (by rw [sizeLine_eq];lia));refine wpAny_bind (wpAny_newList ?_);have hsz:((s.heap.push (seqObj "list" #[] 0)).update s.heap.objs.size (Obj.mapSeq (·++vs.toArray))).objs.size=s.heap.objs.size+1:=by
  rw [size_update,size_push']
 have hoL:(((s.heap.push (seqObj "list" #[] 0)).update s.heap.objs.size (Obj.mapSeq (·++vs.toArray))).push (seqObj "list" vs.toArray 0)).get? (s.heap.objs.size+1)=some (seqObj "list" vs.toArray 0):=by
  rw [← hsz];exact get?_push_size _ rfl
 show wpAny _ _ _ _ _ { s with heap:=((s.heap.push (seqObj "list" #[] 0)).update s.heap.objs.size (Obj.mapSeq (·++vs.toArray))).push (seqObj "list" vs.toArray 0) };rw [hsz];refine wpAny_bind (wpAny_holding (wpAny_call_entry slot_list_sort ⟨_,hoL,rfl⟩ entry_list_sort (list_sort_tree hoL hI h64 fun out ns' a1 a2 a3=>⟨_,rfl,?_⟩) (args_list_sort _)));exact wpAny_pure ⟨_,rfl,h out ns' a1 a2 a3⟩
end
section
variable {X:Cx}
def Z54 (K:PySem.W.Frag):List V->Hp->VK->Prop:=fun xs H Q=>∃ p ns,xs=[.ref p]/\Sz K H p (ns.map V.int)/\ns.length<64 /\
 ∀ (ms:List Int) (l:Addr),ms.Perm ns->ms.Pairwise (·<=·)->H l=none->Q (.ref l) (We H l (.lst (ms.map V.int)))
theorem Os:V5 X (.builtin "sorted") (Z54 X.K):=by
 intro pins s σ H xs us Q I r h;obtain ⟨p,ns,rfl,hq,h64,q⟩:=h;obtain ⟨u,rfl,rx⟩:=Ji r;cases rx;obtain ⟨its,r',pl,hz⟩:=I.tuple hq;have hlen:=r'.length;rw [length_map] at hlen;refine C2 (show s.heap.IsTuple p its.toArray from pl) (Kc r') (by lia) fun out ms h1 h2 h3=>?_
 obtain ⟨e,he⟩:=sortedAll_at s.heap its out;have hl:ms.length=ns.length:=h2.length_eq;refine ⟨.ref (s.heap.objs.size+1),We H (s.heap.objs.size+1) (.lst (ms.map V.int)),I.laid (t':=s.toks) (fun b o q=>sortedAll_old q) (le_succ _) ?_,rfl,q ms _ h2 h3 (I.hok.fresh (le_succ _))⟩;refine ⟨by rw [length_map] at hz ⊢;lia,out.toList,e,Dw h1,?_⟩;rw [he]
def Jm:List Dat->Option (List Dat)
 | [.lst xs]=>(Ja xs).bind fun ns=>if ns.length<64 then some ((Ds ns).map .int) else none
 | [.tup xs]=>(Ja xs).bind fun ns=>if ns.length<64 then some ((Ds ns).map .int) else none
 | _=>none
theorem S6:Z91 X (.builtin "sorted") Jm:=(Pq.or Os).weak fun vs H Q zz=>by
 obtain ⟨A,ds,d,mu,e,p,q⟩:=zz;unfold Jm at e;split at e
 ·rename_i xs
  obtain ⟨v,e1,p1⟩:=p.one;obtain ⟨l,us,e2,h1,r1⟩:=p1.lst;obtain ⟨ns,hn,e⟩:=bind_some e;split at e
  ·rename_i h64
   cases e;rw [Qy hn] at r1;have eu:=V6 r1;subst eu;refine .inl ⟨l,ns,by rw [e1,e2],h1.sq,h64,fun ms l' hp hs hl=>?_⟩;rw [M0 (hp.trans (Tq ns).symm) hs (E2 ns)];have h0:(64:Nat)<=sizeLine:=by decide
   exact q.at (by rw [length_map,(Tq ns).length_eq];lia) (Ex _) l' hl
  ·cases e
 ·rename_i xs
  obtain ⟨v,e1,p1⟩:=p.one;obtain ⟨l,us,e2,h1,r1⟩:=p1.tup;obtain ⟨ns,hn,e⟩:=bind_some e;split at e
  ·rename_i h64
   cases e;rw [Qy hn] at r1;have eu:=V6 r1;subst eu;refine .inr ⟨l,ns,by rw [e1,e2],h1,h64,fun ms l' hp hs hl=>?_⟩;rw [M0 (hp.trans (Tq ns).symm) hs (E2 ns)];have h0:(64:Nat)<=sizeLine:=by decide
   exact q.at (by rw [length_map,(Tq ns).length_eq];lia) (Ex _) l' hl
  ·cases e
 ·cases e
end
section
variable {prog:Program} {w:World} {A:Around} {E:Value->Shared->Prop} {s:Shared}
open HT in
theorem Sv {t sl:Addr} {items:Array Value} {vl vu:Value} {lo hi:Option Int} {Q:Value->Shared->Prop} (ht:IsTup s.heap t items) (hs:s.heap.IsSliceOf sl vl vu .none) (pl:IsPart vl lo) (pu:IsPart vu hi)
  (hw:(sIx items.size 0 lo=0/\sIx items.size items.size hi=items.size))
  (h:Q (.ref t) s)
  (hsz:items.size<=sizeLine):wpAny (model prog w) A (getItem (.ref t) (.ref sl)) Q E s:=by
 obtain ⟨os,hos,hcs,hds⟩:=id hs;have hTs:s.TypeIs (.ref sl) "slice" := ⟨os,hos,hcs⟩;unfold getItem;try with_reducible refine wpAny_holding ?_
 first | refine wpAny_bind (wpAny_pure ?_) | skip
 refine wpAny_bind (wpAny_sequenceKey ht.typeIs (by decide) ?_);refine wpAny_bind (wpAny_callSpecial?_slot (name:=Str.ofString "__getitem__") ht.typeIs PyProof.Rows.slot_tuple_getitem
  (wpAny_call_entry PyProof.Rows.slot_tuple_getitem ht.typeIs entry_tuple_getitem ?_ (args_tuple_getitem _ _)))
 show wpAny _ _ (Builtin.Tuple.tupleItemsOf (.ref t) >>= _) _ _ s;refine wpAny_bind (tupleItemsOf_ ht ?_);refine wpAny_bind (wpAny_typeOf hTs ?_);rw [if_pos (by decide)];refine wpAny_bind (M4 hs pl pu ?_);have hyes:(((sIx items.size 0 lo:Nat):Int)==0&&(1:Int)==1&&(sIx items.size items.size hi - sIx items.size 0 lo)==items.size)=true:=by
  rw [hw.1,hw.2];simp
 show wpAny _ _ (if (((sIx items.size 0 lo:Nat):Int)==0&&(1:Int)==1&&(sIx items.size items.size hi - sIx items.size 0 lo)==items.size)=true then _ else _) _ _ s;rw [if_pos hyes];unfold Builtin.Tuple.tupleIsExact;refine wpAny_bind (wpAny_bind (wpAny_typeOf ht.typeIs (wpAny_pure ?_)));rw [if_pos (by decide)];exact wpAny_bind (wpAny_rule (wpAny_pure ⟨_,rfl,wpAny_pure h⟩))
end
section
variable {X:Cx}
def Zey (K:PySem.W.Frag):V->Option Int->Option Int->Hp->VK->Prop:=fun x lo hi H Q=>∃ a xs,x=.ref a/\Sz K H a xs /\
 (HT.sIx xs.length 0 lo=0/\HT.sIx xs.length xs.length hi=xs.length)/\Q (.ref a) H
theorem Z4o:Ch X (Zey X.K):=by
 intro pins s σ H x v vl vu lo hi sl Q I rx hs pl pu h;obtain ⟨a,xs,rfl,hx,hw,q⟩:=h;cases rx;obtain ⟨its,r,ht,hz⟩:=I.tuple hx;have hlen:its.toArray.size=xs.length:=by rw [size_toArray];exact r.length.symm
 refine ⟨"tuple",_,PyProof.Rows.slot_tuple_getitem.lookup,ht.typeIs,?_⟩;exact Sv ht hs pl pu (by rw [hlen];exact hw) ⟨.ref a,H,I,rfl,q⟩ (by rw [hlen];exact hz)
def Xf:Dat->Option Int->Option Int->Option Dat
 | .lst xs,lo,hi=>some (.lst (Ta xs lo hi))
 | .str z,lo,hi=>some (.str (Txt.slice z lo hi))
 | .tup xs,lo,hi=>some (.tup (Ta xs lo hi))
 | _,_,_=>none
theorem D0:SlD X Xf:=(Zfe.or Z4o).weak fun v lo hi H Q zz=>by
 obtain ⟨A,x,d,mu,e,p1,q⟩:=zz;unfold Xf at e;split at e
 ·exact .inl ⟨A,.lst _,d,mu,e,p1,q⟩
 ·exact .inl ⟨A,.str _,d,mu,e,p1,q⟩
 ·rename_i xs
  by_cases hw:HT.sIx xs.length 0 lo=0/\HT.sIx xs.length xs.length hi=xs.length
  ·obtain ⟨l,vs,e1,h1,r1⟩:=p1.tup
   cases e;have ec:Ta xs lo hi=xs:=by unfold Ta;rw [hw.1,hw.2];simp
   rw [ec] at q;exact .inr ⟨l,vs,e1,h1,by rw [Zy r1];exact hw,by rw [← e1];exact q.here (by rcases p1 with h | ⟨_,_,_,e9,_⟩;exact h;cases e9)⟩
  ·exact .inl ⟨A,.tup xs,d,mu,by show (if _ then none else _)=_;rw [if_neg hw];exact e,p1,q⟩
 ·cases e
end
section
variable {P:Program} {w:World} {A:Around} {E:Value->Shared->Prop} {s:Shared}
end
section
variable {X:Cx} {e:Expr} {fs:Ev->Option (List Dat)}
end
section
variable {prog:Program} {w:World} {A:Around} {E:Value->Shared->Prop} {s:Shared}
theorem Mm {h h':Heap} {t:Addr} {xs:Array Value} (q:h.IsList t xs) (e:∀ o,h.get? t=some o->h'.get? t=some o):h'.IsList t xs:=by
 obtain ⟨o,ho,r⟩:=q;exact ⟨o,e o ho,r⟩
theorem O8 {it t:Addr} {items:Array Value} (hne:t≠it):∀ (n i:Nat) (s:Shared) (Q:List Value->Shared->Prop),s.heap.IsListIter it t i->s.heap.IsList t items->i+n<=items.size ->
  (∀ h',h'.IsListIter it t (i+n)->SameBut it s.heap h'->Q ((items.toList.drop i).take n) { s with heap:=h' })->wpAny (model prog w) A (draw (.ref it) n) Q E s
 | 0,i,s,Q,hit,_,_,hQ=>by
  show wpAny _ _ (pure []) Q E s;exact wpAny_pure (by simpa using hQ s.heap hit (SameBut.refl ..))
 | n+1,i,s,Q,hit,ht,hle,hQ=>by
  have hlt:i<items.size:=by lia
  show wpAny _ _ (pyNext (.ref it) >>= _) Q E s;refine wpAny_bind (wpAny_pyNext_list_item hit ht (x:=items[i]) (by simp [hlt]) fun h₁ hit₁ hs₁=>?_);refine wpAny_bind (wpAny_holding (O8 hne n (i+1) _ _ hit₁ (Mm ht fun o e=>hs₁.extBut _ _ hne e) (by lia) fun h₂ hit₂ hs₂=>wpAny_pure ?_));have hd:items.toList.drop i=items[i]::items.toList.drop (i+1):=by simp [drop_eq_getElem_cons,hlt]
  have:=hQ h₂ (by rw [show i+(n+1)=i+1+n by lia];exact hit₂) (hs₁.trans hs₂);rw [hd,take_succ_cons] at this;exact this
theorem Gk {t:Addr} {items:Array Value} {Q:List Value->Shared->Prop} (hh:A.handled=none) (ht:s.heap.IsList t items)
  (hQ:∀ h',ExtBut s.heap.objs.size s.heap h'->Q items.toList { s with heap:=h' }):wpAny (model prog w) A (unpackItems (.ref t) items.size none) Q E s:=by
 have hlt:t≠s.heap.objs.size:=by obtain ⟨o,ho,_⟩:=ht;exact ne_of_lt (lt_size ho)
 unfold unpackItems;refine wpAny_bind ?_
 ·unfold notIterableAtAll
  refine wpAny_bind (wpAny_specialOf ht.typeIs slot_list_iter.lookup ?_);refine wpAny_pure ?_;simp only [Bool.false_eq_true,if_false];refine wpAny_bind (wpAny_holding (wpAny_pyIter_list ht ?_));refine wpAny_bind (wpAny_holding (O8 hlt items.size 0 _ _ ⟨_,get?_push_size _ rfl,rfl,rfl⟩ (Mm ht fun o e=>get?_push_of_some _ e) (by lia) fun h₁ hit₁ hs₁=>?_));have hall:List.take items.size (List.drop 0 items.toList)=items.toList:=by
   rw [drop_zero];exact take_of_length_le (by simp)
  rw [hall];rw [if_neg (by simp)];have ht₁:Heap.IsList h₁ t items:=Mm (Mm ht fun o e=>get?_push_of_some _ e) fun o e=>hs₁.extBut _ _ hlt e
  refine wpAny_bind (wpAny_holding (wpAny_pyNext_list_end hh hit₁ ht₁ (by simp) fun h₂ he₂=>?_));simp only [Option.isSome_none,Bool.false_eq_true,if_false];refine wpAny_pure (hQ h₂ fun b o hb e=>he₂ b o hb (hs₁.extBut b o hb (get?_push_of_some _ e)))
theorem Dz {env:Env} {elts:List Expr} {x1} {pos:Pos} {t:Addr} {items:Array Value} {Q:Unit->Shared->Prop} (hh:A.handled=none) (ht:s.heap.IsList t items)
  (hn:(assignEach elts env).length=items.size) (hstar:(assignEach elts env).findIdx? (·.1)=none)
  (h:∀ h',ExtBut s.heap.objs.size s.heap h'->wpAny (model prog w) A (assignInOrder ((assignEach elts env).map (·.2)) items.toList) Q E { s with heap:=h' }) :
  wpAny (model prog w) A (assign (.Tuple elts x1 pos) env (.ref t)) Q E s:=by
 rw [assign_Tuple];refine wpAny_bind (wpAny_standAt ?_);unfold unpack;rw [hn,hstar];exact wpAny_bind (wpAny_holding (Gk hh ht h))
end
section
variable {X:Cx} {pos:Pos}
def Zfz (K:PySem.W.Frag) (n:Nat) (t:TGs):TG:=fun v σ H Q=>∃ a xs,v=.ref a/\S9 K H a xs/\xs.length=n/\t xs σ H Q
theorem Zax {es:List Expr} {k:Nat} {t:TGs} {n:Nat} (hc:X.calm=true) (h:PGs X es t)
  (hn:(assignEach es X.env).length=n:=by rfl) (hst:(assignEach es X.env).findIdx? (·.1)=none:=by rfl):PG X (.Tuple es k pos) (fun v σ H Q=>Zdy X.K n t v σ H Q\/Zfz X.K n t v σ H Q):=by
 intro pins s σ H v u Q I r hw;rcases hw with hw | hw
 ·exact Zam hc h hn hst pins s σ H v u Q I r hw
 obtain ⟨a,xs,e1,hq,hl,hw⟩:=hw;subst e1;cases r;obtain ⟨its,rv,pl,hz⟩:=I.list hq;refine Dz (I.ok.hd hc) pl.isList (by simp [hn,← hl,rv.length]) hst fun h' hx=>?_
 have I1:Inv X pins σ H { s with heap:=h' }:=I.kept (t':=s.toks) fun b o e=>hx b o (ne_of_lt (lt_size e)) e
 exact h pins _ σ H xs _ Q I1 (by simpa using rv) hw
def Kw (n:Nat) (gs:List Dat->Ev->Option Ev):Dat->Ev->Option Ev:=fun d env=>match d with
 | .tup ds=>if ds.length=n then gs ds env else none
 | .lst ds=>if ds.length=n then gs ds env else none
 | _=>none
theorem Ep {es:List Expr} {k:Nat} {is:List Nat} {gs:List Dat->Ev->Option Ev} {n:Nat} (hc:X.calm=true) (h:Z6m is X es gs)
  (hn:(assignEach es X.env).length=n:=by rfl) (hst:(assignEach es X.env).findIdx? (·.1)=none:=by rfl):PGd is X (.Tuple es k pos) (Kw n gs):=(Zax hc h hn hst).weak fun v σ H Q zz=>by
 obtain ⟨env,R,A,d,env',k,r,e,q⟩:=zz;unfold Kw at e;split at e
 ·rename_i ds
  split at e
  ·rename_i hl
   obtain ⟨a,vs,ev,h1,r1⟩:=Mn r;exact .inl ⟨a,vs,ev,W6.seqT h1,by rw [Zy r1];exact hl,env,R,A,ds,env',k,r1,e,q⟩
  ·cases e
 ·rename_i ds
  split at e
  ·rename_i hl
   obtain ⟨a,vs,ev,h1,r1⟩:=Mt r;exact .inr ⟨a,vs,ev,(W6.sl h1).sq,by rw [Zy r1];exact hl,env,R,A,ds,env',k,r1,e,q⟩
  ·cases e
 ·cases e
end
section
variable {P:Program} {w:World} {A:Around} {E:Value->Shared->Prop} {s:Shared}
end
section
variable {X:Cx} {e:Expr} {fs:Ev->Option (List Dat)}
end
def Z16:Dat->Option (List Uq)
 | .tup [.int a,.int b]=>some [.inl a,.inl b]
 | _=>none
theorem Pd {K:PySem.W.Frag} {A:AS} {H:Hp} {d:Dat} {v:V} {ks:List Uq} (e:Z16 d=some ks) (r:Pk K A H d v):∃ p,v=.ref p/\H p=some (.tup (ks.map kV)):=by
 unfold Z16 at e;split at e
 ·rename_i a b
  cases e;obtain ⟨p,vs,e1,h1,r1⟩:=r.tup;have ev:vs=[.int a,.int b]:=V6 (ns:=[a,b]) r1;subst ev;rcases h1 with h1 | ⟨_,_,_,_,_,_,_,_,h2⟩
  ·exact ⟨p,e1,h1⟩
  ·exact absurd mem_cons_self (h2 a)
 ·cases e
def He (kvs:List (List Uq×Dat)) (ks:List Uq):Bool:=(kvs.map (·.1)).any fun x=>decide (x=ks)
theorem Xq {us:List (List Uq×V)} {k:List Uq}:(Sy us k).isSome=(us.map (·.1)).any fun x=>decide (x=k):=by
 rw [any_map,← Dx];congr 1
section
variable {X:Cx} {pos:Pos} {e:Expr} {f g:Ev->Option Dat} {m fr:Bool}
def Z4x (neg:Bool) (i:Nat) (f:Ev->Option Dat):Ev->Option Dat:=fun env=>match env[i]?,f env with
 | some (.gx (.dict kvs)),some d=>(Z16 d).map fun ks=>.bl (if neg then !He kvs ks else He kvs ks)
 | _,_=>none
theorem EnvOk.dictA {K:PySem.W.Frag} {B:Bs} {A:AS} {H:Hp} {σ:St} {env:Ev} {i:Nat} {kvs:List (List Uq×Dat)} (k:EnvOk K B A H σ env) (h:env[i]?=some (.gx (.dict kvs))) :
  ∃ (a:Addr) (us:List (List Uq×V)),σ[i]?=some (some (.ref a))/\H a=some (.dT us)/\us.map (·.1)=kvs.map (·.1):=by
 obtain ⟨own,h1,h2,h4⟩:=k.sl;obtain ⟨x,q1,v,e1,a,us,e2,e3,e4,e5,e6,e7⟩:=h4 i _ h;subst e1 e2;exact ⟨a,us,q1,e5,e6⟩
def Kn (i:Nat) (fk fv:Ev->Option Dat):Ev->Fl:=fun env=>match env[i]?,fv env,fk env with
 | some (.gx (.dict kvs)),some d,some y=>match Z16 y with
  | some ks=>if He kvs ks=false/\kvs.length<sizeLine then .next (env.set i (.gx (.dict (kvs++[(ks,d)])))) else .no
  | none=>.no
 | _,_,_=>.no
theorem Zad (i:Nat) {x:Str} {ix:Expr} {p pos':Pos} (hu:X.A.units+1<cLine) (ha:Wq true X ix f) (hb:Wq false X e g)
  (hN:X.N[i]?=some x:=by rfl) (hv:Vis X.env.scope x:=by first | exact Or.inl rfl | exact Or.inr (Or.inl rfl) | exact Or.inr (Or.inr rfl)) (hd:(x==("__debug__" : Str))=false:=by decide) (hcd:(x==("__classdict__" : Str))=false:=by decide)
  (hs:swapsWith e (some (.Subscript (.Name x p) ix pos')) pos.line X.env=pure false:=by rfl) :
  Gc fr X (.Assign [.Subscript (.Name x p) ix pos'] e pos) (Kn i f g):=(Z6o hu (R3 hN hv hd hcd) ha hb hs).weak fun D σ H zz=>by
 obtain ⟨env,B,A,k,hst,q⟩:=zz;unfold Kn at q;split at q
 ·rename_i kvs d y h1 h2 h3
  split at q
  ·rename_i ks hk
   split at q
   ·rename_i hc
    obtain ⟨a,us,s1,s2,s3⟩:=k.dictA h1;refine ⟨env,B,A,d,k,h2,fun v H1 sm1 r1=>⟨.ref a,s1,env,B,A,y,k.mono sm1,h3,fun u H2 sm2 r2=>?_⟩⟩;obtain ⟨b,e4,e5⟩:=Pd hk r2.pk;subst e4;have sm:=sm1.trans sm2;have k3:=k.mono sm;obtain ⟨v0,o,m1,m2,m3,m4⟩:=k3.gx hst h1;rw [s1] at m1;cases m1;obtain ⟨a',us',z1,z2,z3,z4,z5,z6⟩:=m2;cases z1;have eus:us'=us:=by
     have:=sm _ _ s2;rw [z4] at this;exact HO.dT.inj (Option.some.inj this)
    subst eus;have hno:Sy us' ks=none:=by
     have:=Xq (us:=us') (k:=ks);rw [s3] at this;have h9:He kvs ks=false:=hc.1;unfold He at h9;rw [h9] at this;cases h8:Sy us' ks with
     | none=>rfl
     | some _=>rw [h8] at this;cases this
    have hul:us'.length=kvs.length:=by have:=congrArg List.length s3;rwa [length_map,length_map] at this
    have ep:Ef us' ks v=us'++[(ks,v)]:=Z57 v hno;refine ⟨a,We H2 a (.dT (us'++[(ks,v)])),rfl,by rw [← ep];exact Z2p.t (sm _ _ s2) e5 (by rw [hul];exact hc.2),?_⟩;have hA:A a=true:=(m3 a z2).1;have avs:Zs (av H2 A) (av (We H2 a (.dT (us'++[(ks,v)]))) A):=fun c o2 ec=>by
     obtain ⟨y1,y2⟩:=Js ec;have hc:c≠a:=by intro z;rw [z,hA] at y1;cases y1
     exact V9 (by rw [Zh hc];exact y2) y1
    have hg:GOk X.K A (We H2 a (.dT (us'++[(ks,v)]))) o (.dict (kvs++[(ks,d)])) (.ref a):=by
     refine ⟨a,us'++[(ks,v)],rfl,z2,by rw [length_append];exact hc.2,Zt,by rw [map_append,map_append,s3];rfl,?_⟩;rw [map_append,map_append];exact Vb (z6.mono avs) (Jp ((Rp.mono (Vk sm2) (show Rp X.K (av H1 A) d v from r1)).mono avs))
    obtain ⟨w1,w2⟩:=m4 a (.dT (us'++[(ks,v)])) _ z2 trivial hg;exact q A _ σ ((Step.same sm).trans w1) w2
   ·exact q.elim
  ·exact q.elim
 ·exact q.elim
def Zab (tk tv:TE):TE:=fun σ H Q=>∀ p,H p=none->tk σ (We H p (.dT [])) fun y H1=>tv σ H1 fun x H2=>H2 p=some (.dT [])/\∃ ks b,y=.ref b/\H2 b=some (.tup (ks.map kV))/\Q (.ref p) (We H2 p (.dT [(ks,x)]))
theorem Am {prog:Program} {w:World} {A:Around} {E:Value->Shared->Prop} {s:Shared} {env:Env} {K:Type} [DecidableEq K] {knd:HeapKind prog w K} {k v:Expr} {pos:Pos} {Q:Value->Shared->Prop}
  (h:wpAny (model prog w) A (evalPairs (pairTrees [some k] [v] env pos)) (fun vs s₁=>∃ b x ks,vs=[(.ref b,x)]/\knd.room A/\knd.is s₁.heap ks b/\s₁.heap.DictOfH knd s.heap.objs.size [] /\
   ∀ h',h'.DictOfH knd s.heap.objs.size (storedH [] ks b x)->SameBut s.heap.objs.size s₁.heap h'->Q (.ref s.heap.objs.size) { s₁ with heap:=h',toks:=s₁.toks+knd.draws ks }) E
   { s with heap:=s.heap.push { cls:=.type "dict",data:=.dict #[] } }) :
  wpAny (model prog w) A (eval (.Dict [some k] [v] pos) env) Q E s:=by
 rw [arm_eval_Dict,zip_pairTrees [some k] [v] env pos rfl rfl,dictDisplay_pairs (pairTrees [some k] [v] env pos) (by simp [pairTrees]) (by simp [pairTrees])];refine wpAny_bind (wpAny_standAt (wpAny_bind ?_));unfold subDict;refine wpAny_bind (wpAny_alloc ?_);refine wpAny_bind (wpAny_holding ?_);rw [if_pos (by simp [pairTrees])];refine wpAny_bind (wpAny_mono h (fun vs s₁ h₁=>?_) fun _ _ e=>e);obtain ⟨b,x,ks,rfl,hr,hk,hm,hq⟩:=h₁;refine wpAny_holding ?_;rw [List.forIn_cons];refine wpAny_bind (wpAny_bind (wpAny_bind (wpAny_dictSet_heap hr hk hm (fun h' a c=>wpAny_pure ?_) (zero_le _))));show wpAny _ _ (forIn ([]:List (Value×Value)) PUnit.unit _) _ _ _;rw [List.forIn_nil];exact wpAny_pure (wpAny_pure (wpAny_pure (wpAny_pure (hq h' a c))))
theorem Z5a {k v:Expr} {tk tv:TE} (hu:X.A.units+1<cLine) (hk:PE X k tk) (hv:PE X v tv):PE X (.Dict [some k] [v] pos) (Zab tk tv):=by
 intro pins s σ H Q I q;have hn:=I.hok.fresh (le_refl s.heap.objs.size);have I1:=I.laid (a:=s.heap.objs.size) (o:=.dT []) (h':=s.heap.push { cls:=.type "dict",data:=.dict #[] }) (t':=s.toks) (fun _ _ q=>get?_push_of_some _ q) (le_refl _) (Z4k s.heap I.big);refine Am (knd:=tupleKind (Va X.prog X.w)) (pairTrees_cons_walk (Wt (hk pins _ σ _ _ I1 (q _ hn)) fun u s1 ⟨y,H1,I2,ry,q1⟩=>Wt (hv pins s1 σ H1 _ I2 q1) fun u2 s2 ⟨x,H2,I3,rx,q2⟩=>pairTrees_nil_walk ?_));obtain ⟨hp,ks,b,ey,eb,q3⟩:=q2;subst ey;cases (show u=Value.ref b from ry);obtain ⟨z,hd,xs,rel,dd⟩:=Z8j I3.hok hp;cases rel;refine ⟨b,u2,ks,rfl,(show X.A.units<cLine by lia),On I3.hok eb,dd,fun h' dd' hs=>⟨.ref s.heap.objs.size,_,?_,rfl,q3⟩⟩;obtain ⟨q,es,ep,hq,h2,h3,h4,_,h5⟩:=dd';have r1:=(KT.put (H:=H2) (kvs:=[]) (xs:=[]) .nil ks eb rx);refine Oy I3 (by rw [hp];exact True.intro) hs ⟨q,hq⟩ ⟨by show 1<=sizeLine;decide,hd,_,r1.keeps fun c ys ec=>?_,q,es,ep,hq,h2,h3,h4,h5⟩;rw [Zh (Z8z ec hp (fun z=>nomatch z))];exact ec
def Xp (i:Nat) (fk fv:Ev->Option Dat):Ev->Fl:=fun env=>match fk env,fv env with
 | some y,some (.bl d)=>match Z16 y with
  | some ks=>.next (env.set i (.gx (.dict [(ks,.bl d)])))
  | none=>.no
 | _,_=>.no
theorem Z9k (i:Nat) {x:Str} {kx:Expr} {pos' dpos:Pos} (hN:X.N.Nodup) (hi:X.N[i]?=some x) (hx:Cy X.env.scope x) (hu:X.A.units+1<cLine) (ha:Wq true X kx f) (hb:Wq false X e g)
  (hs:swapsWith (.Dict [some kx] [e] dpos) (some (.Name x pos')) pos.line X.env=pure false:=by rfl)
  (hf:X.fn x=true\/X.env.scope.names.lookup x=some .local:=by first | exact .inl rfl | exact .inr rfl | assumption) :
  Gc fr X (.Assign [.Name x pos'] (.Dict [some kx] [e] dpos) pos) (Xp i f g):=(Ow hN hi hx (Z5a hu ha hb) hs hf).weak fun D σ H zz=>by
 obtain ⟨env,B,A,k,hst,q⟩:=zz;unfold Xp at q;split at q
 ·rename_i y d h1 h2
  split at q
  ·rename_i ks hk
   intro p hp;have sm0:Zs H (We H p (.dT [])):=Zs.new hp;refine ⟨env,B,A,y,k.mono sm0,h1,fun u H1 sm1 r1=>⟨env,B,A,.bl d,(k.mono sm0).mono sm1,h2,fun v H2 sm2 r2=>⟨sm2 _ _ (sm1 _ _ Zt),?_⟩⟩⟩;obtain ⟨b,e4,e5⟩:=Pd hk r1.pk;refine ⟨ks,b,e4,sm2 _ _ e5,?_⟩;have smH:Zs H (We H2 p (.dT [(ks,v)])):=fun c o ec=>by
    rw [Zh (fun z=>by rw [z,hp] at ec;cases ec)];exact sm2 _ _ (sm1 _ _ (sm0 _ _ ec))
   have h9:=k.putG hst i (g:=.dict [(ks,.bl d)]) (v:=.ref p) (S:=fun b=>decide (b=p)) smH (fun b hb=>by rw [of_decide_eq_true hb];exact hp) (fun b hb=>by rw [of_decide_eq_true hb,Zt];trivial) ⟨p,[(ks,v)],rfl,by simp,by show 1<=sizeLine;decide,Zt,rfl,Jp ?_⟩
   ·exact q _ _ _ h9.1 h9.2
   ·rw [(show Rp X.K (av H2 A) (.bl d) v from r2) |> Gy];exact Vy
  ·exact q.elim
 ·exact q.elim
end
end L2
namespace L2
open PySem PySem.Spec PyProof.Rows PySem.W
section
variable {X:Cx} {fr:Bool} {g:Ev->Fl} {body:List Stmt} {h₀:ExceptHandler} {hs:List ExceptHandler} {pos:Pos}
variable {e a b c:Expr} {f1 f2 f3:Ev->Option Dat} {F1 F2:Dat->Dat->Option Dat} {m1 m2 m3:Bool}
def Z5t (i:Nat) (f:Ev->Option Dat):Ev->Fl:=fun env=>match env[i]?,f env with
 | some (.fz (.int x)),some (.int y)=>.next (env.set i (.fz (.int (x+y))))
 | _,_=>.no
theorem Zd6 (i:Nat) {x:Str} {pos':Pos} (hN:X.N.Nodup) (hi:X.N[i]?=some x) (hx:Cy X.env.scope x) (he:Wq m1 X e f1)
  (hf:X.fn x=true\/X.env.scope.names.lookup x=some .local:=by first | exact .inl rfl | exact .inr rfl | assumption):Gc fr X (.AugAssign (.Name x pos') .Add e pos) (Z5t i f1):=(Z9c hN hi hx he Z9i hf).weak fun D σ H zz=>by
 obtain ⟨env,B,A,k,hst,q⟩:=zz;unfold Z5t at q;split at q
 ·rename_i n m h1 h2
  obtain ⟨own,z1,z2,z4⟩:=k.sl;obtain ⟨w,q1,v,e1,e2⟩:=z4 i _ h1;subst e1;have ev:v=.int n:=Mi e2;subst ev;refine ⟨.int n,q1,env,B,A,.int m,k,h2,fun y H1 s1 r1=>?_⟩;refine ⟨n,m,rfl,r1.pk.int,?_⟩;exact q A H1 _ (Step.same s1) ((k.mono s1).put i W4)
 ·exact q.elim
theorem Zfd (i:Nat) {x:Str} {p:Pos} (hu:X.A.units+1<cLine) (he:Wq true X e f1) (hN:X.N[i]?=some x:=by rfl) (hv:Vis X.env.scope x:=by first | exact Or.inl rfl | exact Or.inr (Or.inl rfl) | exact Or.inr (Or.inr rfl)) (hd:(x==("__debug__" : Str))=false:=by decide) (hcd:(x==("__classdict__" : Str))=false:=by decide)
  (hm:behindInMarks .In (.Name x p)=false:=by rfl):PTd X (.Compare e [.In] [.Name x p] pos) (dB (Z4x false i f1)):=(Zb5 (Zb8 hu he (R3 hN hv hd hcd)) hm).weak fun σ H Q zz=>by
 obtain ⟨env,R,A,d,k,e1,q⟩:=zz;have e1:=Eo e1;unfold Z4x at e1;split at e1
 ·rename_i kvs d0 h1 h2
  obtain ⟨ks,hk,e3⟩:=map_some e1;have e4:=Dat.bl.inj e3;subst e4;obtain ⟨a,us,s1,s2,s3⟩:=k.dictA h1;refine ⟨env,R,A,d0,k,h2,fun y H1 sm r1=>⟨.ref a,s1,a,Sy us ks,rfl,?_,_,rfl,?_⟩⟩
  ·obtain ⟨b,e4,e5⟩:=Pd hk r1.pk
   subst e4;exact Z3y.t (sm _ _ s2) e5
  ·rw [Xq,s3]
   exact q H1 sm
 ·cases e1
end
end L2
namespace L2
open PySem PySem.Spec PyProof.Rows
section
variable {prog:Program} {w:World} {κ:Type} [DecidableEq κ] {kd:HeapKind prog w κ} {A:Around} {E:Value->Shared->Prop} {s:Shared}
end
section
variable {X:Cx} {pos:Pos} {m fr fr':Bool} {F:List Dat->Rs} {k:Nat} {ps:List Str} {e:Expr} {es:List Expr} {fs:Ev->Option (List Dat)} {p:Pos}
def Re (F:List Dat->Rs) (fs:Ev->Option (List Dat)):Ev->Fl:=fun env=>match fs env with
 | none=>.no
 | some ds=>match F ds with
  | .ok _=>.next env
  | .exc c fl=>.exc env c fl
  | .no=>.no
theorem Z70 (he:PE X e (tXx X fr' F fs)) (hs:swapsWith e none pos.line X.env=pure false:=by rfl):Gc fr X (.Expr e pos) (Re F fs):=(Mf he hs).weak fun D σ H zz=>by
 obtain ⟨env,B,A,k,hst,q⟩:=zz;unfold Re at q;split at q
 ·exact q.elim
 rename_i ds e1;refine ⟨env,B,A,ds,k,e1,?_⟩;split at q
 ·rename_i d hd
  try rw [hd]
  exact fun v H' s r=>q A H' σ (Step.same s) (k.mono s)
 ·rename_i c fl hd
  try rw [hd]
  exact fun A' H' σ' s k' _=>q A' H' σ' s k'
 ·exact q.elim
end
end L2
namespace L2
open PySem PySem.Spec PyProof.Rows PySem.W
abbrev Cx.pls (X:Cx) (b:Bool):Cx:={ X with pl:=b }
section
variable {X:Cx} {b:Bool} {pins:List (Addr×Obj)} {σ:St} {H:Hp} {s:Shared}
theorem Inv.pls (I:Inv X pins σ H s):Inv (X.pls b) pins σ H s :=
 ⟨⟨I.ok.mod,I.ok.kind,I.ok.glob,I.ok.blt,I.ok.above,I.ok.inj,I.ok.has,I.ok.cab,I.ok.hd,I.ok.frames,I.ok.stk,I.ok.exf,I.ok.bs,I.ok.bsz,I.ok.noex,I.ok.exfs,I.ok.funs,I.ok.frf⟩,I.os,I.bare,I.base,I.loc,I.cell,I.free,I.freeC,I.pin,I.hok,I.len⟩
theorem Inv.unpls (I:Inv (X.pls b) pins σ H s):Inv X pins σ H s :=
 ⟨⟨I.ok.mod,I.ok.kind,I.ok.glob,I.ok.blt,I.ok.above,I.ok.inj,I.ok.has,I.ok.cab,I.ok.hd,I.ok.frames,I.ok.stk,I.ok.exf,I.ok.bs,I.ok.bsz,I.ok.noex,I.ok.exfs,I.ok.funs,I.ok.frf⟩,I.os,I.bare,I.base,I.loc,I.cell,I.free,I.freeC,I.pin,I.hok,I.len⟩
theorem SP.unpls {D:Ends} {f:Flow} (h:SP (X.pls b) pins D f s):SP X pins D f s:=by
 cases f with
 | next=>obtain ⟨σ',H',I,q⟩:=h;exact ⟨σ',H',I.unpls,q⟩
 | brk=>obtain ⟨σ',H',I,q⟩:=h;exact ⟨σ',H',I.unpls,q⟩
 | cont=>obtain ⟨σ',H',I,q⟩:=h;exact ⟨σ',H',I.unpls,q⟩
 | ret u=>obtain ⟨v,σ',H',I,r,q⟩:=h;exact ⟨v,σ',H',I.unpls,r,q⟩
theorem Sx.unpls {st:List Stmt} {t:TS} (h:Sx (X.pls b) st t):Sx X st t:=fun pins s σ H D I hw =>
 wpAny_mono (h pins s σ H D I.pls hw) (fun _ _ q=>q.unpls) fun _ _ z=>z
end
section
variable {P:Program} {w:World} {K:Frag} {mg:Str->Option Value} {base:Heap}
abbrev cxP (P:Program) (w:World) (K:PySem.W.Frag) (mg:Str->Option Value) (base:Heap) (N:List Str) (qual:Str) (scope:Scope) (f:Addr) (cd:Value) (A:Around) (outer:List Env) (s:Shared) (H:Hp) (E:XK):Cx :=
 (Qh (CXv P w base true) P w K mg base N qual scope f cd A outer s H E).pls true
theorem Z62 {x:Str} {st:Stmt} {N ps:List Str} {k:Nat} {fr:Bool} {g:Ev->Fl} (D:Def K mg x st) (S:FnScope N ps (Z6 st))
  (hbi:∀ (kV doc pm:Value) (an:Option Addr) (cdv ct:Value) (us:List Value),us.length=ps.length->bindArgs (fnOf x x (Wn st) (Y8 st) (Z6 st) .none kV doc pm an cdv ct) ⟨us,[]⟩=pure (ps.zip us))
  (hb:∀ (f:Addr) (cdv:Value) (A:Around) (outer:List Env) (s:Shared) (H:Hp) (E:XK),Room k (A.deeper (envOfC x (Z6 st) s.heap.objs.size f cdv))->Nd fr (cxP P w K mg base N x (Z6 st) f cdv A outer s H E) (Y8 st) g) :
  CalX P w K mg base (k+1) x ps fr (Wa N.length ps.length g) true:=by
 have hpl:ps.length<=N.length:=by have:=congrArg List.length S.pre;rw [length_take] at this;lia
 obtain ⟨f,fd,F,hm⟩:=D.ex;refine ⟨⟨f,fd,F.okX S (fun vs H Q E h=>h.1) fun cdv A outer s H vs Q E hr ⟨hl,ds,R,mu,r,q⟩=>⟨_,Sx.unpls (hb f cdv A outer s H E hr),?_⟩,hm,F.kp,F.binds hbi⟩,fun ds h=>O1 h⟩;unfold Wa at q;split at q
 ·rename_i hl
  refine ⟨Qe N.length ds,⟨H,R,true⟩,R,Ky mu r (by lia),rfl,?_⟩;split at q
  ·rename_i d' e
   rw [e];exact fun v H' s r n=>q v H' s r n
  ·rename_i env e
   rw [e];exact fun A' H' σ' s k=>q .non H' k.h0 L6 (fun _ ds e=>by cases e)
  ·rename_i env c fs e
   rw [e];exact fun A' H' σ' st k pins s' e C dct I hc x hf hnw=>Km I.unpls x rfl hnw (q C dct H' k.h0 hc (hf.mono (Qr k.ra)))
  ·exact q.elim
 ·exact q.elim
structure CalN (P:Program) (w:World) (K:PySem.W.Frag) (mg:Str->Option Value) (base:Heap) (k:Nat) (x:Str) (ps:List Str) (fr:Bool) (F:List Dat->Rs):Prop where
 ex:∃ f fd,FnOkN P w K mg base D9 k f fd ps (spD K fr ps.length F)/\mg x=some (.ref f)/\PySem.W.keepIn K (.ref f)=true/\Jw K fd ps []
 len:∀ ds d,F ds=.ok d->ds.length=ps.length
theorem CalN.d {k:Nat} {x:Str} {ps:List Str} {fr:Bool} {F:List Dat->Rs} (C:CalN P w K mg base k x ps fr F):CalD P w K mg base k x ps fr F:=by
 obtain ⟨f,fd,Ff,r⟩:=C.ex;exact ⟨⟨f,fd,Ff.x,r⟩,C.len⟩
theorem Fun.okN {x qual:Str} {st:Stmt} {f:Addr} {fd:FuncData} {N ps:List Str} {k:Nat} {sp:Sp} (F:Fun K x qual st f fd) (S:FnScope N ps (Z6 st)) (len:∀ vs H Q E,sp vs H Q E->vs.length=ps.length)
  (hbody:∀ (cdv:Value) (A:Around) (outer:List Env) (s:Shared) (H:Hp) (vs:List V) (Q:VK) (E:XK),RoomN k (A.deeper (envOfC qual (Z6 st) s.heap.objs.size f cdv))->HdN (Rq D9 P w K mg base N qual (Z6 st) f cdv A outer s H E).nox->sp vs H Q E ->
   ∃ t,Sx (Rq D9 P w K mg base N qual (Z6 st) f cdv A outer s H E).nox (Y8 st) t/\t { nx:=fun _ H'=>Q .non H',rt:=Q } (start N vs) H):FnOkN P w K mg base D9 (k+1) f fd ps sp:=by
 obtain ⟨oc,od,kV,doc,pm,an,cdv,ct,osl,rfl,lk,hcd⟩:=F.ex;refine Zaa lk hcd S len fun A outer s H vs Q E hr hk hsp=>?_
 obtain ⟨t,h,q⟩:=hbody cdv A outer s H vs Q E hr (HdN.of (X:=(Rq D9 P w K mg base N qual (Z6 st) f cdv A outer s H E).nox) hk rfl) hsp;exact ⟨t,h.nox,q⟩
theorem Zae {x:Str} {st:Stmt} {N ps:List Str} {k:Nat} {fr:Bool} {g:Ev->Fl} (D:Def K mg x st) (S:FnScope N ps (Z6 st))
  (hbi:∀ (kV doc pm:Value) (an:Option Addr) (cdv ct:Value) (us:List Value),us.length=ps.length->bindArgs (fnOf x x (Wn st) (Y8 st) (Z6 st) .none kV doc pm an cdv ct) ⟨us,[]⟩=pure (ps.zip us))
  (hb:∀ (f:Addr) (cdv:Value) (A:Around) (outer:List Env) (s:Shared) (H:Hp) (E:XK),RoomN k (A.deeper (envOfC x (Z6 st) s.heap.objs.size f cdv))->HdN (Rq D9 P w K mg base N x (Z6 st) f cdv A outer s H E).nox->Nd fr (Rq D9 P w K mg base N x (Z6 st) f cdv A outer s H E).nox (Y8 st) g) :
  CalN P w K mg base (k+1) x ps fr (Wa N.length ps.length g):=by
 have hpl:ps.length<=N.length:=by have:=congrArg List.length S.pre;rw [length_take] at this;lia
 obtain ⟨f,fd,F,hm⟩:=D.ex;refine ⟨⟨f,fd,F.okN S (fun vs H Q E h=>h.1) fun cdv A outer s H vs Q E hr hh ⟨hl,ds,R,d,mu,r,hF,q⟩=>⟨_,hb f cdv A outer s H E hr hh,?_⟩,hm,F.kp,F.binds hbi⟩,fun ds d h=>Xy h⟩;exact Ko hpl mu r hF q
end
section
variable {X:Cx} {m fr:Bool} {F:List Dat->Rs} {k:Nat} {x:Str} {ps:List Str} {e:Expr} {es:List Expr} {fs:Ev->Option (List Dat)} {p pos:Pos}
theorem Z8v (C:CalN X.prog X.w X.K X.mg X.base k x ps fr F) (hr:RoomN k X.A) (hh:HdC X) (ha:O9 false X (e::es) fs) (hg:Gl X x:=by rfl)
  (hdb:(x==("__debug__" : Str))=false:=by decide) (he:starEach (e::es) X.env=(false,eval e X.env)::starEach es X.env:=by rfl) (hpl:(backTo pos (starEach es X.env)).any (·.1)=false:=by rfl) :
  Wq m X (.Call (.Name x p) (e::es) [] pos) (Yf F fs):=by
 obtain ⟨f,fd,Ff,hm,hk,hb⟩:=C.ex;have key:=Z37 (dvs:=[]) (ds:=[]) (E:=E0) Ff hr hh hg hm hk hb .nil Z97 ha hdb he hpl (p:=p);have key':PE X (.Call (.Name x p) (e::es) [] pos) (Zdi (spD X.K fr ps.length F) (fun σ H Q=>∃ env R A ds,EnvOk X.K R A H σ env/\fs env=some ds/\∀ vs H',Zs H H'->Xl false X.K A H' ds vs->Q vs H')):=fun pins s σ H Q I h=>key pins s σ H Q I (by
  unfold Z0k;simp only [append_nil];exact h)
 refine Wq.any (key'.weak fun σ H Q ⟨env,R,A,d,k,q1,q2⟩=>?_);obtain ⟨ds,e1,e2⟩:=bind_some q1;have e3:=F8 e2;refine ⟨env,R,A,ds,k,e1,fun vs H1 s1 rs=>⟨by rw [Zy rs.rps];exact C.len ds d e3,ds,A,d,k.mu.mono s1,rs.rps,e3,fun v H' s r _=>q2 v H' (s1.trans s) r⟩⟩
end
structure XMakeN (P:Program) (w:World) (K:Frag) (mg:Str->Option Value) (base:Heap) (k:Nat) (c:Str) (p:Nat) (G:List Dat->Option (List (Str×XD))):Prop where
 ex:∃ C fI D fd ps,T4 K c C/\mg c=some (.ref C)/\keepIn K (.ref C)=true/\Qi K C fI D=true/\XCls K C/\isFn K (.ref fI)=true/\FnOkN P w K mg base D9 k fI fd ps (spG K C p G)/\Jw K fd ps []
 len:∀ ds fl,G ds=some fl->ds.length=p
 few:p<=10
theorem XMakeN.x {P:Program} {w:World} {K:Frag} {mg:Str->Option Value} {base:Heap} {k:Nat} {c:Str} {p:Nat} {G:List Dat->Option (List (Str×XD))} (M:XMakeN P w K mg base k c p G):XMake P w K mg base k c p G:=by
 obtain ⟨C,fI,D,fd,ps,h1,h2,h3,h4,h5,h6,h7,h8⟩:=M.ex;exact ⟨⟨C,fI,D,fd,ps,h1,h2,h3,h4,h5,h6,h7.x,h8⟩,M.len,M.few⟩
section
variable {P:Program} {w:World} {K:Frag} {mg:Str->Option Value} {base:Heap}
theorem Z0l {qual x:Str} {st:Stmt} {fI C D fI':Addr} {fd:FuncData} {k:Nat} {f:Str} {r:TJ} (F:Fun K "__init__" qual st fI fd) (S:FnScope ["self",x] ["self",x] (Z6 st)) (hx:Qi K C fI' D=true) (xc:XCls K C) (hf:findIn K (.ref C) f=some none)
  (hb:∀ (cdv:Value) (A:Around) (outer:List Env) (s:Shared) (H:Hp) (E:XK),RoomN k (A.deeper (envOfC qual (Z6 st) s.heap.objs.size fI cdv)) ->
   Sx (Rq D9 P w K mg base ["self",x] qual (Z6 st) fI cdv A outer s H E).nox (Y8 st) (Bx (Z06 (Cq K (E4 (Dq 0) (E4 (P8 r) Z1c)))) (Z3r K (Dq 0) (tCB (Z50 K) (E4 (Dq 1) Z1c)) f)))
  (hj:∀ (H:Hp) (e a:Addr) (ns:List Int),SL K H a (ns.map V.int)->Gr ns->JOk 0 [some (.ref e),some (.ref a)] H r) :
  FnOkN P w K mg base D9 (k+1) fI fd ["self",x] (spG K C 1 (gW f)):=by
 refine F.okN S (fun vs H Q E ⟨e,ws,ds,R,fl,ev,hl,_⟩=>by rw [ev,length_cons,hl];rfl) fun cdv A outer s H vs Q E hr hh ⟨e,ws,ds,R,fl,ev,hl,he,mu,re,rs,hG,q⟩=>⟨_,hb cdv A outer s H E hr,?_⟩
 subst ev;unfold gW at hG;split at hG
 ·rename_i xs
  obtain ⟨ns,hn,hG⟩:=bind_some hG;split at hG
  ·rename_i hs
   cases hG;have hs:=Oc hs;obtain ⟨v,r',e1,r1,r2⟩:=Y0 rs;have e2:=Yu r2;subst e1 e2;obtain ⟨a,us,e3,hS,ru⟩:=Mt r1;rw [Qy hn] at ru;have e4:=V6 ru;subst e3 e4;have hS':SL K H a (ns.map V.int):=W6.sl hS;show Bx _ _ _ [some (.ref e),some (.ref a)] H;refine ⟨.ref e,rfl,?_⟩;refine hj H e a ns hS' hs Str.empty _ (by decide) fun z=>?_
   refine ⟨e,C,none,.str z,fI',D,rfl,he,hx,?_⟩;refine ⟨.ref a,rfl,a,ns.map V.int,rfl,.inl hS'.sq,fun l hln=>?_⟩;have hle:l≠e:=fun z=>by rw [z,he] at hln;cases hln
   refine ⟨.ref e,rfl,e,C,none,fI',D,rfl,by rw [Zh (Ne.symm hle)];exact he,hx,xc,hf,fun dx hdx hde=>?_⟩;have hdl:dx≠l:=fun z=>by rw [z,Zt] at hdx;cases hdx
   have hdn:H dx=none:=by rw [Zh hdl] at hdx;exact hdx
   have nR:∀ {b:Addr},H b=none->R b=false:=fun {b} z=>by
    cases y:R b with
    | false=>rfl
    | true=>obtain ⟨o,ho⟩:=(mu b y).some;rw [z] at ho;cases ho
   refine q _ (some dx) (fun c o hc h=>?_) ?_ ?_ (Xs hdn Zt fun g a hm=>by simp at hm;obtain ⟨_,rfl⟩:=hm;exact hln)
   ·have c1:c≠dx:=fun z=>by rw [z,hdn] at h;cases h
    have c2:c≠l:=fun z=>by rw [z,hln] at h;cases h
    rw [Zh c1,Zh hc,Zh c2];exact h
   ·rw [Zh (Ne.symm hde),Zt]
   ·refine ⟨[(f,.ref l)],V9 Zt (nR hdn),fun g=>?_⟩
    by_cases eg:g=f
    ·subst eg
     refine .inr ⟨.nums ns,.ref l,by simp [List.lookup],by simp [List.lookup],l,rfl,.inl (.inl (V9 ?_ (nR hln))),?_⟩
     ·rw [Zh (Ne.symm hdl),Zh hle,Zt]
     ·exact le_of_lt (Tx (by have:=hs.1;lia))
    ·have e':(g==f)=false:=by simpa using eg
     exact .inl ⟨by simp [List.lookup,e'],by simp [List.lookup,e']⟩
  ·cases hG
 ·cases hG
end
theorem Zbp {K:Frag} {H0 H:Hp} {A:AS} {dct:Option Addr} {fl:List (Str×XD)} (h:Xg K H dct fl) (n:X9 H0 H dct) (nA:∀ b,H0 b=none->A b=false):Xg K (av H A) dct fl:=by
 cases dct with
 | none=>exact h
 | some dx =>
  obtain ⟨fvs,e1,e2⟩:=h;refine ⟨fvs,V9 e1 (nA _ (n dx rfl).1),fun f=>(e2 f).imp id fun ⟨d,v,a,b,c⟩=>⟨d,v,a,b,?_⟩⟩;cases d with
  | int i=>exact c
  | nums is =>
   obtain ⟨a',z1,z2,z3⟩:=c;subst z1;have hn:=nA _ ((n dx rfl).2 fvs f a' e1 b);refine ⟨a',rfl,?_,z3⟩;rcases z2 with (z | ⟨o,z⟩) | z
   ·exact .inl (.inl (V9 z hn))
   ·exact .inl (.inr ⟨o,V9 z hn⟩)
   ·exact .inr z
def Eb (F:List Dat->Rs):List Dat->Rs:=fun ds=>match F ds with
 | .ok d=>if A0 d=true then .ok d else .no
 | r=>r
section
variable {X:Cx} {m fr fr':Bool} {F:List Dat->Rs} {k:Nat} {x:Str} {ps:List Str} {e:Expr} {es:List Expr} {fs:Ev->Option (List Dat)} {p pos:Pos}
theorem Zbi {pl:Bool} (C:CalX X.prog X.w X.K X.mg X.base k x ps fr F pl) (hr:Room k X.A) (ha:O9 true X (e::es) fs) (hg:Gl X x:=by rfl)
  (hdb:(x==("__debug__" : Str))=false:=by decide) (he:starEach (e::es) X.env=(false,eval e X.env)::starEach es X.env:=by rfl) (hpl:(backTo pos (starEach es X.env)).any (·.1)=false:=by rfl) (hp:X.pl=true->pl=true:=by first | exact fun _=>rfl | exact fun z=>nomatch z) :
  PE X (.Call (.Name x p) (e::es) [] pos) (tXx X fr (Eb F) fs):=by
 obtain ⟨f,fd,Ff,hm,hk,hb⟩:=C.ex;intro pins s σ H Q I ⟨env,B,A,ds,kk,e1,q⟩;refine wpAny_Call_Name_kw (U9 I hg hm ?_ hdb);refine PySem.W.callWith_K (h₀:=X.base) I.ok.mod.kin hk (Wt (ha pos pins s σ H (fun vs H1=>Zs H H1/\Wk X.K H1 ds vs) I ⟨env,B,A,ds,kk,e1,fun vs H1 s1 rs=>⟨s1,rs.full⟩⟩) fun us s1 ⟨vs,H1,I1,r,sm,rs⟩=>⟨I1.kIn,?_⟩) he hpl;have hne:F ds≠.no:=fun z=>by unfold Eb at q;rw [z] at q;exact q
 have hl:us.length=ps.length:=by rw [← r.length,Zy rs];exact C.len ds hne
 let E:XK:=fun cls dct H'=>∃ c fl C,F ds=.exc c fl/\cls=.ref C/\T4 X.K c C/\Zs H1 H'/\Xg X.K H' dct fl
 refine wpAny_call (codeAny_mono (Ff.run X.A X.stack s1 H1 ⟨us,[]⟩ us vs Q E hr I1.env0 (by simpa using hb s1 us I1.kIn (by simpa using hl)) r ⟨by rw [Zy rs];exact C.len ds hne,ds,no,(fun a h=>by cases h),by rw [Cr];exact rs,?_⟩) fun rr s' hq=>?_)
 ·unfold Z0e
  split
  ·rename_i d hd
   unfold Eb at q;rw [hd] at q;dsimp only at q;split at q
   ·rename_i d' hq
    split at hq
    ·rename_i hpu
     cases hq;exact fun v H' s2 r2 _=>q v H' (sm.trans s2) (by rw [Cr] at r2;exact Rp.pure (kk.mu.mono (sm.trans s2)) hpu r2)
    ·cases hq
   ·rename_i hq
    split at hq<;>cases hq
   ·exact q.elim
  ·rename_i c fl hd
   exact fun C dct H' s2 hc hf=>⟨c,fl,C,hd,rfl,hc,s2,by rw [Cr] at hf;exact hf⟩
  ·rename_i hd
   exact hne hd
 ·cases rr with
  | error ev =>
   obtain ⟨ex,C,dct,T,H',c2,rfl,ho,hbr,un,hok,h1,h2,h3,h4,ht,hc2,hnw,c,fl,C',hF,eC,hc,sm2,hf⟩:=hq;cases eC;unfold Eb at q;rw [hF] at q;have I2:Inv X pins σ H' s':=I1.call' (ch:=[]) ho un hok hbr (fun b z=>absurd z (by simp));have sz:X.s₀.heap.objs.size<=s1.heap.objs.size:=I1.sz;have np:∀ {a:Addr},s1.heap.objs.size<=a->∀ p∈X.pn++pins,p.1≠a:=fun {a} ha p hp z=>by
    have:=(I1.pin p hp).1;rw [z] at this;exact absurd (lt_size this) (not_lt.mpr ha)
   have nA:∀ b,H1 b=none->A b=false:=fun b z=>by
    cases y:A b with
    | false=>rfl
    | true=>obtain ⟨o,ho⟩:=(kk.mu.mono sm b y).some;rw [z] at ho;cases ho
   exact q A H' σ (Step.same (sm.trans sm2)) (kk.mono (sm.trans sm2)) rfl pins s' ex C dct I2 hc ⟨le_trans sz h1,h3,.inr ⟨T,c2,le_trans sz h2,h4,np h2,ht,fun z=>hc2 (hp z)⟩,np h1⟩ (Zbp hf hnw nA) (hnw.mono fun b z=>kk.h0.none (sm.none z))
  | ok fl =>
   cases fl with
   | ret u=>exact I1.after hq
   | next=>exact False.elim hq
   | brk=>exact False.elim hq
   | cont=>exact False.elim hq
end
theorem RoomN.make {k:Nat} {A:Around} (r:RoomN (k+1) A) (C:Addr) (us:List Value) (kw:List (Str×Value)):RoomN k (A.under (.builtin "type.__call__" ⟨.ref C::us,kw⟩)) :=
 ⟨by have:=r.dp;rw [Lf];lia,by have:=r.un;rw [Ka];lia,r.gd⟩
abbrev Cx.inR (X:Cx) (pn:List (Addr×Obj)) (e:Addr):Cx:={ X with A:=X.A.mark (some (.ref e)),calm:=false,pn:=pn }
theorem Z6i {X:Cx} {pn:List (Addr×Obj)} {e:Addr} {oe:Obj} {ve:Array Value} (hstk:X.stack=X.env::X.outer/\X.env.frame=some X.env.locals) (hm:(e,oe)∈pn) (hd:oe.data=.fields ve) (h2:ve[2]?=some .none):HdC (X.inR pn e):=fun pins σ H s I=>by
 obtain ⟨a,b,c,d,_⟩:=I.pin (e,oe) (mem_append_left _ hm);refine .inr ⟨e,oe,ve,rfl,a,hd,h2,b,fun z=>?_⟩;have z:e∈Sw X.stack:=z;rw [hstk.1] at z;unfold Sw at z;rw [filterMap_cons,hstk.2] at z;rcases mem_cons.mp z with z | z
 ·exact c z
 ·exact d z
section
variable {X:Cx} {fr:Bool} {e:Expr} {es:List Expr} {fs:Ev->Option (List Dat)} {p pos cpos npos:Pos} {k n:Nat} {c:Str} {G:List Dat->Option (List (Str×XD))}
theorem Z2b {pins:List (Addr×Obj)} {σ:St} {H:Hp} {s:Shared} {us:List Value} {vs:List V} {ds:List Dat} {fl:List (Str×XD)} {env:Ev} {B:Bs} {A:AS} {E:Value->Shared->Prop} (M:XMakeN X.prog X.w X.K X.mg X.base k c n G) (hr:RoomN (k+1) X.A) (hh:HdC X)
  (I:Inv X pins σ H s) (kk:EnvOk X.K B A H σ env) (r:Y2 vs us) (rs:Wk X.K (av H A) ds vs) (hG:G ds=some fl) {C fI D:Addr} (hcl:T4 X.K c C) (hx:Qi X.K C fI D=true) {fd:FuncData} {ps:List Str} (hfn:isFn X.K (.ref fI)=true) (F:FnOkN X.prog X.w X.K X.mg X.base D9 k fI fd ps (spG X.K C n G)) (hb:Jw X.K fd ps []) :
  wpAny (model X.prog X.w) X.A (call (.ref C) us) (fun v s'=>∃ ex t dct H',v=.ref ex/\s'.heap.get? ex=some { cls:=.ref C,dict:=dct,data:=.fields #[.ref t,.none,.none,.none,.bool false,.none] }/\Inv X pins σ H' s'/\Zs H H'/\X.s₀.heap.objs.size<=ex/\H' ex=none/\(∀ p∈X.pn++pins,p.1≠ex)/\Xg X.K (av H' A) dct fl/\s.heap.objs.size<=ex/\X9 B.H₀ H' dct) E s:=by
 obtain ⟨nm,qn,N,bs,sn,sub,ab,col,dd,k0,k1,k2,k3,k5,mN,hC,hN,hi,T⟩:=K8 I.kIn hx;have hfI:∃ oI,s.heap.get? fI=some oI/\oI.cls=.type "function" := by
  have:=beq_iff_eq.mp hfn;obtain ⟨oI,h1,h2⟩:=Option.map_eq_some_iff.mp this;exact ⟨oI,I.kIn _ _ h1,h2⟩
 obtain ⟨oI,hfI,hfc⟩:=hfI;have hlen:us.length<=sizeLine:=by
  have h1:=r.length;have h2:=Zy rs;have h3:=M.len ds fl hG;have h4:=M.few;exact le_of_lt (Tx (by lia))
 obtain ⟨hp,g,d,tk,os⟩:=s;refine N1 (hrest:=hlen) PySem.F.excBase_ValueError (by decide) PySem.F.excBase_ValueError T hC hN hi hfI hfc fun h' ex hlo hm=>?_
 obtain ⟨t0,ht0,_,_⟩:=hm.there;have hfr:H ex=none:=I.hok.fresh hlo;have I2:Inv X pins σ (We H ex (.ext (Dl ex C none))) ⟨h',g,d,tk,os⟩:=I.laid (h':=h') (t':=tk) (a:=ex) (o:=.ext (Dl ex C none)) hm.keeps hlo (Pi ⟨t0,ht0⟩);have aex:A ex=false:=by
  cases z:A ex with
  | false=>rfl
  | true=>obtain ⟨o,ho⟩:=(kk.mu ex z).some;rw [hfr] at ho;cases ho
 have sm1:Zs H (We H ex (.ext (Dl ex C none))):=Xj hfr;let Q':VK:=fun v H'=>v=.non/\∃ dct,(∀ c o,c≠ex->We H ex (.ext (Dl ex C none)) c=some o->H' c=some o)/\H' ex=some (.ext (Dl ex C dct))/\Xg X.K (av H' A) dct fl/\X9 (We H ex (.ext (Dl ex C none))) H' dct
 have hsp:spG X.K C n G (.ref ex::vs) (We H ex (.ext (Dl ex C none))) Q' E0:=⟨ex,vs,ds,A,fl,rfl,by rw [Zy rs];exact M.len ds fl hG,Zt,kk.mu.mono sm1,aex,rs.mono (Vk sm1),hG,fun H' dct h1 h2 h3 h4=>⟨rfl,dct,h1,h2,h3,h4⟩⟩;have hl2:(Value.ref ex::us).length=ps.length:=by
  have e1:=F.len _ _ _ _ hsp;have e2:=r.length;rw [length_cons] at e1 ⊢;lia
 refine wpAny_call (codeAny_mono (F.run _ X.stack ⟨h',g,d,tk,os⟩ _ ⟨Value.ref ex::us,[]⟩ (Value.ref ex::us) (V.ref ex::vs) Q' E0 (hr.make C us []) (hh _ _ _ _ I2) (I2.env0.make C us []) (by simpa using hb _ (Value.ref ex::us) I2.kIn (by simpa using hl2)) (.cons rfl r) hsp) fun rr s' hq=>?_);cases rr with
 | error e=>exact False.elim hq
 | ok fl' =>
  cases fl' with
  | ret u =>
   obtain ⟨v,H',I3,rv,ev,dct,h1,h2,h3,h4⟩:=I2.after hq;subst ev;have eu:u=.none:=rv;subst eu;refine ⟨rfl,?_⟩;obtain ⟨⟨t1,ht1⟩,_,_⟩:=(show W9 X.prog X.w H' s'.heap ex (.ext (Dl ex C dct)) from I3.hok ex _ h2);have I4:=I3.drop h2;have sm:Zs H (drp H' ex):=fun b o q=>by
    have hb:b≠ex:=fun z=>by rw [z,hfr] at q;cases q
    rw [Dj hb];exact h1 b o hb (by rw [Zh hb];exact q)
   refine ⟨ex,t1,dct,drp H' ex,rfl,ht1,I4,sm,le_trans I.sz hlo,G0,fun p hp z=>?_,?_,hlo,Ct h4 kk.h0⟩
   ·have:=(I.pin p hp).1
    rw [z] at this;exact absurd (lt_size this) (not_lt.mpr hlo)
   ·exact h3.of_ne (e:=ex) (V9 h2 aex) fun c o hc q=>V9 (by rw [Dj hc];exact (Js q).2) (Js q).1
  | next=>exact False.elim hq
  | brk=>exact False.elim hq
  | cont=>exact False.elim hq
theorem Fk (M:XMakeN X.prog X.w X.K X.mg X.base k c n G) (hr:RoomN (k+1) X.A) (hh:HdC X) (ha:O9 false X (e::es) fs) (hn:X.A.handled≠none) (hpl0:X.pl=false:=by rfl) (hstk:X.stack=X.env::X.outer:=by rfl) (hg:Gl X c:=by rfl) (hdb:(c==("__debug__" : Str))=false:=by decide)
  (he:starEach (e::es) X.env=(false,eval e X.env)::starEach es X.env:=by rfl) (hpl:(backTo cpos (starEach es X.env)).any (·.1)=false:=by rfl) {kn:Nat}:Gc fr X (.Raise (some (.Call (.Name c p) (e::es) [] cpos)) (some (.Constant .none kn npos)) pos) (U1 c G fs):=by
 intro pins s σ H D I ⟨env,B,A,kk,hst,q⟩;obtain ⟨C,fI,D',fd,ps,hcl,hm,hkp,hx,xc,hfn,F,hb⟩:=M.ex;unfold U1 at q;split at q
 ·exact q.elim
 rename_i fl hfl;obtain ⟨ds,e1,hG⟩:=bind_some hfl;obtain ⟨nm,qn,N,bs,sn,sub,ab,col,dd,k0,k1,k2,k3,k5,mN,hC,hN,hi,T⟩:=K8 I.kIn hx;obtain ⟨h,hhd⟩:∃ h,X.A.handled=some (.ref h):=by
  rcases hh _ _ _ _ I with z | ⟨h,_,_,z,_⟩
  ·exact absurd z hn
  ·exact ⟨h,z⟩
 have key:wpAny (model X.prog X.w) X.A (eval (.Call (.Name c p) (e::es) [] cpos) X.env) (fun v s'=>∃ ex t dct H',v=.ref ex/\s'.heap.get? ex=some { cls:=.ref C,dict:=dct,data:=.fields #[.ref t,.none,.none,.none,.bool false,.none] }/\Inv X pins σ H' s'/\Zs H H'/\X.s₀.heap.objs.size<=ex/\H' ex=none/\(∀ p∈X.pn++pins,p.1≠ex)/\Xg X.K (av H' A) dct fl/\h≠ex/\X9 B.H₀ H' dct) X.xe s:=by
  refine wpAny_Call_Name_kw (U9 I hg hm ?_ hdb);refine callWith_K (h₀:=X.base) I.ok.mod.kin hkp (Wt (ha cpos pins s σ H (fun vs H1=>Zs H H1/\Wk X.K (av H1 A) ds vs) I ⟨env,B,A,ds,kk,e1,fun vs H1 s1 rs=>⟨s1,rs.rps⟩⟩) fun us s1 ⟨vs,H1,I1,r,sm,rs⟩=>⟨I1.kIn,?_⟩) he hpl;refine wpAny_mono (Z2b (E:=X.xe) M hr hh I1 (kk.mono sm) r rs hG hcl hx hfn F hb) (fun v s' ⟨ex,t,dct,H',z1,z2,z3,z4,z5,z6,z7,z8,z9,z10⟩=>⟨ex,t,dct,H',z1,z2,z3,sm.trans z4,z5,z6,z7,z8,fun z=>?_,z10⟩) fun _ _ z=>z
  rcases hh _ _ _ _ I1 with y | ⟨h',_,_,y,y1,_⟩
  ·exact hn y
  ·rw [hhd] at y
   cases y;have:=lt_size y1;rw [z] at this;exact absurd this (not_lt.mpr z9)
 obtain ⟨o,lk⟩:∃ o,X.K.lookup C=some o:=by
  unfold Qi at hx;split at hx
  ·rename_i ho;exact ⟨_,ho⟩
  ·cases hx
 have e2:=(I.kIn _ _ lk).symm.trans hC;cases e2;rw [arm_exec_Raise];refine wpAny_bind (wpAny_standAt (Fx (C:=C) (nm:=nm) (q:=qn) (N:=N) (bs:=bs) (bm:=.ref D'::Je) (hdct:=true) (sn:=sn) (sub:=sub) (ab:=ab) (col:=col) (dd:=dd) (k0:=k0) (k1:=k1) (k2:=k2) (k3:=k3) (k5:=k5) (newId:="ValueError.__new__") (by simp [Je]) hhd (wpAny_bind (wpAny_mono key (fun v s₃ h₃=>wpAny_bind (wpAny_standAt (wpAny_pure ?_))) fun _ _ x=>x))));obtain ⟨ex,t,dct,H',rfl,hex,I3,sm,lo,un,pe,hf,hne,hnw⟩:=h₃;obtain ⟨oh,vh,hg1,hg2,hg3⟩:∃ oh vh,s₃.heap.get? h=some oh/\oh.data=.fields vh/\vh[2]?=some .none:=by
  rcases hh _ _ _ _ I3 with y | ⟨h',oh,vh,y,y1,y2,y3,_⟩
  ·exact absurd y hn
  ·rw [hhd] at y
   cases y;exact ⟨oh,vh,y1,y2,y3⟩
 have nloc:ex≠X.env.locals/\∀ y c,X.env.cells.lookup y=some c->c≠ex:=by
  refine ⟨fun z=>?_,fun y c hc z=>?_⟩
  ·obtain ⟨m,⟨o',es,ep,ho',hd',_⟩,_⟩:=I3.loc
   rw [z,ho'] at hex;cases hex;cases hd'
  ·obtain ⟨v,o',ho',hd'⟩:=I3.cell y c hc
   rw [z,hex] at ho';cases ho';cases hd'
 refine ⟨ex,.ref t,dct,rfl,I3.kIn _ _ lk,hex,hne,⟨oh,vh,hg1,hg2,hg3⟩,wpAny_bind (wpAny_Constant_none (wpAny_bind (wpAny_standAt (wpAny_pure ⟨rfl,rfl,fun h' hk hx' hz=>?_⟩))))⟩;have hfree:∀ b∈Sw (X.env::X.outer),H' b=none:=by rw [← hstk];exact I3.stkFree
 have kp:L8 (X.env::X.outer) [ex] s₃.heap h':=L8.of fun b o hb hc=>(hk b (by simpa using hc)).trans hb
 have hch:∀ b∈[ex],b=ex:=fun b hb=>mem_singleton.mp hb
 have I4:Inv X pins σ H' { s₃ with heap:=h' }:=I3.call' (s':={ s₃ with heap:=h' }) (ch:=[ex]) rfl (by rw [hstk];exact Gx kp fun b hb=>by rw [hch b hb];exact un) (Jq I3.hok kp (fun b hb=>by rw [hch b hb];exact un) hfree) I3.bare fun b hb=>by rw [hch b hb];exact ⟨.inr lo,nloc.1,nloc.2,pe⟩
 exact q A H' σ (Step.same sm) (kk.mono sm) pins { s₃ with heap:=h' } ex C dct I4 hcl ⟨lo,un,.inl ⟨_,_,hx',rfl,rfl,rfl,rfl,fun z=>by rw [hpl0] at z;cases z⟩,pe⟩ hf hnw
end
def Z30 (K:Frag) (mg:Str->Option Value) (T:Str) (known:List Str):Prop:=∃ D,mg T=some (.ref D)/\∀ c C,c∈known->T4 K c C->exmOne K (.ref C) (.ref D)=some (decide (c=T))
def Z9o:Fl->Fl
 | .exc e c f=>.exc e c f
 | _=>.no
def Fz (known:List Str) (T1 T2:Str) (g k1 k2:Ev->Fl):Ev->Fl:=fun env=>match g env with
 | .exc env' c fl=>if c∈known then (if c=T1 then Z9o (k1 env') else if c=T2 then Z9o (k2 env') else .no) else .no
 | r=>r
theorem Inv.ofR {X:Cx} {pins pins' pn:List (Addr×Obj)} {σ:St} {H:Hp} {s:Shared} {e:Addr} (ok:X.Ok) (hs:∀ p∈X.pn++pins,p∈pn) (I:Inv (X.inR pn e) pins' σ H s):Inv X pins σ H s :=
 ⟨ok,I.os,I.bare,I.base,I.loc,I.cell,I.free,I.freeC,fun p hp=>I.pin p (mem_append_left _ (hs p hp)),I.hok,I.len⟩
theorem SP.ofR {X:Cx} {pins pn:List (Addr×Obj)} {D:Ends} {f:Flow} {s:Shared} {e:Addr} (ok:X.Ok) (hs:∀ p∈X.pn++pins,p∈pn) (h:SP (X.inR pn e) [] D f s):SP X pins D f s:=by
 cases f with
 | next=>obtain ⟨σ',H',I,q⟩:=h;exact ⟨σ',H',I.ofR ok hs,q⟩
 | brk=>obtain ⟨σ',H',I,q⟩:=h;exact ⟨σ',H',I.ofR ok hs,q⟩
 | cont=>obtain ⟨σ',H',I,q⟩:=h;exact ⟨σ',H',I.ofR ok hs,q⟩
 | ret u=>obtain ⟨v,σ',H',I,r,q⟩:=h;exact ⟨v,σ',H',I.ofR ok hs,r,q⟩
section
variable {X:Cx} {fr:Bool} {g k1 k2:Ev->Fl} {body:List Stmt} {b1 b2:Stmt} {su1 su2:List Stmt} {T1 T2:Str} {np1 np2 hp1 hp2 pos:Pos} {known:List Str}
theorem Z7r (hp:∀ e,PassesOwnAt (model X.prog X.w) (X.A.mark (some (.ref e))) X.A X.env X.xe) (hb:∀ pn E,Nd fr ((X.inTry pn E).pls true) body g)
  (h1:∀ pn e,HdC (X.inR pn e)->Nd fr (X.inR pn e) (b1::su1) k1) (h2':∀ pn e,HdC (X.inR pn e)->Nd fr (X.inR pn e) (b2::su2) k2) (c1:Z30 X.K X.mg T1 known) (c2:Z30 X.K X.mg T2 known)
  (hg1:Gl X T1:=by rfl) (hdb1:(T1==("__debug__" : Str))=false:=by decide) (hg2:Gl X T2:=by rfl) (hdb2:(T2==("__debug__" : Str))=false:=by decide)
  (hstk:X.stack=X.env::X.outer/\X.env.frame=some X.env.locals:=by exact ⟨rfl,rfl⟩) :
  Gc fr X (.Try body [.ExceptHandler (some (.Name T1 np1)) none (b1::su1) hp1,.ExceptHandler (some (.Name T2 np2)) none (b2::su2) hp2] [] [] pos) (Fz known T1 T2 g k1 k2):=by
 obtain ⟨D1,m1,x1⟩:=c1;obtain ⟨D2,m2,x2⟩:=c2;intro pins s σ H D I ⟨env,B,A,kk,hst,q⟩;let HS:List ExceptHandler:=[.ExceptHandler (some (.Name T1 np1)) none (b1::su1) hp1,.ExceptHandler (some (.Name T2 np2)) none (b2::su2) hp2]
 let EX:Value->Shared->Prop:=fun ev s₁=>wpAny (model X.prog X.w) X.A (noteFrame ev X.env) (fun _ s₂=>wpAny (model X.prog X.w) X.A (setFlight ev none) (fun _ s₃=>wpAny (model X.prog X.w) X.A (handleBy ev X.env HS) (SP X pins D) X.xe s₃) X.xe s₂) X.xe s₁
 have flok:E6 fr ((X.inTry (X.pn++pins) EX).pls true) B A H D (g env):=by
  unfold Fz at q;cases eg:g env with
  | next e'=>rw [eg] at q;exact q
  | brk e'=>rw [eg] at q;exact q
  | cont e'=>rw [eg] at q;exact q
  | ret d=>rw [eg] at q;exact q
  | no=>rw [eg] at q;exact q
  | exc env' c fl =>
   rw [eg] at q;dsimp only at q;split at q
   case isFalse=>exact q.elim
   rename_i hkn;intro A1 H1 σ1 st1 kv1 pins' s1 e C dct I1 hcl x hf1 hnw1;have J1:Inv X pins σ1 H1 s1:=I1.unpls.ofTry I.ok;have hfr:X.A.frames=some (X.env::X.outer):=by rw [← hstk.1];exact J1.ok.frames
   have hl:s1.heap.FunFrames X.base (X.env::X.outer):=by rw [← hstk.1];exact J1.stack
   have hkb:X.base.StaysIn s1.heap:=J1.bk;have hen:X.base.get? e=none:=J1.noBase x.lo;have hfree:∀ b∈Sw (X.env::X.outer),H1 b=none:=by rw [← hstk.1];exact J1.stkFree
   have hpn:∀ {a:Addr},(∀ p∈(X.inTry (X.pn++pins) EX).pn++pins',p.1≠a)->∀ p∈X.pn++pins,p.1≠a:=fun {a} z p hp=>z p (mem_append_left _ hp)
   have nloc:∀ {s1:Shared} (J1:Inv X pins σ1 H1 s1) {a:Addr} {o:Obj} {vs:Array Value},s1.heap.get? a=some o->o.data=.fields vs->a≠X.env.locals/\∀ y c,X.env.cells.lookup y=some c->c≠a:=fun {s1} J1 {a o vs} ho hd=>by
    refine ⟨fun z=>?_,fun y c hc z=>?_⟩
    ·obtain ⟨m,⟨o',es,ep,ho',hd',_⟩,_⟩:=J1.loc
     rw [z,ho'] at ho;cases ho;rw [hd] at hd';cases hd'
    ·obtain ⟨v,o',ho',hd'⟩:=J1.cell y c hc
     rw [z,ho] at ho';cases ho';rw [hd] at hd';cases hd'
   -- a suite
   have suite:∀ (b₀:Stmt) (su:List Stmt) (hp':Pos) (kf:Ev->Fl) (hh:∀ pn e,HdC (X.inR pn e)->Nd fr (X.inR pn e) (b₀::su) kf) (qf:E6 fr X B A H D (Z9o (kf env'))) (h2:Heap) (T':Addr),s1.heap.objs.size<=T'->X.base.StaysIn h2->h2.FunFrames X.base (X.env::X.outer)->G5 h2 X.base e T' (.ref C,some .none) dct .none->Inv X pins σ1 H1 { s1 with heap:=h2 } ->
     codeAny (model X.prog X.w) (X.A.mark (some (.ref e))) (.handlers (.ref e) [.ExceptHandler none none (b₀::su) hp'] X.env) (fun r s₂=>match r with
      | .ok f=>SP X pins D f s₂
      | .error x=>cameBackBy (model X.prog X.w) X.A X.env X.xe x s₂) { s1 with heap:=h2 }:=by
    intro b₀ su hp' kf hh qf h2 T' hT' sb2 ff2 tr2 J2;obtain ⟨oe,ve,oT,ts,g1,g2,g3,g4,g5,g6,g7,g8,g9,g10⟩:=id tr2;refine codeAny_handlers_suite ?_;refine Hg (s:={ s1 with heap:=h2 }) sb2 ff2 tr2 fun h3 y1 y2 tr3 y4 y5=>?_
    have kp3:L8 (X.env::X.outer) [T'] h2 h3:=.of fun b o hb hc=>y4 b o hb hc
    have hTn:H1 T'=none:=J1.hok.fresh hT';have hTl:=nloc J2 g8 g9;have hTp:∀ p∈X.pn++pins,p.1≠T':=fun p hp z=>by
     have:=(J1.pin p hp).1;rw [z] at this;exact absurd (lt_size this) (not_lt.mpr hT')
    have hTs:∀ b∈[T'],b=T':=fun b hb=>mem_singleton.mp hb
    have J3:Inv X pins σ1 H1 { s1 with heap:=h3 }:=J2.call' (s':={ s1 with heap:=h3 }) (ch:=[T']) rfl (by rw [hstk.1];exact Gx kp3 fun b hb=>by rw [hTs b hb];exact hTn) (Jq J2.hok kp3 (fun b hb=>by rw [hTs b hb];exact hTn) hfree) J2.bare fun b hb=>by rw [hTs b hb];exact ⟨.inr (le_trans J1.sz hT'),hTl.1,hTl.2,hTp⟩
    obtain ⟨oe',ve',_,_,e1,e2,e3,e4,_⟩:=id tr3;have el:=nloc J3 e1 e4;have hv2:ve'[2]?=some .none:=(Prod.mk.inj e2).2;have efs:e∉X.fs:=fun z=>by
     obtain ⟨_,o,ho,hnf⟩:=y2.mem (show e∈(X.env::X.outer).filterMap (·.frame) from by
      rw [filterMap_cons,hstk.2];exact mem_cons_of_mem _ z)
     have ho:h3.get? e=some o:=ho;rw [e1] at ho;cases ho;exact hnf ve' e4
    have hs:∀ p∈X.pn++pins,p∈X.pn++pins++[(e,oe')]:=fun p hp=>mem_append_left _ hp
    have hm:(e,oe')∈X.pn++pins++[(e,oe')]:=mem_append_right _ (mem_singleton.mpr rfl);have J4:Inv (X.inR (X.pn++pins++[(e,oe')]) e) [] σ1 H1 { s1 with heap:=h3 } :=
     ⟨⟨J3.ok.mod,J3.ok.kind,J3.ok.glob,J3.ok.blt,J3.ok.above,J3.ok.inj,J3.ok.has,J3.ok.cab,(fun z=>nomatch z),J3.ok.frames,J3.ok.stk,J3.ok.exf,J3.ok.bs,J3.ok.bsz,J3.ok.noex,J3.ok.exfs,J3.ok.funs,J3.ok.frf⟩,J3.os,J3.bare,J3.base,J3.loc,J3.cell,J3.free,J3.freeC,fun p hp=>by
      rw [append_nil] at hp;rcases mem_append.mp hp with hp | hp
      ·exact J3.pin p hp
      ·rw [mem_singleton.mp hp]
       exact ⟨e1,x.un,el.1,efs,fun v z=>by rw [e4] at z;cases z⟩,J3.hok,J3.len⟩
    have fl2:E6 fr (X.inR (X.pn++pins++[(e,oe')]) e) B A1 H1 D (kf env'):=by
     have q2:=qf.step st1;cases ek:kf env' with
     | exc e' c' f' =>
      rw [ek] at q2;exact fun A' H' σ' s' k' pins2 s5 e5 C5 d5 I5 hc5 x5 hf5 hn5=>q2 A' H' σ' s' k' pins s5 e5 C5 d5 (I5.ofR I.ok hs) hc5 ⟨x5.lo,x5.un,x5.ob.imp id fun ⟨T,c2,a1,a2,a3,a4⟩=>⟨T,c2,a1,a2,fun p hp=>a3 p (mem_append_left _ (hs p hp)),a4⟩,fun p hp=>x5.pe p (mem_append_left _ (hs p hp))⟩ hf5 hn5
     | next e'=>rw [ek] at q2;exact q2.elim
     | brk e'=>rw [ek] at q2;exact q2.elim
     | cont e'=>rw [ek] at q2;exact q2.elim
     | ret d=>rw [ek] at q2;exact q2.elim
     | no=>rw [ek] at q2;exact q2.elim
    exact wpAny_mono (hh (X.pn++pins++[(e,oe')]) e (Z6i hstk hm e4 hv2) [] _ _ _ _ J4 ⟨_,B,A1,kv1,hst,fl2⟩) (fun f s6 hs6=>hs6.ofR I.ok hs) (fun ev s6 z=>hp e ev s6 z)
   -- behind the landing
   have after:∀ (h2:Heap) (T':Addr) (ch:List Addr),s1.heap.objs.size<=T'->X.base.StaysIn h2->h2.FunFrames X.base (X.env::X.outer)->G5 h2 X.base e T' (.ref C,some .none) dct .none->L8 (X.env::X.outer) ch s1.heap h2->(∀ b∈ch,H1 b=none/\X.s₀.heap.objs.size<=b/\b≠X.env.locals/\(∀ y c,X.env.cells.lookup y=some c->c≠b)/\∀ p∈X.pn++pins,p.1≠b) ->
     wpAny (model X.prog X.w) X.A (handleBy (.ref e) X.env HS) (SP X pins D) X.xe { s1 with heap:=h2 }:=by
    intro h2 T' ch hT' sb2 ff2 tr2 kp hch;have J2:Inv X pins σ1 H1 { s1 with heap:=h2 }:=J1.call' (s':={ s1 with heap:=h2 }) (ch:=ch) rfl (by rw [hstk.1];exact Gx kp fun b hb=>(hch b hb).1) (Jq J1.hok kp (fun b hb=>(hch b hb).1) hfree) J1.bare fun b hb=>⟨.inr (hch b hb).2.1,(hch b hb).2.2.1,(hch b hb).2.2.2.1,(hch b hb).2.2.2.2⟩
    obtain ⟨oe,ve,oT,ts,g1,g2,g3,g4,g5,g6,g7,g8,g9,g10⟩:=id tr2;have g2:=(Prod.mk.inj g2).1;have LT:Looks (model X.prog X.w) h2 (typeOf (.ref e)) (.ref C):=g2▸(Looks.ld g1).andThen .now;have e1:=x1 c C hkn hcl;have e2:=x2 c C hkn hcl;refine wpAny_handleBy_cons (codeAny_handlers_test (U9 (J2.toH (e:=e)) hg1 m1 ?_ hdb1)) (by intro z;cases z);by_cases z1:c=T1
    ·rw [decide_eq_true z1] at e1
     rw [if_pos z1] at q;exact (exm_one (M:=model X.prog X.w) J2.kIn LT e1).here (suite b1 su1 hp1 k1 h1 q h2 T' hT' sb2 ff2 tr2 J2)
    ·rw [decide_eq_false z1] at e1
     rw [if_neg z1] at q;refine (exm_one (M:=model X.prog X.w) J2.kIn LT e1).here ?_;show wpAny _ _ _ _ _ _;refine wpAny_handleBy_cons (codeAny_handlers_test (U9 (J2.toH (e:=e)) hg2 m2 ?_ hdb2)) (by intro z;cases z);by_cases z2:c=T2
     ·rw [decide_eq_true z2] at e2
      rw [if_pos z2] at q;exact (exm_one (M:=model X.prog X.w) J2.kIn LT e2).here (suite b2 su2 hp2 k2 h2' q h2 T' hT' sb2 ff2 tr2 J2)
     ·rw [if_neg z2] at q
      exact q.elim
   show wpAny _ _ _ _ _ _;rcases x.ob with ⟨o,vs,he,hc,hd,hda,hv1,hpl⟩ | ⟨T0,c2,hT,hTn,hTp,ht,hpl⟩
   ·have hv2:=hpl rfl
    refine Jg hfr hl hstk.2 he hkb hen hda hv1 fun h' T' x0 x1 x2 x3 x4 x5=>?_
    refine Hg (s:={ s1 with heap:=h' }) x1 x2 x3 fun h2 y1 y2 y3 y4 y5=>?_
    rw [hc,hd,hv2] at y3;refine after h2 T' [e] x0 y1 y2 y3 (Ma x4 x0 y4) fun b hb=>?_
    rw [mem_singleton.mp hb];have z:=nloc J1 he hda;exact ⟨x.un,x.lo,z.1,z.2,hpn x.pe⟩
   ·have hv2:=hpl rfl
    subst hv2;refine Z05 hfr hl hstk.2 ht hkb hen fun h' T' x0 x1 x2 x3 x4 x5=>?_
    refine Hg (s:={ s1 with heap:=h' }) x1 x2 x3 fun h2 y1 y2 y3 y4 y5=>?_
    refine after h2 T' [e,T0] x0 y1 y2 y3 (Ma x4 x0 y4) fun b hb=>?_
    obtain ⟨oe,ve,oT,ts,g1,g2,g3,g4,g5,g6,g7,g8,g9,g10⟩:=id ht;rcases mem_cons.mp hb with z | z
    ·rw [z];have w:=nloc J1 g1 g4;exact ⟨x.un,x.lo,w.1,w.2,hpn x.pe⟩
    ·rw [mem_singleton.mp z];have w:=nloc J1 g8 g9;exact ⟨hTn,hT,w.1,w.2,hpn hTp⟩
 refine wpAny_Try_except (wpAny_mono (hb (X.pn++pins) EX [] s σ H D I.toTry.pls ⟨env,B,A,kk,hst,flok⟩) (fun f s₁ hs=>?_) (fun e s₁ hx=>hx));cases f with
 | next=>obtain ⟨σ',H',I',q'⟩:=hs;exact wpAny_pure ⟨σ',H',I'.unpls.ofTry I.ok,q'⟩
 | brk=>obtain ⟨σ',H',I',q'⟩:=hs;exact ⟨σ',H',I'.unpls.ofTry I.ok,q'⟩
 | cont=>obtain ⟨σ',H',I',q'⟩:=hs;exact ⟨σ',H',I'.unpls.ofTry I.ok,q'⟩
 | ret u=>obtain ⟨v,σ',H',I',r',q'⟩:=hs;exact ⟨v,σ',H',I'.unpls.ofTry I.ok,r',q'⟩
end
theorem Z7x {P:Program} {w:World} {K:Frag} {mg:Str->Option Value} {base:Heap} {N:List Str} {qual:Str} {scope:Scope} {f:Addr} {cd:Value} {A:Around} {outer:List Env} {s:Shared} {H:Hp} {E:XK} (e:Addr) :
  PassesOwnAt (model P w) ((cxL P w K mg base N qual scope f cd A outer s H E).A.mark (some (.ref e))) (cxL P w K mg base N qual scope f cd A outer s H E).A (cxL P w K mg base N qual scope f cd A outer s H E).env (cxL P w K mg base N qual scope f cd A outer s H E).xe :=
 Z4b (X:=Qh (CXv P w base) P w K mg base N qual scope f cd A outer s H E) rfl ⟨rfl,rfl⟩
theorem Z0h {K:Frag} {mg:Str->Option Value} {raised:List Str} {T:Str} {D:Addr} (hm:mg T=some (.ref D)) (h:∀ c∈raised,∃ C,T4 K c C/\exmOne K (.ref C) (.ref D)=some (decide (c=T))):Z30 K mg T raised:=by
 refine ⟨D,hm,fun c C hc hb=>?_⟩;obtain ⟨C',h1,h2⟩:=h c hc;unfold T4 at hb h1;rw [hb] at h1;cases h1;exact h2
theorem RoomN.mark {k:Nat} {A:Around} {v:Option Value} (r:RoomN k A):RoomN k (A.mark v):=⟨r.dp,r.un,r.gd⟩
def Z5q (K:Frag) (mg:Str->Option Value) (T:Str) (known:List Str) (b:Str->Bool):Prop:=∃ D,mg T=some (.ref D)/\∀ c C,c∈known->T4 K c C->exmOne K (.ref C) (.ref D)=some (b c)
def K4 (known:List Str) (b1 b2:Str->Bool) (g k1 k2:Ev->Fl):Ev->Fl:=fun env=>match g env with
 | .exc env' c fl=>if c∈known then (if b1 c=true then k1 env' else if b2 c=true then k2 env' else .no) else .no
 | r=>r
section
variable {X:Cx} {fr:Bool} {g k1 k2:Ev->Fl} {body:List Stmt} {b1 b2:Stmt} {su1 su2:List Stmt} {T1 T2:Str} {np1 np2 hp1 hp2 pos:Pos} {known:List Str} {b1' b2':Str->Bool}
theorem Z6p (hp:∀ e,PassesOwnAt (model X.prog X.w) (X.A.mark (some (.ref e))) X.A X.env X.xe) (hb:∀ pn E,Nd fr (X.inTry pn E) body g)
  (h1:∀ pn e,Nd fr (X.inR pn e) (b1::su1) k1) (h2':∀ pn e,Nd fr (X.inR pn e) (b2::su2) k2) (c1:Z5q X.K X.mg T1 known b1') (c2:Z5q X.K X.mg T2 known b2')
  (hg1:Gl X T1:=by rfl) (hdb1:(T1==("__debug__" : Str))=false:=by decide) (hg2:Gl X T2:=by rfl) (hdb2:(T2==("__debug__" : Str))=false:=by decide)
  (hstk:X.stack=X.env::X.outer/\X.env.frame=some X.env.locals:=by exact ⟨rfl,rfl⟩) :
  Gc fr X (.Try body [.ExceptHandler (some (.Name T1 np1)) none (b1::su1) hp1,.ExceptHandler (some (.Name T2 np2)) none (b2::su2) hp2] [] [] pos) (K4 known b1' b2' g k1 k2):=by
 obtain ⟨D1,m1,x1⟩:=c1;obtain ⟨D2,m2,x2⟩:=c2;intro pins s σ H D I ⟨env,B,A,kk,hst,q⟩;let HS:List ExceptHandler:=[.ExceptHandler (some (.Name T1 np1)) none (b1::su1) hp1,.ExceptHandler (some (.Name T2 np2)) none (b2::su2) hp2]
 let EX:Value->Shared->Prop:=fun ev s₁=>wpAny (model X.prog X.w) X.A (noteFrame ev X.env) (fun _ s₂=>wpAny (model X.prog X.w) X.A (setFlight ev none) (fun _ s₃=>wpAny (model X.prog X.w) X.A (handleBy ev X.env HS) (SP X pins D) X.xe s₃) X.xe s₂) X.xe s₁
 have flok:E6 fr (X.inTry (X.pn++pins) EX) B A H D (g env):=by
  unfold K4 at q;cases eg:g env with
  | next e'=>rw [eg] at q;exact q
  | brk e'=>rw [eg] at q;exact q
  | cont e'=>rw [eg] at q;exact q
  | ret d=>rw [eg] at q;exact q
  | no=>rw [eg] at q;exact q
  | exc env' c fl =>
   rw [eg] at q;dsimp only at q;split at q
   case isFalse=>exact q.elim
   rename_i hkn;intro A1 H1 σ1 st1 kv1 pins' s1 e C dct I1 hcl x hf1 hnw1;have J1:Inv X pins σ1 H1 s1:=I1.ofTry I.ok;have hfr:X.A.frames=some (X.env::X.outer):=by rw [← hstk.1];exact J1.ok.frames
   have hl:s1.heap.FunFrames X.base (X.env::X.outer):=by rw [← hstk.1];exact J1.stack
   have hkb:X.base.StaysIn s1.heap:=J1.bk;have hen:X.base.get? e=none:=J1.noBase x.lo;have hfree:∀ b∈Sw (X.env::X.outer),H1 b=none:=by rw [← hstk.1];exact J1.stkFree
   have hpn:∀ {a:Addr},(∀ p∈(X.inTry (X.pn++pins) EX).pn++pins',p.1≠a)->∀ p∈X.pn++pins,p.1≠a:=fun {a} z p hp=>z p (mem_append_left _ hp)
   have nloc:∀ {s1:Shared} (J1:Inv X pins σ1 H1 s1) {a:Addr} {o:Obj} {vs:Array Value},s1.heap.get? a=some o->o.data=.fields vs->a≠X.env.locals/\∀ y c,X.env.cells.lookup y=some c->c≠a:=fun {s1} J1 {a o vs} ho hd=>by
    refine ⟨fun z=>?_,fun y c hc z=>?_⟩
    ·obtain ⟨m,⟨o',es,ep,ho',hd',_⟩,_⟩:=J1.loc
     rw [z,ho'] at ho;cases ho;rw [hd] at hd';cases hd'
    ·obtain ⟨v,o',ho',hd'⟩:=J1.cell y c hc
     rw [z,ho] at ho';cases ho';rw [hd] at hd';cases hd'
   -- a suite
   have suite:∀ (b₀:Stmt) (su:List Stmt) (hp':Pos) (kf:Ev->Fl) (hh:∀ pn e,Nd fr (X.inR pn e) (b₀::su) kf) (qf:E6 fr X B A H D (kf env')) (h2:Heap) (T':Addr) (c2:Option Value),s1.heap.objs.size<=T'->X.base.StaysIn h2->h2.FunFrames X.base (X.env::X.outer)->G5 h2 X.base e T' (.ref C,c2) dct .none->Inv X pins σ1 H1 { s1 with heap:=h2 } ->
     codeAny (model X.prog X.w) (X.A.mark (some (.ref e))) (.handlers (.ref e) [.ExceptHandler none none (b₀::su) hp'] X.env) (fun r s₂=>match r with
      | .ok f=>SP X pins D f s₂
      | .error x=>cameBackBy (model X.prog X.w) X.A X.env X.xe x s₂) { s1 with heap:=h2 }:=by
    intro b₀ su hp' kf hh qf h2 T' c2 hT' sb2 ff2 tr2 J2;obtain ⟨oe,ve,oT,ts,g1,g2,g3,g4,g5,g6,g7,g8,g9,g10⟩:=id tr2;refine codeAny_handlers_suite ?_;refine Hg (s:={ s1 with heap:=h2 }) sb2 ff2 tr2 fun h3 y1 y2 tr3 y4 y5=>?_
    have kp3:L8 (X.env::X.outer) [T'] h2 h3:=.of fun b o hb hc=>y4 b o hb hc
    have hTn:H1 T'=none:=J1.hok.fresh hT';have hTl:=nloc J2 g8 g9;have hTp:∀ p∈X.pn++pins,p.1≠T':=fun p hp z=>by
     have:=(J1.pin p hp).1;rw [z] at this;exact absurd (lt_size this) (not_lt.mpr hT')
    have hTs:∀ b∈[T'],b=T':=fun b hb=>mem_singleton.mp hb
    have J3:Inv X pins σ1 H1 { s1 with heap:=h3 }:=J2.call' (s':={ s1 with heap:=h3 }) (ch:=[T']) rfl (by rw [hstk.1];exact Gx kp3 fun b hb=>by rw [hTs b hb];exact hTn) (Jq J2.hok kp3 (fun b hb=>by rw [hTs b hb];exact hTn) hfree) J2.bare fun b hb=>by rw [hTs b hb];exact ⟨.inr (le_trans J1.sz hT'),hTl.1,hTl.2,hTp⟩
    obtain ⟨oe',ve',_,_,e1,e2,e3,e4,_⟩:=id tr3;have el:=nloc J3 e1 e4;have efs:e∉X.fs:=fun z=>by
     obtain ⟨_,o,ho,hnf⟩:=y2.mem (show e∈(X.env::X.outer).filterMap (·.frame) from by
      rw [filterMap_cons,hstk.2];exact mem_cons_of_mem _ z)
     have ho:h3.get? e=some o:=ho;rw [e1] at ho;cases ho;exact hnf ve' e4
    have hs:∀ p∈X.pn++pins,p∈X.pn++pins++[(e,oe')]:=fun p hp=>mem_append_left _ hp
    have J4:Inv (X.inR (X.pn++pins++[(e,oe')]) e) [] σ1 H1 { s1 with heap:=h3 } :=
     ⟨⟨J3.ok.mod,J3.ok.kind,J3.ok.glob,J3.ok.blt,J3.ok.above,J3.ok.inj,J3.ok.has,J3.ok.cab,(fun z=>nomatch z),J3.ok.frames,J3.ok.stk,J3.ok.exf,J3.ok.bs,J3.ok.bsz,J3.ok.noex,J3.ok.exfs,J3.ok.funs,J3.ok.frf⟩,J3.os,J3.bare,J3.base,J3.loc,J3.cell,J3.free,J3.freeC,fun p hp=>by
      rw [append_nil] at hp;rcases mem_append.mp hp with hp | hp
      ·exact J3.pin p hp
      ·rw [mem_singleton.mp hp]
       exact ⟨e1,x.un,el.1,efs,fun v z=>by rw [e4] at z;cases z⟩,J3.hok,J3.len⟩
    have fl2:E6 fr (X.inR (X.pn++pins++[(e,oe')]) e) B A1 H1 D (kf env'):=by
     have q2:=qf.step st1;cases ek:kf env' with
     | exc e' c' f' =>
      rw [ek] at q2;exact fun A' H' σ' s' k' pins2 s5 e5 C5 d5 I5 hc5 x5 hf5 hn5=>q2 A' H' σ' s' k' pins s5 e5 C5 d5 (I5.ofR I.ok hs) hc5 ⟨x5.lo,x5.un,x5.ob.imp id fun ⟨T,c2,a1,a2,a3,a4⟩=>⟨T,c2,a1,a2,fun p hp=>a3 p (mem_append_left _ (hs p hp)),a4⟩,fun p hp=>x5.pe p (mem_append_left _ (hs p hp))⟩ hf5 hn5
     | next e'=>rw [ek] at q2;exact q2
     | brk e'=>rw [ek] at q2;exact q2
     | cont e'=>rw [ek] at q2;exact q2
     | ret d=>rw [ek] at q2;exact q2
     | no=>rw [ek] at q2;exact q2
    exact wpAny_mono (hh (X.pn++pins++[(e,oe')]) e [] _ _ _ _ J4 ⟨_,B,A1,kv1,hst,fl2⟩) (fun f s6 hs6=>hs6.ofR I.ok hs) (fun ev s6 z=>hp e ev s6 z)
   -- behind the landing
   have after:∀ (h2:Heap) (T':Addr) (c2:Option Value) (ch:List Addr),s1.heap.objs.size<=T'->X.base.StaysIn h2->h2.FunFrames X.base (X.env::X.outer)->G5 h2 X.base e T' (.ref C,c2) dct .none->L8 (X.env::X.outer) ch s1.heap h2->(∀ b∈ch,H1 b=none/\X.s₀.heap.objs.size<=b/\b≠X.env.locals/\(∀ y c,X.env.cells.lookup y=some c->c≠b)/\∀ p∈X.pn++pins,p.1≠b) ->
     wpAny (model X.prog X.w) X.A (handleBy (.ref e) X.env HS) (SP X pins D) X.xe { s1 with heap:=h2 }:=by
    intro h2 T' c2 ch hT' sb2 ff2 tr2 kp hch;have J2:Inv X pins σ1 H1 { s1 with heap:=h2 }:=J1.call' (s':={ s1 with heap:=h2 }) (ch:=ch) rfl (by rw [hstk.1];exact Gx kp fun b hb=>(hch b hb).1) (Jq J1.hok kp (fun b hb=>(hch b hb).1) hfree) J1.bare fun b hb=>⟨.inr (hch b hb).2.1,(hch b hb).2.2.1,(hch b hb).2.2.2.1,(hch b hb).2.2.2.2⟩
    obtain ⟨oe,ve,oT,ts,g1,g2,g3,g4,g5,g6,g7,g8,g9,g10⟩:=id tr2;have g2:=(Prod.mk.inj g2).1;have LT:Looks (model X.prog X.w) h2 (typeOf (.ref e)) (.ref C):=g2▸(Looks.ld g1).andThen .now;have e1:=x1 c C hkn hcl;have e2:=x2 c C hkn hcl;refine wpAny_handleBy_cons (codeAny_handlers_test (U9 (J2.toH (e:=e)) hg1 m1 ?_ hdb1)) (by intro z;cases z);cases z1:b1' c with
    | true =>
     rw [z1] at e1;rw [if_pos z1] at q;exact (exm_one (M:=model X.prog X.w) J2.kIn LT e1).here (suite b1 su1 hp1 k1 h1 q h2 T' c2 hT' sb2 ff2 tr2 J2)
    | false =>
     rw [z1] at e1;rw [if_neg (by rw [z1];exact Bool.false_ne_true)] at q;refine (exm_one (M:=model X.prog X.w) J2.kIn LT e1).here ?_;show wpAny _ _ _ _ _ _;refine wpAny_handleBy_cons (codeAny_handlers_test (U9 (J2.toH (e:=e)) hg2 m2 ?_ hdb2)) (by intro z;cases z);cases z2:b2' c with
     | true =>
      rw [z2] at e2;rw [if_pos z2] at q;exact (exm_one (M:=model X.prog X.w) J2.kIn LT e2).here (suite b2 su2 hp2 k2 h2' q h2 T' c2 hT' sb2 ff2 tr2 J2)
     | false =>
      rw [if_neg (by rw [z2];exact Bool.false_ne_true)] at q;exact q.elim
   show wpAny _ _ _ _ _ _;rcases x.ob with ⟨o,vs,he,hc,hd,hda,hv1,hpl⟩ | ⟨T0,c2,hT,hTn,hTp,ht,hpl⟩
   ·refine Jg hfr hl hstk.2 he hkb hen hda hv1 fun h' T' x0 x1 x2 x3 x4 x5=>?_
    refine Hg (s:={ s1 with heap:=h' }) x1 x2 x3 fun h2 y1 y2 y3 y4 y5=>?_
    rw [hc,hd] at y3;refine after h2 T' _ [e] x0 y1 y2 y3 (Ma x4 x0 y4) fun b hb=>?_
    rw [mem_singleton.mp hb];have z:=nloc J1 he hda;exact ⟨x.un,x.lo,z.1,z.2,hpn x.pe⟩
   ·refine Z05 hfr hl hstk.2 ht hkb hen fun h' T' x0 x1 x2 x3 x4 x5=>?_
    refine Hg (s:={ s1 with heap:=h' }) x1 x2 x3 fun h2 y1 y2 y3 y4 y5=>?_
    refine after h2 T' _ [e,T0] x0 y1 y2 y3 (Ma x4 x0 y4) fun b hb=>?_
    obtain ⟨oe,ve,oT,ts,g1,g2,g3,g4,g5,g6,g7,g8,g9,g10⟩:=id ht;rcases mem_cons.mp hb with z | z
    ·rw [z];have w:=nloc J1 g1 g4;exact ⟨x.un,x.lo,w.1,w.2,hpn x.pe⟩
    ·rw [mem_singleton.mp z];have w:=nloc J1 g8 g9;exact ⟨hTn,hT,w.1,w.2,hpn hTp⟩
 refine wpAny_Try_except (wpAny_mono (hb (X.pn++pins) EX [] s σ H D I.toTry ⟨env,B,A,kk,hst,flok⟩) (fun f s₁ hs=>?_) (fun e s₁ hx=>hx));cases f with
 | next=>obtain ⟨σ',H',I',q'⟩:=hs;exact wpAny_pure ⟨σ',H',I'.ofTry I.ok,q'⟩
 | brk=>obtain ⟨σ',H',I',q'⟩:=hs;exact ⟨σ',H',I'.ofTry I.ok,q'⟩
 | cont=>obtain ⟨σ',H',I',q'⟩:=hs;exact ⟨σ',H',I'.ofTry I.ok,q'⟩
 | ret u=>obtain ⟨v,σ',H',I',r',q'⟩:=hs;exact ⟨v,σ',H',I'.ofTry I.ok,r',q'⟩
end
theorem Ck {K:Frag} {mg:Str->Option Value} {raised:List Str} {T:Str} {D:Addr} {b:Str->Bool} (hm:mg T=some (.ref D)) (h:∀ c∈raised,∃ C,T4 K c C/\exmOne K (.ref C) (.ref D)=some (b c)):Z5q K mg T raised b:=by
 refine ⟨D,hm,fun c C hc hb=>?_⟩;obtain ⟨C',h1,h2⟩:=h c hc;unfold T4 at hb h1;rw [hb] at h1;cases h1;exact h2
def Z0m (i j:Int):Prop:=0<j/\j<18446744073709551616
instance (i j:Int):Decidable (Z0m i j):=by unfold Z0m;infer_instance
theorem Z5m {X:Cx}:Rf X (binaryOp .FloorDiv) (rI Z0m fun i j=>.int (i / j)):=opI fun i j _ _ _ _ _ hc q=>by
 have h1:(0:Int)<j:=hc.1;have h2:j<18446744073709551616:=hc.2;refine floordiv_int (by lia) (by rw [Int.fdiv_eq_ediv_of_nonneg i (by lia)];exact q) (.inl (PyProof.noPylong_of_log2 ?_));have h0:j.natAbs≠0:=by lia
 have:j.natAbs.log2<64:=(Nat.log2_lt h0).mpr (by lia);lia
def Z02:=Iv Z0m fun i j=>.int (i / j)
theorem Z6g {X:Cx}:Mh X (binaryOp .FloorDiv) Z02:=Ba Z5m fun _ _ _ _=>W4
end L2
namespace L2
open PySem PySem.Spec PyProof.Rows
def Wz:=@Z2w false
def Zn:=@xix true
def Z3:=@xv true
def Z1:=@Zee true
def Me:=@Zdv true
def Z7:=@xv false
def Yd:=@xix false
def Wo:=@Zee false
def Zg:=@xop false
def Za:=@xop true
def Zr {X:Cx}:=@Zdj X false
def W2 {X:Cx}:=@Zdj X true
def Ri:=@PNd.x false
def Zq:=@Zdf false
def Y1:=@Z32 true
def Y7:=@PNd.x true
def J9:=@Zdf true
def Us:=@xbl false
def Ue:=@Z32 false
def Yo:=@Zdv false
def Ud:=@Pf true
end L2
namespace K34
open PySem PySem.Spec PyProof.Rows L2
abbrev N0_:List Str:=["_law_script","_law_first","_law_n","_law_many","_law_order_here","_law_size","_law_cell","_law_pairs","_law_w","_law_one","_law_two","_law_takes","_law_fills","_law_marks","_law_spots","_law_i","_law_j","_law_code","_law_seen","_law_steps","_law_d","_law_turn","_law_word_here","_law_wires"]
abbrev N1_:List Str:=["_law_cell","_law_n","_law_kinds","_law_code","_law_size","_law_low","_law_marks","_law_many","_law_word_here","_law_steps","_law_k","_law_takes","_law_fills","_law_some_here","_law_more","_law_wires"]
abbrev N2_:List Str:=["_law_graph_here","_law_cell","_law_wires","_law_steps","_law_marks","_law_code","_law_there","_law_step","_law_spot","_law_some_here","_law_k","_law_wire","_law_up","_law_takes","_law_fills"]
abbrev N3_:List Str:=["_law_script","_law_first","_law_cell","_law_base","_law_code","_law_steps","_law_wires","_law_k","_law_more","_law_x","_law_up","_law_spot","_law_turn"]
abbrev N4_:List Str:=["_law_script","_law_cell","_law_free","_law_graph_here","_law_told","_law_stand","_law_turn","_law_some_here","_law_k","_law_new"]
abbrev N5_:List Str:=["_law_script","_law_first","_law_many","_law_size","_law_pairs","_law_k","_law_cell","_law_i","_law_j"]
abbrev N6_:List Str:=["_law_cell","_law_k","_law_letters","_law_size","_law_at","_law_word_here","_law_j","_law_shift"]
abbrev N7_:List Str:=["_law_script","_law_first","_law_n","_law_order_here","_law_w","_law_cell","_law_at","_law_far"]
abbrev N8_:List Str:=["_law_graph_here","_law_stand","_law_new","_law_moved","_law_wire","_law_one","_law_two"]
abbrev N9_:List Str:=["_law_graph_here","_law_stand","_law_some_here","_law_wire","_law_own"]
abbrev N10_:List Str:=["graph","most","found","pairs","n","stand","here","by","lost"]
abbrev N11_:List Str:=["_law_step","_law_stand","_law_marks","_law_code","_law_spot"]
abbrev N12_:List Str:=["graph","most","found","seen","at","here","step","stand"]
abbrev N13_:List Str:=["_law_graph_here","_law_stand","_law_new","_law_moved"]
abbrev N14_:List Str:=["_law_w","_law_word_here","_law_script","_law_first"]
abbrev N15_:List Str:=["_law_script","_law_first","_law_many","_law_size"]
abbrev N16_:List Str:=["_law_script","_law_first","_law_n","_law_many"]
abbrev N17_:List Str:=["graph","stand","step","wire","left","fills"]
abbrev N18_:List Str:=["Broken","Crowded","TooMany","CalledOff"]
abbrev N19_:List Str:=["_law_k","_law_stand","_law_graph_here"]
abbrev N20_:List Str:=["_law_w","_law_word_here","_law_kinds"]
abbrev N21_:List Str:=["_law_k","_law_wire","_law_graph_here"]
abbrev N22_:List Str:=["_law_script","_law_first","_law_n"]
abbrev N23_:List Str:=["_law_pair","_law_one","_law_two"]
abbrev N24_:List Str:=["_law_p","_law_low","_law_takes"]
abbrev N25_:List Str:=["_law_p","_law_low","_law_fills"]
abbrev N26_:List Str:=["_law_graph_here","_law_stand"]
abbrev N27_:List Str:=["_law_graph_here","_law_cell"]
abbrev N28_:List Str:=["graph","found","at","step"]
abbrev N29_:List Str:=["graph","stand","wire","up"]
abbrev N30_:List Str:=["number","step","wire","up"]
abbrev N31_:List Str:=["_law_script","_law_first"]
abbrev N32_:List Str:=["_law_step","_law_marks"]
abbrev N33_:List Str:=["_law_step","_law_stand"]
abbrev N34_:List Str:=["self","way","lost","by"]
abbrev N35_:List Str:=["_law_spot","_law_marks"]
abbrev N36_:List Str:=["graph","stand","step"]
abbrev N37_:List Str:=["graph","stand","wire"]
abbrev N38_:List Str:=["_law_script","_law_k"]
abbrev N39_:List Str:=["step","graph","stand"]
abbrev N40_:List Str:=["_law_k","_law_pairs"]
abbrev N41_:List Str:=["_law_p","_law_there"]
abbrev N42_:List Str:=["_law_cell","_law_k"]
abbrev N43_:List Str:=["graph","wire","up"]
abbrev N44_:List Str:=["graph","by","lost"]
abbrev N45_:List Str:=["_law_graph_here"]
abbrev N46_:List Str:=["number","place"]
abbrev N47_:List Str:=["graph","stand"]
abbrev N48_:List Str:=["graph","wire"]
abbrev N49_:List Str:=["graph","step"]
abbrev N50_:List Str:=["graph","most"]
abbrev N51_:List Str:=["_law_script"]
abbrev N52_:List Str:=["self","way"]
def Qu:Ev->Fl:=(Wi (dO Q8 (dO W7 (dO W7 (dO W7 (dV 0) (dC (.int 0))) (dV 1)) (dC (.int 1))) (dC (.str "made"))))
def M9:List Dat->Rs:=Wa 2 2 Qu
def Tp:Ev->Fl:=(Wi (dL (Tc (Ld (dO W7 (dV 0) (dC (.int 1)))) [none,none,some 1,some 2] (Kw 2 (Wh (Yh 0) (Wh (Yh 1) Rv))) (J5 (dB (dO Q8 (dO W7 (dV 1) (dC (.int 0))) (dV 2))) (dB (dO Q8 (dO W7 (dV 1) (dC (.int 1))) (dV 3)))) (dV 0))))
def Mw:List Dat->Rs:=Wa 3 3 Tp
def Qw:Ev->Fl:=(Wi (dO W7 (dO W7 (dO W7 (dV 0) (dC (.int 1))) (dV 1)) (dC (.int 0))))
def Ts:List Dat->Rs:=Wa 2 2 Qw
def Qx:Ev->Fl:=(Wi (dO W7 (dO W7 (dO W7 (dV 0) (dC (.int 1))) (dV 1)) (dC (.int 1))))
def Sm:List Dat->Rs:=Wa 2 2 Qx
def Tf:Ev->Fl:=(Wi (dO W7 (dO W7 (dO W7 (dV 0) (dC (.int 1))) (dV 1)) (dC (.int 2))))
def Vd:List Dat->Rs:=Wa 2 2 Tf
def To:Ev->Fl:=(Wi (dO W7 (dO W7 (dO W7 (dV 0) (dC (.int 1))) (dV 1)) (dC (.int 3))))
def Te:List Dat->Rs:=Wa 2 2 To
def Gv:Ev->Fl:=(Ze (Zu 1 (dC (.int 0)))
 (Ze (T8 (Tv (dV 0)) (Yh 2) (Zu 1 (dO orD (dV 1) (dO Qz (dC (.int 1)) (dV 2)))))
 (Wi (dV 1))))
def J7:List Dat->Rs:=Wa 3 1 Gv
def Qt:Ev->Fl:=(Wi (dO Q8 (dO T6 (dO M1 (dV 0) (dV 1)) (dC (.int 1))) (dC (.int 1))))
def Sl:List Dat->Rs:=Wa 2 2 Qt
def O7:Ev->Fl:=(Ze (Zu 3 (Yf J7 (Z2 (Yf Vd (Z2 (dV 0) (Z2 (dV 2) Zc))) Zc)))
 (Wi (dO Q8 (dO T6 (dO W7 (dV 1) (dC (.int 0))) (dV 3)) (dV 3))))
def Hm:List Dat->Rs:=Wa 4 3 O7
def Uw:Ev->Fl:=(Ze (Zu 3 (Yf Ts (Z2 (dV 0) (Z2 (dV 2) Zc))))
 (Ze (Rc (dB (dO Q8 (Yf Sl (Z2 (dO W7 (dV 1) (dC (.int 1))) (Z2 (dV 3) Zc))) (Yf Sm (Z2 (dV 0) (Z2 (dV 2) Zc))))) (U1 "Broken" (gW "way") (Z2 (dL (U3 (Z2 (dV 2) Zc))) Zc)) Tz)
 (Ze (Zu 4 (dO T6 (dO W7 (dV 1) (dC (.int 0))) (dU Z6f (Yf J7 (Z2 (Yf Vd (Z2 (dV 0) (Z2 (dV 2) Zc))) Zc)))))
 (Ze (Zu 5 (Yf J7 (Z2 (Yf Te (Z2 (dV 0) (Z2 (dV 2) Zc))) Zc)))
 (Ze (Rc (dB (dO Ec (dO T6 (dV 4) (dV 5)) (dC (.int 0)))) (U1 "Crowded" (gW "way") (Z2 (dL (U3 (Z2 (dV 2) Zc))) Zc)) Tz)
 (Wi (Ys (Z2 (dO orD (dV 4) (dV 5)) (Z2 (dO Z64 (dO W7 (dV 1) (dC (.int 1))) (dO Qz (dC (.int 1)) (dV 3))) Zc)))))))))
def Rg:List Dat->Rs:=Wa 6 3 Uw
def Tn:Ev->Fl:=(Wi (dL (Tc (Vx (Z2 (dF Ti (Z2 (dO W7 (dV 0) (dC (.int 1))) Zc)) Zc)) [none,some 0,some 1] (Yh 0) (dT (Yf Hm (Z2 (dV 1) (Z2 (dV 2) (Z2 (dV 0) Zc))))) (dV 0))))
def Tk:List Dat->Rs:=Wa 2 2 Tn
def Oi:Ev->Fl:=(Ze (Er 2 (U3 Zc))
 (Ze (Zu 3 (dV 1))
 (Ze (Rk (dB (dO Zaf (dO W7 (dO W7 (dV 0) (dV 3)) (dC (.int 2))) (dC .non))) (Ze (J8 2 Wu (Z2 (dO W7 (dO W7 (dV 0) (dV 3)) (dC (.int 3))) Zc))
 (Zu 3 (dO W7 (dO W7 (dV 0) (dV 3)) (dC (.int 2))))))
 (Wi (dL (dLR (Z2 (dP 2) Zc)))))))
def E7:List Dat->Rs:=Wa 4 2 Oi
def Th:Ev->Fl:=(Fz N18_ "Broken" "Crowded" (Xz Rg (Z2 (dV 0) (Z2 (dS Xf (dO W7 (dV 1) (dV 2)) Rx (U0 (dC (.int 2)))) (Z2 (dV 3) Zc)))) (U1 "Broken" (gW "way") (Z2 (dL (dO Ke (Yf E7 (Z2 (dV 1) (Z2 (dV 2) Zc))) (dL (U3 (Z2 (dV 3) Zc))))) Zc)) (U1 "Crowded" (gW "way") (Z2 (dL (dO Ke (Yf E7 (Z2 (dV 1) (Z2 (dV 2) Zc))) (dL (U3 (Z2 (dV 3) Zc))))) Zc)))
def M8:List Dat->Rs:=Wa 4 4 Th
def M5:Ev->Fl:=(Ze (Er 2 (U3 (Z2 (Ys (Z2 (dO W7 (dV 0) (dC (.int 2))) (Z2 (dO W7 (dV 0) (dC (.int 3))) (Z2 (dC .non) (Z2 (dC .non) Zc))))) Zc)))
 (Ze (Xp 3 (Ys (Z2 (dO W7 (dV 0) (dC (.int 2))) (Z2 (dO W7 (dV 0) (dC (.int 3))) Zc))) (dC (.bl true)))
 (Ze (Zu 4 (dC (.int 0)))
 (Ze (Rk (dB (dO ltD (dV 4) (dF Ti (Z2 (dP 2) Zc)))) (Ze (Zu 5 (Yf Tk (Z2 (dV 0) (Z2 (dS Xf (dO W7 (dP 2) (dV 4)) Rx (U0 (dC (.int 2)))) Zc))))
 (Ze (T8 (Tv (dV 5)) (Yh 6) (Ze (Hx 7 (Eb M8) (Z2 (dV 0) (Z2 (dP 2) (Z2 (dV 4) (Z2 (dV 6) Zc)))))
 (Ze (Rc (dB (Z4x false 3 (dV 7))) (fun env=>.cont env) Tz)
 (Ze (Rc (dB (dO geD (dF Ti (Z2 (dP 2) Zc)) (dV 1))) (U1 "TooMany" gZ Zc) Tz)
 (Ze (Kn 3 (dV 7) (dC (.bl true)))
 (J8 2 Wu (Z2 (Ys (Z2 (dO W7 (dV 7) (dC (.int 0))) (Z2 (dO W7 (dV 7) (dC (.int 1))) (Z2 (dV 4) (Z2 (dV 6) Zc))))) Zc)))))))
 (Z5t 4 (dC (.int 1))))))
 (H9 2)))))
def Jb:List Dat->Rs:=Wa 8 2 M5
def Uo:Ev->Fl:=(Wi (dF Z10 (Z2 (dL (Tc (Tv (Yf Mw (Z2 (dV 0) (Z2 (dV 2) (Z2 (dV 3) Zc))))) [none,some 0,some 1] (Yh 0) Jo (Yf Hm (Z2 (dV 1) (Z2 (dV 2) (Z2 (dV 0) Zc)))))) Zc)))
def Q9:List Dat->Rs:=Wa 4 4 Uo
def Sb:Ev->Fl:=(Ze (Rc (dT (Yf Q9 (Z2 (dV 0) (Z2 (dV 1) (Z2 (dV 2) (Z2 (dC (.bl true)) Zc)))))) (Wi (dC (.int 1))) Tz)
 (Ze (Rc (dT (Yf Q9 (Z2 (dV 0) (Z2 (dV 1) (Z2 (dV 2) (Z2 (dC (.bl false)) Zc)))))) (Wi (dU Zas (dC (.int 1)))) Tz)
 (Wi (dC (.int 0)))))
def Mz:List Dat->Rs:=Wa 3 3 Sb
def Ga:Ev->Fl:=(Ze (Zu 3 (dO T6 (Yf J7 (Z2 (Yf Vd (Z2 (dV 0) (Z2 (dV 1) Zc))) Zc)) (dU Z6f (Yf J7 (Z2 (Yf Te (Z2 (dV 0) (Z2 (dV 1) Zc))) Zc)))))
 (Wi (dO Ec (dO T6 (dV 3) (Yf J7 (Z2 (Yf Vd (Z2 (dV 0) (Z2 (dV 2) Zc))) Zc))) (dC (.int 0)))))
def Ou:List Dat->Rs:=Wa 4 3 Ga
def V3:Ev->Fl:=(Wi (dOr (Yf M9 (Z2 (dV 0) (Z2 (Yf Ts (Z2 (dV 0) (Z2 (dV 1) Zc))) Zc))) (Yf M9 (Z2 (dV 0) (Z2 (Yf Ts (Z2 (dV 0) (Z2 (dV 2) Zc))) Zc)))))
def Ut:List Dat->Rs:=Wa 3 3 V3
def M6:Ev->Fl:=(Ze (Er 1 (U3 Zc))
 (Ze (T8 (Vx (Z2 (dF Ti (Z2 (dO W7 (dV 0) (dC (.int 1))) Zc)) Zc)) (Yh 2) (T8 (Vx (Z2 (dF Ti (Z2 (dO W7 (dV 0) (dC (.int 1))) Zc)) Zc)) (Yh 3) (Rc (J5 (dB (dO Ec (dV 2) (dV 3))) (J5 (dT (Yf Ut (Z2 (dV 0) (Z2 (dV 2) (Z2 (dV 3) Zc))))) (dT (Yf Ou (Z2 (dV 0) (Z2 (dV 2) (Z2 (dV 3) Zc))))))) (J8 1 Wu (Z2 (Ys (Z2 (dV 2) (Z2 (dV 3) Zc))) Zc)) Tz)))
 (H9 1)))
def Ez:List Dat->Rs:=Wa 4 1 M6
def Jt:Ev->Fl:=(Ze (Hx 2 Jb (Z2 (dV 0) (Z2 (dV 1) Zc)))
 (Ze (Zu 3 (Yf Ez (Z2 (dV 0) Zc)))
 (Ze (T8 (Ld (dV 2)) (Kw 2 (Wh (Yh 4) (Wh (Yh 5) Rv))) (Ze (Zu 6 (Yf Tk (Z2 (dV 0) (Z2 (dS Xf (dV 5) Rx (U0 (dC (.int 2)))) Zc))))
 (T8 (Tv (dV 3)) (Kw 2 (Wh (Yh 7) (Wh (Yh 8) Rv))) (Rc (J5 (dB (dO inF (dV 7) (dV 6))) (dB (dO inF (dV 8) (dV 6)))) (U1 "CalledOff" (gC "way" "lost" "by") (Z2 (Yf E7 (Z2 (dV 2) (Z2 (dV 4) Zc))) (Z2 (dV 8) (Z2 (dV 7) Zc)))) Tz))))
 (Wi (dV 2)))))
def Q4:List Dat->Rs:=Wa 9 2 Jt
def Q0:Ev->Fl:=(Ze (Zu 2 (dO Yi (dO Rb (dC (.int 7919)) (dV 1)) (dC (.int 12345))))
 (Ze (Rc (dB (dO ltD (dV 1) (dF Ti (Z2 (dV 0) Zc)))) (Zu 2 (dO Yi (dV 2) (dO Rb (dO W7 (dV 0) (dV 1)) (dC (.int 6364136223846793005))))) Tz)
 (Wi (dO Wg (dO Rb (dV 2) (dC (.int 48271))) (dC (.int 1000000000039))))))
def Yk:List Dat->Rs:=Wa 3 2 Q0
def Uf:Ev->Fl:=(Ze (Zu 2 (dC (.str "abcdefghijklmnopqrstuvwxyz")))
 (Ze (Zu 3 (dO Yi (dC (.int 2)) (dO Wg (dV 0) (dC (.int 7)))))
 (Ze (Zu 4 (dO Wg (dO Yt (dV 0) (dC (.int 7))) (dV 3)))
 (Ze (Zu 5 (dC (.str "")))
 (Ze (T8 (Vx (Z2 (dV 3) Zc)) (Yh 6) (Ze (Zu 7 (dC (.int 0)))
 (Ze (Rc (dB (dO Q8 (dV 6) (dV 4))) (Zu 7 (dV 1)) Tz)
 (Zu 5 (dO Yi (dV 5) (dO W7 (dV 2) (dO Wg (dO Yi (dO Yi (dO Yt (dV 0) (dC (.int 49))) (dO Rb (dC (.int 5)) (dV 6))) (dO Rb (dC (.int 7)) (dV 7))) (dC (.int 26)))))))))
 (Ze (Rc (dB (dO inF (dV 5) (dL (U3 (Z2 (dC (.str "given")) (Z2 (dC (.str "made")) (Z2 (dC (.str "up")) (Z2 (dC (.str "down")) (Z2 (dC (.str "start")) Zc))))))))) (Zu 5 (dO Yi (dS Xf (dV 5) (U0 (dC (.int 1))) Rx) (dC (.str "q")))) Tz)
 (Wi (dV 5))))))))
def Wb:List Dat->Rs:=Wa 8 2 Uf
def Vv:Ev->Fl:=(Ze (Er 3 (U3 Zc))
 (Ze (T8 (Vx (Z2 (dV 2) Zc)) (Yh 4) (Ze (Zu 5 (Yf Yk (Z2 (dV 0) (Z2 (dO Yi (dV 1) (dV 4)) Zc))))
 (Ze (Zu 6 (dO Wg (dV 5) (dO Yi (dF Ti (Z2 (dP 3) Zc)) (dC (.int 1)))))
 (Ze (J8 3 Ee (Z2 (dV 6) (Z2 (dV 4) Zc)))
 (Ze (Zu 7 (dO Wg (dO Yt (dV 5) (dC (.int 64))) (dO N8 (dF Ti (Z2 (dP 3) Zc)) (dV 6))))
 (J8 3 Ee (Z2 (dO Yi (dO Yi (dV 6) (dC (.int 1))) (dV 7)) (Z2 (dV 4) Zc))))))))
 (H9 3)))
def Qp:List Dat->Rs:=Wa 8 3 Vv
def Vh:Ev->Fl:=(Ze (Er 4 (U3 Zc))
 (Ze (T8 (Vx (Z2 (dV 2) Zc)) (Yh 5) (Ze (Zu 6 (Yf Yk (Z2 (dV 0) (Z2 (dO Yi (dV 1) (dV 5)) Zc))))
 (Ze (Zu 7 (dO Wg (dV 6) (dV 3)))
 (Ze (Zu 8 (dO Wg (dO Yt (dV 6) (dC (.int 64))) (dV 3)))
 (Rc (J5 (dB (dO Ec (dV 7) (dV 8))) (dB (dO B9 (Ys (Z2 (dF Ox (Z2 (dV 7) (Z2 (dV 8) Zc))) (Z2 (dF Fb (Z2 (dV 7) (Z2 (dV 8) Zc))) Zc))) (dP 4)))) (J8 4 Wu (Z2 (Ys (Z2 (dF Ox (Z2 (dV 7) (Z2 (dV 8) Zc))) (Z2 (dF Fb (Z2 (dV 7) (Z2 (dV 8) Zc))) Zc))) Zc)) Tz)))))
 (H9 4)))
def Q2:List Dat->Rs:=Wa 9 4 Vh
def Vs:Ev->Fl:=(Ze (Zu 4 (Yf Qp (Z2 (dV 0) (Z2 (dV 1) (Z2 (dV 2) Zc)))))
 (Ze (Zu 5 (dO Rb (dC (.int 2)) (dV 2)))
 (Ze (Zu 6 (Yf Yk (Z2 (dV 0) (Z2 (dO Yi (dV 1) (dV 2)) Zc))))
 (Ze (Zu 7 (Yf Q2 (Z2 (dV 0) (Z2 (dO Yi (dO Yi (dV 1) (dV 2)) (dC (.int 1))) (Z2 (dV 3) (Z2 (dV 5) Zc))))))
 (Ze (Rc (dB (dO Q8 (dO Wg (dV 6) (dC (.int 3))) (dC (.int 0)))) (Zu 7 (dO Yi (dV 7) (dL (Tc (Vx (Z2 (dO N8 (dV 5) (dC (.int 1))) Zc)) [none,some 7] (Yh 0) (dB (dO B9 (Ys (Z2 (dV 0) (Z2 (dO Yi (dV 0) (dC (.int 1))) Zc))) (dV 1))) (Ys (Z2 (dV 0) (Z2 (dO Yi (dV 0) (dC (.int 1))) Zc))))))) Tz)
 (Ze (T8 (Vx (Z2 (dV 2) Zc)) (Yh 8) (Ze (Zu 9 (dM "list" Lr (dV 4) (Z2 (dV 8) Zc)))
 (Ze (Zu 10 (dO Yi (dO Yi (dV 9) (dC (.int 1))) (dM "list" Lr (dS Xf (dV 4) (U0 (dO Yi (dV 9) (dC (.int 1)))) Rx) (Z2 (dV 8) Zc))))
 (Zu 7 (dO Yi (dL (Tc (Tv (dV 7)) [none,some 9,some 10] (Yh 0) (dB (dO Ec (dV 0) (Ys (Z2 (dV 1) (Z2 (dV 2) Zc))))) (dV 0))) (dL (U3 (Z2 (Ys (Z2 (dV 9) (Z2 (dV 10) Zc))) Zc))))))))
 (Ze (No 11 (Tv (dV 4)) [none] (Yh 0))
 (Ze (No 12 (Tv (dV 4)) [none] (Yh 0))
 (Ze (Zu 13 (dC (.int 0)))
 (Ze (Zu 14 (dO Wg (dO Yt (dV 6) (dC (.int 3))) (dC (.int 20))))
 (Ze (T8 (Tv (dV 7)) (Kw 2 (Wh (Yh 15) (Wh (Yh 16) Rv))) (Ze (Ha 12 (dV 15) (Z2 (dV 14) Zc))
 (Ze (Ha 11 (dV 16) (Z2 (dV 14) Zc))
 (Ze (Ha 12 (dV 16) (Z2 (dO Yi (dV 14) (dC (.int 1))) Zc))
 (Ze (Ha 11 (dV 15) (Z2 (dO Yi (dV 14) (dC (.int 1))) Zc))
 (Ze (Zu 13 (dO orD (dV 13) (dO Qz (dC (.int 1)) (dO Yi (dV 14) (dC (.int 1))))))
 (Zu 14 (dO Yi (dV 14) (dC (.int 2))))))))))
 (Ze (Zu 17 (dO Wg (dO Yt (dV 6) (dC (.int 60))) (dO Qz (dC (.int 1)) (dV 2))))
 (Ze (Zu 18 (dV 17))
 (Ze (Er 19 (U3 Zc))
 (Ze (T8 (Ld (dV 4)) (Kw 2 (Wh (Yh 20) (Wh (Yh 8) Rv))) (Ze (J8 19 Wu (Z2 (Ys (Z2 (dV 8) (Z2 (dO Q8 (dO T6 (dO M1 (dV 18) (dV 8)) (dC (.int 1))) (dC (.int 0))) (Z2 (dF tupleD (Z2 (dL (dF Jm (Z2 (Z2g 11 (dV 20)) Zc))) Zc)) (Z2 (dF tupleD (Z2 (dL (dF Jm (Z2 (Z2g 12 (dV 20)) Zc))) Zc)) Zc))))) Zc))
 (Zu 18 (dO Z64 (dV 18) (dO Qz (dC (.int 1)) (dV 8))))))
 (Ze (Zu 21 (dO Wg (dO Yt (dV 6) (dC (.int 2000))) (dV 5)))
 (Ze (Er 19 (dO Ke (dS Xf (dP 19) (U0 (dV 21)) Rx) (dS Xf (dP 19) Rx (U0 (dV 21)))))
 (Ze (Zu 22 (dO Yt (dV 6) (dC (.int 40000))))
 (Ze (Zu 23 (dL (Tc (Vx (Z2 (dV 2) Zc)) [none,some 22,some 0,some 1] (Yh 0) Jo (Ys (Z2 (Yf Wb (Z2 (dV 1) (Z2 (dV 0) Zc))) (Z2 (dO W7 (dL (U3 (Z2 (dC (.str "given")) (Z2 (dC (.str "made")) Zc)))) (dO Wg (dO Yt (Yf Yk (Z2 (dV 2) (Z2 (dO Yi (dV 3) (dV 0)) Zc))) (dC (.int 4096))) (dC (.int 2)))) Zc))))))
 (Wi (Ys (Z2 (dF tupleD (Z2 (dV 23) Zc)) (Z2 (dF tupleD (Z2 (dP 19) Zc)) (Z2 (dV 13) (Z2 (dV 17) Zc)))))))))))))))))))))))))
def Qs:List Dat->Rs:=Wa 24 4 Vs
def Vi:Ev->Fl:=(Ze (Zu 2 (Yf Yk (Z2 (dV 0) (Z2 (dV 1) Zc))))
 (Ze (Zu 3 (dO Wg (dO Yt (dV 2) (dC (.int 4))) (dC (.int 20))))
 (Ze (Zu 4 (dO Wg (dO Yt (dV 2) (dC (.int 80))) (dC (.int 32))))
 (Ze (Zu 5 (dL (U3 Zc)))
 (Ze (Er 6 (U3 (Z2 (Ys (Z2 (Yf Wb (Z2 (dO Yt (dV 2) (dC (.int 2560))) (Z2 (dC (.int 0)) Zc))) (Z2 (dC (.str "made")) Zc))) Zc)))
 (Ze (T8 (Vx (Z2 (dO Yi (dC (.int 1)) (dO Wg (dV 2) (dC (.int 4)))) Zc)) (Yh 7) (Ze (Zu 8 (Yf Yk (Z2 (dV 0) (Z2 (dO Yi (dO Yi (dV 1) (dC (.int 1))) (dV 7)) Zc))))
 (Ze (Zu 9 (dO Yi (dC (.int 1)) (dO Rb (dV 7) (dO Wg (dO Yt (dV 2) (dC (.int 40))) (dC (.int 2))))))
 (Ze (Zu 10 (dO Q8 (dO T6 (dO M1 (dV 4) (dV 9)) (dC (.int 1))) (dC (.int 0))))
 (Ze (Zu 11 (dO Yi (dO Yi (dV 3) (dC (.int 1))) (dO Rb (dC (.int 3)) (dV 7))))
 (Ze (J8 6 Wu (Z2 (Ys (Z2 (Yf Wb (Z2 (dO Yt (dV 2) (dC (.int 2560))) (Z2 (dO Yi (dV 7) (dC (.int 1))) Zc))) (Z2 (dO W7 (dL (U3 (Z2 (dC (.str "given")) (Z2 (dC (.str "given")) (Z2 (dC (.str "made")) Zc))))) (dO Rb (dO Wg (dV 8) (dC (.int 3))) (dO Wg (dO Yt (dV 2) (dC (.int 20))) (dC (.int 2))))) Zc))) Zc))
 (Rc (dB (dO Q8 (dO Wg (dO Yt (dV 8) (dC (.int 3))) (dC (.int 3))) (dC (.int 0)))) (Zu 5 (dO Yi (dV 5) (dL (U3 (Z2 (Ys (Z2 (dV 9) (Z2 (dV 10) (Z2 (Ys (Z2 (dV 3) Zc)) (Z2 (Ys (Z2 (dV 11) Zc)) Zc))))) (Z2 (Ys (Z2 (dV 9) (Z2 (Z7t (dV 10)) (Z2 (Ys (Z2 (dV 11) Zc)) (Z2 (Ys (Z2 (dV 3) Zc)) Zc))))) Zc)))))) (Ze (Zu 5 (dO Yi (dV 5) (dL (U3 (Z2 (Ys (Z2 (dV 9) (Z2 (dV 10) (Z2 (Ys (Z2 (dV 3) Zc)) (Z2 (Ys (Z2 (dV 11) Zc)) Zc))))) (Z2 (Ys (Z2 (dC (.int 0)) (Z2 (dO Q8 (dO T6 (dV 4) (dC (.int 1))) (dC (.int 0))) (Z2 (Ys (Z2 (dV 11) Zc)) (Z2 (Ys (Z2 (dO Yi (dV 11) (dC (.int 1))) Zc)) Zc))))) Zc))))))
 (Zu 5 (dO Yi (dV 5) (dL (U3 (Z2 (Ys (Z2 (dV 9) (Z2 (Z7t (dV 10)) (Z2 (Ys (Z2 (dO Yi (dV 11) (dC (.int 1))) Zc)) (Z2 (Ys (Z2 (dO Yi (dV 11) (dC (.int 2))) Zc)) Zc))))) (Z2 (Ys (Z2 (dC (.int 0)) (Z2 (dO Q8 (dO T6 (dV 4) (dC (.int 1))) (dC (.int 1))) (Z2 (Ys (Z2 (dO Yi (dV 11) (dC (.int 2))) Zc)) (Z2 (Ys (Z2 (dV 3) Zc)) Zc))))) Zc))))))))))))))
 (Ze (Zu 12 (dO Wg (dO Yt (dV 2) (dC (.int 7))) (dF Ti (Z2 (dV 5) Zc))))
 (Wi (Ys (Z2 (dF tupleD (Z2 (dP 6) Zc)) (Z2 (dF tupleD (Z2 (dO Yi (dS Xf (dV 5) (U0 (dV 12)) Rx) (dS Xf (dV 5) Rx (U0 (dV 12)))) Zc)) (Z2 (dO Qz (dC (.int 1)) (dV 3)) (Z2 (dO Wg (dV 4) (dO Qz (dC (.int 1)) (dF Ti (Z2 (dP 6) Zc)))) Zc)))))))))))))
def Q7:List Dat->Rs:=Wa 13 2 Vi
def V1:Ev->Fl:=(Ze (Z1k (dV 0) (Kw 4 (Wh (Yh 2) (Wh (Yh 3) (Wh (Yh 4) (Wh (Yh 5) Rv))))))
 (Ze (Zu 6 (dV 4))
 (Ze (T8 (Tv (dV 3)) (Yh 7) (T8 (Tv (dO Ov (dO W7 (dV 7) (dC (.int 2))) (dO W7 (dV 7) (dC (.int 3))))) (Yh 8) (Zu 6 (dO orD (dV 6) (dO Qz (dC (.int 1)) (dV 8))))))
 (Ze (Zu 8 (dO W7 (dL (Tc (Vx (Z2 (dC (.int 64)) Zc)) [none,some 6] (Yh 0) (dB (dO Q8 (dO T6 (dO M1 (dV 1) (dV 0)) (dC (.int 1))) (dC (.int 0)))) (dV 0))) (dO Wg (dV 1) (dC (.int 3)))))
 (Ze (Er 9 (U3 Zc))
 (Ze (T8 (Ld (dV 3)) (Kw 2 (Wh (Yh 10) (Wh (Kw 4 (Wh (Yh 11) (Wh (Yh 12) (Wh (Yh 13) (Wh (Yh 14) Rv))))) Rv))) (Ze (Rc (dB (dO Q8 (dO T6 (dO M1 (dO Yt (dV 1) (dC (.int 3))) (dV 10)) (dC (.int 1))) (dC (.int 1)))) (Ze (Zu 13 (dF tupleD (Z2 (dL (dF Jm (Z2 (dO Ov (dV 13) (Ys (Z2 (dV 8) Zc))) Zc))) Zc)))
 (Zu 14 (dF tupleD (Z2 (dL (dF Jm (Z2 (dO Ov (dV 14) (Ys (Z2 (dV 8) Zc))) Zc))) Zc)))) Tz)
 (J8 9 Wu (Z2 (Ys (Z2 (dV 11) (Z2 (dV 12) (Z2 (dV 13) (Z2 (dV 14) Zc))))) Zc))))
 (Wi (Ys (Z2 (dV 2) (Z2 (dF tupleD (Z2 (dP 9) Zc)) (Z2 (dO orD (dV 4) (dO Qz (dC (.int 1)) (dV 8))) (Z2 (dV 5) Zc))))))))))))
def Ux:List Dat->Rs:=Wa 15 2 V1
def Tt:Ev->Fl:=(Wi (dF Z48 (Z2 (dL (Tc (Tv (dO W7 (dV 0) (dC (.int 2)))) [none,some 1] (Yh 0) Jo (dO Q8 (dO T6 (dO M1 (dV 1) (dV 0)) (dC (.int 1))) (dC (.int 1))))) Zc)))
def Tw:List Dat->Rs:=Wa 2 2 Tt
def Uk:Ev->Fl:=(Ze (Z1k (dV 1) (Kw 2 (Wh (Yh 2) (Wh (Yh 3) Rv))))
 (Ze (Rc (dB (dO Q8 (dO Q8 (dO T6 (dO M1 (dV 3) (dO W7 (dV 0) (dC (.int 0)))) (dC (.int 1))) (dC (.int 1))) (dO W7 (dV 0) (dC (.int 1))))) (Wi (dC (.str "broken"))) Tz)
 (Ze (T8 (Tv (dO W7 (dV 0) (dC (.int 2)))) (Yh 4) (Zu 2 (dO N8 (dV 2) (dO Qz (dC (.int 1)) (dV 4)))))
 (Ze (Rc (dT (dF Z10 (Z2 (dL (Tc (Tv (dO W7 (dV 0) (dC (.int 3)))) [none,some 2] (Yh 0) Jo (dO Q8 (dO T6 (dO M1 (dV 1) (dV 0)) (dC (.int 1))) (dC (.int 1))))) Zc))) (Wi (dC (.str "crowded"))) Tz)
 (Ze (T8 (Tv (dO W7 (dV 0) (dC (.int 3)))) (Yh 4) (Zu 2 (dO Yi (dV 2) (dO Qz (dC (.int 1)) (dV 4)))))
 (Ze (Rc (dT (dO W7 (dV 0) (dC (.int 1)))) (Wi (Ys (Z2 (dV 2) (Z2 (dO Yi (dV 3) (dO Qz (dC (.int 1)) (dO W7 (dV 0) (dC (.int 0))))) Zc)))) Tz)
 (Wi (Ys (Z2 (dV 2) (Z2 (dO N8 (dV 3) (dO Qz (dC (.int 1)) (dO W7 (dV 0) (dC (.int 0))))) Zc))))))))))
def Jr:List Dat->Rs:=Wa 5 2 Uk
def Wc:Ev->Fl:=(Ze (Zu 1 (dO Yi (dC (.int 1)) (dO Wg (dV 0) (dC (.int 4)))))
 (Ze (Zu 2 (dO Wg (dO Yt (dV 0) (dC (.int 4))) (dC (.int 16))))
 (Ze (Zu 3 (dO Wg (dO Yt (dV 0) (dC (.int 64))) (dO Qz (dC (.int 1)) (dV 1))))
 (Ze (Zu 4 (dO Yi (dC (.int 1)) (dO Wg (dO Yt (dV 0) (dC (.int 1024))) (dC (.int 6)))))
 (Ze (Zu 5 (dO Wg (dO Yt (dV 0) (dC (.int 6144))) (dO N8 (dC (.int 65)) (dV 4))))
 (Ze (Zu 6 (dO Wg (dO Yt (dV 0) (dC (.int 614400))) (dO Qz (dC (.int 1)) (dV 4))))
 (Ze (Zu 7 (dO Yi (dC (.int 1)) (dO Wg (dO Yt (dV 0) (dC (.int 39321600))) (dC (.int 8)))))
 (Ze (Zu 8 (dO Wg (dO Yt (dV 0) (dC (.int 314572800))) (dO Z2t (dC (.int 10)) (dC (.int 6)))))
 (Ze (Zu 0 (dO Z02 (dV 0) (dO Rb (dC (.int 314572800)) (dO Z2t (dC (.int 10)) (dC (.int 6))))))
 (Ze (Er 9 (U3 Zc))
 (Ze (T8 (Vx (Z2 (dV 7) Zc)) (Yh 10) (Ze (Zu 11 (dO Yi (dC (.int 1)) (dO Wg (dO Yt (dV 0) (dC (.int 8))) (dO N8 (dO Qz (dC (.int 1)) (dV 4)) (dC (.int 1))))))
 (Ze (Zu 12 (dO Yi (dC (.int 1)) (dO Wg (dO Yt (dV 0) (dC (.int 512))) (dO N8 (dO Qz (dC (.int 1)) (dV 4)) (dC (.int 1))))))
 (Ze (Zu 13 (dF tupleD (Z2 (dL (Tc (Vx (Z2 (dV 4) Zc)) [none,some 5,some 11] (Yh 0) (dB (dO Q8 (dO T6 (dO M1 (dV 2) (dV 0)) (dC (.int 1))) (dC (.int 1)))) (dO Yi (dV 1) (dV 0)))) Zc)))
 (Ze (Zu 14 (dF tupleD (Z2 (dL (Tc (Vx (Z2 (dV 4) Zc)) [none,some 5,some 12] (Yh 0) (dB (dO Q8 (dO T6 (dO M1 (dV 2) (dV 0)) (dC (.int 1))) (dC (.int 1)))) (dO Yi (dV 1) (dV 0)))) Zc)))
 (Ze (J8 9 Wu (Z2 (Ys (Z2 (dO Wg (dO Wg (dV 0) (dC (.int 4))) (dV 1)) (Z2 (dO Q8 (dO Wg (dO Yt (dV 0) (dC (.int 4))) (dC (.int 2))) (dC (.int 1))) (Z2 (dV 13) (Z2 (dV 14) Zc))))) Zc))
 (Zu 0 (dO Yt (dV 0) (dC (.int 32768))))))))))
 (Ze (Zu 15 (dL (Tc (Vx (Z2 (dV 1) Zc)) [none,some 8,some 2] (Yh 0) Jo (Ys (Z2 (Yf Wb (Z2 (dV 1) (Z2 (dV 0) Zc))) (Z2 (dO W7 (dL (U3 (Z2 (dC (.str "given")) (Z2 (dC (.str "made")) Zc)))) (dO T6 (dO M1 (dV 2) (dV 0)) (dC (.int 1)))) Zc))))))
 (Wi (Ys (Z2 (dF tupleD (Z2 (dV 15) Zc)) (Z2 (dF tupleD (Z2 (dP 9) Zc)) (Z2 (dO Qz (dV 6) (dV 5)) (Z2 (dV 3) Zc))))))))))))))))))
def Vl:List Dat->Rs:=Wa 16 1 Wc
def Vn:Ev->Fl:=(Ze (Zu 1 (dC (.str "")))
 (Ze (K4 N18_ (fun c=>decide (c="CalledOff")) (fun _=>true) (Re Q4 (Z2 (dV 0) (Z2 (dC (.int 400)) Zc))) (Zu 1 (dC (.str "off"))) (Zu 1 (dC (.str "other"))))
 (Wi (dV 1))))
def Ym:List Dat->Rs:=Wa 2 1 Vn
def Uh:Ev->Fl:=(Ze (Zu 2 (dL (Tc (Vx (Z2 (dF Ti (Z2 (dO W7 (dV 0) (dC (.int 1))) Zc)) Zc)) [none,some 1,some 0] (Yh 0) (dT (Yf Tw (Z2 (dO W7 (dO W7 (dV 2) (dC (.int 1))) (dV 0)) (Z2 (dO W7 (dV 1) (dC (.int 0))) Zc)))) (dV 0))))
 (Ze (T8 (Vx (Z2 (dF Ti (Z2 (dO W7 (dV 0) (dC (.int 0))) Zc)) Zc)) (Yh 3) (Ze (Zu 4 (dL (Tc (Tv (dV 2)) [none,some 3,some 0] (Yh 0) (dB (dO Q8 (dO W7 (dO W7 (dO W7 (dV 2) (dC (.int 1))) (dV 0)) (dC (.int 0))) (dV 1))) (dV 0))))
 (Rc (Z1i (J5 (dB (dO Q8 (dO W7 (dO W7 (dO W7 (dV 0) (dC (.int 0))) (dV 3)) (dC (.int 1))) (dC (.str "made")))) (dB (dO gtD (dF Ti (Z2 (dV 4) Zc)) (dC (.int 1))))) (dB (dO Ec (dO Ec (Yf Mz (Z2 (dV 0) (Z2 (dV 1) (Z2 (dV 3) Zc)))) (dC (.int 0))) (dO Ec (dV 4) (dL (U3 Zc)))))) (Wi (dC .non)) Tz)))
 (Wi (dV 2))))
def Jl:List Dat->Rs:=Wa 5 2 Uh
def Ui:Ev->Fl:=(Ze (T8 (Vx (Z2 (dF Ti (Z2 (dO W7 (dV 0) (dC (.int 0))) Zc)) Zc)) (Yh 4) (Ze (Zu 5 (Yf Mz (Z2 (dV 0) (Z2 (dV 1) (Z2 (dV 4) Zc)))))
 (Ze (Zu 6 (Yf Mz (Z2 (dV 0) (Z2 (dV 2) (Z2 (dV 4) Zc)))))
 (Ze (Rc (J5 (dB (dO Q8 (dV 4) (dV 3))) (dB (dO Q8 (dV 6) (dV 5)))) (Wi (dC (.bl false))) Tz)
 (Rc (J5 (dB (dO Ec (dV 4) (dV 3))) (J5 (dB (dO inF (dC (.str "made")) (Ys (Z2 (dO W7 (dO W7 (dO W7 (dV 0) (dC (.int 0))) (dV 4)) (dC (.int 1))) (Z2 (dO W7 (dO W7 (dO W7 (dV 0) (dC (.int 0))) (dV 3)) (dC (.int 1))) Zc))))) (J5 (dB (dO Ec (dV 5) (dC (.int 0)))) (dB (dO Ec (dV 6) (dV 5)))))) (Wi (dC (.bl false))) Tz)))))
 (Wi (dC (.bl true))))
def Jn:List Dat->Rs:=Wa 7 4 Ui
def Og:Ev->Fl:=(Ze (Zu 1 (Yf Yk (Z2 (dV 0) (Z2 (dC (.int 0)) Zc))))
 (Ze (Zu 2 (dO Q8 (dO Wg (dO Yt (dV 1) (dC (.int 2))) (dC (.int 2))) (dC (.int 0))))
 (Ze (Rc (dT (dV 2)) (Zu 3 (Yf Vl (Z2 (dF Z7v (Z2 (dF Bc (Z2 (dS Xf (dV 0) (U0 (dC (.int 1))) (U0 (dC (.int 2)))) Zc)) Zc)) Zc))) (Rc (dB (dO Q8 (dO Wg (dV 1) (dC (.int 2))) (dC (.int 0)))) (Zu 3 (Yf Q7 (Z2 (dV 0) (Z2 (dC (.int 1)) Zc)))) (Zu 3 (Yf Qs (Z2 (dV 0) (Z2 (dC (.int 1)) (Z2 (dO Yi (dC (.int 1)) (dO Wg (dO Yt (dV 1) (dC (.int 4))) (dC (.int 4)))) (Z2 (dO Wg (dO Yt (dV 1) (dC (.int 24))) (dC (.int 5))) Zc))))))))
 (Ze (Rc (J5 (L5 (dT (dV 2))) (dB (dO Q8 (dO Wg (dO Yt (dV 1) (dC (.int 4096))) (dC (.int 3))) (dC (.int 0))))) (Zu 3 (Yf Ux (Z2 (dV 3) (Z2 (dO Yt (dV 1) (dC (.int 12288))) Zc)))) Tz)
 (Ze (Zu 4 (Yf Ym (Z2 (dV 3) Zc)))
 (Ze (Rc (dB (dO Ec (dV 4) (dC (.str "")))) (Wi (dOr (dV 2) (Z7o (dO Q8 (dO Wg (dV 1) (dC (.int 2))) (dC (.int 0))) (dO Q8 (dV 4) (dC (.str "off")))))) Tz)
 (Ze (Zu 5 (Ys (Z2 (dO W7 (dV 3) (dC (.int 2))) (Z2 (dO W7 (dV 3) (dC (.int 3))) Zc))))
 (Ze (T8 (Fc (Z2 (dC (.int 1)) (Z2 (dF Fb (Z2 (dC (.int 2)) (Z2 (dF Ox (Z2 (dC (.int 63)) (Z2 (dF Ti (Z2 (dV 0) Zc)) Zc))) Zc))) Zc))) (Yh 6) (Ze (Zu 7 (Yf Jl (Z2 (dV 3) (Z2 (dV 5) Zc))))
 (Ze (Rc (Z1i (dB (dO isF (dV 7) (dC .non))) (J5 (dB (dO Q8 (dV 7) (dL (U3 Zc)))) (L5 (dT (dV 2))))) (Wi (dC (.bl false))) Tz)
 (Ze (Rc (dB (dO Q8 (dV 7) (dL (U3 Zc)))) (Wi (dC (.bl true))) Tz)
 (Ze (Zu 8 (dO W7 (dV 7) (dO Wg (Yf Yk (Z2 (dV 0) (Z2 (dV 6) Zc))) (dF Ti (Z2 (dV 7) Zc)))))
 (Ze (Zu 9 (Yf Jr (Z2 (dO W7 (dO W7 (dV 3) (dC (.int 1))) (dV 8)) (Z2 (dV 5) Zc))))
 (Ze (Rc (Z1i (dT (dI "str" (dV 9))) (L5 (dT (Yf Jn (Z2 (dV 3) (Z2 (dV 5) (Z2 (dV 9) (Z2 (dO W7 (dO W7 (dO W7 (dV 3) (dC (.int 1))) (dV 8)) (dC (.int 0))) Zc)))))))) (Wi (dC (.bl false))) Tz)
 (Zu 5 (dV 9)))))))))
 (Wi (dC (.bl true)))))))))))
def Z8p:List Dat->Rs:=Wa 10 1 Og
def R5 (i:Nat):Stmt:=PySem.Challenge.pw_calmwires_k34_whole_calls_stay.main.body.getD i (.Pass ⟨0,0,0,0⟩)
abbrev Sh:Stmt:=R5 7
theorem B0:FnScope N48_ N48_ (Z6 Sh):=⟨rfl,rfl,rfl,by decide +kernel,rfl,by decide +kernel,by decide +kernel⟩
abbrev Tl:Stmt:=R5 8
theorem F3:FnScope N43_ N43_ (Z6 Tl):=⟨rfl,rfl,rfl,by decide +kernel,rfl,by decide +kernel,by decide +kernel⟩
abbrev Sj:Stmt:=R5 9
theorem Al:FnScope N49_ N49_ (Z6 Sj):=⟨rfl,rfl,rfl,by decide +kernel,rfl,by decide +kernel,by decide +kernel⟩
abbrev Sc:Stmt:=R5 10
theorem Ax:FnScope N49_ N49_ (Z6 Sc):=⟨rfl,rfl,rfl,by decide +kernel,rfl,by decide +kernel,by decide +kernel⟩
abbrev Mv:Stmt:=R5 11
theorem F0:FnScope N49_ N49_ (Z6 Mv):=⟨rfl,rfl,rfl,by decide +kernel,rfl,by decide +kernel,by decide +kernel⟩
abbrev Mr:Stmt:=R5 12
theorem Af:FnScope N49_ N49_ (Z6 Mr):=⟨rfl,rfl,rfl,by decide +kernel,rfl,by decide +kernel,by decide +kernel⟩
abbrev X7:Stmt:=R5 13
theorem Ik:FnScope ["some","number","place"] ["some"] (Z6 X7):=⟨rfl,rfl,rfl,by decide +kernel,rfl,by decide +kernel,by decide +kernel⟩
abbrev Sr:Stmt:=R5 14
theorem Ao:FnScope N46_ N46_ (Z6 Sr):=⟨rfl,rfl,rfl,by decide +kernel,rfl,by decide +kernel,by decide +kernel⟩
abbrev Z08:Stmt:=R5 16
theorem Z5u:FnScope ["graph","stand","step","takes"] N36_ (Z6 Z08):=⟨rfl,rfl,rfl,by decide +kernel,rfl,by decide +kernel,by decide +kernel⟩
abbrev E9:Stmt:=R5 17
theorem Sd:FnScope N17_ N36_ (Z6 E9):=⟨rfl,rfl,rfl,by decide +kernel,rfl,by decide +kernel,by decide +kernel⟩
abbrev Tr:Stmt:=R5 19
theorem Fq:FnScope N47_ N47_ (Z6 Tr):=⟨rfl,rfl,rfl,by decide +kernel,rfl,by decide +kernel,by decide +kernel⟩
abbrev Ce:Stmt:=R5 21
theorem P5:FnScope ["found","n","steps","at"] ["found","n"] (Z6 Ce):=⟨rfl,rfl,rfl,by decide +kernel,rfl,by decide +kernel,by decide +kernel⟩
abbrev Si:Stmt:=R5 20
theorem Bf:FnScope N28_ N28_ (Z6 Si):=⟨rfl,rfl,rfl,by decide +kernel,rfl,by decide +kernel,by decide +kernel⟩
abbrev G4:Stmt:=R5 18
theorem Ug:FnScope N12_ N50_ (Z6 G4):=⟨rfl,rfl,rfl,by decide +kernel,rfl,by decide +kernel,by decide +kernel⟩
abbrev Ul:Stmt:=R5 24
theorem Xa:FnScope N29_ N29_ (Z6 Ul):=⟨rfl,rfl,rfl,by decide +kernel,rfl,by decide +kernel,by decide +kernel⟩
abbrev Iy:Stmt:=R5 23
theorem Z3g:FnScope N37_ N37_ (Z6 Iy):=⟨rfl,rfl,rfl,by decide +kernel,rfl,by decide +kernel,by decide +kernel⟩
abbrev Xd:Stmt:=R5 25
theorem Z09:FnScope ["graph","by","lost","kept"] N44_ (Z6 Xd):=⟨rfl,rfl,rfl,by decide +kernel,rfl,by decide +kernel,by decide +kernel⟩
abbrev Uu:Stmt:=R5 28
theorem Ia:FnScope N44_ N44_ (Z6 Uu):=⟨rfl,rfl,rfl,by decide +kernel,rfl,by decide +kernel,by decide +kernel⟩
abbrev Ej:Stmt:=R5 27
theorem Sf:FnScope ["graph","pairs","by","lost"] ["graph"] (Z6 Ej):=⟨rfl,rfl,rfl,by decide +kernel,rfl,by decide +kernel,by decide +kernel⟩
abbrev Ir:Stmt:=R5 26
theorem Qc:FnScope N10_ N50_ (Z6 Ir):=⟨rfl,rfl,rfl,by decide +kernel,rfl,by decide +kernel,by decide +kernel⟩
abbrev Mq:Stmt:=R5 30
theorem Ru:FnScope ["_law_script","_law_k","_law_number"] N38_ (Z6 Mq):=⟨rfl,rfl,rfl,by decide +kernel,rfl,by decide +kernel,by decide +kernel⟩
abbrev Jk:Stmt:=R5 31
theorem W5:FnScope N6_ N42_ (Z6 Jk):=⟨rfl,rfl,rfl,by decide +kernel,rfl,by decide +kernel,by decide +kernel⟩
abbrev Qq:Stmt:=R5 32
theorem Vg:FnScope N7_ N22_ (Z6 Qq):=⟨rfl,rfl,rfl,by decide +kernel,rfl,by decide +kernel,by decide +kernel⟩
abbrev Q6:Stmt:=R5 33
theorem V2:FnScope N5_ N15_ (Z6 Q6):=⟨rfl,rfl,rfl,by decide +kernel,rfl,by decide +kernel,by decide +kernel⟩
abbrev Ya:Stmt:=R5 34
theorem Zj:FnScope N0_ N16_ (Z6 Ya):=⟨rfl,rfl,rfl,by decide +kernel,rfl,by decide +kernel,by decide +kernel⟩
abbrev Q1:Stmt:=R5 35
theorem Zx:FnScope N3_ N31_ (Z6 Q1):=⟨rfl,rfl,rfl,by decide +kernel,rfl,by decide +kernel,by decide +kernel⟩
abbrev Wv:Stmt:=R5 36
theorem Zp:FnScope N2_ N27_ (Z6 Wv):=⟨rfl,rfl,rfl,by decide +kernel,rfl,by decide +kernel,by decide +kernel⟩
abbrev Tu:Stmt:=R5 37
theorem Fv:FnScope N32_ N32_ (Z6 Tu):=⟨rfl,rfl,rfl,by decide +kernel,rfl,by decide +kernel,by decide +kernel⟩
abbrev Um:Stmt:=R5 38
theorem Vc:FnScope N11_ N33_ (Z6 Um):=⟨rfl,rfl,rfl,by decide +kernel,rfl,by decide +kernel,by decide +kernel⟩
abbrev Y4:Stmt:=R5 39
theorem Zk:FnScope N1_ ["_law_cell"] (Z6 Y4):=⟨rfl,rfl,rfl,by decide +kernel,rfl,by decide +kernel,by decide +kernel⟩
abbrev Uv:Stmt:=R5 40
theorem Ua:FnScope ["_law_graph_here","_law_told"] N45_ (Z6 Uv):=⟨rfl,rfl,rfl,by decide +kernel,rfl,by decide +kernel,by decide +kernel⟩
abbrev V7:Stmt:=R5 41
theorem Ql:FnScope N9_ N26_ (Z6 V7):=⟨rfl,rfl,rfl,by decide +kernel,rfl,by decide +kernel,by decide +kernel⟩
abbrev Jj:Stmt:=R5 42
theorem Qk:FnScope N8_ N13_ (Z6 Jj):=⟨rfl,rfl,rfl,by decide +kernel,rfl,by decide +kernel,by decide +kernel⟩
abbrev Hr:Stmt:=R5 43
theorem T5:FnScope N4_ N51_ (Z6 Hr):=⟨rfl,rfl,rfl,by decide +kernel,rfl,by decide +kernel,by decide +kernel⟩
structure Txt (K:PySem.W.Frag) (mg:Str->Option Value):Prop where
 b_abs:mg "abs" = none
 b_all:mg "all" = none
 b_any:mg "any" = none
 b_enumerate:mg "enumerate" = none
 b_isinstance:mg "isinstance" = none
 b_len:mg "len" = none
 b_list:mg "list" = none
 b_max:mg "max" = none
 b_min:mg "min" = none
 b_range:mg "range" = none
 b_reversed:mg "reversed" = none
 b_sorted:mg "sorted" = none
 b_str:mg "str" = none
 b_sum:mg "sum" = none
 b_tuple:mg "tuple" = none
 q_0:Z30 K mg "Broken" N18_
 q_1:Z30 K mg "Crowded" N18_
 u_3:Z5q K mg "CalledOff" N18_ (fun c=>decide (c="CalledOff"))
 u_8:Z5q K mg "CalmError" N18_ (fun _=>true)
section
variable {P:Program} {w:World} {K:PySem.W.Frag} {mg:Str->Option Value} {base:Heap}
end
abbrev i_0:Stmt:=K3 (R5 2) 0
theorem Zfv:FnScope N52_ N52_ (Z6 i_0):=⟨rfl,rfl,rfl,by decide +kernel,rfl,by decide +kernel,by decide +kernel⟩
abbrev i_1:Stmt:=K3 (R5 3) 0
theorem Zf4:FnScope N52_ N52_ (Z6 i_1):=⟨rfl,rfl,rfl,by decide +kernel,rfl,by decide +kernel,by decide +kernel⟩
abbrev i_2:Stmt:=K3 (R5 4) 0
theorem Zg5:FnScope ["self"] ["self"] (Z6 i_2):=⟨rfl,rfl,rfl,by decide +kernel,rfl,by decide +kernel,by decide +kernel⟩
abbrev i_3:Stmt:=K3 (R5 5) 0
theorem Zf5:FnScope N34_ N34_ (Z6 i_3):=⟨rfl,rfl,rfl,by decide +kernel,rfl,by decide +kernel,by decide +kernel⟩
section
variable {P:Program} {w:World} {K:PySem.W.Frag} {mg:Str->Option Value} {base:Heap}
theorem m_0 {C fI D:Addr} {fd:FuncData} (B:BaseC K mg D) (F:Fun K "__init__" "Broken.__init__" i_0 fI fd) (hc:T4 K "Broken" C) (hm:mg "Broken" = some (.ref C)) (hk:PySem.W.keepIn K (.ref C)=true) (hx:Qi K C fI D=true) (xc:XCls K C) (hf0:PySem.W.findIn K (.ref C) "way" = some none) (isf:PySem.W.isFn K (.ref fI)=true) (bl:mg "list" = none):XMakeN P w K mg base 1 "Broken" 1 (gW "way") where
 ex:=⟨C,fI,D,fd,N52_,hc,hm,hk,hx,xc,isf,Z0l (k:=0) F Zfv hx xc hf0 (fun cdv A outer s H E hr=>(Mb (Mf (Im B (Wl (pv 0) (Wl (G7 (Lh (Pe hr (pv 1) C7))) T3)))) (G1 (X2 (pv 0) (Se (Di K) rfl bl (by decide +kernel) (Wl (pv 1) T3)))))) (fun H e a0 n0 l0 m0=>(Eh (Ei Pb (by decide +kernel) rfl (.inr ⟨a0,n0,rfl,l0,m0⟩)) (by decide +kernel))),
  F.binds fun _ _ _ _ _ _ us hl=>ar2 us hl fun _ _=>rfl⟩
 len:=Z55
 few:=by lia
theorem m_1 {C fI D:Addr} {fd:FuncData} (B:BaseC K mg D) (F:Fun K "__init__" "Crowded.__init__" i_1 fI fd) (hc:T4 K "Crowded" C) (hm:mg "Crowded" = some (.ref C)) (hk:PySem.W.keepIn K (.ref C)=true) (hx:Qi K C fI D=true) (xc:XCls K C) (hf0:PySem.W.findIn K (.ref C) "way" = some none) (isf:PySem.W.isFn K (.ref fI)=true) (bl:mg "list" = none):XMakeN P w K mg base 1 "Crowded" 1 (gW "way") where
 ex:=⟨C,fI,D,fd,N52_,hc,hm,hk,hx,xc,isf,Z0l (k:=0) F Zf4 hx xc hf0 (fun cdv A outer s H E hr=>(Mb (Mf (Im B (Wl (pv 0) (Wl (G7 (Lh (Pe hr (pv 1) C7))) T3)))) (G1 (X2 (pv 0) (Se (Di K) rfl bl (by decide +kernel) (Wl (pv 1) T3)))))) (fun H e a0 n0 l0 m0=>(Eh (Ei Pb (by decide +kernel) rfl (.inr ⟨a0,n0,rfl,l0,m0⟩)) (by decide +kernel))),
  F.binds fun _ _ _ _ _ _ us hl=>ar2 us hl fun _ _=>rfl⟩
 len:=Z55
 few:=by lia
theorem m_2 {C fI D:Addr} {fd:FuncData} (B:BaseC K mg D) (F:Fun K "__init__" "TooMany.__init__" i_2 fI fd) (hc:T4 K "TooMany" C) (hm:mg "TooMany" = some (.ref C)) (hk:PySem.W.keepIn K (.ref C)=true) (hx:Qi K C fI D=true) (xc:XCls K C)  (isf:PySem.W.isFn K (.ref fI)=true) (bl:mg "list" = none):XMake P w K mg base 1 "TooMany" 0 gZ where
 ex:=⟨C,fI,D,fd,["self"],hc,hm,hk,hx,xc,isf,Zav (k:=0) F Zg5 hx (fun cdv A outer s H E hr=>(G1 (Mf (Im B (Wl (pv 0) (Wl Z3h T3)))))),
  F.binds fun _ _ _ _ _ _ us hl=>ar1 us hl fun _=>rfl⟩
 len:=Z4a
 few:=by lia
theorem m_3 {C fI D:Addr} {fd:FuncData} (B:BaseC K mg D) (F:Fun K "__init__" "CalledOff.__init__" i_3 fI fd) (hc:T4 K "CalledOff" C) (hm:mg "CalledOff" = some (.ref C)) (hk:PySem.W.keepIn K (.ref C)=true) (hx:Qi K C fI D=true) (xc:XCls K C) (hf0:PySem.W.findIn K (.ref C) "way" = some none) (hf1:PySem.W.findIn K (.ref C) "lost" = some none) (hf2:PySem.W.findIn K (.ref C) "by" = some none) (isf:PySem.W.isFn K (.ref fI)=true) (bl:mg "list" = none):XMake P w K mg base 1 "CalledOff" 3 (gC "way" "lost" "by") where
 ex:=⟨C,fI,D,fd,N34_,hc,hm,hk,hx,xc,isf,Zbv (k:=0) F Zf5 hx xc hf0 hf1 hf2 (by decide +kernel) (by decide +kernel) (by decide +kernel) (fun cdv A outer s H E hr=>(Mb (Mf (Im B (Wl (pv 0) (Wl (G7 (Lh (B8 hr (pv 2) (Lh (B8 hr (pv 3) (Lh (B8 hr (pv 1) C7))))))) T3)))) (Mb (X2 (pv 0) (Se (Di K) rfl bl (by decide +kernel) (Wl (pv 1) T3))) (Mb (Z0o (pv 0) (pv 2)) (G1 (Z0o (pv 0) (pv 3))))))) (fun H e a0 n0 i0 i1 l0 m0 u0 v0 u1 v1=>(Eh (Ei (Eh (Ei (Eh (Ei Pb (by decide +kernel) rfl (.inr ⟨a0,n0,rfl,l0,m0⟩)) (by decide +kernel)) (by decide +kernel) rfl (.inl ⟨i1,rfl,u1,v1⟩)) (by decide +kernel)) (by decide +kernel) rfl (.inl ⟨i0,rfl,u0,v0⟩)) (by decide +kernel))),
  F.binds fun _ _ _ _ _ _ us hl=>ar4 us hl fun _ _ _ _=>rfl⟩
 len:=Za9
 few:=by lia
theorem Z25 (Df:Def K mg "is_made" Sh) (T:Txt K mg)   : CalD P w K mg base 1 "is_made" N48_ false M9 :=
 Wr (N:=N48_) (ps:=N48_) (st:=Sh) (k:=0) (g:=Qu) Df B0 (fun _ _ _ _ _ _ us hl=>ar2 us hl fun _ _=>rfl) (fun f cdv A outer s H E hr=>(by
  unfold Qu;exact (Zm (Yy (Wz (U2 hr.units) (Zn Y3 (Zn Y3 (Zn Y3 (Z3 0) (Z1) (fun _ _=>rfl)) (Z3 1) (fun _ _=>rfl)) (Z1) (fun _ _=>rfl)) (Me) (Zw _))))))
theorem B2 (Df:Def K mg "steps_of" Tl) (T:Txt K mg)   : CalD P w K mg base 1 "steps_of" N43_ true Mw :=
 Wr (N:=N43_) (ps:=N43_) (st:=Tl) (k:=0) (g:=Tp) Df F3 (fun _ _ _ _ _ _ us hl=>ar3 us hl fun _ _ _=>rfl) (fun f cdv A outer s H E hr=>(by
  unfold Tp;refine (Zm (Bp ?c0))
  case c0=>exact Jx (Z6 Tl) [none,none,some 1,some 2] N30_ rfl (show CompOk (Z6 Tl) _ N43_ N30_ [none,none,some 1,some 2] from CompOk.of (by decide +kernel)) rfl (Z7g (by rfl) T.b_enumerate (Zn Y3 (Z3 0) (Z1) (fun _ _=>rfl))) (fun _ _ _ _=>⟨(Ep (n:=2) rfl (Yz (Zv 0 (show (N30_:List Str).Nodup from by decide +kernel) rfl (Or.inl rfl)) (Yz (Zv 1 (show (N30_:List Str).Nodup from by decide +kernel) rfl (Or.inl rfl)) Ms))),(Ek (Nk.pt (R7 (V4 (U2 hr.units) (Zn Y3 (Z3 1) (Z1) (fun _ _=>rfl)) (Z3 2) (Zw _)) (Mg (V4 (U2 hr.units) (Zn Y3 (Z3 1) (Z1) (fun _ _=>rfl)) (Z3 3) (Zw _)))))),(Z7 0)⟩) (by decide)))
theorem Z0s (Df:Def K mg "wire_of" Sj) (T:Txt K mg)   : CalD P w K mg base 1 "wire_of" N49_ false Ts :=
 Wr (N:=N49_) (ps:=N49_) (st:=Sj) (k:=0) (g:=Qw) Df Al (fun _ _ _ _ _ _ us hl=>ar2 us hl fun _ _=>rfl) (fun f cdv A outer s H E hr=>(by
  unfold Qw;exact (Zm (Yy (Yd Y3 (Zn Y3 (Zn Y3 (Z3 0) (Z1) (fun _ _=>rfl)) (Z3 1) (fun _ _=>rfl)) (Z1) (fun _ _=>rfl))))))
theorem Z21 (Df:Def K mg "is_rise" Sc) (T:Txt K mg)   : CalD P w K mg base 1 "is_rise" N49_ false Sm :=
 Wr (N:=N49_) (ps:=N49_) (st:=Sc) (k:=0) (g:=Qx) Df Ax (fun _ _ _ _ _ _ us hl=>ar2 us hl fun _ _=>rfl) (fun f cdv A outer s H E hr=>(by
  unfold Qx;exact (Zm (Yy (Yd Y3 (Zn Y3 (Zn Y3 (Z3 0) (Z1) (fun _ _=>rfl)) (Z3 1) (fun _ _=>rfl)) (Z1) (fun _ _=>rfl))))))
theorem At (Df:Def K mg "takes_of" Mv) (T:Txt K mg)   : CalD P w K mg base 1 "takes_of" N49_ false Vd :=
 Wr (N:=N49_) (ps:=N49_) (st:=Mv) (k:=0) (g:=Tf) Df F0 (fun _ _ _ _ _ _ us hl=>ar2 us hl fun _ _=>rfl) (fun f cdv A outer s H E hr=>(by
  unfold Tf;exact (Zm (Yy (Yd Y3 (Zn Y3 (Zn Y3 (Z3 0) (Z1) (fun _ _=>rfl)) (Z3 1) (fun _ _=>rfl)) (Z1) (fun _ _=>rfl))))))
theorem Ai (Df:Def K mg "fills_of" Mr) (T:Txt K mg)   : CalD P w K mg base 1 "fills_of" N49_ false Te :=
 Wr (N:=N49_) (ps:=N49_) (st:=Mr) (k:=0) (g:=To) Df Af (fun _ _ _ _ _ _ us hl=>ar2 us hl fun _ _=>rfl) (fun f cdv A outer s H E hr=>(by
  unfold To;exact (Zm (Yy (Yd Y3 (Zn Y3 (Zn Y3 (Z3 0) (Z1) (fun _ _=>rfl)) (Z3 1) (fun _ _=>rfl)) (Z1) (fun _ _=>rfl))))))
theorem Z9s (Df:Def K mg "bits" X7) (T:Txt K mg)   : CalD P w K mg base 1 "bits" ["some"] false J7 :=
 Wr (N:=["some","number","place"]) (ps:=["some"]) (st:=X7) (k:=0) (g:=Gv) Df Ik (fun _ _ _ _ _ _ us hl=>ar1 us hl fun _=>rfl) (fun f cdv A outer s H E hr=>(by
  unfold Gv;exact (Zb (Zl 1 Ik.nd rfl (Or.inl rfl) (Wo))
  (Zb (Vz PassesOwn.never rfl (Hh (Z7 0)) (Zv 2 Ik.nd rfl (Or.inl rfl)) (Zm (Zl 1 Ik.nd rfl (Or.inl rfl) (Zg Z45 (Z3 1) (Za Td (Z1) (Z3 2))))))
  (Zm (Yy (Z7 1)))))))
theorem Z19 (Df:Def K mg "has_one" Sr) (T:Txt K mg)   : CalD P w K mg base 1 "has_one" N46_ false Sl :=
 Wr (N:=N46_) (ps:=N46_) (st:=Sr) (k:=0) (g:=Qt) Df Ao (fun _ _ _ _ _ _ us hl=>ar2 us hl fun _ _=>rfl) (fun f cdv A outer s H E hr=>(by
  unfold Qt;exact (Zm (Yy (Wz (U2 hr.units) (Za Tb (Za Ro (Z3 0) (Z3 1)) (Z1)) (Z1) (Zw _))))))
theorem Zeh (Df:Def K mg "can" Z08) (T:Txt K mg)  (C_bits:CalD P w K mg base 1 "bits" ["some"] false J7) (C_takes_of:CalD P w K mg base 1 "takes_of" N49_ false Vd):CalD P w K mg base 2 "can" N36_ false Hm :=
 Wr (N:=["graph","stand","step","takes"]) (ps:=N36_) (st:=Z08) (k:=1) (g:=O7) Df Z5u (fun _ _ _ _ _ _ us hl=>ar3 us hl fun _ _ _=>rfl) (fun f cdv A outer s H E hr=>(by
  unfold O7;exact (Zb (Zl 3 Z5u.nd rfl (Or.inl rfl) (Zr C_bits (hr.mono (by lia)) (Z0 (Zr C_takes_of (hr.mono (by lia)) (Z0 (Z7 0) (Z0 (Z7 2) Z9))) Z9)))
  (Zm (Yy (Wz (U2 hr.units) (Za Tb (Zn Y3 (Z3 1) (Z1) (fun _ _=>rfl)) (Z3 3)) (Z3 3) (Zw _)))))))
theorem Z2q (Df:Def K mg "behind" E9) (T:Txt K mg) (M_0:XMake P w K mg base 1 "Broken" 1 (gW "way")) (M_1:XMake P w K mg base 1 "Crowded" 1 (gW "way")) (C_wire_of:CalD P w K mg base 1 "wire_of" N49_ false Ts) (C_bits:CalD P w K mg base 1 "bits" ["some"] false J7) (C_has_one:CalD P w K mg base 1 "has_one" N46_ false Sl) (C_is_rise:CalD P w K mg base 1 "is_rise" N49_ false Sm) (C_fills_of:CalD P w K mg base 1 "fills_of" N49_ false Te) (C_takes_of:CalD P w K mg base 1 "takes_of" N49_ false Vd):CalX P w K mg base 3 "behind" N36_ false Rg true :=
 Z62 (N:=N17_) (ps:=N36_) (st:=E9) (k:=2) (g:=Uw) Df Sd (fun _ _ _ _ _ _ us hl=>ar3 us hl fun _ _ _=>rfl) (fun f cdv A outer s H E hr=>(by
  unfold Uw;exact (Zb (Zl 3 Sd.nd rfl (Or.inl rfl) (Zr C_wire_of (hr.mono (by lia)) (Z0 (Z7 0) (Z0 (Z7 2) Z9))))
  (Zb (T9 (V4 (U2 hr.units) (W2 C_has_one (hr.mono (by lia)) (Z0 (Yd Y3 (Z3 1) (Z1) (fun _ _=>rfl)) (Z0 (Z7 3) Z9))) (W2 C_is_rise (hr.mono (by lia)) (Z0 (Z7 0) (Z0 (Z7 2) Z9))) (Zw _)) (Zm (Ph M_0 (hr.mono (by lia)) rfl (Z0 (Ri (Qg (Z0 (Z7 2) Z9))) Z9))) Vf)
  (Zb (Zl 4 Sd.nd rfl (Or.inl rfl) (Zg Tb (Zn Y3 (Z3 1) (Z1) (fun _ _=>rfl)) (xun (m:=true) Z8i (W2 C_bits (hr.mono (by lia)) (Z0 (Zr C_takes_of (hr.mono (by lia)) (Z0 (Z7 0) (Z0 (Z7 2) Z9))) Z9)))))
  (Zb (Zl 5 Sd.nd rfl (Or.inl rfl) (Zr C_bits (hr.mono (by lia)) (Z0 (Zr C_fills_of (hr.mono (by lia)) (Z0 (Z7 0) (Z0 (Z7 2) Z9))) Z9)))
  (Zb (T9 (V4 (Hy hr.units) (Za Tb (Z3 4) (Z3 5)) (Z1) (Zw _)) (Zm (Ph M_1 (hr.mono (by lia)) rfl (Z0 (Ri (Qg (Z0 (Z7 2) Z9))) Z9))) Vf)
  (Zm (Yy (Zq (Z0 (Zg Z45 (Z3 4) (Z3 5)) (Z0 (Zg Z8w (Zn Y3 (Z3 1) (Z1) (fun _ _=>rfl)) (Za Td (Z1) (Z3 3))) Z9))))))))))))
theorem Aj (Df:Def K mg "steps_at" Tr) (T:Txt K mg)  (C_can:CalD P w K mg base 2 "can" N36_ false Hm):CalD P w K mg base 3 "steps_at" N47_ true Tk :=
 Wr (N:=N47_) (ps:=N47_) (st:=Tr) (k:=2) (g:=Tn) Df Fq (fun _ _ _ _ _ _ us hl=>ar2 us hl fun _ _=>rfl) (fun f cdv A outer s H E hr=>(by
  unfold Tn;refine (Zm (Bp ?c0))
  case c0=>exact Jx (Z6 Tr) [none,some 0,some 1] N39_ rfl (show CompOk (Z6 Tr) _ N47_ N39_ [none,some 0,some 1] from CompOk.of (by decide +kernel)) rfl (W0 (by rfl) T.b_range (Z0 (Y1 Qj (by rfl) T.b_len (by decide +kernel) (Z0 (Zn Y3 (Z3 0) (Z1) (fun _ _=>rfl)) Z9)) Z9)) (fun _ _ _ _=>⟨(Zv 0 (show (N39_:List Str).Nodup from by decide +kernel) rfl (Or.inl rfl)),(Ek (G8 (W2 C_can (hr.mono (by lia)) (Z0 (Z7 1) (Z0 (Z7 2) (Z0 (Z7 0) Z9)))))),(Z7 0)⟩) (by decide)))
theorem Zd2 (Df:Def K mg "way" Ce) (T:Txt K mg)   : CalN P w K mg base 1 "way" ["found","n"] true E7 :=
 Zae (N:=["found","n","steps","at"]) (ps:=["found","n"]) (st:=Ce) (k:=0) (g:=Oi) Df P5 (fun _ _ _ _ _ _ us hl=>ar2 us hl fun _ _=>rfl) (fun f cdv A outer s H E hr hd=>(by
  unfold Oi;exact (Zb (D7 2 P5.nd rfl (Or.inl rfl) (Qg Z9))
  (Zb (Zl 3 P5.nd rfl (Or.inl rfl) (Z7 1))
  (Zb (Z01 PassesOwn.never (V4 Zec (Zn Y3 (Zn Y3 (Z3 0) (Z3 3) (fun _ _=>rfl)) (Z1) (fun _ _=>rfl)) (Z2u (m:=true)) (Zw _)) (Zb (Jy 2 PySem.F.slot_list_append PySem.F.type_list_append Qa (Z0 (Yd Y3 (Zn Y3 (Z3 0) (Z3 3) (fun _ _=>rfl)) (Z1) (fun _ _=>rfl)) Z9))
  (Zm (Zl 3 P5.nd rfl (Or.inl rfl) (Yd Y3 (Zn Y3 (Z3 0) (Z3 3) (fun _ _=>rfl)) (Z1) (fun _ _=>rfl))))))
  (Zm (Bp (Z2k (by rfl) T.b_list (by rfl) T.b_reversed (Z0 (xo 2) Z9)))))))))
theorem Z1o (Df:Def K mg "come_to" Si) (T:Txt K mg) (M_0:XMakeN P w K mg base 1 "Broken" 1 (gW "way")) (M_1:XMakeN P w K mg base 1 "Crowded" 1 (gW "way")) (C_behind:CalX P w K mg base 3 "behind" N36_ false Rg true) (C_way:CalN P w K mg base 1 "way" ["found","n"] true E7):CalX P w K mg base 4 "come_to" N28_ false M8 :=
 B1 (N:=N28_) (ps:=N28_) (st:=Si) (k:=3) (g:=Th) Df Bf (fun _ _ _ _ _ _ us hl=>ar4 us hl fun _ _ _ _=>rfl) (fun f cdv A outer s H E hr=>(by
  unfold Th;exact (Zm (Z7r (known:=N18_) Z7x (fun _ _=>(Zm (Z9a (Z3k C_behind (hr.mono (by lia)) (Z0 (Z7 0) (Z0 (Pf (m:=false) D0 (Zn Y3 (Z3 1) (Z3 2) (fun _ _=>rfl)) R4 (Jc (Z1))) (Z0 (Z7 3) Z9))))))) (fun _ _ hd=>(Zm (Fk M_0 (hr.n.mono (by lia)).mark hd (Z0 (Ri (nop Ca (Z8v (m:=true) C_way (hr.n.mono (by lia)).mark hd (Z0 (Z7 1) (Z0 (Z7 2) Z9))) (Y7 (Qg (Z0 (Z7 3) Z9))))) Z9) (by intro z;cases z)))) (fun _ _ hd=>(Zm (Fk M_1 (hr.n.mono (by lia)).mark hd (Z0 (Ri (nop Ca (Z8v (m:=true) C_way (hr.n.mono (by lia)).mark hd (Z0 (Z7 1) (Z0 (Z7 2) Z9))) (Y7 (Qg (Z0 (Z7 3) Z9))))) Z9) (by intro z;cases z)))) T.q_0 T.q_1))))
theorem Z2v (Df:Def K mg "stands" G4) (T:Txt K mg) (M_2:XMake P w K mg base 1 "TooMany" 0 gZ) (C_steps_at:CalD P w K mg base 3 "steps_at" N47_ true Tk) (C_come_to:CalX P w K mg base 4 "come_to" N28_ false M8):CalX P w K mg base 5 "stands" N50_ true Jb :=
 B1 (N:=N12_) (ps:=N50_) (st:=G4) (k:=4) (g:=M5) Df Ug (fun _ _ _ _ _ _ us hl=>ar2 us hl fun _ _=>rfl) (fun f cdv A outer s H E hr=>(by
  unfold M5;exact (Zb (D7 2 Ug.nd rfl (Or.inl rfl) (Qg (Z0 (Zq (Z0 (Yd Y3 (Z3 0) (Z1) (fun _ _=>rfl)) (Z0 (Yd Y3 (Z3 0) (Z1) (fun _ _=>rfl)) (Z0 (Z2u (m:=false)) (Z0 (Z2u (m:=false)) Z9))))) Z9)))
  (Zb (Z9k 3 Ug.nd rfl (Or.inl rfl) (Z2r hr) (J9 (Z0 (Yd Y3 (Z3 0) (Z1) (fun _ _=>rfl)) (Z0 (Yd Y3 (Z3 0) (Z1) (fun _ _=>rfl)) Z9))) (Us))
  (Zb (Zl 4 Ug.nd rfl (Or.inl rfl) (Wo))
  (Zb (Z01 X5 (V4 Zd3 (Z3 4) (Y1 Qj (by rfl) T.b_len (by decide +kernel) (Z0 (xo 2) Z9)) (Zw _)) (Zb (Zl 5 Ug.nd rfl (Or.inl rfl) (Zr C_steps_at (hr.mono (by lia)) (Z0 (Z7 0) (Z0 (Pf (m:=false) D0 (Zn Y3 (xo 2) (Z3 4) (fun _ _=>rfl)) R4 (Jc (Z1))) Z9))))
  (Zb (Vz X5 rfl (Hh (Z7 5)) (Zv 6 Ug.nd rfl (Or.inl rfl)) (Zb (Z2o 7 Ug.nd rfl (Or.inl rfl) (Zbi C_come_to (hr.mono (by lia)) (Z0 (Z3 0) (Z0 (xo 2) (Z0 (Z3 4) (Z0 (Z3 6) Z9))))))
  (Zb (T9 (Zfd 3 (Z2r hr) (Z3 7)) (Zm Z9j) Vf)
  (Zb (T9 (V4 Zfc (Y1 Qj (by rfl) T.b_len (by decide +kernel) (Z0 (xo 2) Z9)) (Z3 1) (Zw _)) (Zm (Z5h M_2 (hr.mono (by lia)) rfl)) Vf)
  (Zb (Zad 3 (Z2r hr) (Z3 7) (Us))
  (Zm (Jy 2 PySem.F.slot_list_append PySem.F.type_list_append Qa (Z0 (Zq (Z0 (Yd Y3 (Z3 7) (Z1) (fun _ _=>rfl)) (Z0 (Yd Y3 (Z3 7) (Z1) (fun _ _=>rfl)) (Z0 (Z7 4) (Z0 (Z7 6) Z9))))) Z9))))))))
  (Zm (Zd6 4 Ug.nd rfl (Or.inl rfl) (Wo))))))
  (Zm (P7 2))))))))
theorem Fh (Df:Def K mg "is_called" Ul) (T:Txt K mg)  (C_can:CalD P w K mg base 2 "can" N36_ false Hm) (C_steps_of:CalD P w K mg base 1 "steps_of" N43_ true Mw):CalD P w K mg base 3 "is_called" N29_ false Q9 :=
 Wr (N:=N29_) (ps:=N29_) (st:=Ul) (k:=2) (g:=Uo) Df Xa (fun _ _ _ _ _ _ us hl=>ar4 us hl fun _ _ _ _=>rfl) (fun f cdv A outer s H E hr=>(by
  unfold Uo;refine (Zm (Yy (Ue (Z8h rfl) (by rfl) T.b_any (by decide +kernel) (Z0 (Y7 ?c0) Z9))))
  case c0=>exact Jx (Z6 Ul) [none,some 0,some 1] N39_ rfl (show CompOk (Z6 Ul) _ N29_ N39_ [none,some 0,some 1] from CompOk.of (by decide +kernel)) rfl (Dd (W2 C_steps_of (hr.mono (by lia)) (Z0 (Z7 0) (Z0 (Z7 2) (Z0 (Z7 3) Z9))))) (fun _ _ _ _=>⟨(Zv 0 (show (N39_:List Str).Nodup from by decide +kernel) rfl (Or.inl rfl)),L1,(Zr C_can (hr.mono (by lia)) (Z0 (Z7 1) (Z0 (Z7 2) (Z0 (Z7 0) Z9))))⟩) (by decide)))
theorem Z7k (Df:Def K mg "wants" Iy) (T:Txt K mg)  (C_is_called:CalD P w K mg base 3 "is_called" N29_ false Q9):CalD P w K mg base 4 "wants" N37_ false Mz :=
 Wr (N:=N37_) (ps:=N37_) (st:=Iy) (k:=3) (g:=Sb) Df Z3g (fun _ _ _ _ _ _ us hl=>ar3 us hl fun _ _ _=>rfl) (fun f cdv A outer s H E hr=>(by
  unfold Sb;exact (Zb (T9 (G8 (W2 C_is_called (hr.mono (by lia)) (Z0 (Z7 0) (Z0 (Z7 1) (Z0 (Z7 2) (Z0 (Us) Z9)))))) (Zm (Yy (Wo))) Vf)
  (Zb (T9 (G8 (W2 C_is_called (hr.mono (by lia)) (Z0 (Z7 0) (Z0 (Z7 1) (Z0 (Z7 2) (Z0 (Us) Z9)))))) (Zm (Yy (xun (m:=false) Zed (Z1)))) Vf)
  (Zm (Yy (Wo)))))))
theorem Zbg (Df:Def K mg "robs" Xd) (T:Txt K mg)  (C_bits:CalD P w K mg base 1 "bits" ["some"] false J7) (C_takes_of:CalD P w K mg base 1 "takes_of" N49_ false Vd) (C_fills_of:CalD P w K mg base 1 "fills_of" N49_ false Te):CalD P w K mg base 2 "robs" N44_ false Ou :=
 Wr (N:=["graph","by","lost","kept"]) (ps:=N44_) (st:=Xd) (k:=1) (g:=Ga) Df Z09 (fun _ _ _ _ _ _ us hl=>ar3 us hl fun _ _ _=>rfl) (fun f cdv A outer s H E hr=>(by
  unfold Ga;exact (Zb (Zl 3 Z09.nd rfl (Or.inl rfl) (Zg Tb (W2 C_bits (hr.mono (by lia)) (Z0 (Zr C_takes_of (hr.mono (by lia)) (Z0 (Z7 0) (Z0 (Z7 1) Z9))) Z9)) (xun (m:=true) Z8i (W2 C_bits (hr.mono (by lia)) (Z0 (Zr C_fills_of (hr.mono (by lia)) (Z0 (Z7 0) (Z0 (Z7 1) Z9))) Z9)))))
  (Zm (Yy (Wz (Hy hr.units) (Za Tb (Z3 3) (W2 C_bits (hr.mono (by lia)) (Z0 (Zr C_takes_of (hr.mono (by lia)) (Z0 (Z7 0) (Z0 (Z7 2) Z9))) Z9))) (Z1) (Zw _)))))))
theorem Ln (Df:Def K mg "touches_made" Uu) (T:Txt K mg)  (C_is_made:CalD P w K mg base 1 "is_made" N48_ false M9) (C_wire_of:CalD P w K mg base 1 "wire_of" N49_ false Ts):CalD P w K mg base 2 "touches_made" N44_ false Ut :=
 Wr (N:=N44_) (ps:=N44_) (st:=Uu) (k:=1) (g:=V3) Df Ia (fun _ _ _ _ _ _ us hl=>ar3 us hl fun _ _ _=>rfl) (fun f cdv A outer s H E hr=>(by
  unfold V3;exact (Zm (Yy (xor (m:=false) (W2 C_is_made (hr.mono (by lia)) (Z0 (Z7 0) (Z0 (Zr C_wire_of (hr.mono (by lia)) (Z0 (Z7 0) (Z0 (Z7 1) Z9))) Z9))) (Zal (Zr C_is_made (hr.mono (by lia)) (Z0 (Z7 0) (Z0 (Zr C_wire_of (hr.mono (by lia)) (Z0 (Z7 0) (Z0 (Z7 2) Z9))) Z9)))))))))
theorem Z4t (Df:Def K mg "rivals" Ej) (T:Txt K mg)  (C_touches_made:CalD P w K mg base 2 "touches_made" N44_ false Ut) (C_robs:CalD P w K mg base 2 "robs" N44_ false Ou):CalD P w K mg base 3 "rivals" ["graph"] true Ez :=
 Wr (N:=["graph","pairs","by","lost"]) (ps:=["graph"]) (st:=Ej) (k:=2) (g:=M6) Df Sf (fun _ _ _ _ _ _ us hl=>ar1 us hl fun _=>rfl) (fun f cdv A outer s H E hr=>(by
  unfold M6;exact (Zb (D7 1 Sf.nd rfl (Or.inl rfl) (Qg Z9))
  (Zb (Vz PassesOwn.never rfl (W0 (by rfl) T.b_range (Z0 (Y1 Qj (by rfl) T.b_len (by decide +kernel) (Z0 (Zn Y3 (Z3 0) (Z1) (fun _ _=>rfl)) Z9)) Z9)) (Zv 2 Sf.nd rfl (Or.inl rfl)) (Zm (Vz PassesOwn.never rfl (W0 (by rfl) T.b_range (Z0 (Y1 Qj (by rfl) T.b_len (by decide +kernel) (Z0 (Zn Y3 (Z3 0) (Z1) (fun _ _=>rfl)) Z9)) Z9)) (Zv 3 Sf.nd rfl (Or.inl rfl)) (Zm (T9 (Nk.pt (R7 (V4 (Hy hr.units) (Z3 2) (Z3 3) (Zw _)) (R7 (G8 (W2 C_touches_made (hr.mono (by lia)) (Z0 (Z7 0) (Z0 (Z7 2) (Z0 (Z7 3) Z9))))) (Mg (G8 (W2 C_robs (hr.mono (by lia)) (Z0 (Z7 0) (Z0 (Z7 2) (Z0 (Z7 3) Z9))))))))) (Zm (Jy 1 PySem.F.slot_list_append PySem.F.type_list_append Qa (Z0 (Zq (Z0 (Z7 2) (Z0 (Z7 3) Z9))) Z9))) Vf)))))
  (Zm (P7 1))))))
theorem Z81 (Df:Def K mg "sound" Ir) (T:Txt K mg) (M_3:XMake P w K mg base 1 "CalledOff" 3 (gC "way" "lost" "by")) (C_stands:CalX P w K mg base 5 "stands" N50_ true Jb) (C_rivals:CalD P w K mg base 3 "rivals" ["graph"] true Ez) (C_steps_at:CalD P w K mg base 3 "steps_at" N47_ true Tk) (C_way:CalD P w K mg base 1 "way" ["found","n"] true E7):CalX P w K mg base 6 "sound" N50_ false Q4 :=
 B1 (N:=N10_) (ps:=N50_) (st:=Ir) (k:=5) (g:=Jt) Df Qc (fun _ _ _ _ _ _ us hl=>ar2 us hl fun _ _=>rfl) (fun f cdv A outer s H E hr=>(by
  unfold Jt;exact (Zb (Z2o 2 Qc.nd rfl (Or.inl rfl) (Z3k C_stands (hr.mono (by lia)) (Z0 (Z7 0) (Z0 (Z7 1) Z9))))
  (Zb (Zl 3 Qc.nd rfl (Or.inl rfl) (Zr C_rivals (hr.mono (by lia)) (Z0 (Z7 0) Z9)))
  (Zb (Vz X5 rfl (Bi (by rfl) T.b_enumerate (Z7 2)) (Ep (n:=2) rfl (Yz (Zv 4 Qc.nd rfl (Or.inl rfl)) (Yz (Zv 5 Qc.nd rfl (Or.inl rfl)) Ms))) (Zb (Zl 6 Qc.nd rfl (Or.inl rfl) (Zr C_steps_at (hr.mono (by lia)) (Z0 (Z7 0) (Z0 (Pf (m:=false) D0 (Z3 5) R4 (Jc (Z1))) Z9))))
  (Zm (Vz X5 rfl (Hh (Z7 3)) (Ep (n:=2) rfl (Yz (Zv 7 Qc.nd rfl (Or.inl rfl)) (Yz (Zv 8 Qc.nd rfl (Or.inl rfl)) Ms))) (Zm (T9 (Nk.pt (R7 (V4 (Z8c hr.units) (Z3 7) (Z3 6) (by rfl)) (Mg (V4 (Z8c hr.units) (Z3 8) (Z3 6) (by rfl))))) (Zm (Ph M_3 (hr.mono (by lia)) rfl (Z0 (Zr C_way (hr.mono (by lia)) (Z0 (Z7 2) (Z0 (Z7 4) Z9))) (Z0 (Z7 8) (Z0 (Z7 7) Z9))))) Vf))))))
  (Zm (Yy (Z7 2))))))))
theorem Aq (Df:Def K mg "_law_mix" Mq) (T:Txt K mg)   : CalD P w K mg base 1 "_law_mix" N38_ false Yk :=
 Wr (N:=["_law_script","_law_k","_law_number"]) (ps:=N38_) (st:=Mq) (k:=0) (g:=Q0) Df Ru (fun _ _ _ _ _ _ us hl=>ar2 us hl fun _ _=>rfl) (fun f cdv A outer s H E hr=>(by
  unfold Q0;exact (Zb (Zl 2 Ru.nd rfl (Or.inl rfl) (Zg Y6 (Za M2 (Z1) (Z3 1)) (Z1)))
  (Zb (T9 (V4 Zd3 (Z3 1) (Y1 Qj (by rfl) T.b_len (by decide +kernel) (Z0 (Z3 0) Z9)) (Zw _)) (Zm (Zl 2 Ru.nd rfl (Or.inl rfl) (Zg Y6 (Z3 2) (Za M2 (Zn Y3 (Z3 0) (Z3 1) (fun _ _=>rfl)) (Z1))))) Vf)
  (Zm (Yy (Zg Yl (Za M2 (Z3 2) (Z1)) (Z1))))))))
theorem Xv (Df:Def K mg "_law_word" Jk) (T:Txt K mg)   : CalD P w K mg base 1 "_law_word" N42_ false Wb :=
 Wr (N:=N6_) (ps:=N42_) (st:=Jk) (k:=0) (g:=Uf) Df W5 (fun _ _ _ _ _ _ us hl=>ar2 us hl fun _ _=>rfl) (fun f cdv A outer s H E hr=>(by
  unfold Uf;exact (Zb (Zl 2 W5.nd rfl (Or.inl rfl) (Yo))
  (Zb (Zl 3 W5.nd rfl (Or.inl rfl) (Zg Y6 (Z1) (Za Yl (Z3 0) (Z1))))
  (Zb (Zl 4 W5.nd rfl (Or.inl rfl) (Zg Yl (Za Yg (Z3 0) (Z1)) (Z3 3)))
  (Zb (Zl 5 W5.nd rfl (Or.inl rfl) (Yo))
  (Zb (Vz PassesOwn.never rfl (W0 (by rfl) T.b_range (Z0 (Z3 3) Z9)) (Zv 6 W5.nd rfl (Or.inl rfl)) (Zb (Zl 7 W5.nd rfl (Or.inl rfl) (Wo))
  (Zb (T9 (V4 (U2 hr.units) (Z3 6) (Z3 4) (Zw _)) (Zm (Zl 7 W5.nd rfl (Or.inl rfl) (Z7 1))) Vf)
  (Zm (Zl 5 W5.nd rfl (Or.inl rfl) (Zg Y6 (Z3 5) (Zn Y3 (Z3 2) (Za Yl (Za Y6 (Za Y6 (Za Yg (Z3 0) (Z1)) (Za M2 (Z1) (Z3 6))) (Za M2 (Z1) (Z3 7))) (Z1)) (fun _ _=>rfl))))))))
  (Zb (T9 (V4 (Z8c hr.units) (Z3 5) (Y7 (Qg (Z0 (Yo) (Z0 (Yo) (Z0 (Yo) (Z0 (Yo) (Z0 (Yo) Z9))))))) (by rfl)) (Zm (Zl 5 W5.nd rfl (Or.inl rfl) (Zg Y6 (Ud D0 (Z3 5) (Jc (Z1)) R4) (Me)))) Vf)
  (Zm (Yy (Z7 5)))))))))))
theorem Pp (Df:Def K mg "_law_order" Qq) (T:Txt K mg)  (C__law_mix:CalD P w K mg base 1 "_law_mix" N38_ false Yk):CalD P w K mg base 2 "_law_order" N22_ true Qp :=
 Wr (N:=N7_) (ps:=N22_) (st:=Qq) (k:=1) (g:=Vv) Df Vg (fun _ _ _ _ _ _ us hl=>ar3 us hl fun _ _ _=>rfl) (fun f cdv A outer s H E hr=>(by
  unfold Vv;exact (Zb (D7 3 Vg.nd rfl (Or.inl rfl) (Qg Z9))
  (Zb (Vz PassesOwn.never rfl (W0 (by rfl) T.b_range (Z0 (Z3 2) Z9)) (Zv 4 Vg.nd rfl (Or.inl rfl)) (Zb (Zl 5 Vg.nd rfl (Or.inl rfl) (Zr C__law_mix (hr.mono (by lia)) (Z0 (Z7 0) (Z0 (Zg Y6 (Z3 1) (Z3 4)) Z9))))
  (Zb (Zl 6 Vg.nd rfl (Or.inl rfl) (Zg Yl (Z3 5) (Za Y6 (Y1 Qj (by rfl) T.b_len (by decide +kernel) (Z0 (xo 3) Z9)) (Z1))))
  (Zb (Jy 3 PySem.F.slot_list_insert PySem.F.type_list_insert F4 (Z0 (Z7 6) (Z0 (Z7 4) Z9)))
  (Zb (Zl 7 Vg.nd rfl (Or.inl rfl) (Zg Yl (Za Yg (Z3 5) (Z1)) (Za Lp (Y1 Qj (by rfl) T.b_len (by decide +kernel) (Z0 (xo 3) Z9)) (Z3 6))))
  (Zm (Jy 3 PySem.F.slot_list_insert PySem.F.type_list_insert F4 (Z0 (Zg Y6 (Za Y6 (Z3 6) (Z1)) (Z3 7)) (Z0 (Z7 4) Z9)))))))))
  (Zm (P7 3))))))
theorem Ni (Df:Def K mg "_law_arrows" Q6) (T:Txt K mg)  (C__law_mix:CalD P w K mg base 1 "_law_mix" N38_ false Yk):CalD P w K mg base 2 "_law_arrows" N15_ true Q2 :=
 Wr (N:=N5_) (ps:=N15_) (st:=Q6) (k:=1) (g:=Vh) Df V2 (fun _ _ _ _ _ _ us hl=>ar4 us hl fun _ _ _ _=>rfl) (fun f cdv A outer s H E hr=>(by
  unfold Vh;exact (Zb (D7 4 V2.nd rfl (Or.inl rfl) (Qg Z9))
  (Zb (Vz PassesOwn.never rfl (W0 (by rfl) T.b_range (Z0 (Z3 2) Z9)) (Zv 5 V2.nd rfl (Or.inl rfl)) (Zb (Zl 6 V2.nd rfl (Or.inl rfl) (Zr C__law_mix (hr.mono (by lia)) (Z0 (Z7 0) (Z0 (Zg Y6 (Z3 1) (Z3 5)) Z9))))
  (Zb (Zl 7 V2.nd rfl (Or.inl rfl) (Zg Yl (Z3 6) (Z3 3)))
  (Zb (Zl 8 V2.nd rfl (Or.inl rfl) (Zg Yl (Za Yg (Z3 6) (Z1)) (Z3 3)))
  (Zm (T9 (Nk.pt (R7 (V4 (Hy hr.units) (Z3 7) (Z3 8) (Zw _)) (Mg (V4 (Z8k hr.units) (J9 (Z0 (Ue (Z3w rfl) (by rfl) T.b_min (by decide +kernel) (Z0 (Z3 7) (Z0 (Z3 8) Z9))) (Z0 (Ue (Z5r rfl) (by rfl) T.b_max (by decide +kernel) (Z0 (Z3 7) (Z0 (Z3 8) Z9))) Z9))) (xo 4) (by rfl))))) (Zm (Jy 4 PySem.F.slot_list_append PySem.F.type_list_append Qa (Z0 (Zq (Z0 (Ue (Z3w rfl) (by rfl) T.b_min (by decide +kernel) (Z0 (Z3 7) (Z0 (Z3 8) Z9))) (Z0 (Ue (Z5r rfl) (by rfl) T.b_max (by decide +kernel) (Z0 (Z3 7) (Z0 (Z3 8) Z9))) Z9))) Z9))) Vf))))))
  (Zm (P7 4))))))
theorem Px (Df:Def K mg "_law_graph" Ya) (T:Txt K mg)  (C__law_order:CalD P w K mg base 2 "_law_order" N22_ true Qp) (C__law_mix:CalD P w K mg base 1 "_law_mix" N38_ false Yk) (C__law_arrows:CalD P w K mg base 2 "_law_arrows" N15_ true Q2) (C__law_word:CalD P w K mg base 1 "_law_word" N42_ false Wb):CalD P w K mg base 3 "_law_graph" N16_ false Qs :=
 Wr (N:=N0_) (ps:=N16_) (st:=Ya) (k:=2) (g:=Vs) Df Zj (fun _ _ _ _ _ _ us hl=>ar4 us hl fun _ _ _ _=>rfl) (fun f cdv A outer s H E hr=>(by
  unfold Vs;refine (Zb (Zl 4 Zj.nd rfl (Or.inl rfl) (Zr C__law_order (hr.mono (by lia)) (Z0 (Z7 0) (Z0 (Z7 1) (Z0 (Z7 2) Z9)))))
  (Zb (Zl 5 Zj.nd rfl (Or.inl rfl) (Zg M2 (Z1) (Z3 2)))
  (Zb (Zl 6 Zj.nd rfl (Or.inl rfl) (Zr C__law_mix (hr.mono (by lia)) (Z0 (Z7 0) (Z0 (Zg Y6 (Z3 1) (Z3 2)) Z9))))
  (Zb (Zl 7 Zj.nd rfl (Or.inr rfl) (Zr C__law_arrows (hr.mono (by lia)) (Z0 (Z7 0) (Z0 (Zg Y6 (Za Y6 (Z3 1) (Z3 2)) (Z1)) (Z0 (Z7 3) (Z0 (Z7 5) Z9))))))
  (Zb (T9 (V4 (U2 hr.units) (Za Yl (Z3 6) (Z1)) (Z1) (Zw _)) (Zm (Zl 7 Zj.nd rfl (Or.inr rfl) (Zg Y6 (Z3 7) (Y7 ?c0)))) Vf)
  (Zb (Vz PassesOwn.never rfl (W0 (by rfl) T.b_range (Z0 (Z3 2) Z9)) (Zv 8 Zj.nd rfl (Or.inl rfl)) (Zb (Zl 9 Zj.nd rfl (Or.inr rfl) (xbm (m:=false) PySem.F.plainAttrs_list PySem.F.slot_list_index PySem.F.type_list_index Ab (Z3 4) (Z0 (Z3 8) Z9)))
  (Zb (Zl 10 Zj.nd rfl (Or.inr rfl) (Zg Y6 (Za Y6 (Z3 9) (Z1)) (xbm (m:=true) PySem.F.plainAttrs_list PySem.F.slot_list_index PySem.F.type_list_index Ab (Ud D0 (Z3 4) (Jc (Za Y6 (Z3 9) (Z1))) R4) (Z0 (Z3 8) Z9))))
  (Zm (Zl 7 Zj.nd rfl (Or.inr rfl) (Zg Y6 (Y7 ?c1) (Y7 (Qg (Z0 (Zq (Z0 (Z7 9) (Z0 (Z7 10) Z9))) Z9)))))))))
  (Zb (Z5n 11 Zj.nd rfl (Or.inl rfl) (Z6 Ya) [none] ["_law_d"] rfl (show CompOk (Z6 Ya) _ N0_ ["_law_d"] [none] from CompOk.of (by decide +kernel)) rfl (Dd (Z3 4)) (fun _ _ _ _=>⟨(Zv 0 (show (["_law_d"]:List Str).Nodup from by decide +kernel) rfl (Or.inl rfl)),L1⟩) (by decide))
  (Zb (Z5n 12 Zj.nd rfl (Or.inl rfl) (Z6 Ya) [none] ["_law_d"] rfl (show CompOk (Z6 Ya) _ N0_ ["_law_d"] [none] from CompOk.of (by decide +kernel)) rfl (Dd (Z3 4)) (fun _ _ _ _=>⟨(Zv 0 (show (["_law_d"]:List Str).Nodup from by decide +kernel) rfl (Or.inl rfl)),L1⟩) (by decide))
  (Zb (Zl 13 Zj.nd rfl (Or.inl rfl) (Wo))
  (Zb (Zl 14 Zj.nd rfl (Or.inl rfl) (Zg Yl (Za Yg (Z3 6) (Z1)) (Z1)))
  (Zb (Vz PassesOwn.never rfl (Hh (Z7 7)) (Ep (n:=2) rfl (Yz (Zv 15 Zj.nd rfl (Or.inl rfl)) (Yz (Zv 16 Zj.nd rfl (Or.inl rfl)) Ms))) (Zb (P3 12 (Z3 15) (fun _ _=>rfl) (Z0 (Z7 14) Z9))
  (Zb (P3 11 (Z3 16) (fun _ _=>rfl) (Z0 (Z7 14) Z9))
  (Zb (P3 12 (Z3 16) (fun _ _=>rfl) (Z0 (Zg Y6 (Z3 14) (Z1)) Z9))
  (Zb (P3 11 (Z3 15) (fun _ _=>rfl) (Z0 (Zg Y6 (Z3 14) (Z1)) Z9))
  (Zb (Zl 13 Zj.nd rfl (Or.inl rfl) (Zg Z45 (Z3 13) (Za Td (Z1) (Za Y6 (Z3 14) (Z1)))))
  (Zm (Zl 14 Zj.nd rfl (Or.inl rfl) (Zg Y6 (Z3 14) (Z1))))))))))
  (Zb (Zl 17 Zj.nd rfl (Or.inl rfl) (Zg Yl (Za Yg (Z3 6) (Z1)) (Za Td (Z1) (Z3 2))))
  (Zb (Zl 18 Zj.nd rfl (Or.inl rfl) (Z7 17))
  (Zb (D7 19 Zj.nd rfl (Or.inl rfl) (Qg Z9))
  (Zb (Vz PassesOwn.never rfl (Bi (by rfl) T.b_enumerate (Z7 4)) (Ep (n:=2) rfl (Yz (Zv 20 Zj.nd rfl (Or.inl rfl)) (Yz (Zv 8 Zj.nd rfl (Or.inl rfl)) Ms))) (Zb (Jy 19 PySem.F.slot_list_append PySem.F.type_list_append Qa (Z0 (Zq (Z0 (Z7 8) (Z0 (Wz (U2 hr.units) (Za Tb (Za Ro (Z3 18) (Z3 8)) (Z1)) (Z1) (Zw _)) (Z0 (Tj (m:=false) Vw (by rfl) T.b_tuple (by decide +kernel) (Z0 (Y7 (Oo S6 (by rfl) T.b_sorted (by decide +kernel) (Z0 (Zdz 11 (Z3 20) (fun _ _=>rfl)) Z9))) Z9)) (Z0 (Tj (m:=false) Vw (by rfl) T.b_tuple (by decide +kernel) (Z0 (Y7 (Oo S6 (by rfl) T.b_sorted (by decide +kernel) (Z0 (Zdz 12 (Z3 20) (fun _ _=>rfl)) Z9))) Z9)) Z9))))) Z9))
  (Zm (Zl 18 Zj.nd rfl (Or.inl rfl) (Zg Z8w (Z3 18) (Za Td (Z1) (Z3 8)))))))
  (Zb (Zl 21 Zj.nd rfl (Or.inl rfl) (Zg Yl (Za Yg (Z3 6) (Z1)) (Z3 5)))
  (Zb (D7 19 Zj.nd rfl (Or.inl rfl) (nop Ca (Ud D0 (xo 19) (Jc (Z3 21)) R4) (Ud D0 (xo 19) R4 (Jc (Z3 21)))))
  (Zb (Zl 22 Zj.nd rfl (Or.inr rfl) (Zg Yg (Z3 6) (Z1)))
  (Zb (X4 23 Zj.nd rfl (Or.inl rfl) (Z6 Ya) [none,some 22,some 0,some 1] N14_ rfl (show CompOk (Z6 Ya) _ N0_ N14_ [none,some 22,some 0,some 1] from CompOk.of (by decide +kernel)) rfl (W0 (by rfl) T.b_range (Z0 (Z3 2) Z9)) (fun _ _ _ _=>⟨(Zv 0 (show (N14_:List Str).Nodup from by decide +kernel) rfl (Or.inl rfl)),L1,(Zq (Z0 (Zr C__law_word (hr.mono (by lia)) (Z0 (Z7 1) (Z0 (Z7 0) Z9))) (Z0 (Yd Y3 (Y7 (Qg (Z0 (Yo) (Z0 (Yo) Z9)))) (Za Yl (Za Yg (W2 C__law_mix (hr.mono (by lia)) (Z0 (Z7 2) (Z0 (Zg Y6 (Z3 3) (Z3 0)) Z9))) (Z1)) (Z1)) (fun _ _=>rfl)) Z9)))⟩) (by decide))
  (Zm (Yy (Zq (Z0 (Tj (m:=false) Vw (by rfl) T.b_tuple (by decide +kernel) (Z0 (Z3 23) Z9)) (Z0 (Tj (m:=false) Vw (by rfl) T.b_tuple (by decide +kernel) (Z0 (xo 19) Z9)) (Z0 (Z7 13) (Z0 (Z7 17) Z9))))))))))))))))))))))))))
  case c0=>exact Jx (Z6 Ya) [none,some 7] N40_ rfl (show CompOk (Z6 Ya) _ N0_ N40_ [none,some 7] from CompOk.of (by decide +kernel)) rfl (W0 (by rfl) T.b_range (Z0 (Za Lp (Z3 5) (Z1)) Z9)) (fun _ _ _ _=>⟨(Zv 0 (show (N40_:List Str).Nodup from by decide +kernel) rfl (Or.inl rfl)),(Ek (V4 (Z8k hr.units) (J9 (Z0 (Z7 0) (Z0 (Zg Y6 (Z3 0) (Z1)) Z9))) (Z3 1) (by rfl))),(Zq (Z0 (Z7 0) (Z0 (Zg Y6 (Z3 0) (Z1)) Z9)))⟩) (by decide)
  case c1=>exact Jx (Z6 Ya) [none,some 9,some 10] N23_ rfl (show CompOk (Z6 Ya) _ N0_ N23_ [none,some 9,some 10] from CompOk.of (by decide +kernel)) rfl (Dd (Z3 7)) (fun _ _ _ _=>⟨(Zv 0 (show (N23_:List Str).Nodup from by decide +kernel) rfl (Or.inl rfl)),(Ek (V4 (Hy hr.units) (Z3 0) (J9 (Z0 (Z7 1) (Z0 (Z7 2) Z9))) (Zw _))),(Z7 0)⟩) (by decide)))
theorem N5 (Df:Def K mg "_law_choice" Q1) (T:Txt K mg)  (C__law_mix:CalD P w K mg base 1 "_law_mix" N38_ false Yk) (C__law_word:CalD P w K mg base 1 "_law_word" N42_ false Wb):CalD P w K mg base 2 "_law_choice" N31_ false Q7 :=
 Wr (N:=N3_) (ps:=N31_) (st:=Q1) (k:=1) (g:=Vi) Df Zx (fun _ _ _ _ _ _ us hl=>ar2 us hl fun _ _=>rfl) (fun f cdv A outer s H E hr=>(by
  unfold Vi;exact (Zb (Zl 2 Zx.nd rfl (Or.inl rfl) (Zr C__law_mix (hr.mono (by lia)) (Z0 (Z7 0) (Z0 (Z7 1) Z9))))
  (Zb (Zl 3 Zx.nd rfl (Or.inl rfl) (Zg Yl (Za Yg (Z3 2) (Z1)) (Z1)))
  (Zb (Zl 4 Zx.nd rfl (Or.inl rfl) (Zg Yl (Za Yg (Z3 2) (Z1)) (Z1)))
  (Zb (Zl 5 Zx.nd rfl (Or.inl rfl) (Ri (Qg Z9)))
  (Zb (D7 6 Zx.nd rfl (Or.inl rfl) (Qg (Z0 (Zq (Z0 (Zr C__law_word (hr.mono (by lia)) (Z0 (Zg Yg (Z3 2) (Z1)) (Z0 (Wo) Z9))) (Z0 (Yo) Z9))) Z9)))
  (Zb (Vz PassesOwn.never rfl (W0 (by rfl) T.b_range (Z0 (Za Y6 (Z1) (Za Yl (Z3 2) (Z1))) Z9)) (Zv 7 Zx.nd rfl (Or.inl rfl)) (Zb (Zl 8 Zx.nd rfl (Or.inl rfl) (Zr C__law_mix (hr.mono (by lia)) (Z0 (Z7 0) (Z0 (Zg Y6 (Za Y6 (Z3 1) (Z1)) (Z3 7)) Z9))))
  (Zb (Zl 9 Zx.nd rfl (Or.inl rfl) (Zg Y6 (Z1) (Za M2 (Z3 7) (Za Yl (Za Yg (Z3 2) (Z1)) (Z1)))))
  (Zb (Zl 10 Zx.nd rfl (Or.inl rfl) (Wz (U2 hr.units) (Za Tb (Za Ro (Z3 4) (Z3 9)) (Z1)) (Z1) (Zw _)))
  (Zb (Zl 11 Zx.nd rfl (Or.inl rfl) (Zg Y6 (Za Y6 (Z3 3) (Z1)) (Za M2 (Z1) (Z3 7))))
  (Zb (Jy 6 PySem.F.slot_list_append PySem.F.type_list_append Qa (Z0 (Zq (Z0 (Zr C__law_word (hr.mono (by lia)) (Z0 (Zg Yg (Z3 2) (Z1)) (Z0 (Zg Y6 (Z3 7) (Z1)) Z9))) (Z0 (Yd Y3 (Y7 (Qg (Z0 (Yo) (Z0 (Yo) (Z0 (Yo) Z9))))) (Za M2 (Za Yl (Z3 8) (Z1)) (Za Yl (Za Yg (Z3 2) (Z1)) (Z1))) (fun _ _=>rfl)) Z9))) Z9))
  (Zm (T9 (V4 (U2 hr.units) (Za Yl (Za Yg (Z3 8) (Z1)) (Z1)) (Z1) (Zw _)) (Zm (Zl 5 Zx.nd rfl (Or.inl rfl) (Zg Y6 (Z3 5) (Y7 (Qg (Z0 (Zq (Z0 (Z7 9) (Z0 (Z7 10) (Z0 (Zq (Z0 (Z7 3) Z9)) (Z0 (Zq (Z0 (Z7 11) Z9)) Z9))))) (Z0 (Zq (Z0 (Z7 9) (Z0 (Zdl (m:=false) (Z3 10)) (Z0 (Zq (Z0 (Z7 11) Z9)) (Z0 (Zq (Z0 (Z7 3) Z9)) Z9))))) Z9))))))) (Zb (Zl 5 Zx.nd rfl (Or.inl rfl) (Zg Y6 (Z3 5) (Y7 (Qg (Z0 (Zq (Z0 (Z7 9) (Z0 (Z7 10) (Z0 (Zq (Z0 (Z7 3) Z9)) (Z0 (Zq (Z0 (Z7 11) Z9)) Z9))))) (Z0 (Zq (Z0 (Wo) (Z0 (Wz (U2 hr.units) (Za Tb (Z3 4) (Z1)) (Z1) (Zw _)) (Z0 (Zq (Z0 (Z7 11) Z9)) (Z0 (Zq (Z0 (Zg Y6 (Z3 11) (Z1)) Z9)) Z9))))) Z9))))))
  (Zm (Zl 5 Zx.nd rfl (Or.inl rfl) (Zg Y6 (Z3 5) (Y7 (Qg (Z0 (Zq (Z0 (Z7 9) (Z0 (Zdl (m:=false) (Z3 10)) (Z0 (Zq (Z0 (Zg Y6 (Z3 11) (Z1)) Z9)) (Z0 (Zq (Z0 (Zg Y6 (Z3 11) (Z1)) Z9)) Z9))))) (Z0 (Zq (Z0 (Wo) (Z0 (Wz (U2 hr.units) (Za Tb (Z3 4) (Z1)) (Z1) (Zw _)) (Z0 (Zq (Z0 (Zg Y6 (Z3 11) (Z1)) Z9)) (Z0 (Zq (Z0 (Z7 3) Z9)) Z9))))) Z9))))))))))))))))
  (Zb (Zl 12 Zx.nd rfl (Or.inl rfl) (Zg Yl (Za Yg (Z3 2) (Z1)) (Y1 Qj (by rfl) T.b_len (by decide +kernel) (Z0 (Z3 5) Z9))))
  (Zm (Yy (Zq (Z0 (Tj (m:=false) Vw (by rfl) T.b_tuple (by decide +kernel) (Z0 (xo 6) Z9)) (Z0 (Tj (m:=false) Vw (by rfl) T.b_tuple (by decide +kernel) (Z0 (Za Y6 (Ud D0 (Z3 5) (Jc (Z3 12)) R4) (Ud D0 (Z3 5) R4 (Jc (Z3 12)))) Z9)) (Z0 (Zg Td (Z1) (Z3 3)) (Z0 (Zg Yl (Z3 4) (Za Td (Z1) (Y1 Qj (by rfl) T.b_len (by decide +kernel) (Z0 (xo 6) Z9)))) Z9))))))))))))))))
theorem Ls (Df:Def K mg "_law_lookers" Wv) (T:Txt K mg)   : CalD P w K mg base 1 "_law_lookers" N27_ false Ux :=
 Wr (N:=N2_) (ps:=N27_) (st:=Wv) (k:=0) (g:=V1) Df Zp (fun _ _ _ _ _ _ us hl=>ar2 us hl fun _ _=>rfl) (fun f cdv A outer s H E hr=>(by
  unfold V1;refine (Zb (Z8l (Z7 0) (Ep (n:=4) rfl (Yz (Zv 2 Zp.nd rfl (Or.inl rfl)) (Yz (Zv 3 Zp.nd rfl (Or.inl rfl)) (Yz (Zv 4 Zp.nd rfl (Or.inl rfl)) (Yz (Zv 5 Zp.nd rfl (Or.inl rfl)) Ms))))))
  (Zb (Zl 6 Zp.nd rfl (Or.inr rfl) (Z7 4))
  (Zb (Vz PassesOwn.never rfl (Hh (Z7 3)) (Zv 7 Zp.nd rfl (Or.inl rfl)) (Zm (Vz PassesOwn.never rfl (Hh (Zg An (Zn Y3 (Z3 7) (Z1) (fun _ _=>rfl)) (Zn Y3 (Z3 7) (Z1) (fun _ _=>rfl)))) (Zv 8 Zp.nd rfl (Or.inl rfl)) (Zm (Zl 6 Zp.nd rfl (Or.inr rfl) (Zg Z45 (Z3 6) (Za Td (Z1) (Z3 8))))))))
  (Zb (Zl 8 Zp.nd rfl (Or.inl rfl) (Yd Y3 (Y7 ?c0) (Za Yl (Z3 1) (Z1)) (fun _ _=>rfl)))
  (Zb (D7 9 Zp.nd rfl (Or.inl rfl) (Qg Z9))
  (Zb (Vz PassesOwn.never rfl (Bi (by rfl) T.b_enumerate (Z7 3)) (Ep (n:=2) rfl (Yz (Zv 10 Zp.nd rfl (Or.inl rfl)) (Yz (Ep (n:=4) rfl (Yz (Zv 11 Zp.nd rfl (Or.inl rfl)) (Yz (Zv 12 Zp.nd rfl (Or.inl rfl)) (Yz (Zv 13 Zp.nd rfl (Or.inl rfl)) (Yz (Zv 14 Zp.nd rfl (Or.inl rfl)) Ms))))) Ms))) (Zb (T9 (V4 (U2 hr.units) (Za Tb (Za Ro (Za Yg (Z3 1) (Z1)) (Z3 10)) (Z1)) (Z1) (Zw _)) (Zb (Zl 13 Zp.nd rfl (Or.inl rfl) (Tj (m:=false) Vw (by rfl) T.b_tuple (by decide +kernel) (Z0 (Y7 (Oo S6 (by rfl) T.b_sorted (by decide +kernel) (Z0 (Za An (Z3 13) (J9 (Z0 (Z7 8) Z9))) Z9))) Z9)))
  (Zm (Zl 14 Zp.nd rfl (Or.inl rfl) (Tj (m:=false) Vw (by rfl) T.b_tuple (by decide +kernel) (Z0 (Y7 (Oo S6 (by rfl) T.b_sorted (by decide +kernel) (Z0 (Za An (Z3 14) (J9 (Z0 (Z7 8) Z9))) Z9))) Z9))))) Vf)
  (Zm (Jy 9 PySem.F.slot_list_append PySem.F.type_list_append Qa (Z0 (Zq (Z0 (Z7 11) (Z0 (Z7 12) (Z0 (Z7 13) (Z0 (Z7 14) Z9))))) Z9)))))
  (Zm (Yy (Zq (Z0 (Z7 2) (Z0 (Tj (m:=false) Vw (by rfl) T.b_tuple (by decide +kernel) (Z0 (xo 9) Z9)) (Z0 (Zg Z45 (Z3 4) (Za Td (Z1) (Z3 8))) (Z0 (Z7 5) Z9)))))))))))))
  case c0=>exact Jx (Z6 Wv) [none,some 6] N41_ rfl (show CompOk (Z6 Wv) _ N2_ N41_ [none,some 6] from CompOk.of (by decide +kernel)) rfl (W0 (by rfl) T.b_range (Z0 (Z1) Z9)) (fun _ _ _ _=>⟨(Zv 0 (show (N41_:List Str).Nodup from by decide +kernel) rfl (Or.inl rfl)),(Ek (V4 (U2 hr.units) (Za Tb (Za Ro (Z3 1) (Z3 0)) (Z1)) (Z1) (Zw _))),(Z7 0)⟩) (by decide)))
theorem C3 (Df:Def K mg "_law_can" Tu) (T:Txt K mg)   : CalD P w K mg base 1 "_law_can" N32_ false Tw :=
 Wr (N:=N32_) (ps:=N32_) (st:=Tu) (k:=0) (g:=Tt) Df Fv (fun _ _ _ _ _ _ us hl=>ar2 us hl fun _ _=>rfl) (fun f cdv A outer s H E hr=>(by
  unfold Tt;refine (Zm (Yy (Ue (Zcs rfl) (by rfl) T.b_all (by decide +kernel) (Z0 (Y7 ?c0) Z9))))
  case c0=>exact Jx (Z6 Tu) [none,some 1] N35_ rfl (show CompOk (Z6 Tu) _ N32_ N35_ [none,some 1] from CompOk.of (by decide +kernel)) rfl (Dd (Zn Y3 (Z3 0) (Z1) (fun _ _=>rfl))) (fun _ _ _ _=>⟨(Zv 0 (show (N35_:List Str).Nodup from by decide +kernel) rfl (Or.inl rfl)),L1,(Wz (U2 hr.units) (Za Tb (Za Ro (Z3 1) (Z3 0)) (Z1)) (Z1) (Zw _))⟩) (by decide)))
theorem Fs (Df:Def K mg "_law_done" Um) (T:Txt K mg)   : CalD P w K mg base 1 "_law_done" N33_ false Jr :=
 Wr (N:=N11_) (ps:=N33_) (st:=Um) (k:=0) (g:=Uk) Df Vc (fun _ _ _ _ _ _ us hl=>ar2 us hl fun _ _=>rfl) (fun f cdv A outer s H E hr=>(by
  unfold Uk;refine (Zb (Z8l (Z7 1) (Ep (n:=2) rfl (Yz (Zv 2 Vc.nd rfl (Or.inr rfl)) (Yz (Zv 3 Vc.nd rfl (Or.inl rfl)) Ms))))
  (Zb (T9 (V4 (U2 hr.units) (Z2w (m:=true) (U2 hr.units) (Za Tb (Za Ro (Z3 3) (Zn Y3 (Z3 0) (Z1) (fun _ _=>rfl))) (Z1)) (Z1) (Zw _)) (Zn Y3 (Z3 0) (Z1) (fun _ _=>rfl)) (Zw _)) (Zm (Yy (Yo))) Vf)
  (Zb (Vz PassesOwn.never rfl (Hh (Yd Y3 (Z3 0) (Z1) (fun _ _=>rfl))) (Zv 4 Vc.nd rfl (Or.inl rfl)) (Zm (Zl 2 Vc.nd rfl (Or.inr rfl) (Zg Lp (Z3 2) (Za Td (Z1) (Z3 4))))))
  (Zb (T9 (G8 (Y1 (Z8h rfl) (by rfl) T.b_any (by decide +kernel) (Z0 (Y7 ?c0) Z9))) (Zm (Yy (Yo))) Vf)
  (Zb (Vz PassesOwn.never rfl (Hh (Yd Y3 (Z3 0) (Z1) (fun _ _=>rfl))) (Zv 4 Vc.nd rfl (Or.inl rfl)) (Zm (Zl 2 Vc.nd rfl (Or.inr rfl) (Zg Y6 (Z3 2) (Za Td (Z1) (Z3 4))))))
  (Zb (T9 (G8 (Zn Y3 (Z3 0) (Z1) (fun _ _=>rfl))) (Zm (Yy (Zq (Z0 (Z7 2) (Z0 (Zg Y6 (Z3 3) (Za Td (Z1) (Zn Y3 (Z3 0) (Z1) (fun _ _=>rfl)))) Z9))))) Vf)
  (Zm (Yy (Zq (Z0 (Z7 2) (Z0 (Zg Lp (Z3 3) (Za Td (Z1) (Zn Y3 (Z3 0) (Z1) (fun _ _=>rfl)))) Z9)))))))))))
  case c0=>exact Jx (Z6 Um) [none,some 2] N35_ rfl (show CompOk (Z6 Um) _ N11_ N35_ [none,some 2] from CompOk.of (by decide +kernel)) rfl (Dd (Zn Y3 (Z3 0) (Z1) (fun _ _=>rfl))) (fun _ _ _ _=>⟨(Zv 0 (show (N35_:List Str).Nodup from by decide +kernel) rfl (Or.inl rfl)),L1,(Wz (U2 hr.units) (Za Tb (Za Ro (Z3 1) (Z3 0)) (Z1)) (Z1) (Zw _))⟩) (by decide)))
theorem E5 (Df:Def K mg "_law_free_graph" Y4) (T:Txt K mg)  (C__law_word:CalD P w K mg base 1 "_law_word" N42_ false Wb):CalD P w K mg base 2 "_law_free_graph" ["_law_cell"] false Vl :=
 Wr (N:=N1_) (ps:=["_law_cell"]) (st:=Y4) (k:=1) (g:=Wc) Df Zk (fun _ _ _ _ _ _ us hl=>ar1 us hl fun _=>rfl) (fun f cdv A outer s H E hr=>(by
  unfold Wc;refine (Zb (Zl 1 Zk.nd rfl (Or.inl rfl) (Zg Y6 (Z1) (Za Yl (Z3 0) (Z1))))
  (Zb (Zl 2 Zk.nd rfl (Or.inr rfl) (Zg Yl (Za Yg (Z3 0) (Z1)) (Z1)))
  (Zb (Zl 3 Zk.nd rfl (Or.inl rfl) (Zg Yl (Za Yg (Z3 0) (Z1)) (Za Td (Z1) (Z3 1))))
  (Zb (Zl 4 Zk.nd rfl (Or.inl rfl) (Zg Y6 (Z1) (Za Yl (Za Yg (Z3 0) (Z1)) (Z1))))
  (Zb (Zl 5 Zk.nd rfl (Or.inr rfl) (Zg Yl (Za Yg (Z3 0) (Z1)) (Za Lp (Z1) (Z3 4))))
  (Zb (Zl 6 Zk.nd rfl (Or.inl rfl) (Zg Yl (Za Yg (Z3 0) (Z1)) (Za Td (Z1) (Z3 4))))
  (Zb (Zl 7 Zk.nd rfl (Or.inl rfl) (Zg Y6 (Z1) (Za Yl (Za Yg (Z3 0) (Z1)) (Z1))))
  (Zb (Zl 8 Zk.nd rfl (Or.inr rfl) (Zg Yl (Za Yg (Z3 0) (Z1)) (Za Z93 (Z1) (Z1))))
  (Zb (Zl 0 Zk.nd rfl (Or.inl rfl) (Zg Z6g (Z3 0) (Za M2 (Z1) (Za Z93 (Z1) (Z1)))))
  (Zb (D7 9 Zk.nd rfl (Or.inl rfl) (Qg Z9))
  (Zb (Vz PassesOwn.never rfl (W0 (by rfl) T.b_range (Z0 (Z3 7) Z9)) (Zv 10 Zk.nd rfl (Or.inl rfl)) (Zb (Zl 11 Zk.nd rfl (Or.inr rfl) (Zg Y6 (Z1) (Za Yl (Za Yg (Z3 0) (Z1)) (Za Lp (Za Td (Z1) (Z3 4)) (Z1)))))
  (Zb (Zl 12 Zk.nd rfl (Or.inr rfl) (Zg Y6 (Z1) (Za Yl (Za Yg (Z3 0) (Z1)) (Za Lp (Za Td (Z1) (Z3 4)) (Z1)))))
  (Zb (Zl 13 Zk.nd rfl (Or.inl rfl) (Tj (m:=false) Vw (by rfl) T.b_tuple (by decide +kernel) (Z0 (Y7 ?c0) Z9)))
  (Zb (Zl 14 Zk.nd rfl (Or.inl rfl) (Tj (m:=false) Vw (by rfl) T.b_tuple (by decide +kernel) (Z0 (Y7 ?c1) Z9)))
  (Zb (Jy 9 PySem.F.slot_list_append PySem.F.type_list_append Qa (Z0 (Zq (Z0 (Zg Yl (Za Yl (Z3 0) (Z1)) (Z3 1)) (Z0 (Wz (U2 hr.units) (Za Yl (Za Yg (Z3 0) (Z1)) (Z1)) (Z1) (Zw _)) (Z0 (Z7 13) (Z0 (Z7 14) Z9))))) Z9))
  (Zm (Zl 0 Zk.nd rfl (Or.inl rfl) (Zg Yg (Z3 0) (Z1))))))))))
  (Zb (X4 15 Zk.nd rfl (Or.inl rfl) (Z6 Y4) [none,some 8,some 2] N20_ rfl (show CompOk (Z6 Y4) _ N1_ N20_ [none,some 8,some 2] from CompOk.of (by decide +kernel)) rfl (W0 (by rfl) T.b_range (Z0 (Z3 1) Z9)) (fun _ _ _ _=>⟨(Zv 0 (show (N20_:List Str).Nodup from by decide +kernel) rfl (Or.inl rfl)),L1,(Zq (Z0 (Zr C__law_word (hr.mono (by lia)) (Z0 (Z7 1) (Z0 (Z7 0) Z9))) (Z0 (Yd Y3 (Y7 (Qg (Z0 (Yo) (Z0 (Yo) Z9)))) (Za Tb (Za Ro (Z3 2) (Z3 0)) (Z1)) (fun _ _=>rfl)) Z9)))⟩) (by decide))
  (Zm (Yy (Zq (Z0 (Tj (m:=false) Vw (by rfl) T.b_tuple (by decide +kernel) (Z0 (Z3 15) Z9)) (Z0 (Tj (m:=false) Vw (by rfl) T.b_tuple (by decide +kernel) (Z0 (xo 9) Z9)) (Z0 (Zg Td (Z3 6) (Z3 5)) (Z0 (Z7 3) Z9)))))))))))))))))))
  case c0=>exact Jx (Z6 Y4) [none,some 5,some 11] N24_ rfl (show CompOk (Z6 Y4) _ N1_ N24_ [none,some 5,some 11] from CompOk.of (by decide +kernel)) rfl (W0 (by rfl) T.b_range (Z0 (Z3 4) Z9)) (fun _ _ _ _=>⟨(Zv 0 (show (N24_:List Str).Nodup from by decide +kernel) rfl (Or.inl rfl)),(Ek (V4 (U2 hr.units) (Za Tb (Za Ro (Z3 2) (Z3 0)) (Z1)) (Z1) (Zw _))),(Zg Y6 (Z3 1) (Z3 0))⟩) (by decide)
  case c1=>exact Jx (Z6 Y4) [none,some 5,some 12] N25_ rfl (show CompOk (Z6 Y4) _ N1_ N25_ [none,some 5,some 12] from CompOk.of (by decide +kernel)) rfl (W0 (by rfl) T.b_range (Z0 (Z3 4) Z9)) (fun _ _ _ _=>⟨(Zv 0 (show (N25_:List Str).Nodup from by decide +kernel) rfl (Or.inl rfl)),(Ek (V4 (U2 hr.units) (Za Tb (Za Ro (Z3 2) (Z3 0)) (Z1)) (Z1) (Zw _))),(Zg Y6 (Z3 1) (Z3 0))⟩) (by decide)))
theorem Lc (Df:Def K mg "_law_refusal" Uv) (T:Txt K mg)  (C_sound:CalX P w K mg base 6 "sound" N50_ false Q4):CalD P w K mg base 7 "_law_refusal" N45_ false Ym :=
 Wr (N:=["_law_graph_here","_law_told"]) (ps:=N45_) (st:=Uv) (k:=6) (g:=Vn) Df Ua (fun _ _ _ _ _ _ us hl=>ar1 us hl fun _=>rfl) (fun f cdv A outer s H E hr=>(by
  unfold Vn;exact (Zb (Zl 1 Ua.nd rfl (Or.inl rfl) (Yo))
  (Zb (Z6p (known:=N18_) (b1':=(fun c=>decide (c="CalledOff"))) (b2':=(fun _=>true)) (fun _=>PassesOwnAt.never) (fun _ _=>(Zm (Z70 (Z3k C_sound (hr.mono (by lia)) (Z0 (Z7 0) (Z0 (Wo) Z9)))))) (fun _ _=>(Zm (Zl 1 Ua.nd rfl (Or.inl rfl) (Yo)))) (fun _ _=>(Zm (Zl 1 Ua.nd rfl (Or.inl rfl) (Yo)))) T.u_3 T.u_8)
  (Zm (Yy (Z7 1)))))))
theorem Fo (Df:Def K mg "_law_some" V7) (T:Txt K mg)  (C__law_can:CalD P w K mg base 1 "_law_can" N32_ false Tw) (C_wants:CalD P w K mg base 4 "wants" N37_ false Mz):CalD P w K mg base 5 "_law_some" N26_ false Jl :=
 Wr (N:=N9_) (ps:=N26_) (st:=V7) (k:=4) (g:=Uh) Df Ql (fun _ _ _ _ _ _ us hl=>ar2 us hl fun _ _=>rfl) (fun f cdv A outer s H E hr=>(by
  unfold Uh;exact (Zb (X4 2 Ql.nd rfl (Or.inl rfl) (Z6 V7) [none,some 1,some 0] N19_ rfl (show CompOk (Z6 V7) _ N9_ N19_ [none,some 1,some 0] from CompOk.of (by decide +kernel)) rfl (W0 (by rfl) T.b_range (Z0 (Y1 Qj (by rfl) T.b_len (by decide +kernel) (Z0 (Zn Y3 (Z3 0) (Z1) (fun _ _=>rfl)) Z9)) Z9)) (fun _ _ _ _=>⟨(Zv 0 (show (N19_:List Str).Nodup from by decide +kernel) rfl (Or.inl rfl)),(Ek (G8 (W2 C__law_can (hr.mono (by lia)) (Z0 (Yd Y3 (Zn Y3 (Z3 2) (Z1) (fun _ _=>rfl)) (Z3 0) (fun _ _=>rfl)) (Z0 (Yd Y3 (Z3 1) (Z1) (fun _ _=>rfl)) Z9))))),(Z7 0)⟩) (by decide))
  (Zb (Vz PassesOwn.never rfl (W0 (by rfl) T.b_range (Z0 (Y1 Qj (by rfl) T.b_len (by decide +kernel) (Z0 (Zn Y3 (Z3 0) (Z1) (fun _ _=>rfl)) Z9)) Z9)) (Zv 3 Ql.nd rfl (Or.inr rfl)) (Zb (X4 4 Ql.nd rfl (Or.inl rfl) (Z6 V7) [none,some 3,some 0] N21_ rfl (show CompOk (Z6 V7) _ N9_ N21_ [none,some 3,some 0] from CompOk.of (by decide +kernel)) rfl (Dd (Z3 2)) (fun _ _ _ _=>⟨(Zv 0 (show (N21_:List Str).Nodup from by decide +kernel) rfl (Or.inl rfl)),(Ek (V4 (U2 hr.units) (Zn Y3 (Zn Y3 (Zn Y3 (Z3 2) (Z1) (fun _ _=>rfl)) (Z3 0) (fun _ _=>rfl)) (Z1) (fun _ _=>rfl)) (Z3 1) (Zw _))),(Z7 0)⟩) (by decide))
  (Zm (T9 (Nk.pt (Zaw (Nk.pt (R7 (V4 (U2 hr.units) (Zn Y3 (Zn Y3 (Zn Y3 (Z3 0) (Z1) (fun _ _=>rfl)) (Z3 3) (fun _ _=>rfl)) (Z1) (fun _ _=>rfl)) (Me) (Zw _)) (Mg (V4 Zfs (Y1 Qj (by rfl) T.b_len (by decide +kernel) (Z0 (Z3 4) Z9)) (Z1) (Zw _))))) (Z4y (V4 (Hy hr.units) (Z2w (m:=true) (Hy hr.units) (W2 C_wants (hr.mono (by lia)) (Z0 (Z7 0) (Z0 (Z7 1) (Z0 (Z7 3) Z9)))) (Z1) (Zw _)) (Z2w (m:=true) (Hy hr.units) (Z3 4) (Y7 (Qg Z9)) (Zw _)) (Zw _))))) (Zm (Yy (Z2u (m:=false)))) Vf))))
  (Zm (Yy (Z7 2)))))))
theorem Fp (Df:Def K mg "_law_stay" Jj) (T:Txt K mg)  (C_wants:CalD P w K mg base 4 "wants" N37_ false Mz):CalD P w K mg base 5 "_law_stay" N13_ false Jn :=
 Wr (N:=N8_) (ps:=N13_) (st:=Jj) (k:=4) (g:=Ui) Df Qk (fun _ _ _ _ _ _ us hl=>ar4 us hl fun _ _ _ _=>rfl) (fun f cdv A outer s H E hr=>(by
  unfold Ui;exact (Zb (Vz PassesOwn.never rfl (W0 (by rfl) T.b_range (Z0 (Y1 Qj (by rfl) T.b_len (by decide +kernel) (Z0 (Zn Y3 (Z3 0) (Z1) (fun _ _=>rfl)) Z9)) Z9)) (Zv 4 Qk.nd rfl (Or.inl rfl)) (Zb (Zl 5 Qk.nd rfl (Or.inl rfl) (Zr C_wants (hr.mono (by lia)) (Z0 (Z7 0) (Z0 (Z7 1) (Z0 (Z7 4) Z9)))))
  (Zb (Zl 6 Qk.nd rfl (Or.inl rfl) (Zr C_wants (hr.mono (by lia)) (Z0 (Z7 0) (Z0 (Z7 2) (Z0 (Z7 4) Z9)))))
  (Zb (T9 (Nk.pt (R7 (V4 (U2 hr.units) (Z3 4) (Z3 3) (Zw _)) (Mg (V4 (U2 hr.units) (Z3 6) (Z3 5) (Zw _))))) (Zm (Yy (Us))) Vf)
  (Zm (T9 (Nk.pt (R7 (V4 (Hy hr.units) (Z3 4) (Z3 3) (Zw _)) (R7 (V4 (Z8c hr.units) (Me) (J9 (Z0 (Yd Y3 (Zn Y3 (Zn Y3 (Z3 0) (Z1) (fun _ _=>rfl)) (Z3 4) (fun _ _=>rfl)) (Z1) (fun _ _=>rfl)) (Z0 (Yd Y3 (Zn Y3 (Zn Y3 (Z3 0) (Z1) (fun _ _=>rfl)) (Z3 3) (fun _ _=>rfl)) (Z1) (fun _ _=>rfl)) Z9))) (by rfl)) (R7 (V4 (Hy hr.units) (Z3 5) (Z1) (Zw _)) (Mg (V4 (Hy hr.units) (Z3 6) (Z3 5) (Zw _))))))) (Zm (Yy (Us))) Vf))))))
  (Zm (Yy (Us))))))
theorem Zcn {f:Addr} {fd:FuncData} (Df:Fun K "law" "law" Hr f fd) (T:Txt K mg)  (C__law_mix:CalD P w K mg base 1 "_law_mix" N38_ false Yk) (C__law_refusal:CalD P w K mg base 7 "_law_refusal" N45_ false Ym) (C__law_free_graph:CalD P w K mg base 2 "_law_free_graph" ["_law_cell"] false Vl) (C__law_lookers:CalD P w K mg base 1 "_law_lookers" N27_ false Ux) (C__law_some:CalD P w K mg base 5 "_law_some" N26_ false Jl) (C__law_done:CalD P w K mg base 1 "_law_done" N33_ false Jr) (C__law_choice:CalD P w K mg base 2 "_law_choice" N31_ false Q7) (C__law_graph:CalD P w K mg base 3 "_law_graph" N16_ false Qs) (C__law_stay:CalD P w K mg base 5 "_law_stay" N13_ false Jn) (hl:∀ ns:List Int,ns.length<=63->Z8p [.lst (ns.map .int)]=.ok (.bl true)):FnOk P w K mg base D9 8 f fd N51_ (Xn K) :=
 Zds (N:=N4_) (ps:=N51_) (st:=Hr) (g:=Og) Df T5 rfl (fun cdv A outer s H E hr=>(by
  unfold Og;exact (Zb (Zl 1 T5.nd rfl (Or.inl rfl) (Zr C__law_mix (hr.mono (by lia)) (Z0 (Z7 0) (Z0 (Wo) Z9))))
  (Zb (Zl 2 T5.nd rfl (Or.inl rfl) (Wz (U2 hr.units) (Za Yl (Za Yg (Z3 1) (Z1)) (Z1)) (Z1) (Zw _)))
  (Zb (T9 (G8 (Z3 2)) (Zm (Zl 3 T5.nd rfl (Or.inl rfl) (Zr C__law_free_graph (hr.mono (by lia)) (Z0 (Ue Zd7 (by rfl) T.b_abs (by decide +kernel) (Z0 (Y1 (Zdc rfl) (by rfl) T.b_sum (by decide +kernel) (Z0 (Ud D0 (Z3 0) (Jc (Z1)) (Jc (Z1))) Z9)) Z9)) Z9)))) (Zm (T9 (V4 (U2 hr.units) (Za Yl (Z3 1) (Z1)) (Z1) (Zw _)) (Zm (Zl 3 T5.nd rfl (Or.inl rfl) (Zr C__law_choice (hr.mono (by lia)) (Z0 (Z7 0) (Z0 (Wo) Z9))))) (Zm (Zl 3 T5.nd rfl (Or.inl rfl) (Zr C__law_graph (hr.mono (by lia)) (Z0 (Z7 0) (Z0 (Wo) (Z0 (Zg Y6 (Z1) (Za Yl (Za Yg (Z3 1) (Z1)) (Z1))) (Z0 (Zg Yl (Za Yg (Z3 1) (Z1)) (Z1)) Z9))))))))))
  (Zb (T9 (Nk.pt (R7 (Zba (G8 (Z3 2))) (Mg (V4 (U2 hr.units) (Za Yl (Za Yg (Z3 1) (Z1)) (Z1)) (Z1) (Zw _))))) (Zm (Zl 3 T5.nd rfl (Or.inl rfl) (Zr C__law_lookers (hr.mono (by lia)) (Z0 (Z7 3) (Z0 (Zg Yg (Z3 1) (Z1)) Z9))))) Vf)
  (Zb (Zl 4 T5.nd rfl (Or.inl rfl) (Zr C__law_refusal (hr.mono (by lia)) (Z0 (Z7 3) Z9)))
  (Zb (T9 (V4 (Hy hr.units) (Z3 4) (Me) (Zw _)) (Zm (Yy (xor (m:=false) (Z3 2) (Zal (Zgd (m:=false) (Z2w (m:=true) (U2 hr.units) (Za Yl (Z3 1) (Z1)) (Z1) (Zw _)) (Zal (Wz (U2 hr.units) (Z3 4) (Me) (Zw _)))))))) Vf)
  (Zb (Zl 5 T5.nd rfl (Or.inl rfl) (Zq (Z0 (Yd Y3 (Z3 3) (Z1) (fun _ _=>rfl)) (Z0 (Yd Y3 (Z3 3) (Z1) (fun _ _=>rfl)) Z9))))
  (Zb (Vz PassesOwn.never rfl (Z4u (by rfl) T.b_range (Z0 (Z1) (Z0 (Y1 (Z5r rfl) (by rfl) T.b_max (by decide +kernel) (Z0 (Z1) (Z0 (Y1 (Z3w rfl) (by rfl) T.b_min (by decide +kernel) (Z0 (Z1) (Z0 (Y1 Qj (by rfl) T.b_len (by decide +kernel) (Z0 (Z3 0) Z9)) Z9))) Z9))) Z9))) (Zv 6 T5.nd rfl (Or.inl rfl)) (Zb (Zl 7 T5.nd rfl (Or.inl rfl) (Zr C__law_some (hr.mono (by lia)) (Z0 (Z7 3) (Z0 (Z7 5) Z9))))
  (Zb (T9 (Nk.pt (Zaw (V4 Zga (Z3 7) (Z2u (m:=true)) (Zw _)) (Z4y (Nk.pt (R7 (V4 (U2 hr.units) (Z3 7) (Y7 (Qg Z9)) (Zw _)) (Mg (Zba (G8 (Z3 2))))))))) (Zm (Yy (Us))) Vf)
  (Zb (T9 (V4 (U2 hr.units) (Z3 7) (Y7 (Qg Z9)) (Zw _)) (Zm (Yy (Us))) Vf)
  (Zb (Zl 8 T5.nd rfl (Or.inl rfl) (Yd Y3 (Z3 7) (Za Yl (W2 C__law_mix (hr.mono (by lia)) (Z0 (Z7 0) (Z0 (Z7 6) Z9))) (Y1 Qj (by rfl) T.b_len (by decide +kernel) (Z0 (Z3 7) Z9))) (fun _ _=>rfl)))
  (Zb (Zl 9 T5.nd rfl (Or.inl rfl) (Zr C__law_done (hr.mono (by lia)) (Z0 (Yd Y3 (Zn Y3 (Z3 3) (Z1) (fun _ _=>rfl)) (Z3 8) (fun _ _=>rfl)) (Z0 (Z7 5) Z9))))
  (Zb (T9 (Nk.pt (Zaw (G8 (Zgb (m:=true) (T:="str") (Z3 9) (by rfl) T.b_isinstance (by decide +kernel) (by rfl) T.b_str (by decide +kernel))) (Z4y (Zba (G8 (W2 C__law_stay (hr.mono (by lia)) (Z0 (Z7 3) (Z0 (Z7 5) (Z0 (Z7 9) (Z0 (Yd Y3 (Zn Y3 (Zn Y3 (Z3 3) (Z1) (fun _ _=>rfl)) (Z3 8) (fun _ _=>rfl)) (Z1) (fun _ _=>rfl)) Z9)))))))))) (Zm (Yy (Us))) Vf)
  (Zm (Zl 5 T5.nd rfl (Or.inl rfl) (Z7 9))))))))))
  (Zm (Yy (Us))))))))))))) hl
end
end K34
namespace L2
open PySem PySem.Spec PyProof.Rows
def Gd (r:Fl) (N:Ev->Prop) (R:Dat->Prop):Prop:=match r with
 | .next e=>N e
 | .ret d=>R d
 | _=>False
structure Go (r:Fl) (N:Ev->Prop) (R:Dat->Prop):Prop where
 of:Gd r N R
section
variable {N:Ev->Prop} {R:Dat->Prop} {g h:Ev->Fl} {f:Ev->Option Dat} {fs:Ev->Option (List Dat)} {t:Ev->Option Bool} {env:Ev} {d:Dat} {ds:List Dat} {i:Nat}
theorem Go.mono {N':Ev->Prop} {R':Dat->Prop} {r:Fl} (q:Go r N R) (hN:∀ e,N e->N' e) (hR:∀ d,R d->R' d):Go r N' R':=by
 cases r with
 | next e=>exact ⟨hN e q.of⟩
 | ret d=>exact ⟨hR d q.of⟩
 | _=>exact q.of.elim
theorem W8 (q:N env):Go (Tz env) N R:=⟨q⟩
theorem Z8 (q:Go (g env) (fun e=>Go (h e) N R) R):Go (Ze g h env) N R:=by
 unfold Ze;cases e:g env with
 | next e'=>rw [e] at q;exact q.of
 | ret d=>rw [e] at q;exact ⟨q.of⟩
 | _=>rw [e] at q;exact q.of.elim
theorem Zf (e:f env=some d) (q:N (env.set i (.fz d))):Go (Zu i f env) N R:=by unfold Zu;rw [e];exact ⟨q⟩
theorem Jz (e:fs env=some ds) (q:N (env.set i (.ow ds))):Go (Er i fs env) N R:=by unfold Er;rw [e];exact ⟨q⟩
theorem Y9 (e:f env=some d) (q:R d):Go (Wi f env) N R:=by unfold Wi;rw [e];exact ⟨q⟩
theorem Io (e:env[i]?=some (.ow ds)) (q:R (.lst ds)):Go (H9 i env) N R:=by unfold H9;rw [e];exact ⟨q⟩
theorem B6 (e:t env=some true) (q:Go (g env) N R):Go (Rc t g h env) N R:=by unfold Rc;rw [e];exact q
theorem R0 (e:t env=some false) (q:Go (h env) N R):Go (Rc t g h env) N R:=by unfold Rc;rw [e];exact q
theorem Qb {b:Bool} (e:t env=some b) (q1:b=true->Go (g env) N R) (q2:b=false->Go (h env) N R):Go (Rc t g h env) N R:=by
 cases b with
 | true=>exact B6 e (q1 rfl)
 | false=>exact R0 e (q2 rfl)
theorem Z38 {gg:Dat->Ev->Option Ev} {env':Ev} (e:f env=some d) (e2:gg d env=some env') (q:N env'):Go (Z1k f gg env) N R:=by
 unfold Z1k;rw [e];dsimp only [Option.bind];rw [e2];exact ⟨q⟩
theorem Q5 {F:List Dat->List Dat->Option (List Dat)} {ds' as:List Dat} (e:env[i]?=some (.ow ds)) (e2:fs env=some as) (e3:F ds as=some ds') (q:N (env.set i (.ow ds'))):Go (J8 i F fs env) N R:=by
 unfold J8;rw [e];dsimp only;rw [e2];dsimp only [Option.bind];rw [e3];exact ⟨q⟩
theorem Cb {gg:Dat->Ev->Option Ev} (P:Nat->Ev->Prop):∀ (ds:List Dat) (k:Nat) (env:Ev),P k env->(∀ i d e,ds[i]?=some d->P (k+i) e->∃ e1,gg d e=some e1/\Go (g e1) (P (k+i+1)) R)->(∀ e,P (k+ds.length) e->N e)->Go (Ih gg g ds env) N R
 | [],k,env,h0,_,hN=>⟨hN env h0⟩
 | d::ds,k,env,h0,hs,hN=>by
  obtain ⟨e1,a1,a2⟩:=hs 0 d env rfl h0;rw [Ih,a1];dsimp only;cases e:g e1 with
  | next e' =>
   rw [e] at a2;exact Cb P ds (k+1) e' a2.of (fun i d e hi hp=>by
    have:=hs (i+1) d e (by simpa using hi) (by rw [show k+(i+1)=k+1+i by lia];exact hp);rw [show k+1+i+1=k+(i+1)+1 by lia];exact this) (fun e hp=>hN e (by rw [length_cons,show k+(ds.length+1)=k+1+ds.length by lia];exact hp))
  | ret d'=>rw [e] at a2;exact ⟨a2.of⟩
  | _=>rw [e] at a2;exact a2.of.elim
theorem Ve {src:Ev->Option (List Dat)} {gg:Dat->Ev->Option Ev} (P:Nat->Ev->Prop) (e:src env=some ds) (h0:P 0 env) (hs:∀ i d e,ds[i]?=some d->P i e->∃ e1,gg d e=some e1/\Go (g e1) (P (i+1)) R) (hN:∀ e,P ds.length e->N e):Go (T8 src gg g env) N R:=by
 unfold T8;rw [e];exact Cb P ds 0 env h0 (fun i d e hi hp=>by simpa using hs i d e hi (by simpa using hp)) (fun e hp=>hN e (by simpa using hp))
theorem Go.ne {r:Fl} (q:Go r N R):r≠.no:=fun z=>by rw [z] at q;exact q.of
theorem Z4c (W:Nat->Ev->Prop) {n:Nat} (h0:W n env) (hs:∀ n e,W n e->(t e=some false/\N e)\/(t e=some true/\Go (g e) (fun e'=>∃ m,m<n/\W m e') R)):Go (Rk t g env) N R:=by
 have key:∀ n e,W n e->Go (Wy t g (n+1) e) N R:=by
  intro n;induction n using strongRecOn with
  | _ n ih =>
   intro e hw;rcases hs n e hw with ⟨a,b⟩ | ⟨a,b⟩
   ·rw [Wy,a];exact ⟨b⟩
   ·rw [Wy,a]
    dsimp only;cases eg:g e with
    | next e' =>
     rw [eg] at b;obtain ⟨m,hm,hw'⟩:=b.of;have q:=ih m hm e' hw';dsimp only;have:=Uj (n - (m+1)) q.ne;rw [show m+1+(n - (m+1))=n by lia] at this;rw [this];exact q
    | ret d=>rw [eg] at b;exact ⟨b.of⟩
    | _=>rw [eg] at b;exact b.of.elim
 have q:=key n env h0;rw [Nx q.ne];exact q
theorem Yq {n p:Nat} (hp:ds.length=p) (q:Go (g (Qe n ds)) (fun _=>R .non) R):∃ d,Wa n p g ds=.ok d/\R d:=by
 unfold Wa;rw [if_pos hp];cases e:g (Qe n ds) with
 | next e'=>rw [e] at q;exact ⟨_,rfl,q.of⟩
 | ret d=>rw [e] at q;exact ⟨_,rfl,q.of⟩
 | _=>rw [e] at q;exact q.of.elim
end
theorem Uy {lo:Int} {n i:Nat} {d:Dat} (h:(rng lo n)[i]?=some d):i<n/\d=.int (lo+i):=by
 unfold rng at h;rw [getElem?_map] at h;by_cases hi:i<n
 ·rw [getElem?_range hi] at h
  exact ⟨hi,(Option.some.inj h).symm⟩
 ·rw [List.getElem?_eq_none (by simpa using hi)] at h
  cases h
theorem W1 {fs:Ev->Option (List Dat)} {env:Ev} {n:Nat} (h:fs env=some [.int n]) (hn:n<=100000):Vx fs env=some (rng 0 n):=by
 unfold Vx;rw [h];dsimp only;rw [if_pos ⟨by lia,by lia,by rw [sizeLine_eq];simp;lia⟩,Int.toNat_natCast]
theorem Eu {i j:Int} (h:Ar i j):Rb (.int i) (.int j)=some (.int (i*j)):=if_pos h
theorem Z0p {i j:Int} (h:0<j):Wg (.int i) (.int j)=some (.int (i % j)):=if_pos h
theorem Z5e {i j:Int} (h:Z52 i j):Yt (.int i) (.int j)=some (.int (i / j)):=if_pos h
theorem Z5 {α:Type} {F:Dat->Dat->Option α} {f g:Ev->Option Dat} {env:Ev} {x y:Dat} {z:α} (h1:f env=some x) (h2:g env=some y) (h3:F x y=some z):dO F f g env=some z:=by unfold dO;rw [h1,h2];exact h3
theorem Yr {α:Type} {F:List Dat->Option α} {fs:Ev->Option (List Dat)} {env:Ev} {xs:List Dat} {z:α} (h1:fs env=some xs) (h3:F xs=some z):dF F fs env=some z:=by unfold dF;rw [h1];exact h3
theorem Z4 {f:Ev->Option Dat} {fs:Ev->Option (List Dat)} {env:Ev} {x:Dat} {xs:List Dat} (h1:f env=some x) (h2:fs env=some xs):Z2 f fs env=some (x::xs):=by unfold Z2;rw [h1,h2];rfl
theorem Zi {F:List Dat->Rs} {fs:Ev->Option (List Dat)} {env:Ev} {xs:List Dat} {d:Dat} (h1:fs env=some xs) (h2:F xs=.ok d):Yf F fs env=some d:=by unfold Yf;rw [h1];show okR (F xs)=_;rw [h2];rfl
theorem Yj {f:Ev->Option Dat} {env:Ev} {b:Bool} (h:f env=some (.bl b)):dB f env=some b:=by unfold dB;rw [h]
theorem Cv (z:Str) (ws:List Str):(ws.map Dat.str).any (fun y=>Sg y (.str z))=decide (z∈ws):=by
 induction ws with
 | nil=>simp
 | cons w ws ih =>
  rw [map_cons,any_cons,ih];have:Sg (.str w) (.str z)=(w==z):=by unfold Sg;rfl
  rw [this];by_cases e:w=z
  ·subst e;simp
  ·have e':(w==z)=false:=by simpa using e
   have e2:¬ z=w:=fun q=>e q.symm
   rw [e'];simp [e2]
theorem C4 (n:Nat) (z:Str):pd n (.str z)=true:=by cases n<;>rfl
theorem Z0i (ws:List Str):(ws.map Dat.str).all (pd 20)=true:=by
 induction ws with
 | nil=>rfl
 | cons w ws ih=>rw [map_cons,all_cons,ih,C4];rfl
theorem Z67 (z:Str) (ws:List Str):inB (.str z) (.lst (ws.map .str))=some (decide (z∈ws)):=by
 unfold inB;dsimp only;rw [Z0i,C4,Bool.and_self,if_pos rfl,Cv]
theorem Z7j (z:Str) (ws:List Str):inB (.str z) (.tup (ws.map .str))=some (decide (z∈ws)):=by
 unfold inB;dsimp only;rw [Z0i,C4,Bool.and_self,if_pos rfl,Cv]
theorem Z7w (z:Str) (ws:List Str):inF (.str z) (.lst (ws.map .str))=some (.bl (decide (z∈ws))):=by unfold inF;rw [Z67];rfl
theorem Z68 (z:Str) (ws:List Str):inF (.str z) (.tup (ws.map .str))=some (.bl (decide (z∈ws))):=by unfold inF;rw [Z7j];rfl
theorem Bm {t u:Ev->Option Bool} {env:Ev} {a b:Bool} (h1:t env=some a) (h2:a=false->u env=some b):Z1i t u env=some (a||b):=by
 unfold Z1i;rw [h1];cases a with
 | true=>rfl
 | false=>exact h2 rfl
theorem U7 {t u:Ev->Option Bool} {env:Ev} {a b:Bool} (h1:t env=some a) (h2:a=true->u env=some b):J5 t u env=some (a&&b):=by
 unfold J5;rw [h1];cases a with
 | false=>rfl
 | true=>exact h2 rfl
theorem D6 {F:Dat->Option Int->Option Int->Option Dat} {f:Ev->Option Dat} {l h:Ev->Option (Option Int)} {env:Ev} {x z:Dat} {a b:Option Int} (h1:f env=some x) (h2:l env=some a) (h3:h env=some b) (h4:F x a b=some z):dS F f l h env=some z:=by
 unfold dS;rw [h1,h2,h3];exact h4
theorem Vo {f:Ev->Option Dat} {env:Ev} {i:Int} (h:f env=some (.int i)):U0 f env=some (some i):=by unfold U0;rw [h]
theorem S3 {xs:List Dat} {j:Nat} {x:Dat} (h:xs[j]?=some x):W7 (.lst xs) (.int j)=some x:=Et h
theorem Sa {xs:List Dat} {j:Nat} {x:Dat} (h:xs[j]?=some x):W7 (.tup xs) (.int j)=some x:=Et h
theorem Zcm (x y:Dat) {j:Int} (h0:0<=j) (h1:j<2):W7 (.lst [x,y]) (.int j)=some (if j=1 then y else x):=by
 rcases (show j=0\/j=1 by lia) with rfl | rfl<;>rfl
theorem Yb {fs:Ev->Option (List Dat)} {env:Ev} {xs:List Dat} (h:fs env=some xs) (hl:xs.length<=1000):Ys fs env=some (.tup xs):=by unfold Ys;rw [h];exact if_pos hl
theorem Vt {ds:List Dat} {d:Dat} (h:ds.length<=1000):Wu ds [d]=some (ds++[d]):=if_pos (lt_of_le_of_lt h (by decide))
abbrev Qv (ns:List Int):Dat:=.lst (ns.map .int)
abbrev Jv:Str:="abcdefghijklmnopqrstuvwxyz"
theorem Oz:cl Jv=List.range' 97 26:=by decide +kernel
theorem Av {j:Int} (h0:0<=j) (h1:j<26):Nz (cl Jv) j=some (97+j.toNat):=by
 obtain ⟨n,rfl⟩:∃ n:Nat,j=n:=⟨j.toNat,(Int.toNat_of_nonneg h0).symm⟩;refine Et ?_;rw [Oz,List.getElem?_range' (by lia)];simp
theorem By {j:Int} (h0:0<=j) (h1:j<26):W7 (.str Jv) (.int j)=some (.str ⟨#[97+j.toNat]⟩):=by
 show (Nz (cl Jv) j).map _=_;rw [Av h0 h1];rfl
theorem Cc {x y:Str} (h:x.length+y.length<=1000):Yi (.str x) (.str y)=some (.str (x++y)):=if_pos (le_trans h (by decide))
theorem Zcu {f:Ev->Option Dat} {env:Ev} {d:Dat} {t T:String} {b:Bool} (h:f env=some d) (ht:tyN d=some t) (hk:Z5k t T=some b):dI T f env=some (.bl b):=by
 unfold dI;rw [h];show (Z88 T d).map _=_;unfold Z88;rw [ht];show Option.map _ (Z5k t T)=_;rw [hk];rfl
theorem Md {f:Ev->Option Dat} {env:Ev} {b:Bool} (h:f env=some (.bl b)):dT f env=some b:=by unfold dT;rw [h];rfl
theorem Pr {t:Ev->Option Bool} {env:Ev} {b:Bool} (h:t env=some b):L5 t env=some (!b):=by unfold L5;rw [h];rfl
theorem U4 {r:Rs} {d0:Dat} (h:∃ d,r=.ok d/\d=d0):r=.ok d0:=by obtain ⟨d,e,rfl⟩:=h;exact e
theorem Cp (i:Str):Q8 (.str i) (.str i)=some (.bl true):=by unfold Q8;rw [if_pos (by rfl)];unfold Sg;simp
theorem Ww {g:Ev->Option (List Dat)} {env:Ev} {ds:List Dat} (h:g env=some ds):dL g env=some (.lst ds):=by unfold dL;rw [h];rfl
theorem Wp {src:Ev->Option (List Dat)} {fs:List (Option Nat)} {g:Dat->Ev->Option Ev} {t:Ev->Option Bool} {f:Ev->Option Dat} {env env':Ev} {xs ys:List Dat} (h1:src env=some xs) (h2:Tg fs env=env') (h3:V8 g t f env' xs=some ys):Tc src fs g t f env=some ys:=by
 unfold Tc;rw [h1,h2];exact h3
theorem Ju {f:Ev->Option Dat} {env:Ev} {xs:List Dat} (h:f env=some (.tup xs)):Tv f env=some xs:=by unfold Tv;rw [h]
theorem Z8g {f:Ev->Option Dat} {env:Ev} {xs:List Dat} (h:f env=some (.tup xs)):Ld f env=some (R8 0 xs):=by unfold Ld;rw [Ju h];rfl
theorem Sn {g:Dat->Ev->Option Ev} {t:Ev->Option Bool} {f:Ev->Option Dat} {env:Ev} {α:Type} (D:α->Dat) (y:α->Dat):∀ (xs:List α),(∀ x∈xs,∃ e1,g (D x) env=some e1/\t e1=some true/\f e1=some (y x))->V8 g t f env (xs.map D)=some (xs.map y)
 | [],_=>rfl
 | x::xs,h=>by
  obtain ⟨e1,a1,a2,a3⟩:=h x mem_cons_self;have ih:=Sn D y xs fun z hz=>h z (mem_cons_of_mem _ hz)
  rw [map_cons,V8,a1];dsimp only [Option.bind];rw [a2];dsimp only;rw [if_pos rfl,a3];dsimp only;rw [ih];rfl
theorem Z0n (b:Bool):Q8 (.str (if b then "made" else "given")) (.str "made")=some (.bl b):=by
 cases b
 ·show Q8 (.str "given") (.str "made")=_
  unfold Q8;rw [if_pos (by rfl)];unfold Sg;rw [show (("given" : Str)=="made")=false by decide +kernel]
 ·exact Cp _
theorem Z6r (i j:Bool):Q8 (.bl i) (.bl j)=some (.bl (i==j)):=rfl
theorem Gg (a b:Nat):Builtin.bitOr (a:Int) (b:Int)=((a ||| b:Nat):Int):=by
 unfold Builtin.bitOr Builtin.bitAnd Builtin.bitNot;have h1:decide (0<=-(a:Int) - 1)=false:=by simp;lia
 have h2:decide (0<=-(b:Int) - 1)=false:=by simp;lia
 rw [h1,h2];dsimp only;rw [show (-(-(a:Int) - 1) - 1).toNat=a by lia,show (-(-(b:Int) - 1) - 1).toNat=b by lia];lia
theorem Mx (a b:Nat):Builtin.bitAnd (a:Int) (b:Int)=((a &&& b:Nat):Int):=by
 unfold Builtin.bitAnd;rw [show decide (0<=(a:Int))=true by simp,show decide (0<=(b:Int))=true by simp];simp
def bitsN (ps:List Nat):Nat:=ps.foldl (fun a p=>a ||| 2^p) 0
theorem Z0x (ps:List Nat):∀ (a j:Nat),(ps.foldl (fun a p=>a ||| 2^p) a).testBit j=(a.testBit j||decide (j∈ps)):=by
 induction ps with
 | nil=>intro a j;simp
 | cons p ps ih =>
  intro a j;rw [List.foldl_cons,ih,testBit_or,testBit_two_pow];by_cases h:j=p
  ·subst h;simp
  ·have h':¬ p=j:=fun e=>h e.symm
   simp [h,h']
theorem Wx (ps:List Nat) (j:Nat):(bitsN ps).testBit j=decide (j∈ps):=by unfold bitsN;rw [Z0x];simp
theorem Nr {a p:Nat} (h:a.testBit p=false):a+2^p=a ||| 2^p:=by
 apply eq_of_testBit_eq;intro j;have e1:a=2^p*(a / 2^p)+a % 2^p:=(Nat.div_add_mod a (2^p)).symm;have hm:a % 2^p<2^p:=mod_lt _ (two_pow_pos p);have ev:a / 2^p % 2=0:=by
  rw [Nat.testBit_eq_decide_div_mod_eq] at h;have:=of_decide_eq_false h;lia
 have e2:a+2^p=2^p*(a / 2^p+1)+a % 2^p:=by rw [Nat.mul_add,Nat.mul_one];lia
 rw [e2,Nat.testBit_two_pow_mul_add _ hm,testBit_or,testBit_two_pow];rw [show a.testBit j=(2^p*(a / 2^p)+a % 2^p).testBit j by rw [← e1],Nat.testBit_two_pow_mul_add _ hm];by_cases hj:j<p
 ·simp [hj];lia
 ·rw [if_neg hj,if_neg hj]
  rcases Nat.lt_or_eq_of_le (Nat.le_of_not_lt hj) with h1 | h1
  ·obtain ⟨i,hi⟩:∃ i,j - p=i+1:=⟨j - p - 1,by lia⟩
   rw [hi,Nat.testBit_succ,Nat.testBit_succ];rw [show (a / 2^p+1) / 2=a / 2^p / 2 by lia];have:¬ p=j:=by lia
   simp [this]
  ·subst h1
   simp;lia
theorem toI (ps:List Nat):(ps.map fun p:Nat=>(p:Int)).map Dat.int=ps.map fun p:Nat=>Dat.int (p:Int):=by rw [map_map];rfl
abbrev Zd (ps:List Nat):List Dat:=(ps.map fun p:Nat=>(p:Int)).map Dat.int
theorem Rz (p:Nat) (hp:p<=1000):Qz (.int 1) (.int (p:Int))=some (.int ((2^p:Nat):Int)):=by
 have:Qz (.int 1) (.int (p:Int))=some (.int (1*2^((p:Int)).toNat)):=if_pos ⟨by lia,by lia,by decide⟩;rw [this,Int.toNat_natCast,Int.one_mul];congr 2
theorem Z3x (n:Nat) (i:Int):pd n (.int i)=true:=by cases n<;>rfl
theorem Z82 (ps:List Nat):(Zd ps).all (pd 20)=true:=all_eq_true.mpr fun x hx=>by
 obtain ⟨i,_,rfl⟩:=mem_map.mp hx;exact Z3x 20 i
theorem Z78 (p:Nat) (ps:List Nat):inB (.int (p:Int)) (.lst (Zd ps))=some (decide (p∈ps)):=by
 unfold inB;dsimp only;rw [Z82,Z3x,Bool.and_self,if_pos rfl];congr 1
 rw [Bool.eq_iff_iff,any_eq_true,decide_eq_true_eq];constructor
 ·rintro ⟨x,hx,he⟩
  obtain ⟨i,hi,rfl⟩:=mem_map.mp hx;obtain ⟨q,hq,rfl⟩:=mem_map.mp hi;have:((q:Int)==(p:Int))=true:=by unfold Sg at he;exact he
  have:q=p:=by have h9:=eq_of_beq this;lia
  exact this▸hq
 ·intro h
  refine ⟨.int (p:Int),mem_map_of_mem (mem_map_of_mem h),?_⟩;unfold Sg;simp
theorem Z7n (bs:List Bool):Z48 [.lst (bs.map .bl)]=some (.bl (bs.all id)):=by unfold Z48;dsimp only;rw [A3];rfl
theorem La (a b:Nat):Builtin.bitXor (a:Int) (b:Int)=((a ^^^ b:Nat):Int):=by
 unfold Builtin.bitXor;rw [Gg,Mx];have key:∀ (x y:Nat),x ||| y=(x ^^^ y)+(x &&& y):=by
  intro x;induction x using strongRecOn with
  | _ x ih =>
   intro y;by_cases hx:x=0
   ·subst hx;simp
   ·have h:=ih (x / 2) (by lia) (y / 2)
    have e1:x ||| y=2*(x / 2 ||| y / 2)+(x ||| y) % 2:=by rw [← Nat.or_div_two];lia
    have e2:x ^^^ y=2*(x / 2 ^^^ y / 2)+(x ^^^ y) % 2:=by rw [← Nat.xor_div_two];lia
    have e3:x &&& y=2*(x / 2 &&& y / 2)+(x &&& y) % 2:=by rw [← Nat.and_div_two];lia
    have e4:(x ||| y) % 2=(x ^^^ y) % 2+(x &&& y) % 2:=by
     have t1:∀ z:Nat,z % 2=(z.testBit 0).toNat:=fun z=>by rw [Nat.testBit_zero];by_cases q:z % 2=1<;>simp [q];lia
     rw [t1,t1,t1,testBit_or,testBit_xor,testBit_and];cases x.testBit 0<;>cases y.testBit 0<;>rfl
    lia
 have:=key a b;lia
theorem Dc (a b:Nat):∃ c:Nat,Builtin.bitAnd (a:Int) (-(b:Int) - 1)=(c:Int)/\∀ j,c.testBit j=(a.testBit j&&!b.testBit j):=by
 refine ⟨a ^^^ (a &&& b),?_,fun j=>by rw [testBit_xor,testBit_and];cases a.testBit j<;>cases b.testBit j<;>rfl⟩;have hx:=La a (a &&& b);unfold Builtin.bitXor at hx;rw [Gg,Mx] at hx;have e1:a ||| (a &&& b)=a:=eq_of_testBit_eq fun j=>by rw [testBit_or,testBit_and];cases a.testBit j<;>cases b.testBit j<;>rfl
 have e2:a &&& (a &&& b)=a &&& b:=eq_of_testBit_eq fun j=>by rw [testBit_and,testBit_and];cases a.testBit j<;>cases b.testBit j<;>rfl
 rw [e1,e2] at hx;rw [← hx];unfold Builtin.bitAnd Builtin.bitNot;have h1:decide (0<=(a:Int))=true:=by simp
 have h2:decide (0<=-(b:Int) - 1)=false:=by simp;lia
 rw [h1,h2];dsimp only;rw [show (-(-(b:Int) - 1) - 1).toNat=b by lia,Int.toNat_natCast]
theorem Z18 {a p:Nat} (h:a.testBit p=true):∃ c:Nat,(a:Int) - ((2^p:Nat):Int)=(c:Int)/\∀ j,c.testBit j=(a.testBit j&&decide (j≠p)):=by
 obtain ⟨c,hc⟩:∃ c,c=a ^^^ 2^p:=⟨_,rfl⟩;have ht:∀ j,c.testBit j=(a.testBit j&&decide (j≠p)):=fun j=>by
  rw [hc,testBit_xor,testBit_two_pow];by_cases e:j=p
  ·subst e;simp [h]
  ·have:¬ p=j:=fun q=>e q.symm
   simp [e,this]
 have hp:c.testBit p=false:=by rw [ht];simp
 have:=Nr hp;have e:c ||| 2^p=a:=eq_of_testBit_eq fun j=>by
  rw [testBit_or,ht,testBit_two_pow];by_cases e:j=p
  ·subst e;simp [h]
  ·have:¬ p=j:=fun q=>e q.symm
   simp [e,this]
 rw [e] at this;exact ⟨c,by lia,ht⟩
theorem N7 (n j:Nat):M1 (.int (n:Int)) (.int (j:Int))=some (.int ((n / 2^j:Nat):Int)):=by
 have:M1 (.int (n:Int)) (.int (j:Int))=some (.int ((n:Int) / 2^((j:Int)).toNat)):=by unfold M1 Iv;dsimp only;rw [if_pos (by lia)]
 rw [this,Int.toNat_natCast];congr 2
theorem Rt (n j:Nat):T6 (.int ((n / 2^j:Nat):Int)) (.int 1)=some (.int (if n.testBit j then 1 else 0)):=by
 show some (Dat.int (Builtin.bitAnd ((n / 2^j:Nat):Int) ((1:Nat):Int)))=_;rw [Mx,Nat.and_one_is_mod,Nat.testBit_eq_decide_div_mod_eq];generalize n / 2^j=q;congr 2
 rcases (show q % 2=0\/q % 2=1 by lia) with h | h<;>simp [h]
theorem Z6z (a b:Nat):T6 (.int (a:Int)) (.int (b:Int))=some (.int ((a &&& b:Nat):Int)):=by
 show some (Dat.int (Builtin.bitAnd _ _))=_;rw [Mx]
theorem orN (a b:Nat):orD (.int (a:Int)) (.int (b:Int))=some (.int ((a ||| b:Nat):Int)):=by
 show some (Dat.int (Builtin.bitOr _ _))=_;rw [Gg]
theorem Zck (a b:Nat):Z64 (.int (a:Int)) (.int (b:Int))=some (.int ((a ^^^ b:Nat):Int)):=by
 show some (Dat.int (Builtin.bitXor _ _))=_;rw [La]
theorem Mu (b:Bool):Q8 (.int (if b then 1 else 0)) (.int 1)=some (.bl b):=by cases b<;>rfl
theorem eqN (a b:Nat):Q8 (.int (a:Int)) (.int (b:Int))=some (.bl (a==b)):=by
 show some (Dat.bl ((a:Int)==(b:Int)))=_;congr 2
 rw [Bool.eq_iff_iff,beq_iff_eq,beq_iff_eq];lia
theorem Zdn (i j:Int):Ec (.int i) (.int j)=some (.bl (!(i==j))):=rfl
theorem Z0g (bs:List Bool):Z10 [.lst (bs.map .bl)]=some (.bl (bs.any id)):=by unfold Z10;dsimp only;rw [A3];rfl
theorem Z12 (ns:List Int):Bc [.lst (ns.map .int)]=some (.int ns.sum):=by unfold Bc;dsimp only;rw [Ss];rfl
theorem Qo {fs:Ev->Option (List Dat)} {env:Ev} {xs:List Dat} (h:fs env=some xs) (hl:xs.length<=1000):U3 fs env=some xs:=by unfold U3;rw [h];exact if_pos (le_trans hl (by decide))
theorem Up (ps:List Nat):Zd ps=ps.map fun p:Nat=>Dat.int (p:Int):=toI ps
theorem L3 {α:Type} {xs:List α} {i:Nat} {p:α} (h:xs.Nodup) (hp:xs[i]?=some p):p∉xs.take i:=by
 obtain ⟨hi,e⟩:=List.getElem?_eq_some_iff.mp hp;have e1:xs=xs.take i++p::xs.drop (i+1):=by
  conv=>lhs;rw [← take_append_drop i xs,drop_eq_getElem_cons hi,e]
 rw [e1] at h;intro hm;exact (nodup_append.mp h).2.2 p hm p mem_cons_self rfl
theorem Zfy:Z5k "tuple" "str" = some false:=by decide +kernel
theorem Z47 {F:Dat->Option Dat} {f:Ev->Option Dat} {env:Ev} {x z:Dat} (h1:f env=some x) (h2:F x=some z):dU F f env=some z:=by unfold dU;rw [h1];exact h2
theorem Lu {g:Dat->Ev->Option Ev} {f:Ev->Option Dat} {env:Ev} {α:Type} (D:α->Dat) (P:α->Prop):∀ (xs:List Dat),(∀ x∈xs,∃ (e1:Ev) (y:α),g x env=some e1/\f e1=some (D y)/\P y)->∃ ys:List α,V8 g Jo f env xs=some (ys.map D)/\ys.length=xs.length/\∀ y∈ys,P y
 | [],_=>⟨[],rfl,rfl,fun _ h=>nomatch h⟩
 | x::xs,h=>by
  obtain ⟨e1,y,a1,a2,a3⟩:=h x mem_cons_self;obtain ⟨ys,b1,b2,b3⟩:=Lu D P xs fun z hz=>h z (mem_cons_of_mem _ hz)
  refine ⟨y::ys,?_,by rw [length_cons,length_cons,b2],fun z hz=>?_⟩
  ·rw [V8,a1]
   dsimp only [Option.bind,Jo];rw [if_pos rfl,a2];dsimp only;rw [b1];rfl
  ·rcases mem_cons.mp hz with e | e
   ·exact e▸a3
   ·exact b3 z e
theorem Cn {lo:Int} {n:Nat} {d:Dat} (h:d∈rng lo n):∃ i:Nat,i<n/\d=.int (lo+i):=by
 obtain ⟨i,hi,e⟩:=getElem_of_mem h;have:=Uy (lo:=lo) (n:=n) (i:=i) (d:=d) (by rw [getElem?_eq_getElem hi,e]);exact ⟨i,this.1,this.2⟩
theorem Mc {ps:List Nat} {i:Nat} {d:Dat} (h:(Zd ps)[i]?=some d):∃ p:Nat,ps[i]?=some p/\d=.int (p:Int):=by
 rw [getElem?_map,getElem?_map] at h;obtain ⟨y,hy,rfl⟩:=map_some h;obtain ⟨p,hq,rfl⟩:=map_some hy;exact ⟨p,hq,rfl⟩
theorem Z53 {m:Nat} {ps:List Nat}:(m &&& bitsN ps)=bitsN ps↔∀ p∈ps,m.testBit p=true:=by
 constructor
 ·intro h p hp
  have:(m &&& bitsN ps).testBit p=true:=by rw [h,Wx];simpa using hp
  rw [testBit_and] at this;exact (Bool.and_eq_true_iff.mp this).1
 ·intro h
  apply eq_of_testBit_eq;intro j;rw [testBit_and,Wx];by_cases hj:j∈ps
  ·simp [hj,h j hj]
  ·simp [hj]
structure St3 where
 w:Nat
 up:Bool
 takes:List Nat
 fills:List Nat
def St3.d (s:St3):Dat:=.tup [.int (s.w:Int),.bl s.up,.tup (Zd s.takes),.tup (Zd s.fills)]
structure G3 where
 wires:List (Str×Bool)
 steps:List St3
 marks:Nat
 code:Nat
def Qn (w:Str×Bool):Dat:=.tup [.str w.1,.str (if w.2 then "made" else "given")]
def G3.d (G:G3):Dat:=.tup [.tup (G.wires.map Qn),.tup (G.steps.map St3.d),.int (G.marks:Int),.int (G.code:Int)]
theorem Ws (r m:Nat) (h:0<m):Wg (.int (r:Int)) (.int (m:Int))=some (.int ((r % m:Nat):Int)):=by
 rw [Z0p (by lia)];rfl
theorem Wd (r m:Nat) (h:0<m) (h2:m<1073741824):Yt (.int (r:Int)) (.int (m:Int))=some (.int ((r / m:Nat):Int)):=by
 rw [Z5e ⟨by lia,by lia⟩];rfl
theorem Zbf (r m:Nat) (h:m<18446744073709551616):Rb (.int (r:Int)) (.int (m:Int))=some (.int ((r*m:Nat):Int)):=by
 rw [Eu (.inr ⟨by lia,by lia⟩)];rfl
theorem Cd (r m:Nat) (h:r<18446744073709551616):Rb (.int (r:Int)) (.int (m:Int))=some (.int ((r*m:Nat):Int)):=by
 rw [Eu (.inl ⟨by lia,by lia⟩)];rfl
theorem Vj (r m:Nat):Yi (.int (r:Int)) (.int (m:Int))=some (.int ((r+m:Nat):Int)):=rfl
def W3 (s:St3) (m:Nat):Bool:=(m &&& bitsN s.takes)==bitsN s.takes
theorem Wf {s:St3} {m:Nat}:W3 s m=true↔∀ p∈s.takes,m.testBit p=true:=by
 unfold W3;rw [beq_iff_eq];exact Z53
theorem Z1u (ps:List Nat):∃ qs:List Nat,(Ds (ps.map fun p:Nat=>(p:Int))).map Dat.int=Zd qs/\qs.Perm ps:=by
 refine ⟨(Ds (ps.map fun p:Nat=>(p:Int))).map Int.toNat,?_,?_⟩
 ·show _=(((Ds (ps.map fun p:Nat=>(p:Int))).map Int.toNat).map fun p:Nat=>(p:Int)).map Dat.int
  congr 1
  rw [map_map];conv=>lhs;rw [← List.map_id (Ds _)]
  apply List.map_congr_left;intro x hx;have:=(Tq _).mem_iff.mp hx;obtain ⟨p,_,rfl⟩:=mem_map.mp this;simp
 ·have h:=(Tq (ps.map fun p:Nat=>(p:Int))).map Int.toNat
  rw [map_map] at h;have e:(Int.toNat ∘ fun p:Nat=>(p:Int))=id:=by funext p;simp
  rw [e,List.map_id] at h;exact h
theorem Hv (ps:List Nat) (h:ps.length<64):∃ qs:List Nat,Cg [.lst (Zd ps)]=some (Zd qs)/\qs.Perm ps:=by
 obtain ⟨qs,e,hp⟩:=Z1u ps;refine ⟨qs,?_,hp⟩;unfold Cg;dsimp only;rw [Ss];show (if (ps.map fun p:Nat=>(p:Int)).length<64 then _ else _)=_;rw [if_pos (by rw [length_map];exact h),e]
theorem Kt (x y:Str):(x++y).length=x.length+y.length:=Cs x y
section
variable {env:Ev} {N:Ev->Prop} {R:Dat->Prop}
theorem Co {i:Nat} {src:Ev->Option (List Dat)} {fs:List (Option Nat)} {ds:List Dat} {h:Nat} (e:src env=some ds) (q:N (env.set i (.gx (.nest (List.replicate ds.length []))))):Go (No i src fs (Yh h) env) N R:=by
 unfold No;rw [e];dsimp only;rw [if_pos (show (ds.all fun d=>(Yh h d (Tg fs env)).isSome)=true from all_eq_true.mpr fun d _=>rfl)];exact ⟨q⟩
def Ie (tk:List (List Nat)) (k x:Nat):List (List Nat):=tk.set k (tk.getD k []++[x])
theorem J6 (tk:List (List Nat)) (k x:Nat):(Ie tk k x).length=tk.length:=by unfold Ie;rw [length_set]
structure Nst (L B:Nat) (tk:List (List Nat)):Prop where
 len:∀ l∈tk,l.length<=L
 lt:∀ l∈tk,∀ p∈l,p<B
theorem Nst.mono {L L' B B':Nat} {tk:List (List Nat)} (h:Nst L B tk) (h1:L<=L') (h2:B<=B'):Nst L' B' tk:=⟨fun l q=>le_trans (h.len l q) h1,fun l q p z=>lt_of_lt_of_le (h.lt l q p z) h2⟩
theorem Nst.app {L B:Nat} {tk:List (List Nat)} (h:Nst L B tk) (k x:Nat) (hx:x<B):Nst (L+1) B (Ie tk k x):=by
 have hg:(tk.getD k []).length<=L/\∀ p∈tk.getD k [],p<B:=by
  cases e:tk[k]? with
  | none=>simp [List.getD,e]
  | some l=>have hm:=mem_of_getElem? e;simp only [List.getD,e,Option.getD_some];exact ⟨h.len l hm,h.lt l hm⟩
 constructor
 ·intro l hl
  rcases List.mem_or_eq_of_mem_set hl with q | q
  ·exact Nat.le_succ_of_le (h.len l q)
  ·rw [q,length_append];show _+1<=_;lia
 ·intro l hl p hp
  rcases List.mem_or_eq_of_mem_set hl with q | q
  ·exact h.lt l q p hp
  ·rw [q] at hp
   rcases mem_append.mp hp with z | z
   ·exact hg.2 p z
   ·rw [mem_singleton.mp z];exact hx
theorem Nst.nil (n:Nat):Nst 0 0 (List.replicate n []):=⟨fun l h=>by rw [(mem_replicate.mp h).2];exact le_refl _,fun l h p hp=>by rw [(mem_replicate.mp h).2] at hp;cases hp⟩
theorem Z4z (n:Nat):(List.replicate n ([]:List Dat))=(List.replicate n ([]:List Nat)).map Zd:=by rw [List.map_replicate];rfl
theorem Iq {i:Nat} {fa:Ev->Option Dat} {fs:Ev->Option (List Dat)} {tk:List (List Nat)} {k x L B:Nat} (e:env[i]?=some (.gx (.nest (tk.map Zd)))) (h:Nst L B tk) (hL:L<=1000) (hk:k<tk.length) (e1:fa env=some (.int (k:Int))) (e2:fs env=some [.int (x:Int)]) (q:N (env.set i (.gx (.nest ((Ie tk k x).map Zd))))):Go (Ha i fa fs env) N R:=by
 unfold Ha;rw [e,e1];dsimp only;have hat:De (tk.map Zd) (k:Int)=some (Zd tk[k]):=by
  unfold De;rw [if_pos (by lia),Int.toNat_natCast];simp [hk]
 rw [hat,e2];dsimp only;have hl:=h.len _ (getElem_mem hk);rw [show (some [Dat.int (x:Int)]).bind (fun as=>Wu (Zd tk[k]) as)=some (Zd (tk[k]++[x])) by
  show Wu (Zd tk[k]) [Dat.int (x:Int)]=_;rw [Vt (by rw [length_map,length_map];lia)];simp [Zd]]
 dsimp only;have:(tk.map Zd).set ((k:Int)).toNat (Zd (tk[k]++[x]))=(Ie tk k x).map Zd:=by
  unfold Ie;rw [Int.toNat_natCast,List.map_set];congr 2
  simp [List.getD,hk]
 rw [this];exact ⟨q⟩
theorem Z07 {i:Nat} {fa:Ev->Option Dat} {tk:List (List Nat)} {k:Nat} {l:List Nat} (e:env[i]?=some (.gx (.nest (tk.map Zd)))) (e1:fa env=some (.int (k:Int))) (hk:tk[k]?=some l):Z2g i fa env=some (.lst (Zd l)):=by
 unfold Z2g;rw [e,e1];dsimp only;unfold De;rw [if_pos (by lia),Int.toNat_natCast,getElem?_map,hk];rfl
end
theorem Nu {g:Dat->Ev->Option Ev} {t:Ev->Option Bool} {f:Ev->Option Dat} {env:Ev} {α:Type} (D E:α->Dat):∀ (xs:List α),(∀ x∈xs,∃ e1 b,g (D x) env=some e1/\t e1=some b/\f e1=some (E x))->∃ ys:List α,ys.Sublist xs/\V8 g t f env (xs.map D)=some (ys.map E)
 | [],_=>⟨[],.slnil,rfl⟩
 | x::xs,h=>by
  obtain ⟨ys,h1,h2⟩:=Nu D E xs fun z hz=>h z (mem_cons_of_mem _ hz)
  obtain ⟨e1,b,a1,a2,a3⟩:=h x mem_cons_self;cases b with
  | true=>exact ⟨x::ys,h1.cons₂ x,by rw [map_cons,V8,a1];show (t e1).bind _=_;rw [a2];show (f e1).bind _=_;rw [a3,h2];rfl⟩
  | false=>exact ⟨ys,h1.cons x,by rw [map_cons,V8,a1];show (t e1).bind _=_;rw [a2];exact h2⟩
theorem Z2y (r m:Nat) (h:m<=r):N8 (.int (r:Int)) (.int (m:Int))=some (.int ((r - m:Nat):Int)):=by
 show some (Dat.int ((r:Int) - (m:Int)))=_;rw [Int.ofNat_sub h]
theorem Oa (ps:List Nat):Ti [.lst (Zd ps)]=some (.int ((ps.length:Nat):Int)):=by
 show some (Dat.int ((Zd ps).length:Int))=_;rw [length_map,length_map]
theorem Hu (ps:List Nat) (a w:Nat) (h:a<=ps.length) (hl:ps.length<=1000):Ee (Zd ps) [.int (a:Int),.int (w:Int)]=some (Zd (ps.take a++w::ps.drop a)):=by
 show (if _ then some _ else none)=_;rw [if_pos ⟨by lia,by rw [length_map,length_map];lia,by rw [length_map,length_map];exact lt_of_le_of_lt hl (by decide)⟩,Int.toNat_natCast];simp [Zd,List.map_take,List.map_drop]
theorem K5 {α:Type} (ps:List α) (a:Nat) (w:α):(ps.take a++w::ps.drop a).length=ps.length+1:=by
 rw [length_append,length_cons,length_take,length_drop];lia
theorem A7 {α:Type} (ps:List α) (a:Nat) (w:α):(ps.take a++w::ps.drop a).Perm (w::ps):=by
 have h:(ps.take a++w::ps.drop a).Perm (w::(ps.take a++ps.drop a)):=List.perm_middle;rw [take_append_drop] at h;exact h
theorem Du (ps:List Nat) (a w v:Nat):(ps.take a++w::ps.drop a).count v=ps.count v+(if w=v then 1 else 0):=by
 rw [(A7 ps a w).count_eq,List.count_cons];by_cases h:w=v<;>simp [h]
theorem Lb {α:Type} (xs:List α) (t:Nat) (h:t<=xs.length):Ta xs (some (t:Int)) none=xs.drop t:=by
 unfold Ta;rw [HT.sIx_nat,HT.sIx_none,Nat.min_eq_left h,take_of_length_le (by rw [length_drop];exact le_refl _)]
theorem Fw {α:Type} (xs:List α) (t:Nat) (h:t<=xs.length):Ta xs none (some (t:Int))=xs.take t:=by
 unfold Ta;rw [HT.sIx_nat,HT.sIx_none,Nat.min_eq_left h,drop_zero,Nat.sub_zero]
theorem Mo {α β:Type} (f:α->β) (xs:List α) (a b:Option Int):Ta (xs.map f) a b=(Ta xs a b).map f:=by
 unfold Ta;rw [length_map,List.map_take,List.map_drop]
theorem Z6c (ps:List Nat) (c:Nat):(ps.map fun p:Nat=>(p:Int)).idxOf (c:Int)=ps.idxOf c:=by
 induction ps with
 | nil=>rfl
 | cons p ps ih =>
  rw [map_cons,idxOf_cons,idxOf_cons,ih];by_cases h:p=c
  ·subst h;rw [show ((p:Int)==(p:Int))=true from beq_self_eq_true _,show (p==p)=true from beq_self_eq_true _]
  ·rw [show ((p:Int)==(c:Int))=false from beq_eq_false_iff_ne.mpr (by lia),show (p==c)=false from beq_eq_false_iff_ne.mpr h]
theorem Kv (ps:List Nat) (c:Nat) (h:c∈ps):Lr (.lst (Zd ps)) [.int (c:Int)]=some (.int ((ps.idxOf c:Nat):Int)):=by
 show ((Ja (Zd ps)).bind fun zs=>if (c:Int)∈zs then some (Dat.int ((zs.idxOf (c:Int):Nat):Int)) else none)=_;rw [Ss];show (if _ then some _ else none)=_;rw [if_pos (mem_map_of_mem h),Z6c]
theorem El {xs ys:List Dat} (h:xs.length+ys.length<=1000):Yi (.lst xs) (.lst ys)=some (.lst (xs++ys)):=if_pos (le_trans h (by decide))
theorem Z6w {xs ys:List Dat} (h:xs.length+ys.length<=1000):Ke (.lst xs) (.lst ys)=some (xs++ys):=if_pos (le_trans h (by decide))
theorem Xe {xs ys:List Dat} (h:xs.length+ys.length<=1000):Ov (.tup xs) (.tup ys)=some (.tup (xs++ys)):=if_pos (le_trans h (by decide))
def Zo (p:Nat×Nat):Dat:=.tup [.int (p.1:Int),.int (p.2:Int)]
theorem Ip (p:Nat×Nat):pd 20 (Zo p)=true:=rfl
theorem O3 (p:Nat×Nat) (qs:List (Nat×Nat)):∃ b,B9 (Zo p) (.lst (qs.map Zo))=some (.bl b):=by
 refine ⟨!((qs.map Zo).any fun y=>Sg y (Zo p)),?_⟩;unfold B9 inB;dsimp only;rw [if_pos]
 ·rfl
 ·rw [Ip,Bool.true_and]
  exact all_eq_true.mpr fun x hx=>by obtain ⟨q,_,rfl⟩:=mem_map.mp hx;exact Ip q
theorem Zf7 (a b:Nat):Ox [.int (a:Int),.int (b:Int)]=some (.int ((min a b:Nat):Int)):=by
 show some (Dat.int (if (b:Int)<(a:Int) then (b:Int) else (a:Int)))=_;congr 2
 split<;>lia
theorem Zg7 (a b:Nat):Fb [.int (a:Int),.int (b:Int)]=some (.int ((max a b:Nat):Int)):=by
 show some (Dat.int (if (b:Int) > (a:Int) then (b:Int) else (a:Int)))=_;congr 2
 split<;>lia
theorem neN (a b:Nat):Ec (.int (a:Int)) (.int (b:Int))=some (.bl (!(a==b))):=by
 rw [Zdn];congr 3
 rw [Bool.eq_iff_iff];simp;lia
theorem Dv (ps:List Nat) (h:ps.length<64):∃ qs:List Nat,Jm [.lst (Zd ps)]=some (Zd qs)/\qs.Perm ps:=Hv ps h
theorem Ho (ps:List Nat) (h:ps.length<64):∃ qs:List Nat,Jm [.tup (Zd ps)]=some (Zd qs)/\qs.Perm ps:=Hv ps h
theorem Em (n:Nat):rng 0 n=(List.range n).map fun k:Nat=>Dat.int (k:Int):=by
 unfold rng;congr 1
 funext k
 rw [Int.zero_add]
theorem Gw {xs:List Dat} {i:Nat} {d:Dat} (h:(R8 0 xs)[i]?=some d):∃ x,xs[i]?=some x/\d=.tup [.int (i:Int),x]:=by
 rw [Lw] at h;cases e:xs[i]? with
 | none=>rw [e] at h;cases h
 | some x=>rw [e] at h;cases h;exact ⟨x,rfl,by rw [zero_add]⟩
theorem Z95 {α:Type} {T:String} {F:Dat->List Dat->Option α} {f:Ev->Option Dat} {fs:Ev->Option (List Dat)} {env:Ev} {x:Dat} {as:List Dat} {z:α} (h1:f env=some x) (ht:Ap T x=true) (h2:fs env=some as) (h3:F x as=some z):dM T F f fs env=some z:=by
 unfold dM;rw [h1];show (if _ then _ else _)=_;rw [if_pos ht,h2];exact h3
theorem Z65 {f:Ev->Option Dat} {env:Ev} {xs:List Dat} (h:f env=some (.lst xs)):Tv f env=some xs:=by unfold Tv;rw [h]
theorem Z3l {f:Ev->Option Dat} {env:Ev} {xs:List Dat} (h:f env=some (.lst xs)):Ld f env=some (R8 0 xs):=by unfold Ld;rw [Z65 h];rfl
theorem Uc {g:Dat->Ev->Option Ev} {t:Ev->Option Bool} {f:Ev->Option Dat} {env:Ev} {α:Type} (D E:α->Dat) (p:α->Bool):∀ (xs:List α),(∀ x∈xs,∃ e1,g (D x) env=some e1/\t e1=some (p x)/\f e1=some (E x))->V8 g t f env (xs.map D)=some ((xs.filter p).map E)
 | [],_=>rfl
 | x::xs,h=>by
  have ih:=Uc D E p xs fun z hz=>h z (mem_cons_of_mem _ hz)
  obtain ⟨e1,a1,a2,a3⟩:=h x mem_cons_self;rw [map_cons,V8,a1];show (t e1).bind _=_;rw [a2];cases hp:p x with
  | true=>show (f e1).bind _=_;rw [a3,ih,List.filter_cons_of_pos hp];rfl
  | false=>rw [List.filter_cons_of_neg (by rw [hp];decide)];exact ih
theorem Dy (xs:List Dat) (a b:Option Int):Xf (.lst xs) a b=some (.lst (Ta xs a b)):=rfl
theorem Z8b (z:Str) (a b:Option Int):Xf (.str z) a b=some (.str (Txt.slice z a b)):=rfl
def Yn (s:St3) (p:Nat×Nat):Nat×Nat:=((p.1 ^^^ (p.1 &&& bitsN s.takes)) ||| bitsN s.fills,p.2 ^^^ 2^s.w)
theorem M3 (s:St3) (p:Nat×Nat) (j:Nat):(Yn s p).1.testBit j=((p.1.testBit j&&!decide (j∈s.takes))||decide (j∈s.fills)):=by
 unfold Yn;dsimp only;rw [testBit_or,testBit_xor,testBit_and,Wx,Wx];cases p.1.testBit j<;>cases decide (j∈s.takes)<;>rfl
theorem Z5s (s:St3) (p:Nat×Nat) (j:Nat):(Yn s p).2.testBit j=(p.2.testBit j ^^ decide (s.w=j)):=by
 unfold Yn;dsimp only;rw [testBit_xor,testBit_two_pow]
structure Calm (G:G3) (I:Nat×Nat->Prop):Prop where
 ini:I (G.marks,G.code)
 lev:∀ p s,I p->s∈G.steps->W3 s p.1=true->p.2.testBit s.w≠s.up
 room:∀ p s,I p->s∈G.steps->W3 s p.1=true->∀ q∈s.fills,p.1.testBit q=true->q∈s.takes
 nxt:∀ p s,I p->s∈G.steps->W3 s p.1=true->I (Yn s p)
 few:∀ l:List (Nat×Nat),l.Nodup->(∀ p∈l,I p)->l.length<=400
structure Rw where
 m:Nat
 c:Nat
 src:Option (Nat×Nat)
def Rw.st (r:Rw):Nat×Nat:=(r.m,r.c)
def Rw.d (r:Rw):Dat:=.tup [.int (r.m:Int),.int (r.c:Int),match r.src with | none=>.non | some p=>.int (p.1:Int),match r.src with | none=>.non | some p=>.int (p.2:Int)]
structure Told (G:G3) (I:Nat×Nat->Prop) (rows:List Rw):Prop where
 zero:rows[0]?=some ⟨G.marks,G.code,none⟩
 inv:∀ r∈rows,I r.st
 nd:(rows.map Rw.st).Nodup
 src:∀ i r,rows[i]?=some r->0<i->∃ f k s rf,r.src=some (f,k)/\f<i/\G.steps[k]?=some s/\rows[f]?=some rf/\W3 s rf.m=true/\r.st=Yn s rf.st
def Ey (rows:List Rw):Nat->Nat->List Nat
 | 0,_=>[]
 | fu+1,n=>match (rows[n]?).bind Rw.src with
  | none=>[]
  | some p=>Ey rows fu p.1++[p.2]
theorem Gh {G:G3} {I:Nat×Nat->Prop} {rows:List Rw} (t:Told G I rows):∀ (fu n:Nat),n<rows.length->n<=fu->Ey rows fu n=Ey rows n n
 | 0,n,_,h=>by rw [show n=0 by lia]
 | fu+1,n,hl,h=>by
  obtain ⟨r,hr⟩:∃ r,rows[n]?=some r:=⟨_,getElem?_eq_getElem hl⟩;rcases eq_zero_or_pos n with z | z
  ·subst z
   show (match (rows[0]?).bind Rw.src with | none=>[] | some p=>Ey rows fu p.1++[p.2])=[];rw [t.zero];rfl
  ·obtain ⟨f,k,s,rf,a1,a2,_,a4,_,_⟩:=t.src n r hr z
   have hfl:=(List.getElem?_eq_some_iff.mp a4).1;obtain ⟨n',rfl⟩:∃ n',n=n'+1:=⟨n - 1,by lia⟩;rw [Ey,Ey,hr];show (match r.src with | none=>[] | some p=>Ey rows fu p.1++[p.2])=(match r.src with | none=>[] | some p=>Ey rows n' p.1++[p.2]);rw [a1];show Ey rows fu f++[k]=Ey rows n' f++[k];rw [Gh t fu f hfl (by lia),Gh t n' f hfl (by lia)]
def Jd (rows:List Rw) (n:Nat):List Nat:=Ey rows n n
theorem Fd (rows:List Rw):Jd rows 0=[]:=rfl
theorem A9 {G:G3} {I:Nat×Nat->Prop} {rows:List Rw} (t:Told G I rows) {n:Nat} {r:Rw} {f k:Nat} (hr:rows[n]?=some r) (hs:r.src=some (f,k)) (h0:0<n):Jd rows n=Jd rows f++[k]:=by
 obtain ⟨f',k',s,rf,a1,a2,_,a4,_,_⟩:=t.src n r hr h0;rw [hs] at a1;cases a1;have hfl:=(List.getElem?_eq_some_iff.mp a4).1;obtain ⟨n',rfl⟩:∃ n',n=n'+1:=⟨n - 1,by lia⟩;unfold Jd;rw [Ey,hr];show (match r.src with | none=>[] | some p=>Ey rows n' p.1++[p.2])=_;rw [hs];show Ey rows n' f++[k]=_;rw [Gh t n' f hfl (by lia)]
theorem Z5b {G:G3} {I:Nat×Nat->Prop} {rows:List Rw} (t:Told G I rows) {n:Nat} {r:Rw} (hr:rows[n]?=some r):r.src=none↔n=0:=by
 constructor
 ·intro h
  rcases eq_zero_or_pos n with z | z
  ·exact z
  ·obtain ⟨f,k,s,rf,a1,_⟩:=t.src n r hr z
   rw [h] at a1;cases a1
 ·rintro rfl
  rw [t.zero] at hr;cases hr;rfl
end L2
namespace L2
theorem Ed {α:Type} [BEq α] [LawfulBEq α]:∀ (l m:List α),l.Nodup->(∀ x∈l,x∈m)->l.length<=m.length
 | [],_,_,_=>zero_le _
 | x::l,m,hn,hs=>by
  obtain ⟨h1,h2⟩:=nodup_cons.mp hn;have hx:=hs x mem_cons_self;have:=Ed l (m.erase x) h2 fun y hy=>by
   refine (List.mem_erase_of_ne ?_).mpr (hs y (mem_cons_of_mem _ hy));rintro rfl;exact h1 hy
  rw [List.length_erase_of_mem hx] at this;have:=List.length_pos_of_mem hx;show l.length+1<=_;lia
theorem Z5c {α:Type} (R:Nat->α->Prop) (hR:∀ k a b,R k a->R k b->a=b) (N:Nat):∀ l:List α,l.Nodup->(∀ p∈l,∃ k,k<N/\R k p)->l.length<=N:=by
 intro l hn hl;have:∃ ks:List Nat,ks.length=l.length/\ks.Nodup/\∀ k∈ks,k<N/\∃ p∈l,R k p:=by
  revert hn hl;induction l with
  | nil=>intro _ _;exact ⟨[],rfl,nodup_nil,by simp⟩
  | cons p l ih =>
   intro hn hl;obtain ⟨h1,h2⟩:=nodup_cons.mp hn;obtain ⟨ks,a1,a2,a3⟩:=ih h2 fun q hq=>hl q (mem_cons_of_mem _ hq)
   obtain ⟨k,hk,hr⟩:=hl p mem_cons_self;refine ⟨k::ks,by simp [a1],nodup_cons.mpr ⟨fun hm=>?_,a2⟩,fun k' hk'=>?_⟩
   ·obtain ⟨_,p',hp',hr'⟩:=a3 k hm
    exact h1 (hR k p p' hr hr'▸hp')
   ·rcases mem_cons.mp hk' with rfl | h
    ·exact ⟨hk,p,mem_cons_self,hr⟩
    ·obtain ⟨b1,p',b2,b3⟩:=a3 k' h
     exact ⟨b1,p',mem_cons_of_mem _ b2,b3⟩
 obtain ⟨ks,a1,a2,a3⟩:=this;have:=Ed ks (List.range N) a2 fun k hk=>mem_range.mpr (a3 k hk).1
 rw [length_range] at this;lia
def Es (s0:Nat) (rs:List (Nat×Nat)) (f g:Nat×Nat->Nat) (d:Nat) (l:List Nat):Prop:=∀ q,q∈l↔∃ t p,rs[t]?=some p/\((q=s0+2*t/\f p=d)\/(q=s0+2*t+1/\g p=d))
structure Deed (G:G3) (s0:Nat) (one two:Nat->Nat) (rs:List (Nat×Nat)) (n d:Nat) (s:St3):Prop where
 w:s.w<n
 dl:d<2*n
 tk:Es s0 rs (·.2) (·.1) d s.takes
 fl:Es s0 rs (·.1) (·.2) d s.fills
 lev:(d=one s.w/\s.up=!G.code.testBit s.w)\/(d=two s.w/\s.up=G.code.testBit s.w)
structure RG (G:G3) (n s0:Nat) (one two:Nat->Nat) (rs:List (Nat×Nat)):Prop where
 ne:∀ q∈rs,q.1≠q.2
 ring:∀ w,w<n->(one w,two w)∈rs
 inj:∀ w v,w<n->v<n->(one w=one v\/two w=two v\/one w=two v)->w=v/\one w≠two v
 mks:∀ q,G.marks.testBit q=true↔∃ t,t<rs.length/\q=s0+2*t+1
 st:∀ s∈G.steps,∃ d,Deed G s0 one two rs n d s
structure RI (G:G3) (n s0:Nat) (one two:Nat->Nat) (rs:List (Nat×Nat)) (k:Nat) (p:Nat×Nat):Prop where
 a:∀ t q,rs[t]?=some q->p.1.testBit (s0+2*t)=(k.testBit q.1 ^^ k.testBit q.2)
 b:∀ t q,rs[t]?=some q->p.1.testBit (s0+2*t+1)=!(k.testBit q.1 ^^ k.testBit q.2)
 o:∀ j,(∀ t,t<rs.length->j≠s0+2*t/\j≠s0+2*t+1)->p.1.testBit j=false
 c:∀ w,p.2.testBit w=(G.code.testBit w ^^ (decide (w<n)&&(k.testBit (one w) ^^ k.testBit (two w))))
theorem Es.a {s0:Nat} {rs:List (Nat×Nat)} {f g:Nat×Nat->Nat} {d:Nat} {l:List Nat} (h:Es s0 rs f g d l) {t:Nat} {q:Nat×Nat} (e:rs[t]?=some q):s0+2*t∈l↔f q=d:=by
 rw [h];constructor
 ·rintro ⟨t',p,e',⟨h1,h2⟩ | ⟨h1,_⟩⟩
  ·have:t'=t:=by lia
   subst this;rw [e] at e';cases e';exact h2
  ·lia
 ·exact fun h2=>⟨t,q,e,.inl ⟨rfl,h2⟩⟩
theorem Es.b {s0:Nat} {rs:List (Nat×Nat)} {f g:Nat×Nat->Nat} {d:Nat} {l:List Nat} (h:Es s0 rs f g d l) {t:Nat} {q:Nat×Nat} (e:rs[t]?=some q):s0+2*t+1∈l↔g q=d:=by
 rw [h];constructor
 ·rintro ⟨t',p,e',⟨h1,_⟩ | ⟨h1,h2⟩⟩
  ·lia
  ·have:t'=t:=by lia
   subst this;rw [e] at e';cases e';exact h2
 ·exact fun h2=>⟨t,q,e,.inr ⟨rfl,h2⟩⟩
theorem Es.o {s0:Nat} {rs:List (Nat×Nat)} {f g:Nat×Nat->Nat} {d:Nat} {l:List Nat} (h:Es s0 rs f g d l) {j:Nat} (e:∀ t,t<rs.length->j≠s0+2*t/\j≠s0+2*t+1):j∉l:=by
 intro hj;obtain ⟨t,p,et,h1⟩:=(h j).mp hj;have:=e t (List.getElem?_eq_some_iff.mp et).1;rcases h1 with h1 | h1
 ·exact this.1 h1.1
 ·exact this.2 h1.1
theorem Wj (k d j:Nat):(k ^^^ 2^d).testBit j=(k.testBit j ^^ decide (d=j)):=by
 rw [testBit_xor,testBit_two_pow]
theorem Z27 {G:G3} {n s0:Nat} {one two:Nat->Nat} {rs:List (Nat×Nat)} (h:RG G n s0 one two rs) (hn:n<=4):Calm G fun p=>∃ k,k<2^(2*n)/\RI G n s0 one two rs k p where
 ini:=by
  refine ⟨0,two_pow_pos _,?_,?_,?_,?_⟩
  ·intro t q e
   simp only [zero_testBit,Bool.xor_false];rw [Bool.eq_false_iff];intro hh;obtain ⟨t',_,e'⟩:=(h.mks _).mp hh;lia
  ·intro t q e
   simp only [zero_testBit,Bool.xor_false,Bool.not_false];exact (h.mks _).mpr ⟨t,(List.getElem?_eq_some_iff.mp e).1,rfl⟩
  ·intro j hj
   rw [Bool.eq_false_iff];intro hh;obtain ⟨t',ht',e'⟩:=(h.mks _).mp hh;exact (hj t' ht').2 e'
  ·intro w;simp
 lev:=by
  rintro p s ⟨k,hk,hi⟩ hs hc;obtain ⟨d,hd⟩:=h.st s hs;obtain ⟨t,ht⟩:=getElem?_of_mem (h.ring s.w hd.w);rw [hi.c,decide_eq_true hd.w,Bool.true_and];have hc:=Wf.mp hc;rcases hd.lev with ⟨e1,e2⟩ | ⟨e1,e2⟩
  ·have:=hc _ ((hd.tk.b ht).mpr e1.symm)
   rw [hi.b t _ ht] at this;have hx:(k.testBit (one s.w) ^^ k.testBit (two s.w))=false:=by simpa using this
   rw [hx,e2];cases G.code.testBit s.w<;>simp
  ·have:=hc _ ((hd.tk.a ht).mpr e1.symm)
   rw [hi.a t _ ht] at this;have hx:(k.testBit (one s.w) ^^ k.testBit (two s.w))=true:=this;rw [hx,e2];cases G.code.testBit s.w<;>simp
 room:=by
  rintro p s ⟨k,hk,hi⟩ hs hc q hq hb;obtain ⟨d,hd⟩:=h.st s hs;have hc:=Wf.mp hc;obtain ⟨t,r,et,hh⟩:=(hd.fl q).mp hq;exfalso;rcases hh with ⟨rfl,e1⟩ | ⟨rfl,e1⟩
  ·have:=hc _ ((hd.tk.b et).mpr e1)
   rw [hi.b t _ et] at this;rw [hi.a t _ et] at hb;rw [hb] at this;cases this
  ·have:=hc _ ((hd.tk.a et).mpr e1)
   rw [hi.a t _ et] at this;rw [hi.b t _ et,this] at hb;cases hb
 nxt:=by
  rintro p s ⟨k,hk,hi⟩ hs hc;obtain ⟨d,hd⟩:=h.st s hs;have hc:=Wf.mp hc;have hlt:k ^^^ 2^d<2^(2*n):=Nat.xor_lt_two_pow hk (Nat.pow_lt_pow_right (by lia) hd.dl);refine ⟨k ^^^ 2^d,hlt,?_,?_,?_,?_⟩
  ·intro t q e
   have hne:=h.ne q (mem_of_getElem? e);have ha:=hi.a t q e;have hb:=hi.b t q e;have h1:=hd.tk.a e;have h2:=hd.fl.a e;have h3:=hd.tk.b e;rw [M3,Wj,Wj];by_cases e1:q.2=d
   ·have:=hc _ (h1.mpr e1)
    have e2:¬ q.1=d:=fun e2=>hne (e2.trans e1.symm)
    rw [decide_eq_true (h1.mpr e1),decide_eq_false (mt h2.mp e2),decide_eq_true e1.symm,decide_eq_false (Ne.symm e2)];rw [ha] at this;revert this;cases k.testBit q.1<;>cases k.testBit q.2<;>simp
   ·by_cases e2:q.1=d
    ·have:=hc _ (h3.mpr e2)
     rw [decide_eq_false (mt h1.mp e1),decide_eq_true (h2.mpr e2),decide_eq_false (Ne.symm e1),decide_eq_true e2.symm];rw [hb] at this;revert this;cases k.testBit q.1<;>cases k.testBit q.2<;>simp
    ·rw [decide_eq_false (mt h1.mp e1),decide_eq_false (mt h2.mp e2),decide_eq_false (Ne.symm e1),decide_eq_false (Ne.symm e2),ha]
     simp
  ·intro t q e
   have hne:=h.ne q (mem_of_getElem? e);have ha:=hi.a t q e;have hb:=hi.b t q e;have h1:=hd.tk.b e;have h2:=hd.fl.b e;have h3:=hd.tk.a e;rw [M3,Wj,Wj];by_cases e1:q.1=d
   ·have:=hc _ (h1.mpr e1)
    have e2:¬ q.2=d:=fun e2=>hne (e1.trans e2.symm)
    rw [decide_eq_true (h1.mpr e1),decide_eq_false (mt h2.mp e2),decide_eq_true e1.symm,decide_eq_false (Ne.symm e2)];rw [hb] at this;revert this;cases k.testBit q.1<;>cases k.testBit q.2<;>simp
   ·by_cases e2:q.2=d
    ·have:=hc _ (h3.mpr e2)
     rw [decide_eq_false (mt h1.mp e1),decide_eq_true (h2.mpr e2),decide_eq_false (Ne.symm e1),decide_eq_true e2.symm];rw [ha] at this;revert this;cases k.testBit q.1<;>cases k.testBit q.2<;>simp
    ·rw [decide_eq_false (mt h1.mp e1),decide_eq_false (mt h2.mp e2),decide_eq_false (Ne.symm e1),decide_eq_false (Ne.symm e2),hb]
     simp
  ·intro j hj
   rw [M3,hi.o j hj,decide_eq_false (hd.fl.o hj)];simp
  ·intro w
   rw [Z5s,hi.c,Wj,Wj];by_cases hw:w<n
   ·rw [decide_eq_true hw,Bool.true_and,Bool.true_and]
    have key:decide (s.w=w)=(decide (d=one w) ^^ decide (d=two w)):=by
     by_cases ew:s.w=w
     ·subst ew
      have hne:=(h.inj s.w s.w hd.w hd.w (.inl rfl)).2;rcases hd.lev with ⟨e1,_⟩ | ⟨e1,_⟩
      ·rw [decide_eq_true rfl,decide_eq_true e1,decide_eq_false (fun e2=>hne (e1.symm.trans e2))];rfl
      ·rw [decide_eq_true rfl,decide_eq_true e1,decide_eq_false (fun e2=>hne (e2.symm.trans e1))];rfl
     ·have n1:¬ d=one w:=by
       intro e0;rcases hd.lev with ⟨e1,_⟩ | ⟨e1,_⟩
       ·exact ew (h.inj s.w w hd.w hw (.inl (e1.symm.trans e0))).1
       ·exact ew (h.inj w s.w hw hd.w (.inr (.inr (e0.symm.trans e1)))).1.symm
      have n2:¬ d=two w:=by
       intro e0;rcases hd.lev with ⟨e1,_⟩ | ⟨e1,_⟩
       ·exact ew (h.inj s.w w hd.w hw (.inr (.inr (e1.symm.trans e0)))).1
       ·exact ew (h.inj s.w w hd.w hw (.inr (.inl (e1.symm.trans e0)))).1
      rw [decide_eq_false ew,decide_eq_false n1,decide_eq_false n2];rfl
    rw [key];cases G.code.testBit w<;>cases k.testBit (one w)<;>cases k.testBit (two w)<;>cases decide (d=one w)<;>cases decide (d=two w)<;>rfl
   ·have:s.w≠w:=fun e=>hw (e▸hd.w)
    rw [decide_eq_false hw,decide_eq_false this];simp
 few:=by
  intro l hl hp;have hle:2^(2*n)<=256:=le_trans (pow_le_pow_right (by lia) (show 2*n<=8 by lia)) (by decide);have:=Z5c (fun k p=>RI G n s0 one two rs k p) (fun k p q h1 h2=>?_) (2^(2*n)) l hl hp
  ·lia
  ·refine Prod.ext (eq_of_testBit_eq fun j=>?_) (eq_of_testBit_eq fun j=>by rw [h1.c,h2.c])
   by_cases hj:∀ t,t<rs.length->j≠s0+2*t/\j≠s0+2*t+1
   ·rw [h1.o j hj,h2.o j hj]
   ·simp only [Classical.not_forall] at hj
    obtain ⟨t,ht,hj⟩:=hj;have e:rs[t]?=some rs[t]:=getElem?_eq_getElem ht;by_cases e1:j=s0+2*t
    ·rw [e1,h1.a t _ e,h2.a t _ e]
    ·have e2:j=s0+2*t+1:=Classical.byContradiction fun e2=>hj ⟨e1,e2⟩
     rw [e2,h1.b t _ e,h2.b t _ e]
structure OneT (G:G3) (b:Nat) (L:Nat->Nat):Prop where
 bl:b<64
 ma:G.marks=2^b
 cd:G.code=L b
 st:∀ s∈G.steps,∃ x y,x<64/\y<64/\x≠y/\s.takes=[x]/\s.fills=[y]/\L y=L x ^^^ 2^s.w/\(L x).testBit s.w≠s.up
theorem Z35 {G:G3} {b:Nat} {L:Nat->Nat} (h:OneT G b L):Calm G fun p=>∃ k,k<64/\p=(2^k,L k):=by
 have key:∀ (p:Nat×Nat) (s:St3),(∃ k,k<64/\p=(2^k,L k))->s∈G.steps->W3 s p.1=true->∃ x y,x<64/\y<64/\x≠y/\s.takes=[x]/\s.fills=[y]/\L y=L x ^^^ 2^s.w/\(L x).testBit s.w≠s.up/\p=(2^x,L x):=by
  rintro p s ⟨k,hk,rfl⟩ hs hc;obtain ⟨x,y,h1,h2,h3,h4,h5,h6,h7⟩:=h.st s hs;have:=Wf.mp hc x (by rw [h4];simp);have e:k=x:=by
   have:(2^k).testBit x=true:=this;rw [testBit_two_pow] at this;simpa using this
  subst e;exact ⟨k,y,h1,h2,h3,h4,h5,h6,h7,rfl⟩
 refine ⟨⟨b,h.bl,by rw [h.ma,h.cd]⟩,?_,?_,?_,?_⟩
 ·intro p s hi hs hc
  obtain ⟨x,y,h1,h2,h3,h4,h5,h6,h7,rfl⟩:=key p s hi hs hc;exact h7
 ·intro p s hi hs hc q hq hb
  obtain ⟨x,y,h1,h2,h3,h4,h5,h6,h7,rfl⟩:=key p s hi hs hc;rw [h5] at hq;rw [mem_singleton.mp hq,testBit_two_pow] at hb;exact absurd (by simpa using hb) h3
 ·intro p s hi hs hc
  obtain ⟨x,y,h1,h2,h3,h4,h5,h6,h7,rfl⟩:=key p s hi hs hc;refine ⟨y,h2,Prod.ext (eq_of_testBit_eq fun j=>?_) h6.symm⟩;rw [M3,h4,h5];show ((2^x).testBit j&&!decide (j∈[x])||decide (j∈[y]))=(2^y).testBit j;rw [testBit_two_pow,testBit_two_pow];by_cases e1:x=j
  ·subst e1;simp [eq_comm]
  ·by_cases e2:y=j<;>simp [e1,e2,eq_comm]
 ·intro l hl hp
  have:=Z5c (fun k p=>p=(2^k,L k)) (fun k p q h1 h2=>h1.trans h2.symm) 64 l hl hp;lia
structure LookG (G G':G3) (z:Nat):Prop where
 len:G'.steps.length=G.steps.length
 ma:G'.marks=G.marks ||| 2^z
 mz:G.marks.testBit z=false
 cd:G'.code=G.code
 st:∀ s'∈G'.steps,∃ s∈G.steps,∃ b:Bool,s'.w=s.w/\s'.up=s.up/\z∉s.takes/\z∉s.fills/\(∀ q,q∈s'.takes↔q∈s.takes\/(b=true/\q=z))/\(∀ q,q∈s'.fills↔q∈s.fills\/(b=true/\q=z))
theorem Z0w {G G':G3} {z:Nat} {I:Nat×Nat->Prop} (h:LookG G G' z) (hc:Calm G I):Calm G' fun p=>∃ m,m.testBit z=false/\p.1=m ||| 2^z/\I (m,p.2):=by
 have bit:∀ m j:Nat,(m ||| 2^z).testBit j=(m.testBit j||decide (z=j)):=fun m j=>by rw [testBit_or,testBit_two_pow]
 have key:∀ (m:Nat) (s' s:St3) (b:Bool),z∉s.takes->(∀ q,q∈s'.takes↔q∈s.takes\/(b=true/\q=z))->W3 s' (m ||| 2^z)=true->W3 s m=true:=by
  intro m s' s b hz ht hc;refine Wf.mpr fun q hq=>?_
  have:=Wf.mp hc q ((ht q).mpr (.inl hq));rw [bit] at this;have hne:z≠q:=by rintro rfl;exact hz hq
  rw [decide_eq_false hne,Bool.or_false] at this;exact this
 refine ⟨⟨G.marks,h.mz,h.ma,by rw [h.cd];exact hc.ini⟩,?_,?_,?_,?_⟩
 ·rintro p s' ⟨m,hm,e,hi⟩ hs' hcan
  obtain ⟨s,hs,b,w,u,zt,zf,ht,hf⟩:=h.st s' hs';rw [e] at hcan;have:=hc.lev (m,p.2) s hi hs (key m s' s b zt ht hcan);rw [w,u];exact this
 ·rintro p s' ⟨m,hm,e,hi⟩ hs' hcan q hq hb
  obtain ⟨s,hs,b,w,u,zt,zf,ht,hf⟩:=h.st s' hs';rw [e] at hcan hb;rcases (hf q).mp hq with h1 | ⟨h1,h2⟩
  ·have hne:z≠q:=by rintro rfl;exact zf h1
   rw [bit,decide_eq_false hne,Bool.or_false] at hb;exact (ht q).mpr (.inl (hc.room (m,p.2) s hi hs (key m s' s b zt ht hcan) q h1 hb))
  ·exact (ht q).mpr (.inr ⟨h1,h2⟩)
 ·rintro p s' ⟨m,hm,e,hi⟩ hs' hcan
  obtain ⟨s,hs,b,w,u,zt,zf,ht,hf⟩:=h.st s' hs';rw [e] at hcan;have hn:=hc.nxt (m,p.2) s hi hs (key m s' s b zt ht hcan);refine ⟨(Yn s (m,p.2)).1,?_,eq_of_testBit_eq fun j=>?_,?_⟩
  ·rw [M3,hm,decide_eq_false zf];rfl
  ·rw [bit,M3,M3,e,bit]
   by_cases ej:z=j
   ·subst ej
    rw [decide_eq_true rfl];cases b
    ·have n1:z∉s'.takes:=fun x=>by rcases (ht z).mp x with y | y;exact zt y;exact absurd y.1 (by simp)
     rw [decide_eq_false n1];simp
    ·rw [decide_eq_true ((hf z).mpr (.inr ⟨rfl,rfl⟩))];simp
   ·have t1:decide (j∈s'.takes)=decide (j∈s.takes):=by
     rw [Bool.eq_iff_iff,decide_eq_true_eq,decide_eq_true_eq,ht j];exact ⟨fun x=>x.elim id fun y=>absurd y.2.symm ej,.inl⟩
    have t2:decide (j∈s'.fills)=decide (j∈s.fills):=by
     rw [Bool.eq_iff_iff,decide_eq_true_eq,decide_eq_true_eq,hf j];exact ⟨fun x=>x.elim id fun y=>absurd y.2.symm ej,.inl⟩
    rw [t1,t2,decide_eq_false ej];simp
  ·have:(Yn s' p).2=(Yn s (m,p.2)).2:=by unfold Yn;rw [w]
   rw [this];exact hn
 ·intro l hl hp
  have:=hc.few (l.map fun p=>(p.1 ^^^ 2^z,p.2)) ?_ ?_
  ·rwa [length_map] at this
  ·refine List.pairwise_map.mpr (hl.imp ?_)
   intro p q hne e;apply hne;have e1:=congrArg Prod.fst e;have e2:=congrArg Prod.snd e;refine Prod.ext (eq_of_testBit_eq fun j=>?_) e2;have:(p.1 ^^^ 2^z).testBit j=(q.1 ^^^ 2^z).testBit j:=by rw [show p.1 ^^^ 2^z=q.1 ^^^ 2^z from e1]
   rw [Wj,Wj] at this;simpa using this
  ·intro p hp'
   obtain ⟨q,hq,rfl⟩:=mem_map.mp hp';obtain ⟨m,hm,e,hi⟩:=hp q hq;have:q.1 ^^^ 2^z=m:=eq_of_testBit_eq fun j=>by
    rw [Wj,e,bit];by_cases ej:z=j
    ·subst ej;rw [hm];simp
    ·simp [ej]
   show I (q.1 ^^^ 2^z,q.2);rw [this];exact hi
end L2
namespace L2
def U5 (ps:List Nat) (w:Nat):Nat:=ps.idxOf w
def U6 (ps:List Nat) (w:Nat):Nat:=ps.idxOf w+1+(ps.drop (ps.idxOf w+1)).idxOf w
theorem Zd4 {w:Nat}:∀ {ps:List Nat} {d:Nat},ps[d]?=some w->ps.count w=1->(ps.take d).count w=0/\d=ps.idxOf w
 | [],_,h,_=>by cases h
 | p::ps,0,h,_=>by
  cases h;exact ⟨rfl,by rw [idxOf_cons];simp⟩
 | p::ps,d+1,h,hc=>by
  have h':ps[d]?=some w:=h;by_cases e:p=w
  ·subst e
   rw [List.count_cons_self] at hc;have:ps.count p=0:=by lia
   exact absurd (mem_of_getElem? h') (List.count_eq_zero.mp this)
  ·rw [List.count_cons_of_ne e] at hc
   obtain ⟨h1,h2⟩:=Zd4 h' hc;rw [take_succ_cons,List.count_cons_of_ne e,idxOf_cons,show (p==w)=false from beq_eq_false_iff_ne.mpr e];exact ⟨h1,by simp [h2]⟩
theorem Z6t {w:Nat}:∀ {ps:List Nat} {d:Nat},ps[d]?=some w->ps.count w=2->((ps.take d).count w=0/\d=U5 ps w)\/((ps.take d).count w=1/\d=U6 ps w)
 | [],_,h,_=>by cases h
 | p::ps,0,h,_=>by
  cases h;exact .inl ⟨rfl,by unfold U5;rw [idxOf_cons];simp⟩
 | p::ps,d+1,h,hc=>by
  have h':ps[d]?=some w:=h;by_cases e:p=w
  ·subst e
   rw [List.count_cons_self] at hc;obtain ⟨h1,h2⟩:=Zd4 h' (by lia);refine .inr ⟨by rw [take_succ_cons,List.count_cons_self,h1],?_⟩;unfold U6;rw [idxOf_cons,beq_self_eq_true];show d+1=0+1+ps.idxOf p;lia
  ·rw [List.count_cons_of_ne e] at hc
   have e1:(p::ps).idxOf w=ps.idxOf w+1:=by rw [idxOf_cons,show (p==w)=false from beq_eq_false_iff_ne.mpr e];rfl
   rw [take_succ_cons,List.count_cons_of_ne e];unfold U5 U6;rw [e1];rcases Z6t h' hc with ⟨h1,h2⟩ | ⟨h1,h2⟩
   ·exact .inl ⟨h1,by unfold U5 at h2;lia⟩
   ·refine .inr ⟨h1,?_⟩
    unfold U6 at h2;show d+1=ps.idxOf w+1+1+(ps.drop (ps.idxOf w+1)).idxOf w;lia
theorem Bz {v:Nat}:∀ {ps:List Nat},ps.count v=2->v∈ps.drop (ps.idxOf v+1)
 | [],h=>by cases h
 | p::ps,h=>by
  rw [List.count_cons] at h;rw [idxOf_cons];by_cases e:p=v
  ·subst e
   rw [show (p==p)=true from beq_self_eq_true _] at h ⊢;show p∈ps;refine List.count_pos_iff.mp ?_;simp at h;lia
  ·rw [show (p==v)=false from beq_eq_false_iff_ne.mpr e] at h ⊢
   show v∈ps.drop (ps.idxOf v+1);exact Bz (by simpa using h)
theorem Ci {w:Nat} {ps:List Nat} (h:w∈ps):ps[ps.idxOf w]?=some w:=by
 have hl:=List.idxOf_lt_length_of_mem h;rw [getElem?_eq_getElem hl,List.getElem_idxOf hl]
theorem Z5f {w:Nat} {ps:List Nat} (h:ps.count w=2):ps[U5 ps w]?=some w:=Ci (List.count_pos_iff.mp (by lia))
theorem Z51 {w:Nat} {ps:List Nat} (h:ps.count w=2):ps[U6 ps w]?=some w:=by
 have:=Ci (Bz h);rw [List.getElem?_drop] at this;exact this
theorem Bq (ps:List Nat) (w:Nat):U5 ps w<U6 ps w:=by unfold U5 U6;lia
structure Ord (n:Nat) (ps:List Nat):Prop where
 len:ps.length=2*n
 cnt:∀ v,ps.count v=if v<n then 2 else 0
theorem Ord.mem {n:Nat} {ps:List Nat} (h:Ord n ps) {v:Nat}:v∈ps↔v<n:=by
 rw [← List.count_pos_iff,h.cnt];split<;>lia
theorem Ord.two {n:Nat} {ps:List Nat} (h:Ord n ps) {v:Nat} (hv:v<n):ps.count v=2:=by rw [h.cnt,if_pos hv]
theorem Ord.inj {n:Nat} {ps:List Nat} (h:Ord n ps) (w v:Nat) (hw:w<n) (hv:v<n) (e:U5 ps w=U5 ps v\/U6 ps w=U6 ps v\/U5 ps w=U6 ps v):w=v/\U5 ps w≠U6 ps v:=by
 have a1:=Z5f (h.two hw);have a2:=Z51 (h.two hw);have b1:=Z5f (h.two hv);have b2:=Z51 (h.two hv);have ewv:w=v:=by
  rcases e with e | e | e
  ·rw [e,b1] at a1;exact (Option.some.inj a1).symm
  ·rw [e,b2] at a2;exact (Option.some.inj a2).symm
  ·rw [e,b2] at a1;exact (Option.some.inj a1).symm
 subst ewv;exact ⟨rfl,by have:=Bq ps w;lia⟩
theorem Z2d (tk:List (List Nat)) (k x d:Nat) (hk:k<tk.length):(Ie tk k x).getD d []=if d=k then tk.getD d []++[x] else tk.getD d []:=by
 unfold Ie;by_cases e:d=k
 ·subst e
  simp [List.getD,getElem?_set,hk]
 ·have e':¬ k=d:=fun z=>e z.symm
  simp [List.getD,getElem?_set,e,e']
theorem Fu (tk:List (List Nat)) (k x d q:Nat) (hk:k<tk.length):q∈(Ie tk k x).getD d []↔q∈tk.getD d []\/(d=k/\q=x):=by
 rw [Z2d tk k x d hk];by_cases e:d=k
 ·rw [if_pos e];simp [e]
 ·rw [if_neg e];simp [e]
def NS (s0:Nat) (rs:List (Nat×Nat)) (f g:Nat×Nat->Nat) (tk:List (List Nat)):Prop:=∀ d,Es s0 rs f g d (tk.getD d [])
theorem NS.nil (s0 m:Nat) (f g:Nat×Nat->Nat):NS s0 [] f g (List.replicate m []):=fun d q=>by
 have:(List.replicate m ([]:List Nat)).getD d []=[]:=by
  simp only [List.getD];cases e:(List.replicate m ([]:List Nat))[d]? with
  | none=>rfl
  | some l=>have:=mem_of_getElem? e;rw [(mem_replicate.mp this).2];rfl
 rw [this];simp
theorem NS.app {s0:Nat} {rs:List (Nat×Nat)} {f g:Nat×Nat->Nat} {tk:List (List Nat)} (h:NS s0 rs f g tk) (p:Nat×Nat) (hf:f p<tk.length) (hg:g p<tk.length):NS s0 (rs++[p]) f g (Ie (Ie tk (f p) (s0+2*rs.length)) (g p) (s0+2*rs.length+1)):=fun d q=>by
 rw [Fu _ _ _ _ _ (by rw [J6];exact hg),Fu _ _ _ _ _ hf,h d q];constructor
 ·rintro ((⟨t,r,e,h1⟩ | ⟨h1,h2⟩) | ⟨h1,h2⟩)
  ·exact ⟨t,r,by rw [getElem?_append_left (List.getElem?_eq_some_iff.mp e).1];exact e,h1⟩
  ·exact ⟨rs.length,p,by simp,.inl ⟨h2,h1.symm⟩⟩
  ·exact ⟨rs.length,p,by simp,.inr ⟨h2,h1.symm⟩⟩
 ·rintro ⟨t,r,e,h1⟩
  rcases lt_or_ge t rs.length with hl | hl
  ·rw [getElem?_append_left hl] at e
   exact .inl (.inl ⟨t,r,e,h1⟩)
  ·rw [getElem?_append_right hl] at e
   have e0:t - rs.length=0:=by
    rcases eq_zero_or_pos (t - rs.length) with z | z
    ·exact z
    ·rw [getElem?_cons,if_neg (by lia)] at e;cases e
   rw [e0] at e;cases e;have et:t=rs.length:=by lia
   subst et;rcases h1 with ⟨h1,h2⟩ | ⟨h1,h2⟩
   ·exact .inl (.inr ⟨h2.symm,h1⟩)
   ·exact .inr ⟨h2.symm,h1⟩
theorem P9 {L B:Nat} {tk:List (List Nat)} (hb:Nst L B tk) (h:∀ l∈tk,l.Nodup) (k x:Nat) (hx:B<=x):∀ l∈Ie tk k x,l.Nodup:=by
 intro l hl;rcases List.mem_or_eq_of_mem_set hl with q | q
 ·exact h l q
 ·rw [q]
  cases e:tk[k]? with
  | none=>simp [List.getD,e]
  | some l' =>
   have hm:=mem_of_getElem? e;simp only [List.getD,e,Option.getD_some];refine nodup_append.mpr ⟨h l' hm,nodup_cons.mpr ⟨by simp,nodup_nil⟩,fun a ha b hb'=>?_⟩;have:=hb.lt l' hm a ha;rw [mem_singleton.mp hb'];lia
theorem Es.perm {s0:Nat} {rs:List (Nat×Nat)} {f g:Nat×Nat->Nat} {d:Nat} {l l':List Nat} (h:Es s0 rs f g d l) (e:l'.Perm l):Es s0 rs f g d l':=fun q=>by rw [e.mem_iff];exact h q
structure SB (B n:Nat) (s:St3):Prop where
 w:s.w<n
 t:∀ p∈s.takes,p<B
 f:∀ p∈s.fills,p<B
 tn:s.takes.Nodup
 fn:s.fills.Nodup
theorem Pw {l:List Nat} {B:Nat} (h:l.Nodup) (hb:∀ p∈l,p<B):l.length<=B:=by
 have:=Ed l (List.range B) h fun x hx=>mem_range.mpr (hb x hx)
 rwa [length_range] at this
structure Gb (B:Nat) (G:G3):Prop where
 w2:G.wires.length<=10
 s1:1<=G.steps.length
 s2:G.steps.length<=24
 st:∀ s∈G.steps,SB B G.wires.length s
 mks:G.marks<2^B
end L2
namespace L2
open PySem PySem.Spec PyProof.Rows
section
variable {N:Ev->Prop} {R:Dat->Prop} {g h:Ev->Fl} {f fk fv:Ev->Option Dat} {t:Ev->Option Bool} {env:Ev} {d:Dat} {ds:List Dat} {i:Nat}
theorem Zc0 {x y:Int} (e:env[i]?=some (.fz (.int x))) (e2:f env=some (.int y)) (q:N (env.set i (.fz (.int (x+y))))):Go (Z5t i f env) N R:=by
 unfold Z5t;rw [e,e2];exact ⟨q⟩
def Kr (p:Nat×Nat):List Uq:=[.inl (p.1:Int),.inl (p.2:Int)]
theorem Z46 {p q:Nat×Nat}:Kr p=Kr q↔p=q:=by
 constructor
 ·intro h
  unfold Kr at h;simp only [List.cons.injEq,Sum.inl.injEq,and_true] at h;exact Prod.ext (by lia) (by lia)
 ·rintro rfl;rfl
theorem Gq (p:Nat×Nat):Z16 (Zo p)=some (Kr p):=rfl
def Ea (ps:List (Nat×Nat)):List (List Uq×Dat):=ps.map fun p=>(Kr p,.bl true)
theorem Kh (ps:List (Nat×Nat)) (q:Nat×Nat):He (Ea ps) (Kr q)=decide (q∈ps):=by
 unfold He Ea;rw [map_map,Bool.eq_iff_iff,any_eq_true,decide_eq_true_eq];constructor
 ·rintro ⟨x,hx,e⟩
  obtain ⟨p,hp,rfl⟩:=mem_map.mp hx;have:Kr p=Kr q:=of_decide_eq_true e;rw [← Z46.mp this];exact hp
 ·intro h
  exact ⟨Kr q,mem_map.mpr ⟨q,h,rfl⟩,decide_eq_true rfl⟩
theorem Z66 {ps:List (Nat×Nat)} {q:Nat×Nat} (e:env[i]?=some (.gx (.dict (Ea ps)))) (e2:f env=some (Zo q)):Z4x false i f env=some (.bl (decide (q∈ps))):=by
 unfold Z4x;rw [e,e2];dsimp only;rw [Gq];show some (Dat.bl (He (Ea ps) (Kr q)))=_;rw [Kh]
theorem Z6y {ps:List (Nat×Nat)} {q:Nat×Nat} (e:env[i]?=some (.gx (.dict (Ea ps)))) (e2:fv env=some (.bl true)) (e3:fk env=some (Zo q)) (hq:q∉ps) (hl:ps.length<=1000) (n:N (env.set i (.gx (.dict (Ea (ps++[q])))))):Go (Kn i fk fv env) N R:=by
 unfold Kn;rw [e,e2,e3];dsimp only;rw [Gq];dsimp only;rw [if_pos ⟨by rw [Kh,decide_eq_false hq],by unfold Ea;rw [length_map];exact lt_of_le_of_lt hl (by decide)⟩];have:Ea ps++[(Kr q,Dat.bl true)]=Ea (ps++[q]):=by unfold Ea;rw [map_append];rfl
 rw [this];exact ⟨n⟩
theorem Z6v {q:Nat×Nat} (e:fk env=some (Zo q)) (e2:fv env=some (.bl true)) (n:N (env.set i (.gx (.dict (Ea [q]))))):Go (Xp i fk fv env) N R:=by
 unfold Xp;rw [e,e2];dsimp only;rw [Gq];exact ⟨n⟩
theorem Z9g {fs:Ev->Option (List Dat)} {xs:List Dat} (h1:fs env=some [.lst xs]):dLR fs env=some xs.reverse:=by unfold dLR;rw [h1]
theorem Z6a {f g:Ev->Option Dat} (h1:f env=some (.bl true)) (h2:g env=some d):Z7o f g env=some d:=by unfold Z7o dB;rw [h1];exact h2
end
theorem Nt:∀ xs:List Dat,(∀ x∈xs,Sg x x=true)->Xu xs xs=true
 | [],_=>by unfold Xu;rfl
 | x::xs,h=>by unfold Xu;rw [h x mem_cons_self,Nt xs fun y hy=>h y (mem_cons_of_mem _ hy)];rfl
theorem Z5p {xs:List Dat} (h:∀ x∈xs,Sg x x=true/\pd 19 x=true):pd 20 (.lst xs)=true/\Sg (.lst xs) (.lst xs)=true:=by
 constructor
 ·show xs.all (pd 19)=true
  exact all_eq_true.mpr fun x hx=>(h x hx).2
 ·unfold Sg;exact Nt xs fun x hx=>(h x hx).1
theorem Z5i (i:Int):Sg (.int i) (.int i)=true:=by unfold Sg;exact beq_self_eq_true i
theorem Nv (ps:List Nat):pd 20 (.lst (Zd ps))=true/\Sg (.lst (Zd ps)) (.lst (Zd ps))=true:=Z5p fun x hx=>by
 rw [Up] at hx;obtain ⟨p,_,rfl⟩:=mem_map.mp hx;exact ⟨Z5i _,rfl⟩
def Do (G:G3) (m k:Nat):Bool:=match G.steps[k]? with
 | some s=>W3 s m
 | none=>false
theorem S0 {G:G3} {m k:Nat} (h:Do G m k=true):∃ s,G.steps[k]?=some s/\W3 s m=true:=by
 unfold Do at h;cases e:G.steps[k]? with
 | none=>rw [e] at h;cases h
 | some s=>rw [e] at h;exact ⟨s,rfl,h⟩
def Vr (G:G3) (m:Nat):List Nat:=(List.range G.steps.length).filter (Do G m)
theorem Oj {rows F:List Rw} (h:rows <+: F) {i:Nat} {r:Rw} (e:rows[i]?=some r):F[i]?=some r:=by
 obtain ⟨t,rfl⟩:=h;rw [getElem?_append_left (List.getElem?_eq_some_iff.mp e).1];exact e
theorem L0 {G:G3} {m k:Nat} (h:k∈Vr G m):Do G m k=true:=(mem_filter.mp h).2
def GdE (r:Fl) (N C:Ev->Prop) (R:Dat->Prop) (E:Str->List (Str×XD)->Prop):Prop:=match r with
 | .next e=>N e
 | .cont e=>C e
 | .ret d=>R d
 | .exc _ c fl=>E c fl
 | _=>False
structure GoE (r:Fl) (N C:Ev->Prop) (R:Dat->Prop) (E:Str->List (Str×XD)->Prop):Prop where
 of:GdE r N C R E
section
variable {N C:Ev->Prop} {R:Dat->Prop} {E:Str->List (Str×XD)->Prop} {g h:Ev->Fl} {t:Ev->Option Bool} {env:Ev} {d:Dat} {ds:List Dat} {i:Nat}
theorem Go.toE {r:Fl} (q:Go r N R):GoE r N C R E:=by
 cases r with
 | next e=>exact ⟨q.of⟩
 | ret d=>exact ⟨q.of⟩
 | _=>exact q.of.elim
theorem Vq (q:GoE (g env) (fun e=>GoE (h e) N C R E) C R E):GoE (Ze g h env) N C R E:=by
 unfold Ze;cases e:g env with
 | next e'=>rw [e] at q;exact q.of
 | ret d=>rw [e] at q;exact ⟨q.of⟩
 | cont d=>rw [e] at q;exact ⟨q.of⟩
 | exc e' c fl=>rw [e] at q;exact ⟨q.of⟩
 | _=>rw [e] at q;exact q.of.elim
theorem Q3 (q:Go (g env) (fun e=>GoE (h e) N C R E) R):GoE (Ze g h env) N C R E:=Vq q.toE
theorem K6 {b:Bool} (e:t env=some b) (q1:b=true->GoE (g env) N C R E) (q2:b=false->GoE (h env) N C R E):GoE (Rc t g h env) N C R E:=by
 unfold Rc;rw [e];cases b with
 | true=>exact q1 rfl
 | false=>exact q2 rfl
theorem S8 {c:Str} {Gf:List Dat->Option (List (Str×XD))} {fs:Ev->Option (List Dat)} {fl:List (Str×XD)} (e:fs env=some ds) (e2:Gf ds=some fl) (q:E c fl):GoE (U1 c Gf fs env) N C R E:=by
 unfold U1;rw [e];dsimp only [Option.bind];rw [e2];exact ⟨q⟩
theorem Aa {gg:Dat->Ev->Option Ev} (P:Nat->Ev->Prop):∀ (ds:List Dat) (k:Nat) (env:Ev),P k env->(∀ i d e,ds[i]?=some d->P (k+i) e->∃ e1,gg d e=some e1/\GoE (g e1) (P (k+i+1)) (P (k+i+1)) R E)->(∀ e,P (k+ds.length) e->N e)->GoE (Ih gg g ds env) N C R E
 | [],k,env,h0,_,hN=>⟨hN env h0⟩
 | d::ds,k,env,h0,hs,hN=>by
  obtain ⟨e1,a1,a2⟩:=hs 0 d env rfl h0;rw [Ih,a1];dsimp only;have more:∀ e',P (k+0+1) e'->GoE (Ih gg g ds e') N C R E:=fun e' h'=>Aa P ds (k+1) e' h' (fun i d e hi hp=>by
   have:=hs (i+1) d e (by simpa using hi) (by rw [show k+(i+1)=k+1+i by lia];exact hp);rw [show k+1+i+1=k+(i+1)+1 by lia];exact this) (fun e hp=>hN e (by rw [length_cons,show k+(ds.length+1)=k+1+ds.length by lia];exact hp))
  cases e:g e1 with
  | next e'=>rw [e] at a2;exact more e' a2.of
  | cont e'=>rw [e] at a2;exact more e' a2.of
  | ret d'=>rw [e] at a2;exact ⟨a2.of⟩
  | exc e' c fl=>rw [e] at a2;exact ⟨a2.of⟩
  | _=>rw [e] at a2;exact a2.of.elim
theorem Pm {src:Ev->Option (List Dat)} {gg:Dat->Ev->Option Ev} (P:Nat->Ev->Prop) (e:src env=some ds) (h0:P 0 env) (hs:∀ i d e,ds[i]?=some d->P i e->∃ e1,gg d e=some e1/\GoE (g e1) (P (i+1)) (P (i+1)) R E) (hN:∀ e,P ds.length e->N e):GoE (T8 src gg g env) N C R E:=by
 unfold T8;rw [e];exact Aa P ds 0 env h0 (fun i d e hi hp=>by simpa using hs i d e hi (by simpa using hp)) (fun e hp=>hN e (by simpa using hp))
theorem GoE.ne {r:Fl} (q:GoE r N C R E):r≠.no:=fun z=>by rw [z] at q;exact q.of
theorem Z1b (W:Nat->Ev->Prop) {n:Nat} (h0:W n env) (hs:∀ n e,W n e->(t e=some false/\N e)\/(t e=some true/\GoE (g e) (fun e'=>∃ m,m<n/\W m e') (fun _=>False) R E)):GoE (Rk t g env) N C R E:=by
 have key:∀ n e,W n e->GoE (Wy t g (n+1) e) N C R E:=by
  intro n;induction n using strongRecOn with
  | _ n ih =>
   intro e hw;rcases hs n e hw with ⟨a,b⟩ | ⟨a,b⟩
   ·rw [Wy,a];exact ⟨b⟩
   ·rw [Wy,a]
    dsimp only;cases eg:g e with
    | next e' =>
     rw [eg] at b;obtain ⟨m,hm,hw'⟩:=b.of;have q:=ih m hm e' hw';dsimp only;have:=Uj (n - (m+1)) q.ne;rw [show m+1+(n - (m+1))=n by lia] at this;rw [this];exact q
    | ret d=>rw [eg] at b;exact ⟨b.of⟩
    | exc e' c fl=>rw [eg] at b;exact ⟨b.of⟩
    | _=>rw [eg] at b;exact b.of.elim
 have q:=key n env h0;rw [Nx q.ne];exact q
theorem X6 {n p:Nat} (hp:ds.length=p) (q:GoE (g (Qe n ds)) (fun _=>R .non) (fun _=>False) R E):(∃ d,Wa n p g ds=.ok d/\R d)\/∃ c fl,Wa n p g ds=.exc c fl/\E c fl:=by
 unfold Wa;rw [if_pos hp];cases e:g (Qe n ds) with
 | next e'=>rw [e] at q;exact .inl ⟨_,rfl,q.of⟩
 | ret d=>rw [e] at q;exact .inl ⟨_,rfl,q.of⟩
 | exc e' c fl=>rw [e] at q;exact .inr ⟨_,_,rfl,q.of⟩
 | _=>rw [e] at q;exact q.of.elim
variable {e' e3:Ev} {sub:Str->Bool} {c:Str} {fl:List (Str×XD)} {F:List Dat->Rs} {fs:Ev->Option (List Dat)}
theorem Ob (e:fs env=some ds) (h:F ds=.exc c fl):Re F fs env=.exc env c fl:=by unfold Re;rw [e];dsimp only;rw [h]
end
end L2
namespace L2
open PySem
def Vm (G:G3) (s:St3):Bool:=match G.wires[s.w]? with
 | some u=>u.2
 | none=>false
def Eg (G:G3):Prop:=∀ (i j:Nat) (si sj:St3),i≠j->G.steps[i]?=some si->G.steps[j]?=some sj->∀ q,q∈si.takes->q∉si.fills->q∈sj.takes->Vm G si=false/\Vm G sj=false
theorem Bd {G:G3} {n s0:Nat} {one two:Nat->Nat} {rs:List (Nat×Nat)} (ds:List Nat) (nd:ds.Nodup) (h:∀ (i:Nat) (s:St3),G.steps[i]?=some s->∃ d:Nat,ds[i]?=some d/\Deed G s0 one two rs n d s):Eg G:=by
 intro i j si sj hij hi hj q hq _ hq2;exfalso;obtain ⟨di,e1,h1⟩:=h i si hi;obtain ⟨dj,e2,h2⟩:=h j sj hj;have hd:di=dj:=by
  obtain ⟨t,p,et,hp⟩:=(h1.tk q).mp hq;obtain ⟨t',p',et',hp'⟩:=(h2.tk q).mp hq2;rcases hp with ⟨a1,a2⟩ | ⟨a1,a2⟩<;>rcases hp' with ⟨b1,b2⟩ | ⟨b1,b2⟩
  ·have:t=t':=by lia
   subst this;rw [et] at et';cases et';rw [← a2,← b2]
  ·lia
  ·lia
  ·have:t=t':=by lia
   subst this;rw [et] at et';cases et';rw [← a2,← b2]
 subst hd;obtain ⟨l1,g1⟩:=List.getElem?_eq_some_iff.mp e1;obtain ⟨l2,g2⟩:=List.getElem?_eq_some_iff.mp e2;have pw:=List.pairwise_iff_getElem.mp nd;rcases Nat.lt_or_gt_of_ne hij with h0 | h0
 ·exact pw i j l1 l2 h0 (g1.trans g2.symm)
 ·exact pw j i l2 l1 h0 (g2.trans g1.symm)
structure LookI (G G':G3) (z:Nat):Prop where
 ws:G'.wires=G.wires
 ma:G'.marks=G.marks ||| 2^z
 mz:G.marks.testBit z=false
 cd:G'.code=G.code
 len:G'.steps.length=G.steps.length
 st:∀ (i:Nat) (s':St3),G'.steps[i]?=some s'->∃ s:St3,G.steps[i]?=some s/\∃ b:Bool,s'.w=s.w/\s'.up=s.up/\z∉s.takes/\z∉s.fills/\(∀ q,q∈s'.takes↔q∈s.takes\/(b=true/\q=z))/\(∀ q,q∈s'.fills↔q∈s.fills\/(b=true/\q=z))
theorem LookI.look {G G':G3} {z:Nat} (h:LookI G G' z):LookG G G' z:=⟨h.len,h.ma,h.mz,h.cd,fun s' hs=>by
 obtain ⟨i,hi⟩:=getElem?_of_mem hs;obtain ⟨s,e,b,q⟩:=h.st i s' hi;exact ⟨s,mem_of_getElem? e,b,q⟩⟩
theorem C1 {G G':G3} {z:Nat} (h:LookI G G' z) (hn:Eg G):Eg G':=by
 intro i j si sj hij hi hj q h1 h2 h3;obtain ⟨ri,ei,bi,w1,u1,zt1,zf1,t1,f1⟩:=h.st i si hi;obtain ⟨rj,ej,bj,w2,u2,zt2,zf2,t2,f2⟩:=h.st j sj hj;have k1:Vm G' si=Vm G ri:=by unfold Vm;rw [h.ws,w1]
 have k2:Vm G' sj=Vm G rj:=by unfold Vm;rw [h.ws,w2]
 rw [k1,k2];have hz:q≠z:=by
  rintro rfl;rcases (t1 q).mp h1 with a | ⟨a,_⟩
  ·exact zt1 a
  ·exact h2 ((f1 q).mpr (.inr ⟨a,rfl⟩))
 refine hn i j ri rj hij ei ej q ?_ (fun a=>h2 ((f1 q).mpr (.inl a))) ?_
 ·exact ((t1 q).mp h1).elim id fun a=>absurd a.2 hz
 ·exact ((t2 q).mp h3).elim id fun a=>absurd a.2 hz
end L2
namespace K34
open PySem PySem.Spec PyProof.Rows L2
theorem Rl (ns:List Int) (k:Nat) (hk:k<=100000):∃ r:Nat,Yk [Qv ns,.int (k:Int)]=.ok (.int (r:Int))/\r<1000000000039:=by
 have:=Yq (n:=3) (p:=2) (ds:=[Qv ns,.int (k:Int)]) (g:=Q0) (R:=fun d=>∃ r:Nat,d=.int (r:Int)/\r<1000000000039) rfl ?_
 ·obtain ⟨d,e,r,rfl,h⟩:=this
  exact ⟨r,e,h⟩
 show Go (Q0 [.fz (Qv ns),.fz (.int (k:Int)),.un]) _ _;unfold Q0;have fin:∀ z:Int,Go (Wi (dO Wg (dO Rb (dV 2) (dC (.int 48271))) (dC (.int 1000000000039))) [.fz (Qv ns),.fz (.int (k:Int)),.fz (.int z)]) (fun _=>False) (fun d=>∃ r:Nat,d=.int (r:Int)/\r<1000000000039):=fun z=>by
  refine Y9 (d:=.int (z*48271 % 1000000000039)) (Z5 (Z5 rfl rfl (Eu (.inr (by lia)))) rfl (Z0p (by lia))) ⟨(z*48271 % 1000000000039).toNat,?_,?_⟩
  ·congr 1;lia
  ·lia
 refine Z8 (Zf (d:=.int (7919*(k:Int)+12345)) (Z5 (Z5 rfl rfl (Eu (.inl (by lia)))) rfl rfl) ?_);refine Z8 (Qb (b:=decide ((k:Int)<((ns.map Dat.int).length:Int))) rfl (fun hb=>?_) (fun hb=>?_))
 ·have hkl:k<ns.length:=by have:=of_decide_eq_true hb;rw [length_map] at this;lia
  have hix:W7 (Qv ns) (.int (k:Int))=some (.int ns[k]):=S3 (by simp [hkl]);refine Zf (d:=.int (7919*(k:Int)+12345+ns[k]*6364136223846793005)) (Z5 rfl (Z5 (Z5 rfl rfl hix) rfl (Eu (.inr (by lia)))) rfl) ?_;exact (fin _).mono (fun _ h=>h.elim) fun _ h=>h
 ·refine W8 ?_
  exact (fin _).mono (fun _ h=>h.elim) fun _ h=>h
theorem Iz (c k:Nat):∃ z:Str,Wb [.int (c:Int),.int (k:Int)]=.ok (.str z):=by
 have:=Yq (n:=8) (p:=2) (ds:=[.int (c:Int),.int (k:Int)]) (g:=Uf) (R:=fun d=>∃ z:Str,d=.str z) rfl ?_
 ·obtain ⟨d,e,z,rfl⟩:=this
  exact ⟨z,e⟩
 show Go (Uf [.fz (.int (c:Int)),.fz (.int (k:Int)),.un,.un,.un,.un,.un,.un]) _ _;unfold Uf;obtain ⟨n,hn,hn1⟩:∃ n:Nat,2+c % 7=n/\n<=8:=⟨_,rfl,by lia⟩;refine Z8 (Zf (d:=.str Jv) rfl ?_);refine Z8 (Zf (d:=.int (n:Int)) (by rw [← hn];exact Z5 rfl (Z5 rfl rfl (Ws c 7 (by lia))) (Vj 2 _)) ?_);refine Z8 (Zf (Z5 (Z5 rfl rfl (Wd c 7 (by lia) (by lia))) rfl (Ws (c / 7) n (by lia))) ?_);refine Z8 (Zf (d:=.str "") rfl ?_);generalize c / 7 % n=at0;refine Z8 (Ve (ds:=rng 0 n) (fun i e=>∃ (z:Str) (v6 v7:Slt),e=[.fz (.int (c:Int)),.fz (.int (k:Int)),.fz (.str Jv),.fz (.int (n:Int)),.fz (.int (at0:Int)),.fz (.str z),v6,v7]/\z.length=i) (W1 (Z4 rfl rfl) (by lia)) ⟨"",.un,.un,rfl,by decide⟩ ?_ ?_)
 ·rintro i d e hi ⟨z,v6,v7,rfl,hz⟩
  obtain ⟨hi1,rfl⟩:=Uy hi;rw [Int.zero_add];refine ⟨_,rfl,?_⟩;refine Z8 (Zf (d:=.int ((0:Nat):Int)) rfl ?_);have fin:∀ q:Nat,Go (Zu 5 (dO Yi (dV 5) (dO W7 (dV 2) (dO Wg (dO Yi (dO Yi (dO Yt (dV 0) (dC (.int 49))) (dO Rb (dC (.int 5)) (dV 6))) (dO Rb (dC (.int 7)) (dV 7))) (dC (.int 26))))) [.fz (.int (c:Int)),.fz (.int (k:Int)),.fz (.str Jv),.fz (.int (n:Int)),.fz (.int (at0:Int)),.fz (.str z),.fz (.int (i:Int)),.fz (.int (q:Int))]) (fun e=>∃ (z:Str) (v6 v7:Slt),e=[.fz (.int (c:Int)),.fz (.int (k:Int)),.fz (.str Jv),.fz (.int (n:Int)),.fz (.int (at0:Int)),.fz (.str z),v6,v7]/\z.length=i+1) (fun d=>∃ z:Str,d=.str z):=fun q=>by
   have hx:=By (j:=(((c / 49+5*i+7*q) % 26:Nat):Int)) (by lia) (by lia);refine Zf (Z5 rfl (Z5 rfl (Z5 (Z5 (Z5 (Z5 rfl rfl (Wd c 49 (by lia) (by lia))) (Z5 rfl rfl (Cd 5 i (by lia))) (Vj _ _)) (Z5 rfl rfl (Cd 7 q (by lia))) (Vj _ _)) rfl (Ws _ 26 (by lia))) hx) (Cc (by show z.length+1<=_;lia))) ?_;exact ⟨_,_,_,rfl,by rw [Kt];show _+1=_;lia⟩
  refine Z8 (Qb (Yj (Z5 rfl rfl (eqN i at0))) (fun hb=>?_) (fun hb=>?_))
  ·exact Zf rfl (fin k)
  ·exact W8 (fin 0)
 ·rintro e ⟨z,v6,v7,rfl,hz⟩
  rw [U8] at hz;refine Z8 (Qb (b:=decide (z∈(["given","made","up","down","start"]:List Str))) (Yj (Z5 rfl rfl (Z7w z ["given","made","up","down","start"]))) (fun hb=>?_) (fun hb=>?_))
  ·refine Zf (Z5 (D6 rfl (Vo rfl) rfl (Z8b z _ _)) rfl (Cc ?_)) (Y9 rfl ⟨_,rfl⟩)
   have:=Txt.slice_le z (some 1) none;show (Txt.slice z (some 1) none).length+1<=_;lia
  ·exact W8 (Y9 rfl ⟨_,rfl⟩)
theorem Z42 (ns:List Int) (first n:Nat) (hf:first<=1000) (hn:n<=10):∃ ps:List Nat,Qp [Qv ns,.int (first:Int),.int (n:Int)]=.ok (.lst (Zd ps))/\Ord n ps:=by
 have:=Yq (n:=8) (p:=3) (ds:=[Qv ns,.int (first:Int),.int (n:Int)]) (g:=Vv) (R:=fun d=>∃ ps:List Nat,d=.lst (Zd ps)/\Ord n ps) rfl ?_
 ·obtain ⟨d,e,z,rfl,h⟩:=this
  exact ⟨z,e,h⟩
 show Go (Vv [.fz (Qv ns),.fz (.int (first:Int)),.fz (.int (n:Int)),.un,.un,.un,.un,.un]) _ _;unfold Vv;refine Z8 (Jz (ds:=Zd []) rfl ?_);refine Z8 (Ve (ds:=rng 0 n) (fun i e=>∃ (ps:List Nat) (v4 v5 v6 v7:Slt),e=[.fz (Qv ns),.fz (.int (first:Int)),.fz (.int (n:Int)),.ow (Zd ps),v4,v5,v6,v7]/\Ord i ps) (W1 (Z4 rfl rfl) (by lia)) ⟨[],.un,.un,.un,.un,rfl,rfl,fun v=>by simp⟩ ?_ ?_)
 ·rintro i d e hi ⟨ps,v4,v5,v6,v7,rfl,ho⟩
  obtain ⟨hi1,rfl⟩:=Uy hi;rw [Int.zero_add];refine ⟨_,rfl,?_⟩;obtain ⟨c,ec,lc⟩:=Rl ns (first+i) (by lia);have hl:=ho.len;refine Z8 (Zf (Zi (xs:=[Qv ns,.int ((first+i:Nat):Int)]) (Z4 rfl (Z4 (Z5 rfl rfl (Vj _ _)) rfl)) ec) ?_);refine Z8 (Zf (Z5 rfl (Z5 (Yr (Z4 rfl rfl) (Oa ps)) rfl (Vj _ 1)) (Ws c (ps.length+1) (by lia))) ?_);have ha:c % (ps.length+1)<=ps.length:=by have:=mod_lt c (show 0<ps.length+1 by lia);lia
  generalize c % (ps.length+1)=a at ha;refine Z8 (Q5 (ds:=Zd ps) (as:=[.int (a:Int),.int (i:Int)]) rfl rfl (Hu ps a i ha (by lia)) ?_);have hl1:=K5 ps a i;have hc1:=Du ps a i;generalize ps.take a++i::ps.drop a=qs at hl1 hc1;refine Z8 (Zf (Z5 (Z5 rfl rfl (Wd c 64 (by lia) (by lia))) (Z5 (Yr (Z4 rfl rfl) (Oa qs)) rfl (Z2y _ a (by lia))) (Ws (c / 64) (qs.length - a) (by lia))) ?_);have hb:c / 64 % (qs.length - a)<qs.length - a:=mod_lt _ (by lia);generalize c / 64 % (qs.length - a)=b at hb;refine Q5 (ds:=Zd qs) (as:=[.int ((a+1+b:Nat):Int),.int (i:Int)]) rfl (Z4 (Z5 (Z5 rfl rfl (Vj a 1)) rfl (Vj _ b)) (Z4 rfl rfl)) (Hu qs (a+1+b) i (by lia) (by lia)) ?_;have hl2:=K5 qs (a+1+b) i;have hc2:=Du qs (a+1+b) i;refine ⟨_,_,_,_,_,rfl,by lia,fun v=>?_⟩;rw [hc2,hc1,ho.cnt];by_cases h1:i=v
  ·subst h1;rw [if_neg (by lia),if_pos rfl,if_pos (by lia)]
  ·rw [if_neg h1]
   by_cases h2:v<i
   ·rw [if_pos h2,if_pos (by lia)]
   ·rw [if_neg h2,if_neg (by lia)]
 ·rintro e ⟨ps,v4,v5,v6,v7,rfl,ho⟩
  rw [U8] at ho;exact Io rfl ⟨ps,rfl,ho⟩
structure Prs (n m:Nat) (qs:List (Nat×Nat)):Prop where
 len:qs.length<=m
 lt:∀ q∈qs,q.1<q.2/\q.2<n
theorem Prs.app {n m m':Nat} {qs rs:List (Nat×Nat)} (h:Prs n m qs) (h':Prs n m' rs):Prs n (m+m') (qs++rs):=⟨by rw [length_append];have:=h.len;have:=h'.len;lia,fun q hq=>(mem_append.mp hq).elim (h.lt q) (h'.lt q)⟩
theorem Prs.sub {n m:Nat} {qs rs:List (Nat×Nat)} (h:Prs n m qs) (s:rs.Sublist qs):Prs n m rs:=⟨le_trans s.length_le h.len,fun q hq=>h.lt q (s.subset hq)⟩
theorem Prs.one {n:Nat} {q:Nat×Nat} (h1:q.1<q.2) (h2:q.2<n):Prs n 1 [q]:=⟨le_refl _,fun p hp=>by rw [mem_singleton.mp hp];exact ⟨h1,h2⟩⟩
theorem Prs.mono {n m m':Nat} {qs:List (Nat×Nat)} (h:Prs n m qs) (hm:m<=m'):Prs n m' qs:=⟨le_trans h.len hm,h.lt⟩
theorem Prs.nil (n m:Nat):Prs n m []:=⟨zero_le _,fun q hq=>by cases hq⟩
theorem Z1m (ns:List Int) (first many size:Nat) (hf:first<=1000) (hm:many<=100) (hs:0<size):∃ qs:List (Nat×Nat),Q2 [Qv ns,.int (first:Int),.int (many:Int),.int (size:Int)]=.ok (.lst (qs.map Zo))/\Prs size many qs:=by
 have:=Yq (n:=9) (p:=4) (ds:=[Qv ns,.int (first:Int),.int (many:Int),.int (size:Int)]) (g:=Vh) (R:=fun d=>∃ qs:List (Nat×Nat),d=.lst (qs.map Zo)/\Prs size many qs) rfl ?_
 ·obtain ⟨d,e,z,rfl,h⟩:=this
  exact ⟨z,e,h⟩
 show Go (Vh [.fz (Qv ns),.fz (.int (first:Int)),.fz (.int (many:Int)),.fz (.int (size:Int)),.un,.un,.un,.un,.un]) _ _;unfold Vh;refine Z8 (Jz (ds:=([]:List (Nat×Nat)).map Zo) rfl ?_);refine Z8 (Ve (ds:=rng 0 many) (fun i e=>∃ (qs:List (Nat×Nat)) (v5 v6 v7 v8:Slt),e=[.fz (Qv ns),.fz (.int (first:Int)),.fz (.int (many:Int)),.fz (.int (size:Int)),.ow (qs.map Zo),v5,v6,v7,v8]/\Prs size i qs) (W1 (Z4 rfl rfl) (by lia)) ⟨[],.un,.un,.un,.un,rfl,Prs.nil _ _⟩ ?_ ?_)
 ·rintro i d e hi ⟨qs,v5,v6,v7,v8,rfl,hq⟩
  obtain ⟨hi1,rfl⟩:=Uy hi;rw [Int.zero_add];refine ⟨_,rfl,?_⟩;obtain ⟨c,ec,lc⟩:=Rl ns (first+i) (by lia);refine Z8 (Zf (Zi (xs:=[Qv ns,.int ((first+i:Nat):Int)]) (Z4 rfl (Z4 (Z5 rfl rfl (Vj _ _)) rfl)) ec) ?_);refine Z8 (Zf (Z5 rfl rfl (Ws c size hs)) ?_);refine Z8 (Zf (Z5 (Z5 rfl rfl (Wd c 64 (by lia) (by lia))) rfl (Ws _ size hs)) ?_);have ha:c % size<size:=mod_lt _ hs;have hb:c / 64 % size<size:=mod_lt _ hs;generalize c % size=a at ha;generalize c / 64 % size=b at hb;obtain ⟨z,hz⟩:=O3 (min a b,max a b) qs;have et:∀ env:Ev,env[7]?=some (.fz (.int (a:Int)))->env[8]?=some (.fz (.int (b:Int)))->Ys (Z2 (dF Ox (Z2 (dV 7) (Z2 (dV 8) Zc))) (Z2 (dF Fb (Z2 (dV 7) (Z2 (dV 8) Zc))) Zc)) env=some (Zo (min a b,max a b)):=fun env h7 h8=>by
   have e7:dV 7 env=some (.int (a:Int)):=by unfold dV;rw [h7]
   have e8:dV 8 env=some (.int (b:Int)):=by unfold dV;rw [h8]
   exact Yb (Z4 (Yr (Z4 e7 (Z4 e8 rfl)) (Zf7 a b)) (Z4 (Yr (Z4 e7 (Z4 e8 rfl)) (Zg7 a b)) rfl)) (by simp)
  refine Qb (U7 (Yj (Z5 rfl rfl (neN a b))) fun _=>Yj (Z5 (et _ rfl rfl) rfl hz)) (fun hb=>?_) (fun _=>W8 ⟨qs,_,_,_,_,rfl,hq.mono (by lia)⟩);have hne:a≠b:=by
   have:=(Bool.and_eq_true_iff.mp hb).1;simpa using this
  refine Q5 (ds:=qs.map Zo) (as:=[Zo (min a b,max a b)]) (ds':=(qs++[(min a b,max a b)]).map Zo) rfl (Z4 (et _ rfl rfl) rfl) (by rw [Vt (by rw [length_map];have:=hq.len;lia),map_append];rfl) ⟨_,_,_,_,_,rfl,hq.app (Prs.one (by show min a b<max a b;lia) (by show max a b<_;lia))⟩
 ·rintro e ⟨qs,v5,v6,v7,v8,rfl,hq⟩
  rw [U8] at hq;exact Io rfl ⟨qs,rfl,hq⟩
end K34
set_option maxHeartbeats 1000000
namespace K34
open PySem PySem.Spec PyProof.Rows L2
theorem Z7p (p q:Nat×Nat):Sg (Zo p) (Zo q)=decide (p=q):=by
 show (((p.1:Int)==(q.1:Int))&&(((p.2:Int)==(q.2:Int))&&true))=_;rw [Bool.eq_iff_iff];simp only [Bool.and_eq_true,beq_iff_eq,decide_eq_true_eq,and_true];constructor
 ·rintro ⟨h1,h2⟩;exact Prod.ext (by lia) (by lia)
 ·rintro rfl;exact ⟨rfl,rfl⟩
theorem Z6s (p q:Nat×Nat):Ec (Zo p) (Zo q)=some (.bl (!decide (p=q))):=by
 unfold Ec;rw [Ip,Ip,Z7p];rfl
theorem Z3p (ps:List Nat) (t:Nat) (h:t<=ps.length):Ta (Zd ps) (some (t:Int)) none=Zd (ps.drop t):=by
 unfold Zd;rw [Mo,Mo,Lb ps t h]
theorem K0 (b:Bool):Q8 (.int (if b then 1 else 0)) (.int 0)=some (.bl (!b)):=by cases b<;>rfl
theorem Z3d {a b k:Nat} (h1:a<2^k) (h2:b<2^k):a ||| b<2^k:=Nat.or_lt_two_pow h1 h2
structure DS (s0:Nat) (rs:List (Nat×Nat)) (ps:List Nat) (code d:Nat) (s:St3):Prop where
 w:ps[d]?=some s.w
 tk:Es s0 rs (·.2) (·.1) d s.takes
 fl:Es s0 rs (·.1) (·.2) d s.fills
 up:s.up=!(code.testBit s.w ^^ decide ((ps.take d).count s.w % 2=1))
def Zbt (G:G3) (n s0:Nat) (ps:List Nat) (rs:List (Nat×Nat)):Prop:=(∀ q∈rs,q.1<q.2/\q.2<2*n)/\∀ d,d<2*n->∃ s∈G.steps,Deed G s0 (U5 ps) (U6 ps) rs n d s
theorem Z4s (ns:List Int) (first n many:Nat) (hf:first<=900) (hn1:1<=n) (hn2:n<=4) (hm:many<=5):∃ (G:G3) (s0:Nat) (ps:List Nat) (rs:List (Nat×Nat)),Qs [Qv ns,.int (first:Int),.int (n:Int),.int (many:Int)]=.ok G.d/\RG G n s0 (U5 ps) (U6 ps) rs/\Gb 54 G/\Eg G/\Zbt G n s0 ps rs:=by
 have:=Yq (n:=24) (p:=4) (ds:=[Qv ns,.int (first:Int),.int (n:Int),.int (many:Int)]) (g:=Vs) (R:=fun d=>∃ (G:G3) (s0:Nat) (ps:List Nat) (rs:List (Nat×Nat)),d=G.d/\RG G n s0 (U5 ps) (U6 ps) rs/\Gb 54 G/\Eg G/\Zbt G n s0 ps rs) rfl ?_
 ·obtain ⟨d,e,z,s0,ps,rs,rfl,h⟩:=this
  exact ⟨z,s0,ps,rs,e,h⟩
 show Go (Vs [.fz (Qv ns),.fz (.int (first:Int)),.fz (.int (n:Int)),.fz (.int (many:Int)),.un,.un,.un,.un,.un,.un,.un,.un,.un,.un,.un,.un,.un,.un,.un,.un,.un,.un,.un,.un]) _ _;unfold Vs;obtain ⟨ps,eo,ho⟩:=Z42 ns first n (by lia) (by lia);have hpl:=ho.len;refine Z8 (Zf (Zi (xs:=[Qv ns,.int (first:Int),.int (n:Int)]) rfl eo) ?_);refine Z8 (Zf (Z5 rfl rfl (Cd 2 n (by lia))) ?_);obtain ⟨m,hm0⟩:∃ m:Nat,2*n=m:=⟨_,rfl⟩;rw [hm0] at hpl ⊢;obtain ⟨c,ec,lc⟩:=Rl ns (first+n) (by lia);refine Z8 (Zf (Zi (xs:=[Qv ns,.int ((first+n:Nat):Int)]) (Z4 rfl (Z4 (Z5 rfl rfl (Vj _ _)) rfl)) ec) ?_);obtain ⟨qs,eq,hq⟩:=Z1m ns (first+n+1) many m (by lia) (by lia) (by lia);refine Z8 (Zf (Zi (xs:=[Qv ns,.int ((first+n+1:Nat):Int),.int (many:Int),.int (m:Int)]) (Z4 rfl (Z4 (Z5 (Z5 rfl rfl (Vj _ _)) rfl (Vj _ 1)) rfl)) eq) ?_);refine Z8 (Go.mono (N:=fun e=>∃ rs:List (Nat×Nat),e=[.fz (Qv ns),.fz (.int (first:Int)),.fz (.int (n:Int)),.fz (.int (many:Int)),.fz (.lst (Zd ps)),.fz (.int (m:Int)),.fz (.int (c:Int)),.fz (.lst (rs.map Zo)),.un,.un,.un,.un,.un,.un,.un,.un,.un,.un,.un,.un,.un,.un,.un,.un]/\Prs m 12 rs) ?_ ?_ (fun _ h=>h))
 ·refine Qb (Yj (Z5 (Z5 rfl rfl (Ws c 3 (by lia))) rfl (eqN _ 0))) (fun _=>?_) (fun _=>W8 ⟨qs,rfl,hq.mono (by lia)⟩)
  obtain ⟨ks,hs,hc⟩:=Nu (g:=Yh 0) (t:=dB (dO B9 (Ys (Z2 (dV 0) (Z2 (dO Yi (dV 0) (dC (.int 1))) Zc))) (dV 1))) (f:=Ys (Z2 (dV 0) (Z2 (dO Yi (dV 0) (dC (.int 1))) Zc))) (env:=[.un,.fz (.lst (qs.map Zo))]) (fun k:Nat=>Dat.int (k:Int)) (fun k:Nat=>Zo (k,k+1)) (List.range (m - 1)) fun k _=>by
   obtain ⟨b,hb⟩:=O3 (k,k+1) qs;have et:Ys (Z2 (dV 0) (Z2 (dO Yi (dV 0) (dC (.int 1))) Zc)) [.fz (.int (k:Int)),.fz (.lst (qs.map Zo))]=some (Zo (k,k+1)):=Yb (Z4 rfl (Z4 (Z5 rfl rfl (Vj k 1)) rfl)) (by simp);exact ⟨_,b,rfl,Yj (Z5 et rfl hb),et⟩
  rw [← Em] at hc;have hp:Prs m 7 (ks.map fun k=>(k,k+1)):=⟨by have:=hs.length_le;rw [length_range] at this;rw [length_map];lia,fun q hq=>by
   obtain ⟨k,hk,rfl⟩:=mem_map.mp hq;have:=mem_range.mp (hs.subset hk);exact ⟨by show k<k+1;lia,by show k+1<m;lia⟩⟩
  have hl1:=hq.len;have hl2:=hp.len;rw [length_map] at hl2;refine Zf (Z5 rfl (Ww (Wp (xs:=rng 0 (m - 1)) (W1 (Z4 (Z5 rfl rfl (Z2y m 1 (by lia))) rfl) (by lia)) rfl hc)) (El (by rw [length_map,length_map];lia))) ⟨qs++ks.map fun k=>(k,k+1),by rw [map_append,map_map];rfl,(hq.app hp).mono (by lia)⟩
 rintro e ⟨rs,rfl,hr⟩;clear eq hq qs;refine Z8 (Ve (ds:=rng 0 n) (fun i e=>∃ (rs:List (Nat×Nat)) (v8 v9 v10:Slt),e=[.fz (Qv ns),.fz (.int (first:Int)),.fz (.int (n:Int)),.fz (.int (many:Int)),.fz (.lst (Zd ps)),.fz (.int (m:Int)),.fz (.int (c:Int)),.fz (.lst (rs.map Zo)),v8,v9,v10,.un,.un,.un,.un,.un,.un,.un,.un,.un,.un,.un,.un,.un]/\Prs m (12+i) rs/\∀ w,w<i->(U5 ps w,U6 ps w)∈rs) (W1 (Z4 rfl rfl) (by lia)) ⟨rs,.un,.un,.un,rfl,hr,fun w hw=>absurd hw (by lia)⟩ ?_ ?_)
 ·rintro i d e hi ⟨rs,v8,v9,v10,rfl,hr,hrg⟩
  obtain ⟨hi1,rfl⟩:=Uy hi;rw [Int.zero_add];refine ⟨_,rfl,?_⟩;have hmem:i∈ps:=ho.mem.mpr hi1;have hone:ps.idxOf i<ps.length:=List.idxOf_lt_length_of_mem hmem;have h2:=Bz (ho.two hi1);have htw0:U6 ps i=ps.idxOf i+1+(ps.drop (ps.idxOf i+1)).idxOf i:=rfl;have hon0:U5 ps i=ps.idxOf i:=rfl;refine Z8 (Zf (Z95 rfl rfl rfl (Kv ps i hmem)) ?_);generalize ps.idxOf i=one at hone h2 htw0 hon0;have htwo:(ps.drop (one+1)).idxOf i<(ps.drop (one+1)).length:=List.idxOf_lt_length_of_mem h2;rw [length_drop] at htwo;refine Z8 (Zf (Z5 (Z5 rfl rfl (Vj one 1)) (Z95 (x:=.lst (Zd (ps.drop (one+1)))) (D6 rfl (Vo (Z5 rfl rfl (Vj one 1))) rfl (by rw [Dy,Z3p ps _ (by lia)])) rfl rfl (Kv _ i h2)) (Vj _ _)) ?_);generalize (ps.drop (one+1)).idxOf i=x2 at htwo htw0;have hc:=Uc (g:=Yh 0) (t:=dB (dO Ec (dV 0) (Ys (Z2 (dV 1) (Z2 (dV 2) Zc))))) (f:=dV 0) (env:=[.un,.fz (.int (one:Int)),.fz (.int ((one+1+x2:Nat):Int))]) Zo Zo (fun q=>!decide (q=(one,one+1+x2))) rs fun q _ =>
   ⟨_,rfl,Yj (Z5 rfl (Yb rfl (by simp)) (Z6s q (one,one+1+x2))),rfl⟩
  have hs:(rs.filter fun q=>!decide (q=(one,one+1+x2))).Sublist rs:=filter_sublist;have hl:=hs.length_le;have hl2:=hr.len;refine Zf (Z5 (Ww (Wp (xs:=rs.map Zo) rfl rfl hc)) (Ww (Qo (xs:=[Zo (one,one+1+x2)]) (Z4 (Yb rfl (by simp)) rfl) (by simp))) (El (by rw [length_map];show _+1<=_;lia))) ⟨(rs.filter fun q=>!decide (q=(one,one+1+x2)))++[(one,one+1+x2)],_,_,_,by rw [map_append];rfl,?_,?_⟩
  ·exact ((hr.sub hs).app (Prs.one (by show one<one+1+x2;lia) (by show one+1+x2<m;lia))).mono (by lia)
  ·intro w hw
   by_cases e:(U5 ps w,U6 ps w)=(one,one+1+x2)
   ·rw [e];exact mem_append_right _ (mem_singleton.mpr rfl)
   ·have hwi:w<i:=by
     rcases lt_or_ge w i with h | h
     ·exact h
     ·have:w=i:=by lia
      subst this;exact absurd (Prod.ext hon0 htw0) e
    exact mem_append_left _ (mem_filter.mpr ⟨hrg w hwi,by rw [decide_eq_false e];rfl⟩)
 rintro e ⟨rs,v8,v9,v10,rfl,hr,hrg⟩;rw [U8] at hr hrg;refine Z8 (Co (ds:=Zd ps) rfl ?_);refine Z8 (Co (ds:=Zd ps) rfl ?_);rw [length_map,length_map,hpl,Z4z];refine Z8 (Zf (d:=.int ((0:Nat):Int)) rfl ?_);refine Z8 (Zf (Z5 (Z5 rfl rfl (Wd c 3 (by lia) (by lia))) rfl (Ws _ 20 (by lia))) ?_);have hs0:c / 3 % 20<20:=mod_lt _ (by lia);generalize c / 3 % 20=s0 at hs0;refine Z8 (Ve (ds:=rs.map Zo) (fun i e=>∃ (tk fl:List (List Nat)) (mk:Nat) (v15 v16:Slt),e=[.fz (Qv ns),.fz (.int (first:Int)),.fz (.int (n:Int)),.fz (.int (many:Int)),.fz (.lst (Zd ps)),.fz (.int (m:Int)),.fz (.int (c:Int)),.fz (.lst (rs.map Zo)),v8,v9,v10,.gx (.nest (tk.map Zd)),.gx (.nest (fl.map Zd)),.fz (.int (mk:Int)),.fz (.int ((s0+2*i:Nat):Int)),v15,v16,.un,.un,.un,.un,.un,.un,.un]/\tk.length=m/\fl.length=m/\Nst (2*i) (s0+2*i) tk/\Nst (2*i) (s0+2*i) fl/\mk<2^(s0+2*i)/\(∀ l∈tk,l.Nodup)/\(∀ l∈fl,l.Nodup)/\NS s0 (rs.take i) (·.2) (·.1) tk/\NS s0 (rs.take i) (·.1) (·.2) fl/\∀ q,mk.testBit q=true↔∃ t,t<i/\q=s0+2*t+1) rfl ⟨_,_,0,.un,.un,rfl,length_replicate,length_replicate,(Nst.nil m).mono (by lia) (by lia),(Nst.nil m).mono (by lia) (by lia),two_pow_pos _,fun l h=>by rw [(mem_replicate.mp h).2];exact nodup_nil,fun l h=>by rw [(mem_replicate.mp h).2];exact nodup_nil,by rw [take_zero];exact NS.nil _ _ _ _,by rw [take_zero];exact NS.nil _ _ _ _,fun q=>by simp⟩ ?_ ?_)
 ·rintro i d e hi ⟨tk,fl,mk,v15,v16,rfl,htl,hfl,ht,hfk,hmk,ndt,ndf,nst,nsf,hmb⟩
  rw [getElem?_map] at hi;obtain ⟨q,hq,rfl⟩:=map_some hi;have hil:=(List.getElem?_eq_some_iff.mp hq).1;have hql:=hr.lt q (mem_of_getElem? hq);have hrl:=hr.len;refine ⟨_,rfl,?_⟩;have ht1:=ht.mono (le_refl _) (show s0+2*i<=s0+2*i+2 by lia);have hf1:=hfk.mono (le_refl _) (show s0+2*i<=s0+2*i+2 by lia);refine Z8 (Iq rfl hf1 (by lia) (k:=q.1) (by lia) rfl rfl ?_);refine Z8 (Iq rfl ht1 (by lia) (k:=q.2) (by lia) rfl rfl ?_);have ht2:=ht1.app q.2 (s0+2*i) (by lia);have hf2:=hf1.app q.1 (s0+2*i) (by lia);refine Z8 (Iq (x:=s0+2*i+1) rfl hf2 (by lia) (k:=q.2) (by rw [J6];lia) rfl rfl ?_);refine Z8 (Iq (x:=s0+2*i+1) rfl ht2 (by lia) (k:=q.1) (by rw [J6];lia) rfl rfl ?_);have ht3:=ht2.app q.1 (s0+2*i+1) (by lia);have hf3:=hf2.app q.2 (s0+2*i+1) (by lia);have htb:=(ht.mono (le_refl _) (show s0+2*i<=s0+2*i+1 by lia)).app q.2 (s0+2*i) (by lia);have hfb:=(hfk.mono (le_refl _) (show s0+2*i<=s0+2*i+1 by lia)).app q.1 (s0+2*i) (by lia);have hti:(rs.take i).length=i:=by rw [length_take];lia
  have htk1:rs.take (i+1)=rs.take i++[q]:=by rw [take_succ,hq];rfl
  refine Z8 (Zf (Z5 rfl (Z5 rfl (Z5 rfl rfl (Vj _ 1)) (Rz (s0+2*i+1) (by lia))) (orN mk _)) ?_);refine Zf (Z5 rfl rfl (Vj _ 2)) ⟨_,_,_,_,_,rfl,by rw [J6,J6,htl],by rw [J6,J6,hfl],ht3.mono (by lia) (by lia),hf3.mono (by lia) (by lia),?_,?_,?_,?_,?_,?_⟩
  ·exact Z3d (lt_of_lt_of_le hmk (pow_le_pow_right (by lia) (by lia))) (Nat.pow_lt_pow_right (by lia) (by lia))
  ·exact P9 htb (P9 ht ndt _ _ (le_refl _)) _ _ (le_refl _)
  ·exact P9 hfb (P9 hfk ndf _ _ (le_refl _)) _ _ (le_refl _)
  ·have:=nst.app q (by show q.2<_;lia) (by show q.1<_;lia)
   rw [hti] at this;rw [htk1];exact this
  ·have:=nsf.app q (by show q.1<_;lia) (by show q.2<_;lia)
   rw [hti] at this;rw [htk1];exact this
  ·intro j
   rw [testBit_or,Bool.or_eq_true,hmb,testBit_two_pow,decide_eq_true_eq];constructor
   ·rintro (⟨t,h1,h2⟩ | h1)
    ·exact ⟨t,by lia,h2⟩
    ·exact ⟨i,by lia,h1.symm⟩
   ·rintro ⟨t,h1,h2⟩
    rcases lt_or_ge t i with h | h
    ·exact .inl ⟨t,h,h2⟩
    ·have:t=i:=by lia
     subst this;exact .inr h2.symm
 rintro e ⟨tk,fl,mk,v15,v16,rfl,htl,hfl,ht,hfk,hmk,ndt,ndf,nst,nsf,hmb⟩;rw [length_map] at ht hfk hmk nst nsf hmb ⊢;rw [take_of_length_le (le_refl _)] at nst nsf;have hrl:=hr.len;have ht:=ht.mono (L':=32) (B':=54) (by lia) (by lia);have hfk:=hfk.mono (L':=32) (B':=54) (by lia) (by lia);have hmk:mk<2^54:=lt_of_lt_of_le hmk (pow_le_pow_right (by lia) (by lia));refine Z8 (Zf (Z5 (Z5 rfl rfl (Wd c 60 (by lia) (by lia))) (Z5 rfl rfl (Rz n (by lia))) (Ws _ (2^n) (two_pow_pos _))) ?_);have hcode:c / 60 % 2^n<2^n:=mod_lt _ (two_pow_pos _);generalize c / 60 % 2^n=code at hcode;refine Z8 (Zf rfl ?_);refine Z8 (Jz (ds:=([]:List St3).map St3.d) rfl ?_);generalize (s0+2*rs.length)=s9;refine Z8 (Ve (ds:=R8 0 (Zd ps)) (fun i e=>∃ (ss:List St3) (seen:Nat) (v8 v20:Slt),e=[.fz (Qv ns),.fz (.int (first:Int)),.fz (.int (n:Int)),.fz (.int (many:Int)),.fz (.lst (Zd ps)),.fz (.int (m:Int)),.fz (.int (c:Int)),.fz (.lst (rs.map Zo)),v8,v9,v10,.gx (.nest (tk.map Zd)),.gx (.nest (fl.map Zd)),.fz (.int (mk:Int)),.fz (.int (s9:Int)),v15,v16,.fz (.int (code:Int)),.fz (.int (seen:Int)),.ow (ss.map St3.d),v20,.un,.un,.un]/\ss.length=i/\(∀ v,seen.testBit v=(code.testBit v ^^ decide ((ps.take i).count v % 2=1)))/\(∀ j s,ss[j]?=some s->DS s0 rs ps code j s)/\∀ s∈ss,SB 54 n s) rfl ⟨[],code,v8,.un,rfl,rfl,fun v=>by simp,fun j s h=>(by simp at h),by simp⟩ ?_ ?_)
 ·rintro i d e hi ⟨ss,seen,v8,v20,rfl,hsl,hsn,hds,hsk⟩
  obtain ⟨x,hx,rfl⟩:=Gw hi;obtain ⟨w,hw,rfl⟩:=Mc hx;have hil:=(List.getElem?_eq_some_iff.mp hw).1;have hwn:w<n:=ho.mem.mp (mem_of_getElem? hw);refine ⟨_,rfl,?_⟩;have e1:tk[i]?=some tk[i]:=getElem?_eq_getElem (by lia);have e2:fl[i]?=some fl[i]:=getElem?_eq_getElem (by lia);have n1:=nst i;have n2:=nsf i;rw [show tk.getD i []=tk[i] by rw [List.getD,e1];rfl] at n1;rw [show fl.getD i []=fl[i] by rw [List.getD,e2];rfl] at n2;generalize htk:tk[i]=tl at e1 n1;generalize hfl':fl[i]=fl' at e2 n2;have t1:=ht.len _ (mem_of_getElem? e1);have t2:=ht.lt _ (mem_of_getElem? e1);have f1:=hfk.len _ (mem_of_getElem? e2);have f2:=hfk.lt _ (mem_of_getElem? e2);obtain ⟨ta,ea,pa⟩:=Dv tl (by lia);obtain ⟨fa,eb,pb⟩:=Dv fl' (by lia);refine Z8 (Q5 (ds:=ss.map St3.d) (as:=[(⟨w,!(seen.testBit w),ta,fa⟩:St3).d]) (ds':=(ss++[(⟨w,!(seen.testBit w),ta,fa⟩:St3)]).map St3.d) rfl (Z4 (Yb (Z4 rfl (Z4 (Z5 (Z5 (Z5 rfl rfl (N7 seen w)) rfl (Rt seen w)) rfl (K0 _)) (Z4 (Yr (Z4 (Ww (Yr (Z4 (Z07 rfl rfl e1) rfl) ea)) rfl) rfl) (Z4 (Yr (Z4 (Ww (Yr (Z4 (Z07 rfl rfl e2) rfl) eb)) rfl) rfl) rfl)))) (by simp)) rfl) ?_ ?_)
  ·rw [Vt (by rw [length_map];lia),map_append];rfl
  ·refine Zf (Z5 rfl (Z5 rfl rfl (Rz w (by lia))) (Zck seen _)) ⟨_,_,_,_,rfl,by rw [length_append,length_singleton,hsl],?_,?_,fun s hs=>?_⟩
   ·intro v
    rw [Wj,hsn,take_succ,hw];show (code.testBit v ^^ decide ((ps.take i).count v % 2=1) ^^ decide (w=v))=(code.testBit v ^^ decide ((ps.take i++[w]).count v % 2=1));rw [List.count_append,List.count_singleton];by_cases ew:w=v
    ·subst ew
     rw [show (w==w)=true from beq_self_eq_true _,decide_eq_true rfl,if_pos rfl];by_cases hp:(ps.take i).count w % 2=1
     ·rw [decide_eq_true hp,decide_eq_false (by lia)];cases code.testBit w<;>rfl
     ·rw [decide_eq_false hp,decide_eq_true (by lia)];cases code.testBit w<;>rfl
    ·rw [show (w==v)=false from beq_eq_false_iff_ne.mpr ew,decide_eq_false ew];simp
   ·intro j s hj
    rcases lt_or_ge j ss.length with hl | hl
    ·rw [getElem?_append_left hl] at hj
     exact hds j s hj
    ·rw [getElem?_append_right hl] at hj
     have e0:j - ss.length=0:=by
      rcases eq_zero_or_pos (j - ss.length) with z | z
      ·exact z
      ·rw [getElem?_cons,if_neg (by lia)] at hj;cases hj
     rw [e0] at hj;cases hj;have ej:j=i:=by lia
     subst ej;exact ⟨hw,n1.perm pa,n2.perm pb,by show (!(seen.testBit w))=_;rw [hsn]⟩
   rcases mem_append.mp hs with h | h
   ·exact hsk s h
   ·rw [mem_singleton.mp h]
    exact ⟨hwn,fun p hp=>t2 p (pa.mem_iff.mp hp),fun p hp=>f2 p (pb.mem_iff.mp hp),pa.nodup_iff.mpr (ndt _ (mem_of_getElem? e1)),pb.nodup_iff.mpr (ndf _ (mem_of_getElem? e2))⟩
 rintro e ⟨ss,seen,v8,v20,rfl,hsl,hsn,hds,hsk⟩;rw [Ur,length_map,length_map] at hsl;refine Z8 (Zf (Z5 (Z5 rfl rfl (Wd c 2000 (by lia) (by lia))) rfl (Ws _ m (by lia))) ?_);have htn:c / 2000 % m<m:=mod_lt _ (by lia);generalize c / 2000 % m=t at htn;refine Z8 (Jz (ds:=(ss.drop t++ss.take t).map St3.d) (by
  refine Z5 (D6 rfl (Vo rfl) rfl (Dy _ _ _)) (D6 rfl rfl (Vo rfl) (Dy _ _ _)) ?_;rw [Mo,Mo,Lb ss t (by lia),Fw ss t (by lia),Z6w (by rw [length_map,length_map,length_drop,length_take];lia),map_append]) ?_)
 refine Z8 (Zf (Z5 rfl rfl (Wd c 40000 (by lia) (by lia))) ?_);obtain ⟨ws,ew,wl,_⟩:=Lu (g:=Yh 0) (f:=Ys (Z2 (Yf Wb (Z2 (dV 1) (Z2 (dV 0) Zc))) (Z2 (dO W7 (dL (U3 (Z2 (dC (.str "given")) (Z2 (dC (.str "made")) Zc)))) (dO Wg (dO Yt (Yf Yk (Z2 (dV 2) (Z2 (dO Yi (dV 3) (dV 0)) Zc))) (dC (.int 4096))) (dC (.int 2)))) Zc))) (env:=[.un,.fz (.int ((c / 40000:Nat):Int)),.fz (Qv ns),.fz (.int (first:Int))]) Qn (fun _=>True) (rng 0 n) fun x hx=>by
  obtain ⟨i,hi,rfl⟩:=Cn hx;rw [Int.zero_add];obtain ⟨z,ez⟩:=Iz (c / 40000) i;obtain ⟨r,er,_⟩:=Rl ns (first+i) (by lia);have p1:=Zcm (.str "given") (.str "made") (j:=((r / 4096 % 2:Nat):Int)) (by lia) (by lia);refine ⟨[.fz (.int (i:Int)),.fz (.int ((c / 40000:Nat):Int)),.fz (Qv ns),.fz (.int (first:Int))],(z,decide (((r / 4096 % 2:Nat):Int)=1)),rfl,?_,trivial⟩;refine Eq.trans (Yb (Z4 (Zi (xs:=[.int ((c / 40000:Nat):Int),.int (i:Int)]) rfl ez) (Z4 (Z5 (x:=.lst [.str "given",.str "made"]) rfl (Z5 (Z5 (Zi (xs:=[Qv ns,.int ((first+i:Nat):Int)]) (Z4 rfl (Z4 (Z5 rfl rfl (Vj _ _)) rfl)) er) rfl (Wd r 4096 (by lia) (by lia))) rfl (Ws _ 2 (by lia))) p1) rfl)) (by simp)) ?_;show some (Dat.tup [.str z,if ((r / 4096 % 2:Nat):Int)=1 then .str "made" else .str "given"])=some (Dat.tup [.str z,.str (if decide (((r / 4096 % 2:Nat):Int)=1)=true then "made" else "given")]);by_cases hb:((r / 4096 % 2:Nat):Int)=1
  ·rw [if_pos hb,decide_eq_true hb];rfl
  ·rw [if_neg hb,decide_eq_false hb];rfl
 rw [U8] at wl;refine Z8 (Zf (d:=.lst (ws.map Qn)) (Ww (Wp (xs:=rng 0 n) (W1 (Z4 rfl rfl) (by lia)) rfl ew)) ?_);have hperm:(ss.drop t++ss.take t).Perm ss:=by
  have:=List.perm_append_comm (l₁:=ss.drop t) (l₂:=ss.take t);rw [take_append_drop] at this;exact this
 have hlen:=hperm.length_eq;refine Y9 (Yb (Z4 (Yr (Z4 rfl rfl) rfl) (Z4 (Yr (Z4 rfl rfl) rfl) rfl)) (by simp)) ⟨⟨ws,ss.drop t++ss.take t,mk,code⟩,s0,ps,rs,rfl,?_,?_,?_,fun q hq=>⟨(hr.lt q hq).1,by have:=(hr.lt q hq).2;lia⟩,fun d hd=>?_⟩
 ·exact {
   ne:=fun q hq=>by have:=(hr.lt q hq).1;lia
   ring:=hrg
   inj:=fun w v hw hv h=>ho.inj w v hw hv h
   mks:=hmb
   st:=fun s hs=>by
    obtain ⟨d,hd⟩:=getElem?_of_mem (hperm.mem_iff.mp hs);have q:=hds d s hd;have hwn:=(hsk s (hperm.mem_iff.mp hs)).w;have hdl:=(List.getElem?_eq_some_iff.mp hd).1;refine ⟨d,hwn,by lia,q.tk,q.fl,?_⟩;have hu:=q.up;rcases Z6t q.w (ho.two hwn) with ⟨h1,h2⟩ | ⟨h1,h2⟩
    ·exact .inl ⟨h2,by rw [hu,h1];show (!(code.testBit s.w ^^ decide (0 % 2=1)))=(!code.testBit s.w);simp⟩
    ·exact .inr ⟨h2,by rw [hu,h1];show (!(code.testBit s.w ^^ decide (1 % 2=1)))=code.testBit s.w;simp⟩ }
 ·exact { w2:=by show ws.length<=10;lia,s1:=by show 1<=(ss.drop t++ss.take t).length;lia,s2:=by show (ss.drop t++ss.take t).length<=24;lia,st:=fun s hs=>by show SB 54 ws.length s;rw [wl];exact hsk s (hperm.mem_iff.mp hs),mks:=hmk }
 ·have hnd:((List.range m).drop t++(List.range m).take t).Nodup:=by
   have hp:((List.range m).drop t++(List.range m).take t).Perm (List.range m):=by
    have:=List.perm_append_comm (l₁:=(List.range m).drop t) (l₂:=(List.range m).take t);rw [take_append_drop] at this;exact this
   exact hp.nodup_iff.mpr List.nodup_range
  refine Bd (n:=n) (s0:=s0) (one:=U5 ps) (two:=U6 ps) (rs:=rs) _ hnd fun i s hi=>?_
  have key:∀ d:Nat,ss[d]?=some s->Deed (⟨ws,ss.drop t++ss.take t,mk,code⟩:G3) s0 (U5 ps) (U6 ps) rs n d s:=fun d hd=>by
   have q:=hds d s hd;have hwn:=(hsk s (mem_of_getElem? hd)).w;have hdl:=(List.getElem?_eq_some_iff.mp hd).1;refine ⟨hwn,by lia,q.tk,q.fl,?_⟩;have hu:=q.up;rcases Z6t q.w (ho.two hwn) with ⟨h1,h2⟩ | ⟨h1,h2⟩
   ·exact .inl ⟨h2,by rw [hu,h1];show (!(code.testBit s.w ^^ decide (0 % 2=1)))=(!code.testBit s.w);simp⟩
   ·exact .inr ⟨h2,by rw [hu,h1];show (!(code.testBit s.w ^^ decide (1 % 2=1)))=code.testBit s.w;simp⟩
  have hi':(ss.drop t++ss.take t)[i]?=some s:=hi;rcases lt_or_ge i (m - t) with h | h
  ·rw [getElem?_append_left (by rw [length_drop];lia),List.getElem?_drop] at hi'
   refine ⟨t+i,?_,key _ hi'⟩;rw [getElem?_append_left (by rw [length_drop,length_range];lia),List.getElem?_drop,getElem?_range (by lia)]
  ·rw [getElem?_append_right (by rw [length_drop];lia),length_drop,List.getElem?_take] at hi'
   split at hi'
   ·rename_i hlt
    refine ⟨i - (ss.length - t),?_,key _ hi'⟩;have e9:i - (m - t)=i - (ss.length - t):=by lia
    rw [getElem?_append_right (by rw [length_drop,length_range];lia),length_drop,length_range,List.getElem?_take,e9,if_pos hlt,getElem?_range (by lia)]
   ·cases hi'
 ·obtain ⟨s,hs⟩:∃ s,ss[d]?=some s:=⟨_,getElem?_eq_getElem (by lia)⟩
  have q:=hds d s hs;have hwn:=(hsk s (mem_of_getElem? hs)).w;refine ⟨s,hperm.mem_iff.mpr (mem_of_getElem? hs),hwn,hd,q.tk,q.fl,?_⟩;have hu:=q.up;rcases Z6t q.w (ho.two hwn) with ⟨h1,h2⟩ | ⟨h1,h2⟩
  ·exact .inl ⟨h2,by rw [hu,h1];show (!(code.testBit s.w ^^ decide (0 % 2=1)))=(!code.testBit s.w);simp⟩
  ·exact .inr ⟨h2,by rw [hu,h1];show (!(code.testBit s.w ^^ decide (1 % 2=1)))=code.testBit s.w;simp⟩
theorem stp {f1 f2 f3 f4:Ev->Option Dat} {env:Ev} {w p q:Nat} {u:Bool} (h1:f1 env=some (.int (w:Int))) (h2:f2 env=some (.bl u)) (h3:f3 env=some (.int (p:Int))) (h4:f4 env=some (.int (q:Int))):Ys (Z2 f1 (Z2 f2 (Z2 (Ys (Z2 f3 Zc)) (Z2 (Ys (Z2 f4 Zc)) Zc)))) env=some (⟨w,u,[p],[q]⟩:St3).d :=
 Yb (Z4 h1 (Z4 h2 (Z4 (Yb (Z4 h3 rfl) (by simp)) (Z4 (Yb (Z4 h4 rfl) (by simp)) rfl)))) (by simp)
theorem Zcp {j:Nat} (h:j<3):∃ b:Bool,W7 (.lst [.str "given",.str "given",.str "made"]) (.int (j:Int))=some (.str (if b then "made" else "given")):=by
 rcases (show j=0\/j=1\/j=2 by lia) with rfl | rfl | rfl
 ·exact ⟨false,rfl⟩
 ·exact ⟨false,rfl⟩
 ·exact ⟨true,rfl⟩
theorem E8 {α:Type} (f:α->Dat) (xs:List α):Ti [.lst (xs.map f)]=some (.int ((xs.length:Nat):Int)):=by
 show some (Dat.int ((xs.map f).length:Int))=_;rw [length_map]
def LC (C base f q:Nat):Nat:=if q=base then C else if (q - base - 1) % 3=0 then C ^^^ 2^(1+(q - base - 1) / 3*f) else if (q - base - 1) % 3=1 then C ^^^ 2^(1+(q - base - 1) / 3*f) ^^^ 2^0 else C ^^^ 2^0
theorem LC0 (C base f:Nat):LC C base f base=C:=if_pos rfl
theorem LC1 (C base f k:Nat):LC C base f (base+1+3*k)=C ^^^ 2^(1+k*f):=by
 unfold LC;have e:base+1+3*k - base - 1=3*k:=by lia
 rw [if_neg (by lia),e,if_pos (by lia),show 3*k / 3=k by lia]
theorem LC2 (C base f k:Nat):LC C base f (base+1+3*k+1)=C ^^^ 2^(1+k*f) ^^^ 2^0:=by
 unfold LC;have e:base+1+3*k+1 - base - 1=3*k+1:=by lia
 rw [if_neg (by lia),e,if_neg (by lia),if_pos (by lia),show (3*k+1) / 3=k by lia]
theorem LC3 (C base f k:Nat):LC C base f (base+1+3*k+2)=C ^^^ 2^0:=by
 unfold LC;have e:base+1+3*k+2 - base - 1=3*k+2:=by lia
 rw [if_neg (by lia),e,if_neg (by lia),if_neg (by lia)]
theorem xx (a b:Nat):a ^^^ b ^^^ b=a:=by rw [Nat.xor_assoc,Nat.xor_self,Nat.xor_zero]
theorem xxy (a b c:Nat):a ^^^ b ^^^ c ^^^ b=a ^^^ c:=by rw [Nat.xor_assoc,Nat.xor_comm c b,← Nat.xor_assoc,xx]
def N0 (K:Nat) (L:Nat->Nat) (s:St3):Prop:=(∃ x y,x<64/\y<64/\x≠y/\s.takes=[x]/\s.fills=[y]/\L y=L x ^^^ 2^s.w/\(L x).testBit s.w≠s.up)/\SB 54 (K+1) s
theorem Dp {K:Nat} {L:Nat->Nat} {w x y:Nat} {u:Bool} (hx:x<54) (hy:y<54) (hn:x≠y) (hw:w<K+1) (h1:L y=L x ^^^ 2^w) (h2:(L x).testBit w≠u):N0 K L ⟨w,u,[x],[y]⟩ :=
 ⟨⟨x,y,by lia,by lia,hn,rfl,rfl,h1,h2⟩,hw,fun p hp=>by rw [mem_singleton.mp hp];exact hx,fun p hp=>by rw [mem_singleton.mp hp];exact hy,nodup_cons.mpr ⟨by simp,nodup_nil⟩,nodup_cons.mpr ⟨by simp,nodup_nil⟩⟩
theorem Z43 (c:Nat):T6 (.int (c:Int)) (.int 1)=some (.int (if c.testBit 0 then 1 else 0)):=by
 have:=Rt c 0;rw [Nat.pow_zero,Nat.div_one] at this;exact this
theorem Z0f {c k x:Nat} (h:x<k):(c % 2^k).testBit x=c.testBit x:=by
 rw [Nat.testBit_mod_two_pow,decide_eq_true h,Bool.true_and]
theorem Zb7 (b:Bool):b≠!b:=by cases b<;>simp
structure Lv (base:Nat) (ss:List St3) (i:Nat):Prop where
 cl:∀ s∈ss,s.fills=[base]\/∃ s'∈ss,s'.takes=s.fills
 ex:0<i->∃ s∈ss,s.takes=[base]
theorem Lv.app {base:Nat} {ss new:List St3} {i:Nat} (h:Lv base ss i) (h1:∀ s∈new,s.fills=[base]\/∃ s'∈new,s'.takes=s.fills) (h2:∃ s∈new,s.takes=[base]):Lv base (ss++new) (i+1):=by
 refine ⟨fun s hs=>?_,fun _=>?_⟩
 ·rcases mem_append.mp hs with q | q
  ·exact (h.cl s q).imp id fun ⟨s',a,b⟩=>⟨s',mem_append_left _ a,b⟩
  ·exact (h1 s q).imp id fun ⟨s',a,b⟩=>⟨s',mem_append_right _ a,b⟩
 ·obtain ⟨s,a,b⟩:=h2
  exact ⟨s,mem_append_right _ a,b⟩
def Zbh (G:G3) (b:Nat):Prop:=(∃ s∈G.steps,s.takes=[b])/\∀ s∈G.steps,∃ s'∈G.steps,s'.takes=s.fills
theorem Z15 (ns:List Int) (first:Nat) (hf:first<=900):∃ (G:G3) (b:Nat) (L:Nat->Nat),Q7 [Qv ns,.int (first:Int)]=.ok G.d/\OneT G b L/\Gb 54 G/\Zbh G b:=by
 have:=Yq (n:=13) (p:=2) (ds:=[Qv ns,.int (first:Int)]) (g:=Vi) (R:=fun d=>∃ (G:G3) (b:Nat) (L:Nat->Nat),d=G.d/\OneT G b L/\Gb 54 G/\Zbh G b) rfl ?_
 ·obtain ⟨d,e,z,b,L,rfl,h⟩:=this
  exact ⟨z,b,L,e,h⟩
 show Go (Vi [.fz (Qv ns),.fz (.int (first:Int)),.un,.un,.un,.un,.un,.un,.un,.un,.un,.un,.un]) _ _;unfold Vi;obtain ⟨c,ec,lc⟩:=Rl ns first (by lia);refine Z8 (Zf (Zi (xs:=[Qv ns,.int (first:Int)]) rfl ec) ?_);refine Z8 (Zf (Z5 (Z5 rfl rfl (Wd c 4 (by lia) (by lia))) rfl (Ws _ 20 (by lia))) ?_);have hb0:c / 4 % 20<20:=mod_lt _ (by lia);generalize c / 4 % 20=base at hb0;refine Z8 (Zf (Z5 (Z5 rfl rfl (Wd c 80 (by lia) (by lia))) rfl (Ws _ 32 (by lia))) ?_);generalize c / 80 % 32=code;refine Z8 (Zf (d:=.lst (([]:List St3).map St3.d)) rfl ?_);obtain ⟨z0,ez0⟩:=Iz (c / 2560) 0;refine Z8 (Jz (ds:=[(z0,true)].map Qn) (Qo (Z4 (Yb (Z4 (Zi (xs:=[.int ((c / 2560:Nat):Int),.int ((0:Nat):Int)]) (Z4 (Z5 rfl rfl (Wd c 2560 (by lia) (by lia))) rfl) ez0) rfl) (by simp)) rfl) (by simp)) ?_);obtain ⟨K,hK⟩:∃ K:Nat,1+c % 4=K:=⟨_,rfl⟩;have hK1:1<=K/\K<=4:=by lia
 obtain ⟨f,hf0⟩:∃ f:Nat,c / 40 % 2=f:=⟨_,rfl⟩;have hf1:f<=1:=by lia
 obtain ⟨C,hC⟩:∃ C:Nat,code % 2^(K+1)=C:=⟨_,rfl⟩;refine Z8 (Ve (ds:=rng 0 K) (fun i e=>∃ (ss:List St3) (ws:List (Str×Bool)) (v7 v8 v9 v10 v11:Slt),e=[.fz (Qv ns),.fz (.int (first:Int)),.fz (.int (c:Int)),.fz (.int (base:Int)),.fz (.int (code:Int)),.fz (.lst (ss.map St3.d)),.ow (ws.map Qn),v7,v8,v9,v10,v11,.un]/\ws.length=i+1/\i<=ss.length/\ss.length<=4*i/\(∀ s∈ss,N0 K (LC C base f) s)/\Lv base ss i) (W1 (Z4 (Z5 rfl (Z5 rfl rfl (Ws c 4 (by lia))) (by rw [← hK];exact Vj 1 _)) rfl) (by lia)) ⟨[],[(z0,true)],.un,.un,.un,.un,.un,rfl,rfl,le_refl _,le_refl _,by simp,⟨by simp,fun z=>by lia⟩⟩ ?_ ?_)
 ·rintro i d e hi ⟨ss,ws,v7,v8,v9,v10,v11,rfl,hwl,hs1,hs2,hgd,hlv⟩
  obtain ⟨hi1,rfl⟩:=Uy hi;rw [Int.zero_add];refine ⟨_,rfl,?_⟩;obtain ⟨r,er,_⟩:=Rl ns (first+1+i) (by lia);refine Z8 (Zf (Zi (xs:=[Qv ns,.int ((first+1+i:Nat):Int)]) (Z4 rfl (Z4 (Z5 (Z5 rfl rfl (Vj _ 1)) rfl (Vj _ _)) rfl)) er) ?_);refine Z8 (Zf (d:=.int ((1+i*f:Nat):Int)) (Z5 rfl (Z5 rfl (Z5 (Z5 rfl rfl (Wd c 40 (by lia) (by lia))) rfl (Ws _ 2 (by lia))) (by rw [hf0];exact Zbf i f (by lia))) (Vj 1 _)) ?_);obtain ⟨x,hx⟩:∃ x:Nat,1+i*f=x:=⟨_,rfl⟩;have hxK:1<=x/\x<K+1:=by
   rcases (show f=0\/f=1 by lia) with rfl | rfl<;>lia
  rw [hx];refine Z8 (Zf (Z5 (Z5 (Z5 rfl rfl (N7 code x)) rfl (Rt code x)) rfl (K0 _)) ?_);refine Z8 (Zf (Z5 (Z5 rfl rfl (Vj base 1)) (Z5 rfl rfl (Cd 3 i (by lia))) (Vj _ _)) ?_);obtain ⟨sp,hsp⟩:∃ sp:Nat,base+1+3*i=sp:=⟨_,rfl⟩;have l0:=LC0 C base f;have l1:=LC1 C base f i;have l2:=LC2 C base f i;have l3:=LC3 C base f i;rw [hsp] at l1 l2 l3 ⊢;rw [hx] at l1 l2;generalize LC C base f=L at *;obtain ⟨z,ez⟩:=Iz (c / 2560) (i+1);obtain ⟨b,hb⟩:=Zcp (j:=r % 3*(c / 20 % 2)) (by
   have h1:r % 3<3:=mod_lt _ (by lia);rcases (show c / 20 % 2=0\/c / 20 % 2=1 by lia) with h | h<;>rw [h]<;>lia)
  refine Z8 (Q5 (ds:=ws.map Qn) (as:=[Qn (z,b)]) (ds':=(ws++[(z,b)]).map Qn) rfl (Z4 (Yb (Z4 (Zi (xs:=[.int ((c / 2560:Nat):Int),.int ((i+1:Nat):Int)]) (Z4 (Z5 rfl rfl (Wd c 2560 (by lia) (by lia))) (Z4 (Z5 rfl rfl (Vj i 1)) rfl)) ez) (Z4 (Z5 (x:=.lst [.str "given",.str "given",.str "made"]) rfl (Z5 (Z5 rfl rfl (Ws r 3 (by lia))) (Z5 (Z5 rfl rfl (Wd c 20 (by lia) (by lia))) rfl (Ws _ 2 (by lia))) (Zbf _ _ (by lia))) hb) rfl)) (by simp)) rfl) (by rw [Vt (by rw [length_map];lia),map_append];rfl) ?_);have hCx:C.testBit x=code.testBit x:=by rw [← hC];exact Z0f hxK.2
  have hC0:C.testBit 0=code.testBit 0:=by rw [← hC];exact Z0f (by lia)
  have gA:N0 K L ⟨x,!code.testBit x,[base],[sp]⟩:=Dp (by lia) (by lia) (by lia) hxK.2 (by rw [l1,l0]) (by rw [l0,hCx];exact Zb7 _);have hm:∀ (s1 s2:St3),Yi (.lst (ss.map St3.d)) (.lst [s1.d,s2.d])=some (.lst ((ss++[s1,s2]).map St3.d)):=fun s1 s2=>by
   rw [El (by rw [length_map];show _+2<=_;lia),map_append];rfl
  have cl2:∀ s∈([⟨x,!code.testBit x,[base],[sp]⟩,⟨x,!!code.testBit x,[sp],[base]⟩]:List St3),s.fills=[base]\/∃ s'∈([⟨x,!code.testBit x,[base],[sp]⟩,⟨x,!!code.testBit x,[sp],[base]⟩]:List St3),s'.takes=s.fills:=by
   simp
  have cl4:∀ s∈([⟨x,!code.testBit x,[base],[sp]⟩,⟨0,!code.testBit 0,[sp],[sp+1]⟩,⟨x,!!code.testBit x,[sp+1],[sp+2]⟩,⟨0,code.testBit 0,[sp+2],[base]⟩]:List St3),s.fills=[base]\/∃ s'∈([⟨x,!code.testBit x,[base],[sp]⟩,⟨0,!code.testBit 0,[sp],[sp+1]⟩,⟨x,!!code.testBit x,[sp+1],[sp+2]⟩,⟨0,code.testBit 0,[sp+2],[base]⟩]:List St3),s'.takes=s.fills:=by
   simp
  refine Qb (Yj (Z5 (Z5 (Z5 rfl rfl (Wd r 3 (by lia) (by lia))) rfl (Ws _ 3 (by lia))) rfl (eqN _ 0))) (fun _=>?_) (fun _=>?_)
  ·have gB:N0 K L ⟨x,!!code.testBit x,[sp],[base]⟩:=Dp (by lia) (by lia) (by lia) hxK.2 (by rw [l1,l0,xx]) (by rw [l1,Wj,hCx,decide_eq_true rfl];cases code.testBit x<;>simp)
   refine Zf (Z5 rfl (Ww (Qo (Z4 (stp rfl rfl rfl rfl) (Z4 (stp rfl rfl rfl rfl) rfl)) (by simp))) (hm _ _)) ⟨_,_,_,_,_,_,_,rfl,by rw [length_append,length_singleton];lia,by rw [length_append];show _<=_+2;lia,by rw [length_append];show _+2<=_;lia,fun s hs=>?_,hlv.app (cl2) ⟨_,mem_cons_self,rfl⟩⟩;rcases mem_append.mp hs with h | h
   ·exact hgd s h
   ·rcases mem_cons.mp h with rfl | h
    ·exact gA
    ·rw [mem_singleton.mp h];exact gB
  ·have gC:N0 K L ⟨0,!code.testBit 0,[sp],[sp+1]⟩:=Dp (by lia) (by lia) (by lia) (by lia) (by rw [l2,l1]) (by rw [l1,Wj,hC0,decide_eq_false (by lia)];cases code.testBit 0<;>simp)
   have gD:N0 K L ⟨x,!!code.testBit x,[sp+1],[sp+2]⟩:=Dp (by lia) (by lia) (by lia) hxK.2 (by rw [l3,l2,xxy]) (by rw [l2,Wj,Wj,hCx,decide_eq_true rfl,decide_eq_false (by lia)];cases code.testBit x<;>simp);have gE:N0 K L ⟨0,code.testBit 0,[sp+2],[base]⟩:=Dp (by lia) (by lia) (by lia) (by lia) (by rw [l3,l0,xx]) (by rw [l3,Wj,hC0,decide_eq_true rfl];cases code.testBit 0<;>simp);refine Z8 (Zf (Z5 rfl (Ww (Qo (Z4 (stp rfl rfl rfl rfl) (Z4 (stp (w:=0) rfl (Z5 (Z5 rfl rfl (Z43 code)) rfl (K0 _)) rfl (Z5 rfl rfl (Vj sp 1))) rfl)) (by simp))) (hm _ _)) ?_);have hm2:∀ (s1 s2 s3 s4:St3),Yi (.lst ((ss++[s1,s2]).map St3.d)) (.lst [s3.d,s4.d])=some (.lst ((ss++[s1,s2,s3,s4]).map St3.d)):=fun s1 s2 s3 s4=>by
    rw [El (by rw [length_map,length_append];show _+2+2<=_;lia),map_append,map_append,List.append_assoc];rfl
   refine Zf (Z5 rfl (Ww (Qo (Z4 (stp rfl rfl (Z5 rfl rfl (Vj sp 1)) (Z5 rfl rfl (Vj sp 2))) (Z4 (stp (w:=0) rfl (Z5 (Z5 rfl rfl (Z43 code)) rfl (Mu _)) (Z5 rfl rfl (Vj sp 2)) rfl) rfl)) (by simp))) (hm2 _ _ _ _)) ⟨_,_,_,_,_,_,_,rfl,by rw [length_append,length_singleton];lia,by rw [length_append];show _<=_+4;lia,by rw [length_append];show _+4<=_;lia,fun s hs=>?_,hlv.app cl4 ⟨_,mem_cons_self,rfl⟩⟩;rcases mem_append.mp hs with h | h
   ·exact hgd s h
   ·rcases mem_cons.mp h with rfl | h
    ·exact gA
    rcases mem_cons.mp h with rfl | h
    ·exact gC
    rcases mem_cons.mp h with rfl | h
    ·exact gD
    ·rw [mem_singleton.mp h];exact gE
 rintro e ⟨ss,ws,v7,v8,v9,v10,v11,rfl,hwl,hs1,hs2,hgd,hlv⟩;rw [U8] at hwl hs1 hs2 hlv;refine Z8 (Zf (Z5 (Z5 rfl rfl (Wd c 7 (by lia) (by lia))) (Yr (Z4 rfl rfl) (E8 St3.d ss)) (Ws _ ss.length (by lia))) ?_);have ht:c / 7 % ss.length<ss.length:=mod_lt _ (by lia);generalize c / 7 % ss.length=t at ht;have hperm:(ss.drop t++ss.take t).Perm ss:=by
  have:=List.perm_append_comm (l₁:=ss.drop t) (l₂:=ss.take t);rw [take_append_drop] at this;exact this
 have hlen:=hperm.length_eq;refine Y9 (Yb (Z4 (Yr (Z4 rfl rfl) rfl) (Z4 (Yr (Z4 (x:=.lst ((ss.drop t++ss.take t).map St3.d)) (Z5 (D6 rfl (Vo rfl) rfl (Dy _ _ _)) (D6 rfl rfl (Vo rfl) (Dy _ _ _)) (by
  rw [Mo,Mo,Lb ss t (by lia),Fw ss t (by lia),El (by rw [length_map,length_map,length_drop,length_take];lia),map_append])) rfl) rfl) (Z4 (Z5 rfl rfl (Rz base (by lia))) (Z4 (Z5 rfl (Z5 rfl (Yr (Z4 rfl rfl) (E8 Qn ws)) (Rz ws.length (by lia))) (Ws _ _ (two_pow_pos _))) rfl)))) (by simp)) ⟨⟨ws,ss.drop t++ss.take t,2^base,code % 2^ws.length⟩,base,LC C base f,rfl,?_,?_,?_⟩
 ·exact { bl:=by lia,ma:=rfl,cd:=by show code % 2^ws.length=_;rw [LC0,hwl,hC],st:=fun s hs=>(hgd s (hperm.mem_iff.mp hs)).1 }
 ·exact { w2:=by show ws.length<=10;lia,s1:=by show 1<=(ss.drop t++ss.take t).length;lia,s2:=by show (ss.drop t++ss.take t).length<=24;lia,st:=fun s hs=>by show SB 54 ws.length s;rw [hwl];exact (hgd s (hperm.mem_iff.mp hs)).2,mks:=Nat.pow_lt_pow_right (by lia) (by lia) }
 ·obtain ⟨s0,m0,t0⟩:=hlv.ex (by lia)
  refine ⟨⟨s0,hperm.mem_iff.mpr m0,t0⟩,fun s hs=>?_⟩;rcases hlv.cl s (hperm.mem_iff.mp hs) with h | ⟨s',a,b⟩
  ·exact ⟨s0,hperm.mem_iff.mpr m0,by rw [t0,h]⟩
  ·exact ⟨s',hperm.mem_iff.mpr a,b⟩
theorem Rh (a b:List Nat):Zd a++Zd b=Zd (a++b):=by unfold Zd;rw [map_append,map_append]
structure LkS (G:G3) (z i:Nat) (s':St3):Prop where
 a:∃ s:St3,G.steps[i]?=some s/\∃ b:Bool,s'.w=s.w/\s'.up=s.up/\z∉s.takes/\z∉s.fills/\(∀ q,q∈s'.takes↔q∈s.takes\/(b=true/\q=z))/\(∀ q,q∈s'.fills↔q∈s.fills\/(b=true/\q=z))
 b:SB 64 G.wires.length s'
theorem Z56 {B:Nat} {l l':List Nat} {z:Nat} (hb:∀ p∈l,p<B) (hB:B<=64) (hz:z<64) (hn:l.Nodup) (hzl:z∉l) (e:l'.Perm (l++[z])):(∀ p∈l',p<64)/\l'.Nodup/\∀ q,q∈l'↔q∈l\/(true=true/\q=z):=by
 refine ⟨fun p hp=>?_,?_,fun q=>?_⟩
 ·rcases mem_append.mp (e.mem_iff.mp hp) with h | h
  ·have:=hb p h;lia
  ·rw [mem_singleton.mp h];exact hz
 ·refine e.nodup_iff.mpr (nodup_append.mpr ⟨hn,nodup_cons.mpr ⟨by simp,nodup_nil⟩,fun a ha b hb'=>?_⟩)
  rw [mem_singleton.mp hb'];rintro rfl;exact hzl ha
 ·rw [e.mem_iff];simp
theorem B5 (G:G3) (hG:Gb 54 G) (c:Nat):∃ (G':G3) (z:Nat),Ux [G.d,.int (c:Int)]=.ok G'.d/\LookI G G' z/\Gb 64 G':=by
 have:=Yq (n:=15) (p:=2) (ds:=[G.d,.int (c:Int)]) (g:=V1) (R:=fun d=>∃ (G':G3) (z:Nat),d=G'.d/\LookI G G' z/\Gb 64 G') rfl ?_
 ·obtain ⟨d,e,z,b,rfl,h⟩:=this
  exact ⟨z,b,e,h⟩
 show Go (V1 [.fz G.d,.fz (.int (c:Int)),.un,.un,.un,.un,.un,.un,.un,.un,.un,.un,.un,.un,.un]) _ _;unfold V1;refine Z8 (Z38 (d:=G.d) (env':=[.fz G.d,.fz (.int (c:Int)),.fz (.tup (G.wires.map Qn)),.fz (.tup (G.steps.map St3.d)),.fz (.int (G.marks:Int)),.fz (.int (G.code:Int)),.un,.un,.un,.un,.un,.un,.un,.un,.un]) rfl rfl ?_);refine Z8 (Zf rfl ?_);refine Z8 (Ve (ds:=G.steps.map St3.d) (fun i e=>∃ (th:Nat) (v7 v8:Slt),e=[.fz G.d,.fz (.int (c:Int)),.fz (.tup (G.wires.map Qn)),.fz (.tup (G.steps.map St3.d)),.fz (.int (G.marks:Int)),.fz (.int (G.code:Int)),.fz (.int (th:Int)),v7,v8,.un,.un,.un,.un,.un,.un]/\th<2^54/\(∀ j,G.marks.testBit j=true->th.testBit j=true)/\∀ s∈G.steps.take i,∀ j,j∈s.takes\/j∈s.fills->th.testBit j=true) (Ju rfl) ⟨G.marks,.un,.un,rfl,hG.mks,fun j h=>h,fun s hs=>by simp at hs⟩ ?_ ?_)
 ·rintro i d e hi ⟨th,v7,v8,rfl,h1,h2,h3⟩
  rw [getElem?_map] at hi;obtain ⟨s,hs,rfl⟩:=map_some hi;have hsb:=hG.st s (mem_of_getElem? hs);refine ⟨_,rfl,?_⟩;have hlt:s.takes.length<=54:=Pw hsb.tn hsb.t;have hlf:s.fills.length<=54:=Pw hsb.fn hsb.f;have hadd:Ov (.tup (Zd s.takes)) (.tup (Zd s.fills))=some (.tup (Zd (s.takes++s.fills))):=by
   rw [Xe (by unfold Zd;rw [length_map,length_map,length_map,length_map];lia),Rh]
  refine Ve (ds:=Zd (s.takes++s.fills)) (fun k e=>∃ (th':Nat) (v8:Slt),e=[.fz G.d,.fz (.int (c:Int)),.fz (.tup (G.wires.map Qn)),.fz (.tup (G.steps.map St3.d)),.fz (.int (G.marks:Int)),.fz (.int (G.code:Int)),.fz (.int (th':Int)),.fz s.d,v8,.un,.un,.un,.un,.un,.un]/\th'<2^54/\(∀ j,th.testBit j=true->th'.testBit j=true)/\∀ j∈(s.takes++s.fills).take k,th'.testBit j=true) (Ju (Z5 (Z5 rfl rfl rfl) (Z5 rfl rfl rfl) hadd)) ⟨th,_,rfl,h1,fun j h=>h,fun j hj=>by simp at hj⟩ ?_ ?_
  ·rintro k d e hk ⟨th',v8,rfl,g1,g2,g3⟩
   obtain ⟨p,hp,rfl⟩:=Mc hk;have hp54:p<54:=by
    rcases mem_append.mp (mem_of_getElem? hp) with h | h
    ·exact hsb.t p h
    ·exact hsb.f p h
   refine ⟨_,rfl,?_⟩;refine Zf (Z5 rfl (Z5 rfl rfl (Rz p (by lia))) (orN th' _)) ⟨_,_,rfl,Z3d g1 (Nat.pow_lt_pow_right (by lia) hp54),fun j h=>by rw [testBit_or,g2 j h];rfl,fun j hj=>?_⟩;rw [take_succ,hp] at hj;rcases mem_append.mp hj with h | h
   ·rw [testBit_or,g3 j h];rfl
   ·have:j=p:=mem_singleton.mp h
    rw [this,testBit_or,testBit_two_pow,decide_eq_true rfl,Bool.or_true]
  ·rintro e ⟨th',v8,rfl,g1,g2,g3⟩
   have hl:(Zd (s.takes++s.fills)).length=(s.takes++s.fills).length:=by unfold Zd;rw [length_map,length_map]
   rw [hl,take_of_length_le (le_refl _)] at g3;refine ⟨th',_,_,rfl,g1,fun j h=>g2 j (h2 j h),fun r hr j hj=>?_⟩;rw [take_succ,hs] at hr;rcases mem_append.mp hr with h | h
   ·exact g2 j (h3 r h j hj)
   ·have:r=s:=mem_singleton.mp h
    subst this;exact g3 j (mem_append.mpr hj)
 rintro e ⟨th,v7,v8,rfl,h1,h2,h3⟩;rw [length_map,take_of_length_le (le_refl _)] at h3;have hc:=Uc (g:=Yh 0) (t:=dB (dO Q8 (dO T6 (dO M1 (dV 1) (dV 0)) (dC (.int 1))) (dC (.int 0)))) (f:=dV 0) (env:=[.un,.fz (.int (th:Int))]) (fun k:Nat=>Dat.int (k:Int)) (fun k:Nat=>Dat.int (k:Int)) (fun p=>!th.testBit p) (List.range 64) fun p _=>⟨[.fz (.int (p:Int)),.fz (.int (th:Int))],rfl,Yj (Z5 (Z5 (Z5 rfl rfl (N7 th p)) rfl (Rt th p)) rfl (K0 _)),rfl⟩
 rw [← Em] at hc;have hfl:3<=((List.range 64).filter fun p=>!th.testBit p).length:=by
  refine Ed [54,55,56] _ (by decide) fun p hp=>mem_filter.mpr ⟨mem_range.mpr ?_,?_⟩
  ·have:p=54\/p=55\/p=56:=by simpa using hp
   lia
  ·have:p=54\/p=55\/p=56:=by simpa using hp
   rw [Nat.testBit_lt_two_pow (lt_of_lt_of_le h1 (pow_le_pow_right (by lia) (by lia)))];rfl
 have hc3:c % 3<((List.range 64).filter fun p=>!th.testBit p).length:=by lia
 have hz:=getElem_mem hc3;have ez:((List.range 64).filter fun p=>!th.testBit p)[c % 3]?=some _:=getElem?_eq_getElem hc3;generalize ((List.range 64).filter fun p=>!th.testBit p)[c % 3]=z at hz ez;obtain ⟨hz1,hz2⟩:=mem_filter.mp hz;have hz64:z<64:=mem_range.mp hz1;have hzt:th.testBit z=false:=by simpa using hz2
 have hz3:∀ s∈G.steps,z∉s.takes/\z∉s.fills:=fun s hs=>⟨fun h=>absurd (h3 s hs z (.inl h)) (by rw [hzt];decide),fun h=>absurd (h3 s hs z (.inr h)) (by rw [hzt];decide)⟩
 have hzm:G.marks.testBit z=false:=by
  cases h:G.marks.testBit z with
  | false=>rfl
  | true=>rw [h2 z h] at hzt;cases hzt
 refine Z8 (Zf (d:=.int (z:Int)) (Z5 (Ww (Wp (xs:=rng 0 64) (W1 (Z4 rfl rfl) (by lia)) rfl hc)) (Z5 rfl rfl (Ws c 3 (by lia))) (S3 (by rw [getElem?_map,ez];rfl))) ?_);refine Z8 (Jz (ds:=([]:List St3).map St3.d) rfl ?_);refine Z8 (Ve (ds:=R8 0 (G.steps.map St3.d)) (fun i e=>∃ (ss:List St3) (v7 v10 v11 v12 v13 v14:Slt),e=[.fz G.d,.fz (.int (c:Int)),.fz (.tup (G.wires.map Qn)),.fz (.tup (G.steps.map St3.d)),.fz (.int (G.marks:Int)),.fz (.int (G.code:Int)),.fz (.int (th:Int)),v7,.fz (.int (z:Int)),.ow (ss.map St3.d),v10,v11,v12,v13,v14]/\ss.length=i/\∀ (j:Nat) (s:St3),ss[j]?=some s->LkS G z j s) (by unfold Ld;rw [Ju rfl];rfl) ⟨[],v7,.un,.un,.un,.un,.un,rfl,rfl,fun j s h=>by simp at h⟩ ?_ ?_)
 ·rintro i d e hi ⟨ss,v7,v10,v11,v12,v13,v14,rfl,hsl,hlk⟩
  obtain ⟨x,hx,rfl⟩:=Gw hi;rw [getElem?_map] at hx;obtain ⟨s,hs,rfl⟩:=map_some hx;have hmem:=mem_of_getElem? hs;have hsb:=hG.st s hmem;have hil:=(List.getElem?_eq_some_iff.mp hs).1;have hs24:=hG.s2;obtain ⟨n1,n2⟩:=hz3 s hmem;have hlt:s.takes.length<=54:=Pw hsb.tn hsb.t;have hlf:s.fills.length<=54:=Pw hsb.fn hsb.f;refine ⟨[.fz G.d,.fz (.int (c:Int)),.fz (.tup (G.wires.map Qn)),.fz (.tup (G.steps.map St3.d)),.fz (.int (G.marks:Int)),.fz (.int (G.code:Int)),.fz (.int (th:Int)),v7,.fz (.int (z:Int)),.ow (ss.map St3.d),.fz (.int (i:Int)),.fz (.int (s.w:Int)),.fz (.bl s.up),.fz (.tup (Zd s.takes)),.fz (.tup (Zd s.fills))],rfl,?_⟩;have fin:∀ (t f:List Nat),LkS G z i ⟨s.w,s.up,t,f⟩->Go (J8 9 Wu (Z2 (Ys (Z2 (dV 11) (Z2 (dV 12) (Z2 (dV 13) (Z2 (dV 14) Zc))))) Zc) [.fz G.d,.fz (.int (c:Int)),.fz (.tup (G.wires.map Qn)),.fz (.tup (G.steps.map St3.d)),.fz (.int (G.marks:Int)),.fz (.int (G.code:Int)),.fz (.int (th:Int)),v7,.fz (.int (z:Int)),.ow (ss.map St3.d),.fz (.int (i:Int)),.fz (.int (s.w:Int)),.fz (.bl s.up),.fz (.tup (Zd t)),.fz (.tup (Zd f))]) (fun e=>∃ (ss:List St3) (v7 v10 v11 v12 v13 v14:Slt),e=[.fz G.d,.fz (.int (c:Int)),.fz (.tup (G.wires.map Qn)),.fz (.tup (G.steps.map St3.d)),.fz (.int (G.marks:Int)),.fz (.int (G.code:Int)),.fz (.int (th:Int)),v7,.fz (.int (z:Int)),.ow (ss.map St3.d),v10,v11,v12,v13,v14]/\ss.length=i+1/\∀ (j:Nat) (s:St3),ss[j]?=some s->LkS G z j s) (fun d=>∃ (G':G3) (z:Nat),d=G'.d/\LookI G G' z/\Gb 64 G'):=fun t f hl=>by
   refine Q5 (ds:=ss.map St3.d) (as:=[(⟨s.w,s.up,t,f⟩:St3).d]) (ds':=(ss++[(⟨s.w,s.up,t,f⟩:St3)]).map St3.d) rfl (Z4 (Yb rfl (by simp)) rfl) (by rw [Vt (by rw [length_map];lia),map_append];rfl) ⟨_,_,_,_,_,_,_,rfl,by rw [length_append,length_singleton,hsl],fun j r hr=>?_⟩;rcases lt_or_ge j ss.length with h | h
   ·rw [getElem?_append_left h] at hr
    exact hlk j r hr
   ·rw [getElem?_append_right h] at hr
    have e0:j - ss.length=0:=by
     rcases eq_zero_or_pos (j - ss.length) with z | z
     ·exact z
     ·rw [getElem?_cons,if_neg (by lia)] at hr;cases hr
    rw [e0] at hr;cases hr;have ej:j=i:=by lia
    rw [ej];exact hl
  refine Z8 (Qb (Yj (Z5 (Z5 (Z5 (Z5 rfl rfl (Wd c 3 (by lia) (by lia))) rfl (N7 _ i)) rfl (Rt _ i)) rfl (Mu _))) (fun _=>?_) (fun _=>W8 ?_))
  ·obtain ⟨t,et,pt⟩:=Ho (s.takes++[z]) (by rw [length_append,length_singleton];lia)
   obtain ⟨f,ef,pf⟩:=Ho (s.fills++[z]) (by rw [length_append,length_singleton];lia);have a1:Ov (.tup (Zd s.takes)) (.tup [.int (z:Int)])=some (.tup (Zd (s.takes++[z]))):=by
    rw [Xe (by unfold Zd;rw [length_map,length_map];show _+1<=_;lia),← Rh];rfl
   have a2:Ov (.tup (Zd s.fills)) (.tup [.int (z:Int)])=some (.tup (Zd (s.fills++[z]))):=by
    rw [Xe (by unfold Zd;rw [length_map,length_map];show _+1<=_;lia),← Rh];rfl
   refine Z8 (Zf (d:=.tup (Zd t)) (Yr (Z4 (Ww (Yr (Z4 (Z5 rfl (Yb (Z4 rfl rfl) (by simp)) a1) rfl) et)) rfl) rfl) ?_);refine Zf (d:=.tup (Zd f)) (Yr (Z4 (Ww (Yr (Z4 (Z5 rfl (Yb (Z4 rfl rfl) (by simp)) a2) rfl) ef)) rfl) rfl) ?_;obtain ⟨t1,t2,t3⟩:=Z56 hsb.t (by lia) hz64 hsb.tn n1 pt;obtain ⟨f1,f2,f3⟩:=Z56 hsb.f (by lia) hz64 hsb.fn n2 pf;exact fin t f ⟨⟨s,hs,true,rfl,rfl,n1,n2,t3,f3⟩,⟨hsb.w,t1,f1,t2,f2⟩⟩
  ·exact fin s.takes s.fills ⟨⟨s,hs,false,rfl,rfl,n1,n2,fun q=>by simp,fun q=>by simp⟩,⟨hsb.w,fun p hp=>by have:=hsb.t p hp;lia,fun p hp=>by have:=hsb.f p hp;lia,hsb.tn,hsb.fn⟩⟩
 rintro e ⟨ss,v7,v10,v11,v12,v13,v14,rfl,hsl,hlk⟩;rw [Ur,length_map] at hsl;have:=hG.s1;have:=hG.s2;have:=hG.w2;refine Y9 (Yb (Z4 rfl (Z4 (Yr (Z4 rfl rfl) rfl) (Z4 (Z5 rfl (Z5 rfl rfl (Rz z (by lia))) (orN G.marks _)) rfl))) (by simp)) ⟨⟨G.wires,ss,G.marks ||| 2^z,G.code⟩,z,rfl,?_,?_⟩
 ·exact { ws:=rfl,len:=hsl,ma:=rfl,mz:=hzm,cd:=rfl,st:=fun i s hs=>(hlk i s hs).a }
 ·exact { w2:=hG.w2,s1:=by show 1<=ss.length;lia,s2:=by show ss.length<=24;lia,st:=fun s hs=>by obtain ⟨i,hi⟩:=getElem?_of_mem hs;exact (hlk i s hi).b,mks:=Z3d (lt_of_lt_of_le hG.mks (pow_le_pow_right (by lia) (by lia))) (Nat.pow_lt_pow_right (by lia) hz64) }
theorem Rj (G:G3) (k:Nat) (s:St3) (h:G.steps[k]?=some s):Vd [G.d,.int (k:Int)]=.ok (.tup (Zd s.takes)):=by
 refine U4 (Yq (n:=2) (p:=2) (ds:=[G.d,.int (k:Int)]) (g:=Tf) (R:=fun d=>d=.tup (Zd s.takes)) rfl ?_);show Go (Tf [.fz G.d,.fz (.int (k:Int))]) _ _;unfold Tf;exact Y9 (Z5 (Z5 (Z5 rfl rfl rfl) rfl (Sa (x:=s.d) (by rw [getElem?_map,h];rfl))) rfl rfl) rfl
theorem Jh (ps:List Nat) (hp:∀ p∈ps,p<=1000):J7 [.tup (Zd ps)]=.ok (.int (bitsN ps:Int)):=by
 refine U4 (Yq (n:=3) (p:=1) (ds:=[.tup (Zd ps)]) (g:=Gv) (R:=fun d=>d=.int (bitsN ps:Int)) rfl ?_);show Go (Gv [.fz (.tup (Zd ps)),.un,.un]) _ _;unfold Gv;refine Z8 (Zf (d:=.int 0) rfl ?_);refine Z8 (Ve (ds:=Zd ps) (fun i e=>∃ (z:Int) (v:Slt),e=[.fz (.tup (Zd ps)),.fz (.int z),v]/\z=(((ps.take i).foldl (fun a p=>a ||| 2^p) 0:Nat):Int)) rfl ⟨0,.un,rfl,rfl⟩ ?_ ?_)
 ·rintro i x e hi ⟨z,v,rfl,rfl⟩
  obtain ⟨p,hq,rfl⟩:=Mc hi;have hpp:=hp p (mem_of_getElem? hq);refine ⟨_,rfl,?_⟩;refine Zf (d:=.int ((((ps.take (i+1)).foldl (fun a p=>a ||| 2^p) 0:Nat)):Int)) (Z5 rfl (Z5 rfl rfl (Rz p hpp)) ?_) ⟨_,_,rfl,rfl⟩;rw [orN,take_succ,hq,List.foldl_append];rfl
 ·rintro e ⟨z,v,rfl,rfl⟩
  refine Y9 rfl ?_;rw [length_map,length_map,take_of_length_le (le_refl _)];rfl
theorem Iw (G:G3) (k:Nat) (s:St3) (h:G.steps[k]?=some s):Ts [G.d,.int (k:Int)]=.ok (.int (s.w:Int)):=by
 refine U4 (Yq (n:=2) (p:=2) (ds:=[G.d,.int (k:Int)]) (g:=Qw) (R:=fun d=>d=.int (s.w:Int)) rfl ?_);show Go (Qw [.fz G.d,.fz (.int (k:Int))]) _ _;unfold Qw;exact Y9 (Z5 (Z5 (Z5 rfl rfl rfl) rfl (Sa (x:=s.d) (by rw [getElem?_map,h];rfl))) rfl rfl) rfl
theorem Z0j (G:G3) (k:Nat) (s:St3) (h:G.steps[k]?=some s):Sm [G.d,.int (k:Int)]=.ok (.bl s.up):=by
 refine U4 (Yq (n:=2) (p:=2) (ds:=[G.d,.int (k:Int)]) (g:=Qx) (R:=fun d=>d=.bl s.up) rfl ?_);show Go (Qx [.fz G.d,.fz (.int (k:Int))]) _ _;unfold Qx;exact Y9 (Z5 (Z5 (Z5 rfl rfl rfl) rfl (Sa (x:=s.d) (by rw [getElem?_map,h];rfl))) rfl rfl) rfl
theorem Lz (G:G3) (k:Nat) (s:St3) (h:G.steps[k]?=some s):Te [G.d,.int (k:Int)]=.ok (.tup (Zd s.fills)):=by
 refine U4 (Yq (n:=2) (p:=2) (ds:=[G.d,.int (k:Int)]) (g:=To) (R:=fun d=>d=.tup (Zd s.fills)) rfl ?_);show Go (To [.fz G.d,.fz (.int (k:Int))]) _ _;unfold To;exact Y9 (Z5 (Z5 (Z5 rfl rfl rfl) rfl (Sa (x:=s.d) (by rw [getElem?_map,h];rfl))) rfl rfl) rfl
theorem Z4f (n p:Nat):Sl [.int (n:Int),.int (p:Int)]=.ok (.bl (n.testBit p)):=by
 refine U4 (Yq (n:=2) (p:=2) (ds:=[.int (n:Int),.int (p:Int)]) (g:=Qt) (R:=fun d=>d=.bl (n.testBit p)) rfl ?_);show Go (Qt [.fz (.int (n:Int)),.fz (.int (p:Int))]) _ _;unfold Qt;exact Y9 (Z5 (Z5 (Z5 rfl rfl (N7 n p)) rfl (Rt n p)) rfl (Mu _)) rfl
theorem ne0 (a:Nat):Ec (.int (a:Int)) (.int 0)=some (.bl (!(a==0))):=by
 rw [Zdn];congr 3
 rw [Bool.eq_iff_iff,beq_iff_eq,beq_iff_eq];lia
theorem B7 (s:St3) (m:Nat):Tw [s.d,.int (m:Int)]=.ok (.bl (W3 s m)):=by
 refine U4 (Yq (n:=2) (p:=2) (ds:=[s.d,.int (m:Int)]) (g:=Tt) (R:=fun d=>d=.bl (W3 s m)) rfl ?_);show Go (Tt [.fz s.d,.fz (.int (m:Int))]) _ _;unfold Tt;have hc:V8 (Yh 0) Jo (dO Q8 (dO T6 (dO M1 (dV 1) (dV 0)) (dC (.int 1))) (dC (.int 1))) [.un,.fz (.int (m:Int))] (Zd s.takes)=some ((s.takes.map fun p=>m.testBit p).map Dat.bl):=by
  rw [Up,Sn (fun p:Nat=>Dat.int (p:Int)) (fun p:Nat=>.bl (m.testBit p)) s.takes fun p _=>⟨[.fz (.int (p:Int)),.fz (.int (m:Int))],rfl,rfl,Z5 (Z5 (Z5 rfl rfl (N7 m p)) rfl (Rt m p)) rfl (Mu _)⟩,map_map];rfl
 refine Y9 (Yr (Z4 (Ww (Wp (xs:=Zd s.takes) (env':=[.un,.fz (.int (m:Int))]) (Ju (Z5 rfl rfl rfl)) rfl hc)) rfl) (Z7n _)) ?_;congr 1
 rw [Bool.eq_iff_iff,Wf,all_eq_true];constructor
 ·intro h p hp
  exact h _ (mem_map_of_mem hp)
 ·intro h b hb
  obtain ⟨p,hp,rfl⟩:=mem_map.mp hb;exact h p hp
inductive Dn where
 | broken | crowded | at (m c:Nat)
def Dn.d:Dn->Dat
 | .broken=>.str "broken"
 | .crowded=>.str "crowded"
 | .at m c=>.tup [.int (m:Int),.int (c:Int)]
structure DnOk (s:St3) (m c:Nat) (r:Dn):Prop where
 b:r=.broken↔c.testBit s.w=s.up
 k:c.testBit s.w≠s.up->(r=.crowded↔∃ p∈s.fills,m.testBit p=true/\p∉s.takes)
 a:∀ m' c',r=.at m' c'->(∀ j,m'.testBit j=((m.testBit j&&!decide (j∈s.takes))||decide (j∈s.fills)))/\∀ j,c'.testBit j=if j=s.w then s.up else c.testBit j
theorem K9 {a p:Nat} (hp:p<=1000) (h:a.testBit p=true):∃ c:Nat,N8 (.int (a:Int)) (.int ((2^p:Nat):Int))=some (.int (c:Int))/\∀ j,c.testBit j=(a.testBit j&&decide (j≠p)):=by
 obtain ⟨c,e,ht⟩:=Z18 h;exact ⟨c,by show some (Dat.int _)=_;rw [e],ht⟩
theorem L4 {a p:Nat} (h:a.testBit p=false):Yi (.int (a:Int)) (.int ((2^p:Nat):Int))=some (.int ((a ||| 2^p:Nat):Int)):=by
 rw [Vj,Nr h]
theorem Z6d {wires:Nat} (s:St3) (hs:SB 64 wires s) (hw:wires<=10) (m c:Nat) (ht:∀ p∈s.takes,m.testBit p=true):∃ r:Dn,Jr [s.d,.tup [.int (m:Int),.int (c:Int)]]=.ok r.d/\DnOk s m c r:=by
 have:=Yq (n:=5) (p:=2) (ds:=[s.d,.tup [.int (m:Int),.int (c:Int)]]) (g:=Uk) (R:=fun d=>∃ r:Dn,d=r.d/\DnOk s m c r) rfl ?_
 ·obtain ⟨d,e,z,rfl,h⟩:=this
  exact ⟨z,e,h⟩
 show Go (Uk [.fz s.d,.fz (.tup [.int (m:Int),.int (c:Int)]),.un,.un,.un]) _ _;unfold Uk;have hw1:=hs.w;refine Z8 (Z38 (d:=.tup [.int (m:Int),.int (c:Int)]) (env':=[.fz s.d,.fz (.tup [.int (m:Int),.int (c:Int)]),.fz (.int (m:Int)),.fz (.int (c:Int)),.un]) rfl rfl ?_);refine Z8 (Qb (b:=c.testBit s.w==s.up) (Yj (Z5 (Z5 (Z5 (Z5 rfl (Z5 rfl rfl rfl) (N7 c s.w)) rfl (Rt c s.w)) rfl (Mu _)) (Z5 rfl rfl rfl) (Z6r _ _))) (fun hb=>?_) (fun hb=>W8 ?_))
 ·have hb':c.testBit s.w=s.up:=by simpa using hb
  exact Y9 rfl ⟨.broken,rfl,⟨⟨fun _=>hb',fun _=>rfl⟩,fun h=>absurd hb' h,(fun _ _ h=>nomatch h)⟩⟩
 have hnb:c.testBit s.w≠s.up:=by simpa using hb
 refine Z8 (Ve (ds:=Zd s.takes) (fun i e=>∃ (q:Nat) (v:Slt),e=[.fz s.d,.fz (.tup [.int (m:Int),.int (c:Int)]),.fz (.int (q:Int)),.fz (.int (c:Int)),v]/\∀ j,q.testBit j=(m.testBit j&&!decide (j∈s.takes.take i))) (Ju (Z5 rfl rfl rfl)) ⟨m,.un,rfl,by simp⟩ ?_ ?_)
 ·rintro i x e hi ⟨q,v,rfl,hq⟩
  obtain ⟨p,hp,rfl⟩:=Mc hi;have hpm:=mem_of_getElem? hp;have hil:i<s.takes.length:=(List.getElem?_eq_some_iff.mp hp).1;have hpn:p∉s.takes.take i:=L3 hs.tn hp;have htk:s.takes.take (i+1)=s.takes.take i++[p]:=by rw [take_succ,hp];rfl
  have hb1:q.testBit p=true:=by rw [hq,ht p hpm];simp [hpn]
  have hlt:=hs.t p hpm;obtain ⟨r,er,hr⟩:=K9 (p:=p) (by lia) hb1;refine ⟨_,rfl,?_⟩;refine Zf (Z5 rfl (Z5 rfl rfl (Rz p (by lia))) er) ⟨r,_,rfl,fun j=>?_⟩;rw [hr,hq,htk];by_cases e1:j=p
  ·subst e1;simp
  ·by_cases e2:j∈s.takes.take i<;>simp [e1,e2]
 rintro e ⟨q,v,rfl,hq⟩;rw [length_map,length_map,take_of_length_le (le_refl _)] at hq;have hc:V8 (Yh 0) Jo (dO Q8 (dO T6 (dO M1 (dV 1) (dV 0)) (dC (.int 1))) (dC (.int 1))) [.un,.fz (.int (q:Int))] (Zd s.fills)=some ((s.fills.map fun p=>q.testBit p).map Dat.bl):=by
  rw [Up,Sn (fun p:Nat=>Dat.int (p:Int)) (fun p:Nat=>.bl (q.testBit p)) s.fills fun p _=>⟨[.fz (.int (p:Int)),.fz (.int (q:Int))],rfl,rfl,Z5 (Z5 (Z5 rfl rfl (N7 q p)) rfl (Rt q p)) rfl (Mu _)⟩,map_map];rfl
 refine Z8 (Qb (Md (Yr (Z4 (Ww (Wp (xs:=Zd s.fills) (env':=[.un,.fz (.int (q:Int))]) (Ju (Z5 rfl rfl rfl)) rfl hc)) rfl) (Z0g _))) (fun hb=>?_) (fun hb=>W8 ?_))
 ·rw [any_map,any_eq_true] at hb
  obtain ⟨p,hp,hpq⟩:=hb;have hpq':q.testBit p=true:=hpq;rw [hq,Bool.and_eq_true] at hpq';refine Y9 rfl ⟨.crowded,rfl,⟨⟨(fun h=>nomatch h),fun h=>absurd h hnb⟩,fun _=>⟨fun _=>⟨p,hp,hpq'.1,by simpa using hpq'.2⟩,fun _=>rfl⟩,(fun _ _ h=>nomatch h)⟩⟩
 have hnc:∀ p∈s.fills,q.testBit p=false:=fun p hp=>by
  cases h:q.testBit p with
  | false=>rfl
  | true =>
   have:(List.map (fun p=>q.testBit p) s.fills).any id=true:=by rw [any_map,any_eq_true];exact ⟨p,hp,h⟩
   rw [this] at hb;cases hb
 refine Z8 (Ve (ds:=Zd s.fills) (fun i e=>∃ (r:Nat) (v:Slt),e=[.fz s.d,.fz (.tup [.int (m:Int),.int (c:Int)]),.fz (.int (r:Int)),.fz (.int (c:Int)),v]/\∀ j,r.testBit j=(q.testBit j||decide (j∈s.fills.take i))) (Ju (Z5 rfl rfl rfl)) ⟨q,_,rfl,by simp⟩ ?_ ?_)
 ·rintro i x e hi ⟨r,v,rfl,hr⟩
  obtain ⟨p,hp,rfl⟩:=Mc hi;have hpm:=mem_of_getElem? hp;have hil:i<s.fills.length:=(List.getElem?_eq_some_iff.mp hp).1;have hpn:p∉s.fills.take i:=L3 hs.fn hp;have htk:s.fills.take (i+1)=s.fills.take i++[p]:=by rw [take_succ,hp];rfl
  have hb1:r.testBit p=false:=by rw [hr,hnc p hpm];simp [hpn]
  have hlt:=hs.f p hpm;refine ⟨_,rfl,?_⟩;refine Zf (Z5 rfl (Z5 rfl rfl (Rz p (by lia))) (L4 hb1)) ⟨_,_,rfl,fun j=>?_⟩;rw [testBit_or,hr,htk,testBit_two_pow];by_cases e1:j=p
  ·subst e1;simp
  ·have e3:¬ p=j:=fun h=>e1 h.symm
   by_cases e2:j∈s.fills.take i<;>simp [e1,e2,e3]
 rintro e ⟨r,v',rfl,hr⟩;rw [length_map,length_map,take_of_length_le (le_refl _)] at hr;have hfin:∀ j,r.testBit j=((m.testBit j&&!decide (j∈s.takes))||decide (j∈s.fills)):=fun j=>by rw [hr,hq]
 have hnk:¬ ∃ p∈s.fills,m.testBit p=true/\p∉s.takes:=by
  rintro ⟨p,hp,h1,h2⟩;have:=hnc p hp;rw [hq,h1] at this;simp [h2] at this
 refine Z8 (Qb (Md (b:=s.up) (Z5 rfl rfl rfl)) (fun hu=>?_) (fun hu=>W8 ?_))
 ·have hf:c.testBit s.w=false:=by cases h:c.testBit s.w with | false=>rfl | true=>exact absurd (h.trans hu.symm) hnb
  refine Y9 (Yb (Z4 rfl (Z4 (Z5 rfl (Z5 rfl (Z5 rfl rfl rfl) (Rz s.w (by lia))) (L4 hf)) rfl)) (by simp)) ⟨.at r (c ||| 2^s.w),rfl,⟨⟨(fun h=>nomatch h),fun h=>absurd h hnb⟩,fun _=>⟨(fun h=>nomatch h),fun h=>absurd h hnk⟩,fun m' c' h=>?_⟩⟩;cases h;refine ⟨hfin,fun j=>?_⟩;rw [testBit_or,testBit_two_pow,hu];by_cases e1:j=s.w
  ·subst e1;simp
  ·have e3:¬ s.w=j:=fun h=>e1 h.symm
   simp [e1,e3]
 ·have hf:c.testBit s.w=true:=by cases h:c.testBit s.w with | true=>rfl | false=>exact absurd (h.trans hu.symm) hnb
  obtain ⟨c2,e2,hc2⟩:=K9 (p:=s.w) (by lia) hf;refine Y9 (Yb (Z4 rfl (Z4 (Z5 rfl (Z5 rfl (Z5 rfl rfl rfl) (Rz s.w (by lia))) e2) rfl)) (by simp)) ⟨.at r c2,rfl,⟨⟨(fun h=>nomatch h),fun h=>absurd h hnb⟩,fun _=>⟨(fun h=>nomatch h),fun h=>absurd h hnk⟩,fun m' c' h=>?_⟩⟩;cases h;refine ⟨hfin,fun j=>?_⟩;rw [hc2,hu];by_cases e1:j=s.w
  ·subst e1;simp
  ·simp [e1]
theorem Z2z (G:G3) (hG:Gb 64 G) (m:Nat) (cd:Dat) (k:Nat) (s:St3) (h:G.steps[k]?=some s):Hm [G.d,.tup [.int (m:Int),cd],.int (k:Int)]=.ok (.bl (W3 s m)):=by
 refine U4 (Yq (n:=4) (p:=3) (ds:=[G.d,.tup [.int (m:Int),cd],.int (k:Int)]) (g:=O7) (R:=fun d=>d=.bl (W3 s m)) rfl ?_);show Go (O7 [.fz G.d,.fz (.tup [.int (m:Int),cd]),.fz (.int (k:Int)),.un]) _ _;unfold O7;have hs:=hG.st s (mem_of_getElem? h);refine Z8 (Zf (Zi (xs:=[.tup (Zd s.takes)]) (Z4 (Zi (xs:=[G.d,.int (k:Int)]) rfl (Rj G k s h)) rfl) (Jh s.takes fun p hp=>by have:=hs.t p hp;lia)) ?_);exact Y9 (Z5 (Z5 (Z5 rfl rfl rfl) rfl (Z6z m _)) rfl (eqN _ _)) rfl
structure Fine (s:St3) (p:Nat×Nat):Prop where
 can:W3 s p.1=true
 lev:p.2.testBit s.w≠s.up
 room:∀ q∈s.fills,p.1.testBit q=true->q∈s.takes
theorem Z2f (G:G3) (hG:Gb 64 G) (p:Nat×Nat) (k:Nat) (s:St3) (h:G.steps[k]?=some s) (hf:Fine s p):Rg [G.d,Zo p,.int (k:Int)]=.ok (Zo (Yn s p)):=by
 have hs:=hG.st s (mem_of_getElem? h);have hw2:=hG.w2;have hw1:=hs.w;refine U4 (Yq (n:=6) (p:=3) (ds:=[G.d,Zo p,.int (k:Int)]) (g:=Uw) (R:=fun d=>d=Zo (Yn s p)) rfl ?_);show Go (Uw [.fz G.d,.fz (Zo p),.fz (.int (k:Int)),.un,.un,.un]) _ _;unfold Uw;refine Z8 (Zf (Zi (xs:=[G.d,.int (k:Int)]) rfl (Iw G k s h)) ?_);refine Z8 (R0 (Yj (Z5 (Zi (xs:=[.int (p.2:Int),.int (s.w:Int)]) (Z4 (Z5 rfl rfl rfl) rfl) (Z4f p.2 s.w)) (Zi (xs:=[G.d,.int (k:Int)]) rfl (Z0j G k s h)) (by rw [Z6r,show (p.2.testBit s.w==s.up)=false by simpa using hf.lev]))) (W8 ?_));obtain ⟨lf,ek,hlf⟩:=Dc p.1 (bitsN s.takes);refine Z8 (Zf (d:=.int (lf:Int)) (Z5 (Z5 rfl rfl rfl) (Z47 (Zi (xs:=[.tup (Zd s.takes)]) (Z4 (Zi (xs:=[G.d,.int (k:Int)]) rfl (Rj G k s h)) rfl) (Jh s.takes fun p hp=>by have:=hs.t p hp;lia)) (z:=.int (-(bitsN s.takes:Int) - 1)) rfl) (by show some (Dat.int (Builtin.bitAnd _ _))=_;rw [ek])) ?_);refine Z8 (Zf (d:=.int (bitsN s.fills:Int)) (Zi (xs:=[.tup (Zd s.fills)]) (Z4 (Zi (xs:=[G.d,.int (k:Int)]) rfl (Lz G k s h)) rfl) (Jh s.fills fun p hp=>by have:=hs.f p hp;lia)) ?_);have hz:lf &&& bitsN s.fills=0:=eq_of_testBit_eq fun j=>by
  rw [testBit_and,hlf,Wx,Wx,zero_testBit];by_cases h1:j∈s.fills
  ·by_cases h2:p.1.testBit j=true
   ·rw [decide_eq_true (hf.room j h1 h2)];simp
   ·have:p.1.testBit j=false:=by simpa using h2
    rw [this];rfl
  ·rw [decide_eq_false h1,Bool.and_false]
 refine Z8 (R0 (Yj (Z5 (Z5 rfl rfl (Z6z lf _)) rfl (by rw [hz];exact ne0 0))) (W8 ?_));have em:lf ||| bitsN s.fills=(Yn s p).1:=eq_of_testBit_eq fun j=>by rw [testBit_or,hlf,Wx,Wx,M3]
 refine Y9 (Yb (xs:=[.int ((Yn s p).1:Int),.int ((Yn s p).2:Int)]) (Z4 (Z5 rfl rfl (by rw [orN,em])) (Z4 (Z5 (Z5 rfl rfl rfl) (Z5 rfl rfl (Rz s.w (by lia))) (Zck p.2 _)) rfl)) (by simp)) rfl
theorem C8 (r:Rw):Xf r.d none (some 2)=some (Zo r.st):=rfl
theorem Hf (G:G3) (hG:Gb 64 G) (p:Nat×Nat):Tk [G.d,Zo p]=.ok (.lst (Zd (Vr G p.1))):=by
 refine U4 (Yq (n:=2) (p:=2) (ds:=[G.d,Zo p]) (g:=Tn) (R:=fun d=>d=.lst (Zd (Vr G p.1))) rfl ?_);show Go (Tn [.fz G.d,.fz (Zo p)]) _ _;unfold Tn;have hs2:=hG.s2;have hc:=Uc (g:=Yh 0) (t:=dT (Yf Hm (Z2 (dV 1) (Z2 (dV 2) (Z2 (dV 0) Zc))))) (f:=dV 0) (env:=[.un,.fz G.d,.fz (Zo p)]) (fun k:Nat=>Dat.int (k:Int)) (fun k:Nat=>Dat.int (k:Int)) (Do G p.1) (List.range G.steps.length) fun k hk=>by
  have hkl:=mem_range.mp hk;have e:G.steps[k]?=some G.steps[k]:=getElem?_eq_getElem hkl;refine ⟨[.fz (.int (k:Int)),.fz G.d,.fz (Zo p)],rfl,?_,rfl⟩;have:Do G p.1 k=W3 G.steps[k] p.1:=by unfold Do;rw [e]
  rw [this];exact Md (Zi (xs:=[G.d,.tup [.int (p.1:Int),.int (p.2:Int)],.int (k:Int)]) rfl (Z2z G hG p.1 _ k _ e))
 rw [← Em] at hc;refine Y9 (Ww (Wp (xs:=rng 0 G.steps.length) (W1 (Z4 (Yr (Z4 (x:=.tup (G.steps.map St3.d)) (Z5 rfl rfl rfl) rfl) (by show some (Dat.int ((G.steps.map St3.d).length:Int))=_;rw [length_map])) rfl) (by lia)) rfl hc)) ?_;rw [Up];rfl
theorem Z71 {s:St3} {p:Nat×Nat} {r:Dn} (hf:Fine s p) (h:DnOk s p.1 p.2 r):r.d=Zo (Yn s p):=by
 cases r with
 | broken=>exact absurd (h.b.mp rfl) hf.lev
 | crowded =>
  obtain ⟨q,h1,h2,h3⟩:=(h.k hf.lev).mp rfl;exact absurd (hf.room q h1 h2) h3
 | «at» m c =>
  obtain ⟨h1,h2⟩:=h.a m c rfl;have e1:m=(Yn s p).1:=eq_of_testBit_eq fun j=>by rw [h1,M3]
  have e2:c=(Yn s p).2:=eq_of_testBit_eq fun j=>by
   rw [h2,Z5s];by_cases e:j=s.w
   ·subst e
    rw [if_pos rfl,decide_eq_true rfl];have:=hf.lev;revert this;cases p.2.testBit s.w<;>cases s.up<;>simp
   ·rw [if_neg e,decide_eq_false (Ne.symm e)];simp
  show Dat.tup [.int (m:Int),.int (c:Int)]=Dat.tup [.int ((Yn s p).1:Int),.int ((Yn s p).2:Int)];rw [e1,e2]
theorem Gb.up {G:G3} (h:Gb 54 G):Gb 64 G:=⟨h.w2,h.s1,h.s2,fun s hs=>⟨(h.st s hs).w,fun p hp=>by have:=(h.st s hs).t p hp;lia,fun p hp=>by have:=(h.st s hs).f p hp;lia,(h.st s hs).tn,(h.st s hs).fn⟩,lt_of_lt_of_le h.mks (pow_le_pow_right (by lia) (by lia))⟩
def rw0 (G:G3):Rw:=⟨G.marks,G.code,none⟩
theorem Z44 {G:G3} {I:Nat×Nat->Prop} {rows:List Rw} (hle:rows.length<=400) (t:Told G I rows) (n:Nat) (hn:n<rows.length):E7 [.lst (rows.map Rw.d),.int (n:Int)]=.ok (.lst (Zd (Jd rows n))):=by
 refine U4 (Yq (n:=4) (p:=2) (ds:=[.lst (rows.map Rw.d),.int (n:Int)]) (g:=Oi) (R:=fun d=>d=.lst (Zd (Jd rows n))) rfl ?_);show Go (Oi [.fz (.lst (rows.map Rw.d)),.fz (.int (n:Int)),.un,.un]) _ _;unfold Oi;refine Z8 (Jz (ds:=Zd []) rfl ?_);refine Z8 (Zf rfl ?_);refine Z8 (Z4c (fun m e=>∃ (at0:Nat) (ks:List Nat),e=[.fz (.lst (rows.map Rw.d)),.fz (.int (n:Int)),.ow (Zd ks),.fz (.int (at0:Int))]/\m=at0/\at0<rows.length/\Jd rows n=Jd rows at0++ks.reverse/\ks.length+at0<=n) (n:=n) ⟨n,[],rfl,rfl,hn,by simp,by simp⟩ ?_);rintro m e ⟨at0,ks,rfl,rfl,hl,hw,hk⟩;obtain ⟨r,hr⟩:∃ r,rows[m]?=some r:=⟨_,getElem?_eq_getElem hl⟩;have hix:W7 (.lst (rows.map Rw.d)) (.int (m:Int))=some r.d:=S3 (by rw [getElem?_map,hr];rfl);rcases eq_zero_or_pos m with z | z
 ·left
  have hs:=(Z5b t hr).mpr z;subst z;refine ⟨Yj (Z5 (x:=.non) (Z5 (Z5 rfl rfl hix) rfl (by show some (match r.src with | none=>Dat.non | some p=>.int (p.1:Int))=_;rw [hs])) rfl rfl),?_⟩;rw [Fd,List.nil_append] at hw;refine Y9 (Ww (Z9g (xs:=Zd ks) (Z4 rfl rfl))) ?_;rw [hw];unfold Zd;rw [List.map_reverse,List.map_reverse]
 ·right
  obtain ⟨f,k,s,rf,a1,a2,a3,a4,a5,a6⟩:=t.src m r hr z;have hd2:W7 r.d (.int 2)=some (.int (f:Int)):=by show some (match r.src with | none=>Dat.non | some p=>.int (p.1:Int))=_;rw [a1]
  have hd3:W7 r.d (.int 3)=some (.int (k:Int)):=by show some (match r.src with | none=>Dat.non | some p=>.int (p.2:Int))=_;rw [a1]
  refine ⟨Yj (Z5 (x:=.int (f:Int)) (Z5 (Z5 rfl rfl hix) rfl hd2) rfl rfl),?_⟩;refine Z8 (Q5 (ds:=Zd ks) (as:=[.int (k:Int)]) (ds':=Zd (ks++[k])) rfl (Z4 (Z5 (Z5 rfl rfl hix) rfl hd3) rfl) (by rw [Vt (by unfold Zd;rw [length_map,length_map];lia),← Rh];rfl) ?_);refine Zf (Z5 (Z5 rfl rfl hix) rfl hd2) ⟨f,a2,f,ks++[k],rfl,rfl,by lia,?_,by rw [length_append,length_singleton];lia⟩;rw [hw,A9 t hr a1 z,List.reverse_append];simp
theorem Oh {G:G3} {I:Nat×Nat->Prop} {rows:List Rw} (t:Told G I rows):∀ n,n<rows.length->(Jd rows n).length<=n/\∀ k∈Jd rows n,k<G.steps.length:=by
 intro m;induction m using strongRecOn with
 | _ m ih =>
  intro hm;rcases eq_zero_or_pos m with z | z
  ·subst z;rw [Fd];exact ⟨le_refl _,by simp⟩
  ·obtain ⟨r',hr'⟩:∃ r,rows[m]?=some r:=⟨_,getElem?_eq_getElem hm⟩
   obtain ⟨f,k,s,rf,a1,a2,a3,_,_,_⟩:=t.src m r' hr' z;obtain ⟨h1,h2⟩:=ih f a2 (by lia);rw [A9 t hr' a1 z,length_append,length_singleton];refine ⟨by lia,fun x hx=>?_⟩;rcases mem_append.mp hx with q | q
   ·exact h2 x q
   ·rw [mem_singleton.mp q];exact (List.getElem?_eq_some_iff.mp a3).1
def Lk (ks:List Nat):List Int:=ks.map fun k:Nat=>(k:Int)
theorem Kz {ks:List Nat} (h1:ks.length<=500) (h2:∀ k∈ks,k<1000):Mj (Lk ks)=true:=by
 unfold Mj Lk;rw [length_map,decide_eq_true h1,Bool.true_and,all_eq_true];intro n hn;obtain ⟨k,hk,rfl⟩:=mem_map.mp hn;have:=h2 k hk;rw [decide_eq_true (by lia),decide_eq_true (by lia)];rfl
theorem Nw (l:List Nat):Ja (Zd l)=some (Lk l):=Ss (Lk l)
def Aw (ks:List Nat):List (Str×XD):=[("way",.nums (Lk ks))]
theorem Z8y {ks:List Nat} (h1:ks.length<=500) (h2:∀ k∈ks,k<1000):gW "way" [.lst (Zd ks)]=some (Aw ks):=by
 unfold gW;dsimp only;rw [Nw];dsimp only [Option.bind];rw [if_pos (Kz h1 h2)];rfl
def Z3u (c:Str):Prop:=c="Broken" \/ c="Crowded"
theorem Ah (G:G3) (hG:Gb 64 G) (p:Nat×Nat) (k:Nat) (s:St3) (h:G.steps[k]?=some s) (hc:W3 s p.1=true) (hf:¬ Fine s p):∃ c,Z3u c/\Rg [G.d,Zo p,.int (k:Int)]=.exc c (Aw [k]):=by
 have hs:=hG.st s (mem_of_getElem? h);have hw2:=hG.w2;have hw1:=hs.w;have hk:=(List.getElem?_eq_some_iff.mp h).1;have hs2:=hG.s2;have hgw:gW "way" [.lst (Zd [k])]=some (Aw [k]):=Z8y (by simp) fun q hq=>by rw [mem_singleton.mp hq];lia
 have:=X6 (n:=6) (p:=3) (ds:=[G.d,Zo p,.int (k:Int)]) (g:=Uw) (R:=fun _=>False) (E:=fun c fl=>Z3u c/\fl=Aw [k]) rfl ?_
 ·rcases this with ⟨d,_,z⟩ | ⟨c,fl,e,h1,h2⟩
  ·exact z.elim
  ·exact ⟨c,h1,by rw [← h2];exact e⟩
 show GoE (Uw [.fz G.d,.fz (Zo p),.fz (.int (k:Int)),.un,.un,.un]) _ _ _ _;unfold Uw;refine Q3 (Zf (Zi (xs:=[G.d,.int (k:Int)]) rfl (Iw G k s h)) ?_);refine Vq (K6 (Yj (Z5 (Zi (xs:=[.int (p.2:Int),.int (s.w:Int)]) (Z4 (Z5 rfl rfl rfl) rfl) (Z4f p.2 s.w)) (Zi (xs:=[G.d,.int (k:Int)]) rfl (Z0j G k s h)) (Z6r _ _))) (fun _=>S8 (ds:=[.lst (Zd [k])]) (Z4 (Ww (Qo (Z4 rfl rfl) (by simp))) rfl) hgw ⟨.inl rfl,rfl⟩) (fun hb=>(W8 ?_:Go _ _ _).toE));have hlev:p.2.testBit s.w≠s.up:=by simpa using hb
 obtain ⟨lf,ek,hlf⟩:=Dc p.1 (bitsN s.takes);refine Q3 (Zf (d:=.int (lf:Int)) (Z5 (Z5 rfl rfl rfl) (Z47 (Zi (xs:=[.tup (Zd s.takes)]) (Z4 (Zi (xs:=[G.d,.int (k:Int)]) rfl (Rj G k s h)) rfl) (Jh s.takes fun p hp=>by have:=hs.t p hp;lia)) (z:=.int (-(bitsN s.takes:Int) - 1)) rfl) (by show some (Dat.int (Builtin.bitAnd _ _))=_;rw [ek])) ?_);refine Q3 (Zf (d:=.int (bitsN s.fills:Int)) (Zi (xs:=[.tup (Zd s.fills)]) (Z4 (Zi (xs:=[G.d,.int (k:Int)]) rfl (Lz G k s h)) rfl) (Jh s.fills fun p hp=>by have:=hs.f p hp;lia)) ?_);refine Vq (K6 (Yj (Z5 (Z5 rfl rfl (Z6z lf _)) rfl (ne0 _))) (fun _=>S8 (ds:=[.lst (Zd [k])]) (Z4 (Ww (Qo (Z4 rfl rfl) (by simp))) rfl) hgw ⟨.inr rfl,rfl⟩) (fun hb2=>?_));exfalso;refine hf ⟨hc,hlev,fun q h1 h2=>?_⟩;have hz:lf &&& bitsN s.fills=0:=by simpa using hb2
 have:=congrArg (Nat.testBit · q) hz;simp only [testBit_and,hlf,Wx,zero_testBit,h2,Bool.true_and,decide_eq_true h1,Bool.and_true] at this;simpa using this
theorem Z0d {G:G3} {rows:List Rw} {n k:Nat} {r:Rw} (hr:rows[n]?=some r):(Z2 (dV 0) (Z2 (dS Xf (dO W7 (dV 1) (dV 2)) Rx (U0 (dC (.int 2)))) (Z2 (dV 3) Zc))) [.fz G.d,.fz (.lst (rows.map Rw.d)),.fz (.int (n:Int)),.fz (.int (k:Int))]=some [G.d,Zo r.st,.int (k:Int)] :=
 Z4 rfl (Z4 (D6 (Z5 rfl rfl (S3 (x:=r.d) (by rw [getElem?_map,hr];rfl))) rfl (Vo rfl) (C8 r)) rfl)
theorem Z79 (G:G3) (hG:Gb 64 G) (rows:List Rw) (n k:Nat) (r:Rw) (s:St3) (hr:rows[n]?=some r) (h:G.steps[k]?=some s) (hf:Fine s r.st):M8 [G.d,.lst (rows.map Rw.d),.int (n:Int),.int (k:Int)]=.ok (Zo (Yn s r.st)):=by
 show (match Th [.fz G.d,.fz (.lst (rows.map Rw.d)),.fz (.int (n:Int)),.fz (.int (k:Int))] with | .ret d=>Rs.ok d | .next _=>.ok .non | .exc _ c fs=>.exc c fs | _=>.no)=_;unfold Th Fz Xz;rw [Z0d hr];dsimp only;rw [Z2f G hG r.st k s h hf]
theorem Z3n {G:G3} {I:Nat×Nat->Prop} (hG:Gb 64 G) {rows:List Rw} (t:Told G I rows) (hle:rows.length<=400) {n k:Nat} {r:Rw} {s:St3} (hr:rows[n]?=some r) (h:G.steps[k]?=some s) (hc:W3 s r.m=true) (hf:¬ Fine s r.st):∃ c,Z3u c/\M8 [G.d,.lst (rows.map Rw.d),.int (n:Int),.int (k:Int)]=.exc c (Aw (Jd rows n++[k])):=by
 obtain ⟨c,hcB,eb⟩:=Ah G hG r.st k s h hc hf;have hk:=(List.getElem?_eq_some_iff.mp h).1;have hn:=(List.getElem?_eq_some_iff.mp hr).1;have hs2:=hG.s2;obtain ⟨w1,w2⟩:=Oh t n hn;have hgw:gW "way" [.lst (Zd (Jd rows n++[k]))]=some (Aw (Jd rows n++[k])):=Z8y (by rw [length_append,length_singleton];lia) fun q hq=>by
  rcases mem_append.mp hq with z | z
  ·have:=w2 q z;lia
  ·rw [mem_singleton.mp z];lia
 have ha:(Z2 (dL (dO Ke (Yf E7 (Z2 (dV 1) (Z2 (dV 2) Zc))) (dL (U3 (Z2 (dV 3) Zc))))) Zc) [.fz G.d,.fz (.lst (rows.map Rw.d)),.fz (.int (n:Int)),.fz (.int (k:Int))]=some [.lst (Zd (Jd rows n++[k]))]:=by
  refine Z4 (Ww (ds:=Zd (Jd rows n++[k])) ?_) rfl;unfold dO;rw [Zi (xs:=[.lst (rows.map Rw.d),.int (n:Int)]) rfl (Z44 hle t n hn),Ww (Qo (xs:=[.int (k:Int)]) (Z4 rfl rfl) (by simp))];have hl:(Zd (Jd rows n)).length=(Jd rows n).length:=by unfold Zd;rw [length_map,length_map]
  show Ke (.lst (Zd (Jd rows n))) (.lst (Zd [k]))=_;rw [← Rh];unfold Ke;exact if_pos (by rw [hl];have:(Zd [k]).length=1:=rfl;rw [sizeLine_eq];lia)
 refine ⟨c,hcB,?_⟩;show (match Th [.fz G.d,.fz (.lst (rows.map Rw.d)),.fz (.int (n:Int)),.fz (.int (k:Int))] with | .ret d=>Rs.ok d | .next _=>.ok .non | .exc _ c fs=>.exc c fs | _=>.no)=_;unfold Th Fz Xz;rw [Z0d hr];dsimp only;rw [eb];dsimp only;have hr:∀ c,U1 c (gW "way") (Z2 (dL (dO Ke (Yf E7 (Z2 (dV 1) (Z2 (dV 2) Zc))) (dL (U3 (Z2 (dV 3) Zc))))) Zc) [.fz G.d,.fz (.lst (rows.map Rw.d)),.fz (.int (n:Int)),.fz (.int (k:Int))]=.exc [.fz G.d,.fz (.lst (rows.map Rw.d)),.fz (.int (n:Int)),.fz (.int (k:Int))] c (Aw (Jd rows n++[k])):=fun c=>by
  unfold U1;rw [ha];dsimp only [Option.bind];rw [hgw]
 rcases hcB with rfl | rfl
 ·rw [if_pos (by decide),if_pos rfl,hr]
  rfl
 ·rw [if_pos (by decide),if_neg (by decide),if_pos rfl,hr]
  rfl
abbrev TT (G:G3) (rows:List Rw):Prop:=Told G (fun _=>True) rows
theorem Z5j (G:G3):TT G [rw0 G] where
 zero:=rfl
 inv:=fun _ _=>trivial
 nd:=nodup_cons.mpr ⟨by simp,nodup_nil⟩
 src:=fun i r e h0=>by
  rw [getElem?_cons,if_neg (by lia)] at e;cases e
theorem Z4r {G:G3} {rows:List Rw} (t:TT G rows) {f k:Nat} {s:St3} {rf:Rw} (hf:rows[f]?=some rf) (hs:G.steps[k]?=some s) (hc:W3 s rf.m=true) (hn:Yn s rf.st∉rows.map Rw.st):TT G (rows++[⟨(Yn s rf.st).1,(Yn s rf.st).2,some (f,k)⟩]) where
 zero:=by
  have:=t.zero;have hl:=(List.getElem?_eq_some_iff.mp this).1;rw [getElem?_append_left hl];exact this
 inv:=fun _ _=>trivial
 nd:=by
  rw [map_append];refine nodup_append.mpr ⟨t.nd,nodup_cons.mpr ⟨by simp,nodup_nil⟩,fun a ha b hb=>?_⟩;have eb:b=Yn s rf.st:=mem_singleton.mp hb;rw [eb];intro e;exact hn (e▸ha)
 src:=fun i r e h0=>by
  rcases lt_or_ge i rows.length with hl | hl
  ·rw [getElem?_append_left hl] at e
   obtain ⟨f',k',s',rf',a1,a2,a3,a4,a5,a6⟩:=t.src i r e h0;exact ⟨f',k',s',rf',a1,a2,a3,by rw [getElem?_append_left (by lia)];exact a4,a5,a6⟩
  ·rw [getElem?_append_right hl] at e
   have hfl:=(List.getElem?_eq_some_iff.mp hf).1;have e0:i - rows.length=0:=by
    rcases eq_zero_or_pos (i - rows.length) with z | z
    ·exact z
    ·rw [getElem?_cons,if_neg (by lia)] at e;cases e
   rw [e0] at e;cases e;exact ⟨f,k,s,rf,rfl,by lia,hs,by rw [getElem?_append_left hfl];exact hf,hc,rfl⟩
theorem Z4d {a b:List Rw} (h:a <+: b) {p:Nat×Nat} (hp:p∈a.map Rw.st):p∈b.map Rw.st:=by
 obtain ⟨r,h1,h2⟩:=mem_map.mp hp;exact mem_map.mpr ⟨r,h.subset h1,h2⟩
def Okr (G:G3) (r:Rw):Prop:=∀ (k:Nat) (s:St3),G.steps[k]?=some s->W3 s r.m=true->Fine s r.st
def Clo (G:G3) (rows:List Rw) (r:Rw):Prop:=∀ (k:Nat) (s:St3),G.steps[k]?=some s->W3 s r.m=true->Yn s r.st∈rows.map Rw.st
structure Whole (G:G3) (most:Nat) (rows:List Rw):Prop where
 t:TT G rows
 le:rows.length<=most
 ok:∀ r∈rows,Okr G r
 cl:∀ r∈rows,Clo G rows r
def Pu (G:G3) (most:Nat) (c:Str):Prop:=(c="TooMany" /\ ∃ rows,TT G rows/\most<rows.length)\/(Z3u c/\∃ (rows:List Rw) (r:Rw) (k:Nat) (s:St3),TT G rows/\r∈rows/\G.steps[k]?=some s/\W3 s r.m=true/\¬ Fine s r.st)
theorem Cj {i:Nat} {F:List Dat->Rs} {fs:Ev->Option (List Dat)} {env:Ev} {ds:List Dat} {d:Dat} (e:fs env=some ds) (h:F ds=.ok d):Hx i F fs env=.next (env.set i (.fz d)):=by unfold Hx;rw [e];dsimp only;rw [h]
theorem Fg {i:Nat} {F:List Dat->Rs} {fs:Ev->Option (List Dat)} {env:Ev} {ds:List Dat} {c:Str} {fl:List (Str×XD)} (e:fs env=some ds) (h:F ds=.exc c fl):Hx i F fs env=.exc env c fl:=by unfold Hx;rw [e];dsimp only;rw [h]
theorem Z41 {F:List Dat->Rs} {ds:List Dat} {d:Dat} (h:F ds=.ok d) (hp:A0 d=true):Eb F ds=.ok d:=by unfold Eb;rw [h];exact if_pos hp
theorem Z0q {F:List Dat->Rs} {ds:List Dat} {c:Str} {fl:List (Str×XD)} (h:F ds=.exc c fl):Eb F ds=.exc c fl:=by unfold Eb;rw [h]
theorem Au {G:G3} (hG:Gb 64 G) (most:Nat) (hm1:1<=most) (hm2:most<=400):(∃ d,Jb [G.d,.int (most:Int)]=.ok d/\∃ rows,d=.lst (rows.map Rw.d)/\Whole G most rows)\/∃ c fl,Jb [G.d,.int (most:Int)]=.exc c fl/\Pu G most c:=by
 refine X6 (n:=8) (p:=2) (ds:=[G.d,.int (most:Int)]) (g:=M5) (R:=fun d=>∃ rows,d=.lst (rows.map Rw.d)/\Whole G most rows) (E:=fun c _=>Pu G most c) rfl ?_;show GoE (M5 [.fz G.d,.fz (.int (most:Int)),.un,.un,.un,.un,.un,.un]) _ _ _ _;unfold M5;refine Q3 (Jz (ds:=[rw0 G].map Rw.d) (Qo (Z4 (Yb (Z4 (Z5 rfl rfl rfl) (Z4 (Z5 rfl rfl rfl) rfl)) (by simp)) rfl) (by simp)) ?_);refine Q3 (Z6v (q:=(G.marks,G.code)) (Yb (Z4 (Z5 rfl rfl rfl) (Z4 (Z5 rfl rfl rfl) rfl)) (by simp)) rfl ?_);refine Q3 (Zf (d:=.int ((0:Nat):Int)) rfl ?_);refine Vq (Z1b (fun m e=>∃ (rows:List Rw) (at0:Nat) (v5 v6 v7:Slt),e=[.fz G.d,.fz (.int (most:Int)),.ow (rows.map Rw.d),.gx (.dict (Ea (rows.map Rw.st))),.fz (.int (at0:Int)),v5,v6,v7]/\TT G rows/\at0<=rows.length/\m+at0=400/\rows.length<=most/\∀ i r,i<at0->rows[i]?=some r->Okr G r/\Clo G rows r) (n:=400) ⟨_,0,.un,.un,.un,rfl,Z5j G,by lia,rfl,hm1,fun i r h=>by lia⟩ ?_);rintro m e ⟨rows,at0,v5,v6,v7,rfl,t,hal,hm,hmost,hok⟩;have hlen:dF Ti (Z2 (dP 2) Zc) [.fz G.d,.fz (.int (most:Int)),.ow (rows.map Rw.d),.gx (.dict (Ea (rows.map Rw.st))),.fz (.int (at0:Int)),v5,v6,v7]=some (.int (rows.length:Int)):=Yr (Z4 rfl rfl) (E8 Rw.d rows);rcases lt_or_ge at0 rows.length with hl | hl
 ·right
  obtain ⟨r,hr⟩:∃ r,rows[at0]?=some r:=⟨_,getElem?_eq_getElem hl⟩;have hix:W7 (.lst (rows.map Rw.d)) (.int (at0:Int))=some r.d:=S3 (by rw [getElem?_map,hr];rfl);refine ⟨Yj (Z5 rfl hlen (by show some (Dat.bl (decide ((at0:Int)<(rows.length:Int))))=_;rw [decide_eq_true (by lia)])),?_⟩;refine Q3 (Zf (Zi (xs:=[G.d,Zo r.st]) (Z4 rfl (Z4 (D6 (Z5 rfl rfl hix) rfl (Vo rfl) (C8 r)) rfl)) (Hf G hG r.st)) ?_);obtain ⟨ks,hks⟩:∃ ks:List Nat,Vr G r.st.1=ks:=⟨_,rfl⟩;have hks':Vr G r.m=ks:=hks;have hkm:∀ k∈ks,Do G r.m k=true:=fun k hk=>by rw [← hks'] at hk;exact L0 hk
  rw [hks];refine Vq (Pm (ds:=Zd ks) (fun i e=>∃ (rw1:List Rw) (v6 v7:Slt),e=[.fz G.d,.fz (.int (most:Int)),.ow (rw1.map Rw.d),.gx (.dict (Ea (rw1.map Rw.st))),.fz (.int (at0:Int)),.fz (.lst (Zd ks)),v6,v7]/\TT G rw1/\rows <+: rw1/\rw1.length<=most/\∀ k∈ks.take i,∀ s,G.steps[k]?=some s->Fine s r.st/\Yn s r.st∈rw1.map Rw.st) rfl ⟨rows,v6,v7,rfl,t,List.prefix_rfl,hmost,fun k hk=>by simp at hk⟩ ?_ ?_)
  ·rintro i d e hi ⟨rw1,v6,v7,rfl,tr,hpre,hmo,hfn⟩
   obtain ⟨k,hk,rfl⟩:=Mc hi;have hcanK:=hkm k (mem_of_getElem? hk);obtain ⟨s,hs,hcan⟩:=S0 hcanK;have htk:ks.take (i+1)=ks.take i++[k]:=by rw [take_succ,hk];rfl
   have hr':=Oj hpre hr;have hle:rw1.length<=400:=by lia
   refine ⟨_,rfl,?_⟩;by_cases hf:Fine s r.st
   case neg =>
    obtain ⟨c,hcB,ec⟩:=Z3n hG tr hle hr' hs hcan hf;refine Vq ⟨?_⟩;rw [Fg (ds:=[G.d,.lst (rw1.map Rw.d),.int (at0:Int),.int (k:Int)]) rfl (Z0q ec)];exact .inr ⟨hcB,rw1,r,k,s,tr,mem_of_getElem? hr',hs,hcan,hf⟩
   have hfn':∀ rw2:List Rw,rw1 <+: rw2->Yn s r.st∈rw2.map Rw.st->∀ k'∈ks.take (i+1),∀ s,G.steps[k']?=some s->Fine s r.st/\Yn s r.st∈rw2.map Rw.st:=fun rw2 hp2 hin k' hk' s' hs'=>by
    rw [htk] at hk';rcases mem_append.mp hk' with z | z
    ·obtain ⟨a1,a2⟩:=hfn k' z s' hs'
     exact ⟨a1,Z4d hp2 a2⟩
    ·rw [mem_singleton.mp z,hs] at hs';cases hs';exact ⟨hf,hin⟩
   refine Vq ⟨?_⟩;rw [Cj (d:=Zo (Yn s r.st)) (ds:=[G.d,.lst (rw1.map Rw.d),.int (at0:Int),.int (k:Int)]) rfl (Z41 (Z79 G hG rw1 at0 k r s hr' hs hf) rfl)];refine Vq (K6 (Yj (Z66 (ps:=rw1.map Rw.st) (q:=Yn s r.st) rfl rfl)) (fun hb=>?_) (fun hb=>?_))
   ·exact ⟨⟨rw1,.fz (.int (k:Int)),.fz (Zo (Yn s r.st)),rfl,tr,hpre,hmo,hfn' rw1 List.prefix_rfl (of_decide_eq_true hb)⟩⟩
   have hnin:Yn s r.st∉rw1.map Rw.st:=of_decide_eq_false hb;refine (W8 ?_:Go _ _ _).toE;refine Vq (K6 (b:=decide ((most:Int)<=(rw1.length:Int))) (Yj (Z5 (Yr (Z4 rfl rfl) (E8 Rw.d rw1)) rfl rfl)) (fun hb2=>?_) (fun hb2=>(W8 ?_:Go _ _ _).toE))
   ·have:=of_decide_eq_true hb2
    exact S8 (ds:=[]) rfl rfl (.inl ⟨rfl,_,Z4r tr hr' hs hcan hnin,by rw [length_append,length_singleton];lia⟩)
   have hlt:=of_decide_eq_false hb2;refine Q3 (Z6y (ps:=rw1.map Rw.st) (q:=Yn s r.st) rfl rfl rfl hnin (by rw [length_map];lia) ?_);refine (Q5 (ds:=rw1.map Rw.d) (as:=[(⟨(Yn s r.st).1,(Yn s r.st).2,some (at0,k)⟩:Rw).d]) (ds':=(rw1++[(⟨(Yn s r.st).1,(Yn s r.st).2,some (at0,k)⟩:Rw)]).map Rw.d) rfl (Z4 (Yb (Z4 (Z5 rfl rfl rfl) (Z4 (Z5 rfl rfl rfl) rfl)) (by simp)) rfl) (by rw [Vt (by rw [length_map];lia),map_append];rfl) ?_).toE;refine ⟨rw1++[⟨(Yn s r.st).1,(Yn s r.st).2,some (at0,k)⟩],.fz (.int (k:Int)),.fz (Zo (Yn s r.st)),?_,Z4r tr hr' hs hcan hnin,hpre.trans (List.prefix_append _ _),by rw [length_append,length_singleton];lia,hfn' _ (List.prefix_append _ _) (by rw [map_append];exact mem_append_right _ (mem_singleton.mpr rfl))⟩;rw [map_append (f:=Rw.st)];rfl
  ·rintro e ⟨rw1,v6,v7,rfl,tr,hpre,hmo,hfn⟩
   have hlk:(Zd ks).length=ks.length:=by unfold Zd;rw [length_map,length_map]
   rw [hlk,take_of_length_le (le_refl _)] at hfn;have hpl:=hpre.length_le;refine (Zc0 rfl rfl ⟨m - 1,by lia,rw1,at0+1,_,_,_,rfl,tr,by lia,by lia,hmo,fun i r' hi hr2=>?_⟩:Go _ _ _).toE;rcases lt_or_ge i at0 with hlt | hge
   ·obtain ⟨r3,hr3⟩:∃ r3,rows[i]?=some r3:=⟨_,getElem?_eq_getElem (by lia)⟩
    have:=Oj hpre hr3;rw [hr2] at this;cases this;obtain ⟨b1,b2⟩:=hok i _ hlt hr3;exact ⟨b1,fun k s a b=>Z4d hpre (b2 k s a b)⟩
   ·have:i=at0:=by lia
    subst this;have:=Oj hpre hr;rw [hr2] at this;cases this;have hk:∀ (k:Nat) (s:St3),G.steps[k]?=some s->W3 s r.m=true->k∈ks:=fun k s hs hc=>by
     rw [← hks'];unfold Vr;refine mem_filter.mpr ⟨mem_range.mpr (List.getElem?_eq_some_iff.mp hs).1,?_⟩;unfold Do;rw [hs];exact hc
    exact ⟨fun k s hs hc=>(hfn k (hk k s hs hc) s hs).1,fun k s hs hc=>(hfn k (hk k s hs hc) s hs).2⟩
 ·left
  refine ⟨Yj (Z5 rfl hlen (by show some (Dat.bl (decide ((at0:Int)<(rows.length:Int))))=_;rw [decide_eq_false (by lia)])),?_⟩;have key:∀ r∈rows,Okr G r/\Clo G rows r:=fun r hr=>by
   obtain ⟨i,hi,rfl⟩:=getElem_of_mem hr;exact hok i _ (by lia) (getElem?_eq_getElem hi)
  exact (Io rfl ⟨rows,rfl,t,hmost,fun r hr=>(key r hr).1,fun r hr=>(key r hr).2⟩:Go _ _ _).toE
def rob (si sj:St3):Bool:=si.takes.any fun q=>!decide (q∈si.fills)&&decide (q∈sj.takes)
theorem Pc {si sj:St3}:rob si sj=true↔∃ q,q∈si.takes/\q∉si.fills/\q∈sj.takes:=by
 unfold rob;rw [any_eq_true];constructor
 ·rintro ⟨q,h1,h2⟩
  simp only [Bool.and_eq_true,Bool.not_eq_true',decide_eq_false_iff_not,decide_eq_true_eq] at h2;exact ⟨q,h1,h2⟩
 ·rintro ⟨q,h1,h2⟩
  refine ⟨q,h1,?_⟩;simp only [Bool.and_eq_true,Bool.not_eq_true',decide_eq_false_iff_not,decide_eq_true_eq];exact h2
theorem Z6l (G:G3) (hG:Gb 64 G) (i j:Nat) (si sj:St3) (hi:G.steps[i]?=some si) (hj:G.steps[j]?=some sj):Ou [G.d,.int (i:Int),.int (j:Int)]=.ok (.bl (rob si sj)):=by
 have bi:=hG.st si (mem_of_getElem? hi);have bj:=hG.st sj (mem_of_getElem? hj);refine U4 (Yq (n:=4) (p:=3) (ds:=[G.d,.int (i:Int),.int (j:Int)]) (g:=Ga) (R:=fun d=>d=.bl (rob si sj)) rfl ?_);show Go (Ga [.fz G.d,.fz (.int (i:Int)),.fz (.int (j:Int)),.un]) _ _;unfold Ga;obtain ⟨kp,ek,hkp⟩:=Dc (bitsN si.takes) (bitsN si.fills);refine Z8 (Zf (d:=.int (kp:Int)) (Z5 (Zi (xs:=[.tup (Zd si.takes)]) (Z4 (Zi (xs:=[G.d,.int (i:Int)]) rfl (Rj G i si hi)) rfl) (Jh si.takes fun p hp=>by have:=bi.t p hp;lia)) (Z47 (Zi (xs:=[.tup (Zd si.fills)]) (Z4 (Zi (xs:=[G.d,.int (i:Int)]) rfl (Lz G i si hi)) rfl) (Jh si.fills fun p hp=>by have:=bi.f p hp;lia)) (z:=.int (-(bitsN si.fills:Int) - 1)) rfl) (by show some (Dat.int (Builtin.bitAnd _ _))=_;rw [ek])) ?_);refine Y9 (Z5 (Z5 rfl (Zi (xs:=[.tup (Zd sj.takes)]) (Z4 (Zi (xs:=[G.d,.int (j:Int)]) rfl (Rj G j sj hj)) rfl) (Jh sj.takes fun p hp=>by have:=bj.t p hp;lia)) (Z6z kp _)) rfl (ne0 _)) ?_;congr 1
 apply Bool.eq_iff_iff.mpr;rw [Pc];constructor
 ·intro hb
  have hne:kp &&& bitsN sj.takes≠0:=by simpa using hb
  obtain ⟨q,hq⟩:=Nat.exists_testBit_of_ne_zero hne;rw [testBit_and,hkp,Wx,Wx,Wx] at hq;simp only [Bool.and_eq_true,decide_eq_true_eq,Bool.not_eq_true',decide_eq_false_iff_not] at hq;exact ⟨q,hq.1.1,hq.1.2,hq.2⟩
 ·rintro ⟨q,h1,h2,h3⟩
  have:kp &&& bitsN sj.takes≠0:=fun z=>by
   have:=congrArg (Nat.testBit · q) z;simp only [testBit_and,hkp,Wx,zero_testBit,decide_eq_true h1,decide_eq_false h2,decide_eq_true h3] at this;cases this
  simpa using this
theorem Il {G:G3} {w:Nat} {u:Str×Bool} (h:G.wires[w]?=some u):W7 (.tup (G.wires.map Qn)) (.int (w:Int))=some (Qn u):=Sa (by rw [getElem?_map,h];rfl)
theorem Kg (G:G3) (w:Nat) (u:Str×Bool) (h:G.wires[w]?=some u):M9 [G.d,.int (w:Int)]=.ok (.bl u.2):=by
 refine U4 (Yq (n:=2) (p:=2) (ds:=[G.d,.int (w:Int)]) (g:=Qu) (R:=fun d=>d=.bl u.2) rfl ?_);show Go (Qu [.fz G.d,.fz (.int (w:Int))]) _ _;unfold Qu;exact Y9 (Z5 (Z5 (Z5 (Z5 rfl rfl rfl) rfl (Il h)) rfl rfl) rfl (Z0n _)) rfl
theorem Dt {G:G3} {s:St3} {u:Str×Bool} (h:G.wires[s.w]?=some u):Vm G s=u.2:=by unfold Vm;rw [h]
theorem Z40 {f g:Ev->Option Dat} {env:Ev} {a b:Bool} (h1:f env=some (.bl a)) (h2:g env=some (.bl b)):dOr f g env=some (.bl (a||b)):=by
 unfold dOr dB;rw [h1];cases a with
 | true=>rfl
 | false=>exact h2
theorem Bh (G:G3) (hG:Gb 64 G) (i j:Nat) (si sj:St3) (hi:G.steps[i]?=some si) (hj:G.steps[j]?=some sj):Ut [G.d,.int (i:Int),.int (j:Int)]=.ok (.bl (Vm G si||Vm G sj)):=by
 have bi:=(hG.st si (mem_of_getElem? hi)).w;have bj:=(hG.st sj (mem_of_getElem? hj)).w;have ei:G.wires[si.w]?=some G.wires[si.w]:=getElem?_eq_getElem bi;have ej:G.wires[sj.w]?=some G.wires[sj.w]:=getElem?_eq_getElem bj;refine U4 (Yq (n:=3) (p:=3) (ds:=[G.d,.int (i:Int),.int (j:Int)]) (g:=V3) (R:=fun d=>d=.bl (Vm G si||Vm G sj)) rfl ?_);show Go (V3 [.fz G.d,.fz (.int (i:Int)),.fz (.int (j:Int))]) _ _;unfold V3;rw [Dt ei,Dt ej];exact Y9 (Z40 (Zi (xs:=[G.d,.int (si.w:Int)]) (Z4 rfl (Z4 (Zi (xs:=[G.d,.int (i:Int)]) rfl (Iw G i si hi)) rfl)) (Kg G si.w _ ei)) (Zi (xs:=[G.d,.int (sj.w:Int)]) (Z4 rfl (Z4 (Zi (xs:=[G.d,.int (j:Int)]) rfl (Iw G j sj hj)) rfl)) (Kg G sj.w _ ej))) rfl
def Ra (G:G3) (p:Nat×Nat):Bool:=match G.steps[p.1]?,G.steps[p.2]? with
 | some si,some sj=>!(p.1==p.2)&&((Vm G si||Vm G sj)&&rob si sj)
 | _,_=>false
def Nc (n i:Nat):List (Nat×Nat):=(List.range n).map fun j=>(i,j)
def Z2s (n:Nat):List (Nat×Nat):=(List.range n).flatMap (Nc n)
theorem Z3i (n i:Nat):(Nc n i).length=n:=by unfold Nc;rw [length_map,length_range]
theorem Xo (n:Nat):∀ m,((List.range m).flatMap (Nc n)).length=m*n
 | 0=>by simp
 | m+1=>by rw [List.range_succ,List.flatMap_append,length_append,Xo n m];simp [Z3i,Nat.succ_mul]
theorem Z0r (G:G3) (hG:Gb 64 G):Ez [G.d]=.ok (.lst (((Z2s G.steps.length).filter (Ra G)).map Zo)):=by
 refine U4 (Yq (n:=4) (p:=1) (ds:=[G.d]) (g:=M6) (R:=fun d=>d=.lst (((Z2s G.steps.length).filter (Ra G)).map Zo)) rfl ?_);show Go (M6 [.fz G.d,.un,.un,.un]) _ _;unfold M6;have hs2:=hG.s2;have hlen:∀ e:Ev,e[0]?=some (.fz G.d)->dF Ti (Z2 (dO W7 (dV 0) (dC (.int 1))) Zc) e=some (.int ((G.steps.length:Nat):Int)):=fun e he=>Yr (Z4 (x:=.tup (G.steps.map St3.d)) (Z5 (x:=G.d) (by unfold dV;rw [he]) rfl rfl) rfl) (by show some (Dat.int ((G.steps.map St3.d).length:Int))=_;rw [length_map])
 refine Z8 (Jz (ds:=[]) rfl ?_);refine Z8 (Ve (ds:=rng 0 G.steps.length) (fun i e=>∃ v2 v3:Slt,e=[.fz G.d,.ow ((((List.range i).flatMap (Nc G.steps.length)).filter (Ra G)).map Zo),v2,v3]) (W1 (Z4 (hlen _ rfl) rfl) (by lia)) ⟨.un,.un,rfl⟩ ?_ ?_)
 ·rintro i d e hi ⟨v2,v3,rfl⟩
  obtain ⟨hi1,rfl⟩:=Uy hi;rw [Int.zero_add];refine ⟨_,rfl,?_⟩;obtain ⟨si,hsi⟩:∃ s,G.steps[i]?=some s:=⟨_,getElem?_eq_getElem hi1⟩;refine Ve (ds:=rng 0 G.steps.length) (fun j e=>∃ v3:Slt,e=[.fz G.d,.ow ((((List.range i).flatMap (Nc G.steps.length)++(List.range j).map fun a=>(i,a)).filter (Ra G)).map Zo),.fz (.int (i:Int)),v3]) (W1 (Z4 (hlen _ rfl) rfl) (by lia)) ⟨v3,by simp⟩ ?_ ?_
  ·rintro j d e hj ⟨v3,rfl⟩
   obtain ⟨hj1,rfl⟩:=Uy hj;rw [Int.zero_add];refine ⟨_,rfl,?_⟩;obtain ⟨sj,hsj⟩:∃ s,G.steps[j]?=some s:=⟨_,getElem?_eq_getElem hj1⟩;have hrv:Ra G (i,j)=(!(i==j)&&((Vm G si||Vm G sj)&&rob si sj)):=by unfold Ra;rw [hsi,hsj]
   have hnx:((List.range i).flatMap (Nc G.steps.length)++(List.range (j+1)).map fun a=>(i,a)).filter (Ra G)=((List.range i).flatMap (Nc G.steps.length)++(List.range j).map fun a=>(i,a)).filter (Ra G)++(if Ra G (i,j)=true then [(i,j)] else []):=by
    rw [List.range_succ,map_append,← List.append_assoc,List.filter_append];congr 1
    show List.filter (Ra G) [(i,j)]=_;cases h:Ra G (i,j)<;>simp [h]
   refine Qb (U7 (Yj (Z5 rfl rfl (neN i j))) fun _=>U7 (Md (Zi (xs:=[G.d,.int (i:Int),.int (j:Int)]) rfl (Bh G hG i j si sj hsi hsj))) fun _=>Md (Zi (xs:=[G.d,.int (i:Int),.int (j:Int)]) rfl (Z6l G hG i j si sj hsi hsj))) (fun hq=>?_) (fun hq=>W8 ⟨.fz (.int (j:Int)),?_⟩)
   ·rw [← hrv] at hq
    rw [hnx,if_pos hq];have hle:(((List.range i).flatMap (Nc G.steps.length)++(List.range j).map fun a=>(i,a)).filter (Ra G)).length<=1000:=by
     refine le_trans (List.length_filter_le _ _) ?_;rw [length_append,Xo,length_map,length_range];have:i*G.steps.length<=24*24:=Nat.mul_le_mul (by lia) hs2;lia
    refine Q5 (as:=[Zo (i,j)]) rfl (Z4 (Yb (Z4 rfl (Z4 rfl rfl)) (by simp)) rfl) (Vt (by rw [length_map];exact hle)) ⟨.fz (.int (j:Int)),?_⟩;rw [map_append];rfl
   ·rw [← hrv] at hq
    rw [hnx,if_neg (by rw [hq];decide),append_nil];rfl
  ·rintro e ⟨v3,rfl⟩
   refine ⟨.fz (.int (i:Int)),v3,?_⟩;rw [U8,List.range_succ,List.flatMap_append];simp [Nc]
 ·rintro e ⟨v2,v3,rfl⟩
  refine Io rfl ?_;rw [U8];rfl
def Ad (G:G3) (m:Nat) (p:Nat×Nat):Bool:=decide (p.1∈Vr G m)&&decide (p.2∈Vr G m)
def Qf (G:G3) (m:Nat):Option (Nat×Nat):=((Z2s G.steps.length).filter (Ra G)).find? (Ad G m)
def Zaz (ks:List Nat) (a b:Nat):List (Str×XD):=[("way",.nums (Lk ks)),("lost",.int (a:Int)),("by",.int (b:Int))]
theorem Zct (ks:List Nat) (a b:Nat) (h:Mj (Lk ks)=true) (ha:a<1000) (hb:b<1000):gC "way" "lost" "by" [.lst (Zd ks),.int (a:Int),.int (b:Int)]=some (Zaz ks a b):=by
 unfold gC;dsimp only;rw [Nw];dsimp only [Option.bind];have hs:∀ w:Nat,w<1000->Ge (w:Int)=true:=fun w hw=>by unfold Ge;rw [decide_eq_true (by lia),decide_eq_true (by lia)];rfl
 rw [if_pos (by rw [h,hs a ha,hs b hb];rfl)];rfl
theorem Xt (p:Nat) (ps:List Nat):inF (.int (p:Int)) (.lst (Zd ps))=some (.bl (decide (p∈ps))):=by unfold inF;rw [Z78];rfl
theorem Z3e {qs:List (Nat×Nat)} {i:Nat} {d:Dat} (h:(qs.map L2.Zo)[i]?=some d):∃ p,qs[i]?=some p/\d=L2.Zo p:=by
 rw [getElem?_map] at h;obtain ⟨p,h1,h2⟩:=map_some h;exact ⟨p,h1,h2.symm⟩
theorem Z29 {G:G3} (hG:Gb 64 G) {most:Nat} (hm:most<=400) {rows:List Rw} (es:Jb [G.d,.int (most:Int)]=.ok (.lst (rows.map Rw.d))) (W:Whole G most rows) :
  (∃ d,Q4 [G.d,.int (most:Int)]=.ok d/\d=.lst (rows.map Rw.d)/\∀ r∈rows,Qf G r.m=none)\/∃ c fl,Q4 [G.d,.int (most:Int)]=.exc c fl/\c="CalledOff" /\ ∃ n r p,rows[n]?=some r/\(∀ (i:Nat) (r':Rw),i<n->rows[i]?=some r'->Qf G r'.m=none)/\Qf G r.m=some p/\fl=Zaz (Jd rows n) p.2 p.1:=by
 have hle:=W.le;have hs2:=hG.s2;refine X6 (n:=9) (p:=2) (ds:=[G.d,.int (most:Int)]) (g:=Jt) (R:=fun d=>d=.lst (rows.map Rw.d)/\∀ r∈rows,Qf G r.m=none) (E:=fun c fl=>c="CalledOff" /\ ∃ n r p,rows[n]?=some r/\(∀ (i:Nat) (r':Rw),i<n->rows[i]?=some r'->Qf G r'.m=none)/\Qf G r.m=some p/\fl=Zaz (Jd rows n) p.2 p.1) rfl ?_;show GoE (Jt [.fz G.d,.fz (.int (most:Int)),.un,.un,.un,.un,.un,.un,.un]) _ _ _ _;unfold Jt;refine Vq ⟨?_⟩;rw [Cj (d:=.lst (rows.map Rw.d)) (ds:=[G.d,.int (most:Int)]) rfl es];refine Q3 (Zf (Zi (xs:=[G.d]) rfl (Z0r G hG)) ?_);obtain ⟨qs,hqs⟩:∃ qs,(Z2s G.steps.length).filter (Ra G)=qs:=⟨_,rfl⟩;have hfr:∀ m,Qf G m=qs.find? (Ad G m):=fun m=>by unfold Qf;rw [hqs]
 rw [hqs];have hql:∀ p∈qs,p.1<24/\p.2<24:=fun p hp=>by
  rw [← hqs] at hp;have:=(mem_filter.mp hp).2;unfold Ra at this;cases e1:G.steps[p.1]? with
  | none=>rw [e1] at this;cases this
  | some s1 =>
   cases e2:G.steps[p.2]? with
   | none=>rw [e1,e2] at this;cases this
   | some s2=>have:=(List.getElem?_eq_some_iff.mp e1).1;have:=(List.getElem?_eq_some_iff.mp e2).1;lia
 refine Vq (Pm (ds:=R8 0 (rows.map Rw.d)) (fun i e=>∃ v4 v5 v6 v7 v8:Slt,e=[.fz G.d,.fz (.int (most:Int)),.fz (.lst (rows.map Rw.d)),.fz (.lst (qs.map Zo)),v4,v5,v6,v7,v8]/\∀ (j:Nat) (r':Rw),j<i->rows[j]?=some r'->Qf G r'.m=none) (Z3l rfl) ⟨.un,.un,.un,.un,.un,rfl,fun j r' h=>by lia⟩ ?_ ?_)
 ·rintro n d e hn ⟨v4,v5,v6,v7,v8,rfl,hbef⟩
  obtain ⟨x,hx,rfl⟩:=Gw hn;rw [getElem?_map] at hx;obtain ⟨r,hr,rfl⟩:=map_some hx;have hnl:=(List.getElem?_eq_some_iff.mp hr).1;refine ⟨[.fz G.d,.fz (.int (most:Int)),.fz (.lst (rows.map Rw.d)),.fz (.lst (qs.map Zo)),.fz (.int (n:Int)),.fz r.d,v6,v7,v8],rfl,?_⟩;refine Q3 (Zf (Zi (xs:=[G.d,Zo r.st]) (Z4 rfl (Z4 (D6 rfl rfl (Vo rfl) (C8 r)) rfl)) (Hf G hG r.st)) ?_);have ek:Vr G r.st.1=Vr G r.m:=rfl;rw [ek];obtain ⟨ks,hks⟩:∃ ks,Vr G r.m=ks:=⟨_,rfl⟩;refine Pm (ds:=qs.map Zo) (fun i e=>∃ v7 v8:Slt,e=[.fz G.d,.fz (.int (most:Int)),.fz (.lst (rows.map Rw.d)),.fz (.lst (qs.map Zo)),.fz (.int (n:Int)),.fz r.d,.fz (.lst (Zd (Vr G r.m))),v7,v8]/\(qs.take i).find? (Ad G r.m)=none) rfl ⟨v7,v8,rfl,by simp⟩ ?_ ?_
  ·rintro i d e hi ⟨v7,v8,rfl,hno⟩
   obtain ⟨p,hp,rfl⟩:=Z3e hi;refine ⟨[.fz G.d,.fz (.int (most:Int)),.fz (.lst (rows.map Rw.d)),.fz (.lst (qs.map Zo)),.fz (.int (n:Int)),.fz r.d,.fz (.lst (Zd (Vr G r.m))),.fz (.int (p.1:Int)),.fz (.int (p.2:Int))],rfl,?_⟩;have htk:qs.take (i+1)=qs.take i++[p]:=by rw [take_succ,hp];rfl
   refine K6 (b:=Ad G r.m p) (U7 (Yj (Z5 rfl rfl (Xt p.1 _))) fun _=>Yj (Z5 rfl rfl (Xt p.2 _))) (fun hb=>?_) (fun hb=>(W8 ⟨_,_,rfl,?_⟩:Go _ _ _).toE)
   ·obtain ⟨w1,w2⟩:=Oh W.t n hnl
    obtain ⟨l1,l2⟩:=hql p (mem_of_getElem? hp);refine S8 (ds:=[.lst (Zd (Jd rows n)),.int (p.2:Int),.int (p.1:Int)]) (Z4 (Zi (xs:=[.lst (rows.map Rw.d),.int (n:Int)]) rfl (Z44 (by lia) W.t n hnl)) rfl) (Zct _ p.2 p.1 (Kz (by lia) fun k hk=>by have:=w2 k hk;lia) (by lia) (by lia)) ⟨rfl,n,r,p,hr,hbef,?_,rfl⟩;rw [hfr,← take_append_drop i qs,List.find?_append,hno];have:qs.drop i=p::qs.drop (i+1):=by
     have hil:=(List.getElem?_eq_some_iff.mp hp);rw [drop_eq_getElem_cons hil.1,hil.2]
    rw [this,find?_cons,hb];rfl
   ·rw [htk,List.find?_append,hno,find?_cons,hb]
    rfl
  ·rintro e ⟨v7,v8,rfl,hno⟩
   refine ⟨_,_,_,_,_,rfl,fun j r' hj hr'=>?_⟩;rcases lt_or_ge j n with z | z
   ·exact hbef j r' z hr'
   ·have:j=n:=by lia
    subst this;rw [hr] at hr';cases hr';rw [length_map,take_of_length_le (le_refl _)] at hno;rw [hfr];exact hno
 ·rintro e ⟨v4,v5,v6,v7,v8,rfl,hbef⟩
  rw [Ur,length_map] at hbef;refine (Y9 rfl ⟨rfl,fun r hr=>?_⟩:Go _ _ _).toE;obtain ⟨i,hi,rfl⟩:=getElem_of_mem hr;exact hbef i _ hi (getElem?_eq_getElem hi)
def Vu {α:Type} (p:α->Bool):Nat->List α->List Nat
 | _,[]=>[]
 | k,x::xs=>if p x=true then k::Vu p (k+1) xs else Vu p (k+1) xs
theorem Kp {g:Dat->Ev->Option Ev} {t:Ev->Option Bool} {f:Ev->Option Dat} {env:Ev} {α:Type} (D:α->Dat) (p:α->Bool):∀ (xs:List α) (k:Nat),(∀ x∈xs,∀ n:Nat,∃ e1,g (.tup [.int (n:Int),D x]) env=some e1/\t e1=some (p x)/\f e1=some (.int (n:Int)))->V8 g t f env (R8 k (xs.map D))=some (Zd (Vu p k xs))
 | [],_,_=>rfl
 | x::xs,k,h=>by
  obtain ⟨e1,a1,a2,a3⟩:=h x mem_cons_self k;have ih:=Kp D p xs (k+1) fun z hz=>h z (mem_cons_of_mem _ hz)
  rw [map_cons,R8,V8,a1];dsimp only [Option.bind];rw [a2];dsimp only;rw [Vu];cases hp:p x with
  | true=>rw [if_pos rfl,a3];dsimp only;rw [ih,if_pos rfl];rfl
  | false=>rw [if_neg (by decide),ih,if_neg (by decide)]
theorem Qm {α:Type} (p:α->Bool):∀ (xs:List α) (k j:Nat),j∈Vu p k xs↔∃ i x,j=k+i/\xs[i]?=some x/\p x=true
 | [],k,j=>by simp [Vu]
 | x::xs,k,j=>by
  rw [Vu];have ih:=Qm p xs (k+1) j;have key:(j∈Vu p (k+1) xs)↔∃ i y,j=k+(i+1)/\(x::xs)[i+1]?=some y/\p y=true:=by
   rw [ih];constructor
   ·rintro ⟨i,y,h1,h2,h3⟩;exact ⟨i,y,by lia,by simpa using h2,h3⟩
   ·rintro ⟨i,y,h1,h2,h3⟩;exact ⟨i,y,by lia,by simpa using h2,h3⟩
  constructor
  ·intro h
   split at h
   ·rename_i hp
    rcases mem_cons.mp h with e | e
    ·exact ⟨0,x,by lia,rfl,hp⟩
    ·obtain ⟨i,y,h1,h2,h3⟩:=key.mp e;exact ⟨i+1,y,h1,h2,h3⟩
   ·obtain ⟨i,y,h1,h2,h3⟩:=key.mp h;exact ⟨i+1,y,h1,h2,h3⟩
  ·rintro ⟨i,y,h1,h2,h3⟩
   cases i with
   | zero =>
    have:x=y:=by simpa using h2
    subst this;rw [if_pos h3];exact mem_cons.mpr (.inl (by lia))
   | succ i =>
    have:=key.mpr ⟨i,y,h1,h2,h3⟩;split
    ·exact mem_cons_of_mem _ this
    ·exact this
def Xk (w:Nat) (up:Bool) (s:St3):Bool:=(s.w==w)&&(s.up==up)
theorem A8 (G:G3) (w:Nat) (up:Bool):Mw [G.d,.int (w:Int),.bl up]=.ok (.lst (Zd (Vu (Xk w up) 0 G.steps))):=by
 refine U4 (Yq (n:=3) (p:=3) (ds:=[G.d,.int (w:Int),.bl up]) (g:=Tp) (R:=fun d=>d=.lst (Zd (Vu (Xk w up) 0 G.steps))) rfl ?_);show Go (Tp [.fz G.d,.fz (.int (w:Int)),.fz (.bl up)]) _ _;unfold Tp;exact Y9 (Ww (Wp (xs:=R8 0 (G.steps.map St3.d)) (env':=[.un,.un,.fz (.int (w:Int)),.fz (.bl up)]) (Z8g (Z5 rfl rfl rfl)) rfl (Kp St3.d (Xk w up) G.steps 0 fun s _ n=>⟨[.fz (.int (n:Int)),.fz s.d,.fz (.int (w:Int)),.fz (.bl up)],rfl,U7 (Yj (Z5 (Z5 rfl rfl rfl) rfl (eqN s.w w))) fun _=>Yj (Z5 (Z5 rfl rfl rfl) rfl (Z6r s.up up)),rfl⟩))) rfl
def Zz (G:G3) (m w:Nat) (up:Bool):Bool:=G.steps.any fun s=>Xk w up s&&W3 s m
theorem E1 (G:G3) (hG:Gb 64 G) (m:Nat) (cd:Dat) (w:Nat) (up:Bool):Q9 [G.d,.tup [.int (m:Int),cd],.int (w:Int),.bl up]=.ok (.bl (Zz G m w up)):=by
 refine U4 (Yq (n:=4) (p:=4) (ds:=[G.d,.tup [.int (m:Int),cd],.int (w:Int),.bl up]) (g:=Uo) (R:=fun d=>d=.bl (Zz G m w up)) rfl ?_);show Go (Uo [.fz G.d,.fz (.tup [.int (m:Int),cd]),.fz (.int (w:Int)),.fz (.bl up)]) _ _;unfold Uo;let q:Nat->Bool:=fun k=>match G.steps[k]? with | some s=>W3 s m | none=>false
 have hc:V8 (Yh 0) Jo (Yf Hm (Z2 (dV 1) (Z2 (dV 2) (Z2 (dV 0) Zc)))) [.un,.fz G.d,.fz (.tup [.int (m:Int),cd])] (Zd (Vu (Xk w up) 0 G.steps))=some (((Vu (Xk w up) 0 G.steps).map q).map Dat.bl):=by
  rw [Up,Sn (fun p:Nat=>Dat.int (p:Int)) (fun p:Nat=>.bl (q p)) _ fun p hp=>?_,map_map]
  ·rfl
  ·obtain ⟨i,s,e,hs,_⟩:=(Qm _ _ _ _).mp hp
   rw [zero_add] at e;subst e;refine ⟨[.fz (.int (p:Int)),.fz G.d,.fz (.tup [.int (m:Int),cd])],rfl,rfl,Zi (xs:=[G.d,.tup [.int (m:Int),cd],.int (p:Int)]) rfl ?_⟩;rw [Z2z G hG m cd p s hs];show _=Rs.ok (.bl (match G.steps[p]? with | some s=>W3 s m | none=>false));rw [hs]
 refine Y9 (Yr (Z4 (Ww (Wp (xs:=Zd (Vu (Xk w up) 0 G.steps)) (env':=[.un,.fz G.d,.fz (.tup [.int (m:Int),cd])]) (by unfold Tv;rw [Zi (xs:=[G.d,.int (w:Int),.bl up]) rfl (A8 G w up)]) rfl hc)) rfl) (Z0g _)) ?_;congr 1
 unfold Zz;rw [Bool.eq_iff_iff,any_map,any_eq_true,any_eq_true];constructor
 ·rintro ⟨j,hj,hq⟩
  obtain ⟨i,s,e,hs,hp⟩:=(Qm _ _ _ _).mp hj;rw [zero_add] at e;subst e;refine ⟨s,mem_of_getElem? hs,?_⟩;have:W3 s m=true:=by
   have hq':q j=true:=hq;have e2:q j=W3 s m:=by show (match G.steps[j]? with | some s=>W3 s m | none=>false)=_;rw [hs]
   rw [← e2];exact hq'
  rw [hp,this];rfl
 ·rintro ⟨s,hs,hq⟩
  obtain ⟨i,hi,e⟩:=getElem_of_mem hs;have hg:G.steps[i]?=some s:=by rw [getElem?_eq_getElem hi,e]
  rw [Bool.and_eq_true] at hq;refine ⟨i,(Qm _ _ _ _).mpr ⟨i,s,by lia,hg,hq.1⟩,?_⟩;show q i=true;have e2:q i=W3 s m:=by show (match G.steps[i]? with | some s=>W3 s m | none=>false)=_;rw [hg]
  rw [e2];exact hq.2
def R6 (u d:Bool):Int:=if u then 1 else if d then -1 else 0
theorem L7 (G:G3) (hG:Gb 64 G) (m:Nat) (cd:Dat) (w:Nat):Mz [G.d,.tup [.int (m:Int),cd],.int (w:Int)]=.ok (.int (R6 (Zz G m w true) (Zz G m w false))):=by
 refine U4 (Yq (n:=3) (p:=3) (ds:=[G.d,.tup [.int (m:Int),cd],.int (w:Int)]) (g:=Sb) (R:=fun d=>d=.int (R6 (Zz G m w true) (Zz G m w false))) rfl ?_);show Go (Sb [.fz G.d,.fz (.tup [.int (m:Int),cd]),.fz (.int (w:Int))]) _ _;unfold Sb;refine Z8 (Qb (Md (Zi (xs:=[G.d,.tup [.int (m:Int),cd],.int (w:Int),.bl true]) rfl (E1 G hG m cd w true))) (fun hb=>Y9 rfl ?_) (fun hb=>W8 ?_))
 ·rw [hb];rfl
 refine Z8 (Qb (Md (Zi (xs:=[G.d,.tup [.int (m:Int),cd],.int (w:Int),.bl false]) rfl (E1 G hG m cd w false))) (fun hb2=>Y9 rfl ?_) (fun hb2=>W8 (Y9 rfl ?_)))
 ·rw [hb,hb2];rfl
 ·rw [hb,hb2];rfl
theorem Z3j {F:List Dat->Rs} {fs:Ev->Option (List Dat)} {env:Ev} {ds:List Dat} {d:Dat} (e:fs env=some ds) (h:F ds=.ok d):Re F fs env=.next env:=by unfold Re;rw [e];dsimp only;rw [h]
theorem Dh {G:G3} {z:Str} (h:K4 N18_ (fun c=>decide (c="CalledOff")) (fun _=>true) (Re Q4 (Z2 (dV 0) (Z2 (dC (.int 400)) Zc))) (Zu 1 (dC (.str "off"))) (Zu 1 (dC (.str "other"))) [.fz G.d,.fz (.str "")]=.next [.fz G.d,.fz (.str z)]):Ym [G.d]=.ok (.str z):=by
 show (match Vn [.fz G.d,.un] with | .ret d=>Rs.ok d | .next _=>.ok .non | .exc _ c fs=>.exc c fs | _=>.no)=_;unfold Vn;have e1:Zu 1 (dC (.str "")) [.fz G.d,.un]=.next [.fz G.d,.fz (.str "")]:=rfl;unfold Ze;rw [e1];dsimp only;rw [h];rfl
theorem B3 {G:G3} {d:Dat} (h:Q4 [G.d,.int 400]=.ok d):Ym [G.d]=.ok (.str ""):=Dh (by
 unfold K4;rw [Z3j (ds:=[G.d,.int 400]) rfl h])
theorem Ag {G:G3} {fl:List (Str×XD)} (h:Q4 [G.d,.int 400]=.exc "CalledOff" fl):Ym [G.d]=.ok (.str "off"):=Dh (by
 unfold K4;rw [Ob (ds:=[G.d,.int 400]) rfl h];dsimp only;rw [if_pos (by decide),if_pos (by decide)];rfl)
theorem F5 {G:G3} {c:Str} {fl:List (Str×XD)} (h:Q4 [G.d,.int 400]=.exc c fl) (hc:c="TooMany" \/ Z3u c):Ym [G.d]=.ok (.str "other"):=Dh (by
 unfold K4;rw [Ob (ds:=[G.d,.int 400]) rfl h];dsimp only;rcases hc with rfl | rfl | rfl<;>(rw [if_pos (by decide),if_neg (by decide),if_pos rfl];rfl))
theorem Z11 {G:G3} {most:Nat} {c:Str} {fl:List (Str×XD)} (e:Jb [G.d,.int (most:Int)]=.exc c fl):Q4 [G.d,.int (most:Int)]=.exc c fl:=by
 show (match Jt [.fz G.d,.fz (.int (most:Int)),.un,.un,.un,.un,.un,.un,.un] with | .ret d=>Rs.ok d | .next _=>.ok .non | .exc _ c fs=>.exc c fs | _=>.no)=_;unfold Jt Ze;rw [Fg (ds:=[G.d,.int (most:Int)]) rfl e]
structure Gd (G:G3) (S:Nat×Nat->Prop):Prop where
 ok:∀ p,S p->∀ s∈G.steps,W3 s p.1=true->Fine s p
 cl:∀ p,S p->∀ s∈G.steps,W3 s p.1=true->S (Yn s p)
 nr:∀ p,S p->∀ (b a:Nat) (sb sa:St3),b≠a->G.steps[b]?=some sb->G.steps[a]?=some sa->W3 sb p.1=true->W3 sa p.1=true->(Vm G sb||Vm G sa)=true->rob sb sa=false
theorem Cu {sb sa:St3} {p:Nat×Nat} (hca:W3 sa p.1=true) (hr:rob sb sa=false):W3 sa (Yn sb p).1=true:=by
 refine Wf.mpr fun q hq=>?_
 rw [M3];have hm:=Wf.mp hca q hq;rw [hm];by_cases h1:q∈sb.takes
 ·by_cases h2:q∈sb.fills
  ·rw [decide_eq_true h2];simp
  ·have:rob sb sa=true:=Pc.mpr ⟨q,h1,h2,hq⟩
   rw [hr] at this;cases this
 ·rw [decide_eq_false h1];simp
theorem Da {G:G3} {m w:Nat} {u:Bool}:Zz G m w u=true↔∃ s∈G.steps,s.w=w/\s.up=u/\W3 s m=true:=by
 unfold Zz Xk;rw [any_eq_true];constructor
 ·rintro ⟨s,h1,h2⟩
  simp only [Bool.and_eq_true,beq_iff_eq] at h2;exact ⟨s,h1,h2.1.1,h2.1.2,h2.2⟩
 ·rintro ⟨s,h1,h2,h3,h4⟩
  refine ⟨s,h1,?_⟩;simp only [Bool.and_eq_true,beq_iff_eq];exact ⟨⟨h2,h3⟩,h4⟩
section
variable {G:G3} {S:Nat×Nat->Prop}
theorem Gd.not (h:Gd G S) {p:Nat×Nat} (hp:S p) {w:Nat} {u:Bool} (hu:p.2.testBit w=u):Zz G p.1 w u=false:=by
 cases e:Zz G p.1 w u with
 | false=>rfl
 | true =>
  obtain ⟨s,h1,h2,h3,h4⟩:=Da.mp e;have:=(h.ok p hp s h1 h4).lev;rw [h2,h3] at this;exact absurd hu this
theorem Gd.want (h:Gd G S) {p:Nat×Nat} (hp:S p) {s:St3} (hs:s∈G.steps) (hc:W3 s p.1=true):R6 (Zz G p.1 s.w true) (Zz G p.1 s.w false)=if s.up then 1 else -1:=by
 have hl:=(h.ok p hp s hs hc).lev;have h1:Zz G p.1 s.w s.up=true:=Da.mpr ⟨s,hs,rfl,rfl,hc⟩;have h2:Zz G p.1 s.w (!s.up)=false:=h.not hp (by revert hl;cases p.2.testBit s.w<;>cases s.up<;>simp);cases hu:s.up with
 | true=>rw [hu] at h1 h2;rw [h1];rfl
 | false=>rw [hu] at h1 h2;rw [h1,show Zz G p.1 s.w true=false from h2];rfl
theorem Nm {m w:Nat} (h:∀ s∈G.steps,s.w=w->W3 s m=false):R6 (Zz G m w true) (Zz G m w false)=0:=by
 have key:∀ u,Zz G m w u=false:=fun u=>by
  cases e:Zz G m w u with
  | false=>rfl
  | true =>
   obtain ⟨s,h1,h2,_,h4⟩:=Da.mp e;rw [h s h1 h2] at h4;cases h4
 rw [key,key];rfl
theorem Z00 (s:St3) (p:Nat×Nat):(Yn s p).2.testBit s.w=!p.2.testBit s.w:=by rw [Z5s,decide_eq_true rfl];cases p.2.testBit s.w<;>rfl
theorem Gd.one (h:Gd G S) {p:Nat×Nat} (hp:S p) {a b:Nat} {sa sb:St3} (ha:G.steps[a]?=some sa) (hb:G.steps[b]?=some sb) (hca:W3 sa p.1=true) (hcb:W3 sb p.1=true) (hw:sa.w=sb.w) (hk:Vm G sb=true):a=b:=by
 apply Classical.byContradiction;intro hne;have hr:=h.nr p hp b a sb sa (Ne.symm hne) hb ha hcb hca (by rw [hk];rfl);have hma:=mem_of_getElem? ha;have hmb:=mem_of_getElem? hb;have hc2:=Cu hca hr;have hf:=(h.ok _ (h.cl p hp sb hmb hcb) sa hma hc2).lev;rw [hw,Z00] at hf;have h1:=(h.ok p hp sa hma hca).lev;rw [hw] at h1;revert hf h1;cases p.2.testBit sb.w<;>cases sa.up<;>simp
theorem K2 {k:Nat} {s:St3} (h:G.steps[k]?=some s):W7 (.tup (G.steps.map St3.d)) (.int (k:Int))=some s.d:=Sa (by rw [getElem?_map,h];rfl)
theorem A6 {f1 f2:Ev->Option Dat} {env:Ev} {s:St3} {m:Nat} (h1:f1 env=some s.d) (h2:f2 env=some (.int (m:Int))):Yf Tw (Z2 f1 (Z2 f2 Zc)) env=some (.bl (W3 s m)):=Zi (xs:=[s.d,.int (m:Int)]) (Z4 h1 (Z4 h2 rfl)) (B7 s m)
theorem neB (a b:Bool):Ec (.bl a) (.bl b)=some (.bl (a != b)):=by cases a<;>cases b<;>rfl
theorem Zdg (ks:List Nat):Ec (.lst (Zd ks)) (.lst [])=some (.bl (!ks.isEmpty)):=by
 unfold Ec;rw [(Nv ks).1];cases ks<;>rfl
theorem Z8t (ks:List Nat):Q8 (.lst (Zd ks)) (.lst [])=some (.bl ks.isEmpty):=by
 unfold Q8;rw [(Nv ks).1];cases ks<;>rfl
theorem Zd1 (i:Int):Ec (.int i) (.int 0)=some (.bl (!(i==0))):=by
 unfold Ec Sg;rfl
def Hz (G:G3) (m w:Nat):List Nat:=(Vr G m).filter fun k=>match G.steps[k]? with | some s=>s.w==w | none=>false
theorem Ix {m w k:Nat}:k∈Hz G m w↔∃ s,G.steps[k]?=some s/\W3 s m=true/\s.w=w:=by
 unfold Hz Vr;rw [mem_filter,mem_filter,mem_range];constructor
 ·rintro ⟨⟨h1,h2⟩,h3⟩
  obtain ⟨s,hs,hc⟩:=S0 h2;rw [hs] at h3;exact ⟨s,hs,hc,by simpa using h3⟩
 ·rintro ⟨s,hs,hc,hw⟩
  refine ⟨⟨(List.getElem?_eq_some_iff.mp hs).1,?_⟩,?_⟩
  ·unfold Do;rw [hs];exact hc
  ·rw [hs];simpa using hw
theorem Z22 {l:List Nat} (h:l.Nodup) (hl:1<l.length):∃ a∈l,∃ b∈l,a≠b:=by
 match l,h,hl with
 | a::b::r,h,_=>exact ⟨a,by simp,b,by simp,fun e=>by subst e;simp at h⟩
theorem Z7s (h:Gd G S) (hG:Gb 64 G) {p:Nat×Nat} (hp:S p):Jl [G.d,Zo p]=.ok (.lst (Zd (Vr G p.1))):=by
 have hs2:=hG.s2;have hw2:=hG.w2;refine U4 (Yq (n:=5) (p:=2) (ds:=[G.d,Zo p]) (g:=Uh) (R:=fun d=>d=.lst (Zd (Vr G p.1))) rfl ?_);show Go (Uh [.fz G.d,.fz (Zo p),.un,.un,.un]) _ _;unfold Uh;have hc:=Uc (g:=Yh 0) (t:=dT (Yf Tw (Z2 (dO W7 (dO W7 (dV 2) (dC (.int 1))) (dV 0)) (Z2 (dO W7 (dV 1) (dC (.int 0))) Zc)))) (f:=dV 0) (env:=[.un,.fz (Zo p),.fz G.d]) (fun k:Nat=>Dat.int (k:Int)) (fun k:Nat=>Dat.int (k:Int)) (Do G p.1) (List.range G.steps.length) fun k hk=>by
  have hkl:=mem_range.mp hk;have e:G.steps[k]?=some G.steps[k]:=getElem?_eq_getElem hkl;refine ⟨[.fz (.int (k:Int)),.fz (Zo p),.fz G.d],rfl,?_,rfl⟩;have:Do G p.1 k=W3 G.steps[k] p.1:=by unfold Do;rw [e]
  rw [this];exact Md (A6 (Z5 (Z5 rfl rfl rfl) rfl (K2 e)) (Z5 rfl rfl rfl))
 rw [← Em] at hc;refine Z8 (Zf (d:=.lst (Zd (Vr G p.1))) (Ww (Wp (xs:=rng 0 G.steps.length) (W1 (Z4 (Yr (Z4 (x:=.tup (G.steps.map St3.d)) (Z5 rfl rfl rfl) rfl) (by show some (Dat.int ((G.steps.map St3.d).length:Int))=_;rw [length_map])) rfl) (by lia)) rfl (by rw [Up];exact hc))) ?_);refine Z8 (Ve (ds:=rng 0 G.wires.length) (fun _ e=>∃ v3 v4:Slt,e=[.fz G.d,.fz (Zo p),.fz (.lst (Zd (Vr G p.1))),v3,v4]) (W1 (Z4 (Yr (Z4 (x:=.tup (G.wires.map Qn)) (Z5 rfl rfl rfl) rfl) (by show some (Dat.int ((G.wires.map Qn).length:Int))=_;rw [length_map])) rfl) (by lia)) ⟨.un,.un,rfl⟩ ?_ ?_)
 ·rintro w d e hi ⟨v3,v4,rfl⟩
  obtain ⟨hw,rfl⟩:=Uy hi;rw [Int.zero_add];refine ⟨_,rfl,?_⟩;have ew:G.wires[w]?=some G.wires[w]:=getElem?_eq_getElem hw;have ho:=Uc (g:=Yh 0) (t:=dB (dO Q8 (dO W7 (dO W7 (dO W7 (dV 2) (dC (.int 1))) (dV 0)) (dC (.int 0))) (dV 1))) (f:=dV 0) (env:=[.un,.fz (.int (w:Int)),.fz G.d]) (fun k:Nat=>Dat.int (k:Int)) (fun k:Nat=>Dat.int (k:Int)) (fun k=>match G.steps[k]? with | some s=>s.w==w | none=>false) (Vr G p.1) fun k hk=>by
   obtain ⟨s,hs,_⟩:=S0 (L0 hk);refine ⟨[.fz (.int (k:Int)),.fz (.int (w:Int)),.fz G.d],rfl,?_,rfl⟩;rw [hs];exact Yj (Z5 (Z5 (Z5 (Z5 rfl rfl rfl) rfl (K2 hs)) rfl rfl) rfl (eqN s.w w))
  rw [← Up,← Up] at ho;refine Z8 (Zf (d:=.lst (Zd (Hz G p.1 w))) (Ww (Wp (xs:=Zd (Vr G p.1)) rfl rfl ho)) ?_);have hnd:(Hz G p.1 w).Nodup:=(List.nodup_range.sublist (filter_sublist)).sublist filter_sublist;have c1:(G.wires[w].2&&decide ((1:Int)<((Hz G p.1 w).length:Int)))=false:=by
   apply Classical.byContradiction;intro hh;have hh:(G.wires[w].2&&decide ((1:Int)<((Hz G p.1 w).length:Int)))=true:=by simpa using hh
   obtain ⟨k1,k2⟩:=Bool.and_eq_true_iff.mp hh;have k2:=of_decide_eq_true k2;obtain ⟨a,ha,b,hb,hne⟩:=Z22 hnd (by lia);obtain ⟨sa,ea,ca,wa⟩:=Ix.mp ha;obtain ⟨sb,eb,cb,wb⟩:=Ix.mp hb;refine hne (h.one hp ea eb ca cb (by rw [wa,wb]) ?_);rw [Dt (by rw [wb];exact ew)];exact k1
  have c2:((!(R6 (Zz G p.1 w true) (Zz G p.1 w false)==0)) != !(Hz G p.1 w).isEmpty)=false:=by
   cases eo:Hz G p.1 w with
   | nil =>
    rw [Nm fun s hs e=>?_]
    ·rfl
    cases ec:W3 s p.1 with
    | false=>rfl
    | true =>
     obtain ⟨k,hk⟩:=getElem?_of_mem hs;have:=Ix.mpr ⟨s,hk,ec,e⟩;rw [eo] at this;cases this
   | cons k l =>
    obtain ⟨s,es,cs,wsx⟩:=Ix.mp (show k∈Hz G p.1 w by rw [eo];exact mem_cons_self);have:=h.want hp (mem_of_getElem? es) cs;rw [wsx] at this;rw [this];cases s.up<;>rfl
  have hl:Ti [.lst (Zd (Hz G p.1 w))]=some (.int ((Hz G p.1 w).length:Int)):=by
   show some (Dat.int ((Zd (Hz G p.1 w)).length:Int))=_;unfold Zd;rw [length_map,length_map]
  refine R0 ((Bm (U7 (Yj (Z5 (Z5 (Z5 (Z5 rfl rfl rfl) rfl (Il ew)) rfl rfl) rfl (Z0n _))) fun _=>Yj (Z5 (Yr (Z4 rfl rfl) hl) rfl rfl)) fun _=>Yj (Z5 (Z5 (Zi (xs:=[G.d,.tup [.int (p.1:Int),.int (p.2:Int)],.int (w:Int)]) rfl (L7 G hG p.1 _ w)) rfl (Zd1 _)) (Z5 rfl rfl (Zdg _)) (neB _ _))).trans ?_) (W8 ⟨_,_,rfl⟩);rw [c1,c2];rfl
 ·rintro e ⟨v3,v4,rfl⟩
  exact Y9 rfl rfl
def Cz (b:Bool):Dat:=.str (if b then "made" else "given")
theorem Z6h (a b:Bool):inF (.str "made") (.tup [Cz a,Cz b])=some (.bl (a||b)):=by
 have:=Z68 "made" [(if a then "made" else "given"),(if b then "made" else "given")];refine this.trans ?_;cases a<;>cases b<;>rfl
theorem eqI (a b:Int):Q8 (.int a) (.int b)=some (.bl (a==b)):=by unfold Q8 Sg;rfl
theorem neI (a b:Int):Ec (.int a) (.int b)=some (.bl (!(a==b))):=by unfold Ec Sg;rfl
theorem Z6x (h:Gd G S) (hG:Gb 64 G) {p:Nat×Nat} (hp:S p) {b:Nat} {sb:St3} (hb:G.steps[b]?=some sb) (hcb:W3 sb p.1=true):Jn [G.d,Zo p,Zo (Yn sb p),.int (sb.w:Int)]=.ok (.bl true):=by
 have hw2:=hG.w2;have hmb:=mem_of_getElem? hb;have hp':=h.cl p hp sb hmb hcb;have hbw:=(hG.st sb hmb).w;refine U4 (Yq (n:=7) (p:=4) (ds:=[G.d,Zo p,Zo (Yn sb p),.int (sb.w:Int)]) (g:=Ui) (R:=fun d=>d=.bl true) rfl ?_);show Go (Ui [.fz G.d,.fz (Zo p),.fz (Zo (Yn sb p)),.fz (.int (sb.w:Int)),.un,.un,.un]) _ _;unfold Ui;refine Z8 (Ve (ds:=rng 0 G.wires.length) (fun _ e=>∃ v4 v5 v6:Slt,e=[.fz G.d,.fz (Zo p),.fz (Zo (Yn sb p)),.fz (.int (sb.w:Int)),v4,v5,v6]) (W1 (Z4 (Yr (Z4 (x:=.tup (G.wires.map Qn)) (Z5 rfl rfl rfl) rfl) (by show some (Dat.int ((G.wires.map Qn).length:Int))=_;rw [length_map])) rfl) (by lia)) ⟨.un,.un,.un,rfl⟩ ?_ ?_)
 ·rintro w d e hi ⟨v4,v5,v6,rfl⟩
  obtain ⟨hw,rfl⟩:=Uy hi;rw [Int.zero_add];refine ⟨_,rfl,?_⟩;have ew:G.wires[w]?=some G.wires[w]:=getElem?_eq_getElem hw;have eb:G.wires[sb.w]?=some G.wires[sb.w]:=getElem?_eq_getElem hbw;refine Z8 (Zf (Zi (xs:=[G.d,.tup [.int (p.1:Int),.int (p.2:Int)],.int (w:Int)]) rfl (L7 G hG p.1 _ w)) ?_);refine Z8 (Zf (Zi (xs:=[G.d,.tup [.int ((Yn sb p).1:Int),.int ((Yn sb p).2:Int)],.int (w:Int)]) rfl (L7 G hG (Yn sb p).1 _ w)) ?_);have c1:((w==sb.w)&&(R6 (Zz G (Yn sb p).1 w true) (Zz G (Yn sb p).1 w false)==R6 (Zz G p.1 w true) (Zz G p.1 w false)))=false:=by
   by_cases e:w=sb.w
   ·subst e
    rw [h.want hp hmb hcb];have hl:=(h.ok p hp sb hmb hcb).lev;have h2:Zz G (Yn sb p).1 sb.w sb.up=false:=h.not hp' (by rw [Z00];revert hl;cases p.2.testBit sb.w<;>cases sb.up<;>simp);cases hu:sb.up with
    | true =>
     rw [hu] at h2;rw [h2];cases Zz G (Yn sb p).1 sb.w false<;>simp [R6]
    | false =>
     rw [hu] at h2;rw [h2];cases Zz G (Yn sb p).1 sb.w true<;>simp [R6]
   ·rw [show (w==sb.w)=false from beq_eq_false_iff_ne.mpr e];rfl
  have c2:(!(w==sb.w)&&((G.wires[w].2||G.wires[sb.w].2)&&(!(R6 (Zz G p.1 w true) (Zz G p.1 w false)==0)&&!(R6 (Zz G (Yn sb p).1 w true) (Zz G (Yn sb p).1 w false)==R6 (Zz G p.1 w true) (Zz G p.1 w false)))))=false:=by
   by_cases e:w=sb.w
   ·rw [show (w==sb.w)=true from beq_iff_eq.mpr e];rfl
   cases hk:(G.wires[w].2||G.wires[sb.w].2) with
   | false=>simp
   | true =>
    by_cases hz:∃ s∈G.steps,s.w=w/\W3 s p.1=true
    ·obtain ⟨sa,hma,wa,hca⟩:=hz
     obtain ⟨a,ha⟩:=getElem?_of_mem hma;have hne:b≠a:=fun z=>by
      subst z;rw [hb] at ha;cases ha;exact e wa.symm
     have hr:=h.nr p hp b a sb sa hne hb ha hcb hca (by rw [Dt eb,Dt (by rw [wa];exact ew),Bool.or_comm];exact hk);have hc2:=Cu hca hr;have w1:=h.want hp hma hca;have w2:=h.want hp' hma hc2;rw [wa] at w1 w2;rw [w1,w2];simp
    ·rw [Nm (m:=p.1) fun s hs e=>?_]
     ·simp
     cases ec:W3 s p.1 with
     | false=>rfl
     | true=>exact absurd ⟨s,hs,e,ec⟩ hz
  refine Z8 (R0 ((U7 (Yj (Z5 rfl rfl (eqN w sb.w))) fun _=>Yj (Z5 rfl rfl (eqI _ _))).trans (by rw [c1])) (W8 ?_));refine R0 ((U7 (Yj (Z5 rfl rfl (neN w sb.w))) fun _=>U7 (Yj (Z5 rfl (Yb (xs:=[Cz G.wires[w].2,Cz G.wires[sb.w].2]) (Z4 (Z5 (Z5 (Z5 rfl rfl rfl) rfl (Il ew)) rfl rfl) (Z4 (Z5 (Z5 (Z5 rfl rfl rfl) rfl (Il eb)) rfl rfl) rfl)) (by simp)) (Z6h _ _))) fun _=>U7 (Yj (Z5 rfl rfl (Zd1 _))) fun _=>Yj (Z5 rfl rfl (neI _ _))).trans (by rw [c2])) (W8 ⟨_,_,_,rfl⟩)
 ·rintro e ⟨v4,v5,v6,rfl⟩
  exact Y9 rfl rfl
end
structure CalmL (G:G3) (I:Nat×Nat->Prop):Prop where
 calm:Calm G I
 live:∀ p,I p->∃ s∈G.steps,W3 s p.1=true
theorem Le (f:Nat->Nat):∀ n,0<n->∃ d,d<n/\∀ e,e<n->f d<=f e
 | 0,h=>by lia
 | 1,_=>⟨0,by lia,fun e he=>by rw [show e=0 by lia];exact le_refl _⟩
 | n+2,_=>by
  obtain ⟨d,h1,h2⟩:=Le f (n+1) (by lia);by_cases h:f d<=f (n+1)
  ·refine ⟨d,by lia,fun e he=>?_⟩
   rcases lt_or_ge e (n+1) with z | z
   ·exact h2 e z
   ·rw [show e=n+1 by lia];exact h
  ·refine ⟨n+1,by lia,fun e he=>?_⟩
   rcases lt_or_ge e (n+1) with z | z
   ·have:=h2 e z;lia
   ·rw [show e=n+1 by lia];exact le_refl _
def RC (s0:Nat) (rs:List (Nat×Nat)) (p:Nat×Nat):Prop:=∃ c:Nat->Nat,∀ (t:Nat) (q:Nat×Nat),rs[t]?=some q->c q.2<=c q.1/\c q.1<=c q.2+1/\(p.1.testBit (s0+2*t)=true↔c q.1=c q.2+1)/\(p.1.testBit (s0+2*t+1)=true↔c q.1=c q.2)
theorem Z28 {G:G3} {n s0:Nat} {ps:List Nat} {rs:List (Nat×Nat)} (h:RG G n s0 (U5 ps) (U6 ps) rs) (hn1:1<=n) (hn:n<=4) (hl:Zbt G n s0 ps rs):CalmL G fun p=>(∃ k,k<2^(2*n)/\RI G n s0 (U5 ps) (U6 ps) rs k p)/\RC s0 rs p:=by
 have hc:=Z27 h hn;refine ⟨⟨⟨hc.ini,fun _=>0,fun t q e=>⟨le_refl _,le_succ _,?_,?_⟩⟩,fun p s hi=>hc.lev p s hi.1,fun p s hi=>hc.room p s hi.1,fun p s hi hs hcan=>⟨hc.nxt p s hi.1 hs hcan,?_⟩,fun l hnd hI=>hc.few l hnd fun p hp=>(hI p hp).1⟩,fun p hi=>?_⟩
 ·refine ⟨fun hh=>?_,fun hh=>by simp at hh⟩
  obtain ⟨t',_,e'⟩:=(h.mks _).mp hh;lia
 ·exact ⟨fun _=>rfl,fun _=>(h.mks _).mpr ⟨t,(List.getElem?_eq_some_iff.mp e).1,rfl⟩⟩
 ·obtain ⟨c,hcq⟩:=hi.2
  obtain ⟨d,hd⟩:=h.st s hs;have hcan:=Wf.mp hcan;refine ⟨fun x=>if x=d then c x+1 else c x,fun t q e=>?_⟩;obtain ⟨a1,a2,a3,a4⟩:=hcq t q e;have hlt:=(hl.1 q (mem_of_getElem? e)).1;have ta:=hd.tk.a e;have tb:=hd.tk.b e;have fa:=hd.fl.a e;have fb:=hd.fl.b e;have m1:=M3 s p (s0+2*t);have m2:=M3 s p (s0+2*t+1);show (if q.2=d then c q.2+1 else c q.2)<=(if q.1=d then c q.1+1 else c q.1)/\(if q.1=d then c q.1+1 else c q.1)<=(if q.2=d then c q.2+1 else c q.2)+1/\((Yn s p).1.testBit (s0+2*t)=true↔(if q.1=d then c q.1+1 else c q.1)=(if q.2=d then c q.2+1 else c q.2)+1)/\((Yn s p).1.testBit (s0+2*t+1)=true↔(if q.1=d then c q.1+1 else c q.1)=(if q.2=d then c q.2+1 else c q.2));by_cases e1:q.1=d
  ·have e2:q.2≠d:=by lia
   have hb:=a4.mp (hcan _ (tb.mpr e1));rw [decide_eq_true (fa.mpr e1),Bool.or_true] at m1;rw [decide_eq_true (tb.mpr e1),decide_eq_false (fun z=>e2 (fb.mp z))] at m2;rw [if_pos e1,if_neg e2,m1,m2];refine ⟨by lia,by lia,⟨fun _=>by lia,fun _=>rfl⟩,⟨fun z=>by simp at z,fun z=>by lia⟩⟩
  ·by_cases e2:q.2=d
   ·have hb:=a3.mp (hcan _ (ta.mpr e2))
    rw [decide_eq_true (ta.mpr e2),decide_eq_false (fun z=>e1 (fa.mp z))] at m1;rw [decide_eq_true (fb.mpr e2),Bool.or_true] at m2;rw [if_neg e1,if_pos e2,m1,m2];refine ⟨by lia,by lia,⟨fun z=>by simp at z,fun z=>by lia⟩,⟨fun _=>by lia,fun _=>rfl⟩⟩
   ·rw [decide_eq_false (fun z=>e2 (ta.mp z)),decide_eq_false (fun z=>e1 (fa.mp z))] at m1
    rw [decide_eq_false (fun z=>e1 (tb.mp z)),decide_eq_false (fun z=>e2 (fb.mp z))] at m2;rw [if_neg e1,if_neg e2,m1,m2];refine ⟨a1,a2,?_,?_⟩
    ·simpa using a3
    ·simpa using a4
 ·obtain ⟨c,hcq⟩:=hi.2
  obtain ⟨d,hd1,hd2⟩:=Le (fun x=>c x*(2*n)+x) (2*n) (by lia);obtain ⟨s,hs,hd⟩:=hl.2 d hd1;refine ⟨s,hs,Wf.mpr fun x hx=>?_⟩;obtain ⟨t,q,e,hq⟩:=(hd.tk x).mp hx;obtain ⟨a1,a2,a3,a4⟩:=hcq t q e;obtain ⟨b1,b2⟩:=hl.1 q (mem_of_getElem? e);rcases hq with ⟨rfl,z⟩ | ⟨rfl,z⟩
  ·have z:q.2=d:=z
   have:=hd2 q.1 (by lia);refine a3.mpr ?_;rcases lt_or_ge (c q.2) (c q.1) with y | y
   ·lia
   ·have e3:c q.1=c d:=by rw [← z];lia
    have:c d*(2*n)+d<=c q.1*(2*n)+q.1:=this;rw [e3] at this;lia
  ·have z:q.1=d:=z
   have:=hd2 q.2 b2;refine a4.mpr ?_;rcases lt_or_ge (c q.2) (c q.1) with y | y
   ·exfalso
    have:c d*(2*n)+d<=c q.2*(2*n)+q.2:=this;rw [← z] at this;have h3:(c q.2+1)*(2*n)<=c q.1*(2*n):=Nat.mul_le_mul_right _ y;rw [Nat.succ_mul] at h3;lia
   ·lia
theorem Z4i {G:G3} {b:Nat} {L:Nat->Nat} (h:OneT G b L) (hl:Zbh G b):CalmL G fun p=>(∃ k,k<64/\p=(2^k,L k))/\∃ s∈G.steps,W3 s p.1=true:=by
 have hc:=Z35 h;have can1:∀ (s:St3) (x:Nat),s.takes=[x]->W3 s (2^x)=true:=fun s x e=>Wf.mpr fun q hq=>by
  rw [e] at hq;rw [mem_singleton.mp hq,testBit_two_pow,decide_eq_true rfl]
 refine ⟨⟨⟨hc.ini,?_⟩,fun p s hi=>hc.lev p s hi.1,fun p s hi=>hc.room p s hi.1,fun p s hi hs hcan=>⟨hc.nxt p s hi.1 hs hcan,?_⟩,fun l hnd hI=>hc.few l hnd fun p hp=>(hI p hp).1⟩,fun p hi=>hi.2⟩
 ·obtain ⟨s,hs,e⟩:=hl.1
  exact ⟨s,hs,by show W3 s G.marks=true;rw [h.ma];exact can1 s b e⟩
 ·obtain ⟨k,hk,e⟩:=hc.nxt p s hi.1 hs hcan
  obtain ⟨s',hs',e'⟩:=hl.2 s hs;refine ⟨s',hs',?_⟩;obtain ⟨x,y,_,_,_,h4,h5,_⟩:=h.st s hs;have hy:(Yn s p).1.testBit y=true:=by rw [M3,decide_eq_true (show y∈s.fills by rw [h5];simp)];simp
  refine Wf.mpr fun q hq=>?_
  rw [e',h5] at hq;rw [mem_singleton.mp hq];exact hy
theorem Z1x {G G':G3} {z:Nat} {I:Nat×Nat->Prop} (h:LookI G G' z) (hc:CalmL G I):CalmL G' fun p=>∃ m,m.testBit z=false/\p.1=m ||| 2^z/\I (m,p.2):=by
 refine ⟨Z0w h.look hc.calm,?_⟩;rintro p ⟨m,h1,h2,h3⟩;obtain ⟨s,hs,hcan⟩:=hc.live _ h3;obtain ⟨i,hi⟩:=getElem?_of_mem hs;have hil:=(List.getElem?_eq_some_iff.mp hi).1;obtain ⟨s',hs'⟩:∃ s',G'.steps[i]?=some s':=⟨_,getElem?_eq_getElem (by rw [h.len];exact hil)⟩;obtain ⟨s2,e2,b,_,_,_,_,ht,_⟩:=h.st i s' hs';rw [hi] at e2;cases e2;refine ⟨s',mem_of_getElem? hs',Wf.mpr fun q hq=>?_⟩;rw [h2,testBit_or,testBit_two_pow];rcases (ht q).mp hq with k | ⟨_,k⟩
 ·rw [Wf.mp hcan q k];rfl
 ·rw [k,decide_eq_true rfl,Bool.or_true]
theorem C0 {G:G3} {I:Nat×Nat->Prop} (hc:Calm G I) {rows:List Rw} (t:TT G rows):∀ r∈rows,I r.st:=by
 have key:∀ (n:Nat) (r:Rw),rows[n]?=some r->I r.st:=by
  intro n;induction n using strongRecOn with
  | _ n ih =>
   intro r hr;rcases eq_zero_or_pos n with z | z
   ·subst z
    rw [t.zero] at hr;cases hr;exact hc.ini
   ·obtain ⟨f,k,s,rf,_,a2,a3,a4,a5,a6⟩:=t.src n r hr z
    rw [a6];exact hc.nxt rf.st s (ih f a2 rf a4) (mem_of_getElem? a3) a5
 intro r hr;obtain ⟨n,hn⟩:=getElem?_of_mem hr;exact key n r hn
theorem Z89 {G:G3} {I:Nat×Nat->Prop} (hc:Calm G I) {c:Str} (h:Pu G 400 c):False:=by
 rcases h with ⟨_,rows,t,hl⟩ | ⟨_,rows,r,k,s,t,hr,hs,hcan,hf⟩
 ·have:=hc.few (rows.map Rw.st) t.nd fun p hp=>by obtain ⟨r,hr,rfl⟩:=mem_map.mp hp;exact C0 hc t r hr
  rw [length_map] at this;lia
 ·have hI:=C0 hc t r hr
  have hm:=mem_of_getElem? hs;exact hf ⟨hcan,hc.lev _ s hI hm hcan,hc.room _ s hI hm hcan⟩
theorem Zda {G:G3} {most:Nat} {rows:List Rw} (W:Whole G most rows) (hn:∀ r∈rows,Qf G r.m=none):Gd G fun p=>p∈rows.map Rw.st:=by
 refine ⟨?_,?_,?_⟩
 ·intro p hp s hs hc
  obtain ⟨r,hr,rfl⟩:=mem_map.mp hp;obtain ⟨k,hk⟩:=getElem?_of_mem hs;exact W.ok r hr k s hk hc
 ·intro p hp s hs hc
  obtain ⟨r,hr,rfl⟩:=mem_map.mp hp;obtain ⟨k,hk⟩:=getElem?_of_mem hs;exact W.cl r hr k s hk hc
 ·intro p hp b a sb sa hne hb ha hcb hca hk
  obtain ⟨r,hr,rfl⟩:=mem_map.mp hp;have hno:=List.find?_eq_none.mp (hn r hr);cases hrob:rob sb sa with
  | false=>rfl
  | true =>
   exfalso;have hbl:=(List.getElem?_eq_some_iff.mp hb).1;have hal:=(List.getElem?_eq_some_iff.mp ha).1;have hin:∀ (k:Nat) (s:St3),G.steps[k]?=some s->W3 s r.m=true->k∈Vr G r.m:=fun k s hs hc=>by
    unfold Vr;refine mem_filter.mpr ⟨mem_range.mpr (List.getElem?_eq_some_iff.mp hs).1,?_⟩;unfold Do;rw [hs];exact hc
   refine hno (b,a) (mem_filter.mpr ⟨List.mem_flatMap.mpr ⟨b,mem_range.mpr hbl,mem_map.mpr ⟨a,mem_range.mpr hal,rfl⟩⟩,?_⟩) ?_
   ·unfold Ra
    rw [hb,ha];show (!(b==a)&&((Vm G sb||Vm G sa)&&rob sb sa))=true;rw [show (b==a)=false from beq_eq_false_iff_ne.mpr hne,hk,hrob];rfl
   ·unfold Ad
    rw [decide_eq_true (hin b sb hb hcb),decide_eq_true (hin a sa ha hca)];rfl
theorem F6 {G:G3} (h:Eg G) (m:Nat):Qf G m=none:=by
 unfold Qf;rw [show (Z2s G.steps.length).filter (Ra G)=[] from ?_]
 ·rfl
 rw [List.filter_eq_nil_iff];intro p _ hp;unfold Ra at hp;cases e1:G.steps[p.1]? with
 | none=>rw [e1] at hp;cases hp
 | some si =>
  cases e2:G.steps[p.2]? with
  | none=>rw [e1,e2] at hp;cases hp
  | some sj =>
   rw [e1,e2] at hp;dsimp only at hp;obtain ⟨h1,h2⟩:=Bool.and_eq_true_iff.mp hp;obtain ⟨h3,h4⟩:=Bool.and_eq_true_iff.mp h2;obtain ⟨q,q1,q2,q3⟩:=Pc.mp h4;obtain ⟨k1,k2⟩:=h p.1 p.2 si sj (by simpa using h1) e1 e2 q q1 q2 q3;rw [k1,k2] at h3;cases h3
theorem Zge (a p:Nat) (ha:a<18446744073709551616) (hp:p<=1000):Qz (.int (a:Int)) (.int (p:Int))=some (.int ((a*2^p:Nat):Int)):=by
 unfold Qz Iv;dsimp only;rw [if_pos ⟨by lia,by lia,by lia⟩,Int.toNat_natCast];first | rfl | (congr 2;rw [Int.natCast_mul,Int.natCast_pow];rfl) | congr 2
theorem Zbj (r m:Nat) (h:0<m) (h2:m<18446744073709551616):Z02 (.int (r:Int)) (.int (m:Int))=some (.int ((r / m:Nat):Int)):=by
 unfold Z02 Iv;dsimp only;rw [if_pos ⟨by lia,by lia⟩];rfl
theorem Of (low size b:Nat):∃ l:List Nat,V8 (Yh 0) (dB (dO Q8 (dO T6 (dO M1 (dV 2) (dV 0)) (dC (.int 1))) (dC (.int 1)))) (dO Yi (dV 1) (dV 0)) [.un,.fz (.int (low:Int)),.fz (.int (b:Int))] (rng 0 size)=some (Zd l)/\(∀ p∈l,p<low+size)/\l.Nodup:=by
 have hc:=Uc (g:=Yh 0) (t:=dB (dO Q8 (dO T6 (dO M1 (dV 2) (dV 0)) (dC (.int 1))) (dC (.int 1)))) (f:=dO Yi (dV 1) (dV 0)) (env:=[.un,.fz (.int (low:Int)),.fz (.int (b:Int))]) (fun k:Nat=>Dat.int (k:Int)) (fun k:Nat=>Dat.int ((low+k:Nat):Int)) (fun p=>b.testBit p) (List.range size) fun p _=>⟨[.fz (.int (p:Int)),.fz (.int (low:Int)),.fz (.int (b:Int))],rfl,Yj (Z5 (Z5 (Z5 rfl rfl (N7 b p)) rfl (Rt b p)) rfl (Mu _)),Z5 rfl rfl (Vj low p)⟩
 rw [← Em] at hc;refine ⟨((List.range size).filter fun p=>b.testBit p).map (low+·),by rw [hc];unfold Zd;rw [map_map,map_map];rfl,fun p hp=>?_,?_⟩
 ·obtain ⟨q,hq,rfl⟩:=mem_map.mp hp
  have:=mem_range.mp (mem_filter.mp hq).1;lia
 ·have h:((List.range size).filter fun p=>b.testBit p).Nodup:=List.nodup_range.sublist filter_sublist
  exact List.Pairwise.map _ (fun a b (h:a≠b)=>by lia) h
theorem Z6b (c:Nat):∃ G:G3,Vl [.int (c:Int)]=.ok G.d/\Gb 64 G:=by
 have:=Yq (n:=16) (p:=1) (ds:=[.int (c:Int)]) (g:=Wc) (R:=fun d=>∃ G:G3,d=G.d/\Gb 64 G) rfl ?_
 ·obtain ⟨d,e,z,rfl,h⟩:=this
  exact ⟨z,e,h⟩
 show Go (Wc [.fz (.int (c:Int)),.un,.un,.un,.un,.un,.un,.un,.un,.un,.un,.un,.un,.un,.un,.un]) _ _;unfold Wc;obtain ⟨n,hn,hn1,hn2⟩:∃ n:Nat,1+c % 4=n/\1<=n/\n<=4:=⟨_,rfl,by lia,by lia⟩;refine Z8 (Zf (d:=.int (n:Int)) (by rw [← hn];exact Z5 rfl (Z5 rfl rfl (Ws c 4 (by lia))) (Vj 1 _)) ?_);refine Z8 (Zf (Z5 (Z5 rfl rfl (Wd c 4 (by lia) (by lia))) rfl (Ws _ 16 (by lia))) ?_);generalize c / 4 % 16=kinds;refine Z8 (Zf (Z5 (Z5 rfl rfl (Wd c 64 (by lia) (by lia))) (Z5 rfl rfl (Rz n (by lia))) (Ws _ (2^n) (two_pow_pos _))) ?_);generalize c / 64 % 2^n=code;obtain ⟨size,hz,hz1,hz2⟩:∃ z:Nat,1+c / 1024 % 6=z/\1<=z/\z<=6:=⟨_,rfl,by lia,by lia⟩;refine Z8 (Zf (d:=.int (size:Int)) (by rw [← hz];exact Z5 rfl (Z5 (Z5 rfl rfl (Wd c 1024 (by lia) (by lia))) rfl (Ws _ 6 (by lia))) (Vj 1 _)) ?_);refine Z8 (Zf (Z5 (Z5 rfl rfl (Wd c 6144 (by lia) (by lia))) (Z5 rfl rfl (Z2y 65 size (by lia))) (Ws _ (65 - size) (by lia))) ?_);have hlow:c / 6144 % (65 - size)<65 - size:=mod_lt _ (by lia);generalize c / 6144 % (65 - size)=low at hlow;refine Z8 (Zf (Z5 (Z5 rfl rfl (Wd c 614400 (by lia) (by lia))) (Z5 rfl rfl (Rz size (by lia))) (Ws _ (2^size) (two_pow_pos _))) ?_);have hmk:c / 614400 % 2^size<2^size:=mod_lt _ (two_pow_pos _);generalize c / 614400 % 2^size=mk at hmk;obtain ⟨many,hm,hm1,hm2⟩:∃ z:Nat,1+c / 39321600 % 8=z/\1<=z/\z<=8:=⟨_,rfl,by lia,by lia⟩;refine Z8 (Zf (d:=.int (many:Int)) (by rw [← hm];exact Z5 rfl (Z5 (Z5 rfl rfl (Wd c 39321600 (by lia) (by lia))) rfl (Ws _ 8 (by lia))) (Vj 1 _)) ?_);have hp6:Z2t (.int 10) (.int 6)=some (.int ((1000000:Nat):Int)):=by
  unfold Z2t Iv;dsimp only;rw [if_pos ⟨by lia,by lia,by lia⟩];rfl
 refine Z8 (Zf (Z5 (Z5 rfl rfl (Wd c 314572800 (by lia) (by lia))) (Z5 rfl rfl hp6) (Ws _ 1000000 (by lia))) ?_);generalize c / 314572800 % 1000000=word;refine Z8 (Zf (Z5 rfl (Z5 rfl (Z5 rfl rfl hp6) (Zbf 314572800 1000000 (by lia))) (Zbj c _ (by lia) (by lia))) ?_);generalize c / (314572800*1000000)=c1;refine Z8 (Jz (ds:=([]:List St3).map St3.d) rfl ?_);have hpow:1<2^size:=Nat.one_lt_two_pow (by lia);refine Z8 (Ve (ds:=rng 0 many) (fun i e=>∃ (ss:List St3) (c':Nat) (v10 v11 v12 v13 v14:Slt),e=[.fz (.int (c':Int)),.fz (.int (n:Int)),.fz (.int (kinds:Int)),.fz (.int (code:Int)),.fz (.int (size:Int)),.fz (.int (low:Int)),.fz (.int (mk:Int)),.fz (.int (many:Int)),.fz (.int (word:Int)),.ow (ss.map St3.d),v10,v11,v12,v13,v14,.un]/\ss.length=i/\∀ s∈ss,SB 64 n s) (W1 (Z4 rfl rfl) (by lia)) ⟨[],c1,.un,.un,.un,.un,.un,rfl,rfl,by simp⟩ ?_ ?_)
 ·rintro i d e hi ⟨ss,c',v10,v11,v12,v13,v14,rfl,hsl,hsk⟩
  obtain ⟨hi1,rfl⟩:=Uy hi;rw [Int.zero_add];refine ⟨_,rfl,?_⟩;refine Z8 (Zf (Z5 rfl (Z5 (Z5 rfl rfl (Wd c' 8 (by lia) (by lia))) (Z5 (Z5 rfl rfl (Rz size (by lia))) rfl (Z2y (2^size) 1 (by lia))) (Ws _ (2^size - 1) (by lia))) (Vj 1 _)) ?_);refine Z8 (Zf (Z5 rfl (Z5 (Z5 rfl rfl (Wd c' 512 (by lia) (by lia))) (Z5 (Z5 rfl rfl (Rz size (by lia))) rfl (Z2y (2^size) 1 (by lia))) (Ws _ (2^size - 1) (by lia))) (Vj 1 _)) ?_);generalize 1+c' / 8 % (2^size - 1)=b1;generalize 1+c' / 512 % (2^size - 1)=b2;obtain ⟨t,et,t1,t2⟩:=Of low size b1;obtain ⟨f,ef,f1,f2⟩:=Of low size b2;refine Z8 (Zf (d:=.tup (Zd t)) (Yr (Z4 (Ww (Wp (xs:=rng 0 size) (W1 (Z4 rfl rfl) (by lia)) rfl et)) rfl) rfl) ?_);refine Z8 (Zf (d:=.tup (Zd f)) (Yr (Z4 (Ww (Wp (xs:=rng 0 size) (W1 (Z4 rfl rfl) (by lia)) rfl ef)) rfl) rfl) ?_);have hw:c' % 4 % n<n:=mod_lt _ (by lia);refine Z8 (Q5 (ds:=ss.map St3.d) (as:=[(⟨c' % 4 % n,c' / 4 % 2==1,t,f⟩:St3).d]) (ds':=(ss++[(⟨c' % 4 % n,c' / 4 % 2==1,t,f⟩:St3)]).map St3.d) rfl (Z4 (Yb (Z4 (Z5 (Z5 rfl rfl (Ws c' 4 (by lia))) rfl (Ws _ n (by lia))) (Z4 (Z5 (Z5 (Z5 rfl rfl (Wd c' 4 (by lia) (by lia))) rfl (Ws _ 2 (by lia))) rfl (eqN _ 1)) (Z4 rfl (Z4 rfl rfl)))) (by simp)) rfl) (by rw [Vt (by rw [length_map];lia),map_append];rfl) ?_);refine Zf (Z5 rfl rfl (Wd c' 32768 (by lia) (by lia))) ⟨_,_,_,_,_,_,_,rfl,by rw [length_append,length_singleton,hsl],fun s hs=>?_⟩;rcases mem_append.mp hs with h | h
  ·exact hsk s h
  ·rw [mem_singleton.mp h]
   exact ⟨hw,fun p hp=>by have:=t1 p hp;lia,fun p hp=>by have:=f1 p hp;lia,t2,f2⟩
 ·rintro e ⟨ss,c',v10,v11,v12,v13,v14,rfl,hsl,hsk⟩
  rw [U8] at hsl;obtain ⟨ws,ew,wl,_⟩:=Lu (g:=Yh 0) (f:=Ys (Z2 (Yf Wb (Z2 (dV 1) (Z2 (dV 0) Zc))) (Z2 (dO W7 (dL (U3 (Z2 (dC (.str "given")) (Z2 (dC (.str "made")) Zc)))) (dO T6 (dO M1 (dV 2) (dV 0)) (dC (.int 1)))) Zc))) (env:=[.un,.fz (.int (word:Int)),.fz (.int (kinds:Int))]) Qn (fun _=>True) (rng 0 n) fun x hx=>by
   obtain ⟨i,hi,rfl⟩:=Cn hx;rw [Int.zero_add];obtain ⟨z,ez⟩:=Iz word i;have e1:W7 (.lst [.str "given",.str "made"]) (.int (if kinds.testBit i then 1 else 0))=some (.str (if kinds.testBit i then "made" else "given")):=by cases kinds.testBit i<;>rfl
   exact ⟨[.fz (.int (i:Int)),.fz (.int (word:Int)),.fz (.int (kinds:Int))],(z,kinds.testBit i),rfl,Yb (Z4 (Zi (xs:=[.int (word:Int),.int (i:Int)]) rfl ez) (Z4 (Z5 (x:=.lst [.str "given",.str "made"]) rfl (Z5 (Z5 rfl rfl (N7 kinds i)) rfl (Rt kinds i)) e1) rfl)) (by simp),trivial⟩
  rw [U8] at wl;refine Z8 (Zf (d:=.lst (ws.map Qn)) (Ww (Wp (xs:=rng 0 n) (W1 (Z4 rfl rfl) (by lia)) rfl ew)) ?_);have h64:mk<18446744073709551616:=lt_of_lt_of_le hmk (le_trans (pow_le_pow_right (by lia) (show size<=6 from hz2)) (by decide));refine Y9 (Yb (Z4 (Yr (Z4 rfl rfl) rfl) (Z4 (Yr (Z4 rfl rfl) rfl) (Z4 (Z5 rfl rfl (Zge mk low h64 (by lia))) rfl))) (by simp)) ⟨⟨ws,ss,mk*2^low,code⟩,rfl,by show ws.length<=10;lia,by show 1<=ss.length;lia,by show ss.length<=24;lia,fun s hs=>by show SB 64 ws.length s;rw [wl];exact hsk s hs,?_⟩;show mk*2^low<2^64;refine lt_of_lt_of_le (Nat.mul_lt_mul_of_pos_right hmk (two_pow_pos _)) ?_;rw [← Nat.pow_add];exact pow_le_pow_right (by lia) (by lia)
theorem Xw {G:G3} (hG:Gb 64 G):(Ym [G.d]=.ok (.str "")/\∃ S:Nat×Nat->Prop,Gd G S/\S (G.marks,G.code)/\∀ I,Calm G I->∀ p,S p->I p)\/(Ym [G.d]=.ok (.str "off")/\¬ Eg G)\/(Ym [G.d]=.ok (.str "other")/\∀ I,¬ Calm G I):=by
 rcases Au hG 400 (by lia) (by lia) with ⟨d,es,rows,rfl,W⟩ | ⟨c,fl,es,hr⟩
 ·rcases Z29 hG (by lia) es W with ⟨d,e,rfl,hno⟩ | ⟨c,fl,e,rfl,n,r,p,hr,hbef,hp,rfl⟩
  ·refine .inl ⟨B3 e,_,Zda W hno,mem_map.mpr ⟨_,mem_of_getElem? W.t.zero,rfl⟩,fun I hI p hp=>?_⟩
   obtain ⟨r,hr,rfl⟩:=mem_map.mp hp;exact C0 hI W.t r hr
  ·refine .inr (.inl ⟨Ag e,fun hn=>?_⟩)
   rw [F6 hn] at hp;cases hp
 ·refine .inr (.inr ⟨F5 (Z11 es) ?_,fun I hI=>Z89 hI hr⟩)
  rcases hr with ⟨h,_⟩ | ⟨h,_⟩
  ·exact .inl h
  ·exact .inr h
theorem Z3m {e:Ev} {f:Ev->Option (List Dat)} {b:Nat} (h:f e=some [.int 1,.int (b:Int)]) (h1:1<=b) (h2:b<=1000):Fc f e=some (rng 1 (b - 1)):=by
 unfold Fc;rw [h];dsimp only;have e1:((b:Int) - 1).toNat=b - 1:=by lia
 rw [e1,if_pos ⟨⟨by lia,by lia,by lia,by lia⟩,by rw [sizeLine_eq];lia⟩]
theorem Z3b {n i:Nat} {d:Dat} (h:(rng 1 n)[i]?=some d):i<n/\d=.int ((1+i:Nat):Int):=by
 unfold rng at h;rw [getElem?_map] at h;obtain ⟨k,hk,rfl⟩:=map_some h;have hl:=(List.getElem?_eq_some_iff.mp hk).1;rw [length_range] at hl;rw [getElem?_range hl] at hk;cases hk;exact ⟨hl,by first | rfl | (congr 1;lia)⟩
theorem Z5d (a b:Str):Ec (.str a) (.str b)=some (.bl (!(a==b))):=by unfold Ec Sg;rfl
theorem Z96 {f g:Ev->Option Dat} {env:Ev} (h1:f env=some (.bl true)):dOr f g env=some (.bl true):=by unfold dOr dB;rw [h1];rfl
theorem Zbx (ns:List Int) (hl:ns.length<=63):Z8p [.lst (ns.map .int)]=.ok (.bl true):=by
 refine U4 (Yq (n:=10) (p:=1) (ds:=[Qv ns]) (g:=Og) (R:=fun d=>d=.bl true) rfl ?_);show Go (Og [.fz (Qv ns),.un,.un,.un,.un,.un,.un,.un,.un,.un]) _ _;unfold Og;obtain ⟨c,ec,lc⟩:=Rl ns 0 (by lia);refine Z8 (Zf (Zi (xs:=[Qv ns,.int ((0:Nat):Int)]) rfl ec) ?_);refine Z8 (Zf (Z5 (Z5 (Z5 rfl rfl (Wd c 2 (by lia) (by lia))) rfl (Ws _ 2 (by lia))) rfl (eqN _ 0)) ?_);obtain ⟨free,hfr⟩:∃ b:Bool,(c / 2 % 2==0)=b:=⟨_,rfl⟩;rw [hfr];obtain ⟨even,hev⟩:∃ b:Bool,(c % 2==0)=b:=⟨_,rfl⟩
 -- the graph
 refine Z8 (Go.mono (N:=fun e=>∃ G:G3,e=[.fz (Qv ns),.fz (.int (c:Int)),.fz (.bl free),.fz G.d,.un,.un,.un,.un,.un,.un]/\((free=true/\Gb 64 G)\/(free=false/\Gb 54 G/\(∃ I,CalmL G I)/\(even=false->Eg G)))) ?_ ?_ (fun _ h=>h))
 ·refine Qb (Md rfl) (fun hb=>?_) (fun hb=>?_)
  ·obtain ⟨a,ha⟩:∃ a:Nat,(dF Z7v (Z2 (dF Bc (Z2 (dS Xf (dV 0) (U0 (dC (.int 1))) (U0 (dC (.int 2)))) Zc)) Zc)) [.fz (Qv ns),.fz (.int (c:Int)),.fz (.bl free),.un,.un,.un,.un,.un,.un,.un]=some (.int (a:Int)):=by
    have e1:dS Xf (dV 0) (U0 (dC (.int 1))) (U0 (dC (.int 2))) [.fz (Qv ns),.fz (.int (c:Int)),.fz (.bl free),.un,.un,.un,.un,.un,.un,.un]=some (.lst ((Ta ns (some 1) (some 2)).map .int)):=by
     refine D6 rfl (Vo rfl) (Vo rfl) ?_;show some (Dat.lst (Ta (ns.map Dat.int) (some 1) (some 2)))=_;rw [Mo]
    have e2:=Yr (F:=Bc) (fs:=Z2 (dS Xf (dV 0) (U0 (dC (.int 1))) (U0 (dC (.int 2)))) Zc) (Z4 e1 rfl) (Z12 _);refine ⟨(Ta ns (some 1) (some 2)).sum.natAbs,Yr (Z4 e2 rfl) ?_⟩;show some (Dat.int (if (Ta ns (some 1) (some 2)).sum<0 then -(Ta ns (some 1) (some 2)).sum else (Ta ns (some 1) (some 2)).sum))=_;congr 2
    split<;>lia
   obtain ⟨G,e,h1⟩:=Z6b a;exact Zf (Zi (xs:=[.int (a:Int)]) (Z4 ha rfl) e) ⟨G,rfl,.inl ⟨hb,h1⟩⟩
  ·refine Qb (Yj (Z5 (Z5 rfl rfl (Ws c 2 (by lia))) rfl (eqN _ 0))) (fun hb2=>?_) (fun hb2=>?_)
   ·obtain ⟨G,b,L,e,h1,h2,h3⟩:=Z15 ns 1 (by lia)
    exact Zf (Zi (xs:=[Qv ns,.int ((1:Nat):Int)]) rfl e) ⟨G,rfl,.inr ⟨hb,h2,⟨_,Z4i h1 h3⟩,fun z=>by rw [← hev,hb2] at z;cases z⟩⟩
   ·obtain ⟨G,s0,ps,rs,e,h1,h2,h3,h4⟩:=Z4s ns 1 (1+c / 4 % 4) (c / 24 % 5) (by lia) (by lia) (by lia) (by lia)
    exact Zf (Zi (xs:=[Qv ns,.int ((1:Nat):Int),.int ((1+c / 4 % 4:Nat):Int),.int ((c / 24 % 5:Nat):Int)]) (Z4 rfl (Z4 rfl (Z4 (Z5 rfl (Z5 (Z5 rfl rfl (Wd c 4 (by lia) (by lia))) rfl (Ws _ 4 (by lia))) (Vj 1 _)) (Z4 (Z5 (Z5 rfl rfl (Wd c 24 (by lia) (by lia))) rfl (Ws _ 5 (by lia))) rfl)))) e) ⟨G,rfl,.inr ⟨hb,h2,⟨_,Z28 h1 (by lia) (by lia) h4⟩,fun _=>h3⟩⟩
 rintro e ⟨G,rfl,hcase⟩;refine Z8 (Go.mono (N:=fun e=>∃ G:G3,e=[.fz (Qv ns),.fz (.int (c:Int)),.fz (.bl free),.fz G.d,.un,.un,.un,.un,.un,.un]/\Gb 64 G/\(free=false->(∃ I,CalmL G I)/\(even=false->Eg G))) ?_ ?_ (fun _ h=>h))
 ·refine Qb (U7 (Pr (Md rfl)) fun _=>Yj (Z5 (Z5 (Z5 rfl rfl (Wd c 4096 (by lia) (by lia))) rfl (Ws _ 3 (by lia))) rfl (eqN _ 0))) (fun hb=>?_) (fun hb=>W8 ?_)
  ·have hf:free=false:=by simpa using (Bool.and_eq_true_iff.mp hb).1
   rcases hcase with ⟨z,_⟩ | ⟨_,h1,⟨I,h2⟩,h3⟩
   ·rw [hf] at z;cases z
   obtain ⟨G',z,e,k1,k2⟩:=B5 G h1 (c / 12288);exact Zf (Zi (xs:=[G.d,.int ((c / 12288:Nat):Int)]) (Z4 rfl (Z4 (Z5 rfl rfl (Wd c 12288 (by lia) (by lia))) rfl)) e) ⟨G',rfl,k2,fun _=>⟨⟨_,Z1x k1 h2⟩,fun z=>C1 k1 (h3 z)⟩⟩
  ·refine ⟨G,rfl,?_,fun hf=>?_⟩
   ·rcases hcase with ⟨_,h1⟩ | ⟨_,h1,_⟩
    ·exact h1
    ·exact Gb.up h1
   ·rcases hcase with ⟨z,_⟩ | ⟨_,_,h2,h3⟩
    ·rw [hf] at z;cases z
    ·exact ⟨h2,h3⟩
 clear hcase G;rintro e ⟨G,rfl,hG,hcalm⟩;rcases Xw hG with ⟨er,S,hS,hS0,hSI⟩ | ⟨er,hn⟩ | ⟨er,hn⟩
 case inr.inl =>
  refine Z8 (Zf (Zi (xs:=[G.d]) rfl er) ?_);refine Z8 (B6 (Yj (Z5 rfl rfl ((Z5d _ _).trans (by rfl)))) (Y9 (d:=.bl true) ?_ rfl));cases hf:free with
  | true=>exact Z96 rfl
  | false =>
   have he:even=true:=by
    cases z:even with
    | true=>rfl
    | false=>exact absurd ((hcalm hf).2 z) hn
   rw [← hev] at he;exact Z40 (a:=false) (b:=true) rfl (Z6a (Z5 (Z5 rfl rfl (Ws c 2 (by lia))) rfl ((eqN _ 0).trans (by rw [he]))) (Z5 rfl rfl (Cp "off")))
 case inr.inr =>
  refine Z8 (Zf (Zi (xs:=[G.d]) rfl er) ?_);refine Z8 (B6 (Yj (Z5 rfl rfl ((Z5d _ _).trans (by rfl)))) (Y9 (d:=.bl true) ?_ rfl));cases hf:free with
  | true=>exact Z96 rfl
  | false =>
   obtain ⟨I,hI⟩:=(hcalm hf).1;exact absurd hI.calm (hn I)
 refine Z8 (Zf (Zi (xs:=[G.d]) rfl er) ?_);refine Z8 (R0 (Yj (Z5 rfl rfl ((Z5d _ _).trans (by rfl)))) (W8 ?_));refine Z8 (Zf (d:=Zo (G.marks,G.code)) (Yb (Z4 (Z5 rfl rfl rfl) (Z4 (Z5 rfl rfl rfl) rfl)) (by simp)) ?_);obtain ⟨M,hM,hM1,hM2⟩:∃ M:Nat,(Z2 (dC (.int 1)) (Z2 (dF Fb (Z2 (dC (.int 2)) (Z2 (dF Ox (Z2 (dC (.int 63)) (Z2 (dF Ti (Z2 (dV 0) Zc)) Zc))) Zc))) Zc)) [.fz (Qv ns),.fz (.int (c:Int)),.fz (.bl free),.fz G.d,.fz (.str ""),.fz (Zo (G.marks,G.code)),.un,.un,.un,.un]=some [.int 1,.int (M:Int)]/\1<=M/\M<=1000:=by
  have e1:dF Ti (Z2 (dV 0) Zc) [.fz (Qv ns),.fz (.int (c:Int)),.fz (.bl free),.fz G.d,.fz (.str ""),.fz (Zo (G.marks,G.code)),.un,.un,.un,.un]=some (.int ((ns.length:Nat):Int)):=Yr (Z4 rfl rfl) (E8 Dat.int ns);have e2:dF Ox (Z2 (dC (.int 63)) (Z2 (dF Ti (Z2 (dV 0) Zc)) Zc)) [.fz (Qv ns),.fz (.int (c:Int)),.fz (.bl free),.fz G.d,.fz (.str ""),.fz (Zo (G.marks,G.code)),.un,.un,.un,.un]=some (.int (if (ns.length:Int)<63 then (ns.length:Int) else 63)):=Yr (Z4 rfl (Z4 e1 rfl)) rfl;have e3:(if (ns.length:Int)<63 then (ns.length:Int) else 63)=(ns.length:Int):=by split<;>lia
  rw [e3] at e2;refine ⟨if 2<ns.length then ns.length else 2,Z4 rfl (Z4 (Yr (Z4 rfl (Z4 e2 rfl)) ?_) rfl),by split<;>lia,by split<;>lia⟩;show some (Dat.int (if (ns.length:Int) > 2 then (ns.length:Int) else 2))=_;congr 2
  split<;>split<;>lia
 refine Z8 (Ve (ds:=rng 1 (M - 1)) (fun _ e=>∃ (p:Nat×Nat) (v6 v7 v8 v9:Slt),e=[.fz (Qv ns),.fz (.int (c:Int)),.fz (.bl free),.fz G.d,.fz (.str ""),.fz (Zo p),v6,v7,v8,v9]/\S p) (Z3m hM hM1 hM2) ⟨_,.un,.un,.un,.un,rfl,hS0⟩ ?_ ?_)
 ·rintro i d e hi ⟨p,v6,v7,v8,v9,rfl,hp⟩
  obtain ⟨hi1,rfl⟩:=Z3b hi;refine ⟨_,rfl,?_⟩;refine Z8 (Zf (Zi (xs:=[G.d,Zo p]) rfl (Z7s hS hG hp)) ?_);have hdead:((Vr G p.1).isEmpty&&!free)=false:=by
   cases hf:free with
   | true=>simp
   | false =>
    obtain ⟨I,hI⟩:=(hcalm hf).1;obtain ⟨s,hs,hc⟩:=hI.live p (hSI I hI.calm p hp);obtain ⟨k,hk⟩:=getElem?_of_mem hs;have:k∈Vr G p.1:=by
     unfold Vr;refine mem_filter.mpr ⟨mem_range.mpr (List.getElem?_eq_some_iff.mp hk).1,?_⟩;unfold Do;rw [hk];exact hc
    cases e:Vr G p.1 with
    | nil=>rw [e] at this;cases this
    | cons a l=>rfl
  refine Z8 (R0 ((Bm (a:=false) (Yj (Z5 rfl rfl rfl)) fun _=>U7 (Yj (Z5 rfl rfl (Z8t _))) fun _=>Pr (Md rfl)).trans (by rw [hdead];rfl)) (W8 ?_));refine Z8 (Qb (Yj (Z5 rfl rfl (Z8t _))) (fun _=>Y9 rfl rfl) (fun hne=>W8 ?_));obtain ⟨r,er2,_⟩:=Rl ns (1+i) (by lia);have hpos:0<(Vr G p.1).length:=by
   cases e:Vr G p.1 with
   | nil=>rw [e] at hne;cases hne
   | cons a l=>simp
  obtain ⟨k,hk⟩:∃ k,(Vr G p.1)[r % (Vr G p.1).length]?=some k:=⟨_,getElem?_eq_getElem (mod_lt _ hpos)⟩;obtain ⟨s,hs,hcan⟩:=S0 (L0 (mem_of_getElem? hk));have hm:=mem_of_getElem? hs;have hlen:Ti [.lst (Zd (Vr G p.1))]=some (.int ((Vr G p.1).length:Int)):=by
   show some (Dat.int ((Zd (Vr G p.1)).length:Int))=_;unfold Zd;rw [length_map,length_map]
  refine Z8 (Zf (d:=.int (k:Int)) (Z5 rfl (Z5 (Zi (xs:=[Qv ns,.int ((1+i:Nat):Int)]) rfl er2) (Yr (Z4 rfl rfl) hlen) (Ws r _ hpos)) (S3 (by unfold Zd;rw [getElem?_map,getElem?_map,hk];rfl))) ?_);obtain ⟨q,eq,hq⟩:=Z6d s (hG.st s hm) hG.w2 p.1 p.2 (Wf.mp hcan);have hf:=hS.ok p hp s hm hcan;refine Z8 (Zf (d:=Zo (Yn s p)) (Zi (xs:=[s.d,Zo p]) (Z4 (Z5 (Z5 rfl rfl rfl) rfl (K2 hs)) (Z4 rfl rfl)) (by rw [← Z71 (p:=p) hf hq];exact eq)) ?_);refine Z8 (R0 (Bm (a:=false) (b:=false) (Md (Zcu rfl rfl Zfy)) fun _=>Pr (b:=true) (Md (Zi (xs:=[G.d,Zo p,Zo (Yn s p),.int (s.w:Int)]) (Z4 rfl (Z4 rfl (Z4 rfl (Z4 (Z5 (Z5 (Z5 rfl rfl rfl) rfl (K2 hs)) rfl rfl) rfl)))) (Z6x hS hG hp hs hcan)))) (W8 ?_));exact Zf rfl ⟨_,_,_,_,_,rfl,hS.cl p hp s hm hcan⟩
 ·rintro e ⟨p,v6,v7,v8,v9,rfl,hp⟩
  exact Y9 rfl rfl
end K34
set_option maxHeartbeats 4000000
namespace K34
open PySem PySem.Spec PyProof.Rows L2
def DD (K:PySem.W.Frag) (n:Str) (st:Stmt):Prop:=∃ f oc od kV dc pm an cd ct sl,PySem.W.nsIn K mainGlobals n=some (some (.ref f))/\K.lookup f=some ⟨oc,od,.func (fnOf n n (Wn st) (Y8 st) (Z6 st) .none kV dc pm an cd ct),sl⟩/\codeIn K cd n=true/\PySem.W.keepIn K (.ref f)=true
theorem ddI {K:PySem.W.Frag} {n:Str} {st:Stmt} {f:Addr} {oc kV dc pm cd ct:Value} {od an:Option Addr} {sl:Array (Option Value)} (h1:PySem.W.nsIn K mainGlobals n=some (some (.ref f))) (h2:K.lookup f=some ⟨oc,od,.func (fnOf n n (Wn st) (Y8 st) (Z6 st) .none kV dc pm an cd ct),sl⟩) (h3:codeIn K cd n=true) (h4:PySem.W.keepIn K (.ref f)=true):DD K n st:=⟨f,oc,od,kV,dc,pm,an,cd,ct,sl,h1,h2,h3,h4⟩
theorem Su {K:PySem.W.Frag} {h:Heap} {mg:Str->Option Value} (X:K.In h) (G:h.Ns mainGlobals mg) {n:Str} {st:Stmt} (d:DD K n st):Def K mg n st:=by
 obtain ⟨f,oc,od,kV,dc,pm,an,cd,ct,sl,h1,h2,h3,h4⟩:=d;exact ⟨_,_,Gu (st:=st) h2 h3 h4,mg_of X G h1⟩
abbrev DA (K:PySem.W.Frag) (n:Str) (f:Addr):Prop:=PySem.W.nsIn K mainGlobals n=some (some (.ref f))
abbrev DL (K:PySem.W.Frag) (n:Str) (st:Stmt) (f:Addr) (oc:Value) (od:Option Addr) (kV dc pm:Value) (an:Option Addr) (cd ct:Value) (sl:Array (Option Value)):Prop:=K.lookup f=some ⟨oc,od,.func (fnOf n n (Wn st) (Y8 st) (Z6 st) .none kV dc pm an cd ct),sl⟩
theorem Zg0 {l:PySem.W.OpenLaw} {w:World} {K:PySem.W.Frag} {h:Heap} {mg:Str->Option Value} {fa:Addr} (X:K.In h) (G:h.Ns mainGlobals mg) (hfa:mg "law" = some (.ref fa))
  {f33:Addr} {od33 an33:Option Addr} {sl33:Array (Option Value)} {oc33 kV33 dc33 pm33 cd33 ct33:Value}
  {C_0:Addr}
  {C_3:Addr}
  {C_1:Addr}
  {C_2:Addr}
  {C_8:Addr}
  {J_0:Addr} {qd_0 qa_0 qo_0:Option Addr} {qs_0 qt_0:Array (Option Value)} {qk_0 qc_0 kV_0 dc_0 pm_0 cv_0 ct_0:Value} {cd_0:ClassData}
  {J_1:Addr} {qd_1 qa_1 qo_1:Option Addr} {qs_1 qt_1:Array (Option Value)} {qk_1 qc_1 kV_1 dc_1 pm_1 cv_1 ct_1:Value} {cd_1:ClassData}
  {J_2:Addr} {qd_2 qa_2 qo_2:Option Addr} {qs_2 qt_2:Array (Option Value)} {qk_2 qc_2 kV_2 dc_2 pm_2 cv_2 ct_2:Value} {cd_2:ClassData}
  {J_3:Addr} {qd_3 qa_3 qo_3:Option Addr} {qs_3 qt_3:Array (Option Value)} {qk_3 qc_3 kV_3 dc_3 pm_3 cv_3 ct_3:Value} {cd_3:ClassData}
  (a0:DD K "is_made" Sh)
  (a1:DD K "steps_of" Tl)
  (a2:DD K "wire_of" Sj)
  (a3:DD K "is_rise" Sc)
  (a4:DD K "takes_of" Mv)
  (a5:DD K "fills_of" Mr)
  (a6:DD K "bits" X7)
  (a7:DD K "has_one" Sr)
  (a8:DD K "can" Z08)
  (a9:DD K "behind" E9)
  (a10:DD K "steps_at" Tr)
  (a11:DD K "way" Ce)
  (a12:DD K "come_to" Si)
  (a13:DD K "stands" G4)
  (a14:DD K "is_called" Ul)
  (a15:DD K "wants" Iy)
  (a16:DD K "robs" Xd)
  (a17:DD K "touches_made" Uu)
  (a18:DD K "rivals" Ej)
  (a19:DD K "sound" Ir)
  (a20:DD K "_law_mix" Mq)
  (a21:DD K "_law_word" Jk)
  (a22:DD K "_law_order" Qq)
  (a23:DD K "_law_arrows" Q6)
  (a24:DD K "_law_graph" Ya)
  (a25:DD K "_law_choice" Q1)
  (a26:DD K "_law_lookers" Wv)
  (a27:DD K "_law_can" Tu)
  (a28:DD K "_law_done" Um)
  (a29:DD K "_law_free_graph" Y4)
  (a30:DD K "_law_refusal" Uv)
  (a31:DD K "_law_some" V7)
  (a32:DD K "_law_stay" Jj)
  (a33:DA K "law" f33) (l33:DL K "law" Hr f33 oc33 od33 kV33 dc33 pm33 an33 cd33 ct33 sl33) (c33:codeIn K cd33 "law" = true) (k33:PySem.W.keepIn K (.ref f33)=true)
  (z_abs:PySem.W.nsIn K mainGlobals "abs" = some none)
  (z_all:PySem.W.nsIn K mainGlobals "all" = some none)
  (z_any:PySem.W.nsIn K mainGlobals "any" = some none)
  (z_enumerate:PySem.W.nsIn K mainGlobals "enumerate" = some none)
  (z_isinstance:PySem.W.nsIn K mainGlobals "isinstance" = some none)
  (z_len:PySem.W.nsIn K mainGlobals "len" = some none)
  (z_list:PySem.W.nsIn K mainGlobals "list" = some none)
  (z_max:PySem.W.nsIn K mainGlobals "max" = some none)
  (z_min:PySem.W.nsIn K mainGlobals "min" = some none)
  (z_range:PySem.W.nsIn K mainGlobals "range" = some none)
  (z_reversed:PySem.W.nsIn K mainGlobals "reversed" = some none)
  (z_sorted:PySem.W.nsIn K mainGlobals "sorted" = some none)
  (z_str:PySem.W.nsIn K mainGlobals "str" = some none)
  (z_sum:PySem.W.nsIn K mainGlobals "sum" = some none)
  (z_tuple:PySem.W.nsIn K mainGlobals "tuple" = some none)
  (y_0:PySem.W.nsIn K mainGlobals "Broken" = some (some (.ref C_0)))
  (y_3:PySem.W.nsIn K mainGlobals "CalledOff" = some (some (.ref C_3)))
  (y_1:PySem.W.nsIn K mainGlobals "Crowded" = some (some (.ref C_1)))
  (y_2:PySem.W.nsIn K mainGlobals "TooMany" = some (some (.ref C_2)))
  (y_8:PySem.W.nsIn K mainGlobals "CalmError" = some (some (.ref C_8)))
  (b0:PySem.W.specialIn K (.ref C_8) "__getattribute__" = some (some (.builtin "type.__getattribute__"))) (b1:PySem.W.readsIn K C_8 (.type "type")=true) (b2:PySem.W.findCls K (.ref C_8) (.type "type") "__init__" = some (.val (.builtin "ValueError.__init__")))
  (o_0:K.lookup C_0=some ⟨qk_0,qd_0,.cls cd_0,qs_0⟩) (n_0:PySem.W.nsIn K cd_0.ns "__init__" = some (some (.ref J_0))) (jl_0:K.lookup J_0=some ⟨qc_0,qo_0,.func (fnOf "__init__" "Broken.__init__" (Wn i_0) (Y8 i_0) (Z6 i_0) .none kV_0 dc_0 pm_0 qa_0 cv_0 ct_0),qt_0⟩) (w_0:codeIn K cv_0 "Broken.__init__" = true) (p_0:PySem.W.keepIn K (.ref J_0)=true) (g_0:PySem.W.isFn K (.ref J_0)=true) (h_0:PySem.W.keepIn K (.ref C_0)=true)
  (x_0:Qi K C_0 J_0 C_8=true)
  (ra_0:PySem.W.findIn K (.ref C_0) "__class__" = some (some (.builtin "object.__class__"))) (rb_0:PySem.W.findIn K (.ref C_0) "__getattribute__" = some (some (.builtin "BaseException.__getattribute__"))) (rc_0:PySem.W.findIn K (.ref C_0) "__getattr__" = some none) (rd_0:PySem.W.findIn K (.ref C_0) "__setattr__" = some (some (.builtin "object.__setattr__"))) (re_0_by:PySem.W.findIn K (.ref C_0) "by" = some none) (re_0_lost:PySem.W.findIn K (.ref C_0) "lost" = some none) (re_0_way:PySem.W.findIn K (.ref C_0) "way" = some none)
  (s_0:PySem.W.exmOne K (.ref C_0) (.ref C_8)=some true)
  (e_0_0:PySem.W.exmOne K (.ref C_0) (.ref C_0)=some true)
  (e_0_3:PySem.W.exmOne K (.ref C_0) (.ref C_3)=some false)
  (e_0_1:PySem.W.exmOne K (.ref C_0) (.ref C_1)=some false)
  (o_1:K.lookup C_1=some ⟨qk_1,qd_1,.cls cd_1,qs_1⟩) (n_1:PySem.W.nsIn K cd_1.ns "__init__" = some (some (.ref J_1))) (jl_1:K.lookup J_1=some ⟨qc_1,qo_1,.func (fnOf "__init__" "Crowded.__init__" (Wn i_1) (Y8 i_1) (Z6 i_1) .none kV_1 dc_1 pm_1 qa_1 cv_1 ct_1),qt_1⟩) (w_1:codeIn K cv_1 "Crowded.__init__" = true) (p_1:PySem.W.keepIn K (.ref J_1)=true) (g_1:PySem.W.isFn K (.ref J_1)=true) (h_1:PySem.W.keepIn K (.ref C_1)=true)
  (x_1:Qi K C_1 J_1 C_8=true)
  (ra_1:PySem.W.findIn K (.ref C_1) "__class__" = some (some (.builtin "object.__class__"))) (rb_1:PySem.W.findIn K (.ref C_1) "__getattribute__" = some (some (.builtin "BaseException.__getattribute__"))) (rc_1:PySem.W.findIn K (.ref C_1) "__getattr__" = some none) (rd_1:PySem.W.findIn K (.ref C_1) "__setattr__" = some (some (.builtin "object.__setattr__"))) (re_1_by:PySem.W.findIn K (.ref C_1) "by" = some none) (re_1_lost:PySem.W.findIn K (.ref C_1) "lost" = some none) (re_1_way:PySem.W.findIn K (.ref C_1) "way" = some none)
  (s_1:PySem.W.exmOne K (.ref C_1) (.ref C_8)=some true)
  (e_1_0:PySem.W.exmOne K (.ref C_1) (.ref C_0)=some false)
  (e_1_3:PySem.W.exmOne K (.ref C_1) (.ref C_3)=some false)
  (e_1_1:PySem.W.exmOne K (.ref C_1) (.ref C_1)=some true)
  (o_2:K.lookup C_2=some ⟨qk_2,qd_2,.cls cd_2,qs_2⟩) (n_2:PySem.W.nsIn K cd_2.ns "__init__" = some (some (.ref J_2))) (jl_2:K.lookup J_2=some ⟨qc_2,qo_2,.func (fnOf "__init__" "TooMany.__init__" (Wn i_2) (Y8 i_2) (Z6 i_2) .none kV_2 dc_2 pm_2 qa_2 cv_2 ct_2),qt_2⟩) (w_2:codeIn K cv_2 "TooMany.__init__" = true) (p_2:PySem.W.keepIn K (.ref J_2)=true) (g_2:PySem.W.isFn K (.ref J_2)=true) (h_2:PySem.W.keepIn K (.ref C_2)=true)
  (x_2:Qi K C_2 J_2 C_8=true)
  (ra_2:PySem.W.findIn K (.ref C_2) "__class__" = some (some (.builtin "object.__class__"))) (rb_2:PySem.W.findIn K (.ref C_2) "__getattribute__" = some (some (.builtin "BaseException.__getattribute__"))) (rc_2:PySem.W.findIn K (.ref C_2) "__getattr__" = some none) (rd_2:PySem.W.findIn K (.ref C_2) "__setattr__" = some (some (.builtin "object.__setattr__"))) (re_2_by:PySem.W.findIn K (.ref C_2) "by" = some none) (re_2_lost:PySem.W.findIn K (.ref C_2) "lost" = some none) (re_2_way:PySem.W.findIn K (.ref C_2) "way" = some none)
  (s_2:PySem.W.exmOne K (.ref C_2) (.ref C_8)=some true)
  (e_2_0:PySem.W.exmOne K (.ref C_2) (.ref C_0)=some false)
  (e_2_3:PySem.W.exmOne K (.ref C_2) (.ref C_3)=some false)
  (e_2_1:PySem.W.exmOne K (.ref C_2) (.ref C_1)=some false)
  (o_3:K.lookup C_3=some ⟨qk_3,qd_3,.cls cd_3,qs_3⟩) (n_3:PySem.W.nsIn K cd_3.ns "__init__" = some (some (.ref J_3))) (jl_3:K.lookup J_3=some ⟨qc_3,qo_3,.func (fnOf "__init__" "CalledOff.__init__" (Wn i_3) (Y8 i_3) (Z6 i_3) .none kV_3 dc_3 pm_3 qa_3 cv_3 ct_3),qt_3⟩) (w_3:codeIn K cv_3 "CalledOff.__init__" = true) (p_3:PySem.W.keepIn K (.ref J_3)=true) (g_3:PySem.W.isFn K (.ref J_3)=true) (h_3:PySem.W.keepIn K (.ref C_3)=true)
  (x_3:Qi K C_3 J_3 C_8=true)
  (ra_3:PySem.W.findIn K (.ref C_3) "__class__" = some (some (.builtin "object.__class__"))) (rb_3:PySem.W.findIn K (.ref C_3) "__getattribute__" = some (some (.builtin "BaseException.__getattribute__"))) (rc_3:PySem.W.findIn K (.ref C_3) "__getattr__" = some none) (rd_3:PySem.W.findIn K (.ref C_3) "__setattr__" = some (some (.builtin "object.__setattr__"))) (re_3_by:PySem.W.findIn K (.ref C_3) "by" = some none) (re_3_lost:PySem.W.findIn K (.ref C_3) "lost" = some none) (re_3_way:PySem.W.findIn K (.ref C_3) "way" = some none)
  (s_3:PySem.W.exmOne K (.ref C_3) (.ref C_8)=some true)
  (e_3_0:PySem.W.exmOne K (.ref C_3) (.ref C_0)=some false)
  (e_3_3:PySem.W.exmOne K (.ref C_3) (.ref C_3)=some true)
  (e_3_1:PySem.W.exmOne K (.ref C_3) (.ref C_1)=some false) :
  ∃ fd:FuncData,(∀ (s:Shared) (v:Value),BindsTo s fd ⟨[v],[]⟩ [("_law_script",v)])/\∀ base:Heap,K.In base->base.Ns mainGlobals mg->FnOk l.prog w K mg base D9 8 fa fd N51_ (Xn K):=by
 have e:=hfa.symm.trans (mg_of X G a33);cases e;have xc_0:XCls K C_0:=Iu x_0 ra_0 rb_0 rc_0 rd_0;have xc_1:XCls K C_1:=Iu x_1 ra_1 rb_1 rc_1 rd_1;have xc_2:XCls K C_2:=Iu x_2 ra_2 rb_2 rc_2 rd_2;have xc_3:XCls K C_3:=Iu x_3 ra_3 rb_3 rc_3 rd_3;have B:BaseC K mg C_8:=⟨mg_of X G y_8,b0,b1,b2⟩;have T:Txt K mg:={ b_abs:=mg_none_of X G z_abs,b_all:=mg_none_of X G z_all,b_any:=mg_none_of X G z_any,b_enumerate:=mg_none_of X G z_enumerate,b_isinstance:=mg_none_of X G z_isinstance,b_len:=mg_none_of X G z_len,b_list:=mg_none_of X G z_list,b_max:=mg_none_of X G z_max,b_min:=mg_none_of X G z_min,b_range:=mg_none_of X G z_range,b_reversed:=mg_none_of X G z_reversed,b_sorted:=mg_none_of X G z_sorted,b_str:=mg_none_of X G z_str,b_sum:=mg_none_of X G z_sum,b_tuple:=mg_none_of X G z_tuple,q_0:=Z0h (mg_of X G y_0) (forall_mem_cons.mpr ⟨⟨C_0,y_0,e_0_0.trans (by decide +kernel)⟩,(forall_mem_cons.mpr ⟨⟨C_1,y_1,e_1_0.trans (by decide +kernel)⟩,(forall_mem_cons.mpr ⟨⟨C_2,y_2,e_2_0.trans (by decide +kernel)⟩,(forall_mem_cons.mpr ⟨⟨C_3,y_3,e_3_0.trans (by decide +kernel)⟩,(fun _ h=>nomatch h)⟩)⟩)⟩)⟩),q_1:=Z0h (mg_of X G y_1) (forall_mem_cons.mpr ⟨⟨C_0,y_0,e_0_1.trans (by decide +kernel)⟩,(forall_mem_cons.mpr ⟨⟨C_1,y_1,e_1_1.trans (by decide +kernel)⟩,(forall_mem_cons.mpr ⟨⟨C_2,y_2,e_2_1.trans (by decide +kernel)⟩,(forall_mem_cons.mpr ⟨⟨C_3,y_3,e_3_1.trans (by decide +kernel)⟩,(fun _ h=>nomatch h)⟩)⟩)⟩)⟩),u_3:=Ck (mg_of X G y_3) (forall_mem_cons.mpr ⟨⟨C_0,y_0,e_0_3.trans (by decide +kernel)⟩,(forall_mem_cons.mpr ⟨⟨C_1,y_1,e_1_3.trans (by decide +kernel)⟩,(forall_mem_cons.mpr ⟨⟨C_2,y_2,e_2_3.trans (by decide +kernel)⟩,(forall_mem_cons.mpr ⟨⟨C_3,y_3,e_3_3.trans (by decide +kernel)⟩,(fun _ h=>nomatch h)⟩)⟩)⟩)⟩),u_8:=Ck (mg_of X G y_8) (forall_mem_cons.mpr ⟨⟨C_0,y_0,s_0⟩,(forall_mem_cons.mpr ⟨⟨C_1,y_1,s_1⟩,(forall_mem_cons.mpr ⟨⟨C_2,y_2,s_2⟩,(forall_mem_cons.mpr ⟨⟨C_3,y_3,s_3⟩,(fun _ h=>nomatch h)⟩)⟩)⟩)⟩) };have D_is_made:=Su X G a0;have D_steps_of:=Su X G a1;have D_wire_of:=Su X G a2;have D_is_rise:=Su X G a3;have D_takes_of:=Su X G a4;have D_fills_of:=Su X G a5;have D_bits:=Su X G a6;have D_has_one:=Su X G a7;have D_can:=Su X G a8;have D_behind:=Su X G a9;have D_steps_at:=Su X G a10;have D_way:=Su X G a11;have D_come_to:=Su X G a12;have D_stands:=Su X G a13;have D_is_called:=Su X G a14;have D_wants:=Su X G a15;have D_robs:=Su X G a16;have D_touches_made:=Su X G a17;have D_rivals:=Su X G a18;have D_sound:=Su X G a19;have D__law_mix:=Su X G a20;have D__law_word:=Su X G a21;have D__law_order:=Su X G a22;have D__law_arrows:=Su X G a23;have D__law_graph:=Su X G a24;have D__law_choice:=Su X G a25;have D__law_lookers:=Su X G a26;have D__law_can:=Su X G a27;have D__law_done:=Su X G a28;have D__law_free_graph:=Su X G a29;have D__law_refusal:=Su X G a30;have D__law_some:=Su X G a31;have D__law_stay:=Su X G a32;have F33:=Gu (st:=Hr) l33 c33 k33;refine ⟨fnOf "law" "law" (Wn Hr) (Y8 Hr) (Z6 Hr) .none kV33 dc33 pm33 an33 cd33 ct33,fun s v=>.of_eq rfl,fun base _ _=>?_⟩;have M_0:=m_0 (P:=l.prog) (w:=w) (base:=base) B (Gu (st:=i_0) jl_0 w_0 p_0) y_0 (mg_of X G y_0) h_0 x_0 xc_0 re_0_way g_0 (mg_none_of X G z_list);have M_1:=m_1 (P:=l.prog) (w:=w) (base:=base) B (Gu (st:=i_1) jl_1 w_1 p_1) y_1 (mg_of X G y_1) h_1 x_1 xc_1 re_1_way g_1 (mg_none_of X G z_list);have M_2:=m_2 (P:=l.prog) (w:=w) (base:=base) B (Gu (st:=i_2) jl_2 w_2 p_2) y_2 (mg_of X G y_2) h_2 x_2 xc_2  g_2 (mg_none_of X G z_list);have M_3:=m_3 (P:=l.prog) (w:=w) (base:=base) B (Gu (st:=i_3) jl_3 w_3 p_3) y_3 (mg_of X G y_3) h_3 x_3 xc_3 re_3_way re_3_lost re_3_by g_3 (mg_none_of X G z_list);have C_is_made:=Z25 (P:=l.prog) (w:=w) (base:=base) D_is_made T;have C_steps_of:=B2 (P:=l.prog) (w:=w) (base:=base) D_steps_of T;have C_wire_of:=Z0s (P:=l.prog) (w:=w) (base:=base) D_wire_of T;have C_is_rise:=Z21 (P:=l.prog) (w:=w) (base:=base) D_is_rise T;have C_takes_of:=At (P:=l.prog) (w:=w) (base:=base) D_takes_of T;have C_fills_of:=Ai (P:=l.prog) (w:=w) (base:=base) D_fills_of T;have C_bits:=Z9s (P:=l.prog) (w:=w) (base:=base) D_bits T;have C_has_one:=Z19 (P:=l.prog) (w:=w) (base:=base) D_has_one T;have C_can:=Zeh (P:=l.prog) (w:=w) (base:=base) D_can T C_bits C_takes_of;have C_behind:=Z2q (P:=l.prog) (w:=w) (base:=base) D_behind T M_0.x M_1.x C_wire_of C_bits C_has_one C_is_rise C_fills_of C_takes_of;have C_steps_at:=Aj (P:=l.prog) (w:=w) (base:=base) D_steps_at T C_can;have C_way:=Zd2 (P:=l.prog) (w:=w) (base:=base) D_way T;have C_come_to:=Z1o (P:=l.prog) (w:=w) (base:=base) D_come_to T M_0 M_1 C_behind C_way;have C_stands:=Z2v (P:=l.prog) (w:=w) (base:=base) D_stands T M_2 C_steps_at C_come_to;have C_is_called:=Fh (P:=l.prog) (w:=w) (base:=base) D_is_called T C_can C_steps_of;have C_wants:=Z7k (P:=l.prog) (w:=w) (base:=base) D_wants T C_is_called;have C_robs:=Zbg (P:=l.prog) (w:=w) (base:=base) D_robs T C_bits C_takes_of C_fills_of;have C_touches_made:=Ln (P:=l.prog) (w:=w) (base:=base) D_touches_made T C_is_made C_wire_of;have C_rivals:=Z4t (P:=l.prog) (w:=w) (base:=base) D_rivals T C_touches_made C_robs;have C_sound:=Z81 (P:=l.prog) (w:=w) (base:=base) D_sound T M_3 C_stands C_rivals C_steps_at C_way.d;have C__law_mix:=Aq (P:=l.prog) (w:=w) (base:=base) D__law_mix T;have C__law_word:=Xv (P:=l.prog) (w:=w) (base:=base) D__law_word T;have C__law_order:=Pp (P:=l.prog) (w:=w) (base:=base) D__law_order T C__law_mix;have C__law_arrows:=Ni (P:=l.prog) (w:=w) (base:=base) D__law_arrows T C__law_mix;have C__law_graph:=Px (P:=l.prog) (w:=w) (base:=base) D__law_graph T C__law_order C__law_mix C__law_arrows C__law_word;have C__law_choice:=N5 (P:=l.prog) (w:=w) (base:=base) D__law_choice T C__law_mix C__law_word;have C__law_lookers:=Ls (P:=l.prog) (w:=w) (base:=base) D__law_lookers T;have C__law_can:=C3 (P:=l.prog) (w:=w) (base:=base) D__law_can T;have C__law_done:=Fs (P:=l.prog) (w:=w) (base:=base) D__law_done T;have C__law_free_graph:=E5 (P:=l.prog) (w:=w) (base:=base) D__law_free_graph T C__law_word;have C__law_refusal:=Lc (P:=l.prog) (w:=w) (base:=base) D__law_refusal T C_sound;have C__law_some:=Fo (P:=l.prog) (w:=w) (base:=base) D__law_some T C__law_can C_wants;have C__law_stay:=Fp (P:=l.prog) (w:=w) (base:=base) D__law_stay T C_wants;exact Zcn F33 T C__law_mix C__law_refusal C__law_free_graph C__law_lookers C__law_some C__law_done C__law_choice C__law_graph C__law_stay Zbx
theorem Zh3 {l:PySem.W.OpenLaw} {q:Program} {loose:List Str} {XP:(Str->Option Value)->Heap->Prop} {YP:World->Heap->Prop} {d:DefRec} {K:Params->PySem.W.Frag} (hn:l.most=some 63) (hdf:d.params.defaults=[])
  (hY:∀ (w:World) (h:Heap),YP w h->(K w.params).In h)
  (F:∀ (w:World) (mg:Str->Option Value) (fa:Addr) (h:Heap),(K w.params).In h->h.Ns mainGlobals mg->mg d.name=some (.ref fa) ->
   ∃ fd:FuncData,(∀ (s:Shared) (u:Value),BindsTo s fd ⟨[u],[]⟩ [("_law_script",u)])/\∀ base:Heap,(K w.params).In base->base.Ns mainGlobals mg->FnOk l.prog w (K w.params) mg base D9 8 fa fd N51_ (Xn (K w.params))) :
  PySem.W.WalkO q loose XP YP l.row.toRowW d [] (fun f vs=>PySem.call f vs) :=
 L2.Zeo (n:=63) (k:=8) (x:="_law_script") (CX:=fun _=>D9) (sp:=fun w=>Xn (K w.params)) hn (by decide) hdf ⟨rfl,by decide,by decide,rfl⟩ hY F (fun _ _ a ns hl _ hS=>⟨a,ns,rfl,hS,hl,fun _=>rfl⟩) fun _ _ _ _ _ z=>z
end K34
open PySem PySem.W PyProof.Rows
set_option maxRecDepth 100000 in
set_option maxHeartbeats 0 in
theorem PySem.Challenge.cw_calmwires_k34_whole_calls_stay_holds : PySem.Challenge.rw_calmwires_k34_whole_calls_stay.Holds := by
 refine theTop ?_
 k_fill;refine K34.Zh3 (l:=PySem.Challenge.rw_calmwires_k34_whole_calls_stay) rfl rfl (fun w h Y=>PySem.W.kIn_of Y) ?F
 case F =>
   intro w mg fa h KX G hmg;refine' K34.Zg0 KX G hmg ?a0 ?a1 ?a2 ?a3 ?a4 ?a5 ?a6 ?a7 ?a8 ?a9 ?a10 ?a11 ?a12 ?a13 ?a14 ?a15 ?a16 ?a17 ?a18 ?a19 ?a20 ?a21 ?a22 ?a23 ?a24 ?a25 ?a26 ?a27 ?a28 ?a29 ?a30 ?a31 ?a32 ?a33 ?l33 ?c33 ?k33 ?z_abs ?z_all ?z_any ?z_enumerate ?z_isinstance ?z_len ?z_list ?z_max ?z_min ?z_range ?z_reversed ?z_sorted ?z_str ?z_sum ?z_tuple ?y_0 ?y_3 ?y_1 ?y_2 ?y_8 ?b0 ?b1 ?b2 ?o_0 ?n_0 ?jl_0 ?w_0 ?p_0 ?g_0 ?h_0 ?x_0 ?ra_0 ?rb_0 ?rc_0 ?rd_0 ?re_0_by ?re_0_lost ?re_0_way ?s_0 ?e_0_0 ?e_0_3 ?e_0_1 ?o_1 ?n_1 ?jl_1 ?w_1 ?p_1 ?g_1 ?h_1 ?x_1 ?ra_1 ?rb_1 ?rc_1 ?rd_1 ?re_1_by ?re_1_lost ?re_1_way ?s_1 ?e_1_0 ?e_1_3 ?e_1_1 ?o_2 ?n_2 ?jl_2 ?w_2 ?p_2 ?g_2 ?h_2 ?x_2 ?ra_2 ?rb_2 ?rc_2 ?rd_2 ?re_2_by ?re_2_lost ?re_2_way ?s_2 ?e_2_0 ?e_2_3 ?e_2_1 ?o_3 ?n_3 ?jl_3 ?w_3 ?p_3 ?g_3 ?h_3 ?x_3 ?ra_3 ?rb_3 ?rc_3 ?rd_3 ?re_3_by ?re_3_lost ?re_3_way ?s_3 ?e_3_0 ?e_3_3 ?e_3_1
   case a33 | l33 | c33 | k33 | z_abs | z_all | z_any | z_enumerate | z_isinstance | z_len | z_list | z_max | z_min | z_range | z_reversed | z_sorted | z_str | z_sum | z_tuple | y_0 | y_3 | y_1 | y_2 | y_8 | b0 | b1 | b2 | o_0 | n_0 | jl_0 | w_0 | p_0 | g_0 | h_0 | ra_0 | rb_0 | rc_0 | rd_0 | re_0_by | re_0_lost | re_0_way | o_1 | n_1 | jl_1 | w_1 | p_1 | g_1 | h_1 | ra_1 | rb_1 | rc_1 | rd_1 | re_1_by | re_1_lost | re_1_way | o_2 | n_2 | jl_2 | w_2 | p_2 | g_2 | h_2 | ra_2 | rb_2 | rc_2 | rd_2 | re_2_by | re_2_lost | re_2_way | o_3 | n_3 | jl_3 | w_3 | p_3 | g_3 | h_3 | ra_3 | rb_3 | rc_3 | rd_3 | re_3_by | re_3_lost | re_3_way=>first | k_is | (unfold K34.DA;k_is) | (unfold K34.DL;k_is)
   case a0 | a1 | a2 | a3 | a4 | a5 | a6 | a7 | a8 | a9 | a10 | a11 | a12 | a13 | a14 | a15 | a16 | a17 | a18 | a19 | a20 | a21 | a22 | a23 | a24 | a25 | a26 | a27 | a28 | a29 | a30 | a31 | a32=>refine' K34.ddI ?h1 ?h2 ?h3 ?h4;case h1 | h2 | h3 | h4=>k_is
   case x_0 | x_1 | x_2 | x_3=>kernel_rfl!
   case s_0 | e_0_0 | e_0_3 | e_0_1 | s_1 | e_1_0 | e_1_3 | e_1_1 | s_2 | e_2_0 | e_2_3 | e_2_1 | s_3 | e_3_0 | e_3_3 | e_3_1=>kts_exm
