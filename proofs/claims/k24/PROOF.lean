import PyProof.Rows.All
import Wide.All
import OpenK.AllK
import Wide.FinOn
import Lean
import PyProof.EqAt
import PyProof.EqKinds
import PyProof.TupleCall
import PyProof.ExcClass3
import PyProof.ExcInit
import PyProof.RulesTry
import PyProof.RulesAs
import PyProof.CodeObj
import PyProof.FactsLen
import PyProof.DictTruth
import KE.KRevIter
import PyProof.ListRange
import PyProof.ExcBaseAll.ValueError
import PyProof.InstStoreFacts
import PyProof.ExcArgsOwn
import KE.KIsAll
import PyProof.IsiBase
import PyProof.ReprRoads
import PyProof.NsDelKeeps
import KE.KTryMore
import PyProof.Rows.SortPure
import PyProof.Rows.SortShell
import KE.KIntText
import PyProof.Rows.StrItems
import PyProof.ZipIter
import PyProof.DictKeyH
import KE.RegKIsAll
import KE.RegKTryMore
import PyProof.Rows.KernelRfl
import PySem.Challenge.RW_calmwires_k24_refused_stands
set_option Elab.async false
set_option linter.all false
namespace L2
open PySem PySem.W
noncomputable def pT (l:List Obj):BT->Nat->Option BT :=
 @List.rec Obj (fun _=>BT->Nat->Option BT) (fun t _=>some t) (fun o _ ih t n=>bif ((t.ins n o).get n).isSome then ih (t.ins n o) (n + 1) else none) l
theorem pTo (life:Life):∀ {l:List Obj} {t t' : BT} {n:Nat},pT l t n = some t'->absHeap t' (n + l.length) life = ⟨(absHeap t n life).objs++l.toArray,life⟩
 | [],t,t',n,h=>by
  cases h
  show absHeap t n life = _
  simp
  rfl
 | o :: r,t,t',n,h=>by
  have h' : (bif ((t.ins n o).get n).isSome then pT r (t.ins n o) (n + 1) else none) = some t':=h
  cases e:((t.ins n o).get n).isSome with
  | false=>rw [e] at h'; cases h'
  | true =>
   rw [e] at h'
   have i:=pTo life (l:=r) h'
   rw [absHeap_ins e] at i
   rw [show n + (o :: r).length = n + 1 + r.length by simp only [List.length_cons]; omega,i]
   show Heap.mk ((absHeap t n life).objs.push o++r.toArray) life = _
   congr 1
   apply Array.toList_inj.mp
   simp
noncomputable def pn (s:Shared):Option SharedT:=(pT s.heap.objs.toList .nil 0).map fun t=>⟨t,s.heap.objs.size,s.heap.life,s.gens,s.drawn,s.toks,s.os⟩
theorem po {s:Shared} {S:SharedT} (h:pn s = some S):S.abs = s:=by
 obtain ⟨t,e,rfl⟩:=Option.map_eq_some_iff.mp h
 have i:=pTo s.heap.life e
 obtain ⟨⟨objs,life⟩,gens,drawn,toks,os⟩:=s
 show Shared.mk (absHeap t objs.size life) gens drawn toks os = _
 have j:absHeap t objs.size life = ⟨objs,life⟩:=by
  rw [Nat.zero_add] at i
  have k:(absHeap BT.nil 0 life).objs = #[]:=rfl
  simp only [k] at i
  rw [show objs.size = objs.toList.length from rfl,i]
  simp
 rw [j]
noncomputable def goT (st:SharedT->Thread->Option (SharedT × Thread)) (ok:Thread->Bool) (n:Nat):SharedT->Thread->Option SharedT :=
 @Nat.rec (fun _=>SharedT->Thread->Option SharedT) (fun _ _=>none) (fun _ ih s t=>bif through t then some s else bif ok t then (st s t).bind fun z=>ih z.1 z.2 else none) n
theorem gTo {tb:String->Option Builtin} {p:Program} {w:World} {m:Nat} {a:Option Value}:∀ {n:Nat} {s s' : SharedT} {t:Thread},goT (stepT (denote tb) p w) (stepOk m a) n s t = some s'->topRun tb p w m a n s.abs t = some s'.abs
 | 0,_,_,_,h=>nomatch h
 | n + 1,s,s',t,h=>by
  have h' : (bif through t then some s else bif stepOk m a t then (stepT (denote tb) p w s t).bind fun z=>goT (stepT (denote tb) p w) (stepOk m a) n z.1 z.2 else none) = some s':=h
  unfold topRun
  cases e:through t with
  | true=>rw [e] at h'; cases h'; rfl
  | false =>
   rw [e] at h'
   cases e2:stepOk m a t with
   | false=>rw [e2] at h'; cases h'
   | true =>
    rw [e2] at h'
    obtain ⟨⟨s2,t2⟩,e3,e4⟩:=Option.bind_eq_some_iff.mp h'
    rw [stepT_spec e3]
    exact gTo e4
noncomputable def aT (tb:String->Option Builtin) (p:Program) (w:World) (N:Nat) (z:Shared):Option Shared :=
 bif z.heap.isNs mainGlobals && z.gens.size == 0 then
  (pn z).bind fun S=>(goT (stepT (denote tb) p w) (stepOk z.heap.objs.size (z.heap.nsMap mainGlobals "__annotations__")) N S (topStub p)).bind fun y =>
   bif staticsOk (importedModules p.main.body) z.heap y.abs.heap && namesBound p y.abs.heap && gensDone y.abs && laidKept z.heap y.abs.heap then some y.abs else none
 else none
theorem aTo {tb:String->Option Builtin} {p:Program} {w:World} {N:Nat} {z y:Shared} (h:aT tb p w N z = some y):topFrom tb p w N z = some y:=by
 unfold aT at h
 unfold topFrom
 cases e:(z.heap.isNs mainGlobals && z.gens.size == 0) with
 | false=>rw [e] at h; cases h
 | true =>
  rw [e] at h
  obtain ⟨S,e1,h⟩:=Option.bind_eq_some_iff.mp h
  obtain ⟨Y,e2,h⟩:=Option.bind_eq_some_iff.mp h
  have r:=gTo e2
  rw [po e1] at r
  dsimp only
  rw [r]
  cases e3:(staticsOk (importedModules p.main.body) z.heap Y.abs.heap && namesBound p Y.abs.heap && gensDone Y.abs && laidKept z.heap Y.abs.heap) with
  | false=>rw [e3] at h; cases h
  | true =>
   rw [e3] at h
   cases h
   show (match staticsOk (importedModules p.main.body) z.heap Y.abs.heap && namesBound p Y.abs.heap && gensDone Y.abs && laidKept z.heap Y.abs.heap with | true=>_ | false=>_) = _
   rw [e3]
theorem l2 {p q:Program} {loose:List PySem.Str} {Xt:Shared->Bool} {α:Type} {Yf:Shared->α} {Ya:World->α} {N:Nat} {g0:Bool}
  (h1:∀ w,((fencedOpening treeTable p w N).bind (aT treeTable p w N)).map (fun s=>openSeen q loose (importedModules p.main.body) Xt g0 s) = some (openGood q loose))
  (h2:∀ w,((fencedOpening treeTable p w N).bind (aT treeTable p w N)).map Yf = some (Ya w)):LeftO p q loose Xt Yf Ya N g0:=fun w=>by
 obtain ⟨s,e,e2⟩:=Option.map_eq_some_iff.mp (h1 w)
 have h3:=h2 w
 rw [e] at h3
 obtain ⟨z,e3,e4⟩:=Option.bind_eq_some_iff.mp e
 unfold openEnds
 rw [e3]
 show (topFrom treeTable p w N z).map _ = _
 rw [aTo e4]
 show some (openSeen q loose (importedModules p.main.body) Xt g0 s,Yf s) = _
 rw [e2,show Yf s = Ya w from Option.some.inj h3]
end L2
section
open PySem PySem.W PyProof.Rows PySem.W.Fast
lay_quick PySem.Challenge.pw_calmwires_k24_refused_stands
local macro_rules | `(tactic| refine $f:ident $as*) => do if (f.getId.toString.splitOn "holds_open").length > 1 then `(tactic| (refine' $f $as*; case' $(Lean.mkIdent `hl):ident => (refine' L2.l2 (fun w => ?_) (fun w => ?_); (· unfold fencedOpening L2.aT; rw [show PySem.Challenge.rw_calmwires_k24_refused_stands.row.prog = _ from te9340031667110924186,te10156331382660048174,te11892475500146522536,te6613529449190102663,te10274390034422433532,te14289696077712309145,te14364793385576792824,te1435165496053646825,te8920871248978507458,te4187177175401517315]; kernel_rfl!); (· unfold fencedOpening L2.aT; rw [show PySem.Challenge.rw_calmwires_k24_refused_stands.row.prog = _ from te9340031667110924186,te10156331382660048174,te11892475500146522536,te6613529449190102663,te10274390034422433532,te14289696077712309145,te14364793385576792824,te1435165496053646825,te8920871248978507458]; kernel_rfl!)))) else Lean.Macro.throwUnsupported
set_option maxRecDepth 100000 in
set_option maxHeartbeats 0 in
open_top theTop for PySem.Challenge.rw_calmwires_k24_refused_stands
end
open List (mem_filter mem_range filterMap_cons mem_cons_self mem_cons_of_mem mem_cons mem_append mem_append_left mem_append_right size_toArray append_nil nodup_cons of_mem_zip length_take getElem?_append_left getElem?_map mem_of_getElem? length_append length_map length_replicate length_drop map_nil map_cons length_singleton lookup_cons all_eq_true mem_map mem_singleton length_cons all_cons any_cons any_map drop_eq_getElem_cons take_succ_cons length_range drop_zero take_of_length_le length_eq_zero_iff reverse_cons getElem?_eq_none length_set getElem?_set find?_cons nodup_nil mem_map_of_mem getElem?_eq_getElem getElem_mem map_append nodup_append mem_replicate map_map any_eq_true map_take idxOf_cons take_succ forall_mem_cons)
open PySem.W (instObj methodObj lookIn plainGet kitx_list kitx_tuple kitx_dict cellsFrom_some fnOf codeIn codeRec_of mg_of mg_none_of)
open Nat (lt_of_lt_of_le lt_irrefl ne_of_lt le_trans le_of_lt le_refl le_of_eq lt_of_le_of_lt le_succ zero_le not_lt pow_le_pow_right lt_or_ge testBit_or testBit_two_pow eq_of_testBit_eq mod_lt two_pow_pos testBit_xor testBit_and eq_zero_or_pos)
open PySem.Heap (lt_size SameBut get?_push_of_some get?_push_size get?_update_other size_push get?_update_self ExtBut size_update)
noncomputable section
set_option Elab.async false
set_option linter.all false
set_option maxRecDepth 100000
namespace L2
open PySem PySem.Spec PyProof.Rows
abbrev Ug:=Sum Int Str
def Nm:Ug->Value->Bool
 | .inl k,v=>Value.isInt k v
 | .inr x,v=>Value.isStrOf x v
def Zeg (w:World):Ug->Int
 | .inl k=>hashInt k
 | .inr x=>hashStr w x
theorem Wm:∀ {k:Ug} {v:Value},Nm k v=true->(∃ i t,k=Sum.inl i/\v=Value.int i t)\/(∃ x t,k=Sum.inr x/\v=Value.str x t)
 | .inl i,v,h=>by
  obtain ⟨t,e⟩:=Value.isInt_shape (k:=i) (v:=v) h;exact .inl ⟨i,t,rfl,e⟩
 | .inr x,v,h=>by
  obtain ⟨t,e⟩:=Value.isStrOf_shape (x:=x) (v:=v) h;exact .inr ⟨x,t,rfl,e⟩
theorem Cs (i:Int) (t:Tok):Nm (.inl i) (.int i t)=true:=by simp [Nm,Value.isInt]
theorem Z0s (x:Str) (t:Tok):Nm (.inr x) (.str x t)=true:=by simp [Nm,Value.isStrOf]
theorem Z8y (a b:Int):decide ((Sum.inl a:Ug)=Sum.inl b)=(a==b):=by
 by_cases e:a=b
 ·subst e;simp
 ·have h:¬ (Sum.inl a:Ug)=Sum.inl b:=fun q=>e (Sum.inl.inj q)
  rw [decide_eq_false h];exact (beq_eq_false_iff_ne.mpr e).symm
theorem Zaj (a b:Str):decide ((Sum.inr a:Ug)=Sum.inr b)=decide (a=b):=by
 by_cases e:a=b
 ·subst e;simp
 ·have h:¬ (Sum.inr a:Ug)=Sum.inr b:=fun q=>e (Sum.inr.inj q)
  rw [decide_eq_false h,decide_eq_false e]
theorem Z80 (a:Int) (b:Str):decide ((Sum.inl a:Ug)=Sum.inr b)=false:=decide_eq_false (fun q=>nomatch q)
theorem Z7z (a:Str) (b:Int):decide ((Sum.inr a:Ug)=Sum.inl b)=false:=decide_eq_false (fun q=>nomatch q)
def V6 (prog:Program) (w:World):PySem.KeyKind prog w Ug where
 is:=Nm
 hash:=Zeg w
 inj:=fun v a b ha hb=>by
  rcases Wm ha with ⟨i,t,rfl,rfl⟩ | ⟨x,t,rfl,rfl⟩
  ·rcases Wm hb with ⟨j,u,rfl,e⟩ | ⟨y,u,rfl,e⟩
   ·injection e with e1 _;rw [e1]
   ·exact nomatch e
  ·rcases Wm hb with ⟨j,u,rfl,e⟩ | ⟨y,u,rfl,e⟩
   ·exact nomatch e
   ·injection e with e1 _;rw [e1]
 byValue:=fun k v h=>by
  rcases Wm h with ⟨i,t,rfl,rfl⟩ | ⟨x,t,rfl,rfl⟩<;>rfl
 pyHash:=fun hv h=>by
  rcases Wm hv with ⟨i,t,rfl,rfl⟩ | ⟨x,t,rfl,rfl⟩
  ·exact wpAny_pyHash_int h
  ·exact wpAny_pyHash_str h
 eqBool:=fun hu hv h=>by
  rcases Wm hu with ⟨i,t,rfl,rfl⟩ | ⟨x,t,rfl,rfl⟩
  ·rcases Wm hv with ⟨j,u,rfl,rfl⟩ | ⟨y,u,rfl,rfl⟩
   ·rw [Z8y] at h;exact wpAny_eqBool_int h
   ·rw [Z80] at h;exact SeqAt.EqAt.int_str i t y u _ _ _ _ h
  ·rcases Wm hv with ⟨j,u,rfl,rfl⟩ | ⟨y,u,rfl,rfl⟩
   ·rw [Z7z] at h;exact SeqAt.EqAt.str_int x t j u _ _ _ _ h
   ·rw [Zaj] at h;exact wpAny_eqBool_str h
 «strs» := fun k x t v h=>by
  rcases Wm h with ⟨i,u,rfl,e⟩ | ⟨y,u,rfl,e⟩
  ·exact nomatch e
  ·injection e with e1 _
   subst e1;cases v<;>rfl
theorem Px (prog:Program) (w:World) (i:Int) (t:Tok):(V6 prog w).is (.inl i) (.int i t)=true:=Cs i t
theorem Xh (prog:Program) (w:World) (x:Str) (t:Tok):(V6 prog w).is (.inr x) (.str x t)=true:=Z0s x t
inductive V where
 | non | bl (b:Bool) | int (i:Int) | str (x:Str) | byt (b:Array UInt8) | flt (b:UInt64) | ref (a:Addr) | ty (n:String)
 deriving DecidableEq
def Yo:V->Value->Prop
 | .non,u=>u=Value.none
 | .bl b,u=>u=Value.bool b
 | .int i,u=>∃ t,u=Value.int i t
 | .str x,u=>∃ t,u=Value.str x t
 | .byt b,u=>∃ t,u=Value.bytes b t
 | .flt b,u=>∃ t,u=Value.float b t
 | .ref a,u=>u=Value.ref a
 | .ty n,u=>u=Value.type n
abbrev Y3:List V->List Value->Prop:=Paired Yo
theorem Y3.length {xs:List V} {us:List Value} (r:Y3 xs us):xs.length=us.length:=Paired.length r
theorem Y3.get:∀ {xs:List V} {us:List Value} {i:Nat} {x:V},Y3 xs us->xs[i]?=some x->∃ u,us[i]?=some u/\Yo x u
 | _,_,_,_,.nil,e=>by simp at e
 | _,_,0,_,.cons r _,e=>by simp at e;subst e;exact ⟨_,rfl,r⟩
 | _,_,i+1,x,.cons _ t,e=>by
  obtain ⟨u,h1,h2⟩:=Y3.get (i:=i) (x:=x) t (by simpa using e);exact ⟨u,by simpa using h1,h2⟩
theorem Y3.append:∀ {xs ys:List V} {us ws:List Value},Y3 xs us->Y3 ys ws->Y3 (xs++ys) (us++ws)
 | _,_,_,_,.nil,s=>s
 | _,_,_,_,.cons r t,s=>.cons r (Y3.append t s)
theorem Y3.take:∀ {xs:List V} {us:List Value} (n:Nat),Y3 xs us->Y3 (xs.take n) (us.take n)
 | _,_,0,_=>.nil
 | _,_,_+1,.nil=>.nil
 | _,_,n+1,.cons r t=>.cons r (Y3.take n t)
theorem Y3.drop:∀ {xs:List V} {us:List Value} (n:Nat),Y3 xs us->Y3 (xs.drop n) (us.drop n)
 | _,_,0,r=>r
 | _,_,_+1,.nil=>.nil
 | _,_,n+1,.cons _ t=>Y3.drop n t
def Lk:Option V->Option Value->Prop
 | some v,some u=>Yo v u
 | none,none=>True
 | _,_=>False
def KV {κ:Type}:List (κ×V)->List (κ×Value)->Prop:=Paired fun (p:κ×V) (q:κ×Value)=>p.1=q.1/\Yo p.2 q.2
def kV:Ug->V
 | .inl i=>.int i
 | .inr x=>.str x
inductive HO where
 | lst (xs:List V)
 | tup (xs:List V)
 | dK (kvs:List (Ug×V)) | dT (kvs:List (List Ug×V))
 | set (S:Int->Bool) (n:Nat)
 | ins (C dx:Addr) (fs:List (Str×V))
 | own (x:Addr)
 | xd (fs:List (Str×V))
 | met (f x:Addr)
 | rng (lo hi:Int)
 | frz (o:Obj) (u:HO)
 | tbl (ps:Array Value)
 | ext (φ:Heap->Prop)
abbrev Hp:=Addr->Option HO
def W4 (H:Hp) (a:Addr) (o:HO):Hp:=fun b=>if b=a then some o else H b
theorem Zs {H:Hp} {a:Addr} {o:HO}:W4 H a o a=some o:=by unfold W4;rw [if_pos rfl]
theorem Zh {H:Hp} {a b:Addr} {o:HO} (h:b≠a):W4 H a o b=H b:=by unfold W4;rw [if_neg h]
theorem Z7q {H:Hp} {a b:Addr} {o u:HO} (h:H a=some o) (h':H b=some u) (d:o≠u):a≠b:=by
 intro e;subst e;rw [h] at h';exact d (Option.some.inj h')
theorem Y4 {H:Hp} {a b:Addr} {o:HO} (h:H a=some o) (h':H b=none):a≠b:=by
 intro e;subst e;rw [h] at h';cases h'
section
variable (P:Program) (w:World)
def Yy (H:Hp) (h:Heap) (a:Addr):HO->Prop
 | .lst xs=>xs.length<=sizeLine/\∃ (its:List Value) (n:Nat),Y3 xs its/\h.get? a=some { cls:=.type "list",data:=.seq its.toArray n }
 | .tup xs=>xs.length<=sizeLine/\∃ its:List Value,Y3 xs its/\IsTup h a its.toArray
 | .dK kvs=>kvs.length<=sizeLine/\(a==sysModules)=false/\∃ vs,KV kvs vs/\h.DictOf (V6 P w) a vs
 | .dT kvs=>kvs.length<=sizeLine/\(a==sysModules)=false/\∃ xs:List (List Ug×Addr×Value),
  Paired (fun (p:List Ug×V) (q:List Ug×Addr×Value)=>p.1=q.1/\H q.2.1=some (.tup (p.1.map kV))/\Yo p.2 q.2.2) kvs xs /\
  ∃ o es ep,h.get? a=some o/\o.ExactDict/\o.data=.dict es ep/\es.toList=xs.map (entryOfKey (tupleKind (V6 P w)))/\(xs.map (·.1)).Nodup
 | .set S n=>h.SetOf (intKind P w) a S n
 | .ins C dx fs=>H dx=some (.own a)/\fs.length<=1000/\dx≠a/\h.get? a=some (instObj C dx) /\
  ∃ mA,h.Ns1 dx mA/\(∀ f,Lk (fs.lookup f) (mA f))/\PySem.Within mA (fs.map (·.1))
 | .own _=>∃ o,h.get? a=some o
 | .xd fs=>∃ mA,h.Ns1 a mA/\∀ f,Lk (fs.lookup f) (mA f)
 | .rng lo hi=>∃ t u v,h.get? a=some { cls:=.type "range",data:=.fields #[.int lo t,.int hi u,.int 1 v] }
 | .frz o u=>h.get? a=some o/\Yy H h a u
 | .tbl ps=>h.get? a=some { cls:=.none,data:=.fields ps }
 | .met f x=>h.get? a=some (methodObj (.ref f) (.ref x))
 | .ext φ=>φ h/\(∃ o,h.get? a=some o)/\∀ h1 h2:Heap,φ h1->(∀ o,h1.get? a=some o->h2.get? a=some o)->φ h2
def Mp (H:Hp) (h:Heap):Prop:=∀ a o,H a=some o->Yy P w H h a o
end
section
variable {P:Program} {w:World} {H H':Hp} {h h':Heap} {a:Addr} {o:HO}
theorem Yy.lt (x:Yy P w H h a o):a<h.objs.size:=by
 cases o with
 | lst xs=>obtain ⟨_,_,_,_,e⟩:=x;exact lt_size e
 | tup xs=>obtain ⟨_,_,_,p⟩:=x;exact p.lt
 | dK kvs=>obtain ⟨_,_,_,_,o,_,_,e,_⟩:=x;exact lt_size e
 | dT kvs=>obtain ⟨_,_,_,_,o,_,_,e,_⟩:=x;exact lt_size e
 | set S n=>obtain ⟨o,_,_,_,e,_⟩:=x;exact lt_size e
 | ins C dx fs=>obtain ⟨_,_,_,e,_⟩:=x;exact lt_size e
 | own y=>obtain ⟨_,e⟩:=x;exact lt_size e
 | xd fs=>obtain ⟨_,⟨_,_,_,e,_⟩,_⟩:=x;exact lt_size e
 | rng lo hi=>obtain ⟨_,_,_,e⟩:=x;exact lt_size e
 | frz ob u=>obtain ⟨e,_⟩:=x;exact lt_size e
 | tbl ps=>exact lt_size (show h.get? a=some _ from x)
 | met f y=>exact lt_size (show h.get? a=some _ from x)
 | ext φ=>obtain ⟨_,⟨_,e⟩,_⟩:=x;exact lt_size e
theorem Paired.mapP {α β:Type} {F G:α->β->Prop}:∀ {l₁:List α} {l₂:List β},Paired F l₁ l₂->(∀ a b,F a b->G a b)->Paired G l₁ l₂
 | _,_,.nil,_=>.nil
 | _,_,.cons r t,f=>.cons (f _ _ r) (Paired.mapP t f)
theorem Yy.stay (x:Yy P w H h a o) (k:∀ b u,(b=a\/H b=some (.own a))->h.get? b=some u->h'.get? b=some u)
  (ho:∀ b,H b=some (.own a)->H' b=some (.own a)) (ht:∀ b xs,H b=some (.tup xs)->H' b=some (.tup xs)):Yy P w H' h' a o:=by
 induction o with
 | lst xs=>obtain ⟨z,its,n,r,e⟩:=x;exact ⟨z,its,n,r,k _ _ (.inl rfl) e⟩
 | tup xs=>obtain ⟨z,its,r,ob,e,c⟩:=x;exact ⟨z,its,r,ob,k _ _ (.inl rfl) e,c⟩
 | dK kvs=>obtain ⟨z,y,vs,r,ob,es,ep,e,c⟩:=x;exact ⟨z,y,vs,r,ob,es,ep,k _ _ (.inl rfl) e,c⟩
 | dT kvs =>
  obtain ⟨z,y,xs,r,ob,es,ep,e,c⟩:=x;exact ⟨z,y,xs,Paired.mapP r fun p q z=>⟨z.1,ht _ _ z.2.1,z.2.2⟩,ob,es,ep,k _ _ (.inl rfl) e,c⟩
 | set S n=>obtain ⟨ob,es,ep,t,e,c⟩:=x;exact ⟨ob,es,ep,t,k _ _ (.inl rfl) e,c⟩
 | ins C dx fs =>
  obtain ⟨d,z,ne,e,mA,⟨od,es,ep,e2,c⟩,r⟩:=x;exact ⟨ho _ d,z,ne,k _ _ (.inl rfl) e,mA,⟨od,es,ep,k _ _ (.inr d) e2,c⟩,r⟩
 | own y=>obtain ⟨ob,e⟩:=x;exact ⟨ob,k _ _ (.inl rfl) e⟩
 | xd fs=>obtain ⟨mA,⟨od,es,ep,e,c⟩,r⟩:=x;exact ⟨mA,⟨od,es,ep,k _ _ (.inl rfl) e,c⟩,r⟩
 | rng lo hi=>obtain ⟨t,u,v,e⟩:=x;exact ⟨t,u,v,k _ _ (.inl rfl) e⟩
 | frz ob u ih=>obtain ⟨e,q⟩:=x;exact ⟨k _ _ (.inl rfl) e,ih q⟩
 | tbl ps =>
  have e:h.get? a=some { cls:=.none,data:=.fields ps }:=x;show h'.get? a=some { cls:=.none,data:=.fields ps };exact k a _ (.inl rfl) e
 | met f y =>
  have e:h.get? a=some (methodObj (.ref f) (.ref y)):=x;show h'.get? a=some (methodObj (.ref f) (.ref y));exact k a _ (.inl rfl) e
 | ext φ=>obtain ⟨p,⟨o,e⟩,st⟩:=x;exact ⟨st _ _ p fun o q=>k _ _ (.inl rfl) q,⟨o,k _ _ (.inl rfl) e⟩,st⟩
theorem Mp.lt (x:Mp P w H h) (e:H a=some o):a<h.objs.size:=(x a o e).lt
theorem Mp.fresh (x:Mp P w H h) (e:h.objs.size<=a):H a=none:=by
 cases q:H a with
 | none=>rfl
 | some u=>exact absurd (lt_of_lt_of_le (x.lt q) e) (lt_irrefl _)
theorem Mp.kept (x:Mp P w H h) (k:∀ b u,h.get? b=some u->h'.get? b=some u):Mp P w H h':=fun a o e =>
 (x a o e).stay (fun b u _ q=>k b u q) (fun _ q=>q) fun _ _ q=>q
theorem Mp.laid (x:Mp P w H h) (k:∀ b u,h.get? b=some u->h'.get? b=some u) (hp:h.objs.size<=a) (new:Yy P w (W4 H a o) h' a o):Mp P w (W4 H a o) h':=fun b u e=>by
 have hn:=x.fresh hp;by_cases hb:b=a
 ·subst hb;rw [Zs] at e;cases e;exact new
 ·rw [Zh hb] at e
  exact (x b u e).stay (fun c v _ q=>k c v q) (fun c q=>by rw [Zh (Y4 q hn)];exact q) fun c xs q=>by rw [Zh (Y4 q hn)];exact q
end
def Rd (H:Hp) (a:Addr) (u:HO):Prop:=H a=some u\/∃ o,H a=some (.frz o u)
theorem Rd.of {H:Hp} {a:Addr} {u:HO} (h:H a=some u):Rd H a u:=.inl h
theorem Rd.ok {P:Program} {w:World} {H:Hp} {h:Heap} {a:Addr} {u:HO} (r:Rd H a u) (x:Mp P w H h):Yy P w H h a u:=by
 rcases r with r | ⟨o,r⟩
 ·exact x a u r
 ·obtain ⟨_,q⟩:=x a _ r
  exact q
def Mut:Option HO->Prop
 | some (.lst _)=>True
 | some (.dK _)=>True
 | some (.dT _)=>True
 | some (.set _ _)=>True
 | some (.ins _ _ _)=>True
 | some (.ext _)=>True
 | _=>False
section
variable {P:Program} {w:World} {H:Hp} {h h':Heap} {x e:Addr} {o':HO}
theorem Mp.write (ok:Mp P w H h) (mu:Mut (H x)) (he:e=x\/H e=some (.own x)) (k:∀ b u,b≠e->h.get? b=some u->h'.get? b=some u) (heo:∃ u,h'.get? e=some u)
  (new:Yy P w (W4 H x o') h' x o'):Mp P w (W4 H x o') h':=fun b u q=>by
 have nown:∀ c y,H c=some (.own y)->c≠x:=fun c y r z=>by subst z;rw [r] at mu;exact mu
 have ntup:∀ c xs,H c=some (.tup xs)->c≠x:=fun c xs r z=>by subst z;rw [r] at mu;exact mu
 by_cases hb:b=x
 ·subst hb;rw [Zs] at q;cases q;exact new
 ·rw [Zh hb] at q
  by_cases hbe:b=e
  ·have q':H b=some (.own x):=by
    rcases he with z | z
    ·exact absurd (hbe.trans z) hb
    ·rw [hbe];exact z
   rw [q] at q';cases q';obtain ⟨v,hv⟩:=heo;exact ⟨v,by rw [hbe];exact hv⟩
  ·refine (ok b u q).stay (fun c v hc r=>k c v ?_ r) (fun c r=>by rw [Zh (nown c b r)];exact r) fun c xs r=>by rw [Zh (ntup c xs r)];exact r
   rcases hc with rfl | hc
   ·exact hbe
   ·rintro rfl
    rcases he with z | z
    ·exact nown c b hc z
    ·rw [hc] at z;cases z;exact hb rfl
end
structure Un (fs ex:List Addr) (H H':Hp) (h h':Heap):Prop where
 keep:∀ b o,h.get? b=some o->H b=none->b∉fs->b∉ex->h'.get? b=some o
 slot:∀ b o,h.get? b=some o->H b=none->b∈fs->b∉ex->∃ sl,h'.get? b=some { o with slots:=sl }
 free:∀ b o,h.get? b=some o->H b=none->b∉ex->H' b=none
 there:∀ b o,h.get? b=some o->b∉ex->∃ o',h'.get? b=some o'
 tups:∀ b xs,H b=some (.tup xs)->H' b=some (.tup xs)
 frzs:∀ b o u,H b=some (.frz o u)->H' b=some (.frz o u)
 tbls:∀ b ps,H b=some (.tbl ps)->∃ more,H' b=some (.tbl (ps++more))
section
variable {fs fs' ex ex':List Addr} {H H1 H2:Hp} {h h1 h2 h':Heap} {a x e:Addr} {o:HO}
theorem Un.any (u:Un fs ex H H1 h h1) {b:Addr} {ob:Obj} (q:h.get? b=some ob) (n:H b=none) (hx:b∉ex):∃ sl,h1.get? b=some { ob with slots:=sl }:=by
 by_cases hb:b∈fs
 ·exact u.slot b ob q n hb hx
 ·exact ⟨ob.slots,u.keep b ob q n hb hx⟩
theorem Un.kept (k:∀ b u,h.get? b=some u->h'.get? b=some u):Un fs ex H H h h' :=
 ⟨fun b ob q _ _ _=>k b ob q,fun b ob q _ _ _=>⟨ob.slots,k b ob q⟩,fun _ _ _ n _=>n,fun b ob q _=>⟨ob,k b ob q⟩,fun _ _ q=>q,fun _ _ _ q=>q,fun _ ps q=>⟨#[],by rw [q];simp⟩⟩
theorem Un.refl:Un fs ex H H h h:=Un.kept fun _ _ q=>q
theorem Un.laid (k:∀ b u,h.get? b=some u->h'.get? b=some u) (hp:h.objs.size<=a) (hn:H a=none):Un fs ex H (W4 H a o) h h' where
 keep:=fun b u q _ _ _=>k b u q
 slot:=fun b u q _ _ _=>⟨u.slots,k b u q⟩
 free:=fun b u q n _=>by rw [Zh (ne_of_lt (lt_of_lt_of_le (lt_size q) hp))];exact n
 there:=fun b u q _=>⟨u,k b u q⟩
 tups:=fun b xs q=>by rw [Zh (Y4 q hn)];exact q
 frzs:=fun b u xs q=>by rw [Zh (Y4 q hn)];exact q
 tbls:=fun b ps q=>⟨#[],by rw [Zh (Y4 q hn),q];simp⟩
theorem Un.write (mu:Mut (H x)) (he:e=x\/H e=some (.own x)) (k:∀ b u,b≠e->h.get? b=some u->h'.get? b=some u) (heo:∃ u,h'.get? e=some u):Un fs ex H (W4 H x o) h h':=by
 have hx:∀ b,H b=none->b≠x:=fun b n z=>by subst z;rw [n] at mu;exact mu
 have hb:∀ b,H b=none->b≠e:=fun b n z=>by
  subst z;rcases he with r | r
  ·exact hx b n r
  ·rw [n] at r;cases r
 have hm:∀ b u,H b=some u->¬ Mut (some u)->b≠x:=fun b u q nm z=>by subst z;rw [q] at mu;exact nm mu
 refine ⟨fun b u q n _ _=>k b u (hb b n) q,fun b u q n _ _=>⟨u.slots,k b u (hb b n) q⟩,fun b u q n _=>by rw [Zh (hx b n)];exact n,fun b u q _=>?_,
  fun b xs q=>by rw [Zh (hm b _ q fun z=>z)];exact q,fun b u xs q=>by rw [Zh (hm b _ q fun z=>z)];exact q,fun b ps q=>⟨#[],by rw [Zh (hm b _ q fun z=>z),q];simp⟩⟩
 by_cases hbe:b=e
 ·subst hbe;exact heo
 ·exact ⟨u,k b u hbe q⟩
end
def trk (h:Heap) (H:Hp):List Addr:=(List.range h.objs.size).filter fun a=>(H a).isSome
def Oq (h:Heap) (H:Hp):Heap:=PySem.W.hideAll h (trk h H)
theorem Z14 (h:Heap) (H:Hp):(Oq h H).objs.size=h.objs.size:=PySem.W.hideAll_size _ _
theorem Z2k {h:Heap} {H:Hp} {b:Addr} {o:Obj} (e:h.get? b=some o) (n:H b=none):(Oq h H).get? b=some o :=
 PySem.W.hideAll_get _ e fun hm=>by
  have q:(H b).isSome=true:=(mem_filter.mp hm).2;rw [n] at q;simp at q
theorem Z4z {h:Heap} {H:Hp} {b:Addr} {o:Obj} (e:(Oq h H).get? b=some o):h.get? b=some o/\H b=none:=by
 have e':h.get? b=some o:=PySem.W.of_hideAll (trk h H) e;refine ⟨e',?_⟩;cases q:H b with
 | none=>rfl
 | some x =>
  have hm:b∈trk h H:=mem_filter.mpr ⟨mem_range.mpr (lt_size e'),by simp [q]⟩;have z:(Oq h H).get? b=none:=PySem.W.hideAll_none (trk h H) hm;rw [z] at e;cases e
structure Mod (K:PySem.W.Frag) (mg:Str->Option Value) (base:Heap):Prop where
 kin:K.In base
 glob:base.Ns mainGlobals mg
 blt:∃ mb,base.Ns builtinsNs mb/\∀ x:Str,x≠"__name__" -> mb x=bootBuiltins x
 nolimit:base.NoLimit
structure Cx where
 prog:Program
 w:World
 K:PySem.W.Frag
 mg:Str->Option Value
 base:Heap
 A:Around
 N:List Str
 s₀:Shared
 H₀:Hp
 env:Env
 outer:List Env
 stack:List Env
 ex:List Addr
 fn:Str->Bool
 calm:Bool
 pn:List (Addr×Obj)
 xe:Value->Shared->Prop
 pl:Bool:=false
def Sk (l:List Env):List Addr:=l.filterMap (·.frame)
abbrev Cx.fs (X:Cx):List Addr:=Sk X.outer
def Al (sc:Scope) (x:Str):Prop:=sc.names.lookup x=some .local\/sc.names.lookup x=some .cell\/sc.names.lookup x=some .free
def Pq (sc:Scope) (x:Str):Prop:=sc.names.lookup x=some .local\/sc.names.lookup x=some .cell
def Ze2 (env:Env) (h:Heap) (m:Str->Option Value) (x:Str) (u:Value):Prop :=
 (env.kindOf x=some .local/\m x=some u)\/((env.kindOf x=some .cell\/env.kindOf x=some .free)/\∃ c,env.cells.lookup x=some c/\h.IsCell c (some u))
structure Cx.Ok (X:Cx):Prop where
 mod:Mod X.K X.mg X.base
 kind:X.env.scope.kind=.function
 glob:X.env.globals=mainGlobals
 blt:X.env.builtins=builtinsNs
 above:X.s₀.heap.objs.size<=X.env.locals
 inj:∀ x y c,X.env.cells.lookup x=some c->X.env.cells.lookup y=some c->x=y
 has:∀ x,(X.env.kindOf x=some .cell\/X.env.kindOf x=some .free)->∃ c,X.env.cells.lookup x=some c
 cab:∀ x c,X.fn x=true->X.env.cells.lookup x=some c->X.s₀.heap.objs.size<=c
 hd:X.calm=true->X.A.handled=none
 frames:X.A.frames=some X.stack
 stk:X.stack=X.outer\/(X.stack=X.env::X.outer/\X.env.frame=some X.env.locals)
 exf:∀ b∈X.ex,b≠X.env.locals/\∀ x c,X.env.cells.lookup x=some c->c≠b
 bs:∀ b o,X.base.get? b=some o->X.s₀.heap.get? b=some o/\X.H₀ b=none
 bsz:X.base.objs.size<=X.s₀.heap.objs.size
 noex:∀ b o,X.base.get? b=some o->b∉X.ex
 exfs:∀ b∈X.ex,b∉X.fs
 funs:X.s₀.heap.FunFrames X.base X.outer
 frf:∀ b∈X.fs,X.H₀ b=none
structure Inv (X:Cx) (pins:List (Addr×Obj)) (σ:List (Option V)) (H:Hp) (s:Shared):Prop where
 ok:X.Ok
 os:s.os=X.s₀.os
 bare:AllBare s.gens
 base:Un X.fs X.ex X.H₀ H X.s₀.heap s.heap
 loc:∃ m,s.heap.Ns X.env.locals m/\∀ (i:Nat) (x:Str) (v:V),X.N[i]?=some x->σ[i]?=some (some v)->Al X.env.scope x->∃ u,Yo v u/\Ze2 X.env s.heap m x u
 cell:∀ x c,X.env.cells.lookup x=some c->∃ v,s.heap.IsCell c v
 free:H X.env.locals=none
 freeC:∀ x c,X.env.cells.lookup x=some c->H c=none
 pin:∀ p∈X.pn++pins,s.heap.get? p.1=some p.2/\H p.1=none/\p.1≠X.env.locals/\p.1∉X.fs/\∀ v,p.2.data≠.cell v
 hok:Mp X.prog X.w H s.heap
 len:σ.length=X.N.length
section
variable {X:Cx} {pins:List (Addr×Obj)} {σ:List (Option V)} {H H':Hp} {s:Shared} {h':Heap}
theorem Cx.Ok.nofr (ok:X.Ok) {b:Addr} {o:Obj} (e:X.base.get? b=some o):b∉X.fs:=fun hb=>by
 have:=(ok.funs.mem hb).1;rw [e] at this;cases this
theorem Inv.bs (I:Inv X pins σ H s):∀ b o,X.base.get? b=some o->s.heap.get? b=some o/\H b=none:=fun b o e =>
 ⟨I.base.keep b o (I.ok.bs b o e).1 (I.ok.bs b o e).2 (I.ok.nofr e) (I.ok.noex b o e),I.base.free b o (I.ok.bs b o e).1 (I.ok.bs b o e).2 (I.ok.noex b o e)⟩
theorem Inv.bk (I:Inv X pins σ H s):∀ b o,X.base.get? b=some o->s.heap.get? b=some o:=fun b o e=>(I.bs b o e).1
theorem Inv.mod (I:Inv X pins σ H s):Mod X.K X.mg X.base:=I.ok.mod
theorem Inv.kIn (I:Inv X pins σ H s):X.K.In s.heap:=I.ok.mod.kin.keeps I.bk
theorem Inv.lt (I:Inv X pins σ H s):X.env.locals<s.heap.objs.size:=let ⟨_,hn,_⟩:=I.loc;hn.lt
theorem Inv.sz (I:Inv X pins σ H s):X.s₀.heap.objs.size<=s.heap.objs.size:=le_trans I.ok.above (le_of_lt I.lt)
theorem Inv.nofs (I:Inv X pins σ H s) {a:Addr} (h:s.heap.objs.size<=a):a∉X.fs:=fun hb=>by
 obtain ⟨_,o,ho,_⟩:=I.ok.funs.mem hb;exact absurd (lt_of_lt_of_le (lt_size ho) (le_trans I.sz h)) (lt_irrefl _)
theorem Inv.cne (I:Inv X pins σ H s):∀ x c,X.env.cells.lookup x=some c->c≠X.env.locals:=fun x c e z=>by
 obtain ⟨v,o,ho,hd⟩:=I.cell x c e;obtain ⟨m,⟨o',es,ep,ho',hd',_⟩,_⟩:=I.loc;rw [z,ho'] at ho;cases ho;rw [hd'] at hd;cases hd
theorem Inv.funs (I:Inv X pins σ H s):s.heap.FunFrames X.base X.outer:=by
 have all:∀ (l:List Env),(∀ b∈Sk l,b∈X.fs)->X.s₀.heap.FunFrames X.base l->s.heap.FunFrames X.base l:=by
  intro l;induction l with
  | nil=>intro _ _;trivial
  | cons env r ih =>
   intro hs hl;obtain ⟨hk,⟨L,o,hf,hn,ho,hd⟩,hr⟩:=hl;have hL:L∈X.fs:=hs L (by unfold Sk;rw [filterMap_cons,hf];exact mem_cons_self);obtain ⟨sl,e⟩:=I.base.slot L o ho (I.ok.frf L hL) hL fun z=>I.ok.exfs L z hL
   exact ⟨hk,⟨L,_,hf,hn,e,hd⟩,ih (fun b hb=>hs b (by unfold Sk;rw [filterMap_cons,hf];exact mem_cons_of_mem _ hb)) hr⟩
 exact all X.outer (fun _ hb=>hb) I.ok.funs
theorem Inv.stack (I:Inv X pins σ H s):s.heap.FunFrames X.base X.stack:=by
 rcases I.ok.stk with e | ⟨e,hf⟩
 ·rw [e];exact I.funs
 ·rw [e]
  obtain ⟨m,hn,_⟩:=I.loc;refine .cons (by rw [I.ok.kind];decide) hf hn ?_ I.funs;exact Heap.get?_none_of_le (le_trans I.ok.bsz I.ok.above)
theorem Inv.stkSub (I:Inv X pins σ H s):∀ b∈Sk X.stack,b∈X.env.locals::X.fs:=fun b hb=>by
 rcases I.ok.stk with e | ⟨e,hf⟩
 ·rw [e] at hb;exact mem_cons_of_mem _ hb
 ·rw [e] at hb
  unfold Sk at hb;rw [filterMap_cons,hf] at hb;exact hb
theorem Inv.stkFree (I:Inv X pins σ H s):∀ b∈Sk X.stack,H b=none:=fun b hb=>by
 rcases mem_cons.mp (I.stkSub b hb) with e | hb
 ·rw [e];exact I.free
 ·obtain ⟨_,o,ho,_⟩:=I.ok.funs.mem hb
  exact I.base.free b o ho (I.ok.frf b hb) fun z=>I.ok.exfs b z hb
theorem Inv.step {g':Array GenState} {t':Nat} {d':Drawn} {ch:List Addr} (I:Inv X pins σ H s)
  (hch:∀ b∈ch,(b∈X.ex\/X.s₀.heap.objs.size<=b)/\b≠X.env.locals/\(∀ x c,X.env.cells.lookup x=some c->c≠b)/\∀ p∈X.pn++pins,p.1≠b)
  (keep:∀ b o,b≠X.env.locals->b∉X.fs->b∉ch->s.heap.get? b=some o->H b=none->h'.get? b=some o)
  (slot:∀ b o,b≠X.env.locals->b∈X.fs->b∉ch->s.heap.get? b=some o->H b=none->∃ sl,h'.get? b=some { o with slots:=sl }) (free:∀ b o,b∉ch->s.heap.get? b=some o->H b=none->H' b=none)
  (there:∀ b o,b∉ch->s.heap.get? b=some o->∃ o',h'.get? b=some o')
  (tups:∀ b xs,H b=some (.tup xs)->H' b=some (.tup xs)) (frzs:∀ b o u,H b=some (.frz o u)->H' b=some (.frz o u)) (tbls:∀ b ps,H b=some (.tbl ps)->∃ more,H' b=some (.tbl (ps++more)))
  (ns:∀ m,s.heap.Ns X.env.locals m->h'.Ns X.env.locals m) (hok:Mp X.prog X.w H' h') (hg:AllBare g') :
  Inv X pins σ H' { s with heap:=h',gens:=g',drawn:=d',toks:=t' }:=by
 have neL:∀ b o,X.s₀.heap.get? b=some o->b≠X.env.locals:=fun b o e=>ne_of_lt (lt_of_lt_of_le (lt_size e) I.ok.above)
 have neC:∀ b o,X.s₀.heap.get? b=some o->b∉X.ex->b∉ch:=fun b o e hx hb=>by
  rcases (hch b hb).1 with z | z
  ·exact hx z
  ·exact absurd (lt_of_lt_of_le (lt_size e) z) (lt_irrefl _)
 have cellK:∀ x c,X.env.cells.lookup x=some c->∀ v,s.heap.IsCell c v->h'.IsCell c v:=fun x c e v zz=>by
  obtain ⟨o,ho,hd⟩:=zz;have nch:c∉ch:=fun z=>(hch c z).2.2.1 x c e rfl
  by_cases hc:c∈X.fs
  ·obtain ⟨sl,q⟩:=slot c o (I.cne x c e) hc nch ho (I.freeC x c e)
   exact ⟨_,q,hd⟩
  ·exact ⟨o,keep c o (I.cne x c e) hc nch ho (I.freeC x c e),hd⟩
 refine ⟨I.ok,I.os,hg,⟨fun b o e n hb hx=>?_,fun b o e n hb hx=>?_,fun b o e n hx=>?_,fun b o e hx=>?_,fun b xs e=>tups b xs (I.base.tups b xs e),fun b o xs e=>frzs b o xs (I.base.frzs b o xs e),fun b ps e=>?_⟩,?_,fun x c e=>?_,?_,fun x c e=>?_,fun p hp=>?_,hok,I.len⟩
 ·exact keep b o (neL b o e) hb (neC b o e hx) (I.base.keep b o e n hb hx) (I.base.free b o e n hx)
 ·obtain ⟨sl,e1⟩:=I.base.slot b o e n hb hx
  obtain ⟨sl',e2⟩:=slot b _ (neL b o e) hb (neC b o e hx) e1 (I.base.free b o e n hx);exact ⟨sl',e2⟩
 ·obtain ⟨o',e1⟩:=I.base.there b o e hx
  exact free b o' (neC b o e hx) e1 (I.base.free b o e n hx)
 ·obtain ⟨o',e1⟩:=I.base.there b o e hx
  exact there b o' (neC b o e hx) e1
 ·obtain ⟨m1,e1⟩:=I.base.tbls b ps e
  obtain ⟨m2,e2⟩:=tbls b _ e1;exact ⟨m1++m2,by rw [e2,Array.append_assoc]⟩
 ·obtain ⟨m,hn,hl⟩:=I.loc
  refine ⟨m,ns m hn,fun i x v e1 e2 e3=>?_⟩;obtain ⟨u,r,l⟩:=hl i x v e1 e2 e3;refine ⟨u,r,?_⟩;rcases l with l | ⟨k,c,e,z⟩
  ·exact .inl l
  ·exact .inr ⟨k,c,e,cellK x c e _ z⟩
 ·obtain ⟨v,z⟩:=I.cell x c e
  exact ⟨v,cellK x c e v z⟩
 ·obtain ⟨m,⟨o,_,_,ho,_⟩,_⟩:=I.loc
  exact free _ o (fun z=>(hch _ z).2.1 rfl) ho I.free
 ·obtain ⟨v,o,ho,hd⟩:=I.cell x c e
  exact free c o (fun z=>(hch c z).2.2.1 x c e rfl) ho (I.freeC x c e)
 ·obtain ⟨e,n,ne,nf,d⟩:=I.pin p hp
  have nch:p.1∉ch:=fun z=>(hch p.1 z).2.2.2 p hp rfl
  exact ⟨keep p.1 p.2 ne nf nch e n,free p.1 p.2 nch e n,ne,nf,d⟩
theorem Inv.un {t':Nat} (I:Inv X pins σ H s) (u:Un X.fs [] H H' s.heap h') (hok:Mp X.prog X.w H' h'):Inv X pins σ H' { s with heap:=h',toks:=t' }:=by
 obtain ⟨m,⟨o,es,ep,ho,r⟩,_⟩:=id I.loc;obtain ⟨sl,hL⟩:=u.any ho I.free (by simp);exact I.step (g':=s.gens) (d':=s.drawn) (ch:=[]) (fun _ z=>nomatch z) (fun b o _ hb _ e n=>u.keep b o e n hb (by simp)) (fun b o _ hb _ e n=>u.slot b o e n hb (by simp)) (fun b o _ e n=>u.free b o e n (by simp)) (fun b o _ e=>u.there b o e (by simp)) u.tups u.frzs u.tbls (fun m' hm=>by
  obtain ⟨o',es',ep',ho',r'⟩:=hm;rw [ho] at ho';cases ho';exact ⟨_,es',ep',hL,r'⟩) hok I.bare
theorem Inv.call {g':Array GenState} {t':Nat} {d':Drawn} {ch:List Addr} (I:Inv X pins σ H s) (u:Un (Sk X.stack) ch H H' s.heap h') (hok:Mp X.prog X.w H' h') (hg:AllBare g')
  (hch:∀ b∈ch,(b∈X.ex\/X.s₀.heap.objs.size<=b)/\b≠X.env.locals/\(∀ x c,X.env.cells.lookup x=some c->c≠b)/\∀ p∈X.pn++pins,p.1≠b) :
  Inv X pins σ H' { s with heap:=h',gens:=g',drawn:=d',toks:=t' }:=by
 obtain ⟨m,⟨o,es,ep,ho,r⟩,_⟩:=id I.loc;obtain ⟨sl,hL⟩:=u.any ho I.free fun z=>(hch _ z).2.1 rfl
 exact I.step (ch:=ch) hch (fun b o hL hb hc e n=>u.keep b o e n (fun z=>(mem_cons.mp (I.stkSub b z)).elim hL hb) hc) (fun b o _ _ hc e n=>u.any e n hc) (fun b o hc e n=>u.free b o e n hc) (fun b o hc e=>u.there b o e hc) u.tups u.frzs u.tbls (fun m' hm=>by
  obtain ⟨o',es',ep',ho',r'⟩:=hm;rw [ho] at ho';cases ho';exact ⟨_,es',ep',hL,r'⟩) hok hg
theorem Inv.turned {t':Nat} {it:Addr} (I:Inv X pins σ H s) (k:∀ b o,b≠it->s.heap.get? b=some o->h'.get? b=some o) (hn:H it=none) (hL:it≠X.env.locals)
  (h1:it∈X.ex\/X.s₀.heap.objs.size<=it) (h2:∀ x c,X.env.cells.lookup x=some c->c≠it) (h3:∀ p∈X.pn++pins,p.1≠it):Inv X pins σ H { s with heap:=h',toks:=t' }:=by
 have nit:∀ b u,H b=some u->b≠it:=fun b u e z=>by rw [z,hn] at e;cases e
 refine I.step (g':=s.gens) (d':=s.drawn) (ch:=[it]) (fun b hb=>?_) (fun b o _ _ hc e _=>k b o (fun z=>hc (by simp [z])) e) (fun b o _ _ hc e _=>⟨o.slots,k b o (fun z=>hc (by simp [z])) e⟩) (fun _ _ _ _ n=>n)
  (fun b o hc e=>⟨o,k b o (fun z=>hc (by simp [z])) e⟩) (fun _ _ e=>e) (fun _ _ _ e=>e) (fun b ps e=>⟨#[],by rw [e];simp⟩) (fun m hm=>?_) (fun b u e=>?_) I.bare
 ·have e:b=it:=by simpa using hb
  subst e;exact ⟨h1,hL,h2,h3⟩
 ·obtain ⟨o,es,ep,ho,r⟩:=hm
  exact ⟨o,es,ep,k _ o (Ne.symm hL) ho,r⟩
 ·refine (I.hok b u e).stay (fun c v hc q=>k c v ?_ q) (fun _ q=>q) fun _ _ q=>q
  rcases hc with z | z
  ·rw [z];exact nit b u e
  ·exact nit c _ z
theorem Inv.tok (I:Inv X pins σ H s) (t:Nat):Inv X pins σ H { s with toks:=t }:=I.un (h':=s.heap) (t':=t) Un.refl I.hok
theorem Inv.kept {t':Nat} (I:Inv X pins σ H s) (k:∀ b u,s.heap.get? b=some u->h'.get? b=some u):Inv X pins σ H { s with heap:=h',toks:=t' }:=I.un (Un.kept k) (I.hok.kept k)
theorem Inv.laid {a:Addr} {o:HO} {t':Nat} (I:Inv X pins σ H s) (k:∀ b u,s.heap.get? b=some u->h'.get? b=some u) (hp:s.heap.objs.size<=a) (new:Yy X.prog X.w (W4 H a o) h' a o) :
 Inv X pins σ (W4 H a o) { s with heap:=h',toks:=t' }:=I.un (Un.laid k hp (I.hok.fresh hp)) (I.hok.laid k hp new)
theorem Inv.write {x e:Addr} {o:HO} {t':Nat} (I:Inv X pins σ H s) (mu:Mut (H x)) (he:e=x\/H e=some (.own x)) (k:∀ b u,b≠e->s.heap.get? b=some u->h'.get? b=some u) (heo:∃ u,h'.get? e=some u)
 (new:Yy X.prog X.w (W4 H x o) h' x o):Inv X pins σ (W4 H x o) { s with heap:=h',toks:=t' }:=I.un (Un.write mu he k heo) (I.hok.write mu he k heo new)
theorem Inv.weak {σ':List (Option V)} (I:Inv X pins σ H s) (hl:σ'.length=σ.length) (w:∀ (i:Nat) v,σ'[i]?=some (some v)->σ[i]?=some (some v)):Inv X pins σ' H s :=
 ⟨I.ok,I.os,I.bare,I.base,let ⟨m,hn,hl'⟩:=I.loc;⟨m,hn,fun i x v e1 e2 e3=>hl' i x v e1 (w i v e2) e3⟩,I.cell,I.free,I.freeC,I.pin,I.hok,hl.trans I.len⟩
theorem Inv.pins_of {pins':List (Addr×Obj)} (I:Inv X pins σ H s) (h:∀ p∈pins',s.heap.get? p.1=some p.2/\H p.1=none/\p.1≠X.env.locals/\p.1∉X.fs/\∀ v,p.2.data≠.cell v):Inv X pins' σ H s :=
 ⟨I.ok,I.os,I.bare,I.base,I.loc,I.cell,I.free,I.freeC,fun p hp=>(mem_append.mp hp).elim (fun z=>I.pin p (mem_append_left _ z)) (h p),I.hok,I.len⟩
theorem Kl {N:List Str} (hN:N.Nodup) {i j:Nat} {x:Str} (a:N[i]?=some x) (b:N[j]?=some x):i=j:=by
 obtain ⟨h1,e1⟩:=List.getElem?_eq_some_iff.mp a;obtain ⟨h2,e2⟩:=List.getElem?_eq_some_iff.mp b;exact (List.getElem_inj hN).mp (e1.trans e2.symm)
theorem Lx {M:Model} {A:Around} {E:Value->Shared->Prop} {i:Nat} {x:Str} {v:V} {u:Value} {Q:Unit->Shared->Prop} (I:Inv X pins σ H s) (hN:X.N.Nodup) (hi:X.N[i]?=some x) (hx:Pq X.env.scope x) (r:Yo v u)
   (h:∀ s',Inv X pins (σ.set i (some v)) H s'->(∃ a,SameBut a s.heap s'.heap/\(a=X.env.locals\/X.env.cells.lookup x=some a))->Q () s') (hf:X.fn x=true\/X.env.scope.names.lookup x=some .local:=by first | exact .inl rfl | exact .inr rfl | assumption):wpAny M A (storeName X.env x u) Q E s:=by
 obtain ⟨m,hn,hl⟩:=id I.loc;have hcls:(X.env.scope.kind==.class||(X.env.scope.kind==.module&&X.env.locals != X.env.globals))=false:=by rw [I.ok.kind];rfl
 have hiσ:i<σ.length:=by rw [I.len];exact (List.getElem?_eq_some_iff.mp hi).1
 have cne:=I.cne;have tracked:∀ {a:Addr} {h':Heap},(∃ o,s.heap.get? a=some o/\H a=none)->SameBut a s.heap h'->Mp X.prog X.w H h':=fun {a h'} ha hs b ob e=>by
   obtain ⟨_,_,hfree⟩:=ha;refine (I.hok b ob e).stay (fun c w' hc q=>(hs.2 c ?_).trans q) (fun _ q=>q) fun _ _ q=>q
   rintro rfl;rcases hc with rfl | hc
   · rw [hfree] at e;cases e
   · rw [hfree] at hc;cases hc
 rcases hx with hk | hk
 · refine wpAny_storeName_local hk hn (fun h' hn' hs=>?_) hcls
   obtain ⟨oL,_,_,hoL,_⟩:=id hn;refine h _ ⟨I.ok,I.os,I.bare,⟨fun b o e n hb hx=>?_,fun b o e n hb hx=>?_,I.base.free,fun b o e hx=>?_,I.base.tups,I.base.frzs,I.base.tbls⟩,⟨_,hn',fun j y v' e1 e2 e3=>?_⟩,fun y c e=>?_,I.free,I.freeC,fun p hp=>?_,tracked ⟨oL,hoL,I.free⟩ hs,by simpa using I.len⟩ ⟨_,hs,.inl rfl⟩
   · exact (hs.2 b (ne_of_lt (lt_of_lt_of_le (lt_size e) I.ok.above))).trans (I.base.keep b o e n hb hx)
   · obtain ⟨sl,e1⟩:=I.base.slot b o e n hb hx
     exact ⟨sl,(hs.2 b (ne_of_lt (lt_of_lt_of_le (lt_size e) I.ok.above))).trans e1⟩
   · obtain ⟨o',e1⟩:=I.base.there b o e hx
     exact ⟨o',(hs.2 b (ne_of_lt (lt_of_lt_of_le (lt_size e) I.ok.above))).trans e1⟩
   · by_cases hj:j=i
     · subst hj
       rw [hi] at e1;cases e1;rw [List.getElem?_set_self hiσ] at e2;cases e2;exact ⟨u,r,.inl ⟨hk,by simp⟩⟩
     · rw [List.getElem?_set_ne (Ne.symm hj)] at e2
       obtain ⟨u',r',q⟩:=hl j y v' e1 e2 e3;refine ⟨u',r',?_⟩;rcases q with ⟨k,e⟩ | ⟨k,c,e,z⟩
       · refine .inl ⟨k,?_⟩
         have:y≠x:=fun e=>hj (Kl hN e1 (e▸hi))
         simp [this,e]
       · exact .inr ⟨k,c,e,z.sameBut hs (cne y c e)⟩
   · obtain ⟨w',z⟩:=I.cell y c e
     exact ⟨w',z.sameBut hs (cne y c e)⟩
   · obtain ⟨e,n,ne,nf,d⟩:=I.pin p hp
     exact ⟨(hs.2 p.1 ne).trans e,n,ne,nf,d⟩
 · have hfn:X.fn x=true:=by
     rcases hf with z | z
     · exact z
     · rw [z] at hk;cases hk
   obtain ⟨c,hc⟩:=I.ok.has x (.inl hk);obtain ⟨w',z⟩:=I.cell x c hc;refine wpAny_storeName_cell I.ok.kind hk hc z (fun h' hc' hs=>?_);obtain ⟨oc,hoc,hocd⟩:=id z;refine h { s with heap:=h' } ⟨I.ok,I.os,I.bare,⟨fun b o e n hb hx=>?_,fun b o e n hb hx=>?_,I.base.free,fun b o e hx=>?_,I.base.tups,I.base.frzs,I.base.tbls⟩,⟨m,hn.sameBut hs (Ne.symm (cne x c hc)),fun j y v' e1 e2 e3=>?_⟩,fun y c' e=>?_,I.free,I.freeC,fun p hp=>?_,tracked ⟨oc,hoc,I.freeC x c hc⟩ hs,by simpa using I.len⟩ ⟨c,hs,.inr hc⟩
   · exact (hs.2 b (ne_of_lt (lt_of_lt_of_le (lt_size e) (I.ok.cab x c hfn hc)))).trans (I.base.keep b o e n hb hx)
   · obtain ⟨sl,e1⟩:=I.base.slot b o e n hb hx
     exact ⟨sl,(hs.2 b (ne_of_lt (lt_of_lt_of_le (lt_size e) (I.ok.cab x c hfn hc)))).trans e1⟩
   · obtain ⟨o',e1⟩:=I.base.there b o e hx
     exact ⟨o',(hs.2 b (ne_of_lt (lt_of_lt_of_le (lt_size e) (I.ok.cab x c hfn hc)))).trans e1⟩
   · by_cases hj:j=i
     · subst hj
       rw [hi] at e1;cases e1;rw [List.getElem?_set_self hiσ] at e2;cases e2;exact ⟨u,r,.inr ⟨.inl hk,c,hc,hc'⟩⟩
     · rw [List.getElem?_set_ne (Ne.symm hj)] at e2
       obtain ⟨u',r',q⟩:=hl j y v' e1 e2 e3;refine ⟨u',r',?_⟩;rcases q with q | ⟨k,c',e,z'⟩
       · exact .inl q
       · refine .inr ⟨k,c',e,z'.sameBut hs ?_⟩
         rintro rfl;exact hj (Kl hN e1 (I.ok.inj _ _ _ e hc▸hi))
   · by_cases hcc:c'=c
     · subst hcc;exact ⟨_,hc'⟩
     · obtain ⟨w2,z2⟩:=I.cell y c' e
       exact ⟨w2,z2.sameBut hs hcc⟩
   · obtain ⟨e,n,ne,nf,d⟩:=I.pin p hp
     refine ⟨(hs.2 p.1 ?_).trans e,n,ne,nf,d⟩;intro q;rw [q,hoc] at e;have q':oc=p.2:=Option.some.inj e;exact d w' (by rw [← q'];exact hocd)
theorem Dv {M:Model} {A:Around} {E:Value->Shared->Prop} {i:Nat} {x:Str} {v:V} {u:Value} {Q:Unit->Shared->Prop} (I:Inv X pins σ H s) (hN:X.N.Nodup) (hi:X.N[i]?=some x) (hx:Pq X.env.scope x) (r:Yo v u)
  (h:∀ s',Inv X pins (σ.set i (some v)) H s'->Q () s') (hf:X.fn x=true\/X.env.scope.names.lookup x=some .local:=by first | exact .inl rfl | exact .inr rfl | assumption):wpAny M A (storeName X.env x u) Q E s :=
 Lx I hN hi hx r (fun s' I' _=>h s' I') hf
theorem Inv.call' {s':Shared} {ch:List Addr} (I:Inv X pins σ H s) (ho:s'.os=s.os) (u:Un (Sk X.stack) ch H H' s.heap s'.heap) (hok:Mp X.prog X.w H' s'.heap) (hg:AllBare s'.gens)
  (hch:∀ b∈ch,(b∈X.ex\/X.s₀.heap.objs.size<=b)/\b≠X.env.locals/\(∀ x c,X.env.cells.lookup x=some c->c≠b)/\∀ p∈X.pn++pins,p.1≠b):Inv X pins σ H' s':=by
 obtain ⟨h',g',d',t',o'⟩:=s';have e:o'=s.os:=ho;subst e;exact I.call (g':=g') (t':=t') (d':=d') u hok hg hch
end
abbrev XK:=Value->Option Addr->Hp->Prop
abbrev St:=List (Option V)
abbrev VK:=V->Hp->Prop
abbrev TE:=St->Hp->VK->Prop
abbrev TT:=St->Hp->(Bool->Hp->Prop)->Prop
abbrev TA:=St->Hp->(List V->Hp->Prop)->Prop
structure Ends where
 nx:St->Hp->Prop
 rt:VK
 bk:St->Hp->Prop:=fun _ _=>False
 ct:St->Hp->Prop:=fun _ _=>False
abbrev TS:=Ends->St->Hp->Prop
def EP (X:Cx) (pins:List (Addr×Obj)) (σ:St) (Q:VK) (u:Value) (s':Shared):Prop:=∃ v H',Inv X pins σ H' s'/\Yo v u/\Q v H'
def TP (X:Cx) (pins:List (Addr×Obj)) (σ:St) (Q:Bool->Hp->Prop) (b:Bool) (s':Shared):Prop:=∃ H',Inv X pins σ H' s'/\Q b H'
def AP (X:Cx) (pins:List (Addr×Obj)) (σ:St) (Q:List V->Hp->Prop) (us:List Value) (s':Shared):Prop:=∃ vs H',Inv X pins σ H' s'/\Y3 vs us/\Q vs H'
def SP (X:Cx) (pins:List (Addr×Obj)) (D:Ends) (f:Flow) (s':Shared):Prop :=
 match f with
 | .next=>∃ σ' H',Inv X pins σ' H' s'/\D.nx σ' H'
 | .brk=>∃ σ' H',Inv X pins σ' H' s'/\D.bk σ' H'
 | .cont=>∃ σ' H',Inv X pins σ' H' s'/\D.ct σ' H'
 | .ret u=>∃ v σ' H',Inv X pins σ' H' s'/\Yo v u/\D.rt v H'
def PE (X:Cx) (e:Expr) (t:TE):Prop :=
 ∀ (pins:List (Addr×Obj)) (s:Shared) (σ:St) (H:Hp) (Q:VK),Inv X pins σ H s->t σ H Q->wpAny (model X.prog X.w) X.A (eval e X.env) (EP X pins σ Q) X.xe s
def PT (X:Cx) (e:Expr) (t:TT):Prop :=
 ∀ (pins:List (Addr×Obj)) (s:Shared) (σ:St) (H:Hp) (Q:Bool->Hp->Prop),Inv X pins σ H s->t σ H Q->wpAny (model X.prog X.w) X.A (isTrue e X.env (eval e X.env)) (TP X pins σ Q) X.xe s
def PW (X:Cx) (e:Expr) (t:TT):Prop :=
 ∀ (whole:Sem Value) (pins:List (Addr×Obj)) (s:Shared) (σ:St) (H:Hp) (Q:Bool->Hp->Prop),Inv X pins σ H s->t σ H Q->wpAny (model X.prog X.w) X.A (isTrue e X.env whole) (TP X pins σ Q) X.xe s
theorem PW.pt {X:Cx} {e:Expr} {t:TT} (h:PW X e t):PT X e t:=h _
def PA (X:Cx) (es:List Expr) (t:TA):Prop :=
 ∀ (pos:Pos) (pins:List (Addr×Obj)) (s:Shared) (σ:St) (H:Hp) (Q:List V->Hp->Prop),Inv X pins σ H s->t σ H Q->wpAny (model X.prog X.w) X.A (spliced (backTo pos (starEach es X.env))) (AP X pins σ Q) X.xe s
def PS (X:Cx) (st:Stmt) (t:TS):Prop :=
 ∀ (pins:List (Addr×Obj)) (s:Shared) (σ:St) (H:Hp) (D:Ends),Inv X pins σ H s->t D σ H->wpAny (model X.prog X.w) X.A (exec st X.env) (SP X pins D) X.xe s
def Sm (X:Cx) (st:List Stmt) (t:TS):Prop :=
 ∀ (pins:List (Addr×Obj)) (s:Shared) (σ:St) (H:Hp) (D:Ends),Inv X pins σ H s->t D σ H->wpAny (model X.prog X.w) X.A (execs st X.env) (SP X pins D) X.xe s
theorem Wu {α:Type} {t:Sem α} {Q Q':α->Shared->Prop} {M:Model} {A:Around} {E:Value->Shared->Prop} {s:Shared} (h:wpAny M A t Q E s) (hQ:∀ a s,Q a s->Q' a s):wpAny M A t Q' E s:=wpAny_mono h hQ fun _ _ x=>x
section
variable {X:Cx}
def Xz (i:Nat):TE:=fun σ H Q=>∃ v,σ[i]?=some (some v)/\Q v H
def tC (v:V):TE:=fun _ H Q=>Q v H
theorem Q3 {i:Nat} {x:Str} {pos:Pos} (hN:X.N[i]?=some x) (hv:Al X.env.scope x) (hd:(x==("__debug__" : Str))=false:=by decide) (hcd:(x==("__classdict__" : Str))=false:=by decide):PE X (.Name x pos) (Xz i):=by
 intro pins s σ H Q I h;obtain ⟨v,e,h⟩:=h;obtain ⟨m,hn,hl⟩:=I.loc;obtain ⟨u,r,l⟩:=hl i x v hN e hv;have fin:EP X pins σ Q u s:=⟨v,H,I,r,h⟩;rcases l with ⟨hk,hm⟩ | ⟨hk,c,hc,hcell⟩
 ·exact wpAny_Name (wpAny_loadName_local I.ok.kind hk hn hm fin) hd
 ·rcases hk with hk | hk
  ·exact wpAny_Name (wpAny_loadName_cell I.ok.kind hk hc hcell fin) hd
  ·exact wpAny_Name (wpAny_loadName_free I.ok.kind hk hc hcell fin hcd) hd
theorem Z8n {i j pos}:PE X (.Constant (.int i) j pos) (tC (.int i)):=fun _ _ _ H _ I h=>wpAny_Constant_int ⟨.int i,H,I.tok _,⟨_,rfl⟩,h⟩
theorem Zbw {b j pos}:PE X (.Constant (.bool b) j pos) (tC (.bl b)):=fun _ _ _ H _ I h=>Constant_bool ⟨.bl b,H,I,rfl,h⟩
theorem Za9 {j pos}:PE X (.Constant .none j pos) (tC .non):=fun _ _ _ H _ I h=>Constant_none ⟨.non,H,I,rfl,h⟩
theorem Z49 {x j pos}:PE X (.Constant (.str x) j pos) (tC (.str x)):=fun _ _ _ H _ I h=>Calls.Constant_str ⟨.str x,H,I.tok _,⟨_,rfl⟩,h⟩
def Gl (X:Cx) (x:Str):Prop:=X.env.kindOf x=some .globalImplicit
theorem U2 {E:Value->Shared->Prop} {pins:List (Addr×Obj)} {s:Shared} {σ:St} {H:Hp} {x:Str} {u:Value} {pos:Pos} {Q:Value->Shared->Prop} (I:Inv X pins σ H s) (hg:Gl X x) (hm:X.mg x=some u) (h:Q u s)
  (hd:(x==("__debug__" : Str))=false:=by decide):wpAny (model X.prog X.w) X.A (eval (.Name x pos) X.env) Q E s :=
 Calls.Name_function_global I.ok.kind hg (Calls.loadGlobal_global (by rw [I.ok.glob];exact I.mod.glob.keeps I.bk) hm h) hd
theorem R4 {E:Value->Shared->Prop} {pins:List (Addr×Obj)} {s:Shared} {σ:St} {H:Hp} {x:Str} {u:Value} {pos:Pos} {Q:Value->Shared->Prop} (I:Inv X pins σ H s) (hg:Gl X x) (hm:X.mg x=none) (hv:bootBuiltins x=some u) (h:Q u s)
  (hn:x≠"__name__" := by decide) (hd:(x==("__debug__" : Str))=false:=by decide):wpAny (model X.prog X.w) X.A (eval (.Name x pos) X.env) Q E s:=by
 obtain ⟨mb,h1,h2⟩:=I.mod.blt;exact Calls.Name_function_global I.ok.kind hg (Calls.loadGlobal_builtin (by rw [I.ok.glob];exact I.mod.glob.keeps I.bk) hm (by rw [I.ok.blt];exact h1.keeps I.bk) ((h2 x hn).trans hv) h) hd
theorem Z5v {x:Str} {v:V} {u:Value} {pos:Pos} (hg:Gl X x) (hm:X.mg x=none) (hv:bootBuiltins x=some u) (r:Yo v u) (hn:x≠"__name__" := by decide) (hd:(x==("__debug__" : Str))=false:=by decide):PE X (.Name x pos) (tC v) :=
 fun _ _ _ H _ I h=>R4 I hg hm hv ⟨v,H,I,r,h⟩ hn hd
variable {a b:Expr} {ta tb:TE} {pos:Pos}
def PC (X:Cx) (op:CmpOp) (a b:Expr) (t:TE):Prop :=
 ∀ (pins:List (Addr×Obj)) (s:Shared) (σ:St) (H:Hp) (Q:VK),Inv X pins σ H s->t σ H Q ->
  wpAny (model X.prog X.w) X.A (eval a X.env) (fun v s₁=>wpAny (model X.prog X.w) X.A (eval b X.env) (fun u s₂=>wpAny (model X.prog X.w) X.A (compareOp op v u) (EP X pins σ Q) X.xe s₂) X.xe s₁) X.xe s
def tB (t:TE):TT:=fun σ H Q=>t σ H fun x H1=>∃ c,x=.bl c/\Q c H1
theorem Z2v {op:CmpOp} {t:TE} (h:PC X op a b t) (h1:behindInMarks op b=false:=by first | exact nobehind _ (by decide) (by decide) | rfl):PT X (.Compare a [op] [b] pos) (tB t):=by
 intro pins s σ H Q I hw;refine wpAny_isTrue_Compare1 (Wu (h pins s σ H _ I hw) fun v s1 h1=>Wu h1 fun u s2 h2=>Wu h2 fun c s3 ⟨x,H1,I1,r1,q1⟩=>?_) h1;obtain ⟨d,rfl,q⟩:=q1;cases r1;exact wpAny_truthy_bool ⟨H1,I1,q⟩
variable {tA tB':TT} {rest:List Expr}
def Zea (t u:TT):TT:=fun σ H Q=>t σ H fun c H1=>if c=true then u σ H1 Q else Q false H1
def tOr (t u:TT):TT:=fun σ H Q=>t σ H fun c H1=>if c=true then Q true H1 else u σ H1 Q
def Zdo (t:TT):TT:=fun σ H Q=>t σ H fun c H1=>Q (!c) H1
theorem Z5s (ha:PT X a tA):PW X (.BoolOp .And [a] pos) tA:=by
 intro wh pins s σ H Q I h;refine isTrue_and (Wu (ha pins s σ H Q I h) fun c s1 e=>?_);cases c with
 | true=>exact isTrue_and_nil e
 | false=>exact e
theorem Z9i (ha:PT X a tA):PW X (.BoolOp .Or [a] pos) tA:=by
 intro wh pins s σ H Q I h;refine isTrue_or (Wu (ha pins s σ H Q I h) fun c s1 e=>?_);cases c with
 | false=>exact isTrue_or_nil e
 | true=>exact e
theorem Zal (ha:PT X a tA) (hb:PW X (.BoolOp .And (b::rest) pos) tB'):PW X (.BoolOp .And (a::b::rest) pos) (Zea tA tB'):=by
 intro wh pins s σ H Q I h;refine isTrue_and (Wu (ha pins s σ H _ I h) fun c s1 ⟨H1,I1,q1⟩=>?_);cases c with
 | true=>exact hb wh pins s1 σ H1 Q I1 q1
 | false=>exact ⟨H1,I1,q1⟩
theorem Zb3 (ha:PT X a tA) (hb:PW X (.BoolOp .Or (b::rest) pos) tB'):PW X (.BoolOp .Or (a::b::rest) pos) (tOr tA tB'):=by
 intro wh pins s σ H Q I h;refine isTrue_or (Wu (ha pins s σ H _ I h) fun c s1 ⟨H1,I1,q1⟩=>?_);cases c with
 | true=>exact ⟨H1,I1,q1⟩
 | false=>exact hb wh pins s1 σ H1 Q I1 q1
theorem Z96 (ha:PT X a tA):PT X (.UnaryOp .Not a pos) (Zdo tA):=by
 intro pins s σ H Q I h;exact isTrue_not (ha pins s σ H (fun c H1=>Q (!c) H1) I h)
def Zd1 (ta tb:TE):TE:=fun σ H Q=>ta σ H fun x H1=>∃ c,x=.bl c/\if c=true then tb σ H1 Q else Q (.bl false) H1
def Zcf (ta:TE):TE:=fun σ H Q=>ta σ H fun x H1=>∃ c,x=.bl c/\Q (.bl (!c)) H1
theorem Z9q {op} {t:TE} (h:PE X a t):PE X (.BoolOp op [a] pos) t:=fun pins s σ H Q I hw=>BoolOp_one (h pins s σ H Q I hw)
theorem Zae (ha:PE X a ta) (hb:PE X (.BoolOp .And (b::rest) pos) tb):PE X (.BoolOp .And (a::b::rest) pos) (Zd1 ta tb):=by
 intro pins s σ H Q I h;refine BoolOp_and (Wu (ha pins s σ H _ I h) fun v s1 ⟨x,H1,I1,r1,q1⟩=>?_);obtain ⟨c,rfl,q1⟩:=q1;cases r1;refine wpAny_truthy_bool ?_;cases c with
 | true=>exact hb pins s1 σ H1 Q I1 q1
 | false=>exact ⟨.bl false,H1,I1,rfl,q1⟩
theorem Z9p (ha:PE X a ta):PE X (.UnaryOp .Not a pos) (Zcf ta):=by
 intro pins s σ H Q I h;refine UnaryOp_ (Wu (ha pins s σ H _ I h) fun v s1 ⟨x,H1,I1,r1,q1⟩=>?_);obtain ⟨c,rfl,q1⟩:=q1;cases r1;exact not_of (wpAny_truthy_bool ⟨.bl (!c),H1,I1,rfl,q1⟩)
end
def Mu (K:PySem.W.Frag) (H:Hp) (a:Addr) (xs:List V):Prop :=
 Rd H a (.lst xs) \/
  ∃ (o:Obj) (its:Array Value) (n:Nat),K.lookup a=some o/\o.cls=.type "list" /\ o.dict=none/\o.data=.seq its n/\its.size<=sizeLine/\Y3 xs its.toList
def Sh (K:PySem.W.Frag) (H:Hp) (a:Addr) (xs:List V):Prop :=
 H a=some (.tup xs) \/
  ∃ (o:Obj) (its:Array Value) (n:Nat),K.lookup a=some o/\o.cls=.type "tuple" /\ o.data=.seq its n/\its.size<=sizeLine/\Y3 xs its.toList/\∀ i:Int,V.int i∉xs
def Zez:Value->Option V
 | .none=>some .non
 | .bool b=>some (.bl b)
 | .int i _=>some (.int i)
 | .str x _=>some (.str x)
 | .bytes b _=>some (.byt b)
 | .float b _=>some (.flt b)
 | .ref a=>some (.ref a)
 | .type n=>some (.ty n)
 | _=>none
theorem Yo.abs {x:V} {u:Value} (r:Yo x u):Zez u=some x:=by
 cases x with
 | non=>cases r;rfl
 | bl _=>cases r;rfl
 | int _=>obtain ⟨t,rfl⟩:=r;rfl
 | str _=>obtain ⟨t,rfl⟩:=r;rfl
 | byt _=>obtain ⟨t,rfl⟩:=r;rfl
 | flt _=>obtain ⟨t,rfl⟩:=r;rfl
 | ref _=>cases r;rfl
 | ty _=>cases r;rfl
theorem Yo.inj {x y:V} {u:Value} (r:Yo x u) (q:Yo y u):x=y:=Option.some.inj (r.abs.symm.trans q.abs)
theorem Y3.inj:∀ {xs ys:List V} {us:List Value},Y3 xs us->Y3 ys us->xs=ys
 | _,_,_,.nil,.nil=>rfl
 | _,_,_,.cons r t,.cons r' t'=>by rw [r.inj r',Y3.inj t t']
section
variable {X:Cx} {pins:List (Addr×Obj)} {σ:St} {H:Hp} {s:Shared} {a:Addr} {xs ys:List V}
theorem Mu.of {K:PySem.W.Frag} (h:H a=some (.lst xs)):Mu K H a xs:=.inl (.inl h)
theorem Inv.list (I:Inv X pins σ H s) (h:Mu X.K H a xs):∃ its:List Value,Y3 xs its/\PlainL s.heap a its.toArray/\xs.length<=sizeLine:=by
 rcases h with h | ⟨o,its,n,hk,hc,hd,hs,hz,r⟩
 ·obtain ⟨z,its,n,r,e⟩:=h.ok I.hok
  exact ⟨its,r,⟨_,n,e,rfl,rfl,rfl⟩,z⟩
 ·refine ⟨its.toList,r,⟨o,n,I.kIn a o hk,hc,hd,by simpa using hs⟩,?_⟩
  have e:=r.length;simp only [Array.length_toList] at e;lia
theorem Inv.tuple (I:Inv X pins σ H s) (h:Sh X.K H a xs):∃ its:List Value,Y3 xs its/\IsTup s.heap a its.toArray/\xs.length<=sizeLine:=by
 rcases h with h | ⟨o,its,n,hk,hc,hs,hz,r,_⟩
 ·obtain ⟨z,its,r,p⟩:=(Rd.of h).ok I.hok
  exact ⟨its,r,p,z⟩
 ·refine ⟨its.toList,r,⟨o,I.kIn a o hk,hc,n,by simpa using hs⟩,?_⟩
  have e:=r.length;simp only [Array.length_toList] at e;lia
theorem Inv.list_inj (I:Inv X pins σ H s) (h:Mu X.K H a xs) (h':Mu X.K H a ys):xs=ys:=by
 obtain ⟨its,r,⟨o,n,e,_,_,d⟩,_⟩:=I.list h;obtain ⟨its',r',⟨o',n',e',_,_,d'⟩,_⟩:=I.list h';rw [e] at e';cases e';rw [d] at d';injection d' with d1 _
 have:its=its':=by simpa using congrArg Array.toList d1
 subst this;exact r.inj r'
theorem Inv.tuple_inj (I:Inv X pins σ H s) (h:Sh X.K H a xs) (h':Sh X.K H a ys):xs=ys:=by
 obtain ⟨its,r,⟨o,e,_,n,d⟩,_⟩:=I.tuple h;obtain ⟨its',r',⟨o',e',_,n',d'⟩,_⟩:=I.tuple h';rw [e] at e';cases e';rw [d] at d';injection d' with d1 _
 have:its=its':=by simpa using congrArg Array.toList d1
 subst this;exact r.inj r'
end
abbrev Cx.wish (X:Cx) (E:Value->Shared->Prop):Cx:={ X with xe:=E }
abbrev Cx.nox (X:Cx):Cx:=X.wish fun _ _=>False
theorem Cx.Ok.wish {X:Cx} (ok:X.Ok) (E:Value->Shared->Prop):(X.wish E).Ok :=
 ⟨ok.mod,ok.kind,ok.glob,ok.blt,ok.above,ok.inj,ok.has,ok.cab,ok.hd,ok.frames,ok.stk,ok.exf,ok.bs,ok.bsz,ok.noex,ok.exfs,ok.funs,ok.frf⟩
theorem Cx.Ok.unwish {X:Cx} {E:Value->Shared->Prop} (ok:(X.wish E).Ok):X.Ok :=
 ⟨ok.mod,ok.kind,ok.glob,ok.blt,ok.above,ok.inj,ok.has,ok.cab,ok.hd,ok.frames,ok.stk,ok.exf,ok.bs,ok.bsz,ok.noex,ok.exfs,ok.funs,ok.frf⟩
section
variable {X:Cx} {pins:List (Addr×Obj)} {σ:St} {H:Hp} {s:Shared} {E:Value->Shared->Prop}
theorem Inv.wish (I:Inv X pins σ H s) (E:Value->Shared->Prop):Inv (X.wish E) pins σ H s:=⟨I.ok.wish E,I.os,I.bare,I.base,I.loc,I.cell,I.free,I.freeC,I.pin,I.hok,I.len⟩
theorem Inv.unwish (I:Inv (X.wish E) pins σ H s):Inv X pins σ H s:=⟨I.ok.unwish,I.os,I.bare,I.base,I.loc,I.cell,I.free,I.freeC,I.pin,I.hok,I.len⟩
theorem SP.unwish {D:Ends} {f:Flow} {s':Shared} (h:SP (X.wish E) pins D f s'):SP X pins D f s':=by
 cases f with
 | next=>obtain ⟨σ',H',I,q⟩:=h;exact ⟨σ',H',I.unwish,q⟩
 | brk=>obtain ⟨σ',H',I,q⟩:=h;exact ⟨σ',H',I.unwish,q⟩
 | cont=>obtain ⟨σ',H',I,q⟩:=h;exact ⟨σ',H',I.unwish,q⟩
 | ret u=>obtain ⟨v,σ',H',I,r,q⟩:=h;exact ⟨v,σ',H',I.unwish,r,q⟩
theorem Sm.nox {st:List Stmt} {t:TS} (h:Sm X.nox st t):Sm X st t:=fun pins s σ H D I hw =>
 wpAny_mono (h pins s σ H D (I.wish _) hw) (fun _ _ q=>q.unwish) fun _ _ z=>False.elim z
end
section
variable {X:Cx} {st:Stmt} {rest:List Stmt} {t u:TS} {e:Expr} {te:TE} {pos:Pos}
def Zbf:TS:=fun D σ H=>D.nx σ H
def Z8j (t u:TS):TS:=fun D σ H=>t { D with nx:=u D } σ H
theorem Z5c:Sm X [] Zbf:=fun _ _ σ H _ I h=>wpAny_execs_nil ⟨σ,H,I,h⟩
theorem Kh (h1:PS X st t) (h2:Sm X rest u):Sm X (st::rest) (Z8j t u):=by
 intro pins s σ H D I h;refine wpAny_execs_cons (Wu (h1 pins s σ H { D with nx:=u D } I h) fun f s1 q=>?_);cases f with
 | next =>
  obtain ⟨σ',H',I',q⟩:=q;exact h2 pins s1 σ' H' D I' q
 | ret v=>exact q
 | brk=>exact q
 | cont=>exact q
theorem Ho (h1:PS X st t):Sm X [st] t:=by
 intro pins s σ H D I h;refine wpAny_execs_cons (Wu (h1 pins s σ H D I h) fun f s1 q=>?_);cases f with
 | next=>exact wpAny_execs_nil q
 | ret v=>exact q
 | brk=>exact q
 | cont=>exact q
def Zb8:TS:=fun D σ H=>D.ct σ H
theorem Xe:PS X (.Continue pos) Zb8:=fun _ _ σ H _ I h=>wpAny_Continue ⟨σ,H,I,h⟩
theorem Inv.quiet {pins:List (Addr×Obj)} {σ:St} {H:Hp} {s:Shared} (I:Inv X pins σ H s):interactive X.env=false:=by simp [interactive,I.ok.kind]
def Z4e (te:TE):TS:=fun D σ H=>te σ H fun _ H1=>D.nx σ H1
theorem S9 (he:PE X e te) (hs:swapsWith e none pos.line X.env=pure false:=by rfl):PS X (.Expr e pos) (Z4e te):=by
 intro pins s σ H D I h;exact wpAny_Expr_any (Wu (he pins s σ H _ I h) fun v s1 ⟨x,H1,I1,r1,q1⟩=>⟨σ,H1,I1,q1⟩) I.quiet hs
def Zdn (te:TE):TS:=fun D σ H=>te σ H D.rt
theorem Os (he:PE X e te):PS X (.Return (some e) pos) (Zdn te):=by
 intro pins s σ H D I h;exact wpAny_Return_some (Wu (he pins s σ H _ I h) fun v s1 ⟨x,H1,I1,r1,q1⟩=>⟨x,σ,H1,I1,r1,q1⟩)
def Zee (c:TT) (t u:TS):TS:=fun D σ H=>c σ H fun b H1=>if b=true then t D σ H1 else u D σ H1
theorem Zco {c:Expr} {a b:List Stmt} {tc:TT} (hc:PT X c tc) (ha:Sm X a t) (hb:Sm X b u):PS X (.If c a b pos) (Zee tc t u):=by
 intro pins s σ H D I h;refine wpAny_If (Wu (hc pins s σ H _ I h) fun d s1 ⟨H1,I1,q1⟩=>?_);cases d with
 | true=>exact ha pins s1 σ H1 D I1 q1
 | false=>exact hb pins s1 σ H1 D I1 q1
end
abbrev TG:=V->St->Hp->(St->Hp->Prop)->Prop
abbrev TGs:=List V->St->Hp->(St->Hp->Prop)->Prop
def PG (X:Cx) (target:Expr) (t:TG):Prop :=
 ∀ (pins:List (Addr×Obj)) (s:Shared) (σ:St) (H:Hp) (v:V) (u:Value) (Q:St->Hp->Prop),Inv X pins σ H s->Yo v u->t v σ H Q ->
  wpAny (model X.prog X.w) X.A (assign target X.env u) (fun _ s'=>∃ σ' H',Inv X pins σ' H' s'/\Q σ' H') X.xe s
def PGs (X:Cx) (ts:List Expr) (t:TGs):Prop :=
 ∀ (pins:List (Addr×Obj)) (s:Shared) (σ:St) (H:Hp) (vs:List V) (us:List Value) (Q:St->Hp->Prop),Inv X pins σ H s->Y3 vs us->t vs σ H Q ->
  wpAny (model X.prog X.w) X.A (assignInOrder ((assignEach ts X.env).map (·.2)) us) (fun _ s'=>∃ σ' H',Inv X pins σ' H' s'/\Q σ' H') X.xe s
abbrev TIp:=V->V->Hp->VK->Prop
def PIp (X:Cx) (op:Operator) (t:TIp):Prop :=
 ∀ (pins:List (Addr×Obj)) (s:Shared) (σ:St) (H:Hp) (x y:V) (v u:Value) (Q:VK),Inv X pins σ H s->Yo x v->Yo y u->t x y H Q ->
  wpAny (model X.prog X.w) X.A (inplaceOp op v u) (EP X pins σ Q) X.xe s
section
variable {X:Cx} {pos:Pos}
def Bz (i:Nat):TG:=fun v σ H Q=>Q (σ.set i (some v)) H
theorem Z4r {i:Nat} {x:Str} (hN:X.N.Nodup) (hi:X.N[i]?=some x) (hx:Pq X.env.scope x) (hf:X.fn x=true\/X.env.scope.names.lookup x=some .local:=by first | exact .inl rfl | exact .inr rfl | assumption):PG X (.Name x pos) (Bz i):=by
 intro pins s σ H v u Q I r h;exact wpAny_assign_Name (Dv I hN hi hx r (fun s' I'=>⟨_,H,I',h⟩) hf)
def Zeb:TGs:=fun vs σ H Q=>vs=[]/\Q σ H
def Zcv (t:TG) (u:TGs):TGs:=fun vs σ H Q=>∃ v r,vs=v::r/\t v σ H fun σ' H'=>u r σ' H' Q
theorem Z65:PGs X [] Zeb:=by
 intro pins s σ H vs us Q I r h;obtain ⟨e,h⟩:=h;subst e;cases r;exact assignInOrder_nil ⟨σ,H,I,h⟩
theorem Z3w {e:Expr} {es:List Expr} {t:TG} {u:TGs} (h1:PG X e t) (h2:PGs X es u)
  (hs:(assignEach (e::es) X.env).map (·.2)=assign e X.env::(assignEach es X.env).map (·.2):=by rfl):PGs X (e::es) (Zcv t u):=by
 intro pins s σ H vs us Q I r h;obtain ⟨v,vr,e1,h⟩:=h;subst e1;cases r with
 | cons r rr =>
  rw [hs];refine assignInOrder_cons (Wu (h1 pins s σ H _ _ _ I r h) fun _ s1 ⟨σ1,H1,I1,q1⟩=>?_);exact h2 pins s1 σ1 H1 _ _ Q I1 rr q1
def Zc3 (K:PySem.W.Frag) (n:Nat) (t:TGs):TG:=fun v σ H Q=>∃ a xs,v=.ref a/\Sh K H a xs/\xs.length=n/\t xs σ H Q
theorem Z7w {es:List Expr} {k:Nat} {t:TGs} {n:Nat} (hc:X.calm=true) (h:PGs X es t)
  (hn:(assignEach es X.env).length=n:=by rfl) (hst:(assignEach es X.env).findIdx? (·.1)=none:=by rfl):PG X (.Tuple es k pos) (Zc3 X.K n t):=by
 intro pins s σ H v u Q I r hw;obtain ⟨a,xs,e1,hq,hl,hw⟩:=hw;subst e1;cases r;obtain ⟨its,rv,ht,hz⟩:=I.tuple hq;refine assign_Tuple_tuple (I.ok.hd hc) ht (by simp [hn,← hl,rv.length]) hst fun h' hx=>?_
 have I1:Inv X pins σ H { s with heap:=h' }:=I.kept (t':=s.toks) fun b o e=>hx b o (ne_of_lt (lt_size e)) e
 exact h pins _ σ H xs _ Q I1 (by simpa using rv) hw
def Za5 (te:TE) (g:TG):TS:=fun D σ H=>te σ H fun x H1=>g x σ H1 D.nx
theorem Z9w {tg e:Expr} {te:TE} {g:TG} (he:PE X e te) (hg:PG X tg g) (hs:swapsWithSole [tg] e pos.line X.env=pure false:=by rfl) (hw:swappedStores [tg] e X.env=pure none:=by rfl)
  (h1:(assignEach [tg] X.env).map (·.2)=[assign tg X.env]:=by rfl):PS X (.Assign [tg] e pos) (Za5 te g):=by
 intro pins s σ H D I h;refine wpAny_Assign_stores (Wu (he pins s σ H _ I h) fun v s1 ⟨x,H1,I1,r1,q1⟩=>?_) hs hw;rw [h1];exact Wu (hg pins s1 σ H1 x v _ I1 r1 q1) fun _ s2 q=>q
theorem Kd {i:Nat} {x:Str} {e:Expr} {te:TE} {pos':Pos} (hN:X.N.Nodup) (hi:X.N[i]?=some x) (hx:Pq X.env.scope x) (he:PE X e te) (hs:swapsWith e (some (.Name x pos')) pos.line X.env=pure false:=by rfl) (hf:X.fn x=true\/X.env.scope.names.lookup x=some .local:=by first | exact .inl rfl | exact .inr rfl | assumption) :
  PS X (.Assign [.Name x pos'] e pos) (Za5 te (Bz i)):=by
 intro pins s σ H D I h;refine wpAny_Assign_Name (Wu (he pins s σ H _ I h) fun v s1 ⟨y,H1,I1,r1,q1⟩=>?_) hs;exact Dv I1 hN hi hx r1 (fun s2 I2=>⟨_,H1,I2,q1⟩) hf
def Zeu (i:Nat) (te:TE) (ti:TIp):TS:=fun D σ H=>∃ x,σ[i]?=some (some x)/\te σ H fun y H1=>ti x y H1 fun z H2=>D.nx (σ.set i (some z)) H2
theorem Z83 {i:Nat} {x:Str} {e:Expr} {te:TE} {op:Operator} {ti:TIp} {pos':Pos} (hN:X.N.Nodup) (hi:X.N[i]?=some x) (hx:Pq X.env.scope x) (he:PE X e te) (ho:PIp X op ti) (hf:X.fn x=true\/X.env.scope.names.lookup x=some .local:=by first | exact .inl rfl | exact .inr rfl | assumption) :
  PS X (.AugAssign (.Name x pos') op e pos) (Zeu i te ti):=by
 intro pins s σ H D I h;obtain ⟨v,e1,h⟩:=h;obtain ⟨m,hn,hl⟩:=I.loc;have vis:Al X.env.scope x:=by rcases hx with k | k;exact .inl k;exact .inr (.inl k)
 obtain ⟨u,r,l⟩:=hl i x v hi e1 vis;refine wpAny_AugAssign_Name ?_;have go:wpAny (model X.prog X.w) X.A (eval e X.env) (fun w s₂=>wpAny (model X.prog X.w) X.A (inplaceOp op u w) (fun r s₃=>wpAny (model X.prog X.w) X.A (storeName X.env x r) (fun _=>SP X pins D .next) X.xe s₃) X.xe s₂) X.xe s:=by
  refine Wu (he pins s σ H _ I h) fun w s1 ⟨y,H1,I1,r1,q1⟩=>?_
  refine Wu (ho pins s1 σ H1 v y u w _ I1 r r1 q1) fun z s2 ⟨zv,H2,I2,r2,q2⟩=>?_
  exact Dv I2 hN hi hx r2 (fun s3 I3=>⟨_,H2,I3,q2⟩) hf
 rcases l with ⟨hk,hm⟩ | ⟨hk,c,hc,hcell⟩
 ·exact wpAny_loadName_local I.ok.kind hk hn hm go
 ·rcases hk with hk | hk
  ·exact wpAny_loadName_cell I.ok.kind hk hc hcell go
  ·rcases hx with k | k
   ·have:X.env.scope.names.lookup x=some .free:=hk
    rw [k] at this;cases this
   ·have:X.env.scope.names.lookup x=some .free:=hk
    rw [k] at this;cases this
def ipI (f:Int->Int->Int):TIp:=fun x y H Q=>∃ i j,x=.int i/\y=.int j/\Q (.int (f i j)) H
theorem Z8d:PIp X .Add (ipI fun i j=>i+j):=by
 intro pins s σ H x y v u Q I r1 r2 h;obtain ⟨i,j,e1,e2,q⟩:=h;subst e1;subst e2;obtain ⟨t,rfl⟩:=r1;obtain ⟨t',rfl⟩:=r2;exact iadd_int ⟨.int _,H,I.tok _,⟨_,rfl⟩,q⟩
def Z90 (c:TT) (tb:TS):TS:=fun D σ H=>∃ W:Nat->St->Hp->Prop,(∃ m,W m σ H)/\∀ m σ H,W m σ H ->
 c σ H fun b H1=>if b=true then ∃ N:St->Hp->Prop,(∀ σ' H',N σ' H'->∃ m',m'<m/\W m' σ' H')/\tb { D with nx:=N,ct:=N,bk:=D.nx } σ H1 else D.nx σ H1
theorem Z44 {c:Expr} {body:List Stmt} {tc:TT} {tb:TS} (hp:PassesOwn (model X.prog X.w) X.A X.env X.xe) (hc:PT X c tc) (hb:Sm X body tb):PS X (.While c body [] pos) (Z90 tc tb):=by
 intro pins s σ H D I h;obtain ⟨W,⟨m0,w0⟩,turn⟩:=h;refine wpAny_While (codeAny_whileLoop (fun n s'=>∃ σ' H',Inv X pins σ' H' s'/\W n σ' H') ?_ m0 ⟨σ,H,I,w0⟩);rintro n s1 ⟨σ1,H1,I1,w1⟩;refine wpAny_passesOwn hp (Wu (hc pins s1 σ1 H1 _ I1 (turn n σ1 H1 w1)) fun b s2 ⟨H2,I2,q2⟩=>?_);cases b with
 | true =>
  obtain ⟨N,hN,q2⟩:=q2;rw [if_pos rfl];refine wpAny_passesOwn hp (Wu (hb pins s2 σ1 H2 _ I2 q2) fun f s3 q3=>?_);cases f with
  | next =>
   obtain ⟨σ3,H3,I3,n3⟩:=q3;obtain ⟨m',hm,w3⟩:=hN σ3 H3 n3;exact ⟨m',hm,σ3,H3,I3,w3⟩
  | cont =>
   obtain ⟨σ3,H3,I3,n3⟩:=q3;obtain ⟨m',hm,w3⟩:=hN σ3 H3 n3;exact ⟨m',hm,σ3,H3,I3,w3⟩
  | brk=>exact q3
  | ret v=>exact q3
 | false =>
  rw [if_neg Bool.false_ne_true];exact wpAny_execs_nil ⟨σ1,H2,I2,q2⟩
end
structure It where
 go:Nat->Hp->Prop
 yld:Nat->Hp->V->Hp->Prop
 stop:Nat->Hp->Prop
def Sx (X:Cx) (pins:List (Addr×Obj)) (H:Hp) (b:Addr):Prop :=
 H b=none/\b≠X.env.locals/\b∉X.fs/\(b∈X.ex\/X.s₀.heap.objs.size<=b)/\(∀ x c,X.env.cells.lookup x=some c->c≠b)/\∀ p∈X.pn++pins,p.1≠b
theorem Inv.fpOk {X:Cx} {pins:List (Addr×Obj)} {σ:St} {H H':Hp} {s:Shared} {b:Addr} (I:Inv X pins σ H s) (hb:s.heap.objs.size<=b) (hn:H' b=none):Sx X pins H' b:=by
 refine ⟨hn,Nat.ne_of_gt (lt_of_lt_of_le I.lt hb),I.nofs hb,.inr (le_trans I.sz hb),fun x c e z=>?_,fun p hp z=>?_⟩
 ·obtain ⟨v,q⟩:=I.cell x c e
  exact absurd (lt_of_lt_of_le q.lt (by rw [z];exact hb)) (lt_irrefl _)
 ·exact absurd (lt_of_lt_of_le (lt_size (I.pin p hp).1) (by rw [z];exact hb)) (lt_irrefl _)
structure Turn (P:Program) (w:World) (K:PySem.W.Frag) (tg:Expr) (J:It) (fp:List Addr) (it:Addr) (tn:Nat->Heap->Prop):Prop where
 mem:it∈fp
 obj:∀ i h,tn i h->∀ b∈fp,∃ o,h.get? b=some o/\∀ v,o.data≠.cell v
 keep:∀ i h h',tn i h->(∀ b∈fp,∀ o,h.get? b=some o->h'.get? b=some o)->tn i h'
 item:∀ (X:Cx),X.prog=P->X.w=w->X.K=K->X.calm=true->∀ (i:Nat) (pins:List (Addr×Obj)) (s:Shared) (σ:St) (H:Hp) (E:Value->Shared->Prop),Inv X pins σ H s->(∀ b∈fp,Sx X pins H b)->tn i s.heap->J.go i H ->
  wpAny (model P w) X.A (pyNext (.ref it)) (fun r s1=>∃ u,r=some u /\
   wpAny (model P w) X.A (letOwnedTupleGo tg (.ref it) u) (fun _ s2=>∃ x H',Inv X pins σ H' s2/\Yo x u/\J.yld i H x H'/\tn (i+1) s2.heap/\∀ b∈fp,H' b=none) E s1) E s
 done:∀ (X:Cx),X.prog=P->X.w=w->X.K=K->X.calm=true->∀ (i:Nat) (pins:List (Addr×Obj)) (s:Shared) (σ:St) (H:Hp) (E:Value->Shared->Prop),Inv X pins σ H s->(∀ b∈fp,Sx X pins H b)->tn i s.heap->J.stop i H ->
  wpAny (model P w) X.A (pyNext (.ref it)) (fun r s1=>r=none/\Inv X pins σ H s1) E s
 self:∀ (A:Around) (i:Nat) (s:Shared) (Q:Value->Shared->Prop) (E:Value->Shared->Prop),tn i s.heap->Q (.ref it) s->wpAny (model P w) A (pyIter (.ref it)) Q E s
abbrev TI:=St->Hp->(It->Hp->Prop)->Prop
def PIE (X:Cx) (pins:List (Addr×Obj)) (σ:St) (tg:Expr) (R:It->Hp->Prop) (itv:Value) (s2:Shared):Prop :=
 ∃ (it:Addr) (fp:List Addr) (tn:Nat->Heap->Prop) (J:It) (H':Hp),itv=.ref it/\Inv X pins σ H' s2/\Turn X.prog X.w X.K tg J fp it tn/\tn 0 s2.heap/\(∀ b∈fp,Sx X pins H' b)/\R J H'
def PI (X:Cx) (tg iter:Expr) (wi:TI):Prop :=
 ∀ (pins:List (Addr×Obj)) (s:Shared) (σ:St) (H:Hp) (R:It->Hp->Prop),Inv X pins σ H s->wi σ H R ->
  wpAny (model X.prog X.w) X.A (eval iter X.env) (fun v s1=>wpAny (model X.prog X.w) X.A (pyIter v) (PIE X pins σ tg R) X.xe s1) X.xe s
theorem Z1p {M:Model} {A:Around} {E:Value->Shared->Prop} {s:Shared} {tg:Expr} {it:Addr} {u:Value} {o:Obj} {n:String} {vs:Array Value} {Q:Unit->Shared->Prop} (ho:s.heap.get? it=some o) (hc:o.cls=.type n) (hd:o.data=.fields vs)
   (hn:["enumerate","zip","dict_itemiterator","dict_reverseitemiterator","odict_iterator","itertools.zip_longest","itertools.pairwise"].contains n=false) (hQ:Q () s):wpAny M A (letOwnedTupleGo tg (.ref it) u) Q E s:=by
 unfold letOwnedTupleGo;cases tg<;>first
   | exact wpAny_pure hQ
   | (cases u<;>first
       | exact wpAny_pure hQ
       | (refine wpAny_bind (wpAny_load ho ?_)
          rw [hc,hd];show wpAny M A (if (["enumerate","zip","dict_itemiterator","dict_reverseitemiterator","odict_iterator","itertools.zip_longest","itertools.pairwise"].contains n&&vs[0]?==some (rawInt _))=true then _ else _) Q E s;rw [if_neg (by intro h;rw [hn,Bool.false_and] at h;cases h)];exact wpAny_pure hQ))
def Itl (K:PySem.W.Frag) (a:Addr):It :=
 ⟨fun i H=>∃ xs x,Mu K H a xs/\xs[i]?=some x,fun i H x H'=>H'=H/\∀ xs,Mu K H a xs->xs[i]?=some x,fun i H=>∃ xs,Mu K H a xs/\xs.length<=i⟩
def Itt (K:PySem.W.Frag) (a:Addr):It :=
 ⟨fun i H=>∃ xs x,Sh K H a xs/\xs[i]?=some x,fun i H x H'=>H'=H/\∀ xs,Sh K H a xs->xs[i]?=some x,fun i H=>∃ xs,Sh K H a xs/\xs.length<=i⟩
def Itr (lo:Int) (n:Nat):It:=⟨fun i _=>i<n,fun i H x H'=>H'=H/\x=.int (lo+i),fun i _=>n<=i⟩
theorem Z0y {P:Program} {w:World} {K:PySem.W.Frag} {tg:Expr} (a it:Addr):Turn P w K tg (Itl K a) [it] it (fun i h=>h.IsListIter it a i) where
 mem:=by simp
 obj:=fun i h st b hb=>by
  have e:b=it:=by simpa using hb
  subst e;obtain ⟨o,e,c,d⟩:=st;exact ⟨o,e,fun v z=>by rw [d] at z;cases z⟩
 keep:=fun i h h' st k=>st.at fun o e=>k it (by simp) o e
 item:=by
  intro X hP hw hK hc i pins s σ H E I hf st hg;subst hP hw hK;obtain ⟨xs,x,hq,hx⟩:=hg;obtain ⟨its,rv,p,hz⟩:=I.list hq;obtain ⟨u,hu,ru⟩:=rv.get hx;obtain ⟨f0,f1,f2,f3,f4,f5⟩:=hf it (by simp);refine wpAny_pyNext_list_item st p.isList (x:=u) (by simpa using hu) fun h' st' sb=>?_
  have I1:Inv X pins σ H { s with heap:=h' }:=I.turned (t':=s.toks) (fun b o hb e=>(sb.2 b hb).trans e) f0 f1 f3 f4 f5;obtain ⟨o,e,c,d⟩:=id st';exact ⟨u,rfl,Z1p (s:={ s with heap:=h' }) e c d (by decide) ⟨x,H,I1,ru,⟨rfl,fun ys hy=>by rw [I.list_inj hy hq];exact hx⟩,st',fun b hb=>(hf b hb).1⟩⟩
 done:=by
  intro X hP hw hK hc i pins s σ H E I hf st hg;subst hP hw hK;obtain ⟨xs,hq,hx⟩:=hg;obtain ⟨its,rv,p,hz⟩:=I.list hq;obtain ⟨f0,f1,f2,f3,f4,f5⟩:=hf it (by simp);have hl:=rv.length;exact wpAny_pyNext_list_end (I.ok.hd hc) st p.isList (by simp;lia) fun h' eb=>⟨rfl,I.turned (t':=s.toks) (fun b o hb e=>eb b o hb e) f0 f1 f3 f4 f5⟩
 self:=fun _ _ _ _ _ st h=>wpAny_pyIter_listiter st h
theorem A3 {P:Program} {w:World} {K:PySem.W.Frag} {tg:Expr} (a it:Addr):Turn P w K tg (Itt K a) [it] it (fun i h=>h.IsTupleIter it a i) where
 mem:=by simp
 obj:=fun i h st b hb=>by
  have e:b=it:=by simpa using hb
  subst e;obtain ⟨o,e,c,d⟩:=st;exact ⟨o,e,fun v z=>by rw [d] at z;cases z⟩
 keep:=fun i h h' st k=>st.at fun o e=>k it (by simp) o e
 item:=by
  intro X hP hw hK hc i pins s σ H E I hf st hg;subst hP hw hK;obtain ⟨xs,x,hq,hx⟩:=hg;obtain ⟨its,rv,p,hz⟩:=I.tuple hq;obtain ⟨u,hu,ru⟩:=rv.get hx;obtain ⟨f0,f1,f2,f3,f4,f5⟩:=hf it (by simp);refine wpAny_pyNext_tuple_item st (show s.heap.IsTuple a its.toArray from p) (x:=u) (by simpa using hu) fun h' st' sb=>?_
  have I1:Inv X pins σ H { s with heap:=h' }:=I.turned (t':=s.toks) (fun b o hb e=>(sb.2 b hb).trans e) f0 f1 f3 f4 f5;obtain ⟨o,e,c,d⟩:=id st';exact ⟨u,rfl,Z1p (s:={ s with heap:=h' }) e c d (by decide) ⟨x,H,I1,ru,⟨rfl,fun ys hy=>by rw [I.tuple_inj hy hq];exact hx⟩,st',fun b hb=>(hf b hb).1⟩⟩
 done:=by
  intro X hP hw hK hc i pins s σ H E I hf st hg;subst hP hw hK;obtain ⟨xs,hq,hx⟩:=hg;obtain ⟨its,rv,p,hz⟩:=I.tuple hq;obtain ⟨f0,f1,f2,f3,f4,f5⟩:=hf it (by simp);have hl:=rv.length;exact wpAny_pyNext_tuple_end (I.ok.hd hc) st (show s.heap.IsTuple a its.toArray from p) (by simp;lia) fun h' eb=>⟨rfl,I.turned (t':=s.toks) (fun b o hb e=>eb b o hb e) f0 f1 f3 f4 f5⟩
 self:=fun _ _ _ _ _ st h=>wpAny_pyIter_tupleiter st h
theorem Ah {P:Program} {w:World} {K:PySem.W.Frag} {tg:Expr} (it:Addr) (lo:Int) (n:Nat):Turn P w K tg (Itr lo n) [it] it (fun i h=>IsRangeIter h it (lo+(i:Nat)*1) ((n:Int) - (i:Nat)) 1) where
 mem:=by simp
 obj:=fun i h st b hb=>by
  have e:b=it:=by simpa using hb
  subst e;exact ⟨_,st,fun v z=>by
   have z':Data.fields _=Data.cell v:=z;cases z'⟩
 keep:=fun i h h' st k=>k it (by simp) _ st
 item:=by
  intro X hP hw hK hc i pins s σ H E I hf st hg;subst hP hw hK;obtain ⟨f0,f1,f2,f3,f4,f5⟩:=hf it (by simp);have W:=Walks.range (prog:=X.prog) (w:=X.w) (I.ok.hd hc) it lo 1 n;refine W.item i s _ _ hg st fun v h' tk hv st' kk=>?_
  obtain ⟨t,rfl⟩:=hv;have I1:Inv X pins σ H { s with heap:=h',toks:=tk }:=I.turned (fun b o hb e=>kk b o (by simpa using hb) e) f0 f1 f3 f4 f5;refine ⟨_,rfl,Z1p (s:={ s with heap:=h',toks:=tk }) (n:="range_iterator") st' rfl rfl (by decide) ⟨.int (lo+i),H,I1,⟨t,?_⟩,⟨rfl,rfl⟩,st',fun b hb=>(hf b hb).1⟩⟩;rw [Int.mul_one]
 done:=by
  intro X hP hw hK hc i pins s σ H E I hf st hg;subst hP hw hK;obtain ⟨f0,f1,f2,f3,f4,f5⟩:=hf it (by simp);exact wpAny_pyNext_range_end (I.ok.hd hc) st (by have:n<=i:=hg;lia) fun h' eb=>⟨rfl,I.turned (t':=s.toks) (fun b o hb e=>eb b o hb e) f0 f1 f3 f4 f5⟩
 self:=fun _ _ _ _ _ st h=>wpAny_pyIter_rangeiter st h
section
variable {X:Cx} {tg:Expr}
def Z6z (K:PySem.W.Frag) (tl:TE):TI:=fun σ H R=>tl σ H fun x H1=>∃ a,x=.ref a/\(∃ xs,Mu K H1 a xs)/\R (Itl K a) H1
def Zcq (K:PySem.W.Frag) (tl:TE):TI:=fun σ H R=>tl σ H fun x H1=>∃ a,x=.ref a/\(∃ xs,Sh K H1 a xs)/\R (Itt K a) H1
theorem Z6h {l:Expr} {tl:TE} (hl:PE X l tl):PI X tg l (Z6z X.K tl):=by
 intro pins s σ H R I h;refine Wu (hl pins s σ H _ I h) fun v s1 ⟨x,H1,I1,r1,q1⟩=>?_
 obtain ⟨a,e,⟨xs,hq⟩,q⟩:=q1;subst e;cases r1;obtain ⟨its,rv,p,hz⟩:=I1.list hq;refine wpAny_pyIter_list p.isList ?_;refine ⟨s1.heap.objs.size,[s1.heap.objs.size],_,_,H1,rfl,I1.kept (t':=s1.toks) fun b o e=>get?_push_of_some _ e,Z0y a _,⟨_,get?_push_size _ rfl,rfl,rfl⟩,fun b hb=>?_,q⟩;have e:b=s1.heap.objs.size:=by simpa using hb
 subst e;exact I1.fpOk (le_refl _) (I1.hok.fresh (le_refl _))
theorem Z86 {l:Expr} {tl:TE} (hl:PE X l tl):PI X tg l (Zcq X.K tl):=by
 intro pins s σ H R I h;refine Wu (hl pins s σ H _ I h) fun v s1 ⟨x,H1,I1,r1,q1⟩=>?_
 obtain ⟨a,e,⟨xs,hq⟩,q⟩:=q1;subst e;cases r1;obtain ⟨its,rv,p,hz⟩:=I1.tuple hq;refine wpAny_pyIter_tuple (show s1.heap.IsTuple a its.toArray from p) ?_;refine ⟨s1.heap.objs.size,[s1.heap.objs.size],_,_,H1,rfl,I1.kept (t':=s1.toks) fun b o e=>get?_push_of_some _ e,A3 a _,⟨_,get?_push_size _ rfl,rfl,rfl⟩,fun b hb=>?_,q⟩;have e:b=s1.heap.objs.size:=by simpa using hb
 subst e;exact I1.fpOk (le_refl _) (I1.hok.fresh (le_refl _))
theorem Z2j {pins:List (Addr×Obj)} {σ:St} {H:Hp} {s:Shared} {R:It->Hp->Prop} {E:Value->Shared->Prop} {lo hi:Int} {t u v:Tok} {tk:Nat} (I:Inv X pins σ H s) (h1 : -(2^62)<=lo) (h2:lo<2^62) (h3 : -(2^62)<=hi) (h4:hi<2^62)
  (q:R (Itr lo (hi - lo).toNat) H):wpAny (model X.prog X.w) X.A (pyIter (.ref s.heap.objs.size)) (PIE X pins σ tg R) E { s with heap:=s.heap.push { cls:=.type "range",data:=.fields #[.int lo t,.int hi u,.int 1 v] },toks:=tk }:=by
 refine wpAny_pyIter_range (IsRange.new ..) (small_one h1 h2 h3 h4) ?_;have I1:Inv X pins σ H { s with heap:=s.heap.push { cls:=.type "range",data:=.fields #[.int lo t,.int hi u,.int 1 v] },toks:=tk }:=I.kept fun b o e=>get?_push_of_some _ e
 refine ⟨(s.heap.push { cls:=.type "range",data:=.fields #[.int lo t,.int hi u,.int 1 v] }).objs.size,[(s.heap.push { cls:=.type "range",data:=.fields #[.int lo t,.int hi u,.int 1 v] }).objs.size],_,_,H,rfl,
  I1.kept (t':=tk) fun b o e=>get?_push_of_some _ e,Ah _ lo (hi - lo).toNat,?_,fun b hb=>?_,q⟩
 ·have e1:lo+((0:Nat):Int)*1=lo:=by simp
  have e2:(((hi - lo).toNat:Nat):Int) - ((0:Nat):Int)=Builtin.Range.rangeSize lo hi 1:=by rw [rangeSize_one];split<;>lia
  show IsRangeIter _ _ (lo+((0:Nat):Int)*1) ((((hi - lo).toNat:Nat):Int) - ((0:Nat):Int)) 1;rw [e1,e2];exact get?_push_size _ rfl
 ·have e:b=(s.heap.push { cls:=.type "range",data:=.fields #[.int lo t,.int hi u,.int 1 v] }).objs.size:=by simpa using hb
  subst e;exact I1.fpOk (le_refl _) (I1.hok.fresh (le_refl _))
def Zb4 (ta:TA):TI:=fun σ H R=>ta σ H fun vs H1=>∃ j:Int,vs=[.int j]/\-(2^62)<=j/\j<2^62/\R (Itr 0 j.toNat) H1
theorem Z05 {a:Expr} {ta:TA} {p pos:Pos} (hg:Gl X "range") (hm:X.mg "range" = none) (ha:PA X [a] ta) (hs:starEach [a] X.env=[(false,eval a X.env)]:=by rfl):PI X tg (.Call (.Name "range" p) [a] [] pos) (Zb4 ta):=by
 intro pins s σ H R I h;refine Call_ (R4 I hg hm boot_range (PyProof.Rows.callWith_type1 (Wu (ha pos pins s σ H _ I h) fun us s1 ⟨vs,H1,I1,r1,q1⟩=>?_) hs rfl));obtain ⟨j,e,q1,q2,q⟩:=q1;subst e;cases r1 with
 | cons r rr =>
  cases rr;obtain ⟨t,rfl⟩:=r;exact call_range_1 (Z2j I1 (by lia) (by lia) q1 q2 (by simpa using q))
def Zef (wi:TI) (g:TG) (tb:TS):TS:=fun D σ H=>wi σ H fun J H1=>∃ W:Nat->Nat->St->Hp->Prop,(∃ m,W 0 m σ H1)/\∀ i m σ H,W i m σ H ->
 (J.stop i H/\D.nx σ H)\/(J.go i H/\∃ N:St->Hp->Prop,(∀ σ' H',N σ' H'->∃ m',m'<m/\W (i+1) m' σ' H')/\∀ x H',J.yld i H x H'->g x σ H' fun σ2 H2=>tb { D with nx:=N,ct:=N,bk:=D.nx } σ2 H2)
def Kv (fp:List Addr) (h:Heap):List (Addr×Obj):=fp.filterMap fun b=>(h.get? b).map fun o=>(b,o)
theorem M5 {fp:List Addr} {h:Heap} {b:Addr} {o:Obj} (hb:b∈fp) (e:h.get? b=some o):(b,o)∈Kv fp h:=List.mem_filterMap.mpr ⟨b,hb,by rw [e];rfl⟩
theorem Cp {fp:List Addr} {h:Heap} {p:Addr×Obj} (hp:p∈Kv fp h):p.1∈fp/\h.get? p.1=some p.2:=by
 obtain ⟨b,hb,e⟩:=List.mem_filterMap.mp hp;cases q:h.get? b with
 | none=>rw [q] at e;cases e
 | some o =>
  rw [q] at e;have e':(b,o)=p:=Option.some.inj e;subst e';exact ⟨hb,q⟩
theorem Inv.pinned {pins:List (Addr×Obj)} {σ:St} {H:Hp} {s:Shared} {fp:List Addr} (I:Inv X pins σ H s) (hf:∀ b∈fp,Sx X pins H b) (ho:∀ b∈fp,∃ o,s.heap.get? b=some o/\∀ v,o.data≠.cell v):Inv X (pins++Kv fp s.heap) σ H s :=
 I.pins_of fun p hp=>(mem_append.mp hp).elim (fun z=>I.pin p (mem_append_right _ z)) fun z=>by
  obtain ⟨hb,e⟩:=Cp z;obtain ⟨f0,f1,f2,_⟩:=hf p.1 hb;obtain ⟨o,e',d⟩:=ho p.1 hb;rw [e] at e';cases e';exact ⟨e,f0,f1,f2,d⟩
theorem Inv.unpinned {pins pl:List (Addr×Obj)} {σ:St} {H:Hp} {s:Shared} (I:Inv X (pins++pl) σ H s):Inv X pins σ H s:=I.pins_of fun p hp=>I.pin p (mem_append_right _ (mem_append_left _ hp))
theorem Zar {iter:Expr} {body:List Stmt} {wi:TI} {g:TG} {tb:TS} {pos:Pos} (hp:PassesOwn (model X.prog X.w) X.A X.env X.xe) (hc:X.calm=true) (hi:PI X tg iter wi) (hg:PG X tg g) (hb:Sm X body tb)
  (hs:∀ x,foldedSetIterable iter X.env x=pure x:=by intro _;rfl):PS X (.For tg iter body [] pos) (Zef wi g tb):=by
 intro pins s σ H D I h;refine wpAny_For (Wu (hi pins s σ H _ I h) fun v s1 h1=>Wu h1 fun itv s2 h2=>?_) hs;obtain ⟨it,fp,tn,J,H2,e,I2,T,st2,f2,W,⟨m0,w0⟩,turn⟩:=h2;subst e
 -- what stays true of the iterator's objects through the loop
 have stat:∀ {H':Hp},(∀ b∈fp,H' b=none)->∀ b∈fp,Sx X pins H' b:=fun hn b hb=>⟨hn b hb,(f2 b hb).2⟩
 refine codeAny_forLoop_any (fun n s'=>∃ i σ' H',Inv X pins σ' H' s'/\tn i s'.heap/\(∀ b∈fp,H' b=none)/\W i n σ' H') ?_ m0 ⟨0,σ,H2,I2,st2,fun b hb=>(f2 b hb).1,w0⟩;rintro n s3 ⟨i,σ3,H3,I3,st3,fr3,w3⟩;rcases turn i n σ3 H3 w3 with ⟨stop,qn⟩ | ⟨go,N,hN,step⟩
 ·refine wpAny_passesOwn hp (Wu (T.done X rfl rfl rfl hc i pins s3 σ3 H3 X.xe I3 (stat fr3) st3 stop) fun r s4 ⟨hr,I4⟩=>?_)
  subst hr;exact wpAny_execs_nil ⟨σ3,H3,I4,qn⟩
 ·refine wpAny_passesOwn hp (Wu (T.item X rfl rfl rfl hc i pins s3 σ3 H3 X.xe I3 (stat fr3) st3 go) fun r s4 ⟨u,hr,h4⟩=>?_)
  subst hr;refine wpAny_passesOwn hp (Wu h4 fun _ s5 ⟨x,H5,I5,r5,y5,st5,fr5⟩=>?_);have I5':=I5.pinned (stat fr5) (T.obj _ _ st5);refine wpAny_passesOwn hp (Wu (hg _ s5 σ3 H5 x u _ I5' r5 (step x H5 y5)) fun _ s6 ⟨σ6,H6,I6,q6⟩=>?_);refine wpAny_passesOwn hp (Wu (hb _ s6 σ6 H6 _ I6 q6) fun f s7 q7=>?_);have again:∀ {σ7:St} {H7:Hp},Inv X (pins++Kv fp s5.heap) σ7 H7 s7->N σ7 H7->∃ m,m<n/\∃ i σ' H',Inv X pins σ' H' s7/\tn i s7.heap/\(∀ b∈fp,H' b=none)/\W i m σ' H':=fun {σ7 H7} I7 n7=>by
   obtain ⟨m',hm,w7⟩:=hN σ7 H7 n7;refine ⟨m',hm,i+1,σ7,H7,I7.unpinned,T.keep _ _ _ st5 fun b hb o e=>(I7.pin (b,o) (mem_append_right _ (mem_append_right _ (M5 hb e)))).1,fun b hb=>?_,w7⟩;obtain ⟨o,e,d⟩:=T.obj _ _ st5 b hb;exact (I7.pin (b,o) (mem_append_right _ (mem_append_right _ (M5 hb e)))).2.1
  cases f with
  | next=>obtain ⟨σ7,H7,I7,n7⟩:=q7;exact again I7 n7
  | cont=>obtain ⟨σ7,H7,I7,n7⟩:=q7;exact again I7 n7
  | brk=>obtain ⟨σ7,H7,I7,q7⟩:=q7;exact ⟨σ7,H7,I7.unpinned,q7⟩
  | ret v=>obtain ⟨x7,σ7,H7,I7,r7,q7⟩:=q7;exact ⟨x7,σ7,H7,I7.unpinned,r7,q7⟩
end
abbrev R2:=V->V->Hp->VK->Prop
def Si (X:Cx) (f:Value->Value->Sem Value) (r:R2):Prop :=
 ∀ (pins:List (Addr×Obj)) (s:Shared) (σ:St) (H:Hp) (x y:V) (v u:Value) (Q:VK),Inv X pins σ H s->Yo x v->Yo y u->r x y H Q ->
  wpAny (model X.prog X.w) X.A (f v u) (EP X pins σ Q) X.xe s
def UnR (X:Cx) (f:Value->Sem Value) (r:V->Hp->VK->Prop):Prop :=
 ∀ (pins:List (Addr×Obj)) (s:Shared) (σ:St) (H:Hp) (x:V) (v:Value) (Q:VK),Inv X pins σ H s->Yo x v->r x H Q ->
  wpAny (model X.prog X.w) X.A (f v) (EP X pins σ Q) X.xe s
def V5 (X:Cx) (f:Value) (r:List V->Hp->VK->Prop):Prop :=
 ∀ (pins:List (Addr×Obj)) (s:Shared) (σ:St) (H:Hp) (xs:List V) (us:List Value) (Q:VK),Inv X pins σ H s->Y3 xs us->r xs H Q ->
  wpAny (model X.prog X.w) X.A (call f us) (EP X pins σ Q) X.xe s
def Zdy (X:Cx) (r:V->Hp->(Bool->Hp->Prop)->Prop):Prop :=
 ∀ (pins:List (Addr×Obj)) (s:Shared) (σ:St) (H:Hp) (x:V) (v:Value) (Q:Bool->Hp->Prop),Inv X pins σ H s->Yo x v->r x H Q ->
  wpAny (model X.prog X.w) X.A (truthy v) (TP X pins σ Q) X.xe s
def tOp (r:R2) (ta tb:TE):TE:=fun σ H Q=>ta σ H fun x H1=>tb σ H1 fun y H2=>r x y H2 Q
def tUn (r:V->Hp->VK->Prop) (ta:TE):TE:=fun σ H Q=>ta σ H fun x H1=>r x H1 Q
def rI (C:Int->Int->Prop) (g:Int->Int->V):R2:=fun x y H Q=>∃ i j,x=.int i/\y=.int j/\C i j/\Q (g i j) H
def rI0 (g:Int->Int->V):R2:=fun x y H Q=>∃ i j,x=.int i/\y=.int j/\Q (g i j) H
def rU (g:Int->V):V->Hp->VK->Prop:=fun x H Q=>∃ i,x=.int i/\Q (g i) H
section
variable {X:Cx} {a b c:Expr} {ta tb tc:TE} {pos:Pos}
theorem Z8s (ha:PE X a ta) (hb:PE X b tb) {pins:List (Addr×Obj)} {s:Shared} {σ:St} {H:Hp} {R:V->V->Hp->Prop} (I:Inv X pins σ H s)
  (h:ta σ H fun x H1=>tb σ H1 fun y H2=>R x y H2) {Q:Value->Shared->Prop} {f:Value->Value->Sem Value}
  (hf:∀ v u s2 x y H2,Inv X pins σ H2 s2->Yo x v->Yo y u->R x y H2->wpAny (model X.prog X.w) X.A (f v u) Q X.xe s2) :
  wpAny (model X.prog X.w) X.A (eval a X.env) (fun v s₁=>wpAny (model X.prog X.w) X.A (eval b X.env) (fun u s₂=>wpAny (model X.prog X.w) X.A (f v u) Q X.xe s₂) X.xe s₁) X.xe s:=by
 refine Wu (ha pins s σ H _ I h) fun v s1 ⟨x,H1,I1,r1,q1⟩=>?_
 refine Wu (hb pins s1 σ H1 _ I1 q1) fun u s2 ⟨y,H2,I2,r2,q2⟩=>?_
 exact hf v u s2 x y H2 I2 r1 r2 q2
theorem Z71 {op:Operator} {r:R2} (ho:Si X (binaryOp op) r) (ha:PE X a ta) (hb:PE X b tb):PE X (.BinOp a op b pos) (tOp r ta tb):=by
 intro pins s σ H Q I h;exact wpAny_BinOp (Z8s ha hb I h fun v u s2 x y H2 I2 rx ry q=>ho pins s2 σ H2 x y v u Q I2 rx ry q)
theorem Zc6 {op:UnaryOp} {r:V->Hp->VK->Prop} (ho:UnR X (unaryOp op) r) (ha:PE X a ta):PE X (.UnaryOp op a pos) (tUn r ta):=by
 intro pins s σ H Q I h;exact UnaryOp_ (Wu (ha pins s σ H _ I h) fun v s1 ⟨x,H1,I1,r1,q1⟩=>ho pins s1 σ H1 x v Q I1 r1 q1)
theorem opI {f:Value->Value->Sem Value} {C:Int->Int->Prop} {g:Int->Int->Int}
  (rule:∀ (i j:Int) (t u:Tok) (s:Shared) (Q:Value->Shared->Prop) (E:Value->Shared->Prop),C i j->Q (.int (g i j) s.toks) { s with toks:=s.toks+1 }->wpAny (model X.prog X.w) X.A (f (.int i t) (.int j u)) Q E s) :
  Si X f (rI C fun i j=>.int (g i j)):=by
 intro pins s σ H x y v u Q I rx ry h;obtain ⟨i,j,rfl,rfl,hc,q⟩:=h;obtain ⟨t,rfl⟩:=rx;obtain ⟨t',rfl⟩:=ry;exact rule i j t t' s _ _ hc ⟨.int (g i j),H,I.tok _,⟨_,rfl⟩,q⟩
theorem Z3t {f:Value->Value->Sem Value} {g:Int->Int->Int}
  (rule:∀ (i j:Int) (t u:Tok) (s:Shared) (Q:Value->Shared->Prop) (E:Value->Shared->Prop),Q (.int (g i j) s.toks) { s with toks:=s.toks+1 }->wpAny (model X.prog X.w) X.A (f (.int i t) (.int j u)) Q E s) :
  Si X f (rI0 fun i j=>.int (g i j)):=by
 intro pins s σ H x y v u Q I rx ry h;obtain ⟨i,j,rfl,rfl,q⟩:=h;obtain ⟨t,rfl⟩:=rx;obtain ⟨t',rfl⟩:=ry;exact rule i j t t' s _ _ ⟨.int (g i j),H,I.tok _,⟨_,rfl⟩,q⟩
theorem Z84 {f:Value->Value->Sem Value} {g:Int->Int->Bool}
  (rule:∀ (i j:Int) (t u:Tok) (s:Shared) (Q:Value->Shared->Prop) (E:Value->Shared->Prop),Q (.bool (g i j)) s->wpAny (model X.prog X.w) X.A (f (.int i t) (.int j u)) Q E s) :
  Si X f (rI0 fun i j=>.bl (g i j)):=by
 intro pins s σ H x y v u Q I rx ry h;obtain ⟨i,j,rfl,rfl,q⟩:=h;obtain ⟨t,rfl⟩:=rx;obtain ⟨t',rfl⟩:=ry;exact rule i j t t' s _ _ ⟨.bl (g i j),H,I,rfl,q⟩
def Z46 (i j:Int):Prop:=0<j/\j<1073741824
def Z63 (i j:Int):Prop:=0<=j/\j<=1000000/\i.natAbs<2^64
def Fp (i j:Int):Prop:=(-(2^64)<i/\i<2^64)\/(-(2^64)<j/\j<2^64)
theorem Fp.ok {i j:Int} (h:Fp i j):IntMulOk i j:=by
 rcases h with ⟨h1,h2⟩ | ⟨h1,h2⟩
 ·exact .of_left (intBits_le_64 h1 h2)
 ·exact .of_right (intBits_le_64 h1 h2)
theorem F7 (k:Nat):(0:Int)<=2^k:=by
 rw [two_pow_cast];exact Int.natCast_nonneg _
theorem Z9a:Si X (binaryOp .Add) (rI0 fun i j=>.int (i+j)):=Z3t fun _ _ _ _ _ _ _ q=>add_int q
theorem Z8q:Si X (binaryOp .Sub) (rI0 fun i j=>.int (i - j)):=Z3t fun _ _ _ _ _ _ _ q=>sub_int q
theorem Z8t:Si X (binaryOp .Mult) (rI Fp fun i j=>.int (i*j)):=opI fun _ _ _ _ _ _ _ hc q=>mul_int q hc.ok
theorem Z6b:Si X (binaryOp .FloorDiv) (rI Z46 fun i j=>.int (i / j)):=opI fun i j _ _ _ _ _ hc q=>by
 have h1:(0:Int)<j:=hc.1;have h2:j<1073741824:=hc.2;exact floordiv_int (by lia) (by rw [Int.fdiv_eq_ediv_of_nonneg i (by lia)];exact q) (.inl (PyProof.noPylong_small (by lia)))
theorem Z7t:Si X (binaryOp .Mod) (rI (fun _ j=>0<j) fun i j=>.int (i % j)):=opI fun i j _ _ _ _ _ hc q=>by
 have h1:(0:Int)<j:=hc;exact mod_int' (by lia) (by rw [Int.fmod_eq_emod_of_nonneg i (by lia)];exact q)
theorem Za4:Si X (binaryOp .LShift) (rI Z63 fun i j=>.int (i*2^j.toNat)):=opI fun _ _ _ _ _ _ _ hc q=>lshift_int_small hc.1 hc.2.1 hc.2.2 q
theorem Z89:Si X (binaryOp .RShift) (rI (fun _ j=>0<=j) fun i j=>.int (i / 2^j.toNat)):=opI fun i j _ _ _ _ _ hc q =>
 rshift_int hc (by rw [Int.fdiv_eq_ediv_of_nonneg i (F7 _)];exact q)
theorem Z8b:Si X (binaryOp .BitAnd) (rI0 fun i j=>.int (Builtin.bitAnd i j)):=Z3t fun _ _ _ _ _ _ _ q=>and_int q
theorem Zcs:Si X (binaryOp .BitOr) (rI0 fun i j=>.int (Builtin.bitOr i j)):=Z3t fun _ _ _ _ _ _ _ q=>or_int q
theorem Za3:Si X (binaryOp .BitXor) (rI0 fun i j=>.int (Builtin.bitXor i j)):=Z3t fun _ _ _ _ _ _ _ q=>xor_int q
theorem unI {f:Value->Sem Value} {g:Int->Int}
  (rule:∀ (i:Int) (t:Tok) (s:Shared) (Q:Value->Shared->Prop) (E:Value->Shared->Prop),Q (.int (g i) s.toks) { s with toks:=s.toks+1 }->wpAny (model X.prog X.w) X.A (f (.int i t)) Q E s) :
  UnR X f (rU fun i=>.int (g i)):=by
 intro pins s σ H x v Q I rx h;obtain ⟨i,rfl,q⟩:=h;obtain ⟨t,rfl⟩:=rx;exact rule i t s _ _ ⟨.int (g i),H,I.tok _,⟨_,rfl⟩,q⟩
theorem Zap:UnR X (unaryOp .Invert) (rU fun i=>.int (Builtin.bitNot i)):=unI fun _ _ _ _ _ q=>invert_int q
theorem Fw {pins:List (Addr×Obj)} {σ:St} {H:Hp} {s:Shared} {Q:VK} {k k':Bool} (I:Inv X pins σ H s) (q:Q (.bl k) H) (e:k=k'):EP X pins σ Q (.bool k') s:=by
 subst e;exact ⟨.bl k,H,I,rfl,q⟩
theorem Zbd:Si X (compareOp .Lt) (rI0 fun i j=>.bl (decide (i<j))):=Z84 fun _ _ _ _ _ _ _ q=>lt_int q
theorem Zbv:Si X (compareOp .Gt) (rI0 fun i j=>.bl (decide (j<i))):=Z84 fun _ _ _ _ _ _ _ q=>gt_int q
theorem Zck:Si X (compareOp .GtE) (rI0 fun i j=>.bl (decide (j<=i))):=Z84 fun _ _ _ _ _ _ _ q=>ge_int q
theorem Z0i:Si X (compareOp .In) (fun x y H Q=>∃ i j,x=.str i/\y=.str j/\Q (.bl (!(Builtin.Str.occurrences j i 0 j.length 1).isEmpty)) H):=by
 intro pins s σ H x y v u Q I rx ry h;obtain ⟨i,j,rfl,rfl,q⟩:=h;obtain ⟨t,rfl⟩:=rx;obtain ⟨t',rfl⟩:=ry;exact in_str (Fw I q rfl)
theorem Z82:Si X (compareOp .Is) (fun x y H Q=>y=.non/\Q (.bl (decide (x=.non))) H):=by
 intro pins s σ H x y v u Q I rx ry h;obtain ⟨rfl,q⟩:=h;cases ry;refine is_none_gen (Fw I q ?_);cases x<;>first
   | (cases rx;rfl)
   | (obtain ⟨t,rfl⟩:=rx;rfl)
theorem Z58:Si X (compareOp .IsNot) (fun x y H Q=>y=.non/\Q (.bl (!decide (x=.non))) H):=by
 intro pins s σ H x y v u Q I rx ry h;obtain ⟨rfl,q⟩:=h;cases ry;refine isnot_none_gen (Fw I q ?_);cases x<;>first
   | (cases rx;rfl)
   | (obtain ⟨t,rfl⟩:=rx;rfl)
theorem Y6 (b:Expr) {op:CmpOp} (h:op≠.In:=by decide) (h2:op≠.NotIn:=by decide):behindInMarks op b=false:=by
 have e1:(op==CmpOp.In)=false:=by cases op<;>first | rfl | exact absurd rfl h
 have e2:(op==CmpOp.NotIn)=false:=by cases op<;>first | rfl | exact absurd rfl h2
 cases b<;>simp [behindInMarks,e1,e2]
theorem Z64 {op:CmpOp} {r:R2} (ho:Si X (compareOp op) r) (ha:PE X a ta) (hb:PE X b tb) (hm:behindInMarks op b=false):PE X (.Compare a [op] [b] pos) (tOp r ta tb):=by
 intro pins s σ H Q I h;exact wpAny_Compare1 (Z8s ha hb I h fun v u s2 x y H2 I2 rx ry q=>ho pins s2 σ H2 x y v u Q I2 rx ry q) hm
def Zce (t:TE):TT:=fun σ H Q=>t σ H fun x H'=>∃ k,x=.bl k/\Q k H'
theorem Z56 {op:CmpOp} {r:R2} (ho:Si X (compareOp op) r) (ha:PE X a ta) (hb:PE X b tb) (hm:behindInMarks op b=false):PT X (.Compare a [op] [b] pos) (Zce (tOp r ta tb)):=by
 intro pins s σ H Q I h;refine wpAny_isTrue_Compare1 (Wu (ha pins s σ H _ I h) fun v s1 ⟨x,H1,I1,r1,q1⟩=>Wu (hb pins s1 σ H1 _ I1 q1) fun u s2 ⟨y,H2,I2,r2,q2⟩ =>
  Wu (ho pins s2 σ H2 x y v u _ I2 r1 r2 q2) fun c s3 ⟨z,H3,I3,r3,k,e,q3⟩=>?_) hm
 subst e;cases r3;exact wpAny_truthy_bool ⟨H3,I3,q3⟩
def Zbt (K:PySem.W.Frag) (x:V) (H:Hp) (k:Bool):Prop :=
 match x with
 | .non=>k=false
 | .bl b=>k=b
 | .int i=>k=(i != 0)
 | .str y=>y.length<=sizeLine/\k=((y.length:Int) != 0)
 | .byt y=>y.size<=sizeLine/\k=((y.size:Int) != 0)
 | .ref p=>(∃ xs,Mu K H p xs/\k=!xs.isEmpty)\/(∃ xs,Sh K H p xs/\k=!xs.isEmpty)\/∃ kvs,H p=some (.dK kvs)/\k=!kvs.isEmpty
 | _=>False
theorem Aj {κ:Type} {kvs:List (κ×V)} {vs:List (κ×Value)} (r:KV kvs vs):(!vs.isEmpty)=!kvs.isEmpty:=by
 cases r<;>rfl
theorem Kp {xs:List V} {its:List Value} (r:Y3 xs its):(!its.toArray.isEmpty)=!xs.isEmpty:=by
 cases r<;>simp
theorem Eu:(sizeLine:Nat)<2^63:=by rw [sizeLine_eq];decide
theorem Zab:Zdy X (fun x H Q=>∃ k,Zbt X.K x H k/\Q k H):=by
 intro pins s σ H x v Q I rx h;obtain ⟨k,e,q⟩:=h;have hl:=Eu;have hs:sizeLine=16777216:=sizeLine_eq;cases x with
 | non =>
  cases rx;have e':k=false:=e;subst e';exact truthy_none ⟨H,I,q⟩
 | bl b =>
  cases rx;have e':k=b:=e;subst e';exact wpAny_truthy_bool ⟨H,I,q⟩
 | int i =>
  obtain ⟨t,rfl⟩:=rx;have e':k=(i != 0):=e;subst e';exact PySem.P.truthy_int ⟨H,I,q⟩
 | str y =>
  obtain ⟨t,rfl⟩:=rx;obtain ⟨hy,e'⟩:y.length<=sizeLine/\k=((y.length:Int) != 0):=e;subst e';exact PySem.P.truthy_str (by lia) ⟨H,I.tok _,q⟩
 | byt y =>
  obtain ⟨t,rfl⟩:=rx;obtain ⟨hy,e'⟩:y.size<=sizeLine/\k=((y.size:Int) != 0):=e;subst e';exact PySem.W.truthy_bytes (by lia) ⟨H,I.tok _,q⟩
 | ref p =>
  cases rx;have e':(∃ xs,Mu X.K H p xs/\k=!xs.isEmpty)\/(∃ xs,Sh X.K H p xs/\k=!xs.isEmpty)\/∃ kvs,H p=some (.dK kvs)/\k=!kvs.isEmpty:=e;rcases e' with ⟨xs,hx,e'⟩ | ⟨xs,hx,e'⟩ | ⟨kvs,hx,e'⟩
  ·subst e'
   obtain ⟨its,r,pl,hz⟩:=I.list hx;have hlen:=r.length;exact wpAny_truthy_list pl.isList (by simp only [size_toArray];lia) ⟨H,I.tok _,by rw [Kp r];exact q⟩
  ·subst e'
   obtain ⟨its,r,pl,hz⟩:=I.tuple hx;have hlen:=r.length;exact truthy_tuple pl (by simp only [size_toArray];lia) ⟨H,I.tok _,by rw [Kp r];exact q⟩
  ·subst e'
   obtain ⟨hz,hS,vs,r,m⟩:kvs.length<=sizeLine/\(p==sysModules)=false/\∃ vs,KV kvs vs/\s.heap.DictOf (V6 X.prog X.w) p vs:=I.hok p _ hx;have hlen:kvs.length=vs.length:=Paired.length r;exact wpAny_truthy_dict hS m (by lia) ⟨H,I.tok _,by rw [Aj r];exact q⟩
 | _=>exact (show False from e).elim
theorem Z1m (ha:PE X a ta) (he:∀ whole,isTrue a X.env whole=(do let v ← whole;standAt a.pos;holding [v] (truthy v))) :
  PT X a (fun σ H Q=>ta σ H fun x H'=>∃ k,Zbt X.K x H' k/\Q k H'):=by
 intro pins s σ H Q I h;exact isTrue_plain (Wu (ha pins s σ H _ I h) fun v s1 ⟨x,H1,I1,r1,q1⟩=>Zab pins s1 σ H1 x v Q I1 r1 q1) (he _)
theorem Ac:Si X (binaryOp .Add) (fun x y H Q=>∃ i j,x=.str i/\y=.str j/\i.length+j.length<=sizeLine/\Q (.str (i++j)) H):=by
 intro pins s σ H x y v u Q I rx ry h;obtain ⟨i,j,rfl,rfl,hz,q⟩:=h;obtain ⟨t,rfl⟩:=rx;obtain ⟨t',rfl⟩:=ry;exact add_str (fun t' tk=>⟨.str (i++j),H,I.tok _,⟨_,rfl⟩,q⟩) hz
theorem Qy {x:V} {us:List Value} (r:Y3 [x] us):∃ u,us=[u]/\Yo x u:=by
 cases r with
 | cons r1 r2=>cases r2;exact ⟨_,rfl,r1⟩
theorem Np {x y:V} {us:List Value} (r:Y3 [x,y] us):∃ u w',us=[u,w']/\Yo x u/\Yo y w':=by
 cases r with
 | cons r1 r2 =>
  cases r2 with
  | cons r3 r4=>cases r4;exact ⟨_,_,rfl,r1,r3⟩
theorem Z0n (hc:X.calm=true):V5 X (.builtin "max") (fun xs H Q=>∃ i j,xs=[.int i,.int j]/\Q (.int (if j > i then j else i)) H):=by
 intro pins s σ H xs us Q I r h;obtain ⟨i,j,rfl,q⟩:=h;obtain ⟨u,w',rfl,⟨t,rfl⟩,⟨t',rfl⟩⟩:=Np r;refine max_two_ints (I.ok.hd hc) fun h' tk k=>⟨_,H,I.kept k,?_,q⟩
 by_cases hj:j > i
 ·rw [if_pos hj,if_pos hj];exact ⟨_,rfl⟩
 ·rw [if_neg hj,if_neg hj];exact ⟨_,rfl⟩
theorem Cj (hc:X.calm=true):V5 X (.builtin "min") (fun xs H Q=>∃ i j,xs=[.int i,.int j]/\Q (.int (if j<i then j else i)) H):=by
 intro pins s σ H xs us Q I r h;obtain ⟨i,j,rfl,q⟩:=h;obtain ⟨u,w',rfl,⟨t,rfl⟩,⟨t',rfl⟩⟩:=Np r;refine min_two_ints (I.ok.hd hc) fun h' tk k=>⟨_,H,I.kept k,?_,q⟩
 by_cases hj:j<i
 ·rw [if_pos hj,if_pos hj];exact ⟨_,rfl⟩
 ·rw [if_neg hj,if_neg hj];exact ⟨_,rfl⟩
end
structure ObjM (h:Heap) (x dx C:Addr) (mA:Str->Option Value):Prop where
 obj:h.get? x=some (instObj C dx)
 ns:h.Ns1 dx mA
 ne:dx≠x
theorem Z11 {h:Heap} {dx:Addr} {mA:Str->Option Value} (n:h.Ns1 dx mA):∃ od,h.get? dx=some od/\∀ name,lookIn name od=some (mA name):=by
 obtain ⟨o,es,ep,ho,hd,hk,_,hm⟩:=n;refine ⟨o,ho,fun name=>?_⟩;have e:=hm name;unfold nsFind findBy at e;rw [← Array.find?_toList] at e;unfold lookIn;rw [hd];dsimp only;split
 ·rename_i y q
  rw [q] at e;exact congrArg some e
 ·rename_i q
  rw [q] at e;have a:es.toList.any (·.refKey)=false:=by
   rw [List.any_eq_false];intro y hy;obtain ⟨z,t,hkey⟩:=hk y (Array.mem_toList_iff.mp hy);simp [DictEntry.refKey,hkey]
  have a':¬ es.toList.any (·.refKey)=true:=by rw [a];exact Bool.false_ne_true
  rw [if_neg a'];exact congrArg some e
theorem ObjM.look {h:Heap} {x dx C:Addr} {mA:Str->Option Value} (I:ObjM h x dx C mA):∃ od,PySem.W.InstAt h x (instObj C dx) C (some od)/\∀ name,lookIn name od=some (mA name) :=
 let ⟨od,ho,hl⟩:=Z11 I.ns
 ⟨od,⟨I.obj,rfl,rfl,ho⟩,hl⟩
section
variable {prog:Program} {w:World} {A:Around} {E:Value->Shared->Prop} {s:Shared} {K:PySem.W.Frag} {x dx C f:Addr} {mA:Str->Option Value} {name:Str} {v:Value}
end
section
variable {P:Program} {w:World} {H H':Hp} {h h':Heap} {a C dx:Addr} {fs fs':List (Str×V)}
theorem Z6i (hok:Mp P w H h) (e:H a=some (.ins C dx fs)):∃ mA,ObjM h a dx C mA/\(∀ f,Lk (fs.lookup f) (mA f))/\PySem.Within mA (fs.map (·.1))/\fs.length<=1000/\H dx=some (.own a):=by
 obtain ⟨d,z,ne,ob,mA,n,r,q⟩:=(show Yy P w H h a (.ins C dx fs) from hok a _ e);exact ⟨mA,⟨ob,n,ne⟩,r,q,z,d⟩
end
structure Cls (K:PySem.W.Frag) (C:Addr):Prop where
 pg:plainGet K C Str.empty=true
 hd:PySem.W.hasDictIn K C=true
 po:PySem.W.plainOver K C=true
 sa:PySem.W.findIn K (.ref C) "__setattr__" = some (some (.builtin "object.__setattr__"))
theorem Cls.get {K:PySem.W.Frag} {C:Addr} (c:Cls K C) (f:Str):plainGet K C f=true:=c.pg
section
variable {X:Cx} {pins:List (Addr×Obj)} {σ:St} {H:Hp} {s:Shared} {a C dx:Addr} {fs:List (Str×V)} {f:Str} {v:V} {A:Around} {E:Value->Shared->Prop}
theorem Z5a {prog:Program} {w:World} {env:Env} {e:Expr} {f:Str} {pos:Pos} {s:Shared} {Q:Value->Shared->Prop} (hb:attributeBase e f env (eval e env)=eval e env)
  (h:wpAny (model prog w) A (eval e env) (fun o s₁=>wpAny (model prog w) A (getAttr o f true) Q E s₁) E s):wpAny (model prog w) A (eval (.Attribute e f pos) env) Q E s :=
 Attribute_any_ h (by rw [arm_eval_Attribute,hb])
end
section
variable {X:Cx} {o e value:Expr} {f:Str} {pos pos' tpos:Pos} {ta tv:TE}
end
section
variable {X:Cx} {pins:List (Addr×Obj)} {σ:St} {H:Hp} {s:Shared} {A:Around} {E:Value->Shared->Prop} {Q:Value->Shared->Prop} {c:Value} {b:Bool}
inductive TyOf (K:PySem.W.Frag) (H:Hp):V->Value->Prop where
 | non:TyOf K H .non (.type "NoneType")
 | bl (x:Bool):TyOf K H (.bl x) (.type "bool")
 | int (i:Int):TyOf K H (.int i) (.type "int")
 | str (x:Str):TyOf K H (.str x) (.type "str")
 | flt (x:UInt64):TyOf K H (.flt x) (.type "float")
 | lst {a:Addr} {xs:List V} (e:H a=some (.lst xs)):TyOf K H (.ref a) (.type "list")
 | frz {a:Addr} {o:Obj} {xs:List V} (e:H a=some (.frz o (.lst xs))):TyOf K H (.ref a) (.type "list")
 | tup {a:Addr} {xs:List V} (e:H a=some (.tup xs)):TyOf K H (.ref a) (.type "tuple")
 | dK {a:Addr} {kvs:List (Ug×V)} (e:H a=some (.dK kvs)):TyOf K H (.ref a) (.type "dict")
 | dT {a:Addr} {kvs:List (List Ug×V)} (e:H a=some (.dT kvs)):TyOf K H (.ref a) (.type "dict")
 | ins {a C dx:Addr} {fs:List (Str×V)} (e:H a=some (.ins C dx fs)) (cl:Cls K C) (ha:PySem.W.findIn K (.ref C) "__class__" = some (some (.builtin "object.__class__")))
  (hn:PySem.W.specialIn K (.builtin "object.__class__") "__get__" = some (some (.builtin "getset_descriptor.__get__"))) (htk:PySem.W.takesIn K (.builtin "object.__class__")=some true)
  (hm:PySem.W.mroIn K C (.type "object")=some true):TyOf K H (.ref a) (.ref C)
theorem S3 {x:V} {u t:Value} (I:Inv X pins σ H s) (rx:Yo x u) (ty:TyOf X.K H x t) (e:PySem.W.kitOne X.K t c=some b) (h:∀ tk,Q (.bool b) { s with toks:=tk }) :
  wpAny (model X.prog X.w) A (call (.builtin "isinstance") [u,c]) Q E s:=by
 cases ty with
 | non=>cases (show u=Value.none from rx);exact PySem.W.kia_one PySem.W.kitx_none I.kIn True.intro e (fun z=>nomatch z) h
 | bl y=>cases (show u=Value.bool y from rx);exact PySem.W.kia_one PySem.W.kitx_bool I.kIn True.intro e (fun z=>nomatch z) h
 | int i=>obtain ⟨t,q⟩:=(show ∃ t,u=Value.int i t from rx);cases q;exact PySem.W.kia_one PySem.W.kitx_int I.kIn True.intro e (fun z=>nomatch z) h
 | str y=>obtain ⟨t,q⟩:=(show ∃ t,u=Value.str y t from rx);cases q;exact PySem.W.kia_one PySem.W.kitx_str I.kIn True.intro e (fun z=>nomatch z) h
 | flt y=>obtain ⟨t,q⟩:=(show ∃ t,u=Value.float y t from rx);cases q;exact PySem.W.kia_one PySem.W.kitx_float I.kIn True.intro e (fun z=>nomatch z) h
 | @lst a xs ea =>
  cases (show u=Value.ref a from rx);obtain ⟨_,_,n,_,h1⟩:=(show Yy X.prog X.w H s.heap a (.lst xs) from I.hok a _ ea);exact PySem.W.kia_one kitx_list I.kIn ⟨_,h1,rfl⟩ e (fun z=>nomatch z) h
 | @frz a ob xs ea =>
  cases (show u=Value.ref a from rx);obtain ⟨_,_,_,n,_,h1⟩:=(show Yy X.prog X.w H s.heap a (.frz ob (.lst xs)) from I.hok a _ ea);exact PySem.W.kia_one kitx_list I.kIn ⟨_,h1,rfl⟩ e (fun z=>nomatch z) h
 | @tup a xs ea =>
  cases (show u=Value.ref a from rx);obtain ⟨_,_,_,p⟩:=(show Yy X.prog X.w H s.heap a (.tup xs) from I.hok a _ ea);obtain ⟨o,h1,h2,_⟩:=p;exact PySem.W.kia_one kitx_tuple I.kIn ⟨o,h1,h2⟩ e (fun z=>nomatch z) h
 | @dK a kvs ea =>
  cases (show u=Value.ref a from rx);obtain ⟨_,_,vs,_,p⟩:=(show Yy X.prog X.w H s.heap a (.dK kvs) from I.hok a _ ea);obtain ⟨o,es,ep,h1,h2,_⟩:=p;exact PySem.W.kia_one kitx_dict I.kIn ⟨o,h1,h2.1⟩ e (fun z=>nomatch z) h
 | @dT a kvs ea =>
  cases (show u=Value.ref a from rx);obtain ⟨_,_,xs,_,o,es,ep,h1,h2,_⟩:=(show Yy X.prog X.w H s.heap a (.dT kvs) from I.hok a _ ea);exact PySem.W.kia_one kitx_dict I.kIn ⟨o,h1,h2.1⟩ e (fun z=>nomatch z) h
 | @ins a C dx fs ea cl ha hn htk hm =>
  cases (show u=Value.ref a from rx);obtain ⟨mA,O,_⟩:=Z6i I.hok ea;obtain ⟨od,J,_⟩:=O.look;exact PySem.W.kia_one (PySem.W.kitx_own (cl.get _) cl.hd ha hn htk hm) I.kIn J e (fun z=>nomatch z) h
end
structure Room (k:Nat) (A:Around):Prop where
 hd:A.handled=none
 dp:A.depth+3*k+5<recursionLimit
 un:A.units+16*k+200<cLine
 gd:A.guards=some []
theorem Room.mono {j k:Nat} {A:Around} (r:Room k A) (h:j<=k):Room j A:=⟨r.hd,by have:=r.dp;lia,by have:=r.un;lia,r.gd⟩
theorem Room.deeper {k:Nat} {A:Around} (r:Room (k+1) A) (env:Env):Room k (A.deeper env) :=
 ⟨r.hd,by have:=r.dp;show A.depth+1+3*k+5<_;lia,by have:=r.un;show A.units+3+16*k+200<_;lia,r.gd⟩
theorem Ic {A:Around} {C:Addr} {us:List Value} {kw:List (Str×Value)}:(A.under (.builtin "type.__call__" ⟨.ref C::us,kw⟩)).depth=A.depth+1:=by
 first | rfl | simp [Around.under,Code.weight,Code.isCreation,Code.isGuard,Code.isCaller,Code.frames,Code.isFrame,guardIds]
theorem Hv {A:Around} {C:Addr} {us:List Value} {kw:List (Str×Value)}:(A.under (.builtin "type.__call__" ⟨.ref C::us,kw⟩)).units=A.units+1:=by
 first | rfl | simp [Around.under,Code.cUnits,Code.frames,Code.isFrame]
theorem Room.make {k:Nat} {A:Around} (r:Room (k+1) A) (C:Addr) (us:List Value) (kw:List (Str×Value)):Room k (A.under (.builtin "type.__call__" ⟨.ref C::us,kw⟩)) :=
 ⟨r.hd,by have:=r.dp;rw [Ic];lia,by have:=r.un;rw [Hv];lia,r.gd⟩
theorem Room.depth {k:Nat} {A:Around} (r:Room k A):A.depth<recursionLimit:=by have:=r.dp;lia
theorem Room.units {k:Nat} {A:Around} (r:Room k A):A.units+64<cLine:=by have:=r.un;lia
def Z6v:TA:=fun _ H Q=>Q [] H
def Ng (ta:TE) (tr:TA):TA:=fun σ H Q=>ta σ H fun x H1=>tr σ H1 fun xs H2=>Q (x::xs) H2
section
variable {X:Cx} {e:Expr} {es:List Expr} {te:TE} {t:TA} {pos:Pos}
theorem Q2:PA X [] Z6v:=fun _ _ _ _ H Q I h=>Calls.spliced_nil ⟨[],H,I,.nil,h⟩
theorem Wr (ha:PE X e te) (hr:PA X es t) (hs:starEach (e::es) X.env=(false,eval e X.env)::starEach es X.env:=by rfl):PA X (e::es) (Ng te t):=by
 intro pos pins s σ H Q I h;rw [hs];show wpAny _ _ (spliced ((false,eval e X.env)::backTo pos (starEach es X.env))) _ _ s;refine Calls.spliced_cons (Wu (ha pins s σ H _ I h) fun u s1 ⟨x,H1,I1,r1,q1⟩=>?_);exact Wu (hr pos pins s1 σ H1 _ I1 q1) fun us s2 ⟨xs,H2,I2,r2,q2⟩=>⟨x::xs,H2,I2,.cons r1 r2,q2⟩
def Zer (t:TA):TE:=fun σ H Q=>t σ H fun xs H1=>xs.length<=sizeLine/\∀ p,H1 p=none->Q (.ref p) (W4 H1 p (.tup xs))
def Ze7 (t:TA):TE:=fun σ H Q=>t σ H fun xs H1=>xs.length<=sizeLine/\∀ p,H1 p=none->Q (.ref p) (W4 H1 p (.lst xs))
theorem Z99 {x1} (h:PA X es t):PE X (.Tuple es x1 pos) (Zer t):=by
 intro pins s σ H Q I hq;refine wpAny_Tuple_spliced (Wu (h pos pins s σ H _ I hq) fun us s1 ⟨xs,H1,I1,r,z,q⟩=>⟨by rw [← r.length];exact z,?_⟩);have hf:H1 s1.heap.objs.size=none:=I1.hok.fresh (le_refl _);refine ⟨.ref s1.heap.objs.size,W4 H1 s1.heap.objs.size (.tup xs),I1.laid (t':=s1.toks) (fun b u e=>get?_push_of_some _ e) (le_refl _) ?_,rfl,q _ hf⟩;exact ⟨z,us,r,⟨_,get?_push_size _ rfl,rfl,_,rfl⟩⟩
theorem Z2g (h:PA X es t):PE X (.List es pos) (Ze7 t):=by
 intro pins s σ H Q I hq;refine wpAny_List_spliced (Wu (h pos pins s σ H _ I hq) fun us s1 ⟨xs,H1,I1,r,z,q⟩=>⟨by rw [← r.length];exact z,?_⟩);have hf:H1 s1.heap.objs.size=none:=I1.hok.fresh (le_refl _);refine ⟨.ref s1.heap.objs.size,W4 H1 s1.heap.objs.size (.lst xs),I1.laid (t':=s1.toks) (fun b u e=>get?_push_of_some _ e) (le_refl _) ?_,rfl,q _ hf⟩;exact ⟨z,us,0,r,get?_push_size _ rfl⟩
end
abbrev Sp:=List V->Hp->VK->XK->Prop
abbrev Lg:=List Env->Hp->Shared->XK->Value->Shared->Prop
structure Env0 (P:Program) (w:World) (K:PySem.W.Frag) (mg:Str->Option Value) (base:Heap) (A:Around) (outer:List Env) (s:Shared) (H:Hp):Prop where
 frames:A.frames=some outer
 mod:Mod K mg base
 bs:∀ b o,base.get? b=some o->s.heap.get? b=some o/\H b=none
 bsz:base.objs.size<=s.heap.objs.size
 funs:s.heap.FunFrames base outer
 frf:∀ b∈Sk outer,H b=none
 hok:Mp P w H s.heap
 bare:AllBare s.gens
def CE (outer:List Env) (P:Program) (w:World) (H:Hp) (s:Shared) (Q:VK) (u:Value) (s':Shared):Prop :=
 ∃ v H',s'.os=s.os/\AllBare s'.gens/\Un (Sk outer) [] H H' s.heap s'.heap/\Mp P w H' s'.heap/\Yo v u/\Q v H'
def CR (CX:Lg) (outer:List Env) (P:Program) (w:World) (H:Hp) (s:Shared) (Q:VK) (E:XK) (r:Result) (s':Shared):Prop :=
 match r with
 | .ok (.ret u)=>CE outer P w H s Q u s'
 | .ok _=>False
 | .error e=>CX outer H s E e s'
structure FnOk (P:Program) (w:World) (K:PySem.W.Frag) (mg:Str->Option Value) (base:Heap) (CX:Lg) (k:Nat) (f:Addr) (fd:FuncData) (ps:List Str) (sp:Sp):Prop where
 len:∀ vs H Q E,sp vs H Q E->vs.length=ps.length
 run:∀ (A:Around) (outer:List Env) (s:Shared) (H:Hp) (args:Args) (us:List Value) (vs:List V) (Q:VK) (E:XK),Room k A->Env0 P w K mg base A outer s H->BindsTo s fd args (ps.zip us)->Y3 vs us->sp vs H Q E ->
  codeAny (model P w) A (.call (.ref f) args) (CR CX outer P w H s Q E) s
theorem Env0.make {P:Program} {w:World} {K:PySem.W.Frag} {mg:Str->Option Value} {base:Heap} {A:Around} {outer:List Env} {s:Shared} {H:Hp} (e:Env0 P w K mg base A outer s H) (C:Addr) (us:List Value) (kw:List (Str×Value)) :
 Env0 P w K mg base (A.under (.builtin "type.__call__" ⟨.ref C::us,kw⟩)) outer s H:=⟨by first | exact e.frames | (simpa [Around.under,Code.envs,Code.isFrame,pushEnvs] using e.frames),e.mod,e.bs,e.bsz,e.funs,e.frf,e.hok,e.bare⟩
section
variable {X:Cx} {pins:List (Addr×Obj)} {σ:St} {H:Hp} {s s':Shared}
theorem Inv.env0 (I:Inv X pins σ H s):Env0 X.prog X.w X.K X.mg X.base X.A X.stack s H :=
 ⟨I.ok.frames,I.ok.mod,I.bs,le_trans I.ok.bsz I.sz,I.stack,I.stkFree,I.hok,I.bare⟩
theorem Inv.after {Q:VK} {u:Value} (I:Inv X pins σ H s) (h:CE X.stack X.prog X.w H s Q u s'):EP X pins σ Q u s':=by
 obtain ⟨v,H',os,bare,un,hok,r,q⟩:=h;obtain ⟨hh,g,d,t,os'⟩:=s';obtain rfl:os'=s.os:=os;exact ⟨v,H',I.call (h':=hh) (g':=g) (d':=d) (t':=t) (ch:=[]) un hok bare (fun b z=>absurd z (by simp)),r,q⟩
end
def Az (sp:Sp) (dvs:List V) (E:XK) (t:TA):TE:=fun σ H Q=>t σ H fun vs H1=>sp (vs++dvs) H1 Q E
def J9 (K:PySem.W.Frag) (fd:FuncData) (ps:List Str) (ds:List Value):Prop :=
 ∀ (s:Shared) (us:List Value),K.In s.heap->(us++ds).length=ps.length->BindsTo s fd ⟨us,[]⟩ (ps.zip (us++ds))
theorem J9.all {K:PySem.W.Frag} {fd:FuncData} {ps:List Str} (h:∀ us:List Value,us.length=ps.length->bindArgs fd ⟨us,[]⟩=pure (ps.zip us)):J9 K fd ps []:=fun s us _ hl=>by
 rw [append_nil] at hl ⊢;exact .of_eq (h us hl)
def Ix (CX:Lg) (X:Cx) (E:XK):Prop:=∀ (pins:List (Addr×Obj)) (σ:St) (H:Hp) (s:Shared) (e:Value) (s':Shared),Inv X pins σ H s->CX X.stack H s E e s'->X.xe e s'
section
variable {X:Cx} {CX:Lg} {k:Nat} {f C:Addr} {fd:FuncData} {ps:List Str} {sp:Sp} {dvs:List V} {ds:List Value} {E:XK} {x m:Str} {p pos apos:Pos} {e o:Expr} {es:List Expr} {ta:TE} {t:TA}
theorem Z9l {pins:List (Addr×Obj)} {σ:St} {H:Hp} {s:Shared} {Q:VK} {us:List Value} {vs:List V} (F:FnOk X.prog X.w X.K X.mg X.base CX k f fd ps sp) (hr:Room k X.A) (hb:J9 X.K fd ps ds) (hd:Y3 dvs ds) (hx:Ix CX X E)
  (I:Inv X pins σ H s) (r:Y3 vs us) (h:sp (vs++dvs) H Q E):wpAny (model X.prog X.w) X.A (call (.ref f) us) (EP X pins σ Q) X.xe s:=by
 have r2:Y3 (vs++dvs) (us++ds):=r.append hd;have hl:(us++ds).length=ps.length:=by rw [← r2.length];exact F.len _ _ _ _ h
 refine wpAny_call (codeAny_mono (F.run X.A X.stack s H ⟨us,[]⟩ (us++ds) (vs++dvs) Q E hr I.env0 (hb s us I.kIn hl) r2 h) fun r s' hq=>?_);cases r with
 | error e=>exact hx pins σ H s e s' I hq
 | ok fl =>
  cases fl with
  | ret u=>exact I.after hq
  | next=>exact False.elim hq
  | brk=>exact False.elim hq
  | cont=>exact False.elim hq
theorem Z4k (F:FnOk X.prog X.w X.K X.mg X.base CX k f fd ps sp) (hr:Room k X.A) (hg:Gl X x) (hm:X.mg x=some (.ref f)) (hk:PySem.W.keepIn X.K (.ref f)=true) (hb:J9 X.K fd ps ds) (hd:Y3 dvs ds) (hx:Ix CX X E)
  (ha:PA X (e::es) t) (hdb:(x==("__debug__" : Str))=false:=by decide) (he:starEach (e::es) X.env=(false,eval e X.env)::starEach es X.env:=by rfl) (hpl:(backTo pos (starEach es X.env)).any (·.1)=false:=by rfl) :
  PE X (.Call (.Name x p) (e::es) [] pos) (Az sp dvs E t):=by
 intro pins s σ H Q I h;refine wpAny_Call_Name_kw (U2 I hg hm ?_ hdb);refine PySem.W.callWith_K (h₀:=X.base) I.ok.mod.kin hk (Wu (ha pos pins s σ H _ I h) fun us s1 ⟨vs,H1,I1,r,q⟩=>⟨I1.kIn,?_⟩) he hpl;exact Z9l F hr hb hd hx I1 r q
end
section
variable {X:Cx} {CX:Lg} {k:Nat} {f C:Addr} {fd:FuncData} {ps ks:List Str} {sp:Sp} {E:XK} {x m:Str} {p pos apos kpos:Pos} {e o:Expr} {es:List Expr} {kws:List Keyword} {te ta:TE} {t tk:TA} {nm:Option Str}
variable {g:List Value->List Value->List Value} {gV:List V->List V->List V}
end
structure FnScope (N P:List Str) (sc:Scope):Prop where
 kind:sc.kind=.function
 co:sc.isCoroutine=false
 gen:sc.isGenerator=false
 nd:N.Nodup
 pre:N.take P.length=P
 par:∀ x∈P,sc.names.lookup x=some .local\/sc.names.lookup x=some .cell
 nofree:∀ y∈sc.names,y.2≠.free
theorem Lv {kindOf:Str->Option NameKind} {x:Str}:∀ {binds:List (Str×Value)} {m:Str->Option Value},(∀ v,(x,v)∉binds)->bindL kindOf binds m x=m x
 | [],_,_=>rfl
 | (n,v)::r,m,h=>by
   unfold bindL;rw [Lv fun w hw=>h w (mem_cons_of_mem _ hw)];split
   · have:x≠n:=by rintro rfl;exact h v mem_cons_self
     simp [this]
   · rfl
theorem Nn {kindOf:Str->Option NameKind} {x:Str}:∀ {binds:List (Str×Value)} {m:Str->Option Value},(∀ v,(x,v)∉binds)->bindC kindOf binds m x=m x
 | [],_,_=>rfl
 | (n,v)::r,m,h=>by
   unfold bindC;rw [Nn fun w hw=>h w (mem_cons_of_mem _ hw)];split
   · rfl
   · have:x≠n:=by rintro rfl;exact h v mem_cons_self
     simp [this]
theorem Eg {kindOf:Str->Option NameKind} {x:Str} {v:Value}:∀ {P:List Str} {vs:List Value} {i:Nat} {m:Str->Option Value},P.Nodup->P[i]?=some x->vs[i]?=some v->kindOf x=some .local ->
  bindL kindOf (P.zip vs) m x=some v
 | [],_,_,_,_,h,_,_=>by simp at h
 | _::_,[],_,_,_,_,h,_=>by simp at h
 | p::P,w::vs,0,m,nd,h1,h2,hk=>by
  simp at h1 h2;subst h1;subst h2;show bindL kindOf ((p,w)::P.zip vs) m p=_;unfold bindL;rw [Lv fun v hv=>(nodup_cons.mp nd).1 (of_mem_zip hv).1,if_pos hk];simp
 | p::P,w::vs,i+1,m,nd,h1,h2,hk=>by
  show bindL kindOf ((p,w)::P.zip vs) m x=_;unfold bindL;exact Eg (i:=i) (nodup_cons.mp nd).2 (by simpa using h1) (by simpa using h2) hk
theorem Er {kindOf:Str->Option NameKind} {x:Str} {v:Value}:∀ {P:List Str} {vs:List Value} {i:Nat} {m:Str->Option Value},P.Nodup->P[i]?=some x->vs[i]?=some v->kindOf x≠some .local ->
  bindC kindOf (P.zip vs) m x=some v
 | [],_,_,_,_,h,_,_=>by simp at h
 | _::_,[],_,_,_,_,h,_=>by simp at h
 | p::P,w::vs,0,m,nd,h1,h2,hk=>by
  simp at h1 h2;subst h1;subst h2;show bindC kindOf ((p,w)::P.zip vs) m p=_;unfold bindC;rw [Nn fun v hv=>(nodup_cons.mp nd).1 (of_mem_zip hv).1,if_neg hk];simp
 | p::P,w::vs,i+1,m,nd,h1,h2,hk=>by
  show bindC kindOf ((p,w)::P.zip vs) m x=_;unfold bindC;exact Er (i:=i) (nodup_cons.mp nd).2 (by simpa using h1) (by simpa using h2) hk
def start (N:List Str) (vs:List V):St:=vs.map some++List.replicate (N.length - vs.length) none
def Qd (CX:Lg) (P:Program) (w:World) (K:PySem.W.Frag) (mg:Str->Option Value) (base:Heap) (N:List Str) (qual:Str) (scope:Scope) (f:Addr) (cd:Value) (A:Around) (outer:List Env) (s:Shared) (H:Hp) (E:XK):Cx where
 prog:=P
 w:=w
 K:=K
 mg:=mg
 base:=base
 A:=A.deeper (envOfC qual scope s.heap.objs.size f cd)
 N:=N
 s₀:=s
 H₀:=H
 env:=envOfC qual scope s.heap.objs.size f cd
 outer:=outer
 stack:=envOfC qual scope s.heap.objs.size f cd::outer
 ex:=[]
 calm:=true
 fn:=fun _=>true
 pn:=[]
 xe:=fun e s'=>wpAny (model P w) (A.deeper (envOfC qual scope s.heap.objs.size f cd)) (leaving (envOfC qual scope s.heap.objs.size f cd) e) (fun _ s''=>CX outer H s E e s'') (fun e' s''=>CX outer H s E e' s'') s'
theorem Dj {sc:Scope} {n:Nat} {x:Str} (h:sc.names.lookup x=some .cell):∃ c,(cellsFrom n sc.names []).lookup x=some c:=by
 have q:=cellsFrom_some sc.names n [] (.inl h);exact Option.isSome_iff_exists.mp q
theorem Z0b {CX:Lg} {P:Program} {w:World} {K:PySem.W.Frag} {mg:Str->Option Value} {base:Heap} {N ps:List Str} {qual:Str} {scope:Scope} {f:Addr} {cd:Value} {A:Around} {outer:List Env} {s s1:Shared} {H:Hp} {E:XK} {us:List Value} {vs:List V}
  (S:FnScope N ps scope) (hd:A.handled=none) (e0:Env0 P w K mg base A outer s H) (hl:vs.length=ps.length) (r:Y3 vs us)
  (x:InCallC s s.heap.objs.size (bindL (envOfC qual scope s.heap.objs.size f cd).kindOf (ps.zip us) fun _=>none) (cellsFrom (s.heap.objs.size+1) scope.names []) (bindC (envOfC qual scope s.heap.objs.size f cd).kindOf (ps.zip us) fun _=>none) s1) :
  Inv (Qd CX P w K mg base N qual scope f cd A outer s H E) [] (start N vs) H s1:=by
 have hpl:ps.length<=N.length:=by have:=congrArg List.length S.pre;rw [length_take] at this;lia
 obtain ⟨h1,tk,rfl,hk⟩:=x.done;have noA:∀ b:Addr,b∉(Qd CX P w K mg base N qual scope f cd A outer s H E).ex:=fun b z=>absurd (show b∈([]:List Addr) from z) (by simp)
 refine ⟨⟨e0.mod,S.kind,rfl,rfl,le_refl _,fun y z c h1 h2=>?_,fun y hy=>?_,fun y c _ h=>?_,fun _=>hd,Around.frames_deeper e0.frames,.inr ⟨rfl,rfl⟩,fun b z=>absurd z (noA b),e0.bs,e0.bsz,fun b _ _=>noA b,fun b z=>absurd z (noA b),e0.funs,e0.frf⟩,
  rfl,e0.bare,Un.kept hk,⟨_,x.toInCall.ns,fun i y v h1 h2 h3=>?_⟩,fun y c h=>⟨_,x.cell y c h⟩,e0.hok.fresh (le_refl _),fun y c h=>?_,fun p hp=>absurd (show p∈([]:List (Addr×Obj)) from hp) (by simp),e0.hok.kept hk,?_⟩
 ·exact name_of_addr x.apart (PySem.mem_of_lookup h1) (PySem.mem_of_lookup h2)
 ·have hy:scope.names.lookup y=some .cell\/scope.names.lookup y=some .free:=hy
  rcases hy with hy | hy
  ·exact Dj hy
  ·exact absurd rfl (S.nofree _ (PySem.mem_of_lookup hy))
 ·exact le_of_lt (x.above y c (PySem.mem_of_lookup h))
 ·have hi:i<vs.length:=by
   unfold start at h2;by_cases hi:i<vs.length
   ·exact hi
   ·rw [List.getElem?_append_right (by simpa using hi)] at h2
    rw [List.getElem?_replicate] at h2;split at h2<;>cases h2
  have ha:vs[i]?=some v:=by
   unfold start at h2;rw [getElem?_append_left (by simpa using hi),getElem?_map] at h2;cases e:vs[i]? with
   | none=>rw [e] at h2;cases h2
   | some a=>rw [e] at h2;cases h2;rfl
  obtain ⟨u,hu,rv⟩:=r.get ha;have hp:ps[i]?=some y:=by
   rw [← S.pre,List.getElem?_take_of_lt (by lia)];exact h1
  have ndP:ps.Nodup:=by rw [← S.pre];exact S.nd.sublist (List.take_sublist _ _)
  refine ⟨u,rv,?_⟩;rcases S.par y (mem_of_getElem? hp) with k | k
  ·exact .inl ⟨k,Eg ndP hp hu k⟩
  ·obtain ⟨c,e⟩:=Dj (n:=s.heap.objs.size+1) k
   refine .inr ⟨.inl k,c,e,?_⟩;have q:=x.cell y c e;rw [Er ndP hp hu (by show scope.names.lookup y≠_;rw [k];decide)] at q;exact q
 ·exact e0.hok.fresh (le_of_lt (x.above y c (PySem.mem_of_lookup h)))
 ·unfold start
  show _=N.length;rw [length_append,length_map,length_replicate];lia
theorem Z6y {CX:Lg} {P:Program} {w:World} {K:PySem.W.Frag} {mg:Str->Option Value} {base:Heap} {k:Nat} {f:Addr} {name qual:Str} {params:Arguments} {body:List Stmt} {scope:Scope} {dV kV doc pm cdv ct oc:Value} {an od:Option Addr}
  {osl:Array (Option Value)} {N ps:List Str} {sp:Sp} (lk:K.lookup f=some ⟨oc,od,.func (fnOf name qual params body scope dV kV doc pm an cdv ct),osl⟩) (hcd:codeIn K cdv qual=true) (S:FnScope N ps scope)
  (len:∀ vs H Q E,sp vs H Q E->vs.length=ps.length)
  (hbody:∀ (A:Around) (outer:List Env) (s:Shared) (H:Hp) (vs:List V) (Q:VK) (E:XK),Room k (A.deeper (envOfC qual scope s.heap.objs.size f cdv))->sp vs H Q E ->
   ∃ t,Sm (Qd CX P w K mg base N qual scope f cdv A outer s H E) body t/\t { nx:=fun _ H'=>Q .non H',rt:=Q } (start N vs) H) :
  FnOk P w K mg base CX (k+1) f (fnOf name qual params body scope dV kV doc pm an cdv ct) ps sp:=by
 refine ⟨len,fun A outer s H args us vs Q E hr e0 hb r hsp=>?_⟩;have hl:=len _ _ _ _ hsp;have KX:K.In s.heap:=e0.mod.kin.keeps fun b o e=>(e0.bs b o e).1
 have lim:s.heap.NoLimit:=e0.mod.nolimit.keeps fun b o e=>(e0.bs b o e).1
 have hkind:∀ y∈ps.zip us,scope.names.lookup y.1=some .local\/(scope.names.lookup y.1=some .cell/\((cellsFrom (s.heap.objs.size+1) scope.names []).lookup y.1).isSome=true):=fun ⟨n,v⟩ hy=>by
  rcases S.par n (of_mem_zip hy).1 with q | q
  ·exact .inl q
  ·exact .inr ⟨q,cellsFrom_some _ _ _ (.inl q)⟩
 refine codeAny_call_function hr.depth (KX _ _ lk) rfl S.co S.gen rfl (codeRec_of KX hcd) (hb _ _ _ _ ?_);refine wpAny_newFunctionEnv_cells S.kind hkind fun env he s1 x=>?_
 subst he;refine ⟨lim.keeps x.toInCall.keep,codeAny_func ?_⟩;obtain ⟨t,ht,hq⟩:=hbody A outer s H vs Q E (hr.deeper _) hsp;have I:Inv (Qd CX P w K mg base N qual scope f cdv A outer s H E) [] (start N vs) H s1:=Z0b S hr.hd e0 hl r x;refine wpAny_mono (ht [] s1 (start N vs) H _ I hq) (fun fl s' hs=>?_) fun e s' hs=>hs
 have fin:∀ {σ':St} {H':Hp} {v:V} {u:Value},Inv (Qd CX P w K mg base N qual scope f cdv A outer s H E) [] σ' H' s'->Yo v u->Q v H'->CE outer P w H s Q u s' :=
  fun {σ' H' v u} J rv q=>⟨v,H',J.os,J.bare,J.base,J.hok,rv,q⟩
 cases fl with
 | ret u =>
  obtain ⟨v,σ',H',J,rv,q⟩:=hs;exact fin J rv q
 | next =>
  obtain ⟨σ',H',J,q⟩:=hs;exact fin (v:=V.non) (u:=Value.none) J rfl q
 | brk =>
  obtain ⟨_,_,_,q⟩:=hs;exact False.elim q
 | cont =>
  obtain ⟨_,_,_,q⟩:=hs;exact False.elim q
section
variable {X:Cx} {x:Str} {p pos:Pos} {e:Expr} {es:List Expr} {t:TA} {id T:String} {r:List V->Hp->VK->Prop}
def tCB (r:List V->Hp->VK->Prop) (t:TA):TE:=fun σ H Q=>t σ H fun vs H1=>r vs H1 Q
theorem R9 (hc:V5 X (.builtin id) r) (hg:Gl X x) (hm:X.mg x=none) (hv:bootBuiltins x=some (.builtin id)) (ha:PA X (e::es) t) (hn:x≠"__name__" := by decide) (hdb:(x==("__debug__" : Str))=false:=by decide)
  (he:starEach (e::es) X.env=(false,eval e X.env)::starEach es X.env:=by rfl) (hpl:(backTo pos (starEach es X.env)).any (·.1)=false:=by rfl):PE X (.Call (.Name x p) (e::es) [] pos) (tCB r t):=by
 intro pins s σ H Q I h;refine wpAny_Call_Name_kw (R4 I hg hm hv ?_ hn hdb);exact PyProof.Rows.callWith_builtin1 (Wu (ha pos pins s σ H _ I h) fun us s1 ⟨vs,H1,I1,r1,q1⟩=>hc pins s1 σ H1 vs us Q I1 r1 q1) he hpl
theorem S7 (hc:V5 X (.type T) r) (hg:Gl X x) (hm:X.mg x=none) (hv:bootBuiltins x=some (.type T)) (ha:PA X (e::es) t) (hn:x≠"__name__" := by decide) (hdb:(x==("__debug__" : Str))=false:=by decide)
  (he:starEach (e::es) X.env=(false,eval e X.env)::starEach es X.env:=by rfl) (hpl:(backTo pos (starEach es X.env)).any (·.1)=false:=by rfl):PE X (.Call (.Name x p) (e::es) [] pos) (tCB r t):=by
 intro pins s σ H Q I h;refine wpAny_Call_Name_kw (R4 I hg hm hv ?_ hn hdb);exact PyProof.Rows.callWith_type1 (Wu (ha pos pins s σ H _ I h) fun us s1 ⟨vs,H1,I1,r1,q1⟩=>hc pins s1 σ H1 vs us Q I1 r1 q1) he hpl
end
end L2
namespace HT
open PySem PyProof.Rows
section
open PySem.SeqAt
open PySem.AutoSeq1 (wpAny_loadPart')
open PySem.MeetsSeq PySem.MeetsSeq2 PySem.MeetsSeq3
end
section
variable {prog:Program} {w:World} {A:Around} {E:Value->Shared->Prop} {s:Shared}
theorem cat_tup {t b:Addr} {vs ws:List Value} {Q:Value->Shared->Prop} (ht:IsTup s.heap t vs.toArray) (hb:IsTup s.heap b ws.toArray) (hv:vs≠[])
  (h1:ws=[]->Q (.ref t) s) (h2:ws≠[]->Q (.ref s.heap.objs.size) { s with heap:=s.heap.push { cls:=.type "tuple",data:=.seq (vs++ws).toArray } })
  (hsz:vs.length+ws.length<=sizeLine):wpAny (model prog w) A (binaryOp .Add (.ref t) (.ref b)) Q E s:=by
 obtain ⟨⟨cls,dd,data,sl⟩,ho,hc,n,hd⟩:=id ht;obtain ⟨⟨cls2,dd2,data2,sl2⟩,ho2,hc2,n2,hd2⟩:=id hb;simp only at hc hd hc2 hd2;subst hc hd hc2 hd2;have e:vs.toArray++ws.toArray=(vs++ws).toArray:=by simp
 by_cases hw:ws=[]
 ·exact concat_meets ⟨_,ho,rfl⟩ ⟨_,ho2,rfl⟩ noFill_tuple_add seq_tuple_add PySem.F.slot_tuple_add PySem.F.entry_tuple_add (PySem.F.args_tuple_add_2 _ _)
   (tuple_addW1 t b vs.toArray ws.toArray n n2 dd dd2 sl sl2 (by simpa using hv) (by simp [hw])) ⟨ho,ho2,h1 hw⟩
 ·refine concat_meets ⟨_,ho,rfl⟩ ⟨_,ho2,rfl⟩ noFill_tuple_add seq_tuple_add PySem.F.slot_tuple_add PySem.F.entry_tuple_add (PySem.F.args_tuple_add_2 _ _)
   (tuple_addW2 t b vs.toArray ws.toArray n n2 dd dd2 sl sl2 (by simpa using hv) (by simpa using hw) (by rw [size_toArray,size_toArray];exact hsz)) ⟨ho,ho2,?_⟩
  rw [e];exact h2 hw
def sIx (n d:Nat):Option Int->Nat
 | none=>d
 | some v=>if v<0 then (v+(n:Int)).toNat else min v.toNat n
theorem sIx_none (n d:Nat):sIx n d none=d:=rfl
theorem sIx_nat (n d k:Nat):sIx n d (some (k:Int))=min k n:=by
 show (if (k:Int)<0 then ((k:Int)+(n:Int)).toNat else min (k:Int).toNat n)=min k n;rw [if_neg (by lia),Int.toNat_natCast]
theorem sIx_le (n d:Nat) (hd:d<=n) (o:Option Int):sIx n d o<=n:=by
 cases o with
 | none=>exact hd
 | some v =>
  show (if v<0 then (v+(n:Int)).toNat else min v.toNat n)<=n;by_cases hv:v<0
  ·rw [if_pos hv];lia
  ·rw [if_neg hv];exact Nat.min_le_right _ _
theorem clip_eq (v:Int) (n d:Nat):(if v<0 then max (v+(n:Int)) 0 else min v (n:Int))=((sIx n d (some v):Nat):Int):=by
 show (if v<0 then max (v+(n:Int)) 0 else min v (n:Int))=(((if v<0 then (v+(n:Int)).toNat else min v.toNat n):Nat):Int);by_cases hv:v<0
 ·simp only [if_pos hv];lia
 ·simp only [if_neg hv];lia
theorem F9 (lo hi:Option Int) (n:Nat):Builtin.Slice.sliceAdjust lo hi 1 (n:Int)=(((sIx n 0 lo:Nat):Int),((sIx n n hi:Nat):Int)):=by
 have h1:¬ ((1:Int)<0):=by lia
 unfold Builtin.Slice.sliceAdjust;simp only [h1,if_false];refine Prod.ext ?_ ?_
 ·cases lo with
  | none=>rfl
  | some v=>exact clip_eq v n 0
 ·cases hi with
  | none=>rfl
  | some v=>exact clip_eq v n n
theorem Fa (i j:Nat):Builtin.Slice.slicePlaces (i:Int) (j:Int) 1=j - i:=by
 unfold Builtin.Slice.slicePlaces;have h1:(1:Int) > 0:=by lia
 simp only [h1,if_true,Int.ediv_one];split<;>lia
theorem Ka {v:Value} {o:Option Int} {Q:Option Int->Shared->Prop} (p:IsPart v o) (h:Q o s):wpAny (model prog w) A (Builtin.Slice.slicePartIndex v) Q E s:=by
 cases p with
 | none=>exact slicePart_none h
 | int i t=>exact slicePart_int h
theorem M3 {sl:Addr} {vl vu:Value} {lo hi:Option Int} {n:Nat} {Q:Int×Int×Nat->Shared->Prop} (hs:s.heap.IsSliceOf sl vl vu .none) (pl:IsPart vl lo) (pu:IsPart vu hi)
   (h:Q (((sIx n 0 lo:Nat):Int),1,sIx n n hi - sIx n 0 lo) s):wpAny (model prog w) A (Builtin.Slice.sliceApplied (.ref sl) (pure (n:Int))) Q E s:=by
 obtain ⟨os,hos,hcs,hds⟩:=id hs;unfold Builtin.Slice.sliceApplied Builtin.Slice.sliceFields;refine wpAny_bind (wpAny_bind (wpAny_field hos hds (x:=vl) rfl (wpAny_bind (wpAny_field hos hds (x:=vu) rfl (wpAny_bind (wpAny_field hos hds (x:=.none) rfl (wpAny_pure ?_)))))));refine wpAny_bind (slicePart_none ?_);show wpAny _ _ (if ((1:Int)==0)=true then _ else _) _ _ s;rw [if_neg (by decide)];refine wpAny_bind (Ka pl (wpAny_bind (Ka pu (wpAny_bind (wpAny_pure ?_)))));show wpAny _ _ (match Builtin.Slice.sliceAdjust lo hi 1 (n:Int) with | (lo,hi)=>pure (lo,(1:Int),Builtin.Slice.slicePlaces lo hi 1)) _ _ s;rw [F9 lo hi n];show wpAny _ _ (pure (((sIx n 0 lo:Nat):Int),(1:Int),Builtin.Slice.slicePlaces ((sIx n 0 lo:Nat):Int) ((sIx n n hi:Nat):Int) 1)) _ _ s;rw [Fa];exact wpAny_pure h
theorem Z3m (xs:Array Value) (i k:Nat):((List.range k).filterMap fun (m:Nat)=>xs[((i:Int)+(m:Int)*1).toNat]?).toArray=((xs.toList.drop i).take k).toArray:=by
 have e:(fun (m:Nat)=>xs[((i:Int)+(m:Int)*1).toNat]?)=fun m=>xs[i+m]?:=by
  funext m
  have:((i:Int)+(m:Int)*1).toNat=i+m:=by lia
  rw [this]
 rw [e];have:=pick_run xs i k;rw [List.filterMap_map] at this;have e2:((fun x=>xs[x]?) ∘ fun x=>i+x)=fun m=>xs[i+m]?:=rfl
 rw [e2] at this;rw [this]
theorem getItem_tuple_cut {t sl:Addr} {items:Array Value} {vl vu:Value} {lo hi:Option Int} {Q:Value->Shared->Prop} (ht:IsTup s.heap t items) (hs:s.heap.IsSliceOf sl vl vu .none) (pl:IsPart vl lo) (pu:IsPart vu hi)
   (hw:¬ (sIx items.size 0 lo=0/\sIx items.size items.size hi=items.size))
   (h:Q (.ref s.heap.objs.size) { s with heap:=s.heap.push { cls:=.type "tuple",data:=.seq ((items.toList.drop (sIx items.size 0 lo)).take (sIx items.size items.size hi - sIx items.size 0 lo)).toArray } })
   (hsz:items.size<=sizeLine):wpAny (model prog w) A (getItem (.ref t) (.ref sl)) Q E s:=by
 have htake:sizeOk (.seq ((items.toList.drop (sIx items.size 0 lo)).take (sIx items.size items.size hi - sIx items.size 0 lo)).toArray):=by
   show ((items.toList.drop (sIx items.size 0 lo)).take (sIx items.size items.size hi - sIx items.size 0 lo)).toArray.size<=sizeLine;rw [size_toArray,length_take,length_drop,Array.length_toList];lia
 have hj:sIx items.size items.size hi<=items.size:=sIx_le _ _ (le_refl _) hi;obtain ⟨os,hos,hcs,hds⟩:=id hs;have hTs:s.TypeIs (.ref sl) "slice" := ⟨os,hos,hcs⟩;unfold getItem;try with_reducible refine wpAny_holding ?_
 first | refine wpAny_bind (wpAny_pure ?_) | skip
 refine wpAny_bind (wpAny_sequenceKey ht.typeIs (by decide) ?_);refine wpAny_bind (wpAny_callSpecial?_slot (name:=Str.ofString "__getitem__") ht.typeIs PyProof.Rows.slot_tuple_getitem
   (wpAny_call_entry PyProof.Rows.slot_tuple_getitem ht.typeIs entry_tuple_getitem ?_ (args_tuple_getitem _ _)))
 show wpAny _ _ (Builtin.Tuple.tupleItemsOf (.ref t) >>= _) _ _ s;refine wpAny_bind (tupleItemsOf_ ht ?_);refine wpAny_bind (wpAny_typeOf hTs ?_);rw [if_pos (by decide)];refine wpAny_bind (M3 hs pl pu ?_);have hno:¬ ((((sIx items.size 0 lo:Nat):Int)==0&&(1:Int)==1&&(sIx items.size items.size hi - sIx items.size 0 lo)==items.size)=true):=by
   intro q;rw [Bool.and_eq_true,Bool.and_eq_true] at q;have q1:((sIx items.size 0 lo:Nat):Int)=0:=eq_of_beq q.1.1;have q2:sIx items.size items.size hi - sIx items.size 0 lo=items.size:=eq_of_beq q.2;exact hw ⟨by lia,by lia⟩
 show wpAny _ _ (if (((sIx items.size 0 lo:Nat):Int)==0&&(1:Int)==1&&(sIx items.size items.size hi - sIx items.size 0 lo)==items.size)=true then _ else _) _ _ s;rw [if_neg hno,Z3m];first
   | exact wpAny_bind (m:=Builtin.Tuple.tupleExact _) (wpAny_newObj_type (wpAny_pure ⟨_,rfl,wpAny_pure h⟩) htake)
   | exact wpAny_bind (m:=Builtin.Tuple.tupleExact _) (wpAny_newObj_type (wpAny_bind (wpAny_pure (wpAny_pure ⟨_,rfl,wpAny_pure h⟩))) htake)
   | exact wpAny_bind (wpAny_bind (m:=Builtin.Tuple.tupleExact _) (wpAny_newObj_type (wpAny_pure (wpAny_pure ⟨_,rfl,wpAny_pure h⟩)) htake))
   | exact wpAny_bind (wpAny_bind (m:=Builtin.Tuple.tupleExact _) (wpAny_newObj_type (wpAny_pure ⟨_,rfl,wpAny_pure h⟩) htake))
end
end HT
namespace L2
open PySem PySem.Spec PyProof.Rows
abbrev TO:=St->Hp->(Option Int->Hp->Prop)->Prop
def PO (X:Cx) (e:Option Expr) (t:TO):Prop :=
 ∀ (pins:List (Addr×Obj)) (s:Shared) (σ:St) (H:Hp) (Q:Option Int->Hp->Prop),Inv X pins σ H s->t σ H Q ->
  wpAny (model X.prog X.w) X.A (evalPart e X.env) (fun u s'=>∃ o H',Inv X pins σ H' s'/\IsPart u o/\Q o H') X.xe s
def Z5i:TO:=fun _ H Q=>Q none H
def Zd2 (t:TE):TO:=fun σ H Q=>t σ H fun x H1=>∃ i,x=.int i/\Q (some i) H1
theorem K7 {ns:List Int}:∀ {us:List Value},Y3 (ns.map V.int) us->IntsAre us ns:=by
 induction ns with
 | nil=>intro us r;rw [map_nil] at r;cases r;exact .nil
 | cons n ns ih =>
  intro us r;rw [map_cons] at r;cases r with
  | cons r1 r2 =>
   obtain ⟨t,e⟩:=r1;subst e;exact .cons n t (ih r2)
section
variable {X:Cx} {e:Expr} {te:TE} {lo hi:Option Expr} {tl th:TO} {pos p2:Pos}
theorem Z6p:PO X none Z5i:=by
 intro pins s σ H Q I h;rw [evalPart_none];exact wpAny_pure ⟨none,H,I,.none,h⟩
theorem Z5h (h:PE X e te):PO X (some e) (Zd2 te):=by
 intro pins s σ H Q I hw;rw [evalPart_some];refine Wu (h pins s σ H _ I hw) fun u s1 ⟨x,H1,I1,r1,q1⟩=>?_
 obtain ⟨i,rfl,q⟩:=q1;obtain ⟨t,rfl⟩:=r1;exact ⟨some i,H1,I1,.int i t,q⟩
def Be (X:Cx) (r:V->Option Int->Option Int->Hp->VK->Prop):Prop :=
 ∀ (pins:List (Addr×Obj)) (s:Shared) (σ:St) (H:Hp) (x:V) (v vl vu:Value) (lo hi:Option Int) (sl:Addr) (Q:VK),Inv X pins σ H s->Yo x v->s.heap.IsSliceOf sl vl vu .none->IsPart vl lo->IsPart vu hi->r x lo hi H Q ->
  ∃ T id,typeLookup (.type T) "__getitem__" = pure (some (.builtin id))/\s.TypeIs v T/\wpAny (model X.prog X.w) X.A (getItem v (.ref sl)) (EP X pins σ Q) X.xe s
theorem Be.or {r r':V->Option Int->Option Int->Hp->VK->Prop} (h:Be X r) (h':Be X r'):Be X (fun x lo hi H Q=>r x lo hi H Q\/r' x lo hi H Q):=by
 intro pins s σ H x v vl vu lo hi sl Q I rx hs pl pu q;rcases q with q | q
 ·exact h pins s σ H x v vl vu lo hi sl Q I rx hs pl pu q
 ·exact h' pins s σ H x v vl vu lo hi sl Q I rx hs pl pu q
def tSl (r:V->Option Int->Option Int->Hp->VK->Prop) (te:TE) (tl th:TO):TE:=fun σ H Q=>te σ H fun x H1=>tl σ H1 fun l H2=>th σ H2 fun u H3=>r x l u H3 Q
theorem Z4a {r:V->Option Int->Option Int->Hp->VK->Prop} (hr:Be X r) (he:PE X e te) (hl:PO X lo tl) (hu:PO X hi th):PE X (.Subscript e (.Slice lo hi none p2) pos) (tSl r te tl th):=by
 intro pins s σ H Q I h;refine Subscript_ (Wu (he pins s σ H _ I h) fun v s1 ⟨x,H1,I1,r1,q1⟩=>?_);refine wpAny_Slice (Wu (hl pins s1 σ H1 _ I1 q1) fun vl s2 ⟨l,H2,I2,pl,q2⟩=>Wu (hu pins s2 σ H2 _ I2 q2) fun vu s3 ⟨u,H3,I3,pu,q3⟩=>?_);rw [evalPart_none];refine wpAny_pure ?_;have I4:Inv X pins σ H3 { s3 with heap:=s3.heap.push { cls:=.type "slice",data:=.fields #[vl,vu,.none] } }:=I3.kept (t':=s3.toks) fun b ob q=>get?_push_of_some _ q
 obtain ⟨T,id,hT,ht,hg⟩:=hr pins { s3 with heap:=s3.heap.push { cls:=.type "slice",data:=.fields #[vl,vu,.none] } } σ H3 x v vl vu l u s3.heap.objs.size Q I4 r1 (Heap.IsSliceOf.new ..) pl pu q3;show wpAny (model X.prog X.w) X.A (subscriptTail e (.Slice lo hi none p2) v (.ref s3.heap.objs.size)) (EP X pins σ Q) X.xe { s3 with heap:=s3.heap.push { cls:=.type "slice",data:=.fields #[vl,vu,.none] } };exact tail_any (ops:=[.ref s3.heap.objs.size,v]) ht hT hg (by with_unfolding_all rfl)
def Pg (xs:List V) (lo hi:Option Int):List V:=(xs.drop (HT.sIx xs.length 0 lo)).take (HT.sIx xs.length xs.length hi - HT.sIx xs.length 0 lo)
theorem Ga (xs:List V) (lo hi:Option Int):(Pg xs lo hi).length<=xs.length:=by
 unfold Pg;rw [length_take,length_drop];lia
def Zbe (K:PySem.W.Frag):V->Option Int->Option Int->Hp->VK->Prop:=fun x lo hi H Q=>∃ a xs,x=.ref a/\Sh K H a xs /\
 ¬ (HT.sIx xs.length 0 lo=0/\HT.sIx xs.length xs.length hi=xs.length)/\∀ p,H p=none->Q (.ref p) (W4 H p (.tup (Pg xs lo hi)))
theorem Z8k:Be X (Zbe X.K):=by
 intro pins s σ H x v vl vu lo hi sl Q I rx hs pl pu h;obtain ⟨a,xs,rfl,hx,hw,q⟩:=h;cases rx;obtain ⟨its,r,ht,hz⟩:=I.tuple hx;have hlen:its.toArray.size=xs.length:=by rw [size_toArray];exact r.length.symm
 refine ⟨"tuple",_,PyProof.Rows.slot_tuple_getitem.lookup,ht.typeIs,?_⟩;refine HT.getItem_tuple_cut ht hs pl pu (by rw [hlen];exact hw) ?_ (by rw [hlen];exact hz);rw [hlen];refine ⟨.ref s.heap.objs.size,_,I.laid (t':=s.toks) (o:=.tup (Pg xs lo hi)) (fun b ob q=>get?_push_of_some _ q) (le_refl _) ?_,rfl,q _ (I.hok.fresh (le_refl _))⟩;exact ⟨le_trans (Ga xs lo hi) hz,_,(r.drop (HT.sIx xs.length 0 lo)).take (HT.sIx xs.length xs.length hi - HT.sIx xs.length 0 lo),IsTup.new _ _⟩
def Zcz (K:PySem.W.Frag):R2:=fun x y H Q=>∃ a b xs ys,x=.ref a/\y=.ref b/\Sh K H a xs/\Sh K H b ys/\xs≠[]/\xs.length+ys.length<=sizeLine /\
 (ys=[]->Q (.ref a) H)/\(ys≠[]->∀ p,H p=none->Q (.ref p) (W4 H p (.tup (xs++ys))))
theorem Y3.nil_iff {xs:List V} {us:List Value} (r:Y3 xs us):us=[]↔xs=[]:=by
 cases r with
 | nil=>simp
 | cons _ _=>simp
theorem Z4n:Si X (binaryOp .Add) (Zcz X.K):=by
 intro pins s σ H x y v u Q I rx ry h;obtain ⟨a,b,xs,ys,rfl,rfl,ha,hb,hx,hz,q1,q2⟩:=h;cases rx;cases ry;obtain ⟨its,r1,p1,_⟩:=I.tuple ha;obtain ⟨its2,r2,p2,_⟩:=I.tuple hb;refine HT.cat_tup p1 p2 (fun z=>hx (r1.nil_iff.mp z)) (fun z=>⟨.ref a,H,I,rfl,q1 (r2.nil_iff.mp z)⟩) (fun z=>?_) (by rw [← r1.length,← r2.length];exact hz);refine ⟨.ref s.heap.objs.size,_,I.laid (t':=s.toks) (o:=.tup (xs++ys)) (fun b ob q=>get?_push_of_some _ q) (le_refl _) ?_,rfl,q2 (fun w=>z (r2.nil_iff.mpr w)) _ (I.hok.fresh (le_refl _))⟩;exact ⟨by rw [length_append];exact hz,_,r1.append r2,IsTup.new _ _⟩
end
def ixN (n:Nat) (i:Int):Option Nat:=if 0<=i then (if i<n then some i.toNat else none) else if -(n:Int)<=i then some (i+n).toNat else none
def Lr {α:Type} (xs:List α) (i:Int):Option α:=(ixN xs.length i).bind fun j=>xs[j]?
theorem Z5d {n:Nat} {i:Int} {j:Nat} (h:ixN n i=some j):seqIndex? i n=some j/\j<n/\-(n:Int)<=i/\i<n:=by
 unfold ixN at h;by_cases h0:0<=i
 ·rw [if_pos h0] at h
  by_cases h1:i<n
  ·rw [if_pos h1] at h
   have e:i.toNat=j:=Option.some.inj h;exact ⟨by rw [seqIndex_of h0 h1,e],by lia,by lia,h1⟩
  ·rw [if_neg h1] at h;cases h
 ·rw [if_neg h0] at h
  by_cases h1 : -(n:Int)<=i
  ·rw [if_pos h1] at h
   have e:(i+n).toNat=j:=Option.some.inj h;exact ⟨by rw [seqIndex_neg (by lia) h1,e],by lia,h1,by lia⟩
  ·rw [if_neg h1] at h;cases h
theorem Ny {α:Type} {xs:List α} {i:Int} {v:α} (h:Lr xs i=some v):∃ j,seqIndex? i xs.length=some j/\xs[j]?=some v/\j<xs.length/\-(xs.length:Int)<=i/\i<xs.length:=by
 unfold Lr at h;cases e:ixN xs.length i with
 | none=>rw [e] at h;cases h
 | some j =>
  rw [e] at h;obtain ⟨h1,h2,h3,h4⟩:=Z5d e;exact ⟨j,h1,h,h2,h3,h4⟩
theorem De {α:Type} {xs:List α} {j:Nat} {v:α} (h:xs[j]?=some v):Lr xs (j:Int)=some v:=by
 have hj:j<xs.length:=(List.getElem?_eq_some_iff.mp h).1;have e:ixN xs.length (j:Int)=some j:=by
  unfold ixN;rw [if_pos (by lia),if_pos (by lia)];simp
 unfold Lr;rw [e];exact h
def Hj (b:Expr):Prop:=∀ o i,subscripted b false o i=operate [o,i] (getItem o i)
def Cb (X:Cx) (r:R2):Prop :=
 ∀ (value slice:Expr) (pins:List (Addr×Obj)) (s:Shared) (σ:St) (H:Hp) (x y:V) (v u:Value) (Q:VK),Inv X pins σ H s->Yo x v->Yo y u->r x y H Q ->
  subscripted slice false v u=operate [v,u] (getItem v u)->wpAny (model X.prog X.w) X.A (subscriptTail value slice v u) (EP X pins σ Q) X.xe s
def MtR (X:Cx) (id:String) (r:V->List V->Hp->VK->Prop):Prop :=
 ∀ (pins:List (Addr×Obj)) (s:Shared) (σ:St) (H:Hp) (x:V) (xs:List V) (v:Value) (us:List Value) (Q:VK),Inv X pins σ H s->Yo x v->Y3 xs us->r x xs H Q ->
  wpAny (model X.prog X.w) X.A (call (.builtin id) (v::us)) (EP X pins σ Q) X.xe s
section
variable {X:Cx} {a b:Expr} {ta tb:TE} {pos:Pos}
theorem Cb.or {r r':R2} (h:Cb X r) (h':Cb X r'):Cb X (fun x y H Q=>r x y H Q\/r' x y H Q):=by
 intro value slice pins s σ H x y v u Q I rx ry q hs;rcases q with q | q
 ·exact h value slice pins s σ H x y v u Q I rx ry q hs
 ·exact h' value slice pins s σ H x y v u Q I rx ry q hs
theorem Z39 {r:R2} (hr:Cb X r) (ha:PE X a ta) (hb:PE X b tb) (hs:Hj b):PE X (.Subscript a b pos) (tOp r ta tb):=by
 intro pins s σ H Q I h;exact Subscript_ (Z8s ha hb I h fun v u s2 x y H2 I2 rx ry q=>hr a b pins s2 σ H2 x y v u Q I2 rx ry q (hs _ _))
def Zb5 (K:PySem.W.Frag):R2:=fun x y H Q=>∃ p xs i v,x=.ref p/\y=.int i/\Mu K H p xs/\Lr xs i=some v/\Q v H
def Zca (K:PySem.W.Frag):R2:=fun x y H Q=>∃ p xs i v,x=.ref p/\y=.int i/\Sh K H p xs/\Lr xs i=some v/\Q v H
def Zby:R2:=fun x y H Q=>∃ z i c,x=.str z/\y=.int i/\z.length<=sizeLine/\Lr z.cps.toList i=some c/\Q (.str ⟨#[c]⟩) H
theorem Oy:Cb X (Zb5 X.K):=by
 intro value slice pins s σ H x y v u Q I rx ry h hs;obtain ⟨p,xs,i,z,rfl,rfl,hq,he,q⟩:=h;cases rx;obtain ⟨t,rfl⟩:=ry;obtain ⟨its,r,pl,hz⟩:=I.list hq;obtain ⟨j,h1,h2,h3,h4,h5⟩:=Ny he;obtain ⟨w,ew,rw'⟩:=r.get h2;have hl:=r.length;have hn:=Eu;have fin:EP X pins σ Q w s:=⟨z,H,I,rw',q⟩;by_cases h0:0<=i
 ·have hj:i.toNat=j:=by
   rw [seqIndex_of h0 h5] at h1;exact Option.some.inj h1
  exact item_listR pl.isList h0 (by lia) (by rw [hj];simpa using ew) fin hs
 ·have hj:(i+(its.toArray.size:Int)).toNat=j:=by
   rw [seqIndex_neg (by lia) h4] at h1;rw [size_toArray,← hl];exact Option.some.inj h1
  exact subscriptTail_builtinR (x:=w) pl.isList.typeIs slot_list_getitem.lookup
   (wpAny_getItem_list_neg (Q:=fun r s'=>r=w/\EP X pins σ Q r s') pl.isList (by lia) (by rw [size_toArray]<;>lia) (by lia) (by rw [hj];simpa using ew) ⟨rfl,fin⟩) hs
theorem Z94:Cb X (Zca X.K):=by
 intro value slice pins s σ H x y v u Q I rx ry h hs;obtain ⟨p,xs,i,z,rfl,rfl,hq,he,q⟩:=h;cases rx;obtain ⟨t,rfl⟩:=ry;obtain ⟨its,r,pl,hz⟩:=I.tuple hq;obtain ⟨j,h1,h2,h3,h4,h5⟩:=Ny he;obtain ⟨w,ew,rw'⟩:=r.get h2;have hl:=r.length;have hn:=Eu;have fin:EP X pins σ Q w s:=⟨z,H,I,rw',q⟩;exact subscriptTail_builtinR (x:=w) pl.typeIs slot_tuple_getitem.lookup
  (getItem_tuple (j:=j) (Q:=fun r s'=>r=w/\EP X pins σ Q r s') pl (by lia) (by lia) (by rw [size_toArray,← hl];exact h1) (by simpa using ew) ⟨rfl,fin⟩) hs
theorem Za0:Cb X Zby:=by
 intro value slice pins s σ H x y v u Q I rx ry h hs;obtain ⟨z,i,c,rfl,rfl,hz,he,q⟩:=h;obtain ⟨t,rfl⟩:=rx;obtain ⟨t',rfl⟩:=ry;obtain ⟨j,h1,h2,h3,h4,h5⟩:=Ny he;have hl:z.cps.toList.length=z.length:=by simp [Str.length]
 rw [hl] at h1 h4 h5;have hn:=Eu;exact tail_any (typeIs_str s z t) slot_str_getitem.lookup (getItem_str (c:=c) (by
  have e1:decide (i < -(2^63:Int))=false:=decide_eq_false (by lia);have e2:decide (i≥2^63)=false:=decide_eq_false (by lia);rw [e1,e2,Bool.or_false]) (by rw [h1];simpa using h2) ⟨.str ⟨#[c]⟩,H,I.tok _,⟨_,rfl⟩,q⟩) hs
def rIx (K:PySem.W.Frag):R2:=fun x y H Q=>Zb5 K x y H Q\/Zca K x y H Q\/Zby x y H Q
theorem Z9j:Cb X (rIx X.K):=Oy.or (Z94.or Za0)
theorem Nv (lo hi:Option Int) (n:Nat):(sliceBounds lo hi none n).1=((HT.sIx n 0 lo:Nat):Int)/\(sliceBounds lo hi none n).2.1=((HT.sIx n n hi:Nat):Int)/\(sliceBounds lo hi none n).2.2=1:=by
 refine ⟨?_,?_,rfl⟩
 ·cases lo with
  | none=>simp [sliceBounds,HT.sIx]
  | some i =>
   simp only [sliceBounds,HT.sIx,Option.getD_none,show (1:Int) > 0 by decide,if_true];by_cases h:i<0
   ·simp only [h,if_true]<;>lia
   ·simp only [h,if_false]<;>lia
 ·cases hi with
  | none=>simp [sliceBounds,HT.sIx]
  | some i =>
   simp only [sliceBounds,HT.sIx,Option.getD_none,show (1:Int) > 0 by decide,if_true];by_cases h:i<0
   ·simp only [h,if_true]<;>lia
   ·simp only [h,if_false]<;>lia
theorem Li (its:List Value) (lo hi:Option Int):slicePick its.toArray lo hi none=((its.drop (HT.sIx its.length 0 lo)).take (HT.sIx its.length its.length hi - HT.sIx its.length 0 lo)).toArray:=by
 obtain ⟨h1,h2,h3⟩:=Nv lo hi its.toArray.size;unfold slicePick;rw [h1,h2,h3];simp only [sliceRange_one,pick_run,size_toArray]<;>rfl
def Zb6 (K:PySem.W.Frag):V->Option Int->Option Int->Hp->VK->Prop:=fun x lo hi H Q=>∃ a xs,x=.ref a/\Mu K H a xs/\∀ p,H p=none->Q (.ref p) (W4 H p (.lst (Pg xs lo hi)))
theorem Z6m:Be X (Zb6 X.K):=by
 intro pins s σ H x v vl vu lo hi sl Q I rx hs pl pu h;obtain ⟨a,xs,rfl,hx,q⟩:=h;cases rx;obtain ⟨its,r,ht,hz⟩:=I.list hx;have hlen:=r.length;refine ⟨"list",_,slot_list_getitem.lookup,ht.isList.typeIs,?_⟩;refine wpAny_getItem_list_slice ht.isList hs pl pu .none (by simp) ?_ (by rw [size_toArray]<;>lia);rw [Li,← hlen];refine ⟨.ref s.heap.objs.size,_,I.laid (t':=s.toks) (o:=.lst (Pg xs lo hi)) (fun b ob q=>get?_push_of_some _ q) (le_refl _) ?_,rfl,q _ (I.hok.fresh (le_refl _))⟩;exact ⟨le_trans (Ga xs lo hi) hz,_,0,(r.drop (HT.sIx xs.length 0 lo)).take (HT.sIx xs.length xs.length hi - HT.sIx xs.length 0 lo),get?_push_size _ rfl⟩
theorem Ox:Si X (compareOp .NotIn) (fun x y H Q=>∃ i j,x=.str i/\y=.str j/\Q (.bl (!(!(Builtin.Str.occurrences j i 0 j.length 1).isEmpty))) H):=by
 intro pins s σ H x y v u Q I rx ry h;obtain ⟨i,j,rfl,rfl,q⟩:=h;obtain ⟨t,rfl⟩:=rx;obtain ⟨t',rfl⟩:=ry;exact notIn_str ⟨.bl _,H,I,rfl,q⟩
theorem P8:V5 X (.builtin "len") (fun xs H Q=>∃ p ys,xs=[.ref p]/\(Mu X.K H p ys\/Sh X.K H p ys)/\Q (.int ys.length) H):=by
 intro pins s σ H xs us Q I r h;obtain ⟨p,ys,rfl,hq,q⟩:=h;obtain ⟨u,rfl,rx⟩:=Qy r;cases rx;have hn:=Eu;rcases hq with hq | hq
 ·obtain ⟨its,r',pl,hz⟩:=I.list hq
  have hlen:=r'.length;exact Calls.call_len_list pl.isList (by simp only [size_toArray]<;>lia) ⟨.int ys.length,H,I.tok _,⟨s.toks+1,by rw [size_toArray,hlen]⟩,q⟩
 ·obtain ⟨its,r',pl,hz⟩:=I.tuple hq
  have hlen:=r'.length;exact len_tuple pl (by simp only [size_toArray]<;>lia) ⟨.int ys.length,H,I.tok _,⟨s.toks+1,by rw [size_toArray,hlen]⟩,q⟩
theorem Oi:V5 X (.builtin "len") (fun xs H Q=>∃ z,xs=[.str z]/\z.length<=sizeLine/\Q (.int z.length) H):=by
 intro pins s σ H xs us Q I r h;obtain ⟨z,rfl,hz,q⟩:=h;obtain ⟨u,rfl,t,rfl⟩:=Qy r;have hn:=Eu;exact len_str (by lia) ⟨.int z.length,H,I.tok _,⟨_,rfl⟩,q⟩
theorem V5.or {f:Value} {r r':List V->Hp->VK->Prop} (h:V5 X f r) (h':V5 X f r'):V5 X f (fun xs H Q=>r xs H Q\/r' xs H Q):=by
 intro pins s σ H xs us Q I rs q;rcases q with q | q
 ·exact h pins s σ H xs us Q I rs q
 ·exact h' pins s σ H xs us Q I rs q
theorem Dm:V5 X (.type "list") (fun xs H Q=>∃ p ys,xs=[.ref p]/\(Mu X.K H p ys\/Sh X.K H p ys)/\∀ l,H l=none->Q (.ref l) (W4 H l (.lst ys))):=by
 intro pins s σ H xs us Q I r h;obtain ⟨p,ys,rfl,hq,q⟩:=h;obtain ⟨u,rfl,rx⟩:=Qy r;cases rx;have fin:∀ (its:List Value),Y3 ys its->ys.length<=sizeLine->∀ (h':Heap) (c':Nat),(∀ b o',s.heap.get? b=some o'->h'.get? b=some o') ->
   h'.get? s.heap.objs.size=some { cls:=.type "list",dict:=none,data:=.seq its.toArray c',slots:=#[] }->EP X pins σ Q (.ref s.heap.objs.size) { s with heap:=h' }:=fun its r' hz h' c' kp e =>
  ⟨.ref s.heap.objs.size,_,I.laid (t':=s.toks) kp (le_refl _) (show Yy X.prog X.w _ h' _ (.lst ys) from ⟨hz,its,c',r',e⟩),rfl,q _ (I.hok.fresh (le_refl _))⟩
 rcases hq with hq | hq
 ·obtain ⟨its,r',pl,hz⟩:=I.list hq
  have hlen:=r'.length;obtain ⟨o,ho,hc,n,hd⟩:=pl.isList;exact call_list_seq p (.inl rfl) ho hc hd (fun h' c' kp e=>fin its r' hz h' c' kp e) (by simp only [size_toArray]<;>lia)
 ·obtain ⟨its,r',pl,hz⟩:=I.tuple hq
  have hlen:=r'.length;obtain ⟨o,ho,hc,n,hd⟩:=pl;exact call_list_seq p (.inr rfl) ho hc hd (fun h' c' kp e=>fin its r' hz h' c' kp e) (by simp only [size_toArray]<;>lia)
theorem Ld:V5 X (.type "tuple") (fun xs H Q=>∃ p ys,xs=[.ref p]/\((Mu X.K H p ys/\∀ l,H l=none->Q (.ref l) (W4 H l (.tup ys)))\/(Sh X.K H p ys/\Q (.ref p) H))):=by
 intro pins s σ H xs us Q I r h;obtain ⟨p,ys,rfl,h⟩:=h;obtain ⟨u,rfl,rx⟩:=Qy r;cases rx;rcases h with ⟨hq,q⟩ | ⟨hq,q⟩
 ·obtain ⟨its,r',pl,hz⟩:=I.list hq
  have hlen:=r'.length;refine call_tuple_list pl.isList (fun h' kp=>?_) (by simp only [size_toArray]<;>lia);have I1:Inv X pins σ H { s with heap:=h' }:=I.kept (t':=s.toks) kp;have I2:Inv X pins σ (W4 H h'.objs.size (.tup ys)) { s with heap:=h'.push { cls:=.type "tuple",data:=.seq its.toArray } } :=
   I1.laid (t':=s.toks) (fun b o e=>get?_push_of_some _ e) (le_refl _) (show Yy X.prog X.w _ _ _ (.tup ys) from ⟨hz,its,r',IsTup.new _ _⟩)
  exact ⟨.ref h'.objs.size,_,I2,rfl,q _ (I1.hok.fresh (le_refl _))⟩
 ·obtain ⟨its,r',pl,hz⟩:=I.tuple hq
  exact call_tuple_same pl ⟨.ref p,H,I,rfl,q⟩
def tyV (K:PySem.W.Frag) (T:String) (x:V) (H:Hp):Prop:=match x with
 | .str _=>T="str"
 | .int _=>T="int"
 | .ref p=>(T="list" /\ ∃ xs,Mu K H p xs)\/(T="tuple" /\ ∃ o,K.lookup p=some o/\o.cls=.type "tuple" /\ o.dict=none) \/
  (T="dict" /\ ((∃ kvs,H p=some (.dK kvs))\/∃ kvs,H p=some (.dT kvs)))\/(T="set" /\ ∃ S n,H p=some (.set S n))
 | _=>False
theorem Z9g {pins:List (Addr×Obj)} {σ:St} {H:Hp} {s:Shared} {T:String} {x:V} {v:Value} (I:Inv X pins σ H s) (r:Yo x v) (ty:tyV X.K T x H) :
  s.TypeIs v T/\∀ a,v=.ref a->∃ ob,s.heap.get? a=some ob/\ob.dict=none:=by
 cases x with
 | str z =>
  obtain ⟨t,rfl⟩:=r;cases (show T="str" from ty);exact ⟨typeIs_str s z t,fun _ e=>nomatch e⟩
 | int i =>
  obtain ⟨t,rfl⟩:=r;cases (show T="int" from ty);exact ⟨typeIs_int s i t,fun _ e=>nomatch e⟩
 | ref p =>
  cases r;rcases ty with ⟨rfl,xs,hq⟩ | ⟨rfl,o,hk,hc,hd⟩ | ⟨rfl,hk⟩ | ⟨rfl,S,n,hk⟩
  ·obtain ⟨its,_,pl,_⟩:=I.list hq
   refine ⟨pl.isList.typeIs,fun a e=>?_⟩;cases e;obtain ⟨o,n,e,c,hd,_⟩:=pl;exact ⟨o,e,hd⟩
  ·refine ⟨⟨o,I.kIn p o hk,hc⟩,fun a e=>?_⟩
   cases e;exact ⟨o,I.kIn _ o hk,hd⟩
  ·have z:∃ o,s.heap.get? p=some o/\o.ExactDict:=by
    rcases hk with ⟨kvs,hk⟩ | ⟨kvs,hk⟩
    ·obtain ⟨_,_,_,_,o,_,_,e,ex,_⟩:=I.hok p _ hk
     exact ⟨o,e,ex⟩
    ·obtain ⟨_,_,_,_,o,_,_,e,ex,_⟩:=I.hok p _ hk
     exact ⟨o,e,ex⟩
   obtain ⟨o,e,ex⟩:=z;refine ⟨⟨o,e,ex.1⟩,fun a e2=>?_⟩;cases e2;exact ⟨o,e,ex.2.1⟩
  ·obtain ⟨o,_,_,_,e,ex,_⟩:=I.hok p _ hk
   refine ⟨⟨o,e,ex.1⟩,fun a e2=>?_⟩;cases e2;exact ⟨o,e,ex.2.1⟩
 | _=>exact False.elim ty
def tBM (K:PySem.W.Frag) (T:String) (r:V->List V->Hp->VK->Prop) (to:TE) (t:TA):TE:=fun σ H Q=>to σ H fun x H1=>tyV K T x H1/\t σ H1 fun xs H2=>r x xs H2 Q
variable {o e:Expr} {es:List Expr} {to:TE} {t:TA} {name:Str} {apos cpos:Pos} {T id:String} {r:V->List V->Hp->VK->Prop}
theorem Bq (pa:PlainAttrs T) (slot:Slot T name id) (hty:typeOf (.builtin id)=pure (.type "method_descriptor")) (hm:MtR X id r) (ho:PE X o to) (ha:PA X (e::es) t)
   (hbase:attributeBase o name X.env (eval o X.env)=eval o X.env:=by rfl)
   (hfew:((backTo cpos (starEach (e::es) X.env)).all (fun x=>!x.1)&&(backToKw cpos (keywordEach [] X.env)).all (fun x=>x.1.isSome)
     && decide ((e::es).length+([]:List Keyword).length+(if ([]:List Keyword).isEmpty then 0 else 1)<30))=true:=by rfl)
   (hline:(apos.endLine==cpos.line)=true:=by rfl) (hs:starEach (e::es) X.env=(false,eval e X.env)::starEach es X.env:=by rfl) (hplain:(backTo cpos (starEach es X.env)).any (·.1)=false:=by rfl) :
   PE X (.Call (.Attribute o name apos) (e::es) [] cpos) (tBM X.K T r to t):=by
 intro pins s σ H Q I h;refine wpAny_Call_method_late hbase hfew hline rfl (Wu (ho pins s σ H _ I h) fun v s1 ⟨x,H1,I1,r1,ty,q1⟩=>?_);obtain ⟨h1,h2⟩:=Z9g I1 r1 ty;refine ⟨T,id,pa,slot,hty,h1,h2,?_⟩;have hA:=ha cpos pins s1 σ H1 _ I1 q1;rw [hs] at hA ⊢;refine Calls.callWith_builtin (by show (false||(backTo cpos (starEach es X.env)).any (·.1))=false;rw [hplain]<;>rfl) (Calls.evalArgs_plain ?_);exact Wu hA fun us s2 ⟨vs,H2,I2,r2,q2⟩=>hm pins s2 σ H2 x vs v us Q I2 r1 r2 q2
end
def MtM (X:Cx) (id:String) (r:V->List V->Hp->VK->Prop):Prop :=
 ∀ (pins:List (Addr×Obj)) (s:Shared) (σ:St) (H:Hp) (x:V) (xs:List V) (v:Value) (us:List Value) (Q:VK),Inv X pins σ H s->Yo x v->Y3 xs us->r x xs H Q ->
  wpAny (model X.prog X.w) X.A (call (.builtin id) (v::us)) (EP X pins σ Q) X.xe s
theorem Y3.one:∀ {x:V} {us:List Value},Y3 [x] us->∃ u,us=[u]/\Yo x u
 | _,_,.cons r .nil=>⟨_,rfl,r⟩
section
variable {X:Cx} {pins:List (Addr×Obj)} {σ:St} {H:Hp} {s:Shared} {l b:Addr} {xs ys zs:List V}
theorem Inv.lset {its its':List Value} {n:Nat} {f:Array Value->Array Value} {t':Nat} (I:Inv X pins σ H s) (hH:H l=some (.lst xs))
  (e:s.heap.get? l=some { cls:=.type "list",data:=.seq its.toArray n }) (hf:f its.toArray=its'.toArray) (hv:Y3 ys its') (hz:ys.length<=sizeLine) :
  Inv X pins σ (W4 H l (.lst ys)) { s with heap:=s.heap.update l (Obj.mapSeq f),toks:=t' }:=by
 have q:=PySem.IsL.update e f;rw [hf] at q;refine I.write (x:=l) (e:=l) (by rw [hH];exact trivial) (.inl rfl) (fun b' u hb hu=>(get?_update_other s.heap (Obj.mapSeq f) (Ne.symm hb)).trans hu) ⟨_,q⟩ ?_;exact ⟨hz,its',_,hv,q⟩
theorem Inv.lnew {its:List Value} {t':Nat} (I:Inv X pins σ H s) (hv:Y3 ys its) (hz:ys.length<=sizeLine) :
  Inv X pins σ (W4 H s.heap.objs.size (.lst ys)) { s with heap:=s.heap.push { cls:=.type "list",data:=.seq its.toArray },toks:=t' } :=
 I.laid (fun _ _ q=>get?_push_of_some _ q) (le_refl _) ⟨hz,its,0,hv,get?_push_size _ rfl⟩
theorem Inv.fresh (I:Inv X pins σ H s):H s.heap.objs.size=none:=I.hok.fresh (le_refl _)
theorem Inv.lstM (I:Inv X pins σ H s) (hH:H l=some (.lst xs)):xs.length<=sizeLine/\∃ (its:List Value) (n:Nat),Y3 xs its/\xs.length=its.length/\s.heap.get? l=some { cls:=.type "list",data:=.seq its.toArray n }:=by
 obtain ⟨z,its,n,r,e⟩:=I.hok l _ hH;exact ⟨z,its,n,r,r.length,e⟩
end
section
variable {X:Cx}
def Z4t:V->List V->Hp->VK->Prop:=fun x vs H Q=>∃ l xs y,x=.ref l/\vs=[y]/\H l=some (.lst xs)/\xs.length<sizeLine/\Q .non (W4 H l (.lst (xs++[y])))
theorem Ej:MtM X "list.append" Z4t:=by
 intro pins s σ H x vs v us Q I rx rv h;obtain ⟨l,xs,y,rfl,rfl,hH,hz,q⟩:=h;cases rx;obtain ⟨u,rfl,ru⟩:=rv.one;obtain ⟨z,its,n,r,hl,e⟩:=I.lstM hH;refine call_meets F.slot_list_append ⟨_,e,rfl⟩ F.entry_list_append (F.args_list_append_2 _ _) (PySem.list_append l its.toArray n u (by rw [size_toArray];lia)) ⟨e,?_⟩;refine ⟨.non,_,I.lset (its':=its++[u]) hH e (by simp) (r.append (.cons ru .nil)) ?_,rfl,q⟩;rw [length_append,length_singleton];lia
end
section
variable {prog:Program} {w:World} {A:Around} {E:Value->Shared->Prop} {s:Shared}
end
section
variable {X:Cx}
end
end L2
namespace Att
open PySem PySem.W PySem.Calls PyProof.Rows
theorem Gz {P:Params} {h:Heap}:∀ (ns:List Int) (vs:List Value),WellAll P h vs (ns.map WData.int)->IntsAre vs ns:=by
 intro ns;induction ns with
 | nil =>
  intro vs w;rw [map_nil] at w;cases w;exact .nil
 | cons n ns ih =>
  intro vs w;rw [map_cons] at w;cases w with
  | cons a b =>
   cases a;exact .cons _ _ (ih _ b)
theorem Cu {l:OpenLaw} {n:Nat} (hn:l.most=some n) {P:Params} {h:Heap} {args:List WData} {vals:List Value}
   (hpre:l.row.toRowW.claim.pre args=true) (hwl:WellAll P h vals args) :
   ∃ a vs ns,vals=[Value.ref a]/\args=[WData.list (ns.map WData.int)]/\h.get? a=some { cls:=.type "list",data:=.seq vs.toArray }/\IntsAre vs ns/\ns.length<=n:=by
 have hsh:WShape.hasAll [] args [.list .int]=true:=(pre_splitW hpre).1;have hc:l.pre.holds [] { args:=args }=true:=(pre_splitW hpre).2;obtain ⟨d,r,rfl,h1,h2⟩:=hasAllW_cons hsh;obtain rfl:=hasAllW_nil h2;obtain ⟨xs,rfl,h3⟩:=hasW_list h1;obtain ⟨ns,rfl⟩:=items_int h3;have hlen:ns.length<=n:=by
   unfold OpenLaw.pre at hc;have h4:(WTm.not (.lt (.lit (.int (n:Int))) (.len (.arg 0)))).holds [] { args:=[.list (ns.map .int)] }=true:=by
     have h4:=(holds_andW hc).1;rw [hn] at h4;exact h4
   have h5:=condW_of h4 (w_not (w_lt w_lit (w_len_list (w_arg rfl))));rw [length_map] at h5;refine Nat.le_of_not_lt fun q=>?_
   have q':(n:Int)<((ns.length:Nat):Int):=by lia
   first
     | (rw [decide_eq_true q'] at h5;exact absurd h5 (by decide))
     | (simp at h5;lia)
 cases hwl with
 | cons w1 w2 =>
   cases w2;cases w1 with
   | list ho hall=>exact ⟨_,_,ns,rfl,rfl,ho,Gz ns _ hall,hlen⟩
theorem Z1b (l:OpenLaw) (args:List WData):l.row.toRowW.claim.post args (.bool true) args=true :=
 postW_of (r:=l.row.toRowW) (X:=(true==true))
  (show WShape.has [] (.bool true) .bool=true by first | rfl | decide | simp [WShape.has,WShape.arms,WShape.armsAll])
  (show (WTm.eq .res (.lit (.bool true))).value [] { args:=args,res:=some (.bool true),after:=args }=some (.bool (true==true)) from w_eq_bool (w_res rfl) w_lit) rfl
theorem attach_call {l:OpenLaw} {n:Nat} {q:Program} {loose:List Str} {XP:(Str->Option Value)->Heap->Prop} {YP:World->Heap->Prop} {d:DefRec}
  (hn:l.most=some n) (hdf:d.params.defaults=[])
  (call:∀ (w:World) (s₀ s₁:Shared) (mg mb:Str->Option Value) (fa:Addr) (o:Obj) (pm cd doc:Value) (a:Addr) (vs:List Value) (ns:List Int),
   Ground q loose [] XP w s₀ mg mb s₁.heap->YP w s₁.heap ->
   s₁.heap.get? fa=some o->o.data=.func (docDef d.name d.params d.body d.scope pm cd doc)->s₁.heap.CodeRec cd d.name->mg d.name=some (.ref fa) ->
   s₁.heap.get? a=some { cls:=.type "list",data:=.seq vs.toArray }->IntsAre vs ns->ns.length<=n->s₁.gens=#[] ->
   codeAny (model l.prog w) callerA (.call (.ref fa) ⟨[.ref a],[]⟩) (fun r s'=>r=.ok (.ret (.bool true))/\OldK s₁.heap s'.heap/\s'.os=s₁.os/\AllBare s'.gens) s₁) :
  WalkO q loose XP YP l.row.toRowW d [] (fun f vs=>PySem.call f vs):=by
 intro w s₀ s₁ mg mb G Y fa o pm cd doc dV kV ho hd hcd hD hmg hg args vals as hpre hlay hrd hwl hlo;obtain rfl:dV=.none:=Dflts.none hD hdf;obtain rfl:kV=.none:=Dflts.noKw hD;obtain ⟨a,vs,ns,rfl,rfl,hobj,hints,hlen⟩:=Cu hn hpre hwl;refine enter_call (codeAny_mono (call w s₀ s₁ mg mb fa o pm cd doc a vs ns G Y ho (fd_plain hd) hcd hmg hobj hints hlen hg) fun r s' hq=>?_);obtain ⟨rfl,h2,h3,h4⟩:=hq;exact ⟨.inl ⟨.bool true,.bool true,[],rfl,fun _=>rfl,.bool true,Z1b l _,fun _=>⟨List.Pairwise.nil,fun _ hm=>(nomatch hm)⟩⟩,h2,h3,h4⟩
section
variable {prog:Program} {w:World} {A:Around} {E:Value->Shared->Prop} {s:Shared} {K:Frag}
end
end Att
namespace L2
open PySem PySem.Spec PyProof.Rows
theorem N4:∀ {vs:List Value} {ns:List Int},IntsAre vs ns->Y3 (ns.map V.int) vs
 | _,_,.nil=>.nil
 | _,_,.cons n t h=>.cons ⟨t,rfl⟩ (N4 h)
def SL (K:PySem.W.Frag) (H:Hp) (a:Addr) (xs:List V):Prop :=
 Rd H a (.lst xs)\/∃ (its:List Value) (n:Nat),K.lookup a=some { cls:=.type "list",data:=.seq its.toArray n }/\xs.length<=sizeLine/\Y3 xs its
def Z7s (H:Hp):Prop:=∀ b,H b=none\/∃ o xs,H b=some (.frz o (.lst xs))
theorem Z2y {P:Program} {w:World} {K:PySem.W.Frag} {mg mb:Str->Option Value} {CX:Lg} {k:Nat} {fa a:Addr} {fd:FuncData} {x:Str} {sp:Sp} {s₁:Shared} {vs:List Value} {ns:List Int}
  (KX:K.In s₁.heap) (hns:s₁.heap.Ns mainGlobals mg) (hb:s₁.heap.Ns builtinsNs mb) (hbb:∀ x:Str,x≠"__name__" -> mb x=bootBuiltins x) (hlim:s₁.heap.NoLimit) (hg:s₁.gens=#[])
  (ha:s₁.heap.get? a=some { cls:=.type "list",data:=.seq vs.toArray }) (hi:IntsAre vs ns) (hl:ns.length<=sizeLine) (hr:Room k callerA)
  (F:∀ base:Heap,K.In base->base.Ns mainGlobals mg->FnOk P w K mg base CX k fa fd [x] sp) (hbind:∀ (s:Shared) (u:Value),BindsTo s fd ⟨[u],[]⟩ [(x,u)])
  (hsp:∀ H:Hp,Z7s H->SL K H a (ns.map V.int)->sp [.ref a] H (fun v _=>v=.bl true) fun _ _ _=>False)
  (hCX:∀ H e s',CX [] H s₁ (fun _ _ _=>False) e s'->False) :
  codeAny (model P w) callerA (.call (.ref fa) ⟨[.ref a],[]⟩) (fun r s'=>r=.ok (.ret (.bool true))/\OldK s₁.heap s'.heap/\s'.os=s₁.os/\AllBare s'.gens) s₁:=by
 have rv:=N4 hi;have lenV:=hi.length
 -- from an abstract heap in which nothing but the script may be tracked
 have core:∀ H:Hp,Z7s H->SL K H a (ns.map V.int)->Mp P w H s₁.heap->(∀ b,H b≠none->b=a)->(H a≠none->K.lookup a=none) ->
   codeAny (model P w) callerA (.call (.ref fa) ⟨[.ref a],[]⟩) (fun r s'=>r=.ok (.ret (.bool true))/\OldK s₁.heap s'.heap/\s'.os=s₁.os/\AllBare s'.gens) s₁:=by
  intro H hO hS hok hA hK;have base_of:∀ {b:Addr} {o:Obj},s₁.heap.get? b=some o->H b=none->(Oq s₁.heap H).get? b=some o:=fun e n=>Z2k e n
  have noA:∀ {b:Addr} {o:Obj} {es:Array DictEntry} {ep:Nat},s₁.heap.get? b=some o->o.data=.dict es ep->H b=none:=fun {b o es ep} e d=>by
   cases q:H b with
   | none=>rfl
   | some u =>
    have e':b=a:=hA b (by rw [q];simp);subst e';rw [ha] at e;cases e;have d':Data.seq vs.toArray _=Data.dict es ep:=d;cases d'
  have nsK:∀ {b:Addr} {m:Str->Option Value},s₁.heap.Ns b m->(Oq s₁.heap H).Ns b m:=fun {b m} ⟨o,es,ep,e,d,r⟩=>⟨o,es,ep,base_of e (noA e d),d,r⟩
  have hKb:K.In (Oq s₁.heap H):=fun b o e=>base_of (KX b o e) (by
   cases q:H b with
   | none=>rfl
   | some u =>
    have e':b=a:=hA b (by rw [q];simp);subst e';rw [hK (by rw [q];simp)] at e;cases e)
  have hM:Mod K mg (Oq s₁.heap H):=⟨hKb,nsK hns,⟨mb,nsK hb,hbb⟩,let ⟨mc,h1,h2⟩:=hlim;⟨mc,nsK h1,h2⟩⟩;have e0:Env0 P w K mg (Oq s₁.heap H) callerA [] s₁ H:=⟨rfl,hM,fun b o e=>Z4z e,le_of_eq (Z14 _ _),trivial,fun b hb=>absurd (show b∈([]:List Addr) from hb) (by simp),hok,.of_eq hg⟩;refine codeAny_mono ((F _ hKb (nsK hns)).run callerA [] s₁ H ⟨[.ref a],[]⟩ [.ref a] [.ref a] _ _ hr e0 (hbind s₁ (.ref a)) (.cons rfl .nil) (hsp H hO hS)) fun r s' h=>?_
  cases r with
  | error e=>exact (hCX H e s' h).elim
  | ok fl =>
   cases fl with
   | next=>exact False.elim h
   | brk=>exact False.elim h
   | cont=>exact False.elim h
   | ret u =>
    obtain ⟨v,H',os,bare,un,hok',r',q⟩:=h;have q':v=.bl true:=q;subst q';obtain rfl:u=Value.bool true:=r';refine ⟨rfl,OldK.of_keep fun b o e=>?_,os,bare⟩;cases q:H b with
    | none=>exact un.keep b o e q (by intro z;exact absurd (show b∈([]:List Addr) from z) (by simp)) (by simp)
    | some u =>
     rcases hO b with z | ⟨ob,xs,z⟩
     ·rw [q] at z;cases z
     ·have z2:=un.frzs b ob _ z
      obtain ⟨e1,_⟩:=hok b _ z;obtain ⟨e2,_⟩:=hok' b _ z2;rw [e] at e1;cases e1;exact e2
 cases hk:K.lookup a with
 | some o =>
  -- the script is one of the module's own objects
  have e:=KX a o hk;rw [ha] at e;cases e;refine core (fun _=>none) (fun _=>.inl rfl) (.inr ⟨vs,_,hk,by rw [length_map];exact hl,rv⟩) (fun b u z=>by have z':(none:Option HO)=some u:=z;cases z') (fun b z=>absurd rfl z) fun z=>absurd rfl z
 | none =>
  refine core (fun b=>if b=a then some (.frz { cls:=.type "list",data:=.seq vs.toArray } (.lst (ns.map V.int))) else none) (fun b=>?_) (.inl (.inr ⟨{ cls:=.type "list",data:=.seq vs.toArray },if_pos rfl⟩)) (fun b u z=>?_) (fun b z=>?_) fun _=>hk
  ·by_cases hb:b=a
   ·exact .inr ⟨_,_,if_pos hb⟩
   ·exact .inl (if_neg hb)
  ·by_cases hb:b=a
   ·have z':=(if_pos hb).symm.trans z
    cases z';subst hb;exact ⟨ha,by rw [length_map];exact hl,vs,_,rv,ha⟩
   ·have z':=(if_neg hb).symm.trans z
    cases z'
  ·by_cases hb:b=a
   ·exact hb
   ·exact absurd (if_neg hb) z
theorem Zdf {l:PySem.W.OpenLaw} {n k:Nat} {q:Program} {loose:List Str} {XP:(Str->Option Value)->Heap->Prop} {YP:World->Heap->Prop} {d:DefRec} {K:Params->PySem.W.Frag} {CX:World->Lg} {sp:World->Sp} {x:Str}
  (hn:l.most=some n) (hn2:n<=sizeLine) (hdf:d.params.defaults=[]) (hr:Room k callerA)
  (hY:∀ (w:World) (h:Heap),YP w h->(K w.params).In h)
  (F:∀ (w:World) (mg:Str->Option Value) (fa:Addr) (h:Heap),(K w.params).In h->h.Ns mainGlobals mg->mg d.name=some (.ref fa) ->
   ∃ fd:FuncData,(∀ (s:Shared) (u:Value),BindsTo s fd ⟨[u],[]⟩ [(x,u)]) /\
    ∀ base:Heap,(K w.params).In base->base.Ns mainGlobals mg->FnOk l.prog w (K w.params) mg base (CX w) k fa fd [x] (sp w))
  (hsp:∀ (w:World) (H:Hp) (a:Addr) (ns:List Int),ns.length<=n->Z7s H->SL (K w.params) H a (ns.map V.int)->sp w [.ref a] H (fun v _=>v=.bl true) fun _ _ _=>False)
  (hCX:∀ (w:World) (H:Hp) (s:Shared) (e:Value) (s':Shared),CX w [] H s (fun _ _ _=>False) e s'->False) :
  PySem.W.WalkO q loose XP YP l.row.toRowW d [] (fun f vs=>PySem.call f vs):=by
 refine Att.attach_call hn hdf fun w s₀ s₁ mg mb fa o pm cd doc a vs ns G Y ho hd hcd hmg hobj hints hlen hg=>?_
 have KX:=hY w _ Y;obtain ⟨fd,hb,hF⟩:=F w mg fa _ KX G.T.g hmg;exact Z2y KX G.T.g G.T.b G.T.builtins G.T.nolimit hg hobj hints (le_trans hlen hn2) hr hF hb (fun H hO hS=>hsp w H a ns hlen hO hS) fun H e s'=>hCX w H s₁ e s'
def Ot (s:Stmt) (j:Nat):Stmt:=match s with
 | .ClassDef _ _ _ body _ _ _ _ _ _ _=>body.getD j (.Pass ⟨0,0,0,0⟩)
 | _=>.Pass ⟨0,0,0,0⟩
def Wt (s:Stmt):Arguments:=match s with
 | .FunctionDef _ a _ _ _ _ _ _ _ _=>a
 | _=>{ posonlyargs:=[],args:=[],vararg:=none,kwonlyargs:=[],kw_defaults:=[],kwarg:=none,defaults:=[] }
def Yf (s:Stmt):List Stmt:=match s with
 | .FunctionDef _ _ b _ _ _ _ _ _ _=>b
 | _=>[]
def Z8 (s:Stmt):Scope:=match s with
 | .FunctionDef _ _ _ _ _ _ sc _ _ _=>sc
 | _=>{ kind:=.function,names:=[],isGenerator:=false,isCoroutine:=false }
abbrev Dy:Lg:=fun _ _ _ _ _ _=>False
abbrev E0:XK:=fun _ _ _=>False
theorem Z77 {X:Cx}:Ix Dy X E0:=fun _ _ _ _ _ _ _ h=>h.elim
structure Fun (K:PySem.W.Frag) (x qual:Str) (st:Stmt) (f:Addr) (fd:FuncData):Prop where
 ex:∃ (oc:Value) (od:Option Addr) (kV doc pm:Value) (an:Option Addr) (cdv ct:Value) (osl:Array (Option Value)),
  fd=fnOf x qual (Wt st) (Yf st) (Z8 st) .none kV doc pm an cdv ct/\K.lookup f=some ⟨oc,od,.func fd,osl⟩/\codeIn K cdv qual=true
 kp:PySem.W.keepIn K (.ref f)=true
section
variable {P:Program} {w:World} {K:PySem.W.Frag} {mg:Str->Option Value} {base:Heap}
theorem Fun.ok {x qual:Str} {st:Stmt} {f:Addr} {fd:FuncData} {N ps:List Str} {k:Nat} {sp:Sp} (F:Fun K x qual st f fd) (S:FnScope N ps (Z8 st)) (len:∀ vs H Q E,sp vs H Q E->vs.length=ps.length)
  (hbody:∀ (cdv:Value) (A:Around) (outer:List Env) (s:Shared) (H:Hp) (vs:List V) (Q:VK) (E:XK),Room k (A.deeper (envOfC qual (Z8 st) s.heap.objs.size f cdv))->sp vs H Q E ->
   ∃ t,Sm (Qd Dy P w K mg base N qual (Z8 st) f cdv A outer s H E).nox (Yf st) t/\t { nx:=fun _ H'=>Q .non H',rt:=Q } (start N vs) H):FnOk P w K mg base Dy (k+1) f fd ps sp:=by
 obtain ⟨oc,od,kV,doc,pm,an,cdv,ct,osl,rfl,lk,hcd⟩:=F.ex;refine Z6y lk hcd S len fun A outer s H vs Q E hr hsp=>?_
 obtain ⟨t,h,q⟩:=hbody cdv A outer s H vs Q E hr hsp;exact ⟨t,h.nox,q⟩
theorem Fun.binds {x qual:Str} {st:Stmt} {f:Addr} {fd:FuncData} {ps:List Str} (F:Fun K x qual st f fd)
  (h:∀ (kV doc pm:Value) (an:Option Addr) (cdv ct:Value) (us:List Value),us.length=ps.length->bindArgs (fnOf x qual (Wt st) (Yf st) (Z8 st) .none kV doc pm an cdv ct) ⟨us,[]⟩=pure (ps.zip us)):J9 K fd ps []:=by
 obtain ⟨oc,od,kV,doc,pm,an,cdv,ct,osl,rfl,lk,hcd⟩:=F.ex;exact .all (h kV doc pm an cdv ct)
theorem Kc {x qual:Str} {st:Stmt} {f:Addr} {oc:Value} {od an:Option Addr} {osl:Array (Option Value)} {kV doc pm cdv ct:Value} (l:K.lookup f=some ⟨oc,od,.func (fnOf x qual (Wt st) (Yf st) (Z8 st) .none kV doc pm an cdv ct),osl⟩)
 (c:codeIn K cdv qual=true) (k:PySem.W.keepIn K (.ref f)=true):Fun K x qual st f (fnOf x qual (Wt st) (Yf st) (Z8 st) .none kV doc pm an cdv ct):=⟨⟨oc,od,kV,doc,pm,an,cdv,ct,osl,rfl,l,c⟩,k⟩
end
theorem Nq {A:Around} {k:Nat} (hr:Room k A):A.units+1<cLine:=lt_of_le_of_lt (Nat.add_le_add_left (by decide:1<=64) _) hr.units
theorem Qi {n:Nat} (h:n<=1000):n<sizeLine:=lt_of_le_of_lt h (by decide)
section
variable {X:Cx}
theorem pv (i:Nat) {x:Str} {pos:Pos} (hN:X.N[i]?=some x:=by rfl) (hv:Al X.env.scope x:=by first | exact Or.inl rfl | exact Or.inr (Or.inl rfl) | exact Or.inr (Or.inr rfl)) (hd:(x==("__debug__" : Str))=false:=by decide)
 (hcd:(x==("__classdict__" : Str))=false:=by decide):PE X (.Name x pos) (Xz i):=Q3 hN hv hd hcd
end
theorem Zbc {A B:Prop} (h:B):if false=true then A else B:=by
 rw [if_neg Bool.false_ne_true];exact h
theorem Zc9 {A B:Prop} (h:A):if true=true then A else B:=by
 rw [if_pos rfl];exact h
def Zo (H H':Hp):Prop:=∀ b o,H b=some o->H' b=some o
theorem Zo.refl (H:Hp):Zo H H:=fun _ _ h=>h
theorem Zo.trans {H H1 H2:Hp} (a:Zo H H1) (b:Zo H1 H2):Zo H H2:=fun c o h=>b c o (a c o h)
theorem Zo.free {H H':Hp} (e:Zo H H') {l:Addr} (h:H' l=Option.none):H l=Option.none:=by
 cases q:H l with
 | none=>rfl
 | some o =>
  rw [e l o q] at h;cases h
theorem Xk {prog:Program} {w:World} {A:Around} {R:Result->Shared->Prop} {s:Shared} {elt target iter:Expr} {ifs:List Expr} {scope:Scope} {pos:Pos} {it acc:Value} {env:Env} (I:Nat->Shared->Prop)
  (turn:∀ n s,I n s->wpAny (model prog w) A (pyNext it) (fun r s₁=>match r with
   | none=>R (.ok .next) s₁
   | some v=>wpAny (model prog w) A (letOwnedTupleGo target it v) (fun _ s₁'=>wpAny (model prog w) A (assign target env v) (fun _ s₂ =>
    wpAny (model prog w) A (forIn ifs true fun c r=>if r=true then do let ok ← isTrue c env (eval c env);pure (ForInStep.yield ok) else pure (ForInStep.yield r)) (fun ok s₃ =>
     if ok=true then wpAny (model prog w) A (eval elt env) (fun x s₄ =>
      wpAny (model prog w) A (call (.builtin "list.append") [acc,x]) (fun _ s₅=>∃ m,m<n/\I m s₅) (fun _ _=>False) s₄) (fun _ _=>False) s₃
     else ∃ m,m<n/\I m s₃) (fun _ _=>False) s₂) (fun _ _=>False) s₁') (fun _ _=>False) s₁) (fun _ _=>False) s)
  (n:Nat) (h:I n s) :
  codeAny (model prog w) A (.compLoop (.ListComp elt [⟨target,iter,ifs,0⟩] scope pos) 0 it acc env) R s:=by
 refine codeAny_loop rfl I (fun n s hI=>?_) n h;show wpAny _ A ((compTurn (.ListComp elt [⟨target,iter,ifs,0⟩] scope pos) 0 it acc env).onRaise (fun x=>do noteFrame x env;theTreesLotGoes x)) _ _ s;refine wpAny_noted ?_;rw [compTurn_list];refine wpAny_bind (wpAny_standAt (wpAny_bind (wpAny_mono (turn n s hI) (fun r s₁ h₁=>?_) fun _ _ h'=>h'.elim)));cases r with
 | none=>exact wpAny_pure h₁
 | some v =>
  refine wpAny_bind (wpAny_mono h₁ (fun _ s₁' h₁'=>?_) fun _ _ h'=>h'.elim);refine wpAny_bind (wpAny_mono h₁' (fun _ s₂ h₂=>wpAny_bind (wpAny_mono h₂ (fun ok s₃ h₃=>?_) fun _ _ h'=>h'.elim)) fun _ _ h'=>h'.elim);cases ok with
  | false=>exact wpAny_pure ⟨rfl,h₃⟩
  | true =>
   exact wpAny_bind (wpAny_bind (wpAny_mono h₃ (fun x s₄ h₄=>wpAny_bind (wpAny_mono h₄ (fun _ s₅ h₅=>wpAny_pure (wpAny_pure ⟨rfl,h₅⟩)) fun _ _ h'=>h'.elim)) fun _ _ h'=>h'.elim))
def Ei (cells:List (Str×Addr)):List (Str×NameKind)->List (Str×Addr)->List (Str×Addr)
 | [],acc=>acc
 | (n,k)::r,acc=>Ei cells r (if k==.free then (n,(cells.lookup n).getD 0)::acc else acc)
theorem Hw {sc:Scope} {env:Env} (h:∀ y∈sc.names,y.2=.free->∃ c,env.cells.lookup y.1=some c):closureFor sc env=pure (Ei env.cells sc.names []):=by
 unfold closureFor;generalize ([]:List (Str×Addr))=acc;generalize hl:sc.names=names at h;clear hl;induction names generalizing acc with
 | nil=>rfl
 | cons y r ih =>
  obtain ⟨n,k⟩:=y;have ih':=fun acc=>ih acc fun y hy=>h y (mem_cons_of_mem _ hy)
  dsimp only at ih' ⊢;rw [List.forIn_cons];by_cases hk:k=.free
  ·subst hk
   obtain ⟨c,hc⟩:=h (n,.free) mem_cons_self rfl;simp only [cellOf,hc,beq_self_eq_true,if_true,pure_bind,Ei,Option.getD_some];exact ih' _
  ·have hb:(k==NameKind.free)=false:=by simpa using hk
   simp only [hb,Bool.false_eq_true,if_false,pure_bind,Ei];exact ih' _
theorem Gv {cells:List (Str×Addr)}:∀ (names:List (Str×NameKind)) (acc:List (Str×Addr)),(∀ y∈names,y.2=.free->∃ c,cells.lookup y.1=some c)->(∀ x c,acc.lookup x=some c->cells.lookup x=some c) ->
   ∀ x c,(Ei cells names acc).lookup x=some c->cells.lookup x=some c
 | [],_,_,ha,x,c,e=>ha x c e
 | (n,k)::r,acc,h,ha,x,c,e=>by
   unfold Ei at e;refine Gv r _ (fun y hy=>h y (mem_cons_of_mem _ hy)) (fun x' c' e'=>?_) x c e;split at e'
   · rename_i hk
     have hk':k=.free:=by simpa using hk
     obtain ⟨c0,hc0⟩:=h (n,k) mem_cons_self hk';simp only at hc0;rw [lookup_cons] at e';split at e'
     · rename_i hx
       have hx':x'=n:=by simpa using hx
       subst hx';rw [hc0] at e';simp at e';rw [hc0,e']
     · exact ha x' c' e'
   · exact ha x' c' e'
theorem Km {cells:List (Str×Addr)}:∀ (names:List (Str×NameKind)) (acc:List (Str×Addr)) (x:Str),((x,NameKind.free)∈names\/(acc.lookup x).isSome=true)->((Ei cells names acc).lookup x).isSome=true
 | [],acc,x,h=>by
   rcases h with h | h
   · simp at h
   · exact h
 | (n,k)::r,acc,x,h=>by
   unfold Ei;refine Km r _ x ?_;rcases h with h | h
   · rcases mem_cons.mp h with e | h
     · cases e
       right;simp
     · exact .inl h
   · right
     split
     · rw [lookup_cons]
       split
       · rfl
       · exact h
     · exact h
def Wv (X:Cx) (sc:Scope) (N:List Str) (C:Addr) (s:Shared) (H:Hp) (fp:List Addr):Cx :=
 { X with N:=N,s₀:=s,H₀:=H,env:=compEnvC sc (Ei X.env.cells sc.names []) C X.env,outer:=X.stack,ex:=fp,fn:=fun _=>false,pn:=[],xe:=fun _ _=>False }
def Z70 (psc sc:Scope) (NX N:List Str) (fs:List (Option Nat)):Bool :=
 N.length==fs.length&&(N.zip fs).all (fun p=>match p.2 with | none=>true | some j=>NX[j]?==some p.1&&sc.names.lookup p.1==some .free) &&
 sc.names.all (fun y=>y.2 != .cell&&(y.2 != .free||(psc.names.lookup y.1==some .cell||psc.names.lookup y.1==some .free))&&(y.2 != .local||sc.names.lookup y.1==some .local))&&sc.kind==.function
structure CompOk (psc sc:Scope) (NX N:List Str) (fs:List (Option Nat)):Prop where
 len:N.length=fs.length
 frees:∀ (i j:Nat),fs[i]?=some (some j)->∃ x,N[i]?=some x/\NX[j]?=some x/\sc.names.lookup x=some .free
 nocell:∀ y∈sc.names,y.2≠.cell
 par:∀ y∈sc.names,y.2=.free->psc.names.lookup y.1=some .cell\/psc.names.lookup y.1=some .free
 loc:∀ y∈sc.names,y.2=.local->sc.names.lookup y.1=some .local
 kind:sc.kind=.function
theorem CompOk.of {psc sc:Scope} {NX N:List Str} {fs:List (Option Nat)} (h:Z70 psc sc NX N fs=true):CompOk psc sc NX N fs:=by
 unfold Z70 at h;simp only [Bool.and_eq_true,beq_iff_eq,all_eq_true,bne_iff_ne,ne_eq,Bool.or_eq_true] at h;obtain ⟨⟨⟨h1,h2⟩,h3⟩,h4⟩:=h;refine ⟨h1,fun i j e=>?_,fun y hy=>(h3 y hy).1.1,fun y hy e=>?_,fun y hy e=>?_,h4⟩
 ·have hi:i<fs.length:=(List.getElem?_eq_some_iff.mp e).1
  have hN:i<N.length:=by lia
  have hz:(N.zip fs)[i]?=some (N[i],some j):=by
   rw [List.getElem?_zip_eq_some];exact ⟨by simp [hN],e⟩
  have:=h2 _ (mem_of_getElem? hz);simp only [Bool.and_eq_true,beq_iff_eq] at this;exact ⟨N[i],by simp [hN],this.1,this.2⟩
 ·rcases (h3 y hy).1.2 with z | z
  ·exact absurd e z
  ·exact z
 ·rcases (h3 y hy).2 with z | z
  ·exact absurd e z
  ·exact z
theorem Sr {sc:Scope} {env:Env} {x:Str} {k:NameKind} (nc:∀ y∈sc.names,y.2≠.cell) (h:(relabel sc env).names.lookup x=some k) (hk:k=.cell\/k=.free):(x,NameKind.free)∈sc.names:=by
 have hm:=PySem.mem_of_lookup h;unfold relabel at hm;simp only [mem_map] at hm;obtain ⟨⟨n,k'⟩,hy,e⟩:=hm;dsimp only at e;split at e
 ·rename_i hc
  simp only [Bool.and_eq_true,beq_iff_eq] at hc;cases e;rw [hc.1.1] at hy;exact hy
 ·cases e
  rcases hk with z | z
  ·exact absurd z (nc _ hy)
  ·rw [z] at hy;exact hy
theorem O5 {sc:Scope} {env:Env} {x:Str} (h:sc.names.lookup x=some .free):(relabel sc env).names.lookup x=some .cell\/(relabel sc env).names.lookup x=some .free:=by
 unfold relabel;dsimp only;generalize sc.names=names at h;induction names with
 | nil=>simp at h
 | cons y r ih =>
  obtain ⟨n,k⟩:=y;rw [lookup_cons] at h;rw [map_cons];split at h
  ·rename_i hx
   cases h;have:x=n:=by simpa using hx
   subst this;dsimp only;split
   ·left;rw [lookup_cons];simp
   ·right;rw [lookup_cons];simp
  ·rename_i hx
   dsimp only;split
   ·rw [lookup_cons,hx];exact ih h
   ·rw [lookup_cons,hx];exact ih h
section
variable {X:Cx} {pins:List (Addr×Obj)} {σ:St} {H:Hp} {s:Shared} {sc psc:Scope} {N:List Str} {fs:List (Option Nat)} {C:Addr} {fp:List Addr}
theorem Sz (I:Inv X pins σ H s) (hp:X.env.scope=psc) (S:CompOk psc sc X.N N fs):∀ y∈sc.names,y.2=.free->∃ c,X.env.cells.lookup y.1=some c:=fun y hy e=>by
 refine I.ok.has y.1 ?_;have:=S.par y hy e;rw [← hp] at this;exact this
theorem J6 (I:Inv X pins σ H s) (hp:X.env.scope=psc) (S:CompOk psc sc X.N N fs):∀ x c,(Ei X.env.cells sc.names []).lookup x=some c->X.env.cells.lookup x=some c :=
 Gv sc.names [] (Sz I hp S) fun x c e=>by simp at e
theorem Z0o (I:Inv X pins σ H s) (hp:X.env.scope=psc) (S:CompOk psc sc X.N N fs) (hf:∀ b∈fp,Sx X pins H b) (hfl:∀ b∈fp,b<s.heap.objs.size) (hC:s.heap.objs.size<=C):(Wv X sc N C s H fp).Ok where
 mod:=I.ok.mod
 kind:=S.kind
 glob:=I.ok.glob
 blt:=I.ok.blt
 above:=hC
 inj:=fun x y c h1 h2=>I.ok.inj x y c (J6 I hp S x c h1) (J6 I hp S y c h2)
 has:=fun x hx=>by
  have hm:(x,NameKind.free)∈sc.names:=by
   rcases hx with hx | hx
   ·exact Sr S.nocell hx (.inl rfl)
   ·exact Sr S.nocell hx (.inr rfl)
  exact Option.isSome_iff_exists.mp (Km sc.names [] x (.inl hm))
 cab:=fun x c h _=>by cases h
 hd:=I.ok.hd
 frames:=I.ok.frames
 stk:=.inl rfl
 exf:=fun b hb=>⟨ne_of_lt (lt_of_lt_of_le (hfl b hb) hC),fun x c e=>(hf b hb).2.2.2.2.1 x c (J6 I hp S x c e)⟩
 bs:=I.bs
 bsz:=le_trans I.ok.bsz I.sz
 noex:=fun b o e hb=>by
  rcases (hf b hb).2.2.2.1 with z | z
  ·exact I.ok.noex b o e z
  ·exact absurd (lt_of_lt_of_le (lt_size e) (le_trans I.ok.bsz z)) (lt_irrefl _)
 exfs:=fun b hb hs=>by
  rcases mem_cons.mp (I.stkSub b hs) with z | z
  ·exact (hf b hb).2.1 z
  ·exact (hf b hb).2.2.1 z
 funs:=I.stack
 frf:=I.stkFree
def Vo (fs:List (Option Nat)) (σ:St):St:=fs.map fun o=>match o with | none=>none | some j=>(σ[j]?).getD none
theorem Fo {h₁:Heap} {tk:Nat} {D:Addr} {oD:Obj} {m₁:Str->Option Value} (I:Inv X pins σ H s) (hp:X.env.scope=psc) (S:CompOk psc sc X.N N fs) (hf:∀ b∈fp,Sx X pins H b) (hfl:∀ b∈fp,b<s.heap.objs.size) (hC:s.heap.objs.size<=C)
  (old:∀ b o,s.heap.get? b=some o->h₁.get? b=some o) (hn:h₁.Ns C m₁) (hD:h₁.get? D=some oD) (hDs:s.heap.objs.size<=D) (hDC:D≠C) (hDd:∀ v,oD.data≠.cell v) :
  Inv (Wv X sc N C s H fp) [(D,oD)] (Vo fs σ) H { s with heap:=h₁,toks:=tk }:=by
 refine ⟨Z0o I hp S hf hfl hC,rfl,I.bare,Un.kept old,⟨m₁,hn,fun i x v e1 e2 e3=>?_⟩,fun x c e=>?_,I.hok.fresh hC,fun x c e=>I.freeC x c (J6 I hp S x c e),fun p hpn=>?_,I.hok.kept old,?_⟩
 ·unfold Vo at e2
  rw [getElem?_map] at e2;cases hfi:fs[i]? with
  | none=>rw [hfi] at e2;cases e2
  | some o =>
   rw [hfi] at e2;cases o with
   | none=>simp at e2
   | some j =>
    simp only [Option.map_some,Option.some.injEq] at e2;obtain ⟨x',ex,ej,el⟩:=S.frees i j hfi;have:x'=x:=by
     have q:N[i]?=some x:=e1;rw [ex] at q;exact Option.some.inj q
    subst this;have ev:σ[j]?=some (some v):=by
     cases q:σ[j]? with
     | none=>rw [q] at e2;simp at e2
     | some z=>rw [q] at e2;simp at e2;rw [e2]
    have kk:X.env.scope.names.lookup x'=some .cell\/X.env.scope.names.lookup x'=some .free:=by
     rw [hp];exact S.par (x',.free) (PySem.mem_of_lookup el) rfl
    obtain ⟨m,hm,hl⟩:=I.loc;obtain ⟨u,r,l⟩:=hl j x' v ej ev (by
     rcases kk with k | k
     ·exact .inr (.inl k)
     ·exact .inr (.inr k))
    refine ⟨u,r,.inr ⟨O5 el,?_⟩⟩;rcases l with ⟨k,_⟩ | ⟨_,c,hc,hcell⟩
    ·have k':X.env.scope.names.lookup x'=some .local:=k
     rcases kk with z | z<;>rw [z] at k'<;>cases k'
    ·obtain ⟨c',hc'⟩:=Option.isSome_iff_exists.mp (Km (cells:=X.env.cells) sc.names [] x' (.inl (PySem.mem_of_lookup el)))
     have:=J6 I hp S x' c' hc';rw [hc] at this;cases this;obtain ⟨oc,ho,hd⟩:=hcell;exact ⟨c,hc',oc,old _ _ ho,hd⟩
 ·obtain ⟨v,oc,ho,hd⟩:=I.cell x c (J6 I hp S x c e)
  exact ⟨v,oc,old _ _ ho,hd⟩
 ·have hpn':p=(D,oD):=by
   rcases mem_append.mp hpn with z | z
   ·exact absurd (show p∈([]:List (Addr×Obj)) from z) (by simp)
   ·simpa using z
  subst hpn';refine ⟨hD,I.hok.fresh hDs,hDC,fun hs=>?_,hDd⟩;have hb:D∈X.env.locals::X.fs:=I.stkSub D hs;rcases mem_cons.mp hb with z | z
  ·exact absurd (lt_of_lt_of_le I.lt (by rw [← z];exact hDs)) (lt_irrefl _)
  ·exact I.nofs hDs z
 ·show (Vo fs σ).length=N.length
  unfold Vo;rw [length_map,S.len]
theorem Mp.adopt {P:Program} {w:World} {H:Hp} {h:Heap} {D:Addr} {ys:List V} {its:List Value} {n:Nat} (ok:Mp P w H h) (hD:H D=none) (ho:h.get? D=some { cls:=.type "list",data:=.seq its.toArray n }) (r:Y3 ys its) (hz:ys.length<=sizeLine) :
  Mp P w (W4 H D (.lst ys)) h:=fun b u e=>by
 by_cases hb:b=D
 ·subst hb
  rw [Zs] at e;cases e;exact ⟨hz,its,n,r,ho⟩
 ·rw [Zh hb] at e
  refine (ok b u e).stay (fun c v _ q=>q) (fun c q=>?_) fun c xs q=>?_
  ·rw [Zh (Y4 q hD)];exact q
  ·rw [Zh (Y4 q hD)];exact q
theorem Un.adopt {fs ex:List Addr} {H H':Hp} {h h':Heap} {D:Addr} {o:HO} (u:Un fs ex H H' h h') (hD:h.objs.size<=D) (hn:H' D=none):Un fs ex H (W4 H' D o) h h' where
 keep:=u.keep
 slot:=u.slot
 free:=fun b ob q n hx=>by rw [Zh (ne_of_lt (lt_of_lt_of_le (lt_size q) hD))];exact u.free b ob q n hx
 there:=u.there
 tups:=fun b xs q=>by rw [Zh (Y4 (u.tups b xs q) hn)];exact u.tups b xs q
 frzs:=fun b ob x q=>by rw [Zh (Y4 (u.frzs b ob x q) hn)];exact u.frzs b ob x q
 tbls:=fun b ps q=>by
  obtain ⟨more,e⟩:=u.tbls b ps q;exact ⟨more,by rw [Zh (Y4 e hn)];exact e⟩
def PIf (Y:Cx) (ifs:List Expr) (tt:TT):Prop :=
 ∀ (pins:List (Addr×Obj)) (s:Shared) (σ:St) (H:Hp) (Q:Bool->Hp->Prop),Inv Y pins σ H s->tt σ H Q ->
  wpAny (model Y.prog Y.w) Y.A (forIn ifs true fun c r=>if r=true then do let ok ← isTrue c Y.env (eval c Y.env);pure (ForInStep.yield ok) else pure (ForInStep.yield r)) (TP Y pins σ Q) Y.xe s
def Ze3:TT:=fun _ H Q=>Q true H
theorem Z5b {Y:Cx}:PIf Y [] Ze3:=fun _ _ _ H _ I h=>wpAny_tests_nil ⟨H,I,h⟩
theorem Z57 {Y:Cx} {c:Expr} {tc:TT} (h:PT Y c tc):PIf Y [c] tc:=fun pins s σ H Q I q=>wpAny_tests_one (h pins s σ H Q I q)
def Ext (σ σ2:St):Prop:=σ.length=σ2.length/\∀ (i:Nat) v,σ[i]?=some (some v)->σ2[i]?=some (some v)
def Z7d (wi:TI) (fs:List (Option Nat)) (g:TG) (tt:TT) (te:TE):TE:=fun σ H Q=>wi σ H fun J H1=>∃ W:Nat->Nat->List V->Hp->Prop,(∃ m,W 0 m [] H1)/\∀ i m ys H,W i m ys H ->
 (J.stop i H/\ys.length<=sizeLine/\∀ p,H p=none->Q (.ref p) (W4 H p (.lst ys))) \/
 (J.go i H/\ys.length<=sizeLine/\∃ N:List V->Hp->Prop,(∀ ys' H',N ys' H'->∃ m',m'<m/\W (i+1) m' ys' H')/\∀ x H',J.yld i H x H'->g x (Vo fs σ) H' fun σ2 H2=>Ext (Vo fs σ) σ2 /\
  tt σ2 H2 fun b H3=>if b=true then te σ2 H3 fun v H4=>N (ys++[v]) H4 else N ys H3)
theorem Pt {elt tg iter:Expr} {ifs:List Expr} {pos:Pos} {it:Addr} {tn:Nat->Heap->Prop} {J:It} {g:TG} {tt:TT} {te:TE} {E:Value->Shared->Prop} {RR:Value->Addr->Result->Shared->Prop}
  (hp:X.env.scope=psc) (S:CompOk psc sc X.N N fs) (hc:X.calm=true)
  (hb:∀ (C:Addr) (s:Shared) (H:Hp) (fp:List Addr),PG (Wv X sc N C s H fp) tg g/\PIf (Wv X sc N C s H fp) ifs tt/\PE (Wv X sc N C s H fp) elt te)
  (I:Inv X pins σ H s) (T:Turn X.prog X.w X.K tg J fp it tn) (st:tn 0 s.heap) (hf:∀ b∈fp,Sx X pins H b) {Q:VK}
  (hW:∃ W:Nat->Nat->List V->Hp->Prop,(∃ m,W 0 m [] H)/\∀ i m ys H,W i m ys H ->
   (J.stop i H/\ys.length<=sizeLine/\∀ p,H p=none->Q (.ref p) (W4 H p (.lst ys))) \/
   (J.go i H/\ys.length<=sizeLine/\∃ N:List V->Hp->Prop,(∀ ys' H',N ys' H'->∃ m',m'<m/\W (i+1) m' ys' H')/\∀ x H',J.yld i H x H'->g x (Vo fs σ) H' fun σ2 H2=>Ext (Vo fs σ) σ2 /\
    tt σ2 H2 fun b H3=>if b=true then te σ2 H3 fun v H4=>N (ys++[v]) H4 else N ys H3))
  (hRR:∀ (D C:Addr) (s':Shared) (H':Hp),(∃ m,s'.heap.Ns C m)->Inv X pins σ H' s'->Sx X pins H' C->Q (.ref D) H'->RR (.ref D) C (.ok .next) s') :
  wpAny (model X.prog X.w) X.A (newList []) (fun acc s₃=>wpAny (model X.prog X.w) X.A (newFunctionEnv sc X.env.globals (Ei X.env.cells sc.names []) [] X.env.qual none .none (some X.env)) (fun cenv s₄ =>
   codeAny (model X.prog X.w) X.A (.compStart (.ListComp elt [⟨tg,iter,ifs,0⟩] sc pos) 0 (.ref it) acc { cenv with scope:=relabel sc X.env }) (RR acc cenv.locals) s₄) E s₃) E s:=by
 refine wpAny_newObj_type (wpAny_newFunctionEnv S.nocell (by intro y hy;simp at hy) (fun h₁ hns₁ hsb₁=>?_) S.kind);dsimp only at hns₁ hsb₁ ⊢;generalize hH2:s.heap.push { cls:=.type "list",dict:=none,data:=.seq ([]:List Value).toArray }=G2 at hns₁ hsb₁ ⊢;have hC:G2.objs.size=s.heap.objs.size+1:=by rw [← hH2,size_push]
 have hDC:s.heap.objs.size≠G2.objs.size:=by rw [hC];exact ne_of_lt (Nat.lt_succ_self _)
 have hCle:s.heap.objs.size<=G2.objs.size:=by rw [hC];exact le_succ _
 have below:∀ b,b<s.heap.objs.size->b≠G2.objs.size/\b≠s.heap.objs.size:=fun b hb=>⟨by rw [hC];exact ne_of_lt (Nat.lt_succ_of_lt hb),ne_of_lt hb⟩
 have hfl:∀ b∈fp,b<s.heap.objs.size:=fun b hb=>by
  obtain ⟨o,e,_⟩:=T.obj _ _ st b hb;exact lt_size e
 have old:∀ b o,s.heap.get? b=some o->h₁.get? b=some o:=fun b o e=>hsb₁.extBut b o (below b (lt_size e)).1 (get?_push_of_some _ (hH2▸get?_push_of_some _ e))
 have hacc:h₁.get? s.heap.objs.size=some { cls:=.type "list",data:=.seq ([]:List Value).toArray 0 }:=hsb₁.extBut _ _ hDC (get?_push_of_some _ (hH2▸get?_push_size _ rfl));have st1:tn 0 h₁:=T.keep _ _ _ st fun b _ o e=>old b o e
 obtain ⟨W,⟨m0,w0⟩,turn⟩:=hW;obtain ⟨pg,pif,pe⟩:=hb G2.objs.size s H fp;generalize hY:Wv X sc N G2.objs.size s H fp=Y at pg pif pe;have Ye:Y.env=compEnvC sc (Ei X.env.cells sc.names []) G2.objs.size X.env:=by rw [← hY];rfl
 have YA:Y.A=X.A:=by rw [← hY];rfl
 have Yp:Y.prog=X.prog:=by rw [← hY];rfl
 have Yw:Y.w=X.w:=by rw [← hY];rfl
 have YK:Y.K=X.K:=by rw [← hY];rfl
 have Yx:Y.xe=fun _ _=>False:=by rw [← hY];rfl
 have Yc:Y.calm=true:=by rw [← hY];exact hc
 have cellN:∀ x c,X.env.cells.lookup x=some c->c<s.heap.objs.size:=fun x c e=>by
  obtain ⟨v,q⟩:=I.cell x c e;exact q.lt
 have loop:∀ s₃:Shared,s₃={ s with heap:=h₁,toks:=s.toks+([]:List (Str×Value)).length } ->
   codeAny (model X.prog X.w) X.A (.compLoop (.ListComp elt [⟨tg,iter,ifs,0⟩] sc pos) 0 (.ref it) (.ref s.heap.objs.size) (compEnvC sc (Ei X.env.cells sc.names []) G2.objs.size X.env)) (RR (.ref s.heap.objs.size) G2.objs.size) s₃:=by
  rintro s₃ rfl;refine Xk (fun n s'=>∃ (i:Nat) (H':Hp) (ys:List V) (its:List Value) (k:Nat),Y3 ys its/\Inv Y [(s.heap.objs.size,{ cls:=.type "list",data:=.seq its.toArray k })] (Vo fs σ) H' s'/\tn i s'.heap/\(∀ b∈fp,H' b=none)/\W i n ys H') ?_ m0
   ⟨0,H,[],[],0,.nil,hY▸Fo (D:=s.heap.objs.size) I hp S hf hfl hCle old hns₁ hacc (le_refl _) hDC (fun v z=>by cases z),st1,fun b hb=>(hf b hb).1,w0⟩
  rintro n s1 ⟨i,H1,ys,its,k,rv,I1,st',fr1,w1⟩;have stat:∀ {H':Hp} {pl:List (Addr×Obj)},(∀ b∈fp,H' b=none)->(∀ p∈pl,p.1=s.heap.objs.size)->∀ b∈fp,Sx Y pl H' b:=fun {H' pl} hn hpl b hb=>by
   rw [← hY];refine ⟨hn b hb,(below b (hfl b hb)).1,fun z=>?_,.inl hb,fun x c e=>(hf b hb).2.2.2.2.1 x c (J6 I hp S x c e),fun p hpp=>?_⟩
   ·rcases mem_cons.mp (I.stkSub b z) with z | z
    ·exact (hf b hb).2.1 z
    ·exact (hf b hb).2.2.1 z
   ·have hpp':p∈pl:=by
     rcases mem_append.mp hpp with z | z
     ·exact absurd (show p∈([]:List (Addr×Obj)) from z) (by simp)
     ·exact z
    rw [hpl p hpp'];exact Ne.symm (below b (hfl b hb)).2
  have one:∀ {o:Obj} (p:Addr×Obj),p∈([(s.heap.objs.size,o)]:List (Addr×Obj))->p.1=s.heap.objs.size:=fun {o} p hpp=>by
   have:p=_:=mem_singleton.mp hpp;rw [this]
  rcases turn i n ys H1 w1 with ⟨stop,hz,qn⟩ | ⟨go,hz,N',hN,step⟩
  ·have:=T.done Y Yp Yw YK Yc i _ s1 _ H1 (fun _ _=>False) I1 (stat fr1 one) st' stop
   rw [YA] at this;refine Wu this fun r s4 ⟨hr,I4⟩=>?_
   subst hr;have Ib:=I4.base;have pinD:=I4.pin (s.heap.objs.size,_) (mem_append_right _ mem_cons_self);obtain ⟨mC,hmC,_⟩:=I4.loc;have e1:Y.fs=Sk X.stack:=by rw [← hY];rfl
   have e2:Y.ex=fp:=by rw [← hY];rfl
   have e3:Y.H₀=H:=by rw [← hY];rfl
   have e4:Y.s₀=s:=by rw [← hY];rfl
   have e5:Y.env.locals=G2.objs.size:=by rw [← hY];rfl
   rw [e1,e2,e3,e4] at Ib;rw [e5] at hmC;have hok4:Mp X.prog X.w H1 s4.heap:=by
    have:=I4.hok;rw [Yp,Yw] at this;exact this
   have freeC:H1 G2.objs.size=none:=by have:=I4.free;rw [e5] at this;exact this
   have freeC':W4 H1 s.heap.objs.size (.lst ys) G2.objs.size=none:=by rw [Zh (Ne.symm hDC)];exact freeC
   have os4:s4.os=s.os:=by have:=I4.os;rw [e4] at this;exact this
   refine hRR _ _ s4 (W4 H1 s.heap.objs.size (.lst ys)) ⟨mC,hmC⟩ ?_ (I.fpOk hCle freeC') (qn _ pinD.2.1);exact I.call' (s':=s4) (ch:=fp) os4 (Ib.adopt (le_refl _) pinD.2.1) (hok4.adopt pinD.2.1 pinD.1 rv hz) I4.bare fun b hb=>⟨(hf b hb).2.2.2.1,(hf b hb).2.1,(hf b hb).2.2.2.2.1,(hf b hb).2.2.2.2.2⟩
  ·have:=T.item Y Yp Yw YK Yc i _ s1 _ H1 (fun _ _=>False) I1 (stat fr1 one) st' go
   rw [YA] at this;refine Wu this fun r s4 ⟨u,hr,h4⟩=>?_
   subst hr;refine Wu h4 fun _ s5 ⟨x,H5,I5,r5,y5,st5,fr5⟩=>?_
   have I5':=I5.pinned (stat fr5 one) (T.obj _ _ st5);have a1:=pg _ s5 _ H5 x u _ I5' r5 (step x H5 y5);rw [YA,Yp,Yw,Yx,Ye] at a1;refine Wu a1 fun _ s6 ⟨σ6,H6,I6,ext,q6⟩=>?_
   have a2:=pif _ s6 σ6 H6 _ I6 q6;rw [YA,Yp,Yw,Yx,Ye] at a2;refine Wu a2 fun b s7 ⟨H7,I7,q7⟩=>?_
   have back:∀ {H8:Hp} {s8:Shared},Inv Y ([(s.heap.objs.size,({ cls:=.type "list",data:=.seq its.toArray k }:Obj))]++Kv fp s5.heap) σ6 H8 s8->Inv Y [(s.heap.objs.size,{ cls:=.type "list",data:=.seq its.toArray k })] (Vo fs σ) H8 s8/\tn (i+1) s8.heap/\∀ b∈fp,H8 b=none:=fun {H8 s8} I8 =>
    ⟨I8.unpinned.weak ext.1 ext.2,T.keep _ _ _ st5 fun b hb o e=>(I8.pin (b,o) (mem_append_right _ (mem_append_right _ (M5 hb e)))).1,fun b hb=>by
     obtain ⟨o,e,d⟩:=T.obj _ _ st5 b hb;exact (I8.pin (b,o) (mem_append_right _ (mem_append_right _ (M5 hb e)))).2.1⟩
   cases b with
   | false =>
    rw [if_neg Bool.false_ne_true] at q7 ⊢;obtain ⟨m',hm,w7⟩:=hN _ _ q7;obtain ⟨I7',st7,fr7⟩:=back I7;exact ⟨m',hm,i+1,H7,ys,its,k,rv,I7',st7,fr7,w7⟩
   | true =>
    rw [if_pos rfl] at q7 ⊢;have a3:=pe _ s7 σ6 H7 _ I7 q7;rw [YA,Yp,Yw,Yx,Ye] at a3;refine Wu a3 fun y s8 ⟨v,H8,I8,r8,q8⟩=>?_
    obtain ⟨m',hm,w8⟩:=hN _ _ q8;obtain ⟨I8',st8,fr8⟩:=back I8;have pinD:=I8'.pin (s.heap.objs.size,_) (mem_append_right _ mem_cons_self);refine append_at (hsz:=by show its.toArray.size<=sizeLine;rw [size_toArray,← rv.length];exact hz) pinD.1 fun h9 hs9 hD9=>?_
    have e5:Y.env.locals=G2.objs.size:=by rw [← hY];rfl
    have I9:Inv Y [] (Vo fs σ) H8 { s8 with heap:=h9 }:=by
     have J0:Inv Y [] (Vo fs σ) H8 s8:=I8'.pins_of fun p hp=>absurd hp (by simp)
     refine J0.turned (t':=s8.toks) (it:=s.heap.objs.size) (fun b o hb e=>hs9.extBut b o hb e) pinD.2.1 (by rw [e5];exact hDC) (.inr ?_) (fun x c e=>?_) fun p hp=>?_
     ·rw [← hY];exact le_refl _
     ·rw [← hY] at e
      exact ne_of_lt (cellN x c (J6 I hp S x c e))
     ·rw [← hY] at hp
      exact absurd (show p∈([]:List (Addr×Obj)) from hp) (by simp)
    refine ⟨m',hm,i+1,H8,ys++[v],its++[y],k+1,rv.append (.cons r8 .nil),I9.pins_of fun p hp=>?_,T.keep _ _ _ st8 fun b hb o e=>hs9.extBut b o (below b (hfl b hb)).2 e,fr8,w8⟩;have:p=_:=mem_singleton.mp hp;subst this;refine ⟨?_,pinD.2.1,pinD.2.2.1,pinD.2.2.2.1,fun v z=>by cases z⟩;have e9:its.toArray.push y=(its++[y]).toArray:=by simp
    rw [← e9];exact hD9
 exact codeAny_compStart_list (loop _ rfl) (T.self _ 0 _ _ _ st1 (loop _ rfl))
theorem Inv.letGo {H':Hp} {h':Heap} (I:Inv X pins σ H s) (f:Sx X pins H C) (hs:SameBut C s.heap h'):Inv X pins σ H { s with heap:=h' }:=by
 obtain ⟨f0,f1,f2,f3,f4,f5⟩:=f;exact I.turned (t':=s.toks) (fun b o hb e=>hs.extBut b o hb e) f0 f1 f3 f4 f5
theorem Z59 {elt tg iter:Expr} {ifs:List Expr} {pos:Pos} {wi:TI} {g:TG} {tt:TT} {te:TE} (psc:Scope) (fs:List (Option Nat)) (N:List Str) (hp:X.env.scope=psc) (S:CompOk psc sc X.N N fs) (hc:X.calm=true) (hi:PI X tg iter wi)
  (hb:∀ (C:Addr) (s:Shared) (H:Hp) (fp:List Addr),PG (Wv X sc N C s H fp) tg g/\PIf (Wv X sc N C s H fp) ifs tt/\PE (Wv X sc N C s H fp) elt te)
  (hs:∀ x,foldedSetIterable iter X.env x=pure x:=by intro _;rfl):PE X (.ListComp elt [⟨tg,iter,ifs,0⟩] sc pos) (Z7d wi fs g tt te):=by
 intro pins s σ H Q I h;rw [eval_ListComp];refine wpAny_comprehension_free (use:=none) rfl hs (Hw (Sz I hp S)) S.kind S.loc (Wu (hi pins s σ H _ I h) fun xv s₁ h₁=>Wu h₁ fun itv s₂ h₂=>?_);obtain ⟨it,fp,tn,J,H2,e,I2,T,st2,f2,hW⟩:=h₂;subst e;refine Pt (RR:=fun acc C=>compPost (model X.prog X.w) X.A X.xe none (EP X pins σ Q) acc C) hp S hc hb I2 T st2 f2 hW ?_;intro D C s' H' ⟨m,hm⟩ I' f q;exact ⟨m,hm,fun h' hs'=>⟨.ref D,H',I'.letGo (H':=H') f hs',rfl,q⟩⟩
theorem L5 {i:Nat} {x:Str} {elt tg iter:Expr} {ifs:List Expr} {pos pos' spos:Pos} {wi:TI} {g:TG} {tt:TT} {te:TE} (hN:X.N.Nodup) (hi':X.N[i]?=some x) (hx:Pq X.env.scope x) (psc:Scope) (fs:List (Option Nat)) (N:List Str) (hp:X.env.scope=psc) (S:CompOk psc sc X.N N fs) (hc:X.calm=true) (hi:PI X tg iter wi)
  (hb:∀ (C:Addr) (s:Shared) (H:Hp) (fp:List Addr),PG (Wv X sc N C s H fp) tg g/\PIf (Wv X sc N C s H fp) ifs tt/\PE (Wv X sc N C s H fp) elt te)
  (hs:∀ x,foldedSetIterable iter X.env x=pure x:=by intro _;rfl) (hsw:swapsWith (.ListComp elt [⟨tg,iter,ifs,0⟩] sc pos) (some (.Name x pos')) spos.line X.env=pure true:=by rfl)
  (hf:X.fn x=true\/X.env.scope.names.lookup x=some .local:=by first | exact .inl rfl | exact .inr rfl | assumption) :
  PS X (.Assign [.Name x pos'] (.ListComp elt [⟨tg,iter,ifs,0⟩] sc pos) spos) (Za5 (Z7d wi fs g tt te) (Bz i)):=by
 intro pins s σ H D I h;rw [exec_Assign_Name_used _ _ _ _ hsw];refine wpAny_bind (wpAny_standAt (wpAny_bind ?_));show wpAny _ X.A (do let _ ← comprehension (.ListComp elt [⟨tg,iter,ifs,0⟩] sc pos) sc X.env _ (newList []) false (eval iter X.env) (some (assign (.Name x pos') X.env))) _ _ s;refine wpAny_bind (wpAny_mono (wpAny_comprehension_free (use:=some (assign (.Name x pos') X.env)) (Q:=fun _ s'=>SP X pins D .next s') rfl hs (Hw (Sz I hp S)) S.kind S.loc
  (Wu (hi pins s σ H _ I h) fun xv s₁ h₁=>Wu h₁ fun itv s₂ h₂=>?_)) (fun _ s' hq=>wpAny_pure (wpAny_pure hq)) fun _ _ e=>e)
 obtain ⟨it,fp,tn,J,H2,e,I2,T,st2,f2,hW⟩:=h₂;subst e;refine Pt (Q:=fun v H'=>Bz i v σ H' D.nx) (RR:=fun acc C=>compPost (model X.prog X.w) X.A X.xe (some (assign (.Name x pos') X.env)) (fun _ s'=>SP X pins D .next s') acc C) hp S hc hb I2 T st2 f2 hW ?_;intro L C s' H' ⟨m,hm⟩ I' f q;refine wpAny_assign_Name (Lx I' hN hi' hx (show Yo (V.ref L) (Value.ref L) from rfl) (fun s'' I'' ⟨a,hsb,ha⟩=>?_) hf);have hCa:C≠a:=by
  rintro rfl;rcases ha with z | z
  ·exact f.2.1 z
  ·exact f.2.2.2.2.1 x _ z rfl
 refine ⟨m,hm.sameBut hsb hCa,fun h' hs'=>⟨_,H',I''.letGo (H':=H') f hs',q⟩⟩
end
section
variable {t u:TS} {a b c:St->Hp->Prop} {r:VK} {σ:St} {H:Hp} {te ta tb:TE} {tc td:TT} {Q:VK} {i:Nat}
end
section
variable {X:Cx}
def Zbs (K:PySem.W.Frag):List V->Hp->VK->Prop:=fun xs H Q=>(∃ p ys,xs=[.ref p]/\(Mu K H p ys\/Sh K H p ys)/\(ys.length<=sizeLine->Q (.int ys.length) H))\/∃ z,xs=[.str z]/\z.length<=sizeLine/\Q (.int z.length) H
theorem Z0h:V5 X (.builtin "len") (Zbs X.K):=by
 intro pins s σ H xs us Q I r h;rcases h with ⟨p,ys,e,hq,q⟩ | h
 ·refine P8 pins s σ H xs us Q I r ⟨p,ys,e,hq,q ?_⟩
  rcases hq with hq | hq
  ·exact (I.list hq).choose_spec.2.2
  ·exact (I.tuple hq).choose_spec.2.2
 ·exact Oi pins s σ H xs us Q I r h
theorem PI.or {tg iter:Expr} {w1 w2:TI} (h1:PI X tg iter w1) (h2:PI X tg iter w2):PI X tg iter (fun σ H R=>w1 σ H R\/w2 σ H R):=by
 intro pins s σ H R I h;rcases h with h | h
 ·exact h1 pins s σ H R I h
 ·exact h2 pins s σ H R I h
def Zei (K:PySem.W.Frag) (tl:TE):TI:=fun σ H R=>Z6z K tl σ H R\/Zcq K tl σ H R
theorem Z2l {tg l:Expr} {tl:TE} (hl:PE X l tl):PI X tg l (Zei X.K tl):=(Z6h hl).or (Z86 hl)
end
section
variable {K:PySem.W.Frag} {tl:TE} {ta:TA} {g:TG} {tb:TS} {D:Ends} {σ:St} {H:Hp} {a b c:St->Hp->Prop} {r:VK}
variable {tt:TT} {te:TE} {fs:List (Option Nat)} {Q:VK}
end
structure Def (K:PySem.W.Frag) (mg:Str->Option Value) (x:Str) (st:Stmt):Prop where
 ex:∃ f fd,Fun K x x st f fd/\mg x=some (.ref f)
structure Cal (P:Program) (w:World) (K:PySem.W.Frag) (mg:Str->Option Value) (base:Heap) (k:Nat) (x:Str) (ps:List Str) (sp:Sp):Prop where
 ex:∃ f fd,FnOk P w K mg base Dy k f fd ps sp/\mg x=some (.ref f)/\PySem.W.keepIn K (.ref f)=true/\J9 K fd ps []
def Zbn (sp:Sp) (t:TA):TE:=fun σ H Q=>t σ H fun vs H1=>sp vs H1 Q E0
section
variable {P:Program} {w:World} {K:PySem.W.Frag} {mg:Str->Option Value} {base:Heap}
theorem Z1k {X:Cx} {k:Nat} {x:Str} {ps:List Str} {sp:Sp} {p pos:Pos} {e:Expr} {es:List Expr} {t:TA} (C:Cal X.prog X.w X.K X.mg X.base k x ps sp) (hr:Room k X.A) (ha:PA X (e::es) t) (hg:Gl X x:=by rfl)
  (hdb:(x==("__debug__" : Str))=false:=by decide) (he:starEach (e::es) X.env=(false,eval e X.env)::starEach es X.env:=by rfl) (hpl:(backTo pos (starEach es X.env)).any (·.1)=false:=by rfl) :
  PE X (.Call (.Name x p) (e::es) [] pos) (Zbn sp t):=by
 obtain ⟨f,fd,F,hm,hk,hb⟩:=C.ex;have:=Z4k (dvs:=[]) (ds:=[]) (E:=E0) F hr hg hm hk hb .nil Z77 ha hdb he hpl (p:=p);intro pins s σ H Q I h;refine this pins s σ H Q I ?_;unfold Az;simp only [append_nil];exact h
theorem Zag {x:Str} {st:Stmt} {N ps:List Str} {k:Nat} {sp:Sp} (D:Def K mg x st) (S:FnScope N ps (Z8 st))
  (hbi:∀ (kV doc pm:Value) (an:Option Addr) (cdv ct:Value) (us:List Value),us.length=ps.length->bindArgs (fnOf x x (Wt st) (Yf st) (Z8 st) .none kV doc pm an cdv ct) ⟨us,[]⟩=pure (ps.zip us))
  (len:∀ vs H Q E,sp vs H Q E->vs.length=ps.length)
  (hbody:∀ (f:Addr) (cdv:Value) (A:Around) (outer:List Env) (s:Shared) (H:Hp) (vs:List V) (Q:VK) (E:XK),Room k (A.deeper (envOfC x (Z8 st) s.heap.objs.size f cdv))->sp vs H Q E ->
   ∃ t,Sm (Qd Dy P w K mg base N x (Z8 st) f cdv A outer s H E).nox (Yf st) t/\t (Ends.mk (fun _ H'=>Q .non H') Q (fun _ _=>False) (fun _ _=>False)) (start N vs) H):Cal P w K mg base (k+1) x ps sp:=by
 obtain ⟨f,fd,F,hm⟩:=D.ex;exact ⟨f,fd,F.ok S len (fun cdv A outer s H vs Q E hr h=>hbody f cdv A outer s H vs Q E hr h),hm,F.kp,F.binds hbi⟩
theorem Z6c {x:Str} {st:Stmt} {f:Addr} {fd:FuncData} {N ps:List Str} {k:Nat} {sp:Sp} (F:Fun K x x st f fd) (S:FnScope N ps (Z8 st)) (len:∀ vs H Q E,sp vs H Q E->vs.length=ps.length)
  (hbody:∀ (cdv:Value) (A:Around) (outer:List Env) (s:Shared) (H:Hp) (vs:List V) (Q:VK) (E:XK),Room k (A.deeper (envOfC x (Z8 st) s.heap.objs.size f cdv))->sp vs H Q E ->
   ∃ t,Sm (Qd Dy P w K mg base N x (Z8 st) f cdv A outer s H E).nox (Yf st) t/\t (Ends.mk (fun _ H'=>Q .non H') Q (fun _ _=>False) (fun _ _=>False)) (start N vs) H):FnOk P w K mg base Dy (k+1) f fd ps sp :=
 F.ok S len hbody
end
theorem Zo.new {H:Hp} {l:Addr} {o:HO} (h:H l=none):Zo H (W4 H l o):=fun b u e=>by rw [Zh (Y4 e h)];exact e
theorem Zo.seqT {K:PySem.W.Frag} {H H':Hp} {a:Addr} {xs:List V} (e:Zo H H') (h:Sh K H a xs):Sh K H' a xs:=by
 rcases h with h | h
 ·exact .inl (e _ _ h)
 ·exact .inr h
section
variable {X:Cx}
theorem Z3n {x:Str} {T:String} {pos:Pos} (hg:Gl X x) (hm:X.mg x=none) (hv:bootBuiltins x=some (.type T)) (hn:x≠"__name__" := by decide) (hd:(x==("__debug__" : Str))=false:=by decide):PE X (.Name x pos) (tC (.ty T)) :=
 Z5v (v:=.ty T) hg hm hv rfl hn hd
def Z6t (T n:String):Option Bool:=if (Value.type T==Value.type n)=true then some true else if PySem.W.kitMeta n=true then (PySem.fastBuiltinMro T).map (·.contains (.type n)) else none
theorem Zan {K:PySem.W.Frag} {T n:String} {b:Bool} (h:Z6t T n=some b):PySem.W.kitOne K (.type T) (.type n)=some b:=h
def Zbb:V->Option Int->Option Int->Hp->VK->Prop:=fun x lo hi H Q=>∃ z,x=.str z/\z.length<=sizeLine/\Q (.str (Txt.slice z lo hi)) H
theorem Z8c:Be X Zbb:=by
 intro pins s σ H x v vl vu lo hi sl Q I rx hs pl pu h;obtain ⟨z,rfl,hz,q⟩:=h;obtain ⟨t,rfl⟩:=rx;have fin:∀ t' k,EP X pins σ Q (.str (Txt.slice z lo hi) t') { s with toks:=k }:=fun t' k=>⟨.str (Txt.slice z lo hi),H,I.tok _,⟨_,rfl⟩,q⟩
 refine ⟨"str",_,F.slot_str_getitem.lookup,typeIs_str _ _ _,?_⟩;cases pl with
 | none =>
  cases pu with
  | none=>exact wpAny_getItem_str_slice (l:=none) (u:=none) (st:=none) hs rfl (post_val_or_str ⟨le_trans (Txt.slice_le z _ _) hz,fin⟩)
  | int j tj=>exact wpAny_getItem_str_slice (l:=none) (u:=some (j,tj)) (st:=none) hs rfl (post_val_or_str ⟨le_trans (Txt.slice_le z _ _) hz,fin⟩)
 | int i ti =>
  cases pu with
  | none=>exact wpAny_getItem_str_slice (l:=some (i,ti)) (u:=none) (st:=none) hs rfl (post_val_or_str ⟨le_trans (Txt.slice_le z _ _) hz,fin⟩)
  | int j tj=>exact wpAny_getItem_str_slice (l:=some (i,ti)) (u:=some (j,tj)) (st:=none) hs rfl (post_val_or_str ⟨le_trans (Txt.slice_le z _ _) hz,fin⟩)
def Zdh (K:PySem.W.Frag):V->Option Int->Option Int->Hp->VK->Prop:=fun x lo hi H Q=>Zb6 K x lo hi H Q\/Zbe K x lo hi H Q\/Zbb x lo hi H Q
theorem Zdx:Be X (Zdh X.K):=Z6m.or (Z8k.or Z8c)
theorem Dd {ns:List Int}:∀ {us:List Value},IntsAre us ns->Y3 (ns.map V.int) us:=by
 intro us h;induction h with
 | nil=>exact .nil
 | cons n t h ih=>exact .cons ⟨t,rfl⟩ ih
def Z67 (K:PySem.W.Frag):List V->Hp->VK->Prop:=fun xs H Q=>∃ p ns,xs=[.ref p]/\Mu K H p (ns.map V.int)/\ns.length<64 /\
 ∀ (ms:List Int) (l:Addr),ms.Perm ns->ms.Pairwise (·<=·)->H l=none->Q (.ref l) (W4 H l (.lst (ms.map V.int)))
theorem Oc:V5 X (.builtin "sorted") (Z67 X.K):=by
 intro pins s σ H xs us Q I r h;obtain ⟨p,ns,rfl,hq,h64,q⟩:=h;obtain ⟨u,rfl,rx⟩:=Qy r;cases rx;obtain ⟨its,r',pl,hz⟩:=I.list hq;have hlen:=r'.length;rw [length_map] at hlen;refine sorted_ints pl.isList (K7 r') (by lia) fun out ms h1 h2 h3=>?_
 obtain ⟨e,he⟩:=sortedAll_at s.heap its out;have hl:ms.length=ns.length:=h2.length_eq;refine ⟨.ref (s.heap.objs.size+1),W4 H (s.heap.objs.size+1) (.lst (ms.map V.int)),I.laid (t':=s.toks) (fun b o q=>sortedAll_old q) (le_succ _) ?_,rfl,q ms _ h2 h3 (I.hok.fresh (le_succ _))⟩;refine ⟨by rw [length_map] at hz ⊢;lia,out.toList,e,Dd h1,?_⟩;rw [he]
theorem G9 {A:Around} {its:List Value} {bs:List Bool} (r:Y3 (bs.map V.bl) its):TruthOf X.prog X.w A (fun i v=>its.toArray[i]?=some v) (fun i=>bs.getD i false):=by
 intro i v s Q E hv h;have hv':its[i]?=some v:=by simpa using hv
 have hi:i<its.length:=(List.getElem?_eq_some_iff.mp hv').1;have hl:=r.length;rw [length_map] at hl;have hb:(bs.map V.bl)[i]?=some (V.bl (bs[i]'(by lia))):=by simp [show i<bs.length by lia]
 obtain ⟨u,hu,ru⟩:=r.get hb;rw [hv'] at hu;cases hu;cases ru;have:bs.getD i false=bs[i]'(by lia):=by simp [List.getD,show i<bs.length by lia]
 have h':Q (bs.getD i false) s:=h;rw [this] at h';exact wpAny_truthy_bool h'
theorem Z01 (bs:List Bool):(List.range bs.length).all (fun i=>bs.getD i false)=bs.all id:=by
 induction bs with
 | nil=>rfl
 | cons b bs ih =>
  rw [length_cons,List.range_succ_eq_map,all_cons,List.all_map,all_cons];have:(fun i=>(b::bs).getD i false) ∘ Nat.succ=fun i=>bs.getD i false:=by funext i;rfl
  rw [this,ih];rfl
theorem Z1h (bs:List Bool):(List.range bs.length).any (fun i=>bs.getD i false)=bs.any id:=by
 induction bs with
 | nil=>rfl
 | cons b bs ih =>
  rw [length_cons,List.range_succ_eq_map,any_cons,any_map,any_cons];have:(fun i=>(b::bs).getD i false) ∘ Nat.succ=fun i=>bs.getD i false:=by funext i;rfl
  rw [this,ih];rfl
def Ze0 (K:PySem.W.Frag):List V->Hp->VK->Prop:=fun xs H Q=>∃ (p:Addr) (bs:List Bool),xs=[.ref p]/\Mu K H p (bs.map V.bl)/\Q (.bl (bs.all id)) H
def Zdp (K:PySem.W.Frag):List V->Hp->VK->Prop:=fun xs H Q=>∃ (p:Addr) (bs:List Bool),xs=[.ref p]/\Mu K H p (bs.map V.bl)/\Q (.bl (bs.any id)) H
theorem Z06 (hc:X.calm=true):V5 X (.builtin "all") (Ze0 X.K):=by
 intro pins s σ H xs us Q I r h;obtain ⟨p,bs,rfl,hq,q⟩:=h;obtain ⟨u,rfl,rx⟩:=Qy r;cases rx;obtain ⟨its,r',pl,hz⟩:=I.list hq;have hl:=pl.isList;have hlt:p<s.heap.objs.size:=by obtain ⟨o,e,_⟩:=hl;exact lt_size e
 have hlen:=r'.length;rw [length_map] at hlen;refine call_all_walk (wpAny_pyIter_list hl ⟨s.heap.objs.size,_,_,_,_,_,fun i=>bs.getD i false,rfl,Walks.list (A:=X.A.in1) (I.ok.hd hc) s.heap.objs.size p (ne_of_lt hlt) its.toArray,⟨⟨_,get?_push_size _ rfl,rfl,rfl⟩,hl.push _⟩,G9 r',fun h' tk hk=>?_⟩);have e:(List.range its.toArray.size).all (fun i=>bs.getD i false)=bs.all id:=by rw [size_toArray,← hlen];exact Z01 bs
 rw [e];exact ⟨.bl _,H,I.kept (h':=h') (t':=tk) (fun b o e=>hk b o (by simpa using ne_of_lt (lt_size e)) (get?_push_of_some _ e)),rfl,q⟩
theorem Z0l (hc:X.calm=true):V5 X (.builtin "any") (Zdp X.K):=by
 intro pins s σ H xs us Q I r h;obtain ⟨p,bs,rfl,hq,q⟩:=h;obtain ⟨u,rfl,rx⟩:=Qy r;cases rx;obtain ⟨its,r',pl,hz⟩:=I.list hq;have hl:=pl.isList;have hlt:p<s.heap.objs.size:=by obtain ⟨o,e,_⟩:=hl;exact lt_size e
 have hlen:=r'.length;rw [length_map] at hlen;refine call_any_walk (wpAny_pyIter_list hl ⟨s.heap.objs.size,_,_,_,_,_,fun i=>bs.getD i false,rfl,Walks.list (A:=X.A.in1) (I.ok.hd hc) s.heap.objs.size p (ne_of_lt hlt) its.toArray,⟨⟨_,get?_push_size _ rfl,rfl,rfl⟩,hl.push _⟩,G9 r',fun h' tk hk=>?_⟩);have e:(List.range its.toArray.size).any (fun i=>bs.getD i false)=bs.any id:=by rw [size_toArray,← hlen];exact Z1h bs
 rw [e];exact ⟨.bl _,H,I.kept (h':=h') (t':=tk) (fun b o e=>hk b o (by simpa using ne_of_lt (lt_size e)) (get?_push_of_some _ e)),rfl,q⟩
abbrev TJ:=St->Hp->Str->VK->Prop
def PJ (X:Cx) (vs:List Expr) (t:TJ):Prop :=
 ∀ (pins:List (Addr×Obj)) (s:Shared) (σ:St) (H:Hp) (acc:Str) (Q:VK),Inv X pins σ H s->acc.length<=sizeLine->t σ H acc Q->wpAny (model X.prog X.w) X.A (joinParts acc (evalEach vs X.env)) (EP X pins σ Q) X.xe s
def Zcy:TJ:=fun _ H acc Q=>Q (.str acc) H
def Zbk (c:Str) (r:TJ):TJ:=fun σ H acc Q=>(acc++c).length<=sizeLine/\r σ H (acc++c) Q
theorem Z2q:PJ X [] Zcy:=fun pins s σ H acc Q I hz h=>joinParts_nil ⟨.str acc,H,I.tok _,⟨_,rfl⟩,h⟩ hz
theorem Z1z {c:Str} {j:Nat} {pos:Pos} {vs:List Expr} {r:TJ} (hr:PJ X vs r):PJ X (.Constant (.str c) j pos::vs) (Zbk c r):=by
 intro pins s σ H acc Q I hz h;refine joinParts_cons (Calls.Constant_str ?_);exact ⟨h.1,hr pins _ σ H (acc++c) Q (I.tok _) h.1 h.2⟩
def Ay (r:TJ):TE:=fun σ H Q=>r σ H Str.empty Q
theorem N5 {v1 v2:Expr} {rest:List Expr} {pos:Pos} {r:TJ} (h:PJ X (v1::v2::rest) r):PE X (.JoinedStr (v1::v2::rest) pos) (Ay r):=by
 intro pins s σ H Q I hq;exact JoinedStr_many (h pins s σ H Str.empty Q I (by decide) hq)
end
abbrev cl (z:Str):List Nat:=z.cps.toList
theorem Ku (z:Str):(cl z).length=z.length:=by simp [cl,Str.length]
theorem Z3v (x y:Str):cl (x++y)=cl x++cl y:=by
 show (x.cps++y.cps).toList=_;simp [cl]
def To {α:Type} (xs:List α) (lo hi:Option Int):List α:=(xs.drop (HT.sIx xs.length 0 lo)).take (HT.sIx xs.length xs.length hi - HT.sIx xs.length 0 lo)
theorem Z1w (xs:List Nat) (i k:Nat):((List.range k).map fun (m:Nat)=>((i:Int)+1*(m:Int)).toNat).filterMap (xs[·]?)=(xs.drop i).take k:=by
 rw [List.filterMap_map];induction k generalizing i with
 | zero=>simp
 | succ k ih =>
  rw [List.range_succ_eq_map,filterMap_cons,List.filterMap_map];have e0:((fun x=>xs[x]?) ∘ fun m:Nat=>((i:Int)+1*(m:Int)).toNat) 0=xs[i]?:=by simp [Function.comp]
  rw [e0];have e1:(((fun x=>xs[x]?) ∘ fun m:Nat=>((i:Int)+1*(m:Int)).toNat) ∘ Nat.succ)=((fun x=>xs[x]?) ∘ fun m:Nat=>(((i+1:Nat):Int)+1*(m:Int)).toNat):=by
   funext m
   simp only [Function.comp,Nat.succ_eq_add_one];congr 1
   lia
  rw [e1,ih];cases h:xs[i]? with
  | none =>
   have hl:xs.length<=i:=List.getElem?_eq_none_iff.mp h;simp [List.drop_eq_nil_of_le hl,List.drop_eq_nil_of_le (Nat.le_succ_of_le hl)]
  | some c =>
   obtain ⟨hi,hc⟩:=List.getElem?_eq_some_iff.mp h;rw [drop_eq_getElem_cons hi,take_succ_cons,hc]
theorem Z37 (lo hi:Option Int) (n:Nat):Builtin.Str.strSliceIndices lo hi 1 n=(List.range (HT.sIx n n hi - HT.sIx n 0 lo)).map fun (m:Nat)=>(((HT.sIx n 0 lo:Nat):Int)+1*(m:Int)).toNat:=by
 have c:∀ (v:Option Int) (d:Nat),(match v with | none=>(d:Int) | some i=>(let i:=if i<0 then i+(n:Int) else i;if (1:Int) > 0 then max 0 (min i (n:Int)) else max (-1) (min i ((n:Int) - 1))))=((HT.sIx n d v:Nat):Int):=by
  intro v d;cases v with
  | none=>rfl
  | some i =>
   rw [← HT.clip_eq i n d];dsimp only;rw [if_pos (by decide)];by_cases hi:i<0
   ·rw [if_pos hi,if_pos hi];lia
   ·rw [if_neg hi,if_neg hi];lia
 have key:∀ (x y:Int) (a b:Nat),x=a->y=b->sliceRange x y 1=(List.range (b - a)).map fun (m:Nat)=>((a:Int)+1*(m:Int)).toNat:=by
  rintro x y a b rfl rfl;unfold sliceRange;dsimp only;rw [if_pos (by decide)];congr 1
  congr 1
  by_cases h:(a:Int)<(b:Int)
  ·rw [if_pos h];lia
  ·rw [if_neg h];lia
 unfold Builtin.Str.strSliceIndices;dsimp only;have e1:=c lo 0;have e2:=c hi n;dsimp only at e1 e2;simp only [show (1:Int) > 0 by decide,if_true] at e1 e2 ⊢;exact key _ _ _ _ e1 e2
theorem Z3d (z:Str) (lo hi:Option Int):cl (Txt.slice z lo hi)=To (cl z) lo hi:=by
 have hn:(cl z).length=z.length:=Ku z;unfold Txt.slice To;rw [hn];have hle:=HT.sIx_le z.length z.length (le_refl _) hi;split
 ·rename_i h
  rw [Z37,length_map,length_range] at h;have h':HT.sIx z.length z.length hi - HT.sIx z.length 0 lo=z.length:=by simpa using h
  have h0:HT.sIx z.length 0 lo=0\/z.length=0:=by lia
  rcases h0 with h0 | h0
  ·rw [h',h0,drop_zero,take_of_length_le (by lia)]
  ·have:cl z=[]:=length_eq_zero_iff.mp (by lia)
   rw [this];simp
 ·show (((Builtin.Str.strSliceIndices lo hi 1 z.length).filterMap (z.cps[·]?)).toArray).toList=_
  rw [Z37];have e:(fun x:Nat=>z.cps[x]?)=fun x=>(cl z)[x]?:=by funext x;simp [cl]
  rw [e];exact Z1w _ _ _
section
variable {X:Cx} (K:PySem.W.Frag)
def Z7k (K:PySem.W.Frag):List V->Hp->VK->Prop:=fun xs H Q=>∃ p ys,xs=[.ref p]/\(Mu K H p ys\/Sh K H p ys)/\∀ l,H l=none->Q (.ref l) (W4 H l (.lst ys))
theorem Hz (h:X.K=K:=by rfl):V5 X (.type "list") (Z7k K):=by subst h;exact Dm
variable {o e:Expr} {es:List Expr} {to:TE} {t:TA} {name:Str} {apos cpos:Pos} {T id:String} {r:V->List V->Hp->VK->Prop}
end
end L2
namespace PySem
open AutoSeq1 (wpAny_loadPart')
section
variable {prog:Program} {w:World} {A:Around} {E:Value->Shared->Prop} {s:Shared}
theorem Jy {it l:Addr} {i:Nat} {items} {x:Value} {Q:Value->Shared->Prop} (hit:s.heap.IsTupleIter it l i)
  (hl:s.heap.IsTuple l items) (hx:items[i]?=some x)
  (hQ:∀ h',h'.IsTupleIter it l (i+1)->SameBut it s.heap h'->Q x { s with heap:=h' }) :
  wpAny (model prog w) A (Builtin.SmallTypes.nextOf (.ref it)) Q E s:=by
 obtain ⟨o,ho,hc,hd⟩:=id hit;obtain ⟨ol,hol,_,nl,hdl⟩:=hl;unfold Builtin.SmallTypes.nextOf;refine wpAny_bind (wpAny_callSpecial?_slot (name:=Str.ofString "__next__") hit.typeIs F.slot_tuple_iterator_next
  (wpAny_call_entry F.slot_tuple_iterator_next hit.typeIs F.entry_tuple_iterator_next ?_ (F.args_tuple_iterator_next_1 _)))
 show wpAny _ _ (field (.ref it) 0 >>= _) _ _ s;refine wpAny_bind (wpAny_field ho hd (x:=.ref l) rfl ?_);show wpAny _ _ (if (Value.ref l==Value.none)=true then _ else _) _ _ s;rw [if_neg (show ¬ ((Value.ref l==Value.none)=true) from Bool.false_ne_true)];show wpAny _ _ (field (.ref it) 1 >>= _) _ _ s;refine wpAny_bind (wpAny_field ho hd (x:=.int i 0) rfl ?_);show wpAny _ _ (seqItems? (.ref l) >>= _) _ _ s;refine wpAny_bind (wpAny_seqItems hol hdl ?_);simp only [Int.toNat_natCast,hx];refine wpAny_bind (wpAny_setField ho hd (by simp) (wpAny_pure ⟨x,rfl,wpAny_pure (hQ _ ?_ (SameBut.update ..))⟩));exact ⟨_,get?_update_self _ ho (Obj.isFreed_of_fields (Obj.data_mapFields hd _)),(Obj.cls_mapFields ..).trans hc,by
  rw [Obj.data_mapFields hd];simp [rawInt]⟩
theorem Md {it l:Addr} {i:Nat} {items} {Q:Value->Shared->Prop} (hh:A.handled=none)
   (hit:s.heap.IsTupleIter it l i) (hl:s.heap.IsTuple l items) (hx:items[i]?=none)
   (hE:∀ h' e,ExtBut it s.heap h'->(∃ o,h'.get? e=some o/\o.cls=.type "StopIteration")->E (.ref e) { s with heap:=h' }) :
   wpAny (model prog w) A (Builtin.SmallTypes.nextOf (.ref it)) Q E s:=by
 obtain ⟨o,ho,hc,hd⟩:=id hit;obtain ⟨ol,hol,_,nl,hdl⟩:=hl;unfold Builtin.SmallTypes.nextOf;refine wpAny_bind (wpAny_callSpecial?_slot (name:=Str.ofString "__next__") hit.typeIs F.slot_tuple_iterator_next
   (wpAny_call_entry F.slot_tuple_iterator_next hit.typeIs F.entry_tuple_iterator_next ?_ (F.args_tuple_iterator_next_1 _)))
 show wpAny _ _ (field (.ref it) 0 >>= _) _ _ s;refine wpAny_bind (wpAny_field ho hd (x:=.ref l) rfl ?_);show wpAny _ _ (if (Value.ref l==Value.none)=true then _ else _) _ _ s;rw [if_neg (show ¬ ((Value.ref l==Value.none)=true) from Bool.false_ne_true)];show wpAny _ _ (field (.ref it) 1 >>= _) _ _ s;refine wpAny_bind (wpAny_field ho hd (x:=.int i 0) rfl ?_);show wpAny _ _ (seqItems? (.ref l) >>= _) _ _ s;refine wpAny_bind (wpAny_seqItems hol hdl ?_);simp only [Int.toNat_natCast,hx];refine wpAny_bind (wpAny_rule (wpAny_bind (wpAny_setField ho hd (by simp) ?_)));show wpAny _ _ (newExc (.type "StopIteration") [] >>= _) _ _ _;refine wpAny_bind ?_;simp only [newExc,newTuple];refine wpAny_bind (wpAny_newObj_type ?_ (by size_fits));refine wpAny_bind (m:=firstArgMember _ _) (wpAny_of_eq (a:=Value.none) (by first | rfl | (simp only [firstArgMember];rfl)) ?_);refine wpAny_newObj_type ?_ (by size_fits);simp only [raiseNew];refine wpAny_bind (wpAny_handled ?_);first | rw [show A.in1.handled=none from hh] | rw [hh]
 refine wpAny_bind (wpAny_pure (wpAny_throw ?_));exact hE _ _ (((SameBut.update ..).extBut.push _).push _) ⟨_,get?_push_size _ rfl,rfl⟩
end
theorem Draws.tupleD {prog:Program} {w:World} {A:Around} (hh:A.handled=none) (it l:Addr) (hne:l≠it) (items:Array Value) :
  Draws prog w A it [it,l] items.size (fun i v=>items[i]?=some v) (fun i h=>h.IsTupleIter it l i/\h.IsTuple l items) where
 live:=fun _ _ st=>let ⟨o,ho,_⟩:=st.1;⟨o,ho⟩
 frame:=fun _ _ _ st hk=>⟨st.1.at fun o e=>hk it (by simp) o e,let ⟨o,ho,r⟩:=st.2;⟨o,hk l (by simp) o ho,r⟩⟩
 item:=fun i s Q E hi st hQ=>by
  refine Jy st.1 st.2 (x:=items[i]) (by simp [hi]) fun h' hit' hs'=>?_
  exact hQ _ h' s.toks (by simp [hi]) ⟨hit',st.2.extBut hs'.extBut hne⟩ hs'
 done:=fun s Q E st hE=>Md hh st.1 st.2 (by simp) hE
theorem R3 (l:Addr) (items:Array Value) (n:Nat) (dct:Option Addr) (sl:Array (Option Value)) :
  Meets (Builtin.«enumerate.__new__» ⟨[.type "enumerate",.ref l],[]⟩) (fun _ R s=>s.heap.get? l=some { cls:=.type "tuple",dict:=dct,data:=.seq items n,slots:=sl } /\
   R (.ok (.ret (.ref (s.heap.push { cls:=.type "tuple_iterator",data:=.fields #[.ref l,.int 0 0] }).objs.size)))
    { s with heap:=(s.heap.push { cls:=.type "tuple_iterator",data:=.fields #[.ref l,.int 0 0] }).push { cls:=.type "enumerate",data:=.fields #[.none,.bool false,.ref s.heap.objs.size,rawInt 0,.none,.none] } }) :=
 .of_wp fun prog w A R s h=>by
  obtain ⟨hp,g,d,tk,os⟩:=s;obtain ⟨hl,h⟩:=h;have hsub:=sub_enumerate;have hL:Heap.IsTuple (Shared.heap ⟨hp,g,d,tk,os⟩) l items:=⟨_,hl,rfl,n,rfl⟩
  wp_walk using wpAny_loadPart' hl
  refine wpAny_stack_any fun st=>wpAny_pure ?_
  split
  ·rename_i c _ _ _ _ _
   cases (c==Value.type "enumerate")
   ·wp_walk using wpAny_loadPart' hl,wpAny_pyIter_tuple hL
    exact ⟨_,rfl,h⟩
   ·wp_walk using wpAny_loadPart' hl,wpAny_pyIter_tuple hL
    exact ⟨_,rfl,h⟩
  ·wp_walk using wpAny_loadPart' hl,wpAny_pyIter_tuple hL
   exact ⟨_,rfl,h⟩
theorem R1 {prog:Program} {w:World} {A:Around} {E:Value->Shared->Prop} {s:Shared} {l:Addr} {items:Array Value} {Q:Value->Shared->Prop} (hL:s.heap.IsTuple l items)
  (h:∀ h',IsEnum h' (s.heap.objs.size+1) s.heap.objs.size 0 .none->h'.IsTupleIter s.heap.objs.size l 0->h'.objs.size=s.heap.objs.size+2 ->
   (∀ b o,s.heap.get? b=some o->h'.get? b=some o)->Q (.ref (s.heap.objs.size+1)) { s with heap:=h' }) :
  wpAny (model prog w) A (call (.type "enumerate") [.ref l]) Q E s:=by
 obtain ⟨⟨c,dct,dt,sl⟩,hl,hc,n,hd⟩:=hL;replace hc:c=.type "tuple" := hc;replace hd:dt=.seq items n:=hd;subst hc hd;refine callType_new F.called_enumerate (by decide) (F.typeCall_enumerate_1 _) (F.newCall_enumerate_1 _) (fun obj=>F.args_object_init_2 obj _) F.entry_enumerate_new
  (R3 l items n dct sl) ⟨hl,?_⟩
 have hz:(s.heap.push { cls:=.type "tuple_iterator",data:=.fields #[.ref l,.int 0 0] }).objs.size=s.heap.objs.size+1:=size_push ..;show _/\_;rw [hz];have he:IsEnum ((s.heap.push { cls:=.type "tuple_iterator",data:=.fields #[.ref l,.int 0 0] }).push
   { cls:=.type "enumerate",data:=.fields #[.none,.bool false,.ref s.heap.objs.size,rawInt 0,.none,.none] }) (s.heap.objs.size+1) s.heap.objs.size 0 .none:=by
  have:=get?_push_size (s.heap.push { cls:=.type "tuple_iterator",data:=.fields #[.ref l,.int 0 0] })
   (o:={ cls:=.type "enumerate",data:=.fields #[.none,.bool false,.ref s.heap.objs.size,rawInt 0,.none,.none] }) rfl
  rw [hz] at this;exact this
 refine ⟨⟨_,he,rfl⟩,h _ he ⟨_,get?_push_of_some _ (get?_push_size _ rfl),rfl,rfl⟩ (by rw [size_push,hz]) fun b o x=>get?_push_of_some _ (get?_push_of_some _ x)⟩
end PySem
namespace L2
open PySem PySem.Spec PyProof.Rows
inductive XD where
 | int (i:Int) | nums (is:List Int)
inductive Dat where
 | non | bl (b:Bool) | int (i:Int) | str (x:Str) | tup (xs:List Dat) | lst (xs:List Dat) | dct (kvs:List (Dat×Dat)) | exc (c:Str) (fs:List (Str×XD))
def W5 (K:PySem.W.Frag) (c:Str) (C:Addr):Prop:=PySem.W.nsIn K mainGlobals c=some (some (.ref C))
def Xg (e C:Addr) (dct:Option Addr) (h:Heap):Prop:=∃ o,h.get? e=some o/\o.cls=.ref C/\o.dict=dct/\∀ c,o.data≠.cls c
def Z2p (K:PySem.W.Frag) (H:Hp):XD->V->Prop
 | .int i,v=>v=.int i
 | .nums is,v=>∃ a,v=.ref a/\SL K H a (is.map V.int)/\is.length<=sizeLine
def P9 (K:PySem.W.Frag) (H:Hp):Option Addr->List (Str×XD)->Prop
 | none,fs=>fs=[]
 | some dx,fs=>∃ fvs,H dx=some (.xd fvs)/\∀ f,(fs.lookup f=none/\fvs.lookup f=none)\/∃ d v,fs.lookup f=some d/\fvs.lookup f=some v/\Z2p K H d v
def XRp (K:PySem.W.Frag) (H:Hp) (c:Str) (fs:List (Str×XD)) (v:V):Prop:=∃ e C dct,v=.ref e/\H e=some (.ext (Xg e C dct))/\W5 K c C/\P9 K H dct fs
structure SOk (x:Str):Prop where
 ok:PyData.strOk x=true
 le:x.length<=sizeLine
instance (x:Str):Decidable (SOk x):=decidable_of_iff (PyData.strOk x=true/\x.length<=sizeLine) ⟨fun h=>⟨h.1,h.2⟩,fun h=>⟨h.ok,h.le⟩⟩
theorem SOk.of {x:Str} (h:PyData.strOk x=true) (h':x.length<=sizeLine):SOk x:=⟨h,h'⟩
mutual
def Rp (K:PySem.W.Frag) (H:Hp):Dat->V->Prop
 | .non,v=>v=.non
 | .bl b,v=>v=.bl b
 | .int i,v=>v=.int i
 | .str x,v=>v=.str x/\SOk x
 | .tup ds,v=>ds.length<=sizeLine/\∃ a vs,v=.ref a/\Sh K H a vs/\Wg K H ds vs
 | .lst ds,v=>ds.length<=sizeLine/\∃ a vs,v=.ref a/\SL K H a vs/\Wg K H ds vs
 | .dct _,_=>False
 | .exc c fs,v=>XRp K H c fs v
def Wg (K:PySem.W.Frag) (H:Hp):List Dat->List V->Prop
 | [],vs=>vs=[]
 | d::ds,vs=>∃ v r,vs=v::r/\Rp K H d v/\Wg K H ds r
end
abbrev AS:=Addr->Bool
def av (H:Hp) (A:AS):Hp:=fun a=>if A a=true then none else H a
theorem Wl {H:Hp} {A:AS} {a:Addr} {o:HO} (h:H a=some o) (hA:A a=false):av H A a=some o:=by unfold av;rw [hA];exact h
theorem Wf {H:Hp} {A:AS} {a:Addr} {o:HO} (h:av H A a=some o):A a=false/\H a=some o:=by
 unfold av at h;split at h
 ·cases h
 ·rename_i q;exact ⟨by simpa using q,h⟩
theorem W7 {H:Hp} {A:AS}:Zo (av H A) H:=fun b o e=>(Wf e).2
theorem Ws {H H':Hp} {A:AS} (h:Zo H H'):Zo (av H A) (av H' A):=fun b o e=>Wl (h b o (Wf e).2) (Wf e).1
theorem Tg {H:Hp} {A B:AS} (h:∀ a,B a=true->A a=true):Zo (av H A) (av H B):=fun b o e=>by
 obtain ⟨h1,h2⟩:=Wf e;refine Wl h2 ?_;cases q:B b with
 | false=>rfl
 | true=>rw [h b q] at h1;cases h1
def no:AS:=fun _=>false
theorem N2 {H:Hp}:av H no=H:=by funext a;simp [av,no]
theorem Zo.sl {K:PySem.W.Frag} {H H':Hp} {a:Addr} {xs:List V} (e:Zo H H') (h:SL K H a xs):SL K H' a xs:=by
 rcases h with (h | ⟨o,h⟩) | h
 ·exact .inl (.inl (e _ _ h))
 ·exact .inl (.inr ⟨o,e _ _ h⟩)
 ·exact .inr h
theorem SL.sq {K:PySem.W.Frag} {H:Hp} {a:Addr} {xs:List V} (h:SL K H a xs):Mu K H a xs:=by
 rcases h with h | ⟨its,n,h1,h2,h3⟩
 ·exact .inl h
 ·refine .inr ⟨_,its.toArray,n,h1,rfl,rfl,rfl,?_,by simpa using h3⟩
  have:=h3.length;simp only [size_toArray];lia
theorem SL.get {X:Cx} {pins:List (Addr×Obj)} {σ:St} {H:Hp} {s:Shared} {a:Addr} {xs:List V} (h:SL X.K H a xs) (I:Inv X pins σ H s) :
  ∃ (its:List Value) (n:Nat),Y3 xs its/\s.heap.get? a=some { cls:=.type "list",data:=.seq its.toArray n }/\xs.length<=sizeLine:=by
 rcases h with h | ⟨its,n,h1,h2,h3⟩
 ·obtain ⟨z,its,n,r,e⟩:=h.ok I.hok
  exact ⟨its,n,r,e,z⟩
 ·exact ⟨its,n,h3,I.kIn _ _ h1,h2⟩
theorem Z2p.mono {K:PySem.W.Frag} {H H':Hp} (e:Zo H H') {d:XD} {v:V} (h:Z2p K H d v):Z2p K H' d v:=by
 cases d with
 | int i=>exact h
 | nums is=>obtain ⟨a,e1,e2,e3⟩:=h;exact ⟨a,e1,e.sl e2,e3⟩
theorem P9.mono {K:PySem.W.Frag} {H H':Hp} (e:Zo H H') {dct:Option Addr} {fs:List (Str×XD)} (h:P9 K H dct fs):P9 K H' dct fs:=by
 cases dct with
 | none=>exact h
 | some dx =>
  obtain ⟨fvs,e1,e2⟩:=h;exact ⟨fvs,e _ _ e1,fun f=>(e2 f).imp id fun ⟨d,v,a,b,c⟩=>⟨d,v,a,b,c.mono e⟩⟩
theorem XRp.mono {K:PySem.W.Frag} {H H':Hp} (e:Zo H H') {c:Str} {fs:List (Str×XD)} {v:V} (h:XRp K H c fs v):XRp K H' c fs v:=by
 obtain ⟨x,C,dct,e1,e2,e3,e4⟩:=h;exact ⟨x,C,dct,e1,e _ _ e2,e3,e4.mono e⟩
mutual
theorem Rp.mono {K:PySem.W.Frag} {H H':Hp} (e:Zo H H'):∀ {d:Dat} {v:V},Rp K H d v->Rp K H' d v
 | .non,v,h=>by unfold Rp at h ⊢;exact h
 | .bl b,v,h=>by unfold Rp at h ⊢;exact h
 | .int i,v,h=>by unfold Rp at h ⊢;exact h
 | .str x,v,h=>by unfold Rp at h ⊢;exact h
 | .dct _,v,h=>by unfold Rp at h;exact h.elim
 | .exc _ _,v,h=>by unfold Rp at h ⊢;exact XRp.mono e h
 | .tup ds,v,h=>by
  unfold Rp at h ⊢;obtain ⟨hz,a,vs,e1,e2,e3⟩:=h;exact ⟨hz,a,vs,e1,e.seqT e2,Wg.mono e e3⟩
 | .lst ds,v,h=>by
  unfold Rp at h ⊢;obtain ⟨hz,a,vs,e1,e2,e3⟩:=h;exact ⟨hz,a,vs,e1,e.sl e2,Wg.mono e e3⟩
theorem Wg.mono {K:PySem.W.Frag} {H H':Hp} (e:Zo H H'):∀ {ds:List Dat} {vs:List V},Wg K H ds vs->Wg K H' ds vs
 | [],vs,h=>by unfold Wg at h ⊢;exact h
 | d::ds,vs,h=>by
  unfold Wg at h ⊢;obtain ⟨v,r,e1,e2,e3⟩:=h;exact ⟨v,r,e1,Rp.mono e e2,Wg.mono e e3⟩
end
section
variable {K:PySem.W.Frag} {H:Hp}
theorem U0:Wg K H [] []:=by unfold Wg;rfl
theorem Us {d:Dat} {ds:List Dat} {v:V} {vs:List V} (h:Rp K H d v) (t:Wg K H ds vs):Wg K H (d::ds) (v::vs):=by unfold Wg;exact ⟨v,vs,rfl,h,t⟩
theorem Yz {vs:List V} (h:Wg K H [] vs):vs=[]:=by unfold Wg at h;exact h
theorem Yg {d:Dat} {ds:List Dat} {vs:List V} (h:Wg K H (d::ds) vs):∃ v r,vs=v::r/\Rp K H d v/\Wg K H ds r:=by unfold Wg at h;exact h
theorem Zy:∀ {ds:List Dat} {vs:List V},Wg K H ds vs->vs.length=ds.length
 | [],vs,h=>by rw [Yz h];rfl
 | d::ds,vs,h=>by
  obtain ⟨v,r,e1,e2,e3⟩:=Yg h;rw [e1,length_cons,length_cons,Zy e3]
theorem Rz:∀ {ds:List Dat} {vs:List V} {i:Nat} {d:Dat},Wg K H ds vs->ds[i]?=some d->∃ v,vs[i]?=some v/\Rp K H d v
 | [],vs,i,d,h,e=>by simp at e
 | d'::ds,vs,0,d,h,e=>by
  obtain ⟨v,r,e1,e2,e3⟩:=Yg h;simp at e;subst e;exact ⟨v,by rw [e1];rfl,e2⟩
 | d'::ds,vs,i+1,d,h,e=>by
  obtain ⟨v,r,e1,e2,e3⟩:=Yg h;obtain ⟨v',h1,h2⟩:=Rz (i:=i) e3 (by simpa using e);exact ⟨v',by rw [e1];simpa using h1,h2⟩
theorem V9:∀ {ds es:List Dat} {vs us:List V},Wg K H ds vs->Wg K H es us->Wg K H (ds++es) (vs++us)
 | [],es,vs,us,h,k=>by rw [Yz h];exact k
 | d::ds,es,vs,us,h,k=>by
  obtain ⟨v,r,e1,e2,e3⟩:=Yg h;subst e1;exact Us e2 (V9 e3 k)
theorem Iy:∀ (n:Nat) {ds:List Dat} {vs:List V},Wg K H ds vs->Wg K H (ds.take n) (vs.take n)
 | 0,_,_,_=>by simp only [List.take_zero];exact U0
 | n+1,[],vs,h=>by rw [Yz h];simp only [List.take_nil];exact U0
 | n+1,d::ds,vs,h=>by
  obtain ⟨v,r,e1,e2,e3⟩:=Yg h;subst e1;exact Us e2 (Iy n e3)
theorem Ko:∀ (n:Nat) {ds:List Dat} {vs:List V},Wg K H ds vs->Wg K H (ds.drop n) (vs.drop n)
 | 0,_,_,h=>h
 | n+1,[],vs,h=>by rw [Yz h];simp only [List.drop_nil];exact U0
 | n+1,d::ds,vs,h=>by
  obtain ⟨v,r,e1,e2,e3⟩:=Yg h;subst e1;exact Ko n e3
theorem Ji {d:Dat} {v:V} (h:Rp K H d v):Wg K H [d] [v]:=Us h U0
theorem Z5r {ds:List Dat}:∀ {vs:List V},Wg K H ds vs->Wg K H ds.reverse vs.reverse:=by
 induction ds with
 | nil=>intro vs h;rw [Yz h];exact U0
 | cons d ds ih =>
  intro vs h;obtain ⟨v,r,e1,e2,e3⟩:=Yg h;subst e1;rw [reverse_cons,reverse_cons];exact V9 (ih e3) (Ji e2)
theorem Jz:∀ (ns:List Int),Wg K H (ns.map Dat.int) (ns.map V.int)
 | []=>U0
 | n::ns=>Us (by unfold Rp;rfl) (Jz ns)
theorem K3:Rp K H .non .non:=by unfold Rp;rfl
theorem Va {b:Bool}:Rp K H (.bl b) (.bl b):=by unfold Rp;rfl
theorem Wb {i:Int}:Rp K H (.int i) (.int i):=by unfold Rp;rfl
theorem G6 {x:Str} (h:SOk x):Rp K H (.str x) (.str x):=by unfold Rp;exact ⟨rfl,h⟩
theorem F8 {a:Addr} {vs:List V} {ds:List Dat} (hz:ds.length<=sizeLine) (h:Sh K H a vs) (r:Wg K H ds vs):Rp K H (.tup ds) (.ref a):=by unfold Rp;exact ⟨hz,a,vs,rfl,h,r⟩
theorem D3 {a:Addr} {vs:List V} {ds:List Dat} (hz:ds.length<=sizeLine) (h:SL K H a vs) (r:Wg K H ds vs):Rp K H (.lst ds) (.ref a):=by unfold Rp;exact ⟨hz,a,vs,rfl,h,r⟩
theorem Hy {v:V} (h:Rp K H .non v):v=.non:=by unfold Rp at h;exact h
theorem G7 {b:Bool} {v:V} (h:Rp K H (.bl b) v):v=.bl b:=by unfold Rp at h;exact h
theorem Sv {i:Int} {v:V} (h:Rp K H (.int i) v):v=.int i:=by unfold Rp at h;exact h
theorem K2 {x:Str} {v:V} (h:Rp K H (.str x) v):v=.str x/\SOk x:=by unfold Rp at h;exact h
theorem M9 {ds:List Dat} {v:V} (h:Rp K H (.tup ds) v):∃ a vs,v=.ref a/\Sh K H a vs/\Wg K H ds vs:=by unfold Rp at h;exact h.2
theorem Ax {ds:List Dat} {v:V} (h:Rp K H (.tup ds) v):ds.length<=sizeLine:=by unfold Rp at h;exact h.1
theorem Z5l {ds:List Dat} {v:V} (h:Rp K H (.lst ds) v):ds.length<=sizeLine:=by unfold Rp at h;exact h.1
theorem Re {ds:List Dat} {v:V} (h:Rp K H (.lst ds) v):∃ a vs,v=.ref a/\SL K H a vs/\Wg K H ds vs:=by unfold Rp at h;exact h.2
theorem Z92 {ds:List (Dat×Dat)} {v:V} (h:Rp K H (.dct ds) v):False:=by unfold Rp at h;exact h
theorem Fu {c:Str} {ds:List (Str×XD)} {v:V} (h:Rp K H (.exc c ds) v):XRp K H c ds v:=by unfold Rp at h;exact h
end
def XO (K:PySem.W.Frag) (H:Hp) (c f:Str) (ns:List Int) (v:V):Prop:=∃ (e C dx:Addr) (fvs:List (Str×V)) (a:Addr),v=.ref e/\H e=some (.ext (Xg e C (some dx)))/\W5 K c C/\H dx=some (.xd fvs)/\(∀ g,g≠f->fvs.lookup g=none)/\fvs.lookup f=some (.ref a)/\H a=some (.lst (ns.map V.int))/\ns.length<=sizeLine
theorem XO.mono {K:PySem.W.Frag} {H H':Hp} {c f:Str} {ns:List Int} {v:V} (h:XO K H c f ns v) (e:Zo H H'):XO K H' c f ns v:=by
 obtain ⟨x,C,dx,fvs,a,h1,h2,h3,h4,h5,h6,h7,h8⟩:=h;exact ⟨x,C,dx,fvs,a,h1,e _ _ h2,h3,e _ _ h4,h5,h6,e _ _ h7,h8⟩
theorem XO.rp {K:PySem.W.Frag} {H:Hp} {c f:Str} {ns:List Int} {v:V} (h:XO K H c f ns v):Rp K H (.exc c [(f,.nums ns)]) v:=by
 obtain ⟨x,C,dx,fvs,a,h1,h2,h3,h4,h5,h6,h7,h8⟩:=h;unfold Rp;refine ⟨x,C,some dx,h1,h2,h3,fvs,h4,fun g=>?_⟩;by_cases hg:g=f
 ·subst hg;exact .inr ⟨.nums ns,.ref a,by simp [List.lookup],h6,a,rfl,.inl (.inl h7),h8⟩
 ·exact .inl ⟨by simp only [List.lookup];rw [show (g==f)=false from by simpa using hg],h5 g hg⟩
def Pk (K:PySem.W.Frag) (A:AS) (H:Hp) (d:Dat) (v:V):Prop :=
 Rp K (av H A) d v\/(∃ a vs ds,d=.lst ds/\v=.ref a/\ds.length<=sizeLine/\H a=some (.lst vs)/\Wg K (av H A) ds vs)\/∃ c f ns,d=.exc c [(f,.nums ns)]/\XO K H c f ns v
section
variable {K:PySem.W.Frag} {A:AS} {H H':Hp} {d:Dat} {v:V}
theorem Pk.mono (e:Zo H H') (h:Pk K A H d v):Pk K A H' d v:=by
 rcases h with h | ⟨a,vs,ds,e1,e2,hz,e3,e4⟩ | ⟨c,f,ns,e1,e2⟩
 ·exact .inl (h.mono (Ws e))
 ·exact .inr (.inl ⟨a,vs,ds,e1,e2,hz,e _ _ e3,e4.mono (Ws e)⟩)
 ·exact .inr (.inr ⟨c,f,ns,e1,e2.mono e⟩)
theorem Pk.rp (h:Pk K A H d v):Rp K H d v:=by
 rcases h with h | ⟨a,vs,ds,e1,e2,hz,e3,e4⟩ | ⟨c,f,ns,e1,e2⟩
 ·exact h.mono W7
 ·subst e1 e2;exact D3 hz (.inl (.inl e3)) (e4.mono W7)
 ·subst e1;exact e2.rp
theorem Pk.lenL {ds:List Dat} (h:Pk K A H (.lst ds) v):ds.length<=sizeLine:=Z5l h.rp
theorem Pk.lenT {ds:List Dat} (h:Pk K A H (.tup ds) v):ds.length<=sizeLine:=Ax h.rp
theorem Pk.non (h:Pk K A H .non v):v=.non:=Hy h.rp
theorem Pk.bl {b:Bool} (h:Pk K A H (.bl b) v):v=.bl b:=G7 h.rp
theorem Pk.int {i:Int} (h:Pk K A H (.int i) v):v=.int i:=Sv h.rp
theorem Pk.str {x:Str} (h:Pk K A H (.str x) v):v=.str x/\SOk x:=K2 h.rp
theorem Pk.tup {ds:List Dat} (h:Pk K A H (.tup ds) v):∃ a vs,v=.ref a/\Sh K H a vs/\Wg K (av H A) ds vs:=by
 rcases h with h | ⟨a,vs,ds,e1,e2,e3,e4⟩ | ⟨c,f,ns,e1,e2⟩
 ·obtain ⟨a,vs,e1,e2,e3⟩:=M9 h
  exact ⟨a,vs,e1,W7.seqT e2,e3⟩
 ·cases e1
 ·cases e1
theorem Pk.lst {ds:List Dat} (h:Pk K A H (.lst ds) v):∃ a vs,v=.ref a/\SL K H a vs/\Wg K (av H A) ds vs:=by
 rcases h with h | ⟨a,vs,ds',e1,e2,hz,e3,e4⟩ | ⟨c,f,ns,e1,e2⟩
 ·obtain ⟨a,vs,e1,e2,e3⟩:=Re h
  exact ⟨a,vs,e1,W7.sl e2,e3⟩
 ·cases e1;exact ⟨a,vs,e2,.inl (.inl e3),e4⟩
 ·cases e1
end
mutual
def Jf:Dat->Dat->Bool
 | .non,.non=>true
 | .bl a,.bl b=>a==b
 | .bl a,.int j=>(if a then 1 else 0)==j
 | .int i,.bl b=>i==(if b then 1 else 0)
 | .int i,.int j=>i==j
 | .str x,.str y=>x==y
 | .lst xs,.lst ys=>X5 xs ys
 | .tup xs,.tup ys=>X5 xs ys
 | _,_=>false
def X5:List Dat->List Dat->Bool
 | [],[]=>true
 | x::xs,y::ys=>Jf x y&&X5 xs ys
 | _,_=>false
end
def pd:Nat->Dat->Bool
 | 0,.lst _=>false
 | 0,.tup _=>false
 | n+1,.lst xs=>xs.all (pd n)
 | n+1,.tup xs=>xs.all (pd n)
 | _,.dct _=>false
 | _,.exc _ _=>false
 | _,.non=>true
 | _,.bl _=>true
 | _,.int _=>true
 | _,.str _=>true
mutual
def toP:Dat->PyData
 | .non=>.none
 | .bl b=>.bool b
 | .int i=>.int i
 | .str x=>.str x
 | .tup xs=>.tuple (Ky xs)
 | .lst xs=>.list (Ky xs)
 | .dct _=>.none
 | .exc _ _=>.none
def Ky:List Dat->List PyData
 | []=>[]
 | x::xs=>toP x::Ky xs
end
theorem Op {n:Nat} {xs:List Dat} (h:pd n (.lst xs)=true):∃ m,n=m+1/\∀ x∈xs,pd m x=true:=by
 cases n with
 | zero=>cases h
 | succ n=>exact ⟨n,rfl,by simpa [pd] using h⟩
theorem Od {n:Nat} {xs:List Dat} (h:pd n (.tup xs)=true):∃ m,n=m+1/\∀ x∈xs,pd m x=true:=by
 cases n with
 | zero=>cases h
 | succ n=>exact ⟨n,rfl,by simpa [pd] using h⟩
theorem Oh {n:Nat} {xs} (h:pd n (.dct xs)=true):False:=by cases n<;>cases h
theorem On {n:Nat} {c xs} (h:pd n (.exc c xs)=true):False:=by cases n<;>cases h
mutual
theorem Rq:∀ {n m:Nat} (x y:Dat),pd n x=true->pd m y=true->PyData.eqv (toP x) (toP y)=Jf x y
 | n,m,.dct _,y,h,_=>(Oh h).elim
 | n,m,.exc _ _,y,h,_=>(On h).elim
 | n,m,x,.dct _,_,h=>(Oh h).elim
 | n,m,x,.exc _ _,_,h=>(On h).elim
 | n,m,.non,.non,_,_=>rfl
 | n,m,.non,.bl _,_,_=>rfl
 | n,m,.non,.int _,_,_=>rfl
 | n,m,.non,.str _,_,_=>rfl
 | n,m,.non,.tup _,_,_=>rfl
 | n,m,.non,.lst _,_,_=>rfl
 | n,m,.bl _,.non,_,_=>rfl
 | n,m,.bl _,.bl _,_,_=>rfl
 | n,m,.bl _,.int _,_,_=>rfl
 | n,m,.bl _,.str _,_,_=>rfl
 | n,m,.bl _,.tup _,_,_=>rfl
 | n,m,.bl _,.lst _,_,_=>rfl
 | n,m,.int _,.non,_,_=>rfl
 | n,m,.int _,.bl _,_,_=>rfl
 | n,m,.int _,.int _,_,_=>rfl
 | n,m,.int _,.str _,_,_=>rfl
 | n,m,.int _,.tup _,_,_=>rfl
 | n,m,.int _,.lst _,_,_=>rfl
 | n,m,.str _,.non,_,_=>rfl
 | n,m,.str _,.bl _,_,_=>rfl
 | n,m,.str _,.int _,_,_=>rfl
 | n,m,.str _,.str _,_,_=>rfl
 | n,m,.str _,.tup _,_,_=>rfl
 | n,m,.str _,.lst _,_,_=>rfl
 | n,m,.lst _,.non,_,_=>rfl
 | n,m,.lst _,.bl _,_,_=>rfl
 | n,m,.lst _,.int _,_,_=>rfl
 | n,m,.lst _,.str _,_,_=>rfl
 | n,m,.lst _,.tup _,_,_=>rfl
 | n,m,.lst xs,.lst ys,h,k=>by
  obtain ⟨n',_,hx⟩:=Op h;obtain ⟨m',_,hy⟩:=Op k;simp only [toP,PyData.eqv,Jf];exact Ks xs ys hx hy
 | n,m,.tup _,.non,_,_=>rfl
 | n,m,.tup _,.bl _,_,_=>rfl
 | n,m,.tup _,.int _,_,_=>rfl
 | n,m,.tup _,.str _,_,_=>rfl
 | n,m,.tup _,.lst _,_,_=>rfl
 | n,m,.tup xs,.tup ys,h,k=>by
  obtain ⟨n',_,hx⟩:=Od h;obtain ⟨m',_,hy⟩:=Od k;simp only [toP,PyData.eqv,Jf];exact Ks xs ys hx hy
theorem Ks:∀ {n m:Nat} (xs ys:List Dat),(∀ x∈xs,pd n x=true)->(∀ y∈ys,pd m y=true)->PyData.eqvAll (Ky xs) (Ky ys)=X5 xs ys
 | n,m,[],[],_,_=>rfl
 | n,m,[],_::_,_,_=>rfl
 | n,m,_::_,[],_,_=>rfl
 | n,m,x::xs,y::ys,hx,hy=>by
  simp only [Ky,PyData.eqvAll,X5];rw [Rq (n:=n) (m:=m) x y (hx x mem_cons_self) (hy y mem_cons_self),Ks (n:=n) (m:=m) xs ys (fun z hz=>hx z (mem_cons_of_mem _ hz)) (fun z hz=>hy z (mem_cons_of_mem _ hz))]
end
mutual
theorem Rr:∀ (n:Nat) (x:Dat),pd n x=true->(toP x).depth<=n
 | n,.dct _,h=>(Oh h).elim
 | n,.exc _ _,h=>(On h).elim
 | n,.non,_=>zero_le _
 | n,.bl _,_=>zero_le _
 | n,.int _,_=>zero_le _
 | n,.str _,_=>zero_le _
 | n,.lst xs,h=>by
  obtain ⟨m,e,hx⟩:=Op h;subst e;simp only [toP,PyData.depth];exact Nat.succ_le_succ (D0 m xs hx)
 | n,.tup xs,h=>by
  obtain ⟨m,e,hx⟩:=Od h;subst e;simp only [toP,PyData.depth];exact Nat.succ_le_succ (D0 m xs hx)
theorem D0:∀ (n:Nat) (xs:List Dat),(∀ x∈xs,pd n x=true)->PyData.depthAll (Ky xs)<=n
 | n,[],_=>zero_le _
 | n,x::xs,h=>by
  simp only [Ky,PyData.depthAll];exact Nat.max_le.mpr ⟨Rr n x (h x mem_cons_self),D0 n xs fun z hz=>h z (mem_cons_of_mem _ hz)⟩
end
section
variable {X:Cx} {pins:List (Addr×Obj)} {σ:St} {H:Hp} {s:Shared}
mutual
theorem Rp.reads (I:Inv X pins σ H s):∀ {n:Nat} (d:Dat) (v:V) (u:Value),pd n d=true->Rp X.K H d v->Yo v u->∃ as,Reads s.heap u (toP d) as/\(toP d).canLay0=true
 | n,.dct _,v,u,h,_,_=>(Oh h).elim
 | n,.exc _ _,v,u,h,_,_=>(On h).elim
 | n,.non,v,u,_,i,r=>by cases Hy i;cases r;exact ⟨_,.none,rfl⟩
 | n,.bl b,v,u,_,i,r=>by cases G7 i;cases r;exact ⟨_,.bool b,rfl⟩
 | n,.int k,v,u,_,i,r=>by cases Sv i;obtain ⟨t,rfl⟩:=r;exact ⟨_,.int k t,rfl⟩
 | n,.str x,v,u,_,i,r=>by
  obtain ⟨e,hs⟩:=K2 i;subst e;obtain ⟨t,rfl⟩:=r;exact ⟨_,.str x t,hs.ok⟩
 | n,.tup ds,v,u,h,i,r=>by
  obtain ⟨m,_,hx⟩:=Od h;obtain ⟨a,vs,e1,e2,e3⟩:=M9 i;subst e1;cases r;obtain ⟨its,rv,⟨o,ho,hc,k,hd⟩,_⟩:=I.tuple e2;obtain ⟨as,ra,hl⟩:=Wg.reads I ds vs its hx e3 rv;exact ⟨_,.tuple ho hc hd (by simpa using ra),hl⟩
 | n,.lst ds,v,u,h,i,r=>by
  obtain ⟨m,_,hx⟩:=Op h;obtain ⟨a,vs,e1,e2,e3⟩:=Re i;subst e1;cases r;obtain ⟨its,rv,⟨o,k,ho,hc,_,hd⟩,_⟩:=I.list e2.sq;obtain ⟨as,ra,hl⟩:=Wg.reads I ds vs its hx e3 rv;exact ⟨_,.list ho hc hd (by simpa using ra),hl⟩
theorem Wg.reads (I:Inv X pins σ H s):∀ {n:Nat} (ds:List Dat) (vs:List V) (us:List Value),(∀ x∈ds,pd n x=true)->Wg X.K H ds vs->Y3 vs us->∃ as,ReadsAll s.heap us (Ky ds) as/\PyData.canLayAll0 (Ky ds)=true
 | n,[],vs,us,_,i,r=>by
  rw [Yz i] at r;cases r;exact ⟨_,.nil,rfl⟩
 | n,d::ds,vs,us,h,i,r=>by
  obtain ⟨v,rr,e1,e2,e3⟩:=Yg i;subst e1;cases r with
  | cons r1 r2 =>
   obtain ⟨as,h1,l1⟩:=Rp.reads I d v _ (h d mem_cons_self) e2 r1;obtain ⟨bs,h2,l2⟩:=Wg.reads I ds rr _ (fun z hz=>h z (mem_cons_of_mem _ hz)) e3 r2;exact ⟨_,.cons h1 h2,by simp only [Ky,PyData.canLayAll0,l1,l2];rfl⟩
end
theorem Rp.eqAt (I:Inv X pins σ H s) {A:Around} {n m:Nat} {d e:Dat} {v w:V} {u u':Value} (hd:pd n d=true) (he:pd m e=true) (hn:n<=60) (hu:A.units+60<cLine) (r1:Rp X.K H d v) (r2:Rp X.K H e w) (q1:Yo v u) (q2:Yo w u') :
  SeqAt.EqAt A s u u' (Jf d e):=by
 obtain ⟨as,a1,a2⟩:=Rp.reads I d v u hd r1 q1;obtain ⟨bs,b1,b2⟩:=Rp.reads I e w u' he r2 q2;rw [← Rq d e hd he];have:=Rr n d hd;exact SeqAt.eqAt_reads _ _ A s u u' as bs a1 b1 a2 b2 (by lia)
end
def Mtb:Option HO->Prop
 | some (.lst _)=>True
 | some (.dK _)=>True
 | some (.dT _)=>True
 | _=>False
def U4 (A:AS) (H:Hp):Prop:=∀ a,A a=true->Mtb (H a)
theorem U4.new {A:AS} {H:Hp} (m:U4 A H) {p:Addr} (h:H p=none):A p=false:=by
 cases q:A p with
 | false=>rfl
 | true=>have:=m p q;rw [h] at this;exact this.elim
theorem U4.mono {A:AS} {H H':Hp} (m:U4 A H) (e:Zo H H'):U4 A H':=fun a h=>by
 have:=m a h;cases q:H a with
 | none=>rw [q] at this;exact this.elim
 | some o=>rw [q] at this;rw [e a o q];exact this
def ins (A:AS) (p:Addr):AS:=fun a=>A a||a==p
theorem Kb {A:AS} {p:Addr}:ins A p p=true:=by simp [ins]
theorem Sy {A:AS} {p a:Addr} (h:A a=true):ins A p a=true:=by simp [ins,h]
theorem My {A:AS} {p a:Addr} (h:ins A p a=true):A a=true\/a=p:=by simpa [ins] using h
theorem F6 {A:AS} {p a:Addr} (h:A a=false) (hn:a≠p):ins A p a=false:=by simp [ins,h,hn]
structure Step (A:AS) (H:Hp) (A':AS) (H':Hp):Prop where
 keep:∀ a o,H a=some o->A a=false->H' a=some o
 sub:∀ a,A' a=true->A a=true\/H a=none
theorem Step.refl (A:AS) (H:Hp):Step A H A H:=⟨fun _ _ h _=>h,fun _ h=>.inl h⟩
theorem Step.same {A:AS} {H H':Hp} (e:Zo H H'):Step A H A H':=⟨fun a o h _=>e a o h,fun _ h=>.inl h⟩
theorem Step.trans {A A1 A2:AS} {H H1 H2:Hp} (a:Step A H A1 H1) (b:Step A1 H1 A2 H2):Step A H A2 H2 where
 keep:=fun c o h hA=>b.keep c o (a.keep c o h hA) (by
  cases q:A1 c with
  | false=>rfl
  | true =>
   rcases a.sub c q with z | z
   ·rw [z] at hA;cases hA
   ·rw [z] at h;cases h)
 sub:=fun c h=>by
  rcases b.sub c h with z | z
  ·exact a.sub c z
  ·cases qA:A c with
   | true=>exact .inl rfl
   | false =>
    cases q:H c with
    | none=>exact .inr rfl
    | some o=>rw [a.keep c o q qA] at z;cases z
theorem Step.av {A A':AS} {H H':Hp} (s:Step A H A' H'):Zo (av H A) (av H' A'):=fun b o e=>by
 obtain ⟨h1,h2⟩:=Wf e;refine Wl (s.keep b o h2 h1) ?_;cases q:A' b with
 | false=>rfl
 | true =>
  rcases s.sub b q with z | z
  ·rw [z] at h1;cases h1
  ·rw [z] at h2;cases h2
inductive GX where
 | nest (dss:List (List Dat)) | dict (kvs:List (List Ug×Dat)) | err (c f:Str) (ns:List Int)
def GOk (K:PySem.W.Frag) (A:AS) (H:Hp) (o:Addr->Prop):GX->V->Prop
 | .nest dss,v=>∃ (a:Addr) (as:List Addr),v=.ref a/\o a/\dss.length<=sizeLine/\H a=some (.lst (as.map V.ref))/\as.length=dss.length/\as.Nodup/\a∉as/\∀ (n:Nat) b ds,as[n]?=some b->dss[n]?=some ds->o b/\ds.length<=sizeLine/\∃ vs,H b=some (.lst vs)/\Wg K (av H A) ds vs
 | .dict kvs,v=>∃ (a:Addr) (us:List (List Ug×V)),v=.ref a/\o a/\kvs.length<=sizeLine/\H a=some (.dT us)/\us.map (·.1)=kvs.map (·.1)/\Wg K (av H A) (kvs.map (·.2)) (us.map (·.2))
 | .err c f ns,v=>∃ (e C dx:Addr) (fvs:List (Str×V)) (a:Addr),v=.ref e/\av H A e=some (.ext (Xg e C (some dx)))/\W5 K c C/\av H A dx=some (.xd fvs)/\(∀ g,g≠f->fvs.lookup g=none)/\fvs.lookup f=some (.ref a)/\o a/\H a=some (.lst (ns.map V.int))/\ns.length<=sizeLine
theorem GOk.frame {K:PySem.W.Frag} {A A':AS} {H H':Hp} {o o':Addr->Prop} {g:GX} {v:V} (h:GOk K A H o g v) (ho:∀ b,o b->o' b) (hf:∀ b x,o b->H b=some x->H' b=some x) (ha:Zo (av H A) (av H' A')):GOk K A' H' o' g v:=by
 cases g with
 | nest dss =>
  obtain ⟨a,as,e1,e2,e3,e4,e5,e6,e7,e8⟩:=h;refine ⟨a,as,e1,ho a e2,e3,hf _ _ e2 e4,e5,e6,e7,fun n b ds q1 q2=>?_⟩;obtain ⟨f1,f2,vs,f3,f4⟩:=e8 n b ds q1 q2;exact ⟨ho b f1,f2,vs,hf _ _ f1 f3,f4.mono ha⟩
 | dict kvs =>
  obtain ⟨a,us,e1,e2,e3,e4,e5,e6⟩:=h;exact ⟨a,us,e1,ho a e2,e3,hf _ _ e2 e4,e5,e6.mono ha⟩
 | err c f ns =>
  obtain ⟨x,C,dx,fvs,a,h1,h2,h3,h4,h5,h6,h7,h8,h9⟩:=h;exact ⟨x,C,dx,fvs,a,h1,ha _ _ h2,h3,ha _ _ h4,h5,h6,ho a h7,hf _ _ h7 h8,h9⟩
inductive Slt where
 | un | fz (d:Dat) | pk (d:Dat) | ow (ds:List Dat) | gx (g:GX)
abbrev Ev:=List Slt
def Kn (K:PySem.W.Frag) (A:AS) (H:Hp) (o:Addr->Prop):Slt->Option V->Prop
 | .un,_=>True
 | .fz d,x=>∃ v,x=some v/\Rp K (av H A) d v
 | .pk d,x=>∃ v,x=some v/\Pk K A H d v
 | .ow ds,x=>∃ a vs,x=some (.ref a)/\o a/\ds.length<=sizeLine/\H a=some (.lst vs)/\Wg K (av H A) ds vs
 | .gx g,x=>∃ v,x=some v/\GOk K A H o g v
structure Bs where
 H₀:Hp
 R:AS
 st:Bool
structure EnvOk (K:PySem.W.Frag) (B:Bs) (A:AS) (H:Hp) (σ:St) (env:Ev):Prop where
 h0:Zo B.H₀ H
 r0:∀ a,B.R a=true->∃ o,B.H₀ a=some o
 ra:∀ a,B.R a=true->A a=true
 ar:∀ a,A a=true->B.R a=true\/B.H₀ a=none
 mu:U4 A H
 len:σ.length=env.length
 np:B.st=true->∀ (i:Nat) d,env[i]?≠some (.pk d)
 sl:∃ own:Nat->Addr->Prop,(∀ i j a,own i a->own j a->i=j)/\(∀ i a,own i a->A a=true/\B.R a=false) /\
  ∀ (i:Nat) s,env[i]?=some s->∃ x,σ[i]?=some x/\Kn K A H (own i) s x
theorem Kn.mono {K:PySem.W.Frag} {A:AS} {H H':Hp} (e:Zo H H') {o:Addr->Prop} {s:Slt} {x:Option V} (h:Kn K A H o s x):Kn K A H' o s x:=by
 cases s with
 | un=>trivial
 | fz d=>obtain ⟨v,e1,e2⟩:=h;exact ⟨v,e1,e2.mono (Ws e)⟩
 | pk d=>obtain ⟨v,e1,e2⟩:=h;exact ⟨v,e1,e2.mono e⟩
 | ow ds=>obtain ⟨a,vs,e1,e2,hz,e3,e4⟩:=h;exact ⟨a,vs,e1,e2,hz,e _ _ e3,e4.mono (Ws e)⟩
 | gx g=>obtain ⟨v,e1,e2⟩:=h;exact ⟨v,e1,e2.frame (fun _ z=>z) (fun b x _ q=>e b x q) (Ws e)⟩
theorem EnvOk.mono {K:PySem.W.Frag} {B:Bs} {A:AS} {H H':Hp} {σ:St} {env:Ev} (k:EnvOk K B A H σ env) (e:Zo H H'):EnvOk K B A H' σ env:=by
 obtain ⟨own,h1,h2,h4⟩:=k.sl;exact ⟨k.h0.trans e,k.r0,k.ra,k.ar,k.mu.mono e,k.len,k.np,own,h1,h2,fun i s q=>let ⟨x,q2,q3⟩:=h4 i s q;⟨x,q2,q3.mono e⟩⟩
def Rm (m:Bool) (K:PySem.W.Frag) (A:AS) (H:Hp) (d:Dat) (v:V):Prop:=match m with
 | true=>Pk K A H d v
 | false=>Rp K (av H A) d v
theorem Rm.any {m:Bool} {K:PySem.W.Frag} {A:AS} {H:Hp} {d:Dat} {v:V} (h:Rp K (av H A) d v):Rm m K A H d v:=by
 cases m with
 | true=>exact .inl h
 | false=>exact h
theorem Rm.pk {m:Bool} {K:PySem.W.Frag} {A:AS} {H:Hp} {d:Dat} {v:V} (h:Rm m K A H d v):Pk K A H d v:=by
 cases m with
 | true=>exact h
 | false=>exact .inl h
theorem Rm.mono {m:Bool} {K:PySem.W.Frag} {A:AS} {H H':Hp} (e:Zo H H') {d:Dat} {v:V} (h:Rm m K A H d v):Rm m K A H' d v:=by
 cases m with
 | true=>exact Pk.mono e h
 | false=>exact Rp.mono (Ws e) h
def Xu (m:Bool) (K:PySem.W.Frag) (A:AS) (H:Hp):List Dat->List V->Prop
 | [],vs=>vs=[]
 | d::ds,vs=>∃ v r,vs=v::r/\Rm m K A H d v/\Xu m K A H ds r
theorem Xu.rps {K:PySem.W.Frag} {A:AS} {H:Hp}:∀ {ds:List Dat} {vs:List V},Xu false K A H ds vs->Wg K (av H A) ds vs
 | [],vs,h=>by rw [show vs=[] from h];exact U0
 | _::_,_,⟨v,r,e1,e2,e3⟩=>by rw [e1];exact Us e2 (Xu.rps e3)
theorem Xu.full {m:Bool} {K:PySem.W.Frag} {A:AS} {H:Hp}:∀ {ds:List Dat} {vs:List V},Xu m K A H ds vs->Wg K H ds vs
 | [],vs,h=>by rw [show vs=[] from h];exact U0
 | _::_,_,⟨v,r,e1,e2,e3⟩=>by rw [e1];exact Us e2.pk.rp (Xu.full e3)
theorem Xu.one {m:Bool} {K:PySem.W.Frag} {A:AS} {H:Hp} {d:Dat} {vs:List V} (h:Xu m K A H [d] vs):∃ v,vs=[v]/\Pk K A H d v:=by
 obtain ⟨v,r,e1,e2,e3⟩:=h;exact ⟨v,by rw [e1,show r=[] from e3],e2.pk⟩
theorem Xu.two {m:Bool} {K:PySem.W.Frag} {A:AS} {H:Hp} {d d':Dat} {vs:List V} (h:Xu m K A H [d,d'] vs):∃ v v',vs=[v,v']/\Pk K A H d v/\Pk K A H d' v':=by
 obtain ⟨v,r,e1,e2,v',r',e3,e4,e5⟩:=h;exact ⟨v,v',by rw [e1,e3,show r'=[] from e5],e2.pk,e4.pk⟩
def T8 (m:Bool) (K:PySem.W.Frag) (A:AS) (H:Hp) (d:Dat) (Q:VK):Prop:=∀ v H',Zo H H'->Rm m K A H' d v->Q v H'
def Lo (K:PySem.W.Frag) (A:AS) (H:Hp) (ds:List Dat) (Q:VK):Prop:=∀ p vs H',ds.length<=sizeLine->Zo H H'->H p=none->H' p=some (.lst vs)->Wg K (av H' (ins A p)) ds vs->Q (.ref p) H'
section
variable {m:Bool} {K:PySem.W.Frag} {A:AS} {H H':Hp} {d:Dat} {ds:List Dat} {Q:VK}
theorem T8.mono (h:T8 m K A H d Q) (e:Zo H H'):T8 m K A H' d Q:=fun v H2 e2 r=>h v H2 (e.trans e2) r
theorem Lo.mono (h:Lo K A H ds Q) (e:Zo H H'):Lo K A H' ds Q:=fun p vs H2 hz e2 hn hp r=>h p vs H2 hz (e.trans e2) (e.free hn) hp r
theorem T8.any (h:T8 m K A H d Q):T8 false K A H d Q:=fun v H' e r=>h v H' e (Rm.any r)
theorem T8.here {v:V} (h:T8 m K A H d Q) (r:Rp K (av H A) d v):Q v H:=h v H (Zo.refl H) (Rm.any r)
theorem T8.new (h:T8 m K A H (.lst ds) Q) (mu:U4 A H):Lo K A H ds Q:=fun p vs H' hz e hn hp r=>by
 refine h _ H' e (Rm.any (D3 hz (.inl (.inl (Wl hp (mu.new hn)))) (r.mono (Tg fun a q=>Sy q))))
theorem Lo.at {vs:List V} (h:Lo K A H ds Q) (hz:ds.length<=sizeLine) (r:Wg K (av H A) ds vs):∀ p,H p=none->Q (.ref p) (W4 H p (.lst vs)):=fun p hp=>by
 refine h p vs _ hz (Zo.new hp) hp Zs (r.mono fun b o e=>?_);obtain ⟨h1,h2⟩:=Wf e;have hb:b≠p:=Y4 h2 hp;exact Wl (by rw [Zh hb];exact h2) (F6 h1 hb)
theorem T8.tup {vs:List V} (h:T8 m K A H (.tup ds) Q) (mu:U4 A H) (hz:ds.length<=sizeLine) (r:Wg K (av H A) ds vs):∀ p,H p=none->Q (.ref p) (W4 H p (.tup vs)):=fun p hp=>by
 refine h _ _ (Zo.new hp) (Rm.any (F8 hz (.inl ((Wl Zs (mu.new hp)))) (r.mono (Ws (Zo.new hp)))))
end
def We (m:Bool) (X:Cx) (e:Expr) (f:Ev->Option Dat):Prop:=PE X e fun σ H Q=>∃ env R A d,EnvOk X.K R A H σ env/\f env=some d/\T8 m X.K A H d Q
def PNd (X:Cx) (e:Expr) (f:Ev->Option (List Dat)):Prop:=PE X e fun σ H Q=>∃ env R A ds,EnvOk X.K R A H σ env/\f env=some ds/\Lo X.K A H ds Q
def Lb (m:Bool) (X:Cx) (es:List Expr) (f:Ev->Option (List Dat)):Prop:=PA X es fun σ H Q=>∃ env R A ds,EnvOk X.K R A H σ env/\f env=some ds/\∀ vs H',Zo H H'->Xu m X.K A H' ds vs->Q vs H'
def Au (X:Cx) (e:Expr) (f:Ev->Option Bool):Prop:=PT X e fun σ H Q=>∃ env R A b,EnvOk X.K R A H σ env/\f env=some b/\∀ H',Zo H H'->Q b H'
def PWd (X:Cx) (e:Expr) (f:Ev->Option Bool):Prop:=PW X e fun σ H Q=>∃ env R A b,EnvOk X.K R A H σ env/\f env=some b/\∀ H',Zo H H'->Q b H'
theorem PE.weak {X:Cx} {e:Expr} {t t':TE} (h:PE X e t) (w:∀ σ H Q,t' σ H Q->t σ H Q):PE X e t':=fun pins s σ H Q I q=>h pins s σ H Q I (w σ H Q q)
theorem PT.weak {X:Cx} {e:Expr} {t t':TT} (h:PT X e t) (w:∀ σ H Q,t' σ H Q->t σ H Q):PT X e t':=fun pins s σ H Q I q=>h pins s σ H Q I (w σ H Q q)
theorem PW.weak {X:Cx} {e:Expr} {t t':TT} (h:PW X e t) (w:∀ σ H Q,t' σ H Q->t σ H Q):PW X e t':=fun wh pins s σ H Q I q=>h wh pins s σ H Q I (w σ H Q q)
theorem PA.weak {X:Cx} {e:List Expr} {t t':TA} (h:PA X e t) (w:∀ σ H Q,t' σ H Q->t σ H Q):PA X e t':=fun pos pins s σ H Q I q=>h pos pins s σ H Q I (w σ H Q q)
theorem PS.weak {X:Cx} {e:Stmt} {t t':TS} (h:PS X e t) (w:∀ D σ H,t' D σ H->t D σ H):PS X e t':=fun pins s σ H D I q=>h pins s σ H D I (w D σ H q)
theorem Sm.weak {X:Cx} {e:List Stmt} {t t':TS} (h:Sm X e t) (w:∀ D σ H,t' D σ H->t D σ H):Sm X e t':=fun pins s σ H D I q=>h pins s σ H D I (w D σ H q)
section
variable {m:Bool} {X:Cx} {e:Expr} {f:Ev->Option Dat}
theorem We.any (h:We false X e f):We m X e f:=h.weak fun _ _ _ ⟨env,R,A,d,k,q1,q2⟩=>⟨env,R,A,d,k,q1,q2.any⟩
def dL (g:Ev->Option (List Dat)):Ev->Option Dat:=fun env=>(g env).map .lst
theorem PNd.x {g:Ev->Option (List Dat)} (h:PNd X e g):We m X e (dL g):=h.weak fun _ _ _ zz=>by
 obtain ⟨env,R,A,d,k,q1,q2⟩:=zz;unfold dL at q1;cases q:g env with
 | none=>rw [q] at q1;cases q1
 | some ds =>
  rw [q] at q1;cases q1;exact ⟨env,R,A,ds,k,q,q2.new k.mu⟩
theorem bind_some {α β:Type} {a:Option α} {g:α->Option β} {b:β} (h:a.bind g=some b):∃ x,a=some x/\g x=some b:=by
 cases a with
 | none=>cases h
 | some x=>exact ⟨x,rfl,h⟩
def dV (i:Nat):Ev->Option Dat:=fun env=>match env[i]? with
 | some (.fz d)=>some d
 | _=>none
def dP (i:Nat):Ev->Option Dat:=fun env=>match env[i]? with
 | some (.fz d)=>some d
 | some (.pk d)=>some d
 | some (.ow ds)=>some (.lst ds)
 | some (.gx (.err c f ns))=>some (.exc c [(f,.nums ns)])
 | _=>none
theorem EnvOk.fz {R:Bs} {A:AS} {H:Hp} {σ:St} {env:Ev} {i:Nat} {d:Dat} (k:EnvOk X.K R A H σ env) (h:env[i]?=some (.fz d)):∃ v,σ[i]?=some (some v)/\Rp X.K (av H A) d v:=by
 obtain ⟨own,h1,h2,h4⟩:=k.sl;obtain ⟨x,q2,v,e1,e2⟩:=h4 i _ h;subst e1;exact ⟨v,q2,e2⟩
theorem EnvOk.look {R:Bs} {A:AS} {H:Hp} {σ:St} {env:Ev} {i:Nat} {d:Dat} (k:EnvOk X.K R A H σ env) (h:dP i env=some d):∃ v,σ[i]?=some (some v)/\Pk X.K A H d v:=by
 obtain ⟨own,h1,h2,h4⟩:=k.sl;unfold dP at h;split at h
 ·rename_i z e
  cases h;obtain ⟨x,q2,v,e1,e2⟩:=h4 i _ e;subst e1;exact ⟨v,q2,.inl e2⟩
 ·rename_i z e
  cases h;obtain ⟨x,q2,v,e1,e2⟩:=h4 i _ e;subst e1;exact ⟨v,q2,e2⟩
 ·rename_i z e
  cases h;obtain ⟨x,q2,a,vs,e1,e2,hz,e3,e4⟩:=h4 i _ e;subst e1;exact ⟨.ref a,q2,.inr (.inl ⟨a,vs,z,rfl,rfl,hz,e3,e4⟩)⟩
 ·rename_i c f ns e
  cases h;obtain ⟨x,q2,v,e1,y,C,dx,fvs,a,h1,h2,h3,h4,h5,h6,h7,h8,h9⟩:=h4 i _ e;subst e1;exact ⟨v,q2,.inr (.inr ⟨c,f,ns,rfl,y,C,dx,fvs,a,h1,(Wf h2).2,h3,(Wf h4).2,h5,h6,h8,h9⟩)⟩
 ·cases h
theorem xv (i:Nat) {x:Str} {pos:Pos} (hN:X.N[i]?=some x:=by rfl) (hv:Al X.env.scope x:=by first | exact Or.inl rfl | exact Or.inr (Or.inl rfl) | exact Or.inr (Or.inr rfl)) (hd:(x==("__debug__" : Str))=false:=by decide)
  (hcd:(x==("__classdict__" : Str))=false:=by decide):We m X (.Name x pos) (dV i):=We.any ((Q3 hN hv hd hcd).weak fun σ H Q zz=>by
 obtain ⟨env,R,A,d,k,q1,q2⟩:=zz;unfold dV at q1;split at q1
 ·rename_i z e
  cases q1;obtain ⟨v,h1,h2⟩:=k.fz e;exact ⟨v,h1,q2.here h2⟩
 ·cases q1)
theorem xo (i:Nat) {x:Str} {pos:Pos} (hN:X.N[i]?=some x:=by rfl) (hv:Al X.env.scope x:=by first | exact Or.inl rfl | exact Or.inr (Or.inl rfl) | exact Or.inr (Or.inr rfl)) (hd:(x==("__debug__" : Str))=false:=by decide)
  (hcd:(x==("__classdict__" : Str))=false:=by decide):We true X (.Name x pos) (dP i):=(Q3 hN hv hd hcd).weak fun σ H Q zz=>by
 obtain ⟨env,R,A,d,k,q1,q2⟩:=zz;obtain ⟨v,h1,h2⟩:=k.look q1;exact ⟨v,h1,q2 v H (Zo.refl H) h2⟩
def dC (d:Dat):Ev->Option Dat:=fun _=>some d
theorem Zbx {i:Int} {j pos}:We m X (.Constant (.int i) j pos) (dC (.int i)):=We.any (Z8n.weak fun _ _ _ ⟨_,_,_,_,_,q1,q2⟩=>by cases q1;exact q2.here Wb)
theorem xbl {b:Bool} {j pos}:We m X (.Constant (.bool b) j pos) (dC (.bl b)):=We.any (Zbw.weak fun _ _ _ ⟨_,_,_,_,_,q1,q2⟩=>by cases q1;exact q2.here Va)
theorem Za6 {j pos}:We m X (.Constant .none j pos) (dC .non):=We.any (Za9.weak fun _ _ _ ⟨_,_,_,_,_,q1,q2⟩=>by cases q1;exact q2.here K3)
theorem Zba {x:Str} {j pos} (h:SOk x:=by decide +kernel):We m X (.Constant (.str x) j pos) (dC (.str x)):=We.any (Z49.weak fun _ _ _ ⟨_,_,_,_,_,q1,q2⟩=>by cases q1;exact q2.here (G6 h))
end
def rD (K:PySem.W.Frag) (F:Dat->Dat->Option Dat):R2:=fun v u H Q=>∃ A x y d,U4 A H/\F x y=some d/\Pk K A H x v/\Pk K A H y u/\T8 false K A H d Q
def rN (K:PySem.W.Frag) (F:Dat->Dat->Option (List Dat)):R2:=fun v u H Q=>∃ A x y ds,U4 A H/\F x y=some ds/\Pk K A H x v/\Pk K A H y u/\Lo K A H ds Q
def Ms (X:Cx) (f:Value->Value->Sem Value) (F:Dat->Dat->Option Dat):Prop:=Si X f (rD X.K F)
def OpN (X:Cx) (f:Value->Value->Sem Value) (F:Dat->Dat->Option (List Dat)):Prop:=Si X f (rN X.K F)
theorem Si.weak {X:Cx} {f:Value->Value->Sem Value} {r r':R2} (h:Si X f r) (w:∀ x y H Q,r' x y H Q->r x y H Q):Si X f r':=fun pins s σ H x y v u Q I rx ry q=>h pins s σ H x y v u Q I rx ry (w _ _ _ _ q)
theorem OpN.d {X:Cx} {f:Value->Value->Sem Value} {F:Dat->Dat->Option (List Dat)} (h:OpN X f F):Ms X f (fun x y=>(F x y).map .lst):=Si.weak h fun v u H Q zz=>by
 obtain ⟨A,x,y,d,mu,e,p1,p2,q⟩:=zz;dsimp only at e;cases z:F x y with
 | none=>rw [z] at e;cases e
 | some ds=>rw [z] at e;cases e;exact ⟨A,x,y,ds,mu,z,p1,p2,q.new mu⟩
def dO (F:Dat->Dat->Option α) (f g:Ev->Option Dat):Ev->Option α:=fun env=>(f env).bind fun x=>(g env).bind fun y=>F x y
section
variable {m m1 m2:Bool} {X:Cx} {a b:Expr} {f g:Ev->Option Dat} {F:Dat->Dat->Option Dat} {G:Dat->Dat->Option (List Dat)} {pos:Pos}
theorem two {r:R2} {σ:St} {H:Hp} {Q:VK} {env:Ev} {R:Bs} {A:AS} {x y:Dat} (k:EnvOk X.K R A H σ env) (e1:f env=some x) (e2:g env=some y)
  (h:∀ v u H2,Zo H H2->Pk X.K A H2 x v->Pk X.K A H2 y u->U4 A H2->r v u H2 Q) :
  tOp r (fun σ H Q=>∃ env R A d,EnvOk X.K R A H σ env/\f env=some d/\T8 m1 X.K A H d Q) (fun σ H Q=>∃ env R A d,EnvOk X.K R A H σ env/\g env=some d/\T8 m2 X.K A H d Q) σ H Q :=
 ⟨env,R,A,x,k,e1,fun v H1 s1 p1=>⟨env,R,A,y,k.mono s1,e2,fun u H2 s2 p2=>h v u H2 (s1.trans s2) (p1.pk.mono s2) p2.pk (k.mu.mono (s1.trans s2))⟩⟩
theorem E2 {α:Type} {F:Dat->Dat->Option α} {env:Ev} {d:α} (h:dO F f g env=some d):∃ x y,f env=some x/\g env=some y/\F x y=some d:=by
 obtain ⟨x,e1,h⟩:=bind_some h;obtain ⟨y,e2,h⟩:=bind_some h;exact ⟨x,y,e1,e2,h⟩
theorem xop {op:Operator} (ho:Ms X (binaryOp op) F) (ha:We m1 X a f) (hb:We m2 X b g):We m X (.BinOp a op b pos) (dO F f g):=We.any ((Z71 ho ha hb).weak fun σ H Q zz=>by
 obtain ⟨env,R,A,d,k,q1,q2⟩:=zz;obtain ⟨x,y,e1,e2,e3⟩:=E2 q1;exact two k e1 e2 fun v u H2 s p1 p2 mu=>⟨A,x,y,d,mu,e3,p1,p2,q2.mono s⟩)
theorem nop {op:Operator} (ho:OpN X (binaryOp op) G) (ha:We m1 X a f) (hb:We m2 X b g):PNd X (.BinOp a op b pos) (dO G f g):=(Z71 ho ha hb).weak fun σ H Q zz=>by
 obtain ⟨env,R,A,d,k,q1,q2⟩:=zz;obtain ⟨x,y,e1,e2,e3⟩:=E2 q1;exact two k e1 e2 fun v u H2 s p1 p2 mu=>⟨A,x,y,d,mu,e3,p1,p2,q2.mono s⟩
theorem Z9c {op:CmpOp} (ho:Ms X (compareOp op) F) (ha:We m1 X a f) (hb:We m2 X b g) (hm:behindInMarks op b=false):We m X (.Compare a [op] [b] pos) (dO F f g):=We.any ((Z64 ho ha hb hm).weak fun σ H Q zz=>by
 obtain ⟨env,R,A,d,k,q1,q2⟩:=zz;obtain ⟨x,y,e1,e2,e3⟩:=E2 q1;exact two k e1 e2 fun v u H2 s p1 p2 mu=>⟨A,x,y,d,mu,e3,p1,p2,q2.mono s⟩)
def dB (f:Ev->Option Dat):Ev->Option Bool:=fun env=>match f env with
 | some (.bl b)=>some b
 | _=>none
theorem Dw {env:Ev} {b:Bool} (h:dB f env=some b):f env=some (.bl b):=by
 unfold dB at h;split at h
 ·rename_i z e;cases h;exact e
 ·cases h
theorem Vn {op:CmpOp} (ho:Ms X (compareOp op) F) (ha:We m1 X a f) (hb:We m2 X b g) (hm:behindInMarks op b=false):Au X (.Compare a [op] [b] pos) (dB (dO F f g)):=(Z56 ho ha hb hm).weak fun σ H Q zz=>by
 obtain ⟨env,R,A,d,k,q1,q2⟩:=zz;obtain ⟨x,y,e1,e2,e3⟩:=E2 (Dw q1);show tOp (rD X.K F) _ _ σ H (fun x H'=>∃ k,x=.bl k/\Q k H');exact two k e1 e2 fun v u H2 s p1 p2 mu=>⟨A,x,y,.bl d,mu,e3,p1,p2,fun v H' s' r=>⟨d,r.pk.bl,q2 H' (s.trans s')⟩⟩
theorem xix (ho:Cb X (rD X.K F)) (ha:We m1 X a f) (hb:We m2 X b g) (hs:Hj b):We m X (.Subscript a b pos) (dO F f g):=We.any ((Z39 ho ha hb hs).weak fun σ H Q zz=>by
 obtain ⟨env,R,A,d,k,q1,q2⟩:=zz;obtain ⟨x,y,e1,e2,e3⟩:=E2 q1;exact two k e1 e2 fun v u H2 s p1 p2 mu=>⟨A,x,y,d,mu,e3,p1,p2,q2.mono s⟩)
end
section
variable {m m1 m2:Bool} {X:Cx} {a b c:Expr} {rest:List Expr} {f g h:Ev->Option Dat} {t u:Ev->Option Bool} {pos:Pos}
def Iv (t u:Ev->Option Bool):Ev->Option Bool:=fun env=>(t env).bind fun b=>if b=true then u env else some false
def Z54 (t u:Ev->Option Bool):Ev->Option Bool:=fun env=>(t env).bind fun b=>if b=true then some true else u env
def Pb (t:Ev->Option Bool):Ev->Option Bool:=fun env=>(t env).map (!·)
theorem O1 (ha:Au X a t):PWd X (.BoolOp .And [a] pos) t:=Z5s ha
theorem Zbu (ha:Au X a t):PWd X (.BoolOp .Or [a] pos) t:=Z9i ha
theorem C2 (ha:Au X a t) (hb:PWd X (.BoolOp .And (b::rest) pos) u):PWd X (.BoolOp .And (a::b::rest) pos) (Iv t u):=(Zal ha hb).weak fun σ H Q zz=>by
 obtain ⟨env,R,A,d,k,q1,q2⟩:=zz;obtain ⟨x,e1,e2⟩:=bind_some q1;refine ⟨env,R,A,x,k,e1,fun H1 s1=>?_⟩;cases x with
 | true =>
  rw [if_pos rfl] at e2 ⊢;exact ⟨env,R,A,d,k.mono s1,e2,fun H2 s2=>q2 H2 (s1.trans s2)⟩
 | false =>
  rw [if_neg Bool.false_ne_true] at e2 ⊢;cases e2;exact q2 H1 s1
theorem Zed (ha:Au X a t) (hb:PWd X (.BoolOp .Or (b::rest) pos) u):PWd X (.BoolOp .Or (a::b::rest) pos) (Z54 t u):=(Zb3 ha hb).weak fun σ H Q zz=>by
 obtain ⟨env,R,A,d,k,q1,q2⟩:=zz;obtain ⟨x,e1,e2⟩:=bind_some q1;refine ⟨env,R,A,x,k,e1,fun H1 s1=>?_⟩;cases x with
 | true =>
  rw [if_pos rfl] at e2 ⊢;cases e2;exact q2 H1 s1
 | false =>
  rw [if_neg Bool.false_ne_true] at e2 ⊢;exact ⟨env,R,A,d,k.mono s1,e2,fun H2 s2=>q2 H2 (s1.trans s2)⟩
theorem PWd.pt {e:Expr} (h:PWd X e t):Au X e t:=PW.pt h
theorem Ze6 (ha:Au X a t):Au X (.UnaryOp .Not a pos) (Pb t):=(Z96 ha).weak fun σ H Q zz=>by
 obtain ⟨env,R,A,d,k,q1,q2⟩:=zz;unfold Pb at q1;cases e:t env with
 | none=>rw [e] at q1;cases q1
 | some x =>
  rw [e] at q1;cases q1;exact ⟨env,R,A,x,k,e,fun H1 s1=>q2 H1 s1⟩
def Z4o (f g:Ev->Option Dat):Ev->Option Dat:=fun env=>(dB f env).bind fun b=>if b=true then g env else some (.bl false)
def F4 (f:Ev->Option Dat):Ev->Option Dat:=fun env=>(dB f env).map fun b=>.bl (!b)
theorem Zek {op} (ha:We m X a f):We m X (.BoolOp op [a] pos) f:=Z9q ha
theorem Zdm (ha:We m1 X a f) (hb:We false X (.BoolOp .And (b::rest) pos) g):We m X (.BoolOp .And (a::b::rest) pos) (Z4o f g):=We.any ((Zae ha hb).weak fun σ H Q zz=>by
 obtain ⟨env,R,A,d,k,q1,q2⟩:=zz;obtain ⟨x,e1,e2⟩:=bind_some q1;refine ⟨env,R,A,.bl x,k,Dw e1,fun v H1 s1 p1=>⟨x,p1.pk.bl,?_⟩⟩;cases x with
 | true =>
  rw [if_pos rfl] at e2 ⊢;exact ⟨env,R,A,d,k.mono s1,e2,q2.mono s1⟩
 | false =>
  rw [if_neg Bool.false_ne_true] at e2 ⊢;cases e2;exact (q2.mono s1).here Va)
theorem Z8g (ha:We m1 X a f):We m X (.UnaryOp .Not a pos) (F4 f):=We.any ((Z9p ha).weak fun σ H Q zz=>by
 obtain ⟨env,R,A,d,k,q1,q2⟩:=zz;unfold F4 at q1;cases e:dB f env with
 | none=>rw [e] at q1;cases q1
 | some x =>
  rw [e] at q1;cases q1;exact ⟨env,R,A,.bl x,k,Dw e,fun v H1 s1 p1=>⟨x,p1.pk.bl,(q2.mono s1).here Va⟩⟩)
def Zey:Dat->Option Bool
 | .non=>some false
 | .bl b=>some b
 | .int i=>some (i != 0)
 | .str y=>some ((y.length:Int) != 0)
 | .lst xs=>some (!xs.isEmpty)
 | .tup xs=>some (!xs.isEmpty)
 | _=>none
def dT (f:Ev->Option Dat):Ev->Option Bool:=fun env=>(f env).bind Zey
theorem Gj {K:PySem.W.Frag} {H:Hp} {ds:List Dat} {vs:List V} (r:Wg K H ds vs):vs.isEmpty=ds.isEmpty:=by
 cases ds with
 | nil=>rw [Yz r];rfl
 | cons d ds=>obtain ⟨v,r',e,_⟩:=Yg r;rw [e];rfl
theorem Ft (ha:We true X a f) (he:∀ whole,isTrue a X.env whole=(do let v ← whole;standAt a.pos;holding [v] (truthy v)):=by intro _;rfl):Au X a (dT f):=(Z1m ha he).weak fun σ H Q zz=>by
 obtain ⟨env,R,A,b,k,q1,q2⟩:=zz;obtain ⟨x,e1,e2⟩:=bind_some q1;refine ⟨env,R,A,x,k,e1,fun v H1 s1 p1=>⟨b,?_,q2 H1 s1⟩⟩;have p:Pk X.K A H1 x v:=p1;cases x with
 | non=>cases e2;rw [p.non];rfl
 | bl b'=>cases e2;rw [p.bl];rfl
 | int i=>cases e2;rw [p.int];rfl
 | str y=>cases e2;obtain ⟨e,h⟩:=p.str;rw [e];exact ⟨h.le,rfl⟩
 | lst xs=>cases e2;obtain ⟨a',vs,e,h1,h2⟩:=p.lst;rw [e];exact .inl ⟨vs,h1.sq,by rw [Gj h2]⟩
 | tup xs=>cases e2;obtain ⟨a',vs,e,h1,h2⟩:=p.tup;rw [e];exact .inr (.inl ⟨vs,h1,by rw [Gj h2]⟩)
 | dct _=>cases e2
 | exc _ _=>cases e2
end
section
variable {m:Bool} {X:Cx} {e:Expr} {es:List Expr} {f:Ev->Option Dat} {fs:Ev->Option (List Dat)} {pos:Pos}
def Zd:Ev->Option (List Dat):=fun _=>some []
def Z2 (f:Ev->Option Dat) (fs:Ev->Option (List Dat)):Ev->Option (List Dat):=fun env=>(f env).bind fun d=>(fs env).map fun ds=>d::ds
theorem Z9:Lb m X [] Zd:=Q2.weak fun σ H Q ⟨env,R,A,ds,k,q1,q2⟩=>by cases q1;exact q2 [] H (Zo.refl H) rfl
theorem Z0 (ha:We m X e f) (hr:Lb m X es fs) (hs:starEach (e::es) X.env=(false,eval e X.env)::starEach es X.env:=by rfl):Lb m X (e::es) (Z2 f fs):=(Wr ha hr hs).weak fun σ H Q zz=>by
 obtain ⟨env,R,A,ds,k,q1,q2⟩:=zz;obtain ⟨d,e1,e2⟩:=bind_some q1;cases e3:fs env with
 | none=>rw [e3] at e2;cases e2
 | some r =>
  rw [e3] at e2;cases e2;exact ⟨env,R,A,d,k,e1,fun v H1 s1 p1=>⟨env,R,A,r,k.mono s1,e3,fun vs H2 s2 p2=>q2 (v::vs) H2 (s1.trans s2) ⟨v,vs,rfl,p1.mono s2,p2⟩⟩⟩
def Yb (fs:Ev->Option (List Dat)):Ev->Option Dat:=fun env=>(fs env).bind fun ds=>if ds.length<=1000 then some (.tup ds) else none
def Vi (fs:Ev->Option (List Dat)):Ev->Option (List Dat):=fun env=>(fs env).bind fun ds=>if ds.length<=1000 then some ds else none
theorem Zbl {x1} (h:Lb false X es fs):We m X (.Tuple es x1 pos) (Yb fs):=We.any ((Z99 h).weak fun σ H Q zz=>by
 obtain ⟨env,R,A,d,k,q1,q2⟩:=zz;obtain ⟨ds,e1,e2⟩:=bind_some q1;split at e2
 ·rename_i hz
  cases e2;have hz':ds.length<=sizeLine:=le_of_lt (Qi hz);refine ⟨env,R,A,ds,k,e1,fun vs H1 s1 p1=>⟨?_,(q2.mono s1).tup (k.mu.mono s1) hz' p1.rps⟩⟩;rw [Zy p1.rps];exact hz'
 ·cases e2)
theorem Uj (h:Lb false X es fs):PNd X (.List es pos) (Vi fs):=(Z2g h).weak fun σ H Q zz=>by
 obtain ⟨env,R,A,d,k,q1,q2⟩:=zz;obtain ⟨ds,e1,e2⟩:=bind_some q1;split at e2
 ·rename_i hz
  cases e2;have hz':d.length<=sizeLine:=le_of_lt (Qi hz);refine ⟨env,R,A,d,k,e1,fun vs H1 s1 p1=>⟨?_,(q2.mono s1).at hz' p1.rps⟩⟩;rw [Zy p1.rps];exact hz'
 ·cases e2
def Gk (X:Cx) (f:Value) (F:List Dat->Option Dat):Prop:=V5 X f (fun vs H Q=>∃ A ds d,U4 A H/\F ds=some d/\Xu true X.K A H ds vs/\T8 false X.K A H d Q)
def C1 (X:Cx) (f:Value) (F:List Dat->Option (List Dat)):Prop:=V5 X f (fun vs H Q=>∃ A ds d,U4 A H/\F ds=some d/\Xu true X.K A H ds vs/\Lo X.K A H d Q)
theorem V5.weak {f:Value} {r r':List V->Hp->VK->Prop} (h:V5 X f r) (w:∀ xs H Q,r' xs H Q->r xs H Q):V5 X f r':=fun pins s σ H xs us Q I rv q=>h pins s σ H xs us Q I rv (w _ _ _ q)
def dF (F:List Dat->Option α) (fs:Ev->Option (List Dat)):Ev->Option α:=fun env=>(fs env).bind F
variable {x:Str} {p:Pos} {id T:String} {F:List Dat->Option Dat} {G:List Dat->Option (List Dat)}
theorem Z40 (hc:Gk X (.builtin id) F) (hg:Gl X x) (hm:X.mg x=none) (hv:bootBuiltins x=some (.builtin id)) (ha:Lb true X (e::es) fs) (hn:x≠"__name__" := by decide) (hdb:(x==("__debug__" : Str))=false:=by decide)
  (he:starEach (e::es) X.env=(false,eval e X.env)::starEach es X.env:=by rfl) (hpl:(backTo pos (starEach es X.env)).any (·.1)=false:=by rfl):We m X (.Call (.Name x p) (e::es) [] pos) (dF F fs) :=
 We.any ((R9 hc hg hm hv ha hn hdb he hpl).weak fun σ H Q zz=>by
  obtain ⟨env,R,A,d,k,q1,q2⟩:=zz;obtain ⟨ds,e1,e2⟩:=bind_some q1;exact ⟨env,R,A,ds,k,e1,fun vs H1 s1 p1=>⟨A,ds,d,k.mu.mono s1,e2,p1,q2.mono s1⟩⟩)
theorem Uq (hc:Gk X (.type T) F) (hg:Gl X x) (hm:X.mg x=none) (hv:bootBuiltins x=some (.type T)) (ha:Lb true X (e::es) fs) (hn:x≠"__name__" := by decide) (hdb:(x==("__debug__" : Str))=false:=by decide)
  (he:starEach (e::es) X.env=(false,eval e X.env)::starEach es X.env:=by rfl) (hpl:(backTo pos (starEach es X.env)).any (·.1)=false:=by rfl):We m X (.Call (.Name x p) (e::es) [] pos) (dF F fs) :=
 We.any ((S7 hc hg hm hv ha hn hdb he hpl).weak fun σ H Q zz=>by
  obtain ⟨env,R,A,d,k,q1,q2⟩:=zz;obtain ⟨ds,e1,e2⟩:=bind_some q1;exact ⟨env,R,A,ds,k,e1,fun vs H1 s1 p1=>⟨A,ds,d,k.mu.mono s1,e2,p1,q2.mono s1⟩⟩)
theorem Rg (hc:C1 X (.builtin id) G) (hg:Gl X x) (hm:X.mg x=none) (hv:bootBuiltins x=some (.builtin id)) (ha:Lb true X (e::es) fs) (hn:x≠"__name__" := by decide) (hdb:(x==("__debug__" : Str))=false:=by decide)
  (he:starEach (e::es) X.env=(false,eval e X.env)::starEach es X.env:=by rfl) (hpl:(backTo pos (starEach es X.env)).any (·.1)=false:=by rfl):PNd X (.Call (.Name x p) (e::es) [] pos) (dF G fs) :=
 (R9 hc hg hm hv ha hn hdb he hpl).weak fun σ H Q zz=>by
  obtain ⟨env,R,A,d,k,q1,q2⟩:=zz;obtain ⟨ds,e1,e2⟩:=bind_some q1;exact ⟨env,R,A,ds,k,e1,fun vs H1 s1 p1=>⟨A,ds,d,k.mu.mono s1,e2,p1,q2.mono s1⟩⟩
theorem Z9v (hc:C1 X (.type T) G) (hg:Gl X x) (hm:X.mg x=none) (hv:bootBuiltins x=some (.type T)) (ha:Lb true X (e::es) fs) (hn:x≠"__name__" := by decide) (hdb:(x==("__debug__" : Str))=false:=by decide)
  (he:starEach (e::es) X.env=(false,eval e X.env)::starEach es X.env:=by rfl) (hpl:(backTo pos (starEach es X.env)).any (·.1)=false:=by rfl):PNd X (.Call (.Name x p) (e::es) [] pos) (dF G fs) :=
 (S7 hc hg hm hv ha hn hdb he hpl).weak fun σ H Q zz=>by
  obtain ⟨env,R,A,d,k,q1,q2⟩:=zz;obtain ⟨ds,e1,e2⟩:=bind_some q1;exact ⟨env,R,A,ds,k,e1,fun vs H1 s1 p1=>⟨A,ds,d,k.mu.mono s1,e2,p1,q2.mono s1⟩⟩
end
section
variable {m m1:Bool} {X:Cx} {o e:Expr} {es:List Expr} {f:Ev->Option Dat} {fs:Ev->Option (List Dat)} {pos apos cpos:Pos} {name:Str} {T id:String} {α:Type}
def Ov (T:String):Dat->Bool
 | .str _=>T=="str"
 | .int _=>T=="int"
 | .lst _=>T=="list"
 | _=>false
theorem Z95 {K:PySem.W.Frag} {A:AS} {H:Hp} {d:Dat} {v:V} (h:Ov T d=true) (p:Pk K A H d v):tyV K T v H:=by
 cases d with
 | str x=>rw [p.str.1];show T="str";simpa [Ov] using h
 | int x=>rw [p.int];show T="int";simpa [Ov] using h
 | lst x=>obtain ⟨a,vs,e,h1,h2⟩:=p.lst;rw [e];exact .inl ⟨by simpa [Ov] using h,vs,h1.sq⟩
 | _=>cases h
def MtD (X:Cx) (id:String) (F:Dat->List Dat->Option Dat):Prop:=MtR X id (fun v vs H Q=>∃ A x ds d,U4 A H/\F x ds=some d/\Pk X.K A H x v/\Xu true X.K A H ds vs/\T8 false X.K A H d Q)
def dM (T:String) (F:Dat->List Dat->Option α) (f:Ev->Option Dat) (fs:Ev->Option (List Dat)):Ev->Option α:=fun env=>(f env).bind fun x=>if Ov T x=true then (fs env).bind fun ds=>F x ds else none
theorem Z61 {F:Dat->List Dat->Option α} {env:Ev} {d:α} (h:dM T F f fs env=some d):∃ x ds,f env=some x/\Ov T x=true/\fs env=some ds/\F x ds=some d:=by
 obtain ⟨x,e1,h⟩:=bind_some h;split at h
 ·rename_i ht
  obtain ⟨ds,e2,h⟩:=bind_some h;exact ⟨x,ds,e1,ht,e2,h⟩
 ·cases h
theorem MtR.weak {r r':V->List V->Hp->VK->Prop} (h:MtR X id r) (w:∀ x xs H Q,r' x xs H Q->r x xs H Q):MtR X id r':=fun pins s σ H x xs v us Q I rx rv q=>h pins s σ H x xs v us Q I rx rv (w _ _ _ _ q)
variable {F:Dat->List Dat->Option Dat} {G:Dat->List Dat->Option (List Dat)}
theorem xbm (pa:PlainAttrs T) (slot:Slot T name id) (hty:typeOf (.builtin id)=pure (.type "method_descriptor")) (hm:MtD X id F) (ho:We m1 X o f) (ha:Lb true X (e::es) fs)
  (hbase:attributeBase o name X.env (eval o X.env)=eval o X.env:=by rfl)
  (hfew:((backTo cpos (starEach (e::es) X.env)).all (fun x=>!x.1)&&(backToKw cpos (keywordEach [] X.env)).all (fun x=>x.1.isSome)
   && decide ((e::es).length+([]:List Keyword).length+(if ([]:List Keyword).isEmpty then 0 else 1)<30))=true:=by rfl)
  (hline:(apos.endLine==cpos.line)=true:=by rfl) (hs:starEach (e::es) X.env=(false,eval e X.env)::starEach es X.env:=by rfl) (hplain:(backTo cpos (starEach es X.env)).any (·.1)=false:=by rfl) :
  We m X (.Call (.Attribute o name apos) (e::es) [] cpos) (dM T F f fs):=We.any ((Bq pa slot hty hm ho ha hbase hfew hline hs hplain).weak fun σ H Q zz=>by
 obtain ⟨env,R,A,d,k,q1,q2⟩:=zz;obtain ⟨x,ds,e1,ht,e2,e3⟩:=Z61 q1;exact ⟨env,R,A,x,k,e1,fun v H1 s1 p1=>⟨Z95 ht p1.pk,env,R,A,ds,k.mono s1,e2,fun vs H2 s2 p2=>⟨A,x,ds,d,k.mu.mono (s1.trans s2),e3,p1.pk.mono s2,p2,q2.mono (s1.trans s2)⟩⟩⟩)
def POd (X:Cx) (e:Option Expr) (f:Ev->Option (Option Int)):Prop:=PO X e fun σ H Q=>∃ env R A i,EnvOk X.K R A H σ env/\f env=some i/\∀ H',Zo H H'->Q i H'
def Q7:Ev->Option (Option Int):=fun _=>some none
def Ui (f:Ev->Option Dat):Ev->Option (Option Int):=fun env=>match f env with
 | some (.int i)=>some (some i)
 | _=>none
theorem PO.weak {e:Option Expr} {t t':TO} (h:PO X e t) (w:∀ σ H Q,t' σ H Q->t σ H Q):PO X e t':=fun pins s σ H Q I q=>h pins s σ H Q I (w σ H Q q)
theorem Tb:POd X none Q7:=Z6p.weak fun σ H Q ⟨env,R,A,i,k,q1,q2⟩=>by cases q1;exact q2 H (Zo.refl H)
theorem Ux (h:We m X e f):POd X (some e) (Ui f):=(Z5h h).weak fun σ H Q zz=>by
 obtain ⟨env,R,A,i,k,q1,q2⟩:=zz;unfold Ui at q1;split at q1
 ·rename_i n e1
  cases q1;exact ⟨env,R,A,_,k,e1,fun v H1 s1 p1=>⟨n,p1.pk.int,q2 H1 s1⟩⟩
 ·cases q1
def SlD (X:Cx) (F:Dat->Option Int->Option Int->Option Dat):Prop:=Be X (fun v lo hi H Q=>∃ A x d,U4 A H/\F x lo hi=some d/\Pk X.K A H x v/\T8 false X.K A H d Q)
def dS (F:Dat->Option Int->Option Int->Option α) (f:Ev->Option Dat) (g h:Ev->Option (Option Int)):Ev->Option α:=fun env=>(f env).bind fun x=>(g env).bind fun l=>(h env).bind fun u=>F x l u
variable {lo hi:Option Expr} {gl gh:Ev->Option (Option Int)} {p2:Pos}
theorem Z6j {F:Dat->Option Int->Option Int->Option α} {env:Ev} {d:α} (h:dS F f gl gh env=some d):∃ x l u,f env=some x/\gl env=some l/\gh env=some u/\F x l u=some d:=by
 obtain ⟨x,e1,h⟩:=bind_some h;obtain ⟨l,e2,h⟩:=bind_some h;obtain ⟨u,e3,h⟩:=bind_some h;exact ⟨x,l,u,e1,e2,e3,h⟩
theorem Ik {F:Dat->Option Int->Option Int->Option Dat} (hr:SlD X F) (he:We m1 X e f) (hl:POd X lo gl) (hu:POd X hi gh):We m X (.Subscript e (.Slice lo hi none p2) pos) (dS F f gl gh):=We.any ((Z4a hr he hl hu).weak fun σ H Q zz=>by
 obtain ⟨env,R,A,d,k,q1,q2⟩:=zz;obtain ⟨x,l,u,e1,e2,e3,e4⟩:=Z6j q1;exact ⟨env,R,A,x,k,e1,fun v H1 s1 p1=>⟨env,R,A,l,k.mono s1,e2,fun H2 s2=>⟨env,R,A,u,k.mono (s1.trans s2),e3,fun H3 s3=>⟨A,x,d,k.mu.mono ((s1.trans s2).trans s3),e4,p1.pk.mono (s2.trans s3),q2.mono ((s1.trans s2).trans s3)⟩⟩⟩⟩)
def UnD (X:Cx) (g:Value->Sem Value) (F:Dat->Option Dat):Prop:=UnR X g (fun v H Q=>∃ A x d,U4 A H/\F x=some d/\Pk X.K A H x v/\T8 false X.K A H d Q)
def dU (F:Dat->Option Dat) (f:Ev->Option Dat):Ev->Option Dat:=fun env=>(f env).bind F
theorem xun {op:UnaryOp} {F:Dat->Option Dat} (ho:UnD X (unaryOp op) F) (ha:We m1 X e f):We m X (.UnaryOp op e pos) (dU F f):=We.any ((Zc6 ho ha).weak fun σ H Q zz=>by
 obtain ⟨env,R,A,d,k,q1,q2⟩:=zz;obtain ⟨x,e1,e2⟩:=bind_some q1;exact ⟨env,R,A,x,k,e1,fun v H1 s1 p1=>⟨A,x,d,k.mu.mono s1,e2,p1.pk,q2.mono s1⟩⟩)
end
section
variable {X:Cx}
def Ow (C:Int->Int->Prop) [∀ i j,Decidable (C i j)] (g:Int->Int->Dat):Dat->Dat->Option Dat
 | .int i,.int j=>if C i j then some (g i j) else none
 | _,_=>none
theorem Z1t {f:Value->Value->Sem Value} {C:Int->Int->Prop} [∀ i j,Decidable (C i j)] {g:Int->Int->V} {G:Int->Int->Dat} (h:Si X f (rI C g)) (hg:∀ K H i j,Rp K H (G i j) (g i j)):Ms X f (Ow C G):=h.weak fun v u H Q zz=>by
 obtain ⟨A,x,y,d,mu,e,p1,p2,q⟩:=zz;unfold Ow at e;split at e
 ·rename_i i j
  split at e
  ·rename_i hc
   cases e;exact ⟨i,j,p1.int,p2.int,hc,q.here (hg _ _ _ _)⟩
  ·cases e
 ·cases e
theorem Gw {f:Value->Value->Sem Value} {g:Int->Int->V} {G:Int->Int->Dat} (h:Si X f (rI0 g)) (hg:∀ K H i j,Rp K H (G i j) (g i j)):Ms X f (Ow (fun _ _=>True) G):=h.weak fun v u H Q zz=>by
 obtain ⟨A,x,y,d,mu,e,p1,p2,q⟩:=zz;unfold Ow at e;split at e
 ·rename_i i j
  rw [if_pos trivial] at e;cases e;exact ⟨i,j,p1.int,p2.int,q.here (hg _ _ _ _)⟩
 ·cases e
instance:∀ i j,Decidable (Fp i j):=fun i j=>by unfold Fp;infer_instance
instance:∀ i j,Decidable (Z46 i j):=fun i j=>by unfold Z46;infer_instance
instance:∀ i j,Decidable (Z63 i j):=fun i j=>by unfold Z63;infer_instance
def Fc:=Ow (fun _ _=>True) fun i j=>.int (i - j)
def Ya:=Ow Z46 fun i j=>.int (i / j)
def W3:=Ow (fun _ j=>0<j) fun i j=>.int (i % j)
def Mr:=Ow Z63 fun i j=>.int (i*2^j.toNat)
def R5:=Ow (fun _ j=>0<=j) fun i j=>.int (i / 2^j.toNat)
def Qu:=Ow (fun _ _=>True) fun i j=>.int (Builtin.bitAnd i j)
def orD:=Ow (fun _ _=>True) fun i j=>.int (Builtin.bitOr i j)
def Z5q:=Ow (fun _ _=>True) fun i j=>.int (Builtin.bitXor i j)
def ltD:=Ow (fun _ _=>True) fun i j=>.bl (decide (i<j))
def gtD:=Ow (fun _ _=>True) fun i j=>.bl (decide (j<i))
def geD:=Ow (fun _ _=>True) fun i j=>.bl (decide (j<=i))
theorem Bd:Ms X (binaryOp .Sub) Fc:=Gw Z8q fun _ _ _ _=>Wb
theorem Y1:Ms X (binaryOp .FloorDiv) Ya:=Z1t Z6b fun _ _ _ _=>Wb
theorem Yh:Ms X (binaryOp .Mod) W3:=Z1t Z7t fun _ _ _ _=>Wb
theorem Qo:Ms X (binaryOp .LShift) Mr:=Z1t Za4 fun _ _ _ _=>Wb
theorem Dz:Ms X (binaryOp .RShift) R5:=Z1t Z89 fun _ _ _ _=>Wb
theorem Jh:Ms X (binaryOp .BitAnd) Qu:=Gw Z8b fun _ _ _ _=>Wb
theorem Z1y:Ms X (binaryOp .BitOr) orD:=Gw Zcs fun _ _ _ _=>Wb
theorem Z7n:Ms X (binaryOp .BitXor) Z5q:=Gw Za3 fun _ _ _ _=>Wb
theorem Z8v:Ms X (compareOp .Lt) ltD:=Gw Zbd fun _ _ _ _=>Va
theorem Zej:Ms X (compareOp .Gt) gtD:=Gw Zbv fun _ _ _ _=>Va
theorem Zdi:Ms X (compareOp .GtE) geD:=Gw Zck fun _ _ _ _=>Va
theorem Ms.or {f:Value->Value->Sem Value} {F G E:Dat->Dat->Option Dat} (h:Ms X f F) (h':Ms X f G) (he:∀ x y d,E x y=some d->F x y=some d\/G x y=some d):Ms X f E:=fun pins s σ H x y v u Q I rx ry zz=>by
 obtain ⟨A,a,b,d,mu,e,p1,p2,q⟩:=zz;rcases he _ _ _ e with e | e
 ·exact h pins s σ H x y v u Q I rx ry ⟨A,a,b,d,mu,e,p1,p2,q⟩
 ·exact h' pins s σ H x y v u Q I rx ry ⟨A,a,b,d,mu,e,p1,p2,q⟩
def Z8w:Dat->Option Dat
 | .int i=>some (.int (Builtin.bitNot i))
 | _=>none
theorem UnR.weak {f:Value->Sem Value} {r r':V->Hp->VK->Prop} (h:UnR X f r) (w:∀ x H Q,r' x H Q->r x H Q):UnR X f r':=fun pins s σ H x v Q I rx q=>h pins s σ H x v Q I rx (w _ _ _ q)
theorem Zbz:UnD X (unaryOp .Invert) Z8w:=UnR.weak Zap fun v H Q zz=>by
 obtain ⟨A,x,d,mu,e,p,q⟩:=zz;unfold Z8w at e;split at e
 ·cases e;exact ⟨_,p.int,q.here Wb⟩
 ·cases e
theorem L4 {x:Str} (h:∀ c∈cl x,c<0x110000):PyData.strOk x=true:=by
 unfold PyData.strOk;rw [Array.all_eq_true'];intro c hc;exact decide_eq_true (h c (by simpa [cl] using hc))
theorem Di {x:Str} (h:PyData.strOk x=true):∀ c∈cl x,c<0x110000:=by
 unfold PyData.strOk at h;rw [Array.all_eq_true'] at h;intro c hc;exact of_decide_eq_true (h c (by simpa [cl] using hc))
theorem Z1c {x y:Str} (h:PyData.strOk x=true) (k:PyData.strOk y=true):PyData.strOk (x++y)=true:=L4 fun c hc=>by
 rw [Z3v] at hc;rcases mem_append.mp hc with z | z
 ·exact Di h c z
 ·exact Di k c z
theorem Bt (x y:Str):(x++y).length=x.length+y.length:=by rw [← Ku,Z3v,length_append,Ku,Ku]
def Zak:Dat->Dat->Option Dat
 | .str x,.str y=>if x.length+y.length<=sizeLine then some (.str (x++y)) else none
 | _,_=>none
theorem Z91:Ms X (binaryOp .Add) Zak:=Ac.weak fun v u H Q zz=>by
 obtain ⟨A,x,y,d,mu,e,p1,p2,q⟩:=zz;unfold Zak at e;split at e
 ·rename_i i j
  split at e
  ·rename_i hz
   cases e;obtain ⟨e1,k1⟩:=p1.str;obtain ⟨e2,k2⟩:=p2.str;exact ⟨i,j,e1,e2,hz,q.here (G6 (SOk.of (Z1c k1.ok k2.ok) (by rw [Bt];exact hz)))⟩
  ·cases e
 ·cases e
def L8:Dat->Dat->Option (List Dat)
 | .lst xs,.lst ys=>if xs.length+ys.length<=sizeLine then some (xs++ys) else none
 | _,_=>none
theorem C3:OpN X (binaryOp .Add) L8:=fun pins s σ H x y v u Q I rx ry zz=>by
 obtain ⟨A,a,b,d,mu,e,p1,p2,q⟩:=zz;unfold L8 at e;split at e
 ·rename_i xs ys
  split at e
  ·rename_i hz
   cases e;obtain ⟨l1,vs,e1,h1,r1⟩:=p1.lst;obtain ⟨l2,us,e2,h2,r2⟩:=p2.lst;subst e1 e2;cases rx;cases ry;obtain ⟨its,n,w1,g1,_⟩:=h1.get I;obtain ⟨its2,n2,w2,g2,_⟩:=h2.get I;have z1:=w1.length;have z2:=w2.length;have z3:=Zy r1;have z4:=Zy r2;refine PySem.P.add_list g1 g2 ?_ (by rw [size_toArray,size_toArray];lia);have ea:its.toArray++its2.toArray=(its++its2).toArray:=by simp
   rw [ea];exact ⟨.ref _,_,I.lnew (t':=s.toks) (w1.append w2) (by rw [length_append];lia),rfl,q.at (by rw [length_append];exact hz) (V9 r1 r2) _ I.fresh⟩
  ·cases e
 ·cases e
theorem Z0x {K:PySem.W.Frag} {H:Hp} {ds:List Dat} {vs:List V} (r:Wg K H ds vs) (h:ds.length≠0):vs≠[]:=by
 intro e;subst e;have:=Zy r;simp at this;lia
def Y8:Dat->Dat->Option Dat
 | .int i,.int j=>some (.int (i+j))
 | .str x,.str y=>if x.length+y.length<=sizeLine then some (.str (x++y)) else none
 | .lst xs,.lst ys=>if xs.length+ys.length<=sizeLine then some (.lst (xs++ys)) else none
 | _,_=>none
theorem Z8h:Ms X (binaryOp .Add) (Ow (fun _ _=>True) fun i j=>.int (i+j)):=Gw Z9a fun _ _ _ _=>Wb
theorem Zx:Ms X (binaryOp .Add) Y8:=by
 have h1:=Ms.or (E:=fun x y=>match x,y with | .int i,.int j=>some (.int (i+j)) | .str x,.str y=>if x.length+y.length<=sizeLine then some (.str (x++y)) else none | _,_=>none) (Z8h (X:=X)) Z91 (fun x y d e=>by
  split at e
  ·left;simp [Ow];exact by simpa using e
  ·right;simp only [Zak];exact e
  ·cases e)
 refine Ms.or h1 C3.d fun x y d e=>?_
 unfold Y8 at e;split at e
 ·left;exact e
 ·left;exact e
 ·right
  rename_i xs ys;simp only [L8];split at e
  ·rename_i hz;cases e;rw [if_pos hz];rfl
  ·cases e
 ·cases e
def Zc4:=Ow Fp fun i j=>.int (i*j)
theorem Z97:Ms X (binaryOp .Mult) Zc4:=Z1t Z8t fun _ _ _ _=>Wb
def Jr:Dat->Dat->Option Dat:=fun x y=>if (pd 20 x&&pd 20 y)=true then some (.bl (Jf x y)) else none
def neF:Dat->Dat->Option Dat:=fun x y=>if (pd 20 x&&pd 20 y)=true then some (.bl (!Jf x y)) else none
theorem Up (hu:X.A.units+64<cLine):Ms X (compareOp .Eq) Jr:=fun pins s σ H x y v u Q I rx ry zz=>by
 obtain ⟨A,a,b,d,mu,e,p1,p2,q⟩:=zz;unfold Jr at e;split at e
 ·rename_i hp
  rw [Bool.and_eq_true] at hp;cases e;obtain ⟨as,a1,a2⟩:=Rp.reads I a x v hp.1 p1.rp rx;obtain ⟨bs,b1,b2⟩:=Rp.reads I b y u hp.2 p2.rp ry;have:=Rr 20 a hp.1;refine SeqAt.compareEq_reads a1 b1 a2 b2 (by lia) ⟨.bl _,H,I,rfl,?_⟩;rw [Rq a b hp.1 hp.2];exact q.here Va
 ·cases e
theorem Z6u (hu:X.A.units+64<cLine):Ms X (compareOp .NotEq) neF:=fun pins s σ H x y v u Q I rx ry zz=>by
 obtain ⟨A,a,b,d,mu,e,p1,p2,q⟩:=zz;unfold neF at e;split at e
 ·rename_i hp
  rw [Bool.and_eq_true] at hp;cases e;obtain ⟨as,a1,a2⟩:=Rp.reads I a x v hp.1 p1.rp rx;obtain ⟨bs,b1,b2⟩:=Rp.reads I b y u hp.2 p2.rp ry;have:=Rr 20 a hp.1;refine SeqAt.compareNe_reads a1 b1 a2 b2 (by lia) ⟨.bl _,H,I,rfl,?_⟩;rw [Rq a b hp.1 hp.2];exact q.here Va
 ·cases e
def isN:Dat->Bool
 | .non=>true
 | _=>false
theorem Z75 {K:PySem.W.Frag} {H:Hp} {d:Dat} {v:V} (r:Rp K H d v):decide (v=V.non)=isN d:=by
 cases d with
 | non=>rw [Hy r];rfl
 | bl b=>rw [G7 r];rfl
 | int b=>rw [Sv r];rfl
 | str b=>rw [(K2 r).1];rfl
 | tup b=>obtain ⟨a,_,e,_⟩:=M9 r;rw [e];rfl
 | lst b=>obtain ⟨a,_,e,_⟩:=Re r;rw [e];rfl
 | dct _=>exact (Z92 r).elim
 | exc _ _=>obtain ⟨_,_,_,e,_⟩:=Fu r;subst e;rfl
def isF:Dat->Dat->Option Dat
 | x,.non=>some (.bl (isN x))
 | _,_=>none
def Zai:Dat->Dat->Option Dat
 | x,.non=>some (.bl (!isN x))
 | _,_=>none
theorem Ze1:Ms X (compareOp .Is) isF:=Z82.weak fun v u H Q zz=>by
 obtain ⟨A,x,y,d,mu,e,p1,p2,q⟩:=zz;unfold isF at e;split at e
 ·cases e
  exact ⟨p2.non,by rw [Z75 p1.rp];exact q.here Va⟩
 ·cases e
theorem Zb9:Ms X (compareOp .IsNot) Zai:=Z58.weak fun v u H Q zz=>by
 obtain ⟨A,x,y,d,mu,e,p1,p2,q⟩:=zz;unfold Zai at e;split at e
 ·cases e
  exact ⟨p2.non,by rw [Z75 p1.rp];exact q.here Va⟩
 ·cases e
def inS:Str->Str->Bool:=fun i j=>!(Builtin.Str.occurrences j i 0 j.length 1).isEmpty
def inB:Dat->Dat->Option Bool
 | x,.lst ys=>if (pd 20 x&&ys.all (pd 20))=true then some (ys.any fun y=>Jf y x) else none
 | x,.tup ys=>if (pd 20 x&&ys.all (pd 20))=true then some (ys.any fun y=>Jf y x) else none
 | .str i,.str j=>some (inS i j)
 | _,_=>none
def inF:Dat->Dat->Option Dat:=fun x y=>(inB x y).map .bl
def G0:Dat->Dat->Option Dat:=fun x y=>(inB x y).map fun b=>.bl (!b)
theorem Mg {pins:List (Addr×Obj)} {σ:St} {H:Hp} {s:Shared} (I:Inv X pins σ H s) (hu:X.A.units+64<cLine) {a:Dat} {x:V} {v:Value} (ha:pd 20 a=true) (rx:Rp X.K H a x) (qx:Yo x v) :
  ∃ e:Value->Bool,∀ {ys:List Dat} {vs:List V} {us:List Value},Wg X.K H ys vs->Y3 vs us->(∀ y∈ys,pd 20 y=true)->(∀ u∈us,SeqAt.EqAt X.A.in1 s u v (e u))/\us.any e=ys.any fun y=>Jf y a:=by
 classical
 have hu':X.A.in1.units+60<cLine:=by show X.A.units+1+60<cLine;lia
 have key:∀ {y:Dat} {w:V} {u:Value},Rp X.K H y w->Yo w u->pd 20 y=true->SeqAt.EqAt X.A.in1 s u v (Jf y a):=fun {y w u} r q h=>Rp.eqAt I h ha (by decide) hu' r rx q qx
 let e:Value->Bool:=fun u=>decide (∃ (y:Dat) (w:V),Rp X.K H y w/\Yo w u/\pd 20 y=true/\Jf y a=true)
 have he:∀ {y:Dat} {w:V} {u:Value},Rp X.K H y w->Yo w u->pd 20 y=true->e u=Jf y a:=fun {y w u} r q h=>by
  cases z:Jf y a with
  | true=>exact decide_eq_true ⟨y,w,r,q,h,z⟩
  | false =>
   refine decide_eq_false ?_;rintro ⟨y',w',r',q',h',z'⟩;have:=q.inj q';subst this;obtain ⟨as,a1,a2⟩:=Rp.reads I y w u h r q;obtain ⟨bs,b1,b2⟩:=Rp.reads I y' w u h' r' q;have eqP:=SeqAt.Reads.unique _ _ _ _ _ a2 a1 b1;rw [← Rq y a h ha,eqP,Rq y' a h' ha,z'] at z;cases z
 refine ⟨e,fun {ys}=>?_⟩;induction ys with
 | nil=>intro vs us r q _;rw [Yz r] at q;cases q;exact ⟨fun u hu=>(by cases hu),rfl⟩
 | cons y ys ih =>
  intro vs us r q hp;obtain ⟨w,vs',e1,r1,r2⟩:=Yg r;subst e1;cases q with
  | cons q1 q2 =>
   rename_i u us;obtain ⟨h1,h2⟩:=ih r2 q2 fun z hz=>hp z (mem_cons_of_mem _ hz)
   have hy:=hp y mem_cons_self;refine ⟨fun u' hu'=>?_,?_⟩
   ·rcases mem_cons.mp hu' with z | z
    ·subst z;rw [he r1 q1 hy];exact key r1 q1 hy
    ·exact h1 u' z
   ·rw [any_cons,any_cons,h2,he r1 q1 hy]
theorem Zbm (hu:X.A.units+64<cLine):Ms X (compareOp .In) inF:=fun pins s σ H x y v u Q I rx ry zz=>by
 obtain ⟨A,a,b,d,mu,e,p1,p2,q⟩:=zz;unfold inF at e;unfold inB at e;split at e
 ·rename_i ys
  split at e
  ·rename_i hp
   rw [Bool.and_eq_true,all_eq_true] at hp;cases e;obtain ⟨l,vs,e1,h1,r1⟩:=p2.lst;subst e1;cases ry;obtain ⟨its,w1,pl,_⟩:=I.list h1.sq;obtain ⟨f,hf⟩:=Mg I hu hp.1 p1.rp rx;obtain ⟨k1,k2⟩:=hf (r1.mono W7) w1 hp.2;refine SeqAt.in_listAt f pl.isList (fun w hw=>k1 w (by simpa using hw)) ⟨.bl _,H,I,rfl,?_⟩;rw [show its.toArray.any f=its.any f by simp,k2];exact q.here Va
  ·cases e
 ·rename_i ys
  split at e
  ·rename_i hp
   rw [Bool.and_eq_true,all_eq_true] at hp;cases e;obtain ⟨l,vs,e1,h1,r1⟩:=p2.tup;subst e1;cases ry;obtain ⟨its,w1,pl,_⟩:=I.tuple h1;obtain ⟨f,hf⟩:=Mg I hu hp.1 p1.rp rx;obtain ⟨k1,k2⟩:=hf (r1.mono W7) w1 hp.2;refine SeqAt.in_tupleAt f pl (fun w hw=>k1 w (by simpa using hw)) ⟨.bl _,H,I,rfl,?_⟩;rw [show its.toArray.any f=its.any f by simp,k2];exact q.here Va
  ·cases e
 ·rename_i i j
  cases e;obtain ⟨e1,k1⟩:=p1.str;obtain ⟨e2,k2⟩:=p2.str;exact Z0i pins s σ H x y v u Q I rx ry ⟨i,j,e1,e2,q.here Va⟩
 ·cases e
theorem Xp (hu:X.A.units+64<cLine):Ms X (compareOp .NotIn) G0:=fun pins s σ H x y v u Q I rx ry zz=>by
 obtain ⟨A,a,b,d,mu,e,p1,p2,q⟩:=zz;unfold G0 at e;unfold inB at e;split at e
 ·rename_i ys
  split at e
  ·rename_i hp
   rw [Bool.and_eq_true,all_eq_true] at hp;cases e;obtain ⟨l,vs,e1,h1,r1⟩:=p2.lst;subst e1;cases ry;obtain ⟨its,w1,pl,_⟩:=I.list h1.sq;obtain ⟨f,hf⟩:=Mg I hu hp.1 p1.rp rx;obtain ⟨k1,k2⟩:=hf (r1.mono W7) w1 hp.2;refine SeqAt.notIn_listAt f pl.isList (fun w hw=>k1 w (by simpa using hw)) ⟨.bl _,H,I,rfl,?_⟩;rw [show its.toArray.any f=its.any f by simp,k2];exact q.here Va
  ·cases e
 ·rename_i ys
  split at e
  ·rename_i hp
   rw [Bool.and_eq_true,all_eq_true] at hp;cases e;obtain ⟨l,vs,e1,h1,r1⟩:=p2.tup;subst e1;cases ry;obtain ⟨its,w1,pl,_⟩:=I.tuple h1;obtain ⟨f,hf⟩:=Mg I hu hp.1 p1.rp rx;obtain ⟨k1,k2⟩:=hf (r1.mono W7) w1 hp.2;refine SeqAt.notIn_tupleAt f pl (fun w hw=>k1 w (by simpa using hw)) ⟨.bl _,H,I,rfl,?_⟩;rw [show its.toArray.any f=its.any f by simp,k2];exact q.here Va
  ·cases e
 ·rename_i i j
  cases e;obtain ⟨e1,k1⟩:=p1.str;obtain ⟨e2,k2⟩:=p2.str;exact Ox pins s σ H x y v u Q I rx ry ⟨i,j,e1,e2,q.here Va⟩
 ·cases e
def Wi:Dat->Dat->Option Dat
 | .lst xs,.int i=>Lr xs i
 | .tup xs,.int i=>Lr xs i
 | .str z,.int i=>(Lr (cl z) i).map fun c=>.str ⟨#[c]⟩
 | _,_=>none
theorem Bc {K:PySem.W.Frag} {H:Hp} {ds:List Dat} {vs:List V} {i:Int} {d:Dat} (r:Wg K H ds vs) (h:Lr ds i=some d):∃ v,Lr vs i=some v/\Rp K H d v:=by
 unfold Lr at h ⊢;rw [Zy r];obtain ⟨j,e1,e2⟩:=bind_some h;obtain ⟨v,h1,h2⟩:=Rz r e2;exact ⟨v,by rw [e1];exact h1,h2⟩
theorem Z4m {α:Type} {xs:List α} {i:Int} {x:α} (h:Lr xs i=some x):x∈xs:=by
 unfold Lr at h;obtain ⟨j,e1,e2⟩:=bind_some h;exact mem_of_getElem? e2
theorem Z5f {z:Str} {c:Nat} (h:SOk z) (hc:c∈cl z):SOk ⟨#[c]⟩:=SOk.of (L4 fun c' hc'=>by
 have:c'=c:=by simpa [cl] using hc'
 rw [this];exact Di h.ok c hc) (by rw [← Ku];simp [cl];decide)
theorem Cb.weak {r r':R2} (h:Cb X r) (w:∀ x y H Q,r' x y H Q->r x y H Q):Cb X r':=fun value slice pins s σ H x y v u Q I rx ry q hs=>h value slice pins s σ H x y v u Q I rx ry (w _ _ _ _ q) hs
theorem Yk:Cb X (rD X.K Wi):=Z9j.weak fun v u H Q zz=>by
 obtain ⟨A,x,y,d,mu,e,p1,p2,q⟩:=zz;unfold Wi at e;split at e
 ·rename_i xs i
  obtain ⟨l,vs,e1,h1,r1⟩:=p1.lst;obtain ⟨w,h2,r2⟩:=Bc r1 e;exact .inl ⟨l,vs,i,w,e1,p2.int,h1.sq,h2,q.here r2⟩
 ·rename_i xs i
  obtain ⟨l,vs,e1,h1,r1⟩:=p1.tup;obtain ⟨w,h2,r2⟩:=Bc r1 e;exact .inr (.inl ⟨l,vs,i,w,e1,p2.int,h1,h2,q.here r2⟩)
 ·rename_i z i
  obtain ⟨e1,k1⟩:=p1.str;cases hc:Lr (cl z) i with
  | none=>rw [hc] at e;cases e
  | some c =>
   rw [hc] at e;cases e;exact .inr (.inr ⟨z,i,c,e1,p2.int,k1.le,hc,q.here (G6 (Z5f k1 (Z4m hc)))⟩)
 ·cases e
theorem Ca {K:PySem.W.Frag} {H:Hp} {ds:List Dat} {vs:List V} (lo hi:Option Int) (r:Wg K H ds vs):Wg K H (To ds lo hi) (Pg vs lo hi):=by
 unfold To Pg;rw [Zy r];exact Iy _ (Ko _ r)
theorem Z2c {α:Type} {xs:List α} {lo hi:Option Int} {x:α} (h:x∈To xs lo hi):x∈xs:=List.mem_of_mem_drop (List.mem_of_mem_take h)
theorem Xx {α:Type} {xs:List α} {lo hi:Option Int} {n:Nat} (h:xs.length<=n):(To xs lo hi).length<=n:=by unfold To;rw [length_take,length_drop];lia
theorem Be.weak {r r':V->Option Int->Option Int->Hp->VK->Prop} (h:Be X r) (w:∀ x lo hi H Q,r' x lo hi H Q->r x lo hi H Q):Be X r':=fun pins s σ H x v vl vu lo hi sl Q I rx hs pl pu q=>h pins s σ H x v vl vu lo hi sl Q I rx hs pl pu (w _ _ _ _ _ q)
def slD:Dat->Option Int->Option Int->Option Dat
 | .lst xs,lo,hi=>some (.lst (To xs lo hi))
 | .str z,lo,hi=>some (.str (Txt.slice z lo hi))
 | .tup xs,lo,hi=>if HT.sIx xs.length 0 lo=0/\HT.sIx xs.length xs.length hi=xs.length then none else some (.tup (To xs lo hi))
 | _,_,_=>none
theorem Z0f {z:Str} {lo hi:Option Int} (h:SOk z):SOk (Txt.slice z lo hi):=SOk.of (L4 fun c hc=>by
 rw [Z3d] at hc;exact Di h.ok c (Z2c hc)) (le_trans (Txt.slice_le z _ _) h.le)
theorem Zdq:SlD X slD:=Zdx.weak fun v lo hi H Q zz=>by
 obtain ⟨A,x,d,mu,e,p1,q⟩:=zz;unfold slD at e;split at e
 ·rename_i xs
  cases e;obtain ⟨l,vs,e1,h1,r1⟩:=p1.lst;exact .inl ⟨l,vs,e1,h1.sq,(q.new mu).at (Xx p1.lenL) (Ca lo hi r1)⟩
 ·rename_i z
  cases e;obtain ⟨e1,k1⟩:=p1.str;exact .inr (.inr ⟨z,e1,k1.le,q.here (G6 (Z0f k1))⟩)
 ·rename_i xs
  split at e
  ·cases e
  ·rename_i hn
   cases e;obtain ⟨l,vs,e1,h1,r1⟩:=p1.tup;exact .inr (.inl ⟨l,vs,e1,h1,by rw [Zy r1];exact hn,q.tup mu (Xx p1.lenT) (Ca lo hi r1)⟩)
 ·cases e
end
section
variable {X:Cx} {m:Bool}
def Qr:List Dat->Option Dat
 | [.lst xs]=>some (.int xs.length)
 | [.tup xs]=>some (.int xs.length)
 | [.str z]=>some (.int z.length)
 | _=>none
theorem Jj:Gk X (.builtin "len") Qr:=Z0h.weak fun vs H Q zz=>by
 obtain ⟨A,ds,d,mu,e,p,q⟩:=zz;unfold Qr at e;split at e
 ·obtain ⟨v,e1,p1⟩:=p.one
  obtain ⟨l,us,e2,h1,r1⟩:=p1.lst;cases e;exact .inl ⟨l,us,by rw [e1,e2],.inl h1.sq,fun _=>by rw [Zy r1];exact q.here Wb⟩
 ·obtain ⟨v,e1,p1⟩:=p.one
  obtain ⟨l,us,e2,h1,r1⟩:=p1.tup;cases e;exact .inl ⟨l,us,by rw [e1,e2],.inr h1,fun _=>by rw [Zy r1];exact q.here Wb⟩
 ·obtain ⟨v,e1,p1⟩:=p.one
  obtain ⟨e2,h1⟩:=p1.str;cases e;exact .inr ⟨_,by rw [e1,e2],h1.le,q.here Wb⟩
 ·cases e
def Z2d:List Dat->Option (List Dat)
 | [.lst xs]=>some xs
 | [.tup xs]=>some xs
 | _=>none
theorem Z9h:C1 X (.type "list") Z2d:=Dm.weak fun vs H Q zz=>by
 obtain ⟨A,ds,d,mu,e,p,q⟩:=zz;unfold Z2d at e;split at e
 ·obtain ⟨v,e1,p1⟩:=p.one
  obtain ⟨l,us,e2,h1,r1⟩:=p1.lst;cases e;exact ⟨l,us,by rw [e1,e2],.inl h1.sq,q.at p1.lenL r1⟩
 ·obtain ⟨v,e1,p1⟩:=p.one
  obtain ⟨l,us,e2,h1,r1⟩:=p1.tup;cases e;exact ⟨l,us,by rw [e1,e2],.inr h1,q.at p1.lenT r1⟩
 ·cases e
def tupleD:List Dat->Option Dat
 | [.lst xs]=>some (.tup xs)
 | [.tup xs]=>some (.tup xs)
 | _=>none
theorem Vj:Gk X (.type "tuple") tupleD:=Ld.weak fun vs H Q zz=>by
 obtain ⟨A,ds,d,mu,e,p,q⟩:=zz;unfold tupleD at e;split at e
 ·obtain ⟨v,e1,p1⟩:=p.one
  obtain ⟨l,us,e2,h1,r1⟩:=p1.lst;cases e;exact ⟨l,us,by rw [e1,e2],.inl ⟨h1.sq,q.tup mu p1.lenL r1⟩⟩
 ·obtain ⟨v,e1,p1⟩:=p.one
  rcases p1 with p1 | ⟨_,_,_,z,_⟩ | ⟨_,_,_,z,_⟩
  ·obtain ⟨l,us,e2,h1,r1⟩:=M9 p1
   cases e;exact ⟨l,us,by rw [e1,e2],.inr ⟨W7.seqT h1,by rw [← e2];exact q.here p1⟩⟩
  ·cases z
  ·cases z
 ·cases e
def Js:List Dat->Option (List Int)
 | []=>some []
 | .int i::r=>(Js r).map (i::·)
 | _=>none
def Lj:List Dat->Option (List Bool)
 | []=>some []
 | .bl i::r=>(Lj r).map (i::·)
 | _=>none
theorem Ey (ns:List Int):Js (ns.map .int)=some ns:=by
 induction ns with
 | nil=>rfl
 | cons n ns ih=>rw [map_cons,Js,ih];rfl
theorem Xv (ns:List Bool):Lj (ns.map .bl)=some ns:=by
 induction ns with
 | nil=>rfl
 | cons n ns ih=>rw [map_cons,Lj,ih];rfl
theorem Rb:∀ {ds:List Dat} {ns:List Int},Js ds=some ns->ds=ns.map .int
 | [],_,h=>by cases h;rfl
 | d::ds,ns,h=>by
  cases d<;>try cases h
  rename_i i;rw [Js] at h;cases e:Js ds with
  | none=>rw [e] at h;cases h
  | some r=>rw [e] at h;cases h;rw [Rb e];rfl
theorem Eb:∀ {ds:List Dat} {ns:List Bool},Lj ds=some ns->ds=ns.map .bl
 | [],_,h=>by cases h;rfl
 | d::ds,ns,h=>by
  cases d<;>try cases h
  rename_i i;rw [Lj] at h;cases e:Lj ds with
  | none=>rw [e] at h;cases h
  | some r=>rw [e] at h;cases h;rw [Eb e];rfl
theorem U9 {K:PySem.W.Frag} {H:Hp}:∀ {ns:List Int} {vs:List V},Wg K H (ns.map .int) vs->vs=ns.map .int
 | [],vs,h=>Yz h
 | n::ns,vs,h=>by obtain ⟨v,r,e,h1,h2⟩:=Yg h;rw [e,Sv h1,U9 h2];rfl
theorem Qk {K:PySem.W.Frag} {H:Hp}:∀ {ns:List Bool} {vs:List V},Wg K H (ns.map .bl) vs->vs=ns.map .bl
 | [],vs,h=>Yz h
 | n::ns,vs,h=>by obtain ⟨v,r,e,h1,h2⟩:=Yg h;rw [e,G7 h1,Qk h2];rfl
def Dc (ns:List Int):List Int:=ns.mergeSort (fun a b=>decide (a<=b))
theorem Tc (ns:List Int):(Dc ns).Perm ns:=List.mergeSort_perm ns _
theorem E4 (ns:List Int):(Dc ns).Pairwise (·<=·):=by
 have:=List.pairwise_mergeSort (le:=fun a b:Int=>decide (a<=b)) (by intro a b c h1 h2;simp only [decide_eq_true_eq] at *;lia) (by intro a b;simp only [Bool.or_eq_true,decide_eq_true_eq];lia) ns;exact this.imp fun h=>of_decide_eq_true h
theorem Jo:∀ {xs ys:List Int},xs.Perm ys->xs.Pairwise (·<=·)->ys.Pairwise (·<=·)->xs=ys
 | [],ys,p,_,_=>by rw [List.nil_perm.mp p]
 | x::xs,[],p,_,_=>by have:=p.length_eq;simp at this
 | x::xs,y::ys,p,h1,h2=>by
  have hx:=List.pairwise_cons.mp h1;have hy:=List.pairwise_cons.mp h2;have e:x=y:=by
   have m1:x∈y::ys:=p.mem_iff.mp mem_cons_self;have m2:y∈x::xs:=p.mem_iff.mpr mem_cons_self;rcases mem_cons.mp m1 with z | z
   ·exact z
   ·rcases mem_cons.mp m2 with w | w
    ·exact w.symm
    ·have a1:=hx.1 y w
     have a2:=hy.1 x z;lia
  subst e;rw [Jo (List.Perm.cons_inv p) hx.2 hy.2]
def Ce:List Dat->Option (List Dat)
 | [.lst xs]=>(Js xs).bind fun ns=>if ns.length<64 then some ((Dc ns).map .int) else none
 | _=>none
def Z3h:List Dat->Option Dat
 | [.lst xs]=>(Lj xs).map fun bs=>.bl (bs.all id)
 | _=>none
def Z2a:List Dat->Option Dat
 | [.lst xs]=>(Lj xs).map fun bs=>.bl (bs.any id)
 | _=>none
theorem map_some {α β:Type} {a:Option α} {g:α->β} {b:β} (h:a.map g=some b):∃ x,a=some x/\g x=b:=by
 cases a with
 | none=>cases h
 | some x=>cases h;exact ⟨x,rfl,rfl⟩
theorem Zb7 (hc:X.calm=true):Gk X (.builtin "all") Z3h:=(Z06 hc).weak fun vs H Q zz=>by
 obtain ⟨A,ds,d,mu,e,p,q⟩:=zz;unfold Z3h at e;split at e
 ·obtain ⟨v,e1,p1⟩:=p.one
  obtain ⟨l,us,e2,h1,r1⟩:=p1.lst;obtain ⟨bs,hb,e⟩:=map_some e;subst e;rw [Eb hb] at r1;have eu:=Qk r1;subst eu;exact ⟨l,bs,by rw [e1,e2],h1.sq,q.here Va⟩
 ·cases e
theorem Zch (hc:X.calm=true):Gk X (.builtin "any") Z2a:=(Z0l hc).weak fun vs H Q zz=>by
 obtain ⟨A,ds,d,mu,e,p,q⟩:=zz;unfold Z2a at e;split at e
 ·obtain ⟨v,e1,p1⟩:=p.one
  obtain ⟨l,us,e2,h1,r1⟩:=p1.lst;obtain ⟨bs,hb,e⟩:=map_some e;subst e;rw [Eb hb] at r1;have eu:=Qk r1;subst eu;exact ⟨l,bs,by rw [e1,e2],h1.sq,q.here Va⟩
 ·cases e
def Z0v:List Dat->Option Dat
 | [.int i,.int j]=>some (.int (if j > i then j else i))
 | _=>none
def Z0q:List Dat->Option Dat
 | [.int i,.int j]=>some (.int (if j<i then j else i))
 | _=>none
theorem Z78 (hc:X.calm=true):Gk X (.builtin "max") Z0v:=(Z0n hc).weak fun vs H Q zz=>by
 obtain ⟨A,ds,d,mu,e,p,q⟩:=zz;unfold Z0v at e;split at e
 ·obtain ⟨v,w,e1,p1,p2⟩:=p.two
  cases e;exact ⟨_,_,by rw [e1,p1.int,p2.int],q.here Wb⟩
 ·cases e
theorem Z7i (hc:X.calm=true):Gk X (.builtin "min") Z0q:=(Cj hc).weak fun vs H Q zz=>by
 obtain ⟨A,ds,d,mu,e,p,q⟩:=zz;unfold Z0q at e;split at e
 ·obtain ⟨v,w,e1,p1,p2⟩:=p.two
  cases e;exact ⟨_,_,by rw [e1,p1.int,p2.int],q.here Wb⟩
 ·cases e
def tyN:Dat->Option String
 | .non=>some "NoneType" | .bl _=>some "bool" | .int _=>some "int" | .str _=>some "str" | .tup _=>some "tuple" | .lst _=>some "list" | _=>none
def Z6l (T:String) (d:Dat):Option Bool:=(tyN d).bind fun t=>Z6t t T
def dI (T:String) (f:Ev->Option Dat):Ev->Option Dat:=fun env=>(f env).bind fun d=>(Z6l T d).map .bl
theorem Z8f {pins:List (Addr×Obj)} {σ:St} {H:Hp} {s:Shared} {A:Around} {E:Value->Shared->Prop} {Q:Value->Shared->Prop} {d:Dat} {v:V} {u:Value} {T t:String} {b:Bool} (I:Inv X pins σ H s) (r:Rp X.K H d v) (ru:Yo v u) (ht:tyN d=some t) (e:PySem.W.kitOne X.K (.type t) (.type T)=some b) (h:∀ tk,Q (.bool b) { s with toks:=tk }) :
  wpAny (model X.prog X.w) A (call (.builtin "isinstance") [u,.type T]) Q E s:=by
 cases d with
 | non=>cases ht;rw [Hy r] at ru;exact S3 I ru .non e h
 | bl y=>cases ht;rw [G7 r] at ru;exact S3 I ru (.bl y) e h
 | int y=>cases ht;rw [Sv r] at ru;exact S3 I ru (.int y) e h
 | str y=>cases ht;rw [(K2 r).1] at ru;exact S3 I ru (.str y) e h
 | tup ds =>
  cases ht;obtain ⟨a,vs,e1,h1,_⟩:=M9 r;subst e1;cases ru;obtain ⟨its,_,⟨o,ho,hc,_⟩,_⟩:=I.tuple h1;exact PySem.W.kia_one kitx_tuple I.kIn ⟨o,ho,hc⟩ e (fun z=>nomatch z) h
 | lst ds =>
  cases ht;obtain ⟨a,vs,e1,h1,_⟩:=Re r;subst e1;cases ru;obtain ⟨its,n,_,ho,_⟩:=h1.get I;exact PySem.W.kia_one kitx_list I.kIn ⟨_,ho,rfl⟩ e (fun z=>nomatch z) h
 | dct _=>cases ht
 | exc _ _=>cases ht
theorem Zcb {e:Expr} {f:Ev->Option Dat} {T:String} {tx:Str} {p p2 pos:Pos} (he:We true X e f) (hg:Gl X "isinstance") (hm:X.mg "isinstance" = none) (hv:bootBuiltins "isinstance" = some (.builtin "isinstance")) (hgT:Gl X tx) (hmT:X.mg tx=none) (hvT:bootBuiltins tx=some (.type T)) (hnT:tx≠"__name__" := by decide) (hdT:(tx==("__debug__" : Str))=false:=by decide)
  (hs:starEach [e,.Name tx p2] X.env=(false,eval e X.env)::starEach [.Name tx p2] X.env:=by rfl):We m X (.Call (.Name "isinstance" p) [e,.Name tx p2] [] pos) (dI T f):=by
 have hc:V5 X (.builtin "isinstance") (fun vs H Q=>∃ v A d b,vs=[v,.ty T]/\U4 A H/\Z6l T d=some b/\Pk X.K A H d v/\T8 false X.K A H (.bl b) Q):=by
  intro pins s σ H xs us Q I r ⟨v,A,d,b,e1,mu,e2,p1,q⟩;subst e1;obtain ⟨u,w',rfl,ru,rw'⟩:=Np r;cases rw';obtain ⟨t,ht,hk⟩:=bind_some e2;exact Z8f I p1.rp ru ht (Zan hk) fun tk=>⟨.bl b,H,I.tok _,rfl,q.here Va⟩
 refine We.any ((R9 hc hg hm hv (Wr he (Wr (Z3n hgT hmT hvT hnT hdT) Q2) hs) (he:=hs)).weak fun σ H Q ⟨env,R,A,d,k,q1,q2⟩=>?_);obtain ⟨x,e1,h⟩:=bind_some q1;obtain ⟨b,e2,h⟩:=map_some h;subst h;exact ⟨env,R,A,x,k,e1,fun v H1 s1 p1=>⟨v,A,x,b,rfl,k.mu.mono s1,e2,p1,q2.mono s1⟩⟩
end
def Adv (st:Bool) (A:AS) (H:Hp) (A1:AS) (H1:Hp):Prop:=match st with
 | true=>Step A H A1 H1
 | false=>A1=A/\Zo H H1
theorem Adv.step {st:Bool} {A A1:AS} {H H1:Hp} (h:Adv st A H A1 H1):Step A H A1 H1:=by
 cases st with
 | true=>exact h
 | false=>obtain ⟨rfl,h⟩:=h;exact Step.same h
def Ap (st:Bool) (K:PySem.W.Frag) (A:AS) (H:Hp) (ds:List Dat) (J:It):Prop:=∀ A1 H1,Adv st A H A1 H1->U4 A1 H1 ->
 (∀ (i:Nat) x,ds[i]?=some x->J.go i H1/\∀ v H2,J.yld i H1 v H2->Zo H1 H2/\Rp K (av H2 A1) x v)/\J.stop ds.length H1
def PId (st:Bool) (X:Cx) (tg iter:Expr) (src:Ev->Option (List Dat)):Prop:=PI X tg iter fun σ H R'=>∃ env R A ds,EnvOk X.K R A H σ env/\src env=some ds /\
 ∀ J H',ds.length<=sizeLine->Zo H H'->Ap st X.K A H' ds J->R' J H'
theorem PI.weak {X:Cx} {tg iter:Expr} {t t':TI} (h:PI X tg iter t) (w:∀ σ H Q,t' σ H Q->t σ H Q):PI X tg iter t':=fun pins s σ H Q I q=>h pins s σ H Q I (w σ H Q q)
section
variable {st m:Bool} {X:Cx} {tg l:Expr} {f:Ev->Option Dat} {fs:Ev->Option (List Dat)}
def Jk (f:Ev->Option Dat):Ev->Option (List Dat):=fun env=>match f env with
 | some (.lst xs)=>some xs
 | some (.tup xs)=>some xs
 | _=>none
theorem By {K:PySem.W.Frag} {A:AS} {H:Hp} {a:Addr} {vs:List V} {ds:List Dat} (h:∀ A1 H1,Adv st A H A1 H1->Mu K H1 a vs) (r:Wg K (av H A) ds vs):Ap st K A H ds (Itl K a):=fun A1 H1 adv _=>by
 have h1:=h A1 H1 adv;have r1:=r.mono adv.step.av;refine ⟨fun i x e=>?_,⟨vs,h1,le_of_eq (Zy r)⟩⟩;obtain ⟨v,e1,e2⟩:=Rz r1 e;refine ⟨⟨vs,v,h1,e1⟩,fun v' H2 ⟨e3,e4⟩=>?_⟩;subst e3;have:=e4 vs h1;rw [e1] at this;cases this;exact ⟨Zo.refl _,e2⟩
theorem Z2m {K:PySem.W.Frag} {A:AS} {H:Hp} {a:Addr} {vs:List V} {ds:List Dat} (h:∀ A1 H1,Adv st A H A1 H1->Sh K H1 a vs) (r:Wg K (av H A) ds vs):Ap st K A H ds (Itt K a):=fun A1 H1 adv _=>by
 have h1:=h A1 H1 adv;have r1:=r.mono adv.step.av;refine ⟨fun i x e=>?_,⟨vs,h1,le_of_eq (Zy r)⟩⟩;obtain ⟨v,e1,e2⟩:=Rz r1 e;refine ⟨⟨vs,v,h1,e1⟩,fun v' H2 ⟨e3,e4⟩=>?_⟩;subst e3;have:=e4 vs h1;rw [e1] at this;cases this;exact ⟨Zo.refl _,e2⟩
theorem Ih (h:We false X l f):PId st X tg l (Jk f):=(Z2l h).weak fun σ H R' zz=>by
 obtain ⟨env,R,A,ds,k,e,q⟩:=zz;unfold Jk at e;split at e
 ·rename_i xs e1
  cases e;refine .inl ⟨env,R,A,.lst ds,k,e1,fun v H1 s1 p1=>?_⟩;obtain ⟨a,vs,e2,h1,r1⟩:=Re (show Rp X.K (av H1 A) (.lst ds) v from p1);subst e2;exact ⟨a,rfl,⟨vs,(W7.sl h1).sq⟩,q _ H1 p1.pk.lenL s1 (By (vs:=vs) (fun A1 H2 adv=>(W7.sl (adv.step.av.sl h1)).sq) r1)⟩
 ·rename_i xs e1
  cases e;refine .inr ⟨env,R,A,.tup ds,k,e1,fun v H1 s1 p1=>?_⟩;obtain ⟨a,vs,e2,h1,r1⟩:=M9 (show Rp X.K (av H1 A) (.tup ds) v from p1);subst e2;exact ⟨a,rfl,⟨vs,W7.seqT h1⟩,q _ H1 p1.pk.lenT s1 (Z2m (vs:=vs) (fun A1 H2 adv=>W7.seqT (adv.step.av.seqT h1)) r1)⟩
 ·cases e
theorem El (h:We true X l f):PId false X tg l (Jk f):=(Z2l h).weak fun σ H R' zz=>by
 obtain ⟨env,R,A,ds,k,e,q⟩:=zz;unfold Jk at e;split at e
 ·rename_i xs e1
  cases e;refine .inl ⟨env,R,A,.lst ds,k,e1,fun v H1 s1 p1=>?_⟩;obtain ⟨a,vs,e2,h1,r1⟩:=p1.pk.lst;subst e2;exact ⟨a,rfl,⟨vs,h1.sq⟩,q _ H1 p1.pk.lenL s1 (By (vs:=vs) (fun A1 H2 adv=>(adv.2.sl h1).sq) r1)⟩
 ·rename_i xs e1
  cases e;refine .inr ⟨env,R,A,.tup ds,k,e1,fun v H1 s1 p1=>?_⟩;obtain ⟨a,vs,e2,h1,r1⟩:=p1.pk.tup;subst e2;exact ⟨a,rfl,⟨vs,h1⟩,q _ H1 p1.pk.lenT s1 (Z2m (vs:=vs) (fun A1 H2 adv=>adv.2.seqT h1) r1)⟩
 ·cases e
def rng (lo:Int) (n:Nat):List Dat:=(List.range n).map fun (k:Nat)=>.int (lo+k)
theorem Th {lo:Int} {n:Nat}:(rng lo n).length=n:=by simp [rng]
theorem Z8m {K:PySem.W.Frag} {A:AS} {H:Hp} {lo:Int} {n:Nat}:Ap st K A H (rng lo n) (Itr lo n):=fun A1 H1 adv _=>by
 refine ⟨fun i x e=>?_,by show n<=(rng lo n).length;simp [rng]⟩;unfold rng at e;rw [getElem?_map] at e;by_cases hi:i<n
 ·rw [List.getElem?_range hi] at e
  cases e;exact ⟨hi,fun v H2 ⟨e1,e2⟩=>by subst e1 e2;exact ⟨Zo.refl _,Wb⟩⟩
 ·rw [getElem?_eq_none (by simpa using hi)] at e
  cases e
def Q6 (fs:Ev->Option (List Dat)):Ev->Option (List Dat):=fun env=>match fs env with
 | some [.int j]=>if -(2^62)<=j/\j<2^62/\j.toNat<=sizeLine then some (rng 0 j.toNat) else none
 | _=>none
theorem Vb {a:Expr} {p pos:Pos} (hg:Gl X "range") (hm:X.mg "range" = none) (ha:Lb true X [a] fs) (hs:starEach [a] X.env=[(false,eval a X.env)]:=by rfl):PId st X tg (.Call (.Name "range" p) [a] [] pos) (Q6 fs):=(Z05 hg hm ha hs).weak fun σ H R' zz=>by
 obtain ⟨env,R,A,ds,k,e,q⟩:=zz;unfold Q6 at e;split at e
 ·rename_i j e1
  split at e
  ·rename_i hj
   cases e;refine ⟨env,R,A,_,k,e1,fun vs H1 s1 p1=>?_⟩;obtain ⟨v,e2,p2⟩:=p1.one;exact ⟨j,by rw [e2,p2.int],hj.1,hj.2.1,q _ H1 (by rw [Th];exact hj.2.2) s1 Z8m⟩
  ·cases e
 ·cases e
end
def G8 (is:List Nat) (σ σ':St):Prop:=σ'.length=σ.length/\∀ j,j∉is->σ'[j]?=σ[j]?
def PGd (is:List Nat) (X:Cx) (tg:Expr) (g:Dat->Ev->Option Ev):Prop:=PG X tg fun v σ H Q=>∃ env R A d env',EnvOk X.K R A H σ env/\Rp X.K (av H A) d v/\g d env=some env'/\∀ σ',EnvOk X.K R A H σ' env'->G8 is σ σ'->Q σ' H
def Z4l (is:List Nat) (X:Cx) (tgs:List Expr) (g:List Dat->Ev->Option Ev):Prop:=PGs X tgs fun vs σ H Q=>∃ env R A ds env',EnvOk X.K R A H σ env/\Wg X.K (av H A) ds vs/\g ds env=some env'/\∀ σ',EnvOk X.K R A H σ' env'->G8 is σ σ'->Q σ' H
theorem EnvOk.put {K:PySem.W.Frag} {B:Bs} {A:AS} {H:Hp} {σ:St} {env:Ev} (k:EnvOk K B A H σ env) (i:Nat) {d:Dat} {v:V} (r:Rp K (av H A) d v):EnvOk K B A H (σ.set i (some v)) (env.set i (.fz d)):=by
 obtain ⟨own,h1,h2,h4⟩:=k.sl;refine ⟨k.h0,k.r0,k.ra,k.ar,k.mu,by rw [length_set,length_set];exact k.len,fun hs j d'=>?_,fun j a=>j≠i/\own j a,fun j j' a q q'=>h1 j j' a q.2 q'.2,fun j a q=>h2 j a q.2,fun j s e=>?_⟩
 ·rw [getElem?_set]
  split
  ·split
   ·intro z;cases z
   ·intro z;cases z
  ·exact k.np hs j d'
 by_cases hj:i=j
 ·subst hj
  rw [getElem?_set] at e;rw [if_pos rfl] at e;split at e
  ·rename_i hl
   cases e;refine ⟨some v,?_,v,rfl,r⟩;rw [getElem?_set,if_pos rfl,if_pos (by rw [k.len];exact hl)]
  ·cases e
 ·rw [getElem?_set,if_neg hj] at e
  obtain ⟨x,q1,q2⟩:=h4 j s e;refine ⟨x,by rw [getElem?_set,if_neg hj];exact q1,?_⟩;cases s with
  | un=>trivial
  | fz d=>exact q2
  | pk d=>exact q2
  | ow ds=>obtain ⟨a,vs,e1,e2,e3⟩:=q2;exact ⟨a,vs,e1,⟨Ne.symm hj,e2⟩,e3⟩
  | gx g=>obtain ⟨v,e1,e2⟩:=q2;exact ⟨v,e1,e2.frame (fun _ z=>⟨Ne.symm hj,z⟩) (fun _ _ _ z=>z) (Zo.refl _)⟩
theorem PG.weak {X:Cx} {e:Expr} {t t':TG} (h:PG X e t) (w:∀ v σ H Q,t' v σ H Q->t v σ H Q):PG X e t':=fun pins s σ H v u Q I r q=>h pins s σ H v u Q I r (w _ _ _ _ q)
theorem PGs.weak {X:Cx} {e:List Expr} {t t':TGs} (h:PGs X e t) (w:∀ v σ H Q,t' v σ H Q->t v σ H Q):PGs X e t':=fun pins s σ H v u Q I r q=>h pins s σ H v u Q I r (w _ _ _ _ q)
section
variable {X:Cx} {pos:Pos}
def Yq (i:Nat):Dat->Ev->Option Ev:=fun d env=>some (env.set i (.fz d))
theorem Cn {σ:St} {i:Nat} {v:Option V}:G8 [i] σ (σ.set i v):=⟨by rw [length_set],fun j hj=>by rw [getElem?_set,if_neg (by intro e;exact hj (by simp [e]))]⟩
theorem Zt (i:Nat) {x:Str} (hN:X.N.Nodup) (hi:X.N[i]?=some x) (hx:Pq X.env.scope x) (hf:X.fn x=true\/X.env.scope.names.lookup x=some .local:=by first | exact .inl rfl | exact .inr rfl | assumption):PGd [i] X (.Name x pos) (Yq i):=(Z4r hN hi hx hf).weak fun v σ H Q zz=>by
 obtain ⟨env,R,A,d,env',k,r,e,q⟩:=zz;cases e;exact q _ (k.put i r) Cn
def Rk:List Dat->Ev->Option Ev:=fun ds env=>match ds with
 | []=>some env
 | _=>none
def Yv (g:Dat->Ev->Option Ev) (gs:List Dat->Ev->Option Ev):List Dat->Ev->Option Ev:=fun ds env=>match ds with
 | d::ds=>(g d env).bind fun env'=>gs ds env'
 | _=>none
theorem Mc:Z4l [] X [] Rk:=Z65.weak fun vs σ H Q zz=>by
 obtain ⟨env,R,A,ds,env',k,r,e,q⟩:=zz;unfold Rk at e;split at e
 ·cases e
  exact ⟨Yz r,q σ k ⟨rfl,fun _ _=>rfl⟩⟩
 ·cases e
theorem Yj {e:Expr} {es:List Expr} {is js:List Nat} {g:Dat->Ev->Option Ev} {gs:List Dat->Ev->Option Ev} (h1:PGd is X e g) (h2:Z4l js X es gs)
  (hs:(assignEach (e::es) X.env).map (·.2)=assign e X.env::(assignEach es X.env).map (·.2):=by rfl):Z4l (is++js) X (e::es) (Yv g gs):=(Z3w h1 h2 hs).weak fun vs σ H Q zz=>by
 obtain ⟨env,R,A,ds,env',k,r,e,q⟩:=zz;unfold Yv at e;split at e
 ·rename_i d ds'
  obtain ⟨env1,e1,e2⟩:=bind_some e;obtain ⟨v,us,ev,r1,r2⟩:=Yg r;refine ⟨v,us,ev,env,R,A,d,env1,k,r1,e1,fun σ1 k1 a1=>⟨env1,R,A,ds',env',k1,r2,e2,fun σ2 k2 a2=>q σ2 k2 ⟨by rw [a2.1,a1.1],fun j hj=>?_⟩⟩⟩;rw [mem_append,not_or] at hj;rw [a2.2 j hj.2,a1.2 j hj.1]
 ·cases e
end
def Te (fs:List (Option Nat)) (env:Ev):Ev:=fs.map fun o=>match o with
 | none=>.un
 | some j=>match env[j]? with
  | some (.fz d)=>.fz d
  | some (.pk d)=>.pk d
  | some (.ow ds)=>.pk (.lst ds)
  | _=>.un
theorem EnvOk.inn {K:PySem.W.Frag} {B:Bs} {A:AS} {H:Hp} {σ:St} {env:Ev} (k:EnvOk K B A H σ env) (fs:List (Option Nat)):EnvOk K ⟨H,A,false⟩ A H (Vo fs σ) (Te fs env):=by
 obtain ⟨own,h1,h2,h4⟩:=k.sl;refine ⟨Zo.refl H,fun a h=>?_,fun _ h=>h,fun _ h=>.inl h,k.mu,by simp [Vo,Te],fun z=>(by cases z),fun _ _=>False,fun _ _ _ h=>h.elim,fun _ _ h=>h.elim,fun i s e=>?_⟩
 ·have:=k.mu a h
  cases q:H a with
  | none=>rw [q] at this;exact this.elim
  | some o=>exact ⟨o,q⟩
 ·unfold Te at e
  rw [getElem?_map] at e;unfold Vo;rw [getElem?_map];cases hf:fs[i]? with
  | none=>rw [hf] at e;cases e
  | some o =>
   rw [hf] at e;cases o with
   | none=>cases e;exact ⟨_,rfl,trivial⟩
   | some j =>
    simp only [Option.map_some,Option.some.injEq] at e ⊢;refine ⟨_,rfl,?_⟩;split at e
    ·rename_i d hd
     obtain ⟨x,q1,q2⟩:=h4 j _ hd;subst e;rw [q1];exact q2
    ·rename_i d hd
     obtain ⟨x,q1,q2⟩:=h4 j _ hd;subst e;rw [q1];exact q2
    ·rename_i ds hd
     obtain ⟨x,q1,a,vs,e1,_,hz,e3,e4⟩:=h4 j _ hd;subst e;rw [q1];exact ⟨.ref a,e1,.inr (.inl ⟨a,vs,ds,rfl,rfl,hz,e3,e4⟩)⟩
    ·subst e;trivial
def Vv (g:Dat->Ev->Option Ev) (t:Ev->Option Bool) (f:Ev->Option Dat) (env:Ev):List Dat->Option (List Dat)
 | []=>some []
 | x::xs=>(g x env).bind fun env1=>(t env1).bind fun b=>if b=true then (f env1).bind fun y=>(Vv g t f env xs).map (y::·) else Vv g t f env xs
def Ju (src:Ev->Option (List Dat)) (fs:List (Option Nat)) (g:Dat->Ev->Option Ev) (t:Ev->Option Bool) (f:Ev->Option Dat):Ev->Option (List Dat):=fun env=>(src env).bind fun ds=>Vv g t f (Te fs env) ds
theorem Es {g:Dat->Ev->Option Ev} {t:Ev->Option Bool} {f:Ev->Option Dat} {env:Ev}:∀ {xs ys:List Dat},Vv g t f env xs=some ys->ys.length<=xs.length
 | [],ys,h=>by cases h;exact le_refl _
 | x::xs,ys,h=>by
  rw [Vv] at h;obtain ⟨env1,e1,h⟩:=bind_some h;obtain ⟨b,e2,h⟩:=bind_some h;split at h
  ·obtain ⟨y,e3,h⟩:=bind_some h
   obtain ⟨zs,e4,h⟩:=map_some h;subst h;exact Nat.succ_le_succ (Es e4)
  ·exact Nat.le_succ_of_le (Es h)
def PFd (X:Cx) (ifs:List Expr) (t:Ev->Option Bool):Prop:=PIf X ifs fun σ H Q=>∃ env R A b,EnvOk X.K R A H σ env/\t env=some b/\∀ H',Zo H H'->Q b H'
def Je:Ev->Option Bool:=fun _=>some true
theorem PIf.weak {X:Cx} {e:List Expr} {t t':TT} (h:PIf X e t) (w:∀ σ H Q,t' σ H Q->t σ H Q):PIf X e t':=fun pins s σ H Q I q=>h pins s σ H Q I (w σ H Q q)
theorem La {X:Cx}:PFd X [] Je:=(Z5b (Y:=X)).weak fun σ H Q ⟨env,R,A,b,k,e,q⟩=>by cases e;exact q H (Zo.refl H)
theorem Bi {X:Cx} {c:Expr} {t:Ev->Option Bool} (h:Au X c t):PFd X [c] t:=Z57 h
section
variable {X:Cx} {sc:Scope}
theorem Cd {J:It} {fs:List (Option Nat)} {is:List Nat} {g:Dat->Ev->Option Ev} {t:Ev->Option Bool} {f:Ev->Option Dat} {σ:St} {H1:Hp} {Q:VK} {K:PySem.W.Frag} {A:AS} {B:Bs} {env:Ev} {ds ys:List Dat}
  (hfs:∀ i∈is,fs[i]?=some none) (k:EnvOk K B A H1 σ env) (hJ:Ap false K A H1 ds J) (hz:ds.length<=sizeLine) (hc:Vv g t f (Te fs env) ds=some ys) (q:Lo K A H1 ys Q) :
  ∃ W:Nat->Nat->List V->Hp->Prop,(∃ m,W 0 m [] H1)/\∀ i m zs H,W i m zs H ->
   (J.stop i H/\zs.length<=sizeLine/\∀ p,H p=none->Q (.ref p) (W4 H p (.lst zs))) \/
   (J.go i H/\zs.length<=sizeLine/\∃ N:List V->Hp->Prop,(∀ ys' H',N ys' H'->∃ m',m'<m/\W (i+1) m' ys' H')/\∀ x H',J.yld i H x H'->(∃ env R A d env',EnvOk K R A H' (Vo fs σ) env/\Rp K (av H' A) d x/\g d env=some env'/\∀ σ',EnvOk K R A H' σ' env'->G8 is (Vo fs σ) σ' ->
    (Ext (Vo fs σ) σ'/\∃ env R A b,EnvOk K R A H' σ' env/\t env=some b/\∀ H3,Zo H' H3->if b=true then ∃ env R A d,EnvOk K R A H3 σ' env/\f env=some d/\T8 false K A H3 d (fun v H4=>N (zs++[v]) H4) else N zs H3))):=by
 have hl:=Es hc;refine ⟨fun i m zs H=>m=ds.length - i/\i<=ds.length/\Zo H1 H/\∃ us rest,Vv g t f (Te fs env) (ds.drop i)=some rest/\us++rest=ys/\Wg K (av H A) us zs,
  ⟨ds.length,by simp,zero_le _,Zo.refl _,[],ys,by simpa using hc,rfl,U0⟩,?_⟩
 rintro i m zs H ⟨rfl,hi,s1,us,rest,e1,e2,r⟩;have hzs:zs.length<=sizeLine:=by
  rw [Zy r];have:us.length<=ys.length:=by rw [← e2,length_append];lia
  lia
 obtain ⟨hgo,hstop⟩:=hJ A H ⟨rfl,s1⟩ (k.mono s1).mu;by_cases hlt:i<ds.length
 ·have hx:ds[i]?=some ds[i]:=by simp [hlt]
  obtain ⟨go,yl⟩:=hgo i _ hx;rw [drop_eq_getElem_cons hlt,Vv] at e1;obtain ⟨env1,b1,e1⟩:=bind_some e1;obtain ⟨b,b2,e1⟩:=bind_some e1;refine .inr ⟨go,hzs,fun zs' H'=>i+1<=ds.length/\Zo H1 H'/\∃ us rest,Vv g t f (Te fs env) (ds.drop (i+1))=some rest/\us++rest=ys/\Wg K (av H' A) us zs',
   fun zs' H' h=>⟨ds.length - (i+1),by lia,rfl,h⟩,fun x H' hy=>?_⟩
  obtain ⟨s2,rx⟩:=yl x H' hy;refine ⟨Te fs env,⟨H1,A,false⟩,A,ds[i],env1,(k.inn fs).mono (s1.trans s2),rx,b1,fun σ' k' ag=>⟨⟨ag.1.symm,fun j v ej=>?_⟩,env1,⟨H1,A,false⟩,A,b,k',b2,fun H3 s3=>?_⟩⟩
  ·have hj:j∉is:=fun hj=>by
    have:=hfs j hj;unfold Vo at ej;rw [getElem?_map,this] at ej;cases ej
   rw [ag.2 j hj];exact ej
  ·cases b with
   | true =>
    rw [if_pos rfl] at e1 ⊢;obtain ⟨y,b3,e1⟩:=bind_some e1;obtain ⟨rest',b4,e1⟩:=map_some e1;subst e1;refine ⟨env1,⟨H1,A,false⟩,A,y,k'.mono s3,b3,fun v H4 s4 rv=>⟨hlt,((s1.trans s2).trans s3).trans s4,us++[y],rest',b4,by rw [List.append_assoc];exact e2,V9 (r.mono (Ws ((s2.trans s3).trans s4))) (Ji rv)⟩⟩
   | false =>
    rw [if_neg Bool.false_ne_true] at e1 ⊢;exact ⟨hlt,(s1.trans s2).trans s3,us,rest,e1,e2,r.mono (Ws (s2.trans s3))⟩
 ·have e:i=ds.length:=by lia
  subst e;rw [List.drop_length,Vv] at e1;cases e1;rw [append_nil] at e2;subst e2;exact .inl ⟨hstop,hzs,(q.mono s1).at (by lia) r⟩
variable {elt tg iter:Expr} {ifs:List Expr} {pos:Pos} {src:Ev->Option (List Dat)} {is:List Nat} {g:Dat->Ev->Option Ev} {t:Ev->Option Bool} {f:Ev->Option Dat}
theorem D5 (psc:Scope) (fs:List (Option Nat)) (N:List Str) (hp:X.env.scope=psc) (S:CompOk psc sc X.N N fs) (hc:X.calm=true) (hi:PId false X tg iter src)
  (hb:∀ (C:Addr) (s:Shared) (H:Hp) (fp:List Addr),PGd is (Wv X sc N C s H fp) tg g/\PFd (Wv X sc N C s H fp) ifs t/\We false (Wv X sc N C s H fp) elt f)
  (hfs:∀ i∈is,fs[i]?=some none) (hs:∀ x,foldedSetIterable iter X.env x=pure x:=by intro _;rfl):PNd X (.ListComp elt [⟨tg,iter,ifs,0⟩] sc pos) (Ju src fs g t f):=by
 refine PE.weak (Z59 (g:=fun v σ H Q=>∃ env R A d env',EnvOk X.K R A H σ env/\Rp X.K (av H A) d v/\g d env=some env'/\∀ σ',EnvOk X.K R A H σ' env'->G8 is σ σ'->Q σ' H) (tt:=fun σ H Q=>∃ env R A b,EnvOk X.K R A H σ env/\t env=some b/\∀ H',Zo H H'->Q b H') (te:=fun σ H Q=>∃ env R A d,EnvOk X.K R A H σ env/\f env=some d/\T8 false X.K A H d Q) psc fs N hp S hc hi hb hs) fun σ H Q ⟨env,R,A,ys,k,e,q⟩=>?_
 obtain ⟨ds,e1,e2⟩:=bind_some e;exact ⟨env,R,A,ds,k,e1,fun J H1 hz s1 hJ=>Cd hfs (k.mono s1) hJ hz e2 (q.mono s1)⟩
end
def Ez (h base:Heap) (e T:Addr) (cls:Value×Option Value) (dct:Option Addr) (fl:Value):Prop :=
 ∃ oe vs oT ts,h.get? e=some oe/\(oe.cls,vs[2]?)=cls/\oe.dict=dct/\oe.data=.fields vs/\vs[1]?=some (.ref T)/\base.get? T=none/\T≠e/\h.get? T=some oT/\oT.data=.fields ts/\ts[3]?=some fl
def Hs (l:List Env) (ch:List Addr) (h h':Heap):Prop:=∀ b o,h.get? b=some o->b∉ch->(b∉Sk l->h'.get? b=some o)/\∃ sl,h'.get? b=some { o with slots:=sl }
theorem Hs.of {l:List Env} {ch:List Addr} {h h1:Heap} (a:∀ b o,h.get? b=some o->b∉ch->h1.get? b=some o):Hs l ch h h1:=fun c o q hc=>⟨fun _=>a c o q hc,o.slots,a c o q hc⟩
theorem Ht (f:Array Value->Array Value) (o:Obj):(Obj.mapFields f o).dict=o.dict:=by
 unfold Obj.mapFields;split<;>rfl
section
variable {M:Model} {A:Around} {E:Value->Shared->Prop} {s:Shared}
theorem Z2n {base:Heap} {env:Env} {outer:List Env} {L e:Addr} {oe:Obj} {vs:Array Value} {head:Value} {hadNext:Bool} {Q:Unit->Shared->Prop}
   (hfr:A.frames=some (env::outer)) (hl:s.heap.FunFrames base (env::outer)) (hf:env.frame=some L)
   (he:s.heap.get? e=some oe) (hkb:base.StaysIn s.heap) (hen:base.get? e=none) (hd:oe.data=.fields vs) (hsz:1<vs.size)
   (h:∀ h' T,s.heap.objs.size<=T->base.StaysIn h'->h'.FunFrames base (env::outer)->Ez h' base e T (oe.cls,vs[2]?) oe.dict (rawInt L)->Hs (env::outer) [e] s.heap h'->s.heap.objs.size<=h'.objs.size->Q () { s with heap:=h' }) :
   wpAny M A (do let a ← frameOf env;let pl ← entryPlaceOf L hadNext;let b ← EntryCells.newEntry head a .none (rawInt L) .none pl;setField (.ref e) 1 b) Q E s:=by
 have hene:e∉(env::outer).filterMap (·.frame):=fun hm=>by
   obtain ⟨_,o,ho,hnf⟩:=hl.mem hm;rw [he] at ho;injection ho with ho;subst ho;exact hnf vs hd
 refine wpAny_bind (wpAny_frameOf_fun hfr hl hf fun h₁ hs₁=>?_);refine wpAny_bind (wpAny_entryPlaceOf fun pl hpl=>?_);unfold EntryCells.newEntry newFields;refine wpAny_bind (wpAny_newObj_type ?_ (hpl.sizeOk5 _ _ _ _ _));have he₁:h₁.get? e=some oe:=(hs₁.2.1 e hene).trans he;have kb₁:base.StaysIn h₁:=fun b o hbo=>(hs₁.2.1 b fun hm=>by rw [(hl.mem hm).1] at hbo;cases hbo).trans (hkb b o hbo)
 have he₂:=get?_push_of_some (h:=h₁) { cls:=.type "traceback",dict:=none,data:=.fields ([head,.ref L,.none,rawInt L,.none]++(if pl.isEmpty then List.replicate 6 Value.none else pl)).toArray } he₁;have hlow:s.heap.objs.size<=h₁.objs.size:=le_of_eq hs₁.1.symm;have hTe:h₁.objs.size≠e:=Nat.ne_of_gt (lt_size he₁);have hd₃:=Obj.data_mapFields hd (·.setIfInBounds 1 (Value.ref h₁.objs.size));have he₃:=get?_update_self (Obj.mapFields (·.setIfInBounds 1 (Value.ref h₁.objs.size))) he₂ (Obj.isFreed_of_fields hd₃);have hT₃:=(get?_update_other (h₁.push { cls:=.type "traceback",dict:=none,data:=.fields ([head,.ref L,.none,rawInt L,.none]++(if pl.isEmpty then List.replicate 6 Value.none else pl)).toArray })
   (Obj.mapFields (·.setIfInBounds 1 (Value.ref h₁.objs.size))) (Ne.symm hTe)).trans (get?_push_size h₁ rfl)
 have keep:∀ b o,b≠e->h₁.get? b=some o ->
     ((h₁.push { cls:=.type "traceback",dict:=none,data:=.fields ([head,.ref L,.none,rawInt L,.none]++(if pl.isEmpty then List.replicate 6 Value.none else pl)).toArray }).update e (Obj.mapFields (·.setIfInBounds 1 (Value.ref h₁.objs.size)))).get? b=some o :=
   fun b o hbe hb=>by
     rw [get?_update_other _ _ (Ne.symm hbe)];exact get?_push_of_some _ hb
 refine wpAny_setField he₂ hd hsz (h _ h₁.objs.size hlow ?_ ?_ ?_ ?_ ?_)
 · exact fun b o hbo=>keep b o (fun q=>by rw [q,hen] at hbo;cases hbo) (kb₁ b o hbo)
 · refine hl.of_keeps fun b o hb hnf=>?_
   obtain ⟨sl,hs⟩:=hs₁.2.2 b o hb;have hbe:b≠e:=fun q=>by rw [q,he] at hb;injection hb with hb;subst hb;exact hnf vs hd
   exact ⟨_,keep b _ hbe hs,rfl⟩
 · exact ⟨_,_,_,_,he₃,by rw [Obj.cls_mapFields];simp [Array.getElem?_setIfInBounds],Ht _ _,hd₃,by simp [hsz],kb₁.fresh,hTe,hT₃,rfl,by first | (simp;done) | (rcases hpl with rfl | ⟨_,_,_,_,_,_,_,rfl⟩<;>simp)⟩
 · intro b o hb hbe
   have hbe':b≠e:=fun z=>hbe (by simp [z])
   obtain ⟨sl,hs⟩:=hs₁.2.2 b o hb;exact ⟨fun hfr'=>keep b o hbe' ((hs₁.2.1 b hfr').trans hb),sl,keep b _ hbe' hs⟩
 · rw [size_update,size_push];exact Nat.le_succ_of_le hlow
theorem Gs {base:Heap} {l:List Env} {e T:Addr} {cls:Value×Option Value} {dct:Option Addr} {fl:Value} {Q:Unit->Shared->Prop}
  (hkb:base.StaysIn s.heap) (hl:s.heap.FunFrames base l) (ht:Ez s.heap base e T cls dct fl)
  (h:∀ h',base.StaysIn h'->h'.FunFrames base l->Ez h' base e T cls dct .none->(∀ b o,s.heap.get? b=some o->b∉[T]->h'.get? b=some o)->h'.objs.size=s.heap.objs.size->Q () { s with heap:=h' }) :
  wpAny M A (setFlight (.ref e) none) Q E s:=by
 obtain ⟨oe,vs,oT,ts,he,hcls,hdct,hd,h1,hnT,hTe,hT,hdT,h3⟩:=ht;have hsz3:3<ts.size:=(Array.getElem?_eq_some_iff.mp h3).1;have other:∀ b,b≠T->(s.heap.update T (Obj.mapFields (·.setIfInBounds 3 ((none:Option Addr).elim Value.none fun f=>rawInt f)))).get? b=s.heap.get? b :=
  fun b hb=>get?_update_other _ _ (Ne.symm hb)
 have noRecord:∀ b o,s.heap.get? b=some o->(∀ vs,o.data≠.fields vs)->b≠T:=fun b o hb hnf q=>by
  rw [q,hT] at hb;injection hb with hb;subst hb;exact hnf ts hdT
 unfold setFlight;refine wpAny_bind (wpAny_field he hd h1 ?_);rw [if_pos (show (Value.ref T != Value.none)=true from by simp)];refine wpAny_setField hT hdT hsz3 (h _ (fun b o hbo=>(other b fun q=>by rw [q,hnT] at hbo;cases hbo).trans (hkb b o hbo))
  (hl.of_keeps fun b o hb hnf=>⟨o,(other b (noRecord b o hb hnf)).trans hb,rfl⟩) ?_ (fun b o hb hnf=>(other b (fun z=>hnf (by simp [z]))).trans hb) (size_update ..))
 exact ⟨oe,vs,_,_,(other e (Ne.symm hTe)).trans he,hcls,hdct,hd,h1,hnT,hTe,get?_update_self _ hT (Obj.isFreed_of_fields (Obj.data_mapFields hdT _)),Obj.data_mapFields hdT _,by simp [hsz3]⟩
theorem B4 {base:Heap} {env:Env} {outer:List Env} {L e T:Addr} {cls:Value×Option Value} {dct:Option Addr} {Q:Unit->Shared->Prop}
  (hfr:A.frames=some (env::outer)) (hl:s.heap.FunFrames base (env::outer)) (hf:env.frame=some L) (ht:Ez s.heap base e T cls dct .none) (hkb:base.StaysIn s.heap) (hen:base.get? e=none)
  (h:∀ h' T',s.heap.objs.size<=T'->base.StaysIn h'->h'.FunFrames base (env::outer)->Ez h' base e T' cls dct (rawInt L)->Hs (env::outer) [e,T] s.heap h'->s.heap.objs.size<=h'.objs.size->Q () { s with heap:=h' }):wpAny M A (noteFrame (.ref e) env) Q E s:=by
 obtain ⟨oe,vs,oT,ts,he,hcls,hdct,hd,h1,hnT,hTe,hT,hdT,h3⟩:=ht;subst hcls hdct;unfold noteFrame;simp only [hf];refine wpAny_bind (wpAny_field he hd h1 ?_);rw [if_pos (show (Value.ref T != Value.none)=true from by simp)];refine wpAny_bind (wpAny_field hT hdT h3 ?_);rw [if_neg (show ¬ ((Value.none==rawInt L)=true) from by simp [rawInt])];refine wpAny_bind (wpAny_setField hT hdT (Array.getElem?_eq_some_iff.mp h3).1 ?_);have other:∀ b,b≠T->(s.heap.update T (Obj.mapFields (·.setIfInBounds 3 Value.none))).get? b=s.heap.get? b:=fun b hb=>get?_update_other _ _ (Ne.symm hb)
 have noRecord:∀ b o,s.heap.get? b=some o->(∀ vs,o.data≠.fields vs)->b≠T:=fun b o hb hnf q=>by
  rw [q,hT] at hb;injection hb with hb;subst hb;exact hnf ts hdT
 have hsz:(s.heap.update T (Obj.mapFields (·.setIfInBounds 3 Value.none))).objs.size=s.heap.objs.size:=size_update ..;refine Z2n (s:={ s with heap:=s.heap.update T (Obj.mapFields (·.setIfInBounds 3 Value.none)) }) hfr (hl.of_keeps fun b o hb hnf=>⟨o,(other b (noRecord b o hb hnf)).trans hb,rfl⟩) hf ((other e (Ne.symm hTe)).trans he)
  (fun b o hbo=>(other b fun q=>by rw [q,hnT] at hbo;cases hbo).trans (hkb b o hbo)) hen hd (Array.getElem?_eq_some_iff.mp h1).1
  fun h' T' x0 x1 x2 x3 x4 x5=>h h' T' (by rw [← hsz];exact x0) x1 x2 x3 (fun b o hb hc=>?_) (by rw [← hsz];exact x5)
 have hbT:b≠T:=fun z=>hc (by simp [z])
 exact x4 b o ((other b hbT).trans hb) (fun z=>hc (by simp at z;simp [z]))
theorem Jg {base:Heap} {env:Env} {outer:List Env} {L e:Addr} {oe:Obj} {vs:Array Value} {Q:Unit->Shared->Prop}
  (hfr:A.frames=some (env::outer)) (hl:s.heap.FunFrames base (env::outer)) (hf:env.frame=some L)
  (he:s.heap.get? e=some oe) (hkb:base.StaysIn s.heap) (hen:base.get? e=none) (hd:oe.data=.fields vs) (h1:vs[1]?=some .none)
  (h:∀ h' T',s.heap.objs.size<=T'->base.StaysIn h'->h'.FunFrames base (env::outer)->Ez h' base e T' (oe.cls,vs[2]?) oe.dict (rawInt L)->Hs (env::outer) [e] s.heap h'->s.heap.objs.size<=h'.objs.size->Q () { s with heap:=h' }):wpAny M A (noteFrame (.ref e) env) Q E s:=by
 unfold noteFrame;simp only [hf];refine wpAny_bind (wpAny_field he hd h1 ?_);rw [if_neg (by decide)];exact Z2n hfr hl hf he hkb hen hd (Array.getElem?_eq_some_iff.mp h1).1 h
theorem P7 {base:Heap} {env:Env} {outer:List Env} {L e:Addr} {oe:Obj} {vs:Array Value} {Q:Unit->Shared->Prop}
  (hfr:A.frames=some (env::outer)) (hl:s.heap.FunFrames base (env::outer)) (hf:env.frame=some L)
  (he:s.heap.get? e=some oe) (hkb:base.StaysIn s.heap) (hen:base.get? e=none) (hd:oe.data=.fields vs) (h1:vs[1]?=some .none)
  (h:∀ h' T',s.heap.objs.size<=T'->base.StaysIn h'->h'.FunFrames base (env::outer)->Ez h' base e T' (oe.cls,vs[2]?) oe.dict .none->Hs (env::outer) [e] s.heap h'->Q () { s with heap:=h' }):wpAny M A (leaving env (.ref e)) Q E s:=by
 unfold leaving;refine wpAny_bind (Jg hfr hl hf he hkb hen hd h1 fun h' T' x0 x1 x2 x3 x4 x5=>?_);refine Gs (s:={ s with heap:=h' }) x1 x2 x3 fun h2 y1 y2 y3 y4 y5=>h h2 T' x0 y1 y2 y3 (fun b o hb hc=>?_)
 obtain ⟨k1,sl,k2⟩:=x4 b o hb hc;have hbT:b∉[T']:=fun z=>by
  have e1:b=T':=by simpa using z
  have e2:=lt_size hb;rw [e1] at e2;exact absurd (lt_of_lt_of_le e2 x0) (lt_irrefl _)
 exact ⟨fun hfr'=>y4 b o (k1 hfr') hbT,sl,y4 b _ k2 hbT⟩
theorem Z8e {base:Heap} {env:Env} {outer:List Env} {L e T:Addr} {cls:Value×Option Value} {dct:Option Addr} {Q:Unit->Shared->Prop}
  (hfr:A.frames=some (env::outer)) (hl:s.heap.FunFrames base (env::outer)) (hf:env.frame=some L) (ht:Ez s.heap base e T cls dct .none) (hkb:base.StaysIn s.heap) (hen:base.get? e=none)
  (h:∀ h' T',s.heap.objs.size<=T'->base.StaysIn h'->h'.FunFrames base (env::outer)->Ez h' base e T' cls dct .none->Hs (env::outer) [e,T] s.heap h'->Q () { s with heap:=h' }):wpAny M A (leaving env (.ref e)) Q E s:=by
 unfold leaving;refine wpAny_bind (B4 hfr hl hf ht hkb hen fun h' T' x0 x1 x2 x3 x4 x5=>?_);refine Gs (s:={ s with heap:=h' }) x1 x2 x3 fun h2 y1 y2 y3 y4 y5=>h h2 T' x0 y1 y2 y3 (fun b o hb hc=>?_)
 obtain ⟨k1,sl,k2⟩:=x4 b o hb hc;have hbT:b∉[T']:=fun z=>by
  have e1:b=T':=by simpa using z
  have e2:=lt_size hb;rw [e1] at e2;exact absurd (lt_of_lt_of_le e2 x0) (lt_irrefl _)
 exact ⟨fun hfr'=>y4 b o (k1 hfr') hbT,sl,y4 b _ k2 hbT⟩
end
inductive Fl where
 | next (env:Ev) | ret (d:Dat) | brk (env:Ev) | cont (env:Ev) | exc (env:Ev) (c:Str) (fs:List (Str×XD)) | no
def NwT (K:PySem.W.Frag) (B:Bs) (H':Hp) (d:Dat) (v:V):Prop:=∀ ds,d=.lst ds->∃ p vs,v=.ref p/\B.H₀ p=none/\H' p=some (.lst vs)/\ds.length<=sizeLine/\Wg K (av H' (ins B.R p)) ds vs
structure XSt (X:Cx) (pins:List (Addr×Obj)) (H:Hp) (h:Heap) (e C:Addr) (dct:Option Addr):Prop where
 lo:X.s₀.heap.objs.size<=e
 un:H e=none
 ob:(∃ o vs,h.get? e=some o/\o.cls=.ref C/\o.dict=dct/\o.data=.fields vs/\vs[1]?=some .none/\(X.pl=true->vs[2]?=some .none))\/∃ T c2,X.s₀.heap.objs.size<=T/\H T=none/\(∀ p∈X.pn++pins,p.1≠T)/\Ez h X.base e T (.ref C,c2) dct .none/\(X.pl=true->c2=some .none)
 pe:∀ p∈X.pn++pins,p.1≠e
def Oa (H0 H:Hp) (dct:Option Addr):Prop:=∀ dx,dct=some dx->H0 dx=none/\∀ fvs f a,H dx=some (.xd fvs)->fvs.lookup f=some (.ref a)->H0 a=none/\∃ xs,H a=some (.lst xs)
theorem Oa.mono {H0 H1 H:Hp} {dct:Option Addr} (h:Oa H1 H dct) (m:∀ b,H1 b=none->H0 b=none):Oa H0 H dct:=fun dx e=>⟨m _ (h dx e).1,fun fvs f a q l=>((h dx e).2 fvs f a q l).imp (m _) id⟩
theorem Z24 {H0 H:Hp} {dx:Addr} {fvs:List (Str×V)} (h1:H0 dx=none) (h2:H dx=some (.xd fvs)) (h3:∀ f a,(f,V.ref a)∈fvs->H0 a=none/\∃ xs,H a=some (.lst xs)):Oa H0 H (some dx):=fun dx' e=>by
 cases e;refine ⟨h1,fun fvs' f a q l=>?_⟩;rw [h2] at q;cases q;exact h3 f a (PySem.mem_of_lookup l)
theorem Z4f {H0 H:Hp}:Oa H0 H none:=fun dx e=>by cases e
theorem Zo.none {H H':Hp} (s:Zo H H') {b:Addr} (h:H' b=none):H b=none:=by
 cases q:H b with
 | none=>rfl
 | some o=>rw [s b o q] at h;cases h
def XW (X:Cx) (H0:Hp) (A:AS) (H:Hp) (σ:St) (c:Str) (fs:List (Str×XD)):Prop :=
 ∀ (pins:List (Addr×Obj)) (s:Shared) (e C:Addr) (dct:Option Addr),Inv X pins σ H s->W5 X.K c C->XSt X pins H s.heap e C dct->P9 X.K (av H A) dct fs->Oa H0 H dct->X.xe (.ref e) s
def Eh (fr:Bool) (X:Cx) (B:Bs) (A:AS) (H:Hp) (D:Ends):Fl->Prop
 | .next env'=>∀ A' H' σ',Step A H A' H'->EnvOk X.K B A' H' σ' env'->D.nx σ' H'
 | .brk env'=>∀ A' H' σ',Step A H A' H'->EnvOk X.K B A' H' σ' env'->D.bk σ' H'
 | .cont env'=>∀ A' H' σ',Step A H A' H'->EnvOk X.K B A' H' σ' env'->D.ct σ' H'
 | .ret d=>∀ v H',Zo B.H₀ H'->Rp X.K (av H' B.R) d v->(fr=true->NwT X.K B H' d v)->D.rt v H'
 | .exc env' c fs=>∀ A' H' σ',Step A H A' H'->EnvOk X.K B A' H' σ' env'->XW X B.H₀ A' H' σ' c fs
 | .no=>False
def tS (fr:Bool) (X:Cx) (g:Ev->Fl):TS:=fun D σ H=>∃ env B A,EnvOk X.K B A H σ env/\B.st=true/\Eh fr X B A H D (g env)
def Su (fr:Bool) (X:Cx) (st:Stmt) (g:Ev->Fl):Prop:=PS X st (tS fr X g)
def Lp (fr:Bool) (X:Cx) (st:List Stmt) (g:Ev->Fl):Prop:=Sm X st (tS fr X g)
theorem Eh.step {fr:Bool} {X:Cx} {B:Bs} {A A':AS} {H H':Hp} {D:Ends} {r:Fl} (h:Eh fr X B A H D r) (s:Step A H A' H'):Eh fr X B A' H' D r:=by
 cases r with
 | next e=>exact fun A2 H2 σ2 s2 k=>h A2 H2 σ2 (s.trans s2) k
 | brk e=>exact fun A2 H2 σ2 s2 k=>h A2 H2 σ2 (s.trans s2) k
 | cont e=>exact fun A2 H2 σ2 s2 k=>h A2 H2 σ2 (s.trans s2) k
 | ret d=>exact h
 | exc e c fs=>exact fun A2 H2 σ2 s2 k=>h A2 H2 σ2 (s.trans s2) k
 | no=>exact h
section
variable {fr m:Bool} {X:Cx} {st:Stmt} {rest a b:List Stmt} {e c:Expr} {g h:Ev->Fl} {f:Ev->Option Dat} {fs:Ev->Option (List Dat)} {t:Ev->Option Bool} {pos:Pos}
def Q5:Ev->Fl:=fun env=>.next env
def Ze (g h:Ev->Fl):Ev->Fl:=fun env=>match g env with
 | .next env'=>h env'
 | r=>r
theorem Vm:Lp fr X [] Q5:=Z5c.weak fun D σ H ⟨env,B,A,k,hst,q⟩=>q A H σ (Step.refl A H) k
theorem Za (h1:Su fr X st g) (h2:Lp fr X rest h):Lp fr X (st::rest) (Ze g h):=(Kh h1 h2).weak fun D σ H zz=>by
 obtain ⟨env,B,A,k,hst,q⟩:=zz;refine ⟨env,B,A,k,hst,?_⟩;unfold Ze at q;split at q
 ·rename_i env' e
  rw [e];exact fun A' H' σ' s k'=>⟨env',B,A',k',hst,q.step s⟩
 ·rename_i r hn
  cases e:g env with
  | next env'=>exact absurd e (hn env')
  | brk e'=>rw [e] at q;exact q
  | cont e'=>rw [e] at q;exact q
  | ret d=>rw [e] at q;exact q
  | exc e' c fs=>rw [e] at q;exact q
  | no=>rw [e] at q;exact q
theorem Zk (h1:Su fr X st g):Lp fr X [st] g:=Ho h1
theorem Z9x:Su fr X (.Continue pos) (fun env=>.cont env):=Xe.weak fun D σ H ⟨env,B,A,k,hst,q⟩=>q A H σ (Step.refl A H) k
def M4 (t:Ev->Option Bool) (g h:Ev->Fl):Ev->Fl:=fun env=>match t env with
 | some true=>g env
 | some false=>h env
 | none=>.no
theorem U3 (hc:Au X c t) (ha:Lp fr X a g) (hb:Lp fr X b h):Su fr X (.If c a b pos) (M4 t g h):=(Zco hc ha hb).weak fun D σ H zz=>by
 obtain ⟨env,B,A,k,hst,q⟩:=zz;unfold M4 at q;split at q
 ·rename_i e
  refine ⟨env,B,A,true,k,e,fun H' s=>?_⟩;exact Zc9 ⟨env,B,A,k.mono s,hst,q.step (Step.same s)⟩
 ·rename_i e
  refine ⟨env,B,A,false,k,e,fun H' s=>?_⟩;exact Zbc ⟨env,B,A,k.mono s,hst,q.step (Step.same s)⟩
 ·exact q.elim
def V1 (f:Ev->Option Dat):Ev->Fl:=fun env=>match f env with
 | some d=>.ret d
 | none=>.no
theorem Nw {B:Bs} {A:AS} {H H':Hp} {σ:St} {env:Ev} {d:Dat} {v:V} (k:EnvOk X.K B A H σ env) (s:Zo H H') (r:Rp X.K (av H' A) d v):Zo B.H₀ H'/\Rp X.K (av H' B.R) d v:=⟨k.h0.trans s,r.mono (Tg k.ra)⟩
theorem Wk (he:We false X e f):Su false X (.Return (some e) pos) (V1 f):=(Os he).weak fun D σ H zz=>by
 obtain ⟨env,B,A,k,hst,q⟩:=zz;unfold V1 at q;split at q
 ·rename_i d e
  exact ⟨env,B,A,d,k,e,fun v H' s r=>q v H' (Nw k s r).1 (Nw k s r).2 (fun z=>by cases z)⟩
 ·exact q.elim
theorem Z8l {B:Bs} {A:AS} {H H':Hp} {σ:St} {env:Ev} {ds:List Dat} {p:Addr} {vs:List V} (k:EnvOk X.K B A H σ env) (hz:ds.length<=sizeLine) (s:Zo H H') (hn:H p=none) (hp:H' p=some (.lst vs)) (r:Wg X.K (av H' (ins A p)) ds vs):B.H₀ p=none/\B.R p=false/\Wg X.K (av H' (ins B.R p)) ds vs:=by
 have h0:B.H₀ p=none:=k.h0.free hn;refine ⟨h0,?_,r.mono (Tg fun a ha=>?_)⟩
 ·cases q:B.R p with
  | false=>rfl
  | true=>obtain ⟨o,ho⟩:=k.r0 p q;rw [h0] at ho;cases ho
 ·rcases My ha with z | z
  ·exact Sy (k.ra a z)
  ·subst z;exact Kb
theorem Z1s (he:PNd X e fs):Su fr X (.Return (some e) pos) (V1 (dL fs)):=(Os he).weak fun D σ H zz=>by
 obtain ⟨env,B,A,k,hst,q⟩:=zz;unfold V1 at q;split at q
 ·rename_i d e
  obtain ⟨ds,e1,e2⟩:=map_some e;subst e2;refine ⟨env,B,A,ds,k,e1,fun p vs H' hz s hn hp r=>?_⟩;obtain ⟨h1,h2,h3⟩:=Z8l k hz s hn hp r;refine q (.ref p) H' (k.h0.trans s) (D3 hz (.inl (.inl (Wl hp h2))) (h3.mono (Tg fun a ha=>Sy ha))) fun _ ds' ed=>?_
  cases ed;exact ⟨p,vs,rfl,h1,hp,hz,h3⟩
 ·exact q.elim
theorem M7 {env:Ev} {i:Nat} {s:Slt} (h:∀ (j:Nat) d,env[j]?≠some (.pk d)) (hs:∀ d,s≠.pk d):∀ (j:Nat) d,(env.set i s)[j]?≠some (.pk d):=fun j d=>by
 rw [getElem?_set];split
 ·split
  ·intro z;exact hs d (Option.some.inj z)
  ·intro z;cases z
 ·exact h j d
theorem EnvOk.own {K:PySem.W.Frag} {B:Bs} {A:AS} {H:Hp} {σ:St} {env:Ev} {i:Nat} {ds:List Dat} (k:EnvOk K B A H σ env) (hst:B.st=true) (h:env[i]?=some (.ow ds)) :
  ∃ a vs,σ[i]?=some (some (.ref a))/\H a=some (.lst vs)/\Wg K (av H A) ds vs/\ds.length<=sizeLine/\A a=true/\B.R a=false/\B.H₀ a=none /\
   (∀ ds' vs',ds'.length<=sizeLine->Wg K (av H A) ds' vs'->Step A H A (W4 H a (.lst vs'))/\EnvOk K B A (W4 H a (.lst vs')) σ (env.set i (.ow ds'))) /\
   Step A H (fun b=>A b&&b != a) H/\EnvOk K B (fun b=>A b&&b != a) H σ (env.set i (.fz (.lst ds))):=by
 obtain ⟨own,h1,h2,h4⟩:=k.sl;obtain ⟨x,q1,a,vs,e1,e2,hz,e3,e4⟩:=h4 i _ h;subst e1;obtain ⟨hA,hR⟩:=h2 i a e2;have h0:B.H₀ a=none:=by
  rcases k.ar a hA with z | z
  ·rw [z] at hR;cases hR
  ·exact z
 have avs:∀ vs',Zo (av H A) (av (W4 H a (.lst vs')) A):=fun vs' b o e=>by
  obtain ⟨z1,z2⟩:=Wf e;have hb:b≠a:=by intro z;rw [z,hA] at z1;cases z1
  exact Wl (by rw [Zh hb];exact z2) z1
 refine ⟨a,vs,q1,e3,e4,hz,hA,hR,h0,fun ds' vs' hz' r'=>⟨⟨fun b o hb hAb=>?_,fun b hb=>.inl hb⟩,?_⟩,⟨fun b o hb _=>hb,fun b hb=>.inl ?_⟩,?_⟩
 ·have hn:b≠a:=by intro z;rw [z,hA] at hAb;cases hAb
  rw [Zh hn];exact hb
 ·refine ⟨fun b o hb=>?_,k.r0,k.ra,k.ar,fun b hb=>?_,by rw [length_set];exact k.len,fun hs j d'=>M7 (k.np hs) (fun _ z=>by cases z) j d',own,h1,h2,fun j s e=>?_⟩
  ·have hn:b≠a:=Y4 hb h0
   rw [Zh hn];exact k.h0 b o hb
  ·by_cases hn:b=a
   ·subst hn;rw [Zs];trivial
   ·rw [Zh hn];exact k.mu b hb
  ·by_cases hj:i=j
   ·subst hj
    rw [getElem?_set,if_pos rfl] at e;split at e
    ·cases e
     exact ⟨_,q1,a,vs',rfl,e2,hz',Zs,r'.mono (avs vs')⟩
    ·cases e
   ·rw [getElem?_set,if_neg hj] at e
    obtain ⟨x,p1,p2⟩:=h4 j s e;refine ⟨x,p1,?_⟩;cases s with
    | un=>trivial
    | fz d=>obtain ⟨v,z1,z2⟩:=p2;exact ⟨v,z1,z2.mono (avs vs')⟩
    | pk d =>
     exact absurd e (k.np hst j d)
    | ow es =>
     obtain ⟨b,us,z1,z2,z3,z4,z5⟩:=p2;have hn:b≠a:=fun z=>hj (h1 i j a e2 (z▸z2))
     exact ⟨b,us,z1,z2,z3,by rw [Zh hn];exact z4,z5.mono (avs vs')⟩
    | gx g =>
     obtain ⟨v,z1,z2⟩:=p2;exact ⟨v,z1,z2.frame (fun _ z=>z) (fun b x ob z=>by
      have hn:b≠a:=fun w=>hj (h1 i j a e2 (w▸ob))
      rw [Zh hn];exact z) (avs vs')⟩
 ·rw [Bool.and_eq_true] at hb;exact hb.1
 ·have less:Zo (av H A) (av H fun b=>A b&&b != a):=Tg fun b hb=>by rw [Bool.and_eq_true] at hb;exact hb.1
  refine ⟨k.h0,k.r0,fun b hb=>?_,fun b hb=>?_,fun b hb=>?_,by rw [length_set];exact k.len,fun hs j d'=>M7 (k.np hs) (fun _ z=>by cases z) j d',fun j b=>j≠i/\own j b,fun j j' b z z'=>h1 j j' b z.2 z'.2,fun j b z=>?_,fun j s e=>?_⟩
  ·have hn:b≠a:=by intro z;rw [z,hR] at hb;cases hb
   simp [k.ra b hb,hn]
  ·rw [Bool.and_eq_true] at hb;exact k.ar b hb.1
  ·rw [Bool.and_eq_true] at hb;exact k.mu b hb.1
  ·have hn:b≠a:=fun w=>z.1 (h1 j i a (w▸z.2) e2)
   simp [(h2 j b z.2).1,(h2 j b z.2).2,hn]
  ·by_cases hj:i=j
   ·subst hj
    rw [getElem?_set,if_pos rfl] at e;split at e
    ·cases e
     exact ⟨_,q1,.ref a,rfl,D3 hz (.inl (.inl (Wl e3 (by simp)))) (e4.mono less)⟩
    ·cases e
   ·rw [getElem?_set,if_neg hj] at e
    obtain ⟨x,p1,p2⟩:=h4 j s e;refine ⟨x,p1,?_⟩;cases s with
    | un=>trivial
    | fz d=>obtain ⟨v,z1,z2⟩:=p2;exact ⟨v,z1,z2.mono less⟩
    | pk d =>
     obtain ⟨v,z1,z2⟩:=p2;refine ⟨v,z1,?_⟩;rcases z2 with z2 | ⟨b,us,es,y1,y2,y3,y4,y5⟩ | z2
     ·exact .inl (z2.mono less)
     ·exact .inr (.inl ⟨b,us,es,y1,y2,y3,y4,y5.mono less⟩)
     ·exact .inr (.inr z2)
    | ow es =>
     obtain ⟨b,us,z1,z2,z3,z4,z5⟩:=p2;exact ⟨b,us,z1,⟨Ne.symm hj,z2⟩,z3,z4,z5.mono less⟩
    | gx g =>
     obtain ⟨v,z1,z2⟩:=p2;exact ⟨v,z1,z2.frame (fun _ z=>⟨Ne.symm hj,z⟩) (fun _ _ _ z=>z) less⟩
def frz (i:Nat):Ev->Ev:=fun env=>match env[i]? with
 | some (.ow ds)=>env.set i (.fz (.lst ds))
 | _=>env
def Z6s (i:Nat) (g:Ev->Fl):Ev->Fl:=fun env=>g (frz i env)
theorem Z7o (i:Nat) (h:Su fr X st g):Su fr X st (Z6s i g):=h.weak fun D σ H zz=>by
 obtain ⟨env,B,A,k,hst,q⟩:=zz;dsimp only [Z6s,frz] at q;split at q
 ·rename_i ds e
  obtain ⟨a,vs,_,_,_,_,_,_,_,_,s,k'⟩:=k.own hst e;exact ⟨_,B,_,k',hst,q.step s⟩
 ·exact ⟨env,B,A,k,hst,q⟩
def Gp (i:Nat):Ev->Fl:=fun env=>match env[i]? with
 | some (.ow ds)=>.ret (.lst ds)
 | _=>.no
theorem O2 (i:Nat) {x:Str} {p:Pos} (hN:X.N[i]?=some x:=by rfl) (hv:Al X.env.scope x:=by first | exact Or.inl rfl | exact Or.inr (Or.inl rfl) | exact Or.inr (Or.inr rfl)) (hd:(x==("__debug__" : Str))=false:=by decide)
  (hcd:(x==("__classdict__" : Str))=false:=by decide):Su fr X (.Return (some (.Name x p)) pos) (Gp i):=(Os (Q3 hN hv hd hcd)).weak fun D σ H zz=>by
 obtain ⟨env,B,A,k,hst,q⟩:=zz;unfold Gp at q;split at q
 ·rename_i ds e
  obtain ⟨a,vs,h1,h2,h3,hz,hA,hR,h0,_⟩:=k.own hst e;have less:∀ b,ins B.R a b=true->A b=true:=fun b hb=>by
   rcases My hb with z | z
   ·exact k.ra b z
   ·rw [z];exact hA
  have r:=h3.mono (Tg (H:=H) less);refine ⟨.ref a,h1,q (.ref a) H k.h0 (D3 hz (.inl (.inl (Wl h2 hR))) (r.mono (Tg fun b hb=>Sy hb))) fun _ ds' ed=>?_⟩;cases ed;exact ⟨a,vs,rfl,h0,h2,hz,r⟩
 ·exact q.elim
def Zq (i:Nat) (f:Ev->Option Dat):Ev->Fl:=fun env=>match f env with
 | some d=>.next (env.set i (.fz d))
 | none=>.no
def Sg (i:Nat) (f:Ev->Option (List Dat)):Ev->Fl:=fun env=>match f env with
 | some ds=>.next (env.set i (.ow ds))
 | none=>.no
theorem EnvOk.putO {K:PySem.W.Frag} {B:Bs} {A:AS} {H H':Hp} {σ:St} {env:Ev} (k:EnvOk K B A H σ env) (hst:B.st=true) (i:Nat) {ds:List Dat} {p:Addr} {vs:List V} (hz:ds.length<=sizeLine) (s:Zo H H') (hn:H p=none) (hp:H' p=some (.lst vs)) (r:Wg K (av H' (ins A p)) ds vs) :
  Step A H (ins A p) H'/\EnvOk K B (ins A p) H' (σ.set i (some (.ref p))) (env.set i (.ow ds)):=by
 have st:Step A H (ins A p) H':=⟨fun a o h _=>s a o h,fun a h=>by
  rcases My h with z | z
  ·exact .inl z
  ·rw [z];exact .inr hn⟩
 have hAp:A p=false:=k.mu.new hn;have h0:B.H₀ p=none:=k.h0.free hn;obtain ⟨own,h1,h2,h4⟩:=k.sl;refine ⟨st,k.h0.trans s,k.r0,fun a h=>Sy (k.ra a h),fun a h=>?_,fun a h=>?_,by rw [length_set,length_set];exact k.len,fun hs j d'=>M7 (k.np hs) (fun _ z=>by cases z) j d',
  fun j a=>(j≠i/\own j a)\/(j=i/\a=p),fun j j' a z z'=>?_,fun j a z=>?_,fun j sl e=>?_⟩
 ·rcases My h with z | z
  ·exact k.ar a z
  ·rw [z];exact .inr h0
 ·rcases My h with z | z
  ·exact k.mu.mono s a z
  ·rw [z,hp];trivial
 ·rcases z with z | z<;>rcases z' with z' | z'
  ·exact h1 j j' a z.2 z'.2
  ·have:=(h2 j a z.2).1;rw [z'.2,hAp] at this;cases this
  ·have:=(h2 j' a z'.2).1;rw [z.2,hAp] at this;cases this
  ·rw [z.1,z'.1]
 ·rcases z with z | z
  ·exact ⟨Sy (h2 j a z.2).1,(h2 j a z.2).2⟩
  ·refine ⟨by rw [z.2];exact Kb,?_⟩
   cases q:B.R a with
   | false=>rfl
   | true=>obtain ⟨o,ho⟩:=k.r0 a q;rw [z.2,h0] at ho;cases ho
 ·by_cases hj:i=j
  ·subst hj
   rw [getElem?_set,if_pos rfl] at e;split at e
   ·rename_i hl
    cases e;exact ⟨some (.ref p),by rw [getElem?_set,if_pos rfl,if_pos (by rw [k.len];exact hl)],p,vs,rfl,.inr ⟨rfl,rfl⟩,hz,hp,r⟩
   ·cases e
  ·rw [getElem?_set,if_neg hj] at e
   obtain ⟨x,p1,p2⟩:=h4 j sl e;refine ⟨x,by rw [getElem?_set,if_neg hj];exact p1,?_⟩;cases sl with
   | un=>trivial
   | fz d=>obtain ⟨v,z1,z2⟩:=p2;exact ⟨v,z1,z2.mono st.av⟩
   | pk d=>exact absurd e (k.np hst j d)
   | ow es =>
    obtain ⟨b,us,z1,z2,z3,z4,z5⟩:=p2;exact ⟨b,us,z1,.inl ⟨Ne.symm hj,z2⟩,z3,s _ _ z4,z5.mono st.av⟩
   | gx g =>
    obtain ⟨v,z1,z2⟩:=p2;exact ⟨v,z1,z2.frame (fun _ z=>.inl ⟨Ne.symm hj,z⟩) (fun b x _ z=>s b x z) st.av⟩
theorem Zj (i:Nat) {x:Str} {pos':Pos} (hN:X.N.Nodup) (hi:X.N[i]?=some x) (hx:Pq X.env.scope x) (he:We false X e f) (hs:swapsWith e (some (.Name x pos')) pos.line X.env=pure false:=by rfl)
  (hf:X.fn x=true\/X.env.scope.names.lookup x=some .local:=by first | exact .inl rfl | exact .inr rfl | assumption):Su fr X (.Assign [.Name x pos'] e pos) (Zq i f):=(Kd hN hi hx he hs hf).weak fun D σ H zz=>by
 obtain ⟨env,B,A,k,hst,q⟩:=zz;unfold Zq at q;split at q
 ·rename_i d e
  exact ⟨env,B,A,d,k,e,fun v H' s r=>q A H' _ (Step.same s) ((k.mono s).put i r)⟩
 ·exact q.elim
theorem Mq (i:Nat) {x:Str} {pos':Pos} (hN:X.N.Nodup) (hi:X.N[i]?=some x) (hx:Pq X.env.scope x) (he:PNd X e fs) (hs:swapsWith e (some (.Name x pos')) pos.line X.env=pure false:=by rfl)
  (hf:X.fn x=true\/X.env.scope.names.lookup x=some .local:=by first | exact .inl rfl | exact .inr rfl | assumption):Su fr X (.Assign [.Name x pos'] e pos) (Sg i fs):=(Kd hN hi hx he hs hf).weak fun D σ H zz=>by
 obtain ⟨env,B,A,k,hst,q⟩:=zz;unfold Sg at q;split at q
 ·rename_i ds e
  refine ⟨env,B,A,ds,k,e,fun p vs H' hz s hn hp r=>?_⟩;obtain ⟨h1,h2⟩:=k.putO hst i hz s hn hp r;exact q _ H' _ h1 h2
 ·exact q.elim
variable {sc:Scope} {elt tg iter:Expr} {ifs:List Expr} {src:Ev->Option (List Dat)} {is:List Nat} {gg:Dat->Ev->Option Ev} {tt:Ev->Option Bool}
theorem Z3j (i:Nat) {x:Str} {pos' spos:Pos} (hN:X.N.Nodup) (hi':X.N[i]?=some x) (hx:Pq X.env.scope x) (psc:Scope) (fs:List (Option Nat)) (N:List Str) (hp:X.env.scope=psc) (S:CompOk psc sc X.N N fs) (hc:X.calm=true) (hi:PId false X tg iter src)
  (hb:∀ (C:Addr) (s:Shared) (H:Hp) (fp:List Addr),PGd is (Wv X sc N C s H fp) tg gg/\PFd (Wv X sc N C s H fp) ifs tt/\We false (Wv X sc N C s H fp) elt f)
  (hfs:∀ i∈is,fs[i]?=some none) (hs:∀ x,foldedSetIterable iter X.env x=pure x:=by intro _;rfl) (hsw:swapsWith (.ListComp elt [⟨tg,iter,ifs,0⟩] sc pos) (some (.Name x pos')) spos.line X.env=pure true:=by rfl)
  (hf:X.fn x=true\/X.env.scope.names.lookup x=some .local:=by first | exact .inl rfl | exact .inr rfl | assumption) :
  Su fr X (.Assign [.Name x pos'] (.ListComp elt [⟨tg,iter,ifs,0⟩] sc pos) spos) (Zq i (dL (Ju src fs gg tt f))):=(L5 (g:=fun v σ H Q=>∃ env R A d env',EnvOk X.K R A H σ env/\Rp X.K (av H A) d v/\gg d env=some env'/\∀ σ',EnvOk X.K R A H σ' env'->G8 is σ σ'->Q σ' H) (tt:=fun σ H Q=>∃ env R A b,EnvOk X.K R A H σ env/\tt env=some b/\∀ H',Zo H H'->Q b H') (te:=fun σ H Q=>∃ env R A d,EnvOk X.K R A H σ env/\f env=some d/\T8 false X.K A H d Q) hN hi' hx psc fs N hp S hc hi hb hs hsw hf).weak fun D σ H zz=>by
 obtain ⟨env,B,A,k,hst,q⟩:=zz;unfold Zq at q;split at q
 ·rename_i d e
  obtain ⟨ys,e',ed⟩:=map_some e;subst ed;obtain ⟨ds,e1,e2⟩:=bind_some e';have q':T8 false X.K A H (.lst ys) (fun v H'=>D.nx (σ.set i (some v)) H'):=fun v H' s r=>q A H' _ (Step.same s) ((k.mono s).put i r)
  exact ⟨env,B,A,ds,k,e1,fun J H1 hz s1 hJ=>Cd (Q:=fun v H'=>D.nx (σ.set i (some v)) H') hfs (k.mono s1) hJ hz e2 ((q'.new k.mu).mono s1)⟩
 ·exact q.elim
def Pf (f:Ev->Option Dat) (g:Dat->Ev->Option Ev):Ev->Fl:=fun env=>match (f env).bind fun d=>g d env with
 | some env'=>.next env'
 | none=>.no
theorem B3 {tg e:Expr} {is:List Nat} {g:Dat->Ev->Option Ev} (he:We false X e f) (hg:PGd is X tg g) (hs:swapsWithSole [tg] e pos.line X.env=pure false:=by rfl) (hw:swappedStores [tg] e X.env=pure none:=by rfl) (h1:(assignEach [tg] X.env).map (·.2)=[assign tg X.env]:=by rfl):Su fr X (.Assign [tg] e pos) (Pf f g):=(Z9w he hg hs hw h1).weak fun D σ H zz=>by
 obtain ⟨env,B,A,k,hst,q⟩:=zz;unfold Pf at q;split at q
 ·rename_i env' e
  obtain ⟨d,e1,e2⟩:=bind_some e;exact ⟨env,B,A,d,k,e1,fun v H' s r=>⟨env,B,A,d,env',k.mono s,r,e2,fun σ' k' _=>q A H' σ' (Step.same s) k'⟩⟩
 ·exact q.elim
def Gy (g:Dat->Ev->Option Ev) (body:Ev->Fl):List Dat->Ev->Fl
 | [],env=>.next env
 | x::xs,env=>match g x env with
  | none=>.no
  | some env1=>match body env1 with
   | .next e=>Gy g body xs e
   | .cont e=>Gy g body xs e
   | .brk e=>.next e
   | .ret d=>.ret d
   | .exc e c fs=>.exc e c fs
   | .no=>.no
def Qt (src:Ev->Option (List Dat)) (g:Dat->Ev->Option Ev) (body:Ev->Fl):Ev->Fl:=fun env=>match src env with
 | none=>.no
 | some ds=>Gy g body ds env
theorem Tr {body:List Stmt} (hp:PassesOwn (model X.prog X.w) X.A X.env X.xe) (hc:X.calm=true) (hi:PId true X tg iter src) (hg:PGd is X tg gg) (hb:Lp fr X body g)
  (hs:∀ x,foldedSetIterable iter X.env x=pure x:=by intro _;rfl):Su fr X (.For tg iter body [] pos) (Qt src gg g):=(Zar hp hc hi hg hb hs).weak fun D σ H zz=>by
 obtain ⟨env,B,A,k,hst,q⟩:=zz;unfold Qt at q;split at q
 ·exact q.elim
 rename_i ds e;refine ⟨env,B,A,ds,k,e,fun J H1 hz s1 hJ=>?_⟩;refine ⟨fun i m σ' H'=>m=ds.length - i/\i<=ds.length/\∃ A' env',Step A H1 A' H'/\EnvOk X.K B A' H' σ' env'/\Eh fr X B A' H' D (Gy gg g (ds.drop i) env'),
  ⟨ds.length,by simp,zero_le _,A,env,Step.refl A H1,k.mono s1,by simpa using q.step (Step.same s1)⟩,?_⟩
 rintro i m σ' H' ⟨rfl,hi',A',env',s',k',q'⟩;obtain ⟨hgo,hstop⟩:=hJ A' H' s' k'.mu;by_cases hlt:i<ds.length
 ·obtain ⟨go,yl⟩:=hgo i _ (show ds[i]?=some ds[i] by simp [hlt])
  refine .inr ⟨go,fun σ2 H2=>i+1<=ds.length/\∃ A2 env2,Step A H1 A2 H2/\EnvOk X.K B A2 H2 σ2 env2/\Eh fr X B A2 H2 D (Gy gg g (ds.drop (i+1)) env2),fun σ2 H2 z=>⟨ds.length - (i+1),by lia,rfl,z⟩,fun x H2 hy=>?_⟩;obtain ⟨s2,rx⟩:=yl x H2 hy;rw [drop_eq_getElem_cons hlt,Gy] at q';split at q'
  ·exact q'.elim
  rename_i env1 e1;refine ⟨env',B,A',ds[i],env1,k'.mono s2,rx,e1,fun σ3 k3 _=>⟨env1,B,A',k3,hst,?_⟩⟩;have st2:Step A' H' A' H2:=Step.same s2;split at q'
  ·rename_i e2 eb
   rw [eb];exact fun A4 H4 σ4 s4 k4=>⟨hlt,A4,e2,s'.trans (st2.trans s4),k4,q'.step (st2.trans s4)⟩
  ·rename_i e2 eb
   rw [eb];exact fun A4 H4 σ4 s4 k4=>⟨hlt,A4,e2,s'.trans (st2.trans s4),k4,q'.step (st2.trans s4)⟩
  ·rename_i e2 eb
   rw [eb];exact fun A4 H4 σ4 s4 k4=>q' A4 H4 σ4 (st2.trans s4) k4
  ·rename_i d eb
   rw [eb];exact q'
  ·rename_i e2 c2 f2 eb
   rw [eb];exact fun A4 H4 σ4 s4 k4=>q' A4 H4 σ4 (st2.trans s4) k4
  ·exact q'.elim
 ·have e:i=ds.length:=by lia
  subst e;rw [List.drop_length,Gy] at q';exact .inl ⟨hstop,q' A' H' σ' (Step.refl _ _) k'⟩
def V0 (t:Ev->Option Bool) (body:Ev->Fl):Nat->Ev->Fl
 | 0,_=>.no
 | n+1,env=>match t env with
  | none=>.no
  | some false=>.next env
  | some true=>match body env with
   | .next e=>V0 t body n e
   | .cont e=>V0 t body n e
   | .brk e=>.next e
   | .ret d=>.ret d
   | .exc e c fs=>.exc e c fs
   | .no=>.no
theorem U7 {t:Ev->Option Bool} {body:Ev->Fl}:∀ {n:Nat} {env:Ev} (k:Nat),V0 t body n env≠.no->V0 t body (n+k) env=V0 t body n env
 | 0,env,k,h=>absurd rfl h
 | n+1,env,k,h=>by
  rw [show n+1+k=(n+k)+1 by lia];simp only [V0] at h ⊢;split
  ·rfl
  ·rfl
  ·rename_i e1
   simp only [e1] at h;split
   ·rename_i e2 eb;simp only [eb] at h;exact U7 k h
   ·rename_i e2 eb;simp only [eb] at h;exact U7 k h
   ·rfl
   ·rfl
   ·rfl
   ·rfl
open Classical in
def Jq (t:Ev->Option Bool) (body:Ev->Fl):Ev->Fl:=fun env=>if h:∃ n,V0 t body n env≠.no then V0 t body (Classical.choose h) env else .no
theorem Nk {t:Ev->Option Bool} {body:Ev->Fl} {n:Nat} {env:Ev} (h:V0 t body n env≠.no):Jq t body env=V0 t body n env:=by
 unfold Jq;have hx:∃ n,V0 t body n env≠.no:=⟨n,h⟩;rw [dif_pos hx];have hc:=Classical.choose_spec hx;have e1:=U7 n hc;have e2:=U7 (Classical.choose hx) h;rw [← e1,← e2,Nat.add_comm]
theorem Hm {body:List Stmt} (hp:PassesOwn (model X.prog X.w) X.A X.env X.xe) (hc:Au X c t) (hb:Lp fr X body g):Su fr X (.While c body [] pos) (Jq t g):=(Z44 hp hc hb).weak fun D σ H zz=>by
 obtain ⟨env,B,A,k,hst,q⟩:=zz;unfold Jq at q;split at q
 ·rename_i hx
  refine ⟨fun n σ' H'=>∃ A' env',EnvOk X.K B A' H' σ' env'/\Eh fr X B A' H' D (V0 t g n env'),⟨_,A,env,k,q⟩,?_⟩;rintro n σ' H' ⟨A',env',k',q'⟩;cases n with
  | zero=>exact q'.elim
  | succ n =>
   rw [V0] at q';split at q'
   ·exact q'.elim
   ·rename_i e1
    refine ⟨env',B,A',false,k',e1,fun H1 s1=>?_⟩;refine Zbc ?_;exact q' A' H1 σ' (Step.same s1) (k'.mono s1)
   ·rename_i e1
    refine ⟨env',B,A',true,k',e1,fun H1 s1=>?_⟩;refine Zc9 ?_;refine ⟨fun σ2 H2=>∃ A2 env2,EnvOk X.K B A2 H2 σ2 env2/\Eh fr X B A2 H2 D (V0 t g n env2),fun σ2 H2 z=>⟨n,Nat.lt_succ_self n,z⟩,env',B,A',k'.mono s1,hst,?_⟩;have st2:Step A' H' A' H1:=Step.same s1;split at q'
    ·rename_i e2 eb
     rw [eb];exact fun A4 H4 σ4 s4 k4=>⟨A4,e2,k4,q'.step (st2.trans s4)⟩
    ·rename_i e2 eb
     rw [eb];exact fun A4 H4 σ4 s4 k4=>⟨A4,e2,k4,q'.step (st2.trans s4)⟩
    ·rename_i e2 eb
     rw [eb];exact fun A4 H4 σ4 s4 k4=>q' A4 H4 σ4 (st2.trans s4) k4
    ·rename_i d eb
     rw [eb];exact q'
    ·rename_i e2 c2 f2 eb
     rw [eb];exact fun A4 H4 σ4 s4 k4=>q' A4 H4 σ4 (st2.trans s4) k4
    ·exact q'.elim
 ·exact q.elim
def MtU (X:Cx) (id:String) (F:List Dat->List Dat->Option (List Dat)):Prop:=MtR X id (fun v us H Q=>∃ A a vs ds as ds',U4 A H/\v=.ref a/\H a=some (.lst vs)/\Wg X.K (av H A) ds vs/\Xu false X.K A H as us/\F ds as=some ds'/\∀ w vs',ds'.length<=sizeLine->Wg X.K (av H A) ds' vs'->Q w (W4 H a (.lst vs')))
def Tt (i:Nat) (F:List Dat->List Dat->Option (List Dat)) (fs:Ev->Option (List Dat)):Ev->Fl:=fun env=>match env[i]? with
 | some (.ow ds)=>match (fs env).bind fun as=>F ds as with
  | some ds'=>.next (env.set i (.ow ds'))
  | none=>.no
 | _=>.no
theorem Tw (i:Nat) {x:Str} {es:List Expr} {name:Str} {id:String} {F:List Dat->List Dat->Option (List Dat)} {p apos cpos:Pos} (slot:Slot "list" name id) (hty:typeOf (.builtin id)=pure (.type "method_descriptor")) (hm:MtU X id F) (ha:Lb false X (e::es) fs)
  (hN:X.N[i]?=some x:=by rfl) (hv:Al X.env.scope x:=by first | exact Or.inl rfl | exact Or.inr (Or.inl rfl) | exact Or.inr (Or.inr rfl)) (hd:(x==("__debug__" : Str))=false:=by decide) (hcd:(x==("__classdict__" : Str))=false:=by decide)
  (hsw:swapsWith (.Call (.Attribute (.Name x p) name apos) (e::es) [] cpos) none pos.line X.env=pure false:=by rfl)
  (hbase:attributeBase (.Name x p) name X.env (eval (.Name x p) X.env)=eval (.Name x p) X.env:=by rfl)
  (hfew:((backTo cpos (starEach (e::es) X.env)).all (fun x=>!x.1)&&(backToKw cpos (keywordEach [] X.env)).all (fun x=>x.1.isSome)
   && decide ((e::es).length+([]:List Keyword).length+(if ([]:List Keyword).isEmpty then 0 else 1)<30))=true:=by rfl)
  (hline:(apos.endLine==cpos.line)=true:=by rfl) (hs:starEach (e::es) X.env=(false,eval e X.env)::starEach es X.env:=by rfl) (hplain:(backTo cpos (starEach es X.env)).any (·.1)=false:=by rfl) :
  Su fr X (.Expr (.Call (.Attribute (.Name x p) name apos) (e::es) [] cpos) pos) (Tt i F fs):=(S9 (Bq PySem.F.plainAttrs_list slot hty hm (Q3 hN hv hd hcd) ha hbase hfew hline hs hplain) hsw).weak fun D σ H zz=>by
 obtain ⟨env,B,A,k,hst,q⟩:=zz;unfold Tt at q;split at q
 ·rename_i ds e
  split at q
  ·rename_i ds' e2
   obtain ⟨as,e3,e4⟩:=bind_some e2;obtain ⟨a,vs,h1,h2,h3,_⟩:=k.own hst e;refine ⟨.ref a,h1,.inl ⟨rfl,vs,Mu.of h2⟩,env,B,A,as,k,e3,fun us H2 s2 rs=>?_⟩;have k2:=k.mono s2;obtain ⟨a',vs',g1,g2,g3,_,_,_,_,g4,_⟩:=k2.own hst e;rw [h1] at g1;cases g1;refine ⟨A,a,vs',ds,as,ds',k2.mu,rfl,g2,g3,rs,e4,fun w vs2 hz r2=>?_⟩;obtain ⟨z1,z2⟩:=g4 ds' vs2 hz r2;exact q A _ σ ((Step.same s2).trans z1) z2
  ·exact q.elim
 ·exact q.elim
def Wn:List Dat->List Dat->Option (List Dat)
 | ds,[d]=>if ds.length<sizeLine then some (ds++[d]) else none
 | _,_=>none
theorem Uo:MtU X "list.append" Wn:=MtR.weak (id:="list.append") Ej fun v us H Q zz=>by
 obtain ⟨A,a,vs,ds,as,ds',mu,e1,h1,r1,r2,e2,q⟩:=zz;unfold Wn at e2;split at e2
 ·rename_i d
  split at e2
  ·rename_i hl
   cases e2;obtain ⟨w,us',e3,r3,e4⟩:=r2;refine ⟨a,vs,w,e1,by rw [e3,show us'=[] from e4],h1,by rw [Zy r1];exact hl,q _ _ (by simp;lia) (V9 r1 (Ji r3))⟩
  ·cases e2
 ·cases e2
end
inductive Rs where
 | ok (d:Dat) | exc (c:Str) (fs:List (Str×XD)) | no
def Tx (n:Nat) (ds:List Dat):Ev:=ds.map .fz++List.replicate (n - ds.length) .un
def Wd (n p:Nat) (g:Ev->Fl):List Dat->Rs:=fun ds=>if ds.length=p then (match g (Tx n ds) with
 | .ret d=>.ok d
 | .next _=>.ok .non
 | .exc _ c fs=>.exc c fs
 | _=>.no) else .no
def spD (K:PySem.W.Frag) (fr:Bool) (p:Nat) (F:List Dat->Rs):Sp:=fun vs H Q _=>vs.length=p/\∃ ds R d,U4 R H/\Wg K (av H R) ds vs/\F ds=.ok d/\∀ v H',Zo H H'->Rp K (av H' R) d v->(fr=true->NwT K ⟨H,R,true⟩ H' d v)->Q v H'
structure CalD (P:Program) (w:World) (K:PySem.W.Frag) (mg:Str->Option Value) (base:Heap) (k:Nat) (x:Str) (ps:List Str) (fr:Bool) (F:List Dat->Rs):Prop where
 cal:Cal P w K mg base k x ps (spD K fr ps.length F)
 len:∀ ds d,F ds=.ok d->ds.length=ps.length
theorem Mtb.some {o:Option HO} (h:Mtb o):∃ u,o=Option.some u:=by
 cases o with
 | none=>exact h.elim
 | some u=>exact ⟨u,rfl⟩
theorem Ip {K:PySem.W.Frag} {H:Hp} {R:AS} {N:List Str} {ds:List Dat} {vs:List V} (mu:U4 R H) (r:Wg K (av H R) ds vs) (hl:ds.length<=N.length):EnvOk K ⟨H,R,true⟩ R H (start N vs) (Tx N.length ds):=by
 have hn:=Zy r;refine ⟨Zo.refl H,fun a h=>(mu a h).some,fun _ h=>h,fun _ h=>.inl h,mu,by simp [start,Tx];lia,fun _ i d=>?_,fun _ _=>False,fun _ _ _ h=>h.elim,fun _ _ h=>h.elim,fun i s e=>?_⟩
 ·unfold Tx
  rw [List.getElem?_append];split
  ·rw [getElem?_map]
   cases ds[i]?<;>simp
  ·rw [List.getElem?_replicate]
   split<;>simp
 ·unfold Tx at e
  unfold start;rw [List.getElem?_append] at e ⊢;simp only [length_map] at e ⊢;rw [hn];split at e
  ·rename_i hi
   rw [if_pos hi];rw [getElem?_map] at e ⊢;cases hd:ds[i]? with
   | none=>rw [hd] at e;cases e
   | some d =>
    rw [hd] at e;cases e;obtain ⟨v,h1,h2⟩:=Rz r hd;rw [h1];exact ⟨some v,rfl,v,rfl,h2⟩
  ·rename_i hi
   rw [if_neg hi];rw [List.getElem?_replicate] at e ⊢;split at e
   ·rename_i h2
    cases e;rw [if_pos h2];exact ⟨none,rfl,trivial⟩
   ·cases e
theorem Hu {fr:Bool} {X:Cx} {N:List Str} {p:Nat} {g:Ev->Fl} {ds:List Dat} {d:Dat} {R:AS} {H:Hp} {vs:List V} {Q:VK} (hp:p<=N.length) (mu:U4 R H) (r:Wg X.K (av H R) ds vs) (hF:Wd N.length p g ds=.ok d)
  (q:∀ v H',Zo H H'->Rp X.K (av H' R) d v->(fr=true->NwT X.K ⟨H,R,true⟩ H' d v)->Q v H') :
  tS fr X g (Ends.mk (fun _ H'=>Q .non H') Q (fun _ _=>False) (fun _ _=>False)) (start N vs) H:=by
 unfold Wd at hF;split at hF
 ·rename_i hl
  refine ⟨Tx N.length ds,⟨H,R,true⟩,R,Ip mu r (by lia),rfl,?_⟩;split at hF
  ·rename_i d' e
   cases hF;rw [e];exact fun v H' s r n=>q v H' s r n
  ·rename_i env e
   cases hF;rw [e];exact fun A' H' σ' s k=>q .non H' k.h0 K3 (fun _ ds e=>by cases e)
  ·cases hF
  ·cases hF
 ·cases hF
section
variable {P:Program} {w:World} {K:PySem.W.Frag} {mg:Str->Option Value} {base:Heap}
theorem X0 {n p:Nat} {g:Ev->Fl} {ds:List Dat} {d:Dat} (h:Wd n p g ds=.ok d):ds.length=p:=by
 unfold Wd at h;split at h
 ·assumption
 ·cases h
theorem ar0 {α:Type} {P:List α->Prop} (us:List α) (hl:us.length=0) (h:P []):P us:=by cases us with | nil=>exact h | cons _ _=>cases hl
@[elab_as_elim] theorem ar1 {α:Type} {P:List α->Prop} (us:List α) (hl:us.length=1) (h:∀ a,P [a]):P us:=by
 cases us with
 | nil=>cases hl
 | cons a us=>exact ar0 (P:=fun us=>P (a::us)) us (Nat.succ.inj hl) (h a)
@[elab_as_elim] theorem ar2 {α:Type} {P:List α->Prop} (us:List α) (hl:us.length=2) (h:∀ a b,P [a,b]):P us:=by
 cases us with
 | nil=>cases hl
 | cons a us=>exact ar1 (P:=fun us=>P (a::us)) us (Nat.succ.inj hl) (h a)
@[elab_as_elim] theorem ar3 {α:Type} {P:List α->Prop} (us:List α) (hl:us.length=3) (h:∀ a b c,P [a,b,c]):P us:=by
 cases us with
 | nil=>cases hl
 | cons a us=>exact ar2 (P:=fun us=>P (a::us)) us (Nat.succ.inj hl) (h a)
@[elab_as_elim] theorem ar4 {α:Type} {P:List α->Prop} (us:List α) (hl:us.length=4) (h:∀ a b c d,P [a,b,c,d]):P us:=by
 cases us with
 | nil=>cases hl
 | cons a us=>exact ar3 (P:=fun us=>P (a::us)) us (Nat.succ.inj hl) (h a)
@[elab_as_elim] theorem ar5 {α:Type} {P:List α->Prop} (us:List α) (hl:us.length=5) (h:∀ a b c d e,P [a,b,c,d,e]):P us:=by
 cases us with
 | nil=>cases hl
 | cons a us=>exact ar4 (P:=fun us=>P (a::us)) us (Nat.succ.inj hl) (h a)
@[elab_as_elim] theorem ar6 {α:Type} {P:List α->Prop} (us:List α) (hl:us.length=6) (h:∀ a b c d e f,P [a,b,c,d,e,f]):P us:=by
 cases us with
 | nil=>cases hl
 | cons a us=>exact ar5 (P:=fun us=>P (a::us)) us (Nat.succ.inj hl) (h a)
theorem Vk {x:Str} {st:Stmt} {N ps:List Str} {k:Nat} {fr:Bool} {g:Ev->Fl} (D:Def K mg x st) (S:FnScope N ps (Z8 st))
  (hbi:∀ (kV doc pm:Value) (an:Option Addr) (cdv ct:Value) (us:List Value),us.length=ps.length->bindArgs (fnOf x x (Wt st) (Yf st) (Z8 st) .none kV doc pm an cdv ct) ⟨us,[]⟩=pure (ps.zip us))
  (hb:∀ (f:Addr) (cdv:Value) (A:Around) (outer:List Env) (s:Shared) (H:Hp) (E:XK),Room k (A.deeper (envOfC x (Z8 st) s.heap.objs.size f cdv))->Lp fr (Qd Dy P w K mg base N x (Z8 st) f cdv A outer s H E).nox (Yf st) g) :
  CalD P w K mg base (k+1) x ps fr (Wd N.length ps.length g):=by
 have hpl:ps.length<=N.length:=by have:=congrArg List.length S.pre;rw [length_take] at this;lia
 refine ⟨Zag D S hbi (fun vs H Q E h=>h.1) fun f cdv A outer s H vs Q E hr ⟨hl,ds,R,d,mu,r,hF,q⟩=>⟨_,hb f cdv A outer s H E hr,?_⟩,fun ds d h=>X0 h⟩;exact Hu hpl mu r hF q
def Xd (K:PySem.W.Frag):Sp:=fun vs H Q _=>∃ (a:Addr) (ns:List Int),vs=[.ref a]/\SL K H a (ns.map V.int)/\ns.length<=63/\∀ H',Q (.bl true) H'
theorem Zcc {x:Str} {st:Stmt} {f:Addr} {fd:FuncData} {N ps:List Str} {k:Nat} {g:Ev->Fl} (F:Fun K x x st f fd) (S:FnScope N ps (Z8 st)) (hps:ps.length=1)
  (hb:∀ (cdv:Value) (A:Around) (outer:List Env) (s:Shared) (H:Hp) (E:XK),Room k (A.deeper (envOfC x (Z8 st) s.heap.objs.size f cdv))->Lp false (Qd Dy P w K mg base N x (Z8 st) f cdv A outer s H E).nox (Yf st) g)
  (law:∀ ns:List Int,ns.length<=63->Wd N.length 1 g [.lst (ns.map .int)]=.ok (.bl true)):FnOk P w K mg base Dy (k+1) f fd ps (Xd K):=by
 have hpl:ps.length<=N.length:=by have:=congrArg List.length S.pre;rw [length_take] at this;lia
 refine Z6c F S (fun vs H Q E ⟨a,ns,e,_⟩=>by rw [e,hps];rfl) fun cdv A outer s H vs Q E hr ⟨a,ns,e,hS,hl,q⟩=>⟨_,hb cdv A outer s H E hr,?_⟩
 subst e;refine Hu (R:=no) (d:=.bl true) (by lia) (fun a h=>by cases h) (ds:=[.lst (ns.map .int)]) ?_ (law ns hl) fun v H' _ r _=>by rw [G7 r];exact q H'
 rw [N2];refine Ji (D3 ?_ hS (Jz ns));rw [length_map];exact le_of_lt (Qi (by lia))
variable {X:Cx} {m:Bool} {fr:Bool} {F:List Dat->Rs} {k:Nat} {x:Str} {ps:List Str} {e:Expr} {es:List Expr} {fs:Ev->Option (List Dat)} {p pos:Pos}
def okR:Rs->Option Dat
 | .ok d=>some d
 | _=>none
theorem K0 {r:Rs} {d:Dat} (h:okR r=some d):r=.ok d:=by cases r<;>cases h;rfl
def W1 (F:List Dat->Rs) (fs:Ev->Option (List Dat)):Ev->Option Dat:=fun env=>(fs env).bind fun ds=>okR (F ds)
theorem Zd3 (C:CalD X.prog X.w X.K X.mg X.base k x ps fr F) (hr:Room k X.A) (ha:Lb false X (e::es) fs) (hg:Gl X x:=by rfl)
  (hdb:(x==("__debug__" : Str))=false:=by decide) (he:starEach (e::es) X.env=(false,eval e X.env)::starEach es X.env:=by rfl) (hpl:(backTo pos (starEach es X.env)).any (·.1)=false:=by rfl) :
  We m X (.Call (.Name x p) (e::es) [] pos) (W1 F fs):=We.any ((Z1k C.cal hr ha hg hdb he hpl).weak fun σ H Q zz=>by
 obtain ⟨env,R,A,d,k,q1,q2⟩:=zz;obtain ⟨ds,e1,e2⟩:=bind_some q1;have e3:=K0 e2;refine ⟨env,R,A,ds,k,e1,fun vs H1 s1 rs=>⟨by rw [Zy rs.rps];exact C.len ds d e3,ds,A,d,k.mu.mono s1,rs.rps,e3,fun v H' s r _=>q2 v H' (s1.trans s) r⟩⟩)
mutual
def Vy:Dat->Bool
 | .lst _=>false
 | .dct _=>false
 | .exc _ _=>false
 | .tup xs=>Q4 xs
 | .non=>true
 | .bl _=>true
 | .int _=>true
 | .str _=>true
def Q4:List Dat->Bool
 | []=>true
 | x::xs=>Vy x&&Q4 xs
end
theorem Z7u {K:PySem.W.Frag} {H:Hp} {A:AS} {a:Addr} {vs:List V} (mu:U4 A H) (h:Sh K H a vs):Sh K (av H A) a vs:=by
 rcases h with h | h
 ·left
  have hA:A a=false:=by
   cases q:A a with
   | false=>rfl
   | true =>
    have:=mu a q;rw [h] at this;exact this.elim
  exact Wl h hA
 ·exact .inr h
mutual
theorem Rp.pure {K:PySem.W.Frag} {H:Hp} {A:AS} (mu:U4 A H):∀ {d:Dat} {v:V},Vy d=true->Rp K H d v->Rp K (av H A) d v
 | .non,v,_,r=>by rw [Hy r];exact K3
 | .bl b,v,_,r=>by rw [G7 r];exact Va
 | .int b,v,_,r=>by rw [Sv r];exact Wb
 | .str b,v,_,r=>by obtain ⟨e,h⟩:=K2 r;rw [e];exact G6 h
 | .lst _,v,h,_=>by cases h
 | .dct _,v,h,_=>by cases h
 | .exc _ _,v,h,_=>by cases h
 | .tup xs,v,h,r=>by
  obtain ⟨a,vs,e,h1,h2⟩:=M9 r;subst e;exact F8 (Ax r) (Z7u mu h1) (Wg.pure mu (by simpa [Vy] using h) h2)
theorem Wg.pure {K:PySem.W.Frag} {H:Hp} {A:AS} (mu:U4 A H):∀ {ds:List Dat} {vs:List V},Q4 ds=true->Wg K H ds vs->Wg K (av H A) ds vs
 | [],vs,_,r=>by rw [Yz r];exact U0
 | d::ds,vs,h,r=>by
  obtain ⟨v,us,e,r1,r2⟩:=Yg r;subst e;rw [Q4,Bool.and_eq_true] at h;exact Us (Rp.pure mu h.1 r1) (Wg.pure mu h.2 r2)
end
def Bb (F:List Dat->Rs) (fs:Ev->Option (List Dat)):Ev->Option Dat:=fun env=>(fs env).bind fun ds=>(okR (F ds)).bind fun d=>if Vy d=true then some d else none
theorem Zc8 (C:CalD X.prog X.w X.K X.mg X.base k x ps fr F) (hr:Room k X.A) (ha:Lb true X (e::es) fs) (hg:Gl X x:=by rfl)
  (hdb:(x==("__debug__" : Str))=false:=by decide) (he:starEach (e::es) X.env=(false,eval e X.env)::starEach es X.env:=by rfl) (hpl:(backTo pos (starEach es X.env)).any (·.1)=false:=by rfl) :
  We m X (.Call (.Name x p) (e::es) [] pos) (Bb F fs):=We.any ((Z1k C.cal hr ha hg hdb he hpl).weak fun σ H Q zz=>by
 obtain ⟨env,R,A,d,k,q1,q2⟩:=zz;obtain ⟨ds,e1,e2⟩:=bind_some q1;obtain ⟨d',e3,e4⟩:=bind_some e2;have e5:=K0 e3;split at e4
 ·rename_i hpu
  cases e4;refine ⟨env,R,A,ds,k,e1,fun vs H1 s1 rs=>⟨by rw [Zy rs.full];exact C.len ds _ e5,ds,no,d,(fun a h=>by cases h),by rw [N2];exact rs.full,e5,fun v H' s r _=>q2 v H' (s1.trans s) ?_⟩⟩;rw [N2] at r;exact Rp.pure (k.mu.mono (s1.trans s)) hpu r
 ·cases e4)
end
section
variable {X:Cx} {m:Bool}
end
def Ite (sq:Hp->List V->Prop):It :=
 ⟨fun i H=>∃ xs x,sq H xs/\xs[i]?=some x,
  fun i H v H'=>∃ p x,v=.ref p/\H p=none/\(∀ xs,sq H xs->xs[i]?=some x)/\H'=W4 H p (.tup [.int i,x]),
  fun i H=>∃ xs,sq H xs/\xs.length=i⟩
theorem Inv.turnedT {X:Cx} {pins:List (Addr×Obj)} {σ:St} {H:Hp} {s:Shared} {h':Heap} {tk:Nat} {ch:List Addr} {T:Addr} {xs:List V} {its:List Value} (I:Inv X pins σ H s) (hf:∀ b∈ch,Sx X pins H b)
  (kk:∀ b o,b∉ch->s.heap.get? b=some o->h'.get? b=some o) (hT:s.heap.objs.size<=T) (rv:Y3 xs its) (hz:xs.length<=sizeLine) (ht:IsTup h' T its.toArray) :
  Inv X pins σ (W4 H T (.tup xs)) { s with heap:=h',toks:=tk }:=by
 have hn:H T=none:=I.hok.fresh hT;have nch:∀ b u,H b=some u->b∉ch:=fun b u e z=>by rw [(hf b z).1] at e;cases e
 refine I.call' (ch:=ch) rfl ⟨fun b o q n _ hx=>kk b o hx q,fun b o q n _ hx=>⟨o.slots,kk b o hx q⟩,fun b o q n hx=>?_,fun b o q hx=>⟨o,kk b o hx q⟩,fun b ys q=>?_,fun b o u q=>?_,fun b ps q=>⟨#[],?_⟩⟩ (fun b u e=>?_) I.bare fun b hb=>⟨(hf b hb).2.2.2.1,(hf b hb).2.1,(hf b hb).2.2.2.2.1,(hf b hb).2.2.2.2.2⟩
 ·rw [Zh (ne_of_lt (lt_of_lt_of_le (lt_size q) hT))];exact n
 ·rw [Zh (Y4 q hn)];exact q
 ·rw [Zh (Y4 q hn)];exact q
 ·rw [Zh (Y4 q hn),q];simp
 ·by_cases hb:b=T
  ·subst hb
   rw [Zs] at e;cases e;exact ⟨hz,its,rv,ht⟩
  ·rw [Zh hb] at e
   refine (I.hok b u e).stay (fun c v hc q=>?_) (fun c q=>?_) fun c ys q=>?_
   ·rcases hc with hc | hc
    ·subst hc;exact kk c v (nch c u e) q
    ·exact kk c v (nch c _ hc) q
   ·rw [Zh (Y4 q hn)];exact q
   ·rw [Zh (Y4 q hn)];exact q
theorem Inv.turnedN {X:Cx} {pins:List (Addr×Obj)} {σ:St} {H:Hp} {s:Shared} {h':Heap} {tk:Nat} {ch:List Addr} (I:Inv X pins σ H s) (hf:∀ b∈ch,Sx X pins H b)
  (kk:∀ b o,b∉ch->s.heap.get? b=some o->h'.get? b=some o):Inv X pins σ H { s with heap:=h',toks:=tk }:=by
 have nch:∀ b u,H b=some u->b∉ch:=fun b u e z=>by rw [(hf b z).1] at e;cases e
 refine I.call' (ch:=ch) rfl ⟨fun b o q n _ hx=>kk b o hx q,fun b o q n _ hx=>⟨o.slots,kk b o hx q⟩,fun b o q n hx=>n,fun b o q hx=>⟨o,kk b o hx q⟩,fun b ys q=>q,fun b o u q=>q,fun b ps q=>⟨#[],by rw [q];simp⟩⟩ (fun b u e=>?_) I.bare fun b hb=>⟨(hf b hb).2.2.2.1,(hf b hb).2.1,(hf b hb).2.2.2.2.1,(hf b hb).2.2.2.2.2⟩
 refine (I.hok b u e).stay (fun c v hc q=>?_) (fun c q=>q) fun c ys q=>q
 rcases hc with hc | hc
 ·subst hc;exact kk c v (nch c u e) q
 ·exact kk c v (nch c _ hc) q
theorem Nh {P:Program} {w:World} {K:PySem.W.Frag} {es:List Expr} {k:Nat} {pos:Pos} (a e it:Addr) (itS:Nat->Heap->Prop) (IsS:Heap->Array Value->Prop) (sq:Hp->List V->Prop)
  (hS:∀ h h' i,itS i h->(∀ o,h.get? it=some o->h'.get? it=some o)->itS i h')
  (hO:∀ h i,itS i h->∃ o,h.get? it=some o/\o.cls≠.type "enumerate" /\ ∀ v,o.data≠.cell v)
  (hA:∀ h items,IsS h items->∃ o,h.get? a=some o/\o.cls≠.type "enumerate" /\ ∀ h' i,itS i h'->∀ o',h'.get? it=some o'->o'.cls≠o.cls)
  (hD:∀ A:Around,A.handled=none->a≠it->∀ items:Array Value,Draws P w A it [it,a] items.size (fun i v=>items[i]?=some v) (fun i h=>itS i h/\IsS h items))
  (hg:∀ (X:Cx) (pins:List (Addr×Obj)) (σ:St) (H:Hp) (s:Shared) (xs:List V),X.K=K->Inv X pins σ H s->sq H xs->∃ its,Y3 xs its/\IsS s.heap its.toArray)
  (hj:∀ (X:Cx) (pins:List (Addr×Obj)) (σ:St) (H:Hp) (s:Shared) (xs ys:List V),X.K=K->Inv X pins σ H s->sq H xs->sq H ys->xs=ys) :
  Turn P w K (.Tuple es k pos) (Ite sq) [e,it] e (fun i h=>(∃ old,IsEnum h e it i old)/\itS i h) where
 mem:=by simp
 obj:=fun i h st b hb=>by
  rcases mem_cons.mp hb with rfl | hb
  ·obtain ⟨⟨old,z⟩,_⟩:=st;exact ⟨_,z,fun v q=>by cases q⟩
  ·rw [mem_singleton.mp hb];obtain ⟨o,h1,_,h2⟩:=hO h i st.2;exact ⟨o,h1,h2⟩
 keep:=fun i h h' st kk=>by
  obtain ⟨⟨old,z⟩,q⟩:=st;exact ⟨⟨old,kk e (by simp) _ z⟩,hS h h' i q fun o r=>kk it (by simp) o r⟩
 item:=by
  intro X hP hw hK hc i pins s σ H E I hf st hgo;subst hP hw;obtain ⟨xs,x,hsq,hx⟩:=hgo;obtain ⟨its,rv,hI⟩:=hg X pins σ H s xs hK I hsq;obtain ⟨u,hu,ru⟩:=rv.get hx;obtain ⟨⟨old,hE⟩,hIt⟩:=st;obtain ⟨oi,hoi,hci,_⟩:=hO _ _ hIt;obtain ⟨oa,hoa,hca,hcc⟩:=hA _ _ hI;have hne:a≠it:=by intro z;rw [z,hoi] at hoa;cases hoa;exact hcc _ _ hIt _ hoi rfl
  have hei:e≠it:=by intro z;rw [← z,hE] at hoi;cases hoi;exact hci rfl
  have hea:e≠a:=by intro z;rw [← z,hE] at hoa;cases hoa;exact hca rfl
  have W:=WalksT.enumerateD (hD X.A.in1 (I.ok.hd hc) hne its.toArray) e hei (by simp [hei,hea]) (by simp);have hi:i<its.toArray.size:=by rw [size_toArray];exact (List.getElem?_eq_some_iff.mp hu).1
  refine W.item i s _ _ hi ⟨⟨old,hE⟩,hIt,hI⟩ fun T vals h' tk hPt hT hTup hM hk=>⟨.ref T,rfl,W.go es k pos i T _ _ _ hM fun h2 hst hk2=>?_⟩
  obtain ⟨t,x',hx',rfl⟩:=hPt;have hxu:x'=u:=by
   have:its[i]?=some x':=by simpa using hx'
   rw [hu] at this;exact (Option.some.inj this).symm
  subst hxu;have hTup2:IsTup h2 T #[.int i t,x']:=by
   obtain ⟨o,ho,r⟩:=hTup;exact ⟨o,hk2 T o (W.apart i T h' hM) ho,r⟩
  have I2:=Inv.turnedT (s:=s) (h':=h2) (tk:=tk) (ch:=[e,it]) (its:=[.int i t,x']) (xs:=[.int i,x]) I hf (fun b o hb q=>hk2 b o hb (hk b o hb q)) hT (.cons ⟨t,rfl⟩ (.cons ru .nil)) (by show 2<=sizeLine;decide) hTup2;refine ⟨.ref T,W4 H T (.tup [.int i,x]),I2,rfl,⟨T,x,rfl,I.hok.fresh hT,fun ys hy=>?_,rfl⟩,⟨hst.1,hst.2.1⟩,fun b hb=>?_⟩
  ·rw [hj X pins σ H s ys xs hK I hy hsq];exact hx
  ·rw [Zh ?_];exact (hf b hb).1
   intro z;have hlt:b<s.heap.objs.size:=by
    rcases mem_cons.mp hb with rfl | hb
    ·exact lt_size hE
    ·rw [mem_singleton.mp hb];exact lt_size hoi
   exact absurd (lt_of_lt_of_le hlt (by rw [z];exact hT)) (lt_irrefl _)
 done:=by
  intro X hP hw hK hc i pins s σ H E I hf st hs;subst hP hw;obtain ⟨xs,hsq,hl⟩:=hs;obtain ⟨its,rv,hI⟩:=hg X pins σ H s xs hK I hsq;obtain ⟨⟨old,hE⟩,hIt⟩:=st;obtain ⟨oi,hoi,hci,_⟩:=hO _ _ hIt;obtain ⟨oa,hoa,hca,hcc⟩:=hA _ _ hI;have hne:a≠it:=by intro z;rw [z,hoi] at hoa;cases hoa;exact hcc _ _ hIt _ hoi rfl
  have hei:e≠it:=by intro z;rw [← z,hE] at hoi;cases hoi;exact hci rfl
  have hea:e≠a:=by intro z;rw [← z,hE] at hoa;cases hoa;exact hca rfl
  have W:=WalksT.enumerateD (hD X.A.in1 (I.ok.hd hc) hne its.toArray) e hei (by simp [hei,hea]) (by simp);have hn:its.toArray.size=i:=by rw [size_toArray,← rv.length];exact hl
  refine W.done s _ _ (by rw [hn];exact ⟨⟨old,hE⟩,hIt,hI⟩) fun h' tk hk=>⟨rfl,I.turnedN (ch:=[e,it]) hf fun b o hb q=>hk b o hb q⟩
 self:=fun A i s Q E st h=>by
  obtain ⟨⟨old,z⟩,_⟩:=st;exact wpAny_pyIter_enum z h
section
variable {st m:Bool} {X:Cx} {l:Expr} {es:List Expr} {f:Ev->Option Dat} {tk:Nat} {tpos:Pos}
theorem Ak (a e it:Addr):Turn X.prog X.w X.K (.Tuple es tk tpos) (Ite fun H xs=>Sh X.K H a xs) [e,it] e (fun i h=>(∃ old,IsEnum h e it i old)/\h.IsTupleIter it a i) :=
 Nh a e it (fun i h=>h.IsTupleIter it a i) (fun h items=>h.IsTuple a items) _ (fun h h' i q kk=>let ⟨o,h1,r⟩:=q;⟨o,kk o h1,r⟩)
  (fun h i q=>let ⟨o,h1,h2,h3⟩:=q;⟨o,h1,by rw [h2];decide,fun v z=>by rw [h3] at z;cases z⟩)
  (fun h items q=>let ⟨o,h1,h2,_⟩:=q;⟨o,h1,by rw [h2];decide,fun h' i r o' e'=>by obtain ⟨o2,g1,g2,_⟩:=r;rw [g1] at e';cases e';rw [g2,h2];decide⟩)
  (fun A hh hne items=>Draws.tupleD hh it a hne items)
  (fun Y pins σ H s xs hK I h=>by rw [← hK] at h;obtain ⟨its,r,p,_⟩:=I.tuple h;exact ⟨its,r,p⟩)
  (fun Y pins σ H s xs ys hK I h h'=>by rw [← hK] at h h';exact I.tuple_inj h h')
theorem A6 (a e it:Addr):Turn X.prog X.w X.K (.Tuple es tk tpos) (Ite fun H xs=>Mu X.K H a xs) [e,it] e (fun i h=>(∃ old,IsEnum h e it i old)/\h.IsListIter it a i) :=
 Nh a e it (fun i h=>h.IsListIter it a i) (fun h items=>h.IsList a items) _ (fun h h' i q kk=>let ⟨o,h1,r⟩:=q;⟨o,kk o h1,r⟩)
  (fun h i q=>let ⟨o,h1,h2,h3⟩:=q;⟨o,h1,by rw [h2];decide,fun v z=>by rw [h3] at z;cases z⟩)
  (fun h items q=>let ⟨o,h1,h2,_⟩:=q;⟨o,h1,by rw [h2];decide,fun h' i r o' e'=>by obtain ⟨o2,g1,g2,_⟩:=r;rw [g1] at e';cases e';rw [g2,h2];decide⟩)
  (fun A hh hne items=>Draws.list hh it a hne items)
  (fun Y pins σ H s xs hK I h=>by rw [← hK] at h;obtain ⟨its,r,p,_⟩:=I.list h;exact ⟨its,r,p.isList⟩)
  (fun Y pins σ H s xs ys hK I h h'=>by rw [← hK] at h h';exact I.list_inj h h')
def G1:Nat->List Dat->List Dat
 | _,[]=>[]
 | k,x::xs=>.tup [.int k,x]::G1 (k+1) xs
theorem L3:∀ (xs:List Dat) (k i:Nat),(G1 k xs)[i]?=(xs[i]?).map fun x=>.tup [.int ((k+i:Nat):Int),x]
 | [],k,i=>by simp [G1]
 | x::xs,k,0=>by simp [G1]
 | x::xs,k,i+1=>by
  rw [G1,List.getElem?_cons_succ,List.getElem?_cons_succ,L3 xs (k+1) i,show k+1+i=k+(i+1) by lia]
theorem Qs:∀ (xs:List Dat) (k:Nat),(G1 k xs).length=xs.length
 | [],_=>rfl
 | x::xs,k=>by rw [G1,length_cons,length_cons,Qs xs]
def Z08 (f:Ev->Option Dat):Ev->Option (List Dat):=fun env=>(Jk f env).map (G1 0)
theorem B1 {K:PySem.W.Frag} {A:AS} {H:Hp} {vs:List V} {ds:List Dat} {sq:Hp->List V->Prop} (h:∀ A1 H1,Adv st A H A1 H1->sq H1 vs) (r:Wg K (av H A) ds vs):Ap st K A H (G1 0 ds) (Ite sq):=fun A1 H1 adv mu=>by
 have h1:=h A1 H1 adv;have r1:=r.mono adv.step.av;refine ⟨fun i x e=>?_,⟨vs,h1,by rw [Qs];exact Zy r⟩⟩;rw [L3] at e;obtain ⟨d,e1,e2⟩:=map_some e;subst e2;obtain ⟨v,e3,e4⟩:=Rz r1 e1;refine ⟨⟨vs,v,h1,e3⟩,fun v' H2 ⟨p,x,z1,z2,z3,z4⟩=>?_⟩;subst z1 z4;have:=z3 vs h1;rw [e3] at this;cases this;refine ⟨Zo.new z2,F8 (by show 2<=sizeLine;decide) (.inl (Wl Zs (mu.new z2))) (Us ?_ (Ji (e4.mono (Ws (Zo.new z2)))))⟩;rw [Nat.zero_add];exact Wb
def Zac (K:PySem.W.Frag) (ta:TA):TI:=fun σ H R=>ta σ H fun vs H1=>∃ a,vs=[.ref a]/\(∃ xs,Mu K H1 a xs)/\R (Ite fun H xs=>Mu K H a xs) H1
def Zaq (K:PySem.W.Frag) (ta:TA):TI:=fun σ H R=>ta σ H fun vs H1=>∃ a,vs=[.ref a]/\(∃ xs,Sh K H1 a xs)/\R (Ite fun H xs=>Sh K H a xs) H1
theorem fp2 {pins:List (Addr×Obj)} {σ:St} {H:Hp} {s:Shared} (I:Inv X pins σ H s):∀ b∈[s.heap.objs.size+1,s.heap.objs.size],Sx X pins H b:=fun b hb=>by
 rcases mem_cons.mp hb with rfl | hb
 ·exact I.fpOk (le_succ _) (I.hok.fresh (le_succ _))
 ·rw [mem_singleton.mp hb];exact I.fpOk (le_refl _) (I.hok.fresh (le_refl _))
theorem Z1q {ta:TA} {p pos:Pos} (hg:Gl X "enumerate") (hm:X.mg "enumerate" = none) (hv:bootBuiltins "enumerate" = some (.type "enumerate")) (ha:PA X [l] ta) (hs:starEach [l] X.env=[(false,eval l X.env)]:=by rfl):PI X (.Tuple es tk tpos) (.Call (.Name "enumerate" p) [l] [] pos) (Zac X.K ta):=by
 intro pins s σ H R I h;refine Call_ (R4 I hg hm hv (PyProof.Rows.callWith_type1 (Wu (ha pos pins s σ H _ I h) fun us s1 ⟨vs,H1,I1,r1,q1⟩=>?_) hs rfl));obtain ⟨a,e,⟨xs,hq⟩,q⟩:=q1;subst e;obtain ⟨u,rfl,ru⟩:=Qy r1;cases ru;obtain ⟨its,rv,pl,hz⟩:=I1.list hq;refine call_enumerate_list pl.isList fun h' h1 h2 h3 h4=>?_
 have I2:Inv X pins σ H1 { s1 with heap:=h' }:=I1.kept (t':=s1.toks) h4;refine wpAny_pyIter_enum (s:={ s1 with heap:=h' }) h1 ?_;exact ⟨s1.heap.objs.size+1,[s1.heap.objs.size+1,s1.heap.objs.size],_,_,H1,rfl,I2,A6 a _ _,⟨⟨_,h1⟩,h2⟩,fp2 I1,q⟩
theorem Z30 {ta:TA} {p pos:Pos} (hg:Gl X "enumerate") (hm:X.mg "enumerate" = none) (hv:bootBuiltins "enumerate" = some (.type "enumerate")) (ha:PA X [l] ta) (hs:starEach [l] X.env=[(false,eval l X.env)]:=by rfl):PI X (.Tuple es tk tpos) (.Call (.Name "enumerate" p) [l] [] pos) (Zaq X.K ta):=by
 intro pins s σ H R I h;refine Call_ (R4 I hg hm hv (PyProof.Rows.callWith_type1 (Wu (ha pos pins s σ H _ I h) fun us s1 ⟨vs,H1,I1,r1,q1⟩=>?_) hs rfl));obtain ⟨a,e,⟨xs,hq⟩,q⟩:=q1;subst e;obtain ⟨u,rfl,ru⟩:=Qy r1;cases ru;obtain ⟨its,rv,pl,hz⟩:=I1.tuple hq;refine R1 (show s1.heap.IsTuple a its.toArray from pl) fun h' h1 h2 h3 h4=>?_
 have I2:Inv X pins σ H1 { s1 with heap:=h' }:=I1.kept (t':=s1.toks) h4;refine wpAny_pyIter_enum (s:={ s1 with heap:=h' }) h1 ?_;exact ⟨s1.heap.objs.size+1,[s1.heap.objs.size+1,s1.heap.objs.size],_,_,H1,rfl,I2,Ak a _ _,⟨⟨_,h1⟩,h2⟩,fp2 I1,q⟩
theorem A7 {p pos:Pos} (hg:Gl X "enumerate") (hm:X.mg "enumerate" = none) (h:We false X l f) (hv:bootBuiltins "enumerate" = some (.type "enumerate"):=by decide +kernel) (hs:starEach [l] X.env=[(false,eval l X.env)]:=by rfl):PId st X (.Tuple es tk tpos) (.Call (.Name "enumerate" p) [l] [] pos) (Z08 f) :=
 ((Z1q hg hm hv (Wr h Q2 hs) hs).or (Z30 hg hm hv (Wr h Q2 hs) hs)).weak fun σ H R' zz=>by
 obtain ⟨env,R,A,ds,k,e,q⟩:=zz;obtain ⟨xs,e0,e1⟩:=map_some e;subst e1;unfold Jk at e0;split at e0
 ·rename_i ys e1
  cases e0;refine .inl ⟨env,R,A,.lst xs,k,e1,fun v H1 s1 p1=>?_⟩;obtain ⟨a,vs,e2,h1,r1⟩:=Re (show Rp X.K (av H1 A) (.lst xs) v from p1);subst e2;exact ⟨a,rfl,⟨vs,(W7.sl h1).sq⟩,q _ H1 (by rw [Qs];exact p1.pk.lenL) s1 (B1 (vs:=vs) (fun A1 H2 adv=>(W7.sl (adv.step.av.sl h1)).sq) r1)⟩
 ·rename_i ys e1
  cases e0;refine .inr ⟨env,R,A,.tup xs,k,e1,fun v H1 s1 p1=>?_⟩;obtain ⟨a,vs,e2,h1,r1⟩:=M9 (show Rp X.K (av H1 A) (.tup xs) v from p1);subst e2;exact ⟨a,rfl,⟨vs,W7.seqT h1⟩,q _ H1 (by rw [Qs];exact p1.pk.lenT) s1 (B1 (vs:=vs) (fun A1 H2 adv=>W7.seqT (adv.step.av.seqT h1)) r1)⟩
 ·cases e0
end
end L2
namespace L2
open PySem
section
variable {prog:Program} {w:World} {A:Around} {E:Value->Shared->Prop} {h:Heap} {g:Array GenState} {d:Drawn} {t:Nat} {os:OsState}
variable {nm q:Str} {C N:Addr} {bs bm bmB:List Value} {hdct:Bool} {sn:List Str} {sub:List Value} {ab:Bool} {col:Option Bool} {dd:Option Addr} {k0 k1 k2 k3 k5:Option Value} {B Bn newId nid initId inN:String} {bmN:List Value}
theorem Ha (Fn:ExcBaseFacts Bn newId inN bmN) (hBn:bmB.contains (.type Bn)=true) (F:ExcBaseFacts B nid initId bmB) (T:OwnTail h bmB bm) {mN:Str->Option Value} {rest:List Value} {fI:Addr} {oI:Obj} {Q:Fin->Shared->Prop}
   (hC:h.get? C=some (excClassObj nm q C N bs bm hdct sn sub ab col dd k0 k1 k2 k3 k5 newId)) (hn:h.Ns N mN) (hi:mN "__init__" = some (.ref fI))
   (hfI:h.get? fI=some oI) (hfc:oI.cls=.type "function")
   (hq:∀ h' e,h.objs.size<=e->Heap.MadeExcOf h h' e (.ref C) rest ->
     wpAny (model prog w) A (call (.ref fI) (.ref e::rest)) (fun r s'=>r=.none/\Q (.done (.ret (.ref e))) s') E ⟨h',g,d,t,os⟩) (hrest:rest.length<=sizeLine:=by size_fits) :
   wpAny (model prog w) A (Builtin.«type.__call__» ⟨.ref C::rest,[]⟩) Q E ⟨h,g,d,t,os⟩:=by
 repeat (first | with_reducible refine wpAny_loadPart_at hC ?_ | with_reducible refine wpAny_madeBy_exc hC ?_ | wp_step)
 refine codeAny_call_builtin_code (Code.quiet_builtin _ Fn.quiet) (wpAny_check_new_subU Fn hBn T hC ?_);refine codeAny_exc_new_subU Fn hBn F T hC ?_ hrest;show wpAny _ _ _ _ _ _;have hC₁:=get?_push_of_some { cls:=.ref C,data:=.fields #[.ref h.objs.size,.none,.none,.none,.bool false,.none] }
   (get?_push_of_some { cls:=.type "tuple",data:=.seq rest.toArray } hC)
 have hfI₁:=get?_push_of_some { cls:=.ref C,data:=.fields #[.ref h.objs.size,.none,.none,.none,.bool false,.none] }
   (get?_push_of_some { cls:=.type "tuple",data:=.seq rest.toArray } hfI)
 have hn₁:((h.push { cls:=.type "tuple",data:=.seq rest.toArray }).push { cls:=.ref C,data:=.fields #[.ref h.objs.size,.none,.none,.none,.bool false,.none] }).Ns N mN :=
   let ⟨o,es,ep,e,r⟩:=hn;⟨o,es,ep,get?_push_of_some _ (get?_push_of_some _ e),r⟩
 have hget:((h.push { cls:=.type "tuple",data:=.seq rest.toArray }).push
     { cls:=.ref C,data:=.fields #[.ref h.objs.size,.none,.none,.none,.bool false,.none] }).get? (h.objs.size+1)=some
     { cls:=.ref C,data:=.fields #[.ref h.objs.size,.none,.none,.none,.bool false,.none] }:=by heap_get
 have hcC:(Value.ref C::bm).contains (.ref C)=true:=by simp
 have T₁:=T.keeps (h':=(h.push { cls:=.type "tuple",data:=.seq rest.toArray }).push { cls:=.ref C,data:=.fields #[.ref h.objs.size,.none,.none,.none,.bool false,.none] })
   fun b o e=>get?_push_of_some _ (get?_push_of_some _ e)
 unfold isInstance;repeat (first | with_reducible refine wpAny_loadPart_at hget ?_ | (with_reducible refine wpAny_isSubtype_exc hC₁ ?_;rw [hcC]) | wp_step)
 show wpAny _ _ (typeLookup (.ref C) _) _ _ _;refine wpAny_typeLookup_tail hC₁ hn₁ T₁ F.mroIs F.init.lookup ?_;rw [hi];refine wpAny_holding (wpAny_bind ?_);unfold bindSpecial;refine wpAny_bind (wpAny_typeOf (T:="function") ⟨_,hfI₁,hfc⟩ ?_);rw [if_pos (by decide)];refine wpAny_pure (wpAny_bind (wpAny_mono (hq _ (h.objs.size+1) (le_succ _) ⟨fun b o hb=>get?_push_of_some _ (get?_push_of_some _ hb),Heap.get?_none_of_le (le_succ _),h.objs.size,hget,Heap.get?_none_of_le (le_refl _),?_⟩) (fun r s' hr=>?_) fun _ _ x=>x))
 · exact get?_push_of_some _ (Heap.get?_push_at rfl rfl)
 · obtain ⟨rfl,hQ⟩:=hr
   wp_walk
   exact hQ
theorem Kr (Fn:ExcBaseFacts Bn newId inN bmN) (hBn:bmB.contains (.type Bn)=true) (F:ExcBaseFacts B nid initId bmB) (T:OwnTail h bmB bm) {mN:Str->Option Value} {rest:List Value} {fI:Addr} {oI:Obj} {Q:Value->Shared->Prop}
  (hC:h.get? C=some (excClassObj nm q C N bs bm hdct sn sub ab col dd k0 k1 k2 k3 k5 newId)) (hn:h.Ns N mN) (hi:mN "__init__" = some (.ref fI))
  (hfI:h.get? fI=some oI) (hfc:oI.cls=.type "function")
  (hq:∀ h' e,h.objs.size<=e->Heap.MadeExcOf h h' e (.ref C) rest ->
   wpAny (model prog w) (A.under (.builtin "type.__call__" ⟨.ref C::rest,[]⟩)) (call (.ref fI) (.ref e::rest)) (fun r s'=>r=.none/\Q (.ref e) s') E ⟨h',g,d,t,os⟩) (hrest:rest.length<=sizeLine:=by size_fits) :
  wpAny (model prog w) A (call (.ref C) rest) Q E ⟨h,g,d,t,os⟩:=by
 have f1:=tc_lookup;have f2:=tc_bind (.ref C);have hT:(⟨h,g,d,t,os⟩:Shared).TypeIs (.ref C) "type" := ⟨_,hC,rfl⟩;refine wpAny_call (codeAny_of_tree ?_);show wpAny _ _ (callAny (.ref C) _) _ _ _;repeat (any_goals (first | assumption | with_reducible refine wpAny_loadPart_at hC ?_ | wp_step))
 refine ⟨rfl,?_⟩;refine codeAny_call_builtin_at (Code.quiet_builtin _ (by decide +kernel)) entry_typeCall (wpAny_check_type_call_sub hC (Ha (hrest:=hrest) Fn hBn F T hC hn hi hfI hfc fun h' e hlo hm=>?_));exact hq h' e hlo hm
end
section
variable {M:Model} {A:Around} {E:Value->Shared->Prop} {env:Env}
variable {nm q:Str} {C N:Addr} {bs bm:List Value} {hdct:Bool} {sn:List Str} {sub:List Value} {ab:Bool} {col:Option Bool} {dd:Option Addr} {k0 k1 k2 k3 k5:Option Value} {newId:String}
theorem Gi {s:Shared} {x:Sem Value} {Q:Flow->Shared->Prop} (hbase:bm.contains (.type "BaseException")=true) (hh:A.handled=none)
   (h:wpAny M A x (fun v s₁=>∃ e a dct,v=.ref e/\s₁.heap.get? C=some (excClassObj nm q C N bs bm hdct sn sub ab col dd k0 k1 k2 k3 k5 newId) /\
     s₁.heap.get? e=some { cls:=.ref C,dict:=dct,data:=.fields #[a,.none,.none,.none,.bool false,.none] }/\E (.ref e) s₁) E s) :
   wpAny M A (raiseStmt env (some x) none) Q E s:=by
 have hcB:(Value.ref C::bm).contains (.type "BaseException")=true:=by rw [List.contains_cons,hbase,Bool.or_true]
 unfold raiseStmt;refine wpAny_bind (wpAny_mono h (fun v s₁ h₁=>?_) fun _ _ x=>x);obtain ⟨e,a,dct,rfl,hC,he,hE⟩:=h₁;obtain ⟨hp,g,d,tk,os⟩:=s₁;repeat (first | with_reducible refine wpAny_loadPart_at he ?_ | with_reducible refine wpAny_loadPart_at hC ?_ | (with_reducible refine wpAny_isSubtype_exc hC ?_;rw [hcB]) | wp_step)
 exact wpAny_raiseNew_none hh hE
end
theorem Lq:entryFor table "proto.unchain" = some Builtin.«proto.unchain» := entryFor_of_fast (by kernel_rfl)
section
variable {prog:Program} {w:World} {A:Around} {E:Value->Shared->Prop} {s:Shared}
theorem Nt {e h:Addr} {o:Obj} {vs:Array Value} {Q:Value->Shared->Prop} (ho:s.heap.get? h=some o) (hd:o.data=.fields vs) (hc:vs[2]?=some .none) (hq:Q .none s) :
  wpAny (model prog w) A (runValue (.builtin "proto.unchain" ⟨[.ref e,.ref h,.ref h,.bool false],[]⟩)) Q E s:=by
 refine wpAny_runValue (codeAny_builtin Lq ?_);unfold Builtin.«proto.unchain»;refine wpAny_bind (wpAny_field ho hd hc ?_);exact wpAny_pure hq
theorem Ou {α:Type} {e h:Addr} {oe oh:Obj} {ve vh:Array Value} {Q:α->Shared->Prop} (hh:A.handled=some (.ref h)) (ne:h≠e) (he:s.heap.get? e=some oe) (hde:oe.data=.fields ve) (h2:2<ve.size)
  (ho:s.heap.get? h=some oh) (hdh:oh.data=.fields vh) (hc:vh[2]?=some .none) (hE:E (.ref e) { s with heap:=s.heap.update e (Obj.mapFields (·.setIfInBounds 2 (.ref h))) }):wpAny (model prog w) A (raiseNew (.ref e):Sem α) Q E s:=by
 unfold raiseNew;refine wpAny_bind (wpAny_handled ?_);rw [hh];have hne:(Value.ref h != Value.ref e)=true:=by
  simp only [bne_iff_ne,ne_eq];intro z;cases z;exact ne rfl
 dsimp only;rw [if_pos hne];refine wpAny_bind (wpAny_holding (Nt ho hdh hc ?_));show wpAny _ _ (setField (.ref e) 2 (.ref h) >>= _) _ _ _;refine wpAny_bind (wpAny_mono (wpAny_setField (x:=.ref h) he hde h2 (Q:=fun _ s'=>s'={ s with heap:=s.heap.update e (Obj.mapFields (·.setIfInBounds 2 (.ref h))) }) rfl) (fun _ s' z=>?_) fun _ _ x=>x);rw [z];exact wpAny_throw hE
theorem Pj {env:Env} {nm q:Str} {C N h:Addr} {bs bm:List Value} {hdct:Bool} {sn:List Str} {sub:List Value} {ab:Bool} {col:Option Bool} {dd:Option Addr} {k0 k1 k2 k3 k5:Option Value} {newId:String} {x cz:Sem Value} {Q:Flow->Shared->Prop} (hbase:bm.contains (.type "BaseException")=true) (hh:A.handled=some (.ref h))
   (hx:wpAny (model prog w) A x (fun v s₁=>∃ e a dct,v=.ref e/\s₁.heap.get? C=some (excClassObj nm q C N bs bm hdct sn sub ab col dd k0 k1 k2 k3 k5 newId) /\
     s₁.heap.get? e=some { cls:=.ref C,dict:=dct,data:=.fields #[a,.none,.none,.none,.bool false,.none] }/\h≠e/\(∃ oh vh,s₁.heap.get? h=some oh/\oh.data=.fields vh/\vh[2]?=some .none) /\
     wpAny (model prog w) A cz (fun v' s₂=>v'=.none/\s₂.heap=s₁.heap/\∀ h',(∀ b,b≠e->h'.get? b=s₁.heap.get? b)->h'.get? e=some { cls:=.ref C,dict:=dct,data:=.fields #[a,.none,.ref h,.none,.bool true,.none] }->h'.objs.size=s₁.heap.objs.size->E (.ref e) { s₂ with heap:=h' }) E s₁) E s) :
   wpAny (model prog w) A (raiseStmt env (some x) (some cz)) Q E s:=by
 have hcB:(Value.ref C::bm).contains (.type "BaseException")=true:=by rw [List.contains_cons,hbase,Bool.or_true]
 unfold raiseStmt;refine wpAny_bind (wpAny_mono hx (fun v s₁ h₁=>?_) fun _ _ x=>x);obtain ⟨e,a,dct,rfl,hC,he,hne,⟨oh,vh,ho,hdh,hc⟩,hz⟩:=h₁;refine wpAny_bind (wpAny_holding (wpAny_mono hz (fun v' s₂ h₂=>?_) fun _ _ x=>x));obtain ⟨rfl,hhp,hE⟩:=h₂;obtain ⟨hp,g,d,tk,os⟩:=s₂;have hhp':hp=s₁.heap:=hhp;subst hhp';repeat (first | with_reducible refine wpAny_loadPart_at he ?_ | with_reducible refine wpAny_loadPart_at hC ?_ | (with_reducible refine wpAny_isSubtype_exc hC ?_;rw [hcB]) | wp_step)
 have hCe:e≠C:=by
   intro z;subst z;rw [he] at hC;injection hC with hC
   have:=congrArg Obj.data hC;simp [excClassObj] at this
 have hC3:((s₁.heap.update e (Obj.mapFields fun x=>x.setIfInBounds 3 Value.none)).update e (Obj.mapFields fun x=>x.setIfInBounds 4 (Value.bool true))).get? C=some (excClassObj nm q C N bs bm hdct sn sub ab col dd k0 k1 k2 k3 k5 newId):=by
   rw [get?_update_other _ _ hCe,get?_update_other _ _ hCe];exact hC
 have he3:((s₁.heap.update e (Obj.mapFields fun x=>x.setIfInBounds 3 Value.none)).update e (Obj.mapFields fun x=>x.setIfInBounds 4 (Value.bool true))).get? e=some { cls:=.ref C,dict:=dct,data:=.fields #[a,.none,.none,.none,.bool true,.none] } :=
   get?_update_self _ (get?_update_self _ he rfl) rfl
 have ho3:((s₁.heap.update e (Obj.mapFields fun x=>x.setIfInBounds 3 Value.none)).update e (Obj.mapFields fun x=>x.setIfInBounds 4 (Value.bool true))).get? h=some oh:=by
   rw [get?_update_other _ _ (Ne.symm hne),get?_update_other _ _ (Ne.symm hne)];exact ho
 repeat (first | with_reducible refine wpAny_loadPart_at hC3 ?_ | with_reducible refine wpAny_loadPart_at he3 ?_ | wp_step)
 refine Ou hh hne he3 rfl (by show 2<6;decide) ho3 hdh hc ?_;refine hE _ (fun b hb=>?_) (get?_update_self _ he3 rfl) ?_
 · show (((s₁.heap.update e _).update e _).update e _).get? b=_
   rw [get?_update_other _ _ (Ne.symm hb),get?_update_other _ _ (Ne.symm hb),get?_update_other _ _ (Ne.symm hb)]
 · show (((s₁.heap.update e _).update e _).update e _).objs.size=_
   simp [Heap.update]
end
end L2
namespace L2
open PySem PySem.Spec PyProof.Rows
section
variable (P:Program) (w:World)
end
section
variable {P:Program} {w:World} {H H':Hp} {h h':Heap} {a:Addr} {o:HO}
end
section
variable {P:Program} {w:World} {H:Hp} {h h':Heap} {x e:Addr} {o':HO}
end
section
variable {fs fs' ex ex':List Addr} {H H1 H2:Hp} {h h1 h2 h':Heap} {a x e:Addr} {o:HO}
end
section
variable {X:Cx} {pins:List (Addr×Obj)} {σ:List (Option V)} {H H':Hp} {s:Shared} {h':Heap}
end
section
variable {X:Cx}
variable {a b:Expr} {ta tb:TE} {pos:Pos}
variable {tA tB':TT} {rest:List Expr}
end
section
variable {X:Cx} {pins:List (Addr×Obj)} {σ:St} {H:Hp} {s:Shared} {a:Addr} {xs ys:List V}
end
section
variable {X:Cx} {pins:List (Addr×Obj)} {σ:St} {H:Hp} {s:Shared} {E:Value->Shared->Prop}
end
section
variable {X:Cx} {st:Stmt} {rest:List Stmt} {t u:TS} {e:Expr} {te:TE} {pos:Pos}
end
section
variable {X:Cx} {pos:Pos}
end
section
variable {X:Cx} {tg:Expr}
end
section
variable {X:Cx} {a b c:Expr} {ta tb tc:TE} {pos:Pos}
end
section
variable {prog:Program} {w:World} {A:Around} {E:Value->Shared->Prop} {s:Shared} {K:PySem.W.Frag} {x dx C f:Addr} {mA:Str->Option Value} {name:Str} {v:Value}
end
section
variable {P:Program} {w:World} {H H':Hp} {h h':Heap} {a C dx:Addr} {fs fs':List (Str×V)}
end
section
variable {X:Cx} {pins:List (Addr×Obj)} {σ:St} {H:Hp} {s:Shared} {a C dx:Addr} {fs:List (Str×V)} {f:Str} {v:V} {A:Around} {E:Value->Shared->Prop}
end
section
variable {X:Cx} {o e value:Expr} {f:Str} {pos pos' tpos:Pos} {ta tv:TE}
end
section
variable {X:Cx} {pins:List (Addr×Obj)} {σ:St} {H:Hp} {s:Shared} {A:Around} {E:Value->Shared->Prop} {Q:Value->Shared->Prop} {c:Value} {b:Bool}
end
section
variable {X:Cx} {e:Expr} {es:List Expr} {te:TE} {t:TA} {pos:Pos}
end
section
variable {X:Cx} {pins:List (Addr×Obj)} {σ:St} {H:Hp} {s s':Shared}
end
section
variable {X:Cx} {CX:Lg} {k:Nat} {f C:Addr} {fd:FuncData} {ps:List Str} {sp:Sp} {dvs:List V} {ds:List Value} {E:XK} {x m:Str} {p pos apos:Pos} {e o:Expr} {es:List Expr} {ta:TE} {t:TA}
end
section
variable {X:Cx} {CX:Lg} {k:Nat} {f C:Addr} {fd:FuncData} {ps ks:List Str} {sp:Sp} {E:XK} {x m:Str} {p pos apos kpos:Pos} {e o:Expr} {es:List Expr} {kws:List Keyword} {te ta:TE} {t tk:TA} {nm:Option Str}
variable {g:List Value->List Value->List Value} {gV:List V->List V->List V}
end
section
variable {X:Cx} {x:Str} {p pos:Pos} {e:Expr} {es:List Expr} {t:TA} {id T:String} {r:List V->Hp->VK->Prop}
end
section
variable {κ:Type} [DecidableEq κ]
def R0 (kvs:List (κ×V)) (k:κ):Option V:=(kvs.find? fun kv=>decide (kv.1=k)).map (·.2)
def Dk (kvs:List (κ×V)) (k:κ) (v:V):List (κ×V) :=
 if (kvs.any fun kv=>decide (kv.1=k))=true then kvs.map (fun kv=>if kv.1=k then (kv.1,v) else kv) else kvs++[(k,v)]
theorem K9 {p:κ×V} {r:List (κ×V)} {k:κ} (e:p.1=k):R0 (p::r) k=some p.2:=by simp [R0,find?_cons,e]
theorem Iq {p:κ×V} {r:List (κ×V)} {k:κ} (e:¬ p.1=k):R0 (p::r) k=R0 r k:=by simp [R0,find?_cons,e]
theorem E8 (k:κ):∀ kvs:List (κ×V),(kvs.any fun kv=>decide (kv.1=k))=(R0 kvs k).isSome
 | []=>rfl
 | p::r=>by
  rw [any_cons];by_cases e:p.1=k
  ·simp only [K9 e,decide_eq_true e,Bool.true_or,Option.isSome_some]
  ·rw [Iq e,decide_eq_false e,Bool.false_or];exact E8 k r
theorem Gq (kvs:List (κ×V)) (k:κ) (v:V):(Dk kvs k v).length<=kvs.length+1:=by
 unfold Dk;split
 ·rw [length_map];lia
 ·rw [length_append,length_cons,List.length_nil];lia
theorem Z1u {kvs:List (κ×V)} {k:κ} (v:V) (h:R0 kvs k=none):Dk kvs k v=kvs++[(k,v)]:=by
 unfold Dk;rw [E8,h];exact if_neg (by decide)
theorem Lk.isSome_eq {o:Option V} {u:Option Value} (r:Lk o u):o.isSome=u.isSome:=by
 cases o with
 | none=>cases u with
  | none=>rfl
  | some _=>exact (show False from r).elim
 | some _=>cases u with
  | none=>exact (show False from r).elim
  | some _=>rfl
theorem KV.val {kvs:List (κ×V)} {vs:List (κ×Value)} (r:KV kvs vs) (k:κ):Lk (R0 kvs k) (valueAt vs k):=by
 unfold KV at r;induction r with
 | nil=>exact True.intro
 | @cons p q ps qs h t ih =>
  obtain ⟨h1,h2⟩:=h;by_cases e:p.1=k
  ·have e':q.1=k:=h1.symm.trans e
   have b:valueAt (q::qs) k=some q.2:=by simp [valueAt,find?_cons,e']
   rw [K9 e,b];exact h2
  ·have e':¬ q.1=k:=fun z=>e (h1.trans z)
   have b:valueAt (q::qs) k=valueAt qs k:=by simp [valueAt,find?_cons,e']
   rw [Iq e,b];exact ih
theorem KV.any {kvs:List (κ×V)} {vs:List (κ×Value)} (r:KV kvs vs) (k:κ):(kvs.any fun kv=>decide (kv.1=k))=vs.any fun kv=>decide (kv.1=k):=by
 unfold KV at r;induction r with
 | nil=>rfl
 | cons h t ih=>rw [any_cons,any_cons,ih,h.1]
theorem KV.repl {kvs:List (κ×V)} {vs:List (κ×Value)} (r:KV kvs vs) (k:κ) {y:V} {u:Value} (ry:Yo y u) :
  KV (kvs.map fun kv=>if kv.1=k then (kv.1,y) else kv) (vs.map fun kv=>if kv.1=k then (kv.1,u) else kv):=by
 unfold KV at r ⊢;induction r with
 | nil=>exact .nil
 | @cons p q ps qs h t ih =>
  rw [map_cons,map_cons];refine .cons ?_ ih;obtain ⟨h1,h2⟩:=h;by_cases e:p.1=k
  ·rw [if_pos e,if_pos (h1.symm.trans e)];exact ⟨h1,ry⟩
  ·rw [if_neg e,if_neg (fun z=>e (h1.trans z))];exact ⟨h1,h2⟩
theorem KV.put {kvs:List (κ×V)} {vs:List (κ×Value)} (r:KV kvs vs) (k:κ) {y:V} {u:Value} (ry:Yo y u):KV (Dk kvs k y) (stored vs k u):=by
 unfold Dk stored;rw [r.any k];by_cases e:(vs.any fun kv=>decide (kv.1=k))=true
 ·rw [if_pos e,if_pos e];exact r.repl k ry
 ·rw [if_neg e,if_neg e];exact Paired.snoc r ⟨rfl,ry⟩
theorem KV.length {kvs:List (κ×V)} {vs:List (κ×Value)} (r:KV kvs vs):kvs.length=vs.length:=Paired.length r
end
theorem Av {P:Program} {w:World} {k:Ug} {u:Value} (r:Yo (kV k) u):(V6 P w).is k u=true:=by
 cases k with
 | inl i=>obtain ⟨t,e⟩:=(show ∃ t,u=Value.int i t from r);subst e;exact Px P w i t
 | inr x=>obtain ⟨t,e⟩:=(show ∃ t,u=Value.str x t from r);subst e;exact Xh P w x t
theorem N6 {P:Program} {w:World}:∀ {ks:List Ug} {us:List Value},Y3 (ks.map kV) us->ItemsAre (V6 P w) ks us
 | [],_,r=>by rw [map_nil] at r;cases r;exact .nil
 | k::ks,_,r=>by
  rw [map_cons] at r;cases r with
  | cons h t=>exact .cons (Av h) (N6 t)
abbrev KT (H:Hp):List (List Ug×V)->List (List Ug×Addr×Value)->Prop:=Paired fun p q=>p.1=q.1/\H q.2.1=some (.tup (p.1.map kV))/\Yo p.2 q.2.2
theorem KT.val {H:Hp} {kvs:List (List Ug×V)} {xs:List (List Ug×Addr×Value)} (r:KT H kvs xs) (k:List Ug):Lk (R0 kvs k) ((atKey xs k).map (·.2)):=by
 induction r with
 | nil=>exact True.intro
 | @cons p q ps qs h t ih =>
  obtain ⟨h1,_,h2⟩:=h;by_cases e:p.1=k
  ·have e':q.1=k:=h1.symm.trans e
   have b:atKey (q::qs) k=some q.2:=by simp [atKey,find?_cons,e']
   rw [K9 e,b];exact h2
  ·have e':¬ q.1=k:=fun z=>e (h1.trans z)
   have b:atKey (q::qs) k=atKey qs k:=by simp [atKey,find?_cons,e']
   rw [Iq e,b];exact ih
theorem KT.repl {H:Hp} {kvs:List (List Ug×V)} {xs:List (List Ug×Addr×Value)} (r:KT H kvs xs) (k:List Ug) {y:V} {u:Value} (ry:Yo y u) :
  KT H (kvs.map fun kv=>if kv.1=k then (kv.1,y) else kv) (xs.map (putAt k u)):=by
 induction r with
 | nil=>exact .nil
 | @cons p q ps qs h t ih =>
  rw [map_cons,map_cons];refine .cons ?_ ih;obtain ⟨h1,h2,h3⟩:=h;unfold putAt;by_cases e:p.1=k
  ·rw [if_pos e,if_pos (h1.symm.trans e)];exact ⟨h1,h2,ry⟩
  ·rw [if_neg e,if_neg (fun z=>e (h1.trans z))];exact ⟨h1,h2,h3⟩
theorem KT.put {H:Hp} {kvs:List (List Ug×V)} {xs:List (List Ug×Addr×Value)} (r:KT H kvs xs) (k:List Ug) {b:Addr} {y:V} {u:Value} (hb:H b=some (.tup (k.map kV))) (ry:Yo y u) :
  KT H (Dk kvs k y) (storedH xs k b u):=by
 have e:(kvs.any fun kv=>decide (kv.1=k))=(atKey xs k).isSome:=by
  rw [E8,(r.val k).isSome_eq,Option.isSome_map]
 unfold Dk storedH;rw [e];by_cases q:(atKey xs k).isSome=true
 ·rw [if_pos q,if_pos q];exact r.repl k ry
 ·rw [if_neg q,if_neg q];exact Paired.snoc r ⟨rfl,hb,ry⟩
theorem KT.keeps {H H':Hp} {kvs:List (List Ug×V)} {xs:List (List Ug×Addr×Value)} (r:KT H kvs xs) (ht:∀ b ys,H b=some (.tup ys)->H' b=some (.tup ys)):KT H' kvs xs :=
 Paired.mapP r fun _ _ z=>⟨z.1,ht _ _ z.2.1,z.2.2⟩
section
variable {P:Program} {w:World} {H:Hp} {h:Heap} {a:Addr}
theorem Z7h {u:HO} (ok:Mp P w H h) (e:Rd H a u):Yy P w H h a u:=e.ok ok
theorem Z2h {kvs:List (Ug×V)} (ok:Mp P w H h) (e:Rd H a (.dK kvs)):kvs.length<=sizeLine/\(a==sysModules)=false/\∃ vs,KV kvs vs/\h.DictOf (V6 P w) a vs :=
 show Yy P w H h a (.dK kvs) from Z7h ok e
theorem Zc1 {kvs:List (Ug×V)} (ok:Mp P w H h) (e:H a=some (.dK kvs)):kvs.length<=sizeLine/\(a==sysModules)=false/\∃ vs,KV kvs vs/\h.DictOf (V6 P w) a vs:=Z2h ok (.inl e)
theorem Kf {ks:List Ug} (ok:Mp P w H h) (e:H a=some (.tup (ks.map kV))):(tupleKind (V6 P w)).is h ks a:=by
 obtain ⟨_,its,r,o,h1,h2,n,h3⟩:=(show Yy P w H h a (.tup (ks.map kV)) from ok a _ e);exact ⟨o,its.toArray,n,h1,h2,h3,by simpa using N6 r⟩
theorem Z2f {kvs:List (List Ug×V)} (ok:Mp P w H h) (e:Rd H a (.dT kvs)):kvs.length<=sizeLine/\(a==sysModules)=false /\
  ∃ xs,KT H kvs xs/\h.DictOfH (tupleKind (V6 P w)) a xs:=by
 obtain ⟨z,y,xs,r,o,es,ep,h1,h2,h3,h4,h5⟩:=(show Yy P w H h a (.dT kvs) from Z7h ok e);refine ⟨z,y,xs,r,o,es,ep,h1,h2,h3,h4,fun x hx=>?_,h5⟩;have all:∀ {l:List (List Ug×V)} {m:List (List Ug×Addr×Value)},KT H l m->∀ x∈m,(tupleKind (V6 P w)).is h x.1 x.2.1:=by
  intro l m q;induction q with
  | nil=>intro x hx;exact nomatch hx
  | @cons p q ps qs hq t ih =>
   intro x hx;rcases mem_cons.mp hx with e | hx
   ·subst e
    exact Kf ok (by rw [← hq.1];exact hq.2.1)
   ·exact ih x hx
 exact all r x hx
theorem Z7m {kvs:List (List Ug×V)} (ok:Mp P w H h) (e:H a=some (.dT kvs)):kvs.length<=sizeLine/\(a==sysModules)=false /\
 ∃ xs,KT H kvs xs/\h.DictOfH (tupleKind (V6 P w)) a xs:=Z2f ok (.inl e)
end
def Xr (H:Hp) (a:Addr) (y:V) (r:Option V):Prop :=
 (∃ kvs k,Rd H a (.dK kvs)/\y=kV k/\r=R0 kvs k)\/∃ kvs k b,Rd H a (.dT kvs)/\y=.ref b/\H b=some (.tup (k.map kV))/\r=R0 kvs k
def Z3g (H:Hp) (a:Addr) (y v:V) (H':Hp):Prop :=
 (∃ kvs k,H a=some (.dK kvs)/\y=kV k/\kvs.length<sizeLine/\H'=W4 H a (.dK (Dk kvs k v))) \/
 ∃ kvs k b,H a=some (.dT kvs)/\y=.ref b/\H b=some (.tup (k.map kV))/\kvs.length<sizeLine/\H'=W4 H a (.dT (Dk kvs k v))
theorem Xr.t {H:Hp} {a b:Addr} {kvs:List (List Ug×V)} {k:List Ug} (e:H a=some (.dT kvs)) (eb:H b=some (.tup (k.map kV))):Xr H a (.ref b) (R0 kvs k):=.inr ⟨kvs,k,b,.inl e,rfl,eb,rfl⟩
theorem Z3g.t {H:Hp} {a b:Addr} {kvs:List (List Ug×V)} {k:List Ug} {v:V} (e:H a=some (.dT kvs)) (eb:H b=some (.tup (k.map kV))) (hl:kvs.length<sizeLine) :
 Z3g H a (.ref b) v (W4 H a (.dT (Dk kvs k v))):=.inr ⟨kvs,k,b,e,rfl,eb,hl,rfl⟩
section
variable {X:Cx} {pins:List (Addr×Obj)} {σ:St} {H:Hp} {s:Shared} {a:Addr} {y v:V} {u r:Value} {o:Option V} {A:Around} {E:Value->Shared->Prop}
theorem Inv.big (I:Inv X pins σ H s):sysModules<s.heap.objs.size:=by
 have h:mainGlobals<s.heap.objs.size:=(I.mod.glob.keeps I.bk).lt;exact Nat.lt_trans (by decide) h
theorem Zex {Q:Value->Shared->Prop} (hu:A.units+1<cLine) (I:Inv X pins σ H s) (g:Xr H a y o) (ry:Yo y u) (h:∀ s',Inv X pins σ H s'->Q (.bool o.isSome) s') :
  wpAny (model X.prog X.w) A (compareOp .In u (.ref a)) Q E s:=by
 rcases g with ⟨kvs,k,e,ey,l⟩ | ⟨kvs,k,b,e,ey,eb,l⟩
 ·subst ey
  obtain ⟨z,hd,vs,rel,dd⟩:=Z2h I.hok e;refine wpAny_in_of (Av ry) hd dd.mapOf ?_;rw [← (rel.val k).isSome_eq,← l];exact h _ (I.tok _)
 ·subst ey
  cases (show u=Value.ref b from ry);obtain ⟨z,hd,xs,rel,dd⟩:=Z2f I.hok e;refine wpAny_in_heap (tupleKind_room_in1 hu) (Kf I.hok eb) hd dd ?_;have q:=(rel.val k).isSome_eq;rw [Option.isSome_map] at q;rw [← q,← l];exact h _ (I.tok _)
theorem Z6x {Q:Value->Shared->Prop} (hu:A.units+1<cLine) (I:Inv X pins σ H s) (g:Xr H a y o) (ry:Yo y u) (h:∀ s',Inv X pins σ H s'->Q (.bool (!o.isSome)) s') :
  wpAny (model X.prog X.w) A (compareOp .NotIn u (.ref a)) Q E s:=by
 rcases g with ⟨kvs,k,e,ey,l⟩ | ⟨kvs,k,b,e,ey,eb,l⟩
 ·subst ey
  obtain ⟨z,hd,vs,rel,dd⟩:=Z2h I.hok e;refine wpAny_notIn_of (Av ry) hd dd.mapOf ?_;rw [← (rel.val k).isSome_eq,← l];exact h _ (I.tok _)
 ·subst ey
  cases (show u=Value.ref b from ry);obtain ⟨z,hd,xs,rel,dd⟩:=Z2f I.hok e;refine wpAny_notIn_heap (tupleKind_room_in1 hu) (Kf I.hok eb) hd dd ?_;have q:=(rel.val k).isSome_eq;rw [Option.isSome_map] at q;rw [← q,← l];exact h _ (I.tok _)
theorem Ol {h':Heap} {t':Nat} {ob:HO} (I:Inv X pins σ H s) (mu:Mut (H a)) (hs:SameBut a s.heap h') (he:∃ q,h'.get? a=some q) (new:Yy X.prog X.w (W4 H a ob) h' a ob) :
  Inv X pins σ (W4 H a ob) { s with heap:=h',toks:=t' } :=
 I.write (x:=a) (e:=a) mu (.inl rfl) (fun b q hb z=>(hs.2 b hb).trans z) he new
theorem Z9y {P:Program} {w:World} {H':Hp} {h':Heap} {kvs:List (Ug×V)} {vs:List (Ug×Value)} (z:kvs.length<=sizeLine) (hd:(a==sysModules)=false) (rel:KV kvs vs) (dd:h'.DictOf (V6 P w) a vs) :
 Yy P w H' h' a (.dK kvs):=⟨z,hd,vs,rel,dd⟩
theorem Z19 {H':Hp} {Q:Unit->Shared->Prop} (hu:A.units+1<cLine) (I:Inv X pins σ H s) (g:Z3g H a y v H') (ry:Yo y u) (rv:Yo v r) (h:∀ s',Inv X pins σ H' s'->Q () s') :
  wpAny (model X.prog X.w) A (setItem (.ref a) u r) Q E s:=by
 rcases g with ⟨kvs,k,e,ey,l,eH⟩ | ⟨kvs,k,b,e,ey,eb,l,eH⟩
 ·subst ey eH
  obtain ⟨z,hd,vs,rel,dd⟩:=Zc1 I.hok e;have hz:vs.length<=sizeLine:=by rw [← rel.length];exact z
  have hl:(Dk kvs k v).length<=sizeLine:=by have:=Gq kvs k v;lia
  refine wpAny_setItem_pairs (hsz:=hz) (Av ry) dd fun h' dd' hs=>h _ ?_
  have he:∃ q,h'.get? a=some q:=let ⟨q,_,_,hq,_⟩:=dd';⟨q,hq⟩
  exact Ol I (by rw [e];exact True.intro) hs he (Z9y hl hd (rel.put k rv) dd')
 ·subst ey eH
  cases (show u=Value.ref b from ry);obtain ⟨z,hd,xs,rel,dd⟩:=Z7m I.hok e;have hz:xs.length<=sizeLine:=by rw [← Paired.length rel];exact z
  have hl:(Dk kvs k v).length<=sizeLine:=by have:=Gq kvs k v;lia
  refine wpAny_setItem_heap (hsz:=hz) (tupleKind_room_in1 hu) (Kf I.hok eb) dd fun h' dd' hs=>h _ ?_
  obtain ⟨q,es,ep,hq,h2,h3,h4,_,h5⟩:=dd';refine Ol I (by rw [e];exact True.intro) hs ⟨q,hq⟩ ⟨hl,hd,_,(rel.put k eb rv).keeps fun c ys ec=>?_,q,es,ep,hq,h2,h3,h4,h5⟩;rw [Zh (Z7q ec e (fun z=>nomatch z))];exact ec
end
section
variable {X:Cx} {pins:List (Addr×Obj)} {σ:St} {H:Hp} {s:Shared} {a:Addr} {kvs:List (Ug×V)} {k:Ug} {u:Value} {A:Around} {E:Value->Shared->Prop}
end
def Ze4 (ty td:TE):TE:=fun σ H Q=>ty σ H fun y H1=>td σ H1 fun x H2=>∃ a o,x=.ref a/\Xr H2 a y o/\Q (.bl o.isSome) H2
def Z51 (ty td:TE):TE:=fun σ H Q=>ty σ H fun y H1=>td σ H1 fun x H2=>∃ a o,x=.ref a/\Xr H2 a y o/\Q (.bl (!o.isSome)) H2
def Zc5 (td ty tv:TE):TS:=fun D σ H=>tv σ H fun v H1=>td σ H1 fun x H2=>ty σ H2 fun y H3=>∃ a H4,x=.ref a/\Z3g H3 a y v H4/\D.nx σ H4
section
variable {X:Cx} {o i e value:Expr} {pos pos' tpos:Pos} {td ty tv:TE}
theorem Z98 (hu:X.A.units+1<cLine) (hi:PE X i ty) (ho:PE X o td):PC X .In i o (Ze4 ty td):=by
 intro pins s σ H Q I h;refine Wu (hi pins s σ H _ I h) fun iv s1 ⟨y,H1,I1,ry,q1⟩=>Wu (ho pins s1 σ H1 _ I1 q1) fun u s2 ⟨x,H2,I2,rx,a,ov,ex,g,q2⟩=>?_
 subst ex;obtain rfl:u=Value.ref a:=rx;exact Zex hu I2 g ry fun s3 I3=>⟨.bl ov.isSome,H2,I3,rfl,q2⟩
theorem Cw (hu:X.A.units+1<cLine) (hi:PE X i ty) (ho:PE X o td):PC X .NotIn i o (Z51 ty td):=by
 intro pins s σ H Q I h;refine Wu (hi pins s σ H _ I h) fun iv s1 ⟨y,H1,I1,ry,q1⟩=>Wu (ho pins s1 σ H1 _ I1 q1) fun u s2 ⟨x,H2,I2,rx,a,ov,ex,g,q2⟩=>?_
 subst ex;obtain rfl:u=Value.ref a:=rx;exact Z6x hu I2 g ry fun s3 I3=>⟨.bl (!ov.isSome),H2,I3,rfl,q2⟩
theorem Z55 (hu:X.A.units+1<cLine) (ho:PE X o td) (hi:PE X i ty) (hv:PE X value tv) (hs:swapsWith value (some (.Subscript o i pos')) pos.line X.env=pure false) :
  PS X (.Assign [.Subscript o i pos'] value pos) (Zc5 td ty tv):=by
 intro pins s σ H D I h;refine wpAny_Assign_Subscript (Wu (hv pins s σ H _ I h) fun r s1 ⟨v,H1,I1,rv,q1⟩=>Wu (ho pins s1 σ H1 _ I1 q1) fun u s2 ⟨x,H2,I2,rx,q2⟩=>Wu (hi pins s2 σ H2 _ I2 q2) fun iv s3 ⟨y,H3,I3,ry,a,H4,ex,g,q3⟩=>?_) hs;subst ex;obtain rfl:u=Value.ref a:=rx;exact Z19 hu I3 g ry rv fun s4 I4=>⟨σ,H4,I4,q3⟩
end
theorem Z38 {P:Program} {w:World} {H:Hp} (h:Heap) (hb:sysModules<h.objs.size):Yy P w H (h.push { cls:=.type "dict",data:=.dict #[] }) h.objs.size (.dT []) :=
 ⟨zero_le _,beq_eq_false_iff_ne.mpr (Ne.symm (ne_of_lt hb)),[],.nil,_,#[],0,get?_push_size _ rfl,⟨rfl,rfl,rfl⟩,rfl,rfl,nodup_nil⟩
section
variable {X:Cx} {pos:Pos}
end
section
variable {X:Cx} {pins:List (Addr×Obj)} {σ:St} {H:Hp} {s:Shared} {a:Addr} {y d:V} {u r:Value} {o:Option V} {A:Around} {E:Value->Shared->Prop}
end
section
variable {X:Cx} {o e f:Expr} {apos cpos:Pos} {td ty tx:TE}
end
section
variable {X:Cx} {pins:List (Addr×Obj)} {σ:St} {H:Hp} {s:Shared} {a:Addr} {kvs:List (Ug×V)} {A:Around} {E:Value->Shared->Prop}
end
section
variable {X:Cx} {pins:List (Addr×Obj)} {σ:St} {H:Hp} {s:Shared} {a:Addr} {y:V} {u:Value} {A:Around} {E:Value->Shared->Prop}
end
end L2
namespace Att
open PySem PySem.W PySem.Calls PyProof.Rows
section
variable {prog:Program} {w:World} {A:Around} {E:Value->Shared->Prop} {s:Shared} {K:Frag}
end
end Att
namespace L2
open PySem PySem.Spec PyProof.Rows
section
variable {P:Program} {w:World} {K:PySem.W.Frag} {mg:Str->Option Value} {base:Heap}
end
section
variable {X:Cx}
end
section
variable {κ:Type} [DecidableEq κ]
end
structure RoomN (k:Nat) (A:Around):Prop where
 dp:A.depth+3*k+5<recursionLimit
 un:A.units+16*k+200<cLine
 gd:A.guards=some []
theorem RoomN.mono {j k:Nat} {A:Around} (r:RoomN k A) (h:j<=k):RoomN j A:=⟨by have:=r.dp;lia,by have:=r.un;lia,r.gd⟩
theorem RoomN.deeper {k:Nat} {A:Around} (r:RoomN (k+1) A) (env:Env):RoomN k (A.deeper env) :=
 ⟨by have:=r.dp;show A.depth+1+3*k+5<_;lia,by have:=r.un;show A.units+3+16*k+200<_;lia,r.gd⟩
theorem RoomN.depth {k:Nat} {A:Around} (r:RoomN k A):A.depth<recursionLimit:=by have:=r.dp;lia
def HdS (A:Around) (h:Heap):Prop:=A.handled=none\/∃ e oe ve,A.handled=some (.ref e)/\h.get? e=some oe/\oe.data=.fields ve/\ve[2]?=some .none
def HdK (A:Around) (fs:List Addr) (H:Hp) (h:Heap):Prop:=A.handled=none\/∃ e oe ve,A.handled=some (.ref e)/\h.get? e=some oe/\oe.data=.fields ve/\ve[2]?=some .none/\H e=none/\e∉fs
def HdN (X:Cx):Prop:=∀ pins σ H s,Inv X pins σ H s->HdS X.A s.heap
def HdC (X:Cx):Prop:=∀ pins σ H s,Inv X pins σ H s->HdK X.A (Sk X.stack) H s.heap
theorem HdN.of {X:Cx} (k:HdK X.A X.fs X.H₀ X.s₀.heap) (hx:X.ex=[]):HdN X:=fun _ _ _ _ I=>k.imp id fun ⟨e,oe,ve,h1,h2,h3,h4,h5,h6⟩=>⟨e,oe,ve,h1,I.base.keep e oe h2 h5 h6 (by rw [hx];simp),h3,h4⟩
theorem Room.n {k:Nat} {A:Around} (r:Room k A):RoomN k A:=⟨r.dp,r.un,r.gd⟩
structure FnOkN (P:Program) (w:World) (K:PySem.W.Frag) (mg:Str->Option Value) (base:Heap) (CX:Lg) (k:Nat) (f:Addr) (fd:FuncData) (ps:List Str) (sp:Sp):Prop where
 len:∀ vs H Q E,sp vs H Q E->vs.length=ps.length
 run:∀ (A:Around) (outer:List Env) (s:Shared) (H:Hp) (args:Args) (us:List Value) (vs:List V) (Q:VK) (E:XK),RoomN k A->HdK A (Sk outer) H s.heap->Env0 P w K mg base A outer s H->BindsTo s fd args (ps.zip us)->Y3 vs us->sp vs H Q E ->
  codeAny (model P w) A (.call (.ref f) args) (CR CX outer P w H s Q E) s
section
variable {X:Cx} {CX:Lg} {k:Nat} {f C:Addr} {fd:FuncData} {ps:List Str} {sp:Sp} {dvs:List V} {ds:List Value} {E:XK} {x m:Str} {p pos apos:Pos} {e o:Expr} {es:List Expr} {ta:TE} {t:TA}
theorem Z5m {pins:List (Addr×Obj)} {σ:St} {H:Hp} {s:Shared} {Q:VK} {us:List Value} {vs:List V} (F:FnOkN X.prog X.w X.K X.mg X.base CX k f fd ps sp) (hr:RoomN k X.A) (hk:HdC X) (hb:J9 X.K fd ps ds) (hd:Y3 dvs ds) (hx:Ix CX X E)
  (I:Inv X pins σ H s) (r:Y3 vs us) (h:sp (vs++dvs) H Q E):wpAny (model X.prog X.w) X.A (call (.ref f) us) (EP X pins σ Q) X.xe s:=by
 have r2:Y3 (vs++dvs) (us++ds):=r.append hd;have hl:(us++ds).length=ps.length:=by rw [← r2.length];exact F.len _ _ _ _ h
 refine wpAny_call (codeAny_mono (F.run X.A X.stack s H ⟨us,[]⟩ (us++ds) (vs++dvs) Q E hr (hk _ _ _ _ I) I.env0 (hb s us I.kIn hl) r2 h) fun r s' hq=>?_);cases r with
 | error e=>exact hx pins σ H s e s' I hq
 | ok fl =>
  cases fl with
  | ret u=>exact I.after hq
  | next=>exact False.elim hq
  | brk=>exact False.elim hq
  | cont=>exact False.elim hq
theorem Z25 (F:FnOkN X.prog X.w X.K X.mg X.base CX k f fd ps sp) (hr:RoomN k X.A) (hh:HdC X) (hg:Gl X x) (hm:X.mg x=some (.ref f)) (hk:PySem.W.keepIn X.K (.ref f)=true) (hb:J9 X.K fd ps ds) (hd:Y3 dvs ds) (hx:Ix CX X E)
  (ha:PA X (e::es) t) (hdb:(x==("__debug__" : Str))=false:=by decide) (he:starEach (e::es) X.env=(false,eval e X.env)::starEach es X.env:=by rfl) (hpl:(backTo pos (starEach es X.env)).any (·.1)=false:=by rfl) :
  PE X (.Call (.Name x p) (e::es) [] pos) (Az sp dvs E t):=by
 intro pins s σ H Q I h;refine wpAny_Call_Name_kw (U2 I hg hm ?_ hdb);refine PySem.W.callWith_K (h₀:=X.base) I.ok.mod.kin hk (Wu (ha pos pins s σ H _ I h) fun us s1 ⟨vs,H1,I1,r,q⟩=>⟨I1.kIn,?_⟩) he hpl;exact Z5m F hr hh hb hd hx I1 r q
end
def Rj (CX:Lg) (P:Program) (w:World) (K:PySem.W.Frag) (mg:Str->Option Value) (base:Heap) (N:List Str) (qual:Str) (scope:Scope) (f:Addr) (cd:Value) (A:Around) (outer:List Env) (s:Shared) (H:Hp) (E:XK):Cx where
 prog:=P
 w:=w
 K:=K
 mg:=mg
 base:=base
 A:=A.deeper (envOfC qual scope s.heap.objs.size f cd)
 N:=N
 s₀:=s
 H₀:=H
 env:=envOfC qual scope s.heap.objs.size f cd
 outer:=outer
 stack:=envOfC qual scope s.heap.objs.size f cd::outer
 ex:=[]
 calm:=false
 fn:=fun _=>true
 pn:=[]
 xe:=fun e s'=>wpAny (model P w) (A.deeper (envOfC qual scope s.heap.objs.size f cd)) (leaving (envOfC qual scope s.heap.objs.size f cd) e) (fun _ s''=>CX outer H s E e s'') (fun e' s''=>CX outer H s E e' s'') s'
theorem F0 {CX:Lg} {P:Program} {w:World} {K:PySem.W.Frag} {mg:Str->Option Value} {base:Heap} {N ps:List Str} {qual:Str} {scope:Scope} {f:Addr} {cd:Value} {A:Around} {outer:List Env} {s s1:Shared} {H:Hp} {E:XK} {us:List Value} {vs:List V}
  (S:FnScope N ps scope) (e0:Env0 P w K mg base A outer s H) (hl:vs.length=ps.length) (r:Y3 vs us)
  (x:InCallC s s.heap.objs.size (bindL (envOfC qual scope s.heap.objs.size f cd).kindOf (ps.zip us) fun _=>none) (cellsFrom (s.heap.objs.size+1) scope.names []) (bindC (envOfC qual scope s.heap.objs.size f cd).kindOf (ps.zip us) fun _=>none) s1) :
  Inv (Rj CX P w K mg base N qual scope f cd A outer s H E) [] (start N vs) H s1:=by
 have hpl:ps.length<=N.length:=by have:=congrArg List.length S.pre;rw [length_take] at this;lia
 obtain ⟨h1,tk,rfl,hk⟩:=x.done;have noA:∀ b:Addr,b∉(Rj CX P w K mg base N qual scope f cd A outer s H E).ex:=fun b z=>absurd (show b∈([]:List Addr) from z) (by simp)
 refine ⟨⟨e0.mod,S.kind,rfl,rfl,le_refl _,fun y z c h1 h2=>?_,fun y hy=>?_,fun y c _ h=>?_,(fun z=>nomatch z),Around.frames_deeper e0.frames,.inr ⟨rfl,rfl⟩,fun b z=>absurd z (noA b),e0.bs,e0.bsz,fun b _ _=>noA b,fun b z=>absurd z (noA b),e0.funs,e0.frf⟩,
  rfl,e0.bare,Un.kept hk,⟨_,x.toInCall.ns,fun i y v h1 h2 h3=>?_⟩,fun y c h=>⟨_,x.cell y c h⟩,e0.hok.fresh (le_refl _),fun y c h=>?_,fun p hp=>absurd (show p∈([]:List (Addr×Obj)) from hp) (by simp),e0.hok.kept hk,?_⟩
 ·exact name_of_addr x.apart (PySem.mem_of_lookup h1) (PySem.mem_of_lookup h2)
 ·have hy:scope.names.lookup y=some .cell\/scope.names.lookup y=some .free:=hy
  rcases hy with hy | hy
  ·exact Dj hy
  ·exact absurd rfl (S.nofree _ (PySem.mem_of_lookup hy))
 ·exact le_of_lt (x.above y c (PySem.mem_of_lookup h))
 ·have hi:i<vs.length:=by
   unfold start at h2;by_cases hi:i<vs.length
   ·exact hi
   ·rw [List.getElem?_append_right (by simpa using hi)] at h2
    rw [List.getElem?_replicate] at h2;split at h2<;>cases h2
  have ha:vs[i]?=some v:=by
   unfold start at h2;rw [getElem?_append_left (by simpa using hi),getElem?_map] at h2;cases e:vs[i]? with
   | none=>rw [e] at h2;cases h2
   | some a=>rw [e] at h2;cases h2;rfl
  obtain ⟨u,hu,rv⟩:=r.get ha;have hp:ps[i]?=some y:=by
   rw [← S.pre,List.getElem?_take_of_lt (by lia)];exact h1
  have ndP:ps.Nodup:=by rw [← S.pre];exact S.nd.sublist (List.take_sublist _ _)
  refine ⟨u,rv,?_⟩;rcases S.par y (mem_of_getElem? hp) with k | k
  ·exact .inl ⟨k,Eg ndP hp hu k⟩
  ·obtain ⟨c,e⟩:=Dj (n:=s.heap.objs.size+1) k
   refine .inr ⟨.inl k,c,e,?_⟩;have q:=x.cell y c e;rw [Er ndP hp hu (by show scope.names.lookup y≠_;rw [k];decide)] at q;exact q
 ·exact e0.hok.fresh (le_of_lt (x.above y c (PySem.mem_of_lookup h)))
 ·unfold start
  show _=N.length;rw [length_append,length_map,length_replicate];lia
theorem Z8x {CX:Lg} {P:Program} {w:World} {K:PySem.W.Frag} {mg:Str->Option Value} {base:Heap} {k:Nat} {f:Addr} {name qual:Str} {params:Arguments} {body:List Stmt} {scope:Scope} {dV kV doc pm cdv ct oc:Value} {an od:Option Addr}
  {osl:Array (Option Value)} {N ps:List Str} {sp:Sp} (lk:K.lookup f=some ⟨oc,od,.func (fnOf name qual params body scope dV kV doc pm an cdv ct),osl⟩) (hcd:codeIn K cdv qual=true) (S:FnScope N ps scope)
  (len:∀ vs H Q E,sp vs H Q E->vs.length=ps.length)
  (hbody:∀ (A:Around) (outer:List Env) (s:Shared) (H:Hp) (vs:List V) (Q:VK) (E:XK),RoomN k (A.deeper (envOfC qual scope s.heap.objs.size f cdv))->HdK A (Sk outer) H s.heap->sp vs H Q E ->
   ∃ t,Sm (Rj CX P w K mg base N qual scope f cdv A outer s H E) body t/\t { nx:=fun _ H'=>Q .non H',rt:=Q } (start N vs) H) :
  FnOkN P w K mg base CX (k+1) f (fnOf name qual params body scope dV kV doc pm an cdv ct) ps sp:=by
 refine ⟨len,fun A outer s H args us vs Q E hr hk e0 hb r hsp=>?_⟩;have hl:=len _ _ _ _ hsp;have KX:K.In s.heap:=e0.mod.kin.keeps fun b o e=>(e0.bs b o e).1
 have lim:s.heap.NoLimit:=e0.mod.nolimit.keeps fun b o e=>(e0.bs b o e).1
 have hkind:∀ y∈ps.zip us,scope.names.lookup y.1=some .local\/(scope.names.lookup y.1=some .cell/\((cellsFrom (s.heap.objs.size+1) scope.names []).lookup y.1).isSome=true):=fun ⟨n,v⟩ hy=>by
  rcases S.par n (of_mem_zip hy).1 with q | q
  ·exact .inl q
  ·exact .inr ⟨q,cellsFrom_some _ _ _ (.inl q)⟩
 refine codeAny_call_function hr.depth (KX _ _ lk) rfl S.co S.gen rfl (codeRec_of KX hcd) (hb _ _ _ _ ?_);refine wpAny_newFunctionEnv_cells S.kind hkind fun env he s1 x=>?_
 subst he;refine ⟨lim.keeps x.toInCall.keep,codeAny_func ?_⟩;obtain ⟨t,ht,hq⟩:=hbody A outer s H vs Q E (hr.deeper _) hk hsp;have I:Inv (Rj CX P w K mg base N qual scope f cdv A outer s H E) [] (start N vs) H s1:=F0 S e0 hl r x;refine wpAny_mono (ht [] s1 (start N vs) H _ I hq) (fun fl s' hs=>?_) fun e s' hs=>hs
 have fin:∀ {σ':St} {H':Hp} {v:V} {u:Value},Inv (Rj CX P w K mg base N qual scope f cdv A outer s H E) [] σ' H' s'->Yo v u->Q v H'->CE outer P w H s Q u s' :=
  fun {σ' H' v u} J rv q=>⟨v,H',J.os,J.bare,J.base,J.hok,rv,q⟩
 cases fl with
 | ret u =>
  obtain ⟨v,σ',H',J,rv,q⟩:=hs;exact fin J rv q
 | next =>
  obtain ⟨σ',H',J,q⟩:=hs;exact fin (v:=V.non) (u:=Value.none) J rfl q
 | brk =>
  obtain ⟨_,_,_,q⟩:=hs;exact False.elim q
 | cont =>
  obtain ⟨_,_,_,q⟩:=hs;exact False.elim q
theorem FnOkN.x {P:Program} {w:World} {K:PySem.W.Frag} {mg:Str->Option Value} {base:Heap} {CX:Lg} {k:Nat} {f:Addr} {fd:FuncData} {ps:List Str} {sp:Sp} (F:FnOkN P w K mg base CX k f fd ps sp):FnOk P w K mg base CX k f fd ps sp :=
 ⟨F.len,fun A outer s H args us vs Q E hr e0 hb r hsp=>F.run A outer s H args us vs Q E hr.n (.inl hr.hd) e0 hb r hsp⟩
end L2
namespace PySem
open Sem (wp)
open AutoSeq1 (wpAny_loadPart')
namespace F
theorem nolen_lr:typeLookup (.type "list_reverseiterator") "__len__" = pure none:=by rw [typeLookup_type,builtinLookup_eq_fast];kernel_rfl
theorem hint_lr:typeLookup (.type "list_reverseiterator") "__length_hint__" = pure (some (.builtin "list_reverseiterator.__length_hint__")):=by rw [typeLookup_type,builtinLookup_eq_fast];kernel_rfl
end F
section
variable {prog:Program} {w:World} {A:Around} {E:Value->Shared->Prop} {s:Shared}
end
section
variable {prog:Program} {w:World} {A:Around} {s:Shared} {R:Result->Shared->Prop}
variable {I:Addr} {fp wr:List Addr} {G:Array GenState->Array GenState->Prop} {n:Nat} {P:Nat->Value->Prop} {St:Nat->Shared->Prop}
def Oe (prog:Program) (w:World) (A:Around) (I:Addr) (St:Nat->Shared->Prop):Prop:=∀ (s:Shared) (Q:Bool->Shared->Prop) (E:Value->Shared->Prop),St 0 s->(∀ tk,s.toks<=tk->Q false { s with toks:=tk })->wpAny (model prog w) A (Builtin.List.listLengthHint (.ref I)) Q E s
theorem Hb {T:String} (W:WalksS prog w A.in1 I fp wr G n P St) (hT:∀ i s,St i s->s.TypeIs (.ref I) T) (hTm:T="range_iterator" \/ T="list_reverseiterator") (hh:Oe prog w A.in1 I St) (S:Addr) (res:Value) (c₀:Nat) (hst:St 0 s) (hSf:S∉fp) (hI:I∈fp)
  (hS:s.heap.get? S=some { cls:=.type "list",data:=.seq #[] c₀ })
  (hR:∀ s' acc' c',Moved (S::wr) G s s'->s'.heap.get? S=some { cls:=.type "list",dict:=none,data:=.seq acc' c',slots:=#[] }->ItemsOf P acc' n->R (.ok (.ret res)) s') (hn:n<=sizeLine) :
  wpAny (model prog w) A.in1 (Builtin.List.listExtendWith (.ref S) (.ref I) res)
   (fun fin s'=>match fin with | .done f=>R (.ok f) s' | .again c'=>c'.quiet=true/\codeAny (model prog w) A c' R s') (fun e s'=>R (.error e) s') s:=by
 have hSI:S≠I:=fun e=>hSf (e▸hI)
 unfold Builtin.List.listExtendWith;refine wpAny_bind (wpAny_typeOf (hT 0 _ hst) ?_);have h1:Builtin.List.listSameRef (.ref S) (.ref I)=false:=by simp [Builtin.List.listSameRef,hSI]
 have h2:(Value.type T==Value.type "list")=false:=by rcases hTm with rfl | rfl<;>decide
 have h3:(Value.type T==Value.type "tuple")=false:=by rcases hTm with rfl | rfl<;>decide
 simp only [h1,h2,h3,Bool.or_false,Bool.false_eq_true,if_false];refine wpAny_bind (W.self 0 _ _ _ hst ?_);refine wpAny_bind (wpAny_holding (hh s _ _ hst fun tk htk=>?_));rw [if_neg (by rcases hTm with rfl | rfl<;>decide)];have hst₂:=W.frame 0 _ _ tk hst htk fun b _ o e=>e
 refine wpAny_pure ⟨plainId_quiet F.plain_extend_loop _,codeAny_extend_loopS W hn _ hSf _ n 0 _ _ _ rfl (zero_le _) hst₂ hS (ItemsOf.nil P) fun s' acc' c' hm hS' hacc=>?_⟩;exact hR s' acc' c' (Moved.trans W.gtrans ((Moved.refl W.grefl).then_heap htk fun b o hb e=>e) hm) hS' hacc
theorem D8 {T:String} (W:WalksS prog w A.in1 I fp wr G n P St) (hT:∀ i s,St i s->s.TypeIs (.ref I) T) (hTm:T="range_iterator" \/ T="list_reverseiterator") (hh:Oe prog w A.in1 I St) (S:Addr) (hst:St 0 s) (hSf:S∉fp) (hI:I∈fp)
  (hS:s.heap.get? S=some { cls:=.type "list",data:=.seq #[] })
  (hR:∀ s' acc' c',Moved (S::wr) G s s'->s'.heap.get? S=some { cls:=.type "list",dict:=none,data:=.seq acc' c',slots:=#[] }->ItemsOf P acc' n->R (.ok (.ret .none)) s') (hn:n<=sizeLine) :
  wpAny (model prog w) A.in1 (Builtin.«list.__init__» ⟨[.ref S,.ref I],[]⟩)
   (fun fin s'=>match fin with | .done f=>R (.ok f) s' | .again c'=>c'.quiet=true/\codeAny (model prog w) A c' R s') (fun e s'=>R (.error e) s') s:=by
 show wpAny _ A.in1 (do let old ← Builtin.List.listItems (.ref S);Builtin.List.listUpdate (.ref S) (fun _=>#[]);letGo old.toList.reverse;Builtin.List.listExtendWith (.ref S) (.ref I) .none) _ _ s;refine wpAny_bind ?_;unfold Builtin.List.listItems;refine wpAny_bind (wpAny_seqItems hS rfl (wpAny_pure ?_));show wpAny _ A.in1 (updateSeq S (fun _=>#[]) >>= fun _=>letGo (#[]:Array Value).toList.reverse >>= fun _=>Builtin.List.listExtendWith (.ref S) (.ref I) .none) _ _ s;refine wpAny_bind (wpAny_updateSeq hS rfl ?_);have hS₂:=get?_update_self (Obj.mapSeq (fun _=>(#[]:Array Value))) hS rfl;have oth:∀ b o,b≠S->s.heap.get? b=some o->(s.heap.update S (Obj.mapSeq (fun _=>(#[]:Array Value)))).get? b=some o :=
  fun b o hb e=>(get?_update_other _ _ (Ne.symm hb)).trans e
 refine wpAny_bind (wpAny_letGo ?_);refine Hb (hn:=hn) W hT hTm hh S .none _ (W.frame 0 s _ s.toks hst (le_refl _) fun b hb o e=>oth b o (fun h=>hSf (h▸hb)) e) hSf hI hS₂ fun s' acc' c' hm hS' hacc=>?_
 exact hR s' acc' c' (Moved.trans W.gtrans ((Moved.refl W.grefl).then_heap (le_refl _) fun b o hb e=>oth b o (fun h=>hb (h▸mem_cons_self)) e) hm) hS' hacc
end
section
variable {prog:Program} {w:World} {A:Around} {E:Value->Shared->Prop} {s:Shared}
variable {I:Addr} {fp wr:List Addr} {n:Nat} {P:Nat->Value->Prop} {St:Nat->Shared->Prop}
theorem Om {T:String} {Q:Value->Shared->Prop} (W:WalksS prog w A.in1.in1 I fp wr (fun a b=>b=a) n P St) (hT:∀ i s,St i s->s.TypeIs (.ref I) T) (hTm:T="range_iterator" \/ T="list_reverseiterator") (hh:Oe prog w A.in1.in1 I St) (hst:St 0 s) (hfp:∀ b∈fp,b<s.heap.objs.size) (hI:I∈fp)
  (hQ:∀ h' tk acc' c',(∀ b o,b∉wr->s.heap.get? b=some o->h'.get? b=some o)->h'.get? s.heap.objs.size=some { cls:=.type "list",dict:=none,data:=.seq acc' c',slots:=#[] }->ItemsOf P acc' n->Q (.ref s.heap.objs.size) { s with heap:=h',toks:=tk }) (hn:n<=sizeLine) :
  wpAny (model prog w) A (call (.type "list") [.ref I]) Q E s:=by
 have hSf:s.heap.objs.size∉fp:=fun hm=>lt_irrefl _ (hfp _ hm)
 refine callType_codes (Q₁:=fun obj s₁=>obj=.ref s.heap.objs.size/\s₁={ s with heap:=s.heap.push { cls:=.type "list",data:=.seq #[] } }) F.called_list (F.typeCall_list_1 _) F.entry_list_init
  (code_list_new _ ⟨rfl,rfl⟩) fun obj s₁ h₁=>?_
 obtain ⟨rfl,rfl⟩:=h₁;have hS:(s.heap.push { cls:=.type "list",data:=.seq #[] }).get? s.heap.objs.size=some { cls:=.type "list",data:=.seq #[] }:=get?_push_size _ rfl;refine ⟨⟨_,hS,rfl⟩,F.args_list_init_2 _ _,D8 (hn:=hn) W hT hTm hh _ (W.frame 0 s _ s.toks hst (le_refl _) fun b _ o e=>get?_push_of_some _ e) hSf hI hS fun s' acc' c' hm hS' hacc=>?_⟩;refine ⟨rfl,?_⟩;rw [Moved.eq_with hm];refine hQ s'.heap s'.toks acc' c' (fun b o hb e=>hm.heap b o (fun hmem=>?_) (get?_push_of_some _ e)) hS' hacc;rcases mem_cons.mp hmem with e' | hmem
 ·exact absurd (lt_size e) (by rw [e'];exact lt_irrefl _)
 ·exact hb hmem
end
section
variable {prog:Program} {w:World} {A:Around}
theorem Z2u (it:Addr) (St:Nat->Shared->Prop) (hT:∀ s,St 0 s->s.TypeIs (.ref it) "list_reverseiterator"):Oe prog w A it St:=fun s Q E hst hQ=>by
 unfold Builtin.List.listLengthHint;refine wpAny_bind (wpAny_specialOf (hT s hst) F.nolen_lr ?_);show wpAny _ _ (specialOf (Value.ref it) (Str.ofString "__length_hint__") >>= _) _ _ _;refine wpAny_bind (wpAny_specialOf (hT s hst) F.hint_lr ?_)
 (generalize hid:("list_reverseiterator.__length_hint__" : String)=id0;(fail_if_success (clear hid id0));wp_delta;rw [show splitId id0=some ("list_reverseiterator","__length_hint__") from by subst hid;decide +kernel];subst hid)
 refine wpAny_bind (wpAny_isInstance (b:=true) (hT s hst) (by rw [isSubtype_type];kernel_rfl) ?_);exact wpAny_pure (hQ s.toks (le_refl _))
end
section
variable {prog:Program} {w:World} {A:Around} {E:Value->Shared->Prop} {s:Shared}
theorem Mt {it l h:Addr} {oh:Obj} {vh:Array Value} {Q:Option Value->Shared->Prop} (hh:A.handled=some (.ref h)) (hoh:s.heap.get? h=some oh) (hdh:oh.data=.fields vh) (hc2:vh[2]?=some .none) (hit:s.heap.IsRevIter it l (-1))
   (hQ:∀ h',ExtBut it s.heap h'->Q none { s with heap:=h' }):wpAny (model prog w) A (pyNext (.ref it)) Q E s:=by
 obtain ⟨o,ho,hc,hd⟩:=id hit;unfold pyNext;refine wpAny_bind (wpAny_attempt (wpAny_callSpecial?_slot (name:=Str.ofString "__next__") hit.typeIs F.slot_lri_next
   (wpAny_call_entry F.slot_lri_next hit.typeIs F.entry_lri_next ?_ (F.args_lri_next_1 _))))
 unfold Builtin.«list_reverseiterator.__next__»;refine wpAny_bind (wpAny_of_eq (a:=(Value.ref it,[])) rfl ?_);try dsimp only
 refine wpAny_bind (wpAny_field ho hd (x:=rawInt (-1)) rfl ?_);show wpAny _ _ (if (-1:Int)<0 then _ else _) _ _ s;rw [if_pos (by decide)];refine wpAny_bind (wpAny_rule ?_);first
 | show wpAny _ _ (newExc (.type "StopIteration") [] >>= _) _ _ _
 | (refine wpAny_bind ?_;show wpAny _ _ (newExc (.type "StopIteration") [] >>= _) _ _ _)
 refine wpAny_bind ?_;simp only [newExc,newTuple];refine wpAny_bind (wpAny_newObj_type ?_ (by size_fits));refine wpAny_bind (m:=firstArgMember _ _) (wpAny_of_eq (a:=Value.none) (by first | rfl | (simp only [firstArgMember];rfl)) ?_);refine wpAny_newObj_type ?_ (by size_fits);have hlt:=lt_size hoh;refine L2.Ou (A:=A.in1) (h:=h) hh ?_ (get?_push_size _ rfl) rfl (by simp;lia) (get?_push_of_some _ (get?_push_of_some _ hoh)) hdh hc2 ?_
 · intro z
   rw [z] at hlt;exact absurd hlt (not_lt.mpr (by first | (rw [size_push];exact le_succ _) | (show _<=(Heap.push _ _).objs.size;rw [size_push];exact le_succ _)))
 refine wpAny_bind (wpAny_isInstance (T:="StopIteration") (b:=true) ⟨_,get?_update_self _ (get?_push_size _ rfl) rfl,rfl⟩ isSubtype_stop ?_);refine wpAny_pure (hQ _ fun b ob hb eo=>?_);have hb2:=lt_size eo;refine (get?_update_other _ _ ?_).trans (get?_push_of_some _ (get?_push_of_some _ eo));intro z;rw [← z] at hb2;exact absurd hb2 (not_lt.mpr (by first | (rw [size_push];exact le_succ _) | (show _<=(Heap.push _ _).objs.size;rw [size_push];exact le_succ _)))
end
theorem Walks.listRevH {prog:Program} {w:World} {A:Around} (hs:List (Addr×Obj)) (hh:A.handled=none\/∃ p∈hs,A.handled=some (.ref p.1)/\∃ ve,p.2.data=.fields ve/\ve[2]?=some .none) (I l:Addr) (hne:l≠I) (hn:∀ p∈hs,p.1≠I) (items:Array Value) :
  Walks prog w A I (I::l::hs.map (·.1)) [I] items.size (fun i v=>items[items.size - 1 - i]?=some v) (fun i h=>i<=items.size/\h.IsRevIter I l ((items.size:Int) - 1 - (i:Int))/\h.IsList l items/\∀ p∈hs,h.get? p.1=some p.2) where
 sub:=fun b hb=>by simp at hb;simp [hb]
 frame:=fun _ _ _ x hk=>⟨x.1,x.2.1.at fun o e=>hk I (by simp) o e,x.2.2.1.at fun o e=>hk l (by simp) o e,fun p hp=>hk p.1 (mem_cons_of_mem _ (mem_cons_of_mem _ (mem_map_of_mem hp))) p.2 (x.2.2.2 p hp)⟩
 item:=fun i s Q E hi x hQ=>by
  have e:(items.size:Int) - 1 - (i:Int)=((items.size - 1 - i:Nat):Int):=by lia
  have hit:=x.2.1;rw [e] at hit;have hx:items[items.size - 1 - i]?=some (items[items.size - 1 - i]'(by lia)):=Array.getElem?_eq_getElem (by lia);refine wpAny_pyNext_rev_item hit x.2.2.1 hx fun h' hit' hs'=>?_
  have e2:((items.size - 1 - i:Nat):Int) - 1=(items.size:Int) - 1 - ((i+1:Nat):Int):=by lia
  rw [e2] at hit';exact hQ _ h' s.toks hx ⟨hi,hit',x.2.2.1.at fun o eo=>(hs'.2 l hne).trans eo,fun p hp=>(hs'.2 p.1 (hn p hp)).trans (x.2.2.2 p hp)⟩ fun b o hb eo=>hs'.extBut b o (fun h=>hb (by simp [h])) eo
 done:=fun s Q E x hQ=>by
  have e:(items.size:Int) - 1 - (items.size:Int) = -1:=by lia
  have hit:=x.2.1;rw [e] at hit;rcases hh with hh | ⟨p,hp,hh,ve,h1,h2⟩
  ·exact wpAny_pyNext_rev_end hh hit fun h' he'=>hQ h' s.toks fun b o hb eo=>he' b o (fun h=>hb (by simp [h])) eo
  ·exact Mt hh (x.2.2.2 p hp) h1 h2 hit fun h' he'=>hQ h' s.toks fun b o hb eo=>he' b o (fun h=>hb (by simp [h])) eo
 self:=fun _ _ _ _ x hQ=>wpAny_pyIter_revIter x.2.1 hQ
end PySem
namespace L2
open PySem PySem.Spec PyProof.Rows
section
variable {X:Cx} {m:Bool} {e:Expr} {f:Ev->Option Dat} {fs:Ev->Option (List Dat)}
theorem Rn (h:Heap) (o:Obj):(h.push o).objs.size=h.objs.size+1:=by cases h;exact Array.size_push ..
def dLR (fs:Ev->Option (List Dat)):Ev->Option (List Dat):=fun env=>match fs env with
 | some [.lst xs]=>some xs.reverse
 | _=>none
theorem Y3.rev:∀ {xs:List V} {us:List Value},Y3 xs us->Y3 xs.reverse us.reverse
 | [],[],_=>.nil
 | x::xs,u::us,.cons h r=>by rw [reverse_cons,reverse_cons];exact (Y3.rev r).append (.cons h .nil)
theorem Z0u {p1 p2 q1 q2:Pos} (hgL:Gl X "list") (hmL:X.mg "list" = none) (hgR:Gl X "reversed") (hmR:X.mg "reversed" = none) (ha:Lb true X [e] fs) (hc:HdN X:=by first | exact HdN.calm rfl | assumption)
  (hvL:bootBuiltins "list" = some (.type "list"):=by decide +kernel) (hvR:bootBuiltins "reversed" = some (.type "reversed"):=by decide +kernel)
  (hs1:starEach [.Call (.Name "reversed" p2) [e] [] q2] X.env=[(false,eval (.Call (.Name "reversed" p2) [e] [] q2) X.env)]:=by rfl)
  (hs3:starEach [e] X.env=[(false,eval e X.env)]:=by rfl) :
  PNd X (.Call (.Name "list" p1) [.Call (.Name "reversed" p2) [e] [] q2] [] q1) (dLR fs):=by
 intro pins s σ H Q I ⟨env,R,A,ds,k,e1,q⟩;unfold dLR at e1;split at e1
 case h_2=>cases e1
 rename_i xs en;cases e1;refine Call_ (R4 I hgL hmL hvL (callWith_type1 ?_ hs1 rfl));rw [hs1];refine Calls.spliced_cons ?_;refine Call_ (R4 I hgR hmR hvR (callWith_type1 (Wu (ha q2 pins s σ H (fun vs H1=>∃ v,Zo H H1/\vs=[v]/\Pk X.K A H1 (.lst xs) v) I ⟨env,R,A,[.lst xs],k,en,fun vs H1 s1 r1=>?_⟩) fun us s1 ⟨vs,H1,I1,r1,v,sm,ev,pv⟩=>?_) hs3 rfl))
 ·obtain ⟨v,e3,p1⟩:=r1.one
  exact ⟨v,s1,e3,p1⟩
 subst ev;obtain ⟨a,ys,ea,h1,r2⟩:=pv.lst;subst ea;obtain ⟨u,rfl,ru⟩:=Qy r1;cases ru;obtain ⟨its,rv0,pl,hz⟩:=I1.list h1.sq;refine call_reversed_list pl.isList ?_;refine Calls.spliced_nil ?_;have hlt:=I1.hok;obtain ⟨oa,hoa,_⟩:=id pl.isList;have hne:a≠s1.heap.objs.size:=ne_of_lt (lt_size hoa);obtain ⟨hs,hsh,hsg⟩:∃ hs:List (Addr×Obj),(X.A.in1.in1.handled=none\/∃ p∈hs,X.A.in1.in1.handled=some (.ref p.1)/\∃ ve,p.2.data=.fields ve/\ve[2]?=some .none)/\∀ p∈hs,s1.heap.get? p.1=some p.2:=by
  rcases hc _ _ _ _ I1 with z | ⟨eh,oh,vh,z1,z2,z3,z4⟩
  ·exact ⟨[],.inl z,fun p hp=>by cases hp⟩
  ·exact ⟨[(eh,oh)],.inr ⟨_,mem_singleton.mpr rfl,z1,vh,z3,z4⟩,fun p hp=>by rw [mem_singleton.mp hp];exact z2⟩
 have hsn:∀ p∈hs,p.1≠s1.heap.objs.size:=fun p hp=>ne_of_lt (lt_size (hsg p hp))
 have W:=(Walks.listRevH (prog:=X.prog) (w:=X.w) (A:=X.A.in1.in1) hs hsh s1.heap.objs.size a hne hsn its.toArray).toS;have hlen:=rv0.length;refine Om W (T:="list_reverseiterator") (fun i s st=>st.2.1.typeIs) (.inr rfl) (Z2u _ _ fun s st=>st.2.1.typeIs) ⟨zero_le _,?_,pl.isList.at fun o eo=>get?_push_of_some _ eo,fun p hp=>get?_push_of_some _ (hsg p hp)⟩ ?_ (by simp) ?_ ?_
 ·refine ⟨_,get?_push_size _ rfl,rfl,?_⟩
  simp [revObj]
 ·intro b hb
  rcases mem_cons.mp hb with rfl | hb
  ·rw [Rn];exact Nat.lt_succ_self _
  ·rcases mem_cons.mp hb with rfl | hb
   ·exact lt_of_lt_of_le (lt_size hoa) (by rw [Rn];lia)
   ·obtain ⟨p,hp,rfl⟩:=mem_map.mp hb
    exact lt_of_lt_of_le (lt_size (hsg p hp)) (by rw [Rn];lia)
 ·intro h' tk acc' c' hk hl hi
  have kp:∀ b o,s1.heap.get? b=some o->h'.get? b=some o:=fun b o eb=>hk b o (fun hm=>by
   have hlt:=lt_size eb;rw [mem_singleton.mp hm] at hlt;exact lt_irrefl _ hlt) (get?_push_of_some _ eb)
  have eacc:acc'.toList=its.reverse:=by
   apply List.ext_getElem?;intro i;by_cases hi':i<its.length
   ·have hia:i<acc'.size:=by rw [hi.1];simpa using hi'
    have:=hi.2 i acc'[i] (by simp [hia]);rw [Array.getElem?_toList,Array.getElem?_eq_getElem hia,List.getElem?_reverse hi'];simpa using this.symm
   ·rw [getElem?_eq_none (l:=acc'.toList) (by rw [Array.length_toList,hi.1];simpa using hi'),getElem?_eq_none (l:=its.reverse) (by rw [List.length_reverse];exact Nat.le_of_not_lt hi')]
  generalize hS:({ heap:=s1.heap.push (revObj a ((its.toArray.size:Int) - 1)),gens:=s1.gens,drawn:=s1.drawn,toks:=s1.toks,os:=s1.os }:Shared).heap.objs.size=S at hl ⊢;have hSz:s1.heap.objs.size<=S:=by
   rw [← hS];show _<=(Heap.push _ _).objs.size;rw [Rn];exact le_succ _
  have I2:Inv X pins σ (W4 H1 S (.lst ys.reverse)) { s1 with heap:=h',toks:=tk }:=I1.laid kp hSz (show Yy X.prog X.w _ h' _ (.lst ys.reverse) from ⟨by rw [List.length_reverse];exact hz,acc'.toList,c',by rw [eacc];exact rv0.rev,by rw [Array.toArray_toList];exact hl⟩);exact ⟨.ref S,_,I2,rfl,(q.mono sm).at (vs:=ys.reverse) (by rw [List.length_reverse,← Zy r2];exact hz) (Z5r r2) _ (I1.hok.fresh hSz)⟩
 ·rw [size_toArray,← hlen];exact hz
def Z8o:Dat->Dat->Option Dat
 | .str x,.int k=>if 1<=k/\k<=1000/\x.length<=1000 then some (.str (Txt.mul x k)) else none
 | _,_=>none
theorem Xt {α:Type} (x:Array α) (c:α):∀ (n:Nat) (acc:Array α),c∈(List.replicate n x).foldl (·++·) acc->c∈acc\/c∈x
 | 0,acc,h=>.inl h
 | n+1,acc,h=>by
  rw [List.replicate_succ,List.foldl_cons] at h;rcases Xt x c n _ h with h | h
  ·rcases Array.mem_append.mp h with h | h
   ·exact .inl h
   ·exact .inr h
  ·exact .inr h
theorem Cv {x:Str} {k:Int} (h:PyData.strOk x=true):PyData.strOk (Txt.mul x k)=true:=by
 unfold Txt.mul;split
 ·unfold PyData.strOk Str.empty;simp
 ·split
  ·exact h
  ·unfold PyData.strOk at h ⊢
   rw [Array.all_eq_true'] at h ⊢;intro c hc;rcases Xt x.cps c _ _ hc with z | z
   ·simp at z
   ·exact h c z
theorem Z9b:Ms X (binaryOp .Mult) Z8o:=fun pins s σ H x y v u Q I rx ry zz=>by
 obtain ⟨A,a,b,d,mu,e,p1,p2,q⟩:=zz;unfold Z8o at e;split at e
 ·rename_i z k
  split at e
  ·rename_i hz
   cases e;obtain ⟨e1,k1⟩:=p1.str;have e2:=p2.int;subst e1 e2;obtain ⟨t,rfl⟩:=rx;obtain ⟨t',rfl⟩:=ry;have hl:(Txt.mul z k).length<=1000*1000:=len_mul_leN hz.2.2 hz.2.1;refine SB.mul (mulOk_of 1000 1000 hz.2.2 hz.2.1 (by lia) (by decide) (by decide)) fun t' k'=>⟨.str (Txt.mul z k),H,I.tok _,⟨_,rfl⟩,q.here (G6 (SOk.of (Cv k1.ok) (le_trans hl (by decide))))⟩
  ·cases e
 ·cases e
def Jn:Dat->Dat->Option Dat
 | .int i,.int j=>Zc4 (.int i) (.int j)
 | .str x,.int k=>Z8o (.str x) (.int k)
 | _,_=>none
theorem T5:Ms X (binaryOp .Mult) Jn:=Ms.or Z97 Z9b fun x y d e=>by
 unfold Jn at e;split at e
 ·exact .inl e
 ·exact .inr e
 ·cases e
end
end L2
namespace L2
open PySem
section
variable {prog:Program} {w:World} {A:Around} {E:Value->Shared->Prop} {h:Heap} {g:Array GenState} {d:Drawn} {t:Nat} {os:OsState}
variable {nm q:Str} {C N:Addr} {bs bm bmB:List Value} {hdct:Bool} {sn:List Str} {sub:List Value} {ab:Bool} {col:Option Bool} {dd:Option Addr} {k0 k1 k2 k3 k5:Option Value} {newId nid:String}
theorem Lc (T:OwnTail h [.type "ValueError",.type "Exception",.type "BaseException",.type "object"] bm) {e t0:Addr} {x:Value} {dct:Option Addr} {Q:Value->Shared->Prop}
  (hC:h.get? C=some (excClassObj nm q C N bs bm hdct sn sub ab col dd k0 k1 k2 k3 k5 newId)) (he:h.get? e=some { cls:=.ref C,dict:=dct,data:=.fields #[.ref t0,.none,.none,.none,.bool false,.none] })
  (hq:∀ h',h'.get? e=some { cls:=.ref C,dict:=dct,data:=.fields #[.ref h.objs.size,.none,.none,.none,.bool false,.none] }->(∀ b o,b≠e->h.get? b=some o->h'.get? b=some o)->h.objs.size<=h'.objs.size->Q .none ⟨h',g,d,t,os⟩) :
  wpAny (model prog w) A (call (.builtin "ValueError.__init__") [.ref e,x]) Q E ⟨h,g,d,t,os⟩:=by
 have F:=PySem.F.excBase_ValueError;refine wpAny_call (codeAny_call_builtin F.init.plain F.initEntry (wpAny_check_init_subU F T hC he rfl ?_));have he2:=get?_push_of_some { cls:=.type "tuple",data:=.seq #[x] } he
 wp_walk
 refine hq _ ?_ ?_ ?_
 ·rw [get?_update_self _ he2 rfl]
  rfl
 ·intro b o hb hbo
  rw [get?_update_other _ _ (Ne.symm hb)];exact get?_push_of_some _ hbo
 ·rw [Heap.size_after_update,size_push];exact le_succ _
end
end L2
namespace L2
open PySem PySem.Spec PyProof.Rows PySem.W
open PySem.Builtin PySem.Builtin.ObjectAttr
def Q8:List Value:=[.type "ValueError",.type "Exception",.type "BaseException",.type "object"]
section
variable {prog:Program} {w:World} {A:Around} {E:Value->Shared->Prop} {s:Shared} {K:Frag} {x C a b:Addr} {cd:ClassData} {R:Result->Shared->Prop} {v:Value} {name:Str}
theorem Zcu {ox:Obj} {od:Option Obj} {tk:Tok} (X:K.In s.heap) (I:InstAt s.heap x ox C od) (hc:clsIn K C=some cd) (hm:cd.mro=.ref a::.ref b::Q8) (ha:findIn K (.ref C) name=some none)
  (h:wpAny (model prog w) A.in1 (storeInOwnDict (.ref x) (.ref C) (.str name tk) name v false)
   (fun fin s'=>match fin with | .done f=>R (.ok f) s' | .again c'=>c'.quiet=true/\codeAny (model prog w) A c' R s') (fun e s'=>R (.error e) s') s) :
  codeAny (model prog w) A (.call (.builtin "object.__setattr__") ⟨[.ref x,.str name tk,v],[]⟩) R s:=by
 have SF:=PySem.F.store_object;have sub:Looks (model prog w) s.heap (isInstance (.ref x) (.type "object")) true:=I.type.andThen (looks_mroIn X (by unfold mroIn;rw [hc,Option.bind_some,hm];rfl));refine codeAny_call_builtin SF.slot.plain SF.entry (@check_slot (model prog w) _ _ s "object.__setattr__" "object" "__setattr__" (.ref x) [.str name tk,v] [] _ SF.kind SF.split sub (SF.args (.ref x) (.str name tk) v) ?_);have hmr:Looks (model prog w) s.heap (mroOf (.ref C)) cd.mro:=(looks_clsIn X hc).andThen .now;rw [osa_eq,refuse_eq];refine wpAny_bind (wpAny_bind (I.type.here (wpAny_bind (hmr.here ?_))));rw [hm,refuseLoop_ref,refuseLoop_ref,show Q8=[.type "ValueError",.type "Exception",.type "BaseException",.type "object"] from rfl,PySem.F.store_ValueError.passes];refine wpAny_pure (wpAny_bind (I.type.here (wpAny_bind ((looks_findIn X ha).here (wpAny_bind ?_)))));exact wpAny_pure h
end
section
variable {prog:Program} {w:World} {A:Around} {E:Value->Shared->Prop} {h:Heap} {g:Array GenState} {d:Drawn} {t:Nat} {os:OsState} {x C:Addr} {v:Value} {name:Str} {oC:Obj} {cd:ClassData}
theorem Cq {o:Obj} {tk:Tok} {Q:Fin->Shared->Prop} (hx:h.get? x=some o) (hc:o.cls=.ref C) (hnc:∀ c,o.data≠.cls c) (hdn:o.dict=none) (hC:h.get? C=some oC) (hcd:oC.data=.cls cd) (hhd:cd.hasDict=true)
   (hq:∀ h' tk',h'.get? x=some { cls:=o.cls,dict:=some h.objs.size,data:=o.data,slots:=o.slots }->h'.Ns1 h.objs.size (fun y=>if y=name then some v else none)->(∀ b ob,b≠x->h.get? b=some ob->h'.get? b=some ob)->h.objs.size<h'.objs.size->Q (.done (.ret .none)) ⟨h',g,d,tk',os⟩) :
   wpAny (model prog w) A (storeInOwnDict (.ref x) (.ref C) (.str name tk) name v false) Q E ⟨h,g,d,t,os⟩:=by
 unfold storeInOwnDict;repeat (first | (with_reducible refine wpAny_loadPart_at hx ?_;rw [hc]) | with_reducible refine wpAny_loadPart_at hC ?_ | wp_step)
 rw [hcd];refine wpAny_pure ?_;rw [hhd,if_neg (by decide),hdn];show wpAny _ _ (if (!true||!typeHasDict (Value.ref C))=true then pure none else _) _ _ _;rw [if_neg (by simp [typeHasDict])];have hx₁:(h.push { cls:=.type "dict",data:=.dict #[] }).get? x=some o:=get?_push_of_some _ hx;have hxs:x≠h.objs.size:=ne_of_lt (lt_size hx);split
 · rename_i c hcd'
   exact absurd hcd' (hnc c)
 · refine wpAny_bind (wpAny_alloc' ?_)
   refine wpAny_bind (wpAny_update' hx₁ ?_);refine wpAny_pure ?_;have hgd:((h.push { cls:=.type "dict",data:=.dict #[] }).update x fun o=>{ cls:=o.cls,dict:=some h.objs.size,data:=o.data,slots:=o.slots }).get? h.objs.size
       = some { cls:=.type "dict",data:=.dict #[] } :=
     (Heap.get?_update_ne _ _ _ _ hxs.symm).trans (Heap.get?_push_at rfl rfl)
   have hnd:((h.push { cls:=.type "dict",data:=.dict #[] }).update x fun o=>{ cls:=o.cls,dict:=some h.objs.size,data:=o.data,slots:=o.slots }).Ns h.objs.size (fun _=>none) :=
     ⟨_,#[],_,hgd,rfl,fun e he=>absurd he (by simp),fun _=>rfl⟩
   show wpAny _ _ (storeInDict h.objs.size (.str name tk) name v) _ _ _;unfold storeInDict newKeyGuard;refine wpAny_bind (wpAny_pure (wpAny_bind (wpAny_nsSet1 (Heap.Ns1.of_empty hnd) fun h' hn' hs=>?_)));obtain ⟨oD,esD,epD,hoD,hdD,hcD⟩:=hn'.count (Within.cons name v Within.nil);refine wpAny_bind (wpAny_lookBehind hoD (by rw [hdD];exact pastItsLine_dict (le_trans hcD (by rw [length_cons,List.length_nil,sizeLine_eq];lia))) ?_)
   wp_walk
   have hx':h'.get? x=some { cls:=o.cls,dict:=some h.objs.size,data:=o.data,slots:=o.slots }:=by
     refine (hs.2 x hxs).trans (get?_update_self _ hx₁ ?_);have hfr:=(Heap.get?_some_iff.mp hx).2;obtain ⟨oc,od,odt,osl⟩:=o;cases odt<;>first | rfl | exact hfr
   refine hq h' _ hx' hn' (fun b ob hbx hb=>?_) ?_
   · exact (hs.2 b (ne_of_lt (lt_size hb))).trans ((Heap.get?_update_ne _ _ _ _ hbx).trans (get?_push_of_some _ hb))
   · have h1:=hs.1
     rw [Heap.size_after_update,size_push] at h1;lia
end
open PySem.Builtin PySem.Builtin.ObjectAttr
section
variable {prog:Program} {w:World} {A:Around} {E:Value->Shared->Prop} {h:Heap} {g:Array GenState} {d:Drawn} {t:Nat} {os:OsState} {x C dx:Addr} {v:Value} {name:Str} {oC o:Obj} {cd:ClassData} {K:Frag} {mA:Str->Option Value}
theorem Fk {tk:Tok} {Q:Fin->Shared->Prop} (X:K.In h) (hx:h.get? x=some o) (hc:o.cls=.ref C) (hnc:∀ c,o.data≠.cls c) (hdx:o.dict=some dx) (hns:h.Ns1 dx mA) (hv:mA name=some v)
   (hf:findIn K (.ref C) name=some none) (hC:h.get? C=some oC) (hcd:oC.data=.cls cd) (hhd:cd.hasDict=true) (hq:Q (.done (.ret v)) ⟨h,g,d,t,os⟩) :
   wpAny (model prog w) A (Builtin.«object.__getattribute__» ⟨[.ref x,.str name tk],[]⟩) Q E ⟨h,g,d,t,os⟩:=by
 have L1:=looks_findIn (M:=model prog w) X hf;unfold Builtin.«object.__getattribute__»;repeat (first | (with_reducible refine wpAny_loadPart_at hx ?_;rw [hc]) | with_reducible refine L1.at ?_ | wp_step)
 split
 · rename_i c hcd'
   exact absurd hcd' (hnc c)
 unfold instanceDict;repeat (first | (with_reducible refine wpAny_loadPart_at hx ?_;rw [hc]) | with_reducible refine wpAny_loadPart_at hC ?_ | wp_step)
 rw [hcd];refine wpAny_pure ?_;rw [hhd,if_neg (by decide),hdx];refine wpAny_pure ?_;unfold inDict;repeat (first | (with_reducible refine wpAny_nsGet hns.ns ?_;rw [hv]) | wp_step)
 exact hq
theorem Z00 {tk:Tok} {R:Result->Shared->Prop} (X:K.In h) (hx:h.get? x=some o) (hc:o.cls=.ref C) (hnc:∀ c,o.data≠.cls c) (hdx:o.dict=some dx) (hns:h.Ns1 dx mA) (hv:mA name=some v)
  (hf:findIn K (.ref C) name=some none) (hC:h.get? C=some oC) (hcd:oC.data=.cls cd) (hhd:cd.hasDict=true) (hsub:Looks (model prog w) h (isInstance (.ref x) (.type "BaseException")) true) (hq:R (.ok (.ret v)) ⟨h,g,d,t,os⟩) :
  codeAny (model prog w) A (.call (.builtin "BaseException.__getattribute__") ⟨[.ref x,.str name tk],[]⟩) R ⟨h,g,d,t,os⟩:=by
 have hk:builtinKind "BaseException.__getattribute__" = some .slot:=by decide +kernel
 have hsplit:splitId "BaseException.__getattribute__" = some ("BaseException","__getattribute__"):=by decide +kernel
 refine codeAny_call_builtin PySem.F.excAttr_ValueError.ga.plain PySem.F.entry_bexc_ga (@check_slot (model prog w) _ _ ⟨h,g,d,t,os⟩ "BaseException.__getattribute__" "BaseException" "__getattribute__" (.ref x) [.str name tk] [] _ hk hsplit hsub (PySem.F.args_bexc_ga (.ref x) (.str name tk)) ?_);exact Fk X hx hc hnc hdx hns hv hf hC hcd hhd hq
theorem Zdt {expr:Bool} {Q:Value->Shared->Prop} (X:K.In h) (hx:h.get? x=some o) (hc:o.cls=.ref C) (hnc:∀ c,o.data≠.cls c) (hdx:o.dict=some dx) (hns:h.Ns1 dx mA) (hv:mA name=some v)
   (hf:findIn K (.ref C) name=some none) (hC:h.get? C=some oC) (hcd:oC.data=.cls cd) (hhd:cd.hasDict=true) (hsub:Looks (model prog w) h (isInstance (.ref x) (.type "BaseException")) true)
   (hga:findIn K (.ref C) "__getattribute__" = some (some (.builtin "BaseException.__getattribute__"))) (hgh:findIn K (.ref C) "__getattr__" = some none) (hh:handedOut v=pure v) (hq:Q v ⟨h,g,d,t+1,os⟩) :
   wpAny (model prog w) A (getAttr (.ref x) name expr) Q E ⟨h,g,d,t,os⟩:=by
 have L1:=looks_findIn (M:=model prog w) X hga;have L2:=looks_findIn (M:=model prog w) X hgh;have f3:=PySem.F.excAttr_ValueError.ga.bind (.ref x);have hx0:(expr&&onTheHeap (Value.builtin "BaseException.__getattribute__"))=false:=by cases expr<;>rfl
 have hx2:(Value.builtin "BaseException.__getattribute__" == Value.builtin "object.__getattribute__")=false:=by decide +kernel
 have hx1:(onTheHeap (Value.ref C)&&Value.builtin "BaseException.__getattribute__" == Value.builtin "object.__getattribute__")=false:=by rw [hx2];rfl
 unfold getAttr;repeat (any_goals (first | assumption | (with_reducible refine wpAny_loadPart_at hx ?_;rw [hc]) | with_reducible refine L1.at ?_ | with_reducible refine L2.at ?_ | wp_step))
 refine Z00 X hx hc hnc hdx hns hv hf hC hcd hhd hsub ?_;show wpAny _ _ (handedOut v) _ _ _;rw [hh];exact wpAny_pure hq
end
open PySem.Builtin PySem.Builtin.ObjectAttr
section
variable {prog:Program} {w:World} {A:Around} {E:Value->Shared->Prop} {h:Heap} {g:Array GenState} {d:Drawn} {t:Nat} {os:OsState} {x C:Addr} {o:Obj} {K:Frag}
theorem Z2z {R:Result->Shared->Prop} (hx:h.get? x=some o) (hc:o.cls=.ref C) (hs:Looks (model prog w) h (isSubtype (.ref C) (.type "object")) true) (hq:R (.ok (.ret (.ref C))) ⟨h,g,d,t,os⟩) :
   codeAny (model prog w) A (.call (.builtin "getset_descriptor.__get__") ⟨[.builtin "object.__class__",.ref x,.ref C],[]⟩) R ⟨h,g,d,t,os⟩:=by
 have hT5:(⟨h,g,d,t,os⟩:Shared).TypeIs (.builtin "object.__class__") "getset_descriptor" := PySem.F.typeOf_object_class;have f8:Looks (model prog w) h (isSubtype (.ref C) (.type (".".intercalate ("object.__class__".cutAt '.').dropLast))) true:=by rw [PySem.F.owner_object_class];exact hs
 refine codeAny_call_builtin PySem.F.slot_gs_get.plain PySem.F.entry_gs_get (PySem.F.slot_gs_get.check _ _ _ _ _ _ _ _ hT5 (PySem.F.args_gs_get _ _ _) ?_);repeat (any_goals (first | assumption | (with_reducible refine wpAny_loadPart_at hx ?_;rw [hc]) | with_reducible refine f8.at ?_ | wp_step))
 refine ⟨Code.quiet_builtin _ (by decide +kernel),codeAny_builtin PySem.F.entry_object_class ?_⟩;repeat (any_goals (first | assumption | (with_reducible refine wpAny_loadPart_at hx ?_;rw [hc]) | wp_step))
theorem Fe {tk:Tok} {Q:Fin->Shared->Prop} (X:K.In h) (hx:h.get? x=some o) (hc:o.cls=.ref C) (ha:findIn K (.ref C) "__class__" = some (some (.builtin "object.__class__"))) (hs:Looks (model prog w) h (isSubtype (.ref C) (.type "object")) true) (hq:Q (.done (.ret (.ref C))) ⟨h,g,d,t,os⟩) :
   wpAny (model prog w) A (Builtin.«object.__getattribute__» ⟨[.ref x,.str "__class__" tk],[]⟩) Q E ⟨h,g,d,t,os⟩:=by
 have hT5:(⟨h,g,d,t,os⟩:Shared).TypeIs (.builtin "object.__class__") "getset_descriptor" := PySem.F.typeOf_object_class;have L1:=looks_findIn (M:=model prog w) X ha;have f5:=PySem.F.typeOf_object_class;have f6:=PySem.F.slot_gs_get.lookup;have f7:=PySem.F.slot_gs_set.lookup;repeat (any_goals (first | assumption | (with_reducible refine wpAny_loadPart_at hx ?_;rw [hc]) | with_reducible refine L1.at ?_ | wp_step))
 refine Z2z hx hc hs ?_;repeat (any_goals (first | assumption | wp_step))
theorem Z0g {Q:Option Value->Shared->Prop} (X:K.In h) (hx:h.get? x=some o) (hc:o.cls=.ref C) (ha:findIn K (.ref C) "__class__" = some (some (.builtin "object.__class__"))) (hs:Looks (model prog w) h (isSubtype (.ref C) (.type "object")) true)
   (hsub:Looks (model prog w) h (isInstance (.ref x) (.type "BaseException")) true) (hga:findIn K (.ref C) "__getattribute__" = some (some (.builtin "BaseException.__getattribute__"))) (hgh:findIn K (.ref C) "__getattr__" = some none) (hq:Q (some (.ref C)) ⟨h,g,d,t+1,os⟩) :
   wpAny (model prog w) A (getAttr? (.ref x) "__class__") Q E ⟨h,g,d,t,os⟩:=by
 have L1:=looks_findIn (M:=model prog w) X hga;have L2:=looks_findIn (M:=model prog w) X hgh;have f3:=PySem.F.excAttr_ValueError.ga.bind (.ref x);have hx2:(Value.builtin "BaseException.__getattribute__" == Value.builtin "object.__getattribute__")=false:=by decide +kernel
 have hx1:(onTheHeap (Value.ref C)&&Value.builtin "BaseException.__getattribute__" == Value.builtin "object.__getattribute__")=false:=by rw [hx2];rfl
 have hk:builtinKind "BaseException.__getattribute__" = some .slot:=by decide +kernel
 have hsplit:splitId "BaseException.__getattribute__" = some ("BaseException","__getattribute__"):=by decide +kernel
 unfold getAttr? getAttrBy?;repeat (any_goals (first | assumption | (with_reducible refine wpAny_loadPart_at hx ?_;rw [hc]) | with_reducible refine L1.at ?_ | with_reducible refine L2.at ?_ | wp_step))
 refine codeAny_call_builtin PySem.F.excAttr_ValueError.ga.plain PySem.F.entry_bexc_ga (@check_slot (model prog w) _ _ ⟨h,g,d,t+1,os⟩ "BaseException.__getattribute__" "BaseException" "__getattribute__" (.ref x) [.str "__class__" t] [] _ hk hsplit hsub (PySem.F.args_bexc_ga (.ref x) (.str "__class__" t)) ?_);refine Fe X hx hc ha hs ?_;repeat (any_goals (first | assumption | wp_step))
structure XCls (K:Frag) (C:Addr):Prop where
 cd:∃ cd,clsIn K C=some cd/\cd.hasDict=true/\∃ a b,cd.mro=.ref a::.ref b::Q8
 cl:findIn K (.ref C) "__class__" = some (some (.builtin "object.__class__"))
 ga:findIn K (.ref C) "__getattribute__" = some (some (.builtin "BaseException.__getattribute__"))
 gh:findIn K (.ref C) "__getattr__" = some none
 sa:findIn K (.ref C) "__setattr__" = some (some (.builtin "object.__setattr__"))
theorem XCls.sub (c:XCls K C) (X:K.In h) (T:String) (hT:Q8.contains (.type T)=true) {M:Model}:Looks M h (isSubtype (.ref C) (.type T)) true:=by
 obtain ⟨cd,hc,_,a,b,hm⟩:=c.cd;have hT2:Value.type T∈Q8:=by simpa using hT
 exact looks_mroIn X (by unfold mroIn;rw [hc,Option.bind_some,hm];simp [hT2])
theorem XCls.ld (c:XCls K C) (X:K.In h):∃ oC cd,h.get? C=some oC/\oC.data=.cls cd/\cd.hasDict=true:=by
 obtain ⟨cd,hc,hd,_⟩:=c.cd;unfold clsIn at hc;split at hc
 ·rename_i c' d' cd' sl' ho
  cases hc;exact ⟨_,_,X _ _ ho,rfl,hd⟩
 ·cases hc
def Zec (x C:Addr) (h:Heap):Prop:=∃ o,h.get? x=some o/\o.cls=.ref C
theorem Z2x (c:XCls K C):KitX K (.ref x) (.ref C) (Zec x C) where
 ty:=fun M h _ ⟨o,h1,h2⟩=>h2▸(Looks.ld h1).andThen .now
 it:=fun M h X _=>by
  obtain ⟨oC,cd,h1,h2,_⟩:=c.ld X;intro A' Q' E' s' k q;unfold isType loadHead;refine wpAny_bind (wpAny_loadPart (k _ _ h1) ?_);rw [h2];exact wpAny_pure q
 ne:=fun h tp dd its n sl X htp=>by
  obtain ⟨oC,cd,h1,h2,_⟩:=c.ld X;refine Bool.eq_false_iff.mpr fun q=>?_
  have e:C=tp:=Value.ref.inj (beq_iff_eq.mp q);subst e;rw [h1] at htp;cases htp;cases h2
 ca:=fun {prog w A E Q s} X p k=>by
  obtain ⟨o,h1,h2⟩:=p;obtain ⟨h,g,d,t,os⟩:=s;exact Z0g X h1 h2 c.cl (c.sub X "object" (by decide)) ((h2▸(Looks.ld h1).andThen .now:Looks _ _ (typeOf (.ref x)) (.ref C)).andThen (c.sub X "BaseException" (by decide))) c.ga c.gh k
end
end L2
namespace L2
open PySem PySem.Spec PyProof.Rows
theorem J7 {P:Program} {w:World} {l:List Env} {ch:List Addr} {H:Hp} {h h':Heap} (ok:Mp P w H h) (k:Hs l ch h h') (hc:∀ b∈ch,H b=none) (hf:∀ b∈Sk l,H b=none):Mp P w H h':=fun a o e=>by
 have key:∀ b u,H b≠none->h.get? b=some u->h'.get? b=some u:=fun b u n q=>(k b u q fun z=>n (hc b z)).1 fun z=>n (hf b z)
 exact (ok a o e).stay (fun b u z q=>key b u (by rcases z with z | z<;>simp_all) q) (fun _ q=>q) fun _ _ q=>q
theorem Em {l:List Env} {ch:List Addr} {H:Hp} {h h':Heap} (k:Hs l ch h h') (hc:∀ b∈ch,H b=none):Un (Sk l) ch H H h h' where
 keep:=fun b o q n hf hx=>(k b o q hx).1 hf
 slot:=fun b o q n hf hx=>(k b o q hx).2
 free:=fun b o q n hx=>n
 there:=fun b o q hx=>by obtain ⟨sl,z⟩:=(k b o q hx).2;exact ⟨_,z⟩
 tups:=fun b xs q=>q
 frzs:=fun b o u q=>q
 tbls:=fun b ps q=>⟨#[],by simpa using q⟩
def B9 (P:Program) (w:World) (base:Heap) (pl:Bool:=false):Lg:=fun outer H s E ev s'=>∃ e C dct T H' c2,ev=.ref e/\s'.os=s.os/\AllBare s'.gens/\Un (Sk outer) [] H H' s.heap s'.heap/\Mp P w H' s'.heap /\
 s.heap.objs.size<=e/\s.heap.objs.size<=T/\H' e=none/\H' T=none/\Ez s'.heap base e T (.ref C,c2) dct .none/\(pl=true->c2=some .none)/\Oa H H' dct/\E (.ref C) dct H'
theorem Inv.noBase {X:Cx} {pins:List (Addr×Obj)} {σ:St} {H:Hp} {s:Shared} (I:Inv X pins σ H s) {e:Addr} (h:X.s₀.heap.objs.size<=e):X.base.get? e=none:=by
 cases q:X.base.get? e with
 | none=>rfl
 | some o=>exact absurd (lt_size (I.ok.bs e o q).1) (not_lt.mpr h)
theorem Hx {P:Program} {w:World} {K:PySem.W.Frag} {mg:Str->Option Value} {base:Heap} {pl:Bool} {Y:Cx} {N:List Str} {qual:Str} {scope:Scope} {f:Addr} {cd:Value} {A:Around} {outer:List Env} {s:Shared} {H:Hp} {E:XK} {pins:List (Addr×Obj)} {σ:St} {H':Hp} {s':Shared} {e C:Addr} {dct:Option Addr}
  (I:Inv (Qd (B9 P w base pl) P w K mg base N qual scope f cd A outer s H E) pins σ H' s') (x:XSt Y pins H' s'.heap e C dct) (hY:Y={ Qd (B9 P w base pl) P w K mg base N qual scope f cd A outer s H E with pl:=pl }) (hnw:Oa H H' dct) (q:E (.ref C) dct H') :
  (Qd (B9 P w base pl) P w K mg base N qual scope f cd A outer s H E).xe (.ref e) s':=by
 subst hY;have hfr:(A.deeper (envOfC qual scope s.heap.objs.size f cd)).frames=some (envOfC qual scope s.heap.objs.size f cd::outer):=I.ok.frames;have hl:s'.heap.FunFrames base (envOfC qual scope s.heap.objs.size f cd::outer):=I.stack;have hkb:base.StaysIn s'.heap:=I.bk;have lo:s.heap.objs.size<=e:=x.lo;have hen:base.get? e=none:=I.noBase x.lo;have bs:Un (Sk outer) [] H H' s.heap s'.heap:=I.base;have hfree:∀ b∈Sk (envOfC qual scope s.heap.objs.size f cd::outer),H' b=none:=I.stkFree;have fin:∀ (h':Heap) (T':Addr) (c2:Option Value) (ch:List Addr),(pl=true->c2=some .none)->(∀ b∈ch,H' b=none/\s.heap.objs.size<=b)->s.heap.objs.size<=T'->H' T'=none->Ez h' base e T' (.ref C,c2) dct .none->Hs (envOfC qual scope s.heap.objs.size f cd::outer) ch s'.heap h' ->
   B9 P w base pl outer H s E (.ref e) { s' with heap:=h' }:=fun h' T' c2 ch hc2 hch hT hTn ht kp=>by
  have ncb:∀ {b:Addr} {o:Obj},s.heap.get? b=some o->b∉ch:=fun {b o} q z=>absurd (lt_size q) (not_lt.mpr (hch b z).2)
  have nfr:∀ {b:Addr} {o:Obj},s.heap.get? b=some o->b∉Sk outer->b∉Sk (envOfC qual scope s.heap.objs.size f cd::outer):=fun {b o} q n z=>by
   rcases mem_cons.mp (I.stkSub b z) with e1 | e1
   ·have:b=s.heap.objs.size:=e1
    exact absurd (lt_size q) (by rw [this];exact lt_irrefl _)
   ·exact n e1
  refine ⟨e,C,dct,T',H',c2,rfl,I.os,I.bare,⟨?_,?_,?_,?_,bs.tups,bs.frzs,bs.tbls⟩,J7 I.hok kp (fun b z=>(hch b z).1) hfree,lo,hT,x.un,hTn,ht,hc2,hnw,q⟩
  ·exact fun b o q n hf hx=>(kp b o (bs.keep b o q n hf hx) (ncb q)).1 (nfr q hf)
  ·intro b o q n hf hx
   obtain ⟨sl,z⟩:=bs.slot b o q n hf hx;obtain ⟨sl',z'⟩:=(kp b _ z (ncb q)).2;exact ⟨sl',z'⟩
  ·exact fun b o q n hx=>bs.free b o q n hx
  ·intro b o q hx
   obtain ⟨o',z⟩:=bs.there b o q hx;obtain ⟨sl,z'⟩:=(kp b o' z (ncb q)).2;exact ⟨_,z'⟩
 have sz:s.heap.objs.size<=s'.heap.objs.size:=I.sz;rcases x.ob with ⟨o,vs,he,hc,hd,hda,h1,hp⟩ | ⟨T,c2,hT,hTn,_,ht,hp⟩
 ·refine P7 hfr hl rfl he hkb hen hda h1 fun h' T' z0 z1 z2 z3 z4=>?_
  rw [hc,hd] at z3;exact fin h' T' _ [e] hp (fun b hb=>by rw [mem_singleton.mp hb];exact ⟨x.un,lo⟩) (le_trans sz z0) (I.hok.fresh z0) z3 z4
 ·refine Z8e hfr hl rfl ht hkb hen fun h' T' z0 z1 z2 z3 z4=>?_
  refine fin h' T' _ [e,T] hp (fun b hb=>?_) (le_trans sz z0) (I.hok.fresh z0) z3 z4;rcases mem_cons.mp hb with e1 | e1
  ·rw [e1];exact ⟨x.un,lo⟩
  ·rw [mem_singleton.mp e1];exact ⟨hTn,hT⟩
def Ar (K:PySem.W.Frag) (fr:Bool) (R:AS) (H:Hp) (Q:VK) (E:XK):Rs->Prop
 | .ok d=>∀ v H',Zo H H'->Rp K (av H' R) d v->(fr=true->NwT K ⟨H,R,true⟩ H' d v)->Q v H'
 | .exc c fs=>∀ C dct H',Zo H H'->W5 K c C->P9 K (av H' R) dct fs->E (.ref C) dct H'
 | .no=>False
def spX (K:PySem.W.Frag) (fr:Bool) (p:Nat) (F:List Dat->Rs):Sp:=fun vs H Q E=>vs.length=p/\∃ ds R,U4 R H/\Wg K (av H R) ds vs/\Ar K fr R H Q E (F ds)
structure CalX (P:Program) (w:World) (K:PySem.W.Frag) (mg:Str->Option Value) (base:Heap) (k:Nat) (x:Str) (ps:List Str) (fr:Bool) (F:List Dat->Rs) (pl:Bool:=false):Prop where
 ex:∃ f fd,FnOk P w K mg base (B9 P w base pl) k f fd ps (spX K fr ps.length F)/\mg x=some (.ref f)/\PySem.W.keepIn K (.ref f)=true/\J9 K fd ps []
 len:∀ ds,F ds≠.no->ds.length=ps.length
section
variable {P:Program} {w:World} {K:PySem.W.Frag} {mg:Str->Option Value} {base:Heap}
theorem Fun.okX {x qual:Str} {st:Stmt} {f:Addr} {fd:FuncData} {N ps:List Str} {k:Nat} {sp:Sp} {CX:Lg} (F:Fun K x qual st f fd) (S:FnScope N ps (Z8 st)) (len:∀ vs H Q E,sp vs H Q E->vs.length=ps.length)
  (hbody:∀ (cdv:Value) (A:Around) (outer:List Env) (s:Shared) (H:Hp) (vs:List V) (Q:VK) (E:XK),Room k (A.deeper (envOfC qual (Z8 st) s.heap.objs.size f cdv))->sp vs H Q E ->
   ∃ t,Sm (Qd CX P w K mg base N qual (Z8 st) f cdv A outer s H E) (Yf st) t/\t { nx:=fun _ H'=>Q .non H',rt:=Q } (start N vs) H):FnOk P w K mg base CX (k+1) f fd ps sp:=by
 obtain ⟨oc,od,kV,doc,pm,an,cdv,ct,osl,rfl,lk,hcd⟩:=F.ex;exact Z6y lk hcd S len fun A outer s H vs Q E hr hsp=>hbody cdv A outer s H vs Q E hr hsp
theorem Nc {n p:Nat} {g:Ev->Fl} {ds:List Dat} (h:Wd n p g ds≠.no):ds.length=p:=by
 unfold Wd at h;split at h
 ·assumption
 ·exact absurd rfl h
end
section
variable {X:Cx} {m fr fr':Bool} {F:List Dat->Rs} {k:Nat} {x:Str} {ps:List Str} {e:Expr} {es:List Expr} {fs:Ev->Option (List Dat)} {p pos:Pos}
def tXx (X:Cx) (fr:Bool) (F:List Dat->Rs) (fs:Ev->Option (List Dat)):TE:=fun σ H Q=>∃ env B A ds,EnvOk X.K B A H σ env/\fs env=some ds/\match F ds with
 | .ok d=>∀ v H',Zo H H'->Rp X.K (av H' A) d v->Q v H'
 | .exc c fl=>∀ A' H' σ',Step A H A' H'->EnvOk X.K B A' H' σ' env->σ'=σ->XW X B.H₀ A' H' σ' c fl
 | .no=>False
theorem Z7p {pl:Bool} (C:CalX X.prog X.w X.K X.mg X.base k x ps fr F pl) (hr:Room k X.A) (ha:Lb false X (e::es) fs) (hg:Gl X x:=by rfl)
  (hdb:(x==("__debug__" : Str))=false:=by decide) (he:starEach (e::es) X.env=(false,eval e X.env)::starEach es X.env:=by rfl) (hpl:(backTo pos (starEach es X.env)).any (·.1)=false:=by rfl) (hp:X.pl=true->pl=true:=by first | exact fun _=>rfl | exact fun z=>nomatch z) :
  PE X (.Call (.Name x p) (e::es) [] pos) (tXx X fr F fs):=by
 obtain ⟨f,fd,Ff,hm,hk,hb⟩:=C.ex;intro pins s σ H Q I ⟨env,B,A,ds,kk,e1,q⟩;refine wpAny_Call_Name_kw (U2 I hg hm ?_ hdb);refine PySem.W.callWith_K (h₀:=X.base) I.ok.mod.kin hk (Wu (ha pos pins s σ H (fun vs H1=>Zo H H1/\Wg X.K (av H1 A) ds vs) I ⟨env,B,A,ds,kk,e1,fun vs H1 s1 rs=>⟨s1,rs.rps⟩⟩) fun us s1 ⟨vs,H1,I1,r,sm,rs⟩=>⟨I1.kIn,?_⟩) he hpl;have hne:F ds≠.no:=fun z=>by rw [z] at q;exact q
 have hl:us.length=ps.length:=by rw [← r.length,Zy rs];exact C.len ds hne
 let E:XK:=fun cls dct H'=>∃ c fl C,F ds=.exc c fl/\cls=.ref C/\W5 X.K c C/\Zo H1 H'/\P9 X.K (av H' A) dct fl
 refine wpAny_call (codeAny_mono (Ff.run X.A X.stack s1 H1 ⟨us,[]⟩ us vs Q E hr I1.env0 (by simpa using hb s1 us I1.kIn (by simpa using hl)) r ⟨by rw [Zy rs];exact C.len ds hne,ds,A,kk.mu.mono sm,rs,?_⟩) fun rr s' hq=>?_)
 ·unfold Ar
  split
  ·rename_i d hd
   rw [hd] at q;exact fun v H' s2 r2 _=>q v H' (sm.trans s2) r2
  ·rename_i c fl hd
   exact fun C dct H' s2 hc hf=>⟨c,fl,C,hd,rfl,hc,s2,hf⟩
  ·rename_i hd
   exact hne hd
 ·cases rr with
  | error ev =>
   obtain ⟨ex,C,dct,T,H',c2,rfl,ho,hbr,un,hok,h1,h2,h3,h4,ht,hc2,hnw,c,fl,C',hF,eC,hc,sm2,hf⟩:=hq;cases eC;rw [hF] at q;have I2:Inv X pins σ H' s':=I1.call' (ch:=[]) ho un hok hbr (fun b z=>absurd z (by simp));have sz:X.s₀.heap.objs.size<=s1.heap.objs.size:=I1.sz;have np:∀ {a:Addr},s1.heap.objs.size<=a->∀ p∈X.pn++pins,p.1≠a:=fun {a} ha p hp z=>by
    have:=(I1.pin p hp).1;rw [z] at this;exact absurd (lt_size this) (not_lt.mpr ha)
   exact q A H' σ (Step.same (sm.trans sm2)) (kk.mono (sm.trans sm2)) rfl pins s' ex C dct I2 hc ⟨le_trans sz h1,h3,.inr ⟨T,c2,le_trans sz h2,h4,np h2,ht,fun z=>hc2 (hp z)⟩,np h1⟩ hf (hnw.mono fun b z=>kk.h0.none (sm.none z))
  | ok fl =>
   cases fl with
   | ret u=>exact I1.after hq
   | next=>exact False.elim hq
   | brk=>exact False.elim hq
   | cont=>exact False.elim hq
def Gr (i:Nat) (F:List Dat->Rs) (fs:Ev->Option (List Dat)):Ev->Fl:=fun env=>match fs env with
 | none=>.no
 | some ds=>match F ds with
  | .ok d=>.next (env.set i (.fz d))
  | .exc c fl=>.exc env c fl
  | .no=>.no
theorem Z2s (i:Nat) {x:Str} {pos':Pos} (hN:X.N.Nodup) (hi:X.N[i]?=some x) (hx:Pq X.env.scope x) (he:PE X e (tXx X fr' F fs)) (hs:swapsWith e (some (.Name x pos')) pos.line X.env=pure false:=by rfl)
  (hf:X.fn x=true\/X.env.scope.names.lookup x=some .local:=by first | exact .inl rfl | exact .inr rfl | assumption):Su fr X (.Assign [.Name x pos'] e pos) (Gr i F fs):=(Kd hN hi hx he hs hf).weak fun D σ H zz=>by
 obtain ⟨env,B,A,k,hst,q⟩:=zz;unfold Gr at q;split at q
 ·exact q.elim
 rename_i ds e1;refine ⟨env,B,A,ds,k,e1,?_⟩;split at q
 ·rename_i d hd
  exact fun v H' s r=>q A H' _ (Step.same s) ((k.mono s).put i r)
 ·rename_i c fl hd
  exact fun A' H' σ' s k' _=>q A' H' σ' s k'
 ·exact q.elim
def Ph (F:List Dat->Rs) (fs:Ev->Option (List Dat)):Ev->Fl:=fun env=>match fs env with
 | none=>.no
 | some ds=>match F ds with
  | .ok d=>.ret d
  | .exc c fl=>.exc env c fl
  | .no=>.no
theorem Z9k (he:PE X e (tXx X fr' F fs)):Su false X (.Return (some e) pos) (Ph F fs):=(Os he).weak fun D σ H zz=>by
 obtain ⟨env,B,A,k,hst,q⟩:=zz;unfold Ph at q;split at q
 ·exact q.elim
 rename_i ds e1;refine ⟨env,B,A,ds,k,e1,?_⟩;split at q
 ·rename_i d hd
  exact fun v H' s r=>q v H' (Nw k s r).1 (Nw k s r).2 (fun z=>by cases z)
 ·rename_i c fl hd
  exact fun A' H' σ' s k' _=>q A' H' σ' s k'
 ·exact q.elim
end
theorem Fb:∀ i:Fin 1000,(Str.ofString (toString (i.val:Int))).length<=3:=by decide +kernel
theorem Gc {i:Int} (h0:0<=i) (h1:i<1000):(Str.ofString (toString i)).length<=3:=by
 have:=Fb ⟨i.toNat,by lia⟩;have e:((i.toNat:Nat):Int)=i:=by lia
 rw [e] at this;exact this
theorem Gh:∀ (ts:List Str) (k:Nat) (acc:Str),(textFrom k acc ts).length<=acc.length+piled ts
 | [],k,acc=>by rw [piled_nil];exact le_refl _
 | t::ts,k,acc=>by
  have h:=Gh ts (k+1) (acc++(if k > 0 then ", " else "" : String)++t);rw [piled_cons];have e:(acc++(if k > 0 then ", " else "" : String)++t).length<=acc.length+2+t.length:=by
   rw [strLen_append,strLen_append];have:(Str.ofString (if k > 0 then ", " else "")).length<=2:=by split<;>decide
   lia
  show (textFrom (k+1) (acc++(if k > 0 then ", " else "" : String)++t) ts).length<=_;lia
def K6 (ns:List Int):Prop:=ns.length<=500/\∀ n∈ns,0<=n/\n<1000
theorem Pa {ns:List Int} (h:K6 ns):(PyData.shown (.list (ns.map PyData.int))).length<=3000:=by
 have key:∀ ns:List Int,(∀ n∈ns,0<=n/\n<1000)->piled (PyData.shownAll (ns.map PyData.int))<=5*ns.length:=by
  intro ns;induction ns with
  | nil=>intro _;simp [PyData.shownAll,piled_nil]
  | cons n ns ih =>
   intro hn;have h1:=ih fun m hm=>hn m (mem_cons_of_mem _ hm)
   have h2:=hn n mem_cons_self;rw [map_cons,PyData.shownAll,piled_cons,length_cons];have:(PyData.shown (.int n)).length<=3:=by rw [PyData.shown];exact Gc h2.1 h2.2
   lia
 have hk:=key ns h.2;have h5:=h.1;rw [PyData.shown];show (textFrom 0 "[" _++"]").length<=_;rw [strLen_append];have:=Gh (PyData.shownAll (ns.map PyData.int)) 0 "[";have e1:(Str.ofString "[").length=1:=by decide
 have e2:(Str.ofString "]").length=1:=by decide
 lia
theorem Rl:∀ {ns:List Int},(∀ n∈ns,0<=n/\n<1000)->PyData.showableAll (ns.map PyData.int)=true
 | [],_=>by simp [PyData.showableAll]
 | n::ns,h=>by
  have h2:=h n mem_cons_self;rw [map_cons,PyData.showableAll,Rl fun m hm=>h m (mem_cons_of_mem _ hm),Bool.and_true,PyData.showable];have h3:n.natAbs<2^1920:=lt_of_lt_of_le (show n.natAbs<2^10 by lia) (pow_le_pow_right (by decide) (by decide));by_cases h0:n.natAbs=0
  ·rw [h0];decide
  ·exact decide_eq_true ((Nat.log2_lt h0).mpr h3)
theorem Gu:∀ (ns:List Int),PyData.hasDictAll (ns.map PyData.int)=false
 | []=>by simp [PyData.hasDictAll]
 | n::ns=>by rw [map_cons,PyData.hasDictAll,Gu ns,PyData.hasDict];rfl
theorem Ie:∀ (ns:List Int),PyData.depthAll (ns.map PyData.int)=0
 | []=>by simp [PyData.depthAll]
 | n::ns=>by rw [map_cons,PyData.depthAll,Ie ns,PyData.depth];rfl
theorem Kx {h:Heap}:∀ {ns:List Int} {its:List Value},Y3 (ns.map V.int) its->ReadsAll h its (ns.map PyData.int) []
 | [],[],_=>.nil
 | [],_::_,r=>by have:=r.length;simp at this
 | _::_,[],r=>by have:=r.length;simp at this
 | n::ns,v::its,r=>by
  cases r with
  | cons h1 r' =>
   obtain ⟨t,rfl⟩:=h1;exact .cons (as:=[]) (bs:=[]) (.int n t) (Kx r')
section
variable {X:Cx}
def Zcx (K:PySem.W.Frag) (te:TE) (r:TJ):TJ:=fun σ H acc Q=>te σ H fun x H1=>((∃ i:Int,x=.int i/\0<=i/\i<1000)\/∃ a ns,x=.ref a/\SL K H1 a (ns.map V.int)/\K6 ns)/\acc.length<=100000/\∀ y:Str,y.length<=3000->r σ H1 (acc++y) Q
theorem B5 {k:Nat} (hr:RoomN k X.A) {e:Expr} {pos:Pos} {te:TE} {vs:List Expr} {r:TJ} (he:PE X e te) (hrr:PJ X vs r):PJ X (.FormattedValue e (-1) none pos::vs) (Zcx X.K te r):=by
 intro pins s σ H acc Q I hz h;refine joinParts_cons (FormattedValue_plain (Wu (he pins s σ H _ I h) fun v s1 ⟨x,H1,I1,r1,hx,hacc,q⟩=>?_));have hle:∀ y:Str,y.length<=3000->(acc++y).length<=sizeLine:=fun y hy=>by rw [strLen_append,sizeLine_eq];lia
 rcases hx with ⟨i,rfl,h0,h1⟩ | ⟨a,ns,rfl,hS,hsm⟩
 ·obtain ⟨t,rfl⟩:=r1
  have hy:(Str.ofString (toString i)).length<=3000:=le_trans (Gc h0 h1) (by decide);refine formatField_int_small ?_ ⟨hle _ hy,hrr pins _ σ H1 _ Q (I1.tok _) (hle _ hy) (q _ hy)⟩;by_cases h00:i.natAbs=0
  ·rw [h00];decide
  ·exact (Nat.log2_lt h00).mpr (lt_of_lt_of_le (show i.natAbs<2^10 by lia) (pow_le_pow_right (by decide) (by decide)))
 ·cases r1
  obtain ⟨its,n,w1,g1,_⟩:=hS.get I1;have hy:=Pa hsm;have rd:Reads s1.heap (.ref a) (.list (ns.map PyData.int)) [a]:=.list g1 rfl rfl (by simpa using Kx w1);refine formatField_of_reads (h₀:=s1.heap) rd (by rw [PyData.showable];exact Rl hsm.2) (PyData.noDict_hsm (by rw [PyData.hasDict];exact Gu ns)) hr.gd (by rw [PyData.depth,Ie];have:=hr.un;lia) (fun _ _ q=>q) (fun h' u tk hk=>?_) (le_trans hy (by decide));exact ⟨hle _ hy,hrr pins _ σ H1 _ Q (I1.kept hk) (hle _ hy) (q _ hy)⟩
end
end L2
namespace L2
open PySem PySem.Spec PyProof.Rows PySem.W
theorem Fg {K:Frag} {h:Heap} {N:Addr} {mg:Str->Option Value} {n:Str} {v:Value} (X:K.In h) (G:h.Ns N mg) (e:nsIn K N n=some (some v)):mg n=some v:=by
 obtain ⟨o,es,ep,ho,hd,_,hf⟩:=G;unfold nsIn at e;split at e
 ·rename_i c d es' n' sl q
  have:=X _ _ q;rw [ho] at this;cases this;cases hd;split at e
  ·rename_i en he
   cases e;rw [← hf];unfold nsFind findBy;rw [← Array.find?_toList,he];rfl
  ·split at e<;>cases e
 ·cases e
def Jp (K:Frag) (C fI D:Addr):Bool:=match K.lookup C with
 | some ⟨.type "type",_,.cls cd,sl⟩=>(match cd.mro,sl.toList with
  | .ref C'::bm,[_,_,_,_,some (.builtin n),_]=>C'==C&&n=="ValueError.__new__" && !cd.hasDel&&cd.hasDict&&bm==.ref D::Q8&&tailIn K Q8 bm&&nsOkIn K cd.ns&&nsIn K cd.ns "__init__" == some (some (.ref fI))
  | _,_=>false)
 | _=>false
theorem Ir {K:Frag} {h:Heap} {C fI D:Addr} (X:K.In h) (q:Jp K C fI D=true):∃ nm qn N bs sn sub ab col dd k0 k1 k2 k3 k5 mN,
  h.get? C=some (excClassObj nm qn C N bs (.ref D::Q8) true sn sub ab col dd k0 k1 k2 k3 k5 "ValueError.__new__")/\h.Ns N mN/\mN "__init__" = some (.ref fI)/\OwnTail h Q8 (.ref D::Q8):=by
 unfold Jp at q;split at q
 ·rename_i dd cd sl ho
  split at q
  ·rename_i C' bm k0 k1 k2 k3 n k5 hm hs
   simp only [Bool.and_eq_true,beq_iff_eq,Bool.not_eq_true'] at q;obtain ⟨⟨⟨⟨⟨⟨⟨rfl,rfl⟩,hdel⟩,hdi⟩,rfl⟩,ht⟩,hok⟩,hni⟩:=q;obtain ⟨nm,bs,mro,ns,qn,hd,sn,sub,ab,col,del⟩:=cd;dsimp only at hm hdel hok hni hdi;subst hm hdel hdi;have hsl:sl=#[k0,k1,k2,k3,some (.builtin "ValueError.__new__"),k5]:=by
    obtain ⟨l⟩:=sl;simp only at hs;rw [hs]
   subst hsl;have G:h.Ns ns (h.nsMap ns):=.of_isNs (isNs_of_in X hok);exact ⟨nm,qn,ns,bs,sn,sub,ab,col,dd,k0,k1,k2,k3,k5,_,X _ _ ho,G,Fg X G hni,tail_of_in X ht⟩
  ·cases q
 ·cases q
def Ea (e C:Addr) (dct:Option Addr) (h:Heap):Prop:=∃ t:Addr,h.get? e=some { cls:=.ref C,dict:=dct,data:=.fields #[.ref t,.none,.none,.none,.bool false,.none] }
theorem Z9u {H:Hp} {a:Addr} {o:HO} (h:H a=some o):W4 H a o=H:=by
 funext b;unfold W4;split
 ·rename_i e;rw [e,h]
 ·rfl
theorem Of {P:Program} {w:World} {H:Hp} {h:Heap} {e C:Addr} {dct:Option Addr} (x:Ea e C dct h):Yy P w H h e (.ext (Ea e C dct)):=by
 obtain ⟨t,ht⟩:=x;exact ⟨⟨t,ht⟩,⟨_,ht⟩,fun h1 h2 ⟨t,q⟩ k=>⟨t,k _ q⟩⟩
structure BaseC (K:Frag) (mg:Str->Option Value) (D:Addr):Prop where
 mg:mg "CalmError" = some (.ref D)
 ga:specialIn K (.ref D) "__getattribute__" = some (some (.builtin "type.__getattribute__"))
 rd:readsIn K D (.type "type")=true
 fi:findCls K (.ref D) (.type "type") "__init__" = some (.val (.builtin "ValueError.__init__"))
section
variable {X:Cx} {e:Expr} {es:List Expr} {t:TA} {p apos pos pos':Pos} {D:Addr}
def Z2w (K:Frag) (t:TA):TE:=fun σ H Q=>t σ H fun vs H1=>∃ e C dct v fI D,vs=[.ref e,v]/\H1 e=some (.ext (Ea e C dct))/\Jp K C fI D=true/\Q .non H1
theorem P6 {pl:Sem Bool} (B:BaseC X.K X.mg D) (ha:PA X (e::es) t) (hg:Gl X "CalmError" := by rfl) (he:starEach (e::es) X.env=(false,eval e X.env)::starEach es X.env:=by rfl) (hpl:(backTo pos (starEach es X.env)).any (·.1)=false:=by rfl)
  (ht:eval (.Call (.Attribute (.Name "CalmError" p) "__init__" apos) (e::es) [] pos) X.env=(do
   let ov ← eval (.Name "CalmError" p) X.env
   standAt apos.atName
   let (f,first) ← holding [ov] (getMethod ov "__init__" pl)
   callWith pos f first (backTo pos (starEach (e::es) X.env)) (backToKw pos (keywordEach [] X.env))):=by rfl) :
  PE X (.Call (.Attribute (.Name "CalmError" p) "__init__" apos) (e::es) [] pos) (Z2w X.K t):=by
 intro pins s σ H Q I h;refine methodCall_KW (pl:=pl) (U2 I hg B.mg ?_ (by decide)) ht;refine method_cls I.kIn B.ga (cls_value I.kIn B.rd B.fi rfl ?_);refine PyProof.Rows.callWith_builtin1 (Wu (ha pos pins _ σ H _ (I.tok _) h) fun us s1 ⟨vs,H1,I1,r,ex,C,dct,v,fI,D',ev,hx,hc,q⟩=>?_) he hpl;subst ev;obtain ⟨u,w',rfl,r1,r2⟩:=Np r;cases r1;obtain ⟨nm,qn,N,bs,sn,sub,ab,col,dd,k0,k1,k2,k3,k5,mN,hC,hN,hi,T⟩:=Ir I1.kIn hc;obtain ⟨⟨t0,ht0⟩,_,_⟩:=(show Yy X.prog X.w H1 s1.heap ex (.ext (Ea ex C dct)) from I1.hok ex _ hx);obtain ⟨hh,g,d,tk,os⟩:=s1;refine Lc T hC ht0 fun h' he' hk hsz=>⟨.non,H1,?_,rfl,q⟩
 have:=I1.write (h':=h') (x:=ex) (e:=ex) (o:=.ext (Ea ex C dct)) (t':=tk) (by rw [hx];trivial) (.inl rfl) (fun b u hb q=>hk b u hb q) ⟨_,he'⟩ (Of ⟨_,he'⟩);rw [Z9u hx] at this;exact this
def Z7f (K:Frag) (ta tv:TE) (f:Str):TS:=fun D σ H=>tv σ H fun y H1=>ta σ H1 fun x H2=>∃ a C dct fI D',x=.ref a/\H2 a=some (.ext (Ea a C dct))/\Jp K C fI D'=true/\XCls K C/\findIn K (.ref C) f=some none /\
 match dct with
 | none=>∀ dx,H2 dx=none->dx≠a->D.nx σ (W4 (W4 H2 a (.ext (Ea a C (some dx)))) dx (.xd [(f,y)]))
 | some dx=>False
theorem C9 {o value:Expr} {f:Str} {ta tv:TE} (ha:PE X o ta) (hv:PE X value tv) (hs:swapsWith value (some (.Attribute o f pos')) pos.line X.env=pure false:=by rfl):PS X (.Assign [.Attribute o f pos'] value pos) (Z7f X.K ta tv f):=by
 intro pins s σ H D I h;refine plainObj_wpAny_Assign_Attribute (Wu (hv pins s σ H _ I h) fun u s1 ⟨y,H1,I1,ry,q⟩=>Wu (ha pins s1 σ H1 _ I1 q) fun ov s2 ⟨x,H2,I2,rx,a,C,dct,fI,D',ex,ea,hc,xc,hf,q2⟩=>?_) hs;subst ex;obtain rfl:ov=Value.ref a:=rx;cases dct with
 | some dx=>exact q2.elim
 | none =>
  obtain ⟨⟨t0,ht0⟩,_,_⟩:=(show Yy X.prog X.w H2 s2.heap a (.ext (Ea a C none)) from I2.hok a _ ea);obtain ⟨cd,hcd,hhd,a',b',hm⟩:=xc.cd;obtain ⟨oC,cd',hC,hcd',hhd'⟩:=xc.ld I2.kIn;have IA:InstAt s2.heap a { cls:=.ref C,dict:=none,data:=.fields #[.ref t0,.none,.none,.none,.bool false,.none] } C none:=⟨ht0,rfl,rfl,trivial⟩;refine set_plain I2.kIn IA xc.sa ?_;refine Zcu (s:={ s2 with toks:=s2.toks+1 }) I2.kIn IA hcd hm hf ?_;obtain ⟨hh,g,d,tk,os⟩:=s2;refine Cq ht0 rfl (fun c z=>by cases z) rfl hC hcd' hhd' fun h' tk' hx' hns hk hsz=>?_
  have hlt:a<hh.objs.size:=lt_size ht0;have hfr:H2 hh.objs.size=none:=I2.hok.fresh (le_refl _);have hda:hh.objs.size≠a:=Nat.ne_of_gt hlt;have agr:∀ b,b≠a->b≠hh.objs.size->W4 (W4 H2 a (.ext (Ea a C (some hh.objs.size)))) hh.objs.size (.xd [(f,y)]) b=H2 b:=fun b h1 h2=>by rw [Zh h2,Zh h1]
  have nex:∀ {b:Addr} {o:HO},H2 b=some o->b≠hh.objs.size:=fun {b o} q z=>by rw [z,hfr] at q;cases q
  have un:Un X.fs [] H2 (W4 (W4 H2 a (.ext (Ea a C (some hh.objs.size)))) hh.objs.size (.xd [(f,y)])) hh h':=by
   refine ⟨fun b o q n _ _=>hk b o (fun z=>by rw [z,ea] at n;cases n) q,fun b o q n _ _=>⟨o.slots,hk b o (fun z=>by rw [z,ea] at n;cases n) q⟩,fun b o q n _=>?_,fun b o q _=>?_,fun b xs q=>?_,fun b o u q=>?_,fun b ps q=>?_⟩
   ·rw [agr b (fun z=>by rw [z,ea] at n;cases n) (fun z=>by rw [z] at q;exact absurd (lt_size q) (lt_irrefl _))];exact n
   ·by_cases z:b=a
    ·subst z;exact ⟨_,hx'⟩
    ·exact ⟨_,hk b o z q⟩
   ·rw [agr b (fun z=>by rw [z,ea] at q;cases q) (nex q)];exact q
   ·rw [agr b (fun z=>by rw [z,ea] at q;cases q) (nex q)];exact q
   ·exact ⟨#[],by rw [agr b (fun z=>by rw [z,ea] at q;cases q) (nex q)];simpa using q⟩
  have hok:Mp X.prog X.w (W4 (W4 H2 a (.ext (Ea a C (some hh.objs.size)))) hh.objs.size (.xd [(f,y)])) h':=by
   intro b o q;by_cases z2:b=hh.objs.size
   ·subst z2
    rw [Zs] at q;cases q;refine ⟨_,hns,fun g=>?_⟩;show Lk (List.lookup g [(f,y)]) (if g=f then some u else none);by_cases e:g=f
    ·subst e;simp [List.lookup,Lk];exact ry
    ·have e':(g==f)=false:=by simpa using e
     simp [List.lookup,e',e,Lk]
   ·by_cases z1:b=a
    ·subst z1
     rw [Zh z2,Zs] at q;cases q;exact Of ⟨t0,hx'⟩
    ·rw [agr b z1 z2] at q
     refine (I2.hok b o q).stay (fun c v z w=>hk c v (fun zz=>?_) w) (fun c w=>?_) fun c xs w=>?_
     ·rcases z with z | z
      ·exact z1 (z.symm.trans zz)
      ·rw [zz,ea] at z;cases z
     ·rw [agr c (fun zz=>by rw [zz,ea] at w;cases w) (nex w)];exact w
     ·rw [agr c (fun zz=>by rw [zz,ea] at w;cases w) (nex w)];exact w
  exact ⟨σ,_,I2.un (h':=h') (t':=tk') un hok,q2 _ hfr hda⟩
end
def spG (K:Frag) (C:Addr) (p:Nat) (G:List Dat->Option (List (Str×XD))):Sp:=fun vs H Q _=>∃ e ws ds R fl,vs=.ref e::ws/\ws.length=p/\H e=some (.ext (Ea e C none))/\U4 R H/\R e=false/\Wg K (av H R) ds ws/\G ds=some fl /\
 ∀ H' dct,(∀ c o,c≠e->H c=some o->H' c=some o)->H' e=some (.ext (Ea e C dct))->P9 K (av H' R) dct fl->Oa H H' dct->Q .non H'
structure XMake (P:Program) (w:World) (K:Frag) (mg:Str->Option Value) (base:Heap) (k:Nat) (c:Str) (p:Nat) (G:List Dat->Option (List (Str×XD))):Prop where
 ex:∃ C fI D fd ps,W5 K c C/\mg c=some (.ref C)/\keepIn K (.ref C)=true/\Jp K C fI D=true/\XCls K C/\isFn K (.ref fI)=true/\FnOk P w K mg base Dy k fI fd ps (spG K C p G)/\J9 K fd ps []
 len:∀ ds fl,G ds=some fl->ds.length=p
 few:p<=10
theorem P9.of_ne {K:Frag} {H H':Hp} {e:Addr} {dct:Option Addr} {fs:List (Str×XD)} {g:Heap->Prop} (he:H e=some (.ext g)) (k:∀ c o,c≠e->H c=some o->H' c=some o) (h:P9 K H dct fs):P9 K H' dct fs:=by
 have ne:∀ {c:Addr} {o:HO},H c=some o->(∀ g,o≠.ext g)->H' c=some o:=fun {c o} q n=>k c o (fun z=>by rw [z,he] at q;exact n _ (Option.some.inj q).symm) q
 cases dct with
 | none=>exact h
 | some dx =>
  obtain ⟨fvs,e1,e2⟩:=h;refine ⟨fvs,ne e1 (fun _ z=>by cases z),fun f=>(e2 f).imp id fun ⟨d,v,a,b,c⟩=>⟨d,v,a,b,?_⟩⟩;cases d with
  | int i=>exact c
  | nums is =>
   obtain ⟨a,z1,z2,z3⟩:=c;refine ⟨a,z1,?_,z3⟩;rcases z2 with (z | ⟨o,z⟩) | z
   ·exact .inl (.inl (ne z (fun _ w=>by cases w)))
   ·exact .inl (.inr ⟨o,ne z (fun _ w=>by cases w)⟩)
   ·exact .inr z
def drp (H:Hp) (a:Addr):Hp:=fun b=>if b=a then none else H b
theorem Rf {H:Hp} {a b:Addr} (h:b≠a):drp H a b=H b:=by unfold drp;rw [if_neg h]
theorem Dt {H:Hp} {a:Addr}:drp H a a=none:=by unfold drp;rw [if_pos rfl]
theorem Dp {H:Hp} {a b:Addr} (h:H b=none):drp H a b=none:=by unfold drp;split<;>first | rfl | exact h
theorem Inv.drop {X:Cx} {pins:List (Addr×Obj)} {σ:St} {H:Hp} {s:Shared} {a:Addr} {g:Heap->Prop} (I:Inv X pins σ H s) (ha:H a=some (.ext g)):Inv X pins σ (drp H a) s:=by
 have ne:∀ {b:Addr} {o:HO},H b=some o->(∀ g,o≠.ext g)->drp H a b=some o:=fun {b o} q n=>by rw [Rf (fun z=>by rw [z,ha] at q;exact n _ (Option.some.inj q).symm)];exact q
 refine ⟨I.ok,I.os,I.bare,⟨I.base.keep,I.base.slot,fun b o q n hx=>Dp (I.base.free b o q n hx),I.base.there,fun b xs q=>ne (I.base.tups b xs q) (fun _ z=>by cases z),fun b o u q=>ne (I.base.frzs b o u q) (fun _ z=>by cases z),fun b ps q=>?_⟩,I.loc,I.cell,Dp I.free,fun x c e=>Dp (I.freeC x c e),fun p hp=>?_,fun b o q=>?_,I.len⟩
 ·obtain ⟨more,z⟩:=I.base.tbls b ps q
  exact ⟨more,ne z (fun _ z=>by cases z)⟩
 ·obtain ⟨h1,h2,h3⟩:=I.pin p hp
  exact ⟨h1,Dp h2,h3⟩
 ·have hb:b≠a:=fun z=>by rw [z,Dt] at q;cases q
  rw [Rf hb] at q;exact (I.hok b o q).stay (fun _ _ _ w=>w) (fun c w=>ne w (fun _ z=>by cases z)) fun c xs w=>ne w (fun _ z=>by cases z)
theorem Bf {H0 H H':Hp} {ex:Addr} {o:HO} {dct:Option Addr} (h:Oa (W4 H ex o) H' dct) (hx:∃ g,H' ex=some (.ext g)) (s:Zo H0 H):Oa H0 (drp H' ex) dct:=fun dx e=>by
 have m:∀ b,W4 H ex o b=none->H0 b=none:=fun b z=>by
  have hb:b≠ex:=fun w=>by rw [w,Zs] at z;cases z
  rw [Zh hb] at z;exact s.none z
 refine ⟨m _ (h dx e).1,fun fvs f a q l=>?_⟩;have q':H' dx=some (.xd fvs):=by
  have hb:dx≠ex:=fun w=>by rw [w,Dt] at q;cases q
  rw [Rf hb] at q;exact q
 obtain ⟨y1,xs,y2⟩:=(h dx e).2 fvs f a q' l;refine ⟨m _ y1,xs,?_⟩;have ha:a≠ex:=fun w=>by
  obtain ⟨g,hg⟩:=hx;rw [w,hg] at y2;cases y2
 rw [Rf ha];exact y2
theorem E7 {H:Hp} {a:Addr} {o:HO} (h:H a=none):Zo H (W4 H a o):=fun b u e=>by rw [Zh (fun z=>by rw [z,h] at e;cases e)];exact e
section
variable {X:Cx} {fr:Bool} {e:Expr} {es:List Expr} {fs:Ev->Option (List Dat)} {p pos cpos:Pos} {k n:Nat} {c:Str} {G:List Dat->Option (List (Str×XD))}
def U5 (c:Str) (G:List Dat->Option (List (Str×XD))) (fs:Ev->Option (List Dat)):Ev->Fl:=fun env=>match (fs env).bind G with
 | none=>.no
 | some fl=>.exc env c fl
theorem Nd {pins:List (Addr×Obj)} {σ:St} {H:Hp} {s:Shared} {us:List Value} {vs:List V} {ds:List Dat} {fl:List (Str×XD)} {env:Ev} {B:Bs} {A:AS} (M:XMake X.prog X.w X.K X.mg X.base k c n G) (hr:Room (k+1) X.A)
  (I:Inv X pins σ H s) (kk:EnvOk X.K B A H σ env) (r:Y3 vs us) (rs:Wg X.K (av H A) ds vs) (hG:G ds=some fl) {C fI D:Addr} (hcl:W5 X.K c C) (hx:Jp X.K C fI D=true) {fd:FuncData} {ps:List Str} (hfn:isFn X.K (.ref fI)=true) (F:FnOk X.prog X.w X.K X.mg X.base Dy k fI fd ps (spG X.K C n G)) (hb:J9 X.K fd ps [])
  (q:∀ H' σ',σ'=σ->Zo H H'->EnvOk X.K B A H' σ env->XW X B.H₀ A H' σ c fl) :
  wpAny (model X.prog X.w) X.A (call (.ref C) us) (fun v s'=>∃ ex t dct,v=.ref ex/\(∃ o,s'.heap.get? C=some o)/\s'.heap.get? ex=some { cls:=.ref C,dict:=dct,data:=.fields #[.ref t,.none,.none,.none,.bool false,.none] }/\X.K.In s'.heap/\X.xe (.ref ex) s') X.xe s:=by
 obtain ⟨nm,qn,N,bs,sn,sub,ab,col,dd,k0,k1,k2,k3,k5,mN,hC,hN,hi,T⟩:=Ir I.kIn hx;have hfI:∃ oI,s.heap.get? fI=some oI/\oI.cls=.type "function" := by
  have:=beq_iff_eq.mp hfn;obtain ⟨oI,h1,h2⟩:=Option.map_eq_some_iff.mp this;exact ⟨oI,I.kIn _ _ h1,h2⟩
 obtain ⟨oI,hfI,hfc⟩:=hfI;have hlen:us.length<=sizeLine:=by
  have h1:=r.length;have h2:=Zy rs;have h3:=M.len ds fl hG;have h4:=M.few;exact le_of_lt (Qi (by lia))
 obtain ⟨hh,g,d,tk,os⟩:=s;refine Kr (hrest:=hlen) PySem.F.excBase_ValueError (by decide) PySem.F.excBase_ValueError T hC hN hi hfI hfc fun h' ex hlo hm=>?_
 obtain ⟨t0,ht0,_,_⟩:=hm.there;have hfr:H ex=none:=I.hok.fresh hlo;have I2:Inv X pins σ (W4 H ex (.ext (Ea ex C none))) ⟨h',g,d,tk,os⟩:=I.laid (h':=h') (t':=tk) (a:=ex) (o:=.ext (Ea ex C none)) hm.keeps hlo (Of ⟨t0,ht0⟩);have aex:A ex=false:=by
  cases z:A ex with
  | false=>rfl
  | true=>obtain ⟨o,ho⟩:=(kk.mu ex z).some;rw [hfr] at ho;cases ho
 have sm1:Zo H (W4 H ex (.ext (Ea ex C none))):=E7 hfr;let Q':VK:=fun v H'=>v=.non/\∃ dct,(∀ c o,c≠ex->W4 H ex (.ext (Ea ex C none)) c=some o->H' c=some o)/\H' ex=some (.ext (Ea ex C dct))/\P9 X.K (av H' A) dct fl/\Oa (W4 H ex (.ext (Ea ex C none))) H' dct
 have hsp:spG X.K C n G (.ref ex::vs) (W4 H ex (.ext (Ea ex C none))) Q' E0:=⟨ex,vs,ds,A,fl,rfl,by rw [Zy rs];exact M.len ds fl hG,Zs,kk.mu.mono sm1,aex,rs.mono (Ws sm1),hG,fun H' dct h1 h2 h3 h4=>⟨rfl,dct,h1,h2,h3,h4⟩⟩;have hl2:(Value.ref ex::us).length=ps.length:=by
  have e1:=F.len _ _ _ _ hsp;have e2:=r.length;rw [length_cons] at e1 ⊢;lia
 refine wpAny_call (codeAny_mono (F.run _ X.stack ⟨h',g,d,tk,os⟩ _ ⟨Value.ref ex::us,[]⟩ (Value.ref ex::us) (V.ref ex::vs) Q' E0 (hr.make C us []) (I2.env0.make C us []) (by simpa using hb _ (Value.ref ex::us) I2.kIn (by simpa using hl2)) (.cons rfl r) hsp) fun rr s' hq=>?_);cases rr with
 | error e=>exact False.elim hq
 | ok fl' =>
  cases fl' with
  | ret u =>
   obtain ⟨v,H',I3,rv,ev,dct,h1,h2,h3,h4⟩:=I2.after hq;subst ev;have eu:u=.none:=rv;subst eu;refine ⟨rfl,?_⟩;obtain ⟨⟨t1,ht1⟩,_,_⟩:=(show Yy X.prog X.w H' s'.heap ex (.ext (Ea ex C dct)) from I3.hok ex _ h2);have I4:=I3.drop h2;have sm:Zo H (drp H' ex):=fun b o q=>by
    have hb:b≠ex:=fun z=>by rw [z,hfr] at q;cases q
    rw [Rf hb];exact h1 b o hb (by rw [Zh hb];exact q)
   have lo2:X.s₀.heap.objs.size<=ex:=le_trans I.sz hlo;obtain ⟨nm',qn',N',bs',sn',sub',ab',col',dd',k0',k1',k2',k3',k5',mN',hC',_,_,_⟩:=Ir I3.kIn hx;refine ⟨ex,t1,dct,rfl,⟨_,hC'⟩,ht1,I3.kIn,?_⟩;refine q (drp H' ex) σ rfl sm (kk.mono sm) pins s' ex C dct I4 hcl ⟨lo2,Dt,.inl ⟨_,_,ht1,rfl,rfl,rfl,rfl,fun _=>rfl⟩,fun p hp z=>?_⟩ ?_ (Bf h4 ⟨_,h2⟩ kk.h0)
   ·have:=(I.pin p hp).1
    rw [z] at this;exact absurd (lt_size this) (not_lt.mpr hlo)
   ·exact h3.of_ne (e:=ex) (Wl h2 aex) fun c o hc q=>Wl (by rw [Rf hc];exact (Wf q).2) (Wf q).1
  | next=>exact False.elim hq
  | brk=>exact False.elim hq
  | cont=>exact False.elim hq
theorem Bv (M:XMake X.prog X.w X.K X.mg X.base k c n G) (hr:Room (k+1) X.A) (hc:X.calm=true) (ha:Lb false X (e::es) fs) (hg:Gl X c:=by rfl) (hdb:(c==("__debug__" : Str))=false:=by decide)
  (he:starEach (e::es) X.env=(false,eval e X.env)::starEach es X.env:=by rfl) (hpl:(backTo cpos (starEach es X.env)).any (·.1)=false:=by rfl):Su fr X (.Raise (some (.Call (.Name c p) (e::es) [] cpos)) none pos) (U5 c G fs):=by
 intro pins s σ H D I ⟨env,B,A,kk,hst,q⟩;obtain ⟨C,fI,D',fd,ps,hcl,hm,hkp,hx,xc,hfn,F,hb⟩:=M.ex;unfold U5 at q;split at q
 ·exact q.elim
 rename_i fl hfl;obtain ⟨ds,e1,hG⟩:=bind_some hfl;obtain ⟨nm,qn,N,bs,sn,sub,ab,col,dd,k0,k1,k2,k3,k5,mN,hC,hN,hi,T⟩:=Ir I.kIn hx;have key:wpAny (model X.prog X.w) X.A (eval (.Call (.Name c p) (e::es) [] cpos) X.env) (fun v s'=>∃ ex t dct,v=.ref ex/\(∃ o,s'.heap.get? C=some o)/\s'.heap.get? ex=some { cls:=.ref C,dict:=dct,data:=.fields #[.ref t,.none,.none,.none,.bool false,.none] }/\X.K.In s'.heap/\X.xe (.ref ex) s') X.xe s:=by
  refine wpAny_Call_Name_kw (U2 I hg hm ?_ hdb);refine callWith_K (h₀:=X.base) I.ok.mod.kin hkp (Wu (ha cpos pins s σ H (fun vs H1=>Zo H H1/\Wg X.K (av H1 A) ds vs) I ⟨env,B,A,ds,kk,e1,fun vs H1 s1 rs=>⟨s1,rs.rps⟩⟩) fun us s1 ⟨vs,H1,I1,r,sm,rs⟩=>⟨I1.kIn,?_⟩) he hpl;exact Nd M hr I1 (kk.mono sm) r rs hG hcl hx hfn F hb fun H' σ' _ sm2 k2=>q A H' σ (Step.same (sm.trans sm2)) k2
 rw [arm_exec_Raise];refine wpAny_bind (wpAny_standAt (Gi (C:=C) (nm:=nm) (q:=qn) (N:=N) (bs:=bs) (bm:=.ref D'::Q8) (hdct:=true) (sn:=sn) (sub:=sub) (ab:=ab) (col:=col) (dd:=dd) (k0:=k0) (k1:=k1) (k2:=k2) (k3:=k3) (k5:=k5) (newId:="ValueError.__new__") (by simp [Q8]) (I.ok.hd hc) (wpAny_bind (wpAny_mono key (fun v s₃ h₃=>wpAny_bind (wpAny_standAt (wpAny_pure ?_))) fun _ _ x=>x))));obtain ⟨ex,t,dct,rfl,_,hex,hK,hxe⟩:=h₃;obtain ⟨o,lk⟩:∃ o,X.K.lookup C=some o:=by
  unfold Jp at hx;split at hx
  ·rename_i ho;exact ⟨_,ho⟩
  ·cases hx
 have e2:=(I.kIn _ _ lk).symm.trans hC;cases e2;exact ⟨ex,.ref t,dct,rfl,hK _ _ lk,hex,hxe⟩
end
def Du (ns:List Int):Bool:=decide (ns.length<=500)&&ns.all fun n=>decide (0<=n)&&decide (n<1000)
theorem Z0d {ns:List Int} (h:Du ns=true):K6 ns:=by
 unfold Du at h;rw [Bool.and_eq_true,all_eq_true] at h;refine ⟨of_decide_eq_true h.1,fun n hn=>?_⟩;have:=h.2 n hn;rw [Bool.and_eq_true] at this;exact ⟨of_decide_eq_true this.1,of_decide_eq_true this.2⟩
def gW (f:Str):List Dat->Option (List (Str×XD))
 | [.lst xs]=>(Js xs).bind fun ns=>if Du ns=true then some [(f,.nums ns)] else none
 | _=>none
def JOk (n:Nat) (σ:St) (H:Hp) (r:TJ):Prop:=∀ (acc:Str) (Q:VK),acc.length<=n->(∀ z,Q (.str z) H)->r σ H acc Q
theorem Bp {n:Nat} {σ:St} {H:Hp}:JOk n σ H Zcy:=fun acc Q _ q=>q acc
theorem Bk {n:Nat} {σ:St} {H:Hp} {c:Str} {r:TJ} (hr:JOk (n+c.length) σ H r) (h:n+c.length<=100000):JOk n σ H (Zbk c r):=fun acc Q ha q=>by
 have e:(acc++c).length=acc.length+c.length:=strLen_append _ _;exact ⟨by rw [e,sizeLine_eq];lia,hr _ Q (by rw [e];lia) q⟩
theorem Cf {n i:Nat} {K:Frag} {σ:St} {H:Hp} {v:V} {r:TJ} (hr:JOk (n+3000) σ H r) (h:n<=90000) (hv:σ[i]?=some (some v)) (hs:(∃ i:Int,v=.int i/\0<=i/\i<1000)\/∃ a ns,v=.ref a/\SL K H a (ns.map V.int)/\K6 ns):JOk n σ H (Zcx K (Xz i) r):=fun acc Q ha q =>
 ⟨v,hv,hs,by lia,fun y hy=>hr _ Q (by rw [strLen_append];lia) q⟩
section
variable {P:Program} {w:World} {K:Frag} {mg:Str->Option Value} {base:Heap}
end
section
variable {X:Cx} {pins:List (Addr×Obj)} {σ:St} {H:Hp} {s:Shared}
theorem Hn {M:Model} {A:Around} {E:Value->Shared->Prop} {i:Nat} {x:Str} {pos:Pos} {Q:Unit->Shared->Prop} (I:Inv X pins σ H s) (hN:X.N.Nodup) (hi:X.N[i]?=some x) (hk:X.env.kindOf x=some .local)
   (h:∀ s',Inv X pins (σ.set i none) H s'->Q () s'):wpAny M A (do bindName X.env x .none;unbindBehindTheSuite X.env x pos) Q E s:=by
 obtain ⟨m,hn,hl⟩:=id I.loc;have hcls:(X.env.scope.kind==.class||(X.env.scope.kind==.module&&X.env.locals != X.env.globals))=false:=by rw [I.ok.kind];rfl
 have cne:=I.cne;refine wpAny_nameGoes_keeps hk hn hcls fun h' v hn' hs=>?_
 obtain ⟨oL,_,_,hoL,_⟩:=id hn;refine h _ ⟨I.ok,I.os,I.bare,⟨fun b o e n hb hx=>?_,fun b o e n hb hx=>?_,I.base.free,fun b o e hx=>?_,I.base.tups,I.base.frzs,I.base.tbls⟩,⟨_,hn',fun j y v' e1 e2 e3=>?_⟩,fun y c e=>?_,I.free,I.freeC,fun p hp=>?_,fun b ob e=>?_,by simpa using I.len⟩
 · exact (hs.2 b (ne_of_lt (lt_of_lt_of_le (lt_size e) I.ok.above))).trans (I.base.keep b o e n hb hx)
 · obtain ⟨sl,e1⟩:=I.base.slot b o e n hb hx
   exact ⟨sl,(hs.2 b (ne_of_lt (lt_of_lt_of_le (lt_size e) I.ok.above))).trans e1⟩
 · obtain ⟨o',e1⟩:=I.base.there b o e hx
   exact ⟨o',(hs.2 b (ne_of_lt (lt_of_lt_of_le (lt_size e) I.ok.above))).trans e1⟩
 · by_cases hj:j=i
   · subst hj
     rw [getElem?_set] at e2;simp at e2
   · rw [List.getElem?_set_ne (Ne.symm hj)] at e2
     obtain ⟨u',r',q⟩:=hl j y v' e1 e2 e3;refine ⟨u',r',?_⟩;rcases q with ⟨k,e⟩ | ⟨k,c,e,z⟩
     · refine .inl ⟨k,?_⟩
       have:y≠x:=fun e=>hj (Kl hN e1 (e▸hi))
       simp [this,e]
     · exact .inr ⟨k,c,e,z.sameBut hs (cne y c e)⟩
 · obtain ⟨w',z⟩:=I.cell y c e
   exact ⟨w',z.sameBut hs (cne y c e)⟩
 · obtain ⟨e,n,ne,nf,d⟩:=I.pin p hp
   exact ⟨(hs.2 p.1 ne).trans e,n,ne,nf,d⟩
 · refine (I.hok b ob e).stay (fun c w' hc q=>(hs.2 c ?_).trans q) (fun _ q=>q) fun _ _ q=>q
   rintro rfl;rcases hc with rfl | hc
   · rw [I.free] at e;cases e
   · rw [I.free] at hc;cases hc
theorem Inv.track {a:Addr} {o:HO} (I:Inv X pins σ H s) (ha:H a=none) (lo:X.s₀.heap.objs.size<=a) (hl:a≠X.env.locals) (hc:∀ x c,X.env.cells.lookup x=some c->c≠a) (hp:∀ p∈X.pn++pins,p.1≠a) (ok:Yy X.prog X.w (W4 H a o) s.heap a o):Inv X pins σ (W4 H a o) s:=by
 have sm:Zo H (W4 H a o):=E7 ha;refine ⟨I.ok,I.os,I.bare,⟨I.base.keep,I.base.slot,fun b ob q n hx=>?_,I.base.there,fun b xs q=>sm _ _ (I.base.tups b xs q),fun b o u q=>sm _ _ (I.base.frzs b o u q),fun b ps q=>?_⟩,I.loc,I.cell,?_,fun x c e=>?_,fun p h=>?_,fun b u q=>?_,I.len⟩
 ·rw [Zh (fun z=>by rw [z] at q;exact absurd (lt_size q) (not_lt.mpr lo))]
  exact I.base.free b ob q n hx
 ·obtain ⟨more,z⟩:=I.base.tbls b ps q
  exact ⟨more,sm _ _ z⟩
 ·rw [Zh (Ne.symm hl)];exact I.free
 ·rw [Zh (hc x c e)];exact I.freeC x c e
 ·obtain ⟨h1,h2,h3⟩:=I.pin p h
  exact ⟨h1,by rw [Zh (hp p h)];exact h2,h3⟩
 ·by_cases z:b=a
  ·subst z;rw [Zs] at q;cases q;exact ok
  ·rw [Zh z] at q
   exact (I.hok b u q).stay (fun _ _ _ w=>w) (fun c w=>sm _ _ w) fun c xs w=>sm _ _ w
abbrev Cx.inTry (X:Cx) (pn:List (Addr×Obj)) (E:Value->Shared->Prop):Cx:={ X with pn:=pn,xe:=E }
abbrev Cx.inH (X:Cx) (pn:List (Addr×Obj)) (e:Addr):Cx:={ X with A:=X.A.mark (some (.ref e)),calm:=false,pn:=pn,xe:=fun _ _=>False }
theorem Inv.toTry {E:Value->Shared->Prop} (I:Inv X pins σ H s):Inv (X.inTry (X.pn++pins) E) [] σ H s :=
 ⟨⟨I.ok.mod,I.ok.kind,I.ok.glob,I.ok.blt,I.ok.above,I.ok.inj,I.ok.has,I.ok.cab,I.ok.hd,I.ok.frames,I.ok.stk,I.ok.exf,I.ok.bs,I.ok.bsz,I.ok.noex,I.ok.exfs,I.ok.funs,I.ok.frf⟩,I.os,I.bare,I.base,I.loc,I.cell,I.free,I.freeC,fun p hp=>I.pin p (by simpa using hp),I.hok,I.len⟩
theorem Inv.ofTry {E:Value->Shared->Prop} {pins':List (Addr×Obj)} (ok:X.Ok) (I:Inv (X.inTry (X.pn++pins) E) pins' σ H s):Inv X pins σ H s :=
 ⟨ok,I.os,I.bare,I.base,I.loc,I.cell,I.free,I.freeC,fun p hp=>I.pin p (mem_append_left _ hp),I.hok,I.len⟩
theorem Inv.toH {e:Addr} (I:Inv X pins σ H s):Inv (X.inH (X.pn++pins) e) [] σ H s :=
 ⟨⟨I.ok.mod,I.ok.kind,I.ok.glob,I.ok.blt,I.ok.above,I.ok.inj,I.ok.has,I.ok.cab,(fun z=>nomatch z),I.ok.frames,I.ok.stk,I.ok.exf,I.ok.bs,I.ok.bsz,I.ok.noex,I.ok.exfs,I.ok.funs,I.ok.frf⟩,I.os,I.bare,I.base,I.loc,I.cell,I.free,I.freeC,fun p hp=>I.pin p (by simpa using hp),I.hok,I.len⟩
theorem Inv.ofH {e:Addr} {pins':List (Addr×Obj)} (ok:X.Ok) (I:Inv (X.inH (X.pn++pins) e) pins' σ H s):Inv X pins σ H s :=
 ⟨ok,I.os,I.bare,I.base,I.loc,I.cell,I.free,I.freeC,fun p hp=>I.pin p (mem_append_left _ hp),I.hok,I.len⟩
end
theorem EnvOk.clr {K:Frag} {B:Bs} {A:AS} {H:Hp} {σ:St} {env:Ev} (k:EnvOk K B A H σ env) (i:Nat):EnvOk K B A H (σ.set i none) (env.set i .un):=by
 obtain ⟨own,h1,h2,h4⟩:=k.sl;refine ⟨k.h0,k.r0,k.ra,k.ar,k.mu,by rw [length_set,length_set];exact k.len,fun hst j d=>?_,own,h1,h2,fun j s e=>?_⟩
 ·rw [getElem?_set]
  split
  ·split<;>simp
  ·exact k.np hst j d
 ·rw [getElem?_set] at e
  split at e
  ·rename_i hij
   split at e
   ·rename_i hl
    cases e;exact ⟨none,by rw [getElem?_set,if_pos hij,if_pos (by rw [k.len];exact hl)],trivial⟩
   ·cases e
  ·rename_i hij
   obtain ⟨x,e1,e2⟩:=h4 j s e;exact ⟨x,by rw [getElem?_set,if_neg hij];exact e1,e2⟩
def Zcm (i:Nat):Fl->Fl
 | .next e=>.next (e.set i .un)
 | .brk e=>.brk (e.set i .un)
 | .cont e=>.cont (e.set i .un)
 | .ret d=>.ret d
 | .exc _ _ _=>.no
 | .no=>.no
theorem M0 {l:List Env} {ch:List Addr} {T':Addr} {h h' h2:Heap} (k:Hs l ch h h') (hT:h.objs.size<=T') (y:∀ b o,h'.get? b=some o->b∉[T']->h2.get? b=some o):Hs l ch h h2:=fun b o hb hc=>by
 obtain ⟨k1,sl,k2⟩:=k b o hb hc;have hbT:b∉[T']:=fun z=>by
  have e1:b=T':=by simpa using z
  rw [e1] at hb;exact absurd (lt_size hb) (not_lt.mpr hT)
 exact ⟨fun hl=>y b o (k1 hl) hbT,sl,y b _ k2 hbT⟩
section
variable {X:Cx} {fr:Bool} {g h:Ev->Fl} {body:List Stmt} {b₀:Stmt} {suite:List Stmt} {T n:Str} {np hpos pos:Pos} {i:Nat} {sub:Str->Bool} {DT:Addr}
end
section
variable {X:Cx} {m:Bool} {e:Expr} {f:Ev->Option Dat} {p p2 pos:Pos}
def Aw (sb:Str->Option Bool) (f:Ev->Option Dat):Ev->Option Dat:=fun env=>(f env).bind fun d=>match d with
 | .exc c _=>(sb c).map .bl
 | _=>none
theorem Z3k {pins:List (Addr×Obj)} {σ:St} {H:Hp} {s:Shared} {c:Str} {fl:List (Str×XD)} {v:V} {u cv:Value} {b:Bool} {Q:Value->Shared->Prop} {A:Around} {E:Value->Shared->Prop} (I:Inv X pins σ H s) (r:Rp X.K H (.exc c fl) v) (ru:Yo v u) (hk:∀ C,W5 X.K c C->kitOne X.K (.ref C) cv=some b/\XCls X.K C) (h:∀ tk,Q (.bool b) { s with toks:=tk }) :
  wpAny (model X.prog X.w) A (call (.builtin "isinstance") [u,cv]) Q E s:=by
 obtain ⟨ex,C,dct,e1,e2,e3,e4⟩:=Fu r;subst e1;cases ru;obtain ⟨⟨o,h1,h2,_⟩,_,_⟩:=(show Yy X.prog X.w H s.heap ex (.ext (Xg ex C dct)) from I.hok ex _ e2);obtain ⟨hk1,xc⟩:=hk C e3;exact kia_one (Z2x xc) I.kIn ⟨o,h1,h2⟩ hk1 (fun z=>nomatch z) h
theorem Z9f {x:Str} {D:Addr} (hg:Gl X x) (hm:X.mg x=some (.ref D)) (hd:(x==("__debug__" : Str))=false:=by decide):PE X (.Name x p) (fun σ H Q=>Q (.ref D) H):=fun pins s σ H Q I h=>U2 I hg hm ⟨.ref D,H,I,rfl,h⟩ hd
theorem Zen {sb:Str->Option Bool} {tx:Str} {D:Addr} (he:We true X e f) (hmT:X.mg tx=some (.ref D)) (hk:∀ c C b,W5 X.K c C->sb c=some b->kitOne X.K (.ref C) (.ref D)=some b/\XCls X.K C) (hm:X.mg "isinstance" = none) (hg:Gl X "isinstance" := by rfl) (hgT:Gl X tx:=by rfl) (hv:bootBuiltins "isinstance" = some (.builtin "isinstance"):=by decide +kernel) (hdT:(tx==("__debug__" : Str))=false:=by decide)
  (hs:starEach [e,.Name tx p2] X.env=(false,eval e X.env)::starEach [.Name tx p2] X.env:=by rfl):We m X (.Call (.Name "isinstance" p) [e,.Name tx p2] [] pos) (Aw sb f):=by
 have hc:V5 X (.builtin "isinstance") (fun vs H Q=>∃ v A d b c fl,vs=[v,.ref D]/\U4 A H/\d=.exc c fl/\sb c=some b/\Pk X.K A H d v/\T8 false X.K A H (.bl b) Q):=by
  intro pins s σ H xs us Q I r ⟨v,A,d,b,c,fl,e1,mu,e2,e3,p1,q⟩;subst e1 e2;obtain ⟨u,w',rfl,ru,rw'⟩:=Np r;cases rw';exact Z3k I p1.rp ru (fun C hC=>hk c C b hC e3) fun tk=>⟨.bl b,H,I.tok _,rfl,q.here Va⟩
 refine We.any ((R9 hc hg hm hv (Wr he (Wr (Z9f hgT hmT hdT) Q2) hs) (he:=hs)).weak fun σ H Q ⟨env,R,A,d,k,q1,q2⟩=>?_);obtain ⟨x,e1,h⟩:=bind_some q1;cases x with
 | exc c fl =>
  obtain ⟨b,e2,h⟩:=map_some h;subst h;exact ⟨env,R,A,_,k,e1,fun v H1 s1 p1=>⟨v,A,_,b,c,fl,rfl,k.mu.mono s1,rfl,e2,p1,q2.mono s1⟩⟩
 | _=>cases h
theorem Zdz {sb:Str->Option Bool} {tx:Str} {T:String} (he:We true X e f) (hmT:X.mg tx=none) (hvT:bootBuiltins tx=some (.type T)) (hnT:tx≠"__name__") (hk:∀ c C b,W5 X.K c C->sb c=some b->kitOne X.K (.ref C) (.type T)=some b/\XCls X.K C) (hm:X.mg "isinstance" = none) (hg:Gl X "isinstance" := by rfl) (hgT:Gl X tx:=by rfl) (hv:bootBuiltins "isinstance" = some (.builtin "isinstance"):=by decide +kernel) (hdT:(tx==("__debug__" : Str))=false:=by decide)
  (hs:starEach [e,.Name tx p2] X.env=(false,eval e X.env)::starEach [.Name tx p2] X.env:=by rfl):We m X (.Call (.Name "isinstance" p) [e,.Name tx p2] [] pos) (Aw sb f):=by
 have hc:V5 X (.builtin "isinstance") (fun vs H Q=>∃ v A d b c fl,vs=[v,.ty T]/\U4 A H/\d=.exc c fl/\sb c=some b/\Pk X.K A H d v/\T8 false X.K A H (.bl b) Q):=by
  intro pins s σ H xs us Q I r ⟨v,A,d,b,c,fl,e1,mu,e2,e3,p1,q⟩;subst e1 e2;obtain ⟨u,w',rfl,ru,rw'⟩:=Np r;cases rw';exact Z3k I p1.rp ru (fun C hC=>hk c C b hC e3) fun tk=>⟨.bl b,H,I.tok _,rfl,q.here Va⟩
 refine We.any ((R9 hc hg hm hv (Wr he (Wr (Z3n hgT hmT hvT hnT hdT) Q2) hs) (he:=hs)).weak fun σ H Q ⟨env,R,A,d,k,q1,q2⟩=>?_);obtain ⟨x,e1,h⟩:=bind_some q1;cases x with
 | exc c fl =>
  obtain ⟨b,e2,h⟩:=map_some h;subst h;exact ⟨env,R,A,_,k,e1,fun v H1 s1 p1=>⟨v,A,_,b,c,fl,rfl,k.mu.mono s1,rfl,e2,p1,q2.mono s1⟩⟩
 | _=>cases h
def XD.d:XD->Dat
 | .int i=>.int i
 | .nums is=>.lst (is.map .int)
def N9 (ok:Str->Bool) (fd:Str) (f:Ev->Option Dat):Ev->Option Dat:=fun env=>(f env).bind fun d=>match d with
 | .exc c fl=>if ok c=true then (fl.lookup fd).map XD.d else none
 | _=>none
theorem Zcj {K:Frag} {H:Hp} {d:XD} {v:V} (h:Z2p K H d v):Rp K H d.d v:=by
 cases d with
 | int i=>cases h;exact Wb
 | nums is =>
  obtain ⟨a,e1,e2,e3⟩:=h;subst e1;exact D3 (by rw [length_map];exact e3) e2 (Jz is)
def Z1f (c:Bool):Value->Bool
 | .bool b=>b==c
 | _=>false
theorem Nr:∀ {bs:List Bool} {its:List Value},Y3 (bs.map V.bl) its->its=bs.map Value.bool
 | [],[],_=>rfl
 | [],_::_,r=>by have:=r.length;simp at this
 | _::_,[],r=>by have:=r.length;simp at this
 | b::bs,v::its,r=>by
  cases r with
  | cons h r'=>cases h;rw [Nr r'];rfl
theorem Aq {pins:List (Addr×Obj)} {σ:St} {H:Hp} {s:Shared} (I:Inv X pins σ H s) (hu:X.A.units+64<cLine) (b c:Bool):SeqAt.EqAt X.A.in1 s (.bool b) (.bool c) (b==c):=by
 have:=Rp.eqAt (n:=20) (m:=20) (A:=X.A.in1) I (d:=.bl b) (e:=.bl c) (v:=.bl b) (w:=.bl c) (u:=.bool b) (u':=.bool c) rfl rfl (by decide) (by show X.A.units+1+60<cLine;lia) Va Va rfl rfl;have e:Jf (.bl b) (.bl c)=(b==c):=by unfold Jf;rfl
 rw [e] at this;exact this
def Z53 (K:Frag):V->List V->Hp->VK->Prop:=fun x vs H Q=>∃ (p:Addr) (bs:List Bool) (c:Bool),x=.ref p/\vs=[.bl c]/\Mu K H p (bs.map V.bl)/\Q (.int ((bs.countP (·==c):Nat):Int)) H
theorem Z0a (hu:X.A.units+64<cLine):MtR X "list.count" (Z53 X.K):=by
 intro pins s σ H x vs v us Q I rx rs h;obtain ⟨p,bs,c,rfl,rfl,hq,q⟩:=h;cases rx;obtain ⟨u,rfl,ru⟩:=Qy rs;cases ru;obtain ⟨its,r',pl,hz⟩:=I.list hq;obtain ⟨⟨cls,dd,data,sl⟩,ho,hc,n,hd⟩:=pl.isList;simp only at hc hd;subst hc hd;have e1:=Nr r';subst e1;refine call_meets PySem.F.slot_list_count ⟨_,ho,rfl⟩ PySem.F.entry_list_count (PySem.F.args_list_count_2 _ _) (SeqAt.list_countAt p _ n dd sl (.bool c) (Z1f c)) ⟨ho,fun y hy=>?_,?_⟩
 ·have hy':y∈bs.map Value.bool:=by simpa using hy
  obtain ⟨b,_,rfl⟩:=mem_map.mp hy';exact Aq I hu b c
 ·have e2:((bs.map Value.bool).toArray.toList.countP (Z1f c))=bs.countP (·==c):=by
   show (bs.map Value.bool).countP (Z1f c)=_;rw [List.countP_map];rfl
  rw [e2];exact ⟨.int _,H,I.tok _,⟨_,rfl⟩,q⟩
def Z4v (K:Frag):V->List V->Hp->VK->Prop:=fun x vs H Q=>∃ (p:Addr) (bs:List Bool) (c:Bool),x=.ref p/\vs=[.bl c]/\Mu K H p (bs.map V.bl)/\c∈bs/\Q (.int ((bs.idxOf c:Nat):Int)) H
theorem Cg (hu:X.A.units+64<cLine):MtR X "list.index" (Z4v X.K):=by
 intro pins s σ H x vs v us Q I rx rs h;obtain ⟨p,bs,c,rfl,rfl,hq,hm,q⟩:=h;cases rx;obtain ⟨u,rfl,ru⟩:=Qy rs;cases ru;obtain ⟨its,r',pl,hz⟩:=I.list hq;obtain ⟨⟨cls,dd,data,sl⟩,ho,hc,n,hd⟩:=pl.isList;simp only at hc hd;subst hc hd;have e1:=Nr r';subst e1;have hj:bs.idxOf c<bs.length:=List.idxOf_lt_length_iff.mpr hm;have hlen:bs.length<=sizeLine:=by simpa using hz
 have hsl:sizeLine<2^63 - 1:=by decide
 refine call_meets PySem.F.slot_list_index ⟨_,ho,rfl⟩ PySem.F.entry_list_index (PySem.F.args_list_index_2 _ _) (SeqAt.list_indexAt p _ n dd sl (.bool c) (Z1f c) (bs.idxOf c) (by simpa using hj) (by lia) ?_ ?_) ⟨ho,fun y hy=>?_,⟨.int _,H,I.tok _,⟨_,rfl⟩,q⟩⟩
 ·show Z1f c ((bs.map Value.bool)[bs.idxOf c]'(by simpa using hj))=true
  rw [List.getElem_map];show (bs[bs.idxOf c]==c)=true;simpa using List.getElem_idxOf hj
 ·intro j hjs hlt
  have hjb:j<bs.length:=by lia
  show Z1f c ((bs.map Value.bool)[j]'(by simpa using hjb))=false;rw [List.getElem_map];show (bs[j]==c)=false;have:=List.not_of_lt_findIdx (xs:=bs) (p:=(·==c)) (i:=j) (by simpa [List.idxOf] using hlt);simpa using this
 ·have hy':y∈bs.map Value.bool:=by simpa using hy
  obtain ⟨b,_,rfl⟩:=mem_map.mp hy';exact Aq I hu b c
def Ag:Dat->List Dat->Option Dat
 | .lst xs,[.bl c]=>(Lj xs).map fun bs=>.int ((bs.countP (·==c):Nat):Int)
 | _,_=>none
def Ab:Dat->List Dat->Option Dat
 | .lst xs,[.bl c]=>(Lj xs).bind fun bs=>if c∈bs then some (.int ((bs.idxOf c:Nat):Int)) else none
 | _,_=>none
theorem Z52 (hu:X.A.units+64<cLine):MtD X "list.count" Ag:=(Z0a hu).weak fun v vs H Q zz=>by
 obtain ⟨A,x,ds,d,mu,e,p,ps,q⟩:=zz;unfold Ag at e;split at e
 ·obtain ⟨l,us,e2,h1,r1⟩:=p.lst
  obtain ⟨v1,e3,p1⟩:=ps.one;obtain ⟨bs,hb,e⟩:=map_some e;subst e;rw [Eb hb] at r1;have eu:=Qk r1;subst eu;exact ⟨l,bs,_,e2,by rw [e3,p1.bl],h1.sq,q.here Wb⟩
 ·cases e
theorem Z5y (hu:X.A.units+64<cLine):MtD X "list.index" Ab:=(Cg hu).weak fun v vs H Q zz=>by
 obtain ⟨A,x,ds,d,mu,e,p,ps,q⟩:=zz;unfold Ab at e;split at e
 ·obtain ⟨l,us,e2,h1,r1⟩:=p.lst
  obtain ⟨v1,e3,p1⟩:=ps.one;obtain ⟨bs,hb,e⟩:=bind_some e;split at e
  ·rename_i hm
   cases e;rw [Eb hb] at r1;have eu:=Qk r1;subst eu;exact ⟨l,bs,_,e2,by rw [e3,p1.bl],h1.sq,hm,q.here Wb⟩
  ·cases e
 ·cases e
end
end L2
namespace L2
open PySem
end L2
namespace L2
open PySem PySem.Spec PyProof.Rows
section
variable {P:Program} {w:World} {A:Around} {E:Value->Shared->Prop} {s:Shared}
end
section
variable {P:Program} {w:World} {A:Around} {R:Result->Shared->Prop} {I:Addr} {fp wr:List Addr} {G:Array GenState->Array GenState->Prop} {n:Nat} {Pv:Nat->Value->Prop} {St:Nat->Shared->Prop}
end
section
variable {P:Program} {w:World} {A:Around} {E:Value->Shared->Prop} {s:Shared}
end
end L2
namespace PySem
namespace F
end F
end PySem
namespace L2
open PySem PySem.Spec PyProof.Rows
section
variable {P:Program} {w:World} {A:Around} {E:Value->Shared->Prop} {s:Shared}
end
end L2
namespace PySem.F
end PySem.F
namespace L2
open PySem PySem.Spec PyProof.Rows
section
variable {P:Program} {w:World} {A:Around} {E:Value->Shared->Prop} {s:Shared}
end
end L2
namespace Sq
open PySem PyProof PyProof.Rows
section
variable {prog:Program} {w:World} {A:Around} {E:Value->Shared->Prop} {s:Shared} {a₀:Array Keyed} {p:Array (Nat×Nat×Nat)}
end
section
variable {prog:Program} {w:World} {A:Around} {E:Value->Shared->Prop} {s:Shared}
end
section
variable {r:Int->Int->Prop} {a b out:List Keyed} {ia ib:Nat}
end
section
variable {prog:Program} {w:World} {A:Around} {E:Value->Shared->Prop} {s:Shared} {a b:Array Keyed} {n0:Nat}
end
section
variable {prog:Program} {w:World} {A:Around} {E:Value->Shared->Prop} {s:Shared} {a₀:Array Keyed}
end
section
variable {prog:Program} {w:World} {A:Around} {E:Value->Shared->Prop} {s:Shared}
end
end Sq
namespace L2
open PySem PySem.Spec PyProof.Rows
section
variable {P:Program} {w:World} {A:Around} {E:Value->Shared->Prop} {s:Shared}
end
section
variable {X:Cx} {e:Expr} {fs:Ev->Option (List Dat)}
end
end L2
set_option maxHeartbeats 4000000
namespace L2
open PySem PySem.Spec PyProof.Rows
section
variable {X:Cx}
theorem Z1v {P:Program} {w:World} {A:Around} {E:Value->Shared->Prop} {s:Shared} {t b:Addr} {vs ws:List Value} {Q:Value->Shared->Prop} (ht:IsTup s.heap t vs.toArray) (hb:IsTup s.heap b ws.toArray) (hv:vs=[]) (h0:Q (.ref b) s):wpAny (model P w) A (binaryOp .Add (.ref t) (.ref b)) Q E s:=by
 obtain ⟨⟨cls,dd,data,sl⟩,ho,hc,n,hd⟩:=id ht;obtain ⟨⟨cls2,dd2,data2,sl2⟩,ho2,hc2,n2,hd2⟩:=id hb;simp only at hc hd hc2 hd2;subst hc hd hc2 hd2;exact concat_meets ⟨_,ho,rfl⟩ ⟨_,ho2,rfl⟩ noFill_tuple_add seq_tuple_add PySem.F.slot_tuple_add PySem.F.entry_tuple_add (PySem.F.args_tuple_add_2 _ _)
  (tuple_addW0 t b vs.toArray ws.toArray n n2 dd dd2 sl sl2 (by simp [hv])) ⟨ho,ho2,h0⟩
theorem Pk.tupR {K:PySem.W.Frag} {A:AS} {H:Hp} {ds:List Dat} {v:V} (h:Pk K A H (.tup ds) v):Rp K (av H A) (.tup ds) v:=by
 rcases h with h | ⟨a,vs,ds,e1,e2,e3,e4⟩ | ⟨_,_,_,e1,_⟩
 ·exact h
 ·cases e1
 ·cases e1
def Ri:Dat->Dat->Option Dat
 | .tup xs,.tup ys=>if xs.length+ys.length<=sizeLine then some (.tup (xs++ys)) else none
 | _,_=>none
theorem Mz:Ms X (binaryOp .Add) Ri:=fun pins s σ H x y v u Q I rx ry zz=>by
 obtain ⟨A,a,b,d,mu,e,p1,p2,q⟩:=zz;unfold Ri at e;split at e
 ·rename_i xs ys
  split at e
  ·rename_i hz
   cases e;obtain ⟨l1,vs,e1,h1,r1⟩:=p1.tup;obtain ⟨l2,us,e2,h2,r2⟩:=p2.tup;have z1:=Zy r1;have z2:=Zy r2;have w1:=p1.tupR;have w2:=p2.tupR;by_cases hx:xs=[]
   ·subst hx e1 e2
    cases rx;cases ry;obtain ⟨its,y1,g1,_⟩:=I.tuple h1;obtain ⟨its2,y2,g2,_⟩:=I.tuple h2;have hn:its=[]:=by
     have:=y1.length;rw [z1] at this;exact length_eq_zero_iff.mp this.symm
    refine Z1v g1 g2 hn ⟨.ref l2,H,I,rfl,?_⟩;exact q.here w2
   ·refine Z4n pins s σ H x y v u Q I rx ry ⟨l1,l2,vs,us,e1,e2,h1,h2,Z0x r1 (by simpa using hx),by lia,fun hy=>?_,fun hy=>?_⟩
    ·have:ys=[]:=by subst hy;exact length_eq_zero_iff.mp z2.symm
     subst this;rw [append_nil] at q;rw [e1] at w1;exact q.here w1
    ·exact q.tup mu (by rw [length_append];exact hz) (V9 r1 r2)
  ·cases e
 ·cases e
end
end L2
namespace L2
open PySem PySem.Spec PyProof.Rows PySem.W
def Ts (raised:List Str) (t:Str):Str->Option Bool:=fun c=>if c∈raised then some (decide (c=t)) else none
def Po (raised:List Str):Str->Option Bool:=fun c=>if c∈raised then some true else none
def Uh (raised:List Str):Str->Bool:=fun c=>decide (c∈raised)
def IsC (K:Frag) (mg:Str->Option Value) (tx:Str) (sb:Str->Option Bool):Prop:=∃ D,mg tx=some (.ref D)/\∀ c C b,W5 K c C->sb c=some b->kitOne K (.ref C) (.ref D)=some b/\XCls K C
def IsT (K:Frag) (mg:Str->Option Value) (tx:Str) (T:String) (sb:Str->Option Bool):Prop:=∀ c C b,W5 K c C->sb c=some b->kitOne K (.ref C) (.type T)=some b/\XCls K C
def Z9n (K:Frag) (mg:Str->Option Value) (T:Str) (sub:Str->Bool):Prop:=∃ D,mg T=some (.ref D)/\∀ c C,W5 K c C->sub c=true->exmOne K (.ref C) (.ref D)=some true
def Z3b (K:Frag) (okc:Str->Bool) (fd:Str):Prop:=∀ c C,W5 K c C->okc c=true->XCls K C/\findIn K (.ref C) fd=some none
section
variable {X:Cx} {m fr:Bool} {e:Expr} {f:Ev->Option Dat} {g h:Ev->Fl} {p p2 pos:Pos} {body:List Stmt} {b₀:Stmt} {suite:List Stmt} {T n tx:Str} {np hpos:Pos} {i:Nat} {sub:Str->Bool} {sb:Str->Option Bool}
theorem Xc (he:We true X e f) (hC:IsC X.K X.mg tx sb) (hm:X.mg "isinstance" = none) (hg:Gl X "isinstance" := by rfl) (hgT:Gl X tx:=by rfl) (hv:bootBuiltins "isinstance" = some (.builtin "isinstance"):=by decide +kernel) (hdT:(tx==("__debug__" : Str))=false:=by decide)
  (hs:starEach [e,.Name tx p2] X.env=(false,eval e X.env)::starEach [.Name tx p2] X.env:=by rfl):We m X (.Call (.Name "isinstance" p) [e,.Name tx p2] [] pos) (Aw sb f):=by
 obtain ⟨D,h1,h2⟩:=hC;exact Zen he h1 h2 hm hg hgT hv hdT hs
end
section
variable {K:Frag} {mg:Str->Option Value}
theorem Mw {raised:List Str} {tx:Str} {D:Addr} (hm:mg tx=some (.ref D)) (h:∀ c∈raised,∃ C,W5 K c C/\kitOne K (.ref C) (.ref D)=some (decide (c=tx))/\XCls K C):IsC K mg tx (Ts raised tx):=by
 refine ⟨D,hm,fun c C b hc hb=>?_⟩;unfold Ts at hb;split at hb
 ·rename_i hr
  cases hb;obtain ⟨C',h1,h2,h3⟩:=h c hr;unfold W5 at hc h1;rw [hc] at h1;cases h1;exact ⟨h2,h3⟩
 ·cases hb
theorem Zad {raised:List Str} {tx:Str} {T:String} (h:∀ c∈raised,∃ C,W5 K c C/\kitOne K (.ref C) (.type T)=some true/\XCls K C):IsT K mg tx T (Po raised):=by
 refine fun c C b hc hb=>?_
 unfold Po at hb;split at hb
 ·rename_i hr
  cases hb;obtain ⟨C',h1,h2,h3⟩:=h c hr;unfold W5 at hc h1;rw [hc] at h1;cases h1;exact ⟨h2,h3⟩
 ·cases hb
theorem Z6f {raised:List Str} {T:Str} {D:Addr} (hm:mg T=some (.ref D)) (h:∀ c∈raised,∃ C,W5 K c C/\exmOne K (.ref C) (.ref D)=some true):Z9n K mg T (Uh raised):=by
 refine ⟨D,hm,fun c C hc hb=>?_⟩;obtain ⟨C',h1,h2⟩:=h c (of_decide_eq_true hb);unfold W5 at hc h1;rw [hc] at h1;cases h1;exact h2
theorem Z5p {raised:List Str} {fd:Str} (h:∀ c∈raised,∃ C,W5 K c C/\XCls K C/\findIn K (.ref C) fd=some none):Z3b K (Uh raised) fd:=fun c C hc hb=>by
 obtain ⟨C',h1,h2⟩:=h c (of_decide_eq_true hb);unfold W5 at hc h1;rw [hc] at h1;cases h1;exact h2
end
section
variable {X:Cx}
end
section
variable {X:Cx} {m:Bool} {e:Expr} {f:Ev->Option Dat} {pos:Pos} {vs:List Expr} {r:Ev->Str->Option Str}
end
end L2
namespace L2
open PySem PySem.Spec PyProof.Rows PySem.W PySem.Builtin PySem.Builtin.Str
section
variable {X:Cx}
end
end L2
namespace L2
open PySem PySem.Spec PyProof.Rows PySem.W
section
variable {X:Cx} {fr:Bool} {p pos cpos:Pos} {k n:Nat} {c:Str} {G:List Dat->Option (List (Str×XD))}
theorem Z2e (M:XMake X.prog X.w X.K X.mg X.base k c n G) (hr:Room (k+1) X.A) (hc:X.calm=true) (hg:Gl X c:=by rfl) (hdb:(c==("__debug__" : Str))=false:=by decide)
  : Su fr X (.Raise (some (.Call (.Name c p) [] [] cpos)) none pos) (U5 c G Zd):=by
 intro pins s σ H D I ⟨env,B,A,kk,hst,q⟩;obtain ⟨C,fI,D',fd,ps,hcl,hm,hkp,hx,xc,hfn,F,hb⟩:=M.ex;unfold U5 at q;split at q
 ·exact q.elim
 rename_i fl hfl;obtain ⟨ds,e1,hG⟩:=bind_some hfl;obtain ⟨nm,qn,N,bs,sn,sub,ab,col,dd,k0,k1,k2,k3,k5,mN,hC,hN,hi,T⟩:=Ir I.kIn hx;have key:wpAny (model X.prog X.w) X.A (eval (.Call (.Name c p) [] [] cpos) X.env) (fun v s'=>∃ ex t dct,v=.ref ex/\(∃ o,s'.heap.get? C=some o)/\s'.heap.get? ex=some { cls:=.ref C,dict:=dct,data:=.fields #[.ref t,.none,.none,.none,.bool false,.none] }/\X.K.In s'.heap/\X.xe (.ref ex) s') X.xe s:=by
  refine wpAny_Call_Name_kw (U2 I hg hm ?_ hdb);refine callWith_K0 I.kIn hkp ?_;cases e1;exact Nd M hr I kk .nil U0 hG hcl hx hfn F hb fun H' σ' _ sm2 k2=>q A H' σ (Step.same sm2) k2
 rw [arm_exec_Raise];refine wpAny_bind (wpAny_standAt (Gi (C:=C) (nm:=nm) (q:=qn) (N:=N) (bs:=bs) (bm:=.ref D'::Q8) (hdct:=true) (sn:=sn) (sub:=sub) (ab:=ab) (col:=col) (dd:=dd) (k0:=k0) (k1:=k1) (k2:=k2) (k3:=k3) (k5:=k5) (newId:="ValueError.__new__") (by simp [Q8]) (I.ok.hd hc) (wpAny_bind (wpAny_mono key (fun v s₃ h₃=>wpAny_bind (wpAny_standAt (wpAny_pure ?_))) fun _ _ x=>x))));obtain ⟨ex,t,dct,rfl,_,hex,hK,hxe⟩:=h₃;obtain ⟨o,lk⟩:∃ o,X.K.lookup C=some o:=by
  unfold Jp at hx;split at hx
  ·rename_i ho;exact ⟨_,ho⟩
  ·cases hx
 have e2:=(I.kIn _ _ lk).symm.trans hC;cases e2;exact ⟨ex,.ref t,dct,rfl,hK _ _ lk,hex,hxe⟩
end
def gZ:List Dat->Option (List (Str×XD))
 | []=>some []
 | _=>none
theorem Z32:∀ ds fl,gZ ds=some fl->ds.length=0:=fun ds fl h=>by
 unfold gZ at h;split at h
 ·rfl
 ·cases h
section
variable {P:Program} {w:World} {K:Frag} {mg:Str->Option Value} {base:Heap}
theorem Z9m {qual:Str} {st:Stmt} {fI C D fI':Addr} {fd:FuncData} {k:Nat} {z:Str} (F:Fun K "__init__" qual st fI fd) (S:FnScope ["self"] ["self"] (Z8 st)) (hx:Jp K C fI' D=true)
  (hb:∀ (cdv:Value) (A:Around) (outer:List Env) (s:Shared) (H:Hp) (E:XK),Room k (A.deeper (envOfC qual (Z8 st) s.heap.objs.size fI cdv)) ->
   Sm (Qd Dy P w K mg base ["self"] qual (Z8 st) fI cdv A outer s H E).nox (Yf st) (Z4e (Z2w K (Ng (Xz 0) (Ng (tC (.str z)) Z6v))))) :
  FnOk P w K mg base Dy (k+1) fI fd ["self"] (spG K C 0 gZ):=by
 refine F.ok S (fun vs H Q E ⟨e,ws,ds,R,fl,ev,hl,_⟩=>by rw [ev,length_cons,hl];rfl) fun cdv A outer s H vs Q E hr ⟨e,ws,ds,R,fl,ev,hl,he,mu,re,rs,hG,q⟩=>⟨_,hb cdv A outer s H E hr,?_⟩
 subst ev;have ew:ws=[]:=length_eq_zero_iff.mp hl;subst ew;have ed:ds=[]:=length_eq_zero_iff.mp (Z32 ds fl hG);subst ed;cases hG;exact ⟨.ref e,rfl,e,C,none,.str z,fI',D,rfl,he,hx,q H none (fun _ _ _ h=>h) he rfl Z4f⟩
end
section
variable {X:Cx} {pos pos':Pos}
end
section
variable {P:Program} {w:World} {K:Frag} {mg:Str->Option Value} {base:Heap}
end
theorem Z29 {f:Str}:∀ ds fl,gW f ds=some fl->ds.length=1:=fun ds fl h=>by
 unfold gW at h;split at h
 ·rfl
 ·cases h
theorem Oo {K:PySem.W.Frag} {C fI D:Addr} (q:Jp K C fI D=true) (cl:PySem.W.findIn K (.ref C) "__class__" = some (some (.builtin "object.__class__"))) (ga:PySem.W.findIn K (.ref C) "__getattribute__" = some (some (.builtin "BaseException.__getattribute__"))) (gh:PySem.W.findIn K (.ref C) "__getattr__" = some none) (sa:PySem.W.findIn K (.ref C) "__setattr__" = some (some (.builtin "object.__setattr__"))):XCls K C:=by
 refine ⟨?_,cl,ga,gh,sa⟩;unfold Jp at q;split at q
 ·rename_i dd cd sl ho
  split at q
  ·rename_i C' bm k0 k1 k2 k3 n k5 hm hs
   simp only [Bool.and_eq_true,beq_iff_eq,Bool.not_eq_true'] at q;obtain ⟨⟨⟨⟨⟨⟨⟨e1,_⟩,_⟩,hdi⟩,e2⟩,_⟩,_⟩,_⟩:=q;exact ⟨cd,by unfold PySem.W.clsIn;rw [ho],hdi,C',D,by rw [hm,e2]⟩
  ·cases q
 ·cases q
section
variable {M:Model} {A:Around} {E:Value->Shared->Prop} {s:Shared}
theorem N1 {base:Heap} {env:Env} {L e T:Addr} {cls:Value×Option Value} {dct:Option Addr} {Q:Unit->Shared->Prop} (hf:env.frame=some L) (ht:Ez s.heap base e T cls dct (rawInt L)) (h:Q () s):wpAny M A (noteFrame (.ref e) env) Q E s:=by
 obtain ⟨oe,vs,oT,ts,he,hcls,hdct,hd,h1,hnT,hTe,hT,hdT,h3⟩:=ht;unfold noteFrame;simp only [hf];refine wpAny_bind (wpAny_field he hd h1 ?_);rw [if_pos (show (Value.ref T != Value.none)=true from by simp)];refine wpAny_bind (wpAny_field hT hdT h3 ?_);rw [if_pos (show ((rawInt L==rawInt L)=true) from by simp)];exact wpAny_pure h
theorem Z9d {base:Heap} {l:List Env} {e T:Addr} {cls:Value×Option Value} {dct:Option Addr} {fl:Value} {fr:Option Addr} {Q:Unit->Shared->Prop}
  (hkb:base.StaysIn s.heap) (hl:s.heap.FunFrames base l) (ht:Ez s.heap base e T cls dct fl)
  (h:∀ h',base.StaysIn h'->h'.FunFrames base l->Ez h' base e T cls dct (fr.elim Value.none fun f=>rawInt f)->(∀ b o,s.heap.get? b=some o->b∉[T]->h'.get? b=some o)->h'.objs.size=s.heap.objs.size->Q () { s with heap:=h' }) :
  wpAny M A (setFlight (.ref e) fr) Q E s:=by
 obtain ⟨oe,vs,oT,ts,he,hcls,hdct,hd,h1,hnT,hTe,hT,hdT,h3⟩:=ht;have hsz3:3<ts.size:=(Array.getElem?_eq_some_iff.mp h3).1;have other:∀ b,b≠T->(s.heap.update T (Obj.mapFields (·.setIfInBounds 3 (fr.elim Value.none fun f=>rawInt f)))).get? b=s.heap.get? b :=
  fun b hb=>get?_update_other _ _ (Ne.symm hb)
 have noRecord:∀ b o,s.heap.get? b=some o->(∀ vs,o.data≠.fields vs)->b≠T:=fun b o hb hnf q=>by
  rw [q,hT] at hb;injection hb with hb;subst hb;exact hnf ts hdT
 unfold setFlight;refine wpAny_bind (wpAny_field he hd h1 ?_);rw [if_pos (show (Value.ref T != Value.none)=true from by simp)];refine wpAny_setField hT hdT hsz3 (h _ (fun b o hbo=>(other b fun q=>by rw [q,hnT] at hbo;cases hbo).trans (hkb b o hbo))
  (hl.of_keeps fun b o hb hnf=>⟨o,(other b (noRecord b o hb hnf)).trans hb,rfl⟩) ?_ (fun b o hb hnf=>(other b (fun z=>hnf (by simp [z]))).trans hb) (size_update ..))
 exact ⟨oe,vs,_,_,(other e (Ne.symm hTe)).trans he,hcls,hdct,hd,h1,hnT,hTe,get?_update_self _ hT (Obj.isFreed_of_fields (Obj.data_mapFields hdT _)),Obj.data_mapFields hdT _,by simp [hsz3]⟩
theorem Fz {base:Heap} {env:Env} {l:List Env} {L e T:Addr} {cls:Value×Option Value} {dct:Option Addr} {Q:Unit->Shared->Prop} (hf:env.frame=some L)
  (hkb:base.StaysIn s.heap) (hl:s.heap.FunFrames base l) (ht:Ez s.heap base e T cls dct (rawInt L))
  (h:∀ h',base.StaysIn h'->h'.FunFrames base l->Ez h' base e T cls dct .none->Hs l [T] s.heap h'->Q () { s with heap:=h' }):wpAny M A (leaving env (.ref e)) Q E s:=by
 unfold leaving;refine wpAny_bind (N1 hf ht ?_);exact Z9d (fr:=none) hkb hl ht fun h' y1 y2 y3 y4 y5=>h h' y1 y2 y3 (Hs.of fun b o hb hc=>y4 b o hb hc)
theorem Zcp {A':Around} {base:Heap} {env:Env} {l:List Env} {L e T:Addr} {cls:Value×Option Value} {dct:Option Addr} {E':Value->Shared->Prop} (hf:env.frame=some L)
  (hkb:base.StaysIn s.heap) (hl:s.heap.FunFrames base l) (ht:Ez s.heap base e T cls dct (rawInt L))
  (h:∀ h',base.StaysIn h'->h'.FunFrames base l->Ez h' base e T cls dct (rawInt L)->Hs l [T] s.heap h'->E' (.ref e) { s with heap:=h' }):notedBy M A' env (cameBackBy M A env E') (.ref e) s:=by
 refine N1 (A:=A') (E:=cameBackBy M A env E') hf ht ?_;obtain ⟨oe,vs,oT,ts,he,hcls,hdct,hd,h1,hnT,hTe,hT,hdT,h3⟩:=id ht;refine wpAny_bind (wpAny_field he hd h1 ?_);rw [if_neg (show ¬ (Value.ref T==Value.none)=true from by simp)];rw [hf];exact Z9d (fr:=some L) hkb hl ht fun h' y1 y2 y3 y4 y5=>h h' y1 y2 y3 (Hs.of fun b o hb hc=>y4 b o hb hc)
theorem Z7r {base:Heap} {env:Env} {l:List Env} {L e T:Addr} {cls:Value×Option Value} {dct:Option Addr} {E':Value->Shared->Prop} (hf:env.frame=some L)
  (hkb:base.StaysIn s.heap) (hl:s.heap.FunFrames base l) (ht:Ez s.heap base e T cls dct (rawInt L))
  (h:∀ h',base.StaysIn h'->h'.FunFrames base l->Ez h' base e T cls dct (rawInt L)->(∀ b o,s.heap.get? b=some o->b∉[T]->h'.get? b=some o)->E' (.ref e) { s with heap:=h' }):cameBackBy M A env E' (.ref e) s:=by
 obtain ⟨oe,vs,oT,ts,he,hcls,hdct,hd,h1,hnT,hTe,hT,hdT,h3⟩:=id ht;refine wpAny_bind (wpAny_field he hd h1 ?_);rw [if_neg (show ¬ (Value.ref T==Value.none)=true from by simp)];rw [hf];exact Z9d (fr:=some L) hkb hl ht fun h' y1 y2 y3 y4 y5=>h h' y1 y2 y3 y4
end
def Xa (X:Cx) (E:XK):Value->Shared->Prop:=fun v s=>∃ (e C:Addr) (dct:Option Addr) (pins:List (Addr×Obj)) (σ:St) (H:Hp),v=.ref e/\Inv X pins σ H s/\X.s₀.heap.objs.size<=e/\H e=none/\(∀ p∈X.pn++pins,p.1≠e) /\
 ((∃ o vs,s.heap.get? e=some o/\o.cls=.ref C/\o.dict=dct/\o.data=.fields vs/\vs[1]?=some .none)\/∃ T fl c2,X.s₀.heap.objs.size<=T/\H T=none/\(∀ p∈X.pn++pins,p.1≠T)/\Ez s.heap X.base e T (.ref C,c2) dct fl/\(fl=.none\/fl=rawInt X.env.locals))/\Oa X.H₀ H dct/\E (.ref C) dct H
theorem XSt.lie {X:Cx} {E:XK} {pins:List (Addr×Obj)} {σ:St} {H:Hp} {s:Shared} {e C:Addr} {dct:Option Addr} (I:Inv X pins σ H s) (x:XSt X pins H s.heap e C dct) (hnw:Oa X.H₀ H dct) (q:E (.ref C) dct H):Xa X E (.ref e) s :=
 ⟨e,C,dct,pins,σ,H,rfl,I,x.lo,x.un,x.pe,x.ob.imp (fun ⟨o,vs,a,b,c,d,g,_⟩=>⟨o,vs,a,b,c,d,g⟩) fun ⟨T,c2,h1,h2,h3,h4,_⟩=>⟨T,.none,c2,h1,h2,h3,h4,.inl rfl⟩,hnw,q⟩
theorem Z1n {X:Cx} {E:XK} {A':Around} (hA:A'.frames=X.A.frames) (hstk:X.stack=X.env::X.outer/\X.env.frame=some X.env.locals):PassesOwnAt (model X.prog X.w) A' X.A X.env (Xa X E):=by
 rintro ev s1 ⟨e,C,dct,pins,σ,H,rfl,J1,lo,un,pe,ob,hnw,q⟩;have hfr:A'.frames=some (X.env::X.outer):=by rw [hA,← hstk.1];exact J1.ok.frames
 have hl:s1.heap.FunFrames X.base (X.env::X.outer):=by rw [← hstk.1];exact J1.stack
 have hkb:X.base.StaysIn s1.heap:=J1.bk;have hen:X.base.get? e=none:=J1.noBase lo;have hfree:∀ b∈Sk (X.env::X.outer),H b=none:=by rw [← hstk.1];exact J1.stkFree
 have nloc:∀ {a:Addr} {o:Obj} {vs:Array Value},s1.heap.get? a=some o->o.data=.fields vs->a≠X.env.locals/\∀ y c,X.env.cells.lookup y=some c->c≠a:=fun {a o vs} ho hd=>by
  refine ⟨fun z=>?_,fun y c hc z=>?_⟩
  ·obtain ⟨m,⟨o',es,ep,ho',hd',_⟩,_⟩:=J1.loc
   rw [z,ho'] at ho;cases ho;rw [hd] at hd';cases hd'
  ·obtain ⟨v,o',ho',hd'⟩:=J1.cell y c hc
   rw [z,ho] at ho';cases ho';rw [hd] at hd';cases hd'
 have after:∀ (h2:Heap) (T':Addr) (c2:Option Value) (ch:List Addr),(X.s₀.heap.objs.size<=T'/\H T'=none/\∀ p∈X.pn++pins,p.1≠T')->Ez h2 X.base e T' (.ref C,c2) dct (rawInt X.env.locals)->Hs (X.env::X.outer) ch s1.heap h2->(∀ b∈ch,H b=none/\X.s₀.heap.objs.size<=b/\b≠X.env.locals/\(∀ y c,X.env.cells.lookup y=some c->c≠b)/\∀ p∈X.pn++pins,p.1≠b)->Xa X E (.ref e) { s1 with heap:=h2 }:=fun h2 T' c2 ch hT tr kp hch=>by
  have J2:Inv X pins σ H { s1 with heap:=h2 }:=J1.call' (s':={ s1 with heap:=h2 }) (ch:=ch) rfl (by rw [hstk.1];exact Em kp fun b hb=>(hch b hb).1) (J7 J1.hok kp (fun b hb=>(hch b hb).1) hfree) J1.bare fun b hb=>⟨.inr (hch b hb).2.1,(hch b hb).2.2.1,(hch b hb).2.2.2.1,(hch b hb).2.2.2.2⟩
  exact ⟨e,C,dct,pins,σ,H,rfl,J2,lo,un,pe,.inr ⟨T',_,c2,hT.1,hT.2.1,hT.2.2,tr,.inr rfl⟩,hnw,q⟩
 have fresh:∀ {T':Addr},s1.heap.objs.size<=T'->X.s₀.heap.objs.size<=T'/\H T'=none/\∀ p∈X.pn++pins,p.1≠T':=fun {T'} h=>⟨le_trans J1.sz h,J1.hok.fresh h,fun p hp z=>by
  have:=(J1.pin p hp).1;rw [z] at this;exact absurd (lt_size this) (not_lt.mpr h)⟩
 rcases ob with ⟨o,vs,he,hc,hd,hda,h1⟩ | ⟨T,fl,c2,hT1,hT2,hT3,ht,hfl⟩
 ·have el:=nloc he hda
  refine Jg (E:=cameBackBy (model X.prog X.w) X.A X.env (Xa X E)) hfr hl hstk.2 he hkb hen hda h1 fun h' T' z0 z1 z2 z3 z4 z5=>?_
  rw [hc,hd] at z3;exact Z7r (s:={ s1 with heap:=h' }) hstk.2 z1 z2 z3 fun h2 y1 y2 y3 y4=>after h2 T' _ [e] (fresh z0) y3 (M0 z4 z0 y4) fun b hb=>by rw [mem_singleton.mp hb];exact ⟨un,lo,el.1,el.2,pe⟩
 ·obtain ⟨oe,ve,oT,ts,g1,g2,g3,g4,g5,g6,g7,g8,g9,g10⟩:=id ht
  have el:=nloc g1 g4;have eT:=nloc g8 g9;rcases hfl with hfl | hfl
  ·subst hfl
   refine B4 (E:=cameBackBy (model X.prog X.w) X.A X.env (Xa X E)) hfr hl hstk.2 ht hkb hen fun h' T' z0 z1 z2 z3 z4 z5=>?_
   refine Z7r (s:={ s1 with heap:=h' }) hstk.2 z1 z2 z3 fun h2 y1 y2 y3 y4=>after h2 T' _ [e,T] (fresh z0) y3 (M0 z4 z0 y4) fun b hb=>?_
   rcases mem_cons.mp hb with e1 | e1
   ·rw [e1];exact ⟨un,lo,el.1,el.2,pe⟩
   ·rw [mem_singleton.mp e1];exact ⟨hT2,hT1,eT.1,eT.2,hT3⟩
  ·subst hfl
   exact Zcp hstk.2 hkb hl ht fun h2 y1 y2 y3 kp=>after h2 T _ [T] ⟨hT1,hT2,hT3⟩ y3 kp fun b hb=>by rw [mem_singleton.mp hb];exact ⟨hT2,hT1,eT.1,eT.2,hT3⟩
theorem Zbp {X:Cx} {E:XK} (hstk:X.stack=X.env::X.outer/\X.env.frame=some X.env.locals):PassesOwn (model X.prog X.w) X.A X.env (Xa X E):=fun e s h=>Z1n rfl hstk e s h
end L2
namespace L2
open PySem PySem.Spec PyProof.Rows
theorem Z0k {P:Program} {w:World} {K:PySem.W.Frag} {mg:Str->Option Value} {base:Heap} {N:List Str} {qual:Str} {scope:Scope} {f:Addr} {cd:Value} {A:Around} {outer:List Env} {s:Shared} {H:Hp} {E:XK} {pins:List (Addr×Obj)} {σ:St} {H':Hp} {s':Shared} {e C T:Addr} {dct:Option Addr} {c2:Option Value}
  (I:Inv (Qd (B9 P w base) P w K mg base N qual scope f cd A outer s H E) pins σ H' s') (lo:s.heap.objs.size<=e) (un:H' e=none) (hT:s.heap.objs.size<=T) (hTn:H' T=none) (ht:Ez s'.heap base e T (.ref C,c2) dct (rawInt s.heap.objs.size)) (hnw:Oa H H' dct) (q:E (.ref C) dct H') :
  (Qd (B9 P w base) P w K mg base N qual scope f cd A outer s H E).xe (.ref e) s':=by
 have hl:s'.heap.FunFrames base (envOfC qual scope s.heap.objs.size f cd::outer):=I.stack;have hkb:base.StaysIn s'.heap:=I.bk;have bs:Un (Sk outer) [] H H' s.heap s'.heap:=I.base;have hfree:∀ b∈Sk (envOfC qual scope s.heap.objs.size f cd::outer),H' b=none:=I.stkFree;refine Fz (env:=envOfC qual scope s.heap.objs.size f cd) rfl hkb hl ht fun h' z1 z2 z3 kp=>?_
 have hch:∀ b∈[T],H' b=none/\s.heap.objs.size<=b:=fun b hb=>by rw [mem_singleton.mp hb];exact ⟨hTn,hT⟩
 have ncb:∀ {b:Addr} {o:Obj},s.heap.get? b=some o->b∉[T]:=fun {b o} q z=>absurd (lt_size q) (not_lt.mpr (hch b z).2)
 have nfr:∀ {b:Addr} {o:Obj},s.heap.get? b=some o->b∉Sk outer->b∉Sk (envOfC qual scope s.heap.objs.size f cd::outer):=fun {b o} q n z=>by
  rcases mem_cons.mp (I.stkSub b z) with e1 | e1
  ·have:b=s.heap.objs.size:=e1
   exact absurd (lt_size q) (by rw [this];exact lt_irrefl _)
  ·exact n e1
 refine ⟨e,C,dct,T,H',c2,rfl,I.os,I.bare,⟨?_,?_,?_,?_,bs.tups,bs.frzs,bs.tbls⟩,J7 I.hok kp (fun b z=>(hch b z).1) hfree,lo,hT,un,hTn,z3,(fun z=>nomatch z),hnw,q⟩
 ·exact fun b o q n hf hx=>(kp b o (bs.keep b o q n hf hx) (ncb q)).1 (nfr q hf)
 ·intro b o q n hf hx
  obtain ⟨sl,z⟩:=bs.slot b o q n hf hx;obtain ⟨sl',z'⟩:=(kp b _ z (ncb q)).2;exact ⟨sl',z'⟩
 ·exact fun b o q n hx=>bs.free b o q n hx
 ·intro b o q hx
  obtain ⟨o',z⟩:=bs.there b o q hx;obtain ⟨sl,z'⟩:=(kp b o' z (ncb q)).2;exact ⟨_,z'⟩
theorem Z16 {P:Program} {w:World} {K:PySem.W.Frag} {mg:Str->Option Value} {base:Heap} {N:List Str} {qual:Str} {scope:Scope} {f:Addr} {cd:Value} {A:Around} {outer:List Env} {s:Shared} {H:Hp} {E:XK} {v:Value} {s':Shared}
  (h:Xa (Qd (B9 P w base) P w K mg base N qual scope f cd A outer s H E) E v s'):(Qd (B9 P w base) P w K mg base N qual scope f cd A outer s H E).xe v s':=by
 obtain ⟨e,C,dct,pins,σ,H',rfl,J,lo,un,pe,ob,hnw,q⟩:=h;rcases ob with ⟨o,vs,a1,a2,a3,a4,a5⟩ | ⟨T,fl,c2,h1,h2,h3,h4,h5 | h5⟩
 ·exact Hx J ⟨lo,un,.inl ⟨o,vs,a1,a2,a3,a4,a5,fun z=>nomatch z⟩,pe⟩ rfl hnw q
 ·subst h5
  exact Hx J ⟨lo,un,.inr ⟨T,c2,h1,h2,h3,h4,fun z=>nomatch z⟩,pe⟩ rfl hnw q
 ·subst h5
  exact Z0k J lo un h1 h2 h4 hnw q
theorem Sm.wishE {X:Cx} {E:Value->Shared->Prop} {st:List Stmt} {t:TS} (h:Sm (X.wish E) st t) (he:∀ v s,E v s->X.xe v s):Sm X st t:=fun pins s σ H D I hw =>
 wpAny_mono (h pins s σ H D (I.wish _) hw) (fun _ _ q=>q.unwish) he
section
variable {P:Program} {w:World} {K:PySem.W.Frag} {mg:Str->Option Value} {base:Heap}
abbrev cxL (P:Program) (w:World) (K:PySem.W.Frag) (mg:Str->Option Value) (base:Heap) (N:List Str) (qual:Str) (scope:Scope) (f:Addr) (cd:Value) (A:Around) (outer:List Env) (s:Shared) (H:Hp) (E:XK):Cx :=
 (Qd (B9 P w base) P w K mg base N qual scope f cd A outer s H E).wish (Xa (Qd (B9 P w base) P w K mg base N qual scope f cd A outer s H E) E)
theorem Z15 {fr:Bool} {N:List Str} {qual:Str} {scope:Scope} {f:Addr} {cd:Value} {A:Around} {outer:List Env} {s:Shared} {H:Hp} {E:XK} {p:Nat} {g:Ev->Fl} {ds:List Dat} {R:AS} {vs:List V} {Q:VK} (hp:p<=N.length) (mu:U4 R H) (r:Wg K (av H R) ds vs)
  (q:Ar K fr R H Q E (Wd N.length p g ds)) :
  tS fr (cxL P w K mg base N qual scope f cd A outer s H E) g (Ends.mk (fun _ H'=>Q .non H') Q (fun _ _=>False) (fun _ _=>False)) (start N vs) H:=by
 unfold Wd at q;split at q
 ·rename_i hl
  refine ⟨Tx N.length ds,⟨H,R,true⟩,R,Ip mu r (by lia),rfl,?_⟩;split at q
  ·rename_i d' e
   rw [e];exact fun v H' s r n=>q v H' s r n
  ·rename_i env e
   rw [e];exact fun A' H' σ' s k=>q .non H' k.h0 K3 (fun _ ds e=>by cases e)
  ·rename_i env c fs e
   rw [e];exact fun A' H' σ' st k pins s' e C dct I hc x hf hnw=>XSt.lie (I.unwish) ⟨x.lo,x.un,x.ob,x.pe⟩ hnw (q C dct H' k.h0 hc (hf.mono (Tg k.ra)))
  ·exact q.elim
 ·exact q.elim
theorem Z4b {x:Str} {st:Stmt} {N ps:List Str} {k:Nat} {fr:Bool} {g:Ev->Fl} (D:Def K mg x st) (S:FnScope N ps (Z8 st))
  (hbi:∀ (kV doc pm:Value) (an:Option Addr) (cdv ct:Value) (us:List Value),us.length=ps.length->bindArgs (fnOf x x (Wt st) (Yf st) (Z8 st) .none kV doc pm an cdv ct) ⟨us,[]⟩=pure (ps.zip us))
  (hb:∀ (f:Addr) (cdv:Value) (A:Around) (outer:List Env) (s:Shared) (H:Hp) (E:XK),Room k (A.deeper (envOfC x (Z8 st) s.heap.objs.size f cdv))->Lp fr (cxL P w K mg base N x (Z8 st) f cdv A outer s H E) (Yf st) g) :
  CalX P w K mg base (k+1) x ps fr (Wd N.length ps.length g):=by
 have hpl:ps.length<=N.length:=by have:=congrArg List.length S.pre;rw [length_take] at this;lia
 obtain ⟨f,fd,F,hm⟩:=D.ex;refine ⟨⟨f,fd,F.okX S (fun vs H Q E h=>h.1) fun cdv A outer s H vs Q E hr ⟨hl,ds,R,mu,r,q⟩=>⟨_,Sm.wishE (hb f cdv A outer s H E hr) fun v s' z=>Z16 z,?_⟩,hm,F.kp,F.binds hbi⟩,fun ds h=>Nc h⟩;exact Z15 hpl mu r q
theorem Z33 {N:List Str} {qual:Str} {scope:Scope} {f:Addr} {cd:Value} {A:Around} {outer:List Env} {s:Shared} {H:Hp} {E:XK} :
  PassesOwn (model P w) (cxL P w K mg base N qual scope f cd A outer s H E).A (cxL P w K mg base N qual scope f cd A outer s H E).env (cxL P w K mg base N qual scope f cd A outer s H E).xe :=
 Zbp (X:=Qd (B9 P w base) P w K mg base N qual scope f cd A outer s H E) ⟨rfl,rfl⟩
end
section
variable {X:Cx}
def Z68:V->List V->Hp->VK->Prop:=fun x vs H Q=>∃ l xs i y,x=.ref l/\vs=[.int i,y]/\H l=some (.lst xs)/\0<=i/\i<=xs.length/\xs.length<sizeLine/\Q .non (W4 H l (.lst (xs.take i.toNat++y::xs.drop i.toNat)))
theorem N8:∀ {vs:List V} {us:List Value} (n:Nat),Y3 vs us->Y3 (vs.take n) (us.take n)
 | _,_,0,_=>by simp;exact .nil
 | [],us,n+1,h=>by cases h;exact .nil
 | v::vs,us,n+1,h=>by cases h with | cons a b=>exact .cons a (N8 n b)
theorem Lz:∀ {vs:List V} {us:List Value} (n:Nat),Y3 vs us->Y3 (vs.drop n) (us.drop n)
 | _,_,0,h=>h
 | [],us,n+1,h=>by cases h;exact .nil
 | v::vs,us,n+1,h=>by cases h with | cons a b=>exact Lz n b
theorem Z18:MtM X "list.insert" Z68:=by
 intro pins s σ H x vs v us Q I rx rv h;obtain ⟨l,xs,i,y,rfl,rfl,hH,h0,h1,hz,q⟩:=h;cases rx;cases rv with
 | cons r1 r2 =>
  cases r2 with
  | cons ru r3 =>
   cases r3;obtain ⟨t,rfl⟩:=r1;rename_i u;obtain ⟨z,its,n,r,hl,e⟩:=I.lstM hH;have hfit:¬ (!Builtin.List.listFitsIndex i)=true:=by
    have:(sizeLine:Nat)<2^62:=by decide
    rw [fitsIndex_both (by lia) (by lia)]
    decide
   refine call_meets F.slot_list_insert ⟨_,e,rfl⟩ F.entry_list_insert (F.args_list_insert_3 _ _ _) (AutoSeq1.list_insert_list_int_val_1 l its.toArray n i t u hfit (by rw [size_toArray];lia)) ⟨e,?_⟩;refine ⟨.non,_,I.lset (its':=its.take i.toNat++u::its.drop i.toNat) hH e ?_ ((N8 _ r).append (.cons ru (Lz _ r))) ?_,rfl,q⟩
   ·apply Array.toList_inj.mp
    have hm:(if i<0 then (i+(its.toArray.size:Int)).toNat else min i.toNat its.toArray.size)=i.toNat:=by
     rw [if_neg (by lia),size_toArray,Nat.min_eq_left (by lia)]
    show ((its.toArray.extract 0 (if i<0 then (i+(its.toArray.size:Int)).toNat else min i.toNat its.toArray.size)).push u++its.toArray.extract (if i<0 then (i+(its.toArray.size:Int)).toNat else min i.toNat its.toArray.size)).toList=_;rw [hm];simp [List.extract];exact take_of_length_le (by rw [length_drop];lia)
   ·rw [length_append,length_cons,length_take,length_drop]
    lia
def Rx:List Dat->List Dat->Option (List Dat)
 | ds,[.int i,d]=>if 0<=i/\i<=ds.length/\ds.length<sizeLine then some (ds.take i.toNat++d::ds.drop i.toNat) else none
 | _,_=>none
theorem Im:MtU X "list.insert" Rx:=MtR.weak (id:="list.insert") Z18 fun v us H Q zz=>by
 obtain ⟨A,a,vs,ds,as,ds',mu,e1,h1,r1,r2,e2,q⟩:=zz;unfold Rx at e2;split at e2
 ·rename_i i d
  split at e2
  ·rename_i hl
   cases e2;obtain ⟨w,us',e3,r3,e4⟩:=r2;obtain ⟨w2,us2,e5,r5,e6⟩:=e4;have hw:w=.int i:=(Rm.pk r3).int;have hlen:=Zy r1;refine ⟨a,vs,i,w2,e1,by rw [e3,e5,show us2=[] from e6,hw],h1,hl.1,by rw [hlen];exact hl.2.1,by rw [hlen];exact hl.2.2,q _ _ (by rw [length_append,length_cons,length_take,length_drop];lia) (V9 (Iy _ r1) (Us r5 (Ko _ r1)))⟩
  ·cases e2
 ·cases e2
def Z8u (c:Int):Value->Bool
 | .int z _=>z==c
 | _=>false
theorem Ob:∀ {ns:List Int} {us:List Value},Y3 (ns.map V.int) us->∀ (j:Nat) (h:j<us.length) (h':j<ns.length),∃ t,us[j]=.int ns[j] t
 | [],us,r,j,h,h'=>by simp at h'
 | n::ns,us,r,j,h,h'=>by
  rw [map_cons] at r;cases r with
  | cons r1 r2 =>
   obtain ⟨t,e⟩:=r1;subst e;cases j with
   | zero=>exact ⟨t,rfl⟩
   | succ j=>exact Ob r2 j (by simpa using h) (by simpa using h')
theorem Zah {ns:List Int} {us:List Value} (r:Y3 (ns.map V.int) us) {y:Value} (h:y∈us):∃ z t,y=.int z t:=by
 obtain ⟨j,hj,rfl⟩:=List.getElem_of_mem h;have hl:=r.length;rw [length_map] at hl;obtain ⟨t,e⟩:=Ob r j hj (by lia);exact ⟨_,t,e⟩
theorem Z09:MtR X "list.index" (fun x vs H Q=>∃ (p:Addr) (zs:List Int) (c:Int),x=.ref p/\vs=[.int c]/\Mu X.K H p (zs.map V.int)/\c∈zs/\Q (.int ((zs.idxOf c:Nat):Int)) H):=by
 intro pins s σ H x vs v us Q I rx rs h;obtain ⟨p,zs,c,rfl,rfl,hq,hm,q⟩:=h;cases rx;obtain ⟨u',rfl,ru⟩:=Qy rs;obtain ⟨u,rfl⟩:=ru;obtain ⟨its,r',pl,hz⟩:=I.list hq;obtain ⟨⟨cls,dd,data,sl⟩,ho,hc,n,hd⟩:=pl.isList;simp only at hc hd;subst hc hd;have hlen':=r'.length;rw [length_map] at hlen' hz;have hj:zs.idxOf c<zs.length:=List.idxOf_lt_length_iff.mpr hm;have hsl:sizeLine<2^63 - 1:=by decide
 refine call_meets PySem.F.slot_list_index ⟨_,ho,rfl⟩ PySem.F.entry_list_index (PySem.F.args_list_index_2 _ _) (SeqAt.list_indexAt p _ n dd sl (.int c u) (Z8u c) (zs.idxOf c) (by simpa [← hlen'] using hj) (by lia) ?_ ?_) ⟨ho,fun y hy=>?_,⟨.int _,H,I.tok _,⟨_,rfl⟩,q⟩⟩
 ·obtain ⟨t,e⟩:=Ob r' (zs.idxOf c) (by lia) hj
  show Z8u c (its[zs.idxOf c]'(by lia))=true;rw [e];show (zs[zs.idxOf c]==c)=true;simpa using List.getElem_idxOf hj
 ·intro j hjs hlt
  have hjb:j<zs.length:=by lia
  obtain ⟨t,e⟩:=Ob r' j (by lia) hjb;show Z8u c (its[j]'(by lia))=false;rw [e];show (zs[j]==c)=false;have:=List.not_of_lt_findIdx (xs:=zs) (p:=(·==c)) (i:=j) (by simpa [List.idxOf] using hlt);simpa using this
 ·obtain ⟨z,t,rfl⟩:=Zah r' (by simpa using hy)
  exact SeqAt.EqAt.int_int z t c u
def Kw:Dat->List Dat->Option Dat
 | .lst xs,[.int c]=>(Js xs).bind fun zs=>if c∈zs then some (.int ((zs.idxOf c:Nat):Int)) else none
 | _,_=>none
theorem Pl:MtD X "list.index" Kw:=Z09.weak fun v vs H Q zz=>by
 obtain ⟨A,x,ds,d,mu,e,p,ps,q⟩:=zz;unfold Kw at e;split at e
 ·rename_i xs c
  obtain ⟨l,us,e2,h1,r1⟩:=p.lst;obtain ⟨v1,e3,p1⟩:=ps.one;obtain ⟨zs,hy,e⟩:=bind_some e;split at e
  ·rename_i hc
   cases e;rw [Rb hy] at r1;have eu:=U9 r1;subst eu;exact ⟨l,zs,c,e2,by rw [e3,p1.int],h1.sq,hc,q.here Wb⟩
  ·cases e
 ·cases e
end
section
variable {fr m:Bool} {X:Cx} {e:Expr} {f fa fb:Ev->Option Dat} {pos:Pos}
end
theorem EnvOk.gx {K:PySem.W.Frag} {B:Bs} {A:AS} {H:Hp} {σ:St} {env:Ev} {i:Nat} {g:GX} (k:EnvOk K B A H σ env) (hst:B.st=true) (h:env[i]?=some (.gx g)) :
  ∃ (v:V) (o:Addr->Prop),σ[i]?=some (some v)/\GOk K A H o g v/\(∀ b,o b->A b=true/\B.H₀ b=none) /\
   ∀ (b:Addr) (O:HO) (g':GX),o b->Mtb (some O)->GOk K A (W4 H b O) o g' v->Step A H A (W4 H b O)/\EnvOk K B A (W4 H b O) σ (env.set i (.gx g')):=by
 obtain ⟨own,h1,h2,h4⟩:=k.sl;obtain ⟨x,q1,v,e1,e2⟩:=h4 i _ h;subst e1;have hb0:∀ b,own i b->A b=true/\B.H₀ b=none:=fun b ob=>by
  obtain ⟨hA,hR⟩:=h2 i b ob;refine ⟨hA,?_⟩;rcases k.ar b hA with z | z
  ·rw [z] at hR;cases hR
  ·exact z
 refine ⟨v,own i,q1,e2,hb0,fun a O g' oa hO hg=>?_⟩;obtain ⟨hA,h0⟩:=hb0 a oa;have avs:Zo (av H A) (av (W4 H a O) A):=fun b o e=>by
  obtain ⟨z1,z2⟩:=Wf e;have hb:b≠a:=by intro z;rw [z,hA] at z1;cases z1
  exact Wl (by rw [Zh hb];exact z2) z1
 refine ⟨⟨fun b o hb hAb=>?_,fun b hb=>.inl hb⟩,?_⟩
 ·have hn:b≠a:=by intro z;rw [z,hA] at hAb;cases hAb
  rw [Zh hn];exact hb
 ·refine ⟨fun b o hb=>?_,k.r0,k.ra,k.ar,fun b hb=>?_,by rw [length_set];exact k.len,fun hs j d'=>M7 (k.np hs) (fun _ z=>by cases z) j d',own,h1,h2,fun j s e=>?_⟩
  ·have hn:b≠a:=Y4 hb h0
   rw [Zh hn];exact k.h0 b o hb
  ·by_cases hn:b=a
   ·subst hn;rw [Zs];exact hO
   ·rw [Zh hn];exact k.mu b hb
  ·by_cases hj:i=j
   ·subst hj
    rw [getElem?_set,if_pos rfl] at e;split at e
    ·cases e
     exact ⟨_,q1,v,rfl,hg⟩
    ·cases e
   ·rw [getElem?_set,if_neg hj] at e
    obtain ⟨x,p1,p2⟩:=h4 j s e;refine ⟨x,p1,?_⟩;cases s with
    | un=>trivial
    | fz d=>obtain ⟨v,z1,z2⟩:=p2;exact ⟨v,z1,z2.mono avs⟩
    | pk d=>exact absurd e (k.np hst j d)
    | ow es =>
     obtain ⟨b,us,z1,z2,z3,z4,z5⟩:=p2;have hn:b≠a:=fun z=>hj (h1 i j a oa (z▸z2))
     exact ⟨b,us,z1,z2,z3,by rw [Zh hn];exact z4,z5.mono avs⟩
    | gx g2 =>
     obtain ⟨w,z1,z2⟩:=p2;exact ⟨w,z1,z2.frame (fun _ z=>z) (fun b x ob z=>by
      have hn:b≠a:=fun y=>hj (h1 i j a oa (y▸ob))
      rw [Zh hn];exact z) avs⟩
def Ll (A:AS) (S:Addr->Bool):AS:=fun b=>A b||S b
theorem EnvOk.putG {K:PySem.W.Frag} {B:Bs} {A:AS} {H H':Hp} {σ:St} {env:Ev} (k:EnvOk K B A H σ env) (hst:B.st=true) (i:Nat) {g:GX} {v:V} {S:Addr->Bool} (s:Zo H H') (hn:∀ p,S p=true->H p=none) (hm:∀ p,S p=true->Mtb (H' p)) (r:GOk K (Ll A S) H' (fun b=>S b=true) g v) :
  Step A H (Ll A S) H'/\EnvOk K B (Ll A S) H' (σ.set i (some v)) (env.set i (.gx g)):=by
 have or_of:∀ {b},Ll A S b=true->A b=true\/S b=true:=fun {b} h=>by unfold Ll at h;rw [Bool.or_eq_true] at h;exact h
 have inl_of:∀ {b},A b=true->Ll A S b=true:=fun {b} h=>by unfold Ll;rw [h];rfl
 have inr_of:∀ {b},S b=true->Ll A S b=true:=fun {b} h=>by unfold Ll;rw [h,Bool.or_true]
 have st:Step A H (Ll A S) H':=⟨fun a o h _=>s a o h,fun a h=>(or_of h).imp id fun z=>hn a z⟩;have hAp:∀ p,S p=true->A p=false:=fun p hp=>k.mu.new (hn p hp)
 have h0:∀ p,S p=true->B.H₀ p=none:=fun p hp=>k.h0.free (hn p hp)
 obtain ⟨own,h1,h2,h4⟩:=k.sl;refine ⟨st,k.h0.trans s,k.r0,fun a h=>inl_of (k.ra a h),fun a h=>?_,fun a h=>?_,by rw [length_set,length_set];exact k.len,fun hs j d'=>M7 (k.np hs) (fun _ z=>by cases z) j d',
  fun j a=>(j≠i/\own j a)\/(j=i/\S a=true),fun j j' a z z'=>?_,fun j a z=>?_,fun j sl e=>?_⟩
 ·rcases or_of h with z | z
  ·exact k.ar a z
  ·exact .inr (h0 a z)
 ·rcases or_of h with z | z
  ·exact k.mu.mono s a z
  ·exact hm a z
 ·rcases z with z | z<;>rcases z' with z' | z'
  ·exact h1 j j' a z.2 z'.2
  ·have:=(h2 j a z.2).1;rw [hAp a z'.2] at this;cases this
  ·have:=(h2 j' a z'.2).1;rw [hAp a z.2] at this;cases this
  ·rw [z.1,z'.1]
 ·rcases z with z | z
  ·exact ⟨inl_of (h2 j a z.2).1,(h2 j a z.2).2⟩
  ·refine ⟨inr_of z.2,?_⟩
   cases q:B.R a with
   | false=>rfl
   | true=>obtain ⟨o,ho⟩:=k.r0 a q;rw [h0 a z.2] at ho;cases ho
 ·by_cases hj:i=j
  ·subst hj
   rw [getElem?_set,if_pos rfl] at e;split at e
   ·rename_i hl
    cases e;exact ⟨some v,by rw [getElem?_set,if_pos rfl,if_pos (by rw [k.len];exact hl)],v,rfl,r.frame (fun _ z=>.inr ⟨rfl,z⟩) (fun _ _ _ z=>z) (Zo.refl _)⟩
   ·cases e
  ·rw [getElem?_set,if_neg hj] at e
   obtain ⟨x,p1,p2⟩:=h4 j sl e;refine ⟨x,by rw [getElem?_set,if_neg hj];exact p1,?_⟩;cases sl with
   | un=>trivial
   | fz d=>obtain ⟨v,z1,z2⟩:=p2;exact ⟨v,z1,z2.mono st.av⟩
   | pk d=>exact absurd e (k.np hst j d)
   | ow es =>
    obtain ⟨b,us,z1,z2,z3,z4,z5⟩:=p2;exact ⟨b,us,z1,.inl ⟨Ne.symm hj,z2⟩,z3,s _ _ z4,z5.mono st.av⟩
   | gx g2 =>
    obtain ⟨w,z1,z2⟩:=p2;exact ⟨w,z1,z2.frame (fun _ z=>.inl ⟨Ne.symm hj,z⟩) (fun b x _ z=>s b x z) st.av⟩
section
variable {fr m:Bool} {X:Cx} {e ix:Expr} {f fa:Ev->Option Dat} {fs:Ev->Option (List Dat)} {pos:Pos}
def Ss (dss:List (List Dat)) (k:Int):Option (List Dat):=if 0<=k then dss[k.toNat]? else none
def Cz (i:Nat) (fa:Ev->Option Dat):Ev->Option Dat:=fun env=>match env[i]?,fa env with
 | some (.gx (.nest dss)),some (.int k)=>(Ss dss k).map .lst
 | _,_=>none
theorem EnvOk.nest {K:PySem.W.Frag} {B:Bs} {A:AS} {H:Hp} {σ:St} {env:Ev} {i:Nat} {dss:List (List Dat)} (k:EnvOk K B A H σ env) (h:env[i]?=some (.gx (.nest dss))) :
  ∃ (a:Addr) (as:List Addr),σ[i]?=some (some (.ref a))/\H a=some (.lst (as.map V.ref))/\as.length=dss.length/\∀ (n:Nat) b ds,as[n]?=some b->dss[n]?=some ds->ds.length<=sizeLine/\∃ vs,H b=some (.lst vs)/\Wg K (av H A) ds vs:=by
 obtain ⟨own,h1,h2,h4⟩:=k.sl;obtain ⟨x,q1,v,e1,a,as,e2,e3,e4,e5,e6,e7,e8,e9⟩:=h4 i _ h;subst e1 e2;exact ⟨a,as,q1,e5,e6,fun n b ds z1 z2=>⟨(e9 n b ds z1 z2).2.1,(e9 n b ds z1 z2).2.2⟩⟩
theorem Gg {dss:List (List Dat)} {k:Int} {ds:List Dat} (h:Ss dss k=some ds):0<=k/\dss[k.toNat]?=some ds/\k=((k.toNat:Nat):Int):=by
 unfold Ss at h;split at h
 ·rename_i h0;exact ⟨h0,h,(Int.toNat_of_nonneg h0).symm⟩
 ·cases h
theorem Zci (i:Nat) {x:Str} {p:Pos} (ha:We true X ix fa) (hpl:Hj ix)
  (hN:X.N[i]?=some x:=by rfl) (hv:Al X.env.scope x:=by first | exact Or.inl rfl | exact Or.inr (Or.inl rfl) | exact Or.inr (Or.inr rfl)) (hd:(x==("__debug__" : Str))=false:=by decide) (hcd:(x==("__classdict__" : Str))=false:=by decide) :
  We true X (.Subscript (.Name x p) ix pos) (Cz i fa):=PE.weak (Z39 Oy (Q3 hN hv hd hcd) ha hpl) fun σ H Q zz=>by
 obtain ⟨env,B,A,d,k,e,q⟩:=zz;unfold Cz at e;split at e
 ·rename_i dss n e1 e2
  obtain ⟨ds,e3,e4⟩:=map_some e;subst e4;obtain ⟨h0,e5,e6⟩:=Gg e3;obtain ⟨a,as,h1,h2,h3,h4⟩:=k.nest e1;refine ⟨.ref a,h1,env,B,A,.int n,k,e2,fun w H2 s2 r2=>?_⟩;have hw:w=.int n:=(Rm.pk r2).int;have hlt:n.toNat<as.length:=by rw [h3];exact (List.getElem?_eq_some_iff.mp e5).1
  obtain ⟨hz,vs,g1,g2⟩:=h4 n.toNat _ ds (getElem?_eq_getElem hlt) e5;refine ⟨a,as.map V.ref,n,.ref as[n.toNat],rfl,hw,Mu.of (s2 _ _ h2),?_,q _ _ s2 (.inr (.inl ⟨_,vs,ds,rfl,rfl,hz,s2 _ _ g1,g2.mono (Ws s2)⟩))⟩;have hat:Lr (as.map V.ref) ((n.toNat:Nat):Int)=some (.ref as[n.toNat]):=De (by rw [getElem?_map,getElem?_eq_getElem hlt];rfl)
  rwa [← e6] at hat
 ·cases e
def Gm (i:Nat) (fa:Ev->Option Dat) (fs:Ev->Option (List Dat)):Ev->Fl:=fun env=>match env[i]?,fa env with
 | some (.gx (.nest dss)),some (.int k)=>match Ss dss k with
  | some ds=>match (fs env).bind fun as=>Wn ds as with
   | some ds'=>.next (env.set i (.gx (.nest (dss.set k.toNat ds'))))
   | none=>.no
  | none=>.no
 | _,_=>.no
theorem Oz (i:Nat) {x:Str} {es:List Expr} {p p2 apos cpos:Pos} (ha:We true X ix fa) (hpl:Hj ix) (hb:Lb false X (e::es) fs)
  (hN:X.N[i]?=some x:=by rfl) (hv:Al X.env.scope x:=by first | exact Or.inl rfl | exact Or.inr (Or.inl rfl) | exact Or.inr (Or.inr rfl)) (hd:(x==("__debug__" : Str))=false:=by decide) (hcd:(x==("__classdict__" : Str))=false:=by decide)
  (hsw:swapsWith (.Call (.Attribute (.Subscript (.Name x p) ix p2) "append" apos) (e::es) [] cpos) none pos.line X.env=pure false:=by rfl)
  (hbase:attributeBase (.Subscript (.Name x p) ix p2) "append" X.env (eval (.Subscript (.Name x p) ix p2) X.env)=eval (.Subscript (.Name x p) ix p2) X.env:=by rfl)
  (hfew:((backTo cpos (starEach (e::es) X.env)).all (fun x=>!x.1)&&(backToKw cpos (keywordEach [] X.env)).all (fun x=>x.1.isSome)
   && decide ((e::es).length+([]:List Keyword).length+(if ([]:List Keyword).isEmpty then 0 else 1)<30))=true:=by rfl)
  (hline:(apos.endLine==cpos.line)=true:=by rfl) (hs:starEach (e::es) X.env=(false,eval e X.env)::starEach es X.env:=by rfl) (hplain:(backTo cpos (starEach es X.env)).any (·.1)=false:=by rfl) :
  Su fr X (.Expr (.Call (.Attribute (.Subscript (.Name x p) ix p2) "append" apos) (e::es) [] cpos) pos) (Gm i fa fs):=(S9 (Bq PySem.F.plainAttrs_list PySem.F.slot_list_append PySem.F.type_list_append (id:="list.append") Ej (Z39 Oy (Q3 hN hv hd hcd) ha hpl) hb hbase hfew hline hs hplain) hsw).weak fun D σ H zz=>by
 obtain ⟨env,B,A,k,hst,q⟩:=zz;unfold Gm at q;split at q
 ·rename_i dss n e1 e2
  split at q
  ·rename_i ds e3
   split at q
   ·rename_i ds' e4
    obtain ⟨as0,e5,e6⟩:=bind_some e4;obtain ⟨h0,e7,e8⟩:=Gg e3;obtain ⟨a,as,h1,h2,h3,h4⟩:=k.nest e1;refine ⟨.ref a,h1,env,B,A,.int n,k,e2,fun w H2 s2 r2=>?_⟩;have hw:w=.int n:=(Rm.pk r2).int;have hlt:n.toNat<as.length:=by rw [h3];exact (List.getElem?_eq_some_iff.mp e7).1
    obtain ⟨hz,vs,g1,g2⟩:=h4 n.toNat _ ds (getElem?_eq_getElem hlt) e7;refine ⟨a,as.map V.ref,n,.ref as[n.toNat],rfl,hw,Mu.of (s2 _ _ h2),?_,.inl ⟨rfl,vs,Mu.of (s2 _ _ g1)⟩,env,B,A,as0,k.mono s2,e5,fun us H3 s3 rs=>?_⟩
    ·have hat:Lr (as.map V.ref) ((n.toNat:Nat):Int)=some (.ref as[n.toNat]):=De (by rw [getElem?_map,getElem?_eq_getElem hlt];rfl)
     rwa [← e8] at hat
    have k3:=k.mono (s2.trans s3);obtain ⟨v,o,m1,m2,m3,m4⟩:=k3.gx hst e1;rw [h1] at m1;cases m1;obtain ⟨a',as',z1,z2,z3,z4,z5,z6,z7,z8⟩:=m2;cases z1;have eas:as'.map V.ref=as.map V.ref:=by
     have:=(s2.trans s3) _ _ h2;rw [z4] at this;exact HO.lst.inj (Option.some.inj this)
    have eas2:as'=as:=by
     have hinj:∀ (l1 l2:List Addr),l1.map V.ref=l2.map V.ref->l1=l2:=fun l1=>by
      induction l1 with
      | nil=>intro l2 hl;cases l2 with | nil=>rfl | cons=>cases hl
      | cons y l1 ih =>
       intro l2 hl;cases l2 with
       | nil=>cases hl
       | cons y2 l2=>simp at hl;rw [hl.1,ih l2 (by simpa using hl.2)]
     exact hinj _ _ eas
    subst eas2;obtain ⟨ob,hz2,vs2,g3,g4⟩:=z8 n.toNat _ ds (getElem?_eq_getElem hlt) e7;generalize hbq:as'[n.toNat]=b at *;have hbm:b∈as':=by rw [← hbq];exact getElem_mem hlt
    unfold Wn at e6;split at e6
    ·rename_i d
     split at e6
     ·rename_i hl
      cases e6;obtain ⟨y,us',e9,r3,e10⟩:=rs;have hus:us=[y]:=by rw [e9,show us'=[] from e10]
      refine ⟨b,vs2,y,rfl,hus,g3,by rw [Zy g4];exact hl,?_⟩;have hA:A b=true:=(m3 b ob).1;have avs:Zo (av H3 A) (av (W4 H3 b (.lst (vs2++[y]))) A):=fun c o2 ec=>by
       obtain ⟨y1,y2⟩:=Wf ec;have hc:c≠b:=by intro z;rw [z,hA] at y1;cases y1
       exact Wl (by rw [Zh hc];exact y2) y1
      have hab:a≠b:=fun z=>z7 (z▸hbm)
      have hg:GOk X.K A (W4 H3 b (.lst (vs2++[y]))) o (.nest (dss.set n.toNat (ds++[d]))) (.ref a):=by
       refine ⟨a,as',rfl,z2,by rw [length_set];exact z3,by rw [Zh hab];exact z4,by rw [length_set];exact z5,z6,z7,fun j c es q1 q2=>?_⟩;by_cases hj:n.toNat=j
       ·subst hj
        rw [getElem?_eq_getElem hlt,hbq] at q1;cases q1;rw [getElem?_set,if_pos rfl,if_pos (by rw [← h3];exact hlt)] at q2;cases q2;exact ⟨ob,by rw [length_append,length_singleton];lia,vs2++[y],Zs,V9 (g4.mono avs) (Ji (Rp.mono avs r3))⟩
       ·rw [getElem?_set,if_neg hj] at q2
        obtain ⟨y1,y2,us2,y3,y4⟩:=z8 j c es q1 q2;have hcb:c≠b:=fun z=>by
         obtain ⟨hjl1,hjl2⟩:=List.getElem?_eq_some_iff.mp q1;have:=List.nodup_iff_pairwise_ne.mp z6;rw [List.pairwise_iff_getElem] at this;rcases lt_or_ge n.toNat j with hlt2 | hge2
         ·exact this n.toNat j hlt hjl1 hlt2 (by rw [hbq,hjl2,z])
         ·exact this j n.toNat hjl1 hlt (by lia) (by rw [hbq,hjl2,z])
        exact ⟨y1,y2,us2,by rw [Zh hcb];exact y3,y4.mono avs⟩
      obtain ⟨w1,w2⟩:=m4 b (.lst (vs2++[y])) _ ob trivial hg;exact q A _ σ (((Step.same s2).trans (Step.same s3)).trans w1) w2
     ·cases e6
    ·cases e6
   ·exact q.elim
  ·exact q.elim
 ·exact q.elim
end
section
variable {fr:Bool} {X:Cx} {sc:Scope} {tg iter:Expr} {pos:Pos} {src:Ev->Option (List Dat)} {is:List Nat} {gg:Dat->Ev->Option Ev}
def Ly (i:Nat) (src:Ev->Option (List Dat)) (fs:List (Option Nat)) (gg:Dat->Ev->Option Ev):Ev->Fl:=fun env=>match src env with
 | some ds=>if ds.all (fun d=>(gg d (Te fs env)).isSome)=true then .next (env.set i (.gx (.nest (List.replicate ds.length [])))) else .no
 | none=>.no
theorem Z3c {J:It} {fs:List (Option Nat)} {is:List Nat} {g:Dat->Ev->Option Ev} {σ:St} {H1:Hp} {Q:VK} {K:PySem.W.Frag} {A:AS} {B:Bs} {env:Ev} {ds:List Dat}
  (hfs:∀ i∈is,fs[i]?=some none) (k:EnvOk K B A H1 σ env) (hJ:Ap false K A H1 ds J) (hz:ds.length<=sizeLine) (hc:∀ d∈ds,∃ e',g d (Te fs env)=some e')
  (q:∀ (p:Addr) (as:List Addr) (H':Hp),Zo H1 H'->H1 p=none->H' p=some (.lst (as.map V.ref))->as.length=ds.length->as.Nodup->p∉as->(∀ b∈as,H1 b=none/\H' b=some (.lst []))->Q (.ref p) H') :
  ∃ W:Nat->Nat->List V->Hp->Prop,(∃ m,W 0 m [] H1)/\∀ i m zs H,W i m zs H ->
   (J.stop i H/\zs.length<=sizeLine/\∀ p,H p=none->Q (.ref p) (W4 H p (.lst zs))) \/
   (J.go i H/\zs.length<=sizeLine/\∃ N:List V->Hp->Prop,(∀ ys' H',N ys' H'->∃ m',m'<m/\W (i+1) m' ys' H')/\∀ x H',J.yld i H x H'->(∃ env R A d env',EnvOk K R A H' (Vo fs σ) env/\Rp K (av H' A) d x/\g d env=some env'/\∀ σ',EnvOk K R A H' σ' env'->G8 is (Vo fs σ) σ' ->
    (Ext (Vo fs σ) σ'/\∃ env R A b,EnvOk K R A H' σ' env/\Je env=some b/\∀ H3,Zo H' H3->if b=true then (∀ p,H3 p=none->N (zs++[.ref p]) (W4 H3 p (.lst []))) else N zs H3))):=by
 refine ⟨fun i m zs H=>m=ds.length - i/\i<=ds.length/\Zo H1 H/\∃ as:List Addr,zs=as.map V.ref/\as.length=i/\as.Nodup/\∀ b∈as,H1 b=none/\H b=some (.lst []),
  ⟨ds.length,by simp,zero_le _,Zo.refl _,[],rfl,rfl,nodup_nil,fun b hb=>nomatch hb⟩,?_⟩
 rintro i m zs H ⟨rfl,hi,s1,as,rfl,hal,hnd,has⟩;have hzs:(as.map V.ref).length<=sizeLine:=by rw [length_map];lia
 obtain ⟨hgo,hstop⟩:=hJ A H ⟨rfl,s1⟩ (k.mono s1).mu;by_cases hlt:i<ds.length
 ·have hx:ds[i]?=some ds[i]:=by simp [hlt]
  obtain ⟨go,yl⟩:=hgo i _ hx;obtain ⟨env1,b1⟩:=hc _ (getElem_mem hlt);refine .inr ⟨go,hzs,fun zs' H'=>i+1<=ds.length/\Zo H1 H'/\∃ as:List Addr,zs'=as.map V.ref/\as.length=i+1/\as.Nodup/\∀ b∈as,H1 b=none/\H' b=some (.lst []),
   fun zs' H' h=>⟨ds.length - (i+1),by lia,rfl,h⟩,fun x H' hy=>?_⟩
  obtain ⟨s2,rx⟩:=yl x H' hy;refine ⟨Te fs env,⟨H1,A,false⟩,A,ds[i],env1,(k.inn fs).mono (s1.trans s2),rx,b1,fun σ' k' ag=>⟨⟨ag.1.symm,fun j v ej=>?_⟩,env1,⟨H1,A,false⟩,A,true,k',rfl,fun H3 s3=>?_⟩⟩
  ·have hj:j∉is:=fun hj=>by
    have:=hfs j hj;unfold Vo at ej;rw [getElem?_map,this] at ej;cases ej
   rw [ag.2 j hj];exact ej
  ·rw [if_pos rfl]
   intro p hp;have s4:Zo H1 H3:=(s1.trans s2).trans s3;have hpa:p∉as:=fun z=>by
    have:=(s2.trans s3) _ _ (has p z).2;rw [hp] at this;cases this
   refine ⟨hlt,fun b o hb=>?_,as++[p],by rw [map_append];rfl,by rw [length_append,length_singleton,hal],nodup_append.mpr ⟨hnd,nodup_cons.mpr ⟨by simp,nodup_nil⟩,fun a ha b hb=>by rw [mem_singleton.mp hb];intro z;exact hpa (z▸ha)⟩,fun b hb=>?_⟩
   ·have hn:b≠p:=fun z=>by have:=s4 b o hb;rw [z,hp] at this;cases this
    rw [Zh hn];exact s4 b o hb
   ·rcases mem_append.mp hb with hb | hb
    ·have hn:b≠p:=fun z=>hpa (z▸hb)
     exact ⟨(has b hb).1,by rw [Zh hn];exact (s2.trans s3) _ _ (has b hb).2⟩
    ·rw [mem_singleton.mp hb]
     exact ⟨s4.free hp,Zs⟩
 ·have e:i=ds.length:=by lia
  subst e;refine .inl ⟨hstop,hzs,fun p hp=>q p as _ (fun b o hb=>?_) (s1.free hp) Zs hal hnd (fun z=>by have:=(has p z).2;rw [hp] at this;cases this) fun b hb=>⟨(has b hb).1,?_⟩⟩
  ·have hn:b≠p:=fun z=>by have:=s1 b o hb;rw [z,hp] at this;cases this
   rw [Zh hn];exact s1 b o hb
  ·have hn:b≠p:=fun z=>by have:=(has b hb).2;rw [z,hp] at this;cases this
   rw [Zh hn];exact (has b hb).2
theorem Z3l (i:Nat) {x:Str} {pos' spos lpos:Pos} (hN:X.N.Nodup) (hi':X.N[i]?=some x) (hx:Pq X.env.scope x) (psc:Scope) (fs:List (Option Nat)) (N:List Str) (hp:X.env.scope=psc) (S:CompOk psc sc X.N N fs) (hc:X.calm=true) (hi:PId false X tg iter src)
  (hb:∀ (C:Addr) (s:Shared) (H:Hp) (fp:List Addr),PGd is (Wv X sc N C s H fp) tg gg/\PFd (Wv X sc N C s H fp) [] Je)
  (hfs:∀ i∈is,fs[i]?=some none) (hs:∀ x,foldedSetIterable iter X.env x=pure x:=by intro _;rfl) (hsw:swapsWith (.ListComp (.List [] lpos) [⟨tg,iter,[],0⟩] sc pos) (some (.Name x pos')) spos.line X.env=pure true:=by rfl)
  (hf:X.fn x=true\/X.env.scope.names.lookup x=some .local:=by first | exact .inl rfl | exact .inr rfl | assumption) :
  Su fr X (.Assign [.Name x pos'] (.ListComp (.List [] lpos) [⟨tg,iter,[],0⟩] sc pos) spos) (Ly i src fs gg):=(L5 (g:=fun v σ H Q=>∃ env R A d env',EnvOk X.K R A H σ env/\Rp X.K (av H A) d v/\gg d env=some env'/\∀ σ',EnvOk X.K R A H σ' env'->G8 is σ σ'->Q σ' H) (tt:=fun σ H Q=>∃ env R A b,EnvOk X.K R A H σ env/\Je env=some b/\∀ H',Zo H H'->Q b H') (te:=fun σ H Q=>∀ p,H p=none->Q (.ref p) (W4 H p (.lst []))) hN hi' hx psc fs N hp S hc hi (fun C s H fp=>⟨(hb C s H fp).1,(hb C s H fp).2,(Z2g Q2).weak fun σ H Q h=>⟨zero_le _,h⟩⟩) hs hsw hf).weak fun D σ H zz=>by
 obtain ⟨env,B,A,k,hst,q⟩:=zz;unfold Ly at q;split at q
 ·rename_i ds e
  split at q
  ·rename_i hall
   refine ⟨env,B,A,ds,k,e,fun J H1 hz s1 hJ=>Z3c (Q:=fun v H'=>D.nx (σ.set i (some v)) H') hfs (k.mono s1) hJ hz (fun d hd=>Option.isSome_iff_exists.mp (all_eq_true.mp hall d hd)) fun p as H' s2 hn hp1 hal hnd hpa has=>?_⟩;have h1:=k.putG hst i (g:=.nest (List.replicate ds.length [])) (v:=.ref p) (S:=fun b=>decide (b=p)||decide (b∈as)) (s1.trans s2) (fun b hb=>?_) (fun b hb=>?_) ⟨p,as,rfl,by simp,by rw [length_replicate];exact hz,hp1,by rw [length_replicate];exact hal,hnd,hpa,fun n b es q1 q2=>?_⟩
   ·exact q _ H' _ h1.1 h1.2
   ·rw [Bool.or_eq_true,decide_eq_true_eq,decide_eq_true_eq] at hb
    rcases hb with z | z
    ·rw [z];exact s1.free hn
    ·exact s1.free (has b z).1
   ·rw [Bool.or_eq_true,decide_eq_true_eq,decide_eq_true_eq] at hb
    rcases hb with z | z
    ·rw [z,hp1];trivial
    ·rw [(has b z).2];trivial
   ·have hbm:b∈as:=mem_of_getElem? q1
    have hes:es=[]:=by
     have:=mem_of_getElem? q2;exact (mem_replicate.mp this).2
    subst hes;exact ⟨by simp [hbm],zero_le _,[],(has b hbm).2,U0⟩
  ·exact q.elim
 ·exact q.elim
end
section
variable {X:Cx} {m:Bool}
end
section
variable {prog:Program} {w:World} {A:Around} {E:Value->Shared->Prop} {s:Shared} {z TI TO i1 i2:Addr} {f1 f2:List Addr} {n i:Nat} {P1 P2:Nat->Value->Prop} {S1 S2:Nat->Heap->Prop} {a b:Value}
end
section
variable {st m:Bool} {X:Cx} {l1 l2:Expr} {es:List Expr} {fs:Ev->Option (List Dat)} {tk:Nat} {tpos:Pos}
end
section
variable {prog:Program} {w:World} {A:Around} {E:Value->Shared->Prop} {s:Shared}
theorem X7 {l:Addr} {vs:List Value} {Q:List Value->Shared->Prop} (hl:s.heap.IsTuple l vs.toArray)
  (h:Q vs { s with heap:=(s.heap.push (seqObj "list" #[] 0)).update s.heap.objs.size (Obj.mapSeq (·++vs.toArray)) }) (hsz:vs.length<=sizeLine) :
  wpAny (model prog w) A (collect (.ref l)) Q E s:=by
 obtain ⟨o,ho,hc,n,hd⟩:=id hl;unfold collect;refine wpAny_bind (wpAny_runValue (codeAny_builtin entry_proto_collect' ?_));show wpAny _ _ (do again (.builtin "list.__iadd__" ⟨[← newList [],.ref l],[]⟩)) _ _ s;refine wpAny_bind (wpAny_newList (wpAny_pure ⟨Code.quiet_builtin _ (by decide +kernel),codeAny_builtin entry_list_iadd' ?_⟩));show wpAny _ _ (Builtin.List.listExtendWith (.ref s.heap.objs.size) (.ref l) (.ref s.heap.objs.size)) _ _ { s with heap:=s.heap.push (seqObj "list" #[] 0) };unfold Builtin.List.listExtendWith;have ho':(s.heap.push (seqObj "list" #[] 0)).get? l=some o:=get?_push_of_some _ ho;refine wpAny_bind (wpAny_typeOf (T:="tuple") ⟨o,ho',hc⟩ ?_);have ht:(Value.type "tuple" == Value.type "tuple")=true:=by rfl
 rw [if_pos (by rw [ht];simp)];refine wpAny_bind (listItems_at ho' hd ?_);refine wpAny_bind (listItems_at (xs:=#[]) (n:=0) (get?_push_size _ rfl) rfl ?_);rw [if_neg (by simp)];refine wpAny_bind (listUpdate_at (xs:=#[]) (n:=0) (get?_push_size _ rfl) rfl ?_ (zero_le _) (by show (#[]++vs.toArray).size<=sizeLine+1;simp only [Array.size_append,size_toArray,List.length_nil];lia));refine wpAny_pure ?_;show wpAny (model prog w) A (do
   let o ← load s.heap.objs.size
   match o.data with
   | .seq xs _=>pure xs.toList
   | _=>unsupported "internal:collect") Q E { s with heap:=(s.heap.push (seqObj "list" #[] 0)).update s.heap.objs.size (Obj.mapSeq (·++vs.toArray)) }
 refine wpAny_bind (wpAny_load (get?_update_seq (get?_push_size _ rfl) _) ?_);show wpAny _ _ (pure ((#[]:Array Value)++vs.toArray).toList) Q E _;rw [show ((#[]:Array Value)++vs.toArray).toList=vs by simp];exact wpAny_pure h
theorem A0 {l:Addr} {vs:List Value} {ns:List Int} {Q:Value->Shared->Prop} (hl:s.heap.IsTuple l vs.toArray) (hI:IntsAre vs ns) (h64:vs.length<64)
  (h:∀ (out:Array Value) (ns':List Int),IntsAre out.toList ns'->ns'.Perm ns->ns'.Pairwise (·<=·)->Q (.ref (s.heap.objs.size+1)) { s with heap:=sortedAll s.heap vs out }) :
  wpAny (model prog w) A (call (.builtin "sorted") [.ref l]) Q E s:=by
 refine Calls.call_function_entry kind_sorted plain_sorted entry_sorted (args_sorted1 _) ?_;unfold Builtin.«sorted»;refine wpAny_bind (m:=checkCount "sorted" 1 1 _) (wpAny_pure ?_);refine wpAny_bind (X7 hl ?_ (by rw [sizeLine_eq];lia));refine wpAny_bind (wpAny_newList ?_);have hsz:((s.heap.push (seqObj "list" #[] 0)).update s.heap.objs.size (Obj.mapSeq (·++vs.toArray))).objs.size=s.heap.objs.size+1:=by
  rw [size_update,size_push']
 have hoL:(((s.heap.push (seqObj "list" #[] 0)).update s.heap.objs.size (Obj.mapSeq (·++vs.toArray))).push (seqObj "list" vs.toArray 0)).get? (s.heap.objs.size+1)=some (seqObj "list" vs.toArray 0):=by
  rw [← hsz];exact get?_push_size _ rfl
 show wpAny _ _ _ _ _ { s with heap:=((s.heap.push (seqObj "list" #[] 0)).update s.heap.objs.size (Obj.mapSeq (·++vs.toArray))).push (seqObj "list" vs.toArray 0) };rw [hsz];refine wpAny_bind (wpAny_holding (wpAny_call_entry slot_list_sort ⟨_,hoL,rfl⟩ entry_list_sort (list_sort_tree hoL hI h64 fun out ns' a1 a2 a3=>⟨_,rfl,?_⟩) (args_list_sort _)));exact wpAny_pure ⟨_,rfl,h out ns' a1 a2 a3⟩
end
section
variable {X:Cx}
def Z3f (K:PySem.W.Frag):List V->Hp->VK->Prop:=fun xs H Q=>∃ p ns,xs=[.ref p]/\Sh K H p (ns.map V.int)/\ns.length<64 /\
 ∀ (ms:List Int) (l:Addr),ms.Perm ns->ms.Pairwise (·<=·)->H l=none->Q (.ref l) (W4 H l (.lst (ms.map V.int)))
theorem Nu:V5 X (.builtin "sorted") (Z3f X.K):=by
 intro pins s σ H xs us Q I r h;obtain ⟨p,ns,rfl,hq,h64,q⟩:=h;obtain ⟨u,rfl,rx⟩:=Qy r;cases rx;obtain ⟨its,r',pl,hz⟩:=I.tuple hq;have hlen:=r'.length;rw [length_map] at hlen;refine A0 (show s.heap.IsTuple p its.toArray from pl) (K7 r') (by lia) fun out ms h1 h2 h3=>?_
 obtain ⟨e,he⟩:=sortedAll_at s.heap its out;have hl:ms.length=ns.length:=h2.length_eq;refine ⟨.ref (s.heap.objs.size+1),W4 H (s.heap.objs.size+1) (.lst (ms.map V.int)),I.laid (t':=s.toks) (fun b o q=>sortedAll_old q) (le_succ _) ?_,rfl,q ms _ h2 h3 (I.hok.fresh (le_succ _))⟩;refine ⟨by rw [length_map] at hz ⊢;lia,out.toList,e,Dd h1,?_⟩;rw [he]
def Vu:List Dat->Option (List Dat)
 | [.lst xs]=>(Js xs).bind fun ns=>if ns.length<64 then some ((Dc ns).map .int) else none
 | [.tup xs]=>(Js xs).bind fun ns=>if ns.length<64 then some ((Dc ns).map .int) else none
 | _=>none
theorem Uc:C1 X (.builtin "sorted") Vu:=(Oc.or Nu).weak fun vs H Q zz=>by
 obtain ⟨A,ds,d,mu,e,p,q⟩:=zz;unfold Vu at e;split at e
 ·rename_i xs
  obtain ⟨v,e1,p1⟩:=p.one;obtain ⟨l,us,e2,h1,r1⟩:=p1.lst;obtain ⟨ns,hn,e⟩:=bind_some e;split at e
  ·rename_i h64
   cases e;rw [Rb hn] at r1;have eu:=U9 r1;subst eu;refine .inl ⟨l,ns,by rw [e1,e2],h1.sq,h64,fun ms l' hp hs hl=>?_⟩;rw [Jo (hp.trans (Tc ns).symm) hs (E4 ns)];have h0:(64:Nat)<=sizeLine:=by decide
   exact q.at (by rw [length_map,(Tc ns).length_eq];lia) (Jz _) l' hl
  ·cases e
 ·rename_i xs
  obtain ⟨v,e1,p1⟩:=p.one;obtain ⟨l,us,e2,h1,r1⟩:=p1.tup;obtain ⟨ns,hn,e⟩:=bind_some e;split at e
  ·rename_i h64
   cases e;rw [Rb hn] at r1;have eu:=U9 r1;subst eu;refine .inr ⟨l,ns,by rw [e1,e2],h1,h64,fun ms l' hp hs hl=>?_⟩;rw [Jo (hp.trans (Tc ns).symm) hs (E4 ns)];have h0:(64:Nat)<=sizeLine:=by decide
   exact q.at (by rw [length_map,(Tc ns).length_eq];lia) (Jz _) l' hl
  ·cases e
 ·cases e
end
section
variable {prog:Program} {w:World} {A:Around} {E:Value->Shared->Prop} {s:Shared}
open HT in
theorem Sj {t sl:Addr} {items:Array Value} {vl vu:Value} {lo hi:Option Int} {Q:Value->Shared->Prop} (ht:IsTup s.heap t items) (hs:s.heap.IsSliceOf sl vl vu .none) (pl:IsPart vl lo) (pu:IsPart vu hi)
  (hw:(sIx items.size 0 lo=0/\sIx items.size items.size hi=items.size))
  (h:Q (.ref t) s)
  (hsz:items.size<=sizeLine):wpAny (model prog w) A (getItem (.ref t) (.ref sl)) Q E s:=by
 obtain ⟨os,hos,hcs,hds⟩:=id hs;have hTs:s.TypeIs (.ref sl) "slice" := ⟨os,hos,hcs⟩;unfold getItem;try with_reducible refine wpAny_holding ?_
 first | refine wpAny_bind (wpAny_pure ?_) | skip
 refine wpAny_bind (wpAny_sequenceKey ht.typeIs (by decide) ?_);refine wpAny_bind (wpAny_callSpecial?_slot (name:=Str.ofString "__getitem__") ht.typeIs PyProof.Rows.slot_tuple_getitem
  (wpAny_call_entry PyProof.Rows.slot_tuple_getitem ht.typeIs entry_tuple_getitem ?_ (args_tuple_getitem _ _)))
 show wpAny _ _ (Builtin.Tuple.tupleItemsOf (.ref t) >>= _) _ _ s;refine wpAny_bind (tupleItemsOf_ ht ?_);refine wpAny_bind (wpAny_typeOf hTs ?_);rw [if_pos (by decide)];refine wpAny_bind (M3 hs pl pu ?_);have hyes:(((sIx items.size 0 lo:Nat):Int)==0&&(1:Int)==1&&(sIx items.size items.size hi - sIx items.size 0 lo)==items.size)=true:=by
  rw [hw.1,hw.2];simp
 show wpAny _ _ (if (((sIx items.size 0 lo:Nat):Int)==0&&(1:Int)==1&&(sIx items.size items.size hi - sIx items.size 0 lo)==items.size)=true then _ else _) _ _ s;rw [if_pos hyes];unfold Builtin.Tuple.tupleIsExact;refine wpAny_bind (wpAny_bind (wpAny_typeOf ht.typeIs (wpAny_pure ?_)));rw [if_pos (by decide)];exact wpAny_bind (wpAny_rule (wpAny_pure ⟨_,rfl,wpAny_pure h⟩))
end
section
variable {X:Cx}
def Zeh (K:PySem.W.Frag):V->Option Int->Option Int->Hp->VK->Prop:=fun x lo hi H Q=>∃ a xs,x=.ref a/\Sh K H a xs /\
 (HT.sIx xs.length 0 lo=0/\HT.sIx xs.length xs.length hi=xs.length)/\Q (.ref a) H
theorem Z45:Be X (Zeh X.K):=by
 intro pins s σ H x v vl vu lo hi sl Q I rx hs pl pu h;obtain ⟨a,xs,rfl,hx,hw,q⟩:=h;cases rx;obtain ⟨its,r,ht,hz⟩:=I.tuple hx;have hlen:its.toArray.size=xs.length:=by rw [size_toArray];exact r.length.symm
 refine ⟨"tuple",_,PyProof.Rows.slot_tuple_getitem.lookup,ht.typeIs,?_⟩;exact Sj ht hs pl pu (by rw [hlen];exact hw) ⟨.ref a,H,I,rfl,q⟩ (by rw [hlen];exact hz)
def Lf:Dat->Option Int->Option Int->Option Dat
 | .lst xs,lo,hi=>some (.lst (To xs lo hi))
 | .str z,lo,hi=>some (.str (Txt.slice z lo hi))
 | .tup xs,lo,hi=>some (.tup (To xs lo hi))
 | _,_,_=>none
theorem M1:SlD X Lf:=(Zdq.or Z45).weak fun v lo hi H Q zz=>by
 obtain ⟨A,x,d,mu,e,p1,q⟩:=zz;unfold Lf at e;split at e
 ·exact .inl ⟨A,.lst _,d,mu,e,p1,q⟩
 ·exact .inl ⟨A,.str _,d,mu,e,p1,q⟩
 ·rename_i xs
  by_cases hw:HT.sIx xs.length 0 lo=0/\HT.sIx xs.length xs.length hi=xs.length
  ·obtain ⟨l,vs,e1,h1,r1⟩:=p1.tup
   cases e;have ec:To xs lo hi=xs:=by unfold To;rw [hw.1,hw.2];simp
   rw [ec] at q;exact .inr ⟨l,vs,e1,h1,by rw [Zy r1];exact hw,by rw [← e1];exact q.here (by rcases p1 with h | ⟨_,_,_,e9,_⟩ | ⟨_,_,_,e9,_⟩;exact h;cases e9;cases e9)⟩
  ·exact .inl ⟨A,.tup xs,d,mu,by show (if _ then none else _)=_;rw [if_neg hw];exact e,p1,q⟩
 ·cases e
end
section
variable {P:Program} {w:World} {A:Around} {E:Value->Shared->Prop} {s:Shared}
end
section
variable {X:Cx} {e:Expr} {fs:Ev->Option (List Dat)}
end
section
variable {prog:Program} {w:World} {A:Around} {E:Value->Shared->Prop} {s:Shared}
theorem M8 {h h':Heap} {t:Addr} {xs:Array Value} (q:h.IsList t xs) (e:∀ o,h.get? t=some o->h'.get? t=some o):h'.IsList t xs:=by
 obtain ⟨o,ho,r⟩:=q;exact ⟨o,e o ho,r⟩
theorem Ni {it t:Addr} {items:Array Value} (hne:t≠it):∀ (n i:Nat) (s:Shared) (Q:List Value->Shared->Prop),s.heap.IsListIter it t i->s.heap.IsList t items->i+n<=items.size ->
  (∀ h',h'.IsListIter it t (i+n)->SameBut it s.heap h'->Q ((items.toList.drop i).take n) { s with heap:=h' })->wpAny (model prog w) A (draw (.ref it) n) Q E s
 | 0,i,s,Q,hit,_,_,hQ=>by
  show wpAny _ _ (pure []) Q E s;exact wpAny_pure (by simpa using hQ s.heap hit (SameBut.refl ..))
 | n+1,i,s,Q,hit,ht,hle,hQ=>by
  have hlt:i<items.size:=by lia
  show wpAny _ _ (pyNext (.ref it) >>= _) Q E s;refine wpAny_bind (wpAny_pyNext_list_item hit ht (x:=items[i]) (by simp [hlt]) fun h₁ hit₁ hs₁=>?_);refine wpAny_bind (wpAny_holding (Ni hne n (i+1) _ _ hit₁ (M8 ht fun o e=>hs₁.extBut _ _ hne e) (by lia) fun h₂ hit₂ hs₂=>wpAny_pure ?_));have hd:items.toList.drop i=items[i]::items.toList.drop (i+1):=by simp [drop_eq_getElem_cons,hlt]
  have:=hQ h₂ (by rw [show i+(n+1)=i+1+n by lia];exact hit₂) (hs₁.trans hs₂);rw [hd,take_succ_cons] at this;exact this
theorem Et {t:Addr} {items:Array Value} {Q:List Value->Shared->Prop} (hh:A.handled=none) (ht:s.heap.IsList t items)
  (hQ:∀ h',ExtBut s.heap.objs.size s.heap h'->Q items.toList { s with heap:=h' }):wpAny (model prog w) A (unpackItems (.ref t) items.size none) Q E s:=by
 have hlt:t≠s.heap.objs.size:=by obtain ⟨o,ho,_⟩:=ht;exact ne_of_lt (lt_size ho)
 unfold unpackItems;refine wpAny_bind ?_
 ·unfold notIterableAtAll
  refine wpAny_bind (wpAny_specialOf ht.typeIs slot_list_iter.lookup ?_);refine wpAny_pure ?_;simp only [Bool.false_eq_true,if_false];refine wpAny_bind (wpAny_holding (wpAny_pyIter_list ht ?_));refine wpAny_bind (wpAny_holding (Ni hlt items.size 0 _ _ ⟨_,get?_push_size _ rfl,rfl,rfl⟩ (M8 ht fun o e=>get?_push_of_some _ e) (by lia) fun h₁ hit₁ hs₁=>?_));have hall:List.take items.size (List.drop 0 items.toList)=items.toList:=by
   rw [drop_zero];exact take_of_length_le (by simp)
  rw [hall];rw [if_neg (by simp)];have ht₁:Heap.IsList h₁ t items:=M8 (M8 ht fun o e=>get?_push_of_some _ e) fun o e=>hs₁.extBut _ _ hlt e
  refine wpAny_bind (wpAny_holding (wpAny_pyNext_list_end hh hit₁ ht₁ (by simp) fun h₂ he₂=>?_));simp only [Option.isSome_none,Bool.false_eq_true,if_false];refine wpAny_pure (hQ h₂ fun b o hb e=>he₂ b o hb (hs₁.extBut b o hb (get?_push_of_some _ e)))
theorem E1 {env:Env} {elts:List Expr} {x1} {pos:Pos} {t:Addr} {items:Array Value} {Q:Unit->Shared->Prop} (hh:A.handled=none) (ht:s.heap.IsList t items)
  (hn:(assignEach elts env).length=items.size) (hstar:(assignEach elts env).findIdx? (·.1)=none)
  (h:∀ h',ExtBut s.heap.objs.size s.heap h'->wpAny (model prog w) A (assignInOrder ((assignEach elts env).map (·.2)) items.toList) Q E { s with heap:=h' }) :
  wpAny (model prog w) A (assign (.Tuple elts x1 pos) env (.ref t)) Q E s:=by
 rw [assign_Tuple];refine wpAny_bind (wpAny_standAt ?_);unfold unpack;rw [hn,hstar];exact wpAny_bind (wpAny_holding (Et hh ht h))
end
section
variable {X:Cx} {pos:Pos}
def Ze5 (K:PySem.W.Frag) (n:Nat) (t:TGs):TG:=fun v σ H Q=>∃ a xs,v=.ref a/\Mu K H a xs/\xs.length=n/\t xs σ H Q
theorem Zas {es:List Expr} {k:Nat} {t:TGs} {n:Nat} (hc:X.calm=true) (h:PGs X es t)
  (hn:(assignEach es X.env).length=n:=by rfl) (hst:(assignEach es X.env).findIdx? (·.1)=none:=by rfl):PG X (.Tuple es k pos) (fun v σ H Q=>Zc3 X.K n t v σ H Q\/Ze5 X.K n t v σ H Q):=by
 intro pins s σ H v u Q I r hw;rcases hw with hw | hw
 ·exact Z7w hc h hn hst pins s σ H v u Q I r hw
 obtain ⟨a,xs,e1,hq,hl,hw⟩:=hw;subst e1;cases r;obtain ⟨its,rv,pl,hz⟩:=I.list hq;refine E1 (I.ok.hd hc) pl.isList (by simp [hn,← hl,rv.length]) hst fun h' hx=>?_
 have I1:Inv X pins σ H { s with heap:=h' }:=I.kept (t':=s.toks) fun b o e=>hx b o (ne_of_lt (lt_size e)) e
 exact h pins _ σ H xs _ Q I1 (by simpa using rv) hw
def I0 (n:Nat) (gs:List Dat->Ev->Option Ev):Dat->Ev->Option Ev:=fun d env=>match d with
 | .tup ds=>if ds.length=n then gs ds env else none
 | .lst ds=>if ds.length=n then gs ds env else none
 | _=>none
theorem E3 {es:List Expr} {k:Nat} {is:List Nat} {gs:List Dat->Ev->Option Ev} {n:Nat} (hc:X.calm=true) (h:Z4l is X es gs)
  (hn:(assignEach es X.env).length=n:=by rfl) (hst:(assignEach es X.env).findIdx? (·.1)=none:=by rfl):PGd is X (.Tuple es k pos) (I0 n gs):=(Zas hc h hn hst).weak fun v σ H Q zz=>by
 obtain ⟨env,R,A,d,env',k,r,e,q⟩:=zz;unfold I0 at e;split at e
 ·rename_i ds
  split at e
  ·rename_i hl
   obtain ⟨a,vs,ev,h1,r1⟩:=M9 r;exact .inl ⟨a,vs,ev,W7.seqT h1,by rw [Zy r1];exact hl,env,R,A,ds,env',k,r1,e,q⟩
  ·cases e
 ·rename_i ds
  split at e
  ·rename_i hl
   obtain ⟨a,vs,ev,h1,r1⟩:=Re r;exact .inr ⟨a,vs,ev,(W7.sl h1).sq,by rw [Zy r1];exact hl,env,R,A,ds,env',k,r1,e,q⟩
  ·cases e
 ·cases e
end
section
variable {P:Program} {w:World} {A:Around} {E:Value->Shared->Prop} {s:Shared}
end
section
variable {X:Cx} {e:Expr} {fs:Ev->Option (List Dat)}
end
def Z0w:Dat->Option (List Ug)
 | .tup [.int a,.int b]=>some [.inl a,.inl b]
 | _=>none
theorem Hl {K:PySem.W.Frag} {A:AS} {H:Hp} {d:Dat} {v:V} {ks:List Ug} (e:Z0w d=some ks) (r:Pk K A H d v):∃ p,v=.ref p/\H p=some (.tup (ks.map kV)):=by
 unfold Z0w at e;split at e
 ·rename_i a b
  cases e;obtain ⟨p,vs,e1,h1,r1⟩:=r.tup;have ev:vs=[.int a,.int b]:=U9 (ns:=[a,b]) r1;subst ev;rcases h1 with h1 | ⟨_,_,_,_,_,_,_,_,h2⟩
  ·exact ⟨p,e1,h1⟩
  ·exact absurd mem_cons_self (h2 a)
 ·cases e
def Ec (kvs:List (List Ug×Dat)) (ks:List Ug):Bool:=(kvs.map (·.1)).any fun x=>decide (x=ks)
theorem Il {us:List (List Ug×V)} {k:List Ug}:(R0 us k).isSome=(us.map (·.1)).any fun x=>decide (x=k):=by
 rw [any_map,← E8];congr 1
section
variable {X:Cx} {pos:Pos} {e:Expr} {f g:Ev->Option Dat} {m fr:Bool}
def Lm (neg:Bool) (i:Nat) (f:Ev->Option Dat):Ev->Option Dat:=fun env=>match env[i]?,f env with
 | some (.gx (.dict kvs)),some d=>(Z0w d).map fun ks=>.bl (if neg then !Ec kvs ks else Ec kvs ks)
 | _,_=>none
theorem EnvOk.dictA {K:PySem.W.Frag} {B:Bs} {A:AS} {H:Hp} {σ:St} {env:Ev} {i:Nat} {kvs:List (List Ug×Dat)} (k:EnvOk K B A H σ env) (h:env[i]?=some (.gx (.dict kvs))) :
  ∃ (a:Addr) (us:List (List Ug×V)),σ[i]?=some (some (.ref a))/\H a=some (.dT us)/\us.map (·.1)=kvs.map (·.1):=by
 obtain ⟨own,h1,h2,h4⟩:=k.sl;obtain ⟨x,q1,v,e1,a,us,e2,e3,e4,e5,e6,e7⟩:=h4 i _ h;subst e1 e2;exact ⟨a,us,q1,e5,e6⟩
def Ex (i:Nat) (fk fv:Ev->Option Dat):Ev->Fl:=fun env=>match env[i]?,fv env,fk env with
 | some (.gx (.dict kvs)),some d,some y=>match Z0w y with
  | some ks=>if Ec kvs ks=false/\kvs.length<sizeLine then .next (env.set i (.gx (.dict (kvs++[(ks,d)])))) else .no
  | none=>.no
 | _,_,_=>.no
theorem Z36 (i:Nat) {x:Str} {ix:Expr} {p pos':Pos} (hu:X.A.units+1<cLine) (ha:We true X ix f) (hb:We false X e g)
  (hN:X.N[i]?=some x:=by rfl) (hv:Al X.env.scope x:=by first | exact Or.inl rfl | exact Or.inr (Or.inl rfl) | exact Or.inr (Or.inr rfl)) (hd:(x==("__debug__" : Str))=false:=by decide) (hcd:(x==("__classdict__" : Str))=false:=by decide)
  (hs:swapsWith e (some (.Subscript (.Name x p) ix pos')) pos.line X.env=pure false:=by rfl) :
  Su fr X (.Assign [.Subscript (.Name x p) ix pos'] e pos) (Ex i f g):=(Z55 hu (Q3 hN hv hd hcd) ha hb hs).weak fun D σ H zz=>by
 obtain ⟨env,B,A,k,hst,q⟩:=zz;unfold Ex at q;split at q
 ·rename_i kvs d y h1 h2 h3
  split at q
  ·rename_i ks hk
   split at q
   ·rename_i hc
    obtain ⟨a,us,s1,s2,s3⟩:=k.dictA h1;refine ⟨env,B,A,d,k,h2,fun v H1 sm1 r1=>⟨.ref a,s1,env,B,A,y,k.mono sm1,h3,fun u H2 sm2 r2=>?_⟩⟩;obtain ⟨b,e4,e5⟩:=Hl hk r2.pk;subst e4;have sm:=sm1.trans sm2;have k3:=k.mono sm;obtain ⟨v0,o,m1,m2,m3,m4⟩:=k3.gx hst h1;rw [s1] at m1;cases m1;obtain ⟨a',us',z1,z2,z3,z4,z5,z6⟩:=m2;cases z1;have eus:us'=us:=by
     have:=sm _ _ s2;rw [z4] at this;exact HO.dT.inj (Option.some.inj this)
    subst eus;have hno:R0 us' ks=none:=by
     have:=Il (us:=us') (k:=ks);rw [s3] at this;have h9:Ec kvs ks=false:=hc.1;unfold Ec at h9;rw [h9] at this;cases h8:R0 us' ks with
     | none=>rfl
     | some _=>rw [h8] at this;cases this
    have hul:us'.length=kvs.length:=by have:=congrArg List.length s3;rwa [length_map,length_map] at this
    have ep:Dk us' ks v=us'++[(ks,v)]:=Z1u v hno;refine ⟨a,W4 H2 a (.dT (us'++[(ks,v)])),rfl,by rw [← ep];exact Z3g.t (sm _ _ s2) e5 (by rw [hul];exact hc.2),?_⟩;have hA:A a=true:=(m3 a z2).1;have avs:Zo (av H2 A) (av (W4 H2 a (.dT (us'++[(ks,v)]))) A):=fun c o2 ec=>by
     obtain ⟨y1,y2⟩:=Wf ec;have hc:c≠a:=by intro z;rw [z,hA] at y1;cases y1
     exact Wl (by rw [Zh hc];exact y2) y1
    have hg:GOk X.K A (W4 H2 a (.dT (us'++[(ks,v)]))) o (.dict (kvs++[(ks,d)])) (.ref a):=by
     refine ⟨a,us'++[(ks,v)],rfl,z2,by rw [length_append];exact hc.2,Zs,by rw [map_append,map_append,s3];rfl,?_⟩;rw [map_append,map_append];exact V9 (z6.mono avs) (Ji ((Rp.mono (Ws sm2) (show Rp X.K (av H1 A) d v from r1)).mono avs))
    obtain ⟨w1,w2⟩:=m4 a (.dT (us'++[(ks,v)])) _ z2 trivial hg;exact q A _ σ ((Step.same sm).trans w1) w2
   ·exact q.elim
  ·exact q.elim
 ·exact q.elim
def Z8p (tk tv:TE):TE:=fun σ H Q=>∀ p,H p=none->tk σ (W4 H p (.dT [])) fun y H1=>tv σ H1 fun x H2=>H2 p=some (.dT [])/\∃ ks b,y=.ref b/\H2 b=some (.tup (ks.map kV))/\Q (.ref p) (W4 H2 p (.dT [(ks,x)]))
theorem Af {prog:Program} {w:World} {A:Around} {E:Value->Shared->Prop} {s:Shared} {env:Env} {K:Type} [DecidableEq K] {knd:HeapKind prog w K} {k v:Expr} {pos:Pos} {Q:Value->Shared->Prop}
  (h:wpAny (model prog w) A (evalPairs (pairTrees [some k] [v] env pos)) (fun vs s₁=>∃ b x ks,vs=[(.ref b,x)]/\knd.room A/\knd.is s₁.heap ks b/\s₁.heap.DictOfH knd s.heap.objs.size [] /\
   ∀ h',h'.DictOfH knd s.heap.objs.size (storedH [] ks b x)->SameBut s.heap.objs.size s₁.heap h'->Q (.ref s.heap.objs.size) { s₁ with heap:=h',toks:=s₁.toks+knd.draws ks }) E
   { s with heap:=s.heap.push { cls:=.type "dict",data:=.dict #[] } }) :
  wpAny (model prog w) A (eval (.Dict [some k] [v] pos) env) Q E s:=by
 rw [arm_eval_Dict,zip_pairTrees [some k] [v] env pos rfl rfl,dictDisplay_pairs (pairTrees [some k] [v] env pos) (by simp [pairTrees]) (by simp [pairTrees])];refine wpAny_bind (wpAny_standAt (wpAny_bind ?_));unfold subDict;refine wpAny_bind (wpAny_alloc ?_);refine wpAny_bind (wpAny_holding ?_);rw [if_pos (by simp [pairTrees])];refine wpAny_bind (wpAny_mono h (fun vs s₁ h₁=>?_) fun _ _ e=>e);obtain ⟨b,x,ks,rfl,hr,hk,hm,hq⟩:=h₁;refine wpAny_holding ?_;rw [List.forIn_cons];refine wpAny_bind (wpAny_bind (wpAny_bind (wpAny_dictSet_heap hr hk hm (fun h' a c=>wpAny_pure ?_) (zero_le _))));show wpAny _ _ (forIn ([]:List (Value×Value)) PUnit.unit _) _ _ _;rw [List.forIn_nil];exact wpAny_pure (wpAny_pure (wpAny_pure (wpAny_pure (hq h' a c))))
theorem Z42 {k v:Expr} {tk tv:TE} (hu:X.A.units+1<cLine) (hk:PE X k tk) (hv:PE X v tv):PE X (.Dict [some k] [v] pos) (Z8p tk tv):=by
 intro pins s σ H Q I q;have hn:=I.hok.fresh (le_refl s.heap.objs.size);have I1:=I.laid (a:=s.heap.objs.size) (o:=.dT []) (h':=s.heap.push { cls:=.type "dict",data:=.dict #[] }) (t':=s.toks) (fun _ _ q=>get?_push_of_some _ q) (le_refl _) (Z38 s.heap I.big);refine Af (knd:=tupleKind (V6 X.prog X.w)) (pairTrees_cons_walk (Wu (hk pins _ σ _ _ I1 (q _ hn)) fun u s1 ⟨y,H1,I2,ry,q1⟩=>Wu (hv pins s1 σ H1 _ I2 q1) fun u2 s2 ⟨x,H2,I3,rx,q2⟩=>pairTrees_nil_walk ?_));obtain ⟨hp,ks,b,ey,eb,q3⟩:=q2;subst ey;cases (show u=Value.ref b from ry);obtain ⟨z,hd,xs,rel,dd⟩:=Z7m I3.hok hp;cases rel;refine ⟨b,u2,ks,rfl,(show X.A.units<cLine by lia),Kf I3.hok eb,dd,fun h' dd' hs=>⟨.ref s.heap.objs.size,_,?_,rfl,q3⟩⟩;obtain ⟨q,es,ep,hq,h2,h3,h4,_,h5⟩:=dd';have r1:=(KT.put (H:=H2) (kvs:=[]) (xs:=[]) .nil ks eb rx);refine Ol I3 (by rw [hp];exact True.intro) hs ⟨q,hq⟩ ⟨by show 1<=sizeLine;decide,hd,_,r1.keeps fun c ys ec=>?_,q,es,ep,hq,h2,h3,h4,h5⟩;rw [Zh (Z7q ec hp (fun z=>nomatch z))];exact ec
def Nb (i:Nat) (fk fv:Ev->Option Dat):Ev->Fl:=fun env=>match fk env,fv env with
 | some y,some (.bl d)=>match Z0w y with
  | some ks=>.next (env.set i (.gx (.dict [(ks,.bl d)])))
  | none=>.no
 | _,_=>.no
theorem Z2o (i:Nat) {x:Str} {kx:Expr} {pos' dpos:Pos} (hN:X.N.Nodup) (hi:X.N[i]?=some x) (hx:Pq X.env.scope x) (hu:X.A.units+1<cLine) (ha:We true X kx f) (hb:We false X e g)
  (hs:swapsWith (.Dict [some kx] [e] dpos) (some (.Name x pos')) pos.line X.env=pure false:=by rfl)
  (hf:X.fn x=true\/X.env.scope.names.lookup x=some .local:=by first | exact .inl rfl | exact .inr rfl | assumption) :
  Su fr X (.Assign [.Name x pos'] (.Dict [some kx] [e] dpos) pos) (Nb i f g):=(Kd hN hi hx (Z42 hu ha hb) hs hf).weak fun D σ H zz=>by
 obtain ⟨env,B,A,k,hst,q⟩:=zz;unfold Nb at q;split at q
 ·rename_i y d h1 h2
  split at q
  ·rename_i ks hk
   intro p hp;have sm0:Zo H (W4 H p (.dT [])):=Zo.new hp;refine ⟨env,B,A,y,k.mono sm0,h1,fun u H1 sm1 r1=>⟨env,B,A,.bl d,(k.mono sm0).mono sm1,h2,fun v H2 sm2 r2=>⟨sm2 _ _ (sm1 _ _ Zs),?_⟩⟩⟩;obtain ⟨b,e4,e5⟩:=Hl hk r1.pk;refine ⟨ks,b,e4,sm2 _ _ e5,?_⟩;have smH:Zo H (W4 H2 p (.dT [(ks,v)])):=fun c o ec=>by
    rw [Zh (fun z=>by rw [z,hp] at ec;cases ec)];exact sm2 _ _ (sm1 _ _ (sm0 _ _ ec))
   have h9:=k.putG hst i (g:=.dict [(ks,.bl d)]) (v:=.ref p) (S:=fun b=>decide (b=p)) smH (fun b hb=>by rw [of_decide_eq_true hb];exact hp) (fun b hb=>by rw [of_decide_eq_true hb,Zs];trivial) ⟨p,[(ks,v)],rfl,by simp,by show 1<=sizeLine;decide,Zs,rfl,Ji ?_⟩
   ·exact q _ _ _ h9.1 h9.2
   ·rw [(show Rp X.K (av H2 A) (.bl d) v from r2) |> G7];exact Va
  ·exact q.elim
 ·exact q.elim
end
end L2
namespace L2
open PySem PySem.Spec PyProof.Rows PySem.W
section
variable {X:Cx} {fr:Bool} {g:Ev->Fl} {body:List Stmt} {h₀:ExceptHandler} {hs:List ExceptHandler} {pos:Pos}
variable {e a b c:Expr} {f1 f2 f3:Ev->Option Dat} {F1 F2:Dat->Dat->Option Dat} {m1 m2 m3:Bool}
def Z3u (i:Nat) (f:Ev->Option Dat):Ev->Fl:=fun env=>match env[i]?,f env with
 | some (.fz (.int x)),some (.int y)=>.next (env.set i (.fz (.int (x+y))))
 | _,_=>.no
theorem Zd0 (i:Nat) {x:Str} {pos':Pos} (hN:X.N.Nodup) (hi:X.N[i]?=some x) (hx:Pq X.env.scope x) (he:We m1 X e f1)
  (hf:X.fn x=true\/X.env.scope.names.lookup x=some .local:=by first | exact .inl rfl | exact .inr rfl | assumption):Su fr X (.AugAssign (.Name x pos') .Add e pos) (Z3u i f1):=(Z83 hN hi hx he Z8d hf).weak fun D σ H zz=>by
 obtain ⟨env,B,A,k,hst,q⟩:=zz;unfold Z3u at q;split at q
 ·rename_i n m h1 h2
  obtain ⟨own,z1,z2,z4⟩:=k.sl;obtain ⟨w,q1,v,e1,e2⟩:=z4 i _ h1;subst e1;have ev:v=.int n:=Sv e2;subst ev;refine ⟨.int n,q1,env,B,A,.int m,k,h2,fun y H1 s1 r1=>?_⟩;refine ⟨n,m,rfl,r1.pk.int,?_⟩;exact q A H1 _ (Step.same s1) ((k.mono s1).put i Wb)
 ·exact q.elim
theorem Zep (i:Nat) {x:Str} {p:Pos} (hu:X.A.units+1<cLine) (he:We true X e f1) (hN:X.N[i]?=some x:=by rfl) (hv:Al X.env.scope x:=by first | exact Or.inl rfl | exact Or.inr (Or.inl rfl) | exact Or.inr (Or.inr rfl)) (hd:(x==("__debug__" : Str))=false:=by decide) (hcd:(x==("__classdict__" : Str))=false:=by decide)
  (hm:behindInMarks .In (.Name x p)=false:=by rfl):Au X (.Compare e [.In] [.Name x p] pos) (dB (Lm false i f1)):=(Z2v (Z98 hu he (Q3 hN hv hd hcd)) hm).weak fun σ H Q zz=>by
 obtain ⟨env,R,A,d,k,e1,q⟩:=zz;have e1:=Dw e1;unfold Lm at e1;split at e1
 ·rename_i kvs d0 h1 h2
  obtain ⟨ks,hk,e3⟩:=map_some e1;have e4:=Dat.bl.inj e3;subst e4;obtain ⟨a,us,s1,s2,s3⟩:=k.dictA h1;refine ⟨env,R,A,d0,k,h2,fun y H1 sm r1=>⟨.ref a,s1,a,R0 us ks,rfl,?_,_,rfl,?_⟩⟩
  ·obtain ⟨b,e4,e5⟩:=Hl hk r1.pk
   subst e4;exact Xr.t (sm _ _ s2) e5
  ·rw [Il,s3]
   exact q H1 sm
 ·cases e1
theorem Zct (i:Nat) {x:Str} {p:Pos} (hu:X.A.units+1<cLine) (he:We true X e f1) (hN:X.N[i]?=some x:=by rfl) (hv:Al X.env.scope x:=by first | exact Or.inl rfl | exact Or.inr (Or.inl rfl) | exact Or.inr (Or.inr rfl)) (hd:(x==("__debug__" : Str))=false:=by decide) (hcd:(x==("__classdict__" : Str))=false:=by decide)
  (hm:behindInMarks .NotIn (.Name x p)=false:=by rfl):Au X (.Compare e [.NotIn] [.Name x p] pos) (dB (Lm true i f1)):=(Z2v (Cw hu he (Q3 hN hv hd hcd)) hm).weak fun σ H Q zz=>by
 obtain ⟨env,R,A,d,k,e1,q⟩:=zz;have e1:=Dw e1;unfold Lm at e1;split at e1
 ·rename_i kvs d0 h1 h2
  obtain ⟨ks,hk,e3⟩:=map_some e1;have e4:=Dat.bl.inj e3;subst e4;obtain ⟨a,us,s1,s2,s3⟩:=k.dictA h1;refine ⟨env,R,A,d0,k,h2,fun y H1 sm r1=>⟨.ref a,s1,a,R0 us ks,rfl,?_,_,rfl,?_⟩⟩
  ·obtain ⟨b,e4,e5⟩:=Hl hk r1.pk
   subst e4;exact Xr.t (sm _ _ s2) e5
  ·rw [Il,s3]
   exact q H1 sm
 ·cases e1
end
end L2
namespace L2
open PySem PySem.Spec PyProof.Rows
section
variable {prog:Program} {w:World} {κ:Type} [DecidableEq κ] {kd:HeapKind prog w κ} {A:Around} {E:Value->Shared->Prop} {s:Shared}
end
section
variable {X:Cx} {pos:Pos} {m fr fr':Bool} {F:List Dat->Rs} {k:Nat} {ps:List Str} {e:Expr} {es:List Expr} {fs:Ev->Option (List Dat)} {p:Pos}
end
end L2
namespace L2
open PySem PySem.Spec PyProof.Rows PySem.W
abbrev Cx.pls (X:Cx) (b:Bool):Cx:={ X with pl:=b }
section
variable {X:Cx} {b:Bool} {pins:List (Addr×Obj)} {σ:St} {H:Hp} {s:Shared}
theorem Inv.pls (I:Inv X pins σ H s):Inv (X.pls b) pins σ H s :=
 ⟨⟨I.ok.mod,I.ok.kind,I.ok.glob,I.ok.blt,I.ok.above,I.ok.inj,I.ok.has,I.ok.cab,I.ok.hd,I.ok.frames,I.ok.stk,I.ok.exf,I.ok.bs,I.ok.bsz,I.ok.noex,I.ok.exfs,I.ok.funs,I.ok.frf⟩,I.os,I.bare,I.base,I.loc,I.cell,I.free,I.freeC,I.pin,I.hok,I.len⟩
theorem Inv.unpls (I:Inv (X.pls b) pins σ H s):Inv X pins σ H s :=
 ⟨⟨I.ok.mod,I.ok.kind,I.ok.glob,I.ok.blt,I.ok.above,I.ok.inj,I.ok.has,I.ok.cab,I.ok.hd,I.ok.frames,I.ok.stk,I.ok.exf,I.ok.bs,I.ok.bsz,I.ok.noex,I.ok.exfs,I.ok.funs,I.ok.frf⟩,I.os,I.bare,I.base,I.loc,I.cell,I.free,I.freeC,I.pin,I.hok,I.len⟩
theorem SP.unpls {D:Ends} {f:Flow} (h:SP (X.pls b) pins D f s):SP X pins D f s:=by
 cases f with
 | next=>obtain ⟨σ',H',I,q⟩:=h;exact ⟨σ',H',I.unpls,q⟩
 | brk=>obtain ⟨σ',H',I,q⟩:=h;exact ⟨σ',H',I.unpls,q⟩
 | cont=>obtain ⟨σ',H',I,q⟩:=h;exact ⟨σ',H',I.unpls,q⟩
 | ret u=>obtain ⟨v,σ',H',I,r,q⟩:=h;exact ⟨v,σ',H',I.unpls,r,q⟩
theorem Sm.unpls {st:List Stmt} {t:TS} (h:Sm (X.pls b) st t):Sm X st t:=fun pins s σ H D I hw =>
 wpAny_mono (h pins s σ H D I.pls hw) (fun _ _ q=>q.unpls) fun _ _ z=>z
end
section
variable {P:Program} {w:World} {K:Frag} {mg:Str->Option Value} {base:Heap}
abbrev cxP (P:Program) (w:World) (K:PySem.W.Frag) (mg:Str->Option Value) (base:Heap) (N:List Str) (qual:Str) (scope:Scope) (f:Addr) (cd:Value) (A:Around) (outer:List Env) (s:Shared) (H:Hp) (E:XK):Cx :=
 (Qd (B9 P w base true) P w K mg base N qual scope f cd A outer s H E).pls true
theorem Z4x {x:Str} {st:Stmt} {N ps:List Str} {k:Nat} {fr:Bool} {g:Ev->Fl} (D:Def K mg x st) (S:FnScope N ps (Z8 st))
  (hbi:∀ (kV doc pm:Value) (an:Option Addr) (cdv ct:Value) (us:List Value),us.length=ps.length->bindArgs (fnOf x x (Wt st) (Yf st) (Z8 st) .none kV doc pm an cdv ct) ⟨us,[]⟩=pure (ps.zip us))
  (hb:∀ (f:Addr) (cdv:Value) (A:Around) (outer:List Env) (s:Shared) (H:Hp) (E:XK),Room k (A.deeper (envOfC x (Z8 st) s.heap.objs.size f cdv))->Lp fr (cxP P w K mg base N x (Z8 st) f cdv A outer s H E) (Yf st) g) :
  CalX P w K mg base (k+1) x ps fr (Wd N.length ps.length g) true:=by
 have hpl:ps.length<=N.length:=by have:=congrArg List.length S.pre;rw [length_take] at this;lia
 obtain ⟨f,fd,F,hm⟩:=D.ex;refine ⟨⟨f,fd,F.okX S (fun vs H Q E h=>h.1) fun cdv A outer s H vs Q E hr ⟨hl,ds,R,mu,r,q⟩=>⟨_,Sm.unpls (hb f cdv A outer s H E hr),?_⟩,hm,F.kp,F.binds hbi⟩,fun ds h=>Nc h⟩;unfold Wd at q;split at q
 ·rename_i hl
  refine ⟨Tx N.length ds,⟨H,R,true⟩,R,Ip mu r (by lia),rfl,?_⟩;split at q
  ·rename_i d' e
   rw [e];exact fun v H' s r n=>q v H' s r n
  ·rename_i env e
   rw [e];exact fun A' H' σ' s k=>q .non H' k.h0 K3 (fun _ ds e=>by cases e)
  ·rename_i env c fs e
   rw [e];exact fun A' H' σ' st k pins s' e C dct I hc x hf hnw=>Hx I.unpls x rfl hnw (q C dct H' k.h0 hc (hf.mono (Tg k.ra)))
  ·exact q.elim
 ·exact q.elim
structure CalN (P:Program) (w:World) (K:PySem.W.Frag) (mg:Str->Option Value) (base:Heap) (k:Nat) (x:Str) (ps:List Str) (fr:Bool) (F:List Dat->Rs):Prop where
 ex:∃ f fd,FnOkN P w K mg base Dy k f fd ps (spD K fr ps.length F)/\mg x=some (.ref f)/\PySem.W.keepIn K (.ref f)=true/\J9 K fd ps []
 len:∀ ds d,F ds=.ok d->ds.length=ps.length
theorem Fun.okN {x qual:Str} {st:Stmt} {f:Addr} {fd:FuncData} {N ps:List Str} {k:Nat} {sp:Sp} (F:Fun K x qual st f fd) (S:FnScope N ps (Z8 st)) (len:∀ vs H Q E,sp vs H Q E->vs.length=ps.length)
  (hbody:∀ (cdv:Value) (A:Around) (outer:List Env) (s:Shared) (H:Hp) (vs:List V) (Q:VK) (E:XK),RoomN k (A.deeper (envOfC qual (Z8 st) s.heap.objs.size f cdv))->HdN (Rj Dy P w K mg base N qual (Z8 st) f cdv A outer s H E).nox->sp vs H Q E ->
   ∃ t,Sm (Rj Dy P w K mg base N qual (Z8 st) f cdv A outer s H E).nox (Yf st) t/\t { nx:=fun _ H'=>Q .non H',rt:=Q } (start N vs) H):FnOkN P w K mg base Dy (k+1) f fd ps sp:=by
 obtain ⟨oc,od,kV,doc,pm,an,cdv,ct,osl,rfl,lk,hcd⟩:=F.ex;refine Z8x lk hcd S len fun A outer s H vs Q E hr hk hsp=>?_
 obtain ⟨t,h,q⟩:=hbody cdv A outer s H vs Q E hr (HdN.of (X:=(Rj Dy P w K mg base N qual (Z8 st) f cdv A outer s H E).nox) hk rfl) hsp;exact ⟨t,h.nox,q⟩
theorem Zaf {x:Str} {st:Stmt} {N ps:List Str} {k:Nat} {fr:Bool} {g:Ev->Fl} (D:Def K mg x st) (S:FnScope N ps (Z8 st))
  (hbi:∀ (kV doc pm:Value) (an:Option Addr) (cdv ct:Value) (us:List Value),us.length=ps.length->bindArgs (fnOf x x (Wt st) (Yf st) (Z8 st) .none kV doc pm an cdv ct) ⟨us,[]⟩=pure (ps.zip us))
  (hb:∀ (f:Addr) (cdv:Value) (A:Around) (outer:List Env) (s:Shared) (H:Hp) (E:XK),RoomN k (A.deeper (envOfC x (Z8 st) s.heap.objs.size f cdv))->HdN (Rj Dy P w K mg base N x (Z8 st) f cdv A outer s H E).nox->Lp fr (Rj Dy P w K mg base N x (Z8 st) f cdv A outer s H E).nox (Yf st) g) :
  CalN P w K mg base (k+1) x ps fr (Wd N.length ps.length g):=by
 have hpl:ps.length<=N.length:=by have:=congrArg List.length S.pre;rw [length_take] at this;lia
 obtain ⟨f,fd,F,hm⟩:=D.ex;refine ⟨⟨f,fd,F.okN S (fun vs H Q E h=>h.1) fun cdv A outer s H vs Q E hr hh ⟨hl,ds,R,d,mu,r,hF,q⟩=>⟨_,hb f cdv A outer s H E hr hh,?_⟩,hm,F.kp,F.binds hbi⟩,fun ds d h=>X0 h⟩;exact Hu hpl mu r hF q
end
section
variable {X:Cx} {m fr:Bool} {F:List Dat->Rs} {k:Nat} {x:Str} {ps:List Str} {e:Expr} {es:List Expr} {fs:Ev->Option (List Dat)} {p pos:Pos}
theorem Z73 (C:CalN X.prog X.w X.K X.mg X.base k x ps fr F) (hr:RoomN k X.A) (hh:HdC X) (ha:Lb false X (e::es) fs) (hg:Gl X x:=by rfl)
  (hdb:(x==("__debug__" : Str))=false:=by decide) (he:starEach (e::es) X.env=(false,eval e X.env)::starEach es X.env:=by rfl) (hpl:(backTo pos (starEach es X.env)).any (·.1)=false:=by rfl) :
  We m X (.Call (.Name x p) (e::es) [] pos) (W1 F fs):=by
 obtain ⟨f,fd,Ff,hm,hk,hb⟩:=C.ex;have key:=Z25 (dvs:=[]) (ds:=[]) (E:=E0) Ff hr hh hg hm hk hb .nil Z77 ha hdb he hpl (p:=p);have key':PE X (.Call (.Name x p) (e::es) [] pos) (Zbn (spD X.K fr ps.length F) (fun σ H Q=>∃ env R A ds,EnvOk X.K R A H σ env/\fs env=some ds/\∀ vs H',Zo H H'->Xu false X.K A H' ds vs->Q vs H')):=fun pins s σ H Q I h=>key pins s σ H Q I (by
  unfold Az;simp only [append_nil];exact h)
 refine We.any (key'.weak fun σ H Q ⟨env,R,A,d,k,q1,q2⟩=>?_);obtain ⟨ds,e1,e2⟩:=bind_some q1;have e3:=K0 e2;refine ⟨env,R,A,ds,k,e1,fun vs H1 s1 rs=>⟨by rw [Zy rs.rps];exact C.len ds d e3,ds,A,d,k.mu.mono s1,rs.rps,e3,fun v H' s r _=>q2 v H' (s1.trans s) r⟩⟩
end
structure XMakeN (P:Program) (w:World) (K:Frag) (mg:Str->Option Value) (base:Heap) (k:Nat) (c:Str) (p:Nat) (G:List Dat->Option (List (Str×XD))):Prop where
 ex:∃ C fI D fd ps,W5 K c C/\mg c=some (.ref C)/\keepIn K (.ref C)=true/\Jp K C fI D=true/\XCls K C/\isFn K (.ref fI)=true/\FnOkN P w K mg base Dy k fI fd ps (spG K C p G)/\J9 K fd ps []
 len:∀ ds fl,G ds=some fl->ds.length=p
 few:p<=10
theorem XMakeN.x {P:Program} {w:World} {K:Frag} {mg:Str->Option Value} {base:Heap} {k:Nat} {c:Str} {p:Nat} {G:List Dat->Option (List (Str×XD))} (M:XMakeN P w K mg base k c p G):XMake P w K mg base k c p G:=by
 obtain ⟨C,fI,D,fd,ps,h1,h2,h3,h4,h5,h6,h7,h8⟩:=M.ex;exact ⟨⟨C,fI,D,fd,ps,h1,h2,h3,h4,h5,h6,h7.x,h8⟩,M.len,M.few⟩
section
variable {P:Program} {w:World} {K:Frag} {mg:Str->Option Value} {base:Heap}
theorem B7 {qual x:Str} {st:Stmt} {fI C D fI':Addr} {fd:FuncData} {k:Nat} {f:Str} {r:TJ} (F:Fun K "__init__" qual st fI fd) (S:FnScope ["self",x] ["self",x] (Z8 st)) (hx:Jp K C fI' D=true) (xc:XCls K C) (hf:findIn K (.ref C) f=some none)
  (hb:∀ (cdv:Value) (A:Around) (outer:List Env) (s:Shared) (H:Hp) (E:XK),RoomN k (A.deeper (envOfC qual (Z8 st) s.heap.objs.size fI cdv)) ->
   Sm (Rj Dy P w K mg base ["self",x] qual (Z8 st) fI cdv A outer s H E).nox (Yf st) (Z8j (Z4e (Z2w K (Ng (Xz 0) (Ng (Ay r) Z6v)))) (Z7f K (Xz 0) (tCB (Z7k K) (Ng (Xz 1) Z6v)) f)))
  (hj:∀ (H:Hp) (e a:Addr) (ns:List Int),SL K H a (ns.map V.int)->K6 ns->JOk 0 [some (.ref e),some (.ref a)] H r) :
  FnOkN P w K mg base Dy (k+1) fI fd ["self",x] (spG K C 1 (gW f)):=by
 refine F.okN S (fun vs H Q E ⟨e,ws,ds,R,fl,ev,hl,_⟩=>by rw [ev,length_cons,hl];rfl) fun cdv A outer s H vs Q E hr hh ⟨e,ws,ds,R,fl,ev,hl,he,mu,re,rs,hG,q⟩=>⟨_,hb cdv A outer s H E hr,?_⟩
 subst ev;unfold gW at hG;split at hG
 ·rename_i xs
  obtain ⟨ns,hn,hG⟩:=bind_some hG;split at hG
  ·rename_i hs
   cases hG;have hs:=Z0d hs;obtain ⟨v,r',e1,r1,r2⟩:=Yg rs;have e2:=Yz r2;subst e1 e2;obtain ⟨a,us,e3,hS,ru⟩:=Re r1;rw [Rb hn] at ru;have e4:=U9 ru;subst e3 e4;have hS':SL K H a (ns.map V.int):=W7.sl hS;show Z8j _ _ _ [some (.ref e),some (.ref a)] H;refine ⟨.ref e,rfl,?_⟩;refine hj H e a ns hS' hs Str.empty _ (by decide) fun z=>?_
   refine ⟨e,C,none,.str z,fI',D,rfl,he,hx,?_⟩;refine ⟨.ref a,rfl,a,ns.map V.int,rfl,.inl hS'.sq,fun l hln=>?_⟩;have hle:l≠e:=fun z=>by rw [z,he] at hln;cases hln
   refine ⟨.ref e,rfl,e,C,none,fI',D,rfl,by rw [Zh (Ne.symm hle)];exact he,hx,xc,hf,fun dx hdx hde=>?_⟩;have hdl:dx≠l:=fun z=>by rw [z,Zs] at hdx;cases hdx
   have hdn:H dx=none:=by rw [Zh hdl] at hdx;exact hdx
   have nR:∀ {b:Addr},H b=none->R b=false:=fun {b} z=>by
    cases y:R b with
    | false=>rfl
    | true=>obtain ⟨o,ho⟩:=(mu b y).some;rw [z] at ho;cases ho
   refine q _ (some dx) (fun c o hc h=>?_) ?_ ?_ (Z24 hdn Zs fun g a hm=>by simp at hm;obtain ⟨_,rfl⟩:=hm;exact ⟨hln,_,by rw [Zh (Ne.symm hdl),Zh hle,Zs]⟩)
   ·have c1:c≠dx:=fun z=>by rw [z,hdn] at h;cases h
    have c2:c≠l:=fun z=>by rw [z,hln] at h;cases h
    rw [Zh c1,Zh hc,Zh c2];exact h
   ·rw [Zh (Ne.symm hde),Zs]
   ·refine ⟨[(f,.ref l)],Wl Zs (nR hdn),fun g=>?_⟩
    by_cases eg:g=f
    ·subst eg
     refine .inr ⟨.nums ns,.ref l,by simp [List.lookup],by simp [List.lookup],l,rfl,.inl (.inl (Wl ?_ (nR hln))),?_⟩
     ·rw [Zh (Ne.symm hdl),Zh hle,Zs]
     ·exact le_of_lt (Qi (by have:=hs.1;lia))
    ·have e':(g==f)=false:=by simpa using eg
     exact .inl ⟨by simp [List.lookup,e'],by simp [List.lookup,e']⟩
  ·cases hG
 ·cases hG
end
theorem Z81 {K:Frag} {H0 H:Hp} {A:AS} {dct:Option Addr} {fl:List (Str×XD)} (h:P9 K H dct fl) (n:Oa H0 H dct) (nA:∀ b,H0 b=none->A b=false):P9 K (av H A) dct fl:=by
 cases dct with
 | none=>exact h
 | some dx =>
  obtain ⟨fvs,e1,e2⟩:=h;refine ⟨fvs,Wl e1 (nA _ (n dx rfl).1),fun f=>(e2 f).imp id fun ⟨d,v,a,b,c⟩=>⟨d,v,a,b,?_⟩⟩;cases d with
  | int i=>exact c
  | nums is =>
   obtain ⟨a',z1,z2,z3⟩:=c;subst z1;have hn:=nA _ (((n dx rfl).2 fvs f a' e1 b).1);refine ⟨a',rfl,?_,z3⟩;rcases z2 with (z | ⟨o,z⟩) | z
   ·exact .inl (.inl (Wl z hn))
   ·exact .inl (.inr ⟨o,Wl z hn⟩)
   ·exact .inr z
def D9 (F:List Dat->Rs):List Dat->Rs:=fun ds=>match F ds with
 | .ok d=>if Vy d=true then .ok d else .no
 | r=>r
section
variable {X:Cx} {m fr fr':Bool} {F:List Dat->Rs} {k:Nat} {x:Str} {ps:List Str} {e:Expr} {es:List Expr} {fs:Ev->Option (List Dat)} {p pos:Pos}
theorem Z9o {pl:Bool} (C:CalX X.prog X.w X.K X.mg X.base k x ps fr F pl) (hr:Room k X.A) (ha:Lb true X (e::es) fs) (hg:Gl X x:=by rfl)
  (hdb:(x==("__debug__" : Str))=false:=by decide) (he:starEach (e::es) X.env=(false,eval e X.env)::starEach es X.env:=by rfl) (hpl:(backTo pos (starEach es X.env)).any (·.1)=false:=by rfl) (hp:X.pl=true->pl=true:=by first | exact fun _=>rfl | exact fun z=>nomatch z) :
  PE X (.Call (.Name x p) (e::es) [] pos) (tXx X fr (D9 F) fs):=by
 obtain ⟨f,fd,Ff,hm,hk,hb⟩:=C.ex;intro pins s σ H Q I ⟨env,B,A,ds,kk,e1,q⟩;refine wpAny_Call_Name_kw (U2 I hg hm ?_ hdb);refine PySem.W.callWith_K (h₀:=X.base) I.ok.mod.kin hk (Wu (ha pos pins s σ H (fun vs H1=>Zo H H1/\Wg X.K H1 ds vs) I ⟨env,B,A,ds,kk,e1,fun vs H1 s1 rs=>⟨s1,rs.full⟩⟩) fun us s1 ⟨vs,H1,I1,r,sm,rs⟩=>⟨I1.kIn,?_⟩) he hpl;have hne:F ds≠.no:=fun z=>by unfold D9 at q;rw [z] at q;exact q
 have hl:us.length=ps.length:=by rw [← r.length,Zy rs];exact C.len ds hne
 let E:XK:=fun cls dct H'=>∃ c fl C,F ds=.exc c fl/\cls=.ref C/\W5 X.K c C/\Zo H1 H'/\P9 X.K H' dct fl
 refine wpAny_call (codeAny_mono (Ff.run X.A X.stack s1 H1 ⟨us,[]⟩ us vs Q E hr I1.env0 (by simpa using hb s1 us I1.kIn (by simpa using hl)) r ⟨by rw [Zy rs];exact C.len ds hne,ds,no,(fun a h=>by cases h),by rw [N2];exact rs,?_⟩) fun rr s' hq=>?_)
 ·unfold Ar
  split
  ·rename_i d hd
   unfold D9 at q;rw [hd] at q;dsimp only at q;split at q
   ·rename_i d' hq
    split at hq
    ·rename_i hpu
     cases hq;exact fun v H' s2 r2 _=>q v H' (sm.trans s2) (by rw [N2] at r2;exact Rp.pure (kk.mu.mono (sm.trans s2)) hpu r2)
    ·cases hq
   ·rename_i hq
    split at hq<;>cases hq
   ·exact q.elim
  ·rename_i c fl hd
   exact fun C dct H' s2 hc hf=>⟨c,fl,C,hd,rfl,hc,s2,by rw [N2] at hf;exact hf⟩
  ·rename_i hd
   exact hne hd
 ·cases rr with
  | error ev =>
   obtain ⟨ex,C,dct,T,H',c2,rfl,ho,hbr,un,hok,h1,h2,h3,h4,ht,hc2,hnw,c,fl,C',hF,eC,hc,sm2,hf⟩:=hq;cases eC;unfold D9 at q;rw [hF] at q;have I2:Inv X pins σ H' s':=I1.call' (ch:=[]) ho un hok hbr (fun b z=>absurd z (by simp));have sz:X.s₀.heap.objs.size<=s1.heap.objs.size:=I1.sz;have np:∀ {a:Addr},s1.heap.objs.size<=a->∀ p∈X.pn++pins,p.1≠a:=fun {a} ha p hp z=>by
    have:=(I1.pin p hp).1;rw [z] at this;exact absurd (lt_size this) (not_lt.mpr ha)
   have nA:∀ b,H1 b=none->A b=false:=fun b z=>by
    cases y:A b with
    | false=>rfl
    | true=>obtain ⟨o,ho⟩:=(kk.mu.mono sm b y).some;rw [z] at ho;cases ho
   exact q A H' σ (Step.same (sm.trans sm2)) (kk.mono (sm.trans sm2)) rfl pins s' ex C dct I2 hc ⟨le_trans sz h1,h3,.inr ⟨T,c2,le_trans sz h2,h4,np h2,ht,fun z=>hc2 (hp z)⟩,np h1⟩ (Z81 hf hnw nA) (hnw.mono fun b z=>kk.h0.none (sm.none z))
  | ok fl =>
   cases fl with
   | ret u=>exact I1.after hq
   | next=>exact False.elim hq
   | brk=>exact False.elim hq
   | cont=>exact False.elim hq
end
theorem RoomN.make {k:Nat} {A:Around} (r:RoomN (k+1) A) (C:Addr) (us:List Value) (kw:List (Str×Value)):RoomN k (A.under (.builtin "type.__call__" ⟨.ref C::us,kw⟩)) :=
 ⟨by have:=r.dp;rw [Ic];lia,by have:=r.un;rw [Hv];lia,r.gd⟩
abbrev Cx.inR (X:Cx) (pn:List (Addr×Obj)) (e:Addr):Cx:={ X with A:=X.A.mark (some (.ref e)),calm:=false,pn:=pn }
theorem Z6k {X:Cx} {pn:List (Addr×Obj)} {e:Addr} {oe:Obj} {ve:Array Value} (hstk:X.stack=X.env::X.outer/\X.env.frame=some X.env.locals) (hm:(e,oe)∈pn) (hd:oe.data=.fields ve) (h2:ve[2]?=some .none):HdC (X.inR pn e):=fun pins σ H s I=>by
 obtain ⟨a,b,c,d,_⟩:=I.pin (e,oe) (mem_append_left _ hm);refine .inr ⟨e,oe,ve,rfl,a,hd,h2,b,fun z=>?_⟩;have z:e∈Sk X.stack:=z;rw [hstk.1] at z;unfold Sk at z;rw [filterMap_cons,hstk.2] at z;rcases mem_cons.mp z with z | z
 ·exact c z
 ·exact d z
section
variable {X:Cx} {fr:Bool} {e:Expr} {es:List Expr} {fs:Ev->Option (List Dat)} {p pos cpos npos:Pos} {k n:Nat} {c:Str} {G:List Dat->Option (List (Str×XD))}
theorem Z13 {pins:List (Addr×Obj)} {σ:St} {H:Hp} {s:Shared} {us:List Value} {vs:List V} {ds:List Dat} {fl:List (Str×XD)} {env:Ev} {B:Bs} {A:AS} {E:Value->Shared->Prop} (M:XMakeN X.prog X.w X.K X.mg X.base k c n G) (hr:RoomN (k+1) X.A) (hh:HdC X)
  (I:Inv X pins σ H s) (kk:EnvOk X.K B A H σ env) (r:Y3 vs us) (rs:Wg X.K (av H A) ds vs) (hG:G ds=some fl) {C fI D:Addr} (hcl:W5 X.K c C) (hx:Jp X.K C fI D=true) {fd:FuncData} {ps:List Str} (hfn:isFn X.K (.ref fI)=true) (F:FnOkN X.prog X.w X.K X.mg X.base Dy k fI fd ps (spG X.K C n G)) (hb:J9 X.K fd ps []) :
  wpAny (model X.prog X.w) X.A (call (.ref C) us) (fun v s'=>∃ ex t dct H',v=.ref ex/\s'.heap.get? ex=some { cls:=.ref C,dict:=dct,data:=.fields #[.ref t,.none,.none,.none,.bool false,.none] }/\Inv X pins σ H' s'/\Zo H H'/\X.s₀.heap.objs.size<=ex/\H' ex=none/\(∀ p∈X.pn++pins,p.1≠ex)/\P9 X.K (av H' A) dct fl/\s.heap.objs.size<=ex/\Oa B.H₀ H' dct) E s:=by
 obtain ⟨nm,qn,N,bs,sn,sub,ab,col,dd,k0,k1,k2,k3,k5,mN,hC,hN,hi,T⟩:=Ir I.kIn hx;have hfI:∃ oI,s.heap.get? fI=some oI/\oI.cls=.type "function" := by
  have:=beq_iff_eq.mp hfn;obtain ⟨oI,h1,h2⟩:=Option.map_eq_some_iff.mp this;exact ⟨oI,I.kIn _ _ h1,h2⟩
 obtain ⟨oI,hfI,hfc⟩:=hfI;have hlen:us.length<=sizeLine:=by
  have h1:=r.length;have h2:=Zy rs;have h3:=M.len ds fl hG;have h4:=M.few;exact le_of_lt (Qi (by lia))
 obtain ⟨hp,g,d,tk,os⟩:=s;refine Kr (hrest:=hlen) PySem.F.excBase_ValueError (by decide) PySem.F.excBase_ValueError T hC hN hi hfI hfc fun h' ex hlo hm=>?_
 obtain ⟨t0,ht0,_,_⟩:=hm.there;have hfr:H ex=none:=I.hok.fresh hlo;have I2:Inv X pins σ (W4 H ex (.ext (Ea ex C none))) ⟨h',g,d,tk,os⟩:=I.laid (h':=h') (t':=tk) (a:=ex) (o:=.ext (Ea ex C none)) hm.keeps hlo (Of ⟨t0,ht0⟩);have aex:A ex=false:=by
  cases z:A ex with
  | false=>rfl
  | true=>obtain ⟨o,ho⟩:=(kk.mu ex z).some;rw [hfr] at ho;cases ho
 have sm1:Zo H (W4 H ex (.ext (Ea ex C none))):=E7 hfr;let Q':VK:=fun v H'=>v=.non/\∃ dct,(∀ c o,c≠ex->W4 H ex (.ext (Ea ex C none)) c=some o->H' c=some o)/\H' ex=some (.ext (Ea ex C dct))/\P9 X.K (av H' A) dct fl/\Oa (W4 H ex (.ext (Ea ex C none))) H' dct
 have hsp:spG X.K C n G (.ref ex::vs) (W4 H ex (.ext (Ea ex C none))) Q' E0:=⟨ex,vs,ds,A,fl,rfl,by rw [Zy rs];exact M.len ds fl hG,Zs,kk.mu.mono sm1,aex,rs.mono (Ws sm1),hG,fun H' dct h1 h2 h3 h4=>⟨rfl,dct,h1,h2,h3,h4⟩⟩;have hl2:(Value.ref ex::us).length=ps.length:=by
  have e1:=F.len _ _ _ _ hsp;have e2:=r.length;rw [length_cons] at e1 ⊢;lia
 refine wpAny_call (codeAny_mono (F.run _ X.stack ⟨h',g,d,tk,os⟩ _ ⟨Value.ref ex::us,[]⟩ (Value.ref ex::us) (V.ref ex::vs) Q' E0 (hr.make C us []) (hh _ _ _ _ I2) (I2.env0.make C us []) (by simpa using hb _ (Value.ref ex::us) I2.kIn (by simpa using hl2)) (.cons rfl r) hsp) fun rr s' hq=>?_);cases rr with
 | error e=>exact False.elim hq
 | ok fl' =>
  cases fl' with
  | ret u =>
   obtain ⟨v,H',I3,rv,ev,dct,h1,h2,h3,h4⟩:=I2.after hq;subst ev;have eu:u=.none:=rv;subst eu;refine ⟨rfl,?_⟩;obtain ⟨⟨t1,ht1⟩,_,_⟩:=(show Yy X.prog X.w H' s'.heap ex (.ext (Ea ex C dct)) from I3.hok ex _ h2);have I4:=I3.drop h2;have sm:Zo H (drp H' ex):=fun b o q=>by
    have hb:b≠ex:=fun z=>by rw [z,hfr] at q;cases q
    rw [Rf hb];exact h1 b o hb (by rw [Zh hb];exact q)
   refine ⟨ex,t1,dct,drp H' ex,rfl,ht1,I4,sm,le_trans I.sz hlo,Dt,fun p hp z=>?_,?_,hlo,Bf h4 ⟨_,h2⟩ kk.h0⟩
   ·have:=(I.pin p hp).1
    rw [z] at this;exact absurd (lt_size this) (not_lt.mpr hlo)
   ·exact h3.of_ne (e:=ex) (Wl h2 aex) fun c o hc q=>Wl (by rw [Rf hc];exact (Wf q).2) (Wf q).1
  | next=>exact False.elim hq
  | brk=>exact False.elim hq
  | cont=>exact False.elim hq
theorem Xi (M:XMakeN X.prog X.w X.K X.mg X.base k c n G) (hr:RoomN (k+1) X.A) (hh:HdC X) (ha:Lb false X (e::es) fs) (hn:X.A.handled≠none) (hpl0:X.pl=false:=by rfl) (hstk:X.stack=X.env::X.outer:=by rfl) (hg:Gl X c:=by rfl) (hdb:(c==("__debug__" : Str))=false:=by decide)
  (he:starEach (e::es) X.env=(false,eval e X.env)::starEach es X.env:=by rfl) (hpl:(backTo cpos (starEach es X.env)).any (·.1)=false:=by rfl) {kn:Nat}:Su fr X (.Raise (some (.Call (.Name c p) (e::es) [] cpos)) (some (.Constant .none kn npos)) pos) (U5 c G fs):=by
 intro pins s σ H D I ⟨env,B,A,kk,hst,q⟩;obtain ⟨C,fI,D',fd,ps,hcl,hm,hkp,hx,xc,hfn,F,hb⟩:=M.ex;unfold U5 at q;split at q
 ·exact q.elim
 rename_i fl hfl;obtain ⟨ds,e1,hG⟩:=bind_some hfl;obtain ⟨nm,qn,N,bs,sn,sub,ab,col,dd,k0,k1,k2,k3,k5,mN,hC,hN,hi,T⟩:=Ir I.kIn hx;obtain ⟨h,hhd⟩:∃ h,X.A.handled=some (.ref h):=by
  rcases hh _ _ _ _ I with z | ⟨h,_,_,z,_⟩
  ·exact absurd z hn
  ·exact ⟨h,z⟩
 have key:wpAny (model X.prog X.w) X.A (eval (.Call (.Name c p) (e::es) [] cpos) X.env) (fun v s'=>∃ ex t dct H',v=.ref ex/\s'.heap.get? ex=some { cls:=.ref C,dict:=dct,data:=.fields #[.ref t,.none,.none,.none,.bool false,.none] }/\Inv X pins σ H' s'/\Zo H H'/\X.s₀.heap.objs.size<=ex/\H' ex=none/\(∀ p∈X.pn++pins,p.1≠ex)/\P9 X.K (av H' A) dct fl/\h≠ex/\Oa B.H₀ H' dct) X.xe s:=by
  refine wpAny_Call_Name_kw (U2 I hg hm ?_ hdb);refine callWith_K (h₀:=X.base) I.ok.mod.kin hkp (Wu (ha cpos pins s σ H (fun vs H1=>Zo H H1/\Wg X.K (av H1 A) ds vs) I ⟨env,B,A,ds,kk,e1,fun vs H1 s1 rs=>⟨s1,rs.rps⟩⟩) fun us s1 ⟨vs,H1,I1,r,sm,rs⟩=>⟨I1.kIn,?_⟩) he hpl;refine wpAny_mono (Z13 (E:=X.xe) M hr hh I1 (kk.mono sm) r rs hG hcl hx hfn F hb) (fun v s' ⟨ex,t,dct,H',z1,z2,z3,z4,z5,z6,z7,z8,z9,z10⟩=>⟨ex,t,dct,H',z1,z2,z3,sm.trans z4,z5,z6,z7,z8,fun z=>?_,z10⟩) fun _ _ z=>z
  rcases hh _ _ _ _ I1 with y | ⟨h',_,_,y,y1,_⟩
  ·exact hn y
  ·rw [hhd] at y
   cases y;have:=lt_size y1;rw [z] at this;exact absurd this (not_lt.mpr z9)
 obtain ⟨o,lk⟩:∃ o,X.K.lookup C=some o:=by
  unfold Jp at hx;split at hx
  ·rename_i ho;exact ⟨_,ho⟩
  ·cases hx
 have e2:=(I.kIn _ _ lk).symm.trans hC;cases e2;rw [arm_exec_Raise];refine wpAny_bind (wpAny_standAt (Pj (C:=C) (nm:=nm) (q:=qn) (N:=N) (bs:=bs) (bm:=.ref D'::Q8) (hdct:=true) (sn:=sn) (sub:=sub) (ab:=ab) (col:=col) (dd:=dd) (k0:=k0) (k1:=k1) (k2:=k2) (k3:=k3) (k5:=k5) (newId:="ValueError.__new__") (by simp [Q8]) hhd (wpAny_bind (wpAny_mono key (fun v s₃ h₃=>wpAny_bind (wpAny_standAt (wpAny_pure ?_))) fun _ _ x=>x))));obtain ⟨ex,t,dct,H',rfl,hex,I3,sm,lo,un,pe,hf,hne,hnw⟩:=h₃;obtain ⟨oh,vh,hg1,hg2,hg3⟩:∃ oh vh,s₃.heap.get? h=some oh/\oh.data=.fields vh/\vh[2]?=some .none:=by
  rcases hh _ _ _ _ I3 with y | ⟨h',oh,vh,y,y1,y2,y3,_⟩
  ·exact absurd y hn
  ·rw [hhd] at y
   cases y;exact ⟨oh,vh,y1,y2,y3⟩
 have nloc:ex≠X.env.locals/\∀ y c,X.env.cells.lookup y=some c->c≠ex:=by
  refine ⟨fun z=>?_,fun y c hc z=>?_⟩
  ·obtain ⟨m,⟨o',es,ep,ho',hd',_⟩,_⟩:=I3.loc
   rw [z,ho'] at hex;cases hex;cases hd'
  ·obtain ⟨v,o',ho',hd'⟩:=I3.cell y c hc
   rw [z,hex] at ho';cases ho';cases hd'
 refine ⟨ex,.ref t,dct,rfl,I3.kIn _ _ lk,hex,hne,⟨oh,vh,hg1,hg2,hg3⟩,wpAny_bind (wpAny_Constant_none (wpAny_bind (wpAny_standAt (wpAny_pure ⟨rfl,rfl,fun h' hk hx' hz=>?_⟩))))⟩;have hfree:∀ b∈Sk (X.env::X.outer),H' b=none:=by rw [← hstk];exact I3.stkFree
 have kp:Hs (X.env::X.outer) [ex] s₃.heap h':=Hs.of fun b o hb hc=>(hk b (by simpa using hc)).trans hb
 have hch:∀ b∈[ex],b=ex:=fun b hb=>mem_singleton.mp hb
 have I4:Inv X pins σ H' { s₃ with heap:=h' }:=I3.call' (s':={ s₃ with heap:=h' }) (ch:=[ex]) rfl (by rw [hstk];exact Em kp fun b hb=>by rw [hch b hb];exact un) (J7 I3.hok kp (fun b hb=>by rw [hch b hb];exact un) hfree) I3.bare fun b hb=>by rw [hch b hb];exact ⟨.inr lo,nloc.1,nloc.2,pe⟩
 exact q A H' σ (Step.same sm) (kk.mono sm) pins { s₃ with heap:=h' } ex C dct I4 hcl ⟨lo,un,.inl ⟨_,_,hx',rfl,rfl,rfl,rfl,fun z=>by rw [hpl0] at z;cases z⟩,pe⟩ hf hnw
end
def Z3r (K:Frag) (mg:Str->Option Value) (T:Str) (known:List Str):Prop:=∃ D,mg T=some (.ref D)/\∀ c C,c∈known->W5 K c C->exmOne K (.ref C) (.ref D)=some (decide (c=T))
def Z7x:Fl->Fl
 | .exc e c f=>.exc e c f
 | _=>.no
def X4 (known:List Str) (T1 T2:Str) (g k1 k2:Ev->Fl):Ev->Fl:=fun env=>match g env with
 | .exc env' c fl=>if c∈known then (if c=T1 then Z7x (k1 env') else if c=T2 then Z7x (k2 env') else .no) else .no
 | r=>r
theorem Inv.ofR {X:Cx} {pins pins' pn:List (Addr×Obj)} {σ:St} {H:Hp} {s:Shared} {e:Addr} (ok:X.Ok) (hs:∀ p∈X.pn++pins,p∈pn) (I:Inv (X.inR pn e) pins' σ H s):Inv X pins σ H s :=
 ⟨ok,I.os,I.bare,I.base,I.loc,I.cell,I.free,I.freeC,fun p hp=>I.pin p (mem_append_left _ (hs p hp)),I.hok,I.len⟩
theorem SP.ofR {X:Cx} {pins pn:List (Addr×Obj)} {D:Ends} {f:Flow} {s:Shared} {e:Addr} (ok:X.Ok) (hs:∀ p∈X.pn++pins,p∈pn) (h:SP (X.inR pn e) [] D f s):SP X pins D f s:=by
 cases f with
 | next=>obtain ⟨σ',H',I,q⟩:=h;exact ⟨σ',H',I.ofR ok hs,q⟩
 | brk=>obtain ⟨σ',H',I,q⟩:=h;exact ⟨σ',H',I.ofR ok hs,q⟩
 | cont=>obtain ⟨σ',H',I,q⟩:=h;exact ⟨σ',H',I.ofR ok hs,q⟩
 | ret u=>obtain ⟨v,σ',H',I,r,q⟩:=h;exact ⟨v,σ',H',I.ofR ok hs,r,q⟩
section
variable {X:Cx} {fr:Bool} {g k1 k2:Ev->Fl} {body:List Stmt} {b1 b2:Stmt} {su1 su2:List Stmt} {T1 T2:Str} {np1 np2 hp1 hp2 pos:Pos} {known:List Str}
theorem Z5g (hp:∀ e,PassesOwnAt (model X.prog X.w) (X.A.mark (some (.ref e))) X.A X.env X.xe) (hb:∀ pn E,Lp fr ((X.inTry pn E).pls true) body g)
  (h1:∀ pn e,HdC (X.inR pn e)->Lp fr (X.inR pn e) (b1::su1) k1) (h2':∀ pn e,HdC (X.inR pn e)->Lp fr (X.inR pn e) (b2::su2) k2) (c1:Z3r X.K X.mg T1 known) (c2:Z3r X.K X.mg T2 known)
  (hg1:Gl X T1:=by rfl) (hdb1:(T1==("__debug__" : Str))=false:=by decide) (hg2:Gl X T2:=by rfl) (hdb2:(T2==("__debug__" : Str))=false:=by decide)
  (hstk:X.stack=X.env::X.outer/\X.env.frame=some X.env.locals:=by exact ⟨rfl,rfl⟩) :
  Su fr X (.Try body [.ExceptHandler (some (.Name T1 np1)) none (b1::su1) hp1,.ExceptHandler (some (.Name T2 np2)) none (b2::su2) hp2] [] [] pos) (X4 known T1 T2 g k1 k2):=by
 obtain ⟨D1,m1,x1⟩:=c1;obtain ⟨D2,m2,x2⟩:=c2;intro pins s σ H D I ⟨env,B,A,kk,hst,q⟩;let HS:List ExceptHandler:=[.ExceptHandler (some (.Name T1 np1)) none (b1::su1) hp1,.ExceptHandler (some (.Name T2 np2)) none (b2::su2) hp2]
 let EX:Value->Shared->Prop:=fun ev s₁=>wpAny (model X.prog X.w) X.A (noteFrame ev X.env) (fun _ s₂=>wpAny (model X.prog X.w) X.A (setFlight ev none) (fun _ s₃=>wpAny (model X.prog X.w) X.A (handleBy ev X.env HS) (SP X pins D) X.xe s₃) X.xe s₂) X.xe s₁
 have flok:Eh fr ((X.inTry (X.pn++pins) EX).pls true) B A H D (g env):=by
  unfold X4 at q;cases eg:g env with
  | next e'=>rw [eg] at q;exact q
  | brk e'=>rw [eg] at q;exact q
  | cont e'=>rw [eg] at q;exact q
  | ret d=>rw [eg] at q;exact q
  | no=>rw [eg] at q;exact q
  | exc env' c fl =>
   rw [eg] at q;dsimp only at q;split at q
   case isFalse=>exact q.elim
   rename_i hkn;intro A1 H1 σ1 st1 kv1 pins' s1 e C dct I1 hcl x hf1 hnw1;have J1:Inv X pins σ1 H1 s1:=I1.unpls.ofTry I.ok;have hfr:X.A.frames=some (X.env::X.outer):=by rw [← hstk.1];exact J1.ok.frames
   have hl:s1.heap.FunFrames X.base (X.env::X.outer):=by rw [← hstk.1];exact J1.stack
   have hkb:X.base.StaysIn s1.heap:=J1.bk;have hen:X.base.get? e=none:=J1.noBase x.lo;have hfree:∀ b∈Sk (X.env::X.outer),H1 b=none:=by rw [← hstk.1];exact J1.stkFree
   have hpn:∀ {a:Addr},(∀ p∈(X.inTry (X.pn++pins) EX).pn++pins',p.1≠a)->∀ p∈X.pn++pins,p.1≠a:=fun {a} z p hp=>z p (mem_append_left _ hp)
   have nloc:∀ {s1:Shared} (J1:Inv X pins σ1 H1 s1) {a:Addr} {o:Obj} {vs:Array Value},s1.heap.get? a=some o->o.data=.fields vs->a≠X.env.locals/\∀ y c,X.env.cells.lookup y=some c->c≠a:=fun {s1} J1 {a o vs} ho hd=>by
    refine ⟨fun z=>?_,fun y c hc z=>?_⟩
    ·obtain ⟨m,⟨o',es,ep,ho',hd',_⟩,_⟩:=J1.loc
     rw [z,ho'] at ho;cases ho;rw [hd] at hd';cases hd'
    ·obtain ⟨v,o',ho',hd'⟩:=J1.cell y c hc
     rw [z,ho] at ho';cases ho';rw [hd] at hd';cases hd'
   -- a suite
   have suite:∀ (b₀:Stmt) (su:List Stmt) (hp':Pos) (kf:Ev->Fl) (hh:∀ pn e,HdC (X.inR pn e)->Lp fr (X.inR pn e) (b₀::su) kf) (qf:Eh fr X B A H D (Z7x (kf env'))) (h2:Heap) (T':Addr),s1.heap.objs.size<=T'->X.base.StaysIn h2->h2.FunFrames X.base (X.env::X.outer)->Ez h2 X.base e T' (.ref C,some .none) dct .none->Inv X pins σ1 H1 { s1 with heap:=h2 } ->
     codeAny (model X.prog X.w) (X.A.mark (some (.ref e))) (.handlers (.ref e) [.ExceptHandler none none (b₀::su) hp'] X.env) (fun r s₂=>match r with
      | .ok f=>SP X pins D f s₂
      | .error x=>cameBackBy (model X.prog X.w) X.A X.env X.xe x s₂) { s1 with heap:=h2 }:=by
    intro b₀ su hp' kf hh qf h2 T' hT' sb2 ff2 tr2 J2;obtain ⟨oe,ve,oT,ts,g1,g2,g3,g4,g5,g6,g7,g8,g9,g10⟩:=id tr2;refine codeAny_handlers_suite ?_;refine Gs (s:={ s1 with heap:=h2 }) sb2 ff2 tr2 fun h3 y1 y2 tr3 y4 y5=>?_
    have kp3:Hs (X.env::X.outer) [T'] h2 h3:=.of fun b o hb hc=>y4 b o hb hc
    have hTn:H1 T'=none:=J1.hok.fresh hT';have hTl:=nloc J2 g8 g9;have hTp:∀ p∈X.pn++pins,p.1≠T':=fun p hp z=>by
     have:=(J1.pin p hp).1;rw [z] at this;exact absurd (lt_size this) (not_lt.mpr hT')
    have hTs:∀ b∈[T'],b=T':=fun b hb=>mem_singleton.mp hb
    have J3:Inv X pins σ1 H1 { s1 with heap:=h3 }:=J2.call' (s':={ s1 with heap:=h3 }) (ch:=[T']) rfl (by rw [hstk.1];exact Em kp3 fun b hb=>by rw [hTs b hb];exact hTn) (J7 J2.hok kp3 (fun b hb=>by rw [hTs b hb];exact hTn) hfree) J2.bare fun b hb=>by rw [hTs b hb];exact ⟨.inr (le_trans J1.sz hT'),hTl.1,hTl.2,hTp⟩
    obtain ⟨oe',ve',_,_,e1,e2,e3,e4,_⟩:=id tr3;have el:=nloc J3 e1 e4;have hv2:ve'[2]?=some .none:=(Prod.mk.inj e2).2;have efs:e∉X.fs:=fun z=>by
     obtain ⟨_,o,ho,hnf⟩:=y2.mem (show e∈(X.env::X.outer).filterMap (·.frame) from by
      rw [filterMap_cons,hstk.2];exact mem_cons_of_mem _ z)
     have ho:h3.get? e=some o:=ho;rw [e1] at ho;cases ho;exact hnf ve' e4
    have hs:∀ p∈X.pn++pins,p∈X.pn++pins++[(e,oe')]:=fun p hp=>mem_append_left _ hp
    have hm:(e,oe')∈X.pn++pins++[(e,oe')]:=mem_append_right _ (mem_singleton.mpr rfl);have J4:Inv (X.inR (X.pn++pins++[(e,oe')]) e) [] σ1 H1 { s1 with heap:=h3 } :=
     ⟨⟨J3.ok.mod,J3.ok.kind,J3.ok.glob,J3.ok.blt,J3.ok.above,J3.ok.inj,J3.ok.has,J3.ok.cab,(fun z=>nomatch z),J3.ok.frames,J3.ok.stk,J3.ok.exf,J3.ok.bs,J3.ok.bsz,J3.ok.noex,J3.ok.exfs,J3.ok.funs,J3.ok.frf⟩,J3.os,J3.bare,J3.base,J3.loc,J3.cell,J3.free,J3.freeC,fun p hp=>by
      rw [append_nil] at hp;rcases mem_append.mp hp with hp | hp
      ·exact J3.pin p hp
      ·rw [mem_singleton.mp hp]
       exact ⟨e1,x.un,el.1,efs,fun v z=>by rw [e4] at z;cases z⟩,J3.hok,J3.len⟩
    have fl2:Eh fr (X.inR (X.pn++pins++[(e,oe')]) e) B A1 H1 D (kf env'):=by
     have q2:=qf.step st1;cases ek:kf env' with
     | exc e' c' f' =>
      rw [ek] at q2;exact fun A' H' σ' s' k' pins2 s5 e5 C5 d5 I5 hc5 x5 hf5 hn5=>q2 A' H' σ' s' k' pins s5 e5 C5 d5 (I5.ofR I.ok hs) hc5 ⟨x5.lo,x5.un,x5.ob.imp id fun ⟨T,c2,a1,a2,a3,a4⟩=>⟨T,c2,a1,a2,fun p hp=>a3 p (mem_append_left _ (hs p hp)),a4⟩,fun p hp=>x5.pe p (mem_append_left _ (hs p hp))⟩ hf5 hn5
     | next e'=>rw [ek] at q2;exact q2.elim
     | brk e'=>rw [ek] at q2;exact q2.elim
     | cont e'=>rw [ek] at q2;exact q2.elim
     | ret d=>rw [ek] at q2;exact q2.elim
     | no=>rw [ek] at q2;exact q2.elim
    exact wpAny_mono (hh (X.pn++pins++[(e,oe')]) e (Z6k hstk hm e4 hv2) [] _ _ _ _ J4 ⟨_,B,A1,kv1,hst,fl2⟩) (fun f s6 hs6=>hs6.ofR I.ok hs) (fun ev s6 z=>hp e ev s6 z)
   -- behind the landing
   have after:∀ (h2:Heap) (T':Addr) (ch:List Addr),s1.heap.objs.size<=T'->X.base.StaysIn h2->h2.FunFrames X.base (X.env::X.outer)->Ez h2 X.base e T' (.ref C,some .none) dct .none->Hs (X.env::X.outer) ch s1.heap h2->(∀ b∈ch,H1 b=none/\X.s₀.heap.objs.size<=b/\b≠X.env.locals/\(∀ y c,X.env.cells.lookup y=some c->c≠b)/\∀ p∈X.pn++pins,p.1≠b) ->
     wpAny (model X.prog X.w) X.A (handleBy (.ref e) X.env HS) (SP X pins D) X.xe { s1 with heap:=h2 }:=by
    intro h2 T' ch hT' sb2 ff2 tr2 kp hch;have J2:Inv X pins σ1 H1 { s1 with heap:=h2 }:=J1.call' (s':={ s1 with heap:=h2 }) (ch:=ch) rfl (by rw [hstk.1];exact Em kp fun b hb=>(hch b hb).1) (J7 J1.hok kp (fun b hb=>(hch b hb).1) hfree) J1.bare fun b hb=>⟨.inr (hch b hb).2.1,(hch b hb).2.2.1,(hch b hb).2.2.2.1,(hch b hb).2.2.2.2⟩
    obtain ⟨oe,ve,oT,ts,g1,g2,g3,g4,g5,g6,g7,g8,g9,g10⟩:=id tr2;have g2:=(Prod.mk.inj g2).1;have LT:Looks (model X.prog X.w) h2 (typeOf (.ref e)) (.ref C):=g2▸(Looks.ld g1).andThen .now;have e1:=x1 c C hkn hcl;have e2:=x2 c C hkn hcl;refine wpAny_handleBy_cons (codeAny_handlers_test (U2 (J2.toH (e:=e)) hg1 m1 ?_ hdb1)) (by intro z;cases z);by_cases z1:c=T1
    ·rw [decide_eq_true z1] at e1
     rw [if_pos z1] at q;exact (exm_one (M:=model X.prog X.w) J2.kIn LT e1).here (suite b1 su1 hp1 k1 h1 q h2 T' hT' sb2 ff2 tr2 J2)
    ·rw [decide_eq_false z1] at e1
     rw [if_neg z1] at q;refine (exm_one (M:=model X.prog X.w) J2.kIn LT e1).here ?_;show wpAny _ _ _ _ _ _;refine wpAny_handleBy_cons (codeAny_handlers_test (U2 (J2.toH (e:=e)) hg2 m2 ?_ hdb2)) (by intro z;cases z);by_cases z2:c=T2
     ·rw [decide_eq_true z2] at e2
      rw [if_pos z2] at q;exact (exm_one (M:=model X.prog X.w) J2.kIn LT e2).here (suite b2 su2 hp2 k2 h2' q h2 T' hT' sb2 ff2 tr2 J2)
     ·rw [if_neg z2] at q
      exact q.elim
   show wpAny _ _ _ _ _ _;rcases x.ob with ⟨o,vs,he,hc,hd,hda,hv1,hpl⟩ | ⟨T0,c2,hT,hTn,hTp,ht,hpl⟩
   ·have hv2:=hpl rfl
    refine Jg hfr hl hstk.2 he hkb hen hda hv1 fun h' T' x0 x1 x2 x3 x4 x5=>?_
    refine Gs (s:={ s1 with heap:=h' }) x1 x2 x3 fun h2 y1 y2 y3 y4 y5=>?_
    rw [hc,hd,hv2] at y3;refine after h2 T' [e] x0 y1 y2 y3 (M0 x4 x0 y4) fun b hb=>?_
    rw [mem_singleton.mp hb];have z:=nloc J1 he hda;exact ⟨x.un,x.lo,z.1,z.2,hpn x.pe⟩
   ·have hv2:=hpl rfl
    subst hv2;refine B4 hfr hl hstk.2 ht hkb hen fun h' T' x0 x1 x2 x3 x4 x5=>?_
    refine Gs (s:={ s1 with heap:=h' }) x1 x2 x3 fun h2 y1 y2 y3 y4 y5=>?_
    refine after h2 T' [e,T0] x0 y1 y2 y3 (M0 x4 x0 y4) fun b hb=>?_
    obtain ⟨oe,ve,oT,ts,g1,g2,g3,g4,g5,g6,g7,g8,g9,g10⟩:=id ht;rcases mem_cons.mp hb with z | z
    ·rw [z];have w:=nloc J1 g1 g4;exact ⟨x.un,x.lo,w.1,w.2,hpn x.pe⟩
    ·rw [mem_singleton.mp z];have w:=nloc J1 g8 g9;exact ⟨hTn,hT,w.1,w.2,hpn hTp⟩
 refine wpAny_Try_except (wpAny_mono (hb (X.pn++pins) EX [] s σ H D I.toTry.pls ⟨env,B,A,kk,hst,flok⟩) (fun f s₁ hs=>?_) (fun e s₁ hx=>hx));cases f with
 | next=>obtain ⟨σ',H',I',q'⟩:=hs;exact wpAny_pure ⟨σ',H',I'.unpls.ofTry I.ok,q'⟩
 | brk=>obtain ⟨σ',H',I',q'⟩:=hs;exact ⟨σ',H',I'.unpls.ofTry I.ok,q'⟩
 | cont=>obtain ⟨σ',H',I',q'⟩:=hs;exact ⟨σ',H',I'.unpls.ofTry I.ok,q'⟩
 | ret u=>obtain ⟨v,σ',H',I',r',q'⟩:=hs;exact ⟨v,σ',H',I'.unpls.ofTry I.ok,r',q'⟩
end
theorem Z5n {P:Program} {w:World} {K:Frag} {mg:Str->Option Value} {base:Heap} {N:List Str} {qual:Str} {scope:Scope} {f:Addr} {cd:Value} {A:Around} {outer:List Env} {s:Shared} {H:Hp} {E:XK} (e:Addr) :
  PassesOwnAt (model P w) ((cxL P w K mg base N qual scope f cd A outer s H E).A.mark (some (.ref e))) (cxL P w K mg base N qual scope f cd A outer s H E).A (cxL P w K mg base N qual scope f cd A outer s H E).env (cxL P w K mg base N qual scope f cd A outer s H E).xe :=
 Z1n (X:=Qd (B9 P w base) P w K mg base N qual scope f cd A outer s H E) rfl ⟨rfl,rfl⟩
theorem B0 {K:Frag} {mg:Str->Option Value} {raised:List Str} {T:Str} {D:Addr} (hm:mg T=some (.ref D)) (h:∀ c∈raised,∃ C,W5 K c C/\exmOne K (.ref C) (.ref D)=some (decide (c=T))):Z3r K mg T raised:=by
 refine ⟨D,hm,fun c C hc hb=>?_⟩;obtain ⟨C',h1,h2⟩:=h c hc;unfold W5 at hb h1;rw [hb] at h1;cases h1;exact h2
theorem RoomN.mark {k:Nat} {A:Around} {v:Option Value} (r:RoomN k A):RoomN k (A.mark v):=⟨r.dp,r.un,r.gd⟩
section
variable {X:Cx} {fr:Bool} {g k1 k2:Ev->Fl} {body:List Stmt} {b1 b2:Stmt} {su1 su2:List Stmt} {T1 T2:Str} {np1 np2 hp1 hp2 pos:Pos} {known:List Str} {b1' b2':Str->Bool}
end
theorem Pk.fld {K:Frag} {A:AS} {H:Hp} {c fd:Str} {fl:List (Str×XD)} {v:V} {xd:XD} (p:Pk K A H (.exc c fl) v) (h:fl.lookup fd=some xd) :
  ∃ (ex C dx:Addr) (fvs:List (Str×V)) (vv:V),v=.ref ex/\H ex=some (.ext (Xg ex C (some dx)))/\W5 K c C/\H dx=some (.xd fvs)/\fvs.lookup fd=some vv/\Pk K A H xd.d vv/\((∃ i,vv=.int i)\/∃ a,vv=.ref a):=by
 rcases p with p | ⟨_,_,_,z,_⟩ | ⟨c',f',ns,z,x⟩
 ·obtain ⟨ex,C,dct,z1,z2,z3,z4⟩:=Fu p
  cases dct with
  | none=>rw [show fl=[] from z4] at h;cases h
  | some dx =>
   obtain ⟨fvs,y1,y2⟩:=z4;rcases y2 fd with ⟨y3,_⟩ | ⟨d',vv,y3,y4,y5⟩
   ·rw [y3] at h;cases h
   ·rw [y3] at h;cases h
    refine ⟨ex,C,dx,fvs,vv,z1,(Wf z2).2,z3,(Wf y1).2,y4,.inl (Zcj y5),?_⟩;cases xd with
    | int i=>exact .inl ⟨i,y5⟩
    | nums is=>obtain ⟨a,z,_⟩:=y5;exact .inr ⟨a,z⟩
 ·cases z
 ·cases z
  obtain ⟨ex,C,dx,fvs,a,h1,h2,h3,h4,h5,h6,h7,h8⟩:=x;by_cases hf:fd=f'
  ·subst hf
   have h':xd=.nums ns:=by simpa [List.lookup] using h.symm
   subst h';exact ⟨ex,C,dx,fvs,.ref a,h1,h2,h3,h4,h6,.inr (.inl ⟨a,ns.map V.int,ns.map .int,rfl,rfl,by rw [length_map];exact h8,h7,Jz ns⟩),.inr ⟨a,rfl⟩⟩
  ·simp only [List.lookup] at h
   rw [show (fd==f')=false from by simpa using hf] at h;cases h
theorem EnvOk.gxS {K:PySem.W.Frag} {B:Bs} {A:AS} {H:Hp} {σ:St} {env:Ev} {i:Nat} {g:GX} (k:EnvOk K B A H σ env) (hst:B.st=true) (h:env[i]?=some (.gx g)) :
  ∃ (v:V) (o:Addr->Prop),σ[i]?=some (some v)/\GOk K A H o g v/\(∀ b,o b->A b=true/\B.H₀ b=none) /\
   ∀ (H3:Hp),Zo H H3->∀ (b:Addr) (O:HO) (g':GX),o b->Mtb (some O)->GOk K A (W4 H3 b O) o g' v->Step A H3 A (W4 H3 b O)/\EnvOk K B A (W4 H3 b O) σ (env.set i (.gx g')):=by
 obtain ⟨own,h1,h2,h4⟩:=k.sl;obtain ⟨x,q1,v,e1,e2⟩:=h4 i _ h;subst e1;have hb0:∀ b,own i b->A b=true/\B.H₀ b=none:=fun b ob=>by
  obtain ⟨hA,hR⟩:=h2 i b ob;refine ⟨hA,?_⟩;rcases k.ar b hA with z | z
  ·rw [z] at hR;cases hR
  ·exact z
 refine ⟨v,own i,q1,e2,hb0,fun H3 s3 a O g' oa hO hg=>?_⟩;have h4:∀ (i:Nat) s,env[i]?=some s->∃ x,σ[i]?=some x/\Kn K A H3 (own i) s x:=fun i s q=>let ⟨x,q2,q3⟩:=h4 i s q;⟨x,q2,q3.mono s3⟩
 obtain ⟨hA,h0⟩:=hb0 a oa;have avs:Zo (av H3 A) (av (W4 H3 a O) A):=fun b o e=>by
  obtain ⟨z1,z2⟩:=Wf e;have hb:b≠a:=by intro z;rw [z,hA] at z1;cases z1
  exact Wl (by rw [Zh hb];exact z2) z1
 refine ⟨⟨fun b o hb hAb=>?_,fun b hb=>.inl hb⟩,?_⟩
 ·have hn:b≠a:=by intro z;rw [z,hA] at hAb;cases hAb
  rw [Zh hn];exact hb
 ·refine ⟨fun b o hb=>?_,k.r0,k.ra,k.ar,fun b hb=>?_,by rw [length_set];exact k.len,fun hs j d'=>M7 (k.np hs) (fun _ z=>by cases z) j d',own,h1,h2,fun j s e=>?_⟩
  ·have hn:b≠a:=Y4 hb h0
   rw [Zh hn];exact s3 _ _ (k.h0 b o hb)
  ·by_cases hn:b=a
   ·subst hn;rw [Zs];exact hO
   ·rw [Zh hn];exact k.mu.mono s3 b hb
  ·by_cases hj:i=j
   ·subst hj
    rw [getElem?_set,if_pos rfl] at e;split at e
    ·cases e
     exact ⟨_,q1,v,rfl,hg⟩
    ·cases e
   ·rw [getElem?_set,if_neg hj] at e
    obtain ⟨x,p1,p2⟩:=h4 j s e;refine ⟨x,p1,?_⟩;cases s with
    | un=>trivial
    | fz d=>obtain ⟨v,z1,z2⟩:=p2;exact ⟨v,z1,z2.mono avs⟩
    | pk d=>exact absurd e (k.np hst j d)
    | ow es =>
     obtain ⟨b,us,z1,z2,z3,z4,z5⟩:=p2;have hn:b≠a:=fun z=>hj (h1 i j a oa (z▸z2))
     exact ⟨b,us,z1,z2,z3,by rw [Zh hn];exact z4,z5.mono avs⟩
    | gx g2 =>
     obtain ⟨w,z1,z2⟩:=p2;exact ⟨w,z1,z2.frame (fun _ z=>z) (fun b x ob z=>by
      have hn:b≠a:=fun y=>hj (h1 i j a oa (y▸ob))
      rw [Zh hn];exact z) avs⟩
section
variable {X:Cx} {m fr:Bool} {e:Expr} {es:List Expr} {f:Ev->Option Dat} {fs:Ev->Option (List Dat)} {p p2 pos:Pos}
theorem Bo {fd:Str} {okc:Str->Bool} {t:TE} (he:PE X e t) (hk:Z3b X.K okc fd) (hb:attributeBase e fd X.env (eval e X.env)=eval e X.env:=by rfl) :
  PE X (.Attribute e fd pos) (fun σ H Q=>t σ H (fun v H1=>∃ (ex C dx:Addr) (fvs:List (Str×V)) (vv:V) (c:Str),v=.ref ex/\H1 ex=some (.ext (Xg ex C (some dx)))/\W5 X.K c C/\okc c=true/\H1 dx=some (.xd fvs)/\fvs.lookup fd=some vv/\((∃ i,vv=.int i)\/∃ a,vv=.ref a)/\Q vv H1)):=by
 intro pins s σ H Q I q;refine Z5a hb (Wu (he pins s σ H _ I q) fun u s1 ⟨v,H1,I1,ru,ex,C,dx,fvs,vv,c,z1,z2,z3,hok,y1,y4,hvv,q2⟩=>?_);subst z1;cases ru;obtain ⟨⟨o,h1,h2,h3,h4⟩,_,_⟩:=(show Yy X.prog X.w H1 s1.heap ex (.ext (Xg ex C (some dx))) from I1.hok ex _ z2);obtain ⟨xc,hf⟩:=hk c C z3 hok;obtain ⟨mA,hns,hrel⟩:=(show Yy X.prog X.w H1 s1.heap dx (.xd fvs) from I1.hok dx _ y1);have hr:=hrel fd;rw [y4] at hr;obtain ⟨uu,hu,hru⟩:∃ uu,mA fd=some uu/\Yo vv uu:=by
  cases hm:mA fd with
  | none=>rw [hm] at hr;exact hr.elim
  | some uu=>rw [hm] at hr;exact ⟨uu,rfl,hr⟩
 obtain ⟨oC,cd,hC,hcd,hhd⟩:=xc.ld I1.kIn;have LT:Looks (model X.prog X.w) s1.heap (typeOf (.ref ex)) (.ref C):=h2▸(Looks.ld h1).andThen .now;have hh:handedOut uu=pure uu:=by
  refine handedOut_of ?_;rcases hvv with ⟨i,z⟩ | ⟨a,z⟩
  ·subst z;obtain ⟨t,rfl⟩:=hru;rfl
  ·subst z;cases hru;rfl
 obtain ⟨hh',g,d,tk,os⟩:=s1;refine Zdt (K:=X.K) I1.kIn h1 h2 h4 h3 hns hu hf hC hcd hhd (LT.andThen (xc.sub I1.kIn "BaseException" (by decide))) xc.ga xc.gh hh ?_;exact ⟨vv,H1,I1.tok _,hru,q2⟩
theorem Z7a {fd:Str} {okc:Str->Bool} (he:We true X e f) (hk:Z3b X.K okc fd) (hb:attributeBase e fd X.env (eval e X.env)=eval e X.env:=by rfl):We true X (.Attribute e fd pos) (N9 okc fd f):=PE.weak (Bo he hk hb) fun σ H Q zz=>by
 obtain ⟨env,R,A,d,k,q1,q2⟩:=zz;obtain ⟨x,e1,h⟩:=bind_some q1;cases x with
 | exc c fl =>
  dsimp only at h;split at h
  case isFalse=>cases h
  rename_i hok;obtain ⟨xd,e2,h⟩:=map_some h;subst h;refine ⟨env,R,A,_,k,e1,fun v H1 s1 p1=>?_⟩;obtain ⟨ex,C,dx,fvs,vv,z1,z2,z3,y1,y4,y5,hvv⟩:=Pk.fld p1 e2;exact ⟨ex,C,dx,fvs,vv,c,z1,z2,z3,hok,y1,y4,hvv,q2 vv H1 s1 y5⟩
 | _=>cases h
def Xm (i:Nat) (okc:Str->Bool) (fd:Str) (fs:Ev->Option (List Dat)):Ev->Fl:=fun env=>match env[i]?,fs env with
 | some (.gx (.err c f ns)),some [.int n]=>if f=fd/\okc c=true/\ns.length<sizeLine then .next (env.set i (.gx (.err c f (ns++[n])))) else .no
 | _,_=>.no
theorem Z87 (i:Nat) {x fd:Str} {okc:Str->Bool} {p p2 apos cpos:Pos} (hk:Z3b X.K okc fd) (hb:Lb false X (e::es) fs)
  (hN:X.N[i]?=some x:=by rfl) (hv:Al X.env.scope x:=by first | exact Or.inl rfl | exact Or.inr (Or.inl rfl) | exact Or.inr (Or.inr rfl)) (hd:(x==("__debug__" : Str))=false:=by decide) (hcd:(x==("__classdict__" : Str))=false:=by decide)
  (hsw:swapsWith (.Call (.Attribute (.Attribute (.Name x p) fd p2) "append" apos) (e::es) [] cpos) none pos.line X.env=pure false:=by rfl)
  (hbe:attributeBase (.Name x p) fd X.env (eval (.Name x p) X.env)=eval (.Name x p) X.env:=by rfl)
  (hbase:attributeBase (.Attribute (.Name x p) fd p2) "append" X.env (eval (.Attribute (.Name x p) fd p2) X.env)=eval (.Attribute (.Name x p) fd p2) X.env:=by rfl)
  (hfew:((backTo cpos (starEach (e::es) X.env)).all (fun x=>!x.1)&&(backToKw cpos (keywordEach [] X.env)).all (fun x=>x.1.isSome)
   && decide ((e::es).length+([]:List Keyword).length+(if ([]:List Keyword).isEmpty then 0 else 1)<30))=true:=by rfl)
  (hline:(apos.endLine==cpos.line)=true:=by rfl) (hs:starEach (e::es) X.env=(false,eval e X.env)::starEach es X.env:=by rfl) (hplain:(backTo cpos (starEach es X.env)).any (·.1)=false:=by rfl) :
  Su fr X (.Expr (.Call (.Attribute (.Attribute (.Name x p) fd p2) "append" apos) (e::es) [] cpos) pos) (Xm i okc fd fs):=(S9 (Bq PySem.F.plainAttrs_list PySem.F.slot_list_append PySem.F.type_list_append (id:="list.append") Ej (Bo (Q3 hN hv hd hcd) hk hbe) hb hbase hfew hline hs hplain) hsw).weak fun D σ H zz=>by
 obtain ⟨env,B,A,k,hst,q⟩:=zz;unfold Xm at q;split at q
 case h_2=>exact q.elim
 rename_i c f ns n e1 e2;split at q
 case isFalse=>exact q.elim
 rename_i hc;obtain ⟨hf,hok,hl⟩:=hc;subst hf;obtain ⟨v,o,m1,m2,m3,m4⟩:=k.gxS hst e1;obtain ⟨ex,C,dx,fvs,a,h1,h2,h3,h4,h5,h6,h7,h8,h9⟩:=id m2;refine ⟨v,m1,ex,C,dx,fvs,.ref a,c,h1,(Wf h2).2,h3,hok,(Wf h4).2,h6,.inr ⟨a,rfl⟩,.inl ⟨rfl,_,Mu.of h8⟩,env,B,A,[.int n],k,e2,fun us H3 s3 rs=>?_⟩;obtain ⟨y,us',e9,r3,e10⟩:=rs;have hus:us=[y]:=by rw [e9,show us'=[] from e10]
 have hy:y=.int n:=(Rm.pk r3).int;subst hy;refine ⟨a,ns.map V.int,.int n,rfl,hus,s3 _ _ h8,by rw [length_map];exact hl,?_⟩;have hA:A a=true:=(m3 a h7).1;have avs:Zo (av H A) (av (W4 H3 a (.lst (ns.map V.int++[.int n]))) A):=fun b o2 ec=>by
  obtain ⟨y1,y2⟩:=Wf ec;have hc:b≠a:=by intro z;rw [z,hA] at y1;cases y1
  exact Wl (by rw [Zh hc];exact s3 _ _ y2) y1
 obtain ⟨w1,w2⟩:=m4 H3 s3 a (.lst (ns.map V.int++[.int n])) (.err c f (ns++[n])) h7 trivial ⟨ex,C,dx,fvs,a,h1,avs _ _ h2,h3,avs _ _ h4,h5,h6,h7,by rw [Zs,map_append];rfl,by rw [length_append,length_singleton];exact hl⟩;exact q A _ σ ((Step.same s3).trans w1) w2
theorem EnvOk.move {K:Frag} {B:Bs} {A:AS} {H:Hp} {σ:St} {env:Ev} {i j:Nat} {g:GX} (k:EnvOk K B A H σ env) (hij:i≠j) (h:env[i]?=some (.gx g)):∃ v,σ[i]?=some (some v)/\EnvOk K B A H (σ.set j (some v)) ((env.set i .un).set j (.gx g)):=by
 obtain ⟨own,h1,h2,h4⟩:=k.sl;obtain ⟨x,q1,v,e1,e2⟩:=h4 i _ h;subst e1;refine ⟨v,q1,k.h0,k.r0,k.ra,k.ar,k.mu,by rw [length_set,length_set,length_set];exact k.len,fun hs=>M7 (M7 (k.np hs) (fun _ z=>by cases z)) (fun _ z=>by cases z),
  fun n a=>(n=j/\own i a)\/(n≠j/\n≠i/\own n a),fun n n' a z z'=>?_,fun n a z=>?_,fun n s e=>?_⟩
 ·rcases z with z | z<;>rcases z' with z' | z'
  ·rw [z.1,z'.1]
  ·exact absurd (h1 _ _ _ z.2 z'.2.2).symm z'.2.1
  ·exact absurd (h1 _ _ _ z'.2 z.2.2).symm z.2.1
  ·exact h1 _ _ _ z.2.2 z'.2.2
 ·rcases z with z | z
  ·exact h2 _ _ z.2
  ·exact h2 _ _ z.2.2
 ·by_cases hj:j=n
  ·subst hj
   rw [getElem?_set,if_pos rfl] at e;split at e
   ·rename_i hl
    cases e;exact ⟨some v,by rw [getElem?_set,if_pos rfl,if_pos (by rw [k.len];simpa using hl)],v,rfl,e2.frame (fun _ z=>.inl ⟨rfl,z⟩) (fun _ _ _ z=>z) (Zo.refl _)⟩
   ·cases e
  ·rw [getElem?_set,if_neg hj] at e
   by_cases hi:i=n
   ·subst hi
    rw [getElem?_set,if_pos rfl] at e;split at e
    ·cases e
     exact ⟨some v,by rw [getElem?_set,if_neg hj];exact q1,trivial⟩
    ·cases e
   ·rw [getElem?_set,if_neg hi] at e
    obtain ⟨x,p1,p2⟩:=h4 n s e;refine ⟨x,by rw [getElem?_set,if_neg hj];exact p1,?_⟩;cases s with
    | un=>trivial
    | fz d=>exact p2
    | pk d=>exact p2
    | ow ds=>obtain ⟨a,vs,z1,z2,z3⟩:=p2;exact ⟨a,vs,z1,.inr ⟨Ne.symm hj,Ne.symm hi,z2⟩,z3⟩
    | gx g=>obtain ⟨v,z1,z2⟩:=p2;exact ⟨v,z1,z2.frame (fun _ z=>.inr ⟨Ne.symm hj,Ne.symm hi,z⟩) (fun _ _ _ z=>z) (Zo.refl _)⟩
def Bm (i j:Nat):Ev->Fl:=fun env=>match env[i]? with
 | some (.gx g)=>if i≠j then .next ((env.set i .un).set j (.gx g)) else .no
 | some (.fz d)=>.next (env.set j (.fz d))
 | _=>.no
theorem Z8r (i j:Nat) {x y:Str} {p pos':Pos} (hN:X.N.Nodup) (hj:X.N[j]?=some y) (hx:Pq X.env.scope y) (hi:X.N[i]?=some x:=by rfl) (hv:Al X.env.scope x:=by first | exact Or.inl rfl | exact Or.inr (Or.inl rfl) | exact Or.inr (Or.inr rfl)) (hd:(x==("__debug__" : Str))=false:=by decide) (hcd:(x==("__classdict__" : Str))=false:=by decide)
  (hs:swapsWith (.Name x p) (some (.Name y pos')) pos.line X.env=pure false:=by rfl) (hf:X.fn y=true\/X.env.scope.names.lookup y=some .local:=by first | exact .inl rfl | exact .inr rfl | assumption) :
  Su fr X (.Assign [.Name y pos'] (.Name x p) pos) (Bm i j):=(Kd hN hj hx (Q3 hi hv hd hcd) hs hf).weak fun D σ H zz=>by
 obtain ⟨env,B,A,k,hst,q⟩:=zz;unfold Bm at q;split at q
 ·rename_i g e1
  split at q
  ·rename_i hij
   obtain ⟨v,h1,h2⟩:=k.move hij e1;exact ⟨v,h1,q A H _ (Step.refl A H) h2⟩
  ·exact q.elim
 ·rename_i d e1
  obtain ⟨v,h1,h2⟩:=k.fz e1;exact ⟨v,h1,q A H _ (Step.refl A H) (k.put j h2)⟩
 ·exact q.elim
end
def Do (env:Ev):Bool:=env.all fun s=>match s with
 | .un=>true
 | .fz d=>Vy d
 | _=>false
theorem Pc {env:Ev} {i:Nat} {s:Slt} (h:Do env=true) (e:env[i]?=some s):s=.un\/∃ d,s=.fz d/\Vy d=true:=by
 have hm:=all_eq_true.mp h s (mem_of_getElem? e);cases s with
 | un=>exact .inl rfl
 | fz d=>exact .inr ⟨d,rfl,hm⟩
 | _=>cases hm
def Pz (env:Ev) (c:Str) (fl:List (Str×XD)):Slt:=match fl with
 | [(f,.nums ns)]=>if Do env=true then .gx (.err c f ns) else .fz (.exc c fl)
 | _=>.fz (.exc c fl)
def Gx (sub:Str->Bool) (i:Nat) (g h:Ev->Fl):Ev->Fl:=fun env=>if Do env=true then match g env with
 | .exc env' c fl=>if sub c=true then Zcm i (h (env'.set i (Pz env' c fl))) else .no
 | r=>r else .no
theorem EnvOk.rebase {K:Frag} {B:Bs} {A:AS} {H:Hp} {σ:St} {env:Ev} (k:EnvOk K B A H σ env) (hp:Do env=true):EnvOk K ⟨H,B.R,B.st⟩ B.R H σ env:=by
 obtain ⟨own,h1,h2,h4⟩:=k.sl;refine ⟨Zo.refl H,fun a h=>let ⟨o,ho⟩:=k.r0 a h;⟨o,k.h0 a o ho⟩,fun a h=>h,fun a h=>.inl h,fun a h=>k.mu a (k.ra a h),k.len,k.np,fun _ _=>False,fun _ _ _ z=>z.elim,fun _ _ z=>z.elim,fun i s e=>?_⟩;obtain ⟨x,p1,p2⟩:=h4 i s e;refine ⟨x,p1,?_⟩;rcases Pc hp e with z | ⟨d,z,_⟩
 ·subst z;trivial
 ·subst z;obtain ⟨v,z1,z2⟩:=p2;exact ⟨v,z1,z2.mono (Tg k.ra)⟩
theorem EnvOk.unbase {K:Frag} {B:Bs} {A A':AS} {H H':Hp} {σ σ':St} {env env':Ev} (k:EnvOk K B A H σ env) (k':EnvOk K ⟨H,B.R,B.st⟩ A' H' σ' env'):EnvOk K B A' H' σ' env' :=
 ⟨k.h0.trans k'.h0,k.r0,k'.ra,fun a h=>(k'.ar a h).imp id fun z=>k.h0.free z,k'.mu,k'.len,k'.np,k'.sl⟩
theorem EnvOk.putE {K:Frag} {B:Bs} {A:AS} {H:Hp} {σ:St} {env:Ev} {c f:Str} {ns:List Int} {e C dx a:Addr} {fvs:List (Str×V)} (k:EnvOk K B A H σ env) (hp:Do env=true) (i:Nat) (g1:av H A e=some (.ext (Xg e C (some dx)))) (g2:W5 K c C) (g3:av H A dx=some (.xd fvs))
  (g4:∀ g,g≠f->fvs.lookup g=none) (g5:fvs.lookup f=some (.ref a)) (g6:A a=false) (g7:H a=some (.lst (ns.map V.int))) (g8:ns.length<=sizeLine) (h0:B.H₀ a=none):EnvOk K B (ins A a) H (σ.set i (some (.ref e))) (env.set i (.gx (.err c f ns))):=by
 obtain ⟨own,h1,h2,h4⟩:=k.sl;have mu:U4 (ins A a) H:=fun b h=>by
  rcases My h with z | z
  ·exact k.mu b z
  ·rw [z,g7];trivial
 have hea:e≠a:=fun z=>by have:=(Wf g1).2;rw [z,g7] at this;cases this
 have hda:dx≠a:=fun z=>by have:=(Wf g3).2;rw [z,g7] at this;cases this
 refine ⟨k.h0,k.r0,fun b h=>Sy (k.ra b h),fun b h=>?_,mu,by rw [length_set,length_set];exact k.len,fun hs=>M7 (k.np hs) (fun _ z=>by cases z),fun j b=>j=i/\b=a,fun j j' b z z'=>by rw [z.1,z'.1],fun j b z=>?_,fun j s e'=>?_⟩
 ·rcases My h with z | z
  ·exact k.ar b z
  ·rw [z];exact .inr h0
 ·refine ⟨by rw [z.2];exact Kb,?_⟩
  cases q:B.R b with
  | false=>rfl
  | true=>obtain ⟨o,ho⟩:=k.r0 b q;rw [z.2,h0] at ho;cases ho
 ·by_cases hj:i=j
  ·subst hj
   rw [getElem?_set,if_pos rfl] at e';split at e'
   ·rename_i hl
    cases e';exact ⟨some (.ref e),by rw [getElem?_set,if_pos rfl,if_pos (by rw [k.len];exact hl)],.ref e,rfl,e,C,dx,fvs,a,rfl,Wl (Wf g1).2 (F6 (Wf g1).1 hea),g2,Wl (Wf g3).2 (F6 (Wf g3).1 hda),g4,g5,⟨rfl,rfl⟩,g7,g8⟩
   ·cases e'
  ·rw [getElem?_set,if_neg hj] at e'
   obtain ⟨x,p1,p2⟩:=h4 j s e';refine ⟨x,by rw [getElem?_set,if_neg hj];exact p1,?_⟩;rcases Pc hp e' with z | ⟨d,z,hd⟩
   ·subst z;trivial
   ·subst z;obtain ⟨v,z1,z2⟩:=p2;exact ⟨v,z1,Rp.pure mu hd (z2.mono W7)⟩
section
variable {X:Cx} {fr:Bool} {g h:Ev->Fl} {body:List Stmt} {b₀:Stmt} {suite:List Stmt} {T n:Str} {np hpos pos:Pos} {i:Nat} {sub:Str->Bool} {DT:Addr}
theorem Z88 (hb:∀ pn E,Lp fr (X.inTry pn E) body g) (hh:∀ pn e,Lp fr (X.inH pn e) (b₀::suite) h) (hN:X.N.Nodup) (hi:X.N[i]?=some n) (hx:Pq X.env.scope n) (hT:X.mg T=some (.ref DT))
  (hsub:∀ c C,W5 X.K c C->sub c=true->exmOne X.K (.ref C) (.ref DT)=some true) (hk:X.env.kindOf n=some .local:=by rfl) (hg:Gl X T:=by rfl) (hdb:(T==("__debug__" : Str))=false:=by decide)
  (hstk:X.stack=X.env::X.outer/\X.env.frame=some X.env.locals:=by exact ⟨rfl,rfl⟩)
  (hf:X.fn n=true\/X.env.scope.names.lookup n=some .local:=by first | exact .inl rfl | exact .inr rfl | assumption) :
  Su fr X (.Try body [.ExceptHandler (some (.Name T np)) (some n) (b₀::suite) hpos] [] [] pos) (Gx sub i g h):=by
 intro pins s σ H D I ⟨env,B,A,kk,hst,q⟩;unfold Gx at q;split at q
 case isFalse=>exact q.elim
 rename_i hpe;have kb:=kk.rebase hpe;have st0:Step A H B.R H:=⟨fun _ _ h _=>h,fun a h=>.inl (kk.ra a h)⟩;let EX:Value->Shared->Prop:=fun ev s₁=>wpAny (model X.prog X.w) X.A (noteFrame ev X.env) (fun _ s₂=>wpAny (model X.prog X.w) X.A (setFlight ev none) (fun _ s₃=>wpAny (model X.prog X.w) X.A (handleBy ev X.env [.ExceptHandler (some (.Name T np)) (some n) (b₀::suite) hpos]) (SP X pins D) X.xe s₃) X.xe s₂) X.xe s₁
 have flok:Eh fr (X.inTry (X.pn++pins) EX) ⟨H,B.R,B.st⟩ B.R H D (g env):=by
  cases eg:g env with
  | next e'=>rw [eg] at q;exact fun A' H' σ' s' k'=>q A' H' σ' (st0.trans s') (kk.unbase k')
  | brk e'=>rw [eg] at q;exact fun A' H' σ' s' k'=>q A' H' σ' (st0.trans s') (kk.unbase k')
  | cont e'=>rw [eg] at q;exact fun A' H' σ' s' k'=>q A' H' σ' (st0.trans s') (kk.unbase k')
  | ret d=>rw [eg] at q;exact fun v H' sm r nw=>q v H' (kk.h0.trans sm) r fun hf ds ed=>by obtain ⟨p,vs,y1,y2,y3⟩:=nw hf ds ed;exact ⟨p,vs,y1,kk.h0.free y2,y3⟩
  | no=>rw [eg] at q;exact q
  | exc env' c fl =>
   rw [eg] at q;dsimp only at q;split at q
   ·rename_i hsc
    intro A1 H1 σ1 st1 k1' pins' s1 e C dct I1 hcl x hf1 hnw;have k1:=kk.unbase k1';have J1:Inv X pins σ1 H1 s1:=I1.ofTry I.ok;have hfr:X.A.frames=some (X.env::X.outer):=by rw [← hstk.1];exact J1.ok.frames
    have hl:s1.heap.FunFrames X.base (X.env::X.outer):=by rw [← hstk.1];exact J1.stack
    have hkb:X.base.StaysIn s1.heap:=J1.bk;have hen:X.base.get? e=none:=J1.noBase x.lo;have hfree:∀ b∈Sk (X.env::X.outer),H1 b=none:=by rw [← hstk.1];exact J1.stkFree
    have hpn:∀ {a:Addr},(∀ p∈(X.inTry (X.pn++pins) EX).pn++pins',p.1≠a)->∀ p∈X.pn++pins,p.1≠a:=fun {a} z p hp=>z p (mem_append_left _ hp)
    have nloc:∀ {s1:Shared} (J1:Inv X pins σ1 H1 s1) {a:Addr} {o:Obj} {vs:Array Value},s1.heap.get? a=some o->o.data=.fields vs->a≠X.env.locals/\∀ y c,X.env.cells.lookup y=some c->c≠a:=fun {s1} J1 {a o vs} ho hd=>by
     refine ⟨fun z=>?_,fun y c hc z=>?_⟩
     ·obtain ⟨m,⟨o',es,ep,ho',hd',_⟩,_⟩:=J1.loc
      rw [z,ho'] at ho;cases ho;rw [hd] at hd';cases hd'
     ·obtain ⟨v,o',ho',hd'⟩:=J1.cell y c hc
      rw [z,ho] at ho';cases ho';rw [hd] at hd';cases hd'
    have ae:∀ {a:Addr},H1 a=none->A1 a=false:=fun {a} z=>by
     cases y:A1 a with
     | false=>rfl
     | true=>obtain ⟨o,ho⟩:=(k1.mu a y).some;rw [z] at ho;cases ho
    -- behind the landing
    have after:∀ (h2:Heap) (T':Addr) (c2:Option Value) (ch:List Addr),s1.heap.objs.size<=T'->X.base.StaysIn h2->h2.FunFrames X.base (X.env::X.outer)->Ez h2 X.base e T' (.ref C,c2) dct .none->Hs (X.env::X.outer) ch s1.heap h2->(∀ b∈ch,H1 b=none/\X.s₀.heap.objs.size<=b/\b≠X.env.locals/\(∀ y c,X.env.cells.lookup y=some c->c≠b)/\∀ p∈X.pn++pins,p.1≠b) ->
      wpAny (model X.prog X.w) X.A (handleBy (.ref e) X.env [.ExceptHandler (some (.Name T np)) (some n) (b₀::suite) hpos]) (SP X pins D) X.xe { s1 with heap:=h2 }:=by
     intro h2 T' c2 ch hT' sb2 ff2 tr2 kp hch;have J2:Inv X pins σ1 H1 { s1 with heap:=h2 }:=J1.call' (s':={ s1 with heap:=h2 }) (ch:=ch) rfl (by rw [hstk.1];exact Em kp fun b hb=>(hch b hb).1) (J7 J1.hok kp (fun b hb=>(hch b hb).1) hfree) J1.bare fun b hb=>⟨.inr (hch b hb).2.1,(hch b hb).2.2.1,(hch b hb).2.2.2.1,(hch b hb).2.2.2.2⟩
     obtain ⟨oe,ve,oT,ts,g1,g2,g3,g4,g5,g6,g7,g8,g9,g10⟩:=id tr2;have g2:=(Prod.mk.inj g2).1;have LT:Looks (model X.prog X.w) h2 (typeOf (.ref e)) (.ref C):=g2▸(Looks.ld g1).andThen .now;refine wpAny_handleBy_cons (codeAny_handlers_test (U2 (J2.toH (e:=e)) hg hT ?_ hdb)) (by intro z;cases z);refine (exm_one (M:=model X.prog X.w) J2.kIn LT (hsub c C hcl hsc)).here ?_;show codeAny _ _ _ _ _;refine codeAny_handlers_suite_as ?_;refine Gs (s:={ s1 with heap:=h2 }) sb2 ff2 tr2 fun h3 y1 y2 tr3 y4 y5=>?_
     have kp3:Hs (X.env::X.outer) [T'] h2 h3:=.of fun b o hb hc=>y4 b o hb hc
     have hTn:H1 T'=none:=J1.hok.fresh hT';have hTl:=nloc J2 g8 g9;have hTp:∀ p∈X.pn++pins,p.1≠T':=fun p hp z=>by
      have:=(J1.pin p hp).1;rw [z] at this;exact absurd (lt_size this) (not_lt.mpr hT')
     have hTs:∀ b∈[T'],b=T':=fun b hb=>mem_singleton.mp hb
     have J3:Inv X pins σ1 H1 { s1 with heap:=h3 }:=J2.call' (s':={ s1 with heap:=h3 }) (ch:=[T']) rfl (by rw [hstk.1];exact Em kp3 fun b hb=>by rw [hTs b hb];exact hTn) (J7 J2.hok kp3 (fun b hb=>by rw [hTs b hb];exact hTn) hfree) J2.bare fun b hb=>by rw [hTs b hb];exact ⟨.inr (le_trans J1.sz hT'),hTl.1,hTl.2,hTp⟩
     obtain ⟨oe',ve',_,_,e1,e2,e3,e4,_⟩:=id tr3;have e2:=(Prod.mk.inj e2).1;have el:=nloc J3 e1 e4;have hxi:Xg e C dct h3:=⟨oe',e1,e2,e3,fun cc z=>by rw [e4] at z;cases z⟩;have J4:Inv X pins σ1 (W4 H1 e (.ext (Xg e C dct))) { s1 with heap:=h3 }:=J3.track x.un x.lo el.1 el.2 (hpn x.pe) ⟨hxi,⟨_,e1⟩,fun ha hb ⟨o,z1,z2⟩ k=>⟨o,k _ z1,z2⟩⟩;have sm:Zo H1 (W4 H1 e (.ext (Xg e C dct))):=E7 x.un;refine Dv J4 hN hi hx (v:=.ref e) rfl (fun s5 J5=>?_) hf;have rp:Rp X.K (av (W4 H1 e (.ext (Xg e C dct))) A1) (.exc c fl) (.ref e):=by
      unfold Rp;exact ⟨e,C,dct,rfl,Wl Zs (ae x.un),hcl,hf1.mono (Ws sm)⟩
     have dull:∃ A5,Step A H A5 (W4 H1 e (.ext (Xg e C dct)))/\EnvOk X.K B A5 (W4 H1 e (.ext (Xg e C dct))) (σ1.set i (some (.ref e))) (env'.set i (.fz (.exc c fl))):=⟨A1,(st0.trans st1).trans (Step.same sm),(k1.mono sm).put i rp⟩;obtain ⟨A5,st5,k5⟩:∃ A5,Step A H A5 (W4 H1 e (.ext (Xg e C dct)))/\EnvOk X.K B A5 (W4 H1 e (.ext (Xg e C dct))) (σ1.set i (some (.ref e))) (env'.set i (Pz env' c fl)):=by
      unfold Pz;split
      ·rename_i f ns
       split
       ·rename_i hpp
        cases dct with
        | none=>cases (show [(f,XD.nums ns)]=[] from hf1)
        | some dx =>
         obtain ⟨fvs,y1,y2⟩:=hf1;have hlf:List.lookup f [(f,XD.nums ns)]=some (XD.nums ns):=by simp [List.lookup]
         rcases y2 f with ⟨y3,_⟩ | ⟨d',vv,y3,y4,y5⟩
         ·rw [hlf] at y3;cases y3
         ·rw [hlf] at y3;cases y3
          obtain ⟨a,y6,y7,y8⟩:=y5;subst y6;obtain ⟨w1,xs,w2⟩:=(hnw dx rfl).2 fvs f a (Wf y1).2 y4;obtain ⟨w3,w4⟩:A1 a=false/\H1 a=some (.lst (ns.map V.int)):=by
           rcases y7 with (y7 | ⟨o,y7⟩) | ⟨its,nn,y7,_⟩
           ·exact Wf y7
           ·rw [(Wf y7).2] at w2;cases w2
           ·rw [(J1.bs a _ (J1.mod.kin _ _ y7)).2] at w2;cases w2
          refine ⟨ins A1 a,?_,(k1.mono sm).putE hpp i (Wl Zs (ae x.un)) hcl (Ws sm _ _ y1) (fun g hg=>?_) y4 w3 (sm _ _ w4) y8 (kk.h0.free w1)⟩
          ·refine ⟨((st0.trans st1).trans (Step.same sm)).keep,fun b hb=>?_⟩
           rcases My hb with z | z
           ·exact ((st0.trans st1).trans (Step.same sm)).sub b z
           ·rw [z];exact .inr w1
          ·rcases y2 g with ⟨_,y9⟩ | ⟨d2,v2,y9,_⟩
           ·exact y9
           ·simp only [List.lookup] at y9
            rw [show (g==f)=false from by simpa using hg] at y9;cases y9
       ·exact dull
      ·exact dull
     have hfl:Eh fr (X.inH (X.pn++pins) e) B A5 (W4 H1 e (.ext (Xg e C dct))) (Ends.mk (fun σ' H'=>D.nx (σ'.set i none) H') D.rt (fun σ' H'=>D.bk (σ'.set i none) H') (fun σ' H'=>D.ct (σ'.set i none) H')) (h (env'.set i (Pz env' c fl))):=by
      have q2:=q.step st5;unfold Zcm at q2;cases eh:h (env'.set i (Pz env' c fl)) with
      | next e'=>rw [eh] at q2;exact fun A' H' σ' s' k'=>q2 A' H' _ s' (k'.clr i)
      | brk e'=>rw [eh] at q2;exact fun A' H' σ' s' k'=>q2 A' H' _ s' (k'.clr i)
      | cont e'=>rw [eh] at q2;exact fun A' H' σ' s' k'=>q2 A' H' _ s' (k'.clr i)
      | ret d=>rw [eh] at q2;exact q2
      | exc e' c' f'=>rw [eh] at q2;exact q2.elim
      | no=>rw [eh] at q2;exact q2
     refine wpAny_mono (hh (X.pn++pins) e [] s5 _ _ _ J5.toH ⟨_,B,A5,k5,hst,hfl⟩) (fun f s6 hs=>?_) (fun _ _ z=>z.elim);show wpAny _ _ _ _ _ _;cases f with
     | next=>obtain ⟨σ',H',I',q'⟩:=hs;exact Hn (I'.ofH I.ok) hN hi hk fun s7 I7=>⟨_,H',I7,q'⟩
     | brk=>obtain ⟨σ',H',I',q'⟩:=hs;exact Hn (I'.ofH I.ok) hN hi hk fun s7 I7=>⟨_,H',I7,q'⟩
     | cont=>obtain ⟨σ',H',I',q'⟩:=hs;exact Hn (I'.ofH I.ok) hN hi hk fun s7 I7=>⟨_,H',I7,q'⟩
     | ret u=>obtain ⟨v,σ',H',I',r',q'⟩:=hs;exact Hn (I'.ofH I.ok) hN hi hk fun s7 I7=>⟨v,_,H',I7,r',q'⟩
    show wpAny _ _ _ _ _ _;rcases x.ob with ⟨o,vs,he,hc,hd,hda,h1,hpl⟩ | ⟨T0,c2,hT,hTn,hTp,ht,hpl⟩
    ·refine Jg hfr hl hstk.2 he hkb hen hda h1 fun h' T' x0 x1 x2 x3 x4 x5=>?_
     refine Gs (s:={ s1 with heap:=h' }) x1 x2 x3 fun h2 y1 y2 y3 y4 y5=>?_
     rw [hc,hd] at y3;refine after h2 T' _ [e] x0 y1 y2 y3 (M0 x4 x0 y4) fun b hb=>?_
     rw [mem_singleton.mp hb];have z:=nloc J1 he hda;exact ⟨x.un,x.lo,z.1,z.2,hpn x.pe⟩
    ·refine B4 hfr hl hstk.2 ht hkb hen fun h' T' x0 x1 x2 x3 x4 x5=>?_
     refine Gs (s:={ s1 with heap:=h' }) x1 x2 x3 fun h2 y1 y2 y3 y4 y5=>?_
     refine after h2 T' _ [e,T0] x0 y1 y2 y3 (M0 x4 x0 y4) fun b hb=>?_
     obtain ⟨oe,ve,oT,ts,g1,g2,g3,g4,g5,g6,g7,g8,g9,g10⟩:=id ht;rcases mem_cons.mp hb with z | z
     ·rw [z];have w:=nloc J1 g1 g4;exact ⟨x.un,x.lo,w.1,w.2,hpn x.pe⟩
     ·rw [mem_singleton.mp z];have w:=nloc J1 g8 g9;exact ⟨hTn,hT,w.1,w.2,hpn hTp⟩
   ·exact q.elim
 refine wpAny_Try_except (wpAny_mono (hb (X.pn++pins) EX [] s σ H D I.toTry ⟨env,⟨H,B.R,B.st⟩,B.R,kb,hst,flok⟩) (fun f s₁ hs=>?_) (fun e s₁ hx=>hx));cases f with
 | next=>obtain ⟨σ',H',I',q'⟩:=hs;exact wpAny_pure ⟨σ',H',I'.ofTry I.ok,q'⟩
 | brk=>obtain ⟨σ',H',I',q'⟩:=hs;exact ⟨σ',H',I'.ofTry I.ok,q'⟩
 | cont=>obtain ⟨σ',H',I',q'⟩:=hs;exact ⟨σ',H',I'.ofTry I.ok,q'⟩
 | ret u=>obtain ⟨v,σ',H',I',r',q'⟩:=hs;exact ⟨v,σ',H',I'.ofTry I.ok,r',q'⟩
theorem Z6w (hb:∀ pn E,Lp fr (X.inTry pn E) body g) (hh:∀ pn e,Lp fr (X.inH pn e) (b₀::suite) h) (hC:Z9n X.K X.mg T sub) (hN:X.N.Nodup) (hi:X.N[i]?=some n) (hx:Pq X.env.scope n) (hk:X.env.kindOf n=some .local:=by rfl) (hg:Gl X T:=by rfl) (hdb:(T==("__debug__" : Str))=false:=by decide)
  (hstk:X.stack=X.env::X.outer/\X.env.frame=some X.env.locals:=by exact ⟨rfl,rfl⟩)
  (hf:X.fn n=true\/X.env.scope.names.lookup n=some .local:=by first | exact .inl rfl | exact .inr rfl | assumption) :
  Su fr X (.Try body [.ExceptHandler (some (.Name T np)) (some n) (b₀::suite) hpos] [] [] pos) (Gx sub i g h):=by
 obtain ⟨D,h1,h2⟩:=hC;exact Z88 hb hh hN hi hx h1 h2 hk hg hdb hstk hf
end
end L2
namespace L2
open PySem PySem.Spec PyProof.Rows
def Y5:=@xix false
def Y0:=@xix true
def Z4:=@xv true
def Z3:=@Zbx true
def Wc:=@Zbx false
def Zb:=@xv false
def Zg:=@xop false
def Z7:=@xop true
def Vx:=@Z9c false
def Zv {X:Cx}:=@Zd3 X false
def Vz {X:Cx}:=@Zd3 X true
def Tq:=@PNd.x false
def Zl:=@Zbl false
def Ym:=@Z40 true
def Y2:=@PNd.x true
def Tu:=@Za6 false
def Vd:=@Zbl true
def Zu:=@Zba false
def V8:=@Ik true
def Qq:=@Z40 false
end L2
namespace K24
open PySem PySem.Spec PyProof.Rows L2
abbrev N0_:List Str:=["_law_script","_law_first","_law_n","_law_many","_law_order_here","_law_size","_law_cell","_law_pairs","_law_w","_law_one","_law_two","_law_takes","_law_fills","_law_marks","_law_spots_here","_law_i","_law_j","_law_code","_law_seen","_law_steps","_law_d","_law_turn","_law_word_here","_law_wires"]
abbrev N1_:List Str:=["_law_graph_here","_law_cell","_law_wires","_law_steps","_law_marks","_law_code","_law_there","_law_step","_law_spot","_law_some","_law_k","_law_wire","_law_up","_law_takes","_law_fills"]
abbrev N2_:List Str:=["_law_graph_here","_law_cell","_law_wires","_law_steps","_law_marks","_law_code","_law_at","_law_wire","_law_up","_law_takes","_law_fills","_law_spots_here","_law_spot","_law_how"]
abbrev N3_:List Str:=["_law_script","_law_first","_law_cell","_law_base","_law_code","_law_steps","_law_wires","_law_k","_law_more","_law_x","_law_up","_law_spot","_law_turn"]
abbrev N4_:List Str:=["_law_script","_law_first","_law_cell","_law_n","_law_size","_law_wires","_law_steps","_law_k","_law_more","_law_takes","_law_fills","_law_marks"]
abbrev N5_:List Str:=["_law_script","_law_first","_law_many","_law_size","_law_pairs","_law_k","_law_cell","_law_i","_law_j"]
abbrev N6_:List Str:=["_law_cell","_law_k","_law_letters","_law_size","_law_at","_law_word_here","_law_j","_law_shift"]
abbrev N7_:List Str:=["_law_script","_law_first","_law_n","_law_order_here","_law_w","_law_cell","_law_at","_law_far"]
abbrev N8_:List Str:=["_law_graph_here","_law_most","_law_rows","_law_there","_law_n","_law_k","_law_step","_law_new"]
abbrev N9_:List Str:=["_law_graph_here","_law_most","_law_caught","_law_rows","_law_e","_law_sort_here","_law_road"]
abbrev N10_:List Str:=["_law_script","_law_cell","_law_graph_here","_law_most","_law_due_here"]
abbrev N11_:List Str:=["_law_step","_law_stand","_law_marks","_law_code","_law_spot"]
abbrev N12_:List Str:=["graph","most","found","seen","at","here","step","stand"]
abbrev N13_:List Str:=["_law_cell","_law_size","_law_some","_law_k","_law_spot"]
abbrev N14_:List Str:=["_law_w","_law_word_here","_law_script","_law_first"]
abbrev N15_:List Str:=["_law_script","_law_first","_law_many","_law_size"]
abbrev N16_:List Str:=["_law_script","_law_first","_law_n","_law_many"]
abbrev N17_:List Str:=["graph","stand","step","wire","left","fills"]
abbrev N18_:List Str:=["_law_script","_law_first","_law_n"]
abbrev N19_:List Str:=["_law_pair","_law_one","_law_two"]
abbrev N20_:List Str:=["_law_graph_here","_law_cell"]
abbrev N21_:List Str:=["_law_graph_here","_law_most"]
abbrev N22_:List Str:=["Broken","Crowded","TooMany"]
abbrev N23_:List Str:=["graph","found","at","step"]
abbrev N24_:List Str:=["_law_script","_law_first"]
abbrev N25_:List Str:=["_law_step","_law_marks"]
abbrev N26_:List Str:=["_law_step","_law_stand"]
abbrev N27_:List Str:=["_law_spot","_law_marks"]
abbrev N28_:List Str:=["_law_cell","_law_size"]
abbrev N29_:List Str:=["graph","stand","step"]
abbrev N30_:List Str:=["_law_script","_law_k"]
abbrev N31_:List Str:=["step","graph","stand"]
abbrev N32_:List Str:=["_law_k","_law_pairs"]
abbrev N33_:List Str:=["_law_p","_law_there"]
abbrev N34_:List Str:=["_law_cell","_law_k"]
abbrev N35_:List Str:=["_law_rows","_law_n"]
abbrev N36_:List Str:=["number","place"]
abbrev N37_:List Str:=["graph","stand"]
abbrev N38_:List Str:=["graph","step"]
abbrev N39_:List Str:=["_law_script"]
abbrev N40_:List Str:=["self","way"]
def Qj:Ev->Fl:=(V1 (dO Wi (dO Wi (dO Wi (dV 0) (dC (.int 1))) (dV 1)) (dC (.int 0))))
def Rt:List Dat->Rs:=Wd 2 2 Qj
def Qg:Ev->Fl:=(V1 (dO Wi (dO Wi (dO Wi (dV 0) (dC (.int 1))) (dV 1)) (dC (.int 1))))
def S5:List Dat->Rs:=Wd 2 2 Qg
def Uz:Ev->Fl:=(V1 (dO Wi (dO Wi (dO Wi (dV 0) (dC (.int 1))) (dV 1)) (dC (.int 2))))
def Ta:List Dat->Rs:=Wd 2 2 Uz
def Uw:Ev->Fl:=(V1 (dO Wi (dO Wi (dO Wi (dV 0) (dC (.int 1))) (dV 1)) (dC (.int 3))))
def Mm:List Dat->Rs:=Wd 2 2 Uw
def Ew:Ev->Fl:=(Ze (Zq 1 (dC (.int 0)))
 (Ze (Qt (Jk (dV 0)) (Yq 2) (Zq 1 (dO orD (dV 1) (dO Mr (dC (.int 1)) (dV 2)))))
 (V1 (dV 1))))
def D4:List Dat->Rs:=Wd 3 1 Ew
def Qh:Ev->Fl:=(V1 (dO Jr (dO Qu (dO R5 (dV 0) (dV 1)) (dC (.int 1))) (dC (.int 1))))
def Sc:List Dat->Rs:=Wd 2 2 Qh
def N0:Ev->Fl:=(Ze (Zq 3 (W1 D4 (Z2 (W1 Ta (Z2 (dV 0) (Z2 (dV 2) Zd))) Zd)))
 (V1 (dO Jr (dO Qu (dO Wi (dV 1) (dC (.int 0))) (dV 3)) (dV 3))))
def Xl:List Dat->Rs:=Wd 4 3 N0
def Um:Ev->Fl:=(Ze (Zq 3 (W1 Rt (Z2 (dV 0) (Z2 (dV 2) Zd))))
 (Ze (M4 (dB (dO Jr (W1 Sc (Z2 (dO Wi (dV 1) (dC (.int 1))) (Z2 (dV 3) Zd))) (W1 S5 (Z2 (dV 0) (Z2 (dV 2) Zd))))) (U5 "Broken" (gW "way") (Z2 (dL (Vi (Z2 (dV 2) Zd))) Zd)) Q5)
 (Ze (Zq 4 (dO Qu (dO Wi (dV 1) (dC (.int 0))) (dU Z8w (W1 D4 (Z2 (W1 Ta (Z2 (dV 0) (Z2 (dV 2) Zd))) Zd)))))
 (Ze (Zq 5 (W1 D4 (Z2 (W1 Mm (Z2 (dV 0) (Z2 (dV 2) Zd))) Zd)))
 (Ze (M4 (dB (dO neF (dO Qu (dV 4) (dV 5)) (dC (.int 0)))) (U5 "Crowded" (gW "way") (Z2 (dL (Vi (Z2 (dV 2) Zd))) Zd)) Q5)
 (V1 (Yb (Z2 (dO orD (dV 4) (dV 5)) (Z2 (dO Z5q (dO Wi (dV 1) (dC (.int 1))) (dO Mr (dC (.int 1)) (dV 3))) Zd)))))))))
def R8:List Dat->Rs:=Wd 6 3 Um
def T9:Ev->Fl:=(V1 (dL (Ju (Q6 (Z2 (dF Qr (Z2 (dO Wi (dV 0) (dC (.int 1))) Zd)) Zd)) [none,some 0,some 1] (Yq 0) (dT (W1 Xl (Z2 (dV 1) (Z2 (dV 2) (Z2 (dV 0) Zd))))) (dV 0))))
def M6:List Dat->Rs:=Wd 2 2 T9
def N3:Ev->Fl:=(Ze (Sg 2 (Vi Zd))
 (Ze (Zq 3 (dV 1))
 (Ze (Jq (dB (dO Zai (dO Wi (dO Wi (dV 0) (dV 3)) (dC (.int 2))) (dC .non))) (Ze (Tt 2 Wn (Z2 (dO Wi (dO Wi (dV 0) (dV 3)) (dC (.int 3))) Zd))
 (Zq 3 (dO Wi (dO Wi (dV 0) (dV 3)) (dC (.int 2))))))
 (V1 (dL (dLR (Z2 (dP 2) Zd)))))))
def Kk:List Dat->Rs:=Wd 4 2 N3
def T3:Ev->Fl:=(X4 N22_ "Broken" "Crowded" (Ph R8 (Z2 (dV 0) (Z2 (dS Lf (dO Wi (dV 1) (dV 2)) Q7 (Ui (dC (.int 2)))) (Z2 (dV 3) Zd)))) (U5 "Broken" (gW "way") (Z2 (dL (dO L8 (W1 Kk (Z2 (dV 1) (Z2 (dV 2) Zd))) (dL (Vi (Z2 (dV 3) Zd))))) Zd)) (U5 "Crowded" (gW "way") (Z2 (dL (dO L8 (W1 Kk (Z2 (dV 1) (Z2 (dV 2) Zd))) (dL (Vi (Z2 (dV 3) Zd))))) Zd)))
def Jt:List Dat->Rs:=Wd 4 4 T3
def Jv:Ev->Fl:=(Ze (Sg 2 (Vi (Z2 (Yb (Z2 (dO Wi (dV 0) (dC (.int 2))) (Z2 (dO Wi (dV 0) (dC (.int 3))) (Z2 (dC .non) (Z2 (dC .non) Zd))))) Zd)))
 (Ze (Nb 3 (Yb (Z2 (dO Wi (dV 0) (dC (.int 2))) (Z2 (dO Wi (dV 0) (dC (.int 3))) Zd))) (dC (.bl true)))
 (Ze (Zq 4 (dC (.int 0)))
 (Ze (Jq (dB (dO ltD (dV 4) (dF Qr (Z2 (dP 2) Zd)))) (Ze (Zq 5 (W1 M6 (Z2 (dV 0) (Z2 (dS Lf (dO Wi (dP 2) (dV 4)) Q7 (Ui (dC (.int 2)))) Zd))))
 (Ze (Qt (Jk (dV 5)) (Yq 6) (Ze (Gr 7 (D9 Jt) (Z2 (dV 0) (Z2 (dP 2) (Z2 (dV 4) (Z2 (dV 6) Zd)))))
 (Ze (M4 (dB (Lm false 3 (dV 7))) (fun env=>.cont env) Q5)
 (Ze (M4 (dB (dO geD (dF Qr (Z2 (dP 2) Zd)) (dV 1))) (U5 "TooMany" gZ Zd) Q5)
 (Ze (Ex 3 (dV 7) (dC (.bl true)))
 (Tt 2 Wn (Z2 (Yb (Z2 (dO Wi (dV 7) (dC (.int 0))) (Z2 (dO Wi (dV 7) (dC (.int 1))) (Z2 (dV 4) (Z2 (dV 6) Zd))))) Zd)))))))
 (Z3u 4 (dC (.int 1))))))
 (Gp 2)))))
def Tv:List Dat->Rs:=Wd 8 2 Jv
def Uy:Ev->Fl:=(Ze (Zq 2 (dO Y8 (dO Jn (dC (.int 7919)) (dV 1)) (dC (.int 12345))))
 (Ze (M4 (dB (dO ltD (dV 1) (dF Qr (Z2 (dV 0) Zd)))) (Zq 2 (dO Y8 (dV 2) (dO Jn (dO Wi (dV 0) (dV 1)) (dC (.int 6364136223846793005))))) Q5)
 (V1 (dO W3 (dO Jn (dV 2) (dC (.int 48271))) (dC (.int 1000000000039))))))
def Y7:List Dat->Rs:=Wd 3 2 Uy
def Ue:Ev->Fl:=(Ze (Zq 2 (dC (.str "abcdefghijklmnopqrstuvwxyz")))
 (Ze (Zq 3 (dO Y8 (dC (.int 2)) (dO W3 (dV 0) (dC (.int 7)))))
 (Ze (Zq 4 (dO W3 (dO Ya (dV 0) (dC (.int 7))) (dV 3)))
 (Ze (Zq 5 (dC (.str "")))
 (Ze (Qt (Q6 (Z2 (dV 3) Zd)) (Yq 6) (Ze (Zq 7 (dC (.int 0)))
 (Ze (M4 (dB (dO Jr (dV 6) (dV 4))) (Zq 7 (dV 1)) Q5)
 (Zq 5 (dO Y8 (dV 5) (dO Wi (dV 2) (dO W3 (dO Y8 (dO Y8 (dO Ya (dV 0) (dC (.int 49))) (dO Jn (dC (.int 5)) (dV 6))) (dO Jn (dC (.int 7)) (dV 7))) (dC (.int 26)))))))))
 (Ze (M4 (dB (dO inF (dV 5) (dL (Vi (Z2 (dC (.str "given")) (Z2 (dC (.str "made")) (Z2 (dC (.str "up")) (Z2 (dC (.str "down")) (Z2 (dC (.str "start")) Zd))))))))) (Zq 5 (dO Y8 (dS Lf (dV 5) (Ui (dC (.int 1))) Q7) (dC (.str "q")))) Q5)
 (V1 (dV 5))))))))
def W8:List Dat->Rs:=Wd 8 2 Ue
def Vs:Ev->Fl:=(Ze (Sg 3 (Vi Zd))
 (Ze (Qt (Q6 (Z2 (dV 2) Zd)) (Yq 4) (Ze (Zq 5 (W1 Y7 (Z2 (dV 0) (Z2 (dO Y8 (dV 1) (dV 4)) Zd))))
 (Ze (Zq 6 (dO W3 (dV 5) (dO Y8 (dF Qr (Z2 (dP 3) Zd)) (dC (.int 1)))))
 (Ze (Tt 3 Rx (Z2 (dV 6) (Z2 (dV 4) Zd)))
 (Ze (Zq 7 (dO W3 (dO Ya (dV 5) (dC (.int 64))) (dO Fc (dF Qr (Z2 (dP 3) Zd)) (dV 6))))
 (Tt 3 Rx (Z2 (dO Y8 (dO Y8 (dV 6) (dC (.int 1))) (dV 7)) (Z2 (dV 4) Zd))))))))
 (Gp 3)))
def Q9:List Dat->Rs:=Wd 8 3 Vs
def Vh:Ev->Fl:=(Ze (Sg 4 (Vi Zd))
 (Ze (Qt (Q6 (Z2 (dV 2) Zd)) (Yq 5) (Ze (Zq 6 (W1 Y7 (Z2 (dV 0) (Z2 (dO Y8 (dV 1) (dV 5)) Zd))))
 (Ze (Zq 7 (dO W3 (dV 6) (dV 3)))
 (Ze (Zq 8 (dO W3 (dO Ya (dV 6) (dC (.int 64))) (dV 3)))
 (M4 (Iv (dB (dO neF (dV 7) (dV 8))) (dB (dO G0 (Yb (Z2 (dF Z0q (Z2 (dV 7) (Z2 (dV 8) Zd))) (Z2 (dF Z0v (Z2 (dV 7) (Z2 (dV 8) Zd))) Zd))) (dP 4)))) (Tt 4 Wn (Z2 (Yb (Z2 (dF Z0q (Z2 (dV 7) (Z2 (dV 8) Zd))) (Z2 (dF Z0v (Z2 (dV 7) (Z2 (dV 8) Zd))) Zd))) Zd)) Q5)))))
 (Gp 4)))
def Tj:List Dat->Rs:=Wd 9 4 Vh
def Vt:Ev->Fl:=(Ze (Zq 4 (W1 Q9 (Z2 (dV 0) (Z2 (dV 1) (Z2 (dV 2) Zd)))))
 (Ze (Zq 5 (dO Jn (dC (.int 2)) (dV 2)))
 (Ze (Zq 6 (W1 Y7 (Z2 (dV 0) (Z2 (dO Y8 (dV 1) (dV 2)) Zd))))
 (Ze (Zq 7 (W1 Tj (Z2 (dV 0) (Z2 (dO Y8 (dO Y8 (dV 1) (dV 2)) (dC (.int 1))) (Z2 (dV 3) (Z2 (dV 5) Zd))))))
 (Ze (M4 (dB (dO Jr (dO W3 (dV 6) (dC (.int 3))) (dC (.int 0)))) (Zq 7 (dO Y8 (dV 7) (dL (Ju (Q6 (Z2 (dO Fc (dV 5) (dC (.int 1))) Zd)) [none,some 7] (Yq 0) (dB (dO G0 (Yb (Z2 (dV 0) (Z2 (dO Y8 (dV 0) (dC (.int 1))) Zd))) (dV 1))) (Yb (Z2 (dV 0) (Z2 (dO Y8 (dV 0) (dC (.int 1))) Zd))))))) Q5)
 (Ze (Qt (Q6 (Z2 (dV 2) Zd)) (Yq 8) (Ze (Zq 9 (dM "list" Kw (dV 4) (Z2 (dV 8) Zd)))
 (Ze (Zq 10 (dO Y8 (dO Y8 (dV 9) (dC (.int 1))) (dM "list" Kw (dS Lf (dV 4) (Ui (dO Y8 (dV 9) (dC (.int 1)))) Q7) (Z2 (dV 8) Zd))))
 (Zq 7 (dO Y8 (dL (Ju (Jk (dV 7)) [none,some 9,some 10] (Yq 0) (dB (dO neF (dV 0) (Yb (Z2 (dV 1) (Z2 (dV 2) Zd))))) (dV 0))) (dL (Vi (Z2 (Yb (Z2 (dV 9) (Z2 (dV 10) Zd))) Zd))))))))
 (Ze (Ly 11 (Jk (dV 4)) [none] (Yq 0))
 (Ze (Ly 12 (Jk (dV 4)) [none] (Yq 0))
 (Ze (Zq 13 (dC (.int 0)))
 (Ze (Zq 14 (dO W3 (dO Ya (dV 6) (dC (.int 3))) (dC (.int 20))))
 (Ze (Qt (Jk (dV 7)) (I0 2 (Yv (Yq 15) (Yv (Yq 16) Rk))) (Ze (Gm 12 (dV 15) (Z2 (dV 14) Zd))
 (Ze (Gm 11 (dV 16) (Z2 (dV 14) Zd))
 (Ze (Gm 12 (dV 16) (Z2 (dO Y8 (dV 14) (dC (.int 1))) Zd))
 (Ze (Gm 11 (dV 15) (Z2 (dO Y8 (dV 14) (dC (.int 1))) Zd))
 (Ze (Zq 13 (dO orD (dV 13) (dO Mr (dC (.int 1)) (dO Y8 (dV 14) (dC (.int 1))))))
 (Zq 14 (dO Y8 (dV 14) (dC (.int 2))))))))))
 (Ze (Zq 17 (dO W3 (dO Ya (dV 6) (dC (.int 60))) (dO Mr (dC (.int 1)) (dV 2))))
 (Ze (Zq 18 (dV 17))
 (Ze (Sg 19 (Vi Zd))
 (Ze (Qt (Z08 (dV 4)) (I0 2 (Yv (Yq 20) (Yv (Yq 8) Rk))) (Ze (Tt 19 Wn (Z2 (Yb (Z2 (dV 8) (Z2 (dO Jr (dO Qu (dO R5 (dV 18) (dV 8)) (dC (.int 1))) (dC (.int 0))) (Z2 (dF tupleD (Z2 (dL (dF Vu (Z2 (Cz 11 (dV 20)) Zd))) Zd)) (Z2 (dF tupleD (Z2 (dL (dF Vu (Z2 (Cz 12 (dV 20)) Zd))) Zd)) Zd))))) Zd))
 (Zq 18 (dO Z5q (dV 18) (dO Mr (dC (.int 1)) (dV 8))))))
 (Ze (Zq 21 (dO W3 (dO Ya (dV 6) (dC (.int 2000))) (dV 5)))
 (Ze (Sg 19 (dO L8 (dS Lf (dP 19) (Ui (dV 21)) Q7) (dS Lf (dP 19) Q7 (Ui (dV 21)))))
 (Ze (Zq 22 (dO Ya (dV 6) (dC (.int 40000))))
 (Ze (Zq 23 (dL (Ju (Q6 (Z2 (dV 2) Zd)) [none,some 22,some 0,some 1] (Yq 0) Je (Yb (Z2 (W1 W8 (Z2 (dV 1) (Z2 (dV 0) Zd))) (Z2 (dO Wi (dL (Vi (Z2 (dC (.str "given")) (Z2 (dC (.str "made")) Zd)))) (dO W3 (dO Ya (W1 Y7 (Z2 (dV 2) (Z2 (dO Y8 (dV 3) (dV 0)) Zd))) (dC (.int 4096))) (dC (.int 2)))) Zd))))))
 (V1 (Yb (Z2 (dF tupleD (Z2 (dV 23) Zd)) (Z2 (dF tupleD (Z2 (dP 19) Zd)) (Z2 (dV 13) (Z2 (dV 17) Zd)))))))))))))))))))))))))
def Qf:List Dat->Rs:=Wd 24 4 Vt
def Vg:Ev->Fl:=(Ze (Zq 2 (W1 Y7 (Z2 (dV 0) (Z2 (dV 1) Zd))))
 (Ze (Zq 3 (dO W3 (dO Ya (dV 2) (dC (.int 4))) (dC (.int 20))))
 (Ze (Zq 4 (dO W3 (dO Ya (dV 2) (dC (.int 80))) (dC (.int 32))))
 (Ze (Zq 5 (dL (Vi Zd)))
 (Ze (Sg 6 (Vi (Z2 (Yb (Z2 (W1 W8 (Z2 (dO Ya (dV 2) (dC (.int 2560))) (Z2 (dC (.int 0)) Zd))) (Z2 (dC (.str "made")) Zd))) Zd)))
 (Ze (Qt (Q6 (Z2 (dO Y8 (dC (.int 1)) (dO W3 (dV 2) (dC (.int 4)))) Zd)) (Yq 7) (Ze (Zq 8 (W1 Y7 (Z2 (dV 0) (Z2 (dO Y8 (dO Y8 (dV 1) (dC (.int 1))) (dV 7)) Zd))))
 (Ze (Zq 9 (dO Y8 (dC (.int 1)) (dO Jn (dV 7) (dO W3 (dO Ya (dV 2) (dC (.int 40))) (dC (.int 2))))))
 (Ze (Zq 10 (dO Jr (dO Qu (dO R5 (dV 4) (dV 9)) (dC (.int 1))) (dC (.int 0))))
 (Ze (Zq 11 (dO Y8 (dO Y8 (dV 3) (dC (.int 1))) (dO Jn (dC (.int 3)) (dV 7))))
 (Ze (Tt 6 Wn (Z2 (Yb (Z2 (W1 W8 (Z2 (dO Ya (dV 2) (dC (.int 2560))) (Z2 (dO Y8 (dV 7) (dC (.int 1))) Zd))) (Z2 (dO Wi (dL (Vi (Z2 (dC (.str "given")) (Z2 (dC (.str "given")) (Z2 (dC (.str "made")) Zd))))) (dO Jn (dO W3 (dV 8) (dC (.int 3))) (dO W3 (dO Ya (dV 2) (dC (.int 20))) (dC (.int 2))))) Zd))) Zd))
 (M4 (dB (dO Jr (dO W3 (dO Ya (dV 8) (dC (.int 3))) (dC (.int 3))) (dC (.int 0)))) (Zq 5 (dO Y8 (dV 5) (dL (Vi (Z2 (Yb (Z2 (dV 9) (Z2 (dV 10) (Z2 (Yb (Z2 (dV 3) Zd)) (Z2 (Yb (Z2 (dV 11) Zd)) Zd))))) (Z2 (Yb (Z2 (dV 9) (Z2 (F4 (dV 10)) (Z2 (Yb (Z2 (dV 11) Zd)) (Z2 (Yb (Z2 (dV 3) Zd)) Zd))))) Zd)))))) (Ze (Zq 5 (dO Y8 (dV 5) (dL (Vi (Z2 (Yb (Z2 (dV 9) (Z2 (dV 10) (Z2 (Yb (Z2 (dV 3) Zd)) (Z2 (Yb (Z2 (dV 11) Zd)) Zd))))) (Z2 (Yb (Z2 (dC (.int 0)) (Z2 (dO Jr (dO Qu (dV 4) (dC (.int 1))) (dC (.int 0))) (Z2 (Yb (Z2 (dV 11) Zd)) (Z2 (Yb (Z2 (dO Y8 (dV 11) (dC (.int 1))) Zd)) Zd))))) Zd))))))
 (Zq 5 (dO Y8 (dV 5) (dL (Vi (Z2 (Yb (Z2 (dV 9) (Z2 (F4 (dV 10)) (Z2 (Yb (Z2 (dO Y8 (dV 11) (dC (.int 1))) Zd)) (Z2 (Yb (Z2 (dO Y8 (dV 11) (dC (.int 2))) Zd)) Zd))))) (Z2 (Yb (Z2 (dC (.int 0)) (Z2 (dO Jr (dO Qu (dV 4) (dC (.int 1))) (dC (.int 1))) (Z2 (Yb (Z2 (dO Y8 (dV 11) (dC (.int 2))) Zd)) (Z2 (Yb (Z2 (dV 3) Zd)) Zd))))) Zd))))))))))))))
 (Ze (Zq 12 (dO W3 (dO Ya (dV 2) (dC (.int 7))) (dF Qr (Z2 (dV 5) Zd))))
 (V1 (Yb (Z2 (dF tupleD (Z2 (dP 6) Zd)) (Z2 (dF tupleD (Z2 (dO Y8 (dS Lf (dV 5) (Ui (dV 12)) Q7) (dS Lf (dV 5) Q7 (Ui (dV 12)))) Zd)) (Z2 (dO Mr (dC (.int 1)) (dV 3)) (Z2 (dO W3 (dV 4) (dO Mr (dC (.int 1)) (dF Qr (Z2 (dP 6) Zd)))) Zd)))))))))))))
def Tl:List Dat->Rs:=Wd 13 2 Vg
def Ww:Ev->Fl:=(Ze (Pf (dV 0) (I0 4 (Yv (Yq 2) (Yv (Yq 3) (Yv (Yq 4) (Yv (Yq 5) Rk))))))
 (Ze (Zq 6 (dV 4))
 (Ze (Qt (Jk (dV 3)) (Yq 7) (Qt (Jk (dO Ri (dO Wi (dV 7) (dC (.int 2))) (dO Wi (dV 7) (dC (.int 3))))) (Yq 8) (Zq 6 (dO orD (dV 6) (dO Mr (dC (.int 1)) (dV 8))))))
 (Ze (Zq 8 (dO Wi (dL (Ju (Q6 (Z2 (dC (.int 64)) Zd)) [none,some 6] (Yq 0) (dB (dO Jr (dO Qu (dO R5 (dV 1) (dV 0)) (dC (.int 1))) (dC (.int 0)))) (dV 0))) (dO W3 (dV 1) (dC (.int 3)))))
 (Ze (Sg 9 (Vi Zd))
 (Ze (Qt (Z08 (dV 3)) (I0 2 (Yv (Yq 10) (Yv (I0 4 (Yv (Yq 11) (Yv (Yq 12) (Yv (Yq 13) (Yv (Yq 14) Rk))))) Rk))) (Ze (M4 (dB (dO Jr (dO Qu (dO R5 (dO Ya (dV 1) (dC (.int 3))) (dV 10)) (dC (.int 1))) (dC (.int 1)))) (Ze (Zq 13 (dF tupleD (Z2 (dL (dF Vu (Z2 (dO Ri (dV 13) (Yb (Z2 (dV 8) Zd))) Zd))) Zd)))
 (Zq 14 (dF tupleD (Z2 (dL (dF Vu (Z2 (dO Ri (dV 14) (Yb (Z2 (dV 8) Zd))) Zd))) Zd)))) Q5)
 (Tt 9 Wn (Z2 (Yb (Z2 (dV 11) (Z2 (dV 12) (Z2 (dV 13) (Z2 (dV 14) Zd))))) Zd))))
 (V1 (Yb (Z2 (dV 2) (Z2 (dF tupleD (Z2 (dP 9) Zd)) (Z2 (dO orD (dV 4) (dO Mr (dC (.int 1)) (dV 8))) (Z2 (dV 5) Zd))))))))))))
def Uu:List Dat->Rs:=Wd 15 2 Ww
def Vr:Ev->Fl:=(Ze (Sg 2 (Vi Zd))
 (Ze (Qt (Q6 (Z2 (dO Y8 (dC (.int 1)) (dO W3 (dV 0) (dC (.int 4)))) Zd)) (Yq 3) (Ze (Zq 4 (dO W3 (dO Ya (dV 0) (dO Y8 (dC (.int 4)) (dO Jn (dC (.int 61)) (dV 3)))) (dV 1)))
 (M4 (dB (dO G0 (dV 4) (dP 2))) (Tt 2 Wn (Z2 (dV 4) Zd)) Q5)))
 (V1 (dF tupleD (Z2 (dL (dF Vu (Z2 (dP 2) Zd))) Zd)))))
def Ul:List Dat->Rs:=Wd 5 2 Vr
def U8:Ev->Fl:=(Ze (Zq 2 (W1 Y7 (Z2 (dV 0) (Z2 (dV 1) Zd))))
 (Ze (Zq 3 (dO Y8 (dC (.int 1)) (dO W3 (dV 2) (dC (.int 4)))))
 (Ze (Zq 4 (dO Y8 (dC (.int 2)) (dO W3 (dO Ya (dV 2) (dC (.int 4))) (dC (.int 5)))))
 (Ze (Zq 5 (dL (Ju (Q6 (Z2 (dV 3) Zd)) [none,some 2] (Yq 0) Je (Yb (Z2 (W1 W8 (Z2 (dO Ya (dV 1) (dC (.int 2400))) (Z2 (dV 0) Zd))) (Z2 (dO Wi (dL (Vi (Z2 (dC (.str "given")) (Z2 (dC (.str "made")) Zd)))) (dO Qu (dO R5 (dV 1) (dO Y8 (dC (.int 20)) (dV 0))) (dC (.int 1)))) Zd))))))
 (Ze (Sg 6 (Vi Zd))
 (Ze (Qt (Q6 (Z2 (dO Y8 (dC (.int 2)) (dO W3 (dO Ya (dV 2) (dC (.int 20))) (dC (.int 6)))) Zd)) (Yq 7) (Ze (Zq 8 (W1 Y7 (Z2 (dV 0) (Z2 (dO Y8 (dO Y8 (dV 1) (dC (.int 1))) (dV 7)) Zd))))
 (Ze (Zq 9 (W1 Ul (Z2 (dO Y8 (dO Jn (dO Ya (dV 8) (dC (.int 16))) (dC (.int 4))) (dO W3 (dO Ya (dV 8) (dC (.int 8))) (dC (.int 2)))) (Z2 (dV 4) Zd))))
 (Ze (Zq 10 (W1 Ul (Z2 (dO Y8 (dO Jn (dO Ya (dO W3 (dO Jn (dV 8) (dC (.int 48271))) (dC (.int 2147483647))) (dC (.int 4))) (dC (.int 4))) (dO W3 (dO Ya (dV 8) (dC (.int 4))) (dC (.int 2)))) (Z2 (dV 4) Zd))))
 (Tt 6 Wn (Z2 (Yb (Z2 (dO W3 (dO Ya (dV 8) (dC (.int 64))) (dV 3)) (Z2 (dO Jr (dO W3 (dO Ya (dV 8) (dC (.int 2))) (dC (.int 2))) (dC (.int 0))) (Z2 (dV 9) (Z2 (dV 10) Zd))))) Zd))))))
 (Ze (Zq 11 (dO W3 (W1 Y7 (Z2 (dV 0) (Z2 (dO Y8 (dV 1) (dC (.int 9))) Zd))) (dO Mr (dC (.int 1)) (dV 4))))
 (V1 (Yb (Z2 (dF tupleD (Z2 (dV 5) Zd)) (Z2 (dF tupleD (Z2 (dP 6) Zd)) (Z2 (dV 11) (Z2 (dO W3 (dO Ya (dV 2) (dC (.int 120))) (dO Mr (dC (.int 1)) (dV 3))) Zd)))))))))))))
def Jb:List Dat->Rs:=Wd 12 2 U8
def V2:Ev->Fl:=(Ze (Pf (dV 0) (I0 4 (Yv (Yq 2) (Yv (Yq 3) (Yv (Yq 4) (Yv (Yq 5) Rk))))))
 (Ze (Zq 6 (dO W3 (dO Ya (dV 1) (dC (.int 6))) (dF Qr (Z2 (dV 3) Zd))))
 (Ze (Pf (dO Wi (dV 3) (dV 6)) (I0 4 (Yv (Yq 7) (Yv (Yq 8) (Yv (Yq 9) (Yv (Yq 10) Rk))))))
 (Ze (Zq 11 (dL (dF Vu (Z2 (dL (Ju (Jk (dV 3)) [none] (Yq 0) Je (dO Wi (dO Wi (dV 0) (dC (.int 2))) (dC (.int 0))))) Zd))))
 (Ze (Zq 12 (dO Wi (dV 11) (dO W3 (dO Ya (dV 1) (dC (.int 200))) (dF Qr (Z2 (dV 11) Zd)))))
 (Ze (Zq 13 (dO W3 (dV 1) (dC (.int 6))))
 (Ze (M4 (dB (dO Jr (dV 13) (dC (.int 0)))) (Zq 8 (F4 (dV 8))) (M4 (Iv (dB (dO Jr (dV 13) (dC (.int 1)))) (dB (dO G0 (dV 12) (dV 10)))) (Zq 10 (dF tupleD (Z2 (dL (dF Vu (Z2 (dO Ri (dV 10) (Yb (Z2 (dV 12) Zd))) Zd))) Zd))) (M4 (dB (dO Jr (dV 13) (dC (.int 2)))) (Zq 9 (dS Lf (dS Lf (dV 9) (Ui (dO W3 (dO Ya (dV 1) (dC (.int 9))) (dF Qr (Z2 (dV 9) Zd)))) Q7) Q7 (Ui (dC (.int 1))))) (M4 (dB (dO Jr (dV 13) (dC (.int 3)))) (Zq 7 (dO W3 (dO Ya (dV 1) (dC (.int 40))) (dF Qr (Z2 (dV 2) Zd)))) (M4 (Iv (dB (dO Jr (dV 13) (dC (.int 4)))) (dB (dO G0 (dV 12) (dV 9)))) (Zq 9 (dF tupleD (Z2 (dL (dF Vu (Z2 (dO Ri (dV 9) (Yb (Z2 (dV 12) Zd))) Zd))) Zd))) (M4 (dB (dO Jr (dV 13) (dC (.int 5)))) (Zq 10 (dV 9)) Q5))))))
 (V1 (Yb (Z2 (dV 2) (Z2 (dO Ri (dO Ri (dS Lf (dV 3) Q7 (Ui (dV 6))) (Yb (Z2 (Yb (Z2 (dV 7) (Z2 (dV 8) (Z2 (dV 9) (Z2 (dV 10) Zd))))) Zd))) (dS Lf (dV 3) (Ui (dO Y8 (dV 6) (dC (.int 1)))) Q7)) (Z2 (dV 4) (Z2 (dV 5) Zd)))))))))))))
def Vp:List Dat->Rs:=Wd 14 2 V2
def Yu:Ev->Fl:=(Ze (Zq 1 (dL (Vi (Z2 (Aw (Ts N22_ "Broken") (dV 0)) (Z2 (Aw (Ts N22_ "Crowded") (dV 0)) (Z2 (Aw (Ts N22_ "TooMany") (dV 0)) (Z2 (Aw (Ts N22_ "CalledOff") (dV 0)) Zd)))))))
 (Ze (Zq 1 (dO Y8 (dV 1) (dL (Vi (Z2 (Aw (Ts N22_ "Clash") (dV 0)) (Z2 (Aw (Ts N22_ "NoMove") (dV 0)) (Z2 (Aw (Ts N22_ "NoPlace") (dV 0)) (Z2 (Aw (Ts N22_ "NoText") (dV 0)) Zd))))))))
 (Ze (M4 (Z54 (dB (dO neF (dM "list" Ag (dV 1) (Z2 (dC (.bl true)) Zd)) (dC (.int 1)))) (Pb (dT (Aw (Po N22_) (dV 0))))) (V1 (dC (.str "other"))) Q5)
 (V1 (dO Wi (dL (Vi (Z2 (dC (.str "broken")) (Z2 (dC (.str "crowded")) (Z2 (dC (.str "many")) (Z2 (dC (.str "off")) (Z2 (dC (.str "clash")) (Z2 (dC (.str "move")) (Z2 (dC (.str "place")) (Z2 (dC (.str "text")) Zd)))))))))) (dM "list" Ab (dV 1) (Z2 (dC (.bl true)) Zd)))))))
def Vl:List Dat->Rs:=Wd 2 1 Yu
def T7:Ev->Fl:=(V1 (dF Z3h (Z2 (dL (Ju (Jk (dO Wi (dV 0) (dC (.int 2)))) [none,some 1] (Yq 0) Je (dO Jr (dO Qu (dO R5 (dV 1) (dV 0)) (dC (.int 1))) (dC (.int 1))))) Zd)))
def Mk:List Dat->Rs:=Wd 2 2 T7
def Uf:Ev->Fl:=(Ze (Pf (dV 1) (I0 2 (Yv (Yq 2) (Yv (Yq 3) Rk))))
 (Ze (M4 (dB (dO Jr (dO Jr (dO Qu (dO R5 (dV 3) (dO Wi (dV 0) (dC (.int 0)))) (dC (.int 1))) (dC (.int 1))) (dO Wi (dV 0) (dC (.int 1))))) (V1 (dC (.str "broken"))) Q5)
 (Ze (Qt (Jk (dO Wi (dV 0) (dC (.int 2)))) (Yq 4) (Zq 2 (dO Fc (dV 2) (dO Mr (dC (.int 1)) (dV 4)))))
 (Ze (M4 (dT (dF Z2a (Z2 (dL (Ju (Jk (dO Wi (dV 0) (dC (.int 3)))) [none,some 2] (Yq 0) Je (dO Jr (dO Qu (dO R5 (dV 1) (dV 0)) (dC (.int 1))) (dC (.int 1))))) Zd))) (V1 (dC (.str "crowded"))) Q5)
 (Ze (Qt (Jk (dO Wi (dV 0) (dC (.int 3)))) (Yq 4) (Zq 2 (dO Y8 (dV 2) (dO Mr (dC (.int 1)) (dV 4)))))
 (Ze (M4 (dT (dO Wi (dV 0) (dC (.int 1)))) (V1 (Yb (Z2 (dV 2) (Z2 (dO Y8 (dV 3) (dO Mr (dC (.int 1)) (dO Wi (dV 0) (dC (.int 0))))) Zd)))) Q5)
 (V1 (Yb (Z2 (dV 2) (Z2 (dO Fc (dV 3) (dO Mr (dC (.int 1)) (dO Wi (dV 0) (dC (.int 0))))) Zd))))))))))
def Tp:List Dat->Rs:=Wd 5 2 Uf
def T6:Ev->Fl:=(Ze (Sg 2 (Vi Zd))
 (Ze (Jq (dB (dO gtD (dV 1) (dC (.int 0)))) (Ze (Tt 2 Rx (Z2 (dC (.int 0)) (Z2 (dO Wi (dO Wi (dV 0) (dV 1)) (dC (.int 3))) Zd)))
 (Zq 1 (dO Wi (dO Wi (dV 0) (dV 1)) (dC (.int 2))))))
 (Gp 2)))
def Mn:List Dat->Rs:=Wd 3 2 T6
def Tf:Ev->Fl:=(Ze (Sg 2 (Vi (Z2 (Yb (Z2 (dO Wi (dV 0) (dC (.int 2))) (Z2 (dO Wi (dV 0) (dC (.int 3))) (Z2 (dC .non) (Z2 (dC .non) Zd))))) Zd)))
 (Ze (Nb 3 (Yb (Z2 (dO Wi (dV 0) (dC (.int 2))) (Z2 (dO Wi (dV 0) (dC (.int 3))) Zd))) (dC (.bl true)))
 (Ze (Zq 4 (dC (.int 0)))
 (Ze (Jq (dB (dO ltD (dV 4) (dF Qr (Z2 (dP 2) Zd)))) (Ze (Qt (Z08 (dO Wi (dV 0) (dC (.int 1)))) (I0 2 (Yv (Yq 5) (Yv (Yq 6) Rk))) (M4 (dT (W1 Mk (Z2 (dV 6) (Z2 (dO Wi (dO Wi (dP 2) (dV 4)) (dC (.int 0))) Zd)))) (Ze (Zq 7 (W1 Tp (Z2 (dV 6) (Z2 (dS Lf (dO Wi (dP 2) (dV 4)) Q7 (Ui (dC (.int 2)))) Zd))))
 (Ze (M4 (dT (dI "str" (dV 7))) (Z6s 2 (V1 (Yb (Z2 (dV 7) (Z2 (dO Y8 (W1 Mn (Z2 (dV 2) (Z2 (dV 4) Zd))) (dL (Vi (Z2 (dV 5) Zd)))) Zd))))) Q5)
 (M4 (dB (Lm true 3 (dV 7))) (Ze (M4 (dB (dO Jr (dF Qr (Z2 (dP 2) Zd)) (dV 1))) (V1 (Yb (Z2 (dC (.str "many")) (Z2 (dC .non) Zd)))) Q5)
 (Ze (Ex 3 (dV 7) (dC (.bl true)))
 (Tt 2 Wn (Z2 (dO Ri (dV 7) (Yb (Z2 (dV 4) (Z2 (dV 5) Zd)))) Zd)))) Q5))) Q5))
 (Zq 4 (dO Y8 (dV 4) (dC (.int 1))))))
 (Z6s 2 (V1 (Yb (Z2 (dC (.str "told")) (Z2 (dV 2) Zd)))))))))
def Mf:List Dat->Rs:=Wd 8 2 Tf
def Ys:Ev->Fl:=(Ze (Zq 2 (dC .non))
 (Ze (Zq 3 (dC .non))
 (Ze (Gx (Uh N22_) 4 (Gr 3 Tv (Z2 (dV 0) (Z2 (dV 1) Zd))) (Bm 4 2))
 (Ze (M4 (dB (dO isF (dP 2) (dC .non))) (V1 (Yb (Z2 (dC (.str "told")) (Z2 (dV 3) Zd)))) Q5)
 (Ze (Zq 5 (Bb Vl (Z2 (dP 2) Zd)))
 (Ze (M4 (Iv (dB (dO inF (dV 5) (Yb (Z2 (dC (.str "broken")) (Z2 (dC (.str "crowded")) Zd))))) (dT (dI "list" (N9 (Uh N22_) "way" (dP 2))))) (Ze (Zq 6 (dL (dF Z2d (Z2 (N9 (Uh N22_) "way" (dP 2)) Zd))))
 (Ze (Xm 2 (Uh N22_) "way" (Z2 (dC (.int 1000)) Zd))
 (V1 (Yb (Z2 (dV 5) (Z2 (dV 6) Zd)))))) Q5)
 (V1 (Yb (Z2 (dV 5) (Z2 (dC .non) Zd))))))))))
def Wo:List Dat->Rs:=Wd 7 2 Ys
def Nf:Ev->Fl:=(Ze (Zq 1 (W1 Y7 (Z2 (dV 0) (Z2 (dC (.int 0)) Zd))))
 (Ze (M4 (dB (dO Jr (dO W3 (dV 1) (dC (.int 3))) (dC (.int 0)))) (Zq 2 (W1 Jb (Z2 (dV 0) (Z2 (dC (.int 1)) Zd)))) (M4 (dB (dO Jr (dO W3 (dV 1) (dC (.int 3))) (dC (.int 1)))) (Zq 2 (W1 Vp (Z2 (W1 Tl (Z2 (dV 0) (Z2 (dC (.int 1)) Zd))) (Z2 (dO Ya (dV 1) (dC (.int 3))) Zd)))) (Zq 2 (W1 Vp (Z2 (W1 Qf (Z2 (dV 0) (Z2 (dC (.int 1)) (Z2 (dO Y8 (dC (.int 1)) (dO W3 (dO Ya (dV 1) (dC (.int 3))) (dC (.int 4)))) (Z2 (dO W3 (dO Ya (dV 1) (dC (.int 12))) (dC (.int 5))) Zd))))) (Z2 (dO Ya (dV 1) (dC (.int 60))) Zd))))))
 (Ze (M4 (dB (dO Jr (dO W3 (dO Ya (dV 1) (dC (.int 4096))) (dC (.int 3))) (dC (.int 0)))) (Zq 2 (W1 Uu (Z2 (dV 2) (Z2 (dO Ya (dV 1) (dC (.int 12288))) Zd)))) Q5)
 (Ze (Zq 3 (dO Wi (dL (Vi (Z2 (dC (.int 60)) (Z2 (dO Y8 (dC (.int 1)) (dO W3 (dO Ya (dV 1) (dC (.int 6))) (dC (.int 60)))) Zd)))) (dO W3 (dO Ya (dV 1) (dC (.int 360))) (dC (.int 2)))))
 (Ze (Zq 4 (W1 Mf (Z2 (dV 2) (Z2 (dV 3) Zd))))
 (V1 (Z4o (dO Jr (W1 Wo (Z2 (dV 2) (Z2 (dV 3) Zd))) (dV 4)) (dO Jr (W1 Wo (Z2 (dV 2) (Z2 (dV 3) Zd))) (dV 4)))))))))
def Z7b:List Dat->Rs:=Wd 5 1 Nf
def Sl (i:Nat):Stmt:=PySem.Challenge.pw_calmwires_k24_refused_stands.main.body.getD i (.Pass ⟨0,0,0,0⟩)
abbrev S8:Stmt:=Sl 11
theorem Fv:FnScope N38_ N38_ (Z8 S8):=⟨rfl,rfl,rfl,by decide +kernel,rfl,by decide +kernel,by decide +kernel⟩
abbrev Se:Stmt:=Sl 12
theorem Ae:FnScope N38_ N38_ (Z8 Se):=⟨rfl,rfl,rfl,by decide +kernel,rfl,by decide +kernel,by decide +kernel⟩
abbrev Mo:Stmt:=Sl 13
theorem X3:FnScope N38_ N38_ (Z8 Mo):=⟨rfl,rfl,rfl,by decide +kernel,rfl,by decide +kernel,by decide +kernel⟩
abbrev Mj:Stmt:=Sl 14
theorem Xw:FnScope N38_ N38_ (Z8 Mj):=⟨rfl,rfl,rfl,by decide +kernel,rfl,by decide +kernel,by decide +kernel⟩
abbrev O8:Stmt:=Sl 15
theorem Hi:FnScope ["some","number","place"] ["some"] (Z8 O8):=⟨rfl,rfl,rfl,by decide +kernel,rfl,by decide +kernel,by decide +kernel⟩
abbrev S0:Stmt:=Sl 16
theorem Fx:FnScope N36_ N36_ (Z8 S0):=⟨rfl,rfl,rfl,by decide +kernel,rfl,by decide +kernel,by decide +kernel⟩
abbrev B2:Stmt:=Sl 18
theorem Z20:FnScope ["graph","stand","step","takes"] N29_ (Z8 B2):=⟨rfl,rfl,rfl,by decide +kernel,rfl,by decide +kernel,by decide +kernel⟩
abbrev Dr:Stmt:=Sl 19
theorem S6:FnScope N17_ N29_ (Z8 Dr):=⟨rfl,rfl,rfl,by decide +kernel,rfl,by decide +kernel,by decide +kernel⟩
abbrev Td:Stmt:=Sl 21
theorem X8:FnScope N37_ N37_ (Z8 Td):=⟨rfl,rfl,rfl,by decide +kernel,rfl,by decide +kernel,by decide +kernel⟩
abbrev Bl:Stmt:=Sl 23
theorem Oj:FnScope ["found","n","steps","at"] ["found","n"] (Z8 Bl):=⟨rfl,rfl,rfl,by decide +kernel,rfl,by decide +kernel,by decide +kernel⟩
abbrev Sa:Stmt:=Sl 22
theorem A8:FnScope N23_ N23_ (Z8 Sa):=⟨rfl,rfl,rfl,by decide +kernel,rfl,by decide +kernel,by decide +kernel⟩
abbrev Dg:Stmt:=Sl 20
theorem Ud:FnScope N12_ ["graph","most"] (Z8 Dg):=⟨rfl,rfl,rfl,by decide +kernel,rfl,by decide +kernel,by decide +kernel⟩
abbrev Mi:Stmt:=Sl 25
theorem Rh:FnScope ["_law_script","_law_k","_law_number"] N30_ (Z8 Mi):=⟨rfl,rfl,rfl,by decide +kernel,rfl,by decide +kernel,by decide +kernel⟩
abbrev Ja:Stmt:=Sl 26
theorem W6:FnScope N6_ N34_ (Z8 Ja):=⟨rfl,rfl,rfl,by decide +kernel,rfl,by decide +kernel,by decide +kernel⟩
abbrev Qb:Stmt:=Sl 27
theorem Vf:FnScope N7_ N18_ (Z8 Qb):=⟨rfl,rfl,rfl,by decide +kernel,rfl,by decide +kernel,by decide +kernel⟩
abbrev Tk:Stmt:=Sl 28
theorem Wy:FnScope N5_ N15_ (Z8 Tk):=⟨rfl,rfl,rfl,by decide +kernel,rfl,by decide +kernel,by decide +kernel⟩
abbrev Y9:Stmt:=Sl 29
theorem Zi:FnScope N0_ N16_ (Z8 Y9):=⟨rfl,rfl,rfl,by decide +kernel,rfl,by decide +kernel,by decide +kernel⟩
abbrev Ti:Stmt:=Sl 30
theorem Zw:FnScope N3_ N24_ (Z8 Ti):=⟨rfl,rfl,rfl,by decide +kernel,rfl,by decide +kernel,by decide +kernel⟩
abbrev Wx:Stmt:=Sl 31
theorem Zn:FnScope N1_ N20_ (Z8 Wx):=⟨rfl,rfl,rfl,by decide +kernel,rfl,by decide +kernel,by decide +kernel⟩
abbrev Qe:Stmt:=Sl 32
theorem Tn:FnScope N13_ N28_ (Z8 Qe):=⟨rfl,rfl,rfl,by decide +kernel,rfl,by decide +kernel,by decide +kernel⟩
abbrev U6:Stmt:=Sl 33
theorem Yr:FnScope N4_ N24_ (Z8 U6):=⟨rfl,rfl,rfl,by decide +kernel,rfl,by decide +kernel,by decide +kernel⟩
abbrev V3:Stmt:=Sl 34
theorem Zm:FnScope N2_ N20_ (Z8 V3):=⟨rfl,rfl,rfl,by decide +kernel,rfl,by decide +kernel,by decide +kernel⟩
abbrev Qw:Stmt:=Sl 35
theorem Ma:FnScope ["_law_e","_law_sorts"] ["_law_e"] (Z8 Qw):=⟨rfl,rfl,rfl,by decide +kernel,rfl,by decide +kernel,by decide +kernel⟩
abbrev T4:Stmt:=Sl 36
theorem Pr:FnScope N25_ N25_ (Z8 T4):=⟨rfl,rfl,rfl,by decide +kernel,rfl,by decide +kernel,by decide +kernel⟩
abbrev Ua:Stmt:=Sl 37
theorem V7:FnScope N11_ N26_ (Z8 Ua):=⟨rfl,rfl,rfl,by decide +kernel,rfl,by decide +kernel,by decide +kernel⟩
abbrev Ml:Stmt:=Sl 38
theorem R7:FnScope ["_law_rows","_law_n","_law_steps"] N35_ (Z8 Ml):=⟨rfl,rfl,rfl,by decide +kernel,rfl,by decide +kernel,by decide +kernel⟩
abbrev Mh:Stmt:=Sl 39
theorem V4:FnScope N8_ N21_ (Z8 Mh):=⟨rfl,rfl,rfl,by decide +kernel,rfl,by decide +kernel,by decide +kernel⟩
abbrev Qv:Stmt:=Sl 40
theorem Wq:FnScope N9_ N21_ (Z8 Qv):=⟨rfl,rfl,rfl,by decide +kernel,rfl,by decide +kernel,by decide +kernel⟩
abbrev Ge:Stmt:=Sl 41
theorem R6:FnScope N10_ N39_ (Z8 Ge):=⟨rfl,rfl,rfl,by decide +kernel,rfl,by decide +kernel,by decide +kernel⟩
structure Txt (K:PySem.W.Frag) (mg:Str->Option Value):Prop where
 b_ValueError:mg "ValueError" = none
 b_all:mg "all" = none
 b_any:mg "any" = none
 b_enumerate:mg "enumerate" = none
 b_isinstance:mg "isinstance" = none
 b_len:mg "len" = none
 b_list:mg "list" = none
 b_max:mg "max" = none
 b_min:mg "min" = none
 b_range:mg "range" = none
 b_reversed:mg "reversed" = none
 b_sorted:mg "sorted" = none
 b_str:mg "str" = none
 b_tuple:mg "tuple" = none
 i_0:IsC K mg "Broken" (Ts N22_ "Broken")
 i_3:IsC K mg "CalledOff" (Ts N22_ "CalledOff")
 i_4:IsC K mg "Clash" (Ts N22_ "Clash")
 i_1:IsC K mg "Crowded" (Ts N22_ "Crowded")
 i_5:IsC K mg "NoMove" (Ts N22_ "NoMove")
 i_6:IsC K mg "NoPlace" (Ts N22_ "NoPlace")
 i_7:IsC K mg "NoText" (Ts N22_ "NoText")
 i_2:IsC K mg "TooMany" (Ts N22_ "TooMany")
 j_ValueError:IsT K mg "ValueError" "ValueError" (Po N22_)
 k_8:Z9n K mg "CalmError" (Uh N22_)
 q_0:Z3r K mg "Broken" N22_
 q_1:Z3r K mg "Crowded" N22_
 f_way:Z3b K (Uh N22_) "way"
section
variable {P:Program} {w:World} {K:PySem.W.Frag} {mg:Str->Option Value} {base:Heap}
end
abbrev i_0:Stmt:=Ot (Sl 3) 0
theorem Zev:FnScope N40_ N40_ (Z8 i_0):=⟨rfl,rfl,rfl,by decide +kernel,rfl,by decide +kernel,by decide +kernel⟩
abbrev i_1:Stmt:=Ot (Sl 4) 0
theorem Zeq:FnScope N40_ N40_ (Z8 i_1):=⟨rfl,rfl,rfl,by decide +kernel,rfl,by decide +kernel,by decide +kernel⟩
abbrev i_2:Stmt:=Ot (Sl 5) 0
theorem Zdv:FnScope ["self"] ["self"] (Z8 i_2):=⟨rfl,rfl,rfl,by decide +kernel,rfl,by decide +kernel,by decide +kernel⟩
section
variable {P:Program} {w:World} {K:PySem.W.Frag} {mg:Str->Option Value} {base:Heap}
theorem m_0 {C fI D:Addr} {fd:FuncData} (B:BaseC K mg D) (F:Fun K "__init__" "Broken.__init__" i_0 fI fd) (hc:W5 K "Broken" C) (hm:mg "Broken" = some (.ref C)) (hk:PySem.W.keepIn K (.ref C)=true) (hx:Jp K C fI D=true) (xc:XCls K C) (hf0:PySem.W.findIn K (.ref C) "way" = some none) (isf:PySem.W.isFn K (.ref fI)=true) (bl:mg "list" = none):XMakeN P w K mg base 1 "Broken" 1 (gW "way") where
 ex:=⟨C,fI,D,fd,N40_,hc,hm,hk,hx,xc,isf,B7 (k:=0) F Zev hx xc hf0 (fun cdv A outer s H E hr=>(Kh (S9 (P6 B (Wr (pv 0) (Wr (N5 (Z1z (B5 hr (pv 1) Z2q))) Q2)))) (Ho (C9 (pv 0) (S7 (Hz K) rfl bl (by decide +kernel) (Wr (pv 1) Q2)))))) (fun H e a0 n0 l0 m0=>(Bk (Cf Bp (by decide +kernel) rfl (.inr ⟨a0,n0,rfl,l0,m0⟩)) (by decide +kernel))),
  F.binds fun _ _ _ _ _ _ us hl=>ar2 us hl fun _ _=>rfl⟩
 len:=Z29
 few:=by lia
theorem m_1 {C fI D:Addr} {fd:FuncData} (B:BaseC K mg D) (F:Fun K "__init__" "Crowded.__init__" i_1 fI fd) (hc:W5 K "Crowded" C) (hm:mg "Crowded" = some (.ref C)) (hk:PySem.W.keepIn K (.ref C)=true) (hx:Jp K C fI D=true) (xc:XCls K C) (hf0:PySem.W.findIn K (.ref C) "way" = some none) (isf:PySem.W.isFn K (.ref fI)=true) (bl:mg "list" = none):XMakeN P w K mg base 1 "Crowded" 1 (gW "way") where
 ex:=⟨C,fI,D,fd,N40_,hc,hm,hk,hx,xc,isf,B7 (k:=0) F Zeq hx xc hf0 (fun cdv A outer s H E hr=>(Kh (S9 (P6 B (Wr (pv 0) (Wr (N5 (Z1z (B5 hr (pv 1) Z2q))) Q2)))) (Ho (C9 (pv 0) (S7 (Hz K) rfl bl (by decide +kernel) (Wr (pv 1) Q2)))))) (fun H e a0 n0 l0 m0=>(Bk (Cf Bp (by decide +kernel) rfl (.inr ⟨a0,n0,rfl,l0,m0⟩)) (by decide +kernel))),
  F.binds fun _ _ _ _ _ _ us hl=>ar2 us hl fun _ _=>rfl⟩
 len:=Z29
 few:=by lia
theorem m_2 {C fI D:Addr} {fd:FuncData} (B:BaseC K mg D) (F:Fun K "__init__" "TooMany.__init__" i_2 fI fd) (hc:W5 K "TooMany" C) (hm:mg "TooMany" = some (.ref C)) (hk:PySem.W.keepIn K (.ref C)=true) (hx:Jp K C fI D=true) (xc:XCls K C)  (isf:PySem.W.isFn K (.ref fI)=true) (bl:mg "list" = none):XMake P w K mg base 1 "TooMany" 0 gZ where
 ex:=⟨C,fI,D,fd,["self"],hc,hm,hk,hx,xc,isf,Z9m (k:=0) F Zdv hx (fun cdv A outer s H E hr=>(Ho (S9 (P6 B (Wr (pv 0) (Wr Z49 Q2)))))),
  F.binds fun _ _ _ _ _ _ us hl=>ar1 us hl fun _=>rfl⟩
 len:=Z32
 few:=by lia
theorem Ch (Df:Def K mg "wire_of" S8) (T:Txt K mg)   : CalD P w K mg base 1 "wire_of" N38_ false Rt :=
 Vk (N:=N38_) (ps:=N38_) (st:=S8) (k:=0) (g:=Qj) Df Fv (fun _ _ _ _ _ _ us hl=>ar2 us hl fun _ _=>rfl) (fun f cdv A outer s H E hr=>(by
  unfold Qj;exact (Zk (Wk (Y5 Yk (Y0 Yk (Y0 Yk (Z4 0) (Z3) (fun _ _=>rfl)) (Z4 1) (fun _ _=>rfl)) (Z3) (fun _ _=>rfl))))))
theorem Z1e (Df:Def K mg "is_rise" Se) (T:Txt K mg)   : CalD P w K mg base 1 "is_rise" N38_ false S5 :=
 Vk (N:=N38_) (ps:=N38_) (st:=Se) (k:=0) (g:=Qg) Df Ae (fun _ _ _ _ _ _ us hl=>ar2 us hl fun _ _=>rfl) (fun f cdv A outer s H E hr=>(by
  unfold Qg;exact (Zk (Wk (Y5 Yk (Y0 Yk (Y0 Yk (Z4 0) (Z3) (fun _ _=>rfl)) (Z4 1) (fun _ _=>rfl)) (Z3) (fun _ _=>rfl))))))
theorem Fi (Df:Def K mg "takes_of" Mo) (T:Txt K mg)   : CalD P w K mg base 1 "takes_of" N38_ false Ta :=
 Vk (N:=N38_) (ps:=N38_) (st:=Mo) (k:=0) (g:=Uz) Df X3 (fun _ _ _ _ _ _ us hl=>ar2 us hl fun _ _=>rfl) (fun f cdv A outer s H E hr=>(by
  unfold Uz;exact (Zk (Wk (Y5 Yk (Y0 Yk (Y0 Yk (Z4 0) (Z3) (fun _ _=>rfl)) (Z4 1) (fun _ _=>rfl)) (Z3) (fun _ _=>rfl))))))
theorem Fs (Df:Def K mg "fills_of" Mj) (T:Txt K mg)   : CalD P w K mg base 1 "fills_of" N38_ false Mm :=
 Vk (N:=N38_) (ps:=N38_) (st:=Mj) (k:=0) (g:=Uw) Df Xw (fun _ _ _ _ _ _ us hl=>ar2 us hl fun _ _=>rfl) (fun f cdv A outer s H E hr=>(by
  unfold Uw;exact (Zk (Wk (Y5 Yk (Y0 Yk (Y0 Yk (Z4 0) (Z3) (fun _ _=>rfl)) (Z4 1) (fun _ _=>rfl)) (Z3) (fun _ _=>rfl))))))
theorem Za7 (Df:Def K mg "bits" O8) (T:Txt K mg)   : CalD P w K mg base 1 "bits" ["some"] false D4 :=
 Vk (N:=["some","number","place"]) (ps:=["some"]) (st:=O8) (k:=0) (g:=Ew) Df Hi (fun _ _ _ _ _ _ us hl=>ar1 us hl fun _=>rfl) (fun f cdv A outer s H E hr=>(by
  unfold Ew;exact (Za (Zj 1 Hi.nd rfl (Or.inl rfl) (Wc))
  (Za (Tr PassesOwn.never rfl (Ih (Zb 0)) (Zt 2 Hi.nd rfl (Or.inl rfl)) (Zk (Zj 1 Hi.nd rfl (Or.inl rfl) (Zg Z1y (Z4 1) (Z7 Qo (Z3) (Z4 2))))))
  (Zk (Wk (Zb 1)))))))
theorem Z1g (Df:Def K mg "has_one" S0) (T:Txt K mg)   : CalD P w K mg base 1 "has_one" N36_ false Sc :=
 Vk (N:=N36_) (ps:=N36_) (st:=S0) (k:=0) (g:=Qh) Df Fx (fun _ _ _ _ _ _ us hl=>ar2 us hl fun _ _=>rfl) (fun f cdv A outer s H E hr=>(by
  unfold Qh;exact (Zk (Wk (Vx (Up hr.units) (Z7 Jh (Z7 Dz (Z4 0) (Z4 1)) (Z3)) (Z3) (Y6 _))))))
theorem Zcw (Df:Def K mg "can" B2) (T:Txt K mg)  (C_bits:CalD P w K mg base 1 "bits" ["some"] false D4) (C_takes_of:CalD P w K mg base 1 "takes_of" N38_ false Ta):CalD P w K mg base 2 "can" N29_ false Xl :=
 Vk (N:=["graph","stand","step","takes"]) (ps:=N29_) (st:=B2) (k:=1) (g:=N0) Df Z20 (fun _ _ _ _ _ _ us hl=>ar3 us hl fun _ _ _=>rfl) (fun f cdv A outer s H E hr=>(by
  unfold N0;exact (Za (Zj 3 Z20.nd rfl (Or.inl rfl) (Zv C_bits (hr.mono (by lia)) (Z0 (Zv C_takes_of (hr.mono (by lia)) (Z0 (Zb 0) (Z0 (Zb 2) Z9))) Z9)))
  (Zk (Wk (Vx (Up hr.units) (Z7 Jh (Y0 Yk (Z4 1) (Z3) (fun _ _=>rfl)) (Z4 3)) (Z4 3) (Y6 _)))))))
theorem Z48 (Df:Def K mg "behind" Dr) (T:Txt K mg) (M_0:XMake P w K mg base 1 "Broken" 1 (gW "way")) (M_1:XMake P w K mg base 1 "Crowded" 1 (gW "way")) (C_wire_of:CalD P w K mg base 1 "wire_of" N38_ false Rt) (C_bits:CalD P w K mg base 1 "bits" ["some"] false D4) (C_has_one:CalD P w K mg base 1 "has_one" N36_ false Sc) (C_is_rise:CalD P w K mg base 1 "is_rise" N38_ false S5) (C_fills_of:CalD P w K mg base 1 "fills_of" N38_ false Mm) (C_takes_of:CalD P w K mg base 1 "takes_of" N38_ false Ta):CalX P w K mg base 3 "behind" N29_ false R8 true :=
 Z4x (N:=N17_) (ps:=N29_) (st:=Dr) (k:=2) (g:=Um) Df S6 (fun _ _ _ _ _ _ us hl=>ar3 us hl fun _ _ _=>rfl) (fun f cdv A outer s H E hr=>(by
  unfold Um;exact (Za (Zj 3 S6.nd rfl (Or.inl rfl) (Zv C_wire_of (hr.mono (by lia)) (Z0 (Zb 0) (Z0 (Zb 2) Z9))))
  (Za (U3 (Vn (Up hr.units) (Vz C_has_one (hr.mono (by lia)) (Z0 (Y5 Yk (Z4 1) (Z3) (fun _ _=>rfl)) (Z0 (Zb 3) Z9))) (Vz C_is_rise (hr.mono (by lia)) (Z0 (Zb 0) (Z0 (Zb 2) Z9))) (Y6 _)) (Zk (Bv M_0 (hr.mono (by lia)) rfl (Z0 (Tq (Uj (Z0 (Zb 2) Z9))) Z9))) Vm)
  (Za (Zj 4 S6.nd rfl (Or.inl rfl) (Zg Jh (Y0 Yk (Z4 1) (Z3) (fun _ _=>rfl)) (xun (m:=true) Zbz (Vz C_bits (hr.mono (by lia)) (Z0 (Zv C_takes_of (hr.mono (by lia)) (Z0 (Zb 0) (Z0 (Zb 2) Z9))) Z9)))))
  (Za (Zj 5 S6.nd rfl (Or.inl rfl) (Zv C_bits (hr.mono (by lia)) (Z0 (Zv C_fills_of (hr.mono (by lia)) (Z0 (Zb 0) (Z0 (Zb 2) Z9))) Z9)))
  (Za (U3 (Vn (Z6u hr.units) (Z7 Jh (Z4 4) (Z4 5)) (Z3) (Y6 _)) (Zk (Bv M_1 (hr.mono (by lia)) rfl (Z0 (Tq (Uj (Z0 (Zb 2) Z9))) Z9))) Vm)
  (Zk (Wk (Zl (Z0 (Zg Z1y (Z4 4) (Z4 5)) (Z0 (Zg Z7n (Y0 Yk (Z4 1) (Z3) (fun _ _=>rfl)) (Z7 Qo (Z3) (Z4 3))) Z9))))))))))))
theorem Fh (Df:Def K mg "steps_at" Td) (T:Txt K mg)  (C_can:CalD P w K mg base 2 "can" N29_ false Xl):CalD P w K mg base 3 "steps_at" N37_ true M6 :=
 Vk (N:=N37_) (ps:=N37_) (st:=Td) (k:=2) (g:=T9) Df X8 (fun _ _ _ _ _ _ us hl=>ar2 us hl fun _ _=>rfl) (fun f cdv A outer s H E hr=>(by
  unfold T9;refine (Zk (Z1s ?c0))
  case c0=>exact D5 (Z8 Td) [none,some 0,some 1] N31_ rfl (show CompOk (Z8 Td) _ N37_ N31_ [none,some 0,some 1] from CompOk.of (by decide +kernel)) rfl (Vb (by rfl) T.b_range (Z0 (Ym Jj (by rfl) T.b_len (by decide +kernel) (Z0 (Y0 Yk (Z4 0) (Z3) (fun _ _=>rfl)) Z9)) Z9)) (fun _ _ _ _=>⟨(Zt 0 (show (N31_:List Str).Nodup from by decide +kernel) rfl (Or.inl rfl)),(Bi (Ft (Vz C_can (hr.mono (by lia)) (Z0 (Zb 1) (Z0 (Zb 2) (Z0 (Zb 0) Z9)))))),(Zb 0)⟩) (by decide)))
theorem Zcd (Df:Def K mg "way" Bl) (T:Txt K mg)   : CalN P w K mg base 1 "way" ["found","n"] true Kk :=
 Zaf (N:=["found","n","steps","at"]) (ps:=["found","n"]) (st:=Bl) (k:=0) (g:=N3) Df Oj (fun _ _ _ _ _ _ us hl=>ar2 us hl fun _ _=>rfl) (fun f cdv A outer s H E hr hd=>(by
  unfold N3;exact (Za (Mq 2 Oj.nd rfl (Or.inl rfl) (Uj Z9))
  (Za (Zj 3 Oj.nd rfl (Or.inl rfl) (Zb 1))
  (Za (Hm PassesOwn.never (Vn Zb9 (Y0 Yk (Y0 Yk (Z4 0) (Z4 3) (fun _ _=>rfl)) (Z3) (fun _ _=>rfl)) (Za6 (m:=true)) (Y6 _)) (Za (Tw 2 PySem.F.slot_list_append PySem.F.type_list_append Uo (Z0 (Y5 Yk (Y0 Yk (Z4 0) (Z4 3) (fun _ _=>rfl)) (Z3) (fun _ _=>rfl)) Z9))
  (Zk (Zj 3 Oj.nd rfl (Or.inl rfl) (Y5 Yk (Y0 Yk (Z4 0) (Z4 3) (fun _ _=>rfl)) (Z3) (fun _ _=>rfl))))))
  (Zk (Z1s (Z0u (by rfl) T.b_list (by rfl) T.b_reversed (Z0 (xo 2) Z9)))))))))
theorem Z0r (Df:Def K mg "come_to" Sa) (T:Txt K mg) (M_0:XMakeN P w K mg base 1 "Broken" 1 (gW "way")) (M_1:XMakeN P w K mg base 1 "Crowded" 1 (gW "way")) (C_behind:CalX P w K mg base 3 "behind" N29_ false R8 true) (C_way:CalN P w K mg base 1 "way" ["found","n"] true Kk):CalX P w K mg base 4 "come_to" N23_ false Jt :=
 Z4b (N:=N23_) (ps:=N23_) (st:=Sa) (k:=3) (g:=T3) Df A8 (fun _ _ _ _ _ _ us hl=>ar4 us hl fun _ _ _ _=>rfl) (fun f cdv A outer s H E hr=>(by
  unfold T3;exact (Zk (Z5g (known:=N22_) Z5n (fun _ _=>(Zk (Z9k (Z7p C_behind (hr.mono (by lia)) (Z0 (Zb 0) (Z0 (Ik (m:=false) M1 (Y0 Yk (Z4 1) (Z4 2) (fun _ _=>rfl)) Tb (Ux (Z3))) (Z0 (Zb 3) Z9))))))) (fun _ _ hd=>(Zk (Xi M_0 (hr.n.mono (by lia)).mark hd (Z0 (Tq (nop C3 (Z73 (m:=true) C_way (hr.n.mono (by lia)).mark hd (Z0 (Zb 1) (Z0 (Zb 2) Z9))) (Y2 (Uj (Z0 (Zb 3) Z9))))) Z9) (by intro z;cases z)))) (fun _ _ hd=>(Zk (Xi M_1 (hr.n.mono (by lia)).mark hd (Z0 (Tq (nop C3 (Z73 (m:=true) C_way (hr.n.mono (by lia)).mark hd (Z0 (Zb 1) (Z0 (Zb 2) Z9))) (Y2 (Uj (Z0 (Zb 3) Z9))))) Z9) (by intro z;cases z)))) T.q_0 T.q_1))))
theorem Z3o (Df:Def K mg "stands" Dg) (T:Txt K mg) (M_2:XMake P w K mg base 1 "TooMany" 0 gZ) (C_steps_at:CalD P w K mg base 3 "steps_at" N37_ true M6) (C_come_to:CalX P w K mg base 4 "come_to" N23_ false Jt):CalX P w K mg base 5 "stands" ["graph","most"] true Tv :=
 Z4b (N:=N12_) (ps:=["graph","most"]) (st:=Dg) (k:=4) (g:=Jv) Df Ud (fun _ _ _ _ _ _ us hl=>ar2 us hl fun _ _=>rfl) (fun f cdv A outer s H E hr=>(by
  unfold Jv;exact (Za (Mq 2 Ud.nd rfl (Or.inl rfl) (Uj (Z0 (Zl (Z0 (Y5 Yk (Z4 0) (Z3) (fun _ _=>rfl)) (Z0 (Y5 Yk (Z4 0) (Z3) (fun _ _=>rfl)) (Z0 (Tu) (Z0 (Tu) Z9))))) Z9)))
  (Za (Z2o 3 Ud.nd rfl (Or.inl rfl) (Nq hr) (Vd (Z0 (Y5 Yk (Z4 0) (Z3) (fun _ _=>rfl)) (Z0 (Y5 Yk (Z4 0) (Z3) (fun _ _=>rfl)) Z9))) (xbl (m:=false)))
  (Za (Zj 4 Ud.nd rfl (Or.inl rfl) (Wc))
  (Za (Hm Z33 (Vn Z8v (Z4 4) (Ym Jj (by rfl) T.b_len (by decide +kernel) (Z0 (xo 2) Z9)) (Y6 _)) (Za (Zj 5 Ud.nd rfl (Or.inl rfl) (Zv C_steps_at (hr.mono (by lia)) (Z0 (Zb 0) (Z0 (Ik (m:=false) M1 (Y0 Yk (xo 2) (Z4 4) (fun _ _=>rfl)) Tb (Ux (Z3))) Z9))))
  (Za (Tr Z33 rfl (Ih (Zb 5)) (Zt 6 Ud.nd rfl (Or.inl rfl)) (Za (Z2s 7 Ud.nd rfl (Or.inl rfl) (Z9o C_come_to (hr.mono (by lia)) (Z0 (Z4 0) (Z0 (xo 2) (Z0 (Z4 4) (Z0 (Z4 6) Z9))))))
  (Za (U3 (Zep 3 (Nq hr) (Z4 7)) (Zk Z9x) Vm)
  (Za (U3 (Vn Zdi (Ym Jj (by rfl) T.b_len (by decide +kernel) (Z0 (xo 2) Z9)) (Z4 1) (Y6 _)) (Zk (Z2e M_2 (hr.mono (by lia)) rfl)) Vm)
  (Za (Z36 3 (Nq hr) (Z4 7) (xbl (m:=false)))
  (Zk (Tw 2 PySem.F.slot_list_append PySem.F.type_list_append Uo (Z0 (Zl (Z0 (Y5 Yk (Z4 7) (Z3) (fun _ _=>rfl)) (Z0 (Y5 Yk (Z4 7) (Z3) (fun _ _=>rfl)) (Z0 (Zb 4) (Z0 (Zb 6) Z9))))) Z9))))))))
  (Zk (Zd0 4 Ud.nd rfl (Or.inl rfl) (Wc))))))
  (Zk (O2 2))))))))
theorem An (Df:Def K mg "_law_mix" Mi) (T:Txt K mg)   : CalD P w K mg base 1 "_law_mix" N30_ false Y7 :=
 Vk (N:=["_law_script","_law_k","_law_number"]) (ps:=N30_) (st:=Mi) (k:=0) (g:=Uy) Df Rh (fun _ _ _ _ _ _ us hl=>ar2 us hl fun _ _=>rfl) (fun f cdv A outer s H E hr=>(by
  unfold Uy;exact (Za (Zj 2 Rh.nd rfl (Or.inl rfl) (Zg Zx (Z7 T5 (Z3) (Z4 1)) (Z3)))
  (Za (U3 (Vn Z8v (Z4 1) (Ym Jj (by rfl) T.b_len (by decide +kernel) (Z0 (Z4 0) Z9)) (Y6 _)) (Zk (Zj 2 Rh.nd rfl (Or.inl rfl) (Zg Zx (Z4 2) (Z7 T5 (Y0 Yk (Z4 0) (Z4 1) (fun _ _=>rfl)) (Z3))))) Vm)
  (Zk (Wk (Zg Yh (Z7 T5 (Z4 2) (Z3)) (Z3))))))))
theorem Xn (Df:Def K mg "_law_word" Ja) (T:Txt K mg)   : CalD P w K mg base 1 "_law_word" N34_ false W8 :=
 Vk (N:=N6_) (ps:=N34_) (st:=Ja) (k:=0) (g:=Ue) Df W6 (fun _ _ _ _ _ _ us hl=>ar2 us hl fun _ _=>rfl) (fun f cdv A outer s H E hr=>(by
  unfold Ue;exact (Za (Zj 2 W6.nd rfl (Or.inl rfl) (Zu))
  (Za (Zj 3 W6.nd rfl (Or.inl rfl) (Zg Zx (Z3) (Z7 Yh (Z4 0) (Z3))))
  (Za (Zj 4 W6.nd rfl (Or.inl rfl) (Zg Yh (Z7 Y1 (Z4 0) (Z3)) (Z4 3)))
  (Za (Zj 5 W6.nd rfl (Or.inl rfl) (Zu))
  (Za (Tr PassesOwn.never rfl (Vb (by rfl) T.b_range (Z0 (Z4 3) Z9)) (Zt 6 W6.nd rfl (Or.inl rfl)) (Za (Zj 7 W6.nd rfl (Or.inl rfl) (Wc))
  (Za (U3 (Vn (Up hr.units) (Z4 6) (Z4 4) (Y6 _)) (Zk (Zj 7 W6.nd rfl (Or.inl rfl) (Zb 1))) Vm)
  (Zk (Zj 5 W6.nd rfl (Or.inl rfl) (Zg Zx (Z4 5) (Y0 Yk (Z4 2) (Z7 Yh (Z7 Zx (Z7 Zx (Z7 Y1 (Z4 0) (Z3)) (Z7 T5 (Z3) (Z4 6))) (Z7 T5 (Z3) (Z4 7))) (Z3)) (fun _ _=>rfl))))))))
  (Za (U3 (Vn (Zbm hr.units) (Z4 5) (Y2 (Uj (Z0 (Zu) (Z0 (Zu) (Z0 (Zu) (Z0 (Zu) (Z0 (Zu) Z9))))))) (by rfl)) (Zk (Zj 5 W6.nd rfl (Or.inl rfl) (Zg Zx (V8 M1 (Z4 5) (Ux (Z3)) Tb) (Zba (m:=true))))) Vm)
  (Zk (Wk (Zb 5)))))))))))
theorem O9 (Df:Def K mg "_law_order" Qb) (T:Txt K mg)  (C__law_mix:CalD P w K mg base 1 "_law_mix" N30_ false Y7):CalD P w K mg base 2 "_law_order" N18_ true Q9 :=
 Vk (N:=N7_) (ps:=N18_) (st:=Qb) (k:=1) (g:=Vs) Df Vf (fun _ _ _ _ _ _ us hl=>ar3 us hl fun _ _ _=>rfl) (fun f cdv A outer s H E hr=>(by
  unfold Vs;exact (Za (Mq 3 Vf.nd rfl (Or.inl rfl) (Uj Z9))
  (Za (Tr PassesOwn.never rfl (Vb (by rfl) T.b_range (Z0 (Z4 2) Z9)) (Zt 4 Vf.nd rfl (Or.inl rfl)) (Za (Zj 5 Vf.nd rfl (Or.inl rfl) (Zv C__law_mix (hr.mono (by lia)) (Z0 (Zb 0) (Z0 (Zg Zx (Z4 1) (Z4 4)) Z9))))
  (Za (Zj 6 Vf.nd rfl (Or.inl rfl) (Zg Yh (Z4 5) (Z7 Zx (Ym Jj (by rfl) T.b_len (by decide +kernel) (Z0 (xo 3) Z9)) (Z3))))
  (Za (Tw 3 PySem.F.slot_list_insert PySem.F.type_list_insert Im (Z0 (Zb 6) (Z0 (Zb 4) Z9)))
  (Za (Zj 7 Vf.nd rfl (Or.inl rfl) (Zg Yh (Z7 Y1 (Z4 5) (Z3)) (Z7 Bd (Ym Jj (by rfl) T.b_len (by decide +kernel) (Z0 (xo 3) Z9)) (Z4 6))))
  (Zk (Tw 3 PySem.F.slot_list_insert PySem.F.type_list_insert Im (Z0 (Zg Zx (Z7 Zx (Z4 6) (Z3)) (Z4 7)) (Z0 (Zb 4) Z9)))))))))
  (Zk (O2 3))))))
theorem Le (Df:Def K mg "_law_arrows" Tk) (T:Txt K mg)  (C__law_mix:CalD P w K mg base 1 "_law_mix" N30_ false Y7):CalD P w K mg base 2 "_law_arrows" N15_ true Tj :=
 Vk (N:=N5_) (ps:=N15_) (st:=Tk) (k:=1) (g:=Vh) Df Wy (fun _ _ _ _ _ _ us hl=>ar4 us hl fun _ _ _ _=>rfl) (fun f cdv A outer s H E hr=>(by
  unfold Vh;exact (Za (Mq 4 Wy.nd rfl (Or.inl rfl) (Uj Z9))
  (Za (Tr PassesOwn.never rfl (Vb (by rfl) T.b_range (Z0 (Z4 2) Z9)) (Zt 5 Wy.nd rfl (Or.inl rfl)) (Za (Zj 6 Wy.nd rfl (Or.inl rfl) (Zv C__law_mix (hr.mono (by lia)) (Z0 (Zb 0) (Z0 (Zg Zx (Z4 1) (Z4 5)) Z9))))
  (Za (Zj 7 Wy.nd rfl (Or.inl rfl) (Zg Yh (Z4 6) (Z4 3)))
  (Za (Zj 8 Wy.nd rfl (Or.inl rfl) (Zg Yh (Z7 Y1 (Z4 6) (Z3)) (Z4 3)))
  (Zk (U3 (PWd.pt (C2 (Vn (Z6u hr.units) (Z4 7) (Z4 8) (Y6 _)) (O1 (Vn (Xp hr.units) (Vd (Z0 (Qq (Z7i rfl) (by rfl) T.b_min (by decide +kernel) (Z0 (Z4 7) (Z0 (Z4 8) Z9))) (Z0 (Qq (Z78 rfl) (by rfl) T.b_max (by decide +kernel) (Z0 (Z4 7) (Z0 (Z4 8) Z9))) Z9))) (xo 4) (by rfl))))) (Zk (Tw 4 PySem.F.slot_list_append PySem.F.type_list_append Uo (Z0 (Zl (Z0 (Qq (Z7i rfl) (by rfl) T.b_min (by decide +kernel) (Z0 (Z4 7) (Z0 (Z4 8) Z9))) (Z0 (Qq (Z78 rfl) (by rfl) T.b_max (by decide +kernel) (Z0 (Z4 7) (Z0 (Z4 8) Z9))) Z9))) Z9))) Vm))))))
  (Zk (O2 4))))))
theorem O4 (Df:Def K mg "_law_graph" Y9) (T:Txt K mg)  (C__law_order:CalD P w K mg base 2 "_law_order" N18_ true Q9) (C__law_mix:CalD P w K mg base 1 "_law_mix" N30_ false Y7) (C__law_arrows:CalD P w K mg base 2 "_law_arrows" N15_ true Tj) (C__law_word:CalD P w K mg base 1 "_law_word" N34_ false W8):CalD P w K mg base 3 "_law_graph" N16_ false Qf :=
 Vk (N:=N0_) (ps:=N16_) (st:=Y9) (k:=2) (g:=Vt) Df Zi (fun _ _ _ _ _ _ us hl=>ar4 us hl fun _ _ _ _=>rfl) (fun f cdv A outer s H E hr=>(by
  unfold Vt;refine (Za (Zj 4 Zi.nd rfl (Or.inl rfl) (Zv C__law_order (hr.mono (by lia)) (Z0 (Zb 0) (Z0 (Zb 1) (Z0 (Zb 2) Z9)))))
  (Za (Zj 5 Zi.nd rfl (Or.inl rfl) (Zg T5 (Z3) (Z4 2)))
  (Za (Zj 6 Zi.nd rfl (Or.inl rfl) (Zv C__law_mix (hr.mono (by lia)) (Z0 (Zb 0) (Z0 (Zg Zx (Z4 1) (Z4 2)) Z9))))
  (Za (Zj 7 Zi.nd rfl (Or.inr rfl) (Zv C__law_arrows (hr.mono (by lia)) (Z0 (Zb 0) (Z0 (Zg Zx (Z7 Zx (Z4 1) (Z4 2)) (Z3)) (Z0 (Zb 3) (Z0 (Zb 5) Z9))))))
  (Za (U3 (Vn (Up hr.units) (Z7 Yh (Z4 6) (Z3)) (Z3) (Y6 _)) (Zk (Zj 7 Zi.nd rfl (Or.inr rfl) (Zg Zx (Z4 7) (Y2 ?c0)))) Vm)
  (Za (Tr PassesOwn.never rfl (Vb (by rfl) T.b_range (Z0 (Z4 2) Z9)) (Zt 8 Zi.nd rfl (Or.inl rfl)) (Za (Zj 9 Zi.nd rfl (Or.inr rfl) (xbm (m:=false) PySem.F.plainAttrs_list PySem.F.slot_list_index PySem.F.type_list_index Pl (Z4 4) (Z0 (Z4 8) Z9)))
  (Za (Zj 10 Zi.nd rfl (Or.inr rfl) (Zg Zx (Z7 Zx (Z4 9) (Z3)) (xbm (m:=true) PySem.F.plainAttrs_list PySem.F.slot_list_index PySem.F.type_list_index Pl (V8 M1 (Z4 4) (Ux (Z7 Zx (Z4 9) (Z3))) Tb) (Z0 (Z4 8) Z9))))
  (Zk (Zj 7 Zi.nd rfl (Or.inr rfl) (Zg Zx (Y2 ?c1) (Y2 (Uj (Z0 (Zl (Z0 (Zb 9) (Z0 (Zb 10) Z9))) Z9)))))))))
  (Za (Z3l 11 Zi.nd rfl (Or.inl rfl) (Z8 Y9) [none] ["_law_d"] rfl (show CompOk (Z8 Y9) _ N0_ ["_law_d"] [none] from CompOk.of (by decide +kernel)) rfl (El (Z4 4)) (fun _ _ _ _=>⟨(Zt 0 (show (["_law_d"]:List Str).Nodup from by decide +kernel) rfl (Or.inl rfl)),La⟩) (by decide))
  (Za (Z3l 12 Zi.nd rfl (Or.inl rfl) (Z8 Y9) [none] ["_law_d"] rfl (show CompOk (Z8 Y9) _ N0_ ["_law_d"] [none] from CompOk.of (by decide +kernel)) rfl (El (Z4 4)) (fun _ _ _ _=>⟨(Zt 0 (show (["_law_d"]:List Str).Nodup from by decide +kernel) rfl (Or.inl rfl)),La⟩) (by decide))
  (Za (Zj 13 Zi.nd rfl (Or.inl rfl) (Wc))
  (Za (Zj 14 Zi.nd rfl (Or.inl rfl) (Zg Yh (Z7 Y1 (Z4 6) (Z3)) (Z3)))
  (Za (Tr PassesOwn.never rfl (Ih (Zb 7)) (E3 (n:=2) rfl (Yj (Zt 15 Zi.nd rfl (Or.inl rfl)) (Yj (Zt 16 Zi.nd rfl (Or.inl rfl)) Mc))) (Za (Oz 12 (Z4 15) (fun _ _=>rfl) (Z0 (Zb 14) Z9))
  (Za (Oz 11 (Z4 16) (fun _ _=>rfl) (Z0 (Zb 14) Z9))
  (Za (Oz 12 (Z4 16) (fun _ _=>rfl) (Z0 (Zg Zx (Z4 14) (Z3)) Z9))
  (Za (Oz 11 (Z4 15) (fun _ _=>rfl) (Z0 (Zg Zx (Z4 14) (Z3)) Z9))
  (Za (Zj 13 Zi.nd rfl (Or.inl rfl) (Zg Z1y (Z4 13) (Z7 Qo (Z3) (Z7 Zx (Z4 14) (Z3)))))
  (Zk (Zj 14 Zi.nd rfl (Or.inl rfl) (Zg Zx (Z4 14) (Z3))))))))))
  (Za (Zj 17 Zi.nd rfl (Or.inl rfl) (Zg Yh (Z7 Y1 (Z4 6) (Z3)) (Z7 Qo (Z3) (Z4 2))))
  (Za (Zj 18 Zi.nd rfl (Or.inl rfl) (Zb 17))
  (Za (Mq 19 Zi.nd rfl (Or.inl rfl) (Uj Z9))
  (Za (Tr PassesOwn.never rfl (A7 (by rfl) T.b_enumerate (Zb 4)) (E3 (n:=2) rfl (Yj (Zt 20 Zi.nd rfl (Or.inl rfl)) (Yj (Zt 8 Zi.nd rfl (Or.inl rfl)) Mc))) (Za (Tw 19 PySem.F.slot_list_append PySem.F.type_list_append Uo (Z0 (Zl (Z0 (Zb 8) (Z0 (Vx (Up hr.units) (Z7 Jh (Z7 Dz (Z4 18) (Z4 8)) (Z3)) (Z3) (Y6 _)) (Z0 (Uq (m:=false) Vj (by rfl) T.b_tuple (by decide +kernel) (Z0 (Y2 (Rg Uc (by rfl) T.b_sorted (by decide +kernel) (Z0 (Zci 11 (Z4 20) (fun _ _=>rfl)) Z9))) Z9)) (Z0 (Uq (m:=false) Vj (by rfl) T.b_tuple (by decide +kernel) (Z0 (Y2 (Rg Uc (by rfl) T.b_sorted (by decide +kernel) (Z0 (Zci 12 (Z4 20) (fun _ _=>rfl)) Z9))) Z9)) Z9))))) Z9))
  (Zk (Zj 18 Zi.nd rfl (Or.inl rfl) (Zg Z7n (Z4 18) (Z7 Qo (Z3) (Z4 8)))))))
  (Za (Zj 21 Zi.nd rfl (Or.inl rfl) (Zg Yh (Z7 Y1 (Z4 6) (Z3)) (Z4 5)))
  (Za (Mq 19 Zi.nd rfl (Or.inl rfl) (nop C3 (V8 M1 (xo 19) (Ux (Z4 21)) Tb) (V8 M1 (xo 19) Tb (Ux (Z4 21)))))
  (Za (Zj 22 Zi.nd rfl (Or.inr rfl) (Zg Y1 (Z4 6) (Z3)))
  (Za (Z3j 23 Zi.nd rfl (Or.inl rfl) (Z8 Y9) [none,some 22,some 0,some 1] N14_ rfl (show CompOk (Z8 Y9) _ N0_ N14_ [none,some 22,some 0,some 1] from CompOk.of (by decide +kernel)) rfl (Vb (by rfl) T.b_range (Z0 (Z4 2) Z9)) (fun _ _ _ _=>⟨(Zt 0 (show (N14_:List Str).Nodup from by decide +kernel) rfl (Or.inl rfl)),La,(Zl (Z0 (Zv C__law_word (hr.mono (by lia)) (Z0 (Zb 1) (Z0 (Zb 0) Z9))) (Z0 (Y5 Yk (Y2 (Uj (Z0 (Zu) (Z0 (Zu) Z9)))) (Z7 Yh (Z7 Y1 (Vz C__law_mix (hr.mono (by lia)) (Z0 (Zb 2) (Z0 (Zg Zx (Z4 3) (Z4 0)) Z9))) (Z3)) (Z3)) (fun _ _=>rfl)) Z9)))⟩) (by decide))
  (Zk (Wk (Zl (Z0 (Uq (m:=false) Vj (by rfl) T.b_tuple (by decide +kernel) (Z0 (Z4 23) Z9)) (Z0 (Uq (m:=false) Vj (by rfl) T.b_tuple (by decide +kernel) (Z0 (xo 19) Z9)) (Z0 (Zb 13) (Z0 (Zb 17) Z9))))))))))))))))))))))))))
  case c0=>exact D5 (Z8 Y9) [none,some 7] N32_ rfl (show CompOk (Z8 Y9) _ N0_ N32_ [none,some 7] from CompOk.of (by decide +kernel)) rfl (Vb (by rfl) T.b_range (Z0 (Z7 Bd (Z4 5) (Z3)) Z9)) (fun _ _ _ _=>⟨(Zt 0 (show (N32_:List Str).Nodup from by decide +kernel) rfl (Or.inl rfl)),(Bi (Vn (Xp hr.units) (Vd (Z0 (Zb 0) (Z0 (Zg Zx (Z4 0) (Z3)) Z9))) (Z4 1) (by rfl))),(Zl (Z0 (Zb 0) (Z0 (Zg Zx (Z4 0) (Z3)) Z9)))⟩) (by decide)
  case c1=>exact D5 (Z8 Y9) [none,some 9,some 10] N19_ rfl (show CompOk (Z8 Y9) _ N0_ N19_ [none,some 9,some 10] from CompOk.of (by decide +kernel)) rfl (El (Z4 7)) (fun _ _ _ _=>⟨(Zt 0 (show (N19_:List Str).Nodup from by decide +kernel) rfl (Or.inl rfl)),(Bi (Vn (Z6u hr.units) (Z4 0) (Vd (Z0 (Zb 1) (Z0 (Zb 2) Z9))) (Y6 _))),(Zb 0)⟩) (by decide)))
theorem Lh (Df:Def K mg "_law_choice" Ti) (T:Txt K mg)  (C__law_mix:CalD P w K mg base 1 "_law_mix" N30_ false Y7) (C__law_word:CalD P w K mg base 1 "_law_word" N34_ false W8):CalD P w K mg base 2 "_law_choice" N24_ false Tl :=
 Vk (N:=N3_) (ps:=N24_) (st:=Ti) (k:=1) (g:=Vg) Df Zw (fun _ _ _ _ _ _ us hl=>ar2 us hl fun _ _=>rfl) (fun f cdv A outer s H E hr=>(by
  unfold Vg;exact (Za (Zj 2 Zw.nd rfl (Or.inl rfl) (Zv C__law_mix (hr.mono (by lia)) (Z0 (Zb 0) (Z0 (Zb 1) Z9))))
  (Za (Zj 3 Zw.nd rfl (Or.inl rfl) (Zg Yh (Z7 Y1 (Z4 2) (Z3)) (Z3)))
  (Za (Zj 4 Zw.nd rfl (Or.inl rfl) (Zg Yh (Z7 Y1 (Z4 2) (Z3)) (Z3)))
  (Za (Zj 5 Zw.nd rfl (Or.inl rfl) (Tq (Uj Z9)))
  (Za (Mq 6 Zw.nd rfl (Or.inl rfl) (Uj (Z0 (Zl (Z0 (Zv C__law_word (hr.mono (by lia)) (Z0 (Zg Y1 (Z4 2) (Z3)) (Z0 (Wc) Z9))) (Z0 (Zu) Z9))) Z9)))
  (Za (Tr PassesOwn.never rfl (Vb (by rfl) T.b_range (Z0 (Z7 Zx (Z3) (Z7 Yh (Z4 2) (Z3))) Z9)) (Zt 7 Zw.nd rfl (Or.inl rfl)) (Za (Zj 8 Zw.nd rfl (Or.inl rfl) (Zv C__law_mix (hr.mono (by lia)) (Z0 (Zb 0) (Z0 (Zg Zx (Z7 Zx (Z4 1) (Z3)) (Z4 7)) Z9))))
  (Za (Zj 9 Zw.nd rfl (Or.inl rfl) (Zg Zx (Z3) (Z7 T5 (Z4 7) (Z7 Yh (Z7 Y1 (Z4 2) (Z3)) (Z3)))))
  (Za (Zj 10 Zw.nd rfl (Or.inl rfl) (Vx (Up hr.units) (Z7 Jh (Z7 Dz (Z4 4) (Z4 9)) (Z3)) (Z3) (Y6 _)))
  (Za (Zj 11 Zw.nd rfl (Or.inl rfl) (Zg Zx (Z7 Zx (Z4 3) (Z3)) (Z7 T5 (Z3) (Z4 7))))
  (Za (Tw 6 PySem.F.slot_list_append PySem.F.type_list_append Uo (Z0 (Zl (Z0 (Zv C__law_word (hr.mono (by lia)) (Z0 (Zg Y1 (Z4 2) (Z3)) (Z0 (Zg Zx (Z4 7) (Z3)) Z9))) (Z0 (Y5 Yk (Y2 (Uj (Z0 (Zu) (Z0 (Zu) (Z0 (Zu) Z9))))) (Z7 T5 (Z7 Yh (Z4 8) (Z3)) (Z7 Yh (Z7 Y1 (Z4 2) (Z3)) (Z3))) (fun _ _=>rfl)) Z9))) Z9))
  (Zk (U3 (Vn (Up hr.units) (Z7 Yh (Z7 Y1 (Z4 8) (Z3)) (Z3)) (Z3) (Y6 _)) (Zk (Zj 5 Zw.nd rfl (Or.inl rfl) (Zg Zx (Z4 5) (Y2 (Uj (Z0 (Zl (Z0 (Zb 9) (Z0 (Zb 10) (Z0 (Zl (Z0 (Zb 3) Z9)) (Z0 (Zl (Z0 (Zb 11) Z9)) Z9))))) (Z0 (Zl (Z0 (Zb 9) (Z0 (Z8g (m:=false) (Z4 10)) (Z0 (Zl (Z0 (Zb 11) Z9)) (Z0 (Zl (Z0 (Zb 3) Z9)) Z9))))) Z9))))))) (Za (Zj 5 Zw.nd rfl (Or.inl rfl) (Zg Zx (Z4 5) (Y2 (Uj (Z0 (Zl (Z0 (Zb 9) (Z0 (Zb 10) (Z0 (Zl (Z0 (Zb 3) Z9)) (Z0 (Zl (Z0 (Zb 11) Z9)) Z9))))) (Z0 (Zl (Z0 (Wc) (Z0 (Vx (Up hr.units) (Z7 Jh (Z4 4) (Z3)) (Z3) (Y6 _)) (Z0 (Zl (Z0 (Zb 11) Z9)) (Z0 (Zl (Z0 (Zg Zx (Z4 11) (Z3)) Z9)) Z9))))) Z9))))))
  (Zk (Zj 5 Zw.nd rfl (Or.inl rfl) (Zg Zx (Z4 5) (Y2 (Uj (Z0 (Zl (Z0 (Zb 9) (Z0 (Z8g (m:=false) (Z4 10)) (Z0 (Zl (Z0 (Zg Zx (Z4 11) (Z3)) Z9)) (Z0 (Zl (Z0 (Zg Zx (Z4 11) (Z3)) Z9)) Z9))))) (Z0 (Zl (Z0 (Wc) (Z0 (Vx (Up hr.units) (Z7 Jh (Z4 4) (Z3)) (Z3) (Y6 _)) (Z0 (Zl (Z0 (Zg Zx (Z4 11) (Z3)) Z9)) (Z0 (Zl (Z0 (Zb 3) Z9)) Z9))))) Z9))))))))))))))))
  (Za (Zj 12 Zw.nd rfl (Or.inl rfl) (Zg Yh (Z7 Y1 (Z4 2) (Z3)) (Ym Jj (by rfl) T.b_len (by decide +kernel) (Z0 (Z4 5) Z9))))
  (Zk (Wk (Zl (Z0 (Uq (m:=false) Vj (by rfl) T.b_tuple (by decide +kernel) (Z0 (xo 6) Z9)) (Z0 (Uq (m:=false) Vj (by rfl) T.b_tuple (by decide +kernel) (Z0 (Z7 Zx (V8 M1 (Z4 5) (Ux (Z4 12)) Tb) (V8 M1 (Z4 5) Tb (Ux (Z4 12)))) Z9)) (Z0 (Zg Qo (Z3) (Z4 3)) (Z0 (Zg Yh (Z4 4) (Z7 Qo (Z3) (Ym Jj (by rfl) T.b_len (by decide +kernel) (Z0 (xo 6) Z9)))) Z9))))))))))))))))
theorem L7 (Df:Def K mg "_law_lookers" Wx) (T:Txt K mg)   : CalD P w K mg base 1 "_law_lookers" N20_ false Uu :=
 Vk (N:=N1_) (ps:=N20_) (st:=Wx) (k:=0) (g:=Ww) Df Zn (fun _ _ _ _ _ _ us hl=>ar2 us hl fun _ _=>rfl) (fun f cdv A outer s H E hr=>(by
  unfold Ww;refine (Za (B3 (Zb 0) (E3 (n:=4) rfl (Yj (Zt 2 Zn.nd rfl (Or.inl rfl)) (Yj (Zt 3 Zn.nd rfl (Or.inl rfl)) (Yj (Zt 4 Zn.nd rfl (Or.inl rfl)) (Yj (Zt 5 Zn.nd rfl (Or.inl rfl)) Mc))))))
  (Za (Zj 6 Zn.nd rfl (Or.inr rfl) (Zb 4))
  (Za (Tr PassesOwn.never rfl (Ih (Zb 3)) (Zt 7 Zn.nd rfl (Or.inl rfl)) (Zk (Tr PassesOwn.never rfl (Ih (Zg Mz (Y0 Yk (Z4 7) (Z3) (fun _ _=>rfl)) (Y0 Yk (Z4 7) (Z3) (fun _ _=>rfl)))) (Zt 8 Zn.nd rfl (Or.inl rfl)) (Zk (Zj 6 Zn.nd rfl (Or.inr rfl) (Zg Z1y (Z4 6) (Z7 Qo (Z3) (Z4 8))))))))
  (Za (Zj 8 Zn.nd rfl (Or.inl rfl) (Y5 Yk (Y2 ?c0) (Z7 Yh (Z4 1) (Z3)) (fun _ _=>rfl)))
  (Za (Mq 9 Zn.nd rfl (Or.inl rfl) (Uj Z9))
  (Za (Tr PassesOwn.never rfl (A7 (by rfl) T.b_enumerate (Zb 3)) (E3 (n:=2) rfl (Yj (Zt 10 Zn.nd rfl (Or.inl rfl)) (Yj (E3 (n:=4) rfl (Yj (Zt 11 Zn.nd rfl (Or.inl rfl)) (Yj (Zt 12 Zn.nd rfl (Or.inl rfl)) (Yj (Zt 13 Zn.nd rfl (Or.inl rfl)) (Yj (Zt 14 Zn.nd rfl (Or.inl rfl)) Mc))))) Mc))) (Za (U3 (Vn (Up hr.units) (Z7 Jh (Z7 Dz (Z7 Y1 (Z4 1) (Z3)) (Z4 10)) (Z3)) (Z3) (Y6 _)) (Za (Zj 13 Zn.nd rfl (Or.inl rfl) (Uq (m:=false) Vj (by rfl) T.b_tuple (by decide +kernel) (Z0 (Y2 (Rg Uc (by rfl) T.b_sorted (by decide +kernel) (Z0 (Z7 Mz (Z4 13) (Vd (Z0 (Zb 8) Z9))) Z9))) Z9)))
  (Zk (Zj 14 Zn.nd rfl (Or.inl rfl) (Uq (m:=false) Vj (by rfl) T.b_tuple (by decide +kernel) (Z0 (Y2 (Rg Uc (by rfl) T.b_sorted (by decide +kernel) (Z0 (Z7 Mz (Z4 14) (Vd (Z0 (Zb 8) Z9))) Z9))) Z9))))) Vm)
  (Zk (Tw 9 PySem.F.slot_list_append PySem.F.type_list_append Uo (Z0 (Zl (Z0 (Zb 11) (Z0 (Zb 12) (Z0 (Zb 13) (Z0 (Zb 14) Z9))))) Z9)))))
  (Zk (Wk (Zl (Z0 (Zb 2) (Z0 (Uq (m:=false) Vj (by rfl) T.b_tuple (by decide +kernel) (Z0 (xo 9) Z9)) (Z0 (Zg Z1y (Z4 4) (Z7 Qo (Z3) (Z4 8))) (Z0 (Zb 5) Z9)))))))))))))
  case c0=>exact D5 (Z8 Wx) [none,some 6] N33_ rfl (show CompOk (Z8 Wx) _ N1_ N33_ [none,some 6] from CompOk.of (by decide +kernel)) rfl (Vb (by rfl) T.b_range (Z0 (Z3) Z9)) (fun _ _ _ _=>⟨(Zt 0 (show (N33_:List Str).Nodup from by decide +kernel) rfl (Or.inl rfl)),(Bi (Vn (Up hr.units) (Z7 Jh (Z7 Dz (Z4 1) (Z4 0)) (Z3)) (Z3) (Y6 _))),(Zb 0)⟩) (by decide)))
theorem Og (Df:Def K mg "_law_spots" Qe) (T:Txt K mg)   : CalD P w K mg base 1 "_law_spots" N28_ false Ul :=
 Vk (N:=N13_) (ps:=N28_) (st:=Qe) (k:=0) (g:=Vr) Df Tn (fun _ _ _ _ _ _ us hl=>ar2 us hl fun _ _=>rfl) (fun f cdv A outer s H E hr=>(by
  unfold Vr;exact (Za (Mq 2 Tn.nd rfl (Or.inl rfl) (Uj Z9))
  (Za (Tr PassesOwn.never rfl (Vb (by rfl) T.b_range (Z0 (Z7 Zx (Z3) (Z7 Yh (Z4 0) (Z3))) Z9)) (Zt 3 Tn.nd rfl (Or.inl rfl)) (Za (Zj 4 Tn.nd rfl (Or.inl rfl) (Zg Yh (Z7 Y1 (Z4 0) (Z7 Zx (Z3) (Z7 T5 (Z3) (Z4 3)))) (Z4 1)))
  (Zk (U3 (Vn (Xp hr.units) (Z4 4) (xo 2) (by rfl)) (Zk (Tw 2 PySem.F.slot_list_append PySem.F.type_list_append Uo (Z0 (Zb 4) Z9))) Vm))))
  (Zk (Wk (Uq (m:=false) Vj (by rfl) T.b_tuple (by decide +kernel) (Z0 (Y2 (Rg Uc (by rfl) T.b_sorted (by decide +kernel) (Z0 (xo 2) Z9))) Z9))))))))
theorem Pw (Df:Def K mg "_law_free" U6) (T:Txt K mg)  (C__law_mix:CalD P w K mg base 1 "_law_mix" N30_ false Y7) (C__law_spots:CalD P w K mg base 1 "_law_spots" N28_ false Ul) (C__law_word:CalD P w K mg base 1 "_law_word" N34_ false W8):CalD P w K mg base 2 "_law_free" N24_ false Jb :=
 Vk (N:=N4_) (ps:=N24_) (st:=U6) (k:=1) (g:=U8) Df Yr (fun _ _ _ _ _ _ us hl=>ar2 us hl fun _ _=>rfl) (fun f cdv A outer s H E hr=>(by
  unfold U8;exact (Za (Zj 2 Yr.nd rfl (Or.inr rfl) (Zv C__law_mix (hr.mono (by lia)) (Z0 (Zb 0) (Z0 (Zb 1) Z9))))
  (Za (Zj 3 Yr.nd rfl (Or.inl rfl) (Zg Zx (Z3) (Z7 Yh (Z4 2) (Z3))))
  (Za (Zj 4 Yr.nd rfl (Or.inl rfl) (Zg Zx (Z3) (Z7 Yh (Z7 Y1 (Z4 2) (Z3)) (Z3))))
  (Za (Z3j 5 Yr.nd rfl (Or.inl rfl) (Z8 U6) [none,some 2] ["_law_w","_law_cell"] rfl (show CompOk (Z8 U6) _ N4_ ["_law_w","_law_cell"] [none,some 2] from CompOk.of (by decide +kernel)) rfl (Vb (by rfl) T.b_range (Z0 (Z4 3) Z9)) (fun _ _ _ _=>⟨(Zt 0 (show (["_law_w","_law_cell"]:List Str).Nodup from by decide +kernel) rfl (Or.inl rfl)),La,(Zl (Z0 (Zv C__law_word (hr.mono (by lia)) (Z0 (Zg Y1 (Z4 1) (Z3)) (Z0 (Zb 0) Z9))) (Z0 (Y5 Yk (Y2 (Uj (Z0 (Zu) (Z0 (Zu) Z9)))) (Z7 Jh (Z7 Dz (Z4 1) (Z7 Zx (Z3) (Z4 0))) (Z3)) (fun _ _=>rfl)) Z9)))⟩) (by decide))
  (Za (Mq 6 Yr.nd rfl (Or.inl rfl) (Uj Z9))
  (Za (Tr PassesOwn.never rfl (Vb (by rfl) T.b_range (Z0 (Z7 Zx (Z3) (Z7 Yh (Z7 Y1 (Z4 2) (Z3)) (Z3))) Z9)) (Zt 7 Yr.nd rfl (Or.inl rfl)) (Za (Zj 8 Yr.nd rfl (Or.inl rfl) (Zv C__law_mix (hr.mono (by lia)) (Z0 (Zb 0) (Z0 (Zg Zx (Z7 Zx (Z4 1) (Z3)) (Z4 7)) Z9))))
  (Za (Zj 9 Yr.nd rfl (Or.inl rfl) (Zv C__law_spots (hr.mono (by lia)) (Z0 (Zg Zx (Z7 T5 (Z7 Y1 (Z4 8) (Z3)) (Z3)) (Z7 Yh (Z7 Y1 (Z4 8) (Z3)) (Z3))) (Z0 (Zb 4) Z9))))
  (Za (Zj 10 Yr.nd rfl (Or.inl rfl) (Zv C__law_spots (hr.mono (by lia)) (Z0 (Zg Zx (Z7 T5 (Z7 Y1 (Z7 Yh (Z7 T5 (Z4 8) (Z3)) (Z3)) (Z3)) (Z3)) (Z7 Yh (Z7 Y1 (Z4 8) (Z3)) (Z3))) (Z0 (Zb 4) Z9))))
  (Zk (Tw 6 PySem.F.slot_list_append PySem.F.type_list_append Uo (Z0 (Zl (Z0 (Zg Yh (Z7 Y1 (Z4 8) (Z3)) (Z4 3)) (Z0 (Vx (Up hr.units) (Z7 Yh (Z7 Y1 (Z4 8) (Z3)) (Z3)) (Z3) (Y6 _)) (Z0 (Zb 9) (Z0 (Zb 10) Z9))))) Z9)))))))
  (Za (Zj 11 Yr.nd rfl (Or.inl rfl) (Zg Yh (Vz C__law_mix (hr.mono (by lia)) (Z0 (Zb 0) (Z0 (Zg Zx (Z4 1) (Z3)) Z9))) (Z7 Qo (Z3) (Z4 4))))
  (Zk (Wk (Zl (Z0 (Uq (m:=false) Vj (by rfl) T.b_tuple (by decide +kernel) (Z0 (Z4 5) Z9)) (Z0 (Uq (m:=false) Vj (by rfl) T.b_tuple (by decide +kernel) (Z0 (xo 6) Z9)) (Z0 (Zb 11) (Z0 (Zg Yh (Z7 Y1 (Z4 2) (Z3)) (Z7 Qo (Z3) (Z4 3))) Z9))))))))))))))))
theorem K4 (Df:Def K mg "_law_spoiled" V3) (T:Txt K mg)   : CalD P w K mg base 1 "_law_spoiled" N20_ false Vp :=
 Vk (N:=N2_) (ps:=N20_) (st:=V3) (k:=0) (g:=V2) Df Zm (fun _ _ _ _ _ _ us hl=>ar2 us hl fun _ _=>rfl) (fun f cdv A outer s H E hr=>(by
  unfold V2;refine (Za (B3 (Zb 0) (E3 (n:=4) rfl (Yj (Zt 2 Zm.nd rfl (Or.inl rfl)) (Yj (Zt 3 Zm.nd rfl (Or.inl rfl)) (Yj (Zt 4 Zm.nd rfl (Or.inl rfl)) (Yj (Zt 5 Zm.nd rfl (Or.inl rfl)) Mc))))))
  (Za (Zj 6 Zm.nd rfl (Or.inl rfl) (Zg Yh (Z7 Y1 (Z4 1) (Z3)) (Ym Jj (by rfl) T.b_len (by decide +kernel) (Z0 (Z4 3) Z9))))
  (Za (B3 (Y5 Yk (Z4 3) (Z4 6) (fun _ _=>rfl)) (E3 (n:=4) rfl (Yj (Zt 7 Zm.nd rfl (Or.inl rfl)) (Yj (Zt 8 Zm.nd rfl (Or.inl rfl)) (Yj (Zt 9 Zm.nd rfl (Or.inl rfl)) (Yj (Zt 10 Zm.nd rfl (Or.inl rfl)) Mc))))))
  (Za (Zj 11 Zm.nd rfl (Or.inl rfl) (Tq (Rg Uc (by rfl) T.b_sorted (by decide +kernel) (Z0 (Y2 ?c0) Z9))))
  (Za (Zj 12 Zm.nd rfl (Or.inl rfl) (Y5 Yk (Z4 11) (Z7 Yh (Z7 Y1 (Z4 1) (Z3)) (Ym Jj (by rfl) T.b_len (by decide +kernel) (Z0 (Z4 11) Z9))) (fun _ _=>rfl)))
  (Za (Zj 13 Zm.nd rfl (Or.inl rfl) (Zg Yh (Z4 1) (Z3)))
  (Za (U3 (Vn (Up hr.units) (Z4 13) (Z3) (Y6 _)) (Zk (Zj 8 Zm.nd rfl (Or.inl rfl) (Z8g (m:=false) (Z4 8)))) (Zk (U3 (PWd.pt (C2 (Vn (Up hr.units) (Z4 13) (Z3) (Y6 _)) (O1 (Vn (Xp hr.units) (Z4 12) (Z4 10) (by rfl))))) (Zk (Zj 10 Zm.nd rfl (Or.inl rfl) (Uq (m:=false) Vj (by rfl) T.b_tuple (by decide +kernel) (Z0 (Y2 (Rg Uc (by rfl) T.b_sorted (by decide +kernel) (Z0 (Z7 Mz (Z4 10) (Vd (Z0 (Zb 12) Z9))) Z9))) Z9)))) (Zk (U3 (Vn (Up hr.units) (Z4 13) (Z3) (Y6 _)) (Zk (Zj 9 Zm.nd rfl (Or.inl rfl) (Ik (m:=false) M1 (V8 M1 (Z4 9) (Ux (Z7 Yh (Z7 Y1 (Z4 1) (Z3)) (Ym Jj (by rfl) T.b_len (by decide +kernel) (Z0 (Z4 9) Z9)))) Tb) Tb (Ux (Z3))))) (Zk (U3 (Vn (Up hr.units) (Z4 13) (Z3) (Y6 _)) (Zk (Zj 7 Zm.nd rfl (Or.inl rfl) (Zg Yh (Z7 Y1 (Z4 1) (Z3)) (Ym Jj (by rfl) T.b_len (by decide +kernel) (Z0 (Z4 2) Z9))))) (Zk (U3 (PWd.pt (C2 (Vn (Up hr.units) (Z4 13) (Z3) (Y6 _)) (O1 (Vn (Xp hr.units) (Z4 12) (Z4 9) (by rfl))))) (Zk (Zj 9 Zm.nd rfl (Or.inl rfl) (Uq (m:=false) Vj (by rfl) T.b_tuple (by decide +kernel) (Z0 (Y2 (Rg Uc (by rfl) T.b_sorted (by decide +kernel) (Z0 (Z7 Mz (Z4 9) (Vd (Z0 (Zb 12) Z9))) Z9))) Z9)))) (Zk (U3 (Vn (Up hr.units) (Z4 13) (Z3) (Y6 _)) (Zk (Zj 10 Zm.nd rfl (Or.inl rfl) (Zb 9))) Vm)))))))))))
  (Zk (Wk (Zl (Z0 (Zb 2) (Z0 (Zg Mz (Z7 Mz (V8 M1 (Z4 3) Tb (Ux (Z4 6))) (Vd (Z0 (Zl (Z0 (Zb 7) (Z0 (Zb 8) (Z0 (Zb 9) (Z0 (Zb 10) Z9))))) Z9))) (V8 M1 (Z4 3) (Ux (Z7 Zx (Z4 6) (Z3))) Tb)) (Z0 (Zb 4) (Z0 (Zb 5) Z9))))))))))))))
  case c0=>exact D5 (Z8 V3) [none] ["_law_step"] rfl (show CompOk (Z8 V3) _ N2_ ["_law_step"] [none] from CompOk.of (by decide +kernel)) rfl (El (Z4 3)) (fun _ _ _ _=>⟨(Zt 0 (show (["_law_step"]:List Str).Nodup from by decide +kernel) rfl (Or.inl rfl)),La,(Y5 Yk (Y0 Yk (Z4 0) (Z3) (fun _ _=>rfl)) (Z3) (fun _ _=>rfl))⟩) (by decide)))
theorem Pi (Df:Def K mg "_law_sort" Qw) (T:Txt K mg)   : CalD P w K mg base 1 "_law_sort" ["_law_e"] false Vl :=
 Vk (N:=["_law_e","_law_sorts"]) (ps:=["_law_e"]) (st:=Qw) (k:=0) (g:=Yu) Df Ma (fun _ _ _ _ _ _ us hl=>ar1 us hl fun _=>rfl) (fun f cdv A outer s H E hr=>(by
  unfold Yu;exact (Za (Zj 1 Ma.nd rfl (Or.inl rfl) (Tq (Uj (Z0 (Xc (m:=false) (tx:="Broken") (sb:=Ts N22_ "Broken") (Z4 0) T.i_0 T.b_isinstance) (Z0 (Xc (m:=false) (tx:="Crowded") (sb:=Ts N22_ "Crowded") (Z4 0) T.i_1 T.b_isinstance) (Z0 (Xc (m:=false) (tx:="TooMany") (sb:=Ts N22_ "TooMany") (Z4 0) T.i_2 T.b_isinstance) (Z0 (Xc (m:=false) (tx:="CalledOff") (sb:=Ts N22_ "CalledOff") (Z4 0) T.i_3 T.b_isinstance) Z9)))))))
  (Za (Zj 1 Ma.nd rfl (Or.inl rfl) (Zg Zx (Z4 1) (Y2 (Uj (Z0 (Xc (m:=false) (tx:="Clash") (sb:=Ts N22_ "Clash") (Z4 0) T.i_4 T.b_isinstance) (Z0 (Xc (m:=false) (tx:="NoMove") (sb:=Ts N22_ "NoMove") (Z4 0) T.i_5 T.b_isinstance) (Z0 (Xc (m:=false) (tx:="NoPlace") (sb:=Ts N22_ "NoPlace") (Z4 0) T.i_6 T.b_isinstance) (Z0 (Xc (m:=false) (tx:="NoText") (sb:=Ts N22_ "NoText") (Z4 0) T.i_7 T.b_isinstance) Z9))))))))
  (Za (U3 (PWd.pt (Zed (Vn (Z6u hr.units) (xbm (m:=true) PySem.F.plainAttrs_list PySem.F.slot_list_count PySem.F.type_list_count (Z52 hr.units) (Z4 1) (Z0 (xbl (m:=true)) Z9)) (Z3) (Y6 _)) (Zbu (Ze6 (Ft (Zdz (m:=true) (sb:=Po N22_) (Z4 0) T.b_ValueError (by decide +kernel) (by decide +kernel) T.j_ValueError T.b_isinstance)))))) (Zk (Wk (Zu))) Vm)
  (Zk (Wk (Y5 Yk (Y2 (Uj (Z0 (Zu) (Z0 (Zu) (Z0 (Zu) (Z0 (Zu) (Z0 (Zu) (Z0 (Zu) (Z0 (Zu) (Z0 (Zu) Z9)))))))))) (xbm (m:=true) PySem.F.plainAttrs_list PySem.F.slot_list_index PySem.F.type_list_index (Z5y hr.units) (Z4 1) (Z0 (xbl (m:=true)) Z9)) (fun _ _=>rfl)))))))))
theorem Fd (Df:Def K mg "_law_can" T4) (T:Txt K mg)   : CalD P w K mg base 1 "_law_can" N25_ false Mk :=
 Vk (N:=N25_) (ps:=N25_) (st:=T4) (k:=0) (g:=T7) Df Pr (fun _ _ _ _ _ _ us hl=>ar2 us hl fun _ _=>rfl) (fun f cdv A outer s H E hr=>(by
  unfold T7;refine (Zk (Wk (Qq (Zb7 rfl) (by rfl) T.b_all (by decide +kernel) (Z0 (Y2 ?c0) Z9))))
  case c0=>exact D5 (Z8 T4) [none,some 1] N27_ rfl (show CompOk (Z8 T4) _ N25_ N27_ [none,some 1] from CompOk.of (by decide +kernel)) rfl (El (Y0 Yk (Z4 0) (Z3) (fun _ _=>rfl))) (fun _ _ _ _=>⟨(Zt 0 (show (N27_:List Str).Nodup from by decide +kernel) rfl (Or.inl rfl)),La,(Vx (Up hr.units) (Z7 Jh (Z7 Dz (Z4 1) (Z4 0)) (Z3)) (Z3) (Y6 _))⟩) (by decide)))
theorem X2 (Df:Def K mg "_law_done" Ua) (T:Txt K mg)   : CalD P w K mg base 1 "_law_done" N26_ false Tp :=
 Vk (N:=N11_) (ps:=N26_) (st:=Ua) (k:=0) (g:=Uf) Df V7 (fun _ _ _ _ _ _ us hl=>ar2 us hl fun _ _=>rfl) (fun f cdv A outer s H E hr=>(by
  unfold Uf;refine (Za (B3 (Zb 1) (E3 (n:=2) rfl (Yj (Zt 2 V7.nd rfl (Or.inr rfl)) (Yj (Zt 3 V7.nd rfl (Or.inl rfl)) Mc))))
  (Za (U3 (Vn (Up hr.units) (Z9c (m:=true) (Up hr.units) (Z7 Jh (Z7 Dz (Z4 3) (Y0 Yk (Z4 0) (Z3) (fun _ _=>rfl))) (Z3)) (Z3) (Y6 _)) (Y0 Yk (Z4 0) (Z3) (fun _ _=>rfl)) (Y6 _)) (Zk (Wk (Zu))) Vm)
  (Za (Tr PassesOwn.never rfl (Ih (Y5 Yk (Z4 0) (Z3) (fun _ _=>rfl))) (Zt 4 V7.nd rfl (Or.inl rfl)) (Zk (Zj 2 V7.nd rfl (Or.inr rfl) (Zg Bd (Z4 2) (Z7 Qo (Z3) (Z4 4))))))
  (Za (U3 (Ft (Ym (Zch rfl) (by rfl) T.b_any (by decide +kernel) (Z0 (Y2 ?c0) Z9))) (Zk (Wk (Zu))) Vm)
  (Za (Tr PassesOwn.never rfl (Ih (Y5 Yk (Z4 0) (Z3) (fun _ _=>rfl))) (Zt 4 V7.nd rfl (Or.inl rfl)) (Zk (Zj 2 V7.nd rfl (Or.inr rfl) (Zg Zx (Z4 2) (Z7 Qo (Z3) (Z4 4))))))
  (Za (U3 (Ft (Y0 Yk (Z4 0) (Z3) (fun _ _=>rfl))) (Zk (Wk (Zl (Z0 (Zb 2) (Z0 (Zg Zx (Z4 3) (Z7 Qo (Z3) (Y0 Yk (Z4 0) (Z3) (fun _ _=>rfl)))) Z9))))) Vm)
  (Zk (Wk (Zl (Z0 (Zb 2) (Z0 (Zg Bd (Z4 3) (Z7 Qo (Z3) (Y0 Yk (Z4 0) (Z3) (fun _ _=>rfl)))) Z9)))))))))))
  case c0=>exact D5 (Z8 Ua) [none,some 2] N27_ rfl (show CompOk (Z8 Ua) _ N11_ N27_ [none,some 2] from CompOk.of (by decide +kernel)) rfl (El (Y0 Yk (Z4 0) (Z3) (fun _ _=>rfl))) (fun _ _ _ _=>⟨(Zt 0 (show (N27_:List Str).Nodup from by decide +kernel) rfl (Or.inl rfl)),La,(Vx (Up hr.units) (Z7 Jh (Z7 Dz (Z4 1) (Z4 0)) (Z3)) (Z3) (Y6 _))⟩) (by decide)))
theorem F3 (Df:Def K mg "_law_way" Ml) (T:Txt K mg)   : CalD P w K mg base 1 "_law_way" N35_ true Mn :=
 Vk (N:=["_law_rows","_law_n","_law_steps"]) (ps:=N35_) (st:=Ml) (k:=0) (g:=T6) Df R7 (fun _ _ _ _ _ _ us hl=>ar2 us hl fun _ _=>rfl) (fun f cdv A outer s H E hr=>(by
  unfold T6;exact (Za (Mq 2 R7.nd rfl (Or.inl rfl) (Uj Z9))
  (Za (Hm PassesOwn.never (Vn Zej (Z4 1) (Z3) (Y6 _)) (Za (Tw 2 PySem.F.slot_list_insert PySem.F.type_list_insert Im (Z0 (Wc) (Z0 (Y5 Yk (Y0 Yk (Z4 0) (Z4 1) (fun _ _=>rfl)) (Z3) (fun _ _=>rfl)) Z9)))
  (Zk (Zj 1 R7.nd rfl (Or.inl rfl) (Y5 Yk (Y0 Yk (Z4 0) (Z4 1) (fun _ _=>rfl)) (Z3) (fun _ _=>rfl))))))
  (Zk (O2 2))))))
theorem Ad (Df:Def K mg "_law_due" Mh) (T:Txt K mg)  (C__law_can:CalD P w K mg base 1 "_law_can" N25_ false Mk) (C__law_done:CalD P w K mg base 1 "_law_done" N26_ false Tp) (C__law_way:CalD P w K mg base 1 "_law_way" N35_ true Mn):CalD P w K mg base 2 "_law_due" N21_ false Mf :=
 Vk (N:=N8_) (ps:=N21_) (st:=Mh) (k:=1) (g:=Tf) Df V4 (fun _ _ _ _ _ _ us hl=>ar2 us hl fun _ _=>rfl) (fun f cdv A outer s H E hr=>(by
  unfold Tf;exact (Za (Mq 2 V4.nd rfl (Or.inl rfl) (Uj (Z0 (Zl (Z0 (Y5 Yk (Z4 0) (Z3) (fun _ _=>rfl)) (Z0 (Y5 Yk (Z4 0) (Z3) (fun _ _=>rfl)) (Z0 (Tu) (Z0 (Tu) Z9))))) Z9)))
  (Za (Z2o 3 V4.nd rfl (Or.inl rfl) (Nq hr) (Vd (Z0 (Y5 Yk (Z4 0) (Z3) (fun _ _=>rfl)) (Z0 (Y5 Yk (Z4 0) (Z3) (fun _ _=>rfl)) Z9))) (xbl (m:=false)))
  (Za (Zj 4 V4.nd rfl (Or.inl rfl) (Wc))
  (Za (Hm PassesOwn.never (Vn Z8v (Z4 4) (Ym Jj (by rfl) T.b_len (by decide +kernel) (Z0 (xo 2) Z9)) (Y6 _)) (Za (Tr PassesOwn.never rfl (A7 (by rfl) T.b_enumerate (Y5 Yk (Z4 0) (Z3) (fun _ _=>rfl))) (E3 (n:=2) rfl (Yj (Zt 5 V4.nd rfl (Or.inl rfl)) (Yj (Zt 6 V4.nd rfl (Or.inl rfl)) Mc))) (Zk (U3 (Ft (Vz C__law_can (hr.mono (by lia)) (Z0 (Zb 6) (Z0 (Y5 Yk (Y0 Yk (xo 2) (Z4 4) (fun _ _=>rfl)) (Z3) (fun _ _=>rfl)) Z9)))) (Za (Zj 7 V4.nd rfl (Or.inl rfl) (Zv C__law_done (hr.mono (by lia)) (Z0 (Zb 6) (Z0 (Ik (m:=false) M1 (Y0 Yk (xo 2) (Z4 4) (fun _ _=>rfl)) Tb (Ux (Z3))) Z9))))
  (Za (U3 (Ft (Zcb (m:=true) (T:="str") (Z4 7) (by rfl) T.b_isinstance (by decide +kernel) (by rfl) T.b_str (by decide +kernel))) (Zk (Z7o 2 (Wk (Zl (Z0 (Zb 7) (Z0 (Zg Zx (Vz C__law_way (hr.mono (by lia)) (Z0 (Zb 2) (Z0 (Zb 4) Z9))) (Y2 (Uj (Z0 (Zb 5) Z9)))) Z9)))))) Vm)
  (Zk (U3 (Zct 3 (Nq hr) (Z4 7)) (Za (U3 (Vn (Up hr.units) (Ym Jj (by rfl) T.b_len (by decide +kernel) (Z0 (xo 2) Z9)) (Z4 1) (Y6 _)) (Zk (Wk (Zl (Z0 (Zu) (Z0 (Tu) Z9))))) Vm)
  (Za (Z36 3 (Nq hr) (Z4 7) (xbl (m:=false)))
  (Zk (Tw 2 PySem.F.slot_list_append PySem.F.type_list_append Uo (Z0 (Zg Mz (Z4 7) (Vd (Z0 (Zb 4) (Z0 (Zb 5) Z9)))) Z9))))) Vm)))) Vm)))
  (Zk (Zj 4 V4.nd rfl (Or.inl rfl) (Zg Zx (Z4 4) (Z3))))))
  (Zk (Z7o 2 (Wk (Zl (Z0 (Zu) (Z0 (Zb 2) Z9))))))))))))
theorem X6 (Df:Def K mg "_law_told" Qv) (T:Txt K mg)  (C__law_sort:CalD P w K mg base 1 "_law_sort" ["_law_e"] false Vl) (C_stands:CalX P w K mg base 5 "stands" ["graph","most"] true Tv):CalD P w K mg base 6 "_law_told" N21_ false Wo :=
 Vk (N:=N9_) (ps:=N21_) (st:=Qv) (k:=5) (g:=Ys) Df Wq (fun _ _ _ _ _ _ us hl=>ar2 us hl fun _ _=>rfl) (fun f cdv A outer s H E hr=>(by
  unfold Ys;exact (Za (Zj 2 Wq.nd rfl (Or.inl rfl) (Tu))
  (Za (Zj 3 Wq.nd rfl (Or.inl rfl) (Tu))
  (Za (Z6w (i:=4) (sub:=Uh N22_) (fun _ _=>(Zk (Z2s 3 Wq.nd rfl (Or.inl rfl) (Z7p C_stands (hr.mono (by lia)) (Z0 (Zb 0) (Z0 (Zb 1) Z9)))))) (fun _ _=>(Zk (Z8r 4 2 Wq.nd rfl (Or.inl rfl)))) T.k_8 Wq.nd rfl (Or.inl rfl))
  (Za (U3 (Vn Ze1 (xo 2) (Za6 (m:=true)) (Y6 _)) (Zk (Wk (Zl (Z0 (Zu) (Z0 (Zb 3) Z9))))) Vm)
  (Za (Zj 5 Wq.nd rfl (Or.inl rfl) (Zc8 (m:=false) C__law_sort (hr.mono (by lia)) (Z0 (xo 2) Z9)))
  (Za (U3 (PWd.pt (C2 (Vn (Zbm hr.units) (Z4 5) (Vd (Z0 (Zu) (Z0 (Zu) Z9))) (by rfl)) (O1 (Ft (Zcb (m:=true) (T:="list") (Z7a (okc:=Uh N22_) (xo 2) T.f_way) (by rfl) T.b_isinstance (by decide +kernel) (by rfl) T.b_list (by decide +kernel)))))) (Za (Zj 6 Wq.nd rfl (Or.inl rfl) (Tq (Z9v Z9h (by rfl) T.b_list (by decide +kernel) (Z0 (Z7a (okc:=Uh N22_) (xo 2) T.f_way) Z9))))
  (Za (Z87 2 (okc:=Uh N22_) T.f_way (Z0 (Wc) Z9))
  (Zk (Wk (Zl (Z0 (Zb 5) (Z0 (Zb 6) Z9))))))) Vm)
  (Zk (Wk (Zl (Z0 (Zb 5) (Z0 (Tu) Z9)))))))))))))
theorem Zbh {f:Addr} {fd:FuncData} (Df:Fun K "law" "law" Ge f fd) (T:Txt K mg)  (C__law_mix:CalD P w K mg base 1 "_law_mix" N30_ false Y7) (C__law_due:CalD P w K mg base 2 "_law_due" N21_ false Mf) (C__law_free:CalD P w K mg base 2 "_law_free" N24_ false Jb) (C__law_lookers:CalD P w K mg base 1 "_law_lookers" N20_ false Uu) (C__law_spoiled:CalD P w K mg base 1 "_law_spoiled" N20_ false Vp) (C__law_told:CalD P w K mg base 6 "_law_told" N21_ false Wo) (C__law_choice:CalD P w K mg base 2 "_law_choice" N24_ false Tl) (C__law_graph:CalD P w K mg base 3 "_law_graph" N16_ false Qf) (hl:∀ ns:List Int,ns.length<=63->Z7b [.lst (ns.map .int)]=.ok (.bl true)):FnOk P w K mg base Dy 7 f fd N39_ (Xd K) :=
 Zcc (N:=N10_) (ps:=N39_) (st:=Ge) (g:=Nf) Df R6 rfl (fun cdv A outer s H E hr=>(by
  unfold Nf;exact (Za (Zj 1 R6.nd rfl (Or.inl rfl) (Zv C__law_mix (hr.mono (by lia)) (Z0 (Zb 0) (Z0 (Wc) Z9))))
  (Za (U3 (Vn (Up hr.units) (Z7 Yh (Z4 1) (Z3)) (Z3) (Y6 _)) (Zk (Zj 2 R6.nd rfl (Or.inl rfl) (Zv C__law_free (hr.mono (by lia)) (Z0 (Zb 0) (Z0 (Wc) Z9))))) (Zk (U3 (Vn (Up hr.units) (Z7 Yh (Z4 1) (Z3)) (Z3) (Y6 _)) (Zk (Zj 2 R6.nd rfl (Or.inl rfl) (Zv C__law_spoiled (hr.mono (by lia)) (Z0 (Zv C__law_choice (hr.mono (by lia)) (Z0 (Zb 0) (Z0 (Wc) Z9))) (Z0 (Zg Y1 (Z4 1) (Z3)) Z9))))) (Zk (Zj 2 R6.nd rfl (Or.inl rfl) (Zv C__law_spoiled (hr.mono (by lia)) (Z0 (Zv C__law_graph (hr.mono (by lia)) (Z0 (Zb 0) (Z0 (Wc) (Z0 (Zg Zx (Z3) (Z7 Yh (Z7 Y1 (Z4 1) (Z3)) (Z3))) (Z0 (Zg Yh (Z7 Y1 (Z4 1) (Z3)) (Z3)) Z9))))) (Z0 (Zg Y1 (Z4 1) (Z3)) Z9))))))))
  (Za (U3 (Vn (Up hr.units) (Z7 Yh (Z7 Y1 (Z4 1) (Z3)) (Z3)) (Z3) (Y6 _)) (Zk (Zj 2 R6.nd rfl (Or.inl rfl) (Zv C__law_lookers (hr.mono (by lia)) (Z0 (Zb 2) (Z0 (Zg Y1 (Z4 1) (Z3)) Z9))))) Vm)
  (Za (Zj 3 R6.nd rfl (Or.inl rfl) (Y5 Yk (Y2 (Uj (Z0 (Wc) (Z0 (Zg Zx (Z3) (Z7 Yh (Z7 Y1 (Z4 1) (Z3)) (Z3))) Z9)))) (Z7 Yh (Z7 Y1 (Z4 1) (Z3)) (Z3)) (fun _ _=>rfl)))
  (Za (Zj 4 R6.nd rfl (Or.inl rfl) (Zv C__law_due (hr.mono (by lia)) (Z0 (Zb 2) (Z0 (Zb 3) Z9))))
  (Zk (Wk (Zdm (m:=false) (Z9c (m:=true) (Up hr.units) (Vz C__law_told (hr.mono (by lia)) (Z0 (Zb 2) (Z0 (Zb 3) Z9))) (Z4 4) (Y6 _)) (Zek (Vx (Up hr.units) (Vz C__law_told (hr.mono (by lia)) (Z0 (Zb 2) (Z0 (Zb 3) Z9))) (Z4 4) (Y6 _))))))))))))) hl
end
end K24
namespace L2
open PySem PySem.Spec PyProof.Rows
def Gd (r:Fl) (N:Ev->Prop) (R:Dat->Prop):Prop:=match r with
 | .next e=>N e
 | .ret d=>R d
 | _=>False
structure Go (r:Fl) (N:Ev->Prop) (R:Dat->Prop):Prop where
 of:Gd r N R
section
variable {N:Ev->Prop} {R:Dat->Prop} {g h:Ev->Fl} {f:Ev->Option Dat} {fs:Ev->Option (List Dat)} {t:Ev->Option Bool} {env:Ev} {d:Dat} {ds:List Dat} {i:Nat}
theorem Go.mono {N':Ev->Prop} {R':Dat->Prop} {r:Fl} (q:Go r N R) (hN:∀ e,N e->N' e) (hR:∀ d,R d->R' d):Go r N' R':=by
 cases r with
 | next e=>exact ⟨hN e q.of⟩
 | ret d=>exact ⟨hR d q.of⟩
 | _=>exact q.of.elim
theorem W2 (q:N env):Go (Q5 env) N R:=⟨q⟩
theorem Z6 (q:Go (g env) (fun e=>Go (h e) N R) R):Go (Ze g h env) N R:=by
 unfold Ze;cases e:g env with
 | next e'=>rw [e] at q;exact q.of
 | ret d=>rw [e] at q;exact ⟨q.of⟩
 | _=>rw [e] at q;exact q.of.elim
theorem Zf (e:f env=some d) (q:N (env.set i (.fz d))):Go (Zq i f env) N R:=by unfold Zq;rw [e];exact ⟨q⟩
theorem Q0 (e:fs env=some ds) (q:N (env.set i (.ow ds))):Go (Sg i fs env) N R:=by unfold Sg;rw [e];exact ⟨q⟩
theorem Yi (e:f env=some d) (q:R d):Go (V1 f env) N R:=by unfold V1;rw [e];exact ⟨q⟩
theorem Hf (e:env[i]?=some (.ow ds)) (q:R (.lst ds)):Go (Gp i env) N R:=by unfold Gp;rw [e];exact ⟨q⟩
theorem Nx (e:t env=some true) (q:Go (g env) N R):Go (M4 t g h env) N R:=by unfold M4;rw [e];exact q
theorem Jl (e:t env=some false) (q:Go (h env) N R):Go (M4 t g h env) N R:=by unfold M4;rw [e];exact q
theorem Vq {b:Bool} (e:t env=some b) (q1:b=true->Go (g env) N R) (q2:b=false->Go (h env) N R):Go (M4 t g h env) N R:=by
 cases b with
 | true=>exact Nx e (q1 rfl)
 | false=>exact Jl e (q2 rfl)
theorem P5 {gg:Dat->Ev->Option Ev} {env':Ev} (e:f env=some d) (e2:gg d env=some env') (q:N env'):Go (Pf f gg env) N R:=by
 unfold Pf;rw [e];dsimp only [Option.bind];rw [e2];exact ⟨q⟩
theorem U1 {F:List Dat->List Dat->Option (List Dat)} {ds' as:List Dat} (e:env[i]?=some (.ow ds)) (e2:fs env=some as) (e3:F ds as=some ds') (q:N (env.set i (.ow ds'))):Go (Tt i F fs env) N R:=by
 unfold Tt;rw [e];dsimp only;rw [e2];dsimp only [Option.bind];rw [e3];exact ⟨q⟩
theorem Bh {gg:Dat->Ev->Option Ev} (P:Nat->Ev->Prop):∀ (ds:List Dat) (k:Nat) (env:Ev),P k env->(∀ i d e,ds[i]?=some d->P (k+i) e->∃ e1,gg d e=some e1/\Go (g e1) (P (k+i+1)) R)->(∀ e,P (k+ds.length) e->N e)->Go (Gy gg g ds env) N R
 | [],k,env,h0,_,hN=>⟨hN env h0⟩
 | d::ds,k,env,h0,hs,hN=>by
  obtain ⟨e1,a1,a2⟩:=hs 0 d env rfl h0;rw [Gy,a1];dsimp only;cases e:g e1 with
  | next e' =>
   rw [e] at a2;exact Bh P ds (k+1) e' a2.of (fun i d e hi hp=>by
    have:=hs (i+1) d e (by simpa using hi) (by rw [show k+(i+1)=k+1+i by lia];exact hp);rw [show k+1+i+1=k+(i+1)+1 by lia];exact this) (fun e hp=>hN e (by rw [length_cons,show k+(ds.length+1)=k+1+ds.length by lia];exact hp))
  | ret d'=>rw [e] at a2;exact ⟨a2.of⟩
  | _=>rw [e] at a2;exact a2.of.elim
theorem Vw {src:Ev->Option (List Dat)} {gg:Dat->Ev->Option Ev} (P:Nat->Ev->Prop) (e:src env=some ds) (h0:P 0 env) (hs:∀ i d e,ds[i]?=some d->P i e->∃ e1,gg d e=some e1/\Go (g e1) (P (i+1)) R) (hN:∀ e,P ds.length e->N e):Go (Qt src gg g env) N R:=by
 unfold Qt;rw [e];exact Bh P ds 0 env h0 (fun i d e hi hp=>by simpa using hs i d e hi (by simpa using hp)) (fun e hp=>hN e (by simpa using hp))
theorem Go.ne {r:Fl} (q:Go r N R):r≠.no:=fun z=>by rw [z] at q;exact q.of
theorem Iu (W:Nat->Ev->Prop) {n:Nat} (h0:W n env) (hs:∀ n e,W n e->(t e=some false/\N e)\/(t e=some true/\Go (g e) (fun e'=>∃ m,m<n/\W m e') R)):Go (Jq t g env) N R:=by
 have key:∀ n e,W n e->Go (V0 t g (n+1) e) N R:=by
  intro n;induction n using Nat.strongRecOn with
  | _ n ih =>
   intro e hw;rcases hs n e hw with ⟨a,b⟩ | ⟨a,b⟩
   ·rw [V0,a];exact ⟨b⟩
   ·rw [V0,a]
    dsimp only;cases eg:g e with
    | next e' =>
     rw [eg] at b;obtain ⟨m,hm,hw'⟩:=b.of;have q:=ih m hm e' hw';dsimp only;have:=U7 (n - (m+1)) q.ne;rw [show m+1+(n - (m+1))=n by lia] at this;rw [this];exact q
    | ret d=>rw [eg] at b;exact ⟨b.of⟩
    | _=>rw [eg] at b;exact b.of.elim
 have q:=key n env h0;rw [Nk q.ne];exact q
theorem Yl {n p:Nat} (hp:ds.length=p) (q:Go (g (Tx n ds)) (fun _=>R .non) R):∃ d,Wd n p g ds=.ok d/\R d:=by
 unfold Wd;rw [if_pos hp];cases e:g (Tx n ds) with
 | next e'=>rw [e] at q;exact ⟨_,rfl,q.of⟩
 | ret d=>rw [e] at q;exact ⟨_,rfl,q.of⟩
 | _=>rw [e] at q;exact q.of.elim
end
theorem Jd {lo:Int} {n i:Nat} {d:Dat} (h:(rng lo n)[i]?=some d):i<n/\d=.int (lo+i):=by
 unfold rng at h;rw [getElem?_map] at h;by_cases hi:i<n
 ·rw [List.getElem?_range hi] at h
  exact ⟨hi,(Option.some.inj h).symm⟩
 ·rw [getElem?_eq_none (by simpa using hi)] at h
  cases h
theorem Vc {fs:Ev->Option (List Dat)} {env:Ev} {n:Nat} (h:fs env=some [.int n]) (hn:n<=100000):Q6 fs env=some (rng 0 n):=by
 unfold Q6;rw [h];dsimp only;rw [if_pos ⟨by lia,by lia,by rw [sizeLine_eq];simp;lia⟩,Int.toNat_natCast]
theorem Db {i j:Int} (h:Fp i j):Jn (.int i) (.int j)=some (.int (i*j)):=if_pos h
theorem Bj {i j:Int} (h:0<j):W3 (.int i) (.int j)=some (.int (i % j)):=if_pos h
theorem Z21 {i j:Int} (h:Z46 i j):Ya (.int i) (.int j)=some (.int (i / j)):=if_pos h
theorem Z5 {α:Type} {F:Dat->Dat->Option α} {f g:Ev->Option Dat} {env:Ev} {x y:Dat} {z:α} (h1:f env=some x) (h2:g env=some y) (h3:F x y=some z):dO F f g env=some z:=by unfold dO;rw [h1,h2];exact h3
theorem Yt {α:Type} {F:List Dat->Option α} {fs:Ev->Option (List Dat)} {env:Ev} {xs:List Dat} {z:α} (h1:fs env=some xs) (h3:F xs=some z):dF F fs env=some z:=by unfold dF;rw [h1];exact h3
theorem Z1 {f:Ev->Option Dat} {fs:Ev->Option (List Dat)} {env:Ev} {x:Dat} {xs:List Dat} (h1:f env=some x) (h2:fs env=some xs):Z2 f fs env=some (x::xs):=by unfold Z2;rw [h1,h2];rfl
theorem Zp {F:List Dat->Rs} {fs:Ev->Option (List Dat)} {env:Ev} {xs:List Dat} {d:Dat} (h1:fs env=some xs) (h2:F xs=.ok d):W1 F fs env=some d:=by unfold W1;rw [h1];show okR (F xs)=_;rw [h2];rfl
theorem Yd {f:Ev->Option Dat} {env:Ev} {b:Bool} (h:f env=some (.bl b)):dB f env=some b:=by unfold dB;rw [h]
theorem Z62 (z:Str) (ws:List Str):(ws.map Dat.str).any (fun y=>Jf y (.str z))=decide (z∈ws):=by
 induction ws with
 | nil=>simp
 | cons w ws ih =>
  rw [map_cons,any_cons,ih];have:Jf (.str w) (.str z)=(w==z):=by unfold Jf;rfl
  rw [this];by_cases e:w=z
  ·subst e;simp
  ·have e':(w==z)=false:=by simpa using e
   have e2:¬ z=w:=fun q=>e q.symm
   rw [e'];simp [e2]
theorem Z2r (n:Nat) (z:Str):pd n (.str z)=true:=by cases n<;>rfl
theorem Z5t (ws:List Str):(ws.map Dat.str).all (pd 20)=true:=by
 induction ws with
 | nil=>rfl
 | cons w ws ih=>rw [map_cons,all_cons,ih,Z2r];rfl
theorem Z69 (z:Str) (ws:List Str):inB (.str z) (.lst (ws.map .str))=some (decide (z∈ws)):=by
 unfold inB;dsimp only;rw [Z5t,Z2r,Bool.and_self,if_pos rfl,Z62]
theorem Z5w (z:Str) (ws:List Str):inF (.str z) (.lst (ws.map .str))=some (.bl (decide (z∈ws))):=by unfold inF;rw [Z69];rfl
theorem Ao {t u:Ev->Option Bool} {env:Ev} {a b:Bool} (h1:t env=some a) (h2:a=false->u env=some b):Z54 t u env=some (a||b):=by
 unfold Z54;rw [h1];cases a with
 | true=>rfl
 | false=>exact h2 rfl
theorem Dl {t u:Ev->Option Bool} {env:Ev} {a b:Bool} (h1:t env=some a) (h2:a=true->u env=some b):Iv t u env=some (a&&b):=by
 unfold Iv;rw [h1];cases a with
 | false=>rfl
 | true=>exact h2 rfl
theorem Jx {F:Dat->Option Int->Option Int->Option Dat} {f:Ev->Option Dat} {l h:Ev->Option (Option Int)} {env:Ev} {x z:Dat} {a b:Option Int} (h1:f env=some x) (h2:l env=some a) (h3:h env=some b) (h4:F x a b=some z):dS F f l h env=some z:=by
 unfold dS;rw [h1,h2,h3];exact h4
theorem Wz {f:Ev->Option Dat} {env:Ev} {i:Int} (h:f env=some (.int i)):Ui f env=some (some i):=by unfold Ui;rw [h]
theorem Jc {xs:List Dat} {j:Nat} {x:Dat} (h:xs[j]?=some x):Wi (.lst xs) (.int j)=some x:=De h
theorem Ru {xs:List Dat} {j:Nat} {x:Dat} (h:xs[j]?=some x):Wi (.tup xs) (.int j)=some x:=De h
theorem Zb2 (x y:Dat) {j:Int} (h0:0<=j) (h1:j<2):Wi (.lst [x,y]) (.int j)=some (if j=1 then y else x):=by
 rcases (show j=0\/j=1 by lia) with rfl | rfl<;>rfl
theorem Zr {fs:Ev->Option (List Dat)} {env:Ev} {xs:List Dat} (h:fs env=some xs) (hl:xs.length<=1000):Yb fs env=some (.tup xs):=by unfold Yb;rw [h];exact if_pos hl
theorem Ve {ds:List Dat} {d:Dat} (h:ds.length<=1000):Wn ds [d]=some (ds++[d]):=if_pos (lt_of_le_of_lt h (by decide))
abbrev Q1 (ns:List Int):Dat:=.lst (ns.map .int)
abbrev Qx:Str:="abcdefghijklmnopqrstuvwxyz"
theorem P3:cl Qx=List.range' 97 26:=by decide +kernel
theorem Fm {j:Int} (h0:0<=j) (h1:j<26):Lr (cl Qx) j=some (97+j.toNat):=by
 obtain ⟨n,rfl⟩:∃ n:Nat,j=n:=⟨j.toNat,(Int.toNat_of_nonneg h0).symm⟩;refine De ?_;rw [P3,List.getElem?_range' (by lia)];simp
theorem Fy {j:Int} (h0:0<=j) (h1:j<26):Wi (.str Qx) (.int j)=some (.str ⟨#[97+j.toNat]⟩):=by
 show (Lr (cl Qx) j).map _=_;rw [Fm h0 h1];rfl
theorem C8 {x y:Str} (h:x.length+y.length<=1000):Y8 (.str x) (.str y)=some (.str (x++y)):=if_pos (le_trans h (by decide))
theorem Z3p {f:Ev->Option Dat} {env:Ev} {d:Dat} {t T:String} {b:Bool} (h:f env=some d) (ht:tyN d=some t) (hk:Z6t t T=some b):dI T f env=some (.bl b):=by
 unfold dI;rw [h];show (Z6l T d).map _=_;unfold Z6l;rw [ht];show Option.map _ (Z6t t T)=_;rw [hk];rfl
theorem Sn {f:Ev->Option Dat} {env:Ev} {b:Bool} (h:f env=some (.bl b)):dT f env=some b:=by unfold dT;rw [h];rfl
theorem Z5o {f:Ev->Option Dat} {env:Ev} {b:Bool} (h:f env=some (.bl b)):F4 f env=some (.bl (!b)):=by unfold F4;rw [Yd h];rfl
theorem P4 {t:Ev->Option Bool} {env:Ev} {b:Bool} (h:t env=some b):Pb t env=some (!b):=by unfold Pb;rw [h];rfl
theorem Ub {r:Rs} {d0:Dat} (h:∃ d,r=.ok d/\d=d0):r=.ok d0:=by obtain ⟨d,e,rfl⟩:=h;exact e
theorem Wa {g:Ev->Option (List Dat)} {env:Ev} {ds:List Dat} (h:g env=some ds):dL g env=some (.lst ds):=by unfold dL;rw [h];rfl
theorem Ut {src:Ev->Option (List Dat)} {fs:List (Option Nat)} {g:Dat->Ev->Option Ev} {t:Ev->Option Bool} {f:Ev->Option Dat} {env env':Ev} {xs ys:List Dat} (h1:src env=some xs) (h2:Te fs env=env') (h3:Vv g t f env' xs=some ys):Ju src fs g t f env=some ys:=by
 unfold Ju;rw [h1,h2];exact h3
theorem Qa {f:Ev->Option Dat} {env:Ev} {xs:List Dat} (h:f env=some (.tup xs)):Jk f env=some xs:=by unfold Jk;rw [h]
theorem Ef {g:Dat->Ev->Option Ev} {t:Ev->Option Bool} {f:Ev->Option Dat} {env:Ev} {α:Type} (D:α->Dat) (y:α->Dat):∀ (xs:List α),(∀ x∈xs,∃ e1,g (D x) env=some e1/\t e1=some true/\f e1=some (y x))->Vv g t f env (xs.map D)=some (xs.map y)
 | [],_=>rfl
 | x::xs,h=>by
  obtain ⟨e1,a1,a2,a3⟩:=h x mem_cons_self;have ih:=Ef D y xs fun z hz=>h z (mem_cons_of_mem _ hz)
  rw [map_cons,Vv,a1];dsimp only [Option.bind];rw [a2];dsimp only;rw [if_pos rfl,a3];dsimp only;rw [ih];rfl
theorem Z9t (i j:Bool):Jr (.bl i) (.bl j)=some (.bl (i==j)):=rfl
theorem G5 (a b:Nat):Builtin.bitOr (a:Int) (b:Int)=((a ||| b:Nat):Int):=by
 unfold Builtin.bitOr Builtin.bitAnd Builtin.bitNot;have h1:decide (0<=-(a:Int) - 1)=false:=by simp;lia
 have h2:decide (0<=-(b:Int) - 1)=false:=by simp;lia
 rw [h1,h2];dsimp only;rw [show (-(-(a:Int) - 1) - 1).toNat=a by lia,show (-(-(b:Int) - 1) - 1).toNat=b by lia];lia
theorem Mb (a b:Nat):Builtin.bitAnd (a:Int) (b:Int)=((a &&& b:Nat):Int):=by
 unfold Builtin.bitAnd;rw [show decide (0<=(a:Int))=true by simp,show decide (0<=(b:Int))=true by simp];simp
def bitsN (ps:List Nat):Nat:=ps.foldl (fun a p=>a ||| 2^p) 0
theorem Z0z (ps:List Nat):∀ (a j:Nat),(ps.foldl (fun a p=>a ||| 2^p) a).testBit j=(a.testBit j||decide (j∈ps)):=by
 induction ps with
 | nil=>intro a j;simp
 | cons p ps ih =>
  intro a j;rw [List.foldl_cons,ih,testBit_or,testBit_two_pow];by_cases h:j=p
  ·subst h;simp
  ·have h':¬ p=j:=fun e=>h e.symm
   simp [h,h']
theorem Uk (ps:List Nat) (j:Nat):(bitsN ps).testBit j=decide (j∈ps):=by unfold bitsN;rw [Z0z];simp
theorem Nl {a p:Nat} (h:a.testBit p=false):a+2^p=a ||| 2^p:=by
 apply eq_of_testBit_eq;intro j;have e1:a=2^p*(a / 2^p)+a % 2^p:=(Nat.div_add_mod a (2^p)).symm;have hm:a % 2^p<2^p:=mod_lt _ (two_pow_pos p);have ev:a / 2^p % 2=0:=by
  rw [Nat.testBit_eq_decide_div_mod_eq] at h;have:=of_decide_eq_false h;lia
 have e2:a+2^p=2^p*(a / 2^p+1)+a % 2^p:=by rw [Nat.mul_add,Nat.mul_one];lia
 rw [e2,Nat.testBit_two_pow_mul_add _ hm,testBit_or,testBit_two_pow];rw [show a.testBit j=(2^p*(a / 2^p)+a % 2^p).testBit j by rw [← e1],Nat.testBit_two_pow_mul_add _ hm];by_cases hj:j<p
 ·simp [hj];lia
 ·rw [if_neg hj,if_neg hj]
  rcases Nat.lt_or_eq_of_le (Nat.le_of_not_lt hj) with h1 | h1
  ·obtain ⟨i,hi⟩:∃ i,j - p=i+1:=⟨j - p - 1,by lia⟩
   rw [hi,Nat.testBit_succ,Nat.testBit_succ];rw [show (a / 2^p+1) / 2=a / 2^p / 2 by lia];have:¬ p=j:=by lia
   simp [this]
  ·subst h1
   simp;lia
theorem toI (ps:List Nat):(ps.map fun p:Nat=>(p:Int)).map Dat.int=ps.map fun p:Nat=>Dat.int (p:Int):=by rw [map_map];rfl
abbrev Zc (ps:List Nat):List Dat:=(ps.map fun p:Nat=>(p:Int)).map Dat.int
theorem D6 (p:Nat) (hp:p<=1000):Mr (.int 1) (.int (p:Int))=some (.int ((2^p:Nat):Int)):=by
 have:Mr (.int 1) (.int (p:Int))=some (.int (1*2^((p:Int)).toNat)):=if_pos ⟨by lia,by lia,by decide⟩;rw [this,Int.toNat_natCast,Int.one_mul];congr 2
theorem Na {F:List Dat->Rs} {fs:Ev->Option (List Dat)} {env:Ev} {xs:List Dat} {d:Dat} (h1:fs env=some xs) (h2:F xs=.ok d) (hd:Vy d=true:=by rfl):Bb F fs env=some d:=by unfold Bb;rw [h1];show (okR (F xs)).bind _=_;rw [h2];show (if Vy d=true then some d else none)=_;rw [if_pos hd]
theorem Z41 (n:Nat) (i:Int):pd n (.int i)=true:=by cases n<;>rfl
theorem pd_nats (ps:List Nat):(Zc ps).all (pd 20)=true:=all_eq_true.mpr fun x hx=>by
 obtain ⟨i,_,rfl⟩:=mem_map.mp hx;exact Z41 20 i
theorem Z4y (p:Nat) (ps:List Nat):inB (.int (p:Int)) (.lst (Zc ps))=some (decide (p∈ps)):=by
 unfold inB;dsimp only;rw [pd_nats,Z41,Bool.and_self,if_pos rfl];congr 1
 rw [Bool.eq_iff_iff,any_eq_true,decide_eq_true_eq];constructor
 ·rintro ⟨x,hx,he⟩
  obtain ⟨i,hi,rfl⟩:=mem_map.mp hx;obtain ⟨q,hq,rfl⟩:=mem_map.mp hi;have:((q:Int)==(p:Int))=true:=by unfold Jf at he;exact he
  have:q=p:=by have h9:=eq_of_beq this;lia
  exact this▸hq
 ·intro h
  refine ⟨.int (p:Int),mem_map_of_mem (mem_map_of_mem h),?_⟩;unfold Jf;simp
theorem Xj (p:Nat) (ps:List Nat):G0 (.int (p:Int)) (.lst (Zc ps))=some (.bl (!decide (p∈ps))):=by unfold G0;rw [Z4y];rfl
theorem Z5x (bs:List Bool):Z3h [.lst (bs.map .bl)]=some (.bl (bs.all id)):=by unfold Z3h;dsimp only;rw [Xv];rfl
theorem Hr (a b:Nat):Builtin.bitXor (a:Int) (b:Int)=((a ^^^ b:Nat):Int):=by
 unfold Builtin.bitXor;rw [G5,Mb];have key:∀ (x y:Nat),x ||| y=(x ^^^ y)+(x &&& y):=by
  intro x;induction x using Nat.strongRecOn with
  | _ x ih =>
   intro y;by_cases hx:x=0
   ·subst hx;simp
   ·have h:=ih (x / 2) (by lia) (y / 2)
    have e1:x ||| y=2*(x / 2 ||| y / 2)+(x ||| y) % 2:=by rw [← Nat.or_div_two];lia
    have e2:x ^^^ y=2*(x / 2 ^^^ y / 2)+(x ^^^ y) % 2:=by rw [← Nat.xor_div_two];lia
    have e3:x &&& y=2*(x / 2 &&& y / 2)+(x &&& y) % 2:=by rw [← Nat.and_div_two];lia
    have e4:(x ||| y) % 2=(x ^^^ y) % 2+(x &&& y) % 2:=by
     have t1:∀ z:Nat,z % 2=(z.testBit 0).toNat:=fun z=>by rw [Nat.testBit_zero];by_cases q:z % 2=1<;>simp [q];lia
     rw [t1,t1,t1,testBit_or,testBit_xor,testBit_and];cases x.testBit 0<;>cases y.testBit 0<;>rfl
    lia
 have:=key a b;lia
theorem Kz (a b:Nat):∃ c:Nat,Builtin.bitAnd (a:Int) (-(b:Int) - 1)=(c:Int)/\∀ j,c.testBit j=(a.testBit j&&!b.testBit j):=by
 refine ⟨a ^^^ (a &&& b),?_,fun j=>by rw [testBit_xor,testBit_and];cases a.testBit j<;>cases b.testBit j<;>rfl⟩;have hx:=Hr a (a &&& b);unfold Builtin.bitXor at hx;rw [G5,Mb] at hx;have e1:a ||| (a &&& b)=a:=eq_of_testBit_eq fun j=>by rw [testBit_or,testBit_and];cases a.testBit j<;>cases b.testBit j<;>rfl
 have e2:a &&& (a &&& b)=a &&& b:=eq_of_testBit_eq fun j=>by rw [testBit_and,testBit_and];cases a.testBit j<;>cases b.testBit j<;>rfl
 rw [e1,e2] at hx;rw [← hx];unfold Builtin.bitAnd Builtin.bitNot;have h1:decide (0<=(a:Int))=true:=by simp
 have h2:decide (0<=-(b:Int) - 1)=false:=by simp;lia
 rw [h1,h2];dsimp only;rw [show (-(-(b:Int) - 1) - 1).toNat=b by lia,Int.toNat_natCast]
theorem Z04 {a p:Nat} (h:a.testBit p=true):∃ c:Nat,(a:Int) - ((2^p:Nat):Int)=(c:Int)/\∀ j,c.testBit j=(a.testBit j&&decide (j≠p)):=by
 obtain ⟨c,hc⟩:∃ c,c=a ^^^ 2^p:=⟨_,rfl⟩;have ht:∀ j,c.testBit j=(a.testBit j&&decide (j≠p)):=fun j=>by
  rw [hc,testBit_xor,testBit_two_pow];by_cases e:j=p
  ·subst e;simp [h]
  ·have:¬ p=j:=fun q=>e q.symm
   simp [e,this]
 have hp:c.testBit p=false:=by rw [ht];simp
 have:=Nl hp;have e:c ||| 2^p=a:=eq_of_testBit_eq fun j=>by
  rw [testBit_or,ht,testBit_two_pow];by_cases e:j=p
  ·subst e;simp [h]
  ·have:¬ p=j:=fun q=>e q.symm
   simp [e,this]
 rw [e] at this;exact ⟨c,by lia,ht⟩
theorem P0 (n j:Nat):R5 (.int (n:Int)) (.int (j:Int))=some (.int ((n / 2^j:Nat):Int)):=by
 have:R5 (.int (n:Int)) (.int (j:Int))=some (.int ((n:Int) / 2^((j:Int)).toNat)):=by unfold R5 Ow;dsimp only;rw [if_pos (by lia)]
 rw [this,Int.toNat_natCast];congr 2
theorem So (n j:Nat):Qu (.int ((n / 2^j:Nat):Int)) (.int 1)=some (.int (if n.testBit j then 1 else 0)):=by
 show some (Dat.int (Builtin.bitAnd ((n / 2^j:Nat):Int) ((1:Nat):Int)))=_;rw [Mb,Nat.and_one_is_mod,Nat.testBit_eq_decide_div_mod_eq];generalize n / 2^j=q;congr 2
 rcases (show q % 2=0\/q % 2=1 by lia) with h | h<;>simp [h]
theorem Z9e (a b:Nat):Qu (.int (a:Int)) (.int (b:Int))=some (.int ((a &&& b:Nat):Int)):=by
 show some (Dat.int (Builtin.bitAnd _ _))=_;rw [Mb]
theorem orN (a b:Nat):orD (.int (a:Int)) (.int (b:Int))=some (.int ((a ||| b:Nat):Int)):=by
 show some (Dat.int (Builtin.bitOr _ _))=_;rw [G5]
theorem Zc2 (a b:Nat):Z5q (.int (a:Int)) (.int (b:Int))=some (.int ((a ^^^ b:Nat):Int)):=by
 show some (Dat.int (Builtin.bitXor _ _))=_;rw [Hr]
theorem Ro (b:Bool):Jr (.int (if b then 1 else 0)) (.int 1)=some (.bl b):=by cases b<;>rfl
theorem A9 (a b:Nat):Jr (.int (a:Int)) (.int (b:Int))=some (.bl (a==b)):=by
 show some (Dat.bl ((a:Int)==(b:Int)))=_;congr 2
 rw [Bool.eq_iff_iff,beq_iff_eq,beq_iff_eq];lia
theorem Zbj (i j:Int):neF (.int i) (.int j)=some (.bl (!(i==j))):=rfl
theorem Z5e (bs:List Bool):Z2a [.lst (bs.map .bl)]=some (.bl (bs.any id)):=by unfold Z2a;dsimp only;rw [Xv];rfl
theorem Wh {fs:Ev->Option (List Dat)} {env:Ev} {xs:List Dat} (h:fs env=some xs) (hl:xs.length<=1000):Vi fs env=some xs:=by unfold Vi;rw [h];exact if_pos (le_trans hl (by decide))
theorem Jw (ps:List Nat):Zc ps=ps.map fun p:Nat=>Dat.int (p:Int):=toI ps
theorem Kt {α:Type} {xs:List α} {i:Nat} {p:α} (h:xs.Nodup) (hp:xs[i]?=some p):p∉xs.take i:=by
 obtain ⟨hi,e⟩:=List.getElem?_eq_some_iff.mp hp;have e1:xs=xs.take i++p::xs.drop (i+1):=by
  conv=>lhs;rw [← List.take_append_drop i xs,drop_eq_getElem_cons hi,e]
 rw [e1] at h;intro hm;exact (nodup_append.mp h).2.2 p hm p mem_cons_self rfl
theorem Z76 {F:Dat->Option Dat} {f:Ev->Option Dat} {env:Ev} {x z:Dat} (h1:f env=some x) (h2:F x=some z):dU F f env=some z:=by unfold dU;rw [h1];exact h2
theorem Iz {g:Dat->Ev->Option Ev} {f:Ev->Option Dat} {env:Ev} {α:Type} (D:α->Dat) (P:α->Prop):∀ (xs:List Dat),(∀ x∈xs,∃ (e1:Ev) (y:α),g x env=some e1/\f e1=some (D y)/\P y)->∃ ys:List α,Vv g Je f env xs=some (ys.map D)/\ys.length=xs.length/\∀ y∈ys,P y
 | [],_=>⟨[],rfl,rfl,fun _ h=>nomatch h⟩
 | x::xs,h=>by
  obtain ⟨e1,y,a1,a2,a3⟩:=h x mem_cons_self;obtain ⟨ys,b1,b2,b3⟩:=Iz D P xs fun z hz=>h z (mem_cons_of_mem _ hz)
  refine ⟨y::ys,?_,by rw [length_cons,length_cons,b2],fun z hz=>?_⟩
  ·rw [Vv,a1]
   dsimp only [Option.bind,Je];rw [if_pos rfl,a2];dsimp only;rw [b1];rfl
  ·rcases mem_cons.mp hz with e | e
   ·exact e▸a3
   ·exact b3 z e
theorem C4 {lo:Int} {n:Nat} {d:Dat} (h:d∈rng lo n):∃ i:Nat,i<n/\d=.int (lo+i):=by
 obtain ⟨i,hi,e⟩:=List.getElem_of_mem h;have:=Jd (lo:=lo) (n:=n) (i:=i) (d:=d) (by rw [getElem?_eq_getElem hi,e]);exact ⟨i,this.1,this.2⟩
theorem M2 {ps:List Nat} {i:Nat} {d:Dat} (h:(Zc ps)[i]?=some d):∃ p:Nat,ps[i]?=some p/\d=.int (p:Int):=by
 rw [getElem?_map,getElem?_map] at h;obtain ⟨y,hy,rfl⟩:=map_some h;obtain ⟨p,hq,rfl⟩:=map_some hy;exact ⟨p,hq,rfl⟩
theorem Z27 {m:Nat} {ps:List Nat}:(m &&& bitsN ps)=bitsN ps↔∀ p∈ps,m.testBit p=true:=by
 constructor
 ·intro h p hp
  have:(m &&& bitsN ps).testBit p=true:=by rw [h,Uk];simpa using hp
  rw [testBit_and] at this;exact (Bool.and_eq_true_iff.mp this).1
 ·intro h
  apply eq_of_testBit_eq;intro j;rw [testBit_and,Uk];by_cases hj:j∈ps
  ·simp [hj,h j hj]
  ·simp [hj]
structure St3 where
 w:Nat
 up:Bool
 takes:List Nat
 fills:List Nat
def St3.d (s:St3):Dat:=.tup [.int (s.w:Int),.bl s.up,.tup (Zc s.takes),.tup (Zc s.fills)]
structure G3 where
 wires:List (Str×Bool)
 steps:List St3
 marks:Nat
 code:Nat
def Tz (w:Str×Bool):Dat:=.tup [.str w.1,.str (if w.2 then "made" else "given")]
def G3.d (G:G3):Dat:=.tup [.tup (G.wires.map Tz),.tup (G.steps.map St3.d),.int (G.marks:Int),.int (G.code:Int)]
structure Sp3 (size:Nat) (ps:List Nat):Prop where
 nd:ps.Nodup
 lt:∀ p∈ps,p<size
 le:ps.length<=4
theorem Wj (r m:Nat) (h:0<m):W3 (.int (r:Int)) (.int (m:Int))=some (.int ((r % m:Nat):Int)):=by
 rw [Bj (by lia)];rfl
theorem Yn (r m:Nat) (h:0<m) (h2:m<1073741824):Ya (.int (r:Int)) (.int (m:Int))=some (.int ((r / m:Nat):Int)):=by
 rw [Z21 ⟨by lia,by lia⟩];rfl
theorem Z31 (r m:Nat) (h:m<18446744073709551616):Jn (.int (r:Int)) (.int (m:Int))=some (.int ((r*m:Nat):Int)):=by
 rw [Db (.inr ⟨by lia,by lia⟩)];rfl
theorem Pe (r m:Nat) (h:r<18446744073709551616):Jn (.int (r:Int)) (.int (m:Int))=some (.int ((r*m:Nat):Int)):=by
 rw [Db (.inl ⟨by lia,by lia⟩)];rfl
theorem Wp (r m:Nat):Y8 (.int (r:Int)) (.int (m:Int))=some (.int ((r+m:Nat):Int)):=rfl
def Mx (s:St3) (m:Nat):Bool:=(m &&& bitsN s.takes)==bitsN s.takes
theorem Xf {s:St3} {m:Nat}:Mx s m=true↔∀ p∈s.takes,m.testBit p=true:=by
 unfold Mx;rw [beq_iff_eq];exact Z27
theorem Ci (ps:List Nat):∃ qs:List Nat,(Dc (ps.map fun p:Nat=>(p:Int))).map Dat.int=Zc qs/\qs.Perm ps:=by
 refine ⟨(Dc (ps.map fun p:Nat=>(p:Int))).map Int.toNat,?_,?_⟩
 ·show _=(((Dc (ps.map fun p:Nat=>(p:Int))).map Int.toNat).map fun p:Nat=>(p:Int)).map Dat.int
  congr 1
  rw [map_map];conv=>lhs;rw [← List.map_id (Dc _)]
  apply List.map_congr_left;intro x hx;have:=(Tc _).mem_iff.mp hx;obtain ⟨p,_,rfl⟩:=mem_map.mp this;simp
 ·have h:=(Tc (ps.map fun p:Nat=>(p:Int))).map Int.toNat
  rw [map_map] at h;have e:(Int.toNat ∘ fun p:Nat=>(p:Int))=id:=by funext p;simp
  rw [e,List.map_id] at h;exact h
theorem Gn (ps:List Nat) (h:ps.length<64):∃ qs:List Nat,Ce [.lst (Zc ps)]=some (Zc qs)/\qs.Perm ps:=by
 obtain ⟨qs,e,hp⟩:=Ci ps;refine ⟨qs,?_,hp⟩;unfold Ce;dsimp only;rw [Ey];show (if (ps.map fun p:Nat=>(p:Int)).length<64 then _ else _)=_;rw [if_pos (by rw [length_map];exact h),e]
theorem Kj (x y:Str):(x++y).length=x.length+y.length:=Bt x y
section
variable {env:Ev} {N:Ev->Prop} {R:Dat->Prop}
theorem C7 {i:Nat} {src:Ev->Option (List Dat)} {fs:List (Option Nat)} {ds:List Dat} {h:Nat} (e:src env=some ds) (q:N (env.set i (.gx (.nest (List.replicate ds.length []))))):Go (Ly i src fs (Yq h) env) N R:=by
 unfold Ly;rw [e];dsimp only;rw [if_pos (show (ds.all fun d=>(Yq h d (Te fs env)).isSome)=true from all_eq_true.mpr fun d _=>rfl)];exact ⟨q⟩
def Hc (tk:List (List Nat)) (k x:Nat):List (List Nat):=tk.set k (tk.getD k []++[x])
theorem Qm (tk:List (List Nat)) (k x:Nat):(Hc tk k x).length=tk.length:=by unfold Hc;rw [length_set]
structure Nst (L B:Nat) (tk:List (List Nat)):Prop where
 len:∀ l∈tk,l.length<=L
 lt:∀ l∈tk,∀ p∈l,p<B
theorem Nst.mono {L L' B B':Nat} {tk:List (List Nat)} (h:Nst L B tk) (h1:L<=L') (h2:B<=B'):Nst L' B' tk:=⟨fun l q=>le_trans (h.len l q) h1,fun l q p z=>lt_of_lt_of_le (h.lt l q p z) h2⟩
theorem Nst.app {L B:Nat} {tk:List (List Nat)} (h:Nst L B tk) (k x:Nat) (hx:x<B):Nst (L+1) B (Hc tk k x):=by
 have hg:(tk.getD k []).length<=L/\∀ p∈tk.getD k [],p<B:=by
  cases e:tk[k]? with
  | none=>simp [List.getD,e]
  | some l=>have hm:=mem_of_getElem? e;simp only [List.getD,e,Option.getD_some];exact ⟨h.len l hm,h.lt l hm⟩
 constructor
 ·intro l hl
  rcases List.mem_or_eq_of_mem_set hl with q | q
  ·exact Nat.le_succ_of_le (h.len l q)
  ·rw [q,length_append];show _+1<=_;lia
 ·intro l hl p hp
  rcases List.mem_or_eq_of_mem_set hl with q | q
  ·exact h.lt l q p hp
  ·rw [q] at hp
   rcases mem_append.mp hp with z | z
   ·exact hg.2 p z
   ·rw [mem_singleton.mp z];exact hx
theorem Nst.nil (n:Nat):Nst 0 0 (List.replicate n []):=⟨fun l h=>by rw [(mem_replicate.mp h).2];exact le_refl _,fun l h p hp=>by rw [(mem_replicate.mp h).2] at hp;cases hp⟩
theorem Z4d (n:Nat):(List.replicate n ([]:List Dat))=(List.replicate n ([]:List Nat)).map Zc:=by rw [List.map_replicate];rfl
theorem Hd {i:Nat} {fa:Ev->Option Dat} {fs:Ev->Option (List Dat)} {tk:List (List Nat)} {k x L B:Nat} (e:env[i]?=some (.gx (.nest (tk.map Zc)))) (h:Nst L B tk) (hL:L<=1000) (hk:k<tk.length) (e1:fa env=some (.int (k:Int))) (e2:fs env=some [.int (x:Int)]) (q:N (env.set i (.gx (.nest ((Hc tk k x).map Zc))))):Go (Gm i fa fs env) N R:=by
 unfold Gm;rw [e,e1];dsimp only;have hat:Ss (tk.map Zc) (k:Int)=some (Zc tk[k]):=by
  unfold Ss;rw [if_pos (by lia),Int.toNat_natCast];simp [hk]
 rw [hat,e2];dsimp only;have hl:=h.len _ (getElem_mem hk);rw [show (some [Dat.int (x:Int)]).bind (fun as=>Wn (Zc tk[k]) as)=some (Zc (tk[k]++[x])) by
  show Wn (Zc tk[k]) [Dat.int (x:Int)]=_;rw [Ve (by rw [length_map,length_map];lia)];simp [Zc]]
 dsimp only;have:(tk.map Zc).set ((k:Int)).toNat (Zc (tk[k]++[x]))=(Hc tk k x).map Zc:=by
  unfold Hc;rw [Int.toNat_natCast,List.map_set];congr 2
  simp [List.getD,hk]
 rw [this];exact ⟨q⟩
theorem Br {i:Nat} {fa:Ev->Option Dat} {tk:List (List Nat)} {k:Nat} {l:List Nat} (e:env[i]?=some (.gx (.nest (tk.map Zc)))) (e1:fa env=some (.int (k:Int))) (hk:tk[k]?=some l):Cz i fa env=some (.lst (Zc l)):=by
 unfold Cz;rw [e,e1];dsimp only;unfold Ss;rw [if_pos (by lia),Int.toNat_natCast,getElem?_map,hk];rfl
end
theorem Lu {g:Dat->Ev->Option Ev} {t:Ev->Option Bool} {f:Ev->Option Dat} {env:Ev} {α:Type} (D E:α->Dat):∀ (xs:List α),(∀ x∈xs,∃ e1 b,g (D x) env=some e1/\t e1=some b/\f e1=some (E x))->∃ ys:List α,ys.Sublist xs/\Vv g t f env (xs.map D)=some (ys.map E)
 | [],_=>⟨[],.slnil,rfl⟩
 | x::xs,h=>by
  obtain ⟨ys,h1,h2⟩:=Lu D E xs fun z hz=>h z (mem_cons_of_mem _ hz)
  obtain ⟨e1,b,a1,a2,a3⟩:=h x mem_cons_self;cases b with
  | true=>exact ⟨x::ys,h1.cons₂ x,by rw [map_cons,Vv,a1];show (t e1).bind _=_;rw [a2];show (f e1).bind _=_;rw [a3,h2];rfl⟩
  | false=>exact ⟨ys,h1.cons x,by rw [map_cons,Vv,a1];show (t e1).bind _=_;rw [a2];exact h2⟩
theorem Zcn (r m:Nat) (h:m<=r):Fc (.int (r:Int)) (.int (m:Int))=some (.int ((r - m:Nat):Int)):=by
 show some (Dat.int ((r:Int) - (m:Int)))=_;rw [Int.ofNat_sub h]
theorem lenL_nats (ps:List Nat):Qr [.lst (Zc ps)]=some (.int ((ps.length:Nat):Int)):=by
 show some (Dat.int ((Zc ps).length:Int))=_;rw [length_map,length_map]
theorem Rc (ps:List Nat) (a w:Nat) (h:a<=ps.length) (hl:ps.length<=1000):Rx (Zc ps) [.int (a:Int),.int (w:Int)]=some (Zc (ps.take a++w::ps.drop a)):=by
 show (if _ then some _ else none)=_;rw [if_pos ⟨by lia,by rw [length_map,length_map];lia,by rw [length_map,length_map];exact lt_of_le_of_lt hl (by decide)⟩,Int.toNat_natCast];simp [Zc,map_take,List.map_drop]
theorem K8 {α:Type} (ps:List α) (a:Nat) (w:α):(ps.take a++w::ps.drop a).length=ps.length+1:=by
 rw [length_append,length_cons,length_take,length_drop];lia
theorem Xs {α:Type} (ps:List α) (a:Nat) (w:α):(ps.take a++w::ps.drop a).Perm (w::ps):=by
 have h:(ps.take a++w::ps.drop a).Perm (w::(ps.take a++ps.drop a)):=List.perm_middle;rw [List.take_append_drop] at h;exact h
theorem Ds (ps:List Nat) (a w v:Nat):(ps.take a++w::ps.drop a).count v=ps.count v+(if w=v then 1 else 0):=by
 rw [(Xs ps a w).count_eq,List.count_cons];by_cases h:w=v<;>simp [h]
theorem E5 {α:Type} (xs:List α) (t:Nat) (h:t<=xs.length):To xs (some (t:Int)) none=xs.drop t:=by
 unfold To;rw [HT.sIx_nat,HT.sIx_none,Nat.min_eq_left h,take_of_length_le (by rw [length_drop];exact le_refl _)]
theorem Dh {α:Type} (xs:List α) (t:Nat) (h:t<=xs.length):To xs none (some (t:Int))=xs.take t:=by
 unfold To;rw [HT.sIx_nat,HT.sIx_none,Nat.min_eq_left h,drop_zero,Nat.sub_zero]
theorem J8 {α β:Type} (f:α->β) (xs:List α) (a b:Option Int):To (xs.map f) a b=(To xs a b).map f:=by
 unfold To;rw [length_map,map_take,List.map_drop]
theorem Z6r (ps:List Nat) (c:Nat):(ps.map fun p:Nat=>(p:Int)).idxOf (c:Int)=ps.idxOf c:=by
 induction ps with
 | nil=>rfl
 | cons p ps ih =>
  rw [map_cons,idxOf_cons,idxOf_cons,ih];by_cases h:p=c
  ·subst h;rw [show ((p:Int)==(p:Int))=true from beq_self_eq_true _,show (p==p)=true from beq_self_eq_true _]
  ·rw [show ((p:Int)==(c:Int))=false from beq_eq_false_iff_ne.mpr (by lia),show (p==c)=false from beq_eq_false_iff_ne.mpr h]
theorem Io (ps:List Nat) (c:Nat) (h:c∈ps):Kw (.lst (Zc ps)) [.int (c:Int)]=some (.int ((ps.idxOf c:Nat):Int)):=by
 show ((Js (Zc ps)).bind fun zs=>if (c:Int)∈zs then some (Dat.int ((zs.idxOf (c:Int):Nat):Int)) else none)=_;rw [Ey];show (if _ then some _ else none)=_;rw [if_pos (mem_map_of_mem h),Z6r]
theorem Sd {xs ys:List Dat} (h:xs.length+ys.length<=1000):Y8 (.lst xs) (.lst ys)=some (.lst (xs++ys)):=if_pos (le_trans h (by decide))
theorem Z5j {xs ys:List Dat} (h:xs.length+ys.length<=1000):L8 (.lst xs) (.lst ys)=some (xs++ys):=if_pos (le_trans h (by decide))
theorem Me {xs ys:List Dat} (h:xs.length+ys.length<=1000):Ri (.tup xs) (.tup ys)=some (.tup (xs++ys)):=if_pos (le_trans h (by decide))
def Zz (p:Nat×Nat):Dat:=.tup [.int (p.1:Int),.int (p.2:Int)]
theorem Hh (p:Nat×Nat):pd 20 (Zz p)=true:=rfl
theorem Nj (p:Nat×Nat) (qs:List (Nat×Nat)):∃ b,G0 (Zz p) (.lst (qs.map Zz))=some (.bl b):=by
 refine ⟨!((qs.map Zz).any fun y=>Jf y (Zz p)),?_⟩;unfold G0 inB;dsimp only;rw [if_pos]
 ·rfl
 ·rw [Hh,Bool.true_and]
  exact all_eq_true.mpr fun x hx=>by obtain ⟨q,_,rfl⟩:=mem_map.mp hx;exact Hh q
theorem Zdj (a b:Nat):Z0q [.int (a:Int),.int (b:Int)]=some (.int ((min a b:Nat):Int)):=by
 show some (Dat.int (if (b:Int)<(a:Int) then (b:Int) else (a:Int)))=_;congr 2
 split<;>lia
theorem Zdk (a b:Nat):Z0v [.int (a:Int),.int (b:Int)]=some (.int ((max a b:Nat):Int)):=by
 show some (Dat.int (if (b:Int) > (a:Int) then (b:Int) else (a:Int)))=_;congr 2
 split<;>lia
theorem neN (a b:Nat):neF (.int (a:Int)) (.int (b:Int))=some (.bl (!(a==b))):=by
 rw [Zbj];congr 3
 rw [Bool.eq_iff_iff];simp;lia
theorem Qc (ps:List Nat) (h:ps.length<64):∃ qs:List Nat,Vu [.lst (Zc ps)]=some (Zc qs)/\qs.Perm ps:=Gn ps h
theorem Mv (ps:List Nat) (h:ps.length<64):∃ qs:List Nat,Vu [.tup (Zc ps)]=some (Zc qs)/\qs.Perm ps:=Gn ps h
theorem O7 (n:Nat):rng 0 n=(List.range n).map fun k:Nat=>Dat.int (k:Int):=by
 unfold rng;congr 1
 funext k
 rw [Int.zero_add]
theorem Ep {xs:List Dat} {i:Nat} {d:Dat} (h:(G1 0 xs)[i]?=some d):∃ x,xs[i]?=some x/\d=.tup [.int (i:Int),x]:=by
 rw [L3] at h;cases e:xs[i]? with
 | none=>rw [e] at h;cases h
 | some x=>rw [e] at h;cases h;exact ⟨x,rfl,by rw [Nat.zero_add]⟩
theorem Z7e {α:Type} {T:String} {F:Dat->List Dat->Option α} {f:Ev->Option Dat} {fs:Ev->Option (List Dat)} {env:Ev} {x:Dat} {as:List Dat} {z:α} (h1:f env=some x) (ht:Ov T x=true) (h2:fs env=some as) (h3:F x as=some z):dM T F f fs env=some z:=by
 unfold dM;rw [h1];show (if _ then _ else _)=_;rw [if_pos ht,h2];exact h3
theorem Ql {g:Dat->Ev->Option Ev} {t:Ev->Option Bool} {f:Ev->Option Dat} {env:Ev} {α:Type} (D E:α->Dat) (p:α->Bool):∀ (xs:List α),(∀ x∈xs,∃ e1,g (D x) env=some e1/\t e1=some (p x)/\f e1=some (E x))->Vv g t f env (xs.map D)=some ((xs.filter p).map E)
 | [],_=>rfl
 | x::xs,h=>by
  have ih:=Ql D E p xs fun z hz=>h z (mem_cons_of_mem _ hz)
  obtain ⟨e1,a1,a2,a3⟩:=h x mem_cons_self;rw [map_cons,Vv,a1];show (t e1).bind _=_;rw [a2];cases hp:p x with
  | true=>show (f e1).bind _=_;rw [a3,ih,List.filter_cons_of_pos hp];rfl
  | false=>rw [List.filter_cons_of_neg (by rw [hp];decide)];exact ih
theorem E9 (xs:List Dat) (a b:Option Int):Lf (.lst xs) a b=some (.lst (To xs a b)):=rfl
theorem He (xs:List Dat) (a b:Option Int):Lf (.tup xs) a b=some (.tup (To xs a b)):=rfl
theorem Z4j (z:Str) (a b:Option Int):Lf (.str z) a b=some (.str (Txt.slice z a b)):=rfl
def W9 (s:St3) (p:Nat×Nat):Nat×Nat:=((p.1 ^^^ (p.1 &&& bitsN s.takes)) ||| bitsN s.fills,p.2 ^^^ 2^s.w)
theorem Z7l (s:St3) (p:Nat×Nat) (j:Nat):(W9 s p).1.testBit j=((p.1.testBit j&&!decide (j∈s.takes))||decide (j∈s.fills)):=by
 unfold W9;dsimp only;rw [testBit_or,testBit_xor,testBit_and,Uk,Uk];cases p.1.testBit j<;>cases decide (j∈s.takes)<;>rfl
theorem Zcr (s:St3) (p:Nat×Nat) (j:Nat):(W9 s p).2.testBit j=(p.2.testBit j ^^ decide (s.w=j)):=by
 unfold W9;dsimp only;rw [testBit_xor,testBit_two_pow]
structure Rw where
 m:Nat
 c:Nat
 src:Option (Nat×Nat)
def Rw.st (r:Rw):Nat×Nat:=(r.m,r.c)
def Rw.d (r:Rw):Dat:=.tup [.int (r.m:Int),.int (r.c:Int),match r.src with | none=>.non | some p=>.int (p.1:Int),match r.src with | none=>.non | some p=>.int (p.2:Int)]
structure Told (G:G3) (I:Nat×Nat->Prop) (rows:List Rw):Prop where
 zero:rows[0]?=some ⟨G.marks,G.code,none⟩
 inv:∀ r∈rows,I r.st
 nd:(rows.map Rw.st).Nodup
 src:∀ i r,rows[i]?=some r->0<i->∃ f k s rf,r.src=some (f,k)/\f<i/\G.steps[k]?=some s/\rows[f]?=some rf/\Mx s rf.m=true/\r.st=W9 s rf.st
def Dq (rows:List Rw):Nat->Nat->List Nat
 | 0,_=>[]
 | fu+1,n=>match (rows[n]?).bind Rw.src with
  | none=>[]
  | some p=>Dq rows fu p.1++[p.2]
theorem Eo {G:G3} {I:Nat×Nat->Prop} {rows:List Rw} (t:Told G I rows):∀ (fu n:Nat),n<rows.length->n<=fu->Dq rows fu n=Dq rows n n
 | 0,n,_,h=>by rw [show n=0 by lia]
 | fu+1,n,hl,h=>by
  obtain ⟨r,hr⟩:∃ r,rows[n]?=some r:=⟨_,getElem?_eq_getElem hl⟩;rcases eq_zero_or_pos n with z | z
  ·subst z
   show (match (rows[0]?).bind Rw.src with | none=>[] | some p=>Dq rows fu p.1++[p.2])=[];rw [t.zero];rfl
  ·obtain ⟨f,k,s,rf,a1,a2,_,a4,_,_⟩:=t.src n r hr z
   have hfl:=(List.getElem?_eq_some_iff.mp a4).1;obtain ⟨n',rfl⟩:∃ n',n=n'+1:=⟨n - 1,by lia⟩;rw [Dq,Dq,hr];show (match r.src with | none=>[] | some p=>Dq rows fu p.1++[p.2])=(match r.src with | none=>[] | some p=>Dq rows n' p.1++[p.2]);rw [a1];show Dq rows fu f++[k]=Dq rows n' f++[k];rw [Eo t fu f hfl (by lia),Eo t n' f hfl (by lia)]
def Uv (rows:List Rw) (n:Nat):List Nat:=Dq rows n n
theorem K5 (rows:List Rw):Uv rows 0=[]:=rfl
theorem Ij {G:G3} {I:Nat×Nat->Prop} {rows:List Rw} (t:Told G I rows) {n:Nat} {r:Rw} {f k:Nat} (hr:rows[n]?=some r) (hs:r.src=some (f,k)) (h0:0<n):Uv rows n=Uv rows f++[k]:=by
 obtain ⟨f',k',s,rf,a1,a2,_,a4,_,_⟩:=t.src n r hr h0;rw [hs] at a1;cases a1;have hfl:=(List.getElem?_eq_some_iff.mp a4).1;obtain ⟨n',rfl⟩:∃ n',n=n'+1:=⟨n - 1,by lia⟩;unfold Uv;rw [Dq,hr];show (match r.src with | none=>[] | some p=>Dq rows n' p.1++[p.2])=_;rw [hs];show Dq rows n' f++[k]=_;rw [Eo t n' f hfl (by lia)]
theorem Z43 {G:G3} {I:Nat×Nat->Prop} {rows:List Rw} (t:Told G I rows) {n:Nat} {r:Rw} (hr:rows[n]?=some r):r.src=none↔n=0:=by
 constructor
 ·intro h
  rcases eq_zero_or_pos n with z | z
  ·exact z
  ·obtain ⟨f,k,s,rf,a1,_⟩:=t.src n r hr z
   rw [h] at a1;cases a1
 ·rintro rfl
  rw [t.zero] at hr;cases hr;rfl
end L2
namespace L2
theorem K1 {α:Type} [BEq α] [LawfulBEq α]:∀ (l m:List α),l.Nodup->(∀ x∈l,x∈m)->l.length<=m.length
 | [],_,_,_=>zero_le _
 | x::l,m,hn,hs=>by
  obtain ⟨h1,h2⟩:=nodup_cons.mp hn;have hx:=hs x mem_cons_self;have:=K1 l (m.erase x) h2 fun y hy=>by
   refine (List.mem_erase_of_ne ?_).mpr (hs y (mem_cons_of_mem _ hy));rintro rfl;exact h1 hy
  rw [List.length_erase_of_mem hx] at this;have:=List.length_pos_of_mem hx;show l.length+1<=_;lia
def Zew (s0:Nat) (rs:List (Nat×Nat)) (f g:Nat×Nat->Nat) (d:Nat) (l:List Nat):Prop:=∀ q,q∈l↔∃ t p,rs[t]?=some p/\((q=s0+2*t/\f p=d)\/(q=s0+2*t+1/\g p=d))
structure LookG (G G':G3) (z:Nat):Prop where
 len:G'.steps.length=G.steps.length
 ma:G'.marks=G.marks ||| 2^z
 mz:G.marks.testBit z=false
 cd:G'.code=G.code
 st:∀ s'∈G'.steps,∃ s∈G.steps,∃ b:Bool,s'.w=s.w/\s'.up=s.up/\z∉s.takes/\z∉s.fills/\(∀ q,q∈s'.takes↔q∈s.takes\/(b=true/\q=z))/\(∀ q,q∈s'.fills↔q∈s.fills\/(b=true/\q=z))
end L2
namespace L2
def L0 (ps:List Nat) (w:Nat):Nat:=ps.idxOf w
def Ii (ps:List Nat) (w:Nat):Nat:=ps.idxOf w+1+(ps.drop (ps.idxOf w+1)).idxOf w
theorem Zbr {w:Nat}:∀ {ps:List Nat} {d:Nat},ps[d]?=some w->ps.count w=1->(ps.take d).count w=0/\d=ps.idxOf w
 | [],_,h,_=>by cases h
 | p::ps,0,h,_=>by
  cases h;exact ⟨rfl,by rw [idxOf_cons];simp⟩
 | p::ps,d+1,h,hc=>by
  have h':ps[d]?=some w:=h;by_cases e:p=w
  ·subst e
   rw [List.count_cons_self] at hc;have:ps.count p=0:=by lia
   exact absurd (mem_of_getElem? h') (List.count_eq_zero.mp this)
  ·rw [List.count_cons_of_ne e] at hc
   obtain ⟨h1,h2⟩:=Zbr h' hc;rw [take_succ_cons,List.count_cons_of_ne e,idxOf_cons,show (p==w)=false from beq_eq_false_iff_ne.mpr e];exact ⟨h1,by simp [h2]⟩
theorem Zcg {w:Nat}:∀ {ps:List Nat} {d:Nat},ps[d]?=some w->ps.count w=2->((ps.take d).count w=0/\d=L0 ps w)\/((ps.take d).count w=1/\d=Ii ps w)
 | [],_,h,_=>by cases h
 | p::ps,0,h,_=>by
  cases h;exact .inl ⟨rfl,by unfold L0;rw [idxOf_cons];simp⟩
 | p::ps,d+1,h,hc=>by
  have h':ps[d]?=some w:=h;by_cases e:p=w
  ·subst e
   rw [List.count_cons_self] at hc;obtain ⟨h1,h2⟩:=Zbr h' (by lia);refine .inr ⟨by rw [take_succ_cons,List.count_cons_self,h1],?_⟩;unfold Ii;rw [idxOf_cons,beq_self_eq_true];show d+1=0+1+ps.idxOf p;lia
  ·rw [List.count_cons_of_ne e] at hc
   have e1:(p::ps).idxOf w=ps.idxOf w+1:=by rw [idxOf_cons,show (p==w)=false from beq_eq_false_iff_ne.mpr e];rfl
   rw [take_succ_cons,List.count_cons_of_ne e];unfold L0 Ii;rw [e1];rcases Zcg h' hc with ⟨h1,h2⟩ | ⟨h1,h2⟩
   ·exact .inl ⟨h1,by unfold L0 at h2;lia⟩
   ·refine .inr ⟨h1,?_⟩
    unfold Ii at h2;show d+1=ps.idxOf w+1+1+(ps.drop (ps.idxOf w+1)).idxOf w;lia
theorem Z23 {v:Nat}:∀ {ps:List Nat},ps.count v=2->v∈ps.drop (ps.idxOf v+1)
 | [],h=>by cases h
 | p::ps,h=>by
  rw [List.count_cons] at h;rw [idxOf_cons];by_cases e:p=v
  ·subst e
   rw [show (p==p)=true from beq_self_eq_true _] at h ⊢;show p∈ps;refine List.count_pos_iff.mp ?_;simp at h;lia
  ·rw [show (p==v)=false from beq_eq_false_iff_ne.mpr e] at h ⊢
   show v∈ps.drop (ps.idxOf v+1);exact Z23 (by simpa using h)
structure Ord (n:Nat) (ps:List Nat):Prop where
 len:ps.length=2*n
 cnt:∀ v,ps.count v=if v<n then 2 else 0
theorem Ord.mem {n:Nat} {ps:List Nat} (h:Ord n ps) {v:Nat}:v∈ps↔v<n:=by
 rw [← List.count_pos_iff,h.cnt];split<;>lia
theorem Ord.two {n:Nat} {ps:List Nat} (h:Ord n ps) {v:Nat} (hv:v<n):ps.count v=2:=by rw [h.cnt,if_pos hv]
theorem Cm (tk:List (List Nat)) (k x d:Nat) (hk:k<tk.length):(Hc tk k x).getD d []=if d=k then tk.getD d []++[x] else tk.getD d []:=by
 unfold Hc;by_cases e:d=k
 ·subst e
  simp [List.getD,getElem?_set,hk]
 ·have e':¬ k=d:=fun z=>e z.symm
  simp [List.getD,getElem?_set,e,e']
theorem X1 (tk:List (List Nat)) (k x d q:Nat) (hk:k<tk.length):q∈(Hc tk k x).getD d []↔q∈tk.getD d []\/(d=k/\q=x):=by
 rw [Cm tk k x d hk];by_cases e:d=k
 ·rw [if_pos e];simp [e]
 ·rw [if_neg e];simp [e]
def NS (s0:Nat) (rs:List (Nat×Nat)) (f g:Nat×Nat->Nat) (tk:List (List Nat)):Prop:=∀ d,Zew s0 rs f g d (tk.getD d [])
theorem NS.nil (s0 m:Nat) (f g:Nat×Nat->Nat):NS s0 [] f g (List.replicate m []):=fun d q=>by
 have:(List.replicate m ([]:List Nat)).getD d []=[]:=by
  simp only [List.getD];cases e:(List.replicate m ([]:List Nat))[d]? with
  | none=>rfl
  | some l=>have:=mem_of_getElem? e;rw [(mem_replicate.mp this).2];rfl
 rw [this];simp
theorem NS.app {s0:Nat} {rs:List (Nat×Nat)} {f g:Nat×Nat->Nat} {tk:List (List Nat)} (h:NS s0 rs f g tk) (p:Nat×Nat) (hf:f p<tk.length) (hg:g p<tk.length):NS s0 (rs++[p]) f g (Hc (Hc tk (f p) (s0+2*rs.length)) (g p) (s0+2*rs.length+1)):=fun d q=>by
 rw [X1 _ _ _ _ _ (by rw [Qm];exact hg),X1 _ _ _ _ _ hf,h d q];constructor
 ·rintro ((⟨t,r,e,h1⟩ | ⟨h1,h2⟩) | ⟨h1,h2⟩)
  ·exact ⟨t,r,by rw [getElem?_append_left (List.getElem?_eq_some_iff.mp e).1];exact e,h1⟩
  ·exact ⟨rs.length,p,by simp,.inl ⟨h2,h1.symm⟩⟩
  ·exact ⟨rs.length,p,by simp,.inr ⟨h2,h1.symm⟩⟩
 ·rintro ⟨t,r,e,h1⟩
  rcases lt_or_ge t rs.length with hl | hl
  ·rw [getElem?_append_left hl] at e
   exact .inl (.inl ⟨t,r,e,h1⟩)
  ·rw [List.getElem?_append_right hl] at e
   have e0:t - rs.length=0:=by
    rcases eq_zero_or_pos (t - rs.length) with z | z
    ·exact z
    ·rw [List.getElem?_cons,if_neg (by lia)] at e;cases e
   rw [e0] at e;cases e;have et:t=rs.length:=by lia
   subst et;rcases h1 with ⟨h1,h2⟩ | ⟨h1,h2⟩
   ·exact .inl (.inr ⟨h2.symm,h1⟩)
   ·exact .inr ⟨h2.symm,h1⟩
theorem O3 {L B:Nat} {tk:List (List Nat)} (hb:Nst L B tk) (h:∀ l∈tk,l.Nodup) (k x:Nat) (hx:B<=x):∀ l∈Hc tk k x,l.Nodup:=by
 intro l hl;rcases List.mem_or_eq_of_mem_set hl with q | q
 ·exact h l q
 ·rw [q]
  cases e:tk[k]? with
  | none=>simp [List.getD,e]
  | some l' =>
   have hm:=mem_of_getElem? e;simp only [List.getD,e,Option.getD_some];refine nodup_append.mpr ⟨h l' hm,nodup_cons.mpr ⟨by simp,nodup_nil⟩,fun a ha b hb'=>?_⟩;have:=hb.lt l' hm a ha;rw [mem_singleton.mp hb'];lia
structure SB (B n:Nat) (s:St3):Prop where
 w:s.w<n
 t:∀ p∈s.takes,p<B
 f:∀ p∈s.fills,p<B
 tn:s.takes.Nodup
 fn:s.fills.Nodup
theorem En {l:List Nat} {B:Nat} (h:l.Nodup) (hb:∀ p∈l,p<B):l.length<=B:=by
 have:=K1 l (List.range B) h fun x hx=>mem_range.mpr (hb x hx)
 rwa [length_range] at this
structure Gb (B:Nat) (G:G3):Prop where
 w2:G.wires.length<=10
 s1:1<=G.steps.length
 s2:G.steps.length<=24
 st:∀ s∈G.steps,SB B G.wires.length s
 mks:G.marks<2^B
end L2
namespace K24
open PySem PySem.Spec PyProof.Rows L2
theorem Jm (ns:List Int) (k:Nat) (hk:k<=100000):∃ r:Nat,Y7 [Q1 ns,.int (k:Int)]=.ok (.int (r:Int))/\r<1000000000039:=by
 have:=Yl (n:=3) (p:=2) (ds:=[Q1 ns,.int (k:Int)]) (g:=Uy) (R:=fun d=>∃ r:Nat,d=.int (r:Int)/\r<1000000000039) rfl ?_
 ·obtain ⟨d,e,r,rfl,h⟩:=this
  exact ⟨r,e,h⟩
 show Go (Uy [.fz (Q1 ns),.fz (.int (k:Int)),.un]) _ _;unfold Uy;have fin:∀ z:Int,Go (V1 (dO W3 (dO Jn (dV 2) (dC (.int 48271))) (dC (.int 1000000000039))) [.fz (Q1 ns),.fz (.int (k:Int)),.fz (.int z)]) (fun _=>False) (fun d=>∃ r:Nat,d=.int (r:Int)/\r<1000000000039):=fun z=>by
  refine Yi (d:=.int (z*48271 % 1000000000039)) (Z5 (Z5 rfl rfl (Db (.inr (by lia)))) rfl (Bj (by lia))) ⟨(z*48271 % 1000000000039).toNat,?_,?_⟩
  ·congr 1;lia
  ·lia
 refine Z6 (Zf (d:=.int (7919*(k:Int)+12345)) (Z5 (Z5 rfl rfl (Db (.inl (by lia)))) rfl rfl) ?_);refine Z6 (Vq (b:=decide ((k:Int)<((ns.map Dat.int).length:Int))) rfl (fun hb=>?_) (fun hb=>?_))
 ·have hkl:k<ns.length:=by have:=of_decide_eq_true hb;rw [length_map] at this;lia
  have hix:Wi (Q1 ns) (.int (k:Int))=some (.int ns[k]):=Jc (by simp [hkl]);refine Zf (d:=.int (7919*(k:Int)+12345+ns[k]*6364136223846793005)) (Z5 rfl (Z5 (Z5 rfl rfl hix) rfl (Db (.inr (by lia)))) rfl) ?_;exact (fin _).mono (fun _ h=>h.elim) fun _ h=>h
 ·refine W2 ?_
  exact (fin _).mono (fun _ h=>h.elim) fun _ h=>h
theorem Hg (c k:Nat):∃ z:Str,W8 [.int (c:Int),.int (k:Int)]=.ok (.str z):=by
 have:=Yl (n:=8) (p:=2) (ds:=[.int (c:Int),.int (k:Int)]) (g:=Ue) (R:=fun d=>∃ z:Str,d=.str z) rfl ?_
 ·obtain ⟨d,e,z,rfl⟩:=this
  exact ⟨z,e⟩
 show Go (Ue [.fz (.int (c:Int)),.fz (.int (k:Int)),.un,.un,.un,.un,.un,.un]) _ _;unfold Ue;obtain ⟨n,hn,hn1⟩:∃ n:Nat,2+c % 7=n/\n<=8:=⟨_,rfl,by lia⟩;refine Z6 (Zf (d:=.str Qx) rfl ?_);refine Z6 (Zf (d:=.int (n:Int)) (by rw [← hn];exact Z5 rfl (Z5 rfl rfl (Wj c 7 (by lia))) (Wp 2 _)) ?_);refine Z6 (Zf (Z5 (Z5 rfl rfl (Yn c 7 (by lia) (by lia))) rfl (Wj (c / 7) n (by lia))) ?_);refine Z6 (Zf (d:=.str "") rfl ?_);generalize c / 7 % n=at0;refine Z6 (Vw (ds:=rng 0 n) (fun i e=>∃ (z:Str) (v6 v7:Slt),e=[.fz (.int (c:Int)),.fz (.int (k:Int)),.fz (.str Qx),.fz (.int (n:Int)),.fz (.int (at0:Int)),.fz (.str z),v6,v7]/\z.length=i) (Vc (Z1 rfl rfl) (by lia)) ⟨"",.un,.un,rfl,by decide⟩ ?_ ?_)
 ·rintro i d e hi ⟨z,v6,v7,rfl,hz⟩
  obtain ⟨hi1,rfl⟩:=Jd hi;rw [Int.zero_add];refine ⟨_,rfl,?_⟩;refine Z6 (Zf (d:=.int ((0:Nat):Int)) rfl ?_);have fin:∀ q:Nat,Go (Zq 5 (dO Y8 (dV 5) (dO Wi (dV 2) (dO W3 (dO Y8 (dO Y8 (dO Ya (dV 0) (dC (.int 49))) (dO Jn (dC (.int 5)) (dV 6))) (dO Jn (dC (.int 7)) (dV 7))) (dC (.int 26))))) [.fz (.int (c:Int)),.fz (.int (k:Int)),.fz (.str Qx),.fz (.int (n:Int)),.fz (.int (at0:Int)),.fz (.str z),.fz (.int (i:Int)),.fz (.int (q:Int))]) (fun e=>∃ (z:Str) (v6 v7:Slt),e=[.fz (.int (c:Int)),.fz (.int (k:Int)),.fz (.str Qx),.fz (.int (n:Int)),.fz (.int (at0:Int)),.fz (.str z),v6,v7]/\z.length=i+1) (fun d=>∃ z:Str,d=.str z):=fun q=>by
   have hx:=Fy (j:=(((c / 49+5*i+7*q) % 26:Nat):Int)) (by lia) (by lia);refine Zf (Z5 rfl (Z5 rfl (Z5 (Z5 (Z5 (Z5 rfl rfl (Yn c 49 (by lia) (by lia))) (Z5 rfl rfl (Pe 5 i (by lia))) (Wp _ _)) (Z5 rfl rfl (Pe 7 q (by lia))) (Wp _ _)) rfl (Wj _ 26 (by lia))) hx) (C8 (by show z.length+1<=_;lia))) ?_;exact ⟨_,_,_,rfl,by rw [Kj];show _+1=_;lia⟩
  refine Z6 (Vq (Yd (Z5 rfl rfl (A9 i at0))) (fun hb=>?_) (fun hb=>?_))
  ·exact Zf rfl (fin k)
  ·exact W2 (fin 0)
 ·rintro e ⟨z,v6,v7,rfl,hz⟩
  rw [Th] at hz;refine Z6 (Vq (b:=decide (z∈(["given","made","up","down","start"]:List Str))) (Yd (Z5 rfl rfl (Z5w z ["given","made","up","down","start"]))) (fun hb=>?_) (fun hb=>?_))
  ·refine Zf (Z5 (Jx rfl (Wz rfl) rfl (Z4j z _ _)) rfl (C8 ?_)) (Yi rfl ⟨_,rfl⟩)
   have:=Txt.slice_le z (some 1) none;show (Txt.slice z (some 1) none).length+1<=_;lia
  ·exact W2 (Yi rfl ⟨_,rfl⟩)
theorem Z3y (ns:List Int) (first n:Nat) (hf:first<=1000) (hn:n<=10):∃ ps:List Nat,Q9 [Q1 ns,.int (first:Int),.int (n:Int)]=.ok (.lst (Zc ps))/\Ord n ps:=by
 have:=Yl (n:=8) (p:=3) (ds:=[Q1 ns,.int (first:Int),.int (n:Int)]) (g:=Vs) (R:=fun d=>∃ ps:List Nat,d=.lst (Zc ps)/\Ord n ps) rfl ?_
 ·obtain ⟨d,e,z,rfl,h⟩:=this
  exact ⟨z,e,h⟩
 show Go (Vs [.fz (Q1 ns),.fz (.int (first:Int)),.fz (.int (n:Int)),.un,.un,.un,.un,.un]) _ _;unfold Vs;refine Z6 (Q0 (ds:=Zc []) rfl ?_);refine Z6 (Vw (ds:=rng 0 n) (fun i e=>∃ (ps:List Nat) (v4 v5 v6 v7:Slt),e=[.fz (Q1 ns),.fz (.int (first:Int)),.fz (.int (n:Int)),.ow (Zc ps),v4,v5,v6,v7]/\Ord i ps) (Vc (Z1 rfl rfl) (by lia)) ⟨[],.un,.un,.un,.un,rfl,rfl,fun v=>by simp⟩ ?_ ?_)
 ·rintro i d e hi ⟨ps,v4,v5,v6,v7,rfl,ho⟩
  obtain ⟨hi1,rfl⟩:=Jd hi;rw [Int.zero_add];refine ⟨_,rfl,?_⟩;obtain ⟨c,ec,lc⟩:=Jm ns (first+i) (by lia);have hl:=ho.len;refine Z6 (Zf (Zp (xs:=[Q1 ns,.int ((first+i:Nat):Int)]) (Z1 rfl (Z1 (Z5 rfl rfl (Wp _ _)) rfl)) ec) ?_);refine Z6 (Zf (Z5 rfl (Z5 (Yt (Z1 rfl rfl) (lenL_nats ps)) rfl (Wp _ 1)) (Wj c (ps.length+1) (by lia))) ?_);have ha:c % (ps.length+1)<=ps.length:=by have:=mod_lt c (show 0<ps.length+1 by lia);lia
  generalize c % (ps.length+1)=a at ha;refine Z6 (U1 (ds:=Zc ps) (as:=[.int (a:Int),.int (i:Int)]) rfl rfl (Rc ps a i ha (by lia)) ?_);have hl1:=K8 ps a i;have hc1:=Ds ps a i;generalize ps.take a++i::ps.drop a=qs at hl1 hc1;refine Z6 (Zf (Z5 (Z5 rfl rfl (Yn c 64 (by lia) (by lia))) (Z5 (Yt (Z1 rfl rfl) (lenL_nats qs)) rfl (Zcn _ a (by lia))) (Wj (c / 64) (qs.length - a) (by lia))) ?_);have hb:c / 64 % (qs.length - a)<qs.length - a:=mod_lt _ (by lia);generalize c / 64 % (qs.length - a)=b at hb;refine U1 (ds:=Zc qs) (as:=[.int ((a+1+b:Nat):Int),.int (i:Int)]) rfl (Z1 (Z5 (Z5 rfl rfl (Wp a 1)) rfl (Wp _ b)) (Z1 rfl rfl)) (Rc qs (a+1+b) i (by lia) (by lia)) ?_;have hl2:=K8 qs (a+1+b) i;have hc2:=Ds qs (a+1+b) i;refine ⟨_,_,_,_,_,rfl,by lia,fun v=>?_⟩;rw [hc2,hc1,ho.cnt];by_cases h1:i=v
  ·subst h1;rw [if_neg (by lia),if_pos rfl,if_pos (by lia)]
  ·rw [if_neg h1]
   by_cases h2:v<i
   ·rw [if_pos h2,if_pos (by lia)]
   ·rw [if_neg h2,if_neg (by lia)]
 ·rintro e ⟨ps,v4,v5,v6,v7,rfl,ho⟩
  rw [Th] at ho;exact Hf rfl ⟨ps,rfl,ho⟩
structure Prs (n m:Nat) (qs:List (Nat×Nat)):Prop where
 len:qs.length<=m
 lt:∀ q∈qs,q.1<q.2/\q.2<n
theorem Prs.app {n m m':Nat} {qs rs:List (Nat×Nat)} (h:Prs n m qs) (h':Prs n m' rs):Prs n (m+m') (qs++rs):=⟨by rw [length_append];have:=h.len;have:=h'.len;lia,fun q hq=>(mem_append.mp hq).elim (h.lt q) (h'.lt q)⟩
theorem Prs.sub {n m:Nat} {qs rs:List (Nat×Nat)} (h:Prs n m qs) (s:rs.Sublist qs):Prs n m rs:=⟨le_trans s.length_le h.len,fun q hq=>h.lt q (s.subset hq)⟩
theorem Prs.one {n:Nat} {q:Nat×Nat} (h1:q.1<q.2) (h2:q.2<n):Prs n 1 [q]:=⟨le_refl _,fun p hp=>by rw [mem_singleton.mp hp];exact ⟨h1,h2⟩⟩
theorem Prs.mono {n m m':Nat} {qs:List (Nat×Nat)} (h:Prs n m qs) (hm:m<=m'):Prs n m' qs:=⟨le_trans h.len hm,h.lt⟩
theorem Prs.nil (n m:Nat):Prs n m []:=⟨zero_le _,fun q hq=>by cases hq⟩
theorem Co (ns:List Int) (first many size:Nat) (hf:first<=1000) (hm:many<=100) (hs:0<size):∃ qs:List (Nat×Nat),Tj [Q1 ns,.int (first:Int),.int (many:Int),.int (size:Int)]=.ok (.lst (qs.map Zz))/\Prs size many qs:=by
 have:=Yl (n:=9) (p:=4) (ds:=[Q1 ns,.int (first:Int),.int (many:Int),.int (size:Int)]) (g:=Vh) (R:=fun d=>∃ qs:List (Nat×Nat),d=.lst (qs.map Zz)/\Prs size many qs) rfl ?_
 ·obtain ⟨d,e,z,rfl,h⟩:=this
  exact ⟨z,e,h⟩
 show Go (Vh [.fz (Q1 ns),.fz (.int (first:Int)),.fz (.int (many:Int)),.fz (.int (size:Int)),.un,.un,.un,.un,.un]) _ _;unfold Vh;refine Z6 (Q0 (ds:=([]:List (Nat×Nat)).map Zz) rfl ?_);refine Z6 (Vw (ds:=rng 0 many) (fun i e=>∃ (qs:List (Nat×Nat)) (v5 v6 v7 v8:Slt),e=[.fz (Q1 ns),.fz (.int (first:Int)),.fz (.int (many:Int)),.fz (.int (size:Int)),.ow (qs.map Zz),v5,v6,v7,v8]/\Prs size i qs) (Vc (Z1 rfl rfl) (by lia)) ⟨[],.un,.un,.un,.un,rfl,Prs.nil _ _⟩ ?_ ?_)
 ·rintro i d e hi ⟨qs,v5,v6,v7,v8,rfl,hq⟩
  obtain ⟨hi1,rfl⟩:=Jd hi;rw [Int.zero_add];refine ⟨_,rfl,?_⟩;obtain ⟨c,ec,lc⟩:=Jm ns (first+i) (by lia);refine Z6 (Zf (Zp (xs:=[Q1 ns,.int ((first+i:Nat):Int)]) (Z1 rfl (Z1 (Z5 rfl rfl (Wp _ _)) rfl)) ec) ?_);refine Z6 (Zf (Z5 rfl rfl (Wj c size hs)) ?_);refine Z6 (Zf (Z5 (Z5 rfl rfl (Yn c 64 (by lia) (by lia))) rfl (Wj _ size hs)) ?_);have ha:c % size<size:=mod_lt _ hs;have hb:c / 64 % size<size:=mod_lt _ hs;generalize c % size=a at ha;generalize c / 64 % size=b at hb;obtain ⟨z,hz⟩:=Nj (min a b,max a b) qs;have et:∀ env:Ev,env[7]?=some (.fz (.int (a:Int)))->env[8]?=some (.fz (.int (b:Int)))->Yb (Z2 (dF Z0q (Z2 (dV 7) (Z2 (dV 8) Zd))) (Z2 (dF Z0v (Z2 (dV 7) (Z2 (dV 8) Zd))) Zd)) env=some (Zz (min a b,max a b)):=fun env h7 h8=>by
   have e7:dV 7 env=some (.int (a:Int)):=by unfold dV;rw [h7]
   have e8:dV 8 env=some (.int (b:Int)):=by unfold dV;rw [h8]
   exact Zr (Z1 (Yt (Z1 e7 (Z1 e8 rfl)) (Zdj a b)) (Z1 (Yt (Z1 e7 (Z1 e8 rfl)) (Zdk a b)) rfl)) (by simp)
  refine Vq (Dl (Yd (Z5 rfl rfl (neN a b))) fun _=>Yd (Z5 (et _ rfl rfl) rfl hz)) (fun hb=>?_) (fun _=>W2 ⟨qs,_,_,_,_,rfl,hq.mono (by lia)⟩);have hne:a≠b:=by
   have:=(Bool.and_eq_true_iff.mp hb).1;simpa using this
  refine U1 (ds:=qs.map Zz) (as:=[Zz (min a b,max a b)]) (ds':=(qs++[(min a b,max a b)]).map Zz) rfl (Z1 (et _ rfl rfl) rfl) (by rw [Ve (by rw [length_map];have:=hq.len;lia),map_append];rfl) ⟨_,_,_,_,_,rfl,hq.app (Prs.one (by show min a b<max a b;lia) (by show max a b<_;lia))⟩
 ·rintro e ⟨qs,v5,v6,v7,v8,rfl,hq⟩
  rw [Th] at hq;exact Hf rfl ⟨qs,rfl,hq⟩
end K24
set_option maxHeartbeats 1000000
namespace K24
open PySem PySem.Spec PyProof.Rows L2
theorem Z4w (p q:Nat×Nat):Jf (Zz p) (Zz q)=decide (p=q):=by
 show (((p.1:Int)==(q.1:Int))&&(((p.2:Int)==(q.2:Int))&&true))=_;rw [Bool.eq_iff_iff];simp only [Bool.and_eq_true,beq_iff_eq,decide_eq_true_eq,and_true];constructor
 ·rintro ⟨h1,h2⟩;exact Prod.ext (by lia) (by lia)
 ·rintro rfl;exact ⟨rfl,rfl⟩
theorem Z6q (p q:Nat×Nat):neF (Zz p) (Zz q)=some (.bl (!decide (p=q))):=by
 unfold neF;rw [Hh,Hh,Z4w];rfl
theorem Xb (ps:List Nat) (t:Nat) (h:t<=ps.length):To (Zc ps) (some (t:Int)) none=Zc (ps.drop t):=by
 unfold Zc;rw [J8,J8,E5 ps t h]
theorem Hk (b:Bool):Jr (.int (if b then 1 else 0)) (.int 0)=some (.bl (!b)):=by cases b<;>rfl
theorem Z3e {a b k:Nat} (h1:a<2^k) (h2:b<2^k):a ||| b<2^k:=Nat.or_lt_two_pow h1 h2
theorem Z3i (ns:List Int) (first n many:Nat) (hf:first<=900) (hn1:1<=n) (hn2:n<=4) (hm:many<=5):∃ G:G3,Qf [Q1 ns,.int (first:Int),.int (n:Int),.int (many:Int)]=.ok G.d/\Gb 54 G/\∀ s∈G.steps,s.takes≠[]:=by
 have:=Yl (n:=24) (p:=4) (ds:=[Q1 ns,.int (first:Int),.int (n:Int),.int (many:Int)]) (g:=Vt) (R:=fun d=>∃ G:G3,d=G.d/\Gb 54 G/\∀ s∈G.steps,s.takes≠[]) rfl ?_
 ·obtain ⟨d,e,z,rfl,h⟩:=this
  exact ⟨z,e,h⟩
 show Go (Vt [.fz (Q1 ns),.fz (.int (first:Int)),.fz (.int (n:Int)),.fz (.int (many:Int)),.un,.un,.un,.un,.un,.un,.un,.un,.un,.un,.un,.un,.un,.un,.un,.un,.un,.un,.un,.un]) _ _;unfold Vt;obtain ⟨ps,eo,ho⟩:=Z3y ns first n (by lia) (by lia);have hpl:=ho.len;refine Z6 (Zf (Zp (xs:=[Q1 ns,.int (first:Int),.int (n:Int)]) rfl eo) ?_);refine Z6 (Zf (Z5 rfl rfl (Pe 2 n (by lia))) ?_);obtain ⟨m,hm0⟩:∃ m:Nat,2*n=m:=⟨_,rfl⟩;rw [hm0] at hpl ⊢;obtain ⟨c,ec,lc⟩:=Jm ns (first+n) (by lia);refine Z6 (Zf (Zp (xs:=[Q1 ns,.int ((first+n:Nat):Int)]) (Z1 rfl (Z1 (Z5 rfl rfl (Wp _ _)) rfl)) ec) ?_);obtain ⟨qs,eq,hq⟩:=Co ns (first+n+1) many m (by lia) (by lia) (by lia);refine Z6 (Zf (Zp (xs:=[Q1 ns,.int ((first+n+1:Nat):Int),.int (many:Int),.int (m:Int)]) (Z1 rfl (Z1 (Z5 (Z5 rfl rfl (Wp _ _)) rfl (Wp _ 1)) rfl)) eq) ?_);refine Z6 (Go.mono (N:=fun e=>∃ rs:List (Nat×Nat),e=[.fz (Q1 ns),.fz (.int (first:Int)),.fz (.int (n:Int)),.fz (.int (many:Int)),.fz (.lst (Zc ps)),.fz (.int (m:Int)),.fz (.int (c:Int)),.fz (.lst (rs.map Zz)),.un,.un,.un,.un,.un,.un,.un,.un,.un,.un,.un,.un,.un,.un,.un,.un]/\Prs m 12 rs) ?_ ?_ (fun _ h=>h))
 ·refine Vq (Yd (Z5 (Z5 rfl rfl (Wj c 3 (by lia))) rfl (A9 _ 0))) (fun _=>?_) (fun _=>W2 ⟨qs,rfl,hq.mono (by lia)⟩)
  obtain ⟨ks,hs,hc⟩:=Lu (g:=Yq 0) (t:=dB (dO G0 (Yb (Z2 (dV 0) (Z2 (dO Y8 (dV 0) (dC (.int 1))) Zd))) (dV 1))) (f:=Yb (Z2 (dV 0) (Z2 (dO Y8 (dV 0) (dC (.int 1))) Zd))) (env:=[.un,.fz (.lst (qs.map Zz))]) (fun k:Nat=>Dat.int (k:Int)) (fun k:Nat=>Zz (k,k+1)) (List.range (m - 1)) fun k _=>by
   obtain ⟨b,hb⟩:=Nj (k,k+1) qs;have et:Yb (Z2 (dV 0) (Z2 (dO Y8 (dV 0) (dC (.int 1))) Zd)) [.fz (.int (k:Int)),.fz (.lst (qs.map Zz))]=some (Zz (k,k+1)):=Zr (Z1 rfl (Z1 (Z5 rfl rfl (Wp k 1)) rfl)) (by simp);exact ⟨_,b,rfl,Yd (Z5 et rfl hb),et⟩
  rw [← O7] at hc;have hp:Prs m 7 (ks.map fun k=>(k,k+1)):=⟨by have:=hs.length_le;rw [length_range] at this;rw [length_map];lia,fun q hq=>by
   obtain ⟨k,hk,rfl⟩:=mem_map.mp hq;have:=mem_range.mp (hs.subset hk);exact ⟨by show k<k+1;lia,by show k+1<m;lia⟩⟩
  have hl1:=hq.len;have hl2:=hp.len;rw [length_map] at hl2;refine Zf (Z5 rfl (Wa (Ut (xs:=rng 0 (m - 1)) (Vc (Z1 (Z5 rfl rfl (Zcn m 1 (by lia))) rfl) (by lia)) rfl hc)) (Sd (by rw [length_map,length_map];lia))) ⟨qs++ks.map fun k=>(k,k+1),by rw [map_append,map_map];rfl,(hq.app hp).mono (by lia)⟩
 rintro e ⟨rs,rfl,hr⟩;clear eq hq qs;refine Z6 (Vw (ds:=rng 0 n) (fun i e=>∃ (rs:List (Nat×Nat)) (v8 v9 v10:Slt),e=[.fz (Q1 ns),.fz (.int (first:Int)),.fz (.int (n:Int)),.fz (.int (many:Int)),.fz (.lst (Zc ps)),.fz (.int (m:Int)),.fz (.int (c:Int)),.fz (.lst (rs.map Zz)),v8,v9,v10,.un,.un,.un,.un,.un,.un,.un,.un,.un,.un,.un,.un,.un]/\Prs m (12+i) rs/\∀ w,w<i->(L0 ps w,Ii ps w)∈rs) (Vc (Z1 rfl rfl) (by lia)) ⟨rs,.un,.un,.un,rfl,hr,fun w hw=>absurd hw (by lia)⟩ ?_ ?_)
 ·rintro i d e hi ⟨rs,v8,v9,v10,rfl,hr,hrg⟩
  obtain ⟨hi1,rfl⟩:=Jd hi;rw [Int.zero_add];refine ⟨_,rfl,?_⟩;have hmem:i∈ps:=ho.mem.mpr hi1;have hone:ps.idxOf i<ps.length:=List.idxOf_lt_length_of_mem hmem;have h2:=Z23 (ho.two hi1);have htw0:Ii ps i=ps.idxOf i+1+(ps.drop (ps.idxOf i+1)).idxOf i:=rfl;have hon0:L0 ps i=ps.idxOf i:=rfl;refine Z6 (Zf (Z7e rfl rfl rfl (Io ps i hmem)) ?_);generalize ps.idxOf i=one at hone h2 htw0 hon0;have htwo:(ps.drop (one+1)).idxOf i<(ps.drop (one+1)).length:=List.idxOf_lt_length_of_mem h2;rw [length_drop] at htwo;refine Z6 (Zf (Z5 (Z5 rfl rfl (Wp one 1)) (Z7e (x:=.lst (Zc (ps.drop (one+1)))) (Jx rfl (Wz (Z5 rfl rfl (Wp one 1))) rfl (by rw [E9,Xb ps _ (by lia)])) rfl rfl (Io _ i h2)) (Wp _ _)) ?_);generalize (ps.drop (one+1)).idxOf i=x2 at htwo htw0;have hc:=Ql (g:=Yq 0) (t:=dB (dO neF (dV 0) (Yb (Z2 (dV 1) (Z2 (dV 2) Zd))))) (f:=dV 0) (env:=[.un,.fz (.int (one:Int)),.fz (.int ((one+1+x2:Nat):Int))]) Zz Zz (fun q=>!decide (q=(one,one+1+x2))) rs fun q _ =>
   ⟨_,rfl,Yd (Z5 rfl (Zr rfl (by simp)) (Z6q q (one,one+1+x2))),rfl⟩
  have hs:(rs.filter fun q=>!decide (q=(one,one+1+x2))).Sublist rs:=List.filter_sublist;have hl:=hs.length_le;have hl2:=hr.len;refine Zf (Z5 (Wa (Ut (xs:=rs.map Zz) rfl rfl hc)) (Wa (Wh (xs:=[Zz (one,one+1+x2)]) (Z1 (Zr rfl (by simp)) rfl) (by simp))) (Sd (by rw [length_map];show _+1<=_;lia))) ⟨(rs.filter fun q=>!decide (q=(one,one+1+x2)))++[(one,one+1+x2)],_,_,_,by rw [map_append];rfl,?_,?_⟩
  ·exact ((hr.sub hs).app (Prs.one (by show one<one+1+x2;lia) (by show one+1+x2<m;lia))).mono (by lia)
  ·intro w hw
   by_cases e:(L0 ps w,Ii ps w)=(one,one+1+x2)
   ·rw [e];exact mem_append_right _ (mem_singleton.mpr rfl)
   ·have hwi:w<i:=by
     rcases lt_or_ge w i with h | h
     ·exact h
     ·have:w=i:=by lia
      subst this;exact absurd (Prod.ext hon0 htw0) e
    exact mem_append_left _ (mem_filter.mpr ⟨hrg w hwi,by rw [decide_eq_false e];rfl⟩)
 rintro e ⟨rs,v8,v9,v10,rfl,hr,hrg⟩;rw [Th] at hr hrg;refine Z6 (C7 (ds:=Zc ps) rfl ?_);refine Z6 (C7 (ds:=Zc ps) rfl ?_);rw [length_map,length_map,hpl,Z4d];refine Z6 (Zf (d:=.int ((0:Nat):Int)) rfl ?_);refine Z6 (Zf (Z5 (Z5 rfl rfl (Yn c 3 (by lia) (by lia))) rfl (Wj _ 20 (by lia))) ?_);have hs0:c / 3 % 20<20:=mod_lt _ (by lia);generalize c / 3 % 20=s0 at hs0;refine Z6 (Vw (ds:=rs.map Zz) (fun i e=>∃ (tk fl:List (List Nat)) (mk:Nat) (v15 v16:Slt),e=[.fz (Q1 ns),.fz (.int (first:Int)),.fz (.int (n:Int)),.fz (.int (many:Int)),.fz (.lst (Zc ps)),.fz (.int (m:Int)),.fz (.int (c:Int)),.fz (.lst (rs.map Zz)),v8,v9,v10,.gx (.nest (tk.map Zc)),.gx (.nest (fl.map Zc)),.fz (.int (mk:Int)),.fz (.int ((s0+2*i:Nat):Int)),v15,v16,.un,.un,.un,.un,.un,.un,.un]/\tk.length=m/\fl.length=m/\Nst (2*i) (s0+2*i) tk/\Nst (2*i) (s0+2*i) fl/\mk<2^(s0+2*i)/\(∀ l∈tk,l.Nodup)/\(∀ l∈fl,l.Nodup)/\NS s0 (rs.take i) (·.2) (·.1) tk) rfl ⟨_,_,0,.un,.un,rfl,length_replicate,length_replicate,(Nst.nil m).mono (by lia) (by lia),(Nst.nil m).mono (by lia) (by lia),two_pow_pos _,fun l h=>by rw [(mem_replicate.mp h).2];exact nodup_nil,fun l h=>by rw [(mem_replicate.mp h).2];exact nodup_nil,by rw [List.take_zero];exact NS.nil _ _ _ _⟩ ?_ ?_)
 ·rintro i d e hi ⟨tk,fl,mk,v15,v16,rfl,htl,hfl,ht,hfk,hmk,ndt,ndf,nst⟩
  rw [getElem?_map] at hi;obtain ⟨q,hq,rfl⟩:=map_some hi;have hil:=(List.getElem?_eq_some_iff.mp hq).1;have hql:=hr.lt q (mem_of_getElem? hq);have hrl:=hr.len;refine ⟨_,rfl,?_⟩;have ht1:=ht.mono (le_refl _) (show s0+2*i<=s0+2*i+2 by lia);have hf1:=hfk.mono (le_refl _) (show s0+2*i<=s0+2*i+2 by lia);refine Z6 (Hd rfl hf1 (by lia) (k:=q.1) (by lia) rfl rfl ?_);refine Z6 (Hd rfl ht1 (by lia) (k:=q.2) (by lia) rfl rfl ?_);have ht2:=ht1.app q.2 (s0+2*i) (by lia);have hf2:=hf1.app q.1 (s0+2*i) (by lia);refine Z6 (Hd (x:=s0+2*i+1) rfl hf2 (by lia) (k:=q.2) (by rw [Qm];lia) rfl rfl ?_);refine Z6 (Hd (x:=s0+2*i+1) rfl ht2 (by lia) (k:=q.1) (by rw [Qm];lia) rfl rfl ?_);have ht3:=ht2.app q.1 (s0+2*i+1) (by lia);have hf3:=hf2.app q.2 (s0+2*i+1) (by lia);have htb:=(ht.mono (le_refl _) (show s0+2*i<=s0+2*i+1 by lia)).app q.2 (s0+2*i) (by lia);have hfb:=(hfk.mono (le_refl _) (show s0+2*i<=s0+2*i+1 by lia)).app q.1 (s0+2*i) (by lia);have hti:(rs.take i).length=i:=by rw [length_take];lia
  have htk1:rs.take (i+1)=rs.take i++[q]:=by rw [take_succ,hq];rfl
  refine Z6 (Zf (Z5 rfl (Z5 rfl (Z5 rfl rfl (Wp _ 1)) (D6 (s0+2*i+1) (by lia))) (orN mk _)) ?_);refine Zf (Z5 rfl rfl (Wp _ 2)) ⟨_,_,_,_,_,rfl,by rw [Qm,Qm,htl],by rw [Qm,Qm,hfl],ht3.mono (by lia) (by lia),hf3.mono (by lia) (by lia),?_,?_,?_,?_⟩
  ·exact Z3e (lt_of_lt_of_le hmk (pow_le_pow_right (by lia) (by lia))) (Nat.pow_lt_pow_right (by lia) (by lia))
  ·exact O3 htb (O3 ht ndt _ _ (le_refl _)) _ _ (le_refl _)
  ·exact O3 hfb (O3 hfk ndf _ _ (le_refl _)) _ _ (le_refl _)
  ·have:=nst.app q (by show q.2<_;lia) (by show q.1<_;lia)
   rw [hti] at this;rw [htk1];exact this
 rintro e ⟨tk,fl,mk,v15,v16,rfl,htl,hfl,ht,hfk,hmk,ndt,ndf,nst⟩;rw [length_map] at ht hfk hmk nst ⊢;rw [take_of_length_le (le_refl _)] at nst;have hrl:=hr.len;have ht:=ht.mono (L':=32) (B':=54) (by lia) (by lia);have hfk:=hfk.mono (L':=32) (B':=54) (by lia) (by lia);have hmk:mk<2^54:=lt_of_lt_of_le hmk (pow_le_pow_right (by lia) (by lia));refine Z6 (Zf (Z5 (Z5 rfl rfl (Yn c 60 (by lia) (by lia))) (Z5 rfl rfl (D6 n (by lia))) (Wj _ (2^n) (two_pow_pos _))) ?_);generalize c / 60 % 2^n=code;refine Z6 (Zf rfl ?_);refine Z6 (Q0 (ds:=([]:List St3).map St3.d) rfl ?_);generalize (s0+2*rs.length)=s9;refine Z6 (Vw (ds:=G1 0 (Zc ps)) (fun i e=>∃ (ss:List St3) (seen:Nat) (v8 v20:Slt),e=[.fz (Q1 ns),.fz (.int (first:Int)),.fz (.int (n:Int)),.fz (.int (many:Int)),.fz (.lst (Zc ps)),.fz (.int (m:Int)),.fz (.int (c:Int)),.fz (.lst (rs.map Zz)),v8,v9,v10,.gx (.nest (tk.map Zc)),.gx (.nest (fl.map Zc)),.fz (.int (mk:Int)),.fz (.int (s9:Int)),v15,v16,.fz (.int (code:Int)),.fz (.int (seen:Int)),.ow (ss.map St3.d),v20,.un,.un,.un]/\ss.length=i/\∀ s∈ss,SB 54 n s/\s.takes≠[]) rfl ⟨[],code,v8,.un,rfl,rfl,by simp⟩ ?_ ?_)
 ·rintro i d e hi ⟨ss,seen,v8,v20,rfl,hsl,hsk⟩
  obtain ⟨x,hx,rfl⟩:=Ep hi;obtain ⟨w,hw,rfl⟩:=M2 hx;have hil:=(List.getElem?_eq_some_iff.mp hw).1;have hwn:w<n:=ho.mem.mp (mem_of_getElem? hw);refine ⟨_,rfl,?_⟩;have e1:tk[i]?=some tk[i]:=getElem?_eq_getElem (by lia);have e2:fl[i]?=some fl[i]:=getElem?_eq_getElem (by lia);have n1:=nst i;rw [show tk.getD i []=tk[i] by rw [List.getD,e1];rfl] at n1;generalize htk:tk[i]=tl at e1 n1;generalize hfl':fl[i]=fl' at e2;have t1:=ht.len _ (mem_of_getElem? e1);have t2:=ht.lt _ (mem_of_getElem? e1);have f1:=hfk.len _ (mem_of_getElem? e2);have f2:=hfk.lt _ (mem_of_getElem? e2);obtain ⟨ta,ea,pa⟩:=Qc tl (by lia);obtain ⟨fa,eb,pb⟩:=Qc fl' (by lia);refine Z6 (U1 (ds:=ss.map St3.d) (as:=[(⟨w,!(seen.testBit w),ta,fa⟩:St3).d]) (ds':=(ss++[(⟨w,!(seen.testBit w),ta,fa⟩:St3)]).map St3.d) rfl (Z1 (Zr (Z1 rfl (Z1 (Z5 (Z5 (Z5 rfl rfl (P0 seen w)) rfl (So seen w)) rfl (Hk _)) (Z1 (Yt (Z1 (Wa (Yt (Z1 (Br rfl rfl e1) rfl) ea)) rfl) rfl) (Z1 (Yt (Z1 (Wa (Yt (Z1 (Br rfl rfl e2) rfl) eb)) rfl) rfl) rfl)))) (by simp)) rfl) ?_ ?_)
  ·rw [Ve (by rw [length_map];lia),map_append];rfl
  ·refine Zf (Z5 rfl (Z5 rfl rfl (D6 w (by lia))) (Zc2 seen _)) ⟨_,_,_,_,rfl,by rw [length_append,length_singleton,hsl],fun s hs=>?_⟩
   rcases mem_append.mp hs with h | h
   ·exact hsk s h
   ·rw [mem_singleton.mp h]
    refine ⟨⟨hwn,fun p hp=>t2 p (pa.mem_iff.mp hp),fun p hp=>f2 p (pb.mem_iff.mp hp),pa.nodup_iff.mpr (ndt _ (mem_of_getElem? e1)),pb.nodup_iff.mpr (ndf _ (mem_of_getElem? e2))⟩,fun z=>?_⟩;have z:ta=[]:=z;rw [z] at pa;have ztl:=pa.nil_eq;rw [← ztl] at n1;obtain ⟨t,ht⟩:=List.getElem?_of_mem (hrg w hwn);rcases Zcg hw (ho.two hwn) with ⟨_,h2⟩ | ⟨_,h2⟩
    ·have:=(n1 (s0+2*t+1)).mpr ⟨t,_,ht,.inr ⟨rfl,h2.symm⟩⟩
     cases this
    ·have:=(n1 (s0+2*t)).mpr ⟨t,_,ht,.inl ⟨rfl,h2.symm⟩⟩
     cases this
 rintro e ⟨ss,seen,v8,v20,rfl,hsl,hsk⟩;rw [Qs,length_map,length_map] at hsl;refine Z6 (Zf (Z5 (Z5 rfl rfl (Yn c 2000 (by lia) (by lia))) rfl (Wj _ m (by lia))) ?_);have htn:c / 2000 % m<m:=mod_lt _ (by lia);generalize c / 2000 % m=t at htn;refine Z6 (Q0 (ds:=(ss.drop t++ss.take t).map St3.d) (by
  refine Z5 (Jx rfl (Wz rfl) rfl (E9 _ _ _)) (Jx rfl rfl (Wz rfl) (E9 _ _ _)) ?_;rw [J8,J8,E5 ss t (by lia),Dh ss t (by lia),Z5j (by rw [length_map,length_map,length_drop,length_take];lia),map_append]) ?_)
 refine Z6 (Zf (Z5 rfl rfl (Yn c 40000 (by lia) (by lia))) ?_);obtain ⟨ws,ew,wl,_⟩:=Iz (g:=Yq 0) (f:=Yb (Z2 (W1 W8 (Z2 (dV 1) (Z2 (dV 0) Zd))) (Z2 (dO Wi (dL (Vi (Z2 (dC (.str "given")) (Z2 (dC (.str "made")) Zd)))) (dO W3 (dO Ya (W1 Y7 (Z2 (dV 2) (Z2 (dO Y8 (dV 3) (dV 0)) Zd))) (dC (.int 4096))) (dC (.int 2)))) Zd))) (env:=[.un,.fz (.int ((c / 40000:Nat):Int)),.fz (Q1 ns),.fz (.int (first:Int))]) Tz (fun _=>True) (rng 0 n) fun x hx=>by
  obtain ⟨i,hi,rfl⟩:=C4 hx;rw [Int.zero_add];obtain ⟨z,ez⟩:=Hg (c / 40000) i;obtain ⟨r,er,_⟩:=Jm ns (first+i) (by lia);have p1:=Zb2 (.str "given") (.str "made") (j:=((r / 4096 % 2:Nat):Int)) (by lia) (by lia);refine ⟨[.fz (.int (i:Int)),.fz (.int ((c / 40000:Nat):Int)),.fz (Q1 ns),.fz (.int (first:Int))],(z,decide (((r / 4096 % 2:Nat):Int)=1)),rfl,?_,trivial⟩;refine Eq.trans (Zr (Z1 (Zp (xs:=[.int ((c / 40000:Nat):Int),.int (i:Int)]) rfl ez) (Z1 (Z5 (x:=.lst [.str "given",.str "made"]) rfl (Z5 (Z5 (Zp (xs:=[Q1 ns,.int ((first+i:Nat):Int)]) (Z1 rfl (Z1 (Z5 rfl rfl (Wp _ _)) rfl)) er) rfl (Yn r 4096 (by lia) (by lia))) rfl (Wj _ 2 (by lia))) p1) rfl)) (by simp)) ?_;show some (Dat.tup [.str z,if ((r / 4096 % 2:Nat):Int)=1 then .str "made" else .str "given"])=some (Dat.tup [.str z,.str (if decide (((r / 4096 % 2:Nat):Int)=1)=true then "made" else "given")]);by_cases hb:((r / 4096 % 2:Nat):Int)=1
  ·rw [if_pos hb,decide_eq_true hb];rfl
  ·rw [if_neg hb,decide_eq_false hb];rfl
 rw [Th] at wl;refine Z6 (Zf (d:=.lst (ws.map Tz)) (Wa (Ut (xs:=rng 0 n) (Vc (Z1 rfl rfl) (by lia)) rfl ew)) ?_);have hperm:(ss.drop t++ss.take t).Perm ss:=by
  have:=List.perm_append_comm (l₁:=ss.drop t) (l₂:=ss.take t);rw [List.take_append_drop] at this;exact this
 have hlen:=hperm.length_eq;refine Yi (Zr (Z1 (Yt (Z1 rfl rfl) rfl) (Z1 (Yt (Z1 rfl rfl) rfl) rfl)) (by simp)) ⟨⟨ws,ss.drop t++ss.take t,mk,code⟩,rfl,?_,fun s hs=>(hsk s (hperm.mem_iff.mp hs)).2⟩;exact { w2:=by show ws.length<=10;lia,s1:=by show 1<=(ss.drop t++ss.take t).length;lia,s2:=by show (ss.drop t++ss.take t).length<=24;lia,st:=fun s hs=>by show SB 54 ws.length s;rw [wl];exact (hsk s (hperm.mem_iff.mp hs)).1,mks:=hmk }
theorem stp {f1 f2 f3 f4:Ev->Option Dat} {env:Ev} {w p q:Nat} {u:Bool} (h1:f1 env=some (.int (w:Int))) (h2:f2 env=some (.bl u)) (h3:f3 env=some (.int (p:Int))) (h4:f4 env=some (.int (q:Int))):Yb (Z2 f1 (Z2 f2 (Z2 (Yb (Z2 f3 Zd)) (Z2 (Yb (Z2 f4 Zd)) Zd)))) env=some (⟨w,u,[p],[q]⟩:St3).d :=
 Zr (Z1 h1 (Z1 h2 (Z1 (Zr (Z1 h3 rfl) (by simp)) (Z1 (Zr (Z1 h4 rfl) (by simp)) rfl)))) (by simp)
theorem Zbq {j:Nat} (h:j<3):∃ b:Bool,Wi (.lst [.str "given",.str "given",.str "made"]) (.int (j:Int))=some (.str (if b then "made" else "given")):=by
 rcases (show j=0\/j=1\/j=2 by lia) with rfl | rfl | rfl
 ·exact ⟨false,rfl⟩
 ·exact ⟨false,rfl⟩
 ·exact ⟨true,rfl⟩
theorem S4 {α:Type} (f:α->Dat) (xs:List α):Qr [.lst (xs.map f)]=some (.int ((xs.length:Nat):Int)):=by
 show some (Dat.int ((xs.map f).length:Int))=_;rw [length_map]
theorem Z35 (c:Nat):Qu (.int (c:Int)) (.int 1)=some (.int (if c.testBit 0 then 1 else 0)):=by
 have:=So c 0;rw [Nat.pow_zero,Nat.div_one] at this;exact this
def S1 (K:Nat) (s:St3):Prop:=SB 54 (K+1) s/\s.takes≠[]
theorem Xo {K w x y:Nat} {u:Bool} (hx:x<54) (hy:y<54) (hw:w<K+1):S1 K ⟨w,u,[x],[y]⟩:=⟨⟨hw,by simpa using hx,by simpa using hy,by simp,by simp⟩,by simp⟩
theorem Ct (ns:List Int) (first:Nat) (hf:first<=900):∃ G:G3,Tl [Q1 ns,.int (first:Int)]=.ok G.d/\Gb 54 G/\∀ s∈G.steps,s.takes≠[]:=by
 have:=Yl (n:=13) (p:=2) (ds:=[Q1 ns,.int (first:Int)]) (g:=Vg) (R:=fun d=>∃ G:G3,d=G.d/\Gb 54 G/\∀ s∈G.steps,s.takes≠[]) rfl ?_
 ·obtain ⟨d,e,z,rfl,h⟩:=this
  exact ⟨z,e,h⟩
 show Go (Vg [.fz (Q1 ns),.fz (.int (first:Int)),.un,.un,.un,.un,.un,.un,.un,.un,.un,.un,.un]) _ _;unfold Vg;obtain ⟨c,ec,lc⟩:=Jm ns first (by lia);refine Z6 (Zf (Zp (xs:=[Q1 ns,.int (first:Int)]) rfl ec) ?_);refine Z6 (Zf (Z5 (Z5 rfl rfl (Yn c 4 (by lia) (by lia))) rfl (Wj _ 20 (by lia))) ?_);have hb0:c / 4 % 20<20:=mod_lt _ (by lia);generalize c / 4 % 20=base at hb0;refine Z6 (Zf (Z5 (Z5 rfl rfl (Yn c 80 (by lia) (by lia))) rfl (Wj _ 32 (by lia))) ?_);generalize c / 80 % 32=code;refine Z6 (Zf (d:=.lst (([]:List St3).map St3.d)) rfl ?_);obtain ⟨z0,ez0⟩:=Hg (c / 2560) 0;refine Z6 (Q0 (ds:=[(z0,true)].map Tz) (Wh (Z1 (Zr (Z1 (Zp (xs:=[.int ((c / 2560:Nat):Int),.int ((0:Nat):Int)]) (Z1 (Z5 rfl rfl (Yn c 2560 (by lia) (by lia))) rfl) ez0) rfl) (by simp)) rfl) (by simp)) ?_);obtain ⟨K,hK⟩:∃ K:Nat,1+c % 4=K:=⟨_,rfl⟩;have hK1:1<=K/\K<=4:=by lia
 obtain ⟨f,hf0⟩:∃ f:Nat,c / 40 % 2=f:=⟨_,rfl⟩;have hf1:f<=1:=by lia
 refine Z6 (Vw (ds:=rng 0 K) (fun i e=>∃ (ss:List St3) (ws:List (Str×Bool)) (v7 v8 v9 v10 v11:Slt),e=[.fz (Q1 ns),.fz (.int (first:Int)),.fz (.int (c:Int)),.fz (.int (base:Int)),.fz (.int (code:Int)),.fz (.lst (ss.map St3.d)),.ow (ws.map Tz),v7,v8,v9,v10,v11,.un]/\ws.length=i+1/\i<=ss.length/\ss.length<=4*i/\∀ s∈ss,S1 K s) (Vc (Z1 (Z5 rfl (Z5 rfl rfl (Wj c 4 (by lia))) (by rw [← hK];exact Wp 1 _)) rfl) (by lia)) ⟨[],[(z0,true)],.un,.un,.un,.un,.un,rfl,rfl,le_refl _,le_refl _,by simp⟩ ?_ ?_)
 ·rintro i d e hi ⟨ss,ws,v7,v8,v9,v10,v11,rfl,hwl,hs1,hs2,hgd⟩
  obtain ⟨hi1,rfl⟩:=Jd hi;rw [Int.zero_add];refine ⟨_,rfl,?_⟩;obtain ⟨r,er,_⟩:=Jm ns (first+1+i) (by lia);refine Z6 (Zf (Zp (xs:=[Q1 ns,.int ((first+1+i:Nat):Int)]) (Z1 rfl (Z1 (Z5 (Z5 rfl rfl (Wp _ 1)) rfl (Wp _ _)) rfl)) er) ?_);refine Z6 (Zf (d:=.int ((1+i*f:Nat):Int)) (Z5 rfl (Z5 rfl (Z5 (Z5 rfl rfl (Yn c 40 (by lia) (by lia))) rfl (Wj _ 2 (by lia))) (by rw [hf0];exact Z31 i f (by lia))) (Wp 1 _)) ?_);obtain ⟨x,hx⟩:∃ x:Nat,1+i*f=x:=⟨_,rfl⟩;have hxK:1<=x/\x<K+1:=by
   rcases (show f=0\/f=1 by lia) with rfl | rfl<;>lia
  rw [hx];refine Z6 (Zf (Z5 (Z5 (Z5 rfl rfl (P0 code x)) rfl (So code x)) rfl (Hk _)) ?_);refine Z6 (Zf (Z5 (Z5 rfl rfl (Wp base 1)) (Z5 rfl rfl (Pe 3 i (by lia))) (Wp _ _)) ?_);obtain ⟨sp,hsp⟩:∃ sp:Nat,base+1+3*i=sp:=⟨_,rfl⟩;rw [hsp];obtain ⟨z,ez⟩:=Hg (c / 2560) (i+1);obtain ⟨b,hb⟩:=Zbq (j:=r % 3*(c / 20 % 2)) (by
   have h1:r % 3<3:=mod_lt _ (by lia);rcases (show c / 20 % 2=0\/c / 20 % 2=1 by lia) with h | h<;>rw [h]<;>lia)
  refine Z6 (U1 (ds:=ws.map Tz) (as:=[Tz (z,b)]) (ds':=(ws++[(z,b)]).map Tz) rfl (Z1 (Zr (Z1 (Zp (xs:=[.int ((c / 2560:Nat):Int),.int ((i+1:Nat):Int)]) (Z1 (Z5 rfl rfl (Yn c 2560 (by lia) (by lia))) (Z1 (Z5 rfl rfl (Wp i 1)) rfl)) ez) (Z1 (Z5 (x:=.lst [.str "given",.str "given",.str "made"]) rfl (Z5 (Z5 rfl rfl (Wj r 3 (by lia))) (Z5 (Z5 rfl rfl (Yn c 20 (by lia) (by lia))) rfl (Wj _ 2 (by lia))) (Z31 _ _ (by lia))) hb) rfl)) (by simp)) rfl) (by rw [Ve (by rw [length_map];lia),map_append];rfl) ?_);have gA:S1 K ⟨x,!code.testBit x,[base],[sp]⟩:=Xo (by lia) (by lia) hxK.2;have hm:∀ (s1 s2:St3),Y8 (.lst (ss.map St3.d)) (.lst [s1.d,s2.d])=some (.lst ((ss++[s1,s2]).map St3.d)):=fun s1 s2=>by
   rw [Sd (by rw [length_map];show _+2<=_;lia),map_append];rfl
  refine Vq (Yd (Z5 (Z5 (Z5 rfl rfl (Yn r 3 (by lia) (by lia))) rfl (Wj _ 3 (by lia))) rfl (A9 _ 0))) (fun _=>?_) (fun _=>?_)
  ·have gB:S1 K ⟨x,!!code.testBit x,[sp],[base]⟩:=Xo (by lia) (by lia) hxK.2
   refine Zf (Z5 rfl (Wa (Wh (Z1 (stp rfl rfl rfl rfl) (Z1 (stp rfl rfl rfl rfl) rfl)) (by simp))) (hm _ _)) ⟨_,_,_,_,_,_,_,rfl,by rw [length_append,length_singleton];lia,by rw [length_append];show _<=_+2;lia,by rw [length_append];show _+2<=_;lia,fun s hs=>?_⟩;rcases mem_append.mp hs with h | h
   ·exact hgd s h
   ·rcases mem_cons.mp h with rfl | h
    ·exact gA
    ·rw [mem_singleton.mp h];exact gB
  ·have gC:S1 K ⟨0,!code.testBit 0,[sp],[sp+1]⟩:=Xo (by lia) (by lia) (by lia)
   have gD:S1 K ⟨x,!!code.testBit x,[sp+1],[sp+2]⟩:=Xo (by lia) (by lia) hxK.2;have gE:S1 K ⟨0,code.testBit 0,[sp+2],[base]⟩:=Xo (by lia) (by lia) (by lia);refine Z6 (Zf (Z5 rfl (Wa (Wh (Z1 (stp rfl rfl rfl rfl) (Z1 (stp (w:=0) rfl (Z5 (Z5 rfl rfl (Z35 code)) rfl (Hk _)) rfl (Z5 rfl rfl (Wp sp 1))) rfl)) (by simp))) (hm _ _)) ?_);have hm2:∀ (s1 s2 s3 s4:St3),Y8 (.lst ((ss++[s1,s2]).map St3.d)) (.lst [s3.d,s4.d])=some (.lst ((ss++[s1,s2,s3,s4]).map St3.d)):=fun s1 s2 s3 s4=>by
    rw [Sd (by rw [length_map,length_append];show _+2+2<=_;lia),map_append,map_append,List.append_assoc];rfl
   refine Zf (Z5 rfl (Wa (Wh (Z1 (stp rfl rfl (Z5 rfl rfl (Wp sp 1)) (Z5 rfl rfl (Wp sp 2))) (Z1 (stp (w:=0) rfl (Z5 (Z5 rfl rfl (Z35 code)) rfl (Ro _)) (Z5 rfl rfl (Wp sp 2)) rfl) rfl)) (by simp))) (hm2 _ _ _ _)) ⟨_,_,_,_,_,_,_,rfl,by rw [length_append,length_singleton];lia,by rw [length_append];show _<=_+4;lia,by rw [length_append];show _+4<=_;lia,fun s hs=>?_⟩;rcases mem_append.mp hs with h | h
   ·exact hgd s h
   ·rcases mem_cons.mp h with rfl | h
    ·exact gA
    rcases mem_cons.mp h with rfl | h
    ·exact gC
    rcases mem_cons.mp h with rfl | h
    ·exact gD
    ·rw [mem_singleton.mp h];exact gE
 rintro e ⟨ss,ws,v7,v8,v9,v10,v11,rfl,hwl,hs1,hs2,hgd⟩;rw [Th] at hwl hs1 hs2;refine Z6 (Zf (Z5 (Z5 rfl rfl (Yn c 7 (by lia) (by lia))) (Yt (Z1 rfl rfl) (S4 St3.d ss)) (Wj _ ss.length (by lia))) ?_);have ht:c / 7 % ss.length<ss.length:=mod_lt _ (by lia);generalize c / 7 % ss.length=t at ht;have hperm:(ss.drop t++ss.take t).Perm ss:=by
  have:=List.perm_append_comm (l₁:=ss.drop t) (l₂:=ss.take t);rw [List.take_append_drop] at this;exact this
 have hlen:=hperm.length_eq;refine Yi (Zr (Z1 (Yt (Z1 rfl rfl) rfl) (Z1 (Yt (Z1 (x:=.lst ((ss.drop t++ss.take t).map St3.d)) (Z5 (Jx rfl (Wz rfl) rfl (E9 _ _ _)) (Jx rfl rfl (Wz rfl) (E9 _ _ _)) (by
  rw [J8,J8,E5 ss t (by lia),Dh ss t (by lia),Sd (by rw [length_map,length_map,length_drop,length_take];lia),map_append])) rfl) rfl) (Z1 (Z5 rfl rfl (D6 base (by lia))) (Z1 (Z5 rfl (Z5 rfl (Yt (Z1 rfl rfl) (S4 Tz ws)) (D6 ws.length (by lia))) (Wj _ _ (two_pow_pos _))) rfl)))) (by simp)) ⟨⟨ws,ss.drop t++ss.take t,2^base,code % 2^ws.length⟩,rfl,?_,fun s hs=>(hgd s (hperm.mem_iff.mp hs)).2⟩
 exact { w2:=by show ws.length<=10;lia,s1:=by show 1<=(ss.drop t++ss.take t).length;lia,s2:=by show (ss.drop t++ss.take t).length<=24;lia,st:=fun s hs=>by show SB 54 ws.length s;rw [hwl];exact (hgd s (hperm.mem_iff.mp hs)).1,mks:=Nat.pow_lt_pow_right (by lia) (by lia) }
theorem Qp (a b:List Nat):Zc a++Zc b=Zc (a++b):=by unfold Zc;rw [map_append,map_append]
structure LkS (G:G3) (z:Nat) (s':St3):Prop where
 a:∃ s∈G.steps,∃ b:Bool,s'.w=s.w/\s'.up=s.up/\z∉s.takes/\z∉s.fills/\(∀ q,q∈s'.takes↔q∈s.takes\/(b=true/\q=z))/\(∀ q,q∈s'.fills↔q∈s.fills\/(b=true/\q=z))
 b:SB 64 G.wires.length s'
theorem F5 {B:Nat} {l l':List Nat} {z:Nat} (hb:∀ p∈l,p<B) (hB:B<=64) (hz:z<64) (hn:l.Nodup) (hzl:z∉l) (e:l'.Perm (l++[z])):(∀ p∈l',p<64)/\l'.Nodup/\∀ q,q∈l'↔q∈l\/(true=true/\q=z):=by
 refine ⟨fun p hp=>?_,?_,fun q=>?_⟩
 ·rcases mem_append.mp (e.mem_iff.mp hp) with h | h
  ·have:=hb p h;lia
  ·rw [mem_singleton.mp h];exact hz
 ·refine e.nodup_iff.mpr (nodup_append.mpr ⟨hn,nodup_cons.mpr ⟨by simp,nodup_nil⟩,fun a ha b hb'=>?_⟩)
  rw [mem_singleton.mp hb'];rintro rfl;exact hzl ha
 ·rw [e.mem_iff];simp
theorem Xy (G:G3) (hG:Gb 54 G) (c:Nat):∃ (G':G3) (z:Nat),Uu [G.d,.int (c:Int)]=.ok G'.d/\LookG G G' z/\Gb 64 G':=by
 have:=Yl (n:=15) (p:=2) (ds:=[G.d,.int (c:Int)]) (g:=Ww) (R:=fun d=>∃ (G':G3) (z:Nat),d=G'.d/\LookG G G' z/\Gb 64 G') rfl ?_
 ·obtain ⟨d,e,z,b,rfl,h⟩:=this
  exact ⟨z,b,e,h⟩
 show Go (Ww [.fz G.d,.fz (.int (c:Int)),.un,.un,.un,.un,.un,.un,.un,.un,.un,.un,.un,.un,.un]) _ _;unfold Ww;refine Z6 (P5 (d:=G.d) (env':=[.fz G.d,.fz (.int (c:Int)),.fz (.tup (G.wires.map Tz)),.fz (.tup (G.steps.map St3.d)),.fz (.int (G.marks:Int)),.fz (.int (G.code:Int)),.un,.un,.un,.un,.un,.un,.un,.un,.un]) rfl rfl ?_);refine Z6 (Zf rfl ?_);refine Z6 (Vw (ds:=G.steps.map St3.d) (fun i e=>∃ (th:Nat) (v7 v8:Slt),e=[.fz G.d,.fz (.int (c:Int)),.fz (.tup (G.wires.map Tz)),.fz (.tup (G.steps.map St3.d)),.fz (.int (G.marks:Int)),.fz (.int (G.code:Int)),.fz (.int (th:Int)),v7,v8,.un,.un,.un,.un,.un,.un]/\th<2^54/\(∀ j,G.marks.testBit j=true->th.testBit j=true)/\∀ s∈G.steps.take i,∀ j,j∈s.takes\/j∈s.fills->th.testBit j=true) (Qa rfl) ⟨G.marks,.un,.un,rfl,hG.mks,fun j h=>h,fun s hs=>by simp at hs⟩ ?_ ?_)
 ·rintro i d e hi ⟨th,v7,v8,rfl,h1,h2,h3⟩
  rw [getElem?_map] at hi;obtain ⟨s,hs,rfl⟩:=map_some hi;have hsb:=hG.st s (mem_of_getElem? hs);refine ⟨_,rfl,?_⟩;have hlt:s.takes.length<=54:=En hsb.tn hsb.t;have hlf:s.fills.length<=54:=En hsb.fn hsb.f;have hadd:Ri (.tup (Zc s.takes)) (.tup (Zc s.fills))=some (.tup (Zc (s.takes++s.fills))):=by
   rw [Me (by unfold Zc;rw [length_map,length_map,length_map,length_map];lia),Qp]
  refine Vw (ds:=Zc (s.takes++s.fills)) (fun k e=>∃ (th':Nat) (v8:Slt),e=[.fz G.d,.fz (.int (c:Int)),.fz (.tup (G.wires.map Tz)),.fz (.tup (G.steps.map St3.d)),.fz (.int (G.marks:Int)),.fz (.int (G.code:Int)),.fz (.int (th':Int)),.fz s.d,v8,.un,.un,.un,.un,.un,.un]/\th'<2^54/\(∀ j,th.testBit j=true->th'.testBit j=true)/\∀ j∈(s.takes++s.fills).take k,th'.testBit j=true) (Qa (Z5 (Z5 rfl rfl rfl) (Z5 rfl rfl rfl) hadd)) ⟨th,_,rfl,h1,fun j h=>h,fun j hj=>by simp at hj⟩ ?_ ?_
  ·rintro k d e hk ⟨th',v8,rfl,g1,g2,g3⟩
   obtain ⟨p,hp,rfl⟩:=M2 hk;have hp54:p<54:=by
    rcases mem_append.mp (mem_of_getElem? hp) with h | h
    ·exact hsb.t p h
    ·exact hsb.f p h
   refine ⟨_,rfl,?_⟩;refine Zf (Z5 rfl (Z5 rfl rfl (D6 p (by lia))) (orN th' _)) ⟨_,_,rfl,Z3e g1 (Nat.pow_lt_pow_right (by lia) hp54),fun j h=>by rw [testBit_or,g2 j h];rfl,fun j hj=>?_⟩;rw [take_succ,hp] at hj;rcases mem_append.mp hj with h | h
   ·rw [testBit_or,g3 j h];rfl
   ·have:j=p:=mem_singleton.mp h
    rw [this,testBit_or,testBit_two_pow,decide_eq_true rfl,Bool.or_true]
  ·rintro e ⟨th',v8,rfl,g1,g2,g3⟩
   have hl:(Zc (s.takes++s.fills)).length=(s.takes++s.fills).length:=by unfold Zc;rw [length_map,length_map]
   rw [hl,take_of_length_le (le_refl _)] at g3;refine ⟨th',_,_,rfl,g1,fun j h=>g2 j (h2 j h),fun r hr j hj=>?_⟩;rw [take_succ,hs] at hr;rcases mem_append.mp hr with h | h
   ·exact g2 j (h3 r h j hj)
   ·have:r=s:=mem_singleton.mp h
    subst this;exact g3 j (mem_append.mpr hj)
 rintro e ⟨th,v7,v8,rfl,h1,h2,h3⟩;rw [length_map,take_of_length_le (le_refl _)] at h3;have hc:=Ql (g:=Yq 0) (t:=dB (dO Jr (dO Qu (dO R5 (dV 1) (dV 0)) (dC (.int 1))) (dC (.int 0)))) (f:=dV 0) (env:=[.un,.fz (.int (th:Int))]) (fun k:Nat=>Dat.int (k:Int)) (fun k:Nat=>Dat.int (k:Int)) (fun p=>!th.testBit p) (List.range 64) fun p _=>⟨[.fz (.int (p:Int)),.fz (.int (th:Int))],rfl,Yd (Z5 (Z5 (Z5 rfl rfl (P0 th p)) rfl (So th p)) rfl (Hk _)),rfl⟩
 rw [← O7] at hc;have hfl:3<=((List.range 64).filter fun p=>!th.testBit p).length:=by
  refine K1 [54,55,56] _ (by decide) fun p hp=>mem_filter.mpr ⟨mem_range.mpr ?_,?_⟩
  ·have:p=54\/p=55\/p=56:=by simpa using hp
   lia
  ·have:p=54\/p=55\/p=56:=by simpa using hp
   rw [Nat.testBit_lt_two_pow (lt_of_lt_of_le h1 (pow_le_pow_right (by lia) (by lia)))];rfl
 have hc3:c % 3<((List.range 64).filter fun p=>!th.testBit p).length:=by lia
 have hz:=getElem_mem hc3;have ez:((List.range 64).filter fun p=>!th.testBit p)[c % 3]?=some _:=getElem?_eq_getElem hc3;generalize ((List.range 64).filter fun p=>!th.testBit p)[c % 3]=z at hz ez;obtain ⟨hz1,hz2⟩:=mem_filter.mp hz;have hz64:z<64:=mem_range.mp hz1;have hzt:th.testBit z=false:=by simpa using hz2
 have hz3:∀ s∈G.steps,z∉s.takes/\z∉s.fills:=fun s hs=>⟨fun h=>absurd (h3 s hs z (.inl h)) (by rw [hzt];decide),fun h=>absurd (h3 s hs z (.inr h)) (by rw [hzt];decide)⟩
 have hzm:G.marks.testBit z=false:=by
  cases h:G.marks.testBit z with
  | false=>rfl
  | true=>rw [h2 z h] at hzt;cases hzt
 refine Z6 (Zf (d:=.int (z:Int)) (Z5 (Wa (Ut (xs:=rng 0 64) (Vc (Z1 rfl rfl) (by lia)) rfl hc)) (Z5 rfl rfl (Wj c 3 (by lia))) (Jc (by rw [getElem?_map,ez];rfl))) ?_);refine Z6 (Q0 (ds:=([]:List St3).map St3.d) rfl ?_);refine Z6 (Vw (ds:=G1 0 (G.steps.map St3.d)) (fun i e=>∃ (ss:List St3) (v7 v10 v11 v12 v13 v14:Slt),e=[.fz G.d,.fz (.int (c:Int)),.fz (.tup (G.wires.map Tz)),.fz (.tup (G.steps.map St3.d)),.fz (.int (G.marks:Int)),.fz (.int (G.code:Int)),.fz (.int (th:Int)),v7,.fz (.int (z:Int)),.ow (ss.map St3.d),v10,v11,v12,v13,v14]/\ss.length=i/\∀ s∈ss,LkS G z s) (by unfold Z08;rw [Qa rfl];rfl) ⟨[],v7,.un,.un,.un,.un,.un,rfl,rfl,by simp⟩ ?_ ?_)
 ·rintro i d e hi ⟨ss,v7,v10,v11,v12,v13,v14,rfl,hsl,hlk⟩
  obtain ⟨x,hx,rfl⟩:=Ep hi;rw [getElem?_map] at hx;obtain ⟨s,hs,rfl⟩:=map_some hx;have hmem:=mem_of_getElem? hs;have hsb:=hG.st s hmem;have hil:=(List.getElem?_eq_some_iff.mp hs).1;have hs24:=hG.s2;obtain ⟨n1,n2⟩:=hz3 s hmem;have hlt:s.takes.length<=54:=En hsb.tn hsb.t;have hlf:s.fills.length<=54:=En hsb.fn hsb.f;refine ⟨[.fz G.d,.fz (.int (c:Int)),.fz (.tup (G.wires.map Tz)),.fz (.tup (G.steps.map St3.d)),.fz (.int (G.marks:Int)),.fz (.int (G.code:Int)),.fz (.int (th:Int)),v7,.fz (.int (z:Int)),.ow (ss.map St3.d),.fz (.int (i:Int)),.fz (.int (s.w:Int)),.fz (.bl s.up),.fz (.tup (Zc s.takes)),.fz (.tup (Zc s.fills))],rfl,?_⟩;have fin:∀ (t f:List Nat),LkS G z ⟨s.w,s.up,t,f⟩->Go (Tt 9 Wn (Z2 (Yb (Z2 (dV 11) (Z2 (dV 12) (Z2 (dV 13) (Z2 (dV 14) Zd))))) Zd) [.fz G.d,.fz (.int (c:Int)),.fz (.tup (G.wires.map Tz)),.fz (.tup (G.steps.map St3.d)),.fz (.int (G.marks:Int)),.fz (.int (G.code:Int)),.fz (.int (th:Int)),v7,.fz (.int (z:Int)),.ow (ss.map St3.d),.fz (.int (i:Int)),.fz (.int (s.w:Int)),.fz (.bl s.up),.fz (.tup (Zc t)),.fz (.tup (Zc f))]) (fun e=>∃ (ss:List St3) (v7 v10 v11 v12 v13 v14:Slt),e=[.fz G.d,.fz (.int (c:Int)),.fz (.tup (G.wires.map Tz)),.fz (.tup (G.steps.map St3.d)),.fz (.int (G.marks:Int)),.fz (.int (G.code:Int)),.fz (.int (th:Int)),v7,.fz (.int (z:Int)),.ow (ss.map St3.d),v10,v11,v12,v13,v14]/\ss.length=i+1/\∀ s∈ss,LkS G z s) (fun d=>∃ (G':G3) (z:Nat),d=G'.d/\LookG G G' z/\Gb 64 G'):=fun t f hl=>by
   refine U1 (ds:=ss.map St3.d) (as:=[(⟨s.w,s.up,t,f⟩:St3).d]) (ds':=(ss++[(⟨s.w,s.up,t,f⟩:St3)]).map St3.d) rfl (Z1 (Zr rfl (by simp)) rfl) (by rw [Ve (by rw [length_map];lia),map_append];rfl) ⟨_,_,_,_,_,_,_,rfl,by rw [length_append,length_singleton,hsl],fun r hr=>?_⟩;rcases mem_append.mp hr with h | h
   ·exact hlk r h
   ·rw [mem_singleton.mp h];exact hl
  refine Z6 (Vq (Yd (Z5 (Z5 (Z5 (Z5 rfl rfl (Yn c 3 (by lia) (by lia))) rfl (P0 _ i)) rfl (So _ i)) rfl (Ro _))) (fun _=>?_) (fun _=>W2 ?_))
  ·obtain ⟨t,et,pt⟩:=Mv (s.takes++[z]) (by rw [length_append,length_singleton];lia)
   obtain ⟨f,ef,pf⟩:=Mv (s.fills++[z]) (by rw [length_append,length_singleton];lia);have a1:Ri (.tup (Zc s.takes)) (.tup [.int (z:Int)])=some (.tup (Zc (s.takes++[z]))):=by
    rw [Me (by unfold Zc;rw [length_map,length_map];show _+1<=_;lia),← Qp];rfl
   have a2:Ri (.tup (Zc s.fills)) (.tup [.int (z:Int)])=some (.tup (Zc (s.fills++[z]))):=by
    rw [Me (by unfold Zc;rw [length_map,length_map];show _+1<=_;lia),← Qp];rfl
   refine Z6 (Zf (d:=.tup (Zc t)) (Yt (Z1 (Wa (Yt (Z1 (Z5 rfl (Zr (Z1 rfl rfl) (by simp)) a1) rfl) et)) rfl) rfl) ?_);refine Zf (d:=.tup (Zc f)) (Yt (Z1 (Wa (Yt (Z1 (Z5 rfl (Zr (Z1 rfl rfl) (by simp)) a2) rfl) ef)) rfl) rfl) ?_;obtain ⟨t1,t2,t3⟩:=F5 hsb.t (by lia) hz64 hsb.tn n1 pt;obtain ⟨f1,f2,f3⟩:=F5 hsb.f (by lia) hz64 hsb.fn n2 pf;exact fin t f ⟨⟨s,hmem,true,rfl,rfl,n1,n2,t3,f3⟩,⟨hsb.w,t1,f1,t2,f2⟩⟩
  ·exact fin s.takes s.fills ⟨⟨s,hmem,false,rfl,rfl,n1,n2,fun q=>by simp,fun q=>by simp⟩,⟨hsb.w,fun p hp=>by have:=hsb.t p hp;lia,fun p hp=>by have:=hsb.f p hp;lia,hsb.tn,hsb.fn⟩⟩
 rintro e ⟨ss,v7,v10,v11,v12,v13,v14,rfl,hsl,hlk⟩;rw [Qs,length_map] at hsl;have:=hG.s1;have:=hG.s2;have:=hG.w2;refine Yi (Zr (Z1 rfl (Z1 (Yt (Z1 rfl rfl) rfl) (Z1 (Z5 rfl (Z5 rfl rfl (D6 z (by lia))) (orN G.marks _)) rfl))) (by simp)) ⟨⟨G.wires,ss,G.marks ||| 2^z,G.code⟩,z,rfl,?_,?_⟩
 ·exact { len:=hsl,ma:=rfl,mz:=hzm,cd:=rfl,st:=fun s hs=>(hlk s hs).a }
 ·exact { w2:=hG.w2,s1:=by show 1<=ss.length;lia,s2:=by show ss.length<=24;lia,st:=fun s hs=>(hlk s hs).b,mks:=Z3e (lt_of_lt_of_le hG.mks (pow_le_pow_right (by lia) (by lia))) (Nat.pow_lt_pow_right (by lia) hz64) }
end K24
namespace L2
open PySem PySem.Spec PyProof.Rows
section
variable {N:Ev->Prop} {R:Dat->Prop} {g h:Ev->Fl} {f fk fv:Ev->Option Dat} {t:Ev->Option Bool} {env:Ev} {d:Dat} {ds:List Dat} {i:Nat}
theorem Z93 {x y:Int} (e:env[i]?=some (.fz (.int x))) (e2:f env=some (.int y)) (q:N (env.set i (.fz (.int (x+y))))):Go (Z3u i f env) N R:=by
 unfold Z3u;rw [e,e2];exact ⟨q⟩
def H9 (p:Nat×Nat):List Ug:=[.inl (p.1:Int),.inl (p.2:Int)]
theorem Z1r {p q:Nat×Nat}:H9 p=H9 q↔p=q:=by
 constructor
 ·intro h
  unfold H9 at h;simp only [List.cons.injEq,Sum.inl.injEq,and_true] at h;exact Prod.ext (by lia) (by lia)
 ·rintro rfl;rfl
theorem Sb (p:Nat×Nat):Z0w (Zz p)=some (H9 p):=rfl
def Qn (ps:List (Nat×Nat)):List (List Ug×Dat):=ps.map fun p=>(H9 p,.bl true)
theorem Sw (ps:List (Nat×Nat)) (q:Nat×Nat):Ec (Qn ps) (H9 q)=decide (q∈ps):=by
 unfold Ec Qn;rw [map_map,Bool.eq_iff_iff,any_eq_true,decide_eq_true_eq];constructor
 ·rintro ⟨x,hx,e⟩
  obtain ⟨p,hp,rfl⟩:=mem_map.mp hx;have:H9 p=H9 q:=of_decide_eq_true e;rw [← Z1r.mp this];exact hp
 ·intro h
  exact ⟨H9 q,mem_map.mpr ⟨q,h,rfl⟩,decide_eq_true rfl⟩
theorem Z4p {ps:List (Nat×Nat)} {q:Nat×Nat} (e:env[i]?=some (.gx (.dict (Qn ps)))) (e2:f env=some (Zz q)):Lm false i f env=some (.bl (decide (q∈ps))):=by
 unfold Lm;rw [e,e2];dsimp only;rw [Sb];show some (Dat.bl (Ec (Qn ps) (H9 q)))=_;rw [Sw]
theorem At {ps:List (Nat×Nat)} {q:Nat×Nat} (e:env[i]?=some (.gx (.dict (Qn ps)))) (e2:fv env=some (.bl true)) (e3:fk env=some (Zz q)) (hq:q∉ps) (hl:ps.length<=1000) (n:N (env.set i (.gx (.dict (Qn (ps++[q])))))):Go (Ex i fk fv env) N R:=by
 unfold Ex;rw [e,e2,e3];dsimp only;rw [Sb];dsimp only;rw [if_pos ⟨by rw [Sw,decide_eq_false hq],by unfold Qn;rw [length_map];exact lt_of_le_of_lt hl (by decide)⟩];have:Qn ps++[(H9 q,Dat.bl true)]=Qn (ps++[q]):=by unfold Qn;rw [map_append];rfl
 rw [this];exact ⟨n⟩
theorem C6 {q:Nat×Nat} (e:fk env=some (Zz q)) (e2:fv env=some (.bl true)) (n:N (env.set i (.gx (.dict (Qn [q]))))):Go (Nb i fk fv env) N R:=by
 unfold Nb;rw [e,e2];dsimp only;rw [Sb];exact ⟨n⟩
theorem Z7y {fs:Ev->Option (List Dat)} {xs:List Dat} (h1:fs env=some [.lst xs]):dLR fs env=some xs.reverse:=by unfold dLR;rw [h1]
theorem Z6a {f g:Ev->Option Dat} (h1:f env=some (.bl true)) (h2:g env=some d):Z4o f g env=some d:=by unfold Z4o dB;rw [h1];exact h2
end
theorem Ry:∀ xs:List Dat,(∀ x∈xs,Jf x x=true)->X5 xs xs=true
 | [],_=>by unfold X5;rfl
 | x::xs,h=>by unfold X5;rw [h x mem_cons_self,Ry xs fun y hy=>h y (mem_cons_of_mem _ hy)];rfl
theorem L6 {xs:List Dat} (h:∀ x∈xs,Jf x x=true/\pd 19 x=true):pd 20 (.lst xs)=true/\Jf (.lst xs) (.lst xs)=true:=by
 constructor
 ·show xs.all (pd 19)=true
  exact all_eq_true.mpr fun x hx=>(h x hx).2
 ·unfold Jf;exact Ry xs fun x hx=>(h x hx).1
theorem Z1x {d:Dat} (h:pd 20 d=true/\Jf d d=true):Jr d d=some (.bl true):=by unfold Jr;rw [h.1,h.2];rfl
theorem Dx (i:Int):Jf (.int i) (.int i)=true:=by unfold Jf;exact beq_self_eq_true i
theorem Z1a (ps:List Nat):pd 20 (.lst (Zc ps))=true/\Jf (.lst (Zc ps)) (.lst (Zc ps))=true:=L6 fun x hx=>by
 rw [Jw] at hx;obtain ⟨p,_,rfl⟩:=mem_map.mp hx;exact ⟨Dx _,rfl⟩
theorem Rw.self (r:Rw):Jf r.d r.d=true/\pd 19 r.d=true:=by
 obtain ⟨m,c,src⟩:=r;cases src with
 | none =>
  refine ⟨?_,rfl⟩;show Jf (.tup [.int (m:Int),.int (c:Int),.non,.non]) (.tup [.int (m:Int),.int (c:Int),.non,.non])=true;unfold Jf;refine Ry _ fun x hx=>?_
  simp only [mem_cons,List.not_mem_nil,or_false] at hx;rcases hx with rfl | rfl | rfl | rfl
  ·exact Dx _
  ·exact Dx _
  ·unfold Jf;rfl
  ·unfold Jf;rfl
 | some p =>
  refine ⟨?_,rfl⟩;show Jf (.tup [.int (m:Int),.int (c:Int),.int (p.1:Int),.int (p.2:Int)]) (.tup [.int (m:Int),.int (c:Int),.int (p.1:Int),.int (p.2:Int)])=true;unfold Jf;refine Ry _ fun x hx=>?_
  simp only [mem_cons,List.not_mem_nil,or_false] at hx;rcases hx with rfl | rfl | rfl | rfl<;>exact Dx _
theorem Z0t (rows:List Rw):pd 20 (.lst (rows.map Rw.d))=true/\Jf (.lst (rows.map Rw.d)) (.lst (rows.map Rw.d))=true:=L6 fun x hx=>by
 obtain ⟨r,_,rfl⟩:=mem_map.mp hx;exact r.self
def Ia (G:G3) (m k:Nat):Bool:=match G.steps[k]? with
 | some s=>Mx s m
 | none=>false
theorem Z0j {G:G3} {m k:Nat} (h:Ia G m k=true):∃ s,G.steps[k]?=some s/\Mx s m=true:=by
 unfold Ia at h;cases e:G.steps[k]? with
 | none=>rw [e] at h;cases h
 | some s=>rw [e] at h;exact ⟨s,rfl,h⟩
def O0 (G:G3) (m:Nat):List Nat:=(List.range G.steps.length).filter (Ia G m)
theorem Ba {rows F:List Rw} (h:rows <+: F) {i:Nat} {r:Rw} (e:rows[i]?=some r):F[i]?=some r:=by
 obtain ⟨t,rfl⟩:=h;rw [getElem?_append_left (List.getElem?_eq_some_iff.mp e).1];exact e
theorem Z28 {G:G3} {m k:Nat} (h:k∈O0 G m):Ia G m k=true:=(mem_filter.mp h).2
def GdE (r:Fl) (N C:Ev->Prop) (R:Dat->Prop) (E:Str->List (Str×XD)->Prop):Prop:=match r with
 | .next e=>N e
 | .cont e=>C e
 | .ret d=>R d
 | .exc _ c fl=>E c fl
 | _=>False
structure GoE (r:Fl) (N C:Ev->Prop) (R:Dat->Prop) (E:Str->List (Str×XD)->Prop):Prop where
 of:GdE r N C R E
section
variable {N C:Ev->Prop} {R:Dat->Prop} {E:Str->List (Str×XD)->Prop} {g h:Ev->Fl} {t:Ev->Option Bool} {env:Ev} {d:Dat} {ds:List Dat} {i:Nat}
theorem Go.toE {r:Fl} (q:Go r N R):GoE r N C R E:=by
 cases r with
 | next e=>exact ⟨q.of⟩
 | ret d=>exact ⟨q.of⟩
 | _=>exact q.of.elim
theorem Ur (q:GoE (g env) (fun e=>GoE (h e) N C R E) C R E):GoE (Ze g h env) N C R E:=by
 unfold Ze;cases e:g env with
 | next e'=>rw [e] at q;exact q.of
 | ret d=>rw [e] at q;exact ⟨q.of⟩
 | cont d=>rw [e] at q;exact ⟨q.of⟩
 | exc e' c fl=>rw [e] at q;exact ⟨q.of⟩
 | _=>rw [e] at q;exact q.of.elim
theorem Qz (q:Go (g env) (fun e=>GoE (h e) N C R E) R):GoE (Ze g h env) N C R E:=Ur q.toE
theorem O6 {b:Bool} (e:t env=some b) (q1:b=true->GoE (g env) N C R E) (q2:b=false->GoE (h env) N C R E):GoE (M4 t g h env) N C R E:=by
 unfold M4;rw [e];cases b with
 | true=>exact q1 rfl
 | false=>exact q2 rfl
theorem G4 {c:Str} {Gf:List Dat->Option (List (Str×XD))} {fs:Ev->Option (List Dat)} {fl:List (Str×XD)} (e:fs env=some ds) (e2:Gf ds=some fl) (q:E c fl):GoE (U5 c Gf fs env) N C R E:=by
 unfold U5;rw [e];dsimp only [Option.bind];rw [e2];exact ⟨q⟩
theorem Pu {gg:Dat->Ev->Option Ev} (P:Nat->Ev->Prop):∀ (ds:List Dat) (k:Nat) (env:Ev),P k env->(∀ i d e,ds[i]?=some d->P (k+i) e->∃ e1,gg d e=some e1/\GoE (g e1) (P (k+i+1)) (P (k+i+1)) R E)->(∀ e,P (k+ds.length) e->N e)->GoE (Gy gg g ds env) N C R E
 | [],k,env,h0,_,hN=>⟨hN env h0⟩
 | d::ds,k,env,h0,hs,hN=>by
  obtain ⟨e1,a1,a2⟩:=hs 0 d env rfl h0;rw [Gy,a1];dsimp only;have more:∀ e',P (k+0+1) e'->GoE (Gy gg g ds e') N C R E:=fun e' h'=>Pu P ds (k+1) e' h' (fun i d e hi hp=>by
   have:=hs (i+1) d e (by simpa using hi) (by rw [show k+(i+1)=k+1+i by lia];exact hp);rw [show k+1+i+1=k+(i+1)+1 by lia];exact this) (fun e hp=>hN e (by rw [length_cons,show k+(ds.length+1)=k+1+ds.length by lia];exact hp))
  cases e:g e1 with
  | next e'=>rw [e] at a2;exact more e' a2.of
  | cont e'=>rw [e] at a2;exact more e' a2.of
  | ret d'=>rw [e] at a2;exact ⟨a2.of⟩
  | exc e' c fl=>rw [e] at a2;exact ⟨a2.of⟩
  | _=>rw [e] at a2;exact a2.of.elim
theorem Z6g {src:Ev->Option (List Dat)} {gg:Dat->Ev->Option Ev} (P:Nat->Ev->Prop) (e:src env=some ds) (h0:P 0 env) (hs:∀ i d e,ds[i]?=some d->P i e->∃ e1,gg d e=some e1/\GoE (g e1) (P (i+1)) (P (i+1)) R E) (hN:∀ e,P ds.length e->N e):GoE (Qt src gg g env) N C R E:=by
 unfold Qt;rw [e];exact Pu P ds 0 env h0 (fun i d e hi hp=>by simpa using hs i d e hi (by simpa using hp)) (fun e hp=>hN e (by simpa using hp))
theorem GoE.ne {r:Fl} (q:GoE r N C R E):r≠.no:=fun z=>by rw [z] at q;exact q.of
theorem Z10 (W:Nat->Ev->Prop) {n:Nat} (h0:W n env) (hs:∀ n e,W n e->(t e=some false/\N e)\/(t e=some true/\GoE (g e) (fun e'=>∃ m,m<n/\W m e') (fun _=>False) R E)):GoE (Jq t g env) N C R E:=by
 have key:∀ n e,W n e->GoE (V0 t g (n+1) e) N C R E:=by
  intro n;induction n using Nat.strongRecOn with
  | _ n ih =>
   intro e hw;rcases hs n e hw with ⟨a,b⟩ | ⟨a,b⟩
   ·rw [V0,a];exact ⟨b⟩
   ·rw [V0,a]
    dsimp only;cases eg:g e with
    | next e' =>
     rw [eg] at b;obtain ⟨m,hm,hw'⟩:=b.of;have q:=ih m hm e' hw';dsimp only;have:=U7 (n - (m+1)) q.ne;rw [show m+1+(n - (m+1))=n by lia] at this;rw [this];exact q
    | ret d=>rw [eg] at b;exact ⟨b.of⟩
    | exc e' c fl=>rw [eg] at b;exact ⟨b.of⟩
    | _=>rw [eg] at b;exact b.of.elim
 have q:=key n env h0;rw [Nk q.ne];exact q
theorem Bg {n p:Nat} (hp:ds.length=p) (q:GoE (g (Tx n ds)) (fun _=>R .non) (fun _=>False) R E):(∃ d,Wd n p g ds=.ok d/\R d)\/∃ c fl,Wd n p g ds=.exc c fl/\E c fl:=by
 unfold Wd;rw [if_pos hp];cases e:g (Tx n ds) with
 | next e'=>rw [e] at q;exact .inl ⟨_,rfl,q.of⟩
 | ret d=>rw [e] at q;exact .inl ⟨_,rfl,q.of⟩
 | exc e' c fl=>rw [e] at q;exact .inr ⟨_,_,rfl,q.of⟩
 | _=>rw [e] at q;exact q.of.elim
variable {e' e3:Ev} {sub:Str->Bool} {c:Str} {fl:List (Str×XD)} {F:List Dat->Rs} {fs:Ev->Option (List Dat)}
theorem W0 {sb:Str->Option Bool} {f:Ev->Option Dat} {b:Bool} (h:f env=some (.exc c fl)) (hs:sb c=some b):Aw sb f env=some (.bl b):=by unfold Aw;rw [h];show (sb c).map Dat.bl=_;rw [hs];rfl
theorem Z22 {f:Ev->Option Dat} {ps:List (Nat×Nat)} {q:Nat×Nat} (e:env[i]?=some (.gx (.dict (Qn ps)))) (e2:f env=some (Zz q)):Lm true i f env=some (.bl (!decide (q∈ps))):=by
 unfold Lm;rw [e,e2];dsimp only;rw [Sb];show some (Dat.bl (!Ec (Qn ps) (H9 q)))=_;rw [Sw]
end
end L2
namespace K24
open PySem PySem.Spec PyProof.Rows L2
theorem Ki (G:G3) (k:Nat) (s:St3) (h:G.steps[k]?=some s):Ta [G.d,.int (k:Int)]=.ok (.tup (Zc s.takes)):=by
 refine Ub (Yl (n:=2) (p:=2) (ds:=[G.d,.int (k:Int)]) (g:=Uz) (R:=fun d=>d=.tup (Zc s.takes)) rfl ?_);show Go (Uz [.fz G.d,.fz (.int (k:Int))]) _ _;unfold Uz;exact Yi (Z5 (Z5 (Z5 rfl rfl rfl) rfl (Ru (x:=s.d) (by rw [getElem?_map,h];rfl))) rfl rfl) rfl
theorem E6 (ps:List Nat) (hp:∀ p∈ps,p<=1000):D4 [.tup (Zc ps)]=.ok (.int (bitsN ps:Int)):=by
 refine Ub (Yl (n:=3) (p:=1) (ds:=[.tup (Zc ps)]) (g:=Ew) (R:=fun d=>d=.int (bitsN ps:Int)) rfl ?_);show Go (Ew [.fz (.tup (Zc ps)),.un,.un]) _ _;unfold Ew;refine Z6 (Zf (d:=.int 0) rfl ?_);refine Z6 (Vw (ds:=Zc ps) (fun i e=>∃ (z:Int) (v:Slt),e=[.fz (.tup (Zc ps)),.fz (.int z),v]/\z=(((ps.take i).foldl (fun a p=>a ||| 2^p) 0:Nat):Int)) rfl ⟨0,.un,rfl,rfl⟩ ?_ ?_)
 ·rintro i x e hi ⟨z,v,rfl,rfl⟩
  obtain ⟨p,hq,rfl⟩:=M2 hi;have hpp:=hp p (mem_of_getElem? hq);refine ⟨_,rfl,?_⟩;refine Zf (d:=.int ((((ps.take (i+1)).foldl (fun a p=>a ||| 2^p) 0:Nat)):Int)) (Z5 rfl (Z5 rfl rfl (D6 p hpp)) ?_) ⟨_,_,rfl,rfl⟩;rw [orN,take_succ,hq,List.foldl_append];rfl
 ·rintro e ⟨z,v,rfl,rfl⟩
  refine Yi rfl ?_;rw [length_map,length_map,take_of_length_le (le_refl _)];rfl
theorem B6 (G:G3) (k:Nat) (s:St3) (h:G.steps[k]?=some s):Rt [G.d,.int (k:Int)]=.ok (.int (s.w:Int)):=by
 refine Ub (Yl (n:=2) (p:=2) (ds:=[G.d,.int (k:Int)]) (g:=Qj) (R:=fun d=>d=.int (s.w:Int)) rfl ?_);show Go (Qj [.fz G.d,.fz (.int (k:Int))]) _ _;unfold Qj;exact Yi (Z5 (Z5 (Z5 rfl rfl rfl) rfl (Ru (x:=s.d) (by rw [getElem?_map,h];rfl))) rfl rfl) rfl
theorem C0 (G:G3) (k:Nat) (s:St3) (h:G.steps[k]?=some s):S5 [G.d,.int (k:Int)]=.ok (.bl s.up):=by
 refine Ub (Yl (n:=2) (p:=2) (ds:=[G.d,.int (k:Int)]) (g:=Qg) (R:=fun d=>d=.bl s.up) rfl ?_);show Go (Qg [.fz G.d,.fz (.int (k:Int))]) _ _;unfold Qg;exact Yi (Z5 (Z5 (Z5 rfl rfl rfl) rfl (Ru (x:=s.d) (by rw [getElem?_map,h];rfl))) rfl rfl) rfl
theorem Ps (G:G3) (k:Nat) (s:St3) (h:G.steps[k]?=some s):Mm [G.d,.int (k:Int)]=.ok (.tup (Zc s.fills)):=by
 refine Ub (Yl (n:=2) (p:=2) (ds:=[G.d,.int (k:Int)]) (g:=Uw) (R:=fun d=>d=.tup (Zc s.fills)) rfl ?_);show Go (Uw [.fz G.d,.fz (.int (k:Int))]) _ _;unfold Uw;exact Yi (Z5 (Z5 (Z5 rfl rfl rfl) rfl (Ru (x:=s.d) (by rw [getElem?_map,h];rfl))) rfl rfl) rfl
theorem Z3z (n p:Nat):Sc [.int (n:Int),.int (p:Int)]=.ok (.bl (n.testBit p)):=by
 refine Ub (Yl (n:=2) (p:=2) (ds:=[.int (n:Int),.int (p:Int)]) (g:=Qh) (R:=fun d=>d=.bl (n.testBit p)) rfl ?_);show Go (Qh [.fz (.int (n:Int)),.fz (.int (p:Int))]) _ _;unfold Qh;exact Yi (Z5 (Z5 (Z5 rfl rfl (P0 n p)) rfl (So n p)) rfl (Ro _)) rfl
theorem ne0 (a:Nat):neF (.int (a:Int)) (.int 0)=some (.bl (!(a==0))):=by
 rw [Zbj];congr 3
 rw [Bool.eq_iff_iff,beq_iff_eq,beq_iff_eq];lia
theorem Am (s:St3) (m:Nat):Mk [s.d,.int (m:Int)]=.ok (.bl (Mx s m)):=by
 refine Ub (Yl (n:=2) (p:=2) (ds:=[s.d,.int (m:Int)]) (g:=T7) (R:=fun d=>d=.bl (Mx s m)) rfl ?_);show Go (T7 [.fz s.d,.fz (.int (m:Int))]) _ _;unfold T7;have hc:Vv (Yq 0) Je (dO Jr (dO Qu (dO R5 (dV 1) (dV 0)) (dC (.int 1))) (dC (.int 1))) [.un,.fz (.int (m:Int))] (Zc s.takes)=some ((s.takes.map fun p=>m.testBit p).map Dat.bl):=by
  rw [Jw,Ef (fun p:Nat=>Dat.int (p:Int)) (fun p:Nat=>.bl (m.testBit p)) s.takes fun p _=>⟨[.fz (.int (p:Int)),.fz (.int (m:Int))],rfl,rfl,Z5 (Z5 (Z5 rfl rfl (P0 m p)) rfl (So m p)) rfl (Ro _)⟩,map_map];rfl
 refine Yi (Yt (Z1 (Wa (Ut (xs:=Zc s.takes) (env':=[.un,.fz (.int (m:Int))]) (Qa (Z5 rfl rfl rfl)) rfl hc)) rfl) (Z5x _)) ?_;congr 1
 rw [Bool.eq_iff_iff,Xf,all_eq_true];constructor
 ·intro h p hp
  exact h _ (mem_map_of_mem hp)
 ·intro h b hb
  obtain ⟨p,hp,rfl⟩:=mem_map.mp hb;exact h p hp
inductive Dn where
 | broken | crowded | at (m c:Nat)
def Dn.d:Dn->Dat
 | .broken=>.str "broken"
 | .crowded=>.str "crowded"
 | .at m c=>.tup [.int (m:Int),.int (c:Int)]
structure DnOk (s:St3) (m c:Nat) (r:Dn):Prop where
 b:r=.broken↔c.testBit s.w=s.up
 k:c.testBit s.w≠s.up->(r=.crowded↔∃ p∈s.fills,m.testBit p=true/\p∉s.takes)
 a:∀ m' c',r=.at m' c'->(∀ j,m'.testBit j=((m.testBit j&&!decide (j∈s.takes))||decide (j∈s.fills)))/\∀ j,c'.testBit j=if j=s.w then s.up else c.testBit j
theorem Iw {a p:Nat} (hp:p<=1000) (h:a.testBit p=true):∃ c:Nat,Fc (.int (a:Int)) (.int ((2^p:Nat):Int))=some (.int (c:Int))/\∀ j,c.testBit j=(a.testBit j&&decide (j≠p)):=by
 obtain ⟨c,e,ht⟩:=Z04 h;exact ⟨c,by show some (Dat.int _)=_;rw [e],ht⟩
theorem L9 {a p:Nat} (h:a.testBit p=false):Y8 (.int (a:Int)) (.int ((2^p:Nat):Int))=some (.int ((a ||| 2^p:Nat):Int)):=by
 rw [Wp,Nl h]
theorem Z5u {wires:Nat} (s:St3) (hs:SB 64 wires s) (hw:wires<=10) (m c:Nat) (ht:∀ p∈s.takes,m.testBit p=true):∃ r:Dn,Tp [s.d,.tup [.int (m:Int),.int (c:Int)]]=.ok r.d/\DnOk s m c r:=by
 have:=Yl (n:=5) (p:=2) (ds:=[s.d,.tup [.int (m:Int),.int (c:Int)]]) (g:=Uf) (R:=fun d=>∃ r:Dn,d=r.d/\DnOk s m c r) rfl ?_
 ·obtain ⟨d,e,z,rfl,h⟩:=this
  exact ⟨z,e,h⟩
 show Go (Uf [.fz s.d,.fz (.tup [.int (m:Int),.int (c:Int)]),.un,.un,.un]) _ _;unfold Uf;have hw1:=hs.w;refine Z6 (P5 (d:=.tup [.int (m:Int),.int (c:Int)]) (env':=[.fz s.d,.fz (.tup [.int (m:Int),.int (c:Int)]),.fz (.int (m:Int)),.fz (.int (c:Int)),.un]) rfl rfl ?_);refine Z6 (Vq (b:=c.testBit s.w==s.up) (Yd (Z5 (Z5 (Z5 (Z5 rfl (Z5 rfl rfl rfl) (P0 c s.w)) rfl (So c s.w)) rfl (Ro _)) (Z5 rfl rfl rfl) (Z9t _ _))) (fun hb=>?_) (fun hb=>W2 ?_))
 ·have hb':c.testBit s.w=s.up:=by simpa using hb
  exact Yi rfl ⟨.broken,rfl,⟨⟨fun _=>hb',fun _=>rfl⟩,fun h=>absurd hb' h,(fun _ _ h=>nomatch h)⟩⟩
 have hnb:c.testBit s.w≠s.up:=by simpa using hb
 refine Z6 (Vw (ds:=Zc s.takes) (fun i e=>∃ (q:Nat) (v:Slt),e=[.fz s.d,.fz (.tup [.int (m:Int),.int (c:Int)]),.fz (.int (q:Int)),.fz (.int (c:Int)),v]/\∀ j,q.testBit j=(m.testBit j&&!decide (j∈s.takes.take i))) (Qa (Z5 rfl rfl rfl)) ⟨m,.un,rfl,by simp⟩ ?_ ?_)
 ·rintro i x e hi ⟨q,v,rfl,hq⟩
  obtain ⟨p,hp,rfl⟩:=M2 hi;have hpm:=mem_of_getElem? hp;have hil:i<s.takes.length:=(List.getElem?_eq_some_iff.mp hp).1;have hpn:p∉s.takes.take i:=Kt hs.tn hp;have htk:s.takes.take (i+1)=s.takes.take i++[p]:=by rw [take_succ,hp];rfl
  have hb1:q.testBit p=true:=by rw [hq,ht p hpm];simp [hpn]
  have hlt:=hs.t p hpm;obtain ⟨r,er,hr⟩:=Iw (p:=p) (by lia) hb1;refine ⟨_,rfl,?_⟩;refine Zf (Z5 rfl (Z5 rfl rfl (D6 p (by lia))) er) ⟨r,_,rfl,fun j=>?_⟩;rw [hr,hq,htk];by_cases e1:j=p
  ·subst e1;simp
  ·by_cases e2:j∈s.takes.take i<;>simp [e1,e2]
 rintro e ⟨q,v,rfl,hq⟩;rw [length_map,length_map,take_of_length_le (le_refl _)] at hq;have hc:Vv (Yq 0) Je (dO Jr (dO Qu (dO R5 (dV 1) (dV 0)) (dC (.int 1))) (dC (.int 1))) [.un,.fz (.int (q:Int))] (Zc s.fills)=some ((s.fills.map fun p=>q.testBit p).map Dat.bl):=by
  rw [Jw,Ef (fun p:Nat=>Dat.int (p:Int)) (fun p:Nat=>.bl (q.testBit p)) s.fills fun p _=>⟨[.fz (.int (p:Int)),.fz (.int (q:Int))],rfl,rfl,Z5 (Z5 (Z5 rfl rfl (P0 q p)) rfl (So q p)) rfl (Ro _)⟩,map_map];rfl
 refine Z6 (Vq (Sn (Yt (Z1 (Wa (Ut (xs:=Zc s.fills) (env':=[.un,.fz (.int (q:Int))]) (Qa (Z5 rfl rfl rfl)) rfl hc)) rfl) (Z5e _))) (fun hb=>?_) (fun hb=>W2 ?_))
 ·rw [any_map,any_eq_true] at hb
  obtain ⟨p,hp,hpq⟩:=hb;have hpq':q.testBit p=true:=hpq;rw [hq,Bool.and_eq_true] at hpq';refine Yi rfl ⟨.crowded,rfl,⟨⟨(fun h=>nomatch h),fun h=>absurd h hnb⟩,fun _=>⟨fun _=>⟨p,hp,hpq'.1,by simpa using hpq'.2⟩,fun _=>rfl⟩,(fun _ _ h=>nomatch h)⟩⟩
 have hnc:∀ p∈s.fills,q.testBit p=false:=fun p hp=>by
  cases h:q.testBit p with
  | false=>rfl
  | true =>
   have:(List.map (fun p=>q.testBit p) s.fills).any id=true:=by rw [any_map,any_eq_true];exact ⟨p,hp,h⟩
   rw [this] at hb;cases hb
 refine Z6 (Vw (ds:=Zc s.fills) (fun i e=>∃ (r:Nat) (v:Slt),e=[.fz s.d,.fz (.tup [.int (m:Int),.int (c:Int)]),.fz (.int (r:Int)),.fz (.int (c:Int)),v]/\∀ j,r.testBit j=(q.testBit j||decide (j∈s.fills.take i))) (Qa (Z5 rfl rfl rfl)) ⟨q,_,rfl,by simp⟩ ?_ ?_)
 ·rintro i x e hi ⟨r,v,rfl,hr⟩
  obtain ⟨p,hp,rfl⟩:=M2 hi;have hpm:=mem_of_getElem? hp;have hil:i<s.fills.length:=(List.getElem?_eq_some_iff.mp hp).1;have hpn:p∉s.fills.take i:=Kt hs.fn hp;have htk:s.fills.take (i+1)=s.fills.take i++[p]:=by rw [take_succ,hp];rfl
  have hb1:r.testBit p=false:=by rw [hr,hnc p hpm];simp [hpn]
  have hlt:=hs.f p hpm;refine ⟨_,rfl,?_⟩;refine Zf (Z5 rfl (Z5 rfl rfl (D6 p (by lia))) (L9 hb1)) ⟨_,_,rfl,fun j=>?_⟩;rw [testBit_or,hr,htk,testBit_two_pow];by_cases e1:j=p
  ·subst e1;simp
  ·have e3:¬ p=j:=fun h=>e1 h.symm
   by_cases e2:j∈s.fills.take i<;>simp [e1,e2,e3]
 rintro e ⟨r,v',rfl,hr⟩;rw [length_map,length_map,take_of_length_le (le_refl _)] at hr;have hfin:∀ j,r.testBit j=((m.testBit j&&!decide (j∈s.takes))||decide (j∈s.fills)):=fun j=>by rw [hr,hq]
 have hnk:¬ ∃ p∈s.fills,m.testBit p=true/\p∉s.takes:=by
  rintro ⟨p,hp,h1,h2⟩;have:=hnc p hp;rw [hq,h1] at this;simp [h2] at this
 refine Z6 (Vq (Sn (b:=s.up) (Z5 rfl rfl rfl)) (fun hu=>?_) (fun hu=>W2 ?_))
 ·have hf:c.testBit s.w=false:=by cases h:c.testBit s.w with | false=>rfl | true=>exact absurd (h.trans hu.symm) hnb
  refine Yi (Zr (Z1 rfl (Z1 (Z5 rfl (Z5 rfl (Z5 rfl rfl rfl) (D6 s.w (by lia))) (L9 hf)) rfl)) (by simp)) ⟨.at r (c ||| 2^s.w),rfl,⟨⟨(fun h=>nomatch h),fun h=>absurd h hnb⟩,fun _=>⟨(fun h=>nomatch h),fun h=>absurd h hnk⟩,fun m' c' h=>?_⟩⟩;cases h;refine ⟨hfin,fun j=>?_⟩;rw [testBit_or,testBit_two_pow,hu];by_cases e1:j=s.w
  ·subst e1;simp
  ·have e3:¬ s.w=j:=fun h=>e1 h.symm
   simp [e1,e3]
 ·have hf:c.testBit s.w=true:=by cases h:c.testBit s.w with | true=>rfl | false=>exact absurd (h.trans hu.symm) hnb
  obtain ⟨c2,e2,hc2⟩:=Iw (p:=s.w) (by lia) hf;refine Yi (Zr (Z1 rfl (Z1 (Z5 rfl (Z5 rfl (Z5 rfl rfl rfl) (D6 s.w (by lia))) e2) rfl)) (by simp)) ⟨.at r c2,rfl,⟨⟨(fun h=>nomatch h),fun h=>absurd h hnb⟩,fun _=>⟨(fun h=>nomatch h),fun h=>absurd h hnk⟩,fun m' c' h=>?_⟩⟩;cases h;refine ⟨hfin,fun j=>?_⟩;rw [hc2,hu];by_cases e1:j=s.w
  ·subst e1;simp
  ·simp [e1]
theorem Z85 (G:G3) (hG:Gb 64 G) (m:Nat) (cd:Dat) (k:Nat) (s:St3) (h:G.steps[k]?=some s):Xl [G.d,.tup [.int (m:Int),cd],.int (k:Int)]=.ok (.bl (Mx s m)):=by
 refine Ub (Yl (n:=4) (p:=3) (ds:=[G.d,.tup [.int (m:Int),cd],.int (k:Int)]) (g:=N0) (R:=fun d=>d=.bl (Mx s m)) rfl ?_);show Go (N0 [.fz G.d,.fz (.tup [.int (m:Int),cd]),.fz (.int (k:Int)),.un]) _ _;unfold N0;have hs:=hG.st s (mem_of_getElem? h);refine Z6 (Zf (Zp (xs:=[.tup (Zc s.takes)]) (Z1 (Zp (xs:=[G.d,.int (k:Int)]) rfl (Ki G k s h)) rfl) (E6 s.takes fun p hp=>by have:=hs.t p hp;lia)) ?_);exact Yi (Z5 (Z5 (Z5 rfl rfl rfl) rfl (Z9e m _)) rfl (A9 _ _)) rfl
structure Fine (s:St3) (p:Nat×Nat):Prop where
 can:Mx s p.1=true
 lev:p.2.testBit s.w≠s.up
 room:∀ q∈s.fills,p.1.testBit q=true->q∈s.takes
theorem Z0c (G:G3) (hG:Gb 64 G) (p:Nat×Nat) (k:Nat) (s:St3) (h:G.steps[k]?=some s) (hf:Fine s p):R8 [G.d,Zz p,.int (k:Int)]=.ok (Zz (W9 s p)):=by
 have hs:=hG.st s (mem_of_getElem? h);have hw2:=hG.w2;have hw1:=hs.w;refine Ub (Yl (n:=6) (p:=3) (ds:=[G.d,Zz p,.int (k:Int)]) (g:=Um) (R:=fun d=>d=Zz (W9 s p)) rfl ?_);show Go (Um [.fz G.d,.fz (Zz p),.fz (.int (k:Int)),.un,.un,.un]) _ _;unfold Um;refine Z6 (Zf (Zp (xs:=[G.d,.int (k:Int)]) rfl (B6 G k s h)) ?_);refine Z6 (Jl (Yd (Z5 (Zp (xs:=[.int (p.2:Int),.int (s.w:Int)]) (Z1 (Z5 rfl rfl rfl) rfl) (Z3z p.2 s.w)) (Zp (xs:=[G.d,.int (k:Int)]) rfl (C0 G k s h)) (by rw [Z9t,show (p.2.testBit s.w==s.up)=false by simpa using hf.lev]))) (W2 ?_));obtain ⟨lf,ek,hlf⟩:=Kz p.1 (bitsN s.takes);refine Z6 (Zf (d:=.int (lf:Int)) (Z5 (Z5 rfl rfl rfl) (Z76 (Zp (xs:=[.tup (Zc s.takes)]) (Z1 (Zp (xs:=[G.d,.int (k:Int)]) rfl (Ki G k s h)) rfl) (E6 s.takes fun p hp=>by have:=hs.t p hp;lia)) (z:=.int (-(bitsN s.takes:Int) - 1)) rfl) (by show some (Dat.int (Builtin.bitAnd _ _))=_;rw [ek])) ?_);refine Z6 (Zf (d:=.int (bitsN s.fills:Int)) (Zp (xs:=[.tup (Zc s.fills)]) (Z1 (Zp (xs:=[G.d,.int (k:Int)]) rfl (Ps G k s h)) rfl) (E6 s.fills fun p hp=>by have:=hs.f p hp;lia)) ?_);have hz:lf &&& bitsN s.fills=0:=eq_of_testBit_eq fun j=>by
  rw [testBit_and,hlf,Uk,Uk,Nat.zero_testBit];by_cases h1:j∈s.fills
  ·by_cases h2:p.1.testBit j=true
   ·rw [decide_eq_true (hf.room j h1 h2)];simp
   ·have:p.1.testBit j=false:=by simpa using h2
    rw [this];rfl
  ·rw [decide_eq_false h1,Bool.and_false]
 refine Z6 (Jl (Yd (Z5 (Z5 rfl rfl (Z9e lf _)) rfl (by rw [hz];exact ne0 0))) (W2 ?_));have em:lf ||| bitsN s.fills=(W9 s p).1:=eq_of_testBit_eq fun j=>by rw [testBit_or,hlf,Uk,Uk,Z7l]
 refine Yi (Zr (xs:=[.int ((W9 s p).1:Int),.int ((W9 s p).2:Int)]) (Z1 (Z5 rfl rfl (by rw [orN,em])) (Z1 (Z5 (Z5 rfl rfl rfl) (Z5 rfl rfl (D6 s.w (by lia))) (Zc2 p.2 _)) rfl)) (by simp)) rfl
theorem Fj (r:Rw):Lf r.d none (some 2)=some (Zz r.st):=rfl
theorem Py (G:G3) (hG:Gb 64 G) (p:Nat×Nat):M6 [G.d,Zz p]=.ok (.lst (Zc (O0 G p.1))):=by
 refine Ub (Yl (n:=2) (p:=2) (ds:=[G.d,Zz p]) (g:=T9) (R:=fun d=>d=.lst (Zc (O0 G p.1))) rfl ?_);show Go (T9 [.fz G.d,.fz (Zz p)]) _ _;unfold T9;have hs2:=hG.s2;have hc:=Ql (g:=Yq 0) (t:=dT (W1 Xl (Z2 (dV 1) (Z2 (dV 2) (Z2 (dV 0) Zd))))) (f:=dV 0) (env:=[.un,.fz G.d,.fz (Zz p)]) (fun k:Nat=>Dat.int (k:Int)) (fun k:Nat=>Dat.int (k:Int)) (Ia G p.1) (List.range G.steps.length) fun k hk=>by
  have hkl:=mem_range.mp hk;have e:G.steps[k]?=some G.steps[k]:=getElem?_eq_getElem hkl;refine ⟨[.fz (.int (k:Int)),.fz G.d,.fz (Zz p)],rfl,?_,rfl⟩;have:Ia G p.1 k=Mx G.steps[k] p.1:=by unfold Ia;rw [e]
  rw [this];exact Sn (Zp (xs:=[G.d,.tup [.int (p.1:Int),.int (p.2:Int)],.int (k:Int)]) rfl (Z85 G hG p.1 _ k _ e))
 rw [← O7] at hc;refine Yi (Wa (Ut (xs:=rng 0 G.steps.length) (Vc (Z1 (Yt (Z1 (x:=.tup (G.steps.map St3.d)) (Z5 rfl rfl rfl) rfl) (by show some (Dat.int ((G.steps.map St3.d).length:Int))=_;rw [length_map])) rfl) (by lia)) rfl hc)) ?_;rw [Jw];rfl
theorem Z6n {s:St3} {p:Nat×Nat} {r:Dn} (hf:Fine s p) (h:DnOk s p.1 p.2 r):r.d=Zz (W9 s p):=by
 cases r with
 | broken=>exact absurd (h.b.mp rfl) hf.lev
 | crowded =>
  obtain ⟨q,h1,h2,h3⟩:=(h.k hf.lev).mp rfl;exact absurd (hf.room q h1 h2) h3
 | «at» m c =>
  obtain ⟨h1,h2⟩:=h.a m c rfl;have e1:m=(W9 s p).1:=eq_of_testBit_eq fun j=>by rw [h1,Z7l]
  have e2:c=(W9 s p).2:=eq_of_testBit_eq fun j=>by
   rw [h2,Zcr];by_cases e:j=s.w
   ·subst e
    rw [if_pos rfl,decide_eq_true rfl];have:=hf.lev;revert this;cases p.2.testBit s.w<;>cases s.up<;>simp
   ·rw [if_neg e,decide_eq_false (Ne.symm e)];simp
  show Dat.tup [.int (m:Int),.int (c:Int)]=Dat.tup [.int ((W9 s p).1:Int),.int ((W9 s p).2:Int)];rw [e1,e2]
theorem Gb.up {G:G3} (h:Gb 54 G):Gb 64 G:=⟨h.w2,h.s1,h.s2,fun s hs=>⟨(h.st s hs).w,fun p hp=>by have:=(h.st s hs).t p hp;lia,fun p hp=>by have:=(h.st s hs).f p hp;lia,(h.st s hs).tn,(h.st s hs).fn⟩,lt_of_lt_of_le h.mks (pow_le_pow_right (by lia) (by lia))⟩
def rw0 (G:G3):Rw:=⟨G.marks,G.code,none⟩
theorem Z9z {G:G3} {I:Nat×Nat->Prop} {rows:List Rw} (hle:rows.length<=400) (t:Told G I rows) (n:Nat) (hn:n<rows.length):Kk [.lst (rows.map Rw.d),.int (n:Int)]=.ok (.lst (Zc (Uv rows n))):=by
 refine Ub (Yl (n:=4) (p:=2) (ds:=[.lst (rows.map Rw.d),.int (n:Int)]) (g:=N3) (R:=fun d=>d=.lst (Zc (Uv rows n))) rfl ?_);show Go (N3 [.fz (.lst (rows.map Rw.d)),.fz (.int (n:Int)),.un,.un]) _ _;unfold N3;refine Z6 (Q0 (ds:=Zc []) rfl ?_);refine Z6 (Zf rfl ?_);refine Z6 (Iu (fun m e=>∃ (at0:Nat) (ks:List Nat),e=[.fz (.lst (rows.map Rw.d)),.fz (.int (n:Int)),.ow (Zc ks),.fz (.int (at0:Int))]/\m=at0/\at0<rows.length/\Uv rows n=Uv rows at0++ks.reverse/\ks.length+at0<=n) (n:=n) ⟨n,[],rfl,rfl,hn,by simp,by simp⟩ ?_);rintro m e ⟨at0,ks,rfl,rfl,hl,hw,hk⟩;obtain ⟨r,hr⟩:∃ r,rows[m]?=some r:=⟨_,getElem?_eq_getElem hl⟩;have hix:Wi (.lst (rows.map Rw.d)) (.int (m:Int))=some r.d:=Jc (by rw [getElem?_map,hr];rfl);rcases eq_zero_or_pos m with z | z
 ·left
  have hs:=(Z43 t hr).mpr z;subst z;refine ⟨Yd (Z5 (x:=.non) (Z5 (Z5 rfl rfl hix) rfl (by show some (match r.src with | none=>Dat.non | some p=>.int (p.1:Int))=_;rw [hs])) rfl rfl),?_⟩;rw [K5,List.nil_append] at hw;refine Yi (Wa (Z7y (xs:=Zc ks) (Z1 rfl rfl))) ?_;rw [hw];unfold Zc;rw [List.map_reverse,List.map_reverse]
 ·right
  obtain ⟨f,k,s,rf,a1,a2,a3,a4,a5,a6⟩:=t.src m r hr z;have hd2:Wi r.d (.int 2)=some (.int (f:Int)):=by show some (match r.src with | none=>Dat.non | some p=>.int (p.1:Int))=_;rw [a1]
  have hd3:Wi r.d (.int 3)=some (.int (k:Int)):=by show some (match r.src with | none=>Dat.non | some p=>.int (p.2:Int))=_;rw [a1]
  refine ⟨Yd (Z5 (x:=.int (f:Int)) (Z5 (Z5 rfl rfl hix) rfl hd2) rfl rfl),?_⟩;refine Z6 (U1 (ds:=Zc ks) (as:=[.int (k:Int)]) (ds':=Zc (ks++[k])) rfl (Z1 (Z5 (Z5 rfl rfl hix) rfl hd3) rfl) (by rw [Ve (by unfold Zc;rw [length_map,length_map];lia),← Qp];rfl) ?_);refine Zf (Z5 (Z5 rfl rfl hix) rfl hd2) ⟨f,a2,f,ks++[k],rfl,rfl,by lia,?_,by rw [length_append,length_singleton];lia⟩;rw [hw,Ij t hr a1 z,List.reverse_append];simp
theorem Ek {G:G3} {I:Nat×Nat->Prop} {rows:List Rw} (t:Told G I rows):∀ n,n<rows.length->(Uv rows n).length<=n/\∀ k∈Uv rows n,k<G.steps.length:=by
 intro m;induction m using Nat.strongRecOn with
 | _ m ih =>
  intro hm;rcases eq_zero_or_pos m with z | z
  ·subst z;rw [K5];exact ⟨le_refl _,by simp⟩
  ·obtain ⟨r',hr'⟩:∃ r,rows[m]?=some r:=⟨_,getElem?_eq_getElem hm⟩
   obtain ⟨f,k,s,rf,a1,a2,a3,_,_,_⟩:=t.src m r' hr' z;obtain ⟨h1,h2⟩:=ih f a2 (by lia);rw [Ij t hr' a1 z,length_append,length_singleton];refine ⟨by lia,fun x hx=>?_⟩;rcases mem_append.mp hx with q | q
   ·exact h2 x q
   ·rw [mem_singleton.mp q];exact (List.getElem?_eq_some_iff.mp a3).1
def Ra (ks:List Nat):List Int:=ks.map fun k:Nat=>(k:Int)
theorem Aa {ks:List Nat} (h1:ks.length<=500) (h2:∀ k∈ks,k<1000):Du (Ra ks)=true:=by
 unfold Du Ra;rw [length_map,decide_eq_true h1,Bool.true_and,all_eq_true];intro n hn;obtain ⟨k,hk,rfl⟩:=mem_map.mp hn;have:=h2 k hk;rw [decide_eq_true (by lia),decide_eq_true (by lia)];rfl
theorem Cr (l:List Nat):Js (Zc l)=some (Ra l):=Ey (Ra l)
def D7 (ks:List Nat):List (Str×XD):=[("way",.nums (Ra ks))]
theorem Z72 {ks:List Nat} (h1:ks.length<=500) (h2:∀ k∈ks,k<1000):gW "way" [.lst (Zc ks)]=some (D7 ks):=by
 unfold gW;dsimp only;rw [Cr];dsimp only [Option.bind];rw [if_pos (Aa h1 h2)];rfl
def Sf (s:St3) (p:Nat×Nat):Bool:=p.2.testBit s.w==s.up
def Z03 (b:Bool):Str:=if b then "Broken" else "Crowded"
theorem Ai (G:G3) (hG:Gb 64 G) (p:Nat×Nat) (k:Nat) (s:St3) (h:G.steps[k]?=some s) (hc:Mx s p.1=true) (hf:¬ Fine s p):R8 [G.d,Zz p,.int (k:Int)]=.exc (Z03 (Sf s p)) (D7 [k]):=by
 have hs:=hG.st s (mem_of_getElem? h);have hw2:=hG.w2;have hw1:=hs.w;have hk:=(List.getElem?_eq_some_iff.mp h).1;have hs2:=hG.s2;have hgw:gW "way" [.lst (Zc [k])]=some (D7 [k]):=Z72 (by simp) fun q hq=>by rw [mem_singleton.mp hq];lia
 have:=Bg (n:=6) (p:=3) (ds:=[G.d,Zz p,.int (k:Int)]) (g:=Um) (R:=fun _=>False) (E:=fun c fl=>c=Z03 (Sf s p)/\fl=D7 [k]) rfl ?_
 ·rcases this with ⟨d,_,z⟩ | ⟨c,fl,e,h1,h2⟩
  ·exact z.elim
  ·rw [← h1,← h2];exact e
 show GoE (Um [.fz G.d,.fz (Zz p),.fz (.int (k:Int)),.un,.un,.un]) _ _ _ _;unfold Um;refine Qz (Zf (Zp (xs:=[G.d,.int (k:Int)]) rfl (B6 G k s h)) ?_);refine Ur (O6 (Yd (Z5 (Zp (xs:=[.int (p.2:Int),.int (s.w:Int)]) (Z1 (Z5 rfl rfl rfl) rfl) (Z3z p.2 s.w)) (Zp (xs:=[G.d,.int (k:Int)]) rfl (C0 G k s h)) (Z9t _ _))) (fun hb=>G4 (ds:=[.lst (Zc [k])]) (Z1 (Wa (Wh (Z1 rfl rfl) (by simp))) rfl) hgw ⟨by unfold Sf;rw [hb];rfl,rfl⟩) (fun hb=>(W2 ?_:Go _ _ _).toE));have hlev:p.2.testBit s.w≠s.up:=by simpa using hb
 have hbr:Sf s p=false:=by unfold Sf;exact hb
 obtain ⟨lf,ek,hlf⟩:=Kz p.1 (bitsN s.takes);refine Qz (Zf (d:=.int (lf:Int)) (Z5 (Z5 rfl rfl rfl) (Z76 (Zp (xs:=[.tup (Zc s.takes)]) (Z1 (Zp (xs:=[G.d,.int (k:Int)]) rfl (Ki G k s h)) rfl) (E6 s.takes fun p hp=>by have:=hs.t p hp;lia)) (z:=.int (-(bitsN s.takes:Int) - 1)) rfl) (by show some (Dat.int (Builtin.bitAnd _ _))=_;rw [ek])) ?_);refine Qz (Zf (d:=.int (bitsN s.fills:Int)) (Zp (xs:=[.tup (Zc s.fills)]) (Z1 (Zp (xs:=[G.d,.int (k:Int)]) rfl (Ps G k s h)) rfl) (E6 s.fills fun p hp=>by have:=hs.f p hp;lia)) ?_);refine Ur (O6 (Yd (Z5 (Z5 rfl rfl (Z9e lf _)) rfl (ne0 _))) (fun _=>G4 (ds:=[.lst (Zc [k])]) (Z1 (Wa (Wh (Z1 rfl rfl) (by simp))) rfl) hgw ⟨by rw [hbr];rfl,rfl⟩) (fun hb2=>?_));exfalso;refine hf ⟨hc,hlev,fun q h1 h2=>?_⟩;have hz:lf &&& bitsN s.fills=0:=by simpa using hb2
 have:=congrArg (Nat.testBit · q) hz;simp only [testBit_and,hlf,Uk,Nat.zero_testBit,h2,Bool.true_and,decide_eq_true h1,Bool.and_true] at this;simpa using this
theorem Cc {G:G3} {rows:List Rw} {n k:Nat} {r:Rw} (hr:rows[n]?=some r):(Z2 (dV 0) (Z2 (dS Lf (dO Wi (dV 1) (dV 2)) Q7 (Ui (dC (.int 2)))) (Z2 (dV 3) Zd))) [.fz G.d,.fz (.lst (rows.map Rw.d)),.fz (.int (n:Int)),.fz (.int (k:Int))]=some [G.d,Zz r.st,.int (k:Int)] :=
 Z1 rfl (Z1 (Jx (Z5 rfl rfl (Jc (x:=r.d) (by rw [getElem?_map,hr];rfl))) rfl (Wz rfl) (Fj r)) rfl)
theorem Z66 (G:G3) (hG:Gb 64 G) (rows:List Rw) (n k:Nat) (r:Rw) (s:St3) (hr:rows[n]?=some r) (h:G.steps[k]?=some s) (hf:Fine s r.st):Jt [G.d,.lst (rows.map Rw.d),.int (n:Int),.int (k:Int)]=.ok (Zz (W9 s r.st)):=by
 show (match T3 [.fz G.d,.fz (.lst (rows.map Rw.d)),.fz (.int (n:Int)),.fz (.int (k:Int))] with | .ret d=>Rs.ok d | .next _=>.ok .non | .exc _ c fs=>.exc c fs | _=>.no)=_;unfold T3 X4 Ph;rw [Cc hr];dsimp only;rw [Z0c G hG r.st k s h hf]
theorem Z2t {G:G3} {I:Nat×Nat->Prop} (hG:Gb 64 G) {rows:List Rw} (t:Told G I rows) (hle:rows.length<=400) {n k:Nat} {r:Rw} {s:St3} (hr:rows[n]?=some r) (h:G.steps[k]?=some s) (hc:Mx s r.m=true) (hf:¬ Fine s r.st):Jt [G.d,.lst (rows.map Rw.d),.int (n:Int),.int (k:Int)]=.exc (Z03 (Sf s r.st)) (D7 (Uv rows n++[k])):=by
 have eb:=Ai G hG r.st k s h hc hf;have hk:=(List.getElem?_eq_some_iff.mp h).1;have hn:=(List.getElem?_eq_some_iff.mp hr).1;have hs2:=hG.s2;obtain ⟨w1,w2⟩:=Ek t n hn;have hgw:gW "way" [.lst (Zc (Uv rows n++[k]))]=some (D7 (Uv rows n++[k])):=Z72 (by rw [length_append,length_singleton];lia) fun q hq=>by
  rcases mem_append.mp hq with z | z
  ·have:=w2 q z;lia
  ·rw [mem_singleton.mp z];lia
 have ha:(Z2 (dL (dO L8 (W1 Kk (Z2 (dV 1) (Z2 (dV 2) Zd))) (dL (Vi (Z2 (dV 3) Zd))))) Zd) [.fz G.d,.fz (.lst (rows.map Rw.d)),.fz (.int (n:Int)),.fz (.int (k:Int))]=some [.lst (Zc (Uv rows n++[k]))]:=by
  refine Z1 (Wa (ds:=Zc (Uv rows n++[k])) ?_) rfl;unfold dO;rw [Zp (xs:=[.lst (rows.map Rw.d),.int (n:Int)]) rfl (Z9z hle t n hn),Wa (Wh (xs:=[.int (k:Int)]) (Z1 rfl rfl) (by simp))];have hl:(Zc (Uv rows n)).length=(Uv rows n).length:=by unfold Zc;rw [length_map,length_map]
  show L8 (.lst (Zc (Uv rows n))) (.lst (Zc [k]))=_;rw [← Qp];unfold L8;exact if_pos (by rw [hl];have:(Zc [k]).length=1:=rfl;rw [sizeLine_eq];lia)
 show (match T3 [.fz G.d,.fz (.lst (rows.map Rw.d)),.fz (.int (n:Int)),.fz (.int (k:Int))] with | .ret d=>Rs.ok d | .next _=>.ok .non | .exc _ c fs=>.exc c fs | _=>.no)=_;unfold T3 X4 Ph;rw [Cc hr];dsimp only;rw [eb];dsimp only;have hr:∀ c,U5 c (gW "way") (Z2 (dL (dO L8 (W1 Kk (Z2 (dV 1) (Z2 (dV 2) Zd))) (dL (Vi (Z2 (dV 3) Zd))))) Zd) [.fz G.d,.fz (.lst (rows.map Rw.d)),.fz (.int (n:Int)),.fz (.int (k:Int))]=.exc [.fz G.d,.fz (.lst (rows.map Rw.d)),.fz (.int (n:Int)),.fz (.int (k:Int))] c (D7 (Uv rows n++[k])):=fun c=>by
  unfold U5;rw [ha];dsimp only [Option.bind];rw [hgw]
 cases Sf s r.st with
 | true =>
  rw [show Z03 true="Broken" from rfl,if_pos (by decide),if_pos rfl,hr];rfl
 | false =>
  rw [show Z03 false="Crowded" from rfl,if_pos (by decide),if_neg (by decide),if_pos rfl,hr];rfl
abbrev TT (G:G3) (rows:List Rw):Prop:=Told G (fun _=>True) rows
theorem Pm (G:G3):TT G [rw0 G] where
 zero:=rfl
 inv:=fun _ _=>trivial
 nd:=nodup_cons.mpr ⟨by simp,nodup_nil⟩
 src:=fun i r e h0=>by
  rw [List.getElem?_cons,if_neg (by lia)] at e;cases e
theorem Z1l {G:G3} {rows:List Rw} (t:TT G rows) {f k:Nat} {s:St3} {rf:Rw} (hf:rows[f]?=some rf) (hs:G.steps[k]?=some s) (hc:Mx s rf.m=true) (hn:W9 s rf.st∉rows.map Rw.st):TT G (rows++[⟨(W9 s rf.st).1,(W9 s rf.st).2,some (f,k)⟩]) where
 zero:=by
  have:=t.zero;have hl:=(List.getElem?_eq_some_iff.mp this).1;rw [getElem?_append_left hl];exact this
 inv:=fun _ _=>trivial
 nd:=by
  rw [map_append];refine nodup_append.mpr ⟨t.nd,nodup_cons.mpr ⟨by simp,nodup_nil⟩,fun a ha b hb=>?_⟩;have eb:b=W9 s rf.st:=mem_singleton.mp hb;rw [eb];intro e;exact hn (e▸ha)
 src:=fun i r e h0=>by
  rcases lt_or_ge i rows.length with hl | hl
  ·rw [getElem?_append_left hl] at e
   obtain ⟨f',k',s',rf',a1,a2,a3,a4,a5,a6⟩:=t.src i r e h0;exact ⟨f',k',s',rf',a1,a2,a3,by rw [getElem?_append_left (by lia)];exact a4,a5,a6⟩
  ·rw [List.getElem?_append_right hl] at e
   have hfl:=(List.getElem?_eq_some_iff.mp hf).1;have e0:i - rows.length=0:=by
    rcases eq_zero_or_pos (i - rows.length) with z | z
    ·exact z
    ·rw [List.getElem?_cons,if_neg (by lia)] at e;cases e
   rw [e0] at e;cases e;exact ⟨f,k,s,rf,rfl,by lia,hs,by rw [getElem?_append_left hfl];exact hf,hc,rfl⟩
inductive Res where
 | told (rows:List Rw) | many | bad (b:Bool) (ks:List Nat)
open Classical in
def inn (G:G3) (most a:Nat) (p:Nat×Nat):List Nat->List Rw->Res ⊕ List Rw
 | [],rows=>.inr rows
 | k::ks,rows=>match G.steps[k]? with
  | none=>.inl .many
  | some s=>if Fine s p then (if W9 s p∈rows.map Rw.st then inn G most a p ks rows else if most<=rows.length then .inl .many else inn G most a p ks (rows++[⟨(W9 s p).1,(W9 s p).2,some (a,k)⟩])) else .inl (.bad (Sf s p) (Uv rows a++[k]))
def Ed (G:G3) (most:Nat):Nat->Nat->List Rw->Res
 | 0,_,rows=>.told rows
 | f+1,a,rows=>match rows[a]? with
  | none=>.told rows
  | some r=>match inn G most a r.st (O0 G r.m) rows with
   | .inl e=>e
   | .inr rows'=>Ed G most f (a+1) rows'
section
variable {G:G3} {most a k:Nat} {p:Nat×Nat} {ks:List Nat} {rows:List Rw} {s:St3}
theorem Bw (h:G.steps[k]?=some s) (hf:¬ Fine s p):inn G most a p (k::ks) rows=.inl (.bad (Sf s p) (Uv rows a++[k])):=by rw [inn,h];dsimp only;rw [if_neg hf]
theorem B8 (h:G.steps[k]?=some s) (hf:Fine s p) (hm:W9 s p∈rows.map Rw.st):inn G most a p (k::ks) rows=inn G most a p ks rows:=by rw [inn,h];dsimp only;rw [if_pos hf,if_pos hm]
theorem X9 (h:G.steps[k]?=some s) (hf:Fine s p) (hm:W9 s p∉rows.map Rw.st) (hl:most<=rows.length):inn G most a p (k::ks) rows=.inl .many:=by rw [inn,h];dsimp only;rw [if_pos hf,if_neg hm,if_pos hl]
theorem As (h:G.steps[k]?=some s) (hf:Fine s p) (hm:W9 s p∉rows.map Rw.st) (hl:¬ most<=rows.length):inn G most a p (k::ks) rows=inn G most a p ks (rows++[⟨(W9 s p).1,(W9 s p).2,some (a,k)⟩]):=by rw [inn,h];dsimp only;rw [if_pos hf,if_neg hm,if_neg hl]
theorem Bx {f:Nat} (h:rows.length<=a):Ed G most f a rows=.told rows:=by
 cases f with
 | zero=>rfl
 | succ f=>rw [Ed,getElem?_eq_none h]
theorem Hq {f:Nat} {r:Rw} {e:Res} (h:rows[a]?=some r) (hi:inn G most a r.st (O0 G r.m) rows=.inl e):Ed G most (f+1) a rows=e:=by rw [Ed,h];dsimp only;rw [hi]
theorem Z4c {f:Nat} {r:Rw} {rows':List Rw} (h:rows[a]?=some r) (hi:inn G most a r.st (O0 G r.m) rows=.inr rows'):Ed G most (f+1) a rows=Ed G most f (a+1) rows':=by rw [Ed,h];dsimp only;rw [hi]
end
theorem Bu {i:Nat} {F:List Dat->Rs} {fs:Ev->Option (List Dat)} {env:Ev} {ds:List Dat} {d:Dat} (e:fs env=some ds) (h:F ds=.ok d):Gr i F fs env=.next (env.set i (.fz d)):=by unfold Gr;rw [e];dsimp only;rw [h]
theorem Ig {i:Nat} {F:List Dat->Rs} {fs:Ev->Option (List Dat)} {env:Ev} {ds:List Dat} {c:Str} {fl:List (Str×XD)} (e:fs env=some ds) (h:F ds=.exc c fl):Gr i F fs env=.exc env c fl:=by unfold Gr;rw [e];dsimp only;rw [h]
theorem Z3q {F:List Dat->Rs} {ds:List Dat} {d:Dat} (h:F ds=.ok d) (hp:Vy d=true):D9 F ds=.ok d:=by unfold D9;rw [h];exact if_pos hp
theorem Z17 {F:List Dat->Rs} {ds:List Dat} {c:Str} {fl:List (Str×XD)} (h:F ds=.exc c fl):D9 F ds=.exc c fl:=by unfold D9;rw [h]
def IsX (R:Res) (c:Str) (fl:List (Str×XD)):Prop:=(R=.many/\c="TooMany" /\ fl=[])\/∃ (b:Bool) (ks:List Nat),R=.bad b ks/\c=Z03 b/\fl=D7 ks/\ks.length<=500
theorem Z0e {G:G3} (hG:Gb 64 G) (most:Nat) (hm1:1<=most) (hm2:most<=400) {R:Res} (hR:Ed G most 400 0 [rw0 G]=R):(∃ d,Tv [G.d,.int (most:Int)]=.ok d/\∃ rows,d=.lst (rows.map Rw.d)/\R=.told rows)\/∃ c fl,Tv [G.d,.int (most:Int)]=.exc c fl/\IsX R c fl:=by
 refine Bg (n:=8) (p:=2) (ds:=[G.d,.int (most:Int)]) (g:=Jv) (R:=fun d=>∃ rows,d=.lst (rows.map Rw.d)/\R=.told rows) (E:=fun c fl=>IsX R c fl) rfl ?_;show GoE (Jv [.fz G.d,.fz (.int (most:Int)),.un,.un,.un,.un,.un,.un]) _ _ _ _;unfold Jv;refine Qz (Q0 (ds:=[rw0 G].map Rw.d) (Wh (Z1 (Zr (Z1 (Z5 rfl rfl rfl) (Z1 (Z5 rfl rfl rfl) rfl)) (by simp)) rfl) (by simp)) ?_);refine Qz (C6 (q:=(G.marks,G.code)) (Zr (Z1 (Z5 rfl rfl rfl) (Z1 (Z5 rfl rfl rfl) rfl)) (by simp)) rfl ?_);refine Qz (Zf (d:=.int ((0:Nat):Int)) rfl ?_);refine Ur (Z10 (fun m e=>∃ (rows:List Rw) (at0:Nat) (v5 v6 v7:Slt),e=[.fz G.d,.fz (.int (most:Int)),.ow (rows.map Rw.d),.gx (.dict (Qn (rows.map Rw.st))),.fz (.int (at0:Int)),v5,v6,v7]/\TT G rows/\at0<=rows.length/\m+at0=400/\rows.length<=most/\Ed G most m at0 rows=R) (n:=400) ⟨_,0,.un,.un,.un,rfl,Pm G,by lia,rfl,hm1,hR⟩ ?_);rintro m e ⟨rows,at0,v5,v6,v7,rfl,t,hal,hm,hmost,hok⟩;have hlen:dF Qr (Z2 (dP 2) Zd) [.fz G.d,.fz (.int (most:Int)),.ow (rows.map Rw.d),.gx (.dict (Qn (rows.map Rw.st))),.fz (.int (at0:Int)),v5,v6,v7]=some (.int (rows.length:Int)):=Yt (Z1 rfl rfl) (S4 Rw.d rows);rcases lt_or_ge at0 rows.length with hl | hl
 ·right
  obtain ⟨r,hr⟩:∃ r,rows[at0]?=some r:=⟨_,getElem?_eq_getElem hl⟩;have hm1':m=(m - 1)+1:=by lia
  have hix:Wi (.lst (rows.map Rw.d)) (.int (at0:Int))=some r.d:=Jc (by rw [getElem?_map,hr];rfl);refine ⟨Yd (Z5 rfl hlen (by show some (Dat.bl (decide ((at0:Int)<(rows.length:Int))))=_;rw [decide_eq_true (by lia)])),?_⟩;refine Qz (Zf (Zp (xs:=[G.d,Zz r.st]) (Z1 rfl (Z1 (Jx (Z5 rfl rfl hix) rfl (Wz rfl) (Fj r)) rfl)) (Py G hG r.st)) ?_);obtain ⟨ks,hks⟩:∃ ks:List Nat,O0 G r.st.1=ks:=⟨_,rfl⟩;have hks':O0 G r.m=ks:=hks;have hkm:∀ k∈ks,Ia G r.m k=true:=fun k hk=>by rw [← hks'] at hk;exact Z28 hk
  rw [hks];refine Ur (Z6g (ds:=Zc ks) (fun i e=>∃ (rw1:List Rw) (v6 v7:Slt),e=[.fz G.d,.fz (.int (most:Int)),.ow (rw1.map Rw.d),.gx (.dict (Qn (rw1.map Rw.st))),.fz (.int (at0:Int)),.fz (.lst (Zc ks)),v6,v7]/\TT G rw1/\rows <+: rw1/\rw1.length<=most/\inn G most at0 r.st (ks.drop i) rw1=inn G most at0 r.st ks rows) rfl ⟨rows,v6,v7,rfl,t,List.prefix_rfl,hmost,rfl⟩ ?_ ?_)
  ·rintro i d e hi ⟨rw1,v6,v7,rfl,tr,hpre,hmo,hfn⟩
   obtain ⟨k,hk,rfl⟩:=M2 hi;have hcanK:=hkm k (mem_of_getElem? hk);obtain ⟨s,hs,hcan⟩:=Z0j hcanK;have hdk:ks.drop i=k::ks.drop (i+1):=by
    obtain ⟨h1,h2⟩:=List.getElem?_eq_some_iff.mp hk;rw [drop_eq_getElem_cons h1,h2]
   rw [hdk] at hfn;have hr':=Ba hpre hr;have hle:rw1.length<=400:=by lia
   refine ⟨_,rfl,?_⟩;by_cases hf:Fine s r.st
   case neg =>
    have ec:=Z2t hG tr hle hr' hs hcan hf;rw [Bw hs hf] at hfn;refine Ur ⟨?_⟩;rw [Ig (ds:=[G.d,.lst (rw1.map Rw.d),.int (at0:Int),.int (k:Int)]) rfl (Z17 ec)];refine .inr ⟨_,_,?_,rfl,rfl,by have:=(Ek tr at0 (List.getElem?_eq_some_iff.mp hr').1).1;rw [length_append,length_singleton];lia⟩;rw [← hok,hm1'];exact Hq hr (by rw [hks',← hfn])
   refine Ur ⟨?_⟩;rw [Bu (d:=Zz (W9 s r.st)) (ds:=[G.d,.lst (rw1.map Rw.d),.int (at0:Int),.int (k:Int)]) rfl (Z3q (Z66 G hG rw1 at0 k r s hr' hs hf) rfl)];refine Ur (O6 (Yd (Z4p (ps:=rw1.map Rw.st) (q:=W9 s r.st) rfl rfl)) (fun hb=>?_) (fun hb=>?_))
   ·rw [B8 hs hf (of_decide_eq_true hb)] at hfn
    exact ⟨⟨rw1,.fz (.int (k:Int)),.fz (Zz (W9 s r.st)),rfl,tr,hpre,hmo,hfn⟩⟩
   have hnin:W9 s r.st∉rw1.map Rw.st:=of_decide_eq_false hb;refine (W2 ?_:Go _ _ _).toE;refine Ur (O6 (b:=decide ((most:Int)<=(rw1.length:Int))) (Yd (Z5 (Yt (Z1 rfl rfl) (S4 Rw.d rw1)) rfl rfl)) (fun hb2=>?_) (fun hb2=>(W2 ?_:Go _ _ _).toE))
   ·have hge:=of_decide_eq_true hb2
    rw [X9 hs hf hnin (by lia)] at hfn;refine G4 (ds:=[]) rfl rfl (.inl ⟨?_,rfl,rfl⟩);rw [← hok,hm1'];exact Hq hr (by rw [hks',← hfn])
   have hlt:=of_decide_eq_false hb2;rw [As hs hf hnin (by lia)] at hfn;refine Qz (At (ps:=rw1.map Rw.st) (q:=W9 s r.st) rfl rfl rfl hnin (by rw [length_map];lia) ?_);refine (U1 (ds:=rw1.map Rw.d) (as:=[(⟨(W9 s r.st).1,(W9 s r.st).2,some (at0,k)⟩:Rw).d]) (ds':=(rw1++[(⟨(W9 s r.st).1,(W9 s r.st).2,some (at0,k)⟩:Rw)]).map Rw.d) rfl (Z1 (Zr (Z1 (Z5 rfl rfl rfl) (Z1 (Z5 rfl rfl rfl) rfl)) (by simp)) rfl) (by rw [Ve (by rw [length_map];lia),map_append];rfl) ?_).toE;refine ⟨rw1++[⟨(W9 s r.st).1,(W9 s r.st).2,some (at0,k)⟩],.fz (.int (k:Int)),.fz (Zz (W9 s r.st)),?_,Z1l tr hr' hs hcan hnin,hpre.trans (List.prefix_append _ _),by rw [length_append,length_singleton];lia,hfn⟩;rw [map_append (f:=Rw.st)];rfl
  ·rintro e ⟨rw1,v6,v7,rfl,tr,hpre,hmo,hfn⟩
   have hlk:(Zc ks).length=ks.length:=by unfold Zc;rw [length_map,length_map]
   rw [hlk,List.drop_length,inn] at hfn;have hpl:=hpre.length_le;refine (Z93 rfl rfl ⟨m - 1,by lia,rw1,at0+1,_,_,_,rfl,tr,by lia,by lia,hmo,?_⟩:Go _ _ _).toE;rw [← hok,hm1'];exact (Z4c hr (by rw [hks',← hfn])).symm
 ·left
  refine ⟨Yd (Z5 rfl hlen (by show some (Dat.bl (decide ((at0:Int)<(rows.length:Int))))=_;rw [decide_eq_false (by lia)])),?_⟩;exact (Hf rfl ⟨rows,rfl,by rw [← hok];exact Bx hl⟩:Go _ _ _).toE
theorem Fq {G:G3} {I:Nat×Nat->Prop} {rows:List Rw} (hle:rows.length<=400) (t:Told G I rows) (n:Nat) (hn:n<rows.length):Mn [.lst (rows.map Rw.d),.int (n:Int)]=.ok (.lst (Zc (Uv rows n))):=by
 refine Ub (Yl (n:=3) (p:=2) (ds:=[.lst (rows.map Rw.d),.int (n:Int)]) (g:=T6) (R:=fun d=>d=.lst (Zc (Uv rows n))) rfl ?_);show Go (T6 [.fz (.lst (rows.map Rw.d)),.fz (.int (n:Int)),.un]) _ _;unfold T6;refine Z6 (Q0 (ds:=Zc []) rfl ?_);refine Z6 (Iu (fun m e=>∃ (at0:Nat) (ks:List Nat),e=[.fz (.lst (rows.map Rw.d)),.fz (.int (at0:Int)),.ow (Zc ks)]/\m=at0/\at0<rows.length/\Uv rows n=Uv rows at0++ks/\ks.length+at0<=n) (n:=n) ⟨n,[],rfl,rfl,hn,by simp,by simp⟩ ?_);rintro m e ⟨at0,ks,rfl,rfl,hl,hw,hk⟩;obtain ⟨r,hr⟩:∃ r,rows[m]?=some r:=⟨_,getElem?_eq_getElem hl⟩;have hix:Wi (.lst (rows.map Rw.d)) (.int (m:Int))=some r.d:=Jc (by rw [getElem?_map,hr];rfl);rcases eq_zero_or_pos m with z | z
 ·left
  subst z;refine ⟨Yd (Z5 rfl rfl rfl),?_⟩;rw [K5,List.nil_append] at hw;exact Hf rfl (by rw [hw])
 ·right
  obtain ⟨f,k,s,rf,a1,a2,a3,a4,a5,a6⟩:=t.src m r hr z;have hd2:Wi r.d (.int 2)=some (.int (f:Int)):=by show some (match r.src with | none=>Dat.non | some p=>.int (p.1:Int))=_;rw [a1]
  have hd3:Wi r.d (.int 3)=some (.int (k:Int)):=by show some (match r.src with | none=>Dat.non | some p=>.int (p.2:Int))=_;rw [a1]
  refine ⟨Yd (Z5 rfl rfl (by show some (Dat.bl (decide ((0:Int)<(m:Int))))=_;rw [decide_eq_true (by lia)])),?_⟩;refine Z6 (U1 (ds:=Zc ks) (as:=[.int ((0:Nat):Int),.int (k:Int)]) (ds':=Zc (k::ks)) rfl (Z1 rfl (Z1 (Z5 (Z5 rfl rfl hix) rfl hd3) rfl)) ((Rc ks 0 k (by lia) (by lia)).trans (by simp)) ?_);refine Zf (Z5 (Z5 rfl rfl hix) rfl hd2) ⟨f,a2,f,k::ks,rfl,rfl,by lia,?_,by rw [length_cons];lia⟩;rw [hw,Ij t hr a1 z];simp
theorem Z26 (p:Nat×Nat) (a b:Nat):Ri (Zz p) (.tup [.int (a:Int),.int (b:Int)])=some (⟨p.1,p.2,some (a,b)⟩:Rw).d:=Me (xs:=[.int (p.1:Int),.int (p.2:Int)]) (ys:=[.int (a:Int),.int (b:Int)]) (by simp)
def Z4u (b:Bool):Str:=if b then "broken" else "crowded"
def Ln:Res->Dat
 | .told rows=>.tup [.str "told",.lst (rows.map Rw.d)]
 | .many=>.tup [.str "many",.non]
 | .bad b ks=>.tup [.str (Z4u b),.lst (Zc ks)]
theorem Zaa {s:St3} {p:Nat×Nat} {q:Dn} (hc:Mx s p.1=true) (hf:¬ Fine s p) (h:DnOk s p.1 p.2 q):q.d=.str (Z4u (Sf s p)):=by
 by_cases hb:p.2.testBit s.w=s.up
 ·rw [h.b.mpr hb,show Sf s p=true from by unfold Sf;rw [hb];simp];rfl
 ·have hk:q=.crowded:=(h.k hb).mpr (by
   apply Classical.byContradiction;intro hn;refine hf ⟨hc,hb,fun x h1 h2=>?_⟩;apply Classical.byContradiction;intro h3;exact hn ⟨x,h1,h2,h3⟩)
  rw [hk,show Sf s p=false from by unfold Sf;simpa using hb];rfl
theorem Za8 {G:G3} (hG:Gb 64 G) (most:Nat) (hm1:1<=most) (hm2:most<=400) {R:Res} (hR:Ed G most 400 0 [rw0 G]=R):Mf [G.d,.int (most:Int)]=.ok (Ln R):=by
 refine Ub (Yl (n:=8) (p:=2) (ds:=[G.d,.int (most:Int)]) (g:=Tf) (R:=fun d=>d=Ln R) rfl ?_);show Go (Tf [.fz G.d,.fz (.int (most:Int)),.un,.un,.un,.un,.un,.un]) _ _;unfold Tf;refine Z6 (Q0 (ds:=[rw0 G].map Rw.d) (Wh (Z1 (Zr (Z1 (Z5 rfl rfl rfl) (Z1 (Z5 rfl rfl rfl) rfl)) (by simp)) rfl) (by simp)) ?_);refine Z6 (C6 (q:=(G.marks,G.code)) (Zr (Z1 (Z5 rfl rfl rfl) (Z1 (Z5 rfl rfl rfl) rfl)) (by simp)) rfl ?_);refine Z6 (Zf (d:=.int ((0:Nat):Int)) rfl ?_);refine Z6 (Iu (fun m e=>∃ (rows:List Rw) (at0:Nat) (v5 v6 v7:Slt),e=[.fz G.d,.fz (.int (most:Int)),.ow (rows.map Rw.d),.gx (.dict (Qn (rows.map Rw.st))),.fz (.int (at0:Int)),v5,v6,v7]/\TT G rows/\at0<=rows.length/\m+at0=400/\rows.length<=most/\Ed G most m at0 rows=R) (n:=400) ⟨_,0,.un,.un,.un,rfl,Pm G,by lia,rfl,hm1,hR⟩ ?_);rintro m e ⟨rows,at0,v5,v6,v7,rfl,t,hal,hm,hmost,hok⟩;have hlen:dF Qr (Z2 (dP 2) Zd) [.fz G.d,.fz (.int (most:Int)),.ow (rows.map Rw.d),.gx (.dict (Qn (rows.map Rw.st))),.fz (.int (at0:Int)),v5,v6,v7]=some (.int (rows.length:Int)):=Yt (Z1 rfl rfl) (S4 Rw.d rows);rcases lt_or_ge at0 rows.length with hl | hl
 ·right
  obtain ⟨r,hr⟩:∃ r,rows[at0]?=some r:=⟨_,getElem?_eq_getElem hl⟩;have hm1':m=(m - 1)+1:=by lia
  refine ⟨Yd (Z5 rfl hlen (by show some (Dat.bl (decide ((at0:Int)<(rows.length:Int))))=_;rw [decide_eq_true (by lia)])),?_⟩;refine Z6 (Vw (ds:=G1 0 (G.steps.map St3.d)) (fun i e=>∃ (rw1:List Rw) (v5 v6 v7:Slt),e=[.fz G.d,.fz (.int (most:Int)),.ow (rw1.map Rw.d),.gx (.dict (Qn (rw1.map Rw.st))),.fz (.int (at0:Int)),v5,v6,v7]/\TT G rw1/\rows <+: rw1/\rw1.length<=most/\inn G most at0 r.st (((List.range G.steps.length).drop i).filter (Ia G r.m)) rw1=inn G most at0 r.st (O0 G r.m) rows) (by unfold Z08;rw [Qa (xs:=G.steps.map St3.d) (Z5 rfl rfl rfl)];rfl) ⟨rows,v5,v6,v7,rfl,t,List.prefix_rfl,hmost,rfl⟩ ?_ ?_)
  ·rintro k d e hk ⟨rw1,v5,v6,v7,rfl,tr,hpre,hmo,hfn⟩
   obtain ⟨x,hx,rfl⟩:=Ep hk;rw [getElem?_map] at hx;obtain ⟨s,hs,rfl⟩:=map_some hx;have hkl:=(List.getElem?_eq_some_iff.mp hs).1;have hsm:=mem_of_getElem? hs;have hcK:Ia G r.m k=Mx s r.m:=by unfold Ia;rw [hs]
   have hdk:(List.range G.steps.length).drop k=k::(List.range G.steps.length).drop (k+1):=by rw [drop_eq_getElem_cons (by simpa using hkl),List.getElem_range]
   rw [hdk,List.filter_cons,hcK] at hfn;have hr':=Ba hpre hr;have hn':=(List.getElem?_eq_some_iff.mp hr').1;have hle:rw1.length<=400:=by lia
   have hix:Wi (.lst (rw1.map Rw.d)) (.int (at0:Int))=some r.d:=Jc (by rw [getElem?_map,hr'];rfl);refine ⟨[.fz G.d,.fz (.int (most:Int)),.ow (rw1.map Rw.d),.gx (.dict (Qn (rw1.map Rw.st))),.fz (.int (at0:Int)),.fz (.int (k:Int)),.fz s.d,v7],rfl,?_⟩;refine Vq (b:=Mx s r.m) (Sn (Zp (xs:=[s.d,.int (r.m:Int)]) (Z1 rfl (Z1 (Z5 (Z5 rfl rfl hix) rfl rfl) rfl)) (Am s r.m))) (fun hcan=>?_) (fun hcan=>W2 ?_)
   ·rw [hcan,if_pos rfl] at hfn
    obtain ⟨q,eq,hq⟩:=Z5u s (hG.st s hsm) hG.w2 r.m r.c (Xf.mp hcan);have hdone:∀ v7:Slt,W1 Tp (Z2 (dV 6) (Z2 (dS Lf (dO Wi (dP 2) (dV 4)) Q7 (Ui (dC (.int 2)))) Zd)) [.fz G.d,.fz (.int (most:Int)),.ow (rw1.map Rw.d),.gx (.dict (Qn (rw1.map Rw.st))),.fz (.int (at0:Int)),.fz (.int (k:Int)),.fz s.d,v7]=some q.d:=fun v7=>Zp (xs:=[s.d,Zz r.st]) (Z1 rfl (Z1 (Jx (Z5 rfl rfl hix) rfl (Wz rfl) (Fj r)) rfl)) eq
    by_cases hf:Fine s r.st
    ·rw [Z6n (p:=r.st) hf hq] at hdone
     refine Z6 (Zf (hdone _) ?_);refine Z6 (Jl (Sn (Z3p (t:="tuple") rfl rfl rfl)) (W2 ?_));refine Vq (Yd (Z22 (ps:=rw1.map Rw.st) (q:=W9 s r.st) rfl rfl)) (fun hb=>?_) (fun hb=>W2 ?_)
     ·have hnin:W9 s r.st∉rw1.map Rw.st:=by simpa using hb
      refine Z6 (Vq (Yd (Z5 (Yt (Z1 rfl rfl) (S4 Rw.d rw1)) rfl (A9 _ _))) (fun hb2=>?_) (fun hb2=>W2 ?_))
      ·have hge:rw1.length=most:=by simpa using hb2
       rw [X9 hs hf hnin (by lia)] at hfn;exact Yi (Zr (Z1 rfl (Z1 rfl rfl)) (by simp)) (by rw [← hok,hm1',Hq hr hfn.symm];rfl)
      ·have hlt:rw1.length≠most:=by simpa using hb2
       rw [As hs hf hnin (by lia)] at hfn;refine Z6 (At (ps:=rw1.map Rw.st) (q:=W9 s r.st) rfl rfl rfl hnin (by rw [length_map];lia) ?_);refine U1 (ds:=rw1.map Rw.d) (as:=[(⟨(W9 s r.st).1,(W9 s r.st).2,some (at0,k)⟩:Rw).d]) (ds':=(rw1++[(⟨(W9 s r.st).1,(W9 s r.st).2,some (at0,k)⟩:Rw)]).map Rw.d) rfl (Z1 (Z5 rfl (Zr rfl (by simp)) (Z26 (W9 s r.st) at0 k)) rfl) (by rw [Ve (by rw [length_map];lia),map_append];rfl) ?_;refine ⟨rw1++[⟨(W9 s r.st).1,(W9 s r.st).2,some (at0,k)⟩],.fz (.int (k:Int)),.fz s.d,.fz (Zz (W9 s r.st)),?_,Z1l tr hr' hs hcan hnin,hpre.trans (List.prefix_append _ _),by rw [length_append,length_singleton];lia,hfn⟩;rw [map_append (f:=Rw.st)];rfl
     ·rw [B8 hs hf (by simpa using hb)] at hfn
      exact ⟨rw1,.fz (.int (k:Int)),.fz s.d,.fz (Zz (W9 s r.st)),rfl,tr,hpre,hmo,hfn⟩
    ·rw [Bw hs hf] at hfn
     rw [Zaa (p:=r.st) hcan hf hq] at hdone;refine Z6 (Zf (hdone _) ?_);refine Z6 (Nx (Sn (Z3p (t:="str") rfl rfl rfl)) ?_);have hw:=Ek tr at0 hn';have hkk:(Zc (Uv rw1 at0)).length=(Uv rw1 at0).length:=by unfold Zc;rw [length_map,length_map]
     show Go (V1 _ [.fz G.d,.fz (.int (most:Int)),.fz (.lst (rw1.map Rw.d)),.gx (.dict (Qn (rw1.map Rw.st))),.fz (.int (at0:Int)),.fz (.int (k:Int)),.fz s.d,.fz (.str (Z4u (Sf s r.st)))]) _ _;refine Yi (Zr (xs:=[.str (Z4u (Sf s r.st)),.lst (Zc (Uv rw1 at0++[k]))]) (Z1 rfl (Z1 (Z5 (Zp (xs:=[.lst (rw1.map Rw.d),.int (at0:Int)]) rfl (Fq hle tr at0 hn')) (Wa (Wh (xs:=Zc [k]) (Z1 rfl rfl) (by simp [Zc]))) (by rw [← Qp];exact Sd (by rw [hkk];have:(Zc [k]).length=1:=rfl;lia))) rfl)) (by simp)) (by rw [← hok,hm1',Hq hr hfn.symm];rfl)
   ·rw [hcan,if_neg (by decide)] at hfn
    exact ⟨rw1,.fz (.int (k:Int)),.fz s.d,v7,rfl,tr,hpre,hmo,hfn⟩
  ·rintro e ⟨rw1,v5,v6,v7,rfl,tr,hpre,hmo,hfn⟩
   rw [Qs,length_map,List.drop_of_length_le (by rw [length_range];exact le_refl _),List.filter_nil,inn] at hfn;have hpl:=hpre.length_le;refine Zf (d:=.int ((at0+1:Nat):Int)) (Z5 rfl rfl rfl) ⟨m - 1,by lia,rw1,at0+1,_,_,_,rfl,tr,by lia,by lia,hmo,?_⟩;rw [← hok,hm1'];exact (Z4c hr hfn.symm).symm
 ·left
  refine ⟨Yd (Z5 rfl hlen (by show some (Dat.bl (decide ((at0:Int)<(rows.length:Int))))=_;rw [decide_eq_false (by lia)])),?_⟩;show Go (V1 _ [.fz G.d,.fz (.int (most:Int)),.fz (.lst (rows.map Rw.d)),.gx (.dict (Qn (rows.map Rw.st))),.fz (.int (at0:Int)),v5,v6,v7]) _ _;exact Yi (Zr (Z1 rfl (Z1 rfl rfl)) (by simp)) (by rw [← hok,Bx hl];rfl)
theorem Z34 {okc:Str->Bool} {fd:Str} {f:Ev->Option Dat} {env:Ev} {c:Str} {fl:List (Str×XD)} {x:XD} (h:f env=some (.exc c fl)) (hs:okc c=true) (hx:fl.lookup fd=some x):N9 okc fd f env=some x.d:=by unfold N9;rw [h];show (if okc c=true then (fl.lookup fd).map XD.d else none)=_;rw [if_pos hs,hx];rfl
theorem Lw {T:String} {F:Dat->List Dat->Option Dat} {f:Ev->Option Dat} {fs:Ev->Option (List Dat)} {env:Ev} {x:Dat} {ds:List Dat} (h1:f env=some x) (ht:Ov T x=true) (h2:fs env=some ds):dM T F f fs env=F x ds:=by unfold dM;rw [h1];show (if Ov T x=true then _ else _)=_;rw [if_pos ht,h2];rfl
theorem Zao (fl:List (Str×XD)):Vl [.exc "Broken" fl]=.ok (.str "broken"):=by
 refine Ub (Yl (n:=2) (p:=1) (ds:=[.exc "Broken" fl]) (g:=Yu) (R:=fun d=>d=.str "broken") rfl ?_);show Go (Yu [.fz (.exc "Broken" fl),.un]) _ _;unfold Yu;refine Z6 (Zf (d:=.lst ([true,false,false,false].map Dat.bl)) (Wa (Wh (Z1 (W0 rfl (b:=true) (by decide +kernel)) (Z1 (W0 rfl (b:=false) (by decide +kernel)) (Z1 (W0 rfl (b:=false) (by decide +kernel)) (Z1 (W0 rfl (b:=false) (by decide +kernel)) rfl)))) (by simp))) ?_);refine Z6 (Zf (d:=.lst ([true,false,false,false,false,false,false,false].map Dat.bl)) (Z5 rfl (Wa (Wh (Z1 (W0 rfl (b:=false) (by decide +kernel)) (Z1 (W0 rfl (b:=false) (by decide +kernel)) (Z1 (W0 rfl (b:=false) (by decide +kernel)) (Z1 (W0 rfl (b:=false) (by decide +kernel)) rfl)))) (by simp))) rfl) ?_);refine Z6 (Jl (Ao (a:=false) (b:=false) (Yd (Z5 ((Lw rfl rfl rfl).trans (show _=some (Dat.int 1) from rfl)) rfl rfl)) fun _=>P4 (b:=true) (Sn (W0 rfl (by decide +kernel)))) (W2 ?_));exact Yi (Z5 rfl ((Lw rfl rfl rfl).trans (show _=some (Dat.int 0) from rfl)) rfl) rfl
theorem Zam (fl:List (Str×XD)):Vl [.exc "Crowded" fl]=.ok (.str "crowded"):=by
 refine Ub (Yl (n:=2) (p:=1) (ds:=[.exc "Crowded" fl]) (g:=Yu) (R:=fun d=>d=.str "crowded") rfl ?_);show Go (Yu [.fz (.exc "Crowded" fl),.un]) _ _;unfold Yu;refine Z6 (Zf (d:=.lst ([false,true,false,false].map Dat.bl)) (Wa (Wh (Z1 (W0 rfl (b:=false) (by decide +kernel)) (Z1 (W0 rfl (b:=true) (by decide +kernel)) (Z1 (W0 rfl (b:=false) (by decide +kernel)) (Z1 (W0 rfl (b:=false) (by decide +kernel)) rfl)))) (by simp))) ?_);refine Z6 (Zf (d:=.lst ([false,true,false,false,false,false,false,false].map Dat.bl)) (Z5 rfl (Wa (Wh (Z1 (W0 rfl (b:=false) (by decide +kernel)) (Z1 (W0 rfl (b:=false) (by decide +kernel)) (Z1 (W0 rfl (b:=false) (by decide +kernel)) (Z1 (W0 rfl (b:=false) (by decide +kernel)) rfl)))) (by simp))) rfl) ?_);refine Z6 (Jl (Ao (a:=false) (b:=false) (Yd (Z5 ((Lw rfl rfl rfl).trans (show _=some (Dat.int 1) from rfl)) rfl rfl)) fun _=>P4 (b:=true) (Sn (W0 rfl (by decide +kernel)))) (W2 ?_));exact Yi (Z5 rfl ((Lw rfl rfl rfl).trans (show _=some (Dat.int 1) from rfl)) rfl) rfl
theorem Z8i (fl:List (Str×XD)):Vl [.exc "TooMany" fl]=.ok (.str "many"):=by
 refine Ub (Yl (n:=2) (p:=1) (ds:=[.exc "TooMany" fl]) (g:=Yu) (R:=fun d=>d=.str "many") rfl ?_);show Go (Yu [.fz (.exc "TooMany" fl),.un]) _ _;unfold Yu;refine Z6 (Zf (d:=.lst ([false,false,true,false].map Dat.bl)) (Wa (Wh (Z1 (W0 rfl (b:=false) (by decide +kernel)) (Z1 (W0 rfl (b:=false) (by decide +kernel)) (Z1 (W0 rfl (b:=true) (by decide +kernel)) (Z1 (W0 rfl (b:=false) (by decide +kernel)) rfl)))) (by simp))) ?_);refine Z6 (Zf (d:=.lst ([false,false,true,false,false,false,false,false].map Dat.bl)) (Z5 rfl (Wa (Wh (Z1 (W0 rfl (b:=false) (by decide +kernel)) (Z1 (W0 rfl (b:=false) (by decide +kernel)) (Z1 (W0 rfl (b:=false) (by decide +kernel)) (Z1 (W0 rfl (b:=false) (by decide +kernel)) rfl)))) (by simp))) rfl) ?_);refine Z6 (Jl (Ao (a:=false) (b:=false) (Yd (Z5 ((Lw rfl rfl rfl).trans (show _=some (Dat.int 1) from rfl)) rfl rfl)) fun _=>P4 (b:=true) (Sn (W0 rfl (by decide +kernel)))) (W2 ?_));exact Yi (Z5 rfl ((Lw rfl rfl rfl).trans (show _=some (Dat.int 2) from rfl)) rfl) rfl
theorem Rv {α:Type} {f:α->Dat}:∀ {xs:List α},(∀ x∈xs,Vy (f x)=true)->Q4 (xs.map f)=true
 | [],_=>rfl
 | x::xs,h=>by rw [map_cons,Q4,h x mem_cons_self,Rv fun y hy=>h y (mem_cons_of_mem _ hy)];rfl
theorem N7 (ps:List Nat):Vy (.tup (Zc ps))=true:=by
 rw [Vy];unfold Zc;rw [map_map];exact Rv fun _ _=>rfl
theorem Z9s (G:G3):Vy G.d=true:=by
 show Vy (.tup [.tup (G.wires.map Tz),.tup (G.steps.map St3.d),.int (G.marks:Int),.int (G.code:Int)])=true;rw [Vy,Q4,Q4,Vy,Vy,Rv fun x _=>rfl,Rv fun s _=>?_]
 ·rfl
 ·show Vy (.tup [.int (s.w:Int),.bl s.up,.tup (Zc s.takes),.tup (Zc s.fills)])=true
  rw [Vy,Q4,Q4,Q4,Q4,N7,N7];rfl
section
variable {sub:Str->Bool} {i:Nat} {g h:Ev->Fl} {env e' e3:Ev} {c:Str} {fl:List (Str×XD)} {N:Ev->Prop} {R:Dat->Prop}
theorem Z1o (hp:Do env=true) (e:g env=.next e') (q:N e'):Go (Gx sub i g h env) N R:=by unfold Gx;rw [if_pos hp,e];exact ⟨q⟩
theorem Xq (hp:Do env=true) (e:g env=.exc e' c fl) (hs:sub c=true) (e2:h (e'.set i (Pz e' c fl))=.next e3) (q:N (e3.set i .un)):Go (Gx sub i g h env) N R:=by
 unfold Gx;rw [if_pos hp,e];dsimp only;rw [if_pos hs,e2];exact ⟨q⟩
theorem Z50 {okc:Str->Bool} {fd:Str} {ns:List Int} {n:Int} {fs:Ev->Option (List Dat)} (e:env[i]?=some (.gx (.err c fd ns))) (e2:fs env=some [.int n]) (ho:okc c=true) (hl:ns.length<sizeLine) (q:N (env.set i (.gx (.err c fd (ns++[n]))))):Go (Xm i okc fd fs env) N R:=by
 unfold Xm;rw [e,e2];dsimp only;rw [if_pos ⟨rfl,ho,hl⟩];exact ⟨q⟩
end
theorem Da (G:G3) (most:Nat):Do [.fz G.d,.fz (.int (most:Int)),.fz .non,.fz .non,.un,.un,.un]=true:=by
 show (Vy G.d&&_)=true;rw [Z9s];rfl
theorem Z12 {G:G3} {most:Nat} {rows:List Rw} (h:Tv [G.d,.int (most:Int)]=.ok (.lst (rows.map Rw.d))):Wo [G.d,.int (most:Int)]=.ok (Ln (.told rows)):=by
 refine Ub (Yl (n:=7) (p:=2) (ds:=[G.d,.int (most:Int)]) (g:=Ys) (R:=fun d=>d=Ln (.told rows)) rfl ?_);show Go (Ys [.fz G.d,.fz (.int (most:Int)),.un,.un,.un,.un,.un]) _ _;unfold Ys;refine Z6 (Zf (d:=.non) rfl ?_);refine Z6 (Zf (d:=.non) rfl ?_);refine Z6 (Z1o (Da G most) (Bu (ds:=[G.d,.int (most:Int)]) rfl h) ?_);refine Z6 (Nx (Yd (Z5 rfl rfl rfl)) ?_);exact Yi (Zr (Z1 rfl (Z1 rfl rfl)) (by simp)) rfl
theorem Z0m {G:G3} {most:Nat} (h:Tv [G.d,.int (most:Int)]=.exc "TooMany" []):Wo [G.d,.int (most:Int)]=.ok (Ln .many):=by
 refine Ub (Yl (n:=7) (p:=2) (ds:=[G.d,.int (most:Int)]) (g:=Ys) (R:=fun d=>d=Ln .many) rfl ?_);show Go (Ys [.fz G.d,.fz (.int (most:Int)),.un,.un,.un,.un,.un]) _ _;unfold Ys;refine Z6 (Zf (d:=.non) rfl ?_);refine Z6 (Zf (d:=.non) rfl ?_);refine Z6 (Xq (Da G most) (Ig (ds:=[G.d,.int (most:Int)]) rfl h) (by decide +kernel) (e3:=[.fz G.d,.fz (.int (most:Int)),.fz (.exc "TooMany" []),.fz .non,.fz (.exc "TooMany" []),.un,.un]) rfl ?_);refine Z6 (Jl (Yd (Z5 rfl rfl rfl)) (W2 ?_));refine Z6 (Zf (Na (xs:=[.exc "TooMany" []]) rfl (Z8i _)) ?_);refine Z6 (Jl (Dl (a:=false) (b:=false) (Yd (Z5 rfl (Zr (Z1 rfl (Z1 rfl rfl)) (by simp)) rfl)) fun z=>by cases z) (W2 ?_));exact Yi (Zr (Z1 rfl (Z1 rfl rfl)) (by simp)) rfl
theorem Pp {G:G3} {most:Nat} {ks:List Nat} {c z:Str} (hk:ks.length<=500) (h:Tv [G.d,.int (most:Int)]=.exc c (D7 ks)) (hc:Uh N22_ c=true) (hs:Vl [.exc c (D7 ks)]=.ok (.str z)) (hin:inF (.str z) (.tup [.str "broken",.str "crowded"])=some (.bl true)):Wo [G.d,.int (most:Int)]=.ok (.tup [.str z,.lst (Zc ks)]):=by
 refine Ub (Yl (n:=7) (p:=2) (ds:=[G.d,.int (most:Int)]) (g:=Ys) (R:=fun d=>d=.tup [.str z,.lst (Zc ks)]) rfl ?_);show Go (Ys [.fz G.d,.fz (.int (most:Int)),.un,.un,.un,.un,.un]) _ _;unfold Ys;refine Z6 (Zf (d:=.non) rfl ?_);refine Z6 (Zf (d:=.non) rfl ?_);have he:Pz [.fz G.d,.fz (.int (most:Int)),.fz .non,.fz .non,.un,.un,.un] c (D7 ks)=.gx (.err c "way" (Ra ks)):=by
  show (if Do _=true then _ else _)=_;rw [if_pos (Da G most)]
 refine Z6 (Xq (Da G most) (Ig (ds:=[G.d,.int (most:Int)]) rfl h) hc (e3:=[.fz G.d,.fz (.int (most:Int)),.gx (.err c "way" (Ra ks)),.fz .non,.un,.un,.un]) (by show Bm 4 2 [.fz G.d,.fz (.int (most:Int)),.fz .non,.fz .non,Pz [.fz G.d,.fz (.int (most:Int)),.fz .non,.fz .non,.un,.un,.un] c (D7 ks),.un,.un]=_;rw [he];rfl) ?_);refine Z6 (Jl (Yd (Z5 rfl rfl rfl)) (W2 ?_));refine Z6 (Zf (Na (xs:=[.exc c (D7 ks)]) rfl hs) ?_);have hw:∀ v5 v6:Slt,N9 (Uh N22_) "way" (dP 2) [.fz G.d,.fz (.int (most:Int)),.gx (.err c "way" (Ra ks)),.fz .non,.un,v5,v6]=some (.lst (Zc ks)):=fun v5 v6=>(Z34 (x:=XD.nums (Ra ks)) (fl:=D7 ks) rfl hc (by unfold D7;simp [List.lookup])).trans rfl
 refine Z6 (Nx (Dl (a:=true) (b:=true) (Yd (Z5 rfl (Zr (Z1 rfl (Z1 rfl rfl)) (by simp)) hin)) fun _=>Sn (Z3p (t:="list") (hw _ _) rfl rfl)) ?_);refine Z6 (Zf (d:=.lst (Zc ks)) (Wa (Yt (Z1 (hw _ _) rfl) rfl)) ?_);have hle:(Ra ks).length<sizeLine:=by unfold Ra;rw [length_map,sizeLine_eq];lia
 refine Z6 (Z50 rfl rfl hc hle ?_);exact Yi (Zr (Z1 rfl (Z1 rfl rfl)) (by simp)) rfl
theorem Z5k {G:G3} (hG:Gb 64 G) (most:Nat) (hm1:1<=most) (hm2:most<=400) {R:Res} (hR:Ed G most 400 0 [rw0 G]=R):Wo [G.d,.int (most:Int)]=.ok (Ln R):=by
 rcases Z0e hG most hm1 hm2 hR with ⟨d,e,rows,rfl,rfl⟩ | ⟨c,fl,e,⟨rfl,rfl,rfl⟩ | ⟨b,ks,rfl,rfl,rfl,hk⟩⟩
 ·exact Z12 e
 ·exact Z0m e
 ·cases b with
  | true=>exact Pp hk e (by decide +kernel) (Zao _) rfl
  | false=>exact Pp hk e (by decide +kernel) (Zam _) rfl
theorem Pd (c size:Nat) (h1:1<=size) (h2:size<=64):∃ ps:List Nat,Ul [.int (c:Int),.int (size:Int)]=.ok (.tup (Zc ps))/\Sp3 size ps/\ps≠[]:=by
 have:=Yl (n:=5) (p:=2) (ds:=[.int (c:Int),.int (size:Int)]) (g:=Vr) (R:=fun d=>∃ ps:List Nat,d=.tup (Zc ps)/\Sp3 size ps/\ps≠[]) rfl ?_
 ·obtain ⟨d,e,z,rfl,h⟩:=this
  exact ⟨z,e,h⟩
 show Go (Vr [.fz (.int (c:Int)),.fz (.int (size:Int)),.un,.un,.un]) _ _;unfold Vr;refine Z6 (Q0 (ds:=Zc []) rfl ?_);refine Z6 (Vw (ds:=rng 0 (1+c % 4)) (fun i e=>∃ (ps:List Nat) (v3 v4:Slt),e=[.fz (.int (c:Int)),.fz (.int (size:Int)),.ow (Zc ps),v3,v4]/\ps.Nodup/\(∀ p∈ps,p<size)/\ps.length<=i/\(0<i->0<ps.length)) (Vc (Z1 (Z5 rfl (Z5 rfl rfl (Wj c 4 (by lia))) (Wp 1 _)) rfl) (by lia)) ⟨[],.un,.un,rfl,nodup_nil,by simp,le_refl _,fun z=>by lia⟩ ?_ ?_)
 ·rintro i d e hi ⟨ps,v3,v4,rfl,hnd,hlt,hle,hpo⟩
  obtain ⟨hi1,rfl⟩:=Jd hi;rw [Int.zero_add];refine ⟨_,rfl,?_⟩;refine Z6 (Zf (Z5 (Z5 rfl (Z5 rfl (Z5 rfl rfl (Pe 61 i (by lia))) (Wp 4 _)) (Yn c (4+61*i) (by lia) (by lia))) rfl (Wj _ size (by lia))) ?_);have hq:c / (4+61*i) % size<size:=mod_lt _ (by lia);generalize c / (4+61*i) % size=q at hq;refine Vq (Yd (Z5 rfl rfl (Xj q ps))) (fun hb=>?_) (fun hb=>W2 ⟨ps,_,_,rfl,hnd,hlt,by lia,fun _=>by have:q∈ps:=(by simpa using hb);exact List.length_pos_of_mem this⟩);have hns:q∉ps:=by simpa using hb
  refine U1 (ds:=Zc ps) (as:=[.int (q:Int)]) (ds':=Zc (ps++[q])) rfl rfl (by rw [Ve (by rw [length_map,length_map];lia)];simp [Zc]) ⟨ps++[q],_,_,rfl,?_,?_,by rw [length_append,length_singleton];lia,fun _=>by rw [length_append,length_singleton];lia⟩
  ·refine nodup_append.mpr ⟨hnd,nodup_cons.mpr ⟨by simp,nodup_nil⟩,fun a ha b hb=>?_⟩
   rw [mem_singleton.mp hb];intro e;exact hns (e▸ha)
  ·intro p hp
   rcases mem_append.mp hp with h | h
   ·exact hlt p h
   ·rw [mem_singleton.mp h];exact hq
 ·rintro e ⟨ps,v3,v4,rfl,hnd,hlt,hle,hpo⟩
  rw [Th] at hle hpo;obtain ⟨qs,eq,hp⟩:=Qc ps (by lia);exact Yi (Yt (Z1 (Wa (Yt (Z1 rfl rfl) eq)) rfl) rfl) ⟨qs,rfl,⟨hp.nodup_iff.mpr hnd,fun p h=>hlt p (hp.mem_iff.mp h),by rw [hp.length_eq];lia⟩,fun z=>by have:=hp.length_eq;rw [z] at this;have:=hpo (by lia);simp at *;lia⟩
structure Nz (G:G3):Prop where
 ne:∀ s∈G.steps,s.takes≠[]
 tl:∀ s∈G.steps,s.takes.length<=60
 fl:∀ s∈G.steps,s.fills.length<=60
theorem Z79 {G:G3} (h:Gb 54 G) (hn:∀ s∈G.steps,s.takes≠[]):Nz G:=⟨hn,fun s hs=>by have:=En (h.st s hs).tn (h.st s hs).t;lia,fun s hs=>by have:=En (h.st s hs).fn (h.st s hs).f;lia⟩
theorem Z4q (ns:List Int) (first:Nat) (hf:first<=900):∃ G:G3,Jb [Q1 ns,.int (first:Int)]=.ok G.d/\Gb 54 G/\Nz G/\1<=G.wires.length:=by
 have:=Yl (n:=12) (p:=2) (ds:=[Q1 ns,.int (first:Int)]) (g:=U8) (R:=fun d=>∃ G:G3,d=G.d/\Gb 54 G/\Nz G/\1<=G.wires.length) rfl ?_
 ·obtain ⟨d,e,z,rfl,h⟩:=this
  exact ⟨z,e,h⟩
 show Go (U8 [.fz (Q1 ns),.fz (.int (first:Int)),.un,.un,.un,.un,.un,.un,.un,.un,.un,.un]) _ _;unfold U8;obtain ⟨c,ec,lc⟩:=Jm ns first (by lia);obtain ⟨n,hn,hn1,hn2⟩:∃ n:Nat,1+c % 4=n/\1<=n/\n<=4:=⟨_,rfl,by lia,by lia⟩;obtain ⟨size,hz,hz1,hz2⟩:∃ z:Nat,2+c / 4 % 5=z/\2<=z/\z<=6:=⟨_,rfl,by lia,by lia⟩;refine Z6 (Zf (Zp (xs:=[Q1 ns,.int (first:Int)]) rfl ec) ?_);refine Z6 (Zf (d:=.int (n:Int)) (by rw [← hn];exact Z5 rfl (Z5 rfl rfl (Wj c 4 (by lia))) (Wp 1 _)) ?_);refine Z6 (Zf (d:=.int (size:Int)) (by rw [← hz];exact Z5 rfl (Z5 (Z5 rfl rfl (Yn c 4 (by lia) (by lia))) rfl (Wj _ 5 (by lia))) (Wp 2 _)) ?_);obtain ⟨ws,ew,wl,_⟩:=Iz (g:=Yq 0) (f:=Yb (Z2 (W1 W8 (Z2 (dO Ya (dV 1) (dC (.int 2400))) (Z2 (dV 0) Zd))) (Z2 (dO Wi (dL (Vi (Z2 (dC (.str "given")) (Z2 (dC (.str "made")) Zd)))) (dO Qu (dO R5 (dV 1) (dO Y8 (dC (.int 20)) (dV 0))) (dC (.int 1)))) Zd))) (env:=[.un,.fz (.int (c:Int))]) Tz (fun _=>True) (rng 0 n) fun x hx=>by
  obtain ⟨i,hi,rfl⟩:=C4 hx;rw [Int.zero_add];obtain ⟨z,ez⟩:=Hg (c / 2400) i;have e1:Wi (.lst [.str "given",.str "made"]) (.int (if c.testBit (20+i) then 1 else 0))=some (.str (if c.testBit (20+i) then "made" else "given")):=by cases c.testBit (20+i)<;>rfl
  exact ⟨[.fz (.int (i:Int)),.fz (.int (c:Int))],(z,c.testBit (20+i)),rfl,Zr (Z1 (Zp (xs:=[.int ((c / 2400:Nat):Int),.int (i:Int)]) (Z1 (Z5 rfl rfl (Yn c 2400 (by lia) (by lia))) rfl) ez) (Z1 (Z5 (x:=.lst [.str "given",.str "made"]) rfl (Z5 (Z5 rfl (Z5 rfl rfl (Wp 20 i)) (P0 c _)) rfl (So c _)) e1) rfl)) (by simp),trivial⟩
 rw [Th] at wl;refine Z6 (Zf (d:=.lst (ws.map Tz)) (Wa (Ut (xs:=rng 0 n) (Vc (Z1 rfl rfl) (by lia)) rfl ew)) ?_);refine Z6 (Q0 (ds:=([]:List St3).map St3.d) rfl ?_);obtain ⟨m,hm,hm1,hm2⟩:∃ m:Nat,2+c / 20 % 6=m/\2<=m/\m<=7:=⟨_,rfl,by lia,by lia⟩;refine Z6 (Vw (ds:=rng 0 m) (fun i e=>∃ (ss:List St3) (v7 v8 v9 v10:Slt),e=[.fz (Q1 ns),.fz (.int (first:Int)),.fz (.int (c:Int)),.fz (.int (n:Int)),.fz (.int (size:Int)),.fz (.lst (ws.map Tz)),.ow (ss.map St3.d),v7,v8,v9,v10,.un]/\ss.length=i/\∀ s∈ss,s.w<n/\Sp3 size s.takes/\Sp3 size s.fills/\s.takes≠[]) (Vc (Z1 (by rw [← hm];exact Z5 rfl (Z5 (Z5 rfl rfl (Yn c 20 (by lia) (by lia))) rfl (Wj _ 6 (by lia))) (Wp 2 _)) rfl) (by lia)) ⟨[],.un,.un,.un,.un,rfl,rfl,by simp⟩ ?_ ?_)
 ·rintro i d e hi ⟨ss,v7,v8,v9,v10,rfl,hsl,hsk⟩
  obtain ⟨hi1,rfl⟩:=Jd hi;rw [Int.zero_add];refine ⟨_,rfl,?_⟩;obtain ⟨r,er,lr⟩:=Jm ns (first+1+i) (by lia);obtain ⟨tk,et,ht,hne⟩:=Pd (r / 16*4+r / 8 % 2) size (by lia) (by lia);obtain ⟨fk,ef,hf,_⟩:=Pd (r*48271 % 2147483647 / 4*4+r / 4 % 2) size (by lia) (by lia);refine Z6 (Zf (Zp (xs:=[Q1 ns,.int ((first+1+i:Nat):Int)]) (Z1 rfl (Z1 (Z5 (Z5 rfl rfl (Wp first 1)) rfl (Wp _ _)) rfl)) er) ?_);refine Z6 (Zf (Zp (xs:=[.int ((r / 16*4+r / 8 % 2:Nat):Int),.int (size:Int)]) (Z1 (Z5 (Z5 (Z5 rfl rfl (Yn r 16 (by lia) (by lia))) rfl (Z31 _ 4 (by lia))) (Z5 (Z5 rfl rfl (Yn r 8 (by lia) (by lia))) rfl (Wj _ 2 (by lia))) (Wp _ _)) rfl) et) ?_);refine Z6 (Zf (Zp (xs:=[.int ((r*48271 % 2147483647 / 4*4+r / 4 % 2:Nat):Int),.int (size:Int)]) (Z1 (Z5 (Z5 (Z5 (Z5 (Z5 rfl rfl (Z31 r 48271 (by lia))) rfl (Wj _ 2147483647 (by lia))) rfl (Yn _ 4 (by lia) (by lia))) rfl (Z31 _ 4 (by lia))) (Z5 (Z5 rfl rfl (Yn r 4 (by lia) (by lia))) rfl (Wj _ 2 (by lia))) (Wp _ _)) rfl) ef) ?_);have hw:r / 64 % n<n:=mod_lt _ (by lia);refine U1 (ds:=ss.map St3.d) (as:=[(⟨r / 64 % n,r / 2 % 2==0,tk,fk⟩:St3).d]) (ds':=(ss++[(⟨r / 64 % n,r / 2 % 2==0,tk,fk⟩:St3)]).map St3.d) rfl (Z1 (Zr (Z1 (Z5 (Z5 rfl rfl (Yn r 64 (by lia) (by lia))) rfl (Wj _ n (by lia))) (Z1 (Z5 (Z5 (Z5 rfl rfl (Yn r 2 (by lia) (by lia))) rfl (Wj _ 2 (by lia))) rfl (A9 _ 0)) (Z1 rfl (Z1 rfl rfl)))) (by simp)) rfl) ?_ ?_
  ·rw [Ve (by rw [length_map];lia),map_append];rfl
  ·refine ⟨_,_,_,_,_,rfl,by rw [length_append,length_singleton,hsl],fun s hs=>?_⟩
   rcases mem_append.mp hs with h | h
   ·exact hsk s h
   ·rw [mem_singleton.mp h];exact ⟨hw,ht,hf,hne⟩
 ·rintro e ⟨ss,v7,v8,v9,v10,rfl,hsl,hsk⟩
  rw [Th] at hsl;obtain ⟨r,er,lr⟩:=Jm ns (first+9) (by lia);have h2z:2^size<=2^54:=pow_le_pow_right (by lia) (by lia);have hmk:r % 2^size<2^54:=lt_of_lt_of_le (mod_lt _ (two_pow_pos _)) h2z;refine Z6 (Zf (Z5 (Zp (xs:=[Q1 ns,.int ((first+9:Nat):Int)]) (Z1 rfl (Z1 (Z5 rfl rfl (Wp first 9)) rfl)) er) (Z5 rfl rfl (D6 size (by lia))) (Wj r (2^size) (two_pow_pos _))) ?_);refine Yi (Zr (Z1 (Yt (Z1 rfl rfl) rfl) (Z1 (Yt (Z1 rfl rfl) rfl) (Z1 rfl (Z1 (Z5 (Z5 rfl rfl (Yn c 120 (by lia) (by lia))) (Z5 rfl rfl (D6 n (by lia))) (Wj _ (2^n) (two_pow_pos _))) rfl)))) (by simp)) ⟨⟨ws,ss,r % 2^size,c / 120 % 2^n⟩,rfl,?_,?_,by show 1<=ws.length;lia⟩
  ·exact ⟨by show ws.length<=10;lia,by show 1<=ss.length;lia,by show ss.length<=24;lia,fun s hs=>by
    obtain ⟨a1,a2,a3,_⟩:=hsk s hs;exact ⟨by show s.w<ws.length;lia,fun p hp=>by have:=a2.lt p hp;lia,fun p hp=>by have:=a3.lt p hp;lia,a2.nd,a3.nd⟩,hmk⟩
  ·exact ⟨fun s hs=>(hsk s hs).2.2.2,fun s hs=>by have:=(hsk s hs).2.1.le;lia,fun s hs=>by have:=(hsk s hs).2.2.1.le;lia⟩
theorem Pn {α:Type} (f:α->Dat) (xs:List α):Qr [.tup (xs.map f)]=some (.int ((xs.length:Nat):Int)):=by
 show some (Dat.int ((xs.map f).length:Int))=_;rw [length_map]
theorem Ls (p:Nat) (ps:List Nat):G0 (.int (p:Int)) (.tup (Zc ps))=some (.bl (!decide (p∈ps))):=Xj p ps
theorem Cy (ps:List Nat):Qr [.tup (Zc ps)]=some (.int ((ps.length:Nat):Int)):=by
 show some (Dat.int ((Zc ps).length:Int))=_;unfold Zc;rw [length_map,length_map]
theorem lenL_nats (ps:List Nat):Qr [.lst (Zc ps)]=some (.int ((ps.length:Nat):Int)):=by
 show some (Dat.int ((Zc ps).length:Int))=_;unfold Zc;rw [length_map,length_map]
theorem Z6d {ps:List Nat} {i q:Nat} (h:ps[i]?=some q):Wi (.lst (Zc ps)) (.int (i:Int))=some (.int (q:Int)):=Jc (by unfold Zc;rw [getElem?_map,getElem?_map,h];rfl)
theorem Kg (G:G3) (hG:Gb 54 G) (hn:Nz G) (hw:1<=G.wires.length) (c:Nat):∃ G':G3,Vp [G.d,.int (c:Int)]=.ok G'.d/\Gb 54 G':=by
 have:=Yl (n:=14) (p:=2) (ds:=[G.d,.int (c:Int)]) (g:=V2) (R:=fun d=>∃ G':G3,d=G'.d/\Gb 54 G') rfl ?_
 ·obtain ⟨d,e,z,rfl,h⟩:=this
  exact ⟨z,e,h⟩
 have hs1:=hG.s1;have hs2:=hG.s2;show Go (V2 [.fz G.d,.fz (.int (c:Int)),.un,.un,.un,.un,.un,.un,.un,.un,.un,.un,.un,.un]) _ _;unfold V2;refine Z6 (P5 (d:=G.d) (env':=[.fz G.d,.fz (.int (c:Int)),.fz (.tup (G.wires.map Tz)),.fz (.tup (G.steps.map St3.d)),.fz (.int (G.marks:Int)),.fz (.int (G.code:Int)),.un,.un,.un,.un,.un,.un,.un,.un]) rfl rfl ?_);refine Z6 (Zf (Z5 (Z5 rfl rfl (Yn c 6 (by lia) (by lia))) (Yt (Z1 rfl rfl) (Pn St3.d G.steps)) (Wj _ _ (by lia))) ?_);have hat:c / 6 % G.steps.length<G.steps.length:=mod_lt _ (by lia);generalize c / 6 % G.steps.length=at0 at hat;obtain ⟨s,hs⟩:∃ s,G.steps[at0]?=some s:=⟨_,getElem?_eq_getElem hat⟩;have hmem:=mem_of_getElem? hs;have hsb:=hG.st s hmem;refine Z6 (P5 (d:=s.d) (env':=[.fz G.d,.fz (.int (c:Int)),.fz (.tup (G.wires.map Tz)),.fz (.tup (G.steps.map St3.d)),.fz (.int (G.marks:Int)),.fz (.int (G.code:Int)),.fz (.int (at0:Int)),.fz (.int (s.w:Int)),.fz (.bl s.up),.fz (.tup (Zc s.takes)),.fz (.tup (Zc s.fills)),.un,.un,.un]) (Z5 rfl rfl (Ru (by rw [getElem?_map,hs];rfl))) rfl ?_);have hc:=Ql (g:=Yq 0) (t:=Je) (f:=dO Wi (dO Wi (dV 0) (dC (.int 2))) (dC (.int 0))) (env:=[.un]) St3.d (fun s:St3=>Dat.int ((s.takes.headD 0:Nat):Int)) (fun _=>true) G.steps fun r hr=>by
  refine ⟨[.fz r.d],rfl,rfl,?_⟩;have:=hn.ne r hr;refine Z5 (x:=.tup (Zc r.takes)) (Z5 rfl rfl rfl) rfl ?_;cases e:r.takes with
  | nil=>exact absurd e this
  | cons a l=>exact Ru (j:=0) (x:=.int (a:Int)) rfl
 rw [List.filter_eq_self.mpr (fun _ _=>rfl)] at hc;have hhd:(G.steps.map fun s:St3=>Dat.int ((s.takes.headD 0:Nat):Int))=Zc (G.steps.map fun s=>s.takes.headD 0):=by unfold Zc;rw [map_map,map_map];rfl
 rw [hhd] at hc;obtain ⟨qs,eq,hq⟩:=Qc (G.steps.map fun s=>s.takes.headD 0) (by rw [length_map];lia);have hql:qs.length=G.steps.length:=by rw [hq.length_eq,length_map]
 refine Z6 (Zf (d:=.lst (Zc qs)) (Wa (Yt (Z1 (Wa (Ut (xs:=G.steps.map St3.d) (Qa rfl) rfl hc)) rfl) eq)) ?_);have hqi:c / 200 % qs.length<qs.length:=mod_lt _ (by lia);obtain ⟨z,hz⟩:∃ z,qs[c / 200 % qs.length]?=some z:=⟨_,getElem?_eq_getElem hqi⟩;have hz64:z<54:=by
  have:=hq.mem_iff.mp (mem_of_getElem? hz);obtain ⟨r,hr,rfl⟩:=mem_map.mp this;have h1:=hn.ne r hr;cases e:r.takes with
  | nil=>exact absurd e h1
  | cons a l=>exact (hG.st r hr).t a (by rw [e];exact mem_cons_self)
 refine Z6 (Zf (d:=.int (z:Int)) (Z5 rfl (Z5 (Z5 rfl rfl (Yn c 200 (by lia) (by lia))) (Yt (Z1 rfl rfl) (lenL_nats qs)) (Wj _ _ (by lia))) (Z6d hz)) ?_);refine Z6 (Zf (Z5 rfl rfl (Wj c 6 (by lia))) ?_);have add:∀ l:List Nat,(∀ p∈l,p<54)->l.Nodup->l.length<=60->z∉l->∃ l':List Nat,(∀ (f:Ev->Option Dat) (env:Ev),f env=some (.tup (Zc l))->env[12]?=some (.fz (.int (z:Int)))->dF tupleD (Z2 (dL (dF Vu (Z2 (dO Ri f (Yb (Z2 (dV 12) Zd))) Zd))) Zd) env=some (.tup (Zc l')))/\(∀ p∈l',p<54)/\l'.Nodup:=fun l h1 h2 h3 h4=>by
  obtain ⟨t,et,pt⟩:=Mv (l++[z]) (by rw [length_append,length_singleton];lia);obtain ⟨_,t2,_⟩:=F5 h1 (by lia) (by lia) h2 h4 pt;have t1:∀ p∈t,p<54:=fun p hp=>by
   rcases mem_append.mp (pt.mem_iff.mp hp) with y | y
   ·exact h1 p y
   ·rw [mem_singleton.mp y];exact hz64
  refine ⟨t,fun f env hf hz=>?_,t1,t2⟩;have a1:Ri (.tup (Zc l)) (.tup [.int (z:Int)])=some (.tup (Zc (l++[z]))):=by
   rw [Me (by unfold Zc;rw [length_map,length_map];show _+1<=_;lia),← Qp];rfl
  exact Yt (Z1 (Wa (Yt (Z1 (Z5 hf (Zr (Z1 (x:=.int (z:Int)) (by unfold dV;rw [hz]) rfl) (by simp)) a1) rfl) et)) rfl) rfl
 refine Z6 (Go.mono (N:=fun e=>∃ (w:Nat) (u:Bool) (t f:List Nat),e=[.fz G.d,.fz (.int (c:Int)),.fz (.tup (G.wires.map Tz)),.fz (.tup (G.steps.map St3.d)),.fz (.int (G.marks:Int)),.fz (.int (G.code:Int)),.fz (.int (at0:Int)),.fz (.int (w:Int)),.fz (.bl u),.fz (.tup (Zc t)),.fz (.tup (Zc f)),.fz (.lst (Zc qs)),.fz (.int (z:Int)),.fz (.int ((c % 6:Nat):Int))]/\SB 54 G.wires.length ⟨w,u,t,f⟩) ?_ ?_ (fun _ h=>h))
 ·refine Vq (Yd (Z5 rfl rfl (A9 _ 0))) (fun _=>Zf (Z5o rfl) ⟨s.w,!s.up,s.takes,s.fills,rfl,⟨hsb.w,hsb.t,hsb.f,hsb.tn,hsb.fn⟩⟩) (fun _=>?_)
  refine Vq (Dl (Yd (Z5 rfl rfl (A9 _ 1))) fun _=>Yd (Z5 rfl rfl (Ls z s.fills))) (fun hb=>?_) (fun _=>?_)
  ·have hz:z∉s.fills:=by simpa using (Bool.and_eq_true_iff.mp hb).2
   obtain ⟨f,ef,f1,f2⟩:=add s.fills hsb.f hsb.fn (hn.fl s hmem) hz;exact Zf (ef _ _ rfl rfl) ⟨s.w,s.up,s.takes,f,rfl,⟨hsb.w,hsb.t,f1,hsb.tn,f2⟩⟩
  refine Vq (Yd (Z5 rfl rfl (A9 _ 2))) (fun _=>?_) (fun _=>?_)
  ·have htl:0<s.takes.length:=List.length_pos_iff.mpr (hn.ne s hmem)
   have hi:c / 9 % s.takes.length<s.takes.length:=mod_lt _ htl;have hsub:((s.takes.drop (c / 9 % s.takes.length)).take 1).Sublist s.takes:=(List.take_sublist _ _).trans (List.drop_sublist _ _);refine Zf (d:=.tup (Zc ((s.takes.drop (c / 9 % s.takes.length)).take 1))) (Jx (Jx rfl (Wz (Z5 (Z5 rfl rfl (Yn c 9 (by lia) (by lia))) (Yt (Z1 rfl rfl) (Cy s.takes)) (Wj _ _ htl))) rfl (He _ _ _)) rfl (Wz rfl) ?_) ⟨s.w,s.up,_,s.fills,rfl,⟨hsb.w,fun p hp=>hsb.t p (hsub.subset hp),hsb.f,hsub.nodup hsb.tn,hsb.fn⟩⟩;rw [He,Xb s.takes _ (by lia)];have:=Dh (Zc (s.takes.drop (c / 9 % s.takes.length))) 1 (by unfold Zc;rw [length_map,length_map,length_drop];lia);have e1:To (Zc (s.takes.drop (c / 9 % s.takes.length))) none (some 1)=(Zc (s.takes.drop (c / 9 % s.takes.length))).take 1:=this;rw [e1];unfold Zc;rw [← map_take,← map_take]
  refine Vq (Yd (Z5 rfl rfl (A9 _ 3))) (fun _=>?_) (fun _=>?_)
  ·exact Zf (Z5 (Z5 rfl rfl (Yn c 40 (by lia) (by lia))) (Yt (Z1 rfl rfl) (Pn Tz G.wires)) (Wj _ _ (by lia))) ⟨_,s.up,s.takes,s.fills,rfl,⟨mod_lt _ (by lia),hsb.t,hsb.f,hsb.tn,hsb.fn⟩⟩
  refine Vq (Dl (Yd (Z5 rfl rfl (A9 _ 4))) fun _=>Yd (Z5 rfl rfl (Ls z s.takes))) (fun hb=>?_) (fun _=>?_)
  ·have hz:z∉s.takes:=by simpa using (Bool.and_eq_true_iff.mp hb).2
   obtain ⟨f,ef,f1,f2⟩:=add s.takes hsb.t hsb.tn (hn.tl s hmem) hz;exact Zf (ef _ _ rfl rfl) ⟨s.w,s.up,f,s.fills,rfl,⟨hsb.w,f1,hsb.f,f2,hsb.fn⟩⟩
  refine Vq (Yd (Z5 rfl rfl (A9 _ 5))) (fun _=>?_) (fun _=>W2 ⟨s.w,s.up,s.takes,s.fills,rfl,⟨hsb.w,hsb.t,hsb.f,hsb.tn,hsb.fn⟩⟩);exact Zf rfl ⟨s.w,s.up,s.takes,s.takes,rfl,⟨hsb.w,hsb.t,hsb.t,hsb.tn,hsb.tn⟩⟩
 rintro e ⟨w,u,t,f,rfl,hb⟩;have ht1:To (G.steps.map St3.d) none (some (at0:Int))=(G.steps.take at0).map St3.d:=by rw [J8,Dh G.steps at0 (by lia)]
 have ht2:To (G.steps.map St3.d) (some ((at0+1:Nat):Int)) none=(G.steps.drop (at0+1)).map St3.d:=by rw [J8,E5 G.steps (at0+1) (by lia)]
 refine Yi (Zr (xs:=[.tup (G.wires.map Tz),.tup ((G.steps.take at0++[(⟨w,u,t,f⟩:St3)]++G.steps.drop (at0+1)).map St3.d),.int (G.marks:Int),.int (G.code:Int)]) (Z1 rfl (Z1 (Z5 (x:=.tup ((G.steps.take at0++[(⟨w,u,t,f⟩:St3)]).map St3.d)) (y:=.tup ((G.steps.drop (at0+1)).map St3.d)) (Z5 (x:=.tup ((G.steps.take at0).map St3.d)) (y:=.tup [(⟨w,u,t,f⟩:St3).d]) (Jx rfl rfl (Wz rfl) (by rw [He,ht1])) (Zr (Z1 (Zr rfl (by simp)) rfl) (by simp)) (by rw [Me (by rw [length_map,length_take];show _+1<=_;lia),map_append];rfl)) (Jx rfl (Wz (Z5 rfl rfl (Wp at0 1))) rfl (by rw [He,ht2])) (by rw [Me (by rw [length_map,length_map,length_append,length_take,length_drop];show _+1+_<=_;lia),← map_append])) rfl)) (by simp)) ⟨⟨G.wires,G.steps.take at0++[(⟨w,u,t,f⟩:St3)]++G.steps.drop (at0+1),G.marks,G.code⟩,rfl,?_⟩;have hlen:(G.steps.take at0++[(⟨w,u,t,f⟩:St3)]++G.steps.drop (at0+1)).length=G.steps.length:=by rw [length_append,length_append,length_take,length_drop,length_singleton];lia
 refine ⟨hG.w2,by show 1<=List.length _;rw [hlen];exact hs1,by show List.length _<=24;rw [hlen];exact hs2,fun r hr=>?_,hG.mks⟩;rcases mem_append.mp hr with h | h
 ·rcases mem_append.mp h with h | h
  ·exact hG.st r (List.mem_of_mem_take h)
  ·rw [mem_singleton.mp h];exact hb
 ·exact hG.st r (List.mem_of_mem_drop h)
def Z0p (d:Dat):Prop:=pd 20 d=true/\Jf d d=true
theorem Ke {xs:List Dat} (h:∀ x∈xs,Jf x x=true/\pd 19 x=true):Z0p (.tup xs):=L6 h
theorem Z3x {d:Dat} (h:Z0p d):Jr d d=some (.bl true):=Z1x h
theorem No {B:Nat} {G:G3} (h:Gb B G):1<=G.wires.length:=by
 obtain ⟨s,hs⟩:=List.exists_mem_of_length_pos (show 0<G.steps.length from h.s1);have:=(h.st s hs).w;lia
theorem Kq (z:Str):Jf (.str z) (.str z)=true:=by unfold Jf;exact beq_self_eq_true z
theorem Z7v {x a b:Dat} (h:x∈[a,b]):x=a\/x=b:=by simpa using h
theorem Ck (rows:List Rw):Z0p (Ln (.told rows)):=Ke fun x hx=>by
 rcases Z7v hx with rfl | rfl
 ·exact ⟨Kq _,rfl⟩
 ·refine ⟨(Z0t rows).2,?_⟩
  show (rows.map Rw.d).all (pd 18)=true;refine all_eq_true.mpr fun x hx=>?_
  obtain ⟨r,_,rfl⟩:=mem_map.mp hx;obtain ⟨m,c,src⟩:=r;cases src<;>rfl
theorem pd_nats (ks:List Nat):pd 19 (.lst (Zc ks))=true:=by
 show (Zc ks).all (pd 18)=true;refine all_eq_true.mpr fun x hx=>?_
 rw [Jw] at hx;obtain ⟨p,_,rfl⟩:=mem_map.mp hx;rfl
theorem Z3a (z:Str) (ks:List Nat):Z0p (.tup [.str z,.lst (Zc ks)]):=Ke fun x hx=>by
 rcases Z7v hx with rfl | rfl
 ·exact ⟨Kq _,rfl⟩
 ·exact ⟨(Z1a ks).2,pd_nats ks⟩
theorem Z02 (z:Str):Z0p (.tup [.str z,.non]):=Ke fun x hx=>by
 rcases Z7v hx with rfl | rfl
 ·exact ⟨Kq _,rfl⟩
 ·exact ⟨by unfold Jf;rfl,rfl⟩
theorem Z2i (R:Res):Z0p (Ln R):=by
 cases R with
 | told rows=>exact Ck rows
 | many=>exact Z02 _
 | bad b ks=>exact Z3a _ _
theorem Z8a (ns:List Int) (hl:ns.length<=63):Z7b [.lst (ns.map .int)]=.ok (.bl true):=by
 refine Ub (Yl (n:=5) (p:=1) (ds:=[Q1 ns]) (g:=Nf) (R:=fun d=>d=.bl true) rfl ?_);show Go (Nf [.fz (Q1 ns),.un,.un,.un,.un]) _ _;unfold Nf;obtain ⟨c,ec,lc⟩:=Jm ns 0 (by lia);refine Z6 (Zf (Zp (xs:=[Q1 ns,.int ((0:Nat):Int)]) rfl ec) ?_);refine Z6 (Go.mono (N:=fun e=>∃ G:G3,e=[.fz (Q1 ns),.fz (.int (c:Int)),.fz G.d,.un,.un]/\Gb 54 G) ?_ ?_ (fun _ h=>h))
 ·refine Vq (Yd (Z5 (Z5 rfl rfl (Wj c 3 (by lia))) rfl (A9 _ 0))) (fun _=>?_) (fun _=>?_)
  ·obtain ⟨G,e,h1,h2,h3⟩:=Z4q ns 1 (by lia)
   exact Zf (Zp (xs:=[Q1 ns,.int ((1:Nat):Int)]) rfl e) ⟨G,rfl,h1⟩
  refine Vq (Yd (Z5 (Z5 rfl rfl (Wj c 3 (by lia))) rfl (A9 _ 1))) (fun _=>?_) (fun _=>?_)
  ·obtain ⟨G,e,h2,h1⟩:=Ct ns 1 (by lia)
   obtain ⟨G',e',h3⟩:=Kg G h2 (Z79 h2 h1) (No h2) (c / 3);exact Zf (Zp (xs:=[G.d,.int ((c / 3:Nat):Int)]) (Z1 (Zp (xs:=[Q1 ns,.int ((1:Nat):Int)]) rfl e) (Z1 (Z5 rfl rfl (Yn c 3 (by lia) (by lia))) rfl)) e') ⟨G',rfl,h3⟩
  ·obtain ⟨G,e,h2,h1⟩:=Z3i ns 1 (1+c / 3 % 4) (c / 12 % 5) (by lia) (by lia) (by lia) (by lia)
   obtain ⟨G',e',h3⟩:=Kg G h2 (Z79 h2 h1) (No h2) (c / 60);exact Zf (Zp (xs:=[G.d,.int ((c / 60:Nat):Int)]) (Z1 (Zp (xs:=[Q1 ns,.int ((1:Nat):Int),.int ((1+c / 3 % 4:Nat):Int),.int ((c / 12 % 5:Nat):Int)]) (Z1 rfl (Z1 rfl (Z1 (Z5 rfl (Z5 (Z5 rfl rfl (Yn c 3 (by lia) (by lia))) rfl (Wj _ 4 (by lia))) (Wp 1 _)) (Z1 (Z5 (Z5 rfl rfl (Yn c 12 (by lia) (by lia))) rfl (Wj _ 5 (by lia))) rfl)))) e) (Z1 (Z5 rfl rfl (Yn c 60 (by lia) (by lia))) rfl)) e') ⟨G',rfl,h3⟩
 rintro e ⟨G,rfl,hG⟩;refine Z6 (Go.mono (N:=fun e=>∃ G:G3,e=[.fz (Q1 ns),.fz (.int (c:Int)),.fz G.d,.un,.un]/\Gb 64 G) ?_ ?_ (fun _ h=>h))
 ·refine Vq (Yd (Z5 (Z5 (Z5 rfl rfl (Yn c 4096 (by lia) (by lia))) rfl (Wj _ 3 (by lia))) rfl (A9 _ 0))) (fun _=>?_) (fun _=>W2 ⟨G,rfl,Gb.up hG⟩)
  obtain ⟨G',z,e,h1,h2⟩:=Xy G hG (c / 12288);exact Zf (Zp (xs:=[G.d,.int ((c / 12288:Nat):Int)]) (Z1 rfl (Z1 (Z5 rfl rfl (Yn c 12288 (by lia) (by lia))) rfl)) e) ⟨G',rfl,h2⟩
 clear hG G;rintro e ⟨G,rfl,hG⟩;obtain ⟨most,hm,hm1,hm2⟩:∃ most:Nat,(dO Wi (dL (Vi (Z2 (dC (.int 60)) (Z2 (dO Y8 (dC (.int 1)) (dO W3 (dO Ya (dV 1) (dC (.int 6))) (dC (.int 60)))) Zd)))) (dO W3 (dO Ya (dV 1) (dC (.int 360))) (dC (.int 2)))) [.fz (Q1 ns),.fz (.int (c:Int)),.fz G.d,.un,.un]=some (.int (most:Int))/\1<=most/\most<=60:=by
  have key:∀ j:Nat,j<2->∃ most:Nat,Wi (.lst [.int ((60:Nat):Int),.int ((1+c / 6 % 60:Nat):Int)]) (.int (j:Int))=some (.int (most:Int))/\1<=most/\most<=60:=fun j hj=>by
   have:j=0\/j=1:=by lia
   rcases this with rfl | rfl
   ·exact ⟨60,rfl,by lia,by lia⟩
   ·exact ⟨1+c / 6 % 60,rfl,by lia,by lia⟩
  obtain ⟨most,e,h1,h2⟩:=key (c / 360 % 2) (by lia);exact ⟨most,Z5 (x:=.lst [.int ((60:Nat):Int),.int ((1+c / 6 % 60:Nat):Int)]) (Wa (Wh (Z1 rfl (Z1 (Z5 rfl (Z5 (Z5 rfl rfl (Yn c 6 (by lia) (by lia))) rfl (Wj _ 60 (by lia))) (Wp 1 _)) rfl)) (by simp))) (Z5 (Z5 rfl rfl (Yn c 360 (by lia) (by lia))) rfl (Wj _ 2 (by lia))) e,h1,h2⟩
 refine Z6 (Zf hm ?_);obtain ⟨R,hR⟩:∃ R,Ed G most 400 0 [rw0 G]=R:=⟨_,rfl⟩;have hd:=Za8 hG most hm1 (by lia) hR;have ht:=Z5k hG most hm1 (by lia) hR;refine Z6 (Zf (Zp (xs:=[G.d,.int (most:Int)]) rfl hd) ?_);have hq:dO Jr (W1 Wo (Z2 (dV 2) (Z2 (dV 3) Zd))) (dV 4) [.fz (Q1 ns),.fz (.int (c:Int)),.fz G.d,.fz (.int (most:Int)),.fz (Ln R)]=some (.bl true):=Z5 (Zp (xs:=[G.d,.int (most:Int)]) rfl ht) rfl (Z3x (Z2i R));exact Yi (Z6a hq hq) rfl
end K24
set_option maxHeartbeats 4000000
namespace K24
open PySem PySem.Spec PyProof.Rows L2
def DD (K:PySem.W.Frag) (n:Str) (st:Stmt):Prop:=∃ f oc od kV dc pm an cd ct sl,PySem.W.nsIn K mainGlobals n=some (some (.ref f))/\K.lookup f=some ⟨oc,od,.func (fnOf n n (Wt st) (Yf st) (Z8 st) .none kV dc pm an cd ct),sl⟩/\codeIn K cd n=true/\PySem.W.keepIn K (.ref f)=true
theorem ddI {K:PySem.W.Frag} {n:Str} {st:Stmt} {f:Addr} {oc kV dc pm cd ct:Value} {od an:Option Addr} {sl:Array (Option Value)} (h1:PySem.W.nsIn K mainGlobals n=some (some (.ref f))) (h2:K.lookup f=some ⟨oc,od,.func (fnOf n n (Wt st) (Yf st) (Z8 st) .none kV dc pm an cd ct),sl⟩) (h3:codeIn K cd n=true) (h4:PySem.W.keepIn K (.ref f)=true):DD K n st:=⟨f,oc,od,kV,dc,pm,an,cd,ct,sl,h1,h2,h3,h4⟩
theorem Ee {K:PySem.W.Frag} {h:Heap} {mg:Str->Option Value} (X:K.In h) (G:h.Ns mainGlobals mg) {n:Str} {st:Stmt} (d:DD K n st):Def K mg n st:=by
 obtain ⟨f,oc,od,kV,dc,pm,an,cd,ct,sl,h1,h2,h3,h4⟩:=d;exact ⟨_,_,Kc (st:=st) h2 h3 h4,mg_of X G h1⟩
abbrev DA (K:PySem.W.Frag) (n:Str) (f:Addr):Prop:=PySem.W.nsIn K mainGlobals n=some (some (.ref f))
abbrev DL (K:PySem.W.Frag) (n:Str) (st:Stmt) (f:Addr) (oc:Value) (od:Option Addr) (kV dc pm:Value) (an:Option Addr) (cd ct:Value) (sl:Array (Option Value)):Prop:=K.lookup f=some ⟨oc,od,.func (fnOf n n (Wt st) (Yf st) (Z8 st) .none kV dc pm an cd ct),sl⟩
theorem Zdu {l:PySem.W.OpenLaw} {w:World} {K:PySem.W.Frag} {h:Heap} {mg:Str->Option Value} {fa:Addr} (X:K.In h) (G:h.Ns mainGlobals mg) (hfa:mg "law" = some (.ref fa))
  {f28:Addr} {od28 an28:Option Addr} {sl28:Array (Option Value)} {oc28 kV28 dc28 pm28 cd28 ct28:Value}
  {C_0:Addr}
  {C_3:Addr}
  {C_4:Addr}
  {C_1:Addr}
  {C_5:Addr}
  {C_6:Addr}
  {C_7:Addr}
  {C_2:Addr}
  {C_8:Addr}
  {J_0:Addr} {qd_0 qa_0 qo_0:Option Addr} {qs_0 qt_0:Array (Option Value)} {qk_0 qc_0 kV_0 dc_0 pm_0 cv_0 ct_0:Value} {cd_0:ClassData}
  {J_1:Addr} {qd_1 qa_1 qo_1:Option Addr} {qs_1 qt_1:Array (Option Value)} {qk_1 qc_1 kV_1 dc_1 pm_1 cv_1 ct_1:Value} {cd_1:ClassData}
  {J_2:Addr} {qd_2 qa_2 qo_2:Option Addr} {qs_2 qt_2:Array (Option Value)} {qk_2 qc_2 kV_2 dc_2 pm_2 cv_2 ct_2:Value} {cd_2:ClassData}
  (a0:DD K "wire_of" S8)
  (a1:DD K "is_rise" Se)
  (a2:DD K "takes_of" Mo)
  (a3:DD K "fills_of" Mj)
  (a4:DD K "bits" O8)
  (a5:DD K "has_one" S0)
  (a6:DD K "can" B2)
  (a7:DD K "behind" Dr)
  (a8:DD K "steps_at" Td)
  (a9:DD K "way" Bl)
  (a10:DD K "come_to" Sa)
  (a11:DD K "stands" Dg)
  (a12:DD K "_law_mix" Mi)
  (a13:DD K "_law_word" Ja)
  (a14:DD K "_law_order" Qb)
  (a15:DD K "_law_arrows" Tk)
  (a16:DD K "_law_graph" Y9)
  (a17:DD K "_law_choice" Ti)
  (a18:DD K "_law_lookers" Wx)
  (a19:DD K "_law_spots" Qe)
  (a20:DD K "_law_free" U6)
  (a21:DD K "_law_spoiled" V3)
  (a22:DD K "_law_sort" Qw)
  (a23:DD K "_law_can" T4)
  (a24:DD K "_law_done" Ua)
  (a25:DD K "_law_way" Ml)
  (a26:DD K "_law_due" Mh)
  (a27:DD K "_law_told" Qv)
  (a28:DA K "law" f28) (l28:DL K "law" Ge f28 oc28 od28 kV28 dc28 pm28 an28 cd28 ct28 sl28) (c28:codeIn K cd28 "law" = true) (k28:PySem.W.keepIn K (.ref f28)=true)
  (z_ValueError:PySem.W.nsIn K mainGlobals "ValueError" = some none)
  (z_all:PySem.W.nsIn K mainGlobals "all" = some none)
  (z_any:PySem.W.nsIn K mainGlobals "any" = some none)
  (z_enumerate:PySem.W.nsIn K mainGlobals "enumerate" = some none)
  (z_isinstance:PySem.W.nsIn K mainGlobals "isinstance" = some none)
  (z_len:PySem.W.nsIn K mainGlobals "len" = some none)
  (z_list:PySem.W.nsIn K mainGlobals "list" = some none)
  (z_max:PySem.W.nsIn K mainGlobals "max" = some none)
  (z_min:PySem.W.nsIn K mainGlobals "min" = some none)
  (z_range:PySem.W.nsIn K mainGlobals "range" = some none)
  (z_reversed:PySem.W.nsIn K mainGlobals "reversed" = some none)
  (z_sorted:PySem.W.nsIn K mainGlobals "sorted" = some none)
  (z_str:PySem.W.nsIn K mainGlobals "str" = some none)
  (z_tuple:PySem.W.nsIn K mainGlobals "tuple" = some none)
  (y_0:PySem.W.nsIn K mainGlobals "Broken" = some (some (.ref C_0)))
  (y_3:PySem.W.nsIn K mainGlobals "CalledOff" = some (some (.ref C_3)))
  (y_4:PySem.W.nsIn K mainGlobals "Clash" = some (some (.ref C_4)))
  (y_1:PySem.W.nsIn K mainGlobals "Crowded" = some (some (.ref C_1)))
  (y_5:PySem.W.nsIn K mainGlobals "NoMove" = some (some (.ref C_5)))
  (y_6:PySem.W.nsIn K mainGlobals "NoPlace" = some (some (.ref C_6)))
  (y_7:PySem.W.nsIn K mainGlobals "NoText" = some (some (.ref C_7)))
  (y_2:PySem.W.nsIn K mainGlobals "TooMany" = some (some (.ref C_2)))
  (y_8:PySem.W.nsIn K mainGlobals "CalmError" = some (some (.ref C_8)))
  (b0:PySem.W.specialIn K (.ref C_8) "__getattribute__" = some (some (.builtin "type.__getattribute__"))) (b1:PySem.W.readsIn K C_8 (.type "type")=true) (b2:PySem.W.findCls K (.ref C_8) (.type "type") "__init__" = some (.val (.builtin "ValueError.__init__")))
  (o_0:K.lookup C_0=some ⟨qk_0,qd_0,.cls cd_0,qs_0⟩) (n_0:PySem.W.nsIn K cd_0.ns "__init__" = some (some (.ref J_0))) (jl_0:K.lookup J_0=some ⟨qc_0,qo_0,.func (fnOf "__init__" "Broken.__init__" (Wt i_0) (Yf i_0) (Z8 i_0) .none kV_0 dc_0 pm_0 qa_0 cv_0 ct_0),qt_0⟩) (w_0:codeIn K cv_0 "Broken.__init__" = true) (p_0:PySem.W.keepIn K (.ref J_0)=true) (g_0:PySem.W.isFn K (.ref J_0)=true) (h_0:PySem.W.keepIn K (.ref C_0)=true)
  (x_0:Jp K C_0 J_0 C_8=true)
  (ra_0:PySem.W.findIn K (.ref C_0) "__class__" = some (some (.builtin "object.__class__"))) (rb_0:PySem.W.findIn K (.ref C_0) "__getattribute__" = some (some (.builtin "BaseException.__getattribute__"))) (rc_0:PySem.W.findIn K (.ref C_0) "__getattr__" = some none) (rd_0:PySem.W.findIn K (.ref C_0) "__setattr__" = some (some (.builtin "object.__setattr__"))) (re_0_way:PySem.W.findIn K (.ref C_0) "way" = some none)
  (s_0:PySem.W.exmOne K (.ref C_0) (.ref C_8)=some true)
  (e_0_0:PySem.W.exmOne K (.ref C_0) (.ref C_0)=some true)
  (e_0_1:PySem.W.exmOne K (.ref C_0) (.ref C_1)=some false)
  (tv_0:PySem.W.kitOne K (.ref C_0) (.type "ValueError")=some true)
  (t_0_0:PySem.W.kitOne K (.ref C_0) (.ref C_0)=some true)
  (t_0_3:PySem.W.kitOne K (.ref C_0) (.ref C_3)=some false)
  (t_0_4:PySem.W.kitOne K (.ref C_0) (.ref C_4)=some false)
  (t_0_1:PySem.W.kitOne K (.ref C_0) (.ref C_1)=some false)
  (t_0_5:PySem.W.kitOne K (.ref C_0) (.ref C_5)=some false)
  (t_0_6:PySem.W.kitOne K (.ref C_0) (.ref C_6)=some false)
  (t_0_7:PySem.W.kitOne K (.ref C_0) (.ref C_7)=some false)
  (t_0_2:PySem.W.kitOne K (.ref C_0) (.ref C_2)=some false)
  (o_1:K.lookup C_1=some ⟨qk_1,qd_1,.cls cd_1,qs_1⟩) (n_1:PySem.W.nsIn K cd_1.ns "__init__" = some (some (.ref J_1))) (jl_1:K.lookup J_1=some ⟨qc_1,qo_1,.func (fnOf "__init__" "Crowded.__init__" (Wt i_1) (Yf i_1) (Z8 i_1) .none kV_1 dc_1 pm_1 qa_1 cv_1 ct_1),qt_1⟩) (w_1:codeIn K cv_1 "Crowded.__init__" = true) (p_1:PySem.W.keepIn K (.ref J_1)=true) (g_1:PySem.W.isFn K (.ref J_1)=true) (h_1:PySem.W.keepIn K (.ref C_1)=true)
  (x_1:Jp K C_1 J_1 C_8=true)
  (ra_1:PySem.W.findIn K (.ref C_1) "__class__" = some (some (.builtin "object.__class__"))) (rb_1:PySem.W.findIn K (.ref C_1) "__getattribute__" = some (some (.builtin "BaseException.__getattribute__"))) (rc_1:PySem.W.findIn K (.ref C_1) "__getattr__" = some none) (rd_1:PySem.W.findIn K (.ref C_1) "__setattr__" = some (some (.builtin "object.__setattr__"))) (re_1_way:PySem.W.findIn K (.ref C_1) "way" = some none)
  (s_1:PySem.W.exmOne K (.ref C_1) (.ref C_8)=some true)
  (e_1_0:PySem.W.exmOne K (.ref C_1) (.ref C_0)=some false)
  (e_1_1:PySem.W.exmOne K (.ref C_1) (.ref C_1)=some true)
  (tv_1:PySem.W.kitOne K (.ref C_1) (.type "ValueError")=some true)
  (t_1_0:PySem.W.kitOne K (.ref C_1) (.ref C_0)=some false)
  (t_1_3:PySem.W.kitOne K (.ref C_1) (.ref C_3)=some false)
  (t_1_4:PySem.W.kitOne K (.ref C_1) (.ref C_4)=some false)
  (t_1_1:PySem.W.kitOne K (.ref C_1) (.ref C_1)=some true)
  (t_1_5:PySem.W.kitOne K (.ref C_1) (.ref C_5)=some false)
  (t_1_6:PySem.W.kitOne K (.ref C_1) (.ref C_6)=some false)
  (t_1_7:PySem.W.kitOne K (.ref C_1) (.ref C_7)=some false)
  (t_1_2:PySem.W.kitOne K (.ref C_1) (.ref C_2)=some false)
  (o_2:K.lookup C_2=some ⟨qk_2,qd_2,.cls cd_2,qs_2⟩) (n_2:PySem.W.nsIn K cd_2.ns "__init__" = some (some (.ref J_2))) (jl_2:K.lookup J_2=some ⟨qc_2,qo_2,.func (fnOf "__init__" "TooMany.__init__" (Wt i_2) (Yf i_2) (Z8 i_2) .none kV_2 dc_2 pm_2 qa_2 cv_2 ct_2),qt_2⟩) (w_2:codeIn K cv_2 "TooMany.__init__" = true) (p_2:PySem.W.keepIn K (.ref J_2)=true) (g_2:PySem.W.isFn K (.ref J_2)=true) (h_2:PySem.W.keepIn K (.ref C_2)=true)
  (x_2:Jp K C_2 J_2 C_8=true)
  (ra_2:PySem.W.findIn K (.ref C_2) "__class__" = some (some (.builtin "object.__class__"))) (rb_2:PySem.W.findIn K (.ref C_2) "__getattribute__" = some (some (.builtin "BaseException.__getattribute__"))) (rc_2:PySem.W.findIn K (.ref C_2) "__getattr__" = some none) (rd_2:PySem.W.findIn K (.ref C_2) "__setattr__" = some (some (.builtin "object.__setattr__"))) (re_2_way:PySem.W.findIn K (.ref C_2) "way" = some none)
  (s_2:PySem.W.exmOne K (.ref C_2) (.ref C_8)=some true)
  (e_2_0:PySem.W.exmOne K (.ref C_2) (.ref C_0)=some false)
  (e_2_1:PySem.W.exmOne K (.ref C_2) (.ref C_1)=some false)
  (tv_2:PySem.W.kitOne K (.ref C_2) (.type "ValueError")=some true)
  (t_2_0:PySem.W.kitOne K (.ref C_2) (.ref C_0)=some false)
  (t_2_3:PySem.W.kitOne K (.ref C_2) (.ref C_3)=some false)
  (t_2_4:PySem.W.kitOne K (.ref C_2) (.ref C_4)=some false)
  (t_2_1:PySem.W.kitOne K (.ref C_2) (.ref C_1)=some false)
  (t_2_5:PySem.W.kitOne K (.ref C_2) (.ref C_5)=some false)
  (t_2_6:PySem.W.kitOne K (.ref C_2) (.ref C_6)=some false)
  (t_2_7:PySem.W.kitOne K (.ref C_2) (.ref C_7)=some false)
  (t_2_2:PySem.W.kitOne K (.ref C_2) (.ref C_2)=some true) :
  ∃ fd:FuncData,(∀ (s:Shared) (v:Value),BindsTo s fd ⟨[v],[]⟩ [("_law_script",v)])/\∀ base:Heap,K.In base->base.Ns mainGlobals mg->FnOk l.prog w K mg base Dy 7 fa fd N39_ (Xd K):=by
 have e:=hfa.symm.trans (mg_of X G a28);cases e;have xc_0:XCls K C_0:=Oo x_0 ra_0 rb_0 rc_0 rd_0;have xc_1:XCls K C_1:=Oo x_1 ra_1 rb_1 rc_1 rd_1;have xc_2:XCls K C_2:=Oo x_2 ra_2 rb_2 rc_2 rd_2;have B:BaseC K mg C_8:=⟨mg_of X G y_8,b0,b1,b2⟩;have T:Txt K mg:={ b_ValueError:=mg_none_of X G z_ValueError,b_all:=mg_none_of X G z_all,b_any:=mg_none_of X G z_any,b_enumerate:=mg_none_of X G z_enumerate,b_isinstance:=mg_none_of X G z_isinstance,b_len:=mg_none_of X G z_len,b_list:=mg_none_of X G z_list,b_max:=mg_none_of X G z_max,b_min:=mg_none_of X G z_min,b_range:=mg_none_of X G z_range,b_reversed:=mg_none_of X G z_reversed,b_sorted:=mg_none_of X G z_sorted,b_str:=mg_none_of X G z_str,b_tuple:=mg_none_of X G z_tuple,i_0:=Mw (mg_of X G y_0) (forall_mem_cons.mpr ⟨⟨C_0,y_0,t_0_0.trans (by decide +kernel),xc_0⟩,(forall_mem_cons.mpr ⟨⟨C_1,y_1,t_1_0.trans (by decide +kernel),xc_1⟩,(forall_mem_cons.mpr ⟨⟨C_2,y_2,t_2_0.trans (by decide +kernel),xc_2⟩,(fun _ h=>nomatch h)⟩)⟩)⟩),i_3:=Mw (mg_of X G y_3) (forall_mem_cons.mpr ⟨⟨C_0,y_0,t_0_3.trans (by decide +kernel),xc_0⟩,(forall_mem_cons.mpr ⟨⟨C_1,y_1,t_1_3.trans (by decide +kernel),xc_1⟩,(forall_mem_cons.mpr ⟨⟨C_2,y_2,t_2_3.trans (by decide +kernel),xc_2⟩,(fun _ h=>nomatch h)⟩)⟩)⟩),i_4:=Mw (mg_of X G y_4) (forall_mem_cons.mpr ⟨⟨C_0,y_0,t_0_4.trans (by decide +kernel),xc_0⟩,(forall_mem_cons.mpr ⟨⟨C_1,y_1,t_1_4.trans (by decide +kernel),xc_1⟩,(forall_mem_cons.mpr ⟨⟨C_2,y_2,t_2_4.trans (by decide +kernel),xc_2⟩,(fun _ h=>nomatch h)⟩)⟩)⟩),i_1:=Mw (mg_of X G y_1) (forall_mem_cons.mpr ⟨⟨C_0,y_0,t_0_1.trans (by decide +kernel),xc_0⟩,(forall_mem_cons.mpr ⟨⟨C_1,y_1,t_1_1.trans (by decide +kernel),xc_1⟩,(forall_mem_cons.mpr ⟨⟨C_2,y_2,t_2_1.trans (by decide +kernel),xc_2⟩,(fun _ h=>nomatch h)⟩)⟩)⟩),i_5:=Mw (mg_of X G y_5) (forall_mem_cons.mpr ⟨⟨C_0,y_0,t_0_5.trans (by decide +kernel),xc_0⟩,(forall_mem_cons.mpr ⟨⟨C_1,y_1,t_1_5.trans (by decide +kernel),xc_1⟩,(forall_mem_cons.mpr ⟨⟨C_2,y_2,t_2_5.trans (by decide +kernel),xc_2⟩,(fun _ h=>nomatch h)⟩)⟩)⟩),i_6:=Mw (mg_of X G y_6) (forall_mem_cons.mpr ⟨⟨C_0,y_0,t_0_6.trans (by decide +kernel),xc_0⟩,(forall_mem_cons.mpr ⟨⟨C_1,y_1,t_1_6.trans (by decide +kernel),xc_1⟩,(forall_mem_cons.mpr ⟨⟨C_2,y_2,t_2_6.trans (by decide +kernel),xc_2⟩,(fun _ h=>nomatch h)⟩)⟩)⟩),i_7:=Mw (mg_of X G y_7) (forall_mem_cons.mpr ⟨⟨C_0,y_0,t_0_7.trans (by decide +kernel),xc_0⟩,(forall_mem_cons.mpr ⟨⟨C_1,y_1,t_1_7.trans (by decide +kernel),xc_1⟩,(forall_mem_cons.mpr ⟨⟨C_2,y_2,t_2_7.trans (by decide +kernel),xc_2⟩,(fun _ h=>nomatch h)⟩)⟩)⟩),i_2:=Mw (mg_of X G y_2) (forall_mem_cons.mpr ⟨⟨C_0,y_0,t_0_2.trans (by decide +kernel),xc_0⟩,(forall_mem_cons.mpr ⟨⟨C_1,y_1,t_1_2.trans (by decide +kernel),xc_1⟩,(forall_mem_cons.mpr ⟨⟨C_2,y_2,t_2_2.trans (by decide +kernel),xc_2⟩,(fun _ h=>nomatch h)⟩)⟩)⟩),j_ValueError:=Zad (forall_mem_cons.mpr ⟨⟨C_0,y_0,tv_0,xc_0⟩,(forall_mem_cons.mpr ⟨⟨C_1,y_1,tv_1,xc_1⟩,(forall_mem_cons.mpr ⟨⟨C_2,y_2,tv_2,xc_2⟩,(fun _ h=>nomatch h)⟩)⟩)⟩),k_8:=Z6f (mg_of X G y_8) (forall_mem_cons.mpr ⟨⟨C_0,y_0,s_0⟩,(forall_mem_cons.mpr ⟨⟨C_1,y_1,s_1⟩,(forall_mem_cons.mpr ⟨⟨C_2,y_2,s_2⟩,(fun _ h=>nomatch h)⟩)⟩)⟩),q_0:=B0 (mg_of X G y_0) (forall_mem_cons.mpr ⟨⟨C_0,y_0,e_0_0.trans (by decide +kernel)⟩,(forall_mem_cons.mpr ⟨⟨C_1,y_1,e_1_0.trans (by decide +kernel)⟩,(forall_mem_cons.mpr ⟨⟨C_2,y_2,e_2_0.trans (by decide +kernel)⟩,(fun _ h=>nomatch h)⟩)⟩)⟩),q_1:=B0 (mg_of X G y_1) (forall_mem_cons.mpr ⟨⟨C_0,y_0,e_0_1.trans (by decide +kernel)⟩,(forall_mem_cons.mpr ⟨⟨C_1,y_1,e_1_1.trans (by decide +kernel)⟩,(forall_mem_cons.mpr ⟨⟨C_2,y_2,e_2_1.trans (by decide +kernel)⟩,(fun _ h=>nomatch h)⟩)⟩)⟩),f_way:=Z5p (forall_mem_cons.mpr ⟨⟨C_0,y_0,xc_0,re_0_way⟩,(forall_mem_cons.mpr ⟨⟨C_1,y_1,xc_1,re_1_way⟩,(forall_mem_cons.mpr ⟨⟨C_2,y_2,xc_2,re_2_way⟩,(fun _ h=>nomatch h)⟩)⟩)⟩) };have D_wire_of:=Ee X G a0;have D_is_rise:=Ee X G a1;have D_takes_of:=Ee X G a2;have D_fills_of:=Ee X G a3;have D_bits:=Ee X G a4;have D_has_one:=Ee X G a5;have D_can:=Ee X G a6;have D_behind:=Ee X G a7;have D_steps_at:=Ee X G a8;have D_way:=Ee X G a9;have D_come_to:=Ee X G a10;have D_stands:=Ee X G a11;have D__law_mix:=Ee X G a12;have D__law_word:=Ee X G a13;have D__law_order:=Ee X G a14;have D__law_arrows:=Ee X G a15;have D__law_graph:=Ee X G a16;have D__law_choice:=Ee X G a17;have D__law_lookers:=Ee X G a18;have D__law_spots:=Ee X G a19;have D__law_free:=Ee X G a20;have D__law_spoiled:=Ee X G a21;have D__law_sort:=Ee X G a22;have D__law_can:=Ee X G a23;have D__law_done:=Ee X G a24;have D__law_way:=Ee X G a25;have D__law_due:=Ee X G a26;have D__law_told:=Ee X G a27;have F28:=Kc (st:=Ge) l28 c28 k28;refine ⟨fnOf "law" "law" (Wt Ge) (Yf Ge) (Z8 Ge) .none kV28 dc28 pm28 an28 cd28 ct28,fun s v=>.of_eq rfl,fun base _ _=>?_⟩;have M_0:=m_0 (P:=l.prog) (w:=w) (base:=base) B (Kc (st:=i_0) jl_0 w_0 p_0) y_0 (mg_of X G y_0) h_0 x_0 xc_0 re_0_way g_0 (mg_none_of X G z_list);have M_1:=m_1 (P:=l.prog) (w:=w) (base:=base) B (Kc (st:=i_1) jl_1 w_1 p_1) y_1 (mg_of X G y_1) h_1 x_1 xc_1 re_1_way g_1 (mg_none_of X G z_list);have M_2:=m_2 (P:=l.prog) (w:=w) (base:=base) B (Kc (st:=i_2) jl_2 w_2 p_2) y_2 (mg_of X G y_2) h_2 x_2 xc_2  g_2 (mg_none_of X G z_list);have C_wire_of:=Ch (P:=l.prog) (w:=w) (base:=base) D_wire_of T;have C_is_rise:=Z1e (P:=l.prog) (w:=w) (base:=base) D_is_rise T;have C_takes_of:=Fi (P:=l.prog) (w:=w) (base:=base) D_takes_of T;have C_fills_of:=Fs (P:=l.prog) (w:=w) (base:=base) D_fills_of T;have C_bits:=Za7 (P:=l.prog) (w:=w) (base:=base) D_bits T;have C_has_one:=Z1g (P:=l.prog) (w:=w) (base:=base) D_has_one T;have C_can:=Zcw (P:=l.prog) (w:=w) (base:=base) D_can T C_bits C_takes_of;have C_behind:=Z48 (P:=l.prog) (w:=w) (base:=base) D_behind T M_0.x M_1.x C_wire_of C_bits C_has_one C_is_rise C_fills_of C_takes_of;have C_steps_at:=Fh (P:=l.prog) (w:=w) (base:=base) D_steps_at T C_can;have C_way:=Zcd (P:=l.prog) (w:=w) (base:=base) D_way T;have C_come_to:=Z0r (P:=l.prog) (w:=w) (base:=base) D_come_to T M_0 M_1 C_behind C_way;have C_stands:=Z3o (P:=l.prog) (w:=w) (base:=base) D_stands T M_2 C_steps_at C_come_to;have C__law_mix:=An (P:=l.prog) (w:=w) (base:=base) D__law_mix T;have C__law_word:=Xn (P:=l.prog) (w:=w) (base:=base) D__law_word T;have C__law_order:=O9 (P:=l.prog) (w:=w) (base:=base) D__law_order T C__law_mix;have C__law_arrows:=Le (P:=l.prog) (w:=w) (base:=base) D__law_arrows T C__law_mix;have C__law_graph:=O4 (P:=l.prog) (w:=w) (base:=base) D__law_graph T C__law_order C__law_mix C__law_arrows C__law_word;have C__law_choice:=Lh (P:=l.prog) (w:=w) (base:=base) D__law_choice T C__law_mix C__law_word;have C__law_lookers:=L7 (P:=l.prog) (w:=w) (base:=base) D__law_lookers T;have C__law_spots:=Og (P:=l.prog) (w:=w) (base:=base) D__law_spots T;have C__law_free:=Pw (P:=l.prog) (w:=w) (base:=base) D__law_free T C__law_mix C__law_spots C__law_word;have C__law_spoiled:=K4 (P:=l.prog) (w:=w) (base:=base) D__law_spoiled T;have C__law_sort:=Pi (P:=l.prog) (w:=w) (base:=base) D__law_sort T;have C__law_can:=Fd (P:=l.prog) (w:=w) (base:=base) D__law_can T;have C__law_done:=X2 (P:=l.prog) (w:=w) (base:=base) D__law_done T;have C__law_way:=F3 (P:=l.prog) (w:=w) (base:=base) D__law_way T;have C__law_due:=Ad (P:=l.prog) (w:=w) (base:=base) D__law_due T C__law_can C__law_done C__law_way;have C__law_told:=X6 (P:=l.prog) (w:=w) (base:=base) D__law_told T C__law_sort C_stands;exact Zbh F28 T C__law_mix C__law_due C__law_free C__law_lookers C__law_spoiled C__law_told C__law_choice C__law_graph Z8a
theorem Zfm {l:PySem.W.OpenLaw} {q:Program} {loose:List Str} {XP:(Str->Option Value)->Heap->Prop} {YP:World->Heap->Prop} {d:DefRec} {K:Params->PySem.W.Frag} (hn:l.most=some 63) (hdf:d.params.defaults=[])
  (hY:∀ (w:World) (h:Heap),YP w h->(K w.params).In h)
  (F:∀ (w:World) (mg:Str->Option Value) (fa:Addr) (h:Heap),(K w.params).In h->h.Ns mainGlobals mg->mg d.name=some (.ref fa) ->
   ∃ fd:FuncData,(∀ (s:Shared) (u:Value),BindsTo s fd ⟨[u],[]⟩ [("_law_script",u)])/\∀ base:Heap,(K w.params).In base->base.Ns mainGlobals mg->FnOk l.prog w (K w.params) mg base Dy 7 fa fd N39_ (Xd (K w.params))) :
  PySem.W.WalkO q loose XP YP l.row.toRowW d [] (fun f vs=>PySem.call f vs) :=
 L2.Zdf (n:=63) (k:=7) (x:="_law_script") (CX:=fun _=>Dy) (sp:=fun w=>Xd (K w.params)) hn (by decide) hdf ⟨rfl,by decide,by decide,rfl⟩ hY F (fun _ _ a ns hl _ hS=>⟨a,ns,rfl,hS,hl,fun _=>rfl⟩) fun _ _ _ _ _ z=>z
end K24
open PySem PySem.W PyProof.Rows
set_option maxRecDepth 100000 in
set_option maxHeartbeats 0 in
theorem PySem.Challenge.cw_calmwires_k24_refused_stands_holds : PySem.Challenge.rw_calmwires_k24_refused_stands.Holds := by
 refine theTop ?_
 k_fill;refine K24.Zfm (l:=PySem.Challenge.rw_calmwires_k24_refused_stands) rfl rfl (fun w h Y=>PySem.W.kIn_of Y) ?F
 case F =>
   intro w mg fa h KX G hmg;refine' K24.Zdu KX G hmg ?a0 ?a1 ?a2 ?a3 ?a4 ?a5 ?a6 ?a7 ?a8 ?a9 ?a10 ?a11 ?a12 ?a13 ?a14 ?a15 ?a16 ?a17 ?a18 ?a19 ?a20 ?a21 ?a22 ?a23 ?a24 ?a25 ?a26 ?a27 ?a28 ?l28 ?c28 ?k28 ?z_ValueError ?z_all ?z_any ?z_enumerate ?z_isinstance ?z_len ?z_list ?z_max ?z_min ?z_range ?z_reversed ?z_sorted ?z_str ?z_tuple ?y_0 ?y_3 ?y_4 ?y_1 ?y_5 ?y_6 ?y_7 ?y_2 ?y_8 ?b0 ?b1 ?b2 ?o_0 ?n_0 ?jl_0 ?w_0 ?p_0 ?g_0 ?h_0 ?x_0 ?ra_0 ?rb_0 ?rc_0 ?rd_0 ?re_0_way ?s_0 ?e_0_0 ?e_0_1 ?tv_0 ?t_0_0 ?t_0_3 ?t_0_4 ?t_0_1 ?t_0_5 ?t_0_6 ?t_0_7 ?t_0_2 ?o_1 ?n_1 ?jl_1 ?w_1 ?p_1 ?g_1 ?h_1 ?x_1 ?ra_1 ?rb_1 ?rc_1 ?rd_1 ?re_1_way ?s_1 ?e_1_0 ?e_1_1 ?tv_1 ?t_1_0 ?t_1_3 ?t_1_4 ?t_1_1 ?t_1_5 ?t_1_6 ?t_1_7 ?t_1_2 ?o_2 ?n_2 ?jl_2 ?w_2 ?p_2 ?g_2 ?h_2 ?x_2 ?ra_2 ?rb_2 ?rc_2 ?rd_2 ?re_2_way ?s_2 ?e_2_0 ?e_2_1 ?tv_2 ?t_2_0 ?t_2_3 ?t_2_4 ?t_2_1 ?t_2_5 ?t_2_6 ?t_2_7 ?t_2_2
   case a28 | l28 | c28 | k28 | z_ValueError | z_all | z_any | z_enumerate | z_isinstance | z_len | z_list | z_max | z_min | z_range | z_reversed | z_sorted | z_str | z_tuple | y_0 | y_3 | y_4 | y_1 | y_5 | y_6 | y_7 | y_2 | y_8 | b0 | b1 | b2 | o_0 | n_0 | jl_0 | w_0 | p_0 | g_0 | h_0 | ra_0 | rb_0 | rc_0 | rd_0 | re_0_way | o_1 | n_1 | jl_1 | w_1 | p_1 | g_1 | h_1 | ra_1 | rb_1 | rc_1 | rd_1 | re_1_way | o_2 | n_2 | jl_2 | w_2 | p_2 | g_2 | h_2 | ra_2 | rb_2 | rc_2 | rd_2 | re_2_way=>first | k_is | (unfold K24.DA;k_is) | (unfold K24.DL;k_is)
   case a0 | a1 | a2 | a3 | a4 | a5 | a6 | a7 | a8 | a9 | a10 | a11 | a12 | a13 | a14 | a15 | a16 | a17 | a18 | a19 | a20 | a21 | a22 | a23 | a24 | a25 | a26 | a27=>refine' K24.ddI ?h1 ?h2 ?h3 ?h4;case h1 | h2 | h3 | h4=>k_is
   case x_0 | x_1 | x_2=>kernel_rfl!
   case tv_0 | t_0_0 | t_0_3 | t_0_4 | t_0_1 | t_0_5 | t_0_6 | t_0_7 | t_0_2 | tv_1 | t_1_0 | t_1_3 | t_1_4 | t_1_1 | t_1_5 | t_1_6 | t_1_7 | t_1_2 | tv_2 | t_2_0 | t_2_3 | t_2_4 | t_2_1 | t_2_5 | t_2_6 | t_2_7 | t_2_2=>kit_is
   case s_0 | e_0_0 | e_0_1 | s_1 | e_1_0 | e_1_1 | s_2 | e_2_0 | e_2_1=>kts_exm
