import PyProof.Rows.All
import Wide.All
import OpenK.AllK
import Wide.FinOn
import Lean
import PyProof.EqAt
import PyProof.EqKinds
import PyProof.TupleCall
import KE.KRevIter
import PyProof.ListRange
import PyProof.ExcClass3
import PyProof.ExcInit
import PyProof.RulesTry
import PyProof.RulesAs
import PyProof.ExcBaseAll.ValueError
import PyProof.InstStoreFacts
import PyProof.ExcArgsOwn
import KE.KIsAll
import PyProof.IsiBase
import PyProof.ReprRoads
import PyProof.NsDelKeeps
import KE.KTryMore
import PyProof.Rows.SortPure
import PyProof.Rows.SortShell
import KE.KIntText
import PyProof.Rows.StrItems
import PyProof.ZipIter
import PyProof.DictKeyH
import KE.RegKIsAll
import KE.RegKTryMore
import PyProof.Rows.KernelRfl
import PySem.Challenge.RW_calmwires_k42_two_ways_to_a_clash
set_option Elab.async false
set_option linter.all false
namespace L2
open PySem PySem.W
noncomputable def plantT (l : List Obj) : BT → Nat → Option BT :=
 @List.rec Obj (fun _ => BT → Nat → Option BT) (fun t _ => some t) (fun o _ ih t n => bif ((t.ins n o).get n).isSome then ih (t.ins n o) (n + 1) else none) l
theorem plantT_ok (life : Life) : ∀ {l : List Obj} {t t' : BT} {n : Nat}, plantT l t n = some t' → absHeap t' (n + l.length) life = ⟨(absHeap t n life).objs ++ l.toArray, life⟩
 | [], t, t', n, h => by
  cases h
  show absHeap t n life = _
  simp
  rfl
 | o :: r, t, t', n, h => by
  have h' : (bif ((t.ins n o).get n).isSome then plantT r (t.ins n o) (n + 1) else none) = some t' := h
  cases e : ((t.ins n o).get n).isSome with
  | false => rw [e] at h'; cases h'
  | true =>
   rw [e] at h'
   have i := plantT_ok life (l := r) h'
   rw [absHeap_ins e] at i
   rw [show n + (o :: r).length = n + 1 + r.length by simp only [List.length_cons]; omega, i]
   show Heap.mk ((absHeap t n life).objs.push o ++ r.toArray) life = _
   congr 1
   apply Array.toList_inj.mp
   simp
noncomputable def plant (s : Shared) : Option SharedT := (plantT s.heap.objs.toList .nil 0).map fun t => ⟨t, s.heap.objs.size, s.heap.life, s.gens, s.drawn, s.toks, s.os⟩
theorem plant_ok {s : Shared} {S : SharedT} (h : plant s = some S) : S.abs = s := by
 obtain ⟨t, e, rfl⟩ := Option.map_eq_some_iff.mp h
 have i := plantT_ok s.heap.life e
 obtain ⟨⟨objs, life⟩, gens, drawn, toks, os⟩ := s
 show Shared.mk (absHeap t objs.size life) gens drawn toks os = _
 have j : absHeap t objs.size life = ⟨objs, life⟩ := by
  rw [Nat.zero_add] at i
  have k : (absHeap BT.nil 0 life).objs = #[] := rfl
  simp only [k] at i
  rw [show objs.size = objs.toList.length from rfl, i]
  simp
 rw [j]
noncomputable def goT (st : SharedT → Thread → Option (SharedT × Thread)) (ok : Thread → Bool) (n : Nat) : SharedT → Thread → Option SharedT :=
 @Nat.rec (fun _ => SharedT → Thread → Option SharedT) (fun _ _ => none) (fun _ ih s t => bif through t then some s else bif ok t then (st s t).bind fun z => ih z.1 z.2 else none) n
theorem goT_ok {tb : String → Option Builtin} {p : Program} {w : World} {m : Nat} {a : Option Value} : ∀ {n : Nat} {s s' : SharedT} {t : Thread}, goT (stepT (denote tb) p w) (stepOk m a) n s t = some s' → topRun tb p w m a n s.abs t = some s'.abs
 | 0, _, _, _, h => nomatch h
 | n + 1, s, s', t, h => by
  have h' : (bif through t then some s else bif stepOk m a t then (stepT (denote tb) p w s t).bind fun z => goT (stepT (denote tb) p w) (stepOk m a) n z.1 z.2 else none) = some s' := h
  unfold topRun
  cases e : through t with
  | true => rw [e] at h'; cases h'; rfl
  | false =>
   rw [e] at h'
   cases e2 : stepOk m a t with
   | false => rw [e2] at h'; cases h'
   | true =>
    rw [e2] at h'
    obtain ⟨⟨s2, t2⟩, e3, e4⟩ := Option.bind_eq_some_iff.mp h'
    rw [stepT_spec e3]
    exact goT_ok e4
noncomputable def aboveT (tb : String → Option Builtin) (p : Program) (w : World) (N : Nat) (z : Shared) : Option Shared :=
 bif z.heap.isNs mainGlobals && z.gens.size == 0 then
  (plant z).bind fun S => (goT (stepT (denote tb) p w) (stepOk z.heap.objs.size (z.heap.nsMap mainGlobals "__annotations__")) N S (topStub p)).bind fun y =>
   bif staticsOk (importedModules p.main.body) z.heap y.abs.heap && namesBound p y.abs.heap && gensDone y.abs && laidKept z.heap y.abs.heap then some y.abs else none
 else none
theorem aboveT_ok {tb : String → Option Builtin} {p : Program} {w : World} {N : Nat} {z y : Shared} (h : aboveT tb p w N z = some y) : topFrom tb p w N z = some y := by
 unfold aboveT at h
 unfold topFrom
 cases e : (z.heap.isNs mainGlobals && z.gens.size == 0) with
 | false => rw [e] at h; cases h
 | true =>
  rw [e] at h
  obtain ⟨S, e1, h⟩ := Option.bind_eq_some_iff.mp h
  obtain ⟨Y, e2, h⟩ := Option.bind_eq_some_iff.mp h
  have r := goT_ok e2
  rw [plant_ok e1] at r
  dsimp only
  rw [r]
  cases e3 : (staticsOk (importedModules p.main.body) z.heap Y.abs.heap && namesBound p Y.abs.heap && gensDone Y.abs && laidKept z.heap Y.abs.heap) with
  | false => rw [e3] at h; cases h
  | true =>
   rw [e3] at h
   cases h
   show (match staticsOk (importedModules p.main.body) z.heap Y.abs.heap && namesBound p Y.abs.heap && gensDone Y.abs && laidKept z.heap Y.abs.heap with | true => _ | false => _) = _
   rw [e3]
theorem leftT2 {p q : Program} {loose : List PySem.Str} {Xt : Shared → Bool} {α : Type} {Yf : Shared → α} {Ya : World → α} {N : Nat} {g0 : Bool}
  (h1 : ∀ w, ((fencedOpening treeTable p w N).bind (aboveT treeTable p w N)).map (fun s => openSeen q loose (importedModules p.main.body) Xt g0 s) = some (openGood q loose))
  (h2 : ∀ w, ((fencedOpening treeTable p w N).bind (aboveT treeTable p w N)).map Yf = some (Ya w)) : LeftO p q loose Xt Yf Ya N g0 := fun w => by
 obtain ⟨s, e, e2⟩ := Option.map_eq_some_iff.mp (h1 w)
 have h3 := h2 w
 rw [e] at h3
 obtain ⟨z, e3, e4⟩ := Option.bind_eq_some_iff.mp e
 unfold openEnds
 rw [e3]
 show (topFrom treeTable p w N z).map _ = _
 rw [aboveT_ok e4]
 show some (openSeen q loose (importedModules p.main.body) Xt g0 s, Yf s) = _
 rw [e2, show Yf s = Ya w from Option.some.inj h3]
end L2
section
open PySem PySem.W PyProof.Rows
lay_quick PySem.Challenge.pw_calmwires_k42_two_ways_to_a_clash
local macro_rules | `(tactic| refine $f:ident $as*) => do if (f.getId.toString.splitOn "holds_open").length > 1 then `(tactic| (refine' $f $as*; case' $(Lean.mkIdent `hl):ident => (refine' L2.leftT2 (fun w => ?_) (fun w => ?_); (· unfold fencedOpening L2.aboveT; rw [show PySem.Challenge.rw_calmwires_k42_two_ways_to_a_clash.row.prog = _ from PySem.W.Fast.te15507481226726829850, PySem.W.Fast.te10156331382660048174, PySem.W.Fast.te11892475500146522536, PySem.W.Fast.te6613529449190102663, PySem.W.Fast.te10274390034422433532, PySem.W.Fast.te14289696077712309145, PySem.W.Fast.te14364793385576792824, PySem.W.Fast.te1435165496053646825, PySem.W.Fast.te8920871248978507458, PySem.W.Fast.te4187177175401517315]; kernel_rfl!); (· unfold fencedOpening L2.aboveT; rw [show PySem.Challenge.rw_calmwires_k42_two_ways_to_a_clash.row.prog = _ from PySem.W.Fast.te15507481226726829850, PySem.W.Fast.te10156331382660048174, PySem.W.Fast.te11892475500146522536, PySem.W.Fast.te6613529449190102663, PySem.W.Fast.te10274390034422433532, PySem.W.Fast.te14289696077712309145, PySem.W.Fast.te14364793385576792824, PySem.W.Fast.te1435165496053646825, PySem.W.Fast.te8920871248978507458]; kernel_rfl!)))) else Lean.Macro.throwUnsupported
set_option maxRecDepth 100000 in
set_option maxHeartbeats 0 in
open_top theTop for PySem.Challenge.rw_calmwires_k42_two_ways_to_a_clash
end
open List (mem_filter mem_range filterMap_cons mem_cons_self mem_cons_of_mem mem_cons mem_append mem_append_left mem_append_right size_toArray append_nil nodup_cons length_take getElem?_append_right getElem?_append_left getElem?_map mem_of_getElem? length_append length_map length_replicate length_drop map_nil map_cons length_set length_singleton lookup_cons all_eq_true mem_map mem_singleton length_cons any_cons any_map take_succ_cons length_range drop_zero take_of_length_le take_zero reverse_cons getElem?_range getElem?_set append_assoc getElem?_eq_getElem getElem_mem nodup_nil map_append nodup_append mem_replicate find?_cons map_map map_take map_drop idxOf_cons getElem?_cons getElem?_drop any_eq_true getElem?_take take_succ forall_mem_cons)
open PySem.W (instObj methodObj lookIn plainGet kitx_list kitx_tuple kitx_dict fnOf codeIn mg_of mg_none_of)
open Nat (lt_of_lt_of_le lt_irrefl ne_of_lt le_trans le_of_lt le_refl le_of_eq lt_of_le_of_lt le_succ zero_le zero_add not_lt pow_le_pow_right lt_or_ge testBit_or testBit_two_pow testBit_xor testBit_and eq_of_testBit_eq eq_zero_or_pos two_pow_pos mod_lt)
open PySem.Heap (lt_size SameBut get?_push_of_some get?_push_size get?_update_self get?_update_other size_push ExtBut size_update)
noncomputable section
set_option Elab.async false
set_option linter.all false
set_option maxRecDepth 100000
namespace L2
open PySem PySem.Spec PyProof.Rows
abbrev Key:=Sum Int Str
def Fs:Key->Value->Bool
 | .inl k,v=>Value.isInt k v
 | .inr x,v=>Value.isStrOf x v
def Zds (w:World):Key->Int
 | .inl k=>hashInt k
 | .inr x=>hashStr w x
theorem We:∀ {k:Key} {v:Value},Fs k v=true->(∃ i t,k=Sum.inl i/\v=Value.int i t)\/(∃ x t,k=Sum.inr x/\v=Value.str x t)
 | .inl i,v,h=>by
  obtain ⟨t,e⟩:=Value.isInt_shape (k:=i) (v:=v) h;exact .inl ⟨i,t,rfl,e⟩
 | .inr x,v,h=>by
  obtain ⟨t,e⟩:=Value.isStrOf_shape (x:=x) (v:=v) h;exact .inr ⟨x,t,rfl,e⟩
theorem Af (i:Int) (t:Tok):Fs (.inl i) (.int i t)=true:=by simp [Fs,Value.isInt]
theorem Z05 (x:Str) (t:Tok):Fs (.inr x) (.str x t)=true:=by simp [Fs,Value.isStrOf]
theorem Z7m (a b:Int):decide ((Sum.inl a:Key)=Sum.inl b)=(a==b):=by
 by_cases e:a=b
 ·subst e;simp
 ·have h:¬ (Sum.inl a:Key)=Sum.inl b:=fun q=>e (Sum.inl.inj q)
  rw [decide_eq_false h];exact (beq_eq_false_iff_ne.mpr e).symm
theorem Z85 (a b:Str):decide ((Sum.inr a:Key)=Sum.inr b)=decide (a=b):=by
 by_cases e:a=b
 ·subst e;simp
 ·have h:¬ (Sum.inr a:Key)=Sum.inr b:=fun q=>e (Sum.inr.inj q)
  rw [decide_eq_false h,decide_eq_false e]
theorem Z7t (a:Int) (b:Str):decide ((Sum.inl a:Key)=Sum.inr b)=false:=decide_eq_false (fun q=>nomatch q)
theorem Z84 (a:Str) (b:Int):decide ((Sum.inr a:Key)=Sum.inl b)=false:=decide_eq_false (fun q=>nomatch q)
def Vg (prog:Program) (w:World):PySem.KeyKind prog w Key where
 is:=Fs
 hash:=Zds w
 inj:=fun v a b ha hb=>by
  rcases We ha with ⟨i,t,rfl,rfl⟩ | ⟨x,t,rfl,rfl⟩
  ·rcases We hb with ⟨j,u,rfl,e⟩ | ⟨y,u,rfl,e⟩
   ·injection e with e1 _;rw [e1]
   ·exact nomatch e
  ·rcases We hb with ⟨j,u,rfl,e⟩ | ⟨y,u,rfl,e⟩
   ·exact nomatch e
   ·injection e with e1 _;rw [e1]
 byValue:=fun k v h=>by
  rcases We h with ⟨i,t,rfl,rfl⟩ | ⟨x,t,rfl,rfl⟩<;>rfl
 pyHash:=fun hv h=>by
  rcases We hv with ⟨i,t,rfl,rfl⟩ | ⟨x,t,rfl,rfl⟩
  ·exact wpAny_pyHash_int h
  ·exact wpAny_pyHash_str h
 eqBool:=fun hu hv h=>by
  rcases We hu with ⟨i,t,rfl,rfl⟩ | ⟨x,t,rfl,rfl⟩
  ·rcases We hv with ⟨j,u,rfl,rfl⟩ | ⟨y,u,rfl,rfl⟩
   ·rw [Z7m] at h;exact wpAny_eqBool_int h
   ·rw [Z7t] at h;exact SeqAt.EqAt.int_str i t y u _ _ _ _ h
  ·rcases We hv with ⟨j,u,rfl,rfl⟩ | ⟨y,u,rfl,rfl⟩
   ·rw [Z84] at h;exact SeqAt.EqAt.str_int x t j u _ _ _ _ h
   ·rw [Z85] at h;exact wpAny_eqBool_str h
 «strs» := fun k x t v h=>by
  rcases We h with ⟨i,u,rfl,e⟩ | ⟨y,u,rfl,e⟩
  ·exact nomatch e
  ·injection e with e1 _
   subst e1;cases v<;>rfl
theorem Og (prog:Program) (w:World) (i:Int) (t:Tok):(Vg prog w).is (.inl i) (.int i t)=true:=Af i t
theorem Nz (prog:Program) (w:World) (x:Str) (t:Tok):(Vg prog w).is (.inr x) (.str x t)=true:=Z05 x t
inductive V where
 | non | bl (b:Bool) | int (i:Int) | str (x:Str) | byt (b:Array UInt8) | flt (b:UInt64) | ref (a:Addr) | ty (n:String)
 deriving DecidableEq
def Vf:V->Value->Prop
 | .non,u=>u=Value.none
 | .bl b,u=>u=Value.bool b
 | .int i,u=>∃ t,u=Value.int i t
 | .str x,u=>∃ t,u=Value.str x t
 | .byt b,u=>∃ t,u=Value.bytes b t
 | .flt b,u=>∃ t,u=Value.float b t
 | .ref a,u=>u=Value.ref a
 | .ty n,u=>u=Value.type n
abbrev Wa:List V->List Value->Prop:=Paired Vf
theorem Wa.length {xs:List V} {us:List Value} (r:Wa xs us):xs.length=us.length:=Paired.length r
theorem Wa.get:∀ {xs:List V} {us:List Value} {i:Nat} {x:V},Wa xs us->xs[i]?=some x->∃ u,us[i]?=some u/\Vf x u
 | _,_,_,_,.nil,e=>by simp at e
 | _,_,0,_,.cons r _,e=>by simp at e;subst e;exact ⟨_,rfl,r⟩
 | _,_,i+1,x,.cons _ t,e=>by
  obtain ⟨u,h1,h2⟩:=Wa.get (i:=i) (x:=x) t (by simpa using e);exact ⟨u,by simpa using h1,h2⟩
theorem Wa.set {x:V} {u:Value} (r:Vf x u):∀ {xs:List V} {us:List Value} (i:Nat),Wa xs us->Wa (xs.set i x) (us.set i u)
 | _,_,_,.nil=>.nil
 | _,_,0,.cons _ t=>.cons r t
 | _,_,i+1,.cons q t=>.cons q (Wa.set r i t)
theorem Wa.append:∀ {xs ys:List V} {us ws:List Value},Wa xs us->Wa ys ws->Wa (xs++ys) (us++ws)
 | _,_,_,_,.nil,s=>s
 | _,_,_,_,.cons r t,s=>.cons r (Wa.append t s)
theorem Wa.take:∀ {xs:List V} {us:List Value} (n:Nat),Wa xs us->Wa (xs.take n) (us.take n)
 | _,_,0,_=>.nil
 | _,_,_+1,.nil=>.nil
 | _,_,n+1,.cons r t=>.cons r (Wa.take n t)
theorem Wa.drop:∀ {xs:List V} {us:List Value} (n:Nat),Wa xs us->Wa (xs.drop n) (us.drop n)
 | _,_,0,r=>r
 | _,_,_+1,.nil=>.nil
 | _,_,n+1,.cons _ t=>Wa.drop n t
def Aa:Option V->Option Value->Prop
 | some v,some u=>Vf v u
 | none,none=>True
 | _,_=>False
def KV {κ:Type}:List (κ×V)->List (κ×Value)->Prop:=Paired fun (p:κ×V) (q:κ×Value)=>p.1=q.1/\Vf p.2 q.2
def kV:Key->V
 | .inl i=>.int i
 | .inr x=>.str x
inductive HO where
 | lst (xs:List V)
 | tup (xs:List V)
 | dK (kvs:List (Key×V)) | dT (kvs:List (List Key×V))
 | set (S:Int->Bool) (n:Nat)
 | ins (C dx:Addr) (fs:List (Str×V))
 | own (x:Addr)
 | xd (fs:List (Str×V))
 | met (f x:Addr)
 | rng (lo hi:Int)
 | frz (o:Obj) (u:HO)
 | tbl (ps:Array Value)
 | ext (φ:Heap->Prop)
abbrev Hp:=Addr->Option HO
def upd (H:Hp) (a:Addr) (o:HO):Hp:=fun b=>if b=a then some o else H b
theorem Zu {H:Hp} {a:Addr} {o:HO}:upd H a o a=some o:=by unfold upd;rw [if_pos rfl]
theorem Zg {H:Hp} {a b:Addr} {o:HO} (h:b≠a):upd H a o b=H b:=by unfold upd;rw [if_neg h]
theorem Z7j {H:Hp} {a b:Addr} {o u:HO} (h:H a=some o) (h':H b=some u) (d:o≠u):a≠b:=by
 intro e;subst e;rw [h] at h';exact d (Option.some.inj h')
theorem Y6 {H:Hp} {a b:Addr} {o:HO} (h:H a=some o) (h':H b=none):a≠b:=by
 intro e;subst e;rw [h] at h';cases h'
section
variable (P:Program) (w:World)
def Wf (H:Hp) (h:Heap) (a:Addr):HO->Prop
 | .lst xs=>xs.length<=sizeLine/\∃ (its:List Value) (n:Nat),Wa xs its/\h.get? a=some { cls:=.type "list",data:=.seq its.toArray n }
 | .tup xs=>xs.length<=sizeLine/\∃ its:List Value,Wa xs its/\IsTup h a its.toArray
 | .dK kvs=>kvs.length<=sizeLine/\(a==sysModules)=false/\∃ vs,KV kvs vs/\h.DictOf (Vg P w) a vs
 | .dT kvs=>kvs.length<=sizeLine/\(a==sysModules)=false/\∃ xs:List (List Key×Addr×Value),
  Paired (fun (p:List Key×V) (q:List Key×Addr×Value)=>p.1=q.1/\H q.2.1=some (.tup (p.1.map kV))/\Vf p.2 q.2.2) kvs xs /\
  ∃ o es ep,h.get? a=some o/\o.ExactDict/\o.data=.dict es ep/\es.toList=xs.map (entryOfKey (tupleKind (Vg P w)))/\(xs.map (·.1)).Nodup
 | .set S n=>h.SetOf (intKind P w) a S n
 | .ins C dx fs=>H dx=some (.own a)/\fs.length<=1000/\dx≠a/\h.get? a=some (instObj C dx) /\
  ∃ mA,h.Ns1 dx mA/\(∀ f,Aa (fs.lookup f) (mA f))/\PySem.Within mA (fs.map (·.1))
 | .own _=>∃ o,h.get? a=some o
 | .xd fs=>∃ mA,h.Ns1 a mA/\∀ f,Aa (fs.lookup f) (mA f)
 | .rng lo hi=>∃ t u v,h.get? a=some { cls:=.type "range",data:=.fields #[.int lo t,.int hi u,.int 1 v] }
 | .frz o u=>h.get? a=some o/\Wf H h a u
 | .tbl ps=>h.get? a=some { cls:=.none,data:=.fields ps }
 | .met f x=>h.get? a=some (methodObj (.ref f) (.ref x))
 | .ext φ=>φ h/\(∃ o,h.get? a=some o)/\∀ h1 h2:Heap,φ h1->(∀ o,h1.get? a=some o->h2.get? a=some o)->φ h2
def HOk (H:Hp) (h:Heap):Prop:=∀ a o,H a=some o->Wf P w H h a o
end
section
variable {P:Program} {w:World} {H H':Hp} {h h':Heap} {a:Addr} {o:HO}
theorem Wf.lt (x:Wf P w H h a o):a<h.objs.size:=by
 cases o with
 | lst xs=>obtain ⟨_,_,_,_,e⟩:=x;exact lt_size e
 | tup xs=>obtain ⟨_,_,_,p⟩:=x;exact p.lt
 | dK kvs=>obtain ⟨_,_,_,_,o,_,_,e,_⟩:=x;exact lt_size e
 | dT kvs=>obtain ⟨_,_,_,_,o,_,_,e,_⟩:=x;exact lt_size e
 | set S n=>obtain ⟨o,_,_,_,e,_⟩:=x;exact lt_size e
 | ins C dx fs=>obtain ⟨_,_,_,e,_⟩:=x;exact lt_size e
 | own y=>obtain ⟨_,e⟩:=x;exact lt_size e
 | xd fs=>obtain ⟨_,⟨_,_,_,e,_⟩,_⟩:=x;exact lt_size e
 | rng lo hi=>obtain ⟨_,_,_,e⟩:=x;exact lt_size e
 | frz ob u=>obtain ⟨e,_⟩:=x;exact lt_size e
 | tbl ps=>exact lt_size (show h.get? a=some _ from x)
 | met f y=>exact lt_size (show h.get? a=some _ from x)
 | ext φ=>obtain ⟨_,⟨_,e⟩,_⟩:=x;exact lt_size e
theorem Paired.mapP {α β:Type} {F G:α->β->Prop}:∀ {l₁:List α} {l₂:List β},Paired F l₁ l₂->(∀ a b,F a b->G a b)->Paired G l₁ l₂
 | _,_,.nil,_=>.nil
 | _,_,.cons r t,f=>.cons (f _ _ r) (Paired.mapP t f)
theorem Wf.stay (x:Wf P w H h a o) (k:∀ b u,(b=a\/H b=some (.own a))->h.get? b=some u->h'.get? b=some u)
  (ho:∀ b,H b=some (.own a)->H' b=some (.own a)) (ht:∀ b xs,H b=some (.tup xs)->H' b=some (.tup xs)):Wf P w H' h' a o:=by
 induction o with
 | lst xs=>obtain ⟨z,its,n,r,e⟩:=x;exact ⟨z,its,n,r,k _ _ (.inl rfl) e⟩
 | tup xs=>obtain ⟨z,its,r,ob,e,c⟩:=x;exact ⟨z,its,r,ob,k _ _ (.inl rfl) e,c⟩
 | dK kvs=>obtain ⟨z,y,vs,r,ob,es,ep,e,c⟩:=x;exact ⟨z,y,vs,r,ob,es,ep,k _ _ (.inl rfl) e,c⟩
 | dT kvs =>
  obtain ⟨z,y,xs,r,ob,es,ep,e,c⟩:=x;exact ⟨z,y,xs,Paired.mapP r fun p q z=>⟨z.1,ht _ _ z.2.1,z.2.2⟩,ob,es,ep,k _ _ (.inl rfl) e,c⟩
 | set S n=>obtain ⟨ob,es,ep,t,e,c⟩:=x;exact ⟨ob,es,ep,t,k _ _ (.inl rfl) e,c⟩
 | ins C dx fs =>
  obtain ⟨d,z,ne,e,mA,⟨od,es,ep,e2,c⟩,r⟩:=x;exact ⟨ho _ d,z,ne,k _ _ (.inl rfl) e,mA,⟨od,es,ep,k _ _ (.inr d) e2,c⟩,r⟩
 | own y=>obtain ⟨ob,e⟩:=x;exact ⟨ob,k _ _ (.inl rfl) e⟩
 | xd fs=>obtain ⟨mA,⟨od,es,ep,e,c⟩,r⟩:=x;exact ⟨mA,⟨od,es,ep,k _ _ (.inl rfl) e,c⟩,r⟩
 | rng lo hi=>obtain ⟨t,u,v,e⟩:=x;exact ⟨t,u,v,k _ _ (.inl rfl) e⟩
 | frz ob u ih=>obtain ⟨e,q⟩:=x;exact ⟨k _ _ (.inl rfl) e,ih q⟩
 | tbl ps =>
  have e:h.get? a=some { cls:=.none,data:=.fields ps }:=x;show h'.get? a=some { cls:=.none,data:=.fields ps };exact k a _ (.inl rfl) e
 | met f y =>
  have e:h.get? a=some (methodObj (.ref f) (.ref y)):=x;show h'.get? a=some (methodObj (.ref f) (.ref y));exact k a _ (.inl rfl) e
 | ext φ=>obtain ⟨p,⟨o,e⟩,st⟩:=x;exact ⟨st _ _ p fun o q=>k _ _ (.inl rfl) q,⟨o,k _ _ (.inl rfl) e⟩,st⟩
theorem HOk.lt (x:HOk P w H h) (e:H a=some o):a<h.objs.size:=(x a o e).lt
theorem HOk.fresh (x:HOk P w H h) (e:h.objs.size<=a):H a=none:=by
 cases q:H a with
 | none=>rfl
 | some u=>exact absurd (lt_of_lt_of_le (x.lt q) e) (lt_irrefl _)
theorem HOk.kept (x:HOk P w H h) (k:∀ b u,h.get? b=some u->h'.get? b=some u):HOk P w H h':=fun a o e =>
 (x a o e).stay (fun b u _ q=>k b u q) (fun _ q=>q) fun _ _ q=>q
theorem HOk.laid (x:HOk P w H h) (k:∀ b u,h.get? b=some u->h'.get? b=some u) (hp:h.objs.size<=a) (new:Wf P w (upd H a o) h' a o):HOk P w (upd H a o) h':=fun b u e=>by
 have hn:=x.fresh hp;by_cases hb:b=a
 ·subst hb;rw [Zu] at e;cases e;exact new
 ·rw [Zg hb] at e
  exact (x b u e).stay (fun c v _ q=>k c v q) (fun c q=>by rw [Zg (Y6 q hn)];exact q) fun c xs q=>by rw [Zg (Y6 q hn)];exact q
end
def Rd (H:Hp) (a:Addr) (u:HO):Prop:=H a=some u\/∃ o,H a=some (.frz o u)
theorem Rd.of {H:Hp} {a:Addr} {u:HO} (h:H a=some u):Rd H a u:=.inl h
theorem Rd.ok {P:Program} {w:World} {H:Hp} {h:Heap} {a:Addr} {u:HO} (r:Rd H a u) (x:HOk P w H h):Wf P w H h a u:=by
 rcases r with r | ⟨o,r⟩
 ·exact x a u r
 ·obtain ⟨_,q⟩:=x a _ r
  exact q
def Mut:Option HO->Prop
 | some (.lst _)=>True
 | some (.dK _)=>True
 | some (.dT _)=>True
 | some (.set _ _)=>True
 | some (.ins _ _ _)=>True
 | some (.ext _)=>True
 | _=>False
section
variable {P:Program} {w:World} {H:Hp} {h h':Heap} {x e:Addr} {o':HO}
theorem HOk.write (ok:HOk P w H h) (mu:Mut (H x)) (he:e=x\/H e=some (.own x)) (k:∀ b u,b≠e->h.get? b=some u->h'.get? b=some u) (heo:∃ u,h'.get? e=some u)
  (new:Wf P w (upd H x o') h' x o'):HOk P w (upd H x o') h':=fun b u q=>by
 have nown:∀ c y,H c=some (.own y)->c≠x:=fun c y r z=>by subst z;rw [r] at mu;exact mu
 have ntup:∀ c xs,H c=some (.tup xs)->c≠x:=fun c xs r z=>by subst z;rw [r] at mu;exact mu
 by_cases hb:b=x
 ·subst hb;rw [Zu] at q;cases q;exact new
 ·rw [Zg hb] at q
  by_cases hbe:b=e
  ·have q':H b=some (.own x):=by
    rcases he with z | z
    ·exact absurd (hbe.trans z) hb
    ·rw [hbe];exact z
   rw [q] at q';cases q';obtain ⟨v,hv⟩:=heo;exact ⟨v,by rw [hbe];exact hv⟩
  ·refine (ok b u q).stay (fun c v hc r=>k c v ?_ r) (fun c r=>by rw [Zg (nown c b r)];exact r) fun c xs r=>by rw [Zg (ntup c xs r)];exact r
   rcases hc with rfl | hc
   ·exact hbe
   ·rintro rfl
    rcases he with z | z
    ·exact nown c b hc z
    ·rw [hc] at z;cases z;exact hb rfl
end
structure Un (fs ex:List Addr) (H H':Hp) (h h':Heap):Prop where
 keep:∀ b o,h.get? b=some o->H b=none->b∉fs->b∉ex->h'.get? b=some o
 slot:∀ b o,h.get? b=some o->H b=none->b∈fs->b∉ex->∃ sl,h'.get? b=some { o with slots:=sl }
 free:∀ b o,h.get? b=some o->H b=none->b∉ex->H' b=none
 there:∀ b o,h.get? b=some o->b∉ex->∃ o',h'.get? b=some o'
 tups:∀ b xs,H b=some (.tup xs)->H' b=some (.tup xs)
 frzs:∀ b o u,H b=some (.frz o u)->H' b=some (.frz o u)
 tbls:∀ b ps,H b=some (.tbl ps)->∃ more,H' b=some (.tbl (ps++more))
section
variable {fs fs' ex ex':List Addr} {H H1 H2:Hp} {h h1 h2 h':Heap} {a x e:Addr} {o:HO}
theorem Un.any (u:Un fs ex H H1 h h1) {b:Addr} {ob:Obj} (q:h.get? b=some ob) (n:H b=none) (hx:b∉ex):∃ sl,h1.get? b=some { ob with slots:=sl }:=by
 by_cases hb:b∈fs
 ·exact u.slot b ob q n hb hx
 ·exact ⟨ob.slots,u.keep b ob q n hb hx⟩
theorem Un.kept (k:∀ b u,h.get? b=some u->h'.get? b=some u):Un fs ex H H h h' :=
 ⟨fun b ob q _ _ _=>k b ob q,fun b ob q _ _ _=>⟨ob.slots,k b ob q⟩,fun _ _ _ n _=>n,fun b ob q _=>⟨ob,k b ob q⟩,fun _ _ q=>q,fun _ _ _ q=>q,fun _ ps q=>⟨#[],by rw [q];simp⟩⟩
theorem Un.refl:Un fs ex H H h h:=Un.kept fun _ _ q=>q
theorem Un.laid (k:∀ b u,h.get? b=some u->h'.get? b=some u) (hp:h.objs.size<=a) (hn:H a=none):Un fs ex H (upd H a o) h h' where
 keep:=fun b u q _ _ _=>k b u q
 slot:=fun b u q _ _ _=>⟨u.slots,k b u q⟩
 free:=fun b u q n _=>by rw [Zg (ne_of_lt (lt_of_lt_of_le (lt_size q) hp))];exact n
 there:=fun b u q _=>⟨u,k b u q⟩
 tups:=fun b xs q=>by rw [Zg (Y6 q hn)];exact q
 frzs:=fun b u xs q=>by rw [Zg (Y6 q hn)];exact q
 tbls:=fun b ps q=>⟨#[],by rw [Zg (Y6 q hn),q];simp⟩
theorem Un.write (mu:Mut (H x)) (he:e=x\/H e=some (.own x)) (k:∀ b u,b≠e->h.get? b=some u->h'.get? b=some u) (heo:∃ u,h'.get? e=some u):Un fs ex H (upd H x o) h h':=by
 have hx:∀ b,H b=none->b≠x:=fun b n z=>by subst z;rw [n] at mu;exact mu
 have hb:∀ b,H b=none->b≠e:=fun b n z=>by
  subst z;rcases he with r | r
  ·exact hx b n r
  ·rw [n] at r;cases r
 have hm:∀ b u,H b=some u->¬ Mut (some u)->b≠x:=fun b u q nm z=>by subst z;rw [q] at mu;exact nm mu
 refine ⟨fun b u q n _ _=>k b u (hb b n) q,fun b u q n _ _=>⟨u.slots,k b u (hb b n) q⟩,fun b u q n _=>by rw [Zg (hx b n)];exact n,fun b u q _=>?_,
  fun b xs q=>by rw [Zg (hm b _ q fun z=>z)];exact q,fun b u xs q=>by rw [Zg (hm b _ q fun z=>z)];exact q,fun b ps q=>⟨#[],by rw [Zg (hm b _ q fun z=>z),q];simp⟩⟩
 by_cases hbe:b=e
 ·subst hbe;exact heo
 ·exact ⟨u,k b u hbe q⟩
end
def trk (h:Heap) (H:Hp):List Addr:=(List.range h.objs.size).filter fun a=>(H a).isSome
def Z2s (h:Heap) (H:Hp):Heap:=PySem.W.hideAll h (trk h H)
theorem Bb (h:Heap) (H:Hp):(Z2s h H).objs.size=h.objs.size:=PySem.W.hideAll_size _ _
theorem Z2t {h:Heap} {H:Hp} {b:Addr} {o:Obj} (e:h.get? b=some o) (n:H b=none):(Z2s h H).get? b=some o :=
 PySem.W.hideAll_get _ e fun hm=>by
  have q:(H b).isSome=true:=(mem_filter.mp hm).2;rw [n] at q;simp at q
theorem Z4u {h:Heap} {H:Hp} {b:Addr} {o:Obj} (e:(Z2s h H).get? b=some o):h.get? b=some o/\H b=none:=by
 have e':h.get? b=some o:=PySem.W.of_hideAll (trk h H) e;refine ⟨e',?_⟩;cases q:H b with
 | none=>rfl
 | some x =>
  have hm:b∈trk h H:=mem_filter.mpr ⟨mem_range.mpr (lt_size e'),by simp [q]⟩;have z:(Z2s h H).get? b=none:=PySem.W.hideAll_none (trk h H) hm;rw [z] at e;cases e
structure Mod (K:PySem.W.Frag) (mg:Str->Option Value) (base:Heap):Prop where
 kin:K.In base
 glob:base.Ns mainGlobals mg
 blt:∃ mb,base.Ns builtinsNs mb/\∀ x:Str,x≠"__name__" -> mb x=bootBuiltins x
 nolimit:base.NoLimit
structure Cx where
 prog:Program
 w:World
 K:PySem.W.Frag
 mg:Str->Option Value
 base:Heap
 A:Around
 N:List Str
 s₀:Shared
 H₀:Hp
 env:Env
 outer:List Env
 stack:List Env
 ex:List Addr
 fn:Str->Bool
 calm:Bool
 pn:List (Addr×Obj)
 xe:Value->Shared->Prop
def frs (l:List Env):List Addr:=l.filterMap (·.frame)
abbrev Cx.fs (X:Cx):List Addr:=frs X.outer
def Vis (sc:Scope) (x:Str):Prop:=sc.names.lookup x=some .local\/sc.names.lookup x=some .cell\/sc.names.lookup x=some .free
def Loc (sc:Scope) (x:Str):Prop:=sc.names.lookup x=some .local\/sc.names.lookup x=some .cell
def Zdu (env:Env) (h:Heap) (m:Str->Option Value) (x:Str) (u:Value):Prop :=
 (env.kindOf x=some .local/\m x=some u)\/((env.kindOf x=some .cell\/env.kindOf x=some .free)/\∃ c,env.cells.lookup x=some c/\h.IsCell c (some u))
structure Cx.Ok (X:Cx):Prop where
 mod:Mod X.K X.mg X.base
 kind:X.env.scope.kind=.function
 glob:X.env.globals=mainGlobals
 blt:X.env.builtins=builtinsNs
 above:X.s₀.heap.objs.size<=X.env.locals
 inj:∀ x y c,X.env.cells.lookup x=some c->X.env.cells.lookup y=some c->x=y
 has:∀ x,(X.env.kindOf x=some .cell\/X.env.kindOf x=some .free)->∃ c,X.env.cells.lookup x=some c
 cab:∀ x c,X.fn x=true->X.env.cells.lookup x=some c->X.s₀.heap.objs.size<=c
 hd:X.calm=true->X.A.handled=none
 frames:X.A.frames=some X.stack
 stk:X.stack=X.outer\/(X.stack=X.env::X.outer/\X.env.frame=some X.env.locals)
 exf:∀ b∈X.ex,b≠X.env.locals/\∀ x c,X.env.cells.lookup x=some c->c≠b
 bs:∀ b o,X.base.get? b=some o->X.s₀.heap.get? b=some o/\X.H₀ b=none
 bsz:X.base.objs.size<=X.s₀.heap.objs.size
 noex:∀ b o,X.base.get? b=some o->b∉X.ex
 exfs:∀ b∈X.ex,b∉X.fs
 funs:X.s₀.heap.FunFrames X.base X.outer
 frf:∀ b∈X.fs,X.H₀ b=none
structure Inv (X:Cx) (pins:List (Addr×Obj)) (σ:List (Option V)) (H:Hp) (s:Shared):Prop where
 ok:X.Ok
 os:s.os=X.s₀.os
 bare:AllBare s.gens
 base:Un X.fs X.ex X.H₀ H X.s₀.heap s.heap
 loc:∃ m,s.heap.Ns X.env.locals m/\∀ (i:Nat) (x:Str) (v:V),X.N[i]?=some x->σ[i]?=some (some v)->Vis X.env.scope x->∃ u,Vf v u/\Zdu X.env s.heap m x u
 cell:∀ x c,X.env.cells.lookup x=some c->∃ v,s.heap.IsCell c v
 free:H X.env.locals=none
 freeC:∀ x c,X.env.cells.lookup x=some c->H c=none
 pin:∀ p∈X.pn++pins,s.heap.get? p.1=some p.2/\H p.1=none/\p.1≠X.env.locals/\p.1∉X.fs/\∀ v,p.2.data≠.cell v
 hok:HOk X.prog X.w H s.heap
 len:σ.length=X.N.length
section
variable {X:Cx} {pins:List (Addr×Obj)} {σ:List (Option V)} {H H':Hp} {s:Shared} {h':Heap}
theorem Cx.Ok.nofr (ok:X.Ok) {b:Addr} {o:Obj} (e:X.base.get? b=some o):b∉X.fs:=fun hb=>by
 have:=(ok.funs.mem hb).1;rw [e] at this;cases this
theorem Inv.bs (I:Inv X pins σ H s):∀ b o,X.base.get? b=some o->s.heap.get? b=some o/\H b=none:=fun b o e =>
 ⟨I.base.keep b o (I.ok.bs b o e).1 (I.ok.bs b o e).2 (I.ok.nofr e) (I.ok.noex b o e),I.base.free b o (I.ok.bs b o e).1 (I.ok.bs b o e).2 (I.ok.noex b o e)⟩
theorem Inv.bk (I:Inv X pins σ H s):∀ b o,X.base.get? b=some o->s.heap.get? b=some o:=fun b o e=>(I.bs b o e).1
theorem Inv.mod (I:Inv X pins σ H s):Mod X.K X.mg X.base:=I.ok.mod
theorem Inv.kIn (I:Inv X pins σ H s):X.K.In s.heap:=I.ok.mod.kin.keeps I.bk
theorem Inv.lt (I:Inv X pins σ H s):X.env.locals<s.heap.objs.size:=let ⟨_,hn,_⟩:=I.loc;hn.lt
theorem Inv.sz (I:Inv X pins σ H s):X.s₀.heap.objs.size<=s.heap.objs.size:=le_trans I.ok.above (le_of_lt I.lt)
theorem Inv.nofs (I:Inv X pins σ H s) {a:Addr} (h:s.heap.objs.size<=a):a∉X.fs:=fun hb=>by
 obtain ⟨_,o,ho,_⟩:=I.ok.funs.mem hb;exact absurd (lt_of_lt_of_le (lt_size ho) (le_trans I.sz h)) (lt_irrefl _)
theorem Inv.cne (I:Inv X pins σ H s):∀ x c,X.env.cells.lookup x=some c->c≠X.env.locals:=fun x c e z=>by
 obtain ⟨v,o,ho,hd⟩:=I.cell x c e;obtain ⟨m,⟨o',es,ep,ho',hd',_⟩,_⟩:=I.loc;rw [z,ho'] at ho;cases ho;rw [hd'] at hd;cases hd
theorem Inv.funs (I:Inv X pins σ H s):s.heap.FunFrames X.base X.outer:=by
 have all:∀ (l:List Env),(∀ b∈frs l,b∈X.fs)->X.s₀.heap.FunFrames X.base l->s.heap.FunFrames X.base l:=by
  intro l;induction l with
  | nil=>intro _ _;trivial
  | cons env r ih =>
   intro hs hl;obtain ⟨hk,⟨L,o,hf,hn,ho,hd⟩,hr⟩:=hl;have hL:L∈X.fs:=hs L (by unfold frs;rw [filterMap_cons,hf];exact mem_cons_self);obtain ⟨sl,e⟩:=I.base.slot L o ho (I.ok.frf L hL) hL fun z=>I.ok.exfs L z hL
   exact ⟨hk,⟨L,_,hf,hn,e,hd⟩,ih (fun b hb=>hs b (by unfold frs;rw [filterMap_cons,hf];exact mem_cons_of_mem _ hb)) hr⟩
 exact all X.outer (fun _ hb=>hb) I.ok.funs
theorem Inv.stack (I:Inv X pins σ H s):s.heap.FunFrames X.base X.stack:=by
 rcases I.ok.stk with e | ⟨e,hf⟩
 ·rw [e];exact I.funs
 ·rw [e]
  obtain ⟨m,hn,_⟩:=I.loc;refine .cons (by rw [I.ok.kind];decide) hf hn ?_ I.funs;exact Heap.get?_none_of_le (le_trans I.ok.bsz I.ok.above)
theorem Inv.stkSub (I:Inv X pins σ H s):∀ b∈frs X.stack,b∈X.env.locals::X.fs:=fun b hb=>by
 rcases I.ok.stk with e | ⟨e,hf⟩
 ·rw [e] at hb;exact mem_cons_of_mem _ hb
 ·rw [e] at hb
  unfold frs at hb;rw [filterMap_cons,hf] at hb;exact hb
theorem Inv.stkFree (I:Inv X pins σ H s):∀ b∈frs X.stack,H b=none:=fun b hb=>by
 rcases mem_cons.mp (I.stkSub b hb) with e | hb
 ·rw [e];exact I.free
 ·obtain ⟨_,o,ho,_⟩:=I.ok.funs.mem hb
  exact I.base.free b o ho (I.ok.frf b hb) fun z=>I.ok.exfs b z hb
theorem Inv.step {g':Array GenState} {t':Nat} {d':Drawn} {ch:List Addr} (I:Inv X pins σ H s)
  (hch:∀ b∈ch,(b∈X.ex\/X.s₀.heap.objs.size<=b)/\b≠X.env.locals/\(∀ x c,X.env.cells.lookup x=some c->c≠b)/\∀ p∈X.pn++pins,p.1≠b)
  (keep:∀ b o,b≠X.env.locals->b∉X.fs->b∉ch->s.heap.get? b=some o->H b=none->h'.get? b=some o)
  (slot:∀ b o,b≠X.env.locals->b∈X.fs->b∉ch->s.heap.get? b=some o->H b=none->∃ sl,h'.get? b=some { o with slots:=sl }) (free:∀ b o,b∉ch->s.heap.get? b=some o->H b=none->H' b=none)
  (there:∀ b o,b∉ch->s.heap.get? b=some o->∃ o',h'.get? b=some o')
  (tups:∀ b xs,H b=some (.tup xs)->H' b=some (.tup xs)) (frzs:∀ b o u,H b=some (.frz o u)->H' b=some (.frz o u)) (tbls:∀ b ps,H b=some (.tbl ps)->∃ more,H' b=some (.tbl (ps++more)))
  (ns:∀ m,s.heap.Ns X.env.locals m->h'.Ns X.env.locals m) (hok:HOk X.prog X.w H' h') (hg:AllBare g') :
  Inv X pins σ H' { s with heap:=h',gens:=g',drawn:=d',toks:=t' }:=by
 have neL:∀ b o,X.s₀.heap.get? b=some o->b≠X.env.locals:=fun b o e=>ne_of_lt (lt_of_lt_of_le (lt_size e) I.ok.above)
 have neC:∀ b o,X.s₀.heap.get? b=some o->b∉X.ex->b∉ch:=fun b o e hx hb=>by
  rcases (hch b hb).1 with z | z
  ·exact hx z
  ·exact absurd (lt_of_lt_of_le (lt_size e) z) (lt_irrefl _)
 have cellK:∀ x c,X.env.cells.lookup x=some c->∀ v,s.heap.IsCell c v->h'.IsCell c v:=fun x c e v zz=>by
  obtain ⟨o,ho,hd⟩:=zz;have nch:c∉ch:=fun z=>(hch c z).2.2.1 x c e rfl
  by_cases hc:c∈X.fs
  ·obtain ⟨sl,q⟩:=slot c o (I.cne x c e) hc nch ho (I.freeC x c e)
   exact ⟨_,q,hd⟩
  ·exact ⟨o,keep c o (I.cne x c e) hc nch ho (I.freeC x c e),hd⟩
 refine ⟨I.ok,I.os,hg,⟨fun b o e n hb hx=>?_,fun b o e n hb hx=>?_,fun b o e n hx=>?_,fun b o e hx=>?_,fun b xs e=>tups b xs (I.base.tups b xs e),fun b o xs e=>frzs b o xs (I.base.frzs b o xs e),fun b ps e=>?_⟩,?_,fun x c e=>?_,?_,fun x c e=>?_,fun p hp=>?_,hok,I.len⟩
 ·exact keep b o (neL b o e) hb (neC b o e hx) (I.base.keep b o e n hb hx) (I.base.free b o e n hx)
 ·obtain ⟨sl,e1⟩:=I.base.slot b o e n hb hx
  obtain ⟨sl',e2⟩:=slot b _ (neL b o e) hb (neC b o e hx) e1 (I.base.free b o e n hx);exact ⟨sl',e2⟩
 ·obtain ⟨o',e1⟩:=I.base.there b o e hx
  exact free b o' (neC b o e hx) e1 (I.base.free b o e n hx)
 ·obtain ⟨o',e1⟩:=I.base.there b o e hx
  exact there b o' (neC b o e hx) e1
 ·obtain ⟨m1,e1⟩:=I.base.tbls b ps e
  obtain ⟨m2,e2⟩:=tbls b _ e1;exact ⟨m1++m2,by rw [e2,Array.append_assoc]⟩
 ·obtain ⟨m,hn,hl⟩:=I.loc
  refine ⟨m,ns m hn,fun i x v e1 e2 e3=>?_⟩;obtain ⟨u,r,l⟩:=hl i x v e1 e2 e3;refine ⟨u,r,?_⟩;rcases l with l | ⟨k,c,e,z⟩
  ·exact .inl l
  ·exact .inr ⟨k,c,e,cellK x c e _ z⟩
 ·obtain ⟨v,z⟩:=I.cell x c e
  exact ⟨v,cellK x c e v z⟩
 ·obtain ⟨m,⟨o,_,_,ho,_⟩,_⟩:=I.loc
  exact free _ o (fun z=>(hch _ z).2.1 rfl) ho I.free
 ·obtain ⟨v,o,ho,hd⟩:=I.cell x c e
  exact free c o (fun z=>(hch c z).2.2.1 x c e rfl) ho (I.freeC x c e)
 ·obtain ⟨e,n,ne,nf,d⟩:=I.pin p hp
  have nch:p.1∉ch:=fun z=>(hch p.1 z).2.2.2 p hp rfl
  exact ⟨keep p.1 p.2 ne nf nch e n,free p.1 p.2 nch e n,ne,nf,d⟩
theorem Inv.un {t':Nat} (I:Inv X pins σ H s) (u:Un X.fs [] H H' s.heap h') (hok:HOk X.prog X.w H' h'):Inv X pins σ H' { s with heap:=h',toks:=t' }:=by
 obtain ⟨m,⟨o,es,ep,ho,r⟩,_⟩:=id I.loc;obtain ⟨sl,hL⟩:=u.any ho I.free (by simp);exact I.step (g':=s.gens) (d':=s.drawn) (ch:=[]) (fun _ z=>nomatch z) (fun b o _ hb _ e n=>u.keep b o e n hb (by simp)) (fun b o _ hb _ e n=>u.slot b o e n hb (by simp)) (fun b o _ e n=>u.free b o e n (by simp)) (fun b o _ e=>u.there b o e (by simp)) u.tups u.frzs u.tbls (fun m' hm=>by
  obtain ⟨o',es',ep',ho',r'⟩:=hm;rw [ho] at ho';cases ho';exact ⟨_,es',ep',hL,r'⟩) hok I.bare
theorem Inv.call {g':Array GenState} {t':Nat} {d':Drawn} {ch:List Addr} (I:Inv X pins σ H s) (u:Un (frs X.stack) ch H H' s.heap h') (hok:HOk X.prog X.w H' h') (hg:AllBare g')
  (hch:∀ b∈ch,(b∈X.ex\/X.s₀.heap.objs.size<=b)/\b≠X.env.locals/\(∀ x c,X.env.cells.lookup x=some c->c≠b)/\∀ p∈X.pn++pins,p.1≠b) :
  Inv X pins σ H' { s with heap:=h',gens:=g',drawn:=d',toks:=t' }:=by
 obtain ⟨m,⟨o,es,ep,ho,r⟩,_⟩:=id I.loc;obtain ⟨sl,hL⟩:=u.any ho I.free fun z=>(hch _ z).2.1 rfl
 exact I.step (ch:=ch) hch (fun b o hL hb hc e n=>u.keep b o e n (fun z=>(mem_cons.mp (I.stkSub b z)).elim hL hb) hc) (fun b o _ _ hc e n=>u.any e n hc) (fun b o hc e n=>u.free b o e n hc) (fun b o hc e=>u.there b o e hc) u.tups u.frzs u.tbls (fun m' hm=>by
  obtain ⟨o',es',ep',ho',r'⟩:=hm;rw [ho] at ho';cases ho';exact ⟨_,es',ep',hL,r'⟩) hok hg
theorem Inv.turned {t':Nat} {it:Addr} (I:Inv X pins σ H s) (k:∀ b o,b≠it->s.heap.get? b=some o->h'.get? b=some o) (hn:H it=none) (hL:it≠X.env.locals)
  (h1:it∈X.ex\/X.s₀.heap.objs.size<=it) (h2:∀ x c,X.env.cells.lookup x=some c->c≠it) (h3:∀ p∈X.pn++pins,p.1≠it):Inv X pins σ H { s with heap:=h',toks:=t' }:=by
 have nit:∀ b u,H b=some u->b≠it:=fun b u e z=>by rw [z,hn] at e;cases e
 refine I.step (g':=s.gens) (d':=s.drawn) (ch:=[it]) (fun b hb=>?_) (fun b o _ _ hc e _=>k b o (fun z=>hc (by simp [z])) e) (fun b o _ _ hc e _=>⟨o.slots,k b o (fun z=>hc (by simp [z])) e⟩) (fun _ _ _ _ n=>n)
  (fun b o hc e=>⟨o,k b o (fun z=>hc (by simp [z])) e⟩) (fun _ _ e=>e) (fun _ _ _ e=>e) (fun b ps e=>⟨#[],by rw [e];simp⟩) (fun m hm=>?_) (fun b u e=>?_) I.bare
 ·have e:b=it:=by simpa using hb
  subst e;exact ⟨h1,hL,h2,h3⟩
 ·obtain ⟨o,es,ep,ho,r⟩:=hm
  exact ⟨o,es,ep,k _ o (Ne.symm hL) ho,r⟩
 ·refine (I.hok b u e).stay (fun c v hc q=>k c v ?_ q) (fun _ q=>q) fun _ _ q=>q
  rcases hc with z | z
  ·rw [z];exact nit b u e
  ·exact nit c _ z
theorem Inv.tok (I:Inv X pins σ H s) (t:Nat):Inv X pins σ H { s with toks:=t }:=I.un (h':=s.heap) (t':=t) Un.refl I.hok
theorem Inv.kept {t':Nat} (I:Inv X pins σ H s) (k:∀ b u,s.heap.get? b=some u->h'.get? b=some u):Inv X pins σ H { s with heap:=h',toks:=t' }:=I.un (Un.kept k) (I.hok.kept k)
theorem Inv.laid {a:Addr} {o:HO} {t':Nat} (I:Inv X pins σ H s) (k:∀ b u,s.heap.get? b=some u->h'.get? b=some u) (hp:s.heap.objs.size<=a) (new:Wf X.prog X.w (upd H a o) h' a o) :
 Inv X pins σ (upd H a o) { s with heap:=h',toks:=t' }:=I.un (Un.laid k hp (I.hok.fresh hp)) (I.hok.laid k hp new)
theorem Inv.write {x e:Addr} {o:HO} {t':Nat} (I:Inv X pins σ H s) (mu:Mut (H x)) (he:e=x\/H e=some (.own x)) (k:∀ b u,b≠e->s.heap.get? b=some u->h'.get? b=some u) (heo:∃ u,h'.get? e=some u)
 (new:Wf X.prog X.w (upd H x o) h' x o):Inv X pins σ (upd H x o) { s with heap:=h',toks:=t' }:=I.un (Un.write mu he k heo) (I.hok.write mu he k heo new)
theorem Inv.weak {σ':List (Option V)} (I:Inv X pins σ H s) (hl:σ'.length=σ.length) (w:∀ (i:Nat) v,σ'[i]?=some (some v)->σ[i]?=some (some v)):Inv X pins σ' H s :=
 ⟨I.ok,I.os,I.bare,I.base,let ⟨m,hn,hl'⟩:=I.loc;⟨m,hn,fun i x v e1 e2 e3=>hl' i x v e1 (w i v e2) e3⟩,I.cell,I.free,I.freeC,I.pin,I.hok,hl.trans I.len⟩
theorem Inv.pins_of {pins':List (Addr×Obj)} (I:Inv X pins σ H s) (h:∀ p∈pins',s.heap.get? p.1=some p.2/\H p.1=none/\p.1≠X.env.locals/\p.1∉X.fs/\∀ v,p.2.data≠.cell v):Inv X pins' σ H s :=
 ⟨I.ok,I.os,I.bare,I.base,I.loc,I.cell,I.free,I.freeC,fun p hp=>(mem_append.mp hp).elim (fun z=>I.pin p (mem_append_left _ z)) (h p),I.hok,I.len⟩
theorem Ir {N:List Str} (hN:N.Nodup) {i j:Nat} {x:Str} (a:N[i]?=some x) (b:N[j]?=some x):i=j:=by
 obtain ⟨h1,e1⟩:=List.getElem?_eq_some_iff.mp a;obtain ⟨h2,e2⟩:=List.getElem?_eq_some_iff.mp b;exact (List.getElem_inj hN).mp (e1.trans e2.symm)
theorem Kk {M:Model} {A:Around} {E:Value->Shared->Prop} {i:Nat} {x:Str} {v:V} {u:Value} {Q:Unit->Shared->Prop} (I:Inv X pins σ H s) (hN:X.N.Nodup) (hi:X.N[i]?=some x) (hx:Loc X.env.scope x) (r:Vf v u)
   (h:∀ s',Inv X pins (σ.set i (some v)) H s'->(∃ a,SameBut a s.heap s'.heap/\(a=X.env.locals\/X.env.cells.lookup x=some a))->Q () s') (hf:X.fn x=true\/X.env.scope.names.lookup x=some .local:=by first | exact .inl rfl | exact .inr rfl | assumption):wpAny M A (storeName X.env x u) Q E s:=by
 obtain ⟨m,hn,hl⟩:=id I.loc;have hcls:(X.env.scope.kind==.class||(X.env.scope.kind==.module&&X.env.locals != X.env.globals))=false:=by rw [I.ok.kind];rfl
 have hiσ:i<σ.length:=by rw [I.len];exact (List.getElem?_eq_some_iff.mp hi).1
 have cne:=I.cne;have tracked:∀ {a:Addr} {h':Heap},(∃ o,s.heap.get? a=some o/\H a=none)->SameBut a s.heap h'->HOk X.prog X.w H h':=fun {a h'} ha hs b ob e=>by
   obtain ⟨_,_,hfree⟩:=ha;refine (I.hok b ob e).stay (fun c w' hc q=>(hs.2 c ?_).trans q) (fun _ q=>q) fun _ _ q=>q
   rintro rfl;rcases hc with rfl | hc
   · rw [hfree] at e;cases e
   · rw [hfree] at hc;cases hc
 rcases hx with hk | hk
 · refine wpAny_storeName_local hk hn (fun h' hn' hs=>?_) hcls
   obtain ⟨oL,_,_,hoL,_⟩:=id hn;refine h _ ⟨I.ok,I.os,I.bare,⟨fun b o e n hb hx=>?_,fun b o e n hb hx=>?_,I.base.free,fun b o e hx=>?_,I.base.tups,I.base.frzs,I.base.tbls⟩,⟨_,hn',fun j y v' e1 e2 e3=>?_⟩,fun y c e=>?_,I.free,I.freeC,fun p hp=>?_,tracked ⟨oL,hoL,I.free⟩ hs,by simpa using I.len⟩ ⟨_,hs,.inl rfl⟩
   · exact (hs.2 b (ne_of_lt (lt_of_lt_of_le (lt_size e) I.ok.above))).trans (I.base.keep b o e n hb hx)
   · obtain ⟨sl,e1⟩:=I.base.slot b o e n hb hx
     exact ⟨sl,(hs.2 b (ne_of_lt (lt_of_lt_of_le (lt_size e) I.ok.above))).trans e1⟩
   · obtain ⟨o',e1⟩:=I.base.there b o e hx
     exact ⟨o',(hs.2 b (ne_of_lt (lt_of_lt_of_le (lt_size e) I.ok.above))).trans e1⟩
   · by_cases hj:j=i
     · subst hj
       rw [hi] at e1;cases e1;rw [List.getElem?_set_self hiσ] at e2;cases e2;exact ⟨u,r,.inl ⟨hk,by simp⟩⟩
     · rw [List.getElem?_set_ne (Ne.symm hj)] at e2
       obtain ⟨u',r',q⟩:=hl j y v' e1 e2 e3;refine ⟨u',r',?_⟩;rcases q with ⟨k,e⟩ | ⟨k,c,e,z⟩
       · refine .inl ⟨k,?_⟩
         have:y≠x:=fun e=>hj (Ir hN e1 (e▸hi))
         simp [this,e]
       · exact .inr ⟨k,c,e,z.sameBut hs (cne y c e)⟩
   · obtain ⟨w',z⟩:=I.cell y c e
     exact ⟨w',z.sameBut hs (cne y c e)⟩
   · obtain ⟨e,n,ne,nf,d⟩:=I.pin p hp
     exact ⟨(hs.2 p.1 ne).trans e,n,ne,nf,d⟩
 · have hfn:X.fn x=true:=by
     rcases hf with z | z
     · exact z
     · rw [z] at hk;cases hk
   obtain ⟨c,hc⟩:=I.ok.has x (.inl hk);obtain ⟨w',z⟩:=I.cell x c hc;refine wpAny_storeName_cell I.ok.kind hk hc z (fun h' hc' hs=>?_);obtain ⟨oc,hoc,hocd⟩:=id z;refine h { s with heap:=h' } ⟨I.ok,I.os,I.bare,⟨fun b o e n hb hx=>?_,fun b o e n hb hx=>?_,I.base.free,fun b o e hx=>?_,I.base.tups,I.base.frzs,I.base.tbls⟩,⟨m,hn.sameBut hs (Ne.symm (cne x c hc)),fun j y v' e1 e2 e3=>?_⟩,fun y c' e=>?_,I.free,I.freeC,fun p hp=>?_,tracked ⟨oc,hoc,I.freeC x c hc⟩ hs,by simpa using I.len⟩ ⟨c,hs,.inr hc⟩
   · exact (hs.2 b (ne_of_lt (lt_of_lt_of_le (lt_size e) (I.ok.cab x c hfn hc)))).trans (I.base.keep b o e n hb hx)
   · obtain ⟨sl,e1⟩:=I.base.slot b o e n hb hx
     exact ⟨sl,(hs.2 b (ne_of_lt (lt_of_lt_of_le (lt_size e) (I.ok.cab x c hfn hc)))).trans e1⟩
   · obtain ⟨o',e1⟩:=I.base.there b o e hx
     exact ⟨o',(hs.2 b (ne_of_lt (lt_of_lt_of_le (lt_size e) (I.ok.cab x c hfn hc)))).trans e1⟩
   · by_cases hj:j=i
     · subst hj
       rw [hi] at e1;cases e1;rw [List.getElem?_set_self hiσ] at e2;cases e2;exact ⟨u,r,.inr ⟨.inl hk,c,hc,hc'⟩⟩
     · rw [List.getElem?_set_ne (Ne.symm hj)] at e2
       obtain ⟨u',r',q⟩:=hl j y v' e1 e2 e3;refine ⟨u',r',?_⟩;rcases q with q | ⟨k,c',e,z'⟩
       · exact .inl q
       · refine .inr ⟨k,c',e,z'.sameBut hs ?_⟩
         rintro rfl;exact hj (Ir hN e1 (I.ok.inj _ _ _ e hc▸hi))
   · by_cases hcc:c'=c
     · subst hcc;exact ⟨_,hc'⟩
     · obtain ⟨w2,z2⟩:=I.cell y c' e
       exact ⟨w2,z2.sameBut hs hcc⟩
   · obtain ⟨e,n,ne,nf,d⟩:=I.pin p hp
     refine ⟨(hs.2 p.1 ?_).trans e,n,ne,nf,d⟩;intro q;rw [q,hoc] at e;have q':oc=p.2:=Option.some.inj e;exact d w' (by rw [← q'];exact hocd)
theorem Dh {M:Model} {A:Around} {E:Value->Shared->Prop} {i:Nat} {x:Str} {v:V} {u:Value} {Q:Unit->Shared->Prop} (I:Inv X pins σ H s) (hN:X.N.Nodup) (hi:X.N[i]?=some x) (hx:Loc X.env.scope x) (r:Vf v u)
  (h:∀ s',Inv X pins (σ.set i (some v)) H s'->Q () s') (hf:X.fn x=true\/X.env.scope.names.lookup x=some .local:=by first | exact .inl rfl | exact .inr rfl | assumption):wpAny M A (storeName X.env x u) Q E s :=
 Kk I hN hi hx r (fun s' I' _=>h s' I') hf
theorem Inv.call' {s':Shared} {ch:List Addr} (I:Inv X pins σ H s) (ho:s'.os=s.os) (u:Un (frs X.stack) ch H H' s.heap s'.heap) (hok:HOk X.prog X.w H' s'.heap) (hg:AllBare s'.gens)
  (hch:∀ b∈ch,(b∈X.ex\/X.s₀.heap.objs.size<=b)/\b≠X.env.locals/\(∀ x c,X.env.cells.lookup x=some c->c≠b)/\∀ p∈X.pn++pins,p.1≠b):Inv X pins σ H' s':=by
 obtain ⟨h',g',d',t',o'⟩:=s';have e:o'=s.os:=ho;subst e;exact I.call (g':=g') (t':=t') (d':=d') u hok hg hch
end
abbrev XK:=Value->Option Addr->Hp->Prop
abbrev St:=List (Option V)
abbrev VK:=V->Hp->Prop
abbrev TE:=St->Hp->VK->Prop
abbrev TT:=St->Hp->(Bool->Hp->Prop)->Prop
abbrev TA:=St->Hp->(List V->Hp->Prop)->Prop
structure Ends where
 nx:St->Hp->Prop
 rt:VK
 bk:St->Hp->Prop:=fun _ _=>False
 ct:St->Hp->Prop:=fun _ _=>False
abbrev TS:=Ends->St->Hp->Prop
def EP (X:Cx) (pins:List (Addr×Obj)) (σ:St) (Q:VK) (u:Value) (s':Shared):Prop:=∃ v H',Inv X pins σ H' s'/\Vf v u/\Q v H'
def TP (X:Cx) (pins:List (Addr×Obj)) (σ:St) (Q:Bool->Hp->Prop) (b:Bool) (s':Shared):Prop:=∃ H',Inv X pins σ H' s'/\Q b H'
def AP (X:Cx) (pins:List (Addr×Obj)) (σ:St) (Q:List V->Hp->Prop) (us:List Value) (s':Shared):Prop:=∃ vs H',Inv X pins σ H' s'/\Wa vs us/\Q vs H'
def SP (X:Cx) (pins:List (Addr×Obj)) (D:Ends) (f:Flow) (s':Shared):Prop :=
 match f with
 | .next=>∃ σ' H',Inv X pins σ' H' s'/\D.nx σ' H'
 | .brk=>∃ σ' H',Inv X pins σ' H' s'/\D.bk σ' H'
 | .cont=>∃ σ' H',Inv X pins σ' H' s'/\D.ct σ' H'
 | .ret u=>∃ v σ' H',Inv X pins σ' H' s'/\Vf v u/\D.rt v H'
def PE (X:Cx) (e:Expr) (t:TE):Prop :=
 ∀ (pins:List (Addr×Obj)) (s:Shared) (σ:St) (H:Hp) (Q:VK),Inv X pins σ H s->t σ H Q->wpAny (model X.prog X.w) X.A (eval e X.env) (EP X pins σ Q) X.xe s
def PT (X:Cx) (e:Expr) (t:TT):Prop :=
 ∀ (pins:List (Addr×Obj)) (s:Shared) (σ:St) (H:Hp) (Q:Bool->Hp->Prop),Inv X pins σ H s->t σ H Q->wpAny (model X.prog X.w) X.A (isTrue e X.env (eval e X.env)) (TP X pins σ Q) X.xe s
def PW (X:Cx) (e:Expr) (t:TT):Prop :=
 ∀ (whole:Sem Value) (pins:List (Addr×Obj)) (s:Shared) (σ:St) (H:Hp) (Q:Bool->Hp->Prop),Inv X pins σ H s->t σ H Q->wpAny (model X.prog X.w) X.A (isTrue e X.env whole) (TP X pins σ Q) X.xe s
theorem PW.pt {X:Cx} {e:Expr} {t:TT} (h:PW X e t):PT X e t:=h _
def PA (X:Cx) (es:List Expr) (t:TA):Prop :=
 ∀ (pos:Pos) (pins:List (Addr×Obj)) (s:Shared) (σ:St) (H:Hp) (Q:List V->Hp->Prop),Inv X pins σ H s->t σ H Q->wpAny (model X.prog X.w) X.A (spliced (backTo pos (starEach es X.env))) (AP X pins σ Q) X.xe s
def PS (X:Cx) (st:Stmt) (t:TS):Prop :=
 ∀ (pins:List (Addr×Obj)) (s:Shared) (σ:St) (H:Hp) (D:Ends),Inv X pins σ H s->t D σ H->wpAny (model X.prog X.w) X.A (exec st X.env) (SP X pins D) X.xe s
def PSs (X:Cx) (st:List Stmt) (t:TS):Prop :=
 ∀ (pins:List (Addr×Obj)) (s:Shared) (σ:St) (H:Hp) (D:Ends),Inv X pins σ H s->t D σ H->wpAny (model X.prog X.w) X.A (execs st X.env) (SP X pins D) X.xe s
theorem thn {α:Type} {t:Sem α} {Q Q':α->Shared->Prop} {M:Model} {A:Around} {E:Value->Shared->Prop} {s:Shared} (h:wpAny M A t Q E s) (hQ:∀ a s,Q a s->Q' a s):wpAny M A t Q' E s:=wpAny_mono h hQ fun _ _ x=>x
section
variable {X:Cx}
def Z0z (i:Nat):TE:=fun σ H Q=>∃ v,σ[i]?=some (some v)/\Q v H
def tC (v:V):TE:=fun _ H Q=>Q v H
theorem Mw {i:Nat} {x:Str} {pos:Pos} (hN:X.N[i]?=some x) (hv:Vis X.env.scope x) (hd:(x==("__debug__" : Str))=false:=by decide) (hcd:(x==("__classdict__" : Str))=false:=by decide):PE X (.Name x pos) (Z0z i):=by
 intro pins s σ H Q I h;obtain ⟨v,e,h⟩:=h;obtain ⟨m,hn,hl⟩:=I.loc;obtain ⟨u,r,l⟩:=hl i x v hN e hv;have fin:EP X pins σ Q u s:=⟨v,H,I,r,h⟩;rcases l with ⟨hk,hm⟩ | ⟨hk,c,hc,hcell⟩
 ·exact wpAny_Name (wpAny_loadName_local I.ok.kind hk hn hm fin) hd
 ·rcases hk with hk | hk
  ·exact wpAny_Name (wpAny_loadName_cell I.ok.kind hk hc hcell fin) hd
  ·exact wpAny_Name (wpAny_loadName_free I.ok.kind hk hc hcell fin hcd) hd
theorem Z9s {i j pos}:PE X (.Constant (.int i) j pos) (tC (.int i)):=fun _ _ _ H _ I h=>wpAny_Constant_int ⟨.int i,H,I.tok _,⟨_,rfl⟩,h⟩
theorem Zbt {b j pos}:PE X (.Constant (.bool b) j pos) (tC (.bl b)):=fun _ _ _ H _ I h=>Constant_bool ⟨.bl b,H,I,rfl,h⟩
theorem Z8g {j pos}:PE X (.Constant .none j pos) (tC .non):=fun _ _ _ H _ I h=>Constant_none ⟨.non,H,I,rfl,h⟩
theorem Z7q {x j pos}:PE X (.Constant (.str x) j pos) (tC (.str x)):=fun _ _ _ H _ I h=>Calls.Constant_str ⟨.str x,H,I.tok _,⟨_,rfl⟩,h⟩
def Gl (X:Cx) (x:Str):Prop:=X.env.kindOf x=some .globalImplicit
theorem Sh {E:Value->Shared->Prop} {pins:List (Addr×Obj)} {s:Shared} {σ:St} {H:Hp} {x:Str} {u:Value} {pos:Pos} {Q:Value->Shared->Prop} (I:Inv X pins σ H s) (hg:Gl X x) (hm:X.mg x=some u) (h:Q u s)
  (hd:(x==("__debug__" : Str))=false:=by decide):wpAny (model X.prog X.w) X.A (eval (.Name x pos) X.env) Q E s :=
 Calls.Name_function_global I.ok.kind hg (Calls.loadGlobal_global (by rw [I.ok.glob];exact I.mod.glob.keeps I.bk) hm h) hd
theorem Ri {E:Value->Shared->Prop} {pins:List (Addr×Obj)} {s:Shared} {σ:St} {H:Hp} {x:Str} {u:Value} {pos:Pos} {Q:Value->Shared->Prop} (I:Inv X pins σ H s) (hg:Gl X x) (hm:X.mg x=none) (hv:bootBuiltins x=some u) (h:Q u s)
  (hn:x≠"__name__" := by decide) (hd:(x==("__debug__" : Str))=false:=by decide):wpAny (model X.prog X.w) X.A (eval (.Name x pos) X.env) Q E s:=by
 obtain ⟨mb,h1,h2⟩:=I.mod.blt;exact Calls.Name_function_global I.ok.kind hg (Calls.loadGlobal_builtin (by rw [I.ok.glob];exact I.mod.glob.keeps I.bk) hm (by rw [I.ok.blt];exact h1.keeps I.bk) ((h2 x hn).trans hv) h) hd
theorem Z5b {x:Str} {v:V} {u:Value} {pos:Pos} (hg:Gl X x) (hm:X.mg x=none) (hv:bootBuiltins x=some u) (r:Vf v u) (hn:x≠"__name__" := by decide) (hd:(x==("__debug__" : Str))=false:=by decide):PE X (.Name x pos) (tC v) :=
 fun _ _ _ H _ I h=>Ri I hg hm hv ⟨v,H,I,r,h⟩ hn hd
variable {a b:Expr} {ta tb:TE} {pos:Pos}
def PC (X:Cx) (op:CmpOp) (a b:Expr) (t:TE):Prop :=
 ∀ (pins:List (Addr×Obj)) (s:Shared) (σ:St) (H:Hp) (Q:VK),Inv X pins σ H s->t σ H Q ->
  wpAny (model X.prog X.w) X.A (eval a X.env) (fun v s₁=>wpAny (model X.prog X.w) X.A (eval b X.env) (fun u s₂=>wpAny (model X.prog X.w) X.A (compareOp op v u) (EP X pins σ Q) X.xe s₂) X.xe s₁) X.xe s
def tB (t:TE):TT:=fun σ H Q=>t σ H fun x H1=>∃ c,x=.bl c/\Q c H1
theorem Z6z {op:CmpOp} {t:TE} (h:PC X op a b t) (h1:behindInMarks op b=false:=by first | exact nobehind _ (by decide) (by decide) | rfl):PT X (.Compare a [op] [b] pos) (tB t):=by
 intro pins s σ H Q I hw;refine wpAny_isTrue_Compare1 (thn (h pins s σ H _ I hw) fun v s1 h1=>thn h1 fun u s2 h2=>thn h2 fun c s3 ⟨x,H1,I1,r1,q1⟩=>?_) h1;obtain ⟨d,rfl,q⟩:=q1;cases r1;exact wpAny_truthy_bool ⟨H1,I1,q⟩
variable {tA tB':TT} {rest:List Expr}
def Zdh (t u:TT):TT:=fun σ H Q=>t σ H fun c H1=>if c=true then u σ H1 Q else Q false H1
def tOr (t u:TT):TT:=fun σ H Q=>t σ H fun c H1=>if c=true then Q true H1 else u σ H1 Q
def Zd6 (t:TT):TT:=fun σ H Q=>t σ H fun c H1=>Q (!c) H1
theorem Z4r (ha:PT X a tA):PW X (.BoolOp .And [a] pos) tA:=by
 intro wh pins s σ H Q I h;refine isTrue_and (thn (ha pins s σ H Q I h) fun c s1 e=>?_);cases c with
 | true=>exact isTrue_and_nil e
 | false=>exact e
theorem Z7z (ha:PT X a tA):PW X (.BoolOp .Or [a] pos) tA:=by
 intro wh pins s σ H Q I h;refine isTrue_or (thn (ha pins s σ H Q I h) fun c s1 e=>?_);cases c with
 | false=>exact isTrue_or_nil e
 | true=>exact e
theorem Z7w (ha:PT X a tA) (hb:PW X (.BoolOp .And (b::rest) pos) tB'):PW X (.BoolOp .And (a::b::rest) pos) (Zdh tA tB'):=by
 intro wh pins s σ H Q I h;refine isTrue_and (thn (ha pins s σ H _ I h) fun c s1 ⟨H1,I1,q1⟩=>?_);cases c with
 | true=>exact hb wh pins s1 σ H1 Q I1 q1
 | false=>exact ⟨H1,I1,q1⟩
theorem Zav (ha:PT X a tA) (hb:PW X (.BoolOp .Or (b::rest) pos) tB'):PW X (.BoolOp .Or (a::b::rest) pos) (tOr tA tB'):=by
 intro wh pins s σ H Q I h;refine isTrue_or (thn (ha pins s σ H _ I h) fun c s1 ⟨H1,I1,q1⟩=>?_);cases c with
 | true=>exact ⟨H1,I1,q1⟩
 | false=>exact hb wh pins s1 σ H1 Q I1 q1
theorem Za0 (ha:PT X a tA):PT X (.UnaryOp .Not a pos) (Zd6 tA):=by
 intro pins s σ H Q I h;exact isTrue_not (ha pins s σ H (fun c H1=>Q (!c) H1) I h)
def Zbe (ta tb:TE):TE:=fun σ H Q=>ta σ H fun x H1=>∃ c,x=.bl c/\if c=true then tb σ H1 Q else Q (.bl false) H1
def Ze4 (ta tb:TE):TE:=fun σ H Q=>ta σ H fun x H1=>∃ c,x=.bl c/\if c=true then Q (.bl true) H1 else tb σ H1 Q
theorem Z9z {op} {t:TE} (h:PE X a t):PE X (.BoolOp op [a] pos) t:=fun pins s σ H Q I hw=>BoolOp_one (h pins s σ H Q I hw)
theorem Z9c (ha:PE X a ta) (hb:PE X (.BoolOp .And (b::rest) pos) tb):PE X (.BoolOp .And (a::b::rest) pos) (Zbe ta tb):=by
 intro pins s σ H Q I h;refine BoolOp_and (thn (ha pins s σ H _ I h) fun v s1 ⟨x,H1,I1,r1,q1⟩=>?_);obtain ⟨c,rfl,q1⟩:=q1;cases r1;refine wpAny_truthy_bool ?_;cases c with
 | true=>exact hb pins s1 σ H1 Q I1 q1
 | false=>exact ⟨.bl false,H1,I1,rfl,q1⟩
theorem Zc6 (ha:PE X a ta) (hb:PE X (.BoolOp .Or (b::rest) pos) tb):PE X (.BoolOp .Or (a::b::rest) pos) (Ze4 ta tb):=by
 intro pins s σ H Q I h;refine BoolOp_or (thn (ha pins s σ H _ I h) fun v s1 ⟨x,H1,I1,r1,q1⟩=>?_);obtain ⟨c,rfl,q1⟩:=q1;cases r1;refine wpAny_truthy_bool ?_;cases c with
 | false=>exact hb pins s1 σ H1 Q I1 q1
 | true=>exact ⟨.bl true,H1,I1,rfl,q1⟩
end
def SqL (K:PySem.W.Frag) (H:Hp) (a:Addr) (xs:List V):Prop :=
 Rd H a (.lst xs) \/
  ∃ (o:Obj) (its:Array Value) (n:Nat),K.lookup a=some o/\o.cls=.type "list" /\ o.dict=none/\o.data=.seq its n/\its.size<=sizeLine/\Wa xs its.toList
def SqT (K:PySem.W.Frag) (H:Hp) (a:Addr) (xs:List V):Prop :=
 H a=some (.tup xs) \/
  ∃ (o:Obj) (its:Array Value) (n:Nat),K.lookup a=some o/\o.cls=.type "tuple" /\ o.data=.seq its n/\its.size<=sizeLine/\Wa xs its.toList/\∀ i:Int,V.int i∉xs
def Ze0:Value->Option V
 | .none=>some .non
 | .bool b=>some (.bl b)
 | .int i _=>some (.int i)
 | .str x _=>some (.str x)
 | .bytes b _=>some (.byt b)
 | .float b _=>some (.flt b)
 | .ref a=>some (.ref a)
 | .type n=>some (.ty n)
 | _=>none
theorem Vf.abs {x:V} {u:Value} (r:Vf x u):Ze0 u=some x:=by
 cases x with
 | non=>cases r;rfl
 | bl _=>cases r;rfl
 | int _=>obtain ⟨t,rfl⟩:=r;rfl
 | str _=>obtain ⟨t,rfl⟩:=r;rfl
 | byt _=>obtain ⟨t,rfl⟩:=r;rfl
 | flt _=>obtain ⟨t,rfl⟩:=r;rfl
 | ref _=>cases r;rfl
 | ty _=>cases r;rfl
theorem Vf.inj {x y:V} {u:Value} (r:Vf x u) (q:Vf y u):x=y:=Option.some.inj (r.abs.symm.trans q.abs)
theorem Wa.inj:∀ {xs ys:List V} {us:List Value},Wa xs us->Wa ys us->xs=ys
 | _,_,_,.nil,.nil=>rfl
 | _,_,_,.cons r t,.cons r' t'=>by rw [r.inj r',Wa.inj t t']
section
variable {X:Cx} {pins:List (Addr×Obj)} {σ:St} {H:Hp} {s:Shared} {a:Addr} {xs ys:List V}
theorem SqL.of {K:PySem.W.Frag} (h:H a=some (.lst xs)):SqL K H a xs:=.inl (.inl h)
theorem Inv.list (I:Inv X pins σ H s) (h:SqL X.K H a xs):∃ its:List Value,Wa xs its/\PlainL s.heap a its.toArray/\xs.length<=sizeLine:=by
 rcases h with h | ⟨o,its,n,hk,hc,hd,hs,hz,r⟩
 ·obtain ⟨z,its,n,r,e⟩:=h.ok I.hok
  exact ⟨its,r,⟨_,n,e,rfl,rfl,rfl⟩,z⟩
 ·refine ⟨its.toList,r,⟨o,n,I.kIn a o hk,hc,hd,by simpa using hs⟩,?_⟩
  have e:=r.length;simp only [Array.length_toList] at e;lia
theorem Inv.tuple (I:Inv X pins σ H s) (h:SqT X.K H a xs):∃ its:List Value,Wa xs its/\IsTup s.heap a its.toArray/\xs.length<=sizeLine:=by
 rcases h with h | ⟨o,its,n,hk,hc,hs,hz,r,_⟩
 ·obtain ⟨z,its,r,p⟩:=(Rd.of h).ok I.hok
  exact ⟨its,r,p,z⟩
 ·refine ⟨its.toList,r,⟨o,I.kIn a o hk,hc,n,by simpa using hs⟩,?_⟩
  have e:=r.length;simp only [Array.length_toList] at e;lia
theorem Inv.list_inj (I:Inv X pins σ H s) (h:SqL X.K H a xs) (h':SqL X.K H a ys):xs=ys:=by
 obtain ⟨its,r,⟨o,n,e,_,_,d⟩,_⟩:=I.list h;obtain ⟨its',r',⟨o',n',e',_,_,d'⟩,_⟩:=I.list h';rw [e] at e';cases e';rw [d] at d';injection d' with d1 _
 have:its=its':=by simpa using congrArg Array.toList d1
 subst this;exact r.inj r'
theorem Inv.tuple_inj (I:Inv X pins σ H s) (h:SqT X.K H a xs) (h':SqT X.K H a ys):xs=ys:=by
 obtain ⟨its,r,⟨o,e,_,n,d⟩,_⟩:=I.tuple h;obtain ⟨its',r',⟨o',e',_,n',d'⟩,_⟩:=I.tuple h';rw [e] at e';cases e';rw [d] at d';injection d' with d1 _
 have:its=its':=by simpa using congrArg Array.toList d1
 subst this;exact r.inj r'
end
abbrev Cx.wish (X:Cx) (E:Value->Shared->Prop):Cx:={ X with xe:=E }
abbrev Cx.nox (X:Cx):Cx:=X.wish fun _ _=>False
theorem Cx.Ok.wish {X:Cx} (ok:X.Ok) (E:Value->Shared->Prop):(X.wish E).Ok :=
 ⟨ok.mod,ok.kind,ok.glob,ok.blt,ok.above,ok.inj,ok.has,ok.cab,ok.hd,ok.frames,ok.stk,ok.exf,ok.bs,ok.bsz,ok.noex,ok.exfs,ok.funs,ok.frf⟩
theorem Cx.Ok.unwish {X:Cx} {E:Value->Shared->Prop} (ok:(X.wish E).Ok):X.Ok :=
 ⟨ok.mod,ok.kind,ok.glob,ok.blt,ok.above,ok.inj,ok.has,ok.cab,ok.hd,ok.frames,ok.stk,ok.exf,ok.bs,ok.bsz,ok.noex,ok.exfs,ok.funs,ok.frf⟩
section
variable {X:Cx} {pins:List (Addr×Obj)} {σ:St} {H:Hp} {s:Shared} {E:Value->Shared->Prop}
theorem Inv.wish (I:Inv X pins σ H s) (E:Value->Shared->Prop):Inv (X.wish E) pins σ H s:=⟨I.ok.wish E,I.os,I.bare,I.base,I.loc,I.cell,I.free,I.freeC,I.pin,I.hok,I.len⟩
theorem Inv.unwish (I:Inv (X.wish E) pins σ H s):Inv X pins σ H s:=⟨I.ok.unwish,I.os,I.bare,I.base,I.loc,I.cell,I.free,I.freeC,I.pin,I.hok,I.len⟩
theorem SP.unwish {D:Ends} {f:Flow} {s':Shared} (h:SP (X.wish E) pins D f s'):SP X pins D f s':=by
 cases f with
 | next=>obtain ⟨σ',H',I,q⟩:=h;exact ⟨σ',H',I.unwish,q⟩
 | brk=>obtain ⟨σ',H',I,q⟩:=h;exact ⟨σ',H',I.unwish,q⟩
 | cont=>obtain ⟨σ',H',I,q⟩:=h;exact ⟨σ',H',I.unwish,q⟩
 | ret u=>obtain ⟨v,σ',H',I,r,q⟩:=h;exact ⟨v,σ',H',I.unwish,r,q⟩
theorem PSs.nox {st:List Stmt} {t:TS} (h:PSs X.nox st t):PSs X st t:=fun pins s σ H D I hw =>
 wpAny_mono (h pins s σ H D (I.wish _) hw) (fun _ _ q=>q.unwish) fun _ _ z=>False.elim z
end
section
variable {X:Cx} {st:Stmt} {rest:List Stmt} {t u:TS} {e:Expr} {te:TE} {pos:Pos}
def Zby:TS:=fun D σ H=>D.nx σ H
def Z9v (t u:TS):TS:=fun D σ H=>t { D with nx:=u D } σ H
theorem Z5s:PSs X [] Zby:=fun _ _ σ H _ I h=>wpAny_execs_nil ⟨σ,H,I,h⟩
theorem Dm (h1:PS X st t) (h2:PSs X rest u):PSs X (st::rest) (Z9v t u):=by
 intro pins s σ H D I h;refine wpAny_execs_cons (thn (h1 pins s σ H { D with nx:=u D } I h) fun f s1 q=>?_);cases f with
 | next =>
  obtain ⟨σ',H',I',q⟩:=q;exact h2 pins s1 σ' H' D I' q
 | ret v=>exact q
 | brk=>exact q
 | cont=>exact q
theorem Ax (h1:PS X st t):PSs X [st] t:=by
 intro pins s σ H D I h;refine wpAny_execs_cons (thn (h1 pins s σ H D I h) fun f s1 q=>?_);cases f with
 | next=>exact wpAny_execs_nil q
 | ret v=>exact q
 | brk=>exact q
 | cont=>exact q
def Zaq:TS:=fun D σ H=>D.ct σ H
theorem Nj:PS X (.Continue pos) Zaq:=fun _ _ σ H _ I h=>wpAny_Continue ⟨σ,H,I,h⟩
theorem Inv.quiet {pins:List (Addr×Obj)} {σ:St} {H:Hp} {s:Shared} (I:Inv X pins σ H s):interactive X.env=false:=by simp [interactive,I.ok.kind]
def Z95 (te:TE):TS:=fun D σ H=>te σ H fun _ H1=>D.nx σ H1
theorem O5 (he:PE X e te) (hs:swapsWith e none pos.line X.env=pure false:=by rfl):PS X (.Expr e pos) (Z95 te):=by
 intro pins s σ H D I h;exact wpAny_Expr_any (thn (he pins s σ H _ I h) fun v s1 ⟨x,H1,I1,r1,q1⟩=>⟨σ,H1,I1,q1⟩) I.quiet hs
def Zdo (te:TE):TS:=fun D σ H=>te σ H D.rt
theorem Cz (he:PE X e te):PS X (.Return (some e) pos) (Zdo te):=by
 intro pins s σ H D I h;exact wpAny_Return_some (thn (he pins s σ H _ I h) fun v s1 ⟨x,H1,I1,r1,q1⟩=>⟨x,σ,H1,I1,r1,q1⟩)
def Ze3 (c:TT) (t u:TS):TS:=fun D σ H=>c σ H fun b H1=>if b=true then t D σ H1 else u D σ H1
theorem Zbu {c:Expr} {a b:List Stmt} {tc:TT} (hc:PT X c tc) (ha:PSs X a t) (hb:PSs X b u):PS X (.If c a b pos) (Ze3 tc t u):=by
 intro pins s σ H D I h;refine wpAny_If (thn (hc pins s σ H _ I h) fun d s1 ⟨H1,I1,q1⟩=>?_);cases d with
 | true=>exact ha pins s1 σ H1 D I1 q1
 | false=>exact hb pins s1 σ H1 D I1 q1
end
abbrev TG:=V->St->Hp->(St->Hp->Prop)->Prop
abbrev TGs:=List V->St->Hp->(St->Hp->Prop)->Prop
def PG (X:Cx) (target:Expr) (t:TG):Prop :=
 ∀ (pins:List (Addr×Obj)) (s:Shared) (σ:St) (H:Hp) (v:V) (u:Value) (Q:St->Hp->Prop),Inv X pins σ H s->Vf v u->t v σ H Q ->
  wpAny (model X.prog X.w) X.A (assign target X.env u) (fun _ s'=>∃ σ' H',Inv X pins σ' H' s'/\Q σ' H') X.xe s
def PGs (X:Cx) (ts:List Expr) (t:TGs):Prop :=
 ∀ (pins:List (Addr×Obj)) (s:Shared) (σ:St) (H:Hp) (vs:List V) (us:List Value) (Q:St->Hp->Prop),Inv X pins σ H s->Wa vs us->t vs σ H Q ->
  wpAny (model X.prog X.w) X.A (assignInOrder ((assignEach ts X.env).map (·.2)) us) (fun _ s'=>∃ σ' H',Inv X pins σ' H' s'/\Q σ' H') X.xe s
abbrev Zb7:=V->V->V->Hp->(Hp->Prop)->Prop
def Zcc (X:Cx) (t:Zb7):Prop :=
 ∀ (pins:List (Addr×Obj)) (s:Shared) (σ:St) (H:Hp) (o i v:V) (ov iv u:Value) (Q:Hp->Prop),Inv X pins σ H s->Vf o ov->Vf i iv->Vf v u->t o i v H Q ->
  wpAny (model X.prog X.w) X.A (setItem ov iv u) (fun _ s'=>∃ H',Inv X pins σ H' s'/\Q H') X.xe s
abbrev TIp:=V->V->Hp->VK->Prop
def PIp (X:Cx) (op:Operator) (t:TIp):Prop :=
 ∀ (pins:List (Addr×Obj)) (s:Shared) (σ:St) (H:Hp) (x y:V) (v u:Value) (Q:VK),Inv X pins σ H s->Vf x v->Vf y u->t x y H Q ->
  wpAny (model X.prog X.w) X.A (inplaceOp op v u) (EP X pins σ Q) X.xe s
section
variable {X:Cx} {pos:Pos}
def Z1x (i:Nat):TG:=fun v σ H Q=>Q (σ.set i (some v)) H
theorem Z45 {i:Nat} {x:Str} (hN:X.N.Nodup) (hi:X.N[i]?=some x) (hx:Loc X.env.scope x) (hf:X.fn x=true\/X.env.scope.names.lookup x=some .local:=by first | exact .inl rfl | exact .inr rfl | assumption):PG X (.Name x pos) (Z1x i):=by
 intro pins s σ H v u Q I r h;exact wpAny_assign_Name (Dh I hN hi hx r (fun s' I'=>⟨_,H,I',h⟩) hf)
def Zdw:TGs:=fun vs σ H Q=>vs=[]/\Q σ H
def Zbp (t:TG) (u:TGs):TGs:=fun vs σ H Q=>∃ v r,vs=v::r/\t v σ H fun σ' H'=>u r σ' H' Q
theorem Z4k:PGs X [] Zdw:=by
 intro pins s σ H vs us Q I r h;obtain ⟨e,h⟩:=h;subst e;cases r;exact assignInOrder_nil ⟨σ,H,I,h⟩
theorem Z18 {e:Expr} {es:List Expr} {t:TG} {u:TGs} (h1:PG X e t) (h2:PGs X es u)
  (hs:(assignEach (e::es) X.env).map (·.2)=assign e X.env::(assignEach es X.env).map (·.2):=by rfl):PGs X (e::es) (Zbp t u):=by
 intro pins s σ H vs us Q I r h;obtain ⟨v,vr,e1,h⟩:=h;subst e1;cases r with
 | cons r rr =>
  rw [hs];refine assignInOrder_cons (thn (h1 pins s σ H _ _ _ I r h) fun _ s1 ⟨σ1,H1,I1,q1⟩=>?_);exact h2 pins s1 σ1 H1 _ _ Q I1 rr q1
def Zcd (K:PySem.W.Frag) (n:Nat) (t:TGs):TG:=fun v σ H Q=>∃ a xs,v=.ref a/\SqT K H a xs/\xs.length=n/\t xs σ H Q
theorem Z9h {es:List Expr} {k:Nat} {t:TGs} {n:Nat} (hc:X.calm=true) (h:PGs X es t)
  (hn:(assignEach es X.env).length=n:=by rfl) (hst:(assignEach es X.env).findIdx? (·.1)=none:=by rfl):PG X (.Tuple es k pos) (Zcd X.K n t):=by
 intro pins s σ H v u Q I r hw;obtain ⟨a,xs,e1,hq,hl,hw⟩:=hw;subst e1;cases r;obtain ⟨its,rv,ht,hz⟩:=I.tuple hq;refine assign_Tuple_tuple (I.ok.hd hc) ht (by simp [hn,← hl,rv.length]) hst fun h' hx=>?_
 have I1:Inv X pins σ H { s with heap:=h' }:=I.kept (t':=s.toks) fun b o e=>hx b o (ne_of_lt (lt_size e)) e
 exact h pins _ σ H xs _ Q I1 (by simpa using rv) hw
def Ze2 (to ti:TE) (t:Zb7):TG:=fun v σ H Q=>to σ H fun o H1=>ti σ H1 fun i H2=>t o i v H2 fun H3=>Q σ H3
theorem Z9i {o i:Expr} {to ti:TE} {t:Zb7} (ho:PE X o to) (hi:PE X i ti) (hs:Zcc X t)
  (ha:∀ v,assign (.Subscript o i pos) X.env v=(do
   let ov ← holding [v] (eval o X.env)
   let iv ← holding [v,ov] (eval i X.env)
   standAt pos
   holding [v,ov,iv] (setItem ov iv v)
   release [v,ov,iv] []):=by intro _;rfl):PG X (.Subscript o i pos) (Ze2 to ti t):=by
 intro pins s σ H v u Q I r h;rw [ha];refine wpAny_bind (wpAny_holding (thn (ho pins s σ H _ I h) fun ov s1 ⟨x,H1,I1,r1,q1⟩=>?_));refine wpAny_bind (wpAny_holding (thn (hi pins s1 σ H1 _ I1 q1) fun iv s2 ⟨y,H2,I2,r2,q2⟩=>?_));refine wpAny_bind (wpAny_standAt (wpAny_bind (wpAny_holding (thn (hs pins s2 σ H2 x y v ov iv u _ I2 r1 r2 r q2) fun _ s3 ⟨H3,I3,q3⟩=>?_))));exact wpAny_release ⟨σ,H3,I3,q3⟩
def Zaz (te:TE) (g:TG):TS:=fun D σ H=>te σ H fun x H1=>g x σ H1 D.nx
theorem Z3d {tg e:Expr} {te:TE} {g:TG} (he:PE X e te) (hg:PG X tg g) (hs:swapsWithSole [tg] e pos.line X.env=pure false:=by rfl) (hw:swappedStores [tg] e X.env=pure none:=by rfl)
  (h1:(assignEach [tg] X.env).map (·.2)=[assign tg X.env]:=by rfl):PS X (.Assign [tg] e pos) (Zaz te g):=by
 intro pins s σ H D I h;refine wpAny_Assign_stores (thn (he pins s σ H _ I h) fun v s1 ⟨x,H1,I1,r1,q1⟩=>?_) hs hw;rw [h1];exact thn (hg pins s1 σ H1 x v _ I1 r1 q1) fun _ s2 q=>q
theorem X0 {i:Nat} {x:Str} {e:Expr} {te:TE} {pos':Pos} (hN:X.N.Nodup) (hi:X.N[i]?=some x) (hx:Loc X.env.scope x) (he:PE X e te) (hs:swapsWith e (some (.Name x pos')) pos.line X.env=pure false:=by rfl) (hf:X.fn x=true\/X.env.scope.names.lookup x=some .local:=by first | exact .inl rfl | exact .inr rfl | assumption) :
  PS X (.Assign [.Name x pos'] e pos) (Zaz te (Z1x i)):=by
 intro pins s σ H D I h;refine wpAny_Assign_Name (thn (he pins s σ H _ I h) fun v s1 ⟨y,H1,I1,r1,q1⟩=>?_) hs;exact Dh I1 hN hi hx r1 (fun s2 I2=>⟨_,H1,I2,q1⟩) hf
def Zd7 (i:Nat) (te:TE) (ti:TIp):TS:=fun D σ H=>∃ x,σ[i]?=some (some x)/\te σ H fun y H1=>ti x y H1 fun z H2=>D.nx (σ.set i (some z)) H2
theorem Z9k {i:Nat} {x:Str} {e:Expr} {te:TE} {op:Operator} {ti:TIp} {pos':Pos} (hN:X.N.Nodup) (hi:X.N[i]?=some x) (hx:Loc X.env.scope x) (he:PE X e te) (ho:PIp X op ti) (hf:X.fn x=true\/X.env.scope.names.lookup x=some .local:=by first | exact .inl rfl | exact .inr rfl | assumption) :
  PS X (.AugAssign (.Name x pos') op e pos) (Zd7 i te ti):=by
 intro pins s σ H D I h;obtain ⟨v,e1,h⟩:=h;obtain ⟨m,hn,hl⟩:=I.loc;have vis:Vis X.env.scope x:=by rcases hx with k | k;exact .inl k;exact .inr (.inl k)
 obtain ⟨u,r,l⟩:=hl i x v hi e1 vis;refine wpAny_AugAssign_Name ?_;have go:wpAny (model X.prog X.w) X.A (eval e X.env) (fun w s₂=>wpAny (model X.prog X.w) X.A (inplaceOp op u w) (fun r s₃=>wpAny (model X.prog X.w) X.A (storeName X.env x r) (fun _=>SP X pins D .next) X.xe s₃) X.xe s₂) X.xe s:=by
  refine thn (he pins s σ H _ I h) fun w s1 ⟨y,H1,I1,r1,q1⟩=>?_
  refine thn (ho pins s1 σ H1 v y u w _ I1 r r1 q1) fun z s2 ⟨zv,H2,I2,r2,q2⟩=>?_
  exact Dh I2 hN hi hx r2 (fun s3 I3=>⟨_,H2,I3,q2⟩) hf
 rcases l with ⟨hk,hm⟩ | ⟨hk,c,hc,hcell⟩
 ·exact wpAny_loadName_local I.ok.kind hk hn hm go
 ·rcases hk with hk | hk
  ·exact wpAny_loadName_cell I.ok.kind hk hc hcell go
  ·rcases hx with k | k
   ·have:X.env.scope.names.lookup x=some .free:=hk
    rw [k] at this;cases this
   ·have:X.env.scope.names.lookup x=some .free:=hk
    rw [k] at this;cases this
def ipI (f:Int->Int->Int):TIp:=fun x y H Q=>∃ i j,x=.int i/\y=.int j/\Q (.int (f i j)) H
theorem Z9d:PIp X .Add (ipI fun i j=>i+j):=by
 intro pins s σ H x y v u Q I r1 r2 h;obtain ⟨i,j,e1,e2,q⟩:=h;subst e1;subst e2;obtain ⟨t,rfl⟩:=r1;obtain ⟨t',rfl⟩:=r2;exact iadd_int ⟨.int _,H,I.tok _,⟨_,rfl⟩,q⟩
def Z97 (c:TT) (tb:TS):TS:=fun D σ H=>∃ W:Nat->St->Hp->Prop,(∃ m,W m σ H)/\∀ m σ H,W m σ H ->
 c σ H fun b H1=>if b=true then ∃ N:St->Hp->Prop,(∀ σ' H',N σ' H'->∃ m',m'<m/\W m' σ' H')/\tb { D with nx:=N,ct:=N,bk:=D.nx } σ H1 else D.nx σ H1
theorem Z1e {c:Expr} {body:List Stmt} {tc:TT} {tb:TS} (hp:PassesOwn (model X.prog X.w) X.A X.env X.xe) (hc:PT X c tc) (hb:PSs X body tb):PS X (.While c body [] pos) (Z97 tc tb):=by
 intro pins s σ H D I h;obtain ⟨W,⟨m0,w0⟩,turn⟩:=h;refine wpAny_While (codeAny_whileLoop (fun n s'=>∃ σ' H',Inv X pins σ' H' s'/\W n σ' H') ?_ m0 ⟨σ,H,I,w0⟩);rintro n s1 ⟨σ1,H1,I1,w1⟩;refine wpAny_passesOwn hp (thn (hc pins s1 σ1 H1 _ I1 (turn n σ1 H1 w1)) fun b s2 ⟨H2,I2,q2⟩=>?_);cases b with
 | true =>
  obtain ⟨N,hN,q2⟩:=q2;rw [if_pos rfl];refine wpAny_passesOwn hp (thn (hb pins s2 σ1 H2 _ I2 q2) fun f s3 q3=>?_);cases f with
  | next =>
   obtain ⟨σ3,H3,I3,n3⟩:=q3;obtain ⟨m',hm,w3⟩:=hN σ3 H3 n3;exact ⟨m',hm,σ3,H3,I3,w3⟩
  | cont =>
   obtain ⟨σ3,H3,I3,n3⟩:=q3;obtain ⟨m',hm,w3⟩:=hN σ3 H3 n3;exact ⟨m',hm,σ3,H3,I3,w3⟩
  | brk=>exact q3
  | ret v=>exact q3
 | false =>
  rw [if_neg Bool.false_ne_true];exact wpAny_execs_nil ⟨σ1,H2,I2,q2⟩
end
structure It where
 go:Nat->Hp->Prop
 yld:Nat->Hp->V->Hp->Prop
 stop:Nat->Hp->Prop
def O6 (X:Cx) (pins:List (Addr×Obj)) (H:Hp) (b:Addr):Prop :=
 H b=none/\b≠X.env.locals/\b∉X.fs/\(b∈X.ex\/X.s₀.heap.objs.size<=b)/\(∀ x c,X.env.cells.lookup x=some c->c≠b)/\∀ p∈X.pn++pins,p.1≠b
theorem Inv.fpOk {X:Cx} {pins:List (Addr×Obj)} {σ:St} {H H':Hp} {s:Shared} {b:Addr} (I:Inv X pins σ H s) (hb:s.heap.objs.size<=b) (hn:H' b=none):O6 X pins H' b:=by
 refine ⟨hn,Nat.ne_of_gt (lt_of_lt_of_le I.lt hb),I.nofs hb,.inr (le_trans I.sz hb),fun x c e z=>?_,fun p hp z=>?_⟩
 ·obtain ⟨v,q⟩:=I.cell x c e
  exact absurd (lt_of_lt_of_le q.lt (by rw [z];exact hb)) (lt_irrefl _)
 ·exact absurd (lt_of_lt_of_le (lt_size (I.pin p hp).1) (by rw [z];exact hb)) (lt_irrefl _)
structure Turn (P:Program) (w:World) (K:PySem.W.Frag) (tg:Expr) (J:It) (fp:List Addr) (it:Addr) (tn:Nat->Heap->Prop):Prop where
 mem:it∈fp
 obj:∀ i h,tn i h->∀ b∈fp,∃ o,h.get? b=some o/\∀ v,o.data≠.cell v
 keep:∀ i h h',tn i h->(∀ b∈fp,∀ o,h.get? b=some o->h'.get? b=some o)->tn i h'
 item:∀ (X:Cx),X.prog=P->X.w=w->X.K=K->X.calm=true->∀ (i:Nat) (pins:List (Addr×Obj)) (s:Shared) (σ:St) (H:Hp) (E:Value->Shared->Prop),Inv X pins σ H s->(∀ b∈fp,O6 X pins H b)->tn i s.heap->J.go i H ->
  wpAny (model P w) X.A (pyNext (.ref it)) (fun r s1=>∃ u,r=some u /\
   wpAny (model P w) X.A (letOwnedTupleGo tg (.ref it) u) (fun _ s2=>∃ x H',Inv X pins σ H' s2/\Vf x u/\J.yld i H x H'/\tn (i+1) s2.heap/\∀ b∈fp,H' b=none) E s1) E s
 done:∀ (X:Cx),X.prog=P->X.w=w->X.K=K->X.calm=true->∀ (i:Nat) (pins:List (Addr×Obj)) (s:Shared) (σ:St) (H:Hp) (E:Value->Shared->Prop),Inv X pins σ H s->(∀ b∈fp,O6 X pins H b)->tn i s.heap->J.stop i H ->
  wpAny (model P w) X.A (pyNext (.ref it)) (fun r s1=>r=none/\Inv X pins σ H s1) E s
 self:∀ (A:Around) (i:Nat) (s:Shared) (Q:Value->Shared->Prop) (E:Value->Shared->Prop),tn i s.heap->Q (.ref it) s->wpAny (model P w) A (pyIter (.ref it)) Q E s
abbrev TI:=St->Hp->(It->Hp->Prop)->Prop
def PIE (X:Cx) (pins:List (Addr×Obj)) (σ:St) (tg:Expr) (R:It->Hp->Prop) (itv:Value) (s2:Shared):Prop :=
 ∃ (it:Addr) (fp:List Addr) (tn:Nat->Heap->Prop) (J:It) (H':Hp),itv=.ref it/\Inv X pins σ H' s2/\Turn X.prog X.w X.K tg J fp it tn/\tn 0 s2.heap/\(∀ b∈fp,O6 X pins H' b)/\R J H'
def PI (X:Cx) (tg iter:Expr) (wi:TI):Prop :=
 ∀ (pins:List (Addr×Obj)) (s:Shared) (σ:St) (H:Hp) (R:It->Hp->Prop),Inv X pins σ H s->wi σ H R ->
  wpAny (model X.prog X.w) X.A (eval iter X.env) (fun v s1=>wpAny (model X.prog X.w) X.A (pyIter v) (PIE X pins σ tg R) X.xe s1) X.xe s
theorem Z6a {M:Model} {A:Around} {E:Value->Shared->Prop} {s:Shared} {tg:Expr} {it:Addr} {u:Value} {o:Obj} {n:String} {vs:Array Value} {Q:Unit->Shared->Prop} (ho:s.heap.get? it=some o) (hc:o.cls=.type n) (hd:o.data=.fields vs)
   (hn:["enumerate","zip","dict_itemiterator","dict_reverseitemiterator","odict_iterator","itertools.zip_longest","itertools.pairwise"].contains n=false) (hQ:Q () s):wpAny M A (letOwnedTupleGo tg (.ref it) u) Q E s:=by
 unfold letOwnedTupleGo;cases tg<;>first
   | exact wpAny_pure hQ
   | (cases u<;>first
       | exact wpAny_pure hQ
       | (refine wpAny_bind (wpAny_load ho ?_)
          rw [hc,hd];show wpAny M A (if (["enumerate","zip","dict_itemiterator","dict_reverseitemiterator","odict_iterator","itertools.zip_longest","itertools.pairwise"].contains n&&vs[0]?==some (rawInt _))=true then _ else _) Q E s;rw [if_neg (by intro h;rw [hn,Bool.false_and] at h;cases h)];exact wpAny_pure hQ))
def Itl (K:PySem.W.Frag) (a:Addr):It :=
 ⟨fun i H=>∃ xs x,SqL K H a xs/\xs[i]?=some x,fun i H x H'=>H'=H/\∀ xs,SqL K H a xs->xs[i]?=some x,fun i H=>∃ xs,SqL K H a xs/\xs.length<=i⟩
def Itt (K:PySem.W.Frag) (a:Addr):It :=
 ⟨fun i H=>∃ xs x,SqT K H a xs/\xs[i]?=some x,fun i H x H'=>H'=H/\∀ xs,SqT K H a xs->xs[i]?=some x,fun i H=>∃ xs,SqT K H a xs/\xs.length<=i⟩
def Itr (lo:Int) (n:Nat):It:=⟨fun i _=>i<n,fun i H x H'=>H'=H/\x=.int (lo+i),fun i _=>n<=i⟩
theorem Cg {P:Program} {w:World} {K:PySem.W.Frag} {tg:Expr} (a it:Addr):Turn P w K tg (Itl K a) [it] it (fun i h=>h.IsListIter it a i) where
 mem:=by simp
 obj:=fun i h st b hb=>by
  have e:b=it:=by simpa using hb
  subst e;obtain ⟨o,e,c,d⟩:=st;exact ⟨o,e,fun v z=>by rw [d] at z;cases z⟩
 keep:=fun i h h' st k=>st.at fun o e=>k it (by simp) o e
 item:=by
  intro X hP hw hK hc i pins s σ H E I hf st hg;subst hP hw hK;obtain ⟨xs,x,hq,hx⟩:=hg;obtain ⟨its,rv,p,hz⟩:=I.list hq;obtain ⟨u,hu,ru⟩:=rv.get hx;obtain ⟨f0,f1,f2,f3,f4,f5⟩:=hf it (by simp);refine wpAny_pyNext_list_item st p.isList (x:=u) (by simpa using hu) fun h' st' sb=>?_
  have I1:Inv X pins σ H { s with heap:=h' }:=I.turned (t':=s.toks) (fun b o hb e=>(sb.2 b hb).trans e) f0 f1 f3 f4 f5;obtain ⟨o,e,c,d⟩:=id st';exact ⟨u,rfl,Z6a (s:={ s with heap:=h' }) e c d (by decide) ⟨x,H,I1,ru,⟨rfl,fun ys hy=>by rw [I.list_inj hy hq];exact hx⟩,st',fun b hb=>(hf b hb).1⟩⟩
 done:=by
  intro X hP hw hK hc i pins s σ H E I hf st hg;subst hP hw hK;obtain ⟨xs,hq,hx⟩:=hg;obtain ⟨its,rv,p,hz⟩:=I.list hq;obtain ⟨f0,f1,f2,f3,f4,f5⟩:=hf it (by simp);have hl:=rv.length;exact wpAny_pyNext_list_end (I.ok.hd hc) st p.isList (by simp;lia) fun h' eb=>⟨rfl,I.turned (t':=s.toks) (fun b o hb e=>eb b o hb e) f0 f1 f3 f4 f5⟩
 self:=fun _ _ _ _ _ st h=>wpAny_pyIter_listiter st h
theorem Xm {P:Program} {w:World} {K:PySem.W.Frag} {tg:Expr} (a it:Addr):Turn P w K tg (Itt K a) [it] it (fun i h=>h.IsTupleIter it a i) where
 mem:=by simp
 obj:=fun i h st b hb=>by
  have e:b=it:=by simpa using hb
  subst e;obtain ⟨o,e,c,d⟩:=st;exact ⟨o,e,fun v z=>by rw [d] at z;cases z⟩
 keep:=fun i h h' st k=>st.at fun o e=>k it (by simp) o e
 item:=by
  intro X hP hw hK hc i pins s σ H E I hf st hg;subst hP hw hK;obtain ⟨xs,x,hq,hx⟩:=hg;obtain ⟨its,rv,p,hz⟩:=I.tuple hq;obtain ⟨u,hu,ru⟩:=rv.get hx;obtain ⟨f0,f1,f2,f3,f4,f5⟩:=hf it (by simp);refine wpAny_pyNext_tuple_item st (show s.heap.IsTuple a its.toArray from p) (x:=u) (by simpa using hu) fun h' st' sb=>?_
  have I1:Inv X pins σ H { s with heap:=h' }:=I.turned (t':=s.toks) (fun b o hb e=>(sb.2 b hb).trans e) f0 f1 f3 f4 f5;obtain ⟨o,e,c,d⟩:=id st';exact ⟨u,rfl,Z6a (s:={ s with heap:=h' }) e c d (by decide) ⟨x,H,I1,ru,⟨rfl,fun ys hy=>by rw [I.tuple_inj hy hq];exact hx⟩,st',fun b hb=>(hf b hb).1⟩⟩
 done:=by
  intro X hP hw hK hc i pins s σ H E I hf st hg;subst hP hw hK;obtain ⟨xs,hq,hx⟩:=hg;obtain ⟨its,rv,p,hz⟩:=I.tuple hq;obtain ⟨f0,f1,f2,f3,f4,f5⟩:=hf it (by simp);have hl:=rv.length;exact wpAny_pyNext_tuple_end (I.ok.hd hc) st (show s.heap.IsTuple a its.toArray from p) (by simp;lia) fun h' eb=>⟨rfl,I.turned (t':=s.toks) (fun b o hb e=>eb b o hb e) f0 f1 f3 f4 f5⟩
 self:=fun _ _ _ _ _ st h=>wpAny_pyIter_tupleiter st h
theorem Xb {P:Program} {w:World} {K:PySem.W.Frag} {tg:Expr} (it:Addr) (lo:Int) (n:Nat):Turn P w K tg (Itr lo n) [it] it (fun i h=>IsRangeIter h it (lo+(i:Nat)*1) ((n:Int) - (i:Nat)) 1) where
 mem:=by simp
 obj:=fun i h st b hb=>by
  have e:b=it:=by simpa using hb
  subst e;exact ⟨_,st,fun v z=>by
   have z':Data.fields _=Data.cell v:=z;cases z'⟩
 keep:=fun i h h' st k=>k it (by simp) _ st
 item:=by
  intro X hP hw hK hc i pins s σ H E I hf st hg;subst hP hw hK;obtain ⟨f0,f1,f2,f3,f4,f5⟩:=hf it (by simp);have W:=Walks.range (prog:=X.prog) (w:=X.w) (I.ok.hd hc) it lo 1 n;refine W.item i s _ _ hg st fun v h' tk hv st' kk=>?_
  obtain ⟨t,rfl⟩:=hv;have I1:Inv X pins σ H { s with heap:=h',toks:=tk }:=I.turned (fun b o hb e=>kk b o (by simpa using hb) e) f0 f1 f3 f4 f5;refine ⟨_,rfl,Z6a (s:={ s with heap:=h',toks:=tk }) (n:="range_iterator") st' rfl rfl (by decide) ⟨.int (lo+i),H,I1,⟨t,?_⟩,⟨rfl,rfl⟩,st',fun b hb=>(hf b hb).1⟩⟩;rw [Int.mul_one]
 done:=by
  intro X hP hw hK hc i pins s σ H E I hf st hg;subst hP hw hK;obtain ⟨f0,f1,f2,f3,f4,f5⟩:=hf it (by simp);exact wpAny_pyNext_range_end (I.ok.hd hc) st (by have:n<=i:=hg;lia) fun h' eb=>⟨rfl,I.turned (t':=s.toks) (fun b o hb e=>eb b o hb e) f0 f1 f3 f4 f5⟩
 self:=fun _ _ _ _ _ st h=>wpAny_pyIter_rangeiter st h
section
variable {X:Cx} {tg:Expr}
def Z93 (K:PySem.W.Frag) (tl:TE):TI:=fun σ H R=>tl σ H fun x H1=>∃ a,x=.ref a/\(∃ xs,SqL K H1 a xs)/\R (Itl K a) H1
def Zcb (K:PySem.W.Frag) (tl:TE):TI:=fun σ H R=>tl σ H fun x H1=>∃ a,x=.ref a/\(∃ xs,SqT K H1 a xs)/\R (Itt K a) H1
theorem Z4d {l:Expr} {tl:TE} (hl:PE X l tl):PI X tg l (Z93 X.K tl):=by
 intro pins s σ H R I h;refine thn (hl pins s σ H _ I h) fun v s1 ⟨x,H1,I1,r1,q1⟩=>?_
 obtain ⟨a,e,⟨xs,hq⟩,q⟩:=q1;subst e;cases r1;obtain ⟨its,rv,p,hz⟩:=I1.list hq;refine wpAny_pyIter_list p.isList ?_;refine ⟨s1.heap.objs.size,[s1.heap.objs.size],_,_,H1,rfl,I1.kept (t':=s1.toks) fun b o e=>get?_push_of_some _ e,Cg a _,⟨_,get?_push_size _ rfl,rfl,rfl⟩,fun b hb=>?_,q⟩;have e:b=s1.heap.objs.size:=by simpa using hb
 subst e;exact I1.fpOk (le_refl _) (I1.hok.fresh (le_refl _))
theorem Z8e {l:Expr} {tl:TE} (hl:PE X l tl):PI X tg l (Zcb X.K tl):=by
 intro pins s σ H R I h;refine thn (hl pins s σ H _ I h) fun v s1 ⟨x,H1,I1,r1,q1⟩=>?_
 obtain ⟨a,e,⟨xs,hq⟩,q⟩:=q1;subst e;cases r1;obtain ⟨its,rv,p,hz⟩:=I1.tuple hq;refine wpAny_pyIter_tuple (show s1.heap.IsTuple a its.toArray from p) ?_;refine ⟨s1.heap.objs.size,[s1.heap.objs.size],_,_,H1,rfl,I1.kept (t':=s1.toks) fun b o e=>get?_push_of_some _ e,Xm a _,⟨_,get?_push_size _ rfl,rfl,rfl⟩,fun b hb=>?_,q⟩;have e:b=s1.heap.objs.size:=by simpa using hb
 subst e;exact I1.fpOk (le_refl _) (I1.hok.fresh (le_refl _))
theorem Op {pins:List (Addr×Obj)} {σ:St} {H:Hp} {s:Shared} {R:It->Hp->Prop} {E:Value->Shared->Prop} {lo hi:Int} {t u v:Tok} {tk:Nat} (I:Inv X pins σ H s) (h1 : -(2^62)<=lo) (h2:lo<2^62) (h3 : -(2^62)<=hi) (h4:hi<2^62)
  (q:R (Itr lo (hi - lo).toNat) H):wpAny (model X.prog X.w) X.A (pyIter (.ref s.heap.objs.size)) (PIE X pins σ tg R) E { s with heap:=s.heap.push { cls:=.type "range",data:=.fields #[.int lo t,.int hi u,.int 1 v] },toks:=tk }:=by
 refine wpAny_pyIter_range (IsRange.new ..) (small_one h1 h2 h3 h4) ?_;have I1:Inv X pins σ H { s with heap:=s.heap.push { cls:=.type "range",data:=.fields #[.int lo t,.int hi u,.int 1 v] },toks:=tk }:=I.kept fun b o e=>get?_push_of_some _ e
 refine ⟨(s.heap.push { cls:=.type "range",data:=.fields #[.int lo t,.int hi u,.int 1 v] }).objs.size,[(s.heap.push { cls:=.type "range",data:=.fields #[.int lo t,.int hi u,.int 1 v] }).objs.size],_,_,H,rfl,
  I1.kept (t':=tk) fun b o e=>get?_push_of_some _ e,Xb _ lo (hi - lo).toNat,?_,fun b hb=>?_,q⟩
 ·have e1:lo+((0:Nat):Int)*1=lo:=by simp
  have e2:(((hi - lo).toNat:Nat):Int) - ((0:Nat):Int)=Builtin.Range.rangeSize lo hi 1:=by rw [rangeSize_one];split<;>lia
  show IsRangeIter _ _ (lo+((0:Nat):Int)*1) ((((hi - lo).toNat:Nat):Int) - ((0:Nat):Int)) 1;rw [e1,e2];exact get?_push_size _ rfl
 ·have e:b=(s.heap.push { cls:=.type "range",data:=.fields #[.int lo t,.int hi u,.int 1 v] }).objs.size:=by simpa using hb
  subst e;exact I1.fpOk (le_refl _) (I1.hok.fresh (le_refl _))
def Zbf (ta:TA):TI:=fun σ H R=>ta σ H fun vs H1=>∃ j:Int,vs=[.int j]/\-(2^62)<=j/\j<2^62/\R (Itr 0 j.toNat) H1
def Zbc (ta:TA):TI:=fun σ H R=>ta σ H fun vs H1=>∃ i j:Int,vs=[.int i,.int j]/\(-(2^62)<=i/\i<2^62/\-(2^62)<=j/\j<2^62)/\R (Itr i (j - i).toNat) H1
theorem Z01 {a:Expr} {ta:TA} {p pos:Pos} (hg:Gl X "range") (hm:X.mg "range" = none) (ha:PA X [a] ta) (hs:starEach [a] X.env=[(false,eval a X.env)]:=by rfl):PI X tg (.Call (.Name "range" p) [a] [] pos) (Zbf ta):=by
 intro pins s σ H R I h;refine Call_ (Ri I hg hm boot_range (PyProof.Rows.callWith_type1 (thn (ha pos pins s σ H _ I h) fun us s1 ⟨vs,H1,I1,r1,q1⟩=>?_) hs rfl));obtain ⟨j,e,q1,q2,q⟩:=q1;subst e;cases r1 with
 | cons r rr =>
  cases rr;obtain ⟨t,rfl⟩:=r;exact call_range_1 (Op I1 (by lia) (by lia) q1 q2 (by simpa using q))
theorem Z0t {a b:Expr} {ta:TA} {p pos:Pos} (hg:Gl X "range") (hm:X.mg "range" = none) (ha:PA X [a,b] ta) (hs:starEach [a,b] X.env=[(false,eval a X.env),(false,eval b X.env)]:=by rfl) (hs2:starEach [b] X.env=[(false,eval b X.env)]:=by rfl) :
  PI X tg (.Call (.Name "range" p) [a,b] [] pos) (Zbc ta):=by
 intro pins s σ H R I h;refine Call_ (Ri I hg hm boot_range (PyProof.Rows.callWith_type1 (thn (ha pos pins s σ H _ I h) fun us s1 ⟨vs,H1,I1,r1,q1⟩=>?_) (by rw [hs,hs2]) (by rw [hs2];rfl)));obtain ⟨i,j,e,⟨q1,q2,q3,q4⟩,q⟩:=q1;subst e;cases r1 with
 | cons r rr =>
  cases rr with
  | cons r' rr =>
   cases rr;obtain ⟨t,rfl⟩:=r;obtain ⟨t',rfl⟩:=r';exact call_range_2 (Op I1 q1 q2 q3 q4 q)
def Zda (wi:TI) (g:TG) (tb:TS):TS:=fun D σ H=>wi σ H fun J H1=>∃ W:Nat->Nat->St->Hp->Prop,(∃ m,W 0 m σ H1)/\∀ i m σ H,W i m σ H ->
 (J.stop i H/\D.nx σ H)\/(J.go i H/\∃ N:St->Hp->Prop,(∀ σ' H',N σ' H'->∃ m',m'<m/\W (i+1) m' σ' H')/\∀ x H',J.yld i H x H'->g x σ H' fun σ2 H2=>tb { D with nx:=N,ct:=N,bk:=D.nx } σ2 H2)
def Lu (fp:List Addr) (h:Heap):List (Addr×Obj):=fp.filterMap fun b=>(h.get? b).map fun o=>(b,o)
theorem Ma {fp:List Addr} {h:Heap} {b:Addr} {o:Obj} (hb:b∈fp) (e:h.get? b=some o):(b,o)∈Lu fp h:=List.mem_filterMap.mpr ⟨b,hb,by rw [e];rfl⟩
theorem Z0n {fp:List Addr} {h:Heap} {p:Addr×Obj} (hp:p∈Lu fp h):p.1∈fp/\h.get? p.1=some p.2:=by
 obtain ⟨b,hb,e⟩:=List.mem_filterMap.mp hp;cases q:h.get? b with
 | none=>rw [q] at e;cases e
 | some o =>
  rw [q] at e;have e':(b,o)=p:=Option.some.inj e;subst e';exact ⟨hb,q⟩
theorem Inv.pinned {pins:List (Addr×Obj)} {σ:St} {H:Hp} {s:Shared} {fp:List Addr} (I:Inv X pins σ H s) (hf:∀ b∈fp,O6 X pins H b) (ho:∀ b∈fp,∃ o,s.heap.get? b=some o/\∀ v,o.data≠.cell v):Inv X (pins++Lu fp s.heap) σ H s :=
 I.pins_of fun p hp=>(mem_append.mp hp).elim (fun z=>I.pin p (mem_append_right _ z)) fun z=>by
  obtain ⟨hb,e⟩:=Z0n z;obtain ⟨f0,f1,f2,_⟩:=hf p.1 hb;obtain ⟨o,e',d⟩:=ho p.1 hb;rw [e] at e';cases e';exact ⟨e,f0,f1,f2,d⟩
theorem Inv.unpinned {pins pl:List (Addr×Obj)} {σ:St} {H:Hp} {s:Shared} (I:Inv X (pins++pl) σ H s):Inv X pins σ H s:=I.pins_of fun p hp=>I.pin p (mem_append_right _ (mem_append_left _ hp))
theorem Z8l {iter:Expr} {body:List Stmt} {wi:TI} {g:TG} {tb:TS} {pos:Pos} (hp:PassesOwn (model X.prog X.w) X.A X.env X.xe) (hc:X.calm=true) (hi:PI X tg iter wi) (hg:PG X tg g) (hb:PSs X body tb)
  (hs:∀ x,foldedSetIterable iter X.env x=pure x:=by intro _;rfl):PS X (.For tg iter body [] pos) (Zda wi g tb):=by
 intro pins s σ H D I h;refine wpAny_For (thn (hi pins s σ H _ I h) fun v s1 h1=>thn h1 fun itv s2 h2=>?_) hs;obtain ⟨it,fp,tn,J,H2,e,I2,T,st2,f2,W,⟨m0,w0⟩,turn⟩:=h2;subst e
 -- what stays true of the iterator's objects through the loop
 have stat:∀ {H':Hp},(∀ b∈fp,H' b=none)->∀ b∈fp,O6 X pins H' b:=fun hn b hb=>⟨hn b hb,(f2 b hb).2⟩
 refine codeAny_forLoop_any (fun n s'=>∃ i σ' H',Inv X pins σ' H' s'/\tn i s'.heap/\(∀ b∈fp,H' b=none)/\W i n σ' H') ?_ m0 ⟨0,σ,H2,I2,st2,fun b hb=>(f2 b hb).1,w0⟩;rintro n s3 ⟨i,σ3,H3,I3,st3,fr3,w3⟩;rcases turn i n σ3 H3 w3 with ⟨stop,qn⟩ | ⟨go,N,hN,step⟩
 ·refine wpAny_passesOwn hp (thn (T.done X rfl rfl rfl hc i pins s3 σ3 H3 X.xe I3 (stat fr3) st3 stop) fun r s4 ⟨hr,I4⟩=>?_)
  subst hr;exact wpAny_execs_nil ⟨σ3,H3,I4,qn⟩
 ·refine wpAny_passesOwn hp (thn (T.item X rfl rfl rfl hc i pins s3 σ3 H3 X.xe I3 (stat fr3) st3 go) fun r s4 ⟨u,hr,h4⟩=>?_)
  subst hr;refine wpAny_passesOwn hp (thn h4 fun _ s5 ⟨x,H5,I5,r5,y5,st5,fr5⟩=>?_);have I5':=I5.pinned (stat fr5) (T.obj _ _ st5);refine wpAny_passesOwn hp (thn (hg _ s5 σ3 H5 x u _ I5' r5 (step x H5 y5)) fun _ s6 ⟨σ6,H6,I6,q6⟩=>?_);refine wpAny_passesOwn hp (thn (hb _ s6 σ6 H6 _ I6 q6) fun f s7 q7=>?_);have again:∀ {σ7:St} {H7:Hp},Inv X (pins++Lu fp s5.heap) σ7 H7 s7->N σ7 H7->∃ m,m<n/\∃ i σ' H',Inv X pins σ' H' s7/\tn i s7.heap/\(∀ b∈fp,H' b=none)/\W i m σ' H':=fun {σ7 H7} I7 n7=>by
   obtain ⟨m',hm,w7⟩:=hN σ7 H7 n7;refine ⟨m',hm,i+1,σ7,H7,I7.unpinned,T.keep _ _ _ st5 fun b hb o e=>(I7.pin (b,o) (mem_append_right _ (mem_append_right _ (Ma hb e)))).1,fun b hb=>?_,w7⟩;obtain ⟨o,e,d⟩:=T.obj _ _ st5 b hb;exact (I7.pin (b,o) (mem_append_right _ (mem_append_right _ (Ma hb e)))).2.1
  cases f with
  | next=>obtain ⟨σ7,H7,I7,n7⟩:=q7;exact again I7 n7
  | cont=>obtain ⟨σ7,H7,I7,n7⟩:=q7;exact again I7 n7
  | brk=>obtain ⟨σ7,H7,I7,q7⟩:=q7;exact ⟨σ7,H7,I7.unpinned,q7⟩
  | ret v=>obtain ⟨x7,σ7,H7,I7,r7,q7⟩:=q7;exact ⟨x7,σ7,H7,I7.unpinned,r7,q7⟩
end
abbrev R2:=V->V->Hp->VK->Prop
def OpR (X:Cx) (f:Value->Value->Sem Value) (r:R2):Prop :=
 ∀ (pins:List (Addr×Obj)) (s:Shared) (σ:St) (H:Hp) (x y:V) (v u:Value) (Q:VK),Inv X pins σ H s->Vf x v->Vf y u->r x y H Q ->
  wpAny (model X.prog X.w) X.A (f v u) (EP X pins σ Q) X.xe s
def UnR (X:Cx) (f:Value->Sem Value) (r:V->Hp->VK->Prop):Prop :=
 ∀ (pins:List (Addr×Obj)) (s:Shared) (σ:St) (H:Hp) (x:V) (v:Value) (Q:VK),Inv X pins σ H s->Vf x v->r x H Q ->
  wpAny (model X.prog X.w) X.A (f v) (EP X pins σ Q) X.xe s
def Uq (X:Cx) (f:Value) (r:List V->Hp->VK->Prop):Prop :=
 ∀ (pins:List (Addr×Obj)) (s:Shared) (σ:St) (H:Hp) (xs:List V) (us:List Value) (Q:VK),Inv X pins σ H s->Wa xs us->r xs H Q ->
  wpAny (model X.prog X.w) X.A (call f us) (EP X pins σ Q) X.xe s
def Zd5 (X:Cx) (r:V->Hp->(Bool->Hp->Prop)->Prop):Prop :=
 ∀ (pins:List (Addr×Obj)) (s:Shared) (σ:St) (H:Hp) (x:V) (v:Value) (Q:Bool->Hp->Prop),Inv X pins σ H s->Vf x v->r x H Q ->
  wpAny (model X.prog X.w) X.A (truthy v) (TP X pins σ Q) X.xe s
def tOp (r:R2) (ta tb:TE):TE:=fun σ H Q=>ta σ H fun x H1=>tb σ H1 fun y H2=>r x y H2 Q
def tUn (r:V->Hp->VK->Prop) (ta:TE):TE:=fun σ H Q=>ta σ H fun x H1=>r x H1 Q
def rI (C:Int->Int->Prop) (g:Int->Int->V):R2:=fun x y H Q=>∃ i j,x=.int i/\y=.int j/\C i j/\Q (g i j) H
def rI0 (g:Int->Int->V):R2:=fun x y H Q=>∃ i j,x=.int i/\y=.int j/\Q (g i j) H
def rU (g:Int->V):V->Hp->VK->Prop:=fun x H Q=>∃ i,x=.int i/\Q (g i) H
section
variable {X:Cx} {a b c:Expr} {ta tb tc:TE} {pos:Pos}
theorem Zb4 (ha:PE X a ta) (hb:PE X b tb) {pins:List (Addr×Obj)} {s:Shared} {σ:St} {H:Hp} {R:V->V->Hp->Prop} (I:Inv X pins σ H s)
  (h:ta σ H fun x H1=>tb σ H1 fun y H2=>R x y H2) {Q:Value->Shared->Prop} {f:Value->Value->Sem Value}
  (hf:∀ v u s2 x y H2,Inv X pins σ H2 s2->Vf x v->Vf y u->R x y H2->wpAny (model X.prog X.w) X.A (f v u) Q X.xe s2) :
  wpAny (model X.prog X.w) X.A (eval a X.env) (fun v s₁=>wpAny (model X.prog X.w) X.A (eval b X.env) (fun u s₂=>wpAny (model X.prog X.w) X.A (f v u) Q X.xe s₂) X.xe s₁) X.xe s:=by
 refine thn (ha pins s σ H _ I h) fun v s1 ⟨x,H1,I1,r1,q1⟩=>?_
 refine thn (hb pins s1 σ H1 _ I1 q1) fun u s2 ⟨y,H2,I2,r2,q2⟩=>?_
 exact hf v u s2 x y H2 I2 r1 r2 q2
theorem Z8y {op:Operator} {r:R2} (ho:OpR X (binaryOp op) r) (ha:PE X a ta) (hb:PE X b tb):PE X (.BinOp a op b pos) (tOp r ta tb):=by
 intro pins s σ H Q I h;exact wpAny_BinOp (Zb4 ha hb I h fun v u s2 x y H2 I2 rx ry q=>ho pins s2 σ H2 x y v u Q I2 rx ry q)
theorem Zb3 {op:UnaryOp} {r:V->Hp->VK->Prop} (ho:UnR X (unaryOp op) r) (ha:PE X a ta):PE X (.UnaryOp op a pos) (tUn r ta):=by
 intro pins s σ H Q I h;exact UnaryOp_ (thn (ha pins s σ H _ I h) fun v s1 ⟨x,H1,I1,r1,q1⟩=>ho pins s1 σ H1 x v Q I1 r1 q1)
theorem opI {f:Value->Value->Sem Value} {C:Int->Int->Prop} {g:Int->Int->Int}
  (rule:∀ (i j:Int) (t u:Tok) (s:Shared) (Q:Value->Shared->Prop) (E:Value->Shared->Prop),C i j->Q (.int (g i j) s.toks) { s with toks:=s.toks+1 }->wpAny (model X.prog X.w) X.A (f (.int i t) (.int j u)) Q E s) :
  OpR X f (rI C fun i j=>.int (g i j)):=by
 intro pins s σ H x y v u Q I rx ry h;obtain ⟨i,j,rfl,rfl,hc,q⟩:=h;obtain ⟨t,rfl⟩:=rx;obtain ⟨t',rfl⟩:=ry;exact rule i j t t' s _ _ hc ⟨.int (g i j),H,I.tok _,⟨_,rfl⟩,q⟩
theorem Z7h {f:Value->Value->Sem Value} {g:Int->Int->Int}
  (rule:∀ (i j:Int) (t u:Tok) (s:Shared) (Q:Value->Shared->Prop) (E:Value->Shared->Prop),Q (.int (g i j) s.toks) { s with toks:=s.toks+1 }->wpAny (model X.prog X.w) X.A (f (.int i t) (.int j u)) Q E s) :
  OpR X f (rI0 fun i j=>.int (g i j)):=by
 intro pins s σ H x y v u Q I rx ry h;obtain ⟨i,j,rfl,rfl,q⟩:=h;obtain ⟨t,rfl⟩:=rx;obtain ⟨t',rfl⟩:=ry;exact rule i j t t' s _ _ ⟨.int (g i j),H,I.tok _,⟨_,rfl⟩,q⟩
theorem Zal {f:Value->Value->Sem Value} {g:Int->Int->Bool}
  (rule:∀ (i j:Int) (t u:Tok) (s:Shared) (Q:Value->Shared->Prop) (E:Value->Shared->Prop),Q (.bool (g i j)) s->wpAny (model X.prog X.w) X.A (f (.int i t) (.int j u)) Q E s) :
  OpR X f (rI0 fun i j=>.bl (g i j)):=by
 intro pins s σ H x y v u Q I rx ry h;obtain ⟨i,j,rfl,rfl,q⟩:=h;obtain ⟨t,rfl⟩:=rx;obtain ⟨t',rfl⟩:=ry;exact rule i j t t' s _ _ ⟨.bl (g i j),H,I,rfl,q⟩
def Z70 (i j:Int):Prop:=0<j/\j<1073741824
def Zad (i j:Int):Prop:=0<=j/\j<=1000000/\i.natAbs<2^64
def Z3z (i j:Int):Prop:=(-(2^64)<i/\i<2^64)\/(-(2^64)<j/\j<2^64)
theorem Z3z.ok {i j:Int} (h:Z3z i j):IntMulOk i j:=by
 rcases h with ⟨h1,h2⟩ | ⟨h1,h2⟩
 ·exact .of_left (intBits_le_64 h1 h2)
 ·exact .of_right (intBits_le_64 h1 h2)
theorem Fp (k:Nat):(0:Int)<=2^k:=by
 rw [two_pow_cast];exact Int.natCast_nonneg _
theorem Z83:OpR X (binaryOp .Add) (rI0 fun i j=>.int (i+j)):=Z7h fun _ _ _ _ _ _ _ q=>add_int q
theorem Z9r:OpR X (binaryOp .Sub) (rI0 fun i j=>.int (i - j)):=Z7h fun _ _ _ _ _ _ _ q=>sub_int q
theorem Z99:OpR X (binaryOp .Mult) (rI Z3z fun i j=>.int (i*j)):=opI fun _ _ _ _ _ _ _ hc q=>mul_int q hc.ok
theorem Z4t:OpR X (binaryOp .FloorDiv) (rI Z70 fun i j=>.int (i / j)):=opI fun i j _ _ _ _ _ hc q=>by
 have h1:(0:Int)<j:=hc.1;have h2:j<1073741824:=hc.2;exact floordiv_int (by lia) (by rw [Int.fdiv_eq_ediv_of_nonneg i (by lia)];exact q) (.inl (PyProof.noPylong_small (by lia)))
theorem Z7a:OpR X (binaryOp .Mod) (rI (fun _ j=>0<j) fun i j=>.int (i % j)):=opI fun i j _ _ _ _ _ hc q=>by
 have h1:(0:Int)<j:=hc;exact mod_int' (by lia) (by rw [Int.fmod_eq_emod_of_nonneg i (by lia)];exact q)
theorem Za1:OpR X (binaryOp .LShift) (rI Zad fun i j=>.int (i*2^j.toNat)):=opI fun _ _ _ _ _ _ _ hc q=>lshift_int_small hc.1 hc.2.1 hc.2.2 q
theorem Z8i:OpR X (binaryOp .RShift) (rI (fun _ j=>0<=j) fun i j=>.int (i / 2^j.toNat)):=opI fun i j _ _ _ _ _ hc q =>
 rshift_int hc (by rw [Int.fdiv_eq_ediv_of_nonneg i (Fp _)];exact q)
theorem Z77:OpR X (binaryOp .BitAnd) (rI0 fun i j=>.int (Builtin.bitAnd i j)):=Z7h fun _ _ _ _ _ _ _ q=>and_int q
theorem Zbk:OpR X (binaryOp .BitOr) (rI0 fun i j=>.int (Builtin.bitOr i j)):=Z7h fun _ _ _ _ _ _ _ q=>or_int q
theorem Z6o:OpR X (binaryOp .BitXor) (rI0 fun i j=>.int (Builtin.bitXor i j)):=Z7h fun _ _ _ _ _ _ _ q=>xor_int q
theorem unI {f:Value->Sem Value} {g:Int->Int}
  (rule:∀ (i:Int) (t:Tok) (s:Shared) (Q:Value->Shared->Prop) (E:Value->Shared->Prop),Q (.int (g i) s.toks) { s with toks:=s.toks+1 }->wpAny (model X.prog X.w) X.A (f (.int i t)) Q E s) :
  UnR X f (rU fun i=>.int (g i)):=by
 intro pins s σ H x v Q I rx h;obtain ⟨i,rfl,q⟩:=h;obtain ⟨t,rfl⟩:=rx;exact rule i t s _ _ ⟨.int (g i),H,I.tok _,⟨_,rfl⟩,q⟩
theorem Z7i:UnR X (unaryOp .USub) (rU fun i=>.int (-i)):=unI fun _ _ _ _ _ q=>neg_int q
theorem Z9p:UnR X (unaryOp .Invert) (rU fun i=>.int (Builtin.bitNot i)):=unI fun _ _ _ _ _ q=>invert_int q
theorem Bz {pins:List (Addr×Obj)} {σ:St} {H:Hp} {s:Shared} {Q:VK} {k k':Bool} (I:Inv X pins σ H s) (q:Q (.bl k) H) (e:k=k'):EP X pins σ Q (.bool k') s:=by
 subst e;exact ⟨.bl k,H,I,rfl,q⟩
theorem Zao:OpR X (compareOp .Lt) (rI0 fun i j=>.bl (decide (i<j))):=Zal fun _ _ _ _ _ _ _ q=>lt_int q
theorem Zbr:OpR X (compareOp .LtE) (rI0 fun i j=>.bl (decide (i<=j))):=Zal fun _ _ _ _ _ _ _ q=>le_int q
theorem Zbz:OpR X (compareOp .Gt) (rI0 fun i j=>.bl (decide (j<i))):=Zal fun _ _ _ _ _ _ _ q=>gt_int q
theorem Zap:OpR X (compareOp .GtE) (rI0 fun i j=>.bl (decide (j<=i))):=Zal fun _ _ _ _ _ _ _ q=>ge_int q
theorem Bx:OpR X (compareOp .In) (fun x y H Q=>∃ i j,x=.str i/\y=.str j/\Q (.bl (!(Builtin.Str.occurrences j i 0 j.length 1).isEmpty)) H):=by
 intro pins s σ H x y v u Q I rx ry h;obtain ⟨i,j,rfl,rfl,q⟩:=h;obtain ⟨t,rfl⟩:=rx;obtain ⟨t',rfl⟩:=ry;exact in_str (Bz I q rfl)
theorem Z88:OpR X (compareOp .Is) (fun x y H Q=>y=.non/\Q (.bl (decide (x=.non))) H):=by
 intro pins s σ H x y v u Q I rx ry h;obtain ⟨rfl,q⟩:=h;cases ry;refine is_none_gen (Bz I q ?_);cases x<;>first
   | (cases rx;rfl)
   | (obtain ⟨t,rfl⟩:=rx;rfl)
theorem Z4f:OpR X (compareOp .IsNot) (fun x y H Q=>y=.non/\Q (.bl (!decide (x=.non))) H):=by
 intro pins s σ H x y v u Q I rx ry h;obtain ⟨rfl,q⟩:=h;cases ry;refine isnot_none_gen (Bz I q ?_);cases x<;>first
   | (cases rx;rfl)
   | (obtain ⟨t,rfl⟩:=rx;rfl)
theorem Yf (b:Expr) {op:CmpOp} (h:op≠.In:=by decide) (h2:op≠.NotIn:=by decide):behindInMarks op b=false:=by
 have e1:(op==CmpOp.In)=false:=by cases op<;>first | rfl | exact absurd rfl h
 have e2:(op==CmpOp.NotIn)=false:=by cases op<;>first | rfl | exact absurd rfl h2
 cases b<;>simp [behindInMarks,e1,e2]
theorem Z4j {op:CmpOp} {r:R2} (ho:OpR X (compareOp op) r) (ha:PE X a ta) (hb:PE X b tb) (hm:behindInMarks op b=false):PE X (.Compare a [op] [b] pos) (tOp r ta tb):=by
 intro pins s σ H Q I h;exact wpAny_Compare1 (Zb4 ha hb I h fun v u s2 x y H2 I2 rx ry q=>ho pins s2 σ H2 x y v u Q I2 rx ry q) hm
def Z71 (t:TE):TT:=fun σ H Q=>t σ H fun x H'=>∃ k,x=.bl k/\Q k H'
theorem Z4o {op:CmpOp} {r:R2} (ho:OpR X (compareOp op) r) (ha:PE X a ta) (hb:PE X b tb) (hm:behindInMarks op b=false):PT X (.Compare a [op] [b] pos) (Z71 (tOp r ta tb)):=by
 intro pins s σ H Q I h;refine wpAny_isTrue_Compare1 (thn (ha pins s σ H _ I h) fun v s1 ⟨x,H1,I1,r1,q1⟩=>thn (hb pins s1 σ H1 _ I1 q1) fun u s2 ⟨y,H2,I2,r2,q2⟩ =>
  thn (ho pins s2 σ H2 x y v u _ I2 r1 r2 q2) fun c s3 ⟨z,H3,I3,r3,k,e,q3⟩=>?_) hm
 subst e;cases r3;exact wpAny_truthy_bool ⟨H3,I3,q3⟩
def Z74 (r r':R2) (ta tb tc:TE):TE:=fun σ H Q=>ta σ H fun x H1=>tb σ H1 fun y H2=>r x y H2 fun z H3=>∃ k,z=.bl k /\
 (if k=true then tc σ H3 fun w' H4=>r' y w' H4 Q else Q (.bl false) H3)
theorem Z2p {op op':CmpOp} {r r':R2} (ho:OpR X (compareOp op) r) (ho':OpR X (compareOp op') r') (ha:PE X a ta) (hb:PE X b tb) (hc:PE X c tc)
  (hm:lastMarks [op,op'] [b,c]=false:=by with_unfolding_all rfl):PT X (.Compare a [op,op'] [b,c] pos) (Z71 (Z74 r r' ta tb tc)):=by
 intro pins s σ H Q I h;refine isTrue_chain (thn (ha pins s σ H _ I h) fun v s1 ⟨x,H1,I1,r1,q1⟩=>test_link (thn (hb pins s1 σ H1 _ I1 q1) fun u s2 ⟨y,H2,I2,r2,q2⟩ =>
  thn (ho pins s2 σ H2 x y v u _ I2 r1 r2 q2) fun d s3 ⟨z,H3,I3,r3,k,e,q3⟩=>?_)) hm
 subst e;cases r3;refine wpAny_truthy_bool ?_;cases k with
 | false =>
  obtain ⟨k',e',q'⟩:=q3;cases e';exact ite_ff ⟨H3,I3,q'⟩
 | true =>
  refine ite_tt (test_last (thn (hc pins s3 σ H3 _ I3 q3) fun w' s4 ⟨z',H4,I4,r4,q4⟩=>thn (ho' pins s4 σ H4 y z' u w' _ I4 r2 r4 q4) fun d' s5 ⟨z2,H5,I5,r5,k2,e2,q5⟩=>?_));subst e2;cases r5;exact wpAny_truthy_bool ⟨H5,I5,q5⟩
def Zcl (K:PySem.W.Frag) (x:V) (H:Hp) (k:Bool):Prop :=
 match x with
 | .non=>k=false
 | .bl b=>k=b
 | .int i=>k=(i != 0)
 | .str y=>y.length<=sizeLine/\k=((y.length:Int) != 0)
 | .byt y=>y.size<=sizeLine/\k=((y.size:Int) != 0)
 | .ref p=>(∃ xs,SqL K H p xs/\k=!xs.isEmpty)\/(∃ xs,SqT K H p xs/\k=!xs.isEmpty)\/∃ kvs,H p=some (.dK kvs)/\k=!kvs.isEmpty
 | _=>False
theorem Fj {κ:Type} {kvs:List (κ×V)} {vs:List (κ×Value)} (r:KV kvs vs):(!vs.isEmpty)=!kvs.isEmpty:=by
 cases r<;>rfl
theorem H9 {xs:List V} {its:List Value} (r:Wa xs its):(!its.toArray.isEmpty)=!xs.isEmpty:=by
 cases r<;>simp
theorem En:(sizeLine:Nat)<2^63:=by rw [sizeLine_eq];decide
theorem Z6y:Zd5 X (fun x H Q=>∃ k,Zcl X.K x H k/\Q k H):=by
 intro pins s σ H x v Q I rx h;obtain ⟨k,e,q⟩:=h;have hl:=En;have hs:sizeLine=16777216:=sizeLine_eq;cases x with
 | non =>
  cases rx;have e':k=false:=e;subst e';exact truthy_none ⟨H,I,q⟩
 | bl b =>
  cases rx;have e':k=b:=e;subst e';exact wpAny_truthy_bool ⟨H,I,q⟩
 | int i =>
  obtain ⟨t,rfl⟩:=rx;have e':k=(i != 0):=e;subst e';exact PySem.P.truthy_int ⟨H,I,q⟩
 | str y =>
  obtain ⟨t,rfl⟩:=rx;obtain ⟨hy,e'⟩:y.length<=sizeLine/\k=((y.length:Int) != 0):=e;subst e';exact PySem.P.truthy_str (by lia) ⟨H,I.tok _,q⟩
 | byt y =>
  obtain ⟨t,rfl⟩:=rx;obtain ⟨hy,e'⟩:y.size<=sizeLine/\k=((y.size:Int) != 0):=e;subst e';exact PySem.W.truthy_bytes (by lia) ⟨H,I.tok _,q⟩
 | ref p =>
  cases rx;have e':(∃ xs,SqL X.K H p xs/\k=!xs.isEmpty)\/(∃ xs,SqT X.K H p xs/\k=!xs.isEmpty)\/∃ kvs,H p=some (.dK kvs)/\k=!kvs.isEmpty:=e;rcases e' with ⟨xs,hx,e'⟩ | ⟨xs,hx,e'⟩ | ⟨kvs,hx,e'⟩
  ·subst e'
   obtain ⟨its,r,pl,hz⟩:=I.list hx;have hlen:=r.length;exact wpAny_truthy_list pl.isList (by simp only [size_toArray];lia) ⟨H,I.tok _,by rw [H9 r];exact q⟩
  ·subst e'
   obtain ⟨its,r,pl,hz⟩:=I.tuple hx;have hlen:=r.length;exact truthy_tuple pl (by simp only [size_toArray];lia) ⟨H,I.tok _,by rw [H9 r];exact q⟩
  ·subst e'
   obtain ⟨hz,hS,vs,r,m⟩:kvs.length<=sizeLine/\(p==sysModules)=false/\∃ vs,KV kvs vs/\s.heap.DictOf (Vg X.prog X.w) p vs:=I.hok p _ hx;have hlen:kvs.length=vs.length:=Paired.length r;exact wpAny_truthy_dict hS m (by lia) ⟨H,I.tok _,by rw [Fj r];exact q⟩
 | _=>exact (show False from e).elim
theorem Z1y (ha:PE X a ta) (he:∀ whole,isTrue a X.env whole=(do let v ← whole;standAt a.pos;holding [v] (truthy v))) :
  PT X a (fun σ H Q=>ta σ H fun x H'=>∃ k,Zcl X.K x H' k/\Q k H'):=by
 intro pins s σ H Q I h;exact isTrue_plain (thn (ha pins s σ H _ I h) fun v s1 ⟨x,H1,I1,r1,q1⟩=>Z6y pins s1 σ H1 x v Q I1 r1 q1) (he _)
theorem Xq:OpR X (binaryOp .Add) (fun x y H Q=>∃ i j,x=.str i/\y=.str j/\i.length+j.length<=sizeLine/\Q (.str (i++j)) H):=by
 intro pins s σ H x y v u Q I rx ry h;obtain ⟨i,j,rfl,rfl,hz,q⟩:=h;obtain ⟨t,rfl⟩:=rx;obtain ⟨t',rfl⟩:=ry;exact add_str (fun t' tk=>⟨.str (i++j),H,I.tok _,⟨_,rfl⟩,q⟩) hz
theorem Sr {x:V} {us:List Value} (r:Wa [x] us):∃ u,us=[u]/\Vf x u:=by
 cases r with
 | cons r1 r2=>cases r2;exact ⟨_,rfl,r1⟩
theorem Xp {x y:V} {us:List Value} (r:Wa [x,y] us):∃ u w',us=[u,w']/\Vf x u/\Vf y w':=by
 cases r with
 | cons r1 r2 =>
  cases r2 with
  | cons r3 r4=>cases r4;exact ⟨_,_,rfl,r1,r3⟩
theorem Z0d (hc:X.calm=true):Uq X (.builtin "max") (fun xs H Q=>∃ i j,xs=[.int i,.int j]/\Q (.int (if j > i then j else i)) H):=by
 intro pins s σ H xs us Q I r h;obtain ⟨i,j,rfl,q⟩:=h;obtain ⟨u,w',rfl,⟨t,rfl⟩,⟨t',rfl⟩⟩:=Xp r;refine max_two_ints (I.ok.hd hc) fun h' tk k=>⟨_,H,I.kept k,?_,q⟩
 by_cases hj:j > i
 ·rw [if_pos hj,if_pos hj];exact ⟨_,rfl⟩
 ·rw [if_neg hj,if_neg hj];exact ⟨_,rfl⟩
theorem Cq (hc:X.calm=true):Uq X (.builtin "min") (fun xs H Q=>∃ i j,xs=[.int i,.int j]/\Q (.int (if j<i then j else i)) H):=by
 intro pins s σ H xs us Q I r h;obtain ⟨i,j,rfl,q⟩:=h;obtain ⟨u,w',rfl,⟨t,rfl⟩,⟨t',rfl⟩⟩:=Xp r;refine min_two_ints (I.ok.hd hc) fun h' tk k=>⟨_,H,I.kept k,?_,q⟩
 by_cases hj:j<i
 ·rw [if_pos hj,if_pos hj];exact ⟨_,rfl⟩
 ·rw [if_neg hj,if_neg hj];exact ⟨_,rfl⟩
theorem Ce:Uq X (.type "int") (fun xs H Q=>(∃ i,xs=[.int i]/\Q (.int i) H)\/∃ k,xs=[.bl k]/\Q (.int (if k then 1 else 0)) H):=by
 intro pins s σ H xs us Q I r h;rcases h with ⟨i,rfl,q⟩ | ⟨k,rfl,q⟩
 ·obtain ⟨u,rfl,t,rfl⟩:=Sr r
  exact call_int_int ⟨.int i,H,I,⟨_,rfl⟩,q⟩
 ·obtain ⟨u,rfl,r1⟩:=Sr r
  cases r1;exact call_int_bool ⟨.int (if k then 1 else 0),H,I.tok _,⟨_,rfl⟩,q⟩
end
structure ObjM (h:Heap) (x dx C:Addr) (mA:Str->Option Value):Prop where
 obj:h.get? x=some (instObj C dx)
 ns:h.Ns1 dx mA
 ne:dx≠x
theorem Al {h:Heap} {dx:Addr} {mA:Str->Option Value} (n:h.Ns1 dx mA):∃ od,h.get? dx=some od/\∀ name,lookIn name od=some (mA name):=by
 obtain ⟨o,es,ep,ho,hd,hk,_,hm⟩:=n;refine ⟨o,ho,fun name=>?_⟩;have e:=hm name;unfold nsFind findBy at e;rw [← Array.find?_toList] at e;unfold lookIn;rw [hd];dsimp only;split
 ·rename_i y q
  rw [q] at e;exact congrArg some e
 ·rename_i q
  rw [q] at e;have a:es.toList.any (·.refKey)=false:=by
   rw [List.any_eq_false];intro y hy;obtain ⟨z,t,hkey⟩:=hk y (Array.mem_toList_iff.mp hy);simp [DictEntry.refKey,hkey]
  have a':¬ es.toList.any (·.refKey)=true:=by rw [a];exact Bool.false_ne_true
  rw [if_neg a'];exact congrArg some e
theorem ObjM.look {h:Heap} {x dx C:Addr} {mA:Str->Option Value} (I:ObjM h x dx C mA):∃ od,PySem.W.InstAt h x (instObj C dx) C (some od)/\∀ name,lookIn name od=some (mA name) :=
 let ⟨od,ho,hl⟩:=Al I.ns
 ⟨od,⟨I.obj,rfl,rfl,ho⟩,hl⟩
section
variable {prog:Program} {w:World} {A:Around} {E:Value->Shared->Prop} {s:Shared} {K:PySem.W.Frag} {x dx C f:Addr} {mA:Str->Option Value} {name:Str} {v:Value}
end
section
variable {P:Program} {w:World} {H H':Hp} {h h':Heap} {a C dx:Addr} {fs fs':List (Str×V)}
theorem Z5n (hok:HOk P w H h) (e:H a=some (.ins C dx fs)):∃ mA,ObjM h a dx C mA/\(∀ f,Aa (fs.lookup f) (mA f))/\PySem.Within mA (fs.map (·.1))/\fs.length<=1000/\H dx=some (.own a):=by
 obtain ⟨d,z,ne,ob,mA,n,r,q⟩:=(show Wf P w H h a (.ins C dx fs) from hok a _ e);exact ⟨mA,⟨ob,n,ne⟩,r,q,z,d⟩
end
structure Cls (K:PySem.W.Frag) (C:Addr):Prop where
 pg:plainGet K C Str.empty=true
 hd:PySem.W.hasDictIn K C=true
 po:PySem.W.plainOver K C=true
 sa:PySem.W.findIn K (.ref C) "__setattr__" = some (some (.builtin "object.__setattr__"))
theorem Cls.get {K:PySem.W.Frag} {C:Addr} (c:Cls K C) (f:Str):plainGet K C f=true:=c.pg
section
variable {X:Cx} {pins:List (Addr×Obj)} {σ:St} {H:Hp} {s:Shared} {a C dx:Addr} {fs:List (Str×V)} {f:Str} {v:V} {A:Around} {E:Value->Shared->Prop}
theorem Z5g {prog:Program} {w:World} {env:Env} {e:Expr} {f:Str} {pos:Pos} {s:Shared} {Q:Value->Shared->Prop} (hb:attributeBase e f env (eval e env)=eval e env)
  (h:wpAny (model prog w) A (eval e env) (fun o s₁=>wpAny (model prog w) A (getAttr o f true) Q E s₁) E s):wpAny (model prog w) A (eval (.Attribute e f pos) env) Q E s :=
 Attribute_any_ h (by rw [arm_eval_Attribute,hb])
end
section
variable {X:Cx} {o e value:Expr} {f:Str} {pos pos' tpos:Pos} {ta tv:TE}
end
section
variable {X:Cx} {pins:List (Addr×Obj)} {σ:St} {H:Hp} {s:Shared} {A:Around} {E:Value->Shared->Prop} {Q:Value->Shared->Prop} {c:Value} {b:Bool}
inductive TyOf (K:PySem.W.Frag) (H:Hp):V->Value->Prop where
 | non:TyOf K H .non (.type "NoneType")
 | bl (x:Bool):TyOf K H (.bl x) (.type "bool")
 | int (i:Int):TyOf K H (.int i) (.type "int")
 | str (x:Str):TyOf K H (.str x) (.type "str")
 | flt (x:UInt64):TyOf K H (.flt x) (.type "float")
 | lst {a:Addr} {xs:List V} (e:H a=some (.lst xs)):TyOf K H (.ref a) (.type "list")
 | frz {a:Addr} {o:Obj} {xs:List V} (e:H a=some (.frz o (.lst xs))):TyOf K H (.ref a) (.type "list")
 | tup {a:Addr} {xs:List V} (e:H a=some (.tup xs)):TyOf K H (.ref a) (.type "tuple")
 | dK {a:Addr} {kvs:List (Key×V)} (e:H a=some (.dK kvs)):TyOf K H (.ref a) (.type "dict")
 | dT {a:Addr} {kvs:List (List Key×V)} (e:H a=some (.dT kvs)):TyOf K H (.ref a) (.type "dict")
 | ins {a C dx:Addr} {fs:List (Str×V)} (e:H a=some (.ins C dx fs)) (cl:Cls K C) (ha:PySem.W.findIn K (.ref C) "__class__" = some (some (.builtin "object.__class__")))
  (hn:PySem.W.specialIn K (.builtin "object.__class__") "__get__" = some (some (.builtin "getset_descriptor.__get__"))) (htk:PySem.W.takesIn K (.builtin "object.__class__")=some true)
  (hm:PySem.W.mroIn K C (.type "object")=some true):TyOf K H (.ref a) (.ref C)
theorem Rh {x:V} {u t:Value} (I:Inv X pins σ H s) (rx:Vf x u) (ty:TyOf X.K H x t) (e:PySem.W.kitOne X.K t c=some b) (h:∀ tk,Q (.bool b) { s with toks:=tk }) :
  wpAny (model X.prog X.w) A (call (.builtin "isinstance") [u,c]) Q E s:=by
 cases ty with
 | non=>cases (show u=Value.none from rx);exact PySem.W.kia_one PySem.W.kitx_none I.kIn True.intro e (fun z=>nomatch z) h
 | bl y=>cases (show u=Value.bool y from rx);exact PySem.W.kia_one PySem.W.kitx_bool I.kIn True.intro e (fun z=>nomatch z) h
 | int i=>obtain ⟨t,q⟩:=(show ∃ t,u=Value.int i t from rx);cases q;exact PySem.W.kia_one PySem.W.kitx_int I.kIn True.intro e (fun z=>nomatch z) h
 | str y=>obtain ⟨t,q⟩:=(show ∃ t,u=Value.str y t from rx);cases q;exact PySem.W.kia_one PySem.W.kitx_str I.kIn True.intro e (fun z=>nomatch z) h
 | flt y=>obtain ⟨t,q⟩:=(show ∃ t,u=Value.float y t from rx);cases q;exact PySem.W.kia_one PySem.W.kitx_float I.kIn True.intro e (fun z=>nomatch z) h
 | @lst a xs ea =>
  cases (show u=Value.ref a from rx);obtain ⟨_,_,n,_,h1⟩:=(show Wf X.prog X.w H s.heap a (.lst xs) from I.hok a _ ea);exact PySem.W.kia_one kitx_list I.kIn ⟨_,h1,rfl⟩ e (fun z=>nomatch z) h
 | @frz a ob xs ea =>
  cases (show u=Value.ref a from rx);obtain ⟨_,_,_,n,_,h1⟩:=(show Wf X.prog X.w H s.heap a (.frz ob (.lst xs)) from I.hok a _ ea);exact PySem.W.kia_one kitx_list I.kIn ⟨_,h1,rfl⟩ e (fun z=>nomatch z) h
 | @tup a xs ea =>
  cases (show u=Value.ref a from rx);obtain ⟨_,_,_,p⟩:=(show Wf X.prog X.w H s.heap a (.tup xs) from I.hok a _ ea);obtain ⟨o,h1,h2,_⟩:=p;exact PySem.W.kia_one kitx_tuple I.kIn ⟨o,h1,h2⟩ e (fun z=>nomatch z) h
 | @dK a kvs ea =>
  cases (show u=Value.ref a from rx);obtain ⟨_,_,vs,_,p⟩:=(show Wf X.prog X.w H s.heap a (.dK kvs) from I.hok a _ ea);obtain ⟨o,es,ep,h1,h2,_⟩:=p;exact PySem.W.kia_one kitx_dict I.kIn ⟨o,h1,h2.1⟩ e (fun z=>nomatch z) h
 | @dT a kvs ea =>
  cases (show u=Value.ref a from rx);obtain ⟨_,_,xs,_,o,es,ep,h1,h2,_⟩:=(show Wf X.prog X.w H s.heap a (.dT kvs) from I.hok a _ ea);exact PySem.W.kia_one kitx_dict I.kIn ⟨o,h1,h2.1⟩ e (fun z=>nomatch z) h
 | @ins a C dx fs ea cl ha hn htk hm =>
  cases (show u=Value.ref a from rx);obtain ⟨mA,O,_⟩:=Z5n I.hok ea;obtain ⟨od,J,_⟩:=O.look;exact PySem.W.kia_one (PySem.W.kitx_own (cl.get _) cl.hd ha hn htk hm) I.kIn J e (fun z=>nomatch z) h
end
structure Room (k:Nat) (A:Around):Prop where
 hd:A.handled=none
 dp:A.depth+3*k+5<recursionLimit
 un:A.units+16*k+200<cLine
 gd:A.guards=some []
theorem Room.mono {j k:Nat} {A:Around} (r:Room k A) (h:j<=k):Room j A:=⟨r.hd,by have:=r.dp;lia,by have:=r.un;lia,r.gd⟩
theorem Room.deeper {k:Nat} {A:Around} (r:Room (k+1) A) (env:Env):Room k (A.deeper env) :=
 ⟨r.hd,by have:=r.dp;show A.depth+1+3*k+5<_;lia,by have:=r.un;show A.units+3+16*k+200<_;lia,r.gd⟩
theorem F5 {A:Around} {C:Addr} {us:List Value} {kw:List (Str×Value)}:(A.under (.builtin "type.__call__" ⟨.ref C::us,kw⟩)).depth=A.depth+1:=by
 first | rfl | simp [Around.under,Code.weight,Code.isCreation,Code.isGuard,Code.isCaller,Code.frames,Code.isFrame,guardIds]
theorem Fx {A:Around} {C:Addr} {us:List Value} {kw:List (Str×Value)}:(A.under (.builtin "type.__call__" ⟨.ref C::us,kw⟩)).units=A.units+1:=by
 first | rfl | simp [Around.under,Code.cUnits,Code.frames,Code.isFrame]
theorem Room.make {k:Nat} {A:Around} (r:Room (k+1) A) (C:Addr) (us:List Value) (kw:List (Str×Value)):Room k (A.under (.builtin "type.__call__" ⟨.ref C::us,kw⟩)) :=
 ⟨r.hd,by have:=r.dp;rw [F5];lia,by have:=r.un;rw [Fx];lia,r.gd⟩
theorem Room.depth {k:Nat} {A:Around} (r:Room k A):A.depth<recursionLimit:=by have:=r.dp;lia
theorem Room.units {k:Nat} {A:Around} (r:Room k A):A.units+64<cLine:=by have:=r.un;lia
def Zac:TA:=fun _ H Q=>Q [] H
def Bf (ta:TE) (tr:TA):TA:=fun σ H Q=>ta σ H fun x H1=>tr σ H1 fun xs H2=>Q (x::xs) H2
section
variable {X:Cx} {e:Expr} {es:List Expr} {te:TE} {t:TA} {pos:Pos}
theorem Jn:PA X [] Zac:=fun _ _ _ _ H Q I h=>Calls.spliced_nil ⟨[],H,I,.nil,h⟩
theorem Ve (ha:PE X e te) (hr:PA X es t) (hs:starEach (e::es) X.env=(false,eval e X.env)::starEach es X.env:=by rfl):PA X (e::es) (Bf te t):=by
 intro pos pins s σ H Q I h;rw [hs];show wpAny _ _ (spliced ((false,eval e X.env)::backTo pos (starEach es X.env))) _ _ s;refine Calls.spliced_cons (thn (ha pins s σ H _ I h) fun u s1 ⟨x,H1,I1,r1,q1⟩=>?_);exact thn (hr pos pins s1 σ H1 _ I1 q1) fun us s2 ⟨xs,H2,I2,r2,q2⟩=>⟨x::xs,H2,I2,.cons r1 r2,q2⟩
def Zd9 (t:TA):TE:=fun σ H Q=>t σ H fun xs H1=>xs.length<=sizeLine/\∀ p,H1 p=none->Q (.ref p) (upd H1 p (.tup xs))
def Ze5 (t:TA):TE:=fun σ H Q=>t σ H fun xs H1=>xs.length<=sizeLine/\∀ p,H1 p=none->Q (.ref p) (upd H1 p (.lst xs))
theorem Z7f {x1} (h:PA X es t):PE X (.Tuple es x1 pos) (Zd9 t):=by
 intro pins s σ H Q I hq;refine wpAny_Tuple_spliced (thn (h pos pins s σ H _ I hq) fun us s1 ⟨xs,H1,I1,r,z,q⟩=>⟨by rw [← r.length];exact z,?_⟩);have hf:H1 s1.heap.objs.size=none:=I1.hok.fresh (le_refl _);refine ⟨.ref s1.heap.objs.size,upd H1 s1.heap.objs.size (.tup xs),I1.laid (t':=s1.toks) (fun b u e=>get?_push_of_some _ e) (le_refl _) ?_,rfl,q _ hf⟩;exact ⟨z,us,r,⟨_,get?_push_size _ rfl,rfl,_,rfl⟩⟩
theorem Z3m (h:PA X es t):PE X (.List es pos) (Ze5 t):=by
 intro pins s σ H Q I hq;refine wpAny_List_spliced (thn (h pos pins s σ H _ I hq) fun us s1 ⟨xs,H1,I1,r,z,q⟩=>⟨by rw [← r.length];exact z,?_⟩);have hf:H1 s1.heap.objs.size=none:=I1.hok.fresh (le_refl _);refine ⟨.ref s1.heap.objs.size,upd H1 s1.heap.objs.size (.lst xs),I1.laid (t':=s1.toks) (fun b u e=>get?_push_of_some _ e) (le_refl _) ?_,rfl,q _ hf⟩;exact ⟨z,us,0,r,get?_push_size _ rfl⟩
end
abbrev Sp:=List V->Hp->VK->XK->Prop
abbrev CXT:=List Env->Hp->Shared->XK->Value->Shared->Prop
structure Env0 (P:Program) (w:World) (K:PySem.W.Frag) (mg:Str->Option Value) (base:Heap) (A:Around) (outer:List Env) (s:Shared) (H:Hp):Prop where
 frames:A.frames=some outer
 mod:Mod K mg base
 bs:∀ b o,base.get? b=some o->s.heap.get? b=some o/\H b=none
 bsz:base.objs.size<=s.heap.objs.size
 funs:s.heap.FunFrames base outer
 frf:∀ b∈frs outer,H b=none
 hok:HOk P w H s.heap
 bare:AllBare s.gens
def CE (outer:List Env) (P:Program) (w:World) (H:Hp) (s:Shared) (Q:VK) (u:Value) (s':Shared):Prop :=
 ∃ v H',s'.os=s.os/\AllBare s'.gens/\Un (frs outer) [] H H' s.heap s'.heap/\HOk P w H' s'.heap/\Vf v u/\Q v H'
def CR (CX:CXT) (outer:List Env) (P:Program) (w:World) (H:Hp) (s:Shared) (Q:VK) (E:XK) (r:Result) (s':Shared):Prop :=
 match r with
 | .ok (.ret u)=>CE outer P w H s Q u s'
 | .ok _=>False
 | .error e=>CX outer H s E e s'
structure FnOk (P:Program) (w:World) (K:PySem.W.Frag) (mg:Str->Option Value) (base:Heap) (CX:CXT) (k:Nat) (f:Addr) (fd:FuncData) (ps:List Str) (sp:Sp):Prop where
 len:∀ vs H Q E,sp vs H Q E->vs.length=ps.length
 run:∀ (A:Around) (outer:List Env) (s:Shared) (H:Hp) (args:Args) (us:List Value) (vs:List V) (Q:VK) (E:XK),Room k A->Env0 P w K mg base A outer s H->BindsTo s fd args (ps.zip us)->Wa vs us->sp vs H Q E ->
  codeAny (model P w) A (.call (.ref f) args) (CR CX outer P w H s Q E) s
theorem Env0.make {P:Program} {w:World} {K:PySem.W.Frag} {mg:Str->Option Value} {base:Heap} {A:Around} {outer:List Env} {s:Shared} {H:Hp} (e:Env0 P w K mg base A outer s H) (C:Addr) (us:List Value) (kw:List (Str×Value)) :
 Env0 P w K mg base (A.under (.builtin "type.__call__" ⟨.ref C::us,kw⟩)) outer s H:=⟨by first | exact e.frames | (simpa [Around.under,Code.envs,Code.isFrame,pushEnvs] using e.frames),e.mod,e.bs,e.bsz,e.funs,e.frf,e.hok,e.bare⟩
section
variable {X:Cx} {pins:List (Addr×Obj)} {σ:St} {H:Hp} {s s':Shared}
theorem Inv.env0 (I:Inv X pins σ H s):Env0 X.prog X.w X.K X.mg X.base X.A X.stack s H :=
 ⟨I.ok.frames,I.ok.mod,I.bs,le_trans I.ok.bsz I.sz,I.stack,I.stkFree,I.hok,I.bare⟩
theorem Inv.after {Q:VK} {u:Value} (I:Inv X pins σ H s) (h:CE X.stack X.prog X.w H s Q u s'):EP X pins σ Q u s':=by
 obtain ⟨v,H',os,bare,un,hok,r,q⟩:=h;obtain ⟨hh,g,d,t,os'⟩:=s';obtain rfl:os'=s.os:=os;exact ⟨v,H',I.call (h':=hh) (g':=g) (d':=d) (t':=t) (ch:=[]) un hok bare (fun b z=>absurd z (by simp)),r,q⟩
end
def Z8h (sp:Sp) (dvs:List V) (E:XK) (t:TA):TE:=fun σ H Q=>t σ H fun vs H1=>sp (vs++dvs) H1 Q E
def Ih (K:PySem.W.Frag) (fd:FuncData) (ps:List Str) (ds:List Value):Prop :=
 ∀ (s:Shared) (us:List Value),K.In s.heap->(us++ds).length=ps.length->BindsTo s fd ⟨us,[]⟩ (ps.zip (us++ds))
theorem Ih.all {K:PySem.W.Frag} {fd:FuncData} {ps:List Str} (h:∀ us:List Value,us.length=ps.length->bindArgs fd ⟨us,[]⟩=pure (ps.zip us)):Ih K fd ps []:=fun s us _ hl=>by
 rw [append_nil] at hl ⊢;exact .of_eq (h us hl)
def Bo (CX:CXT) (X:Cx) (E:XK):Prop:=∀ (pins:List (Addr×Obj)) (σ:St) (H:Hp) (s:Shared) (e:Value) (s':Shared),Inv X pins σ H s->CX X.stack H s E e s'->X.xe e s'
section
variable {X:Cx} {CX:CXT} {k:Nat} {f C:Addr} {fd:FuncData} {ps:List Str} {sp:Sp} {dvs:List V} {ds:List Value} {E:XK} {x m:Str} {p pos apos:Pos} {e o:Expr} {es:List Expr} {ta:TE} {t:TA}
theorem Z92 {pins:List (Addr×Obj)} {σ:St} {H:Hp} {s:Shared} {Q:VK} {us:List Value} {vs:List V} (F:FnOk X.prog X.w X.K X.mg X.base CX k f fd ps sp) (hr:Room k X.A) (hb:Ih X.K fd ps ds) (hd:Wa dvs ds) (hx:Bo CX X E)
  (I:Inv X pins σ H s) (r:Wa vs us) (h:sp (vs++dvs) H Q E):wpAny (model X.prog X.w) X.A (call (.ref f) us) (EP X pins σ Q) X.xe s:=by
 have r2:Wa (vs++dvs) (us++ds):=r.append hd;have hl:(us++ds).length=ps.length:=by rw [← r2.length];exact F.len _ _ _ _ h
 refine wpAny_call (codeAny_mono (F.run X.A X.stack s H ⟨us,[]⟩ (us++ds) (vs++dvs) Q E hr I.env0 (hb s us I.kIn hl) r2 h) fun r s' hq=>?_);cases r with
 | error e=>exact hx pins σ H s e s' I hq
 | ok fl =>
  cases fl with
  | ret u=>exact I.after hq
  | next=>exact False.elim hq
  | brk=>exact False.elim hq
  | cont=>exact False.elim hq
theorem Z5f (F:FnOk X.prog X.w X.K X.mg X.base CX k f fd ps sp) (hr:Room k X.A) (hg:Gl X x) (hm:X.mg x=some (.ref f)) (hk:PySem.W.keepIn X.K (.ref f)=true) (hb:Ih X.K fd ps ds) (hd:Wa dvs ds) (hx:Bo CX X E)
  (ha:PA X (e::es) t) (hdb:(x==("__debug__" : Str))=false:=by decide) (he:starEach (e::es) X.env=(false,eval e X.env)::starEach es X.env:=by rfl) (hpl:(backTo pos (starEach es X.env)).any (·.1)=false:=by rfl) :
  PE X (.Call (.Name x p) (e::es) [] pos) (Z8h sp dvs E t):=by
 intro pins s σ H Q I h;refine wpAny_Call_Name_kw (Sh I hg hm ?_ hdb);refine PySem.W.callWith_K (h₀:=X.base) I.ok.mod.kin hk (thn (ha pos pins s σ H _ I h) fun us s1 ⟨vs,H1,I1,r,q⟩=>⟨I1.kIn,?_⟩) he hpl;exact Z92 F hr hb hd hx I1 r q
end
section
variable {X:Cx} {CX:CXT} {k:Nat} {f C:Addr} {fd:FuncData} {ps ks:List Str} {sp:Sp} {E:XK} {x m:Str} {p pos apos kpos:Pos} {e o:Expr} {es:List Expr} {kws:List Keyword} {te ta:TE} {t tk:TA} {nm:Option Str}
variable {g:List Value->List Value->List Value} {gV:List V->List V->List V}
end
structure FnScope (N P:List Str) (sc:Scope):Prop where
 kind:sc.kind=.function
 co:sc.isCoroutine=false
 gen:sc.isGenerator=false
 nd:N.Nodup
 pre:N.take P.length=P
 par:∀ x∈P,sc.names.lookup x=some .local\/sc.names.lookup x=some .cell
 nofree:∀ y∈sc.names,y.2≠.free
theorem Lk {kindOf:Str->Option NameKind} {x:Str}:∀ {binds:List (Str×Value)} {m:Str->Option Value},(∀ v,(x,v)∉binds)->bindL kindOf binds m x=m x
 | [],_,_=>rfl
 | (n,v)::r,m,h=>by
   unfold bindL;rw [Lk fun w hw=>h w (mem_cons_of_mem _ hw)];split
   · have:x≠n:=by rintro rfl;exact h v mem_cons_self
     simp [this]
   · rfl
theorem Ls {kindOf:Str->Option NameKind} {x:Str}:∀ {binds:List (Str×Value)} {m:Str->Option Value},(∀ v,(x,v)∉binds)->bindC kindOf binds m x=m x
 | [],_,_=>rfl
 | (n,v)::r,m,h=>by
   unfold bindC;rw [Ls fun w hw=>h w (mem_cons_of_mem _ hw)];split
   · rfl
   · have:x≠n:=by rintro rfl;exact h v mem_cons_self
     simp [this]
theorem Lj {kindOf:Str->Option NameKind} {x:Str} {v:Value}:∀ {P:List Str} {vs:List Value} {i:Nat} {m:Str->Option Value},P.Nodup->P[i]?=some x->vs[i]?=some v->kindOf x=some .local ->
  bindL kindOf (P.zip vs) m x=some v
 | [],_,_,_,_,h,_,_=>by simp at h
 | _::_,[],_,_,_,_,h,_=>by simp at h
 | p::P,w::vs,0,m,nd,h1,h2,hk=>by
  simp at h1 h2;subst h1;subst h2;show bindL kindOf ((p,w)::P.zip vs) m p=_;unfold bindL;rw [Lk fun v hv=>(nodup_cons.mp nd).1 (List.of_mem_zip hv).1,if_pos hk];simp
 | p::P,w::vs,i+1,m,nd,h1,h2,hk=>by
  show bindL kindOf ((p,w)::P.zip vs) m x=_;unfold bindL;exact Lj (i:=i) (nodup_cons.mp nd).2 (by simpa using h1) (by simpa using h2) hk
theorem Ko {kindOf:Str->Option NameKind} {x:Str} {v:Value}:∀ {P:List Str} {vs:List Value} {i:Nat} {m:Str->Option Value},P.Nodup->P[i]?=some x->vs[i]?=some v->kindOf x≠some .local ->
  bindC kindOf (P.zip vs) m x=some v
 | [],_,_,_,_,h,_,_=>by simp at h
 | _::_,[],_,_,_,_,h,_=>by simp at h
 | p::P,w::vs,0,m,nd,h1,h2,hk=>by
  simp at h1 h2;subst h1;subst h2;show bindC kindOf ((p,w)::P.zip vs) m p=_;unfold bindC;rw [Ls fun v hv=>(nodup_cons.mp nd).1 (List.of_mem_zip hv).1,if_neg hk];simp
 | p::P,w::vs,i+1,m,nd,h1,h2,hk=>by
  show bindC kindOf ((p,w)::P.zip vs) m x=_;unfold bindC;exact Ko (i:=i) (nodup_cons.mp nd).2 (by simpa using h1) (by simpa using h2) hk
def start (N:List Str) (vs:List V):St:=vs.map some++List.replicate (N.length - vs.length) none
def Kg (CX:CXT) (P:Program) (w:World) (K:PySem.W.Frag) (mg:Str->Option Value) (base:Heap) (N:List Str) (qual:Str) (scope:Scope) (f:Addr) (cd:Value) (A:Around) (outer:List Env) (s:Shared) (H:Hp) (E:XK):Cx where
 prog:=P
 w:=w
 K:=K
 mg:=mg
 base:=base
 A:=A.deeper (envOfC qual scope s.heap.objs.size f cd)
 N:=N
 s₀:=s
 H₀:=H
 env:=envOfC qual scope s.heap.objs.size f cd
 outer:=outer
 stack:=envOfC qual scope s.heap.objs.size f cd::outer
 ex:=[]
 calm:=true
 fn:=fun _=>true
 pn:=[]
 xe:=fun e s'=>wpAny (model P w) (A.deeper (envOfC qual scope s.heap.objs.size f cd)) (leaving (envOfC qual scope s.heap.objs.size f cd) e) (fun _ s''=>CX outer H s E e s'') (fun e' s''=>CX outer H s E e' s'') s'
theorem Pd {sc:Scope} {n:Nat} {x:Str} (h:sc.names.lookup x=some .cell):∃ c,(cellsFrom n sc.names []).lookup x=some c:=by
 have q:=PySem.W.cellsFrom_some sc.names n [] (.inl h);exact Option.isSome_iff_exists.mp q
theorem Ap {CX:CXT} {P:Program} {w:World} {K:PySem.W.Frag} {mg:Str->Option Value} {base:Heap} {N ps:List Str} {qual:Str} {scope:Scope} {f:Addr} {cd:Value} {A:Around} {outer:List Env} {s s1:Shared} {H:Hp} {E:XK} {us:List Value} {vs:List V}
  (S:FnScope N ps scope) (hd:A.handled=none) (e0:Env0 P w K mg base A outer s H) (hl:vs.length=ps.length) (r:Wa vs us)
  (x:InCallC s s.heap.objs.size (bindL (envOfC qual scope s.heap.objs.size f cd).kindOf (ps.zip us) fun _=>none) (cellsFrom (s.heap.objs.size+1) scope.names []) (bindC (envOfC qual scope s.heap.objs.size f cd).kindOf (ps.zip us) fun _=>none) s1) :
  Inv (Kg CX P w K mg base N qual scope f cd A outer s H E) [] (start N vs) H s1:=by
 have hpl:ps.length<=N.length:=by have:=congrArg List.length S.pre;rw [length_take] at this;lia
 obtain ⟨h1,tk,rfl,hk⟩:=x.done;have noA:∀ b:Addr,b∉(Kg CX P w K mg base N qual scope f cd A outer s H E).ex:=fun b z=>absurd (show b∈([]:List Addr) from z) (by simp)
 refine ⟨⟨e0.mod,S.kind,rfl,rfl,le_refl _,fun y z c h1 h2=>?_,fun y hy=>?_,fun y c _ h=>?_,fun _=>hd,Around.frames_deeper e0.frames,.inr ⟨rfl,rfl⟩,fun b z=>absurd z (noA b),e0.bs,e0.bsz,fun b _ _=>noA b,fun b z=>absurd z (noA b),e0.funs,e0.frf⟩,
  rfl,e0.bare,Un.kept hk,⟨_,x.toInCall.ns,fun i y v h1 h2 h3=>?_⟩,fun y c h=>⟨_,x.cell y c h⟩,e0.hok.fresh (le_refl _),fun y c h=>?_,fun p hp=>absurd (show p∈([]:List (Addr×Obj)) from hp) (by simp),e0.hok.kept hk,?_⟩
 ·exact name_of_addr x.apart (PySem.mem_of_lookup h1) (PySem.mem_of_lookup h2)
 ·have hy:scope.names.lookup y=some .cell\/scope.names.lookup y=some .free:=hy
  rcases hy with hy | hy
  ·exact Pd hy
  ·exact absurd rfl (S.nofree _ (PySem.mem_of_lookup hy))
 ·exact le_of_lt (x.above y c (PySem.mem_of_lookup h))
 ·have hi:i<vs.length:=by
   unfold start at h2;by_cases hi:i<vs.length
   ·exact hi
   ·rw [getElem?_append_right (by simpa using hi)] at h2
    rw [List.getElem?_replicate] at h2;split at h2<;>cases h2
  have ha:vs[i]?=some v:=by
   unfold start at h2;rw [getElem?_append_left (by simpa using hi),getElem?_map] at h2;cases e:vs[i]? with
   | none=>rw [e] at h2;cases h2
   | some a=>rw [e] at h2;cases h2;rfl
  obtain ⟨u,hu,rv⟩:=r.get ha;have hp:ps[i]?=some y:=by
   rw [← S.pre,List.getElem?_take_of_lt (by lia)];exact h1
  have ndP:ps.Nodup:=by rw [← S.pre];exact S.nd.sublist (List.take_sublist _ _)
  refine ⟨u,rv,?_⟩;rcases S.par y (mem_of_getElem? hp) with k | k
  ·exact .inl ⟨k,Lj ndP hp hu k⟩
  ·obtain ⟨c,e⟩:=Pd (n:=s.heap.objs.size+1) k
   refine .inr ⟨.inl k,c,e,?_⟩;have q:=x.cell y c e;rw [Ko ndP hp hu (by show scope.names.lookup y≠_;rw [k];decide)] at q;exact q
 ·exact e0.hok.fresh (le_of_lt (x.above y c (PySem.mem_of_lookup h)))
 ·unfold start
  show _=N.length;rw [length_append,length_map,length_replicate];lia
theorem Z8o {CX:CXT} {P:Program} {w:World} {K:PySem.W.Frag} {mg:Str->Option Value} {base:Heap} {k:Nat} {f:Addr} {name qual:Str} {params:Arguments} {body:List Stmt} {scope:Scope} {dV kV doc pm cdv ct oc:Value} {an od:Option Addr}
  {osl:Array (Option Value)} {N ps:List Str} {sp:Sp} (lk:K.lookup f=some ⟨oc,od,.func (fnOf name qual params body scope dV kV doc pm an cdv ct),osl⟩) (hcd:codeIn K cdv qual=true) (S:FnScope N ps scope)
  (len:∀ vs H Q E,sp vs H Q E->vs.length=ps.length)
  (hbody:∀ (A:Around) (outer:List Env) (s:Shared) (H:Hp) (vs:List V) (Q:VK) (E:XK),Room k (A.deeper (envOfC qual scope s.heap.objs.size f cdv))->sp vs H Q E ->
   ∃ t,PSs (Kg CX P w K mg base N qual scope f cdv A outer s H E) body t/\t { nx:=fun _ H'=>Q .non H',rt:=Q } (start N vs) H) :
  FnOk P w K mg base CX (k+1) f (fnOf name qual params body scope dV kV doc pm an cdv ct) ps sp:=by
 refine ⟨len,fun A outer s H args us vs Q E hr e0 hb r hsp=>?_⟩;have hl:=len _ _ _ _ hsp;have KX:K.In s.heap:=e0.mod.kin.keeps fun b o e=>(e0.bs b o e).1
 have lim:s.heap.NoLimit:=e0.mod.nolimit.keeps fun b o e=>(e0.bs b o e).1
 have hkind:∀ y∈ps.zip us,scope.names.lookup y.1=some .local\/(scope.names.lookup y.1=some .cell/\((cellsFrom (s.heap.objs.size+1) scope.names []).lookup y.1).isSome=true):=fun ⟨n,v⟩ hy=>by
  rcases S.par n (List.of_mem_zip hy).1 with q | q
  ·exact .inl q
  ·exact .inr ⟨q,PySem.W.cellsFrom_some _ _ _ (.inl q)⟩
 refine codeAny_call_function hr.depth (KX _ _ lk) rfl S.co S.gen rfl (PySem.W.codeRec_of KX hcd) (hb _ _ _ _ ?_);refine wpAny_newFunctionEnv_cells S.kind hkind fun env he s1 x=>?_
 subst he;refine ⟨lim.keeps x.toInCall.keep,codeAny_func ?_⟩;obtain ⟨t,ht,hq⟩:=hbody A outer s H vs Q E (hr.deeper _) hsp;have I:Inv (Kg CX P w K mg base N qual scope f cdv A outer s H E) [] (start N vs) H s1:=Ap S hr.hd e0 hl r x;refine wpAny_mono (ht [] s1 (start N vs) H _ I hq) (fun fl s' hs=>?_) fun e s' hs=>hs
 have fin:∀ {σ':St} {H':Hp} {v:V} {u:Value},Inv (Kg CX P w K mg base N qual scope f cdv A outer s H E) [] σ' H' s'->Vf v u->Q v H'->CE outer P w H s Q u s' :=
  fun {σ' H' v u} J rv q=>⟨v,H',J.os,J.bare,J.base,J.hok,rv,q⟩
 cases fl with
 | ret u =>
  obtain ⟨v,σ',H',J,rv,q⟩:=hs;exact fin J rv q
 | next =>
  obtain ⟨σ',H',J,q⟩:=hs;exact fin (v:=V.non) (u:=Value.none) J rfl q
 | brk =>
  obtain ⟨_,_,_,q⟩:=hs;exact False.elim q
 | cont =>
  obtain ⟨_,_,_,q⟩:=hs;exact False.elim q
section
variable {X:Cx} {x:Str} {p pos:Pos} {e:Expr} {es:List Expr} {t:TA} {id T:String} {r:List V->Hp->VK->Prop}
def tCB (r:List V->Hp->VK->Prop) (t:TA):TE:=fun σ H Q=>t σ H fun vs H1=>r vs H1 Q
theorem Rl (hc:Uq X (.builtin id) r) (hg:Gl X x) (hm:X.mg x=none) (hv:bootBuiltins x=some (.builtin id)) (ha:PA X (e::es) t) (hn:x≠"__name__" := by decide) (hdb:(x==("__debug__" : Str))=false:=by decide)
  (he:starEach (e::es) X.env=(false,eval e X.env)::starEach es X.env:=by rfl) (hpl:(backTo pos (starEach es X.env)).any (·.1)=false:=by rfl):PE X (.Call (.Name x p) (e::es) [] pos) (tCB r t):=by
 intro pins s σ H Q I h;refine wpAny_Call_Name_kw (Ri I hg hm hv ?_ hn hdb);exact PyProof.Rows.callWith_builtin1 (thn (ha pos pins s σ H _ I h) fun us s1 ⟨vs,H1,I1,r1,q1⟩=>hc pins s1 σ H1 vs us Q I1 r1 q1) he hpl
theorem Rx (hc:Uq X (.type T) r) (hg:Gl X x) (hm:X.mg x=none) (hv:bootBuiltins x=some (.type T)) (ha:PA X (e::es) t) (hn:x≠"__name__" := by decide) (hdb:(x==("__debug__" : Str))=false:=by decide)
  (he:starEach (e::es) X.env=(false,eval e X.env)::starEach es X.env:=by rfl) (hpl:(backTo pos (starEach es X.env)).any (·.1)=false:=by rfl):PE X (.Call (.Name x p) (e::es) [] pos) (tCB r t):=by
 intro pins s σ H Q I h;refine wpAny_Call_Name_kw (Ri I hg hm hv ?_ hn hdb);exact PyProof.Rows.callWith_type1 (thn (ha pos pins s σ H _ I h) fun us s1 ⟨vs,H1,I1,r1,q1⟩=>hc pins s1 σ H1 vs us Q I1 r1 q1) he hpl
end
end L2
namespace HT
open PySem PyProof.Rows
section
open PySem.SeqAt
open PySem.AutoSeq1 (wpAny_loadPart')
open PySem.MeetsSeq PySem.MeetsSeq2 PySem.MeetsSeq3
end
section
variable {prog:Program} {w:World} {A:Around} {E:Value->Shared->Prop} {s:Shared}
theorem cat_tup {t b:Addr} {vs ws:List Value} {Q:Value->Shared->Prop} (ht:IsTup s.heap t vs.toArray) (hb:IsTup s.heap b ws.toArray) (hv:vs≠[])
  (h1:ws=[]->Q (.ref t) s) (h2:ws≠[]->Q (.ref s.heap.objs.size) { s with heap:=s.heap.push { cls:=.type "tuple",data:=.seq (vs++ws).toArray } })
  (hsz:vs.length+ws.length<=sizeLine):wpAny (model prog w) A (binaryOp .Add (.ref t) (.ref b)) Q E s:=by
 obtain ⟨⟨cls,dd,data,sl⟩,ho,hc,n,hd⟩:=id ht;obtain ⟨⟨cls2,dd2,data2,sl2⟩,ho2,hc2,n2,hd2⟩:=id hb;simp only at hc hd hc2 hd2;subst hc hd hc2 hd2;have e:vs.toArray++ws.toArray=(vs++ws).toArray:=by simp
 by_cases hw:ws=[]
 ·exact concat_meets ⟨_,ho,rfl⟩ ⟨_,ho2,rfl⟩ noFill_tuple_add seq_tuple_add PySem.F.slot_tuple_add PySem.F.entry_tuple_add (PySem.F.args_tuple_add_2 _ _)
   (tuple_addW1 t b vs.toArray ws.toArray n n2 dd dd2 sl sl2 (by simpa using hv) (by simp [hw])) ⟨ho,ho2,h1 hw⟩
 ·refine concat_meets ⟨_,ho,rfl⟩ ⟨_,ho2,rfl⟩ noFill_tuple_add seq_tuple_add PySem.F.slot_tuple_add PySem.F.entry_tuple_add (PySem.F.args_tuple_add_2 _ _)
   (tuple_addW2 t b vs.toArray ws.toArray n n2 dd dd2 sl sl2 (by simpa using hv) (by simpa using hw) (by rw [size_toArray,size_toArray];exact hsz)) ⟨ho,ho2,?_⟩
  rw [e];exact h2 hw
def sIx (n d:Nat):Option Int->Nat
 | none=>d
 | some v=>if v<0 then (v+(n:Int)).toNat else min v.toNat n
theorem sIx_none (n d:Nat):sIx n d none=d:=rfl
theorem sIx_nat (n d k:Nat):sIx n d (some (k:Int))=min k n:=by
 show (if (k:Int)<0 then ((k:Int)+(n:Int)).toNat else min (k:Int).toNat n)=min k n;rw [if_neg (by lia),Int.toNat_natCast]
theorem sIx_le (n d:Nat) (hd:d<=n) (o:Option Int):sIx n d o<=n:=by
 cases o with
 | none=>exact hd
 | some v =>
  show (if v<0 then (v+(n:Int)).toNat else min v.toNat n)<=n;by_cases hv:v<0
  ·rw [if_pos hv];lia
  ·rw [if_neg hv];exact Nat.min_le_right _ _
theorem clip_eq (v:Int) (n d:Nat):(if v<0 then max (v+(n:Int)) 0 else min v (n:Int))=((sIx n d (some v):Nat):Int):=by
 show (if v<0 then max (v+(n:Int)) 0 else min v (n:Int))=(((if v<0 then (v+(n:Int)).toNat else min v.toNat n):Nat):Int);by_cases hv:v<0
 ·simp only [if_pos hv];lia
 ·simp only [if_neg hv];lia
theorem Fz (lo hi:Option Int) (n:Nat):Builtin.Slice.sliceAdjust lo hi 1 (n:Int)=(((sIx n 0 lo:Nat):Int),((sIx n n hi:Nat):Int)):=by
 have h1:¬ ((1:Int)<0):=by lia
 unfold Builtin.Slice.sliceAdjust;simp only [h1,if_false];refine Prod.ext ?_ ?_
 ·cases lo with
  | none=>rfl
  | some v=>exact clip_eq v n 0
 ·cases hi with
  | none=>rfl
  | some v=>exact clip_eq v n n
theorem Fv (i j:Nat):Builtin.Slice.slicePlaces (i:Int) (j:Int) 1=j - i:=by
 unfold Builtin.Slice.slicePlaces;have h1:(1:Int) > 0:=by lia
 simp only [h1,if_true,Int.ediv_one];split<;>lia
theorem Hl {v:Value} {o:Option Int} {Q:Option Int->Shared->Prop} (p:IsPart v o) (h:Q o s):wpAny (model prog w) A (Builtin.Slice.slicePartIndex v) Q E s:=by
 cases p with
 | none=>exact slicePart_none h
 | int i t=>exact slicePart_int h
theorem Jp {sl:Addr} {vl vu:Value} {lo hi:Option Int} {n:Nat} {Q:Int×Int×Nat->Shared->Prop} (hs:s.heap.IsSliceOf sl vl vu .none) (pl:IsPart vl lo) (pu:IsPart vu hi)
   (h:Q (((sIx n 0 lo:Nat):Int),1,sIx n n hi - sIx n 0 lo) s):wpAny (model prog w) A (Builtin.Slice.sliceApplied (.ref sl) (pure (n:Int))) Q E s:=by
 obtain ⟨os,hos,hcs,hds⟩:=id hs;unfold Builtin.Slice.sliceApplied Builtin.Slice.sliceFields;refine wpAny_bind (wpAny_bind (wpAny_field hos hds (x:=vl) rfl (wpAny_bind (wpAny_field hos hds (x:=vu) rfl (wpAny_bind (wpAny_field hos hds (x:=.none) rfl (wpAny_pure ?_)))))));refine wpAny_bind (slicePart_none ?_);show wpAny _ _ (if ((1:Int)==0)=true then _ else _) _ _ s;rw [if_neg (by decide)];refine wpAny_bind (Hl pl (wpAny_bind (Hl pu (wpAny_bind (wpAny_pure ?_)))));show wpAny _ _ (match Builtin.Slice.sliceAdjust lo hi 1 (n:Int) with | (lo,hi)=>pure (lo,(1:Int),Builtin.Slice.slicePlaces lo hi 1)) _ _ s;rw [Fz lo hi n];show wpAny _ _ (pure (((sIx n 0 lo:Nat):Int),(1:Int),Builtin.Slice.slicePlaces ((sIx n 0 lo:Nat):Int) ((sIx n n hi:Nat):Int) 1)) _ _ s;rw [Fv];exact wpAny_pure h
theorem Z19 (xs:Array Value) (i k:Nat):((List.range k).filterMap fun (m:Nat)=>xs[((i:Int)+(m:Int)*1).toNat]?).toArray=((xs.toList.drop i).take k).toArray:=by
 have e:(fun (m:Nat)=>xs[((i:Int)+(m:Int)*1).toNat]?)=fun m=>xs[i+m]?:=by
  funext m
  have:((i:Int)+(m:Int)*1).toNat=i+m:=by lia
  rw [this]
 rw [e];have:=pick_run xs i k;rw [List.filterMap_map] at this;have e2:((fun x=>xs[x]?) ∘ fun x=>i+x)=fun m=>xs[i+m]?:=rfl
 rw [e2] at this;rw [this]
theorem getItem_tuple_cut {t sl:Addr} {items:Array Value} {vl vu:Value} {lo hi:Option Int} {Q:Value->Shared->Prop} (ht:IsTup s.heap t items) (hs:s.heap.IsSliceOf sl vl vu .none) (pl:IsPart vl lo) (pu:IsPart vu hi)
   (hw:¬ (sIx items.size 0 lo=0/\sIx items.size items.size hi=items.size))
   (h:Q (.ref s.heap.objs.size) { s with heap:=s.heap.push { cls:=.type "tuple",data:=.seq ((items.toList.drop (sIx items.size 0 lo)).take (sIx items.size items.size hi - sIx items.size 0 lo)).toArray } })
   (hsz:items.size<=sizeLine):wpAny (model prog w) A (getItem (.ref t) (.ref sl)) Q E s:=by
 have htake:sizeOk (.seq ((items.toList.drop (sIx items.size 0 lo)).take (sIx items.size items.size hi - sIx items.size 0 lo)).toArray):=by
   show ((items.toList.drop (sIx items.size 0 lo)).take (sIx items.size items.size hi - sIx items.size 0 lo)).toArray.size<=sizeLine;rw [size_toArray,length_take,length_drop,Array.length_toList];lia
 have hj:sIx items.size items.size hi<=items.size:=sIx_le _ _ (le_refl _) hi;obtain ⟨os,hos,hcs,hds⟩:=id hs;have hTs:s.TypeIs (.ref sl) "slice" := ⟨os,hos,hcs⟩;unfold getItem;try with_reducible refine wpAny_holding ?_
 first | refine wpAny_bind (wpAny_pure ?_) | skip
 refine wpAny_bind (wpAny_sequenceKey ht.typeIs (by decide) ?_);refine wpAny_bind (wpAny_callSpecial?_slot (name:=Str.ofString "__getitem__") ht.typeIs PyProof.Rows.slot_tuple_getitem
   (wpAny_call_entry PyProof.Rows.slot_tuple_getitem ht.typeIs entry_tuple_getitem ?_ (args_tuple_getitem _ _)))
 show wpAny _ _ (Builtin.Tuple.tupleItemsOf (.ref t) >>= _) _ _ s;refine wpAny_bind (tupleItemsOf_ ht ?_);refine wpAny_bind (wpAny_typeOf hTs ?_);rw [if_pos (by decide)];refine wpAny_bind (Jp hs pl pu ?_);have hno:¬ ((((sIx items.size 0 lo:Nat):Int)==0&&(1:Int)==1&&(sIx items.size items.size hi - sIx items.size 0 lo)==items.size)=true):=by
   intro q;rw [Bool.and_eq_true,Bool.and_eq_true] at q;have q1:((sIx items.size 0 lo:Nat):Int)=0:=eq_of_beq q.1.1;have q2:sIx items.size items.size hi - sIx items.size 0 lo=items.size:=eq_of_beq q.2;exact hw ⟨by lia,by lia⟩
 show wpAny _ _ (if (((sIx items.size 0 lo:Nat):Int)==0&&(1:Int)==1&&(sIx items.size items.size hi - sIx items.size 0 lo)==items.size)=true then _ else _) _ _ s;rw [if_neg hno,Z19];first
   | exact wpAny_bind (m:=Builtin.Tuple.tupleExact _) (wpAny_newObj_type (wpAny_pure ⟨_,rfl,wpAny_pure h⟩) htake)
   | exact wpAny_bind (m:=Builtin.Tuple.tupleExact _) (wpAny_newObj_type (wpAny_bind (wpAny_pure (wpAny_pure ⟨_,rfl,wpAny_pure h⟩))) htake)
   | exact wpAny_bind (wpAny_bind (m:=Builtin.Tuple.tupleExact _) (wpAny_newObj_type (wpAny_pure (wpAny_pure ⟨_,rfl,wpAny_pure h⟩)) htake))
   | exact wpAny_bind (wpAny_bind (m:=Builtin.Tuple.tupleExact _) (wpAny_newObj_type (wpAny_pure ⟨_,rfl,wpAny_pure h⟩) htake))
end
end HT
namespace L2
open PySem PySem.Spec PyProof.Rows
abbrev TO:=St->Hp->(Option Int->Hp->Prop)->Prop
def PO (X:Cx) (e:Option Expr) (t:TO):Prop :=
 ∀ (pins:List (Addr×Obj)) (s:Shared) (σ:St) (H:Hp) (Q:Option Int->Hp->Prop),Inv X pins σ H s->t σ H Q ->
  wpAny (model X.prog X.w) X.A (evalPart e X.env) (fun u s'=>∃ o H',Inv X pins σ H' s'/\IsPart u o/\Q o H') X.xe s
def Z42:TO:=fun _ H Q=>Q none H
def Zb0 (t:TE):TO:=fun σ H Q=>t σ H fun x H1=>∃ i,x=.int i/\Q (some i) H1
theorem Gv {ns:List Int}:∀ {us:List Value},Wa (ns.map V.int) us->IntsAre us ns:=by
 induction ns with
 | nil=>intro us r;rw [map_nil] at r;cases r;exact .nil
 | cons n ns ih =>
  intro us r;rw [map_cons] at r;cases r with
  | cons r1 r2 =>
   obtain ⟨t,e⟩:=r1;subst e;exact .cons n t (ih r2)
section
variable {X:Cx} {e:Expr} {te:TE} {lo hi:Option Expr} {tl th:TO} {pos p2:Pos}
theorem Z43:PO X none Z42:=by
 intro pins s σ H Q I h;rw [evalPart_none];exact wpAny_pure ⟨none,H,I,.none,h⟩
theorem Z58 (h:PE X e te):PO X (some e) (Zb0 te):=by
 intro pins s σ H Q I hw;rw [evalPart_some];refine thn (h pins s σ H _ I hw) fun u s1 ⟨x,H1,I1,r1,q1⟩=>?_
 obtain ⟨i,rfl,q⟩:=q1;obtain ⟨t,rfl⟩:=r1;exact ⟨some i,H1,I1,.int i t,q⟩
def SlR (X:Cx) (r:V->Option Int->Option Int->Hp->VK->Prop):Prop :=
 ∀ (pins:List (Addr×Obj)) (s:Shared) (σ:St) (H:Hp) (x:V) (v vl vu:Value) (lo hi:Option Int) (sl:Addr) (Q:VK),Inv X pins σ H s->Vf x v->s.heap.IsSliceOf sl vl vu .none->IsPart vl lo->IsPart vu hi->r x lo hi H Q ->
  ∃ T id,typeLookup (.type T) "__getitem__" = pure (some (.builtin id))/\s.TypeIs v T/\wpAny (model X.prog X.w) X.A (getItem v (.ref sl)) (EP X pins σ Q) X.xe s
theorem SlR.or {r r':V->Option Int->Option Int->Hp->VK->Prop} (h:SlR X r) (h':SlR X r'):SlR X (fun x lo hi H Q=>r x lo hi H Q\/r' x lo hi H Q):=by
 intro pins s σ H x v vl vu lo hi sl Q I rx hs pl pu q;rcases q with q | q
 ·exact h pins s σ H x v vl vu lo hi sl Q I rx hs pl pu q
 ·exact h' pins s σ H x v vl vu lo hi sl Q I rx hs pl pu q
def tSl (r:V->Option Int->Option Int->Hp->VK->Prop) (te:TE) (tl th:TO):TE:=fun σ H Q=>te σ H fun x H1=>tl σ H1 fun l H2=>th σ H2 fun u H3=>r x l u H3 Q
theorem Z1o {r:V->Option Int->Option Int->Hp->VK->Prop} (hr:SlR X r) (he:PE X e te) (hl:PO X lo tl) (hu:PO X hi th):PE X (.Subscript e (.Slice lo hi none p2) pos) (tSl r te tl th):=by
 intro pins s σ H Q I h;refine Subscript_ (thn (he pins s σ H _ I h) fun v s1 ⟨x,H1,I1,r1,q1⟩=>?_);refine wpAny_Slice (thn (hl pins s1 σ H1 _ I1 q1) fun vl s2 ⟨l,H2,I2,pl,q2⟩=>thn (hu pins s2 σ H2 _ I2 q2) fun vu s3 ⟨u,H3,I3,pu,q3⟩=>?_);rw [evalPart_none];refine wpAny_pure ?_;have I4:Inv X pins σ H3 { s3 with heap:=s3.heap.push { cls:=.type "slice",data:=.fields #[vl,vu,.none] } }:=I3.kept (t':=s3.toks) fun b ob q=>get?_push_of_some _ q
 obtain ⟨T,id,hT,ht,hg⟩:=hr pins { s3 with heap:=s3.heap.push { cls:=.type "slice",data:=.fields #[vl,vu,.none] } } σ H3 x v vl vu l u s3.heap.objs.size Q I4 r1 (Heap.IsSliceOf.new ..) pl pu q3;show wpAny (model X.prog X.w) X.A (subscriptTail e (.Slice lo hi none p2) v (.ref s3.heap.objs.size)) (EP X pins σ Q) X.xe { s3 with heap:=s3.heap.push { cls:=.type "slice",data:=.fields #[vl,vu,.none] } };exact tail_any (ops:=[.ref s3.heap.objs.size,v]) ht hT hg (by with_unfolding_all rfl)
def Z3c (xs:List V) (lo hi:Option Int):List V:=(xs.drop (HT.sIx xs.length 0 lo)).take (HT.sIx xs.length xs.length hi - HT.sIx xs.length 0 lo)
theorem Eu (xs:List V) (lo hi:Option Int):(Z3c xs lo hi).length<=xs.length:=by
 unfold Z3c;rw [length_take,length_drop];lia
def Zcs (K:PySem.W.Frag):V->Option Int->Option Int->Hp->VK->Prop:=fun x lo hi H Q=>∃ a xs,x=.ref a/\SqT K H a xs /\
 ¬ (HT.sIx xs.length 0 lo=0/\HT.sIx xs.length xs.length hi=xs.length)/\∀ p,H p=none->Q (.ref p) (upd H p (.tup (Z3c xs lo hi)))
theorem Z8j:SlR X (Zcs X.K):=by
 intro pins s σ H x v vl vu lo hi sl Q I rx hs pl pu h;obtain ⟨a,xs,rfl,hx,hw,q⟩:=h;cases rx;obtain ⟨its,r,ht,hz⟩:=I.tuple hx;have hlen:its.toArray.size=xs.length:=by rw [size_toArray];exact r.length.symm
 refine ⟨"tuple",_,PyProof.Rows.slot_tuple_getitem.lookup,ht.typeIs,?_⟩;refine HT.getItem_tuple_cut ht hs pl pu (by rw [hlen];exact hw) ?_ (by rw [hlen];exact hz);rw [hlen];refine ⟨.ref s.heap.objs.size,_,I.laid (t':=s.toks) (o:=.tup (Z3c xs lo hi)) (fun b ob q=>get?_push_of_some _ q) (le_refl _) ?_,rfl,q _ (I.hok.fresh (le_refl _))⟩;exact ⟨le_trans (Eu xs lo hi) hz,_,(r.drop (HT.sIx xs.length 0 lo)).take (HT.sIx xs.length xs.length hi - HT.sIx xs.length 0 lo),IsTup.new _ _⟩
def Zat (K:PySem.W.Frag):R2:=fun x y H Q=>∃ a b xs ys,x=.ref a/\y=.ref b/\SqT K H a xs/\SqT K H b ys/\xs≠[]/\xs.length+ys.length<=sizeLine /\
 (ys=[]->Q (.ref a) H)/\(ys≠[]->∀ p,H p=none->Q (.ref p) (upd H p (.tup (xs++ys))))
theorem Wa.nil_iff {xs:List V} {us:List Value} (r:Wa xs us):us=[]↔xs=[]:=by
 cases r with
 | nil=>simp
 | cons _ _=>simp
theorem Z5d:OpR X (binaryOp .Add) (Zat X.K):=by
 intro pins s σ H x y v u Q I rx ry h;obtain ⟨a,b,xs,ys,rfl,rfl,ha,hb,hx,hz,q1,q2⟩:=h;cases rx;cases ry;obtain ⟨its,r1,p1,_⟩:=I.tuple ha;obtain ⟨its2,r2,p2,_⟩:=I.tuple hb;refine HT.cat_tup p1 p2 (fun z=>hx (r1.nil_iff.mp z)) (fun z=>⟨.ref a,H,I,rfl,q1 (r2.nil_iff.mp z)⟩) (fun z=>?_) (by rw [← r1.length,← r2.length];exact hz);refine ⟨.ref s.heap.objs.size,_,I.laid (t':=s.toks) (o:=.tup (xs++ys)) (fun b ob q=>get?_push_of_some _ q) (le_refl _) ?_,rfl,q2 (fun w=>z (r2.nil_iff.mpr w)) _ (I.hok.fresh (le_refl _))⟩;exact ⟨by rw [length_append];exact hz,_,r1.append r2,IsTup.new _ _⟩
end
def ixN (n:Nat) (i:Int):Option Nat:=if 0<=i then (if i<n then some i.toNat else none) else if -(n:Int)<=i then some (i+n).toNat else none
def atI {α:Type} (xs:List α) (i:Int):Option α:=(ixN xs.length i).bind fun j=>xs[j]?
theorem Z0f {n:Nat} {i:Int} {j:Nat} (h:ixN n i=some j):seqIndex? i n=some j/\j<n/\-(n:Int)<=i/\i<n:=by
 unfold ixN at h;by_cases h0:0<=i
 ·rw [if_pos h0] at h
  by_cases h1:i<n
  ·rw [if_pos h1] at h
   have e:i.toNat=j:=Option.some.inj h;exact ⟨by rw [seqIndex_of h0 h1,e],by lia,by lia,h1⟩
  ·rw [if_neg h1] at h;cases h
 ·rw [if_neg h0] at h
  by_cases h1 : -(n:Int)<=i
  ·rw [if_pos h1] at h
   have e:(i+n).toNat=j:=Option.some.inj h;exact ⟨by rw [seqIndex_neg (by lia) h1,e],by lia,h1,by lia⟩
  ·rw [if_neg h1] at h;cases h
theorem Nw {α:Type} {xs:List α} {i:Int} {v:α} (h:atI xs i=some v):∃ j,seqIndex? i xs.length=some j/\xs[j]?=some v/\j<xs.length/\-(xs.length:Int)<=i/\i<xs.length:=by
 unfold atI at h;cases e:ixN xs.length i with
 | none=>rw [e] at h;cases h
 | some j =>
  rw [e] at h;obtain ⟨h1,h2,h3,h4⟩:=Z0f e;exact ⟨j,h1,h,h2,h3,h4⟩
theorem Ew {α:Type} {xs:List α} {j:Nat} {v:α} (h:xs[j]?=some v):atI xs (j:Int)=some v:=by
 have hj:j<xs.length:=(List.getElem?_eq_some_iff.mp h).1;have e:ixN xs.length (j:Int)=some j:=by
  unfold ixN;rw [if_pos (by lia),if_pos (by lia)];simp
 unfold atI;rw [e];exact h
def Hz (b:Expr):Prop:=∀ o i,subscripted b false o i=operate [o,i] (getItem o i)
def IxR (X:Cx) (r:R2):Prop :=
 ∀ (value slice:Expr) (pins:List (Addr×Obj)) (s:Shared) (σ:St) (H:Hp) (x y:V) (v u:Value) (Q:VK),Inv X pins σ H s->Vf x v->Vf y u->r x y H Q ->
  subscripted slice false v u=operate [v,u] (getItem v u)->wpAny (model X.prog X.w) X.A (subscriptTail value slice v u) (EP X pins σ Q) X.xe s
def MtR (X:Cx) (id:String) (r:V->List V->Hp->VK->Prop):Prop :=
 ∀ (pins:List (Addr×Obj)) (s:Shared) (σ:St) (H:Hp) (x:V) (xs:List V) (v:Value) (us:List Value) (Q:VK),Inv X pins σ H s->Vf x v->Wa xs us->r x xs H Q ->
  wpAny (model X.prog X.w) X.A (call (.builtin id) (v::us)) (EP X pins σ Q) X.xe s
section
variable {X:Cx} {a b:Expr} {ta tb:TE} {pos:Pos}
theorem IxR.or {r r':R2} (h:IxR X r) (h':IxR X r'):IxR X (fun x y H Q=>r x y H Q\/r' x y H Q):=by
 intro value slice pins s σ H x y v u Q I rx ry q hs;rcases q with q | q
 ·exact h value slice pins s σ H x y v u Q I rx ry q hs
 ·exact h' value slice pins s σ H x y v u Q I rx ry q hs
theorem Z4s {r:R2} (hr:IxR X r) (ha:PE X a ta) (hb:PE X b tb) (hs:Hz b):PE X (.Subscript a b pos) (tOp r ta tb):=by
 intro pins s σ H Q I h;exact Subscript_ (Zb4 ha hb I h fun v u s2 x y H2 I2 rx ry q=>hr a b pins s2 σ H2 x y v u Q I2 rx ry q (hs _ _))
def Zcf (K:PySem.W.Frag):R2:=fun x y H Q=>∃ p xs i v,x=.ref p/\y=.int i/\SqL K H p xs/\atI xs i=some v/\Q v H
def Zcz (K:PySem.W.Frag):R2:=fun x y H Q=>∃ p xs i v,x=.ref p/\y=.int i/\SqT K H p xs/\atI xs i=some v/\Q v H
def Zcm:R2:=fun x y H Q=>∃ z i c,x=.str z/\y=.int i/\z.length<=sizeLine/\atI z.cps.toList i=some c/\Q (.str ⟨#[c]⟩) H
theorem Ob:IxR X (Zcf X.K):=by
 intro value slice pins s σ H x y v u Q I rx ry h hs;obtain ⟨p,xs,i,z,rfl,rfl,hq,he,q⟩:=h;cases rx;obtain ⟨t,rfl⟩:=ry;obtain ⟨its,r,pl,hz⟩:=I.list hq;obtain ⟨j,h1,h2,h3,h4,h5⟩:=Nw he;obtain ⟨w,ew,rw'⟩:=r.get h2;have hl:=r.length;have hn:=En;have fin:EP X pins σ Q w s:=⟨z,H,I,rw',q⟩;by_cases h0:0<=i
 ·have hj:i.toNat=j:=by
   rw [seqIndex_of h0 h5] at h1;exact Option.some.inj h1
  exact item_listR pl.isList h0 (by lia) (by rw [hj];simpa using ew) fin hs
 ·have hj:(i+(its.toArray.size:Int)).toNat=j:=by
   rw [seqIndex_neg (by lia) h4] at h1;rw [size_toArray,← hl];exact Option.some.inj h1
  exact subscriptTail_builtinR (x:=w) pl.isList.typeIs slot_list_getitem.lookup
   (wpAny_getItem_list_neg (Q:=fun r s'=>r=w/\EP X pins σ Q r s') pl.isList (by lia) (by rw [size_toArray]<;>lia) (by lia) (by rw [hj];simpa using ew) ⟨rfl,fin⟩) hs
theorem Z7n:IxR X (Zcz X.K):=by
 intro value slice pins s σ H x y v u Q I rx ry h hs;obtain ⟨p,xs,i,z,rfl,rfl,hq,he,q⟩:=h;cases rx;obtain ⟨t,rfl⟩:=ry;obtain ⟨its,r,pl,hz⟩:=I.tuple hq;obtain ⟨j,h1,h2,h3,h4,h5⟩:=Nw he;obtain ⟨w,ew,rw'⟩:=r.get h2;have hl:=r.length;have hn:=En;have fin:EP X pins σ Q w s:=⟨z,H,I,rw',q⟩;exact subscriptTail_builtinR (x:=w) pl.typeIs slot_tuple_getitem.lookup
  (getItem_tuple (j:=j) (Q:=fun r s'=>r=w/\EP X pins σ Q r s') pl (by lia) (by lia) (by rw [size_toArray,← hl];exact h1) (by simpa using ew) ⟨rfl,fin⟩) hs
theorem Za4:IxR X Zcm:=by
 intro value slice pins s σ H x y v u Q I rx ry h hs;obtain ⟨z,i,c,rfl,rfl,hz,he,q⟩:=h;obtain ⟨t,rfl⟩:=rx;obtain ⟨t',rfl⟩:=ry;obtain ⟨j,h1,h2,h3,h4,h5⟩:=Nw he;have hl:z.cps.toList.length=z.length:=by simp [Str.length]
 rw [hl] at h1 h4 h5;have hn:=En;exact tail_any (typeIs_str s z t) slot_str_getitem.lookup (getItem_str (c:=c) (by
  have e1:decide (i < -(2^63:Int))=false:=decide_eq_false (by lia);have e2:decide (i≥2^63)=false:=decide_eq_false (by lia);rw [e1,e2,Bool.or_false]) (by rw [h1];simpa using h2) ⟨.str ⟨#[c]⟩,H,I.tok _,⟨_,rfl⟩,q⟩) hs
def rIx (K:PySem.W.Frag):R2:=fun x y H Q=>Zcf K x y H Q\/Zcz K x y H Q\/Zcm x y H Q
theorem Z7x:IxR X (rIx X.K):=Ob.or (Z7n.or Za4)
theorem F0 (its:List Value) (n j:Nat) (u:Value):Obj.mapSeq (·.setIfInBounds j u) { cls:=.type "list",data:=.seq its.toArray n }={ cls:=.type "list",data:=.seq (its.set j u).toArray n }:=by
 simp [Obj.mapSeq]
theorem Inv.lst {pins:List (Addr×Obj)} {σ:St} {H:Hp} {s:Shared} {p:Addr} {xs:List V} (I:Inv X pins σ H s) (h:H p=some (.lst xs)) :
  ∃ (its:List Value) (n:Nat),Wa xs its/\s.heap.get? p=some { cls:=.type "list",data:=.seq its.toArray n }/\xs.length<=sizeLine:=by
 obtain ⟨z,its,n,r,e⟩:=I.hok p _ h;exact ⟨its,n,r,e,z⟩
theorem Inv.lstUpd {pins:List (Addr×Obj)} {σ:St} {H:Hp} {s:Shared} {p:Addr} {xs ys:List V} {its its':List Value} {n n':Nat} {f:Obj->Obj} (I:Inv X pins σ H s) (h:H p=some (.lst xs))
  (ho:s.heap.get? p=some { cls:=.type "list",data:=.seq its.toArray n }) (hf:f { cls:=.type "list",data:=.seq its.toArray n }={ cls:=.type "list",data:=.seq its'.toArray n' }) (r:Wa ys its') (hz:ys.length<=sizeLine) (t:Nat) :
  Inv X pins σ (upd H p (.lst ys)) { s with heap:=s.heap.update p f,toks:=t }:=by
 have e:(s.heap.update p f).get? p=some { cls:=.type "list",data:=.seq its'.toArray n' }:=by
  rw [get?_update_self f ho (by rw [hf]<;>rfl),hf]
 refine I.write (x:=p) (e:=p) (by rw [h];trivial) (.inl rfl) (fun b u hb q=>(get?_update_other _ _ (Ne.symm hb)).trans q) ⟨_,e⟩ ?_;exact ⟨hz,its',n',r,e⟩
def Zbi:V->V->V->Hp->(Hp->Prop)->Prop:=fun o i v H Q=>∃ p xs k j,o=.ref p/\i=.int k/\H p=some (.lst xs)/\ixN xs.length k=some j/\Q (upd H p (.lst (xs.set j v)))
theorem Z2y:Zcc X Zbi:=by
 intro pins s σ H o i v ov iv u Q I ro ri rv h;obtain ⟨p,xs,k,j,rfl,rfl,hp,hj,q⟩:=h;cases ro;obtain ⟨t,rfl⟩:=ri;obtain ⟨its,n,r,ho,hz⟩:=I.lst hp;obtain ⟨h1,h2,h3,h4⟩:=Z0f hj;have hl:=r.length;have hn:=En;have I':Inv X pins σ (upd H p (.lst (xs.set j v))) { s with heap:=s.heap.update p (Obj.mapSeq (·.setIfInBounds j u)) } :=
  I.lstUpd hp ho (F0 its n j u) (r.set rv j) (by rw [length_set];exact hz) s.toks
 by_cases h0:0<=k
 ·have hk:k.toNat=j:=by
   rw [seqIndex_of h0 h4] at h1;exact Option.some.inj h1
  exact PySem.W.ki_setAt ho h0 (by lia) (by rw [size_toArray,← hl];exact h4) (by rw [hk];exact ⟨_,I',q⟩)
 ·have hk:(k+(its.toArray.size:Int)).toNat=j:=by
   rw [seqIndex_neg (by lia) h3] at h1;rw [size_toArray,← hl];exact Option.some.inj h1
  exact PySem.W.ki_setBack ho (by lia) (by rw [size_toArray,← hl];exact h3) (by lia) (by rw [hk];exact ⟨_,I',q⟩)
theorem N5 (lo hi:Option Int) (n:Nat):(sliceBounds lo hi none n).1=((HT.sIx n 0 lo:Nat):Int)/\(sliceBounds lo hi none n).2.1=((HT.sIx n n hi:Nat):Int)/\(sliceBounds lo hi none n).2.2=1:=by
 refine ⟨?_,?_,rfl⟩
 ·cases lo with
  | none=>simp [sliceBounds,HT.sIx]
  | some i =>
   simp only [sliceBounds,HT.sIx,Option.getD_none,show (1:Int) > 0 by decide,if_true];by_cases h:i<0
   ·simp only [h,if_true]<;>lia
   ·simp only [h,if_false]<;>lia
 ·cases hi with
  | none=>simp [sliceBounds,HT.sIx]
  | some i =>
   simp only [sliceBounds,HT.sIx,Option.getD_none,show (1:Int) > 0 by decide,if_true];by_cases h:i<0
   ·simp only [h,if_true]<;>lia
   ·simp only [h,if_false]<;>lia
theorem Hy (its:List Value) (lo hi:Option Int):slicePick its.toArray lo hi none=((its.drop (HT.sIx its.length 0 lo)).take (HT.sIx its.length its.length hi - HT.sIx its.length 0 lo)).toArray:=by
 obtain ⟨h1,h2,h3⟩:=N5 lo hi its.toArray.size;unfold slicePick;rw [h1,h2,h3];simp only [sliceRange_one,pick_run,size_toArray]<;>rfl
def Zci (K:PySem.W.Frag):V->Option Int->Option Int->Hp->VK->Prop:=fun x lo hi H Q=>∃ a xs,x=.ref a/\SqL K H a xs/\∀ p,H p=none->Q (.ref p) (upd H p (.lst (Z3c xs lo hi)))
theorem Z5h:SlR X (Zci X.K):=by
 intro pins s σ H x v vl vu lo hi sl Q I rx hs pl pu h;obtain ⟨a,xs,rfl,hx,q⟩:=h;cases rx;obtain ⟨its,r,ht,hz⟩:=I.list hx;have hlen:=r.length;refine ⟨"list",_,slot_list_getitem.lookup,ht.isList.typeIs,?_⟩;refine wpAny_getItem_list_slice ht.isList hs pl pu .none (by simp) ?_ (by rw [size_toArray]<;>lia);rw [Hy,← hlen];refine ⟨.ref s.heap.objs.size,_,I.laid (t':=s.toks) (o:=.lst (Z3c xs lo hi)) (fun b ob q=>get?_push_of_some _ q) (le_refl _) ?_,rfl,q _ (I.hok.fresh (le_refl _))⟩;exact ⟨le_trans (Eu xs lo hi) hz,_,0,(r.drop (HT.sIx xs.length 0 lo)).take (HT.sIx xs.length xs.length hi - HT.sIx xs.length 0 lo),get?_push_size _ rfl⟩
theorem Kl:OpR X (compareOp .NotIn) (fun x y H Q=>∃ i j,x=.str i/\y=.str j/\Q (.bl (!(!(Builtin.Str.occurrences j i 0 j.length 1).isEmpty))) H):=by
 intro pins s σ H x y v u Q I rx ry h;obtain ⟨i,j,rfl,rfl,q⟩:=h;obtain ⟨t,rfl⟩:=rx;obtain ⟨t',rfl⟩:=ry;exact notIn_str ⟨.bl _,H,I,rfl,q⟩
theorem L6:Uq X (.builtin "len") (fun xs H Q=>∃ p ys,xs=[.ref p]/\(SqL X.K H p ys\/SqT X.K H p ys)/\Q (.int ys.length) H):=by
 intro pins s σ H xs us Q I r h;obtain ⟨p,ys,rfl,hq,q⟩:=h;obtain ⟨u,rfl,rx⟩:=Sr r;cases rx;have hn:=En;rcases hq with hq | hq
 ·obtain ⟨its,r',pl,hz⟩:=I.list hq
  have hlen:=r'.length;exact Calls.call_len_list pl.isList (by simp only [size_toArray]<;>lia) ⟨.int ys.length,H,I.tok _,⟨s.toks+1,by rw [size_toArray,hlen]⟩,q⟩
 ·obtain ⟨its,r',pl,hz⟩:=I.tuple hq
  have hlen:=r'.length;exact len_tuple pl (by simp only [size_toArray]<;>lia) ⟨.int ys.length,H,I.tok _,⟨s.toks+1,by rw [size_toArray,hlen]⟩,q⟩
theorem Kw:Uq X (.builtin "len") (fun xs H Q=>∃ z,xs=[.str z]/\z.length<=sizeLine/\Q (.int z.length) H):=by
 intro pins s σ H xs us Q I r h;obtain ⟨z,rfl,hz,q⟩:=h;obtain ⟨u,rfl,t,rfl⟩:=Sr r;have hn:=En;exact len_str (by lia) ⟨.int z.length,H,I.tok _,⟨_,rfl⟩,q⟩
theorem Uq.or {f:Value} {r r':List V->Hp->VK->Prop} (h:Uq X f r) (h':Uq X f r'):Uq X f (fun xs H Q=>r xs H Q\/r' xs H Q):=by
 intro pins s σ H xs us Q I rs q;rcases q with q | q
 ·exact h pins s σ H xs us Q I rs q
 ·exact h' pins s σ H xs us Q I rs q
theorem D4:Uq X (.type "list") (fun xs H Q=>∃ p ys,xs=[.ref p]/\(SqL X.K H p ys\/SqT X.K H p ys)/\∀ l,H l=none->Q (.ref l) (upd H l (.lst ys))):=by
 intro pins s σ H xs us Q I r h;obtain ⟨p,ys,rfl,hq,q⟩:=h;obtain ⟨u,rfl,rx⟩:=Sr r;cases rx;have fin:∀ (its:List Value),Wa ys its->ys.length<=sizeLine->∀ (h':Heap) (c':Nat),(∀ b o',s.heap.get? b=some o'->h'.get? b=some o') ->
   h'.get? s.heap.objs.size=some { cls:=.type "list",dict:=none,data:=.seq its.toArray c',slots:=#[] }->EP X pins σ Q (.ref s.heap.objs.size) { s with heap:=h' }:=fun its r' hz h' c' kp e =>
  ⟨.ref s.heap.objs.size,_,I.laid (t':=s.toks) kp (le_refl _) (show Wf X.prog X.w _ h' _ (.lst ys) from ⟨hz,its,c',r',e⟩),rfl,q _ (I.hok.fresh (le_refl _))⟩
 rcases hq with hq | hq
 ·obtain ⟨its,r',pl,hz⟩:=I.list hq
  have hlen:=r'.length;obtain ⟨o,ho,hc,n,hd⟩:=pl.isList;exact call_list_seq p (.inl rfl) ho hc hd (fun h' c' kp e=>fin its r' hz h' c' kp e) (by simp only [size_toArray]<;>lia)
 ·obtain ⟨its,r',pl,hz⟩:=I.tuple hq
  have hlen:=r'.length;obtain ⟨o,ho,hc,n,hd⟩:=pl;exact call_list_seq p (.inr rfl) ho hc hd (fun h' c' kp e=>fin its r' hz h' c' kp e) (by simp only [size_toArray]<;>lia)
theorem Ig:Uq X (.type "tuple") (fun xs H Q=>∃ p ys,xs=[.ref p]/\((SqL X.K H p ys/\∀ l,H l=none->Q (.ref l) (upd H l (.tup ys)))\/(SqT X.K H p ys/\Q (.ref p) H))):=by
 intro pins s σ H xs us Q I r h;obtain ⟨p,ys,rfl,h⟩:=h;obtain ⟨u,rfl,rx⟩:=Sr r;cases rx;rcases h with ⟨hq,q⟩ | ⟨hq,q⟩
 ·obtain ⟨its,r',pl,hz⟩:=I.list hq
  have hlen:=r'.length;refine call_tuple_list pl.isList (fun h' kp=>?_) (by simp only [size_toArray]<;>lia);have I1:Inv X pins σ H { s with heap:=h' }:=I.kept (t':=s.toks) kp;have I2:Inv X pins σ (upd H h'.objs.size (.tup ys)) { s with heap:=h'.push { cls:=.type "tuple",data:=.seq its.toArray } } :=
   I1.laid (t':=s.toks) (fun b o e=>get?_push_of_some _ e) (le_refl _) (show Wf X.prog X.w _ _ _ (.tup ys) from ⟨hz,its,r',IsTup.new _ _⟩)
  exact ⟨.ref h'.objs.size,_,I2,rfl,q _ (I1.hok.fresh (le_refl _))⟩
 ·obtain ⟨its,r',pl,hz⟩:=I.tuple hq
  exact call_tuple_same pl ⟨.ref p,H,I,rfl,q⟩
def tyV (K:PySem.W.Frag) (T:String) (x:V) (H:Hp):Prop:=match x with
 | .str _=>T="str"
 | .int _=>T="int"
 | .ref p=>(T="list" /\ ∃ xs,SqL K H p xs)\/(T="tuple" /\ ∃ o,K.lookup p=some o/\o.cls=.type "tuple" /\ o.dict=none) \/
  (T="dict" /\ ((∃ kvs,H p=some (.dK kvs))\/∃ kvs,H p=some (.dT kvs)))\/(T="set" /\ ∃ S n,H p=some (.set S n))
 | _=>False
theorem Z8v {pins:List (Addr×Obj)} {σ:St} {H:Hp} {s:Shared} {T:String} {x:V} {v:Value} (I:Inv X pins σ H s) (r:Vf x v) (ty:tyV X.K T x H) :
  s.TypeIs v T/\∀ a,v=.ref a->∃ ob,s.heap.get? a=some ob/\ob.dict=none:=by
 cases x with
 | str z =>
  obtain ⟨t,rfl⟩:=r;cases (show T="str" from ty);exact ⟨typeIs_str s z t,fun _ e=>nomatch e⟩
 | int i =>
  obtain ⟨t,rfl⟩:=r;cases (show T="int" from ty);exact ⟨typeIs_int s i t,fun _ e=>nomatch e⟩
 | ref p =>
  cases r;rcases ty with ⟨rfl,xs,hq⟩ | ⟨rfl,o,hk,hc,hd⟩ | ⟨rfl,hk⟩ | ⟨rfl,S,n,hk⟩
  ·obtain ⟨its,_,pl,_⟩:=I.list hq
   refine ⟨pl.isList.typeIs,fun a e=>?_⟩;cases e;obtain ⟨o,n,e,c,hd,_⟩:=pl;exact ⟨o,e,hd⟩
  ·refine ⟨⟨o,I.kIn p o hk,hc⟩,fun a e=>?_⟩
   cases e;exact ⟨o,I.kIn _ o hk,hd⟩
  ·have z:∃ o,s.heap.get? p=some o/\o.ExactDict:=by
    rcases hk with ⟨kvs,hk⟩ | ⟨kvs,hk⟩
    ·obtain ⟨_,_,_,_,o,_,_,e,ex,_⟩:=I.hok p _ hk
     exact ⟨o,e,ex⟩
    ·obtain ⟨_,_,_,_,o,_,_,e,ex,_⟩:=I.hok p _ hk
     exact ⟨o,e,ex⟩
   obtain ⟨o,e,ex⟩:=z;refine ⟨⟨o,e,ex.1⟩,fun a e2=>?_⟩;cases e2;exact ⟨o,e,ex.2.1⟩
  ·obtain ⟨o,_,_,_,e,ex,_⟩:=I.hok p _ hk
   refine ⟨⟨o,e,ex.1⟩,fun a e2=>?_⟩;cases e2;exact ⟨o,e,ex.2.1⟩
 | _=>exact False.elim ty
def tBM (K:PySem.W.Frag) (T:String) (r:V->List V->Hp->VK->Prop) (to:TE) (t:TA):TE:=fun σ H Q=>to σ H fun x H1=>tyV K T x H1/\t σ H1 fun xs H2=>r x xs H2 Q
variable {o e:Expr} {es:List Expr} {to:TE} {t:TA} {name:Str} {apos cpos:Pos} {T id:String} {r:V->List V->Hp->VK->Prop}
theorem Z48 (pa:PlainAttrs T) (slot:Slot T name id) (hty:typeOf (.builtin id)=pure (.type "method_descriptor")) (hm:MtR X id r) (ho:PE X o to) (ha:PA X (e::es) t)
   (hbase:attributeBase o name X.env (eval o X.env)=eval o X.env:=by rfl)
   (hfew:((backTo cpos (starEach (e::es) X.env)).all (fun x=>!x.1)&&(backToKw cpos (keywordEach [] X.env)).all (fun x=>x.1.isSome)
     && decide ((e::es).length+([]:List Keyword).length+(if ([]:List Keyword).isEmpty then 0 else 1)<30))=true:=by rfl)
   (hline:(apos.endLine==cpos.line)=true:=by rfl) (hs:starEach (e::es) X.env=(false,eval e X.env)::starEach es X.env:=by rfl) (hplain:(backTo cpos (starEach es X.env)).any (·.1)=false:=by rfl) :
   PE X (.Call (.Attribute o name apos) (e::es) [] cpos) (tBM X.K T r to t):=by
 intro pins s σ H Q I h;refine wpAny_Call_method_late hbase hfew hline rfl (thn (ho pins s σ H _ I h) fun v s1 ⟨x,H1,I1,r1,ty,q1⟩=>?_);obtain ⟨h1,h2⟩:=Z8v I1 r1 ty;refine ⟨T,id,pa,slot,hty,h1,h2,?_⟩;have hA:=ha cpos pins s1 σ H1 _ I1 q1;rw [hs] at hA ⊢;refine Calls.callWith_builtin (by show (false||(backTo cpos (starEach es X.env)).any (·.1))=false;rw [hplain]<;>rfl) (Calls.evalArgs_plain ?_);exact thn hA fun us s2 ⟨vs,H2,I2,r2,q2⟩=>hm pins s2 σ H2 x vs v us Q I2 r1 r2 q2
end
def MtM (X:Cx) (id:String) (r:V->List V->Hp->VK->Prop):Prop :=
 ∀ (pins:List (Addr×Obj)) (s:Shared) (σ:St) (H:Hp) (x:V) (xs:List V) (v:Value) (us:List Value) (Q:VK),Inv X pins σ H s->Vf x v->Wa xs us->r x xs H Q ->
  wpAny (model X.prog X.w) X.A (call (.builtin id) (v::us)) (EP X pins σ Q) X.xe s
theorem Wa.one:∀ {x:V} {us:List Value},Wa [x] us->∃ u,us=[u]/\Vf x u
 | _,_,.cons r .nil=>⟨_,rfl,r⟩
section
variable {X:Cx} {pins:List (Addr×Obj)} {σ:St} {H:Hp} {s:Shared} {l b:Addr} {xs ys zs:List V}
theorem Inv.lset {its its':List Value} {n:Nat} {f:Array Value->Array Value} {t':Nat} (I:Inv X pins σ H s) (hH:H l=some (.lst xs))
  (e:s.heap.get? l=some { cls:=.type "list",data:=.seq its.toArray n }) (hf:f its.toArray=its'.toArray) (hv:Wa ys its') (hz:ys.length<=sizeLine) :
  Inv X pins σ (upd H l (.lst ys)) { s with heap:=s.heap.update l (Obj.mapSeq f),toks:=t' }:=by
 have q:=PySem.IsL.update e f;rw [hf] at q;refine I.write (x:=l) (e:=l) (by rw [hH];exact trivial) (.inl rfl) (fun b' u hb hu=>(get?_update_other s.heap (Obj.mapSeq f) (Ne.symm hb)).trans hu) ⟨_,q⟩ ?_;exact ⟨hz,its',_,hv,q⟩
theorem Inv.lnew {its:List Value} {t':Nat} (I:Inv X pins σ H s) (hv:Wa ys its) (hz:ys.length<=sizeLine) :
  Inv X pins σ (upd H s.heap.objs.size (.lst ys)) { s with heap:=s.heap.push { cls:=.type "list",data:=.seq its.toArray },toks:=t' } :=
 I.laid (fun _ _ q=>get?_push_of_some _ q) (le_refl _) ⟨hz,its,0,hv,get?_push_size _ rfl⟩
theorem Inv.fresh (I:Inv X pins σ H s):H s.heap.objs.size=none:=I.hok.fresh (le_refl _)
theorem Inv.lstM (I:Inv X pins σ H s) (hH:H l=some (.lst xs)):xs.length<=sizeLine/\∃ (its:List Value) (n:Nat),Wa xs its/\xs.length=its.length/\s.heap.get? l=some { cls:=.type "list",data:=.seq its.toArray n }:=by
 obtain ⟨z,its,n,r,e⟩:=I.hok l _ hH;exact ⟨z,its,n,r,r.length,e⟩
theorem Z23 {n:Nat} (h:n<=sizeLine):Builtin.List.listTooLong n=false:=by
 unfold Builtin.List.listTooLong;exact decide_eq_false (by lia)
end
section
variable {X:Cx}
def Z4i:V->List V->Hp->VK->Prop:=fun x vs H Q=>∃ l xs y,x=.ref l/\vs=[y]/\H l=some (.lst xs)/\xs.length<sizeLine/\Q .non (upd H l (.lst (xs++[y])))
theorem Lb:MtM X "list.append" Z4i:=by
 intro pins s σ H x vs v us Q I rx rv h;obtain ⟨l,xs,y,rfl,rfl,hH,hz,q⟩:=h;cases rx;obtain ⟨u,rfl,ru⟩:=rv.one;obtain ⟨z,its,n,r,hl,e⟩:=I.lstM hH;refine call_meets F.slot_list_append ⟨_,e,rfl⟩ F.entry_list_append (F.args_list_append_2 _ _) (PySem.list_append l its.toArray n u (by rw [size_toArray];lia)) ⟨e,?_⟩;refine ⟨.non,_,I.lset (its':=its++[u]) hH e (by simp) (r.append (.cons ru .nil)) ?_,rfl,q⟩;rw [length_append,length_singleton];lia
end
section
variable {prog:Program} {w:World} {A:Around} {E:Value->Shared->Prop} {s:Shared}
end
section
variable {X:Cx}
end
end L2
namespace Att
open PySem PySem.W PySem.Calls PyProof.Rows
theorem Ez {P:Params} {h:Heap}:∀ (ns:List Int) (vs:List Value),WellAll P h vs (ns.map WData.int)->IntsAre vs ns:=by
 intro ns;induction ns with
 | nil =>
  intro vs w;rw [map_nil] at w;cases w;exact .nil
 | cons n ns ih =>
  intro vs w;rw [map_cons] at w;cases w with
  | cons a b =>
   cases a;exact .cons _ _ (ih _ b)
theorem B4 {l:OpenLaw} {n:Nat} (hn:l.most=some n) {P:Params} {h:Heap} {args:List WData} {vals:List Value}
   (hpre:l.row.toRowW.claim.pre args=true) (hwl:WellAll P h vals args) :
   ∃ a vs ns,vals=[Value.ref a]/\args=[WData.list (ns.map WData.int)]/\h.get? a=some { cls:=.type "list",data:=.seq vs.toArray }/\IntsAre vs ns/\ns.length<=n:=by
 have hsh:WShape.hasAll [] args [.list .int]=true:=(pre_splitW hpre).1;have hc:l.pre.holds [] { args:=args }=true:=(pre_splitW hpre).2;obtain ⟨d,r,rfl,h1,h2⟩:=hasAllW_cons hsh;obtain rfl:=hasAllW_nil h2;obtain ⟨xs,rfl,h3⟩:=hasW_list h1;obtain ⟨ns,rfl⟩:=items_int h3;have hlen:ns.length<=n:=by
   unfold OpenLaw.pre at hc;have h4:(WTm.not (.lt (.lit (.int (n:Int))) (.len (.arg 0)))).holds [] { args:=[.list (ns.map .int)] }=true:=by
     have h4:=(holds_andW hc).1;rw [hn] at h4;exact h4
   have h5:=condW_of h4 (w_not (w_lt w_lit (w_len_list (w_arg rfl))));rw [length_map] at h5;refine Nat.le_of_not_lt fun q=>?_
   have q':(n:Int)<((ns.length:Nat):Int):=by lia
   first
     | (rw [decide_eq_true q'] at h5;exact absurd h5 (by decide))
     | (simp at h5;lia)
 cases hwl with
 | cons w1 w2 =>
   cases w2;cases w1 with
   | list ho hall=>exact ⟨_,_,ns,rfl,rfl,ho,Ez ns _ hall,hlen⟩
theorem C8 (l:OpenLaw) (args:List WData):l.row.toRowW.claim.post args (.bool true) args=true :=
 postW_of (r:=l.row.toRowW) (X:=(true==true))
  (show WShape.has [] (.bool true) .bool=true by first | rfl | decide | simp [WShape.has,WShape.arms,WShape.armsAll])
  (show (WTm.eq .res (.lit (.bool true))).value [] { args:=args,res:=some (.bool true),after:=args }=some (.bool (true==true)) from w_eq_bool (w_res rfl) w_lit) rfl
theorem attach_call {l:OpenLaw} {n:Nat} {q:Program} {loose:List Str} {XP:(Str->Option Value)->Heap->Prop} {YP:World->Heap->Prop} {d:DefRec}
  (hn:l.most=some n) (hdf:d.params.defaults=[])
  (call:∀ (w:World) (s₀ s₁:Shared) (mg mb:Str->Option Value) (fa:Addr) (o:Obj) (pm cd doc:Value) (a:Addr) (vs:List Value) (ns:List Int),
   Ground q loose [] XP w s₀ mg mb s₁.heap->YP w s₁.heap ->
   s₁.heap.get? fa=some o->o.data=.func (docDef d.name d.params d.body d.scope pm cd doc)->s₁.heap.CodeRec cd d.name->mg d.name=some (.ref fa) ->
   s₁.heap.get? a=some { cls:=.type "list",data:=.seq vs.toArray }->IntsAre vs ns->ns.length<=n->s₁.gens=#[] ->
   codeAny (model l.prog w) callerA (.call (.ref fa) ⟨[.ref a],[]⟩) (fun r s'=>r=.ok (.ret (.bool true))/\OldK s₁.heap s'.heap/\s'.os=s₁.os/\AllBare s'.gens) s₁) :
  WalkO q loose XP YP l.row.toRowW d [] (fun f vs=>PySem.call f vs):=by
 intro w s₀ s₁ mg mb G Y fa o pm cd doc dV kV ho hd hcd hD hmg hg args vals as hpre hlay hrd hwl hlo;obtain rfl:dV=.none:=Dflts.none hD hdf;obtain rfl:kV=.none:=Dflts.noKw hD;obtain ⟨a,vs,ns,rfl,rfl,hobj,hints,hlen⟩:=B4 hn hpre hwl;refine enter_call (codeAny_mono (call w s₀ s₁ mg mb fa o pm cd doc a vs ns G Y ho (fd_plain hd) hcd hmg hobj hints hlen hg) fun r s' hq=>?_);obtain ⟨rfl,h2,h3,h4⟩:=hq;exact ⟨.inl ⟨.bool true,.bool true,[],rfl,fun _=>rfl,.bool true,C8 l _,fun _=>⟨List.Pairwise.nil,fun _ hm=>(nomatch hm)⟩⟩,h2,h3,h4⟩
section
variable {prog:Program} {w:World} {A:Around} {E:Value->Shared->Prop} {s:Shared} {K:Frag}
end
end Att
namespace L2
open PySem PySem.Spec PyProof.Rows
theorem Lz:∀ {vs:List Value} {ns:List Int},IntsAre vs ns->Wa (ns.map V.int) vs
 | _,_,.nil=>.nil
 | _,_,.cons n t h=>.cons ⟨t,rfl⟩ (Lz h)
def SL (K:PySem.W.Frag) (H:Hp) (a:Addr) (xs:List V):Prop :=
 Rd H a (.lst xs)\/∃ (its:List Value) (n:Nat),K.lookup a=some { cls:=.type "list",data:=.seq its.toArray n }/\xs.length<=sizeLine/\Wa xs its
def Zax (H:Hp):Prop:=∀ b,H b=none\/∃ o xs,H b=some (.frz o (.lst xs))
theorem Z2u {P:Program} {w:World} {K:PySem.W.Frag} {mg mb:Str->Option Value} {CX:CXT} {k:Nat} {fa a:Addr} {fd:FuncData} {x:Str} {sp:Sp} {s₁:Shared} {vs:List Value} {ns:List Int}
  (KX:K.In s₁.heap) (hns:s₁.heap.Ns mainGlobals mg) (hb:s₁.heap.Ns builtinsNs mb) (hbb:∀ x:Str,x≠"__name__" -> mb x=bootBuiltins x) (hlim:s₁.heap.NoLimit) (hg:s₁.gens=#[])
  (ha:s₁.heap.get? a=some { cls:=.type "list",data:=.seq vs.toArray }) (hi:IntsAre vs ns) (hl:ns.length<=sizeLine) (hr:Room k callerA)
  (F:∀ base:Heap,K.In base->base.Ns mainGlobals mg->FnOk P w K mg base CX k fa fd [x] sp) (hbind:∀ (s:Shared) (u:Value),BindsTo s fd ⟨[u],[]⟩ [(x,u)])
  (hsp:∀ H:Hp,Zax H->SL K H a (ns.map V.int)->sp [.ref a] H (fun v _=>v=.bl true) fun _ _ _=>False)
  (hCX:∀ H e s',CX [] H s₁ (fun _ _ _=>False) e s'->False) :
  codeAny (model P w) callerA (.call (.ref fa) ⟨[.ref a],[]⟩) (fun r s'=>r=.ok (.ret (.bool true))/\OldK s₁.heap s'.heap/\s'.os=s₁.os/\AllBare s'.gens) s₁:=by
 have rv:=Lz hi;have lenV:=hi.length
 -- from an abstract heap in which nothing but the script may be tracked
 have core:∀ H:Hp,Zax H->SL K H a (ns.map V.int)->HOk P w H s₁.heap->(∀ b,H b≠none->b=a)->(H a≠none->K.lookup a=none) ->
   codeAny (model P w) callerA (.call (.ref fa) ⟨[.ref a],[]⟩) (fun r s'=>r=.ok (.ret (.bool true))/\OldK s₁.heap s'.heap/\s'.os=s₁.os/\AllBare s'.gens) s₁:=by
  intro H hO hS hok hA hK;have base_of:∀ {b:Addr} {o:Obj},s₁.heap.get? b=some o->H b=none->(Z2s s₁.heap H).get? b=some o:=fun e n=>Z2t e n
  have noA:∀ {b:Addr} {o:Obj} {es:Array DictEntry} {ep:Nat},s₁.heap.get? b=some o->o.data=.dict es ep->H b=none:=fun {b o es ep} e d=>by
   cases q:H b with
   | none=>rfl
   | some u =>
    have e':b=a:=hA b (by rw [q];simp);subst e';rw [ha] at e;cases e;have d':Data.seq vs.toArray _=Data.dict es ep:=d;cases d'
  have nsK:∀ {b:Addr} {m:Str->Option Value},s₁.heap.Ns b m->(Z2s s₁.heap H).Ns b m:=fun {b m} ⟨o,es,ep,e,d,r⟩=>⟨o,es,ep,base_of e (noA e d),d,r⟩
  have hKb:K.In (Z2s s₁.heap H):=fun b o e=>base_of (KX b o e) (by
   cases q:H b with
   | none=>rfl
   | some u =>
    have e':b=a:=hA b (by rw [q];simp);subst e';rw [hK (by rw [q];simp)] at e;cases e)
  have hM:Mod K mg (Z2s s₁.heap H):=⟨hKb,nsK hns,⟨mb,nsK hb,hbb⟩,let ⟨mc,h1,h2⟩:=hlim;⟨mc,nsK h1,h2⟩⟩;have e0:Env0 P w K mg (Z2s s₁.heap H) callerA [] s₁ H:=⟨rfl,hM,fun b o e=>Z4u e,le_of_eq (Bb _ _),trivial,fun b hb=>absurd (show b∈([]:List Addr) from hb) (by simp),hok,.of_eq hg⟩;refine codeAny_mono ((F _ hKb (nsK hns)).run callerA [] s₁ H ⟨[.ref a],[]⟩ [.ref a] [.ref a] _ _ hr e0 (hbind s₁ (.ref a)) (.cons rfl .nil) (hsp H hO hS)) fun r s' h=>?_
  cases r with
  | error e=>exact (hCX H e s' h).elim
  | ok fl =>
   cases fl with
   | next=>exact False.elim h
   | brk=>exact False.elim h
   | cont=>exact False.elim h
   | ret u =>
    obtain ⟨v,H',os,bare,un,hok',r',q⟩:=h;have q':v=.bl true:=q;subst q';obtain rfl:u=Value.bool true:=r';refine ⟨rfl,OldK.of_keep fun b o e=>?_,os,bare⟩;cases q:H b with
    | none=>exact un.keep b o e q (by intro z;exact absurd (show b∈([]:List Addr) from z) (by simp)) (by simp)
    | some u =>
     rcases hO b with z | ⟨ob,xs,z⟩
     ·rw [q] at z;cases z
     ·have z2:=un.frzs b ob _ z
      obtain ⟨e1,_⟩:=hok b _ z;obtain ⟨e2,_⟩:=hok' b _ z2;rw [e] at e1;cases e1;exact e2
 cases hk:K.lookup a with
 | some o =>
  -- the script is one of the module's own objects
  have e:=KX a o hk;rw [ha] at e;cases e;refine core (fun _=>none) (fun _=>.inl rfl) (.inr ⟨vs,_,hk,by rw [length_map];exact hl,rv⟩) (fun b u z=>by have z':(none:Option HO)=some u:=z;cases z') (fun b z=>absurd rfl z) fun z=>absurd rfl z
 | none =>
  refine core (fun b=>if b=a then some (.frz { cls:=.type "list",data:=.seq vs.toArray } (.lst (ns.map V.int))) else none) (fun b=>?_) (.inl (.inr ⟨{ cls:=.type "list",data:=.seq vs.toArray },if_pos rfl⟩)) (fun b u z=>?_) (fun b z=>?_) fun _=>hk
  ·by_cases hb:b=a
   ·exact .inr ⟨_,_,if_pos hb⟩
   ·exact .inl (if_neg hb)
  ·by_cases hb:b=a
   ·have z':=(if_pos hb).symm.trans z
    cases z';subst hb;exact ⟨ha,by rw [length_map];exact hl,vs,_,rv,ha⟩
   ·have z':=(if_neg hb).symm.trans z
    cases z'
  ·by_cases hb:b=a
   ·exact hb
   ·exact absurd (if_neg hb) z
theorem Zaw {l:PySem.W.OpenLaw} {n k:Nat} {q:Program} {loose:List Str} {XP:(Str->Option Value)->Heap->Prop} {YP:World->Heap->Prop} {d:DefRec} {K:Params->PySem.W.Frag} {CX:World->CXT} {sp:World->Sp} {x:Str}
  (hn:l.most=some n) (hn2:n<=sizeLine) (hdf:d.params.defaults=[]) (hr:Room k callerA)
  (hY:∀ (w:World) (h:Heap),YP w h->(K w.params).In h)
  (F:∀ (w:World) (mg:Str->Option Value) (fa:Addr) (h:Heap),(K w.params).In h->h.Ns mainGlobals mg->mg d.name=some (.ref fa) ->
   ∃ fd:FuncData,(∀ (s:Shared) (u:Value),BindsTo s fd ⟨[u],[]⟩ [(x,u)]) /\
    ∀ base:Heap,(K w.params).In base->base.Ns mainGlobals mg->FnOk l.prog w (K w.params) mg base (CX w) k fa fd [x] (sp w))
  (hsp:∀ (w:World) (H:Hp) (a:Addr) (ns:List Int),ns.length<=n->Zax H->SL (K w.params) H a (ns.map V.int)->sp w [.ref a] H (fun v _=>v=.bl true) fun _ _ _=>False)
  (hCX:∀ (w:World) (H:Hp) (s:Shared) (e:Value) (s':Shared),CX w [] H s (fun _ _ _=>False) e s'->False) :
  PySem.W.WalkO q loose XP YP l.row.toRowW d [] (fun f vs=>PySem.call f vs):=by
 refine Att.attach_call hn hdf fun w s₀ s₁ mg mb fa o pm cd doc a vs ns G Y ho hd hcd hmg hobj hints hlen hg=>?_
 have KX:=hY w _ Y;obtain ⟨fd,hb,hF⟩:=F w mg fa _ KX G.T.g hmg;exact Z2u KX G.T.g G.T.b G.T.builtins G.T.nolimit hg hobj hints (le_trans hlen hn2) hr hF hb (fun H hO hS=>hsp w H a ns hlen hO hS) fun H e s'=>hCX w H s₁ e s'
def Z4a (s:Stmt) (j:Nat):Stmt:=match s with
 | .ClassDef _ _ _ body _ _ _ _ _ _ _=>body.getD j (.Pass ⟨0,0,0,0⟩)
 | _=>.Pass ⟨0,0,0,0⟩
def Qd (s:Stmt):Arguments:=match s with
 | .FunctionDef _ a _ _ _ _ _ _ _ _=>a
 | _=>{ posonlyargs:=[],args:=[],vararg:=none,kwonlyargs:=[],kw_defaults:=[],kwarg:=none,defaults:=[] }
def Wp (s:Stmt):List Stmt:=match s with
 | .FunctionDef _ _ b _ _ _ _ _ _ _=>b
 | _=>[]
def Z7 (s:Stmt):Scope:=match s with
 | .FunctionDef _ _ _ _ _ _ sc _ _ _=>sc
 | _=>{ kind:=.function,names:=[],isGenerator:=false,isCoroutine:=false }
abbrev CX0:CXT:=fun _ _ _ _ _ _=>False
abbrev E0:XK:=fun _ _ _=>False
theorem Zc1 {X:Cx}:Bo CX0 X E0:=fun _ _ _ _ _ _ _ h=>h.elim
structure Fun (K:PySem.W.Frag) (x qual:Str) (st:Stmt) (f:Addr) (fd:FuncData):Prop where
 ex:∃ (oc:Value) (od:Option Addr) (kV doc pm:Value) (an:Option Addr) (cdv ct:Value) (osl:Array (Option Value)),
  fd=fnOf x qual (Qd st) (Wp st) (Z7 st) .none kV doc pm an cdv ct/\K.lookup f=some ⟨oc,od,.func fd,osl⟩/\codeIn K cdv qual=true
 kp:PySem.W.keepIn K (.ref f)=true
section
variable {P:Program} {w:World} {K:PySem.W.Frag} {mg:Str->Option Value} {base:Heap}
theorem Fun.ok {x qual:Str} {st:Stmt} {f:Addr} {fd:FuncData} {N ps:List Str} {k:Nat} {sp:Sp} (F:Fun K x qual st f fd) (S:FnScope N ps (Z7 st)) (len:∀ vs H Q E,sp vs H Q E->vs.length=ps.length)
  (hbody:∀ (cdv:Value) (A:Around) (outer:List Env) (s:Shared) (H:Hp) (vs:List V) (Q:VK) (E:XK),Room k (A.deeper (envOfC qual (Z7 st) s.heap.objs.size f cdv))->sp vs H Q E ->
   ∃ t,PSs (Kg CX0 P w K mg base N qual (Z7 st) f cdv A outer s H E).nox (Wp st) t/\t { nx:=fun _ H'=>Q .non H',rt:=Q } (start N vs) H):FnOk P w K mg base CX0 (k+1) f fd ps sp:=by
 obtain ⟨oc,od,kV,doc,pm,an,cdv,ct,osl,rfl,lk,hcd⟩:=F.ex;refine Z8o lk hcd S len fun A outer s H vs Q E hr hsp=>?_
 obtain ⟨t,h,q⟩:=hbody cdv A outer s H vs Q E hr hsp;exact ⟨t,h.nox,q⟩
theorem Fun.binds {x qual:Str} {st:Stmt} {f:Addr} {fd:FuncData} {ps:List Str} (F:Fun K x qual st f fd)
  (h:∀ (kV doc pm:Value) (an:Option Addr) (cdv ct:Value) (us:List Value),us.length=ps.length->bindArgs (fnOf x qual (Qd st) (Wp st) (Z7 st) .none kV doc pm an cdv ct) ⟨us,[]⟩=pure (ps.zip us)):Ih K fd ps []:=by
 obtain ⟨oc,od,kV,doc,pm,an,cdv,ct,osl,rfl,lk,hcd⟩:=F.ex;exact .all (h kV doc pm an cdv ct)
theorem Y7 {x qual:Str} {st:Stmt} {f:Addr} {oc:Value} {od an:Option Addr} {osl:Array (Option Value)} {kV doc pm cdv ct:Value} (l:K.lookup f=some ⟨oc,od,.func (fnOf x qual (Qd st) (Wp st) (Z7 st) .none kV doc pm an cdv ct),osl⟩)
 (c:codeIn K cdv qual=true) (k:PySem.W.keepIn K (.ref f)=true):Fun K x qual st f (fnOf x qual (Qd st) (Wp st) (Z7 st) .none kV doc pm an cdv ct):=⟨⟨oc,od,kV,doc,pm,an,cdv,ct,osl,rfl,l,c⟩,k⟩
end
theorem Z4n {A:Around} {k:Nat} (hr:Room k A):A.units+1<cLine:=lt_of_le_of_lt (Nat.add_le_add_left (by decide:1<=64) _) hr.units
theorem Qo {n:Nat} (h:n<=1000):n<sizeLine:=lt_of_le_of_lt h (by decide)
section
variable {X:Cx}
theorem pv (i:Nat) {x:Str} {pos:Pos} (hN:X.N[i]?=some x:=by rfl) (hv:Vis X.env.scope x:=by first | exact Or.inl rfl | exact Or.inr (Or.inl rfl) | exact Or.inr (Or.inr rfl)) (hd:(x==("__debug__" : Str))=false:=by decide)
 (hcd:(x==("__classdict__" : Str))=false:=by decide):PE X (.Name x pos) (Z0z i):=Mw hN hv hd hcd
end
theorem Zcu {A B:Prop} (h:B):if false=true then A else B:=by
 rw [if_neg Bool.false_ne_true];exact h
theorem Zca {A B:Prop} (h:A):if true=true then A else B:=by
 rw [if_pos rfl];exact h
def Yj (H H':Hp):Prop:=∀ b o,H b=some o->H' b=some o
theorem Yj.refl (H:Hp):Yj H H:=fun _ _ h=>h
theorem Yj.trans {H H1 H2:Hp} (a:Yj H H1) (b:Yj H1 H2):Yj H H2:=fun c o h=>b c o (a c o h)
theorem Yj.free {H H':Hp} (e:Yj H H') {l:Addr} (h:H' l=Option.none):H l=Option.none:=by
 cases q:H l with
 | none=>rfl
 | some o =>
  rw [e l o q] at h;cases h
theorem Om {prog:Program} {w:World} {A:Around} {R:Result->Shared->Prop} {s:Shared} {elt target iter:Expr} {ifs:List Expr} {scope:Scope} {pos:Pos} {it acc:Value} {env:Env} (I:Nat->Shared->Prop)
  (turn:∀ n s,I n s->wpAny (model prog w) A (pyNext it) (fun r s₁=>match r with
   | none=>R (.ok .next) s₁
   | some v=>wpAny (model prog w) A (letOwnedTupleGo target it v) (fun _ s₁'=>wpAny (model prog w) A (assign target env v) (fun _ s₂ =>
    wpAny (model prog w) A (forIn ifs true fun c r=>if r=true then do let ok ← isTrue c env (eval c env);pure (ForInStep.yield ok) else pure (ForInStep.yield r)) (fun ok s₃ =>
     if ok=true then wpAny (model prog w) A (eval elt env) (fun x s₄ =>
      wpAny (model prog w) A (call (.builtin "list.append") [acc,x]) (fun _ s₅=>∃ m,m<n/\I m s₅) (fun _ _=>False) s₄) (fun _ _=>False) s₃
     else ∃ m,m<n/\I m s₃) (fun _ _=>False) s₂) (fun _ _=>False) s₁') (fun _ _=>False) s₁) (fun _ _=>False) s)
  (n:Nat) (h:I n s) :
  codeAny (model prog w) A (.compLoop (.ListComp elt [⟨target,iter,ifs,0⟩] scope pos) 0 it acc env) R s:=by
 refine codeAny_loop rfl I (fun n s hI=>?_) n h;show wpAny _ A ((compTurn (.ListComp elt [⟨target,iter,ifs,0⟩] scope pos) 0 it acc env).onRaise (fun x=>do noteFrame x env;theTreesLotGoes x)) _ _ s;refine wpAny_noted ?_;rw [compTurn_list];refine wpAny_bind (wpAny_standAt (wpAny_bind (wpAny_mono (turn n s hI) (fun r s₁ h₁=>?_) fun _ _ h'=>h'.elim)));cases r with
 | none=>exact wpAny_pure h₁
 | some v =>
  refine wpAny_bind (wpAny_mono h₁ (fun _ s₁' h₁'=>?_) fun _ _ h'=>h'.elim);refine wpAny_bind (wpAny_mono h₁' (fun _ s₂ h₂=>wpAny_bind (wpAny_mono h₂ (fun ok s₃ h₃=>?_) fun _ _ h'=>h'.elim)) fun _ _ h'=>h'.elim);cases ok with
  | false=>exact wpAny_pure ⟨rfl,h₃⟩
  | true =>
   exact wpAny_bind (wpAny_bind (wpAny_mono h₃ (fun x s₄ h₄=>wpAny_bind (wpAny_mono h₄ (fun _ s₅ h₅=>wpAny_pure (wpAny_pure ⟨rfl,h₅⟩)) fun _ _ h'=>h'.elim)) fun _ _ h'=>h'.elim))
def Ft (cells:List (Str×Addr)):List (Str×NameKind)->List (Str×Addr)->List (Str×Addr)
 | [],acc=>acc
 | (n,k)::r,acc=>Ft cells r (if k==.free then (n,(cells.lookup n).getD 0)::acc else acc)
theorem Gr {sc:Scope} {env:Env} (h:∀ y∈sc.names,y.2=.free->∃ c,env.cells.lookup y.1=some c):closureFor sc env=pure (Ft env.cells sc.names []):=by
 unfold closureFor;generalize ([]:List (Str×Addr))=acc;generalize hl:sc.names=names at h;clear hl;induction names generalizing acc with
 | nil=>rfl
 | cons y r ih =>
  obtain ⟨n,k⟩:=y;have ih':=fun acc=>ih acc fun y hy=>h y (mem_cons_of_mem _ hy)
  dsimp only at ih' ⊢;rw [List.forIn_cons];by_cases hk:k=.free
  ·subst hk
   obtain ⟨c,hc⟩:=h (n,.free) mem_cons_self rfl;simp only [cellOf,hc,beq_self_eq_true,if_true,pure_bind,Ft,Option.getD_some];exact ih' _
  ·have hb:(k==NameKind.free)=false:=by simpa using hk
   simp only [hb,Bool.false_eq_true,if_false,pure_bind,Ft];exact ih' _
theorem El {cells:List (Str×Addr)}:∀ (names:List (Str×NameKind)) (acc:List (Str×Addr)),(∀ y∈names,y.2=.free->∃ c,cells.lookup y.1=some c)->(∀ x c,acc.lookup x=some c->cells.lookup x=some c) ->
   ∀ x c,(Ft cells names acc).lookup x=some c->cells.lookup x=some c
 | [],_,_,ha,x,c,e=>ha x c e
 | (n,k)::r,acc,h,ha,x,c,e=>by
   unfold Ft at e;refine El r _ (fun y hy=>h y (mem_cons_of_mem _ hy)) (fun x' c' e'=>?_) x c e;split at e'
   · rename_i hk
     have hk':k=.free:=by simpa using hk
     obtain ⟨c0,hc0⟩:=h (n,k) mem_cons_self hk';simp only at hc0;rw [lookup_cons] at e';split at e'
     · rename_i hx
       have hx':x'=n:=by simpa using hx
       subst hx';rw [hc0] at e';simp at e';rw [hc0,e']
     · exact ha x' c' e'
   · exact ha x' c' e'
theorem Iu {cells:List (Str×Addr)}:∀ (names:List (Str×NameKind)) (acc:List (Str×Addr)) (x:Str),((x,NameKind.free)∈names\/(acc.lookup x).isSome=true)->((Ft cells names acc).lookup x).isSome=true
 | [],acc,x,h=>by
   rcases h with h | h
   · simp at h
   · exact h
 | (n,k)::r,acc,x,h=>by
   unfold Ft;refine Iu r _ x ?_;rcases h with h | h
   · rcases mem_cons.mp h with e | h
     · cases e
       right;simp
     · exact .inl h
   · right
     split
     · rw [lookup_cons]
       split
       · rfl
       · exact h
     · exact h
def Vv (X:Cx) (sc:Scope) (N:List Str) (C:Addr) (s:Shared) (H:Hp) (fp:List Addr):Cx :=
 { X with N:=N,s₀:=s,H₀:=H,env:=compEnvC sc (Ft X.env.cells sc.names []) C X.env,outer:=X.stack,ex:=fp,fn:=fun _=>false,pn:=[],xe:=fun _ _=>False }
def Za7 (psc sc:Scope) (NX N:List Str) (fs:List (Option Nat)):Bool :=
 N.length==fs.length&&(N.zip fs).all (fun p=>match p.2 with | none=>true | some j=>NX[j]?==some p.1&&sc.names.lookup p.1==some .free) &&
 sc.names.all (fun y=>y.2 != .cell&&(y.2 != .free||(psc.names.lookup y.1==some .cell||psc.names.lookup y.1==some .free))&&(y.2 != .local||sc.names.lookup y.1==some .local))&&sc.kind==.function
structure CompOk (psc sc:Scope) (NX N:List Str) (fs:List (Option Nat)):Prop where
 len:N.length=fs.length
 frees:∀ (i j:Nat),fs[i]?=some (some j)->∃ x,N[i]?=some x/\NX[j]?=some x/\sc.names.lookup x=some .free
 nocell:∀ y∈sc.names,y.2≠.cell
 par:∀ y∈sc.names,y.2=.free->psc.names.lookup y.1=some .cell\/psc.names.lookup y.1=some .free
 loc:∀ y∈sc.names,y.2=.local->sc.names.lookup y.1=some .local
 kind:sc.kind=.function
theorem CompOk.of {psc sc:Scope} {NX N:List Str} {fs:List (Option Nat)} (h:Za7 psc sc NX N fs=true):CompOk psc sc NX N fs:=by
 unfold Za7 at h;simp only [Bool.and_eq_true,beq_iff_eq,all_eq_true,bne_iff_ne,ne_eq,Bool.or_eq_true] at h;obtain ⟨⟨⟨h1,h2⟩,h3⟩,h4⟩:=h;refine ⟨h1,fun i j e=>?_,fun y hy=>(h3 y hy).1.1,fun y hy e=>?_,fun y hy e=>?_,h4⟩
 ·have hi:i<fs.length:=(List.getElem?_eq_some_iff.mp e).1
  have hN:i<N.length:=by lia
  have hz:(N.zip fs)[i]?=some (N[i],some j):=by
   rw [List.getElem?_zip_eq_some];exact ⟨by simp [hN],e⟩
  have:=h2 _ (mem_of_getElem? hz);simp only [Bool.and_eq_true,beq_iff_eq] at this;exact ⟨N[i],by simp [hN],this.1,this.2⟩
 ·rcases (h3 y hy).1.2 with z | z
  ·exact absurd e z
  ·exact z
 ·rcases (h3 y hy).2 with z | z
  ·exact absurd e z
  ·exact z
theorem Rk {sc:Scope} {env:Env} {x:Str} {k:NameKind} (nc:∀ y∈sc.names,y.2≠.cell) (h:(relabel sc env).names.lookup x=some k) (hk:k=.cell\/k=.free):(x,NameKind.free)∈sc.names:=by
 have hm:=PySem.mem_of_lookup h;unfold relabel at hm;simp only [mem_map] at hm;obtain ⟨⟨n,k'⟩,hy,e⟩:=hm;dsimp only at e;split at e
 ·rename_i hc
  simp only [Bool.and_eq_true,beq_iff_eq] at hc;cases e;rw [hc.1.1] at hy;exact hy
 ·cases e
  rcases hk with z | z
  ·exact absurd z (nc _ hy)
  ·rw [z] at hy;exact hy
theorem Ld {sc:Scope} {env:Env} {x:Str} (h:sc.names.lookup x=some .free):(relabel sc env).names.lookup x=some .cell\/(relabel sc env).names.lookup x=some .free:=by
 unfold relabel;dsimp only;generalize sc.names=names at h;induction names with
 | nil=>simp at h
 | cons y r ih =>
  obtain ⟨n,k⟩:=y;rw [lookup_cons] at h;rw [map_cons];split at h
  ·rename_i hx
   cases h;have:x=n:=by simpa using hx
   subst this;dsimp only;split
   ·left;rw [lookup_cons];simp
   ·right;rw [lookup_cons];simp
  ·rename_i hx
   dsimp only;split
   ·rw [lookup_cons,hx];exact ih h
   ·rw [lookup_cons,hx];exact ih h
section
variable {X:Cx} {pins:List (Addr×Obj)} {σ:St} {H:Hp} {s:Shared} {sc psc:Scope} {N:List Str} {fs:List (Option Nat)} {C:Addr} {fp:List Addr}
theorem Sj (I:Inv X pins σ H s) (hp:X.env.scope=psc) (S:CompOk psc sc X.N N fs):∀ y∈sc.names,y.2=.free->∃ c,X.env.cells.lookup y.1=some c:=fun y hy e=>by
 refine I.ok.has y.1 ?_;have:=S.par y hy e;rw [← hp] at this;exact this
theorem Jy (I:Inv X pins σ H s) (hp:X.env.scope=psc) (S:CompOk psc sc X.N N fs):∀ x c,(Ft X.env.cells sc.names []).lookup x=some c->X.env.cells.lookup x=some c :=
 El sc.names [] (Sj I hp S) fun x c e=>by simp at e
theorem Ak (I:Inv X pins σ H s) (hp:X.env.scope=psc) (S:CompOk psc sc X.N N fs) (hf:∀ b∈fp,O6 X pins H b) (hfl:∀ b∈fp,b<s.heap.objs.size) (hC:s.heap.objs.size<=C):(Vv X sc N C s H fp).Ok where
 mod:=I.ok.mod
 kind:=S.kind
 glob:=I.ok.glob
 blt:=I.ok.blt
 above:=hC
 inj:=fun x y c h1 h2=>I.ok.inj x y c (Jy I hp S x c h1) (Jy I hp S y c h2)
 has:=fun x hx=>by
  have hm:(x,NameKind.free)∈sc.names:=by
   rcases hx with hx | hx
   ·exact Rk S.nocell hx (.inl rfl)
   ·exact Rk S.nocell hx (.inr rfl)
  exact Option.isSome_iff_exists.mp (Iu sc.names [] x (.inl hm))
 cab:=fun x c h _=>by cases h
 hd:=I.ok.hd
 frames:=I.ok.frames
 stk:=.inl rfl
 exf:=fun b hb=>⟨ne_of_lt (lt_of_lt_of_le (hfl b hb) hC),fun x c e=>(hf b hb).2.2.2.2.1 x c (Jy I hp S x c e)⟩
 bs:=I.bs
 bsz:=le_trans I.ok.bsz I.sz
 noex:=fun b o e hb=>by
  rcases (hf b hb).2.2.2.1 with z | z
  ·exact I.ok.noex b o e z
  ·exact absurd (lt_of_lt_of_le (lt_size e) (le_trans I.ok.bsz z)) (lt_irrefl _)
 exfs:=fun b hb hs=>by
  rcases mem_cons.mp (I.stkSub b hs) with z | z
  ·exact (hf b hb).2.1 z
  ·exact (hf b hb).2.2.1 z
 funs:=I.stack
 frf:=I.stkFree
def Tv (fs:List (Option Nat)) (σ:St):St:=fs.map fun o=>match o with | none=>none | some j=>(σ[j]?).getD none
theorem F9 {h₁:Heap} {tk:Nat} {D:Addr} {oD:Obj} {m₁:Str->Option Value} (I:Inv X pins σ H s) (hp:X.env.scope=psc) (S:CompOk psc sc X.N N fs) (hf:∀ b∈fp,O6 X pins H b) (hfl:∀ b∈fp,b<s.heap.objs.size) (hC:s.heap.objs.size<=C)
  (old:∀ b o,s.heap.get? b=some o->h₁.get? b=some o) (hn:h₁.Ns C m₁) (hD:h₁.get? D=some oD) (hDs:s.heap.objs.size<=D) (hDC:D≠C) (hDd:∀ v,oD.data≠.cell v) :
  Inv (Vv X sc N C s H fp) [(D,oD)] (Tv fs σ) H { s with heap:=h₁,toks:=tk }:=by
 refine ⟨Ak I hp S hf hfl hC,rfl,I.bare,Un.kept old,⟨m₁,hn,fun i x v e1 e2 e3=>?_⟩,fun x c e=>?_,I.hok.fresh hC,fun x c e=>I.freeC x c (Jy I hp S x c e),fun p hpn=>?_,I.hok.kept old,?_⟩
 ·unfold Tv at e2
  rw [getElem?_map] at e2;cases hfi:fs[i]? with
  | none=>rw [hfi] at e2;cases e2
  | some o =>
   rw [hfi] at e2;cases o with
   | none=>simp at e2
   | some j =>
    simp only [Option.map_some,Option.some.injEq] at e2;obtain ⟨x',ex,ej,el⟩:=S.frees i j hfi;have:x'=x:=by
     have q:N[i]?=some x:=e1;rw [ex] at q;exact Option.some.inj q
    subst this;have ev:σ[j]?=some (some v):=by
     cases q:σ[j]? with
     | none=>rw [q] at e2;simp at e2
     | some z=>rw [q] at e2;simp at e2;rw [e2]
    have kk:X.env.scope.names.lookup x'=some .cell\/X.env.scope.names.lookup x'=some .free:=by
     rw [hp];exact S.par (x',.free) (PySem.mem_of_lookup el) rfl
    obtain ⟨m,hm,hl⟩:=I.loc;obtain ⟨u,r,l⟩:=hl j x' v ej ev (by
     rcases kk with k | k
     ·exact .inr (.inl k)
     ·exact .inr (.inr k))
    refine ⟨u,r,.inr ⟨Ld el,?_⟩⟩;rcases l with ⟨k,_⟩ | ⟨_,c,hc,hcell⟩
    ·have k':X.env.scope.names.lookup x'=some .local:=k
     rcases kk with z | z<;>rw [z] at k'<;>cases k'
    ·obtain ⟨c',hc'⟩:=Option.isSome_iff_exists.mp (Iu (cells:=X.env.cells) sc.names [] x' (.inl (PySem.mem_of_lookup el)))
     have:=Jy I hp S x' c' hc';rw [hc] at this;cases this;obtain ⟨oc,ho,hd⟩:=hcell;exact ⟨c,hc',oc,old _ _ ho,hd⟩
 ·obtain ⟨v,oc,ho,hd⟩:=I.cell x c (Jy I hp S x c e)
  exact ⟨v,oc,old _ _ ho,hd⟩
 ·have hpn':p=(D,oD):=by
   rcases mem_append.mp hpn with z | z
   ·exact absurd (show p∈([]:List (Addr×Obj)) from z) (by simp)
   ·simpa using z
  subst hpn';refine ⟨hD,I.hok.fresh hDs,hDC,fun hs=>?_,hDd⟩;have hb:D∈X.env.locals::X.fs:=I.stkSub D hs;rcases mem_cons.mp hb with z | z
  ·exact absurd (lt_of_lt_of_le I.lt (by rw [← z];exact hDs)) (lt_irrefl _)
  ·exact I.nofs hDs z
 ·show (Tv fs σ).length=N.length
  unfold Tv;rw [length_map,S.len]
theorem HOk.adopt {P:Program} {w:World} {H:Hp} {h:Heap} {D:Addr} {ys:List V} {its:List Value} {n:Nat} (ok:HOk P w H h) (hD:H D=none) (ho:h.get? D=some { cls:=.type "list",data:=.seq its.toArray n }) (r:Wa ys its) (hz:ys.length<=sizeLine) :
  HOk P w (upd H D (.lst ys)) h:=fun b u e=>by
 by_cases hb:b=D
 ·subst hb
  rw [Zu] at e;cases e;exact ⟨hz,its,n,r,ho⟩
 ·rw [Zg hb] at e
  refine (ok b u e).stay (fun c v _ q=>q) (fun c q=>?_) fun c xs q=>?_
  ·rw [Zg (Y6 q hD)];exact q
  ·rw [Zg (Y6 q hD)];exact q
theorem Un.adopt {fs ex:List Addr} {H H':Hp} {h h':Heap} {D:Addr} {o:HO} (u:Un fs ex H H' h h') (hD:h.objs.size<=D) (hn:H' D=none):Un fs ex H (upd H' D o) h h' where
 keep:=u.keep
 slot:=u.slot
 free:=fun b ob q n hx=>by rw [Zg (ne_of_lt (lt_of_lt_of_le (lt_size q) hD))];exact u.free b ob q n hx
 there:=u.there
 tups:=fun b xs q=>by rw [Zg (Y6 (u.tups b xs q) hn)];exact u.tups b xs q
 frzs:=fun b ob x q=>by rw [Zg (Y6 (u.frzs b ob x q) hn)];exact u.frzs b ob x q
 tbls:=fun b ps q=>by
  obtain ⟨more,e⟩:=u.tbls b ps q;exact ⟨more,by rw [Zg (Y6 e hn)];exact e⟩
def PIf (Y:Cx) (ifs:List Expr) (tt:TT):Prop :=
 ∀ (pins:List (Addr×Obj)) (s:Shared) (σ:St) (H:Hp) (Q:Bool->Hp->Prop),Inv Y pins σ H s->tt σ H Q ->
  wpAny (model Y.prog Y.w) Y.A (forIn ifs true fun c r=>if r=true then do let ok ← isTrue c Y.env (eval c Y.env);pure (ForInStep.yield ok) else pure (ForInStep.yield r)) (TP Y pins σ Q) Y.xe s
def Zdc:TT:=fun _ H Q=>Q true H
theorem Z5m {Y:Cx}:PIf Y [] Zdc:=fun _ _ _ H _ I h=>wpAny_tests_nil ⟨H,I,h⟩
theorem Z5j {Y:Cx} {c:Expr} {tc:TT} (h:PT Y c tc):PIf Y [c] tc:=fun pins s σ H Q I q=>wpAny_tests_one (h pins s σ H Q I q)
def Ext (σ σ2:St):Prop:=σ.length=σ2.length/\∀ (i:Nat) v,σ[i]?=some (some v)->σ2[i]?=some (some v)
def Z8t (wi:TI) (fs:List (Option Nat)) (g:TG) (tt:TT) (te:TE):TE:=fun σ H Q=>wi σ H fun J H1=>∃ W:Nat->Nat->List V->Hp->Prop,(∃ m,W 0 m [] H1)/\∀ i m ys H,W i m ys H ->
 (J.stop i H/\ys.length<=sizeLine/\∀ p,H p=none->Q (.ref p) (upd H p (.lst ys))) \/
 (J.go i H/\ys.length<=sizeLine/\∃ N:List V->Hp->Prop,(∀ ys' H',N ys' H'->∃ m',m'<m/\W (i+1) m' ys' H')/\∀ x H',J.yld i H x H'->g x (Tv fs σ) H' fun σ2 H2=>Ext (Tv fs σ) σ2 /\
  tt σ2 H2 fun b H3=>if b=true then te σ2 H3 fun v H4=>N (ys++[v]) H4 else N ys H3)
theorem Pg {elt tg iter:Expr} {ifs:List Expr} {pos:Pos} {it:Addr} {tn:Nat->Heap->Prop} {J:It} {g:TG} {tt:TT} {te:TE} {E:Value->Shared->Prop} {RR:Value->Addr->Result->Shared->Prop}
  (hp:X.env.scope=psc) (S:CompOk psc sc X.N N fs) (hc:X.calm=true)
  (hb:∀ (C:Addr) (s:Shared) (H:Hp) (fp:List Addr),PG (Vv X sc N C s H fp) tg g/\PIf (Vv X sc N C s H fp) ifs tt/\PE (Vv X sc N C s H fp) elt te)
  (I:Inv X pins σ H s) (T:Turn X.prog X.w X.K tg J fp it tn) (st:tn 0 s.heap) (hf:∀ b∈fp,O6 X pins H b) {Q:VK}
  (hW:∃ W:Nat->Nat->List V->Hp->Prop,(∃ m,W 0 m [] H)/\∀ i m ys H,W i m ys H ->
   (J.stop i H/\ys.length<=sizeLine/\∀ p,H p=none->Q (.ref p) (upd H p (.lst ys))) \/
   (J.go i H/\ys.length<=sizeLine/\∃ N:List V->Hp->Prop,(∀ ys' H',N ys' H'->∃ m',m'<m/\W (i+1) m' ys' H')/\∀ x H',J.yld i H x H'->g x (Tv fs σ) H' fun σ2 H2=>Ext (Tv fs σ) σ2 /\
    tt σ2 H2 fun b H3=>if b=true then te σ2 H3 fun v H4=>N (ys++[v]) H4 else N ys H3))
  (hRR:∀ (D C:Addr) (s':Shared) (H':Hp),(∃ m,s'.heap.Ns C m)->Inv X pins σ H' s'->O6 X pins H' C->Q (.ref D) H'->RR (.ref D) C (.ok .next) s') :
  wpAny (model X.prog X.w) X.A (newList []) (fun acc s₃=>wpAny (model X.prog X.w) X.A (newFunctionEnv sc X.env.globals (Ft X.env.cells sc.names []) [] X.env.qual none .none (some X.env)) (fun cenv s₄ =>
   codeAny (model X.prog X.w) X.A (.compStart (.ListComp elt [⟨tg,iter,ifs,0⟩] sc pos) 0 (.ref it) acc { cenv with scope:=relabel sc X.env }) (RR acc cenv.locals) s₄) E s₃) E s:=by
 refine wpAny_newObj_type (wpAny_newFunctionEnv S.nocell (by intro y hy;simp at hy) (fun h₁ hns₁ hsb₁=>?_) S.kind);dsimp only at hns₁ hsb₁ ⊢;generalize hH2:s.heap.push { cls:=.type "list",dict:=none,data:=.seq ([]:List Value).toArray }=G2 at hns₁ hsb₁ ⊢;have hC:G2.objs.size=s.heap.objs.size+1:=by rw [← hH2,size_push]
 have hDC:s.heap.objs.size≠G2.objs.size:=by rw [hC];exact ne_of_lt (Nat.lt_succ_self _)
 have hCle:s.heap.objs.size<=G2.objs.size:=by rw [hC];exact le_succ _
 have below:∀ b,b<s.heap.objs.size->b≠G2.objs.size/\b≠s.heap.objs.size:=fun b hb=>⟨by rw [hC];exact ne_of_lt (Nat.lt_succ_of_lt hb),ne_of_lt hb⟩
 have hfl:∀ b∈fp,b<s.heap.objs.size:=fun b hb=>by
  obtain ⟨o,e,_⟩:=T.obj _ _ st b hb;exact lt_size e
 have old:∀ b o,s.heap.get? b=some o->h₁.get? b=some o:=fun b o e=>hsb₁.extBut b o (below b (lt_size e)).1 (get?_push_of_some _ (hH2▸get?_push_of_some _ e))
 have hacc:h₁.get? s.heap.objs.size=some { cls:=.type "list",data:=.seq ([]:List Value).toArray 0 }:=hsb₁.extBut _ _ hDC (get?_push_of_some _ (hH2▸get?_push_size _ rfl));have st1:tn 0 h₁:=T.keep _ _ _ st fun b _ o e=>old b o e
 obtain ⟨W,⟨m0,w0⟩,turn⟩:=hW;obtain ⟨pg,pif,pe⟩:=hb G2.objs.size s H fp;generalize hY:Vv X sc N G2.objs.size s H fp=Y at pg pif pe;have Ye:Y.env=compEnvC sc (Ft X.env.cells sc.names []) G2.objs.size X.env:=by rw [← hY];rfl
 have YA:Y.A=X.A:=by rw [← hY];rfl
 have Yp:Y.prog=X.prog:=by rw [← hY];rfl
 have Yw:Y.w=X.w:=by rw [← hY];rfl
 have YK:Y.K=X.K:=by rw [← hY];rfl
 have Yx:Y.xe=fun _ _=>False:=by rw [← hY];rfl
 have Yc:Y.calm=true:=by rw [← hY];exact hc
 have cellN:∀ x c,X.env.cells.lookup x=some c->c<s.heap.objs.size:=fun x c e=>by
  obtain ⟨v,q⟩:=I.cell x c e;exact q.lt
 have loop:∀ s₃:Shared,s₃={ s with heap:=h₁,toks:=s.toks+([]:List (Str×Value)).length } ->
   codeAny (model X.prog X.w) X.A (.compLoop (.ListComp elt [⟨tg,iter,ifs,0⟩] sc pos) 0 (.ref it) (.ref s.heap.objs.size) (compEnvC sc (Ft X.env.cells sc.names []) G2.objs.size X.env)) (RR (.ref s.heap.objs.size) G2.objs.size) s₃:=by
  rintro s₃ rfl;refine Om (fun n s'=>∃ (i:Nat) (H':Hp) (ys:List V) (its:List Value) (k:Nat),Wa ys its/\Inv Y [(s.heap.objs.size,{ cls:=.type "list",data:=.seq its.toArray k })] (Tv fs σ) H' s'/\tn i s'.heap/\(∀ b∈fp,H' b=none)/\W i n ys H') ?_ m0
   ⟨0,H,[],[],0,.nil,hY▸F9 (D:=s.heap.objs.size) I hp S hf hfl hCle old hns₁ hacc (le_refl _) hDC (fun v z=>by cases z),st1,fun b hb=>(hf b hb).1,w0⟩
  rintro n s1 ⟨i,H1,ys,its,k,rv,I1,st',fr1,w1⟩;have stat:∀ {H':Hp} {pl:List (Addr×Obj)},(∀ b∈fp,H' b=none)->(∀ p∈pl,p.1=s.heap.objs.size)->∀ b∈fp,O6 Y pl H' b:=fun {H' pl} hn hpl b hb=>by
   rw [← hY];refine ⟨hn b hb,(below b (hfl b hb)).1,fun z=>?_,.inl hb,fun x c e=>(hf b hb).2.2.2.2.1 x c (Jy I hp S x c e),fun p hpp=>?_⟩
   ·rcases mem_cons.mp (I.stkSub b z) with z | z
    ·exact (hf b hb).2.1 z
    ·exact (hf b hb).2.2.1 z
   ·have hpp':p∈pl:=by
     rcases mem_append.mp hpp with z | z
     ·exact absurd (show p∈([]:List (Addr×Obj)) from z) (by simp)
     ·exact z
    rw [hpl p hpp'];exact Ne.symm (below b (hfl b hb)).2
  have one:∀ {o:Obj} (p:Addr×Obj),p∈([(s.heap.objs.size,o)]:List (Addr×Obj))->p.1=s.heap.objs.size:=fun {o} p hpp=>by
   have:p=_:=mem_singleton.mp hpp;rw [this]
  rcases turn i n ys H1 w1 with ⟨stop,hz,qn⟩ | ⟨go,hz,N',hN,step⟩
  ·have:=T.done Y Yp Yw YK Yc i _ s1 _ H1 (fun _ _=>False) I1 (stat fr1 one) st' stop
   rw [YA] at this;refine thn this fun r s4 ⟨hr,I4⟩=>?_
   subst hr;have Ib:=I4.base;have pinD:=I4.pin (s.heap.objs.size,_) (mem_append_right _ mem_cons_self);obtain ⟨mC,hmC,_⟩:=I4.loc;have e1:Y.fs=frs X.stack:=by rw [← hY];rfl
   have e2:Y.ex=fp:=by rw [← hY];rfl
   have e3:Y.H₀=H:=by rw [← hY];rfl
   have e4:Y.s₀=s:=by rw [← hY];rfl
   have e5:Y.env.locals=G2.objs.size:=by rw [← hY];rfl
   rw [e1,e2,e3,e4] at Ib;rw [e5] at hmC;have hok4:HOk X.prog X.w H1 s4.heap:=by
    have:=I4.hok;rw [Yp,Yw] at this;exact this
   have freeC:H1 G2.objs.size=none:=by have:=I4.free;rw [e5] at this;exact this
   have freeC':upd H1 s.heap.objs.size (.lst ys) G2.objs.size=none:=by rw [Zg (Ne.symm hDC)];exact freeC
   have os4:s4.os=s.os:=by have:=I4.os;rw [e4] at this;exact this
   refine hRR _ _ s4 (upd H1 s.heap.objs.size (.lst ys)) ⟨mC,hmC⟩ ?_ (I.fpOk hCle freeC') (qn _ pinD.2.1);exact I.call' (s':=s4) (ch:=fp) os4 (Ib.adopt (le_refl _) pinD.2.1) (hok4.adopt pinD.2.1 pinD.1 rv hz) I4.bare fun b hb=>⟨(hf b hb).2.2.2.1,(hf b hb).2.1,(hf b hb).2.2.2.2.1,(hf b hb).2.2.2.2.2⟩
  ·have:=T.item Y Yp Yw YK Yc i _ s1 _ H1 (fun _ _=>False) I1 (stat fr1 one) st' go
   rw [YA] at this;refine thn this fun r s4 ⟨u,hr,h4⟩=>?_
   subst hr;refine thn h4 fun _ s5 ⟨x,H5,I5,r5,y5,st5,fr5⟩=>?_
   have I5':=I5.pinned (stat fr5 one) (T.obj _ _ st5);have a1:=pg _ s5 _ H5 x u _ I5' r5 (step x H5 y5);rw [YA,Yp,Yw,Yx,Ye] at a1;refine thn a1 fun _ s6 ⟨σ6,H6,I6,ext,q6⟩=>?_
   have a2:=pif _ s6 σ6 H6 _ I6 q6;rw [YA,Yp,Yw,Yx,Ye] at a2;refine thn a2 fun b s7 ⟨H7,I7,q7⟩=>?_
   have back:∀ {H8:Hp} {s8:Shared},Inv Y ([(s.heap.objs.size,({ cls:=.type "list",data:=.seq its.toArray k }:Obj))]++Lu fp s5.heap) σ6 H8 s8->Inv Y [(s.heap.objs.size,{ cls:=.type "list",data:=.seq its.toArray k })] (Tv fs σ) H8 s8/\tn (i+1) s8.heap/\∀ b∈fp,H8 b=none:=fun {H8 s8} I8 =>
    ⟨I8.unpinned.weak ext.1 ext.2,T.keep _ _ _ st5 fun b hb o e=>(I8.pin (b,o) (mem_append_right _ (mem_append_right _ (Ma hb e)))).1,fun b hb=>by
     obtain ⟨o,e,d⟩:=T.obj _ _ st5 b hb;exact (I8.pin (b,o) (mem_append_right _ (mem_append_right _ (Ma hb e)))).2.1⟩
   cases b with
   | false =>
    rw [if_neg Bool.false_ne_true] at q7 ⊢;obtain ⟨m',hm,w7⟩:=hN _ _ q7;obtain ⟨I7',st7,fr7⟩:=back I7;exact ⟨m',hm,i+1,H7,ys,its,k,rv,I7',st7,fr7,w7⟩
   | true =>
    rw [if_pos rfl] at q7 ⊢;have a3:=pe _ s7 σ6 H7 _ I7 q7;rw [YA,Yp,Yw,Yx,Ye] at a3;refine thn a3 fun y s8 ⟨v,H8,I8,r8,q8⟩=>?_
    obtain ⟨m',hm,w8⟩:=hN _ _ q8;obtain ⟨I8',st8,fr8⟩:=back I8;have pinD:=I8'.pin (s.heap.objs.size,_) (mem_append_right _ mem_cons_self);refine append_at (hsz:=by show its.toArray.size<=sizeLine;rw [size_toArray,← rv.length];exact hz) pinD.1 fun h9 hs9 hD9=>?_
    have e5:Y.env.locals=G2.objs.size:=by rw [← hY];rfl
    have I9:Inv Y [] (Tv fs σ) H8 { s8 with heap:=h9 }:=by
     have J0:Inv Y [] (Tv fs σ) H8 s8:=I8'.pins_of fun p hp=>absurd hp (by simp)
     refine J0.turned (t':=s8.toks) (it:=s.heap.objs.size) (fun b o hb e=>hs9.extBut b o hb e) pinD.2.1 (by rw [e5];exact hDC) (.inr ?_) (fun x c e=>?_) fun p hp=>?_
     ·rw [← hY];exact le_refl _
     ·rw [← hY] at e
      exact ne_of_lt (cellN x c (Jy I hp S x c e))
     ·rw [← hY] at hp
      exact absurd (show p∈([]:List (Addr×Obj)) from hp) (by simp)
    refine ⟨m',hm,i+1,H8,ys++[v],its++[y],k+1,rv.append (.cons r8 .nil),I9.pins_of fun p hp=>?_,T.keep _ _ _ st8 fun b hb o e=>hs9.extBut b o (below b (hfl b hb)).2 e,fr8,w8⟩;have:p=_:=mem_singleton.mp hp;subst this;refine ⟨?_,pinD.2.1,pinD.2.2.1,pinD.2.2.2.1,fun v z=>by cases z⟩;have e9:its.toArray.push y=(its++[y]).toArray:=by simp
    rw [← e9];exact hD9
 exact codeAny_compStart_list (loop _ rfl) (T.self _ 0 _ _ _ st1 (loop _ rfl))
theorem Inv.letGo {H':Hp} {h':Heap} (I:Inv X pins σ H s) (f:O6 X pins H C) (hs:SameBut C s.heap h'):Inv X pins σ H { s with heap:=h' }:=by
 obtain ⟨f0,f1,f2,f3,f4,f5⟩:=f;exact I.turned (t':=s.toks) (fun b o hb e=>hs.extBut b o hb e) f0 f1 f3 f4 f5
theorem Z63 {elt tg iter:Expr} {ifs:List Expr} {pos:Pos} {wi:TI} {g:TG} {tt:TT} {te:TE} (psc:Scope) (fs:List (Option Nat)) (N:List Str) (hp:X.env.scope=psc) (S:CompOk psc sc X.N N fs) (hc:X.calm=true) (hi:PI X tg iter wi)
  (hb:∀ (C:Addr) (s:Shared) (H:Hp) (fp:List Addr),PG (Vv X sc N C s H fp) tg g/\PIf (Vv X sc N C s H fp) ifs tt/\PE (Vv X sc N C s H fp) elt te)
  (hs:∀ x,foldedSetIterable iter X.env x=pure x:=by intro _;rfl):PE X (.ListComp elt [⟨tg,iter,ifs,0⟩] sc pos) (Z8t wi fs g tt te):=by
 intro pins s σ H Q I h;rw [eval_ListComp];refine wpAny_comprehension_free (use:=none) rfl hs (Gr (Sj I hp S)) S.kind S.loc (thn (hi pins s σ H _ I h) fun xv s₁ h₁=>thn h₁ fun itv s₂ h₂=>?_);obtain ⟨it,fp,tn,J,H2,e,I2,T,st2,f2,hW⟩:=h₂;subst e;refine Pg (RR:=fun acc C=>compPost (model X.prog X.w) X.A X.xe none (EP X pins σ Q) acc C) hp S hc hb I2 T st2 f2 hW ?_;intro D C s' H' ⟨m,hm⟩ I' f q;exact ⟨m,hm,fun h' hs'=>⟨.ref D,H',I'.letGo (H':=H') f hs',rfl,q⟩⟩
theorem Ho {i:Nat} {x:Str} {elt tg iter:Expr} {ifs:List Expr} {pos pos' spos:Pos} {wi:TI} {g:TG} {tt:TT} {te:TE} (hN:X.N.Nodup) (hi':X.N[i]?=some x) (hx:Loc X.env.scope x) (psc:Scope) (fs:List (Option Nat)) (N:List Str) (hp:X.env.scope=psc) (S:CompOk psc sc X.N N fs) (hc:X.calm=true) (hi:PI X tg iter wi)
  (hb:∀ (C:Addr) (s:Shared) (H:Hp) (fp:List Addr),PG (Vv X sc N C s H fp) tg g/\PIf (Vv X sc N C s H fp) ifs tt/\PE (Vv X sc N C s H fp) elt te)
  (hs:∀ x,foldedSetIterable iter X.env x=pure x:=by intro _;rfl) (hsw:swapsWith (.ListComp elt [⟨tg,iter,ifs,0⟩] sc pos) (some (.Name x pos')) spos.line X.env=pure true:=by rfl)
  (hf:X.fn x=true\/X.env.scope.names.lookup x=some .local:=by first | exact .inl rfl | exact .inr rfl | assumption) :
  PS X (.Assign [.Name x pos'] (.ListComp elt [⟨tg,iter,ifs,0⟩] sc pos) spos) (Zaz (Z8t wi fs g tt te) (Z1x i)):=by
 intro pins s σ H D I h;rw [exec_Assign_Name_used _ _ _ _ hsw];refine wpAny_bind (wpAny_standAt (wpAny_bind ?_));show wpAny _ X.A (do let _ ← comprehension (.ListComp elt [⟨tg,iter,ifs,0⟩] sc pos) sc X.env _ (newList []) false (eval iter X.env) (some (assign (.Name x pos') X.env))) _ _ s;refine wpAny_bind (wpAny_mono (wpAny_comprehension_free (use:=some (assign (.Name x pos') X.env)) (Q:=fun _ s'=>SP X pins D .next s') rfl hs (Gr (Sj I hp S)) S.kind S.loc
  (thn (hi pins s σ H _ I h) fun xv s₁ h₁=>thn h₁ fun itv s₂ h₂=>?_)) (fun _ s' hq=>wpAny_pure (wpAny_pure hq)) fun _ _ e=>e)
 obtain ⟨it,fp,tn,J,H2,e,I2,T,st2,f2,hW⟩:=h₂;subst e;refine Pg (Q:=fun v H'=>Z1x i v σ H' D.nx) (RR:=fun acc C=>compPost (model X.prog X.w) X.A X.xe (some (assign (.Name x pos') X.env)) (fun _ s'=>SP X pins D .next s') acc C) hp S hc hb I2 T st2 f2 hW ?_;intro L C s' H' ⟨m,hm⟩ I' f q;refine wpAny_assign_Name (Kk I' hN hi' hx (show Vf (V.ref L) (Value.ref L) from rfl) (fun s'' I'' ⟨a,hsb,ha⟩=>?_) hf);have hCa:C≠a:=by
  rintro rfl;rcases ha with z | z
  ·exact f.2.1 z
  ·exact f.2.2.2.2.1 x _ z rfl
 refine ⟨m,hm.sameBut hsb hCa,fun h' hs'=>⟨_,H',I''.letGo (H':=H') f hs',q⟩⟩
end
section
variable {t u:TS} {a b c:St->Hp->Prop} {r:VK} {σ:St} {H:Hp} {te ta tb:TE} {tc td:TT} {Q:VK} {i:Nat}
end
section
variable {X:Cx}
def Zbx (K:PySem.W.Frag):List V->Hp->VK->Prop:=fun xs H Q=>(∃ p ys,xs=[.ref p]/\(SqL K H p ys\/SqT K H p ys)/\(ys.length<=sizeLine->Q (.int ys.length) H))\/∃ z,xs=[.str z]/\z.length<=sizeLine/\Q (.int z.length) H
theorem B7:Uq X (.builtin "len") (Zbx X.K):=by
 intro pins s σ H xs us Q I r h;rcases h with ⟨p,ys,e,hq,q⟩ | h
 ·refine L6 pins s σ H xs us Q I r ⟨p,ys,e,hq,q ?_⟩
  rcases hq with hq | hq
  ·exact (I.list hq).choose_spec.2.2
  ·exact (I.tuple hq).choose_spec.2.2
 ·exact Kw pins s σ H xs us Q I r h
theorem PI.or {tg iter:Expr} {w1 w2:TI} (h1:PI X tg iter w1) (h2:PI X tg iter w2):PI X tg iter (fun σ H R=>w1 σ H R\/w2 σ H R):=by
 intro pins s σ H R I h;rcases h with h | h
 ·exact h1 pins s σ H R I h
 ·exact h2 pins s σ H R I h
def Zdl (K:PySem.W.Frag) (tl:TE):TI:=fun σ H R=>Z93 K tl σ H R\/Zcb K tl σ H R
theorem Z3o {tg l:Expr} {tl:TE} (hl:PE X l tl):PI X tg l (Zdl X.K tl):=(Z4d hl).or (Z8e hl)
end
section
variable {K:PySem.W.Frag} {tl:TE} {ta:TA} {g:TG} {tb:TS} {D:Ends} {σ:St} {H:Hp} {a b c:St->Hp->Prop} {r:VK}
variable {tt:TT} {te:TE} {fs:List (Option Nat)} {Q:VK}
end
structure Def (K:PySem.W.Frag) (mg:Str->Option Value) (x:Str) (st:Stmt):Prop where
 ex:∃ f fd,Fun K x x st f fd/\mg x=some (.ref f)
structure Cal (P:Program) (w:World) (K:PySem.W.Frag) (mg:Str->Option Value) (base:Heap) (k:Nat) (x:Str) (ps:List Str) (sp:Sp):Prop where
 ex:∃ f fd,FnOk P w K mg base CX0 k f fd ps sp/\mg x=some (.ref f)/\PySem.W.keepIn K (.ref f)=true/\Ih K fd ps []
def Zdq (sp:Sp) (t:TA):TE:=fun σ H Q=>t σ H fun vs H1=>sp vs H1 Q E0
section
variable {P:Program} {w:World} {K:PySem.W.Frag} {mg:Str->Option Value} {base:Heap}
theorem Av {X:Cx} {k:Nat} {x:Str} {ps:List Str} {sp:Sp} {p pos:Pos} {e:Expr} {es:List Expr} {t:TA} (C:Cal X.prog X.w X.K X.mg X.base k x ps sp) (hr:Room k X.A) (ha:PA X (e::es) t) (hg:Gl X x:=by rfl)
  (hdb:(x==("__debug__" : Str))=false:=by decide) (he:starEach (e::es) X.env=(false,eval e X.env)::starEach es X.env:=by rfl) (hpl:(backTo pos (starEach es X.env)).any (·.1)=false:=by rfl) :
  PE X (.Call (.Name x p) (e::es) [] pos) (Zdq sp t):=by
 obtain ⟨f,fd,F,hm,hk,hb⟩:=C.ex;have:=Z5f (dvs:=[]) (ds:=[]) (E:=E0) F hr hg hm hk hb .nil Zc1 ha hdb he hpl (p:=p);intro pins s σ H Q I h;refine this pins s σ H Q I ?_;unfold Z8h;simp only [append_nil];exact h
theorem Z6w {x:Str} {st:Stmt} {N ps:List Str} {k:Nat} {sp:Sp} (D:Def K mg x st) (S:FnScope N ps (Z7 st))
  (hbi:∀ (kV doc pm:Value) (an:Option Addr) (cdv ct:Value) (us:List Value),us.length=ps.length->bindArgs (fnOf x x (Qd st) (Wp st) (Z7 st) .none kV doc pm an cdv ct) ⟨us,[]⟩=pure (ps.zip us))
  (len:∀ vs H Q E,sp vs H Q E->vs.length=ps.length)
  (hbody:∀ (f:Addr) (cdv:Value) (A:Around) (outer:List Env) (s:Shared) (H:Hp) (vs:List V) (Q:VK) (E:XK),Room k (A.deeper (envOfC x (Z7 st) s.heap.objs.size f cdv))->sp vs H Q E ->
   ∃ t,PSs (Kg CX0 P w K mg base N x (Z7 st) f cdv A outer s H E).nox (Wp st) t/\t (Ends.mk (fun _ H'=>Q .non H') Q (fun _ _=>False) (fun _ _=>False)) (start N vs) H):Cal P w K mg base (k+1) x ps sp:=by
 obtain ⟨f,fd,F,hm⟩:=D.ex;exact ⟨f,fd,F.ok S len (fun cdv A outer s H vs Q E hr h=>hbody f cdv A outer s H vs Q E hr h),hm,F.kp,F.binds hbi⟩
theorem Z64 {x:Str} {st:Stmt} {f:Addr} {fd:FuncData} {N ps:List Str} {k:Nat} {sp:Sp} (F:Fun K x x st f fd) (S:FnScope N ps (Z7 st)) (len:∀ vs H Q E,sp vs H Q E->vs.length=ps.length)
  (hbody:∀ (cdv:Value) (A:Around) (outer:List Env) (s:Shared) (H:Hp) (vs:List V) (Q:VK) (E:XK),Room k (A.deeper (envOfC x (Z7 st) s.heap.objs.size f cdv))->sp vs H Q E ->
   ∃ t,PSs (Kg CX0 P w K mg base N x (Z7 st) f cdv A outer s H E).nox (Wp st) t/\t (Ends.mk (fun _ H'=>Q .non H') Q (fun _ _=>False) (fun _ _=>False)) (start N vs) H):FnOk P w K mg base CX0 (k+1) f fd ps sp :=
 F.ok S len hbody
end
theorem Yj.new {H:Hp} {l:Addr} {o:HO} (h:H l=none):Yj H (upd H l o):=fun b u e=>by rw [Zg (Y6 e h)];exact e
theorem Yj.seqT {K:PySem.W.Frag} {H H':Hp} {a:Addr} {xs:List V} (e:Yj H H') (h:SqT K H a xs):SqT K H' a xs:=by
 rcases h with h | h
 ·exact .inl (e _ _ h)
 ·exact .inr h
section
variable {X:Cx}
theorem Z3w {x:Str} {T:String} {pos:Pos} (hg:Gl X x) (hm:X.mg x=none) (hv:bootBuiltins x=some (.type T)) (hn:x≠"__name__" := by decide) (hd:(x==("__debug__" : Str))=false:=by decide):PE X (.Name x pos) (tC (.ty T)) :=
 Z5b (v:=.ty T) hg hm hv rfl hn hd
def Z67 (T n:String):Option Bool:=if (Value.type T==Value.type n)=true then some true else if PySem.W.kitMeta n=true then (PySem.fastBuiltinMro T).map (·.contains (.type n)) else none
theorem Z8d {K:PySem.W.Frag} {T n:String} {b:Bool} (h:Z67 T n=some b):PySem.W.kitOne K (.type T) (.type n)=some b:=h
def Zco:V->Option Int->Option Int->Hp->VK->Prop:=fun x lo hi H Q=>∃ z,x=.str z/\z.length<=sizeLine/\Q (.str (Txt.slice z lo hi)) H
theorem Z6x:SlR X Zco:=by
 intro pins s σ H x v vl vu lo hi sl Q I rx hs pl pu h;obtain ⟨z,rfl,hz,q⟩:=h;obtain ⟨t,rfl⟩:=rx;have fin:∀ t' k,EP X pins σ Q (.str (Txt.slice z lo hi) t') { s with toks:=k }:=fun t' k=>⟨.str (Txt.slice z lo hi),H,I.tok _,⟨_,rfl⟩,q⟩
 refine ⟨"str",_,F.slot_str_getitem.lookup,typeIs_str _ _ _,?_⟩;cases pl with
 | none =>
  cases pu with
  | none=>exact wpAny_getItem_str_slice (l:=none) (u:=none) (st:=none) hs rfl (post_val_or_str ⟨le_trans (Txt.slice_le z _ _) hz,fin⟩)
  | int j tj=>exact wpAny_getItem_str_slice (l:=none) (u:=some (j,tj)) (st:=none) hs rfl (post_val_or_str ⟨le_trans (Txt.slice_le z _ _) hz,fin⟩)
 | int i ti =>
  cases pu with
  | none=>exact wpAny_getItem_str_slice (l:=some (i,ti)) (u:=none) (st:=none) hs rfl (post_val_or_str ⟨le_trans (Txt.slice_le z _ _) hz,fin⟩)
  | int j tj=>exact wpAny_getItem_str_slice (l:=some (i,ti)) (u:=some (j,tj)) (st:=none) hs rfl (post_val_or_str ⟨le_trans (Txt.slice_le z _ _) hz,fin⟩)
def Zdi (K:PySem.W.Frag):V->Option Int->Option Int->Hp->VK->Prop:=fun x lo hi H Q=>Zci K x lo hi H Q\/Zcs K x lo hi H Q\/Zco x lo hi H Q
theorem Zdd:SlR X (Zdi X.K):=Z5h.or (Z8j.or Z6x)
theorem D6 {ns:List Int}:∀ {us:List Value},IntsAre us ns->Wa (ns.map V.int) us:=by
 intro us h;induction h with
 | nil=>exact .nil
 | cons n t h ih=>exact .cons ⟨t,rfl⟩ ih
def Z65 (K:PySem.W.Frag):List V->Hp->VK->Prop:=fun xs H Q=>∃ p ns,xs=[.ref p]/\SqL K H p (ns.map V.int)/\ns.length<64 /\
 ∀ (ms:List Int) (l:Addr),ms.Perm ns->ms.Pairwise (·<=·)->H l=none->Q (.ref l) (upd H l (.lst (ms.map V.int)))
theorem Li:Uq X (.builtin "sorted") (Z65 X.K):=by
 intro pins s σ H xs us Q I r h;obtain ⟨p,ns,rfl,hq,h64,q⟩:=h;obtain ⟨u,rfl,rx⟩:=Sr r;cases rx;obtain ⟨its,r',pl,hz⟩:=I.list hq;have hlen:=r'.length;rw [length_map] at hlen;refine sorted_ints pl.isList (Gv r') (by lia) fun out ms h1 h2 h3=>?_
 obtain ⟨e,he⟩:=sortedAll_at s.heap its out;have hl:ms.length=ns.length:=h2.length_eq;refine ⟨.ref (s.heap.objs.size+1),upd H (s.heap.objs.size+1) (.lst (ms.map V.int)),I.laid (t':=s.toks) (fun b o q=>sortedAll_old q) (le_succ _) ?_,rfl,q ms _ h2 h3 (I.hok.fresh (le_succ _))⟩;refine ⟨by rw [length_map] at hz ⊢;lia,out.toList,e,D6 h1,?_⟩;rw [he]
theorem Oh {A:Around} {its:List Value} {bs:List Bool} (r:Wa (bs.map V.bl) its):TruthOf X.prog X.w A (fun i v=>its.toArray[i]?=some v) (fun i=>bs.getD i false):=by
 intro i v s Q E hv h;have hv':its[i]?=some v:=by simpa using hv
 have hi:i<its.length:=(List.getElem?_eq_some_iff.mp hv').1;have hl:=r.length;rw [length_map] at hl;have hb:(bs.map V.bl)[i]?=some (V.bl (bs[i]'(by lia))):=by simp [show i<bs.length by lia]
 obtain ⟨u,hu,ru⟩:=r.get hb;rw [hv'] at hu;cases hu;cases ru;have:bs.getD i false=bs[i]'(by lia):=by simp [List.getD,show i<bs.length by lia]
 have h':Q (bs.getD i false) s:=h;rw [this] at h';exact wpAny_truthy_bool h'
theorem C3 (bs:List Bool):(List.range bs.length).any (fun i=>bs.getD i false)=bs.any id:=by
 induction bs with
 | nil=>rfl
 | cons b bs ih =>
  rw [length_cons,List.range_succ_eq_map,any_cons,any_map,any_cons];have:(fun i=>(b::bs).getD i false) ∘ Nat.succ=fun i=>bs.getD i false:=by funext i;rfl
  rw [this,ih];rfl
def Zdp (K:PySem.W.Frag):List V->Hp->VK->Prop:=fun xs H Q=>∃ (p:Addr) (bs:List Bool),xs=[.ref p]/\SqL K H p (bs.map V.bl)/\Q (.bl (bs.any id)) H
theorem Z0i (hc:X.calm=true):Uq X (.builtin "any") (Zdp X.K):=by
 intro pins s σ H xs us Q I r h;obtain ⟨p,bs,rfl,hq,q⟩:=h;obtain ⟨u,rfl,rx⟩:=Sr r;cases rx;obtain ⟨its,r',pl,hz⟩:=I.list hq;have hl:=pl.isList;have hlt:p<s.heap.objs.size:=by obtain ⟨o,e,_⟩:=hl;exact lt_size e
 have hlen:=r'.length;rw [length_map] at hlen;refine call_any_walk (wpAny_pyIter_list hl ⟨s.heap.objs.size,_,_,_,_,_,fun i=>bs.getD i false,rfl,Walks.list (A:=X.A.in1) (I.ok.hd hc) s.heap.objs.size p (ne_of_lt hlt) its.toArray,⟨⟨_,get?_push_size _ rfl,rfl,rfl⟩,hl.push _⟩,Oh r',fun h' tk hk=>?_⟩);have e:(List.range its.toArray.size).any (fun i=>bs.getD i false)=bs.any id:=by rw [size_toArray,← hlen];exact C3 bs
 rw [e];exact ⟨.bl _,H,I.kept (h':=h') (t':=tk) (fun b o e=>hk b o (by simpa using ne_of_lt (lt_size e)) (get?_push_of_some _ e)),rfl,q⟩
abbrev TJ:=St->Hp->Str->VK->Prop
def PJ (X:Cx) (vs:List Expr) (t:TJ):Prop :=
 ∀ (pins:List (Addr×Obj)) (s:Shared) (σ:St) (H:Hp) (acc:Str) (Q:VK),Inv X pins σ H s->acc.length<=sizeLine->t σ H acc Q->wpAny (model X.prog X.w) X.A (joinParts acc (evalEach vs X.env)) (EP X pins σ Q) X.xe s
def Zcg:TJ:=fun _ H acc Q=>Q (.str acc) H
def Zcv (c:Str) (r:TJ):TJ:=fun σ H acc Q=>(acc++c).length<=sizeLine/\r σ H (acc++c) Q
theorem Z9m:PJ X [] Zcg:=fun pins s σ H acc Q I hz h=>joinParts_nil ⟨.str acc,H,I.tok _,⟨_,rfl⟩,h⟩ hz
theorem B8 {c:Str} {j:Nat} {pos:Pos} {vs:List Expr} {r:TJ} (hr:PJ X vs r):PJ X (.Constant (.str c) j pos::vs) (Zcv c r):=by
 intro pins s σ H acc Q I hz h;refine joinParts_cons (Calls.Constant_str ?_);exact ⟨h.1,hr pins _ σ H (acc++c) Q (I.tok _) h.1 h.2⟩
def C5 (r:TJ):TE:=fun σ H Q=>r σ H Str.empty Q
theorem Au {v1 v2:Expr} {rest:List Expr} {pos:Pos} {r:TJ} (h:PJ X (v1::v2::rest) r):PE X (.JoinedStr (v1::v2::rest) pos) (C5 r):=by
 intro pins s σ H Q I hq;exact JoinedStr_many (h pins s σ H Str.empty Q I (by decide) hq)
end
abbrev cl (z:Str):List Nat:=z.cps.toList
theorem Lh (z:Str):(cl z).length=z.length:=by simp [cl,Str.length]
theorem Z3l (x y:Str):cl (x++y)=cl x++cl y:=by
 show (x.cps++y.cps).toList=_;simp [cl]
def Eh {α:Type} (xs:List α) (lo hi:Option Int):List α:=(xs.drop (HT.sIx xs.length 0 lo)).take (HT.sIx xs.length xs.length hi - HT.sIx xs.length 0 lo)
theorem Z2k (xs:List Nat) (i k:Nat):((List.range k).map fun (m:Nat)=>((i:Int)+1*(m:Int)).toNat).filterMap (xs[·]?)=(xs.drop i).take k:=by
 rw [List.filterMap_map];induction k generalizing i with
 | zero=>simp
 | succ k ih =>
  rw [List.range_succ_eq_map,filterMap_cons,List.filterMap_map];have e0:((fun x=>xs[x]?) ∘ fun m:Nat=>((i:Int)+1*(m:Int)).toNat) 0=xs[i]?:=by simp [Function.comp]
  rw [e0];have e1:(((fun x=>xs[x]?) ∘ fun m:Nat=>((i:Int)+1*(m:Int)).toNat) ∘ Nat.succ)=((fun x=>xs[x]?) ∘ fun m:Nat=>(((i+1:Nat):Int)+1*(m:Int)).toNat):=by
   funext m
   simp only [Function.comp,Nat.succ_eq_add_one];congr 1
   lia
  rw [e1,ih];cases h:xs[i]? with
  | none =>
   have hl:xs.length<=i:=List.getElem?_eq_none_iff.mp h;simp [List.drop_eq_nil_of_le hl,List.drop_eq_nil_of_le (Nat.le_succ_of_le hl)]
  | some c =>
   obtain ⟨hi,hc⟩:=List.getElem?_eq_some_iff.mp h;rw [List.drop_eq_getElem_cons hi,take_succ_cons,hc]
theorem Z3g (lo hi:Option Int) (n:Nat):Builtin.Str.strSliceIndices lo hi 1 n=(List.range (HT.sIx n n hi - HT.sIx n 0 lo)).map fun (m:Nat)=>(((HT.sIx n 0 lo:Nat):Int)+1*(m:Int)).toNat:=by
 have c:∀ (v:Option Int) (d:Nat),(match v with | none=>(d:Int) | some i=>(let i:=if i<0 then i+(n:Int) else i;if (1:Int) > 0 then max 0 (min i (n:Int)) else max (-1) (min i ((n:Int) - 1))))=((HT.sIx n d v:Nat):Int):=by
  intro v d;cases v with
  | none=>rfl
  | some i =>
   rw [← HT.clip_eq i n d];dsimp only;rw [if_pos (by decide)];by_cases hi:i<0
   ·rw [if_pos hi,if_pos hi];lia
   ·rw [if_neg hi,if_neg hi];lia
 have key:∀ (x y:Int) (a b:Nat),x=a->y=b->sliceRange x y 1=(List.range (b - a)).map fun (m:Nat)=>((a:Int)+1*(m:Int)).toNat:=by
  rintro x y a b rfl rfl;unfold sliceRange;dsimp only;rw [if_pos (by decide)];congr 1
  congr 1
  by_cases h:(a:Int)<(b:Int)
  ·rw [if_pos h];lia
  ·rw [if_neg h];lia
 unfold Builtin.Str.strSliceIndices;dsimp only;have e1:=c lo 0;have e2:=c hi n;dsimp only at e1 e2;simp only [show (1:Int) > 0 by decide,if_true] at e1 e2 ⊢;exact key _ _ _ _ e1 e2
theorem Z2z (z:Str) (lo hi:Option Int):cl (Txt.slice z lo hi)=Eh (cl z) lo hi:=by
 have hn:(cl z).length=z.length:=Lh z;unfold Txt.slice Eh;rw [hn];have hle:=HT.sIx_le z.length z.length (le_refl _) hi;split
 ·rename_i h
  rw [Z3g,length_map,length_range] at h;have h':HT.sIx z.length z.length hi - HT.sIx z.length 0 lo=z.length:=by simpa using h
  have h0:HT.sIx z.length 0 lo=0\/z.length=0:=by lia
  rcases h0 with h0 | h0
  ·rw [h',h0,drop_zero,take_of_length_le (by lia)]
  ·have:cl z=[]:=List.length_eq_zero_iff.mp (by lia)
   rw [this];simp
 ·show (((Builtin.Str.strSliceIndices lo hi 1 z.length).filterMap (z.cps[·]?)).toArray).toList=_
  rw [Z3g];have e:(fun x:Nat=>z.cps[x]?)=fun x=>(cl z)[x]?:=by funext x;simp [cl]
  rw [e];exact Z2k _ _ _
section
variable {X:Cx} (K:PySem.W.Frag)
def Z61 (K:PySem.W.Frag):List V->Hp->VK->Prop:=fun xs H Q=>∃ p ys,xs=[.ref p]/\(SqL K H p ys\/SqT K H p ys)/\∀ l,H l=none->Q (.ref l) (upd H l (.lst ys))
theorem Gq (h:X.K=K:=by rfl):Uq X (.type "list") (Z61 K):=by subst h;exact D4
variable {o e:Expr} {es:List Expr} {to:TE} {t:TA} {name:Str} {apos cpos:Pos} {T id:String} {r:V->List V->Hp->VK->Prop}
end
end L2
namespace PySem
open AutoSeq1 (wpAny_loadPart')
section
variable {prog:Program} {w:World} {A:Around} {E:Value->Shared->Prop} {s:Shared}
theorem Jk {it l:Addr} {i:Nat} {items} {x:Value} {Q:Value->Shared->Prop} (hit:s.heap.IsTupleIter it l i)
  (hl:s.heap.IsTuple l items) (hx:items[i]?=some x)
  (hQ:∀ h',h'.IsTupleIter it l (i+1)->SameBut it s.heap h'->Q x { s with heap:=h' }) :
  wpAny (model prog w) A (Builtin.SmallTypes.nextOf (.ref it)) Q E s:=by
 obtain ⟨o,ho,hc,hd⟩:=id hit;obtain ⟨ol,hol,_,nl,hdl⟩:=hl;unfold Builtin.SmallTypes.nextOf;refine wpAny_bind (wpAny_callSpecial?_slot (name:=Str.ofString "__next__") hit.typeIs F.slot_tuple_iterator_next
  (wpAny_call_entry F.slot_tuple_iterator_next hit.typeIs F.entry_tuple_iterator_next ?_ (F.args_tuple_iterator_next_1 _)))
 show wpAny _ _ (field (.ref it) 0 >>= _) _ _ s;refine wpAny_bind (wpAny_field ho hd (x:=.ref l) rfl ?_);show wpAny _ _ (if (Value.ref l==Value.none)=true then _ else _) _ _ s;rw [if_neg (show ¬ ((Value.ref l==Value.none)=true) from Bool.false_ne_true)];show wpAny _ _ (field (.ref it) 1 >>= _) _ _ s;refine wpAny_bind (wpAny_field ho hd (x:=.int i 0) rfl ?_);show wpAny _ _ (seqItems? (.ref l) >>= _) _ _ s;refine wpAny_bind (wpAny_seqItems hol hdl ?_);simp only [Int.toNat_natCast,hx];refine wpAny_bind (wpAny_setField ho hd (by simp) (wpAny_pure ⟨x,rfl,wpAny_pure (hQ _ ?_ (SameBut.update ..))⟩));exact ⟨_,get?_update_self _ ho (Obj.isFreed_of_fields (Obj.data_mapFields hd _)),(Obj.cls_mapFields ..).trans hc,by
  rw [Obj.data_mapFields hd];simp [rawInt]⟩
theorem Jq {it l:Addr} {i:Nat} {items} {Q:Value->Shared->Prop} (hh:A.handled=none)
   (hit:s.heap.IsTupleIter it l i) (hl:s.heap.IsTuple l items) (hx:items[i]?=none)
   (hE:∀ h' e,ExtBut it s.heap h'->(∃ o,h'.get? e=some o/\o.cls=.type "StopIteration")->E (.ref e) { s with heap:=h' }) :
   wpAny (model prog w) A (Builtin.SmallTypes.nextOf (.ref it)) Q E s:=by
 obtain ⟨o,ho,hc,hd⟩:=id hit;obtain ⟨ol,hol,_,nl,hdl⟩:=hl;unfold Builtin.SmallTypes.nextOf;refine wpAny_bind (wpAny_callSpecial?_slot (name:=Str.ofString "__next__") hit.typeIs F.slot_tuple_iterator_next
   (wpAny_call_entry F.slot_tuple_iterator_next hit.typeIs F.entry_tuple_iterator_next ?_ (F.args_tuple_iterator_next_1 _)))
 show wpAny _ _ (field (.ref it) 0 >>= _) _ _ s;refine wpAny_bind (wpAny_field ho hd (x:=.ref l) rfl ?_);show wpAny _ _ (if (Value.ref l==Value.none)=true then _ else _) _ _ s;rw [if_neg (show ¬ ((Value.ref l==Value.none)=true) from Bool.false_ne_true)];show wpAny _ _ (field (.ref it) 1 >>= _) _ _ s;refine wpAny_bind (wpAny_field ho hd (x:=.int i 0) rfl ?_);show wpAny _ _ (seqItems? (.ref l) >>= _) _ _ s;refine wpAny_bind (wpAny_seqItems hol hdl ?_);simp only [Int.toNat_natCast,hx];refine wpAny_bind (wpAny_rule (wpAny_bind (wpAny_setField ho hd (by simp) ?_)));show wpAny _ _ (newExc (.type "StopIteration") [] >>= _) _ _ _;refine wpAny_bind ?_;simp only [newExc,newTuple];refine wpAny_bind (wpAny_newObj_type ?_ (by size_fits));refine wpAny_bind (m:=firstArgMember _ _) (wpAny_of_eq (a:=Value.none) (by first | rfl | (simp only [firstArgMember];rfl)) ?_);refine wpAny_newObj_type ?_ (by size_fits);simp only [raiseNew];refine wpAny_bind (wpAny_handled ?_);first | rw [show A.in1.handled=none from hh] | rw [hh]
 refine wpAny_bind (wpAny_pure (wpAny_throw ?_));exact hE _ _ (((SameBut.update ..).extBut.push _).push _) ⟨_,get?_push_size _ rfl,rfl⟩
end
theorem Draws.tupleD {prog:Program} {w:World} {A:Around} (hh:A.handled=none) (it l:Addr) (hne:l≠it) (items:Array Value) :
  Draws prog w A it [it,l] items.size (fun i v=>items[i]?=some v) (fun i h=>h.IsTupleIter it l i/\h.IsTuple l items) where
 live:=fun _ _ st=>let ⟨o,ho,_⟩:=st.1;⟨o,ho⟩
 frame:=fun _ _ _ st hk=>⟨st.1.at fun o e=>hk it (by simp) o e,let ⟨o,ho,r⟩:=st.2;⟨o,hk l (by simp) o ho,r⟩⟩
 item:=fun i s Q E hi st hQ=>by
  refine Jk st.1 st.2 (x:=items[i]) (by simp [hi]) fun h' hit' hs'=>?_
  exact hQ _ h' s.toks (by simp [hi]) ⟨hit',st.2.extBut hs'.extBut hne⟩ hs'
 done:=fun s Q E st hE=>Jq hh st.1 st.2 (by simp) hE
theorem Mu (l:Addr) (items:Array Value) (n:Nat) (dct:Option Addr) (sl:Array (Option Value)) :
  Meets (Builtin.«enumerate.__new__» ⟨[.type "enumerate",.ref l],[]⟩) (fun _ R s=>s.heap.get? l=some { cls:=.type "tuple",dict:=dct,data:=.seq items n,slots:=sl } /\
   R (.ok (.ret (.ref (s.heap.push { cls:=.type "tuple_iterator",data:=.fields #[.ref l,.int 0 0] }).objs.size)))
    { s with heap:=(s.heap.push { cls:=.type "tuple_iterator",data:=.fields #[.ref l,.int 0 0] }).push { cls:=.type "enumerate",data:=.fields #[.none,.bool false,.ref s.heap.objs.size,rawInt 0,.none,.none] } }) :=
 .of_wp fun prog w A R s h=>by
  obtain ⟨hp,g,d,tk,os⟩:=s;obtain ⟨hl,h⟩:=h;have hsub:=sub_enumerate;have hL:Heap.IsTuple (Shared.heap ⟨hp,g,d,tk,os⟩) l items:=⟨_,hl,rfl,n,rfl⟩
  wp_walk using wpAny_loadPart' hl
  refine wpAny_stack_any fun st=>wpAny_pure ?_
  split
  ·rename_i c _ _ _ _ _
   cases (c==Value.type "enumerate")
   ·wp_walk using wpAny_loadPart' hl,wpAny_pyIter_tuple hL
    exact ⟨_,rfl,h⟩
   ·wp_walk using wpAny_loadPart' hl,wpAny_pyIter_tuple hL
    exact ⟨_,rfl,h⟩
  ·wp_walk using wpAny_loadPart' hl,wpAny_pyIter_tuple hL
   exact ⟨_,rfl,h⟩
theorem Mr {prog:Program} {w:World} {A:Around} {E:Value->Shared->Prop} {s:Shared} {l:Addr} {items:Array Value} {Q:Value->Shared->Prop} (hL:s.heap.IsTuple l items)
  (h:∀ h',IsEnum h' (s.heap.objs.size+1) s.heap.objs.size 0 .none->h'.IsTupleIter s.heap.objs.size l 0->h'.objs.size=s.heap.objs.size+2 ->
   (∀ b o,s.heap.get? b=some o->h'.get? b=some o)->Q (.ref (s.heap.objs.size+1)) { s with heap:=h' }) :
  wpAny (model prog w) A (call (.type "enumerate") [.ref l]) Q E s:=by
 obtain ⟨⟨c,dct,dt,sl⟩,hl,hc,n,hd⟩:=hL;replace hc:c=.type "tuple" := hc;replace hd:dt=.seq items n:=hd;subst hc hd;refine callType_new F.called_enumerate (by decide) (F.typeCall_enumerate_1 _) (F.newCall_enumerate_1 _) (fun obj=>F.args_object_init_2 obj _) F.entry_enumerate_new
  (Mu l items n dct sl) ⟨hl,?_⟩
 have hz:(s.heap.push { cls:=.type "tuple_iterator",data:=.fields #[.ref l,.int 0 0] }).objs.size=s.heap.objs.size+1:=size_push ..;show _/\_;rw [hz];have he:IsEnum ((s.heap.push { cls:=.type "tuple_iterator",data:=.fields #[.ref l,.int 0 0] }).push
   { cls:=.type "enumerate",data:=.fields #[.none,.bool false,.ref s.heap.objs.size,rawInt 0,.none,.none] }) (s.heap.objs.size+1) s.heap.objs.size 0 .none:=by
  have:=get?_push_size (s.heap.push { cls:=.type "tuple_iterator",data:=.fields #[.ref l,.int 0 0] })
   (o:={ cls:=.type "enumerate",data:=.fields #[.none,.bool false,.ref s.heap.objs.size,rawInt 0,.none,.none] }) rfl
  rw [hz] at this;exact this
 refine ⟨⟨_,he,rfl⟩,h _ he ⟨_,get?_push_of_some _ (get?_push_size _ rfl),rfl,rfl⟩ (by rw [size_push,hz]) fun b o x=>get?_push_of_some _ (get?_push_of_some _ x)⟩
end PySem
namespace L2
open PySem PySem.Spec PyProof.Rows
inductive XD where
 | int (i:Int) | nums (is:List Int)
inductive Dat where
 | non | bl (b:Bool) | int (i:Int) | str (x:Str) | tup (xs:List Dat) | lst (xs:List Dat) | dct (kvs:List (Dat×Dat)) | exc (c:Str) (fs:List (Str×XD))
def T3 (K:PySem.W.Frag) (c:Str) (C:Addr):Prop:=PySem.W.nsIn K mainGlobals c=some (some (.ref C))
def XIs (e C:Addr) (dct:Option Addr) (h:Heap):Prop:=∃ o,h.get? e=some o/\o.cls=.ref C/\o.dict=dct/\∀ c,o.data≠.cls c
def Z9u (K:PySem.W.Frag) (H:Hp):XD->V->Prop
 | .int i,v=>v=.int i
 | .nums is,v=>∃ a,v=.ref a/\SL K H a (is.map V.int)/\is.length<=sizeLine
def XFs (K:PySem.W.Frag) (H:Hp):Option Addr->List (Str×XD)->Prop
 | none,fs=>fs=[]
 | some dx,fs=>∃ fvs,H dx=some (.xd fvs)/\∀ f,(fs.lookup f=none/\fvs.lookup f=none)\/∃ d v,fs.lookup f=some d/\fvs.lookup f=some v/\Z9u K H d v
def XRp (K:PySem.W.Frag) (H:Hp) (c:Str) (fs:List (Str×XD)) (v:V):Prop:=∃ e C dct,v=.ref e/\H e=some (.ext (XIs e C dct))/\T3 K c C/\XFs K H dct fs
structure SOk (x:Str):Prop where
 ok:PyData.strOk x=true
 le:x.length<=sizeLine
instance (x:Str):Decidable (SOk x):=decidable_of_iff (PyData.strOk x=true/\x.length<=sizeLine) ⟨fun h=>⟨h.1,h.2⟩,fun h=>⟨h.ok,h.le⟩⟩
theorem SOk.of {x:Str} (h:PyData.strOk x=true) (h':x.length<=sizeLine):SOk x:=⟨h,h'⟩
mutual
def Rp (K:PySem.W.Frag) (H:Hp):Dat->V->Prop
 | .non,v=>v=.non
 | .bl b,v=>v=.bl b
 | .int i,v=>v=.int i
 | .str x,v=>v=.str x/\SOk x
 | .tup ds,v=>ds.length<=sizeLine/\∃ a vs,v=.ref a/\SqT K H a vs/\Rps K H ds vs
 | .lst ds,v=>ds.length<=sizeLine/\∃ a vs,v=.ref a/\SL K H a vs/\Rps K H ds vs
 | .dct _,_=>False
 | .exc c fs,v=>XRp K H c fs v
def Rps (K:PySem.W.Frag) (H:Hp):List Dat->List V->Prop
 | [],vs=>vs=[]
 | d::ds,vs=>∃ v r,vs=v::r/\Rp K H d v/\Rps K H ds r
end
abbrev AS:=Addr->Bool
def av (H:Hp) (A:AS):Hp:=fun a=>if A a=true then none else H a
theorem Qe {H:Hp} {A:AS} {a:Addr} {o:HO} (h:H a=some o) (hA:A a=false):av H A a=some o:=by unfold av;rw [hA];exact h
theorem Rg {H:Hp} {A:AS} {a:Addr} {o:HO} (h:av H A a=some o):A a=false/\H a=some o:=by
 unfold av at h;split at h
 ·cases h
 ·rename_i q;exact ⟨by simpa using q,h⟩
theorem Yv {H:Hp} {A:AS}:Yj (av H A) H:=fun b o e=>(Rg e).2
theorem Vd {H H':Hp} {A:AS} (h:Yj H H'):Yj (av H A) (av H' A):=fun b o e=>Qe (h b o (Rg e).2) (Rg e).1
theorem M7 {H:Hp} {A B:AS} (h:∀ a,B a=true->A a=true):Yj (av H A) (av H B):=fun b o e=>by
 obtain ⟨h1,h2⟩:=Rg e;refine Qe h2 ?_;cases q:B b with
 | false=>rfl
 | true=>rw [h b q] at h1;cases h1
def no:AS:=fun _=>false
theorem Z4z {H:Hp}:av H no=H:=by funext a;simp [av,no]
theorem Yj.sl {K:PySem.W.Frag} {H H':Hp} {a:Addr} {xs:List V} (e:Yj H H') (h:SL K H a xs):SL K H' a xs:=by
 rcases h with (h | ⟨o,h⟩) | h
 ·exact .inl (.inl (e _ _ h))
 ·exact .inl (.inr ⟨o,e _ _ h⟩)
 ·exact .inr h
theorem SL.sq {K:PySem.W.Frag} {H:Hp} {a:Addr} {xs:List V} (h:SL K H a xs):SqL K H a xs:=by
 rcases h with h | ⟨its,n,h1,h2,h3⟩
 ·exact .inl h
 ·refine .inr ⟨_,its.toArray,n,h1,rfl,rfl,rfl,?_,by simpa using h3⟩
  have:=h3.length;simp only [size_toArray];lia
theorem SL.get {X:Cx} {pins:List (Addr×Obj)} {σ:St} {H:Hp} {s:Shared} {a:Addr} {xs:List V} (h:SL X.K H a xs) (I:Inv X pins σ H s) :
  ∃ (its:List Value) (n:Nat),Wa xs its/\s.heap.get? a=some { cls:=.type "list",data:=.seq its.toArray n }/\xs.length<=sizeLine:=by
 rcases h with h | ⟨its,n,h1,h2,h3⟩
 ·obtain ⟨z,its,n,r,e⟩:=h.ok I.hok
  exact ⟨its,n,r,e,z⟩
 ·exact ⟨its,n,h3,I.kIn _ _ h1,h2⟩
theorem Z9u.mono {K:PySem.W.Frag} {H H':Hp} (e:Yj H H') {d:XD} {v:V} (h:Z9u K H d v):Z9u K H' d v:=by
 cases d with
 | int i=>exact h
 | nums is=>obtain ⟨a,e1,e2,e3⟩:=h;exact ⟨a,e1,e.sl e2,e3⟩
theorem XFs.mono {K:PySem.W.Frag} {H H':Hp} (e:Yj H H') {dct:Option Addr} {fs:List (Str×XD)} (h:XFs K H dct fs):XFs K H' dct fs:=by
 cases dct with
 | none=>exact h
 | some dx =>
  obtain ⟨fvs,e1,e2⟩:=h;exact ⟨fvs,e _ _ e1,fun f=>(e2 f).imp id fun ⟨d,v,a,b,c⟩=>⟨d,v,a,b,c.mono e⟩⟩
theorem XRp.mono {K:PySem.W.Frag} {H H':Hp} (e:Yj H H') {c:Str} {fs:List (Str×XD)} {v:V} (h:XRp K H c fs v):XRp K H' c fs v:=by
 obtain ⟨x,C,dct,e1,e2,e3,e4⟩:=h;exact ⟨x,C,dct,e1,e _ _ e2,e3,e4.mono e⟩
mutual
theorem Rp.mono {K:PySem.W.Frag} {H H':Hp} (e:Yj H H'):∀ {d:Dat} {v:V},Rp K H d v->Rp K H' d v
 | .non,v,h=>by unfold Rp at h ⊢;exact h
 | .bl b,v,h=>by unfold Rp at h ⊢;exact h
 | .int i,v,h=>by unfold Rp at h ⊢;exact h
 | .str x,v,h=>by unfold Rp at h ⊢;exact h
 | .dct _,v,h=>by unfold Rp at h;exact h.elim
 | .exc _ _,v,h=>by unfold Rp at h ⊢;exact XRp.mono e h
 | .tup ds,v,h=>by
  unfold Rp at h ⊢;obtain ⟨hz,a,vs,e1,e2,e3⟩:=h;exact ⟨hz,a,vs,e1,e.seqT e2,Rps.mono e e3⟩
 | .lst ds,v,h=>by
  unfold Rp at h ⊢;obtain ⟨hz,a,vs,e1,e2,e3⟩:=h;exact ⟨hz,a,vs,e1,e.sl e2,Rps.mono e e3⟩
theorem Rps.mono {K:PySem.W.Frag} {H H':Hp} (e:Yj H H'):∀ {ds:List Dat} {vs:List V},Rps K H ds vs->Rps K H' ds vs
 | [],vs,h=>by unfold Rps at h ⊢;exact h
 | d::ds,vs,h=>by
  unfold Rps at h ⊢;obtain ⟨v,r,e1,e2,e3⟩:=h;exact ⟨v,r,e1,Rp.mono e e2,Rps.mono e e3⟩
end
section
variable {K:PySem.W.Frag} {H:Hp}
theorem Uv:Rps K H [] []:=by unfold Rps;rfl
theorem U2 {d:Dat} {ds:List Dat} {v:V} {vs:List V} (h:Rp K H d v) (t:Rps K H ds vs):Rps K H (d::ds) (v::vs):=by unfold Rps;exact ⟨v,vs,rfl,h,t⟩
theorem Yl {vs:List V} (h:Rps K H [] vs):vs=[]:=by unfold Rps at h;exact h
theorem Zy {d:Dat} {ds:List Dat} {vs:List V} (h:Rps K H (d::ds) vs):∃ v r,vs=v::r/\Rp K H d v/\Rps K H ds r:=by unfold Rps at h;exact h
theorem Y5:∀ {ds:List Dat} {vs:List V},Rps K H ds vs->vs.length=ds.length
 | [],vs,h=>by rw [Yl h];rfl
 | d::ds,vs,h=>by
  obtain ⟨v,r,e1,e2,e3⟩:=Zy h;rw [e1,length_cons,length_cons,Y5 e3]
theorem Sm:∀ {ds:List Dat} {vs:List V} {i:Nat} {d:Dat},Rps K H ds vs->ds[i]?=some d->∃ v,vs[i]?=some v/\Rp K H d v
 | [],vs,i,d,h,e=>by simp at e
 | d'::ds,vs,0,d,h,e=>by
  obtain ⟨v,r,e1,e2,e3⟩:=Zy h;simp at e;subst e;exact ⟨v,by rw [e1];rfl,e2⟩
 | d'::ds,vs,i+1,d,h,e=>by
  obtain ⟨v,r,e1,e2,e3⟩:=Zy h;obtain ⟨v',h1,h2⟩:=Sm (i:=i) e3 (by simpa using e);exact ⟨v',by rw [e1];simpa using h1,h2⟩
theorem Wm:∀ {ds es:List Dat} {vs us:List V},Rps K H ds vs->Rps K H es us->Rps K H (ds++es) (vs++us)
 | [],es,vs,us,h,k=>by rw [Yl h];exact k
 | d::ds,es,vs,us,h,k=>by
  obtain ⟨v,r,e1,e2,e3⟩:=Zy h;subst e1;exact U2 e2 (Wm e3 k)
theorem Hv:∀ (n:Nat) {ds:List Dat} {vs:List V},Rps K H ds vs->Rps K H (ds.take n) (vs.take n)
 | 0,_,_,_=>by simp only [take_zero];exact Uv
 | n+1,[],vs,h=>by rw [Yl h];simp only [List.take_nil];exact Uv
 | n+1,d::ds,vs,h=>by
  obtain ⟨v,r,e1,e2,e3⟩:=Zy h;subst e1;exact U2 e2 (Hv n e3)
theorem K3:∀ (n:Nat) {ds:List Dat} {vs:List V},Rps K H ds vs->Rps K H (ds.drop n) (vs.drop n)
 | 0,_,_,h=>h
 | n+1,[],vs,h=>by rw [Yl h];simp only [List.drop_nil];exact Uv
 | n+1,d::ds,vs,h=>by
  obtain ⟨v,r,e1,e2,e3⟩:=Zy h;subst e1;exact K3 n e3
theorem M2 {d:Dat} {v:V} (h:Rp K H d v):Rps K H [d] [v]:=U2 h Uv
theorem Co:∀ {ds:List Dat} {vs:List V} {d:Dat} {v:V} (i:Nat),Rps K H ds vs->Rp K H d v->Rps K H (ds.set i d) (vs.set i v)
 | [],vs,d,v,i,h,_=>by rw [Yl h];simp only [List.set_nil];exact Uv
 | d'::ds,vs,d,v,0,h,k=>by
  obtain ⟨v',r,e1,e2,e3⟩:=Zy h;subst e1;exact U2 k e3
 | d'::ds,vs,d,v,i+1,h,k=>by
  obtain ⟨v',r,e1,e2,e3⟩:=Zy h;subst e1;exact U2 e2 (Co i e3 k)
theorem Z5y {ds:List Dat}:∀ {vs:List V},Rps K H ds vs->Rps K H ds.reverse vs.reverse:=by
 induction ds with
 | nil=>intro vs h;rw [Yl h];exact Uv
 | cons d ds ih =>
  intro vs h;obtain ⟨v,r,e1,e2,e3⟩:=Zy h;subst e1;rw [reverse_cons,reverse_cons];exact Wm (ih e3) (M2 e2)
theorem S0:∀ (ns:List Int),Rps K H (ns.map Dat.int) (ns.map V.int)
 | []=>Uv
 | n::ns=>U2 (by unfold Rp;rfl) (S0 ns)
theorem Ph:Rp K H .non .non:=by unfold Rp;rfl
theorem Tp {b:Bool}:Rp K H (.bl b) (.bl b):=by unfold Rp;rfl
theorem Wb {i:Int}:Rp K H (.int i) (.int i):=by unfold Rp;rfl
theorem Gw {x:Str} (h:SOk x):Rp K H (.str x) (.str x):=by unfold Rp;exact ⟨rfl,h⟩
theorem Z0s {a:Addr} {vs:List V} {ds:List Dat} (hz:ds.length<=sizeLine) (h:SqT K H a vs) (r:Rps K H ds vs):Rp K H (.tup ds) (.ref a):=by unfold Rp;exact ⟨hz,a,vs,rfl,h,r⟩
theorem Dw {a:Addr} {vs:List V} {ds:List Dat} (hz:ds.length<=sizeLine) (h:SL K H a vs) (r:Rps K H ds vs):Rp K H (.lst ds) (.ref a):=by unfold Rp;exact ⟨hz,a,vs,rfl,h,r⟩
theorem Lv {v:V} (h:Rp K H .non v):v=.non:=by unfold Rp at h;exact h
theorem Lo {b:Bool} {v:V} (h:Rp K H (.bl b) v):v=.bl b:=by unfold Rp at h;exact h
theorem D8 {i:Int} {v:V} (h:Rp K H (.int i) v):v=.int i:=by unfold Rp at h;exact h
theorem L4 {x:Str} {v:V} (h:Rp K H (.str x) v):v=.str x/\SOk x:=by unfold Rp at h;exact h
theorem Rj {ds:List Dat} {v:V} (h:Rp K H (.tup ds) v):∃ a vs,v=.ref a/\SqT K H a vs/\Rps K H ds vs:=by unfold Rp at h;exact h.2
theorem Ae {ds:List Dat} {v:V} (h:Rp K H (.tup ds) v):ds.length<=sizeLine:=by unfold Rp at h;exact h.1
theorem Z40 {ds:List Dat} {v:V} (h:Rp K H (.lst ds) v):ds.length<=sizeLine:=by unfold Rp at h;exact h.1
theorem R0 {ds:List Dat} {v:V} (h:Rp K H (.lst ds) v):∃ a vs,v=.ref a/\SL K H a vs/\Rps K H ds vs:=by unfold Rp at h;exact h.2
theorem Z6s {ds:List (Dat×Dat)} {v:V} (h:Rp K H (.dct ds) v):False:=by unfold Rp at h;exact h
theorem C7 {c:Str} {ds:List (Str×XD)} {v:V} (h:Rp K H (.exc c ds) v):XRp K H c ds v:=by unfold Rp at h;exact h
end
def Pk (K:PySem.W.Frag) (A:AS) (H:Hp) (d:Dat) (v:V):Prop :=
 Rp K (av H A) d v\/∃ a vs ds,d=.lst ds/\v=.ref a/\ds.length<=sizeLine/\H a=some (.lst vs)/\Rps K (av H A) ds vs
section
variable {K:PySem.W.Frag} {A:AS} {H H':Hp} {d:Dat} {v:V}
theorem Pk.mono (e:Yj H H') (h:Pk K A H d v):Pk K A H' d v:=by
 rcases h with h | ⟨a,vs,ds,e1,e2,hz,e3,e4⟩
 ·exact .inl (h.mono (Vd e))
 ·exact .inr ⟨a,vs,ds,e1,e2,hz,e _ _ e3,e4.mono (Vd e)⟩
theorem Pk.rp (h:Pk K A H d v):Rp K H d v:=by
 rcases h with h | ⟨a,vs,ds,e1,e2,hz,e3,e4⟩
 ·exact h.mono Yv
 ·subst e1 e2;exact Dw hz (.inl (.inl e3)) (e4.mono Yv)
theorem Pk.lenL {ds:List Dat} (h:Pk K A H (.lst ds) v):ds.length<=sizeLine:=Z40 h.rp
theorem Pk.lenT {ds:List Dat} (h:Pk K A H (.tup ds) v):ds.length<=sizeLine:=Ae h.rp
theorem Pk.non (h:Pk K A H .non v):v=.non:=Lv h.rp
theorem Pk.bl {b:Bool} (h:Pk K A H (.bl b) v):v=.bl b:=Lo h.rp
theorem Pk.int {i:Int} (h:Pk K A H (.int i) v):v=.int i:=D8 h.rp
theorem Pk.str {x:Str} (h:Pk K A H (.str x) v):v=.str x/\SOk x:=L4 h.rp
theorem Pk.tup {ds:List Dat} (h:Pk K A H (.tup ds) v):∃ a vs,v=.ref a/\SqT K H a vs/\Rps K (av H A) ds vs:=by
 rcases h with h | ⟨a,vs,ds,e1,e2,e3,e4⟩
 ·obtain ⟨a,vs,e1,e2,e3⟩:=Rj h
  exact ⟨a,vs,e1,Yv.seqT e2,e3⟩
 ·cases e1
theorem Pk.lst {ds:List Dat} (h:Pk K A H (.lst ds) v):∃ a vs,v=.ref a/\SL K H a vs/\Rps K (av H A) ds vs:=by
 rcases h with h | ⟨a,vs,ds',e1,e2,hz,e3,e4⟩
 ·obtain ⟨a,vs,e1,e2,e3⟩:=R0 h
  exact ⟨a,vs,e1,Yv.sl e2,e3⟩
 ·cases e1;exact ⟨a,vs,e2,.inl (.inl e3),e4⟩
end
mutual
def eqD:Dat->Dat->Bool
 | .non,.non=>true
 | .bl a,.bl b=>a==b
 | .bl a,.int j=>(if a then 1 else 0)==j
 | .int i,.bl b=>i==(if b then 1 else 0)
 | .int i,.int j=>i==j
 | .str x,.str y=>x==y
 | .lst xs,.lst ys=>Z3v xs ys
 | .tup xs,.tup ys=>Z3v xs ys
 | _,_=>false
def Z3v:List Dat->List Dat->Bool
 | [],[]=>true
 | x::xs,y::ys=>eqD x y&&Z3v xs ys
 | _,_=>false
end
def pd:Nat->Dat->Bool
 | 0,.lst _=>false
 | 0,.tup _=>false
 | n+1,.lst xs=>xs.all (pd n)
 | n+1,.tup xs=>xs.all (pd n)
 | _,.dct _=>false
 | _,.exc _ _=>false
 | _,.non=>true
 | _,.bl _=>true
 | _,.int _=>true
 | _,.str _=>true
mutual
def toP:Dat->PyData
 | .non=>.none
 | .bl b=>.bool b
 | .int i=>.int i
 | .str x=>.str x
 | .tup xs=>.tuple (Z0p xs)
 | .lst xs=>.list (Z0p xs)
 | .dct _=>.none
 | .exc _ _=>.none
def Z0p:List Dat->List PyData
 | []=>[]
 | x::xs=>toP x::Z0p xs
end
theorem Pa {n:Nat} {xs:List Dat} (h:pd n (.lst xs)=true):∃ m,n=m+1/\∀ x∈xs,pd m x=true:=by
 cases n with
 | zero=>cases h
 | succ n=>exact ⟨n,rfl,by simpa [pd] using h⟩
theorem P5 {n:Nat} {xs:List Dat} (h:pd n (.tup xs)=true):∃ m,n=m+1/\∀ x∈xs,pd m x=true:=by
 cases n with
 | zero=>cases h
 | succ n=>exact ⟨n,rfl,by simpa [pd] using h⟩
theorem X3 {n:Nat} {xs} (h:pd n (.dct xs)=true):False:=by cases n<;>cases h
theorem Oy {n:Nat} {c xs} (h:pd n (.exc c xs)=true):False:=by cases n<;>cases h
mutual
theorem Sd:∀ {n m:Nat} (x y:Dat),pd n x=true->pd m y=true->PyData.eqv (toP x) (toP y)=eqD x y
 | n,m,.dct _,y,h,_=>(X3 h).elim
 | n,m,.exc _ _,y,h,_=>(Oy h).elim
 | n,m,x,.dct _,_,h=>(X3 h).elim
 | n,m,x,.exc _ _,_,h=>(Oy h).elim
 | n,m,.non,.non,_,_=>rfl
 | n,m,.non,.bl _,_,_=>rfl
 | n,m,.non,.int _,_,_=>rfl
 | n,m,.non,.str _,_,_=>rfl
 | n,m,.non,.tup _,_,_=>rfl
 | n,m,.non,.lst _,_,_=>rfl
 | n,m,.bl _,.non,_,_=>rfl
 | n,m,.bl _,.bl _,_,_=>rfl
 | n,m,.bl _,.int _,_,_=>rfl
 | n,m,.bl _,.str _,_,_=>rfl
 | n,m,.bl _,.tup _,_,_=>rfl
 | n,m,.bl _,.lst _,_,_=>rfl
 | n,m,.int _,.non,_,_=>rfl
 | n,m,.int _,.bl _,_,_=>rfl
 | n,m,.int _,.int _,_,_=>rfl
 | n,m,.int _,.str _,_,_=>rfl
 | n,m,.int _,.tup _,_,_=>rfl
 | n,m,.int _,.lst _,_,_=>rfl
 | n,m,.str _,.non,_,_=>rfl
 | n,m,.str _,.bl _,_,_=>rfl
 | n,m,.str _,.int _,_,_=>rfl
 | n,m,.str _,.str _,_,_=>rfl
 | n,m,.str _,.tup _,_,_=>rfl
 | n,m,.str _,.lst _,_,_=>rfl
 | n,m,.lst _,.non,_,_=>rfl
 | n,m,.lst _,.bl _,_,_=>rfl
 | n,m,.lst _,.int _,_,_=>rfl
 | n,m,.lst _,.str _,_,_=>rfl
 | n,m,.lst _,.tup _,_,_=>rfl
 | n,m,.lst xs,.lst ys,h,k=>by
  obtain ⟨n',_,hx⟩:=Pa h;obtain ⟨m',_,hy⟩:=Pa k;simp only [toP,PyData.eqv,eqD];exact Ip xs ys hx hy
 | n,m,.tup _,.non,_,_=>rfl
 | n,m,.tup _,.bl _,_,_=>rfl
 | n,m,.tup _,.int _,_,_=>rfl
 | n,m,.tup _,.str _,_,_=>rfl
 | n,m,.tup _,.lst _,_,_=>rfl
 | n,m,.tup xs,.tup ys,h,k=>by
  obtain ⟨n',_,hx⟩:=P5 h;obtain ⟨m',_,hy⟩:=P5 k;simp only [toP,PyData.eqv,eqD];exact Ip xs ys hx hy
theorem Ip:∀ {n m:Nat} (xs ys:List Dat),(∀ x∈xs,pd n x=true)->(∀ y∈ys,pd m y=true)->PyData.eqvAll (Z0p xs) (Z0p ys)=Z3v xs ys
 | n,m,[],[],_,_=>rfl
 | n,m,[],_::_,_,_=>rfl
 | n,m,_::_,[],_,_=>rfl
 | n,m,x::xs,y::ys,hx,hy=>by
  simp only [Z0p,PyData.eqvAll,Z3v];rw [Sd (n:=n) (m:=m) x y (hx x mem_cons_self) (hy y mem_cons_self),Ip (n:=n) (m:=m) xs ys (fun z hz=>hx z (mem_cons_of_mem _ hz)) (fun z hz=>hy z (mem_cons_of_mem _ hz))]
end
mutual
theorem S4:∀ (n:Nat) (x:Dat),pd n x=true->(toP x).depth<=n
 | n,.dct _,h=>(X3 h).elim
 | n,.exc _ _,h=>(Oy h).elim
 | n,.non,_=>zero_le _
 | n,.bl _,_=>zero_le _
 | n,.int _,_=>zero_le _
 | n,.str _,_=>zero_le _
 | n,.lst xs,h=>by
  obtain ⟨m,e,hx⟩:=Pa h;subst e;simp only [toP,PyData.depth];exact Nat.succ_le_succ (Si m xs hx)
 | n,.tup xs,h=>by
  obtain ⟨m,e,hx⟩:=P5 h;subst e;simp only [toP,PyData.depth];exact Nat.succ_le_succ (Si m xs hx)
theorem Si:∀ (n:Nat) (xs:List Dat),(∀ x∈xs,pd n x=true)->PyData.depthAll (Z0p xs)<=n
 | n,[],_=>zero_le _
 | n,x::xs,h=>by
  simp only [Z0p,PyData.depthAll];exact Nat.max_le.mpr ⟨S4 n x (h x mem_cons_self),Si n xs fun z hz=>h z (mem_cons_of_mem _ hz)⟩
end
section
variable {X:Cx} {pins:List (Addr×Obj)} {σ:St} {H:Hp} {s:Shared}
mutual
theorem Rp.reads (I:Inv X pins σ H s):∀ {n:Nat} (d:Dat) (v:V) (u:Value),pd n d=true->Rp X.K H d v->Vf v u->∃ as,Reads s.heap u (toP d) as/\(toP d).canLay0=true
 | n,.dct _,v,u,h,_,_=>(X3 h).elim
 | n,.exc _ _,v,u,h,_,_=>(Oy h).elim
 | n,.non,v,u,_,i,r=>by cases Lv i;cases r;exact ⟨_,.none,rfl⟩
 | n,.bl b,v,u,_,i,r=>by cases Lo i;cases r;exact ⟨_,.bool b,rfl⟩
 | n,.int k,v,u,_,i,r=>by cases D8 i;obtain ⟨t,rfl⟩:=r;exact ⟨_,.int k t,rfl⟩
 | n,.str x,v,u,_,i,r=>by
  obtain ⟨e,hs⟩:=L4 i;subst e;obtain ⟨t,rfl⟩:=r;exact ⟨_,.str x t,hs.ok⟩
 | n,.tup ds,v,u,h,i,r=>by
  obtain ⟨m,_,hx⟩:=P5 h;obtain ⟨a,vs,e1,e2,e3⟩:=Rj i;subst e1;cases r;obtain ⟨its,rv,⟨o,ho,hc,k,hd⟩,_⟩:=I.tuple e2;obtain ⟨as,ra,hl⟩:=Rps.reads I ds vs its hx e3 rv;exact ⟨_,.tuple ho hc hd (by simpa using ra),hl⟩
 | n,.lst ds,v,u,h,i,r=>by
  obtain ⟨m,_,hx⟩:=Pa h;obtain ⟨a,vs,e1,e2,e3⟩:=R0 i;subst e1;cases r;obtain ⟨its,rv,⟨o,k,ho,hc,_,hd⟩,_⟩:=I.list e2.sq;obtain ⟨as,ra,hl⟩:=Rps.reads I ds vs its hx e3 rv;exact ⟨_,.list ho hc hd (by simpa using ra),hl⟩
theorem Rps.reads (I:Inv X pins σ H s):∀ {n:Nat} (ds:List Dat) (vs:List V) (us:List Value),(∀ x∈ds,pd n x=true)->Rps X.K H ds vs->Wa vs us->∃ as,ReadsAll s.heap us (Z0p ds) as/\PyData.canLayAll0 (Z0p ds)=true
 | n,[],vs,us,_,i,r=>by
  rw [Yl i] at r;cases r;exact ⟨_,.nil,rfl⟩
 | n,d::ds,vs,us,h,i,r=>by
  obtain ⟨v,rr,e1,e2,e3⟩:=Zy i;subst e1;cases r with
  | cons r1 r2 =>
   obtain ⟨as,h1,l1⟩:=Rp.reads I d v _ (h d mem_cons_self) e2 r1;obtain ⟨bs,h2,l2⟩:=Rps.reads I ds rr _ (fun z hz=>h z (mem_cons_of_mem _ hz)) e3 r2;exact ⟨_,.cons h1 h2,by simp only [Z0p,PyData.canLayAll0,l1,l2];rfl⟩
end
theorem Rp.eqAt (I:Inv X pins σ H s) {A:Around} {n m:Nat} {d e:Dat} {v w:V} {u u':Value} (hd:pd n d=true) (he:pd m e=true) (hn:n<=60) (hu:A.units+60<cLine) (r1:Rp X.K H d v) (r2:Rp X.K H e w) (q1:Vf v u) (q2:Vf w u') :
  SeqAt.EqAt A s u u' (eqD d e):=by
 obtain ⟨as,a1,a2⟩:=Rp.reads I d v u hd r1 q1;obtain ⟨bs,b1,b2⟩:=Rp.reads I e w u' he r2 q2;rw [← Sd d e hd he];have:=S4 n d hd;exact SeqAt.eqAt_reads _ _ A s u u' as bs a1 b1 a2 b2 (by lia)
end
def Mtb:Option HO->Prop
 | some (.lst _)=>True
 | some (.dK _)=>True
 | some (.dT _)=>True
 | _=>False
def Ra (A:AS) (H:Hp):Prop:=∀ a,A a=true->Mtb (H a)
theorem Ra.new {A:AS} {H:Hp} (m:Ra A H) {p:Addr} (h:H p=none):A p=false:=by
 cases q:A p with
 | false=>rfl
 | true=>have:=m p q;rw [h] at this;exact this.elim
theorem Ra.mono {A:AS} {H H':Hp} (m:Ra A H) (e:Yj H H'):Ra A H':=fun a h=>by
 have:=m a h;cases q:H a with
 | none=>rw [q] at this;exact this.elim
 | some o=>rw [q] at this;rw [e a o q];exact this
def ins (A:AS) (p:Addr):AS:=fun a=>A a||a==p
theorem Pz {A:AS} {p:Addr}:ins A p p=true:=by simp [ins]
theorem Hm {A:AS} {p a:Addr} (h:A a=true):ins A p a=true:=by simp [ins,h]
theorem Lx {A:AS} {p a:Addr} (h:ins A p a=true):A a=true\/a=p:=by simpa [ins] using h
theorem Z8u {A:AS} {p a:Addr} (h:A a=false) (hn:a≠p):ins A p a=false:=by simp [ins,h,hn]
structure Step (A:AS) (H:Hp) (A':AS) (H':Hp):Prop where
 keep:∀ a o,H a=some o->A a=false->H' a=some o
 sub:∀ a,A' a=true->A a=true\/H a=none
theorem Step.refl (A:AS) (H:Hp):Step A H A H:=⟨fun _ _ h _=>h,fun _ h=>.inl h⟩
theorem Step.same {A:AS} {H H':Hp} (e:Yj H H'):Step A H A H':=⟨fun a o h _=>e a o h,fun _ h=>.inl h⟩
theorem Step.trans {A A1 A2:AS} {H H1 H2:Hp} (a:Step A H A1 H1) (b:Step A1 H1 A2 H2):Step A H A2 H2 where
 keep:=fun c o h hA=>b.keep c o (a.keep c o h hA) (by
  cases q:A1 c with
  | false=>rfl
  | true =>
   rcases a.sub c q with z | z
   ·rw [z] at hA;cases hA
   ·rw [z] at h;cases h)
 sub:=fun c h=>by
  rcases b.sub c h with z | z
  ·exact a.sub c z
  ·cases qA:A c with
   | true=>exact .inl rfl
   | false =>
    cases q:H c with
    | none=>exact .inr rfl
    | some o=>rw [a.keep c o q qA] at z;cases z
theorem Step.av {A A':AS} {H H':Hp} (s:Step A H A' H'):Yj (av H A) (av H' A'):=fun b o e=>by
 obtain ⟨h1,h2⟩:=Rg e;refine Qe (s.keep b o h2 h1) ?_;cases q:A' b with
 | false=>rfl
 | true =>
  rcases s.sub b q with z | z
  ·rw [z] at h1;cases h1
  ·rw [z] at h2;cases h2
inductive GX where
 | nest (dss:List (List Dat)) | dict (kvs:List (List Key×Dat))
def GOk (K:PySem.W.Frag) (A:AS) (H:Hp) (o:Addr->Prop):GX->V->Prop
 | .nest dss,v=>∃ (a:Addr) (as:List Addr),v=.ref a/\o a/\dss.length<=sizeLine/\H a=some (.lst (as.map V.ref))/\as.length=dss.length/\as.Nodup/\a∉as/\∀ (n:Nat) b ds,as[n]?=some b->dss[n]?=some ds->o b/\ds.length<=sizeLine/\∃ vs,H b=some (.lst vs)/\Rps K (av H A) ds vs
 | .dict kvs,v=>∃ (a:Addr) (us:List (List Key×V)),v=.ref a/\o a/\kvs.length<=sizeLine/\H a=some (.dT us)/\us.map (·.1)=kvs.map (·.1)/\Rps K (av H A) (kvs.map (·.2)) (us.map (·.2))
theorem GOk.frame {K:PySem.W.Frag} {A A':AS} {H H':Hp} {o o':Addr->Prop} {g:GX} {v:V} (h:GOk K A H o g v) (ho:∀ b,o b->o' b) (hf:∀ b x,o b->H b=some x->H' b=some x) (ha:Yj (av H A) (av H' A')):GOk K A' H' o' g v:=by
 cases g with
 | nest dss =>
  obtain ⟨a,as,e1,e2,e3,e4,e5,e6,e7,e8⟩:=h;refine ⟨a,as,e1,ho a e2,e3,hf _ _ e2 e4,e5,e6,e7,fun n b ds q1 q2=>?_⟩;obtain ⟨f1,f2,vs,f3,f4⟩:=e8 n b ds q1 q2;exact ⟨ho b f1,f2,vs,hf _ _ f1 f3,f4.mono ha⟩
 | dict kvs =>
  obtain ⟨a,us,e1,e2,e3,e4,e5,e6⟩:=h;exact ⟨a,us,e1,ho a e2,e3,hf _ _ e2 e4,e5,e6.mono ha⟩
inductive Slt where
 | un | fz (d:Dat) | pk (d:Dat) | ow (ds:List Dat) | gx (g:GX)
abbrev Ev:=List Slt
def Pn (K:PySem.W.Frag) (A:AS) (H:Hp) (o:Addr->Prop):Slt->Option V->Prop
 | .un,_=>True
 | .fz d,x=>∃ v,x=some v/\Rp K (av H A) d v
 | .pk d,x=>∃ v,x=some v/\Pk K A H d v
 | .ow ds,x=>∃ a vs,x=some (.ref a)/\o a/\ds.length<=sizeLine/\H a=some (.lst vs)/\Rps K (av H A) ds vs
 | .gx g,x=>∃ v,x=some v/\GOk K A H o g v
structure Bs where
 H₀:Hp
 R:AS
 st:Bool
structure EnvOk (K:PySem.W.Frag) (B:Bs) (A:AS) (H:Hp) (σ:St) (env:Ev):Prop where
 h0:Yj B.H₀ H
 r0:∀ a,B.R a=true->∃ o,B.H₀ a=some o
 ra:∀ a,B.R a=true->A a=true
 ar:∀ a,A a=true->B.R a=true\/B.H₀ a=none
 mu:Ra A H
 len:σ.length=env.length
 np:B.st=true->∀ (i:Nat) d,env[i]?≠some (.pk d)
 sl:∃ own:Nat->Addr->Prop,(∀ i j a,own i a->own j a->i=j)/\(∀ i a,own i a->A a=true/\B.R a=false) /\
  ∀ (i:Nat) s,env[i]?=some s->∃ x,σ[i]?=some x/\Pn K A H (own i) s x
theorem Pn.mono {K:PySem.W.Frag} {A:AS} {H H':Hp} (e:Yj H H') {o:Addr->Prop} {s:Slt} {x:Option V} (h:Pn K A H o s x):Pn K A H' o s x:=by
 cases s with
 | un=>trivial
 | fz d=>obtain ⟨v,e1,e2⟩:=h;exact ⟨v,e1,e2.mono (Vd e)⟩
 | pk d=>obtain ⟨v,e1,e2⟩:=h;exact ⟨v,e1,e2.mono e⟩
 | ow ds=>obtain ⟨a,vs,e1,e2,hz,e3,e4⟩:=h;exact ⟨a,vs,e1,e2,hz,e _ _ e3,e4.mono (Vd e)⟩
 | gx g=>obtain ⟨v,e1,e2⟩:=h;exact ⟨v,e1,e2.frame (fun _ z=>z) (fun b x _ q=>e b x q) (Vd e)⟩
theorem EnvOk.mono {K:PySem.W.Frag} {B:Bs} {A:AS} {H H':Hp} {σ:St} {env:Ev} (k:EnvOk K B A H σ env) (e:Yj H H'):EnvOk K B A H' σ env:=by
 obtain ⟨own,h1,h2,h4⟩:=k.sl;exact ⟨k.h0.trans e,k.r0,k.ra,k.ar,k.mu.mono e,k.len,k.np,own,h1,h2,fun i s q=>let ⟨x,q2,q3⟩:=h4 i s q;⟨x,q2,q3.mono e⟩⟩
def Rm (m:Bool) (K:PySem.W.Frag) (A:AS) (H:Hp) (d:Dat) (v:V):Prop:=match m with
 | true=>Pk K A H d v
 | false=>Rp K (av H A) d v
theorem Rm.any {m:Bool} {K:PySem.W.Frag} {A:AS} {H:Hp} {d:Dat} {v:V} (h:Rp K (av H A) d v):Rm m K A H d v:=by
 cases m with
 | true=>exact .inl h
 | false=>exact h
theorem Rm.pk {m:Bool} {K:PySem.W.Frag} {A:AS} {H:Hp} {d:Dat} {v:V} (h:Rm m K A H d v):Pk K A H d v:=by
 cases m with
 | true=>exact h
 | false=>exact .inl h
theorem Rm.mono {m:Bool} {K:PySem.W.Frag} {A:AS} {H H':Hp} (e:Yj H H') {d:Dat} {v:V} (h:Rm m K A H d v):Rm m K A H' d v:=by
 cases m with
 | true=>exact Pk.mono e h
 | false=>exact Rp.mono (Vd e) h
def Rms (m:Bool) (K:PySem.W.Frag) (A:AS) (H:Hp):List Dat->List V->Prop
 | [],vs=>vs=[]
 | d::ds,vs=>∃ v r,vs=v::r/\Rm m K A H d v/\Rms m K A H ds r
theorem Rms.rps {K:PySem.W.Frag} {A:AS} {H:Hp}:∀ {ds:List Dat} {vs:List V},Rms false K A H ds vs->Rps K (av H A) ds vs
 | [],vs,h=>by rw [show vs=[] from h];exact Uv
 | _::_,_,⟨v,r,e1,e2,e3⟩=>by rw [e1];exact U2 e2 (Rms.rps e3)
theorem Rms.full {m:Bool} {K:PySem.W.Frag} {A:AS} {H:Hp}:∀ {ds:List Dat} {vs:List V},Rms m K A H ds vs->Rps K H ds vs
 | [],vs,h=>by rw [show vs=[] from h];exact Uv
 | _::_,_,⟨v,r,e1,e2,e3⟩=>by rw [e1];exact U2 e2.pk.rp (Rms.full e3)
theorem Rms.one {m:Bool} {K:PySem.W.Frag} {A:AS} {H:Hp} {d:Dat} {vs:List V} (h:Rms m K A H [d] vs):∃ v,vs=[v]/\Pk K A H d v:=by
 obtain ⟨v,r,e1,e2,e3⟩:=h;exact ⟨v,by rw [e1,show r=[] from e3],e2.pk⟩
theorem Rms.two {m:Bool} {K:PySem.W.Frag} {A:AS} {H:Hp} {d d':Dat} {vs:List V} (h:Rms m K A H [d,d'] vs):∃ v v',vs=[v,v']/\Pk K A H d v/\Pk K A H d' v':=by
 obtain ⟨v,r,e1,e2,v',r',e3,e4,e5⟩:=h;exact ⟨v,v',by rw [e1,e3,show r'=[] from e5],e2.pk,e4.pk⟩
def Se (m:Bool) (K:PySem.W.Frag) (A:AS) (H:Hp) (d:Dat) (Q:VK):Prop:=∀ v H',Yj H H'->Rm m K A H' d v->Q v H'
def Z10 (K:PySem.W.Frag) (A:AS) (H:Hp) (ds:List Dat) (Q:VK):Prop:=∀ p vs H',ds.length<=sizeLine->Yj H H'->H p=none->H' p=some (.lst vs)->Rps K (av H' (ins A p)) ds vs->Q (.ref p) H'
section
variable {m:Bool} {K:PySem.W.Frag} {A:AS} {H H':Hp} {d:Dat} {ds:List Dat} {Q:VK}
theorem Se.mono (h:Se m K A H d Q) (e:Yj H H'):Se m K A H' d Q:=fun v H2 e2 r=>h v H2 (e.trans e2) r
theorem Z10.mono (h:Z10 K A H ds Q) (e:Yj H H'):Z10 K A H' ds Q:=fun p vs H2 hz e2 hn hp r=>h p vs H2 hz (e.trans e2) (e.free hn) hp r
theorem Se.any (h:Se m K A H d Q):Se false K A H d Q:=fun v H' e r=>h v H' e (Rm.any r)
theorem Se.here {v:V} (h:Se m K A H d Q) (r:Rp K (av H A) d v):Q v H:=h v H (Yj.refl H) (Rm.any r)
theorem Se.new (h:Se m K A H (.lst ds) Q) (mu:Ra A H):Z10 K A H ds Q:=fun p vs H' hz e hn hp r=>by
 refine h _ H' e (Rm.any (Dw hz (.inl (.inl (Qe hp (mu.new hn)))) (r.mono (M7 fun a q=>Hm q))))
theorem Z10.at {vs:List V} (h:Z10 K A H ds Q) (hz:ds.length<=sizeLine) (r:Rps K (av H A) ds vs):∀ p,H p=none->Q (.ref p) (upd H p (.lst vs)):=fun p hp=>by
 refine h p vs _ hz (Yj.new hp) hp Zu (r.mono fun b o e=>?_);obtain ⟨h1,h2⟩:=Rg e;have hb:b≠p:=Y6 h2 hp;exact Qe (by rw [Zg hb];exact h2) (Z8u h1 hb)
theorem Se.tup {vs:List V} (h:Se m K A H (.tup ds) Q) (mu:Ra A H) (hz:ds.length<=sizeLine) (r:Rps K (av H A) ds vs):∀ p,H p=none->Q (.ref p) (upd H p (.tup vs)):=fun p hp=>by
 refine h _ _ (Yj.new hp) (Rm.any (Z0s hz (.inl ((Qe Zu (mu.new hp)))) (r.mono (Vd (Yj.new hp)))))
end
def PXd (m:Bool) (X:Cx) (e:Expr) (f:Ev->Option Dat):Prop:=PE X e fun σ H Q=>∃ env R A d,EnvOk X.K R A H σ env/\f env=some d/\Se m X.K A H d Q
def PNd (X:Cx) (e:Expr) (f:Ev->Option (List Dat)):Prop:=PE X e fun σ H Q=>∃ env R A ds,EnvOk X.K R A H σ env/\f env=some ds/\Z10 X.K A H ds Q
def PAd (m:Bool) (X:Cx) (es:List Expr) (f:Ev->Option (List Dat)):Prop:=PA X es fun σ H Q=>∃ env R A ds,EnvOk X.K R A H σ env/\f env=some ds/\∀ vs H',Yj H H'->Rms m X.K A H' ds vs->Q vs H'
def PTd (X:Cx) (e:Expr) (f:Ev->Option Bool):Prop:=PT X e fun σ H Q=>∃ env R A b,EnvOk X.K R A H σ env/\f env=some b/\∀ H',Yj H H'->Q b H'
def PWd (X:Cx) (e:Expr) (f:Ev->Option Bool):Prop:=PW X e fun σ H Q=>∃ env R A b,EnvOk X.K R A H σ env/\f env=some b/\∀ H',Yj H H'->Q b H'
theorem PE.weak {X:Cx} {e:Expr} {t t':TE} (h:PE X e t) (w:∀ σ H Q,t' σ H Q->t σ H Q):PE X e t':=fun pins s σ H Q I q=>h pins s σ H Q I (w σ H Q q)
theorem PT.weak {X:Cx} {e:Expr} {t t':TT} (h:PT X e t) (w:∀ σ H Q,t' σ H Q->t σ H Q):PT X e t':=fun pins s σ H Q I q=>h pins s σ H Q I (w σ H Q q)
theorem PW.weak {X:Cx} {e:Expr} {t t':TT} (h:PW X e t) (w:∀ σ H Q,t' σ H Q->t σ H Q):PW X e t':=fun wh pins s σ H Q I q=>h wh pins s σ H Q I (w σ H Q q)
theorem PA.weak {X:Cx} {e:List Expr} {t t':TA} (h:PA X e t) (w:∀ σ H Q,t' σ H Q->t σ H Q):PA X e t':=fun pos pins s σ H Q I q=>h pos pins s σ H Q I (w σ H Q q)
theorem PS.weak {X:Cx} {e:Stmt} {t t':TS} (h:PS X e t) (w:∀ D σ H,t' D σ H->t D σ H):PS X e t':=fun pins s σ H D I q=>h pins s σ H D I (w D σ H q)
theorem PSs.weak {X:Cx} {e:List Stmt} {t t':TS} (h:PSs X e t) (w:∀ D σ H,t' D σ H->t D σ H):PSs X e t':=fun pins s σ H D I q=>h pins s σ H D I (w D σ H q)
section
variable {m:Bool} {X:Cx} {e:Expr} {f:Ev->Option Dat}
theorem PXd.any (h:PXd false X e f):PXd m X e f:=h.weak fun _ _ _ ⟨env,R,A,d,k,q1,q2⟩=>⟨env,R,A,d,k,q1,q2.any⟩
def dL (g:Ev->Option (List Dat)):Ev->Option Dat:=fun env=>(g env).map .lst
theorem PNd.x {g:Ev->Option (List Dat)} (h:PNd X e g):PXd m X e (dL g):=h.weak fun _ _ _ zz=>by
 obtain ⟨env,R,A,d,k,q1,q2⟩:=zz;unfold dL at q1;cases q:g env with
 | none=>rw [q] at q1;cases q1
 | some ds =>
  rw [q] at q1;cases q1;exact ⟨env,R,A,ds,k,q,q2.new k.mu⟩
theorem bind_some {α β:Type} {a:Option α} {g:α->Option β} {b:β} (h:a.bind g=some b):∃ x,a=some x/\g x=some b:=by
 cases a with
 | none=>cases h
 | some x=>exact ⟨x,rfl,h⟩
def dV (i:Nat):Ev->Option Dat:=fun env=>match env[i]? with
 | some (.fz d)=>some d
 | _=>none
def dP (i:Nat):Ev->Option Dat:=fun env=>match env[i]? with
 | some (.fz d)=>some d
 | some (.pk d)=>some d
 | some (.ow ds)=>some (.lst ds)
 | _=>none
theorem EnvOk.fz {R:Bs} {A:AS} {H:Hp} {σ:St} {env:Ev} {i:Nat} {d:Dat} (k:EnvOk X.K R A H σ env) (h:env[i]?=some (.fz d)):∃ v,σ[i]?=some (some v)/\Rp X.K (av H A) d v:=by
 obtain ⟨own,h1,h2,h4⟩:=k.sl;obtain ⟨x,q2,v,e1,e2⟩:=h4 i _ h;subst e1;exact ⟨v,q2,e2⟩
theorem EnvOk.look {R:Bs} {A:AS} {H:Hp} {σ:St} {env:Ev} {i:Nat} {d:Dat} (k:EnvOk X.K R A H σ env) (h:dP i env=some d):∃ v,σ[i]?=some (some v)/\Pk X.K A H d v:=by
 obtain ⟨own,h1,h2,h4⟩:=k.sl;unfold dP at h;split at h
 ·rename_i z e
  cases h;obtain ⟨x,q2,v,e1,e2⟩:=h4 i _ e;subst e1;exact ⟨v,q2,.inl e2⟩
 ·rename_i z e
  cases h;obtain ⟨x,q2,v,e1,e2⟩:=h4 i _ e;subst e1;exact ⟨v,q2,e2⟩
 ·rename_i z e
  cases h;obtain ⟨x,q2,a,vs,e1,e2,hz,e3,e4⟩:=h4 i _ e;subst e1;exact ⟨.ref a,q2,.inr ⟨a,vs,z,rfl,rfl,hz,e3,e4⟩⟩
 ·cases h
theorem xv (i:Nat) {x:Str} {pos:Pos} (hN:X.N[i]?=some x:=by rfl) (hv:Vis X.env.scope x:=by first | exact Or.inl rfl | exact Or.inr (Or.inl rfl) | exact Or.inr (Or.inr rfl)) (hd:(x==("__debug__" : Str))=false:=by decide)
  (hcd:(x==("__classdict__" : Str))=false:=by decide):PXd m X (.Name x pos) (dV i):=PXd.any ((Mw hN hv hd hcd).weak fun σ H Q zz=>by
 obtain ⟨env,R,A,d,k,q1,q2⟩:=zz;unfold dV at q1;split at q1
 ·rename_i z e
  cases q1;obtain ⟨v,h1,h2⟩:=k.fz e;exact ⟨v,h1,q2.here h2⟩
 ·cases q1)
theorem xo (i:Nat) {x:Str} {pos:Pos} (hN:X.N[i]?=some x:=by rfl) (hv:Vis X.env.scope x:=by first | exact Or.inl rfl | exact Or.inr (Or.inl rfl) | exact Or.inr (Or.inr rfl)) (hd:(x==("__debug__" : Str))=false:=by decide)
  (hcd:(x==("__classdict__" : Str))=false:=by decide):PXd true X (.Name x pos) (dP i):=(Mw hN hv hd hcd).weak fun σ H Q zz=>by
 obtain ⟨env,R,A,d,k,q1,q2⟩:=zz;obtain ⟨v,h1,h2⟩:=k.look q1;exact ⟨v,h1,q2 v H (Yj.refl H) h2⟩
def dC (d:Dat):Ev->Option Dat:=fun _=>some d
theorem Zc9 {i:Int} {j pos}:PXd m X (.Constant (.int i) j pos) (dC (.int i)):=PXd.any (Z9s.weak fun _ _ _ ⟨_,_,_,_,_,q1,q2⟩=>by cases q1;exact q2.here Wb)
theorem xbl {b:Bool} {j pos}:PXd m X (.Constant (.bool b) j pos) (dC (.bl b)):=PXd.any (Zbt.weak fun _ _ _ ⟨_,_,_,_,_,q1,q2⟩=>by cases q1;exact q2.here Tp)
theorem Zbj {j pos}:PXd m X (.Constant .none j pos) (dC .non):=PXd.any (Z8g.weak fun _ _ _ ⟨_,_,_,_,_,q1,q2⟩=>by cases q1;exact q2.here Ph)
theorem Zaj {x:Str} {j pos} (h:SOk x:=by decide +kernel):PXd m X (.Constant (.str x) j pos) (dC (.str x)):=PXd.any (Z7q.weak fun _ _ _ ⟨_,_,_,_,_,q1,q2⟩=>by cases q1;exact q2.here (Gw h))
end
def rD (K:PySem.W.Frag) (F:Dat->Dat->Option Dat):R2:=fun v u H Q=>∃ A x y d,Ra A H/\F x y=some d/\Pk K A H x v/\Pk K A H y u/\Se false K A H d Q
def rN (K:PySem.W.Frag) (F:Dat->Dat->Option (List Dat)):R2:=fun v u H Q=>∃ A x y ds,Ra A H/\F x y=some ds/\Pk K A H x v/\Pk K A H y u/\Z10 K A H ds Q
def OpD (X:Cx) (f:Value->Value->Sem Value) (F:Dat->Dat->Option Dat):Prop:=OpR X f (rD X.K F)
def OpN (X:Cx) (f:Value->Value->Sem Value) (F:Dat->Dat->Option (List Dat)):Prop:=OpR X f (rN X.K F)
theorem OpR.weak {X:Cx} {f:Value->Value->Sem Value} {r r':R2} (h:OpR X f r) (w:∀ x y H Q,r' x y H Q->r x y H Q):OpR X f r':=fun pins s σ H x y v u Q I rx ry q=>h pins s σ H x y v u Q I rx ry (w _ _ _ _ q)
theorem OpN.d {X:Cx} {f:Value->Value->Sem Value} {F:Dat->Dat->Option (List Dat)} (h:OpN X f F):OpD X f (fun x y=>(F x y).map .lst):=OpR.weak h fun v u H Q zz=>by
 obtain ⟨A,x,y,d,mu,e,p1,p2,q⟩:=zz;dsimp only at e;cases z:F x y with
 | none=>rw [z] at e;cases e
 | some ds=>rw [z] at e;cases e;exact ⟨A,x,y,ds,mu,z,p1,p2,q.new mu⟩
def dO (F:Dat->Dat->Option α) (f g:Ev->Option Dat):Ev->Option α:=fun env=>(f env).bind fun x=>(g env).bind fun y=>F x y
section
variable {m m1 m2:Bool} {X:Cx} {a b:Expr} {f g:Ev->Option Dat} {F:Dat->Dat->Option Dat} {G:Dat->Dat->Option (List Dat)} {pos:Pos}
theorem two {r:R2} {σ:St} {H:Hp} {Q:VK} {env:Ev} {R:Bs} {A:AS} {x y:Dat} (k:EnvOk X.K R A H σ env) (e1:f env=some x) (e2:g env=some y)
  (h:∀ v u H2,Yj H H2->Pk X.K A H2 x v->Pk X.K A H2 y u->Ra A H2->r v u H2 Q) :
  tOp r (fun σ H Q=>∃ env R A d,EnvOk X.K R A H σ env/\f env=some d/\Se m1 X.K A H d Q) (fun σ H Q=>∃ env R A d,EnvOk X.K R A H σ env/\g env=some d/\Se m2 X.K A H d Q) σ H Q :=
 ⟨env,R,A,x,k,e1,fun v H1 s1 p1=>⟨env,R,A,y,k.mono s1,e2,fun u H2 s2 p2=>h v u H2 (s1.trans s2) (p1.pk.mono s2) p2.pk (k.mu.mono (s1.trans s2))⟩⟩
theorem G8 {α:Type} {F:Dat->Dat->Option α} {env:Ev} {d:α} (h:dO F f g env=some d):∃ x y,f env=some x/\g env=some y/\F x y=some d:=by
 obtain ⟨x,e1,h⟩:=bind_some h;obtain ⟨y,e2,h⟩:=bind_some h;exact ⟨x,y,e1,e2,h⟩
theorem xop {op:Operator} (ho:OpD X (binaryOp op) F) (ha:PXd m1 X a f) (hb:PXd m2 X b g):PXd m X (.BinOp a op b pos) (dO F f g):=PXd.any ((Z8y ho ha hb).weak fun σ H Q zz=>by
 obtain ⟨env,R,A,d,k,q1,q2⟩:=zz;obtain ⟨x,y,e1,e2,e3⟩:=G8 q1;exact two k e1 e2 fun v u H2 s p1 p2 mu=>⟨A,x,y,d,mu,e3,p1,p2,q2.mono s⟩)
theorem nop {op:Operator} (ho:OpN X (binaryOp op) G) (ha:PXd m1 X a f) (hb:PXd m2 X b g):PNd X (.BinOp a op b pos) (dO G f g):=(Z8y ho ha hb).weak fun σ H Q zz=>by
 obtain ⟨env,R,A,d,k,q1,q2⟩:=zz;obtain ⟨x,y,e1,e2,e3⟩:=G8 q1;exact two k e1 e2 fun v u H2 s p1 p2 mu=>⟨A,x,y,d,mu,e3,p1,p2,q2.mono s⟩
theorem Zbm {op:CmpOp} (ho:OpD X (compareOp op) F) (ha:PXd m1 X a f) (hb:PXd m2 X b g) (hm:behindInMarks op b=false):PXd m X (.Compare a [op] [b] pos) (dO F f g):=PXd.any ((Z4j ho ha hb hm).weak fun σ H Q zz=>by
 obtain ⟨env,R,A,d,k,q1,q2⟩:=zz;obtain ⟨x,y,e1,e2,e3⟩:=G8 q1;exact two k e1 e2 fun v u H2 s p1 p2 mu=>⟨A,x,y,d,mu,e3,p1,p2,q2.mono s⟩)
def dB (f:Ev->Option Dat):Ev->Option Bool:=fun env=>match f env with
 | some (.bl b)=>some b
 | _=>none
theorem Hr {env:Ev} {b:Bool} (h:dB f env=some b):f env=some (.bl b):=by
 unfold dB at h;split at h
 ·rename_i z e;cases h;exact e
 ·cases h
theorem Jw {op:CmpOp} (ho:OpD X (compareOp op) F) (ha:PXd m1 X a f) (hb:PXd m2 X b g) (hm:behindInMarks op b=false):PTd X (.Compare a [op] [b] pos) (dB (dO F f g)):=(Z4o ho ha hb hm).weak fun σ H Q zz=>by
 obtain ⟨env,R,A,d,k,q1,q2⟩:=zz;obtain ⟨x,y,e1,e2,e3⟩:=G8 (Hr q1);show tOp (rD X.K F) _ _ σ H (fun x H'=>∃ k,x=.bl k/\Q k H');exact two k e1 e2 fun v u H2 s p1 p2 mu=>⟨A,x,y,.bl d,mu,e3,p1,p2,fun v H' s' r=>⟨d,r.pk.bl,q2 H' (s.trans s')⟩⟩
theorem xix (ho:IxR X (rD X.K F)) (ha:PXd m1 X a f) (hb:PXd m2 X b g) (hs:Hz b):PXd m X (.Subscript a b pos) (dO F f g):=PXd.any ((Z4s ho ha hb hs).weak fun σ H Q zz=>by
 obtain ⟨env,R,A,d,k,q1,q2⟩:=zz;obtain ⟨x,y,e1,e2,e3⟩:=G8 q1;exact two k e1 e2 fun v u H2 s p1 p2 mu=>⟨A,x,y,d,mu,e3,p1,p2,q2.mono s⟩)
end
section
variable {m m1 m2:Bool} {X:Cx} {a b c:Expr} {rest:List Expr} {f g h:Ev->Option Dat} {t u:Ev->Option Bool} {pos:Pos}
def Ia (t u:Ev->Option Bool):Ev->Option Bool:=fun env=>(t env).bind fun b=>if b=true then u env else some false
def Fg (t u:Ev->Option Bool):Ev->Option Bool:=fun env=>(t env).bind fun b=>if b=true then some true else u env
def Sc (t:Ev->Option Bool):Ev->Option Bool:=fun env=>(t env).map (!·)
theorem N1 (ha:PTd X a t):PWd X (.BoolOp .And [a] pos) t:=Z4r ha
theorem Xd (ha:PTd X a t):PWd X (.BoolOp .Or [a] pos) t:=Z7z ha
theorem Fd (ha:PTd X a t) (hb:PWd X (.BoolOp .And (b::rest) pos) u):PWd X (.BoolOp .And (a::b::rest) pos) (Ia t u):=(Z7w ha hb).weak fun σ H Q zz=>by
 obtain ⟨env,R,A,d,k,q1,q2⟩:=zz;obtain ⟨x,e1,e2⟩:=bind_some q1;refine ⟨env,R,A,x,k,e1,fun H1 s1=>?_⟩;cases x with
 | true =>
  rw [if_pos rfl] at e2 ⊢;exact ⟨env,R,A,d,k.mono s1,e2,fun H2 s2=>q2 H2 (s1.trans s2)⟩
 | false =>
  rw [if_neg Bool.false_ne_true] at e2 ⊢;cases e2;exact q2 H1 s1
theorem Z14 (ha:PTd X a t) (hb:PWd X (.BoolOp .Or (b::rest) pos) u):PWd X (.BoolOp .Or (a::b::rest) pos) (Fg t u):=(Zav ha hb).weak fun σ H Q zz=>by
 obtain ⟨env,R,A,d,k,q1,q2⟩:=zz;obtain ⟨x,e1,e2⟩:=bind_some q1;refine ⟨env,R,A,x,k,e1,fun H1 s1=>?_⟩;cases x with
 | true =>
  rw [if_pos rfl] at e2 ⊢;cases e2;exact q2 H1 s1
 | false =>
  rw [if_neg Bool.false_ne_true] at e2 ⊢;exact ⟨env,R,A,d,k.mono s1,e2,fun H2 s2=>q2 H2 (s1.trans s2)⟩
theorem PWd.pt {e:Expr} (h:PWd X e t):PTd X e t:=PW.pt h
theorem Z1u (ha:PTd X a t):PTd X (.UnaryOp .Not a pos) (Sc t):=(Za0 ha).weak fun σ H Q zz=>by
 obtain ⟨env,R,A,d,k,q1,q2⟩:=zz;unfold Sc at q1;cases e:t env with
 | none=>rw [e] at q1;cases q1
 | some x =>
  rw [e] at q1;cases q1;exact ⟨env,R,A,x,k,e,fun H1 s1=>q2 H1 s1⟩
def Z8n (f g:Ev->Option Dat):Ev->Option Dat:=fun env=>(dB f env).bind fun b=>if b=true then g env else some (.bl false)
def dOr (f g:Ev->Option Dat):Ev->Option Dat:=fun env=>(dB f env).bind fun b=>if b=true then some (.bl true) else g env
theorem Zae {op} (ha:PXd m X a f):PXd m X (.BoolOp op [a] pos) f:=Z9z ha
theorem Zcx (ha:PXd m1 X a f) (hb:PXd false X (.BoolOp .And (b::rest) pos) g):PXd m X (.BoolOp .And (a::b::rest) pos) (Z8n f g):=PXd.any ((Z9c ha hb).weak fun σ H Q zz=>by
 obtain ⟨env,R,A,d,k,q1,q2⟩:=zz;obtain ⟨x,e1,e2⟩:=bind_some q1;refine ⟨env,R,A,.bl x,k,Hr e1,fun v H1 s1 p1=>⟨x,p1.pk.bl,?_⟩⟩;cases x with
 | true =>
  rw [if_pos rfl] at e2 ⊢;exact ⟨env,R,A,d,k.mono s1,e2,q2.mono s1⟩
 | false =>
  rw [if_neg Bool.false_ne_true] at e2 ⊢;cases e2;exact (q2.mono s1).here Tp)
theorem xor (ha:PXd m1 X a f) (hb:PXd false X (.BoolOp .Or (b::rest) pos) g):PXd m X (.BoolOp .Or (a::b::rest) pos) (dOr f g):=PXd.any ((Zc6 ha hb).weak fun σ H Q zz=>by
 obtain ⟨env,R,A,d,k,q1,q2⟩:=zz;obtain ⟨x,e1,e2⟩:=bind_some q1;refine ⟨env,R,A,.bl x,k,Hr e1,fun v H1 s1 p1=>⟨x,p1.pk.bl,?_⟩⟩;cases x with
 | true =>
  rw [if_pos rfl] at e2 ⊢;cases e2;exact (q2.mono s1).here Tp
 | false =>
  rw [if_neg Bool.false_ne_true] at e2 ⊢;exact ⟨env,R,A,d,k.mono s1,e2,q2.mono s1⟩)
def Zdt:Dat->Option Bool
 | .non=>some false
 | .bl b=>some b
 | .int i=>some (i != 0)
 | .str y=>some ((y.length:Int) != 0)
 | .lst xs=>some (!xs.isEmpty)
 | .tup xs=>some (!xs.isEmpty)
 | _=>none
def dT (f:Ev->Option Dat):Ev->Option Bool:=fun env=>(f env).bind Zdt
theorem Eo {K:PySem.W.Frag} {H:Hp} {ds:List Dat} {vs:List V} (r:Rps K H ds vs):vs.isEmpty=ds.isEmpty:=by
 cases ds with
 | nil=>rw [Yl r];rfl
 | cons d ds=>obtain ⟨v,r',e,_⟩:=Zy r;rw [e];rfl
theorem Ke (ha:PXd true X a f) (he:∀ whole,isTrue a X.env whole=(do let v ← whole;standAt a.pos;holding [v] (truthy v)):=by intro _;rfl):PTd X a (dT f):=(Z1y ha he).weak fun σ H Q zz=>by
 obtain ⟨env,R,A,b,k,q1,q2⟩:=zz;obtain ⟨x,e1,e2⟩:=bind_some q1;refine ⟨env,R,A,x,k,e1,fun v H1 s1 p1=>⟨b,?_,q2 H1 s1⟩⟩;have p:Pk X.K A H1 x v:=p1;cases x with
 | non=>cases e2;rw [p.non];rfl
 | bl b'=>cases e2;rw [p.bl];rfl
 | int i=>cases e2;rw [p.int];rfl
 | str y=>cases e2;obtain ⟨e,h⟩:=p.str;rw [e];exact ⟨h.le,rfl⟩
 | lst xs=>cases e2;obtain ⟨a',vs,e,h1,h2⟩:=p.lst;rw [e];exact .inl ⟨vs,h1.sq,by rw [Eo h2]⟩
 | tup xs=>cases e2;obtain ⟨a',vs,e,h1,h2⟩:=p.tup;rw [e];exact .inr (.inl ⟨vs,h1,by rw [Eo h2]⟩)
 | dct _=>cases e2
 | exc _ _=>cases e2
end
section
variable {m:Bool} {X:Cx} {e:Expr} {es:List Expr} {f:Ev->Option Dat} {fs:Ev->Option (List Dat)} {pos:Pos}
def Zk:Ev->Option (List Dat):=fun _=>some []
def Z4 (f:Ev->Option Dat) (fs:Ev->Option (List Dat)):Ev->Option (List Dat):=fun env=>(f env).bind fun d=>(fs env).map fun ds=>d::ds
theorem Za:PAd m X [] Zk:=Jn.weak fun σ H Q ⟨env,R,A,ds,k,q1,q2⟩=>by cases q1;exact q2 [] H (Yj.refl H) rfl
theorem Z0 (ha:PXd m X e f) (hr:PAd m X es fs) (hs:starEach (e::es) X.env=(false,eval e X.env)::starEach es X.env:=by rfl):PAd m X (e::es) (Z4 f fs):=(Ve ha hr hs).weak fun σ H Q zz=>by
 obtain ⟨env,R,A,ds,k,q1,q2⟩:=zz;obtain ⟨d,e1,e2⟩:=bind_some q1;cases e3:fs env with
 | none=>rw [e3] at e2;cases e2
 | some r =>
  rw [e3] at e2;cases e2;exact ⟨env,R,A,d,k,e1,fun v H1 s1 p1=>⟨env,R,A,r,k.mono s1,e3,fun vs H2 s2 p2=>q2 (v::vs) H2 (s1.trans s2) ⟨v,vs,rfl,p1.mono s2,p2⟩⟩⟩
def Uj (fs:Ev->Option (List Dat)):Ev->Option Dat:=fun env=>(fs env).bind fun ds=>if ds.length<=1000 then some (.tup ds) else none
def Ef (fs:Ev->Option (List Dat)):Ev->Option (List Dat):=fun env=>(fs env).bind fun ds=>if ds.length<=1000 then some ds else none
theorem Zcj {x1} (h:PAd false X es fs):PXd m X (.Tuple es x1 pos) (Uj fs):=PXd.any ((Z7f h).weak fun σ H Q zz=>by
 obtain ⟨env,R,A,d,k,q1,q2⟩:=zz;obtain ⟨ds,e1,e2⟩:=bind_some q1;split at e2
 ·rename_i hz
  cases e2;have hz':ds.length<=sizeLine:=le_of_lt (Qo hz);refine ⟨env,R,A,ds,k,e1,fun vs H1 s1 p1=>⟨?_,(q2.mono s1).tup (k.mu.mono s1) hz' p1.rps⟩⟩;rw [Y5 p1.rps];exact hz'
 ·cases e2)
theorem Ic (h:PAd false X es fs):PNd X (.List es pos) (Ef fs):=(Z3m h).weak fun σ H Q zz=>by
 obtain ⟨env,R,A,d,k,q1,q2⟩:=zz;obtain ⟨ds,e1,e2⟩:=bind_some q1;split at e2
 ·rename_i hz
  cases e2;have hz':d.length<=sizeLine:=le_of_lt (Qo hz);refine ⟨env,R,A,d,k,e1,fun vs H1 s1 p1=>⟨?_,(q2.mono s1).at hz' p1.rps⟩⟩;rw [Y5 p1.rps];exact hz'
 ·cases e2
def Lg (X:Cx) (f:Value) (F:List Dat->Option Dat):Prop:=Uq X f (fun vs H Q=>∃ A ds d,Ra A H/\F ds=some d/\Rms true X.K A H ds vs/\Se false X.K A H d Q)
def Z1k (X:Cx) (f:Value) (F:List Dat->Option (List Dat)):Prop:=Uq X f (fun vs H Q=>∃ A ds d,Ra A H/\F ds=some d/\Rms true X.K A H ds vs/\Z10 X.K A H d Q)
theorem Uq.weak {f:Value} {r r':List V->Hp->VK->Prop} (h:Uq X f r) (w:∀ xs H Q,r' xs H Q->r xs H Q):Uq X f r':=fun pins s σ H xs us Q I rv q=>h pins s σ H xs us Q I rv (w _ _ _ q)
def dF (F:List Dat->Option α) (fs:Ev->Option (List Dat)):Ev->Option α:=fun env=>(fs env).bind F
variable {x:Str} {p:Pos} {id T:String} {F:List Dat->Option Dat} {G:List Dat->Option (List Dat)}
theorem Z3k (hc:Lg X (.builtin id) F) (hg:Gl X x) (hm:X.mg x=none) (hv:bootBuiltins x=some (.builtin id)) (ha:PAd true X (e::es) fs) (hn:x≠"__name__" := by decide) (hdb:(x==("__debug__" : Str))=false:=by decide)
  (he:starEach (e::es) X.env=(false,eval e X.env)::starEach es X.env:=by rfl) (hpl:(backTo pos (starEach es X.env)).any (·.1)=false:=by rfl):PXd m X (.Call (.Name x p) (e::es) [] pos) (dF F fs) :=
 PXd.any ((Rl hc hg hm hv ha hn hdb he hpl).weak fun σ H Q zz=>by
  obtain ⟨env,R,A,d,k,q1,q2⟩:=zz;obtain ⟨ds,e1,e2⟩:=bind_some q1;exact ⟨env,R,A,ds,k,e1,fun vs H1 s1 p1=>⟨A,ds,d,k.mu.mono s1,e2,p1,q2.mono s1⟩⟩)
theorem Q3 (hc:Lg X (.type T) F) (hg:Gl X x) (hm:X.mg x=none) (hv:bootBuiltins x=some (.type T)) (ha:PAd true X (e::es) fs) (hn:x≠"__name__" := by decide) (hdb:(x==("__debug__" : Str))=false:=by decide)
  (he:starEach (e::es) X.env=(false,eval e X.env)::starEach es X.env:=by rfl) (hpl:(backTo pos (starEach es X.env)).any (·.1)=false:=by rfl):PXd m X (.Call (.Name x p) (e::es) [] pos) (dF F fs) :=
 PXd.any ((Rx hc hg hm hv ha hn hdb he hpl).weak fun σ H Q zz=>by
  obtain ⟨env,R,A,d,k,q1,q2⟩:=zz;obtain ⟨ds,e1,e2⟩:=bind_some q1;exact ⟨env,R,A,ds,k,e1,fun vs H1 s1 p1=>⟨A,ds,d,k.mu.mono s1,e2,p1,q2.mono s1⟩⟩)
theorem Oo (hc:Z1k X (.builtin id) G) (hg:Gl X x) (hm:X.mg x=none) (hv:bootBuiltins x=some (.builtin id)) (ha:PAd true X (e::es) fs) (hn:x≠"__name__" := by decide) (hdb:(x==("__debug__" : Str))=false:=by decide)
  (he:starEach (e::es) X.env=(false,eval e X.env)::starEach es X.env:=by rfl) (hpl:(backTo pos (starEach es X.env)).any (·.1)=false:=by rfl):PNd X (.Call (.Name x p) (e::es) [] pos) (dF G fs) :=
 (Rl hc hg hm hv ha hn hdb he hpl).weak fun σ H Q zz=>by
  obtain ⟨env,R,A,d,k,q1,q2⟩:=zz;obtain ⟨ds,e1,e2⟩:=bind_some q1;exact ⟨env,R,A,ds,k,e1,fun vs H1 s1 p1=>⟨A,ds,d,k.mu.mono s1,e2,p1,q2.mono s1⟩⟩
theorem Z8z (hc:Z1k X (.type T) G) (hg:Gl X x) (hm:X.mg x=none) (hv:bootBuiltins x=some (.type T)) (ha:PAd true X (e::es) fs) (hn:x≠"__name__" := by decide) (hdb:(x==("__debug__" : Str))=false:=by decide)
  (he:starEach (e::es) X.env=(false,eval e X.env)::starEach es X.env:=by rfl) (hpl:(backTo pos (starEach es X.env)).any (·.1)=false:=by rfl):PNd X (.Call (.Name x p) (e::es) [] pos) (dF G fs) :=
 (Rx hc hg hm hv ha hn hdb he hpl).weak fun σ H Q zz=>by
  obtain ⟨env,R,A,d,k,q1,q2⟩:=zz;obtain ⟨ds,e1,e2⟩:=bind_some q1;exact ⟨env,R,A,ds,k,e1,fun vs H1 s1 p1=>⟨A,ds,d,k.mu.mono s1,e2,p1,q2.mono s1⟩⟩
end
section
variable {m m1:Bool} {X:Cx} {o e:Expr} {es:List Expr} {f:Ev->Option Dat} {fs:Ev->Option (List Dat)} {pos apos cpos:Pos} {name:Str} {T id:String} {α:Type}
def Z5c (T:String):Dat->Bool
 | .str _=>T=="str"
 | .int _=>T=="int"
 | .lst _=>T=="list"
 | _=>false
theorem Z7d {K:PySem.W.Frag} {A:AS} {H:Hp} {d:Dat} {v:V} (h:Z5c T d=true) (p:Pk K A H d v):tyV K T v H:=by
 cases d with
 | str x=>rw [p.str.1];show T="str";simpa [Z5c] using h
 | int x=>rw [p.int];show T="int";simpa [Z5c] using h
 | lst x=>obtain ⟨a,vs,e,h1,h2⟩:=p.lst;rw [e];exact .inl ⟨by simpa [Z5c] using h,vs,h1.sq⟩
 | _=>cases h
def MtD (X:Cx) (id:String) (F:Dat->List Dat->Option Dat):Prop:=MtR X id (fun v vs H Q=>∃ A x ds d,Ra A H/\F x ds=some d/\Pk X.K A H x v/\Rms true X.K A H ds vs/\Se false X.K A H d Q)
def dM (T:String) (F:Dat->List Dat->Option α) (f:Ev->Option Dat) (fs:Ev->Option (List Dat)):Ev->Option α:=fun env=>(f env).bind fun x=>if Z5c T x=true then (fs env).bind fun ds=>F x ds else none
theorem Z60 {F:Dat->List Dat->Option α} {env:Ev} {d:α} (h:dM T F f fs env=some d):∃ x ds,f env=some x/\Z5c T x=true/\fs env=some ds/\F x ds=some d:=by
 obtain ⟨x,e1,h⟩:=bind_some h;split at h
 ·rename_i ht
  obtain ⟨ds,e2,h⟩:=bind_some h;exact ⟨x,ds,e1,ht,e2,h⟩
 ·cases h
theorem MtR.weak {r r':V->List V->Hp->VK->Prop} (h:MtR X id r) (w:∀ x xs H Q,r' x xs H Q->r x xs H Q):MtR X id r':=fun pins s σ H x xs v us Q I rx rv q=>h pins s σ H x xs v us Q I rx rv (w _ _ _ _ q)
variable {F:Dat->List Dat->Option Dat} {G:Dat->List Dat->Option (List Dat)}
theorem xbm (pa:PlainAttrs T) (slot:Slot T name id) (hty:typeOf (.builtin id)=pure (.type "method_descriptor")) (hm:MtD X id F) (ho:PXd m1 X o f) (ha:PAd true X (e::es) fs)
  (hbase:attributeBase o name X.env (eval o X.env)=eval o X.env:=by rfl)
  (hfew:((backTo cpos (starEach (e::es) X.env)).all (fun x=>!x.1)&&(backToKw cpos (keywordEach [] X.env)).all (fun x=>x.1.isSome)
   && decide ((e::es).length+([]:List Keyword).length+(if ([]:List Keyword).isEmpty then 0 else 1)<30))=true:=by rfl)
  (hline:(apos.endLine==cpos.line)=true:=by rfl) (hs:starEach (e::es) X.env=(false,eval e X.env)::starEach es X.env:=by rfl) (hplain:(backTo cpos (starEach es X.env)).any (·.1)=false:=by rfl) :
  PXd m X (.Call (.Attribute o name apos) (e::es) [] cpos) (dM T F f fs):=PXd.any ((Z48 pa slot hty hm ho ha hbase hfew hline hs hplain).weak fun σ H Q zz=>by
 obtain ⟨env,R,A,d,k,q1,q2⟩:=zz;obtain ⟨x,ds,e1,ht,e2,e3⟩:=Z60 q1;exact ⟨env,R,A,x,k,e1,fun v H1 s1 p1=>⟨Z7d ht p1.pk,env,R,A,ds,k.mono s1,e2,fun vs H2 s2 p2=>⟨A,x,ds,d,k.mu.mono (s1.trans s2),e3,p1.pk.mono s2,p2,q2.mono (s1.trans s2)⟩⟩⟩)
def POd (X:Cx) (e:Option Expr) (f:Ev->Option (Option Int)):Prop:=PO X e fun σ H Q=>∃ env R A i,EnvOk X.K R A H σ env/\f env=some i/\∀ H',Yj H H'->Q i H'
def M0:Ev->Option (Option Int):=fun _=>some none
def Qz (f:Ev->Option Dat):Ev->Option (Option Int):=fun env=>match f env with
 | some (.int i)=>some (some i)
 | _=>none
theorem PO.weak {e:Option Expr} {t t':TO} (h:PO X e t) (w:∀ σ H Q,t' σ H Q->t σ H Q):PO X e t':=fun pins s σ H Q I q=>h pins s σ H Q I (w σ H Q q)
theorem Tr:POd X none M0:=Z43.weak fun σ H Q ⟨env,R,A,i,k,q1,q2⟩=>by cases q1;exact q2 H (Yj.refl H)
theorem Tw (h:PXd m X e f):POd X (some e) (Qz f):=(Z58 h).weak fun σ H Q zz=>by
 obtain ⟨env,R,A,i,k,q1,q2⟩:=zz;unfold Qz at q1;split at q1
 ·rename_i n e1
  cases q1;exact ⟨env,R,A,_,k,e1,fun v H1 s1 p1=>⟨n,p1.pk.int,q2 H1 s1⟩⟩
 ·cases q1
def SlD (X:Cx) (F:Dat->Option Int->Option Int->Option Dat):Prop:=SlR X (fun v lo hi H Q=>∃ A x d,Ra A H/\F x lo hi=some d/\Pk X.K A H x v/\Se false X.K A H d Q)
def dS (F:Dat->Option Int->Option Int->Option α) (f:Ev->Option Dat) (g h:Ev->Option (Option Int)):Ev->Option α:=fun env=>(f env).bind fun x=>(g env).bind fun l=>(h env).bind fun u=>F x l u
variable {lo hi:Option Expr} {gl gh:Ev->Option (Option Int)} {p2:Pos}
theorem Z4b {F:Dat->Option Int->Option Int->Option α} {env:Ev} {d:α} (h:dS F f gl gh env=some d):∃ x l u,f env=some x/\gl env=some l/\gh env=some u/\F x l u=some d:=by
 obtain ⟨x,e1,h⟩:=bind_some h;obtain ⟨l,e2,h⟩:=bind_some h;obtain ⟨u,e3,h⟩:=bind_some h;exact ⟨x,l,u,e1,e2,e3,h⟩
theorem L9 {F:Dat->Option Int->Option Int->Option Dat} (hr:SlD X F) (he:PXd m1 X e f) (hl:POd X lo gl) (hu:POd X hi gh):PXd m X (.Subscript e (.Slice lo hi none p2) pos) (dS F f gl gh):=PXd.any ((Z1o hr he hl hu).weak fun σ H Q zz=>by
 obtain ⟨env,R,A,d,k,q1,q2⟩:=zz;obtain ⟨x,l,u,e1,e2,e3,e4⟩:=Z4b q1;exact ⟨env,R,A,x,k,e1,fun v H1 s1 p1=>⟨env,R,A,l,k.mono s1,e2,fun H2 s2=>⟨env,R,A,u,k.mono (s1.trans s2),e3,fun H3 s3=>⟨A,x,d,k.mu.mono ((s1.trans s2).trans s3),e4,p1.pk.mono (s2.trans s3),q2.mono ((s1.trans s2).trans s3)⟩⟩⟩⟩)
def UnD (X:Cx) (g:Value->Sem Value) (F:Dat->Option Dat):Prop:=UnR X g (fun v H Q=>∃ A x d,Ra A H/\F x=some d/\Pk X.K A H x v/\Se false X.K A H d Q)
def dU (F:Dat->Option Dat) (f:Ev->Option Dat):Ev->Option Dat:=fun env=>(f env).bind F
theorem xun {op:UnaryOp} {F:Dat->Option Dat} (ho:UnD X (unaryOp op) F) (ha:PXd m1 X e f):PXd m X (.UnaryOp op e pos) (dU F f):=PXd.any ((Zb3 ho ha).weak fun σ H Q zz=>by
 obtain ⟨env,R,A,d,k,q1,q2⟩:=zz;obtain ⟨x,e1,e2⟩:=bind_some q1;exact ⟨env,R,A,x,k,e1,fun v H1 s1 p1=>⟨A,x,d,k.mu.mono s1,e2,p1.pk,q2.mono s1⟩⟩)
end
section
variable {X:Cx}
def iop (C:Int->Int->Prop) [∀ i j,Decidable (C i j)] (g:Int->Int->Dat):Dat->Dat->Option Dat
 | .int i,.int j=>if C i j then some (g i j) else none
 | _,_=>none
theorem Za3 {f:Value->Value->Sem Value} {C:Int->Int->Prop} [∀ i j,Decidable (C i j)] {g:Int->Int->V} {G:Int->Int->Dat} (h:OpR X f (rI C g)) (hg:∀ K H i j,Rp K H (G i j) (g i j)):OpD X f (iop C G):=h.weak fun v u H Q zz=>by
 obtain ⟨A,x,y,d,mu,e,p1,p2,q⟩:=zz;unfold iop at e;split at e
 ·rename_i i j
  split at e
  ·rename_i hc
   cases e;exact ⟨i,j,p1.int,p2.int,hc,q.here (hg _ _ _ _)⟩
  ·cases e
 ·cases e
theorem Ie {f:Value->Value->Sem Value} {g:Int->Int->V} {G:Int->Int->Dat} (h:OpR X f (rI0 g)) (hg:∀ K H i j,Rp K H (G i j) (g i j)):OpD X f (iop (fun _ _=>True) G):=h.weak fun v u H Q zz=>by
 obtain ⟨A,x,y,d,mu,e,p1,p2,q⟩:=zz;unfold iop at e;split at e
 ·rename_i i j
  rw [if_pos trivial] at e;cases e;exact ⟨i,j,p1.int,p2.int,q.here (hg _ _ _ _)⟩
 ·cases e
instance:∀ i j,Decidable (Z3z i j):=fun i j=>by unfold Z3z;infer_instance
instance:∀ i j,Decidable (Z70 i j):=fun i j=>by unfold Z70;infer_instance
instance:∀ i j,Decidable (Zad i j):=fun i j=>by unfold Zad;infer_instance
def Z68:=iop (fun _ _=>True) fun i j=>.int (i - j)
def Vj:=iop Z70 fun i j=>.int (i / j)
def Jl:=iop (fun _ j=>0<j) fun i j=>.int (i % j)
def N9:=iop Zad fun i j=>.int (i*2^j.toNat)
def Z13:=iop (fun _ j=>0<=j) fun i j=>.int (i / 2^j.toNat)
def Nf:=iop (fun _ _=>True) fun i j=>.int (Builtin.bitAnd i j)
def orD:=iop (fun _ _=>True) fun i j=>.int (Builtin.bitOr i j)
def Z6m:=iop (fun _ _=>True) fun i j=>.int (Builtin.bitXor i j)
def ltD:=iop (fun _ _=>True) fun i j=>.bl (decide (i<j))
def leD:=iop (fun _ _=>True) fun i j=>.bl (decide (i<=j))
def gtD:=iop (fun _ _=>True) fun i j=>.bl (decide (j<i))
def geD:=iop (fun _ _=>True) fun i j=>.bl (decide (j<=i))
theorem Cp:OpD X (binaryOp .Sub) Z68:=Ie Z9r fun _ _ _ _=>Wb
theorem Wh:OpD X (binaryOp .FloorDiv) Vj:=Za3 Z4t fun _ _ _ _=>Wb
theorem Vy:OpD X (binaryOp .Mod) Jl:=Za3 Z7a fun _ _ _ _=>Wb
theorem Ej:OpD X (binaryOp .LShift) N9:=Za3 Za1 fun _ _ _ _=>Wb
theorem Z08:OpD X (binaryOp .RShift) Z13:=Za3 Z8i fun _ _ _ _=>Wb
theorem Dv:OpD X (binaryOp .BitAnd) Nf:=Ie Z77 fun _ _ _ _=>Wb
theorem Z12:OpD X (binaryOp .BitOr) orD:=Ie Zbk fun _ _ _ _=>Wb
theorem Z2d:OpD X (binaryOp .BitXor) Z6m:=Ie Z6o fun _ _ _ _=>Wb
theorem Zba:OpD X (compareOp .Lt) ltD:=Ie Zao fun _ _ _ _=>Tp
theorem Zdf:OpD X (compareOp .LtE) leD:=Ie Zbr fun _ _ _ _=>Tp
theorem Zd4:OpD X (compareOp .Gt) gtD:=Ie Zbz fun _ _ _ _=>Tp
theorem Zcn:OpD X (compareOp .GtE) geD:=Ie Zap fun _ _ _ _=>Tp
theorem OpD.or {f:Value->Value->Sem Value} {F G E:Dat->Dat->Option Dat} (h:OpD X f F) (h':OpD X f G) (he:∀ x y d,E x y=some d->F x y=some d\/G x y=some d):OpD X f E:=fun pins s σ H x y v u Q I rx ry zz=>by
 obtain ⟨A,a,b,d,mu,e,p1,p2,q⟩:=zz;rcases he _ _ _ e with e | e
 ·exact h pins s σ H x y v u Q I rx ry ⟨A,a,b,d,mu,e,p1,p2,q⟩
 ·exact h' pins s σ H x y v u Q I rx ry ⟨A,a,b,d,mu,e,p1,p2,q⟩
def Zbn:Dat->Option Dat
 | .int i=>some (.int (-i))
 | _=>none
def Zak:Dat->Option Dat
 | .int i=>some (.int (Builtin.bitNot i))
 | _=>none
theorem UnR.weak {f:Value->Sem Value} {r r':V->Hp->VK->Prop} (h:UnR X f r) (w:∀ x H Q,r' x H Q->r x H Q):UnR X f r':=fun pins s σ H x v Q I rx q=>h pins s σ H x v Q I rx (w _ _ _ q)
theorem Zc2:UnD X (unaryOp .USub) Zbn:=UnR.weak Z7i fun v H Q zz=>by
 obtain ⟨A,x,d,mu,e,p,q⟩:=zz;unfold Zbn at e;split at e
 ·cases e;exact ⟨_,p.int,q.here Wb⟩
 ·cases e
theorem Z8f:UnD X (unaryOp .Invert) Zak:=UnR.weak Z9p fun v H Q zz=>by
 obtain ⟨A,x,d,mu,e,p,q⟩:=zz;unfold Zak at e;split at e
 ·cases e;exact ⟨_,p.int,q.here Wb⟩
 ·cases e
theorem Kb {x:Str} (h:∀ c∈cl x,c<0x110000):PyData.strOk x=true:=by
 unfold PyData.strOk;rw [Array.all_eq_true'];intro c hc;exact decide_eq_true (h c (by simpa [cl] using hc))
theorem Dk {x:Str} (h:PyData.strOk x=true):∀ c∈cl x,c<0x110000:=by
 unfold PyData.strOk at h;rw [Array.all_eq_true'] at h;intro c hc;exact of_decide_eq_true (h c (by simpa [cl] using hc))
theorem Z00 {x y:Str} (h:PyData.strOk x=true) (k:PyData.strOk y=true):PyData.strOk (x++y)=true:=Kb fun c hc=>by
 rw [Z3l] at hc;rcases mem_append.mp hc with z | z
 ·exact Dk h c z
 ·exact Dk k c z
theorem B6 (x y:Str):(x++y).length=x.length+y.length:=by rw [← Lh,Z3l,length_append,Lh,Lh]
def Zbo:Dat->Dat->Option Dat
 | .str x,.str y=>if x.length+y.length<=sizeLine then some (.str (x++y)) else none
 | _,_=>none
theorem Z6t:OpD X (binaryOp .Add) Zbo:=Xq.weak fun v u H Q zz=>by
 obtain ⟨A,x,y,d,mu,e,p1,p2,q⟩:=zz;unfold Zbo at e;split at e
 ·rename_i i j
  split at e
  ·rename_i hz
   cases e;obtain ⟨e1,k1⟩:=p1.str;obtain ⟨e2,k2⟩:=p2.str;exact ⟨i,j,e1,e2,hz,q.here (Gw (SOk.of (Z00 k1.ok k2.ok) (by rw [B6];exact hz)))⟩
  ·cases e
 ·cases e
def Z6i:Dat->Dat->Option (List Dat)
 | .lst xs,.lst ys=>if xs.length+ys.length<=sizeLine then some (xs++ys) else none
 | _,_=>none
theorem Z49:OpN X (binaryOp .Add) Z6i:=fun pins s σ H x y v u Q I rx ry zz=>by
 obtain ⟨A,a,b,d,mu,e,p1,p2,q⟩:=zz;unfold Z6i at e;split at e
 ·rename_i xs ys
  split at e
  ·rename_i hz
   cases e;obtain ⟨l1,vs,e1,h1,r1⟩:=p1.lst;obtain ⟨l2,us,e2,h2,r2⟩:=p2.lst;subst e1 e2;cases rx;cases ry;obtain ⟨its,n,w1,g1,_⟩:=h1.get I;obtain ⟨its2,n2,w2,g2,_⟩:=h2.get I;have z1:=w1.length;have z2:=w2.length;have z3:=Y5 r1;have z4:=Y5 r2;refine PySem.P.add_list g1 g2 ?_ (by rw [size_toArray,size_toArray];lia);have ea:its.toArray++its2.toArray=(its++its2).toArray:=by simp
   rw [ea];exact ⟨.ref _,_,I.lnew (t':=s.toks) (w1.append w2) (by rw [length_append];lia),rfl,q.at (by rw [length_append];exact hz) (Wm r1 r2) _ I.fresh⟩
  ·cases e
 ·cases e
theorem Ci {K:PySem.W.Frag} {H:Hp} {ds:List Dat} {vs:List V} (r:Rps K H ds vs) (h:ds.length≠0):vs≠[]:=by
 intro e;subst e;have:=Y5 r;simp at this;lia
def Wu:Dat->Dat->Option Dat
 | .int i,.int j=>some (.int (i+j))
 | .str x,.str y=>if x.length+y.length<=sizeLine then some (.str (x++y)) else none
 | .lst xs,.lst ys=>if xs.length+ys.length<=sizeLine then some (.lst (xs++ys)) else none
 | _,_=>none
theorem Z6r:OpD X (binaryOp .Add) (iop (fun _ _=>True) fun i j=>.int (i+j)):=Ie Z83 fun _ _ _ _=>Wb
theorem Yi:OpD X (binaryOp .Add) Wu:=by
 have h1:=OpD.or (E:=fun x y=>match x,y with | .int i,.int j=>some (.int (i+j)) | .str x,.str y=>if x.length+y.length<=sizeLine then some (.str (x++y)) else none | _,_=>none) (Z6r (X:=X)) Z6t (fun x y d e=>by
  split at e
  ·left;simp [iop];exact by simpa using e
  ·right;simp only [Zbo];exact e
  ·cases e)
 refine OpD.or h1 Z49.d fun x y d e=>?_
 unfold Wu at e;split at e
 ·left;exact e
 ·left;exact e
 ·right
  rename_i xs ys;simp only [Z6i];split at e
  ·rename_i hz;cases e;rw [if_pos hz];rfl
  ·cases e
 ·cases e
def Zck:=iop Z3z fun i j=>.int (i*j)
theorem Z90:OpD X (binaryOp .Mult) Zck:=Za3 Z99 fun _ _ _ _=>Wb
def eqF:Dat->Dat->Option Dat:=fun x y=>if (pd 20 x&&pd 20 y)=true then some (.bl (eqD x y)) else none
def neF:Dat->Dat->Option Dat:=fun x y=>if (pd 20 x&&pd 20 y)=true then some (.bl (!eqD x y)) else none
theorem Gk (hu:X.A.units+64<cLine):OpD X (compareOp .Eq) eqF:=fun pins s σ H x y v u Q I rx ry zz=>by
 obtain ⟨A,a,b,d,mu,e,p1,p2,q⟩:=zz;unfold eqF at e;split at e
 ·rename_i hp
  rw [Bool.and_eq_true] at hp;cases e;obtain ⟨as,a1,a2⟩:=Rp.reads I a x v hp.1 p1.rp rx;obtain ⟨bs,b1,b2⟩:=Rp.reads I b y u hp.2 p2.rp ry;have:=S4 20 a hp.1;refine SeqAt.compareEq_reads a1 b1 a2 b2 (by lia) ⟨.bl _,H,I,rfl,?_⟩;rw [Sd a b hp.1 hp.2];exact q.here Tp
 ·cases e
theorem Ou (hu:X.A.units+64<cLine):OpD X (compareOp .NotEq) neF:=fun pins s σ H x y v u Q I rx ry zz=>by
 obtain ⟨A,a,b,d,mu,e,p1,p2,q⟩:=zz;unfold neF at e;split at e
 ·rename_i hp
  rw [Bool.and_eq_true] at hp;cases e;obtain ⟨as,a1,a2⟩:=Rp.reads I a x v hp.1 p1.rp rx;obtain ⟨bs,b1,b2⟩:=Rp.reads I b y u hp.2 p2.rp ry;have:=S4 20 a hp.1;refine SeqAt.compareNe_reads a1 b1 a2 b2 (by lia) ⟨.bl _,H,I,rfl,?_⟩;rw [Sd a b hp.1 hp.2];exact q.here Tp
 ·cases e
def isN:Dat->Bool
 | .non=>true
 | _=>false
theorem Z8r {K:PySem.W.Frag} {H:Hp} {d:Dat} {v:V} (r:Rp K H d v):decide (v=V.non)=isN d:=by
 cases d with
 | non=>rw [Lv r];rfl
 | bl b=>rw [Lo r];rfl
 | int b=>rw [D8 r];rfl
 | str b=>rw [(L4 r).1];rfl
 | tup b=>obtain ⟨a,_,e,_⟩:=Rj r;rw [e];rfl
 | lst b=>obtain ⟨a,_,e,_⟩:=R0 r;rw [e];rfl
 | dct _=>exact (Z6s r).elim
 | exc _ _=>obtain ⟨_,_,_,e,_⟩:=C7 r;subst e;rfl
def isF:Dat->Dat->Option Dat
 | x,.non=>some (.bl (isN x))
 | _,_=>none
def Zbh:Dat->Dat->Option Dat
 | x,.non=>some (.bl (!isN x))
 | _,_=>none
theorem Zd8:OpD X (compareOp .Is) isF:=Z88.weak fun v u H Q zz=>by
 obtain ⟨A,x,y,d,mu,e,p1,p2,q⟩:=zz;unfold isF at e;split at e
 ·cases e
  exact ⟨p2.non,by rw [Z8r p1.rp];exact q.here Tp⟩
 ·cases e
theorem Zbl:OpD X (compareOp .IsNot) Zbh:=Z4f.weak fun v u H Q zz=>by
 obtain ⟨A,x,y,d,mu,e,p1,p2,q⟩:=zz;unfold Zbh at e;split at e
 ·cases e
  exact ⟨p2.non,by rw [Z8r p1.rp];exact q.here Tp⟩
 ·cases e
def inS:Str->Str->Bool:=fun i j=>!(Builtin.Str.occurrences j i 0 j.length 1).isEmpty
def inB:Dat->Dat->Option Bool
 | x,.lst ys=>if (pd 20 x&&ys.all (pd 20))=true then some (ys.any fun y=>eqD y x) else none
 | x,.tup ys=>if (pd 20 x&&ys.all (pd 20))=true then some (ys.any fun y=>eqD y x) else none
 | .str i,.str j=>some (inS i j)
 | _,_=>none
def inF:Dat->Dat->Option Dat:=fun x y=>(inB x y).map .bl
def Z5o:Dat->Dat->Option Dat:=fun x y=>(inB x y).map fun b=>.bl (!b)
theorem Mm {pins:List (Addr×Obj)} {σ:St} {H:Hp} {s:Shared} (I:Inv X pins σ H s) (hu:X.A.units+64<cLine) {a:Dat} {x:V} {v:Value} (ha:pd 20 a=true) (rx:Rp X.K H a x) (qx:Vf x v) :
  ∃ e:Value->Bool,∀ {ys:List Dat} {vs:List V} {us:List Value},Rps X.K H ys vs->Wa vs us->(∀ y∈ys,pd 20 y=true)->(∀ u∈us,SeqAt.EqAt X.A.in1 s u v (e u))/\us.any e=ys.any fun y=>eqD y a:=by
 classical
 have hu':X.A.in1.units+60<cLine:=by show X.A.units+1+60<cLine;lia
 have key:∀ {y:Dat} {w:V} {u:Value},Rp X.K H y w->Vf w u->pd 20 y=true->SeqAt.EqAt X.A.in1 s u v (eqD y a):=fun {y w u} r q h=>Rp.eqAt I h ha (by decide) hu' r rx q qx
 let e:Value->Bool:=fun u=>decide (∃ (y:Dat) (w:V),Rp X.K H y w/\Vf w u/\pd 20 y=true/\eqD y a=true)
 have he:∀ {y:Dat} {w:V} {u:Value},Rp X.K H y w->Vf w u->pd 20 y=true->e u=eqD y a:=fun {y w u} r q h=>by
  cases z:eqD y a with
  | true=>exact decide_eq_true ⟨y,w,r,q,h,z⟩
  | false =>
   refine decide_eq_false ?_;rintro ⟨y',w',r',q',h',z'⟩;have:=q.inj q';subst this;obtain ⟨as,a1,a2⟩:=Rp.reads I y w u h r q;obtain ⟨bs,b1,b2⟩:=Rp.reads I y' w u h' r' q;have eqP:=SeqAt.Reads.unique _ _ _ _ _ a2 a1 b1;rw [← Sd y a h ha,eqP,Sd y' a h' ha,z'] at z;cases z
 refine ⟨e,fun {ys}=>?_⟩;induction ys with
 | nil=>intro vs us r q _;rw [Yl r] at q;cases q;exact ⟨fun u hu=>(by cases hu),rfl⟩
 | cons y ys ih =>
  intro vs us r q hp;obtain ⟨w,vs',e1,r1,r2⟩:=Zy r;subst e1;cases q with
  | cons q1 q2 =>
   rename_i u us;obtain ⟨h1,h2⟩:=ih r2 q2 fun z hz=>hp z (mem_cons_of_mem _ hz)
   have hy:=hp y mem_cons_self;refine ⟨fun u' hu'=>?_,?_⟩
   ·rcases mem_cons.mp hu' with z | z
    ·subst z;rw [he r1 q1 hy];exact key r1 q1 hy
    ·exact h1 u' z
   ·rw [any_cons,any_cons,h2,he r1 q1 hy]
theorem Zbw (hu:X.A.units+64<cLine):OpD X (compareOp .In) inF:=fun pins s σ H x y v u Q I rx ry zz=>by
 obtain ⟨A,a,b,d,mu,e,p1,p2,q⟩:=zz;unfold inF at e;unfold inB at e;split at e
 ·rename_i ys
  split at e
  ·rename_i hp
   rw [Bool.and_eq_true,all_eq_true] at hp;cases e;obtain ⟨l,vs,e1,h1,r1⟩:=p2.lst;subst e1;cases ry;obtain ⟨its,w1,pl,_⟩:=I.list h1.sq;obtain ⟨f,hf⟩:=Mm I hu hp.1 p1.rp rx;obtain ⟨k1,k2⟩:=hf (r1.mono Yv) w1 hp.2;refine SeqAt.in_listAt f pl.isList (fun w hw=>k1 w (by simpa using hw)) ⟨.bl _,H,I,rfl,?_⟩;rw [show its.toArray.any f=its.any f by simp,k2];exact q.here Tp
  ·cases e
 ·rename_i ys
  split at e
  ·rename_i hp
   rw [Bool.and_eq_true,all_eq_true] at hp;cases e;obtain ⟨l,vs,e1,h1,r1⟩:=p2.tup;subst e1;cases ry;obtain ⟨its,w1,pl,_⟩:=I.tuple h1;obtain ⟨f,hf⟩:=Mm I hu hp.1 p1.rp rx;obtain ⟨k1,k2⟩:=hf (r1.mono Yv) w1 hp.2;refine SeqAt.in_tupleAt f pl (fun w hw=>k1 w (by simpa using hw)) ⟨.bl _,H,I,rfl,?_⟩;rw [show its.toArray.any f=its.any f by simp,k2];exact q.here Tp
  ·cases e
 ·rename_i i j
  cases e;obtain ⟨e1,k1⟩:=p1.str;obtain ⟨e2,k2⟩:=p2.str;exact Bx pins s σ H x y v u Q I rx ry ⟨i,j,e1,e2,q.here Tp⟩
 ·cases e
theorem Z7e (hu:X.A.units+64<cLine):OpD X (compareOp .NotIn) Z5o:=fun pins s σ H x y v u Q I rx ry zz=>by
 obtain ⟨A,a,b,d,mu,e,p1,p2,q⟩:=zz;unfold Z5o at e;unfold inB at e;split at e
 ·rename_i ys
  split at e
  ·rename_i hp
   rw [Bool.and_eq_true,all_eq_true] at hp;cases e;obtain ⟨l,vs,e1,h1,r1⟩:=p2.lst;subst e1;cases ry;obtain ⟨its,w1,pl,_⟩:=I.list h1.sq;obtain ⟨f,hf⟩:=Mm I hu hp.1 p1.rp rx;obtain ⟨k1,k2⟩:=hf (r1.mono Yv) w1 hp.2;refine SeqAt.notIn_listAt f pl.isList (fun w hw=>k1 w (by simpa using hw)) ⟨.bl _,H,I,rfl,?_⟩;rw [show its.toArray.any f=its.any f by simp,k2];exact q.here Tp
  ·cases e
 ·rename_i ys
  split at e
  ·rename_i hp
   rw [Bool.and_eq_true,all_eq_true] at hp;cases e;obtain ⟨l,vs,e1,h1,r1⟩:=p2.tup;subst e1;cases ry;obtain ⟨its,w1,pl,_⟩:=I.tuple h1;obtain ⟨f,hf⟩:=Mm I hu hp.1 p1.rp rx;obtain ⟨k1,k2⟩:=hf (r1.mono Yv) w1 hp.2;refine SeqAt.notIn_tupleAt f pl (fun w hw=>k1 w (by simpa using hw)) ⟨.bl _,H,I,rfl,?_⟩;rw [show its.toArray.any f=its.any f by simp,k2];exact q.here Tp
  ·cases e
 ·rename_i i j
  cases e;obtain ⟨e1,k1⟩:=p1.str;obtain ⟨e2,k2⟩:=p2.str;exact Kl pins s σ H x y v u Q I rx ry ⟨i,j,e1,e2,q.here Tp⟩
 ·cases e
def ixD:Dat->Dat->Option Dat
 | .lst xs,.int i=>atI xs i
 | .tup xs,.int i=>atI xs i
 | .str z,.int i=>(atI (cl z) i).map fun c=>.str ⟨#[c]⟩
 | _,_=>none
theorem Z0m {K:PySem.W.Frag} {H:Hp} {ds:List Dat} {vs:List V} {i:Int} {d:Dat} (r:Rps K H ds vs) (h:atI ds i=some d):∃ v,atI vs i=some v/\Rp K H d v:=by
 unfold atI at h ⊢;rw [Y5 r];obtain ⟨j,e1,e2⟩:=bind_some h;obtain ⟨v,h1,h2⟩:=Sm r e2;exact ⟨v,by rw [e1];exact h1,h2⟩
theorem Z4x {α:Type} {xs:List α} {i:Int} {x:α} (h:atI xs i=some x):x∈xs:=by
 unfold atI at h;obtain ⟨j,e1,e2⟩:=bind_some h;exact mem_of_getElem? e2
theorem Z62 {z:Str} {c:Nat} (h:SOk z) (hc:c∈cl z):SOk ⟨#[c]⟩:=SOk.of (Kb fun c' hc'=>by
 have:c'=c:=by simpa [cl] using hc'
 rw [this];exact Dk h.ok c hc) (by rw [← Lh];simp [cl];decide)
theorem IxR.weak {r r':R2} (h:IxR X r) (w:∀ x y H Q,r' x y H Q->r x y H Q):IxR X r':=fun value slice pins s σ H x y v u Q I rx ry q hs=>h value slice pins s σ H x y v u Q I rx ry (w _ _ _ _ q) hs
theorem Yh:IxR X (rD X.K ixD):=Z7x.weak fun v u H Q zz=>by
 obtain ⟨A,x,y,d,mu,e,p1,p2,q⟩:=zz;unfold ixD at e;split at e
 ·rename_i xs i
  obtain ⟨l,vs,e1,h1,r1⟩:=p1.lst;obtain ⟨w,h2,r2⟩:=Z0m r1 e;exact .inl ⟨l,vs,i,w,e1,p2.int,h1.sq,h2,q.here r2⟩
 ·rename_i xs i
  obtain ⟨l,vs,e1,h1,r1⟩:=p1.tup;obtain ⟨w,h2,r2⟩:=Z0m r1 e;exact .inr (.inl ⟨l,vs,i,w,e1,p2.int,h1,h2,q.here r2⟩)
 ·rename_i z i
  obtain ⟨e1,k1⟩:=p1.str;cases hc:atI (cl z) i with
  | none=>rw [hc] at e;cases e
  | some c =>
   rw [hc] at e;cases e;exact .inr (.inr ⟨z,i,c,e1,p2.int,k1.le,hc,q.here (Gw (Z62 k1 (Z4x hc)))⟩)
 ·cases e
theorem As {K:PySem.W.Frag} {H:Hp} {ds:List Dat} {vs:List V} (lo hi:Option Int) (r:Rps K H ds vs):Rps K H (Eh ds lo hi) (Z3c vs lo hi):=by
 unfold Eh Z3c;rw [Y5 r];exact Hv _ (K3 _ r)
theorem Z2b {α:Type} {xs:List α} {lo hi:Option Int} {x:α} (h:x∈Eh xs lo hi):x∈xs:=List.mem_of_mem_drop (List.mem_of_mem_take h)
theorem Pc {α:Type} {xs:List α} {lo hi:Option Int} {n:Nat} (h:xs.length<=n):(Eh xs lo hi).length<=n:=by unfold Eh;rw [length_take,length_drop];lia
theorem SlR.weak {r r':V->Option Int->Option Int->Hp->VK->Prop} (h:SlR X r) (w:∀ x lo hi H Q,r' x lo hi H Q->r x lo hi H Q):SlR X r':=fun pins s σ H x v vl vu lo hi sl Q I rx hs pl pu q=>h pins s σ H x v vl vu lo hi sl Q I rx hs pl pu (w _ _ _ _ _ q)
def slD:Dat->Option Int->Option Int->Option Dat
 | .lst xs,lo,hi=>some (.lst (Eh xs lo hi))
 | .str z,lo,hi=>some (.str (Txt.slice z lo hi))
 | .tup xs,lo,hi=>if HT.sIx xs.length 0 lo=0/\HT.sIx xs.length xs.length hi=xs.length then none else some (.tup (Eh xs lo hi))
 | _,_,_=>none
theorem Ba {z:Str} {lo hi:Option Int} (h:SOk z):SOk (Txt.slice z lo hi):=SOk.of (Kb fun c hc=>by
 rw [Z2z] at hc;exact Dk h.ok c (Z2b hc)) (le_trans (Txt.slice_le z _ _) h.le)
theorem Zde:SlD X slD:=Zdd.weak fun v lo hi H Q zz=>by
 obtain ⟨A,x,d,mu,e,p1,q⟩:=zz;unfold slD at e;split at e
 ·rename_i xs
  cases e;obtain ⟨l,vs,e1,h1,r1⟩:=p1.lst;exact .inl ⟨l,vs,e1,h1.sq,(q.new mu).at (Pc p1.lenL) (As lo hi r1)⟩
 ·rename_i z
  cases e;obtain ⟨e1,k1⟩:=p1.str;exact .inr (.inr ⟨z,e1,k1.le,q.here (Gw (Ba k1))⟩)
 ·rename_i xs
  split at e
  ·cases e
  ·rename_i hn
   cases e;obtain ⟨l,vs,e1,h1,r1⟩:=p1.tup;exact .inr (.inl ⟨l,vs,e1,h1,by rw [Y5 r1];exact hn,q.tup mu (Pc p1.lenT) (As lo hi r1)⟩)
 ·cases e
end
section
variable {X:Cx} {m:Bool}
def Rq:List Dat->Option Dat
 | [.lst xs]=>some (.int xs.length)
 | [.tup xs]=>some (.int xs.length)
 | [.str z]=>some (.int z.length)
 | _=>none
theorem Jg:Lg X (.builtin "len") Rq:=B7.weak fun vs H Q zz=>by
 obtain ⟨A,ds,d,mu,e,p,q⟩:=zz;unfold Rq at e;split at e
 ·obtain ⟨v,e1,p1⟩:=p.one
  obtain ⟨l,us,e2,h1,r1⟩:=p1.lst;cases e;exact .inl ⟨l,us,by rw [e1,e2],.inl h1.sq,fun _=>by rw [Y5 r1];exact q.here Wb⟩
 ·obtain ⟨v,e1,p1⟩:=p.one
  obtain ⟨l,us,e2,h1,r1⟩:=p1.tup;cases e;exact .inl ⟨l,us,by rw [e1,e2],.inr h1,fun _=>by rw [Y5 r1];exact q.here Wb⟩
 ·obtain ⟨v,e1,p1⟩:=p.one
  obtain ⟨e2,h1⟩:=p1.str;cases e;exact .inr ⟨_,by rw [e1,e2],h1.le,q.here Wb⟩
 ·cases e
def Z4h:List Dat->Option (List Dat)
 | [.lst xs]=>some xs
 | [.tup xs]=>some xs
 | _=>none
theorem Z96:Z1k X (.type "list") Z4h:=D4.weak fun vs H Q zz=>by
 obtain ⟨A,ds,d,mu,e,p,q⟩:=zz;unfold Z4h at e;split at e
 ·obtain ⟨v,e1,p1⟩:=p.one
  obtain ⟨l,us,e2,h1,r1⟩:=p1.lst;cases e;exact ⟨l,us,by rw [e1,e2],.inl h1.sq,q.at p1.lenL r1⟩
 ·obtain ⟨v,e1,p1⟩:=p.one
  obtain ⟨l,us,e2,h1,r1⟩:=p1.tup;cases e;exact ⟨l,us,by rw [e1,e2],.inr h1,q.at p1.lenT r1⟩
 ·cases e
def tupleD:List Dat->Option Dat
 | [.lst xs]=>some (.tup xs)
 | [.tup xs]=>some (.tup xs)
 | _=>none
theorem Tt:Lg X (.type "tuple") tupleD:=Ig.weak fun vs H Q zz=>by
 obtain ⟨A,ds,d,mu,e,p,q⟩:=zz;unfold tupleD at e;split at e
 ·obtain ⟨v,e1,p1⟩:=p.one
  obtain ⟨l,us,e2,h1,r1⟩:=p1.lst;cases e;exact ⟨l,us,by rw [e1,e2],.inl ⟨h1.sq,q.tup mu p1.lenL r1⟩⟩
 ·obtain ⟨v,e1,p1⟩:=p.one
  rcases p1 with p1 | ⟨_,_,_,z,_⟩
  ·obtain ⟨l,us,e2,h1,r1⟩:=Rj p1
   cases e;exact ⟨l,us,by rw [e1,e2],.inr ⟨Yv.seqT h1,by rw [← e2];exact q.here p1⟩⟩
  ·cases z
 ·cases e
def Ru:List Dat->Option (List Int)
 | []=>some []
 | .int i::r=>(Ru r).map (i::·)
 | _=>none
def Z51:List Dat->Option (List Bool)
 | []=>some []
 | .bl i::r=>(Z51 r).map (i::·)
 | _=>none
theorem Ee (ns:List Int):Ru (ns.map .int)=some ns:=by
 induction ns with
 | nil=>rfl
 | cons n ns ih=>rw [map_cons,Ru,ih];rfl
theorem Z25 (ns:List Bool):Z51 (ns.map .bl)=some ns:=by
 induction ns with
 | nil=>rfl
 | cons n ns ih=>rw [map_cons,Z51,ih];rfl
theorem Mo:∀ {ds:List Dat} {ns:List Int},Ru ds=some ns->ds=ns.map .int
 | [],_,h=>by cases h;rfl
 | d::ds,ns,h=>by
  cases d<;>try cases h
  rename_i i;rw [Ru] at h;cases e:Ru ds with
  | none=>rw [e] at h;cases h
  | some r=>rw [e] at h;cases h;rw [Mo e];rfl
theorem Bq:∀ {ds:List Dat} {ns:List Bool},Z51 ds=some ns->ds=ns.map .bl
 | [],_,h=>by cases h;rfl
 | d::ds,ns,h=>by
  cases d<;>try cases h
  rename_i i;rw [Z51] at h;cases e:Z51 ds with
  | none=>rw [e] at h;cases h
  | some r=>rw [e] at h;cases h;rw [Bq e];rfl
theorem Vk {K:PySem.W.Frag} {H:Hp}:∀ {ns:List Int} {vs:List V},Rps K H (ns.map .int) vs->vs=ns.map .int
 | [],vs,h=>Yl h
 | n::ns,vs,h=>by obtain ⟨v,r,e,h1,h2⟩:=Zy h;rw [e,D8 h1,Vk h2];rfl
theorem Hf {K:PySem.W.Frag} {H:Hp}:∀ {ns:List Bool} {vs:List V},Rps K H (ns.map .bl) vs->vs=ns.map .bl
 | [],vs,h=>Yl h
 | n::ns,vs,h=>by obtain ⟨v,r,e,h1,h2⟩:=Zy h;rw [e,Lo h1,Hf h2];rfl
def K7 (ns:List Int):List Int:=ns.mergeSort (fun a b=>decide (a<=b))
theorem Th (ns:List Int):(K7 ns).Perm ns:=List.mergeSort_perm ns _
theorem D2 (ns:List Int):(K7 ns).Pairwise (·<=·):=by
 have:=List.pairwise_mergeSort (le:=fun a b:Int=>decide (a<=b)) (by intro a b c h1 h2;simp only [decide_eq_true_eq] at *;lia) (by intro a b;simp only [Bool.or_eq_true,decide_eq_true_eq];lia) ns;exact this.imp fun h=>of_decide_eq_true h
theorem Jc:∀ {xs ys:List Int},xs.Perm ys->xs.Pairwise (·<=·)->ys.Pairwise (·<=·)->xs=ys
 | [],ys,p,_,_=>by rw [List.nil_perm.mp p]
 | x::xs,[],p,_,_=>by have:=p.length_eq;simp at this
 | x::xs,y::ys,p,h1,h2=>by
  have hx:=List.pairwise_cons.mp h1;have hy:=List.pairwise_cons.mp h2;have e:x=y:=by
   have m1:x∈y::ys:=p.mem_iff.mp mem_cons_self;have m2:y∈x::xs:=p.mem_iff.mpr mem_cons_self;rcases mem_cons.mp m1 with z | z
   ·exact z
   ·rcases mem_cons.mp m2 with w | w
    ·exact w.symm
    ·have a1:=hx.1 y w
     have a2:=hy.1 x z;lia
  subst e;rw [Jc (List.Perm.cons_inv p) hx.2 hy.2]
def Z0r:List Dat->Option (List Dat)
 | [.lst xs]=>(Ru xs).bind fun ns=>if ns.length<64 then some ((K7 ns).map .int) else none
 | _=>none
def Z6h:List Dat->Option Dat
 | [.lst xs]=>(Z51 xs).map fun bs=>.bl (bs.any id)
 | _=>none
theorem map_some {α β:Type} {a:Option α} {g:α->β} {b:β} (h:a.map g=some b):∃ x,a=some x/\g x=b:=by
 cases a with
 | none=>cases h
 | some x=>cases h;exact ⟨x,rfl,rfl⟩
theorem Z9j (hc:X.calm=true):Lg X (.builtin "any") Z6h:=(Z0i hc).weak fun vs H Q zz=>by
 obtain ⟨A,ds,d,mu,e,p,q⟩:=zz;unfold Z6h at e;split at e
 ·obtain ⟨v,e1,p1⟩:=p.one
  obtain ⟨l,us,e2,h1,r1⟩:=p1.lst;obtain ⟨bs,hb,e⟩:=map_some e;subst e;rw [Bq hb] at r1;have eu:=Hf r1;subst eu;exact ⟨l,bs,by rw [e1,e2],h1.sq,q.here Tp⟩
 ·cases e
def Z6k:List Dat->Option Dat
 | [.int i,.int j]=>some (.int (if j > i then j else i))
 | _=>none
def Z6l:List Dat->Option Dat
 | [.int i,.int j]=>some (.int (if j<i then j else i))
 | _=>none
theorem Z9x (hc:X.calm=true):Lg X (.builtin "max") Z6k:=(Z0d hc).weak fun vs H Q zz=>by
 obtain ⟨A,ds,d,mu,e,p,q⟩:=zz;unfold Z6k at e;split at e
 ·obtain ⟨v,w,e1,p1,p2⟩:=p.two
  cases e;exact ⟨_,_,by rw [e1,p1.int,p2.int],q.here Wb⟩
 ·cases e
theorem Z8a (hc:X.calm=true):Lg X (.builtin "min") Z6l:=(Cq hc).weak fun vs H Q zz=>by
 obtain ⟨A,ds,d,mu,e,p,q⟩:=zz;unfold Z6l at e;split at e
 ·obtain ⟨v,w,e1,p1,p2⟩:=p.two
  cases e;exact ⟨_,_,by rw [e1,p1.int,p2.int],q.here Wb⟩
 ·cases e
def tyN:Dat->Option String
 | .non=>some "NoneType" | .bl _=>some "bool" | .int _=>some "int" | .str _=>some "str" | .tup _=>some "tuple" | .lst _=>some "list" | _=>none
def Zaf (T:String) (d:Dat):Option Bool:=(tyN d).bind fun t=>Z67 t T
def dI (T:String) (f:Ev->Option Dat):Ev->Option Dat:=fun env=>(f env).bind fun d=>(Zaf T d).map .bl
theorem Z7s {pins:List (Addr×Obj)} {σ:St} {H:Hp} {s:Shared} {A:Around} {E:Value->Shared->Prop} {Q:Value->Shared->Prop} {d:Dat} {v:V} {u:Value} {T t:String} {b:Bool} (I:Inv X pins σ H s) (r:Rp X.K H d v) (ru:Vf v u) (ht:tyN d=some t) (e:PySem.W.kitOne X.K (.type t) (.type T)=some b) (h:∀ tk,Q (.bool b) { s with toks:=tk }) :
  wpAny (model X.prog X.w) A (call (.builtin "isinstance") [u,.type T]) Q E s:=by
 cases d with
 | non=>cases ht;rw [Lv r] at ru;exact Rh I ru .non e h
 | bl y=>cases ht;rw [Lo r] at ru;exact Rh I ru (.bl y) e h
 | int y=>cases ht;rw [D8 r] at ru;exact Rh I ru (.int y) e h
 | str y=>cases ht;rw [(L4 r).1] at ru;exact Rh I ru (.str y) e h
 | tup ds =>
  cases ht;obtain ⟨a,vs,e1,h1,_⟩:=Rj r;subst e1;cases ru;obtain ⟨its,_,⟨o,ho,hc,_⟩,_⟩:=I.tuple h1;exact PySem.W.kia_one kitx_tuple I.kIn ⟨o,ho,hc⟩ e (fun z=>nomatch z) h
 | lst ds =>
  cases ht;obtain ⟨a,vs,e1,h1,_⟩:=R0 r;subst e1;cases ru;obtain ⟨its,n,_,ho,_⟩:=h1.get I;exact PySem.W.kia_one kitx_list I.kIn ⟨_,ho,rfl⟩ e (fun z=>nomatch z) h
 | dct _=>cases ht
 | exc _ _=>cases ht
theorem Z6g {e:Expr} {f:Ev->Option Dat} {T:String} {tx:Str} {p p2 pos:Pos} (he:PXd true X e f) (hg:Gl X "isinstance") (hm:X.mg "isinstance" = none) (hv:bootBuiltins "isinstance" = some (.builtin "isinstance")) (hgT:Gl X tx) (hmT:X.mg tx=none) (hvT:bootBuiltins tx=some (.type T)) (hnT:tx≠"__name__" := by decide) (hdT:(tx==("__debug__" : Str))=false:=by decide)
  (hs:starEach [e,.Name tx p2] X.env=(false,eval e X.env)::starEach [.Name tx p2] X.env:=by rfl):PXd m X (.Call (.Name "isinstance" p) [e,.Name tx p2] [] pos) (dI T f):=by
 have hc:Uq X (.builtin "isinstance") (fun vs H Q=>∃ v A d b,vs=[v,.ty T]/\Ra A H/\Zaf T d=some b/\Pk X.K A H d v/\Se false X.K A H (.bl b) Q):=by
  intro pins s σ H xs us Q I r ⟨v,A,d,b,e1,mu,e2,p1,q⟩;subst e1;obtain ⟨u,w',rfl,ru,rw'⟩:=Xp r;cases rw';obtain ⟨t,ht,hk⟩:=bind_some e2;exact Z7s I p1.rp ru ht (Z8d hk) fun tk=>⟨.bl b,H,I.tok _,rfl,q.here Tp⟩
 refine PXd.any ((Rl hc hg hm hv (Ve he (Ve (Z3w hgT hmT hvT hnT hdT) Jn) hs) (he:=hs)).weak fun σ H Q ⟨env,R,A,d,k,q1,q2⟩=>?_);obtain ⟨x,e1,h⟩:=bind_some q1;obtain ⟨b,e2,h⟩:=map_some h;subst h;exact ⟨env,R,A,x,k,e1,fun v H1 s1 p1=>⟨v,A,x,b,rfl,k.mu.mono s1,e2,p1,q2.mono s1⟩⟩
end
def Adv (st:Bool) (A:AS) (H:Hp) (A1:AS) (H1:Hp):Prop:=match st with
 | true=>Step A H A1 H1
 | false=>A1=A/\Yj H H1
theorem Adv.step {st:Bool} {A A1:AS} {H H1:Hp} (h:Adv st A H A1 H1):Step A H A1 H1:=by
 cases st with
 | true=>exact h
 | false=>obtain ⟨rfl,h⟩:=h;exact Step.same h
def Z41 (st:Bool) (K:PySem.W.Frag) (A:AS) (H:Hp) (ds:List Dat) (J:It):Prop:=∀ A1 H1,Adv st A H A1 H1->Ra A1 H1 ->
 (∀ (i:Nat) x,ds[i]?=some x->J.go i H1/\∀ v H2,J.yld i H1 v H2->Yj H1 H2/\Rp K (av H2 A1) x v)/\J.stop ds.length H1
def PId (st:Bool) (X:Cx) (tg iter:Expr) (src:Ev->Option (List Dat)):Prop:=PI X tg iter fun σ H R'=>∃ env R A ds,EnvOk X.K R A H σ env/\src env=some ds /\
 ∀ J H',ds.length<=sizeLine->Yj H H'->Z41 st X.K A H' ds J->R' J H'
theorem PI.weak {X:Cx} {tg iter:Expr} {t t':TI} (h:PI X tg iter t) (w:∀ σ H Q,t' σ H Q->t σ H Q):PI X tg iter t':=fun pins s σ H Q I q=>h pins s σ H Q I (w σ H Q q)
section
variable {st m:Bool} {X:Cx} {tg l:Expr} {f:Ev->Option Dat} {fs:Ev->Option (List Dat)}
def Rv (f:Ev->Option Dat):Ev->Option (List Dat):=fun env=>match f env with
 | some (.lst xs)=>some xs
 | some (.tup xs)=>some xs
 | _=>none
theorem Be {K:PySem.W.Frag} {A:AS} {H:Hp} {a:Addr} {vs:List V} {ds:List Dat} (h:∀ A1 H1,Adv st A H A1 H1->SqL K H1 a vs) (r:Rps K (av H A) ds vs):Z41 st K A H ds (Itl K a):=fun A1 H1 adv _=>by
 have h1:=h A1 H1 adv;have r1:=r.mono adv.step.av;refine ⟨fun i x e=>?_,⟨vs,h1,le_of_eq (Y5 r)⟩⟩;obtain ⟨v,e1,e2⟩:=Sm r1 e;refine ⟨⟨vs,v,h1,e1⟩,fun v' H2 ⟨e3,e4⟩=>?_⟩;subst e3;have:=e4 vs h1;rw [e1] at this;cases this;exact ⟨Yj.refl _,e2⟩
theorem Z3r {K:PySem.W.Frag} {A:AS} {H:Hp} {a:Addr} {vs:List V} {ds:List Dat} (h:∀ A1 H1,Adv st A H A1 H1->SqT K H1 a vs) (r:Rps K (av H A) ds vs):Z41 st K A H ds (Itt K a):=fun A1 H1 adv _=>by
 have h1:=h A1 H1 adv;have r1:=r.mono adv.step.av;refine ⟨fun i x e=>?_,⟨vs,h1,le_of_eq (Y5 r)⟩⟩;obtain ⟨v,e1,e2⟩:=Sm r1 e;refine ⟨⟨vs,v,h1,e1⟩,fun v' H2 ⟨e3,e4⟩=>?_⟩;subst e3;have:=e4 vs h1;rw [e1] at this;cases this;exact ⟨Yj.refl _,e2⟩
theorem O0 (h:PXd false X l f):PId st X tg l (Rv f):=(Z3o h).weak fun σ H R' zz=>by
 obtain ⟨env,R,A,ds,k,e,q⟩:=zz;unfold Rv at e;split at e
 ·rename_i xs e1
  cases e;refine .inl ⟨env,R,A,.lst ds,k,e1,fun v H1 s1 p1=>?_⟩;obtain ⟨a,vs,e2,h1,r1⟩:=R0 (show Rp X.K (av H1 A) (.lst ds) v from p1);subst e2;exact ⟨a,rfl,⟨vs,(Yv.sl h1).sq⟩,q _ H1 p1.pk.lenL s1 (Be (vs:=vs) (fun A1 H2 adv=>(Yv.sl (adv.step.av.sl h1)).sq) r1)⟩
 ·rename_i xs e1
  cases e;refine .inr ⟨env,R,A,.tup ds,k,e1,fun v H1 s1 p1=>?_⟩;obtain ⟨a,vs,e2,h1,r1⟩:=Rj (show Rp X.K (av H1 A) (.tup ds) v from p1);subst e2;exact ⟨a,rfl,⟨vs,Yv.seqT h1⟩,q _ H1 p1.pk.lenT s1 (Z3r (vs:=vs) (fun A1 H2 adv=>Yv.seqT (adv.step.av.seqT h1)) r1)⟩
 ·cases e
theorem Mz (h:PXd true X l f):PId false X tg l (Rv f):=(Z3o h).weak fun σ H R' zz=>by
 obtain ⟨env,R,A,ds,k,e,q⟩:=zz;unfold Rv at e;split at e
 ·rename_i xs e1
  cases e;refine .inl ⟨env,R,A,.lst ds,k,e1,fun v H1 s1 p1=>?_⟩;obtain ⟨a,vs,e2,h1,r1⟩:=p1.pk.lst;subst e2;exact ⟨a,rfl,⟨vs,h1.sq⟩,q _ H1 p1.pk.lenL s1 (Be (vs:=vs) (fun A1 H2 adv=>(adv.2.sl h1).sq) r1)⟩
 ·rename_i xs e1
  cases e;refine .inr ⟨env,R,A,.tup ds,k,e1,fun v H1 s1 p1=>?_⟩;obtain ⟨a,vs,e2,h1,r1⟩:=p1.pk.tup;subst e2;exact ⟨a,rfl,⟨vs,h1⟩,q _ H1 p1.pk.lenT s1 (Z3r (vs:=vs) (fun A1 H2 adv=>adv.2.seqT h1) r1)⟩
 ·cases e
def rng (lo:Int) (n:Nat):List Dat:=(List.range n).map fun (k:Nat)=>.int (lo+k)
theorem Tj {lo:Int} {n:Nat}:(rng lo n).length=n:=by simp [rng]
theorem Z3f {K:PySem.W.Frag} {A:AS} {H:Hp} {lo:Int} {n:Nat}:Z41 st K A H (rng lo n) (Itr lo n):=fun A1 H1 adv _=>by
 refine ⟨fun i x e=>?_,by show n<=(rng lo n).length;simp [rng]⟩;unfold rng at e;rw [getElem?_map] at e;by_cases hi:i<n
 ·rw [getElem?_range hi] at e
  cases e;exact ⟨hi,fun v H2 ⟨e1,e2⟩=>by subst e1 e2;exact ⟨Yj.refl _,Wb⟩⟩
 ·rw [List.getElem?_eq_none (by simpa using hi)] at e
  cases e
def Tz (fs:Ev->Option (List Dat)):Ev->Option (List Dat):=fun env=>match fs env with
 | some [.int j]=>if -(2^62)<=j/\j<2^62/\j.toNat<=sizeLine then some (rng 0 j.toNat) else none
 | _=>none
def Cm (fs:Ev->Option (List Dat)):Ev->Option (List Dat):=fun env=>match fs env with
 | some [.int i,.int j]=>if (-(2^62)<=i/\i<2^62/\-(2^62)<=j/\j<2^62)/\(j - i).toNat<=sizeLine then some (rng i (j - i).toNat) else none
 | _=>none
theorem Ys {a:Expr} {p pos:Pos} (hg:Gl X "range") (hm:X.mg "range" = none) (ha:PAd true X [a] fs) (hs:starEach [a] X.env=[(false,eval a X.env)]:=by rfl):PId st X tg (.Call (.Name "range" p) [a] [] pos) (Tz fs):=(Z01 hg hm ha hs).weak fun σ H R' zz=>by
 obtain ⟨env,R,A,ds,k,e,q⟩:=zz;unfold Tz at e;split at e
 ·rename_i j e1
  split at e
  ·rename_i hj
   cases e;refine ⟨env,R,A,_,k,e1,fun vs H1 s1 p1=>?_⟩;obtain ⟨v,e2,p2⟩:=p1.one;exact ⟨j,by rw [e2,p2.int],hj.1,hj.2.1,q _ H1 (by rw [Tj];exact hj.2.2) s1 Z3f⟩
  ·cases e
 ·cases e
theorem Z2g {a b:Expr} {p pos:Pos} (hg:Gl X "range") (hm:X.mg "range" = none) (ha:PAd true X [a,b] fs) (hs:starEach [a,b] X.env=[(false,eval a X.env),(false,eval b X.env)]:=by rfl) (hs2:starEach [b] X.env=[(false,eval b X.env)]:=by rfl):PId st X tg (.Call (.Name "range" p) [a,b] [] pos) (Cm fs):=(Z0t hg hm ha hs hs2).weak fun σ H R' zz=>by
 obtain ⟨env,R,A,ds,k,e,q⟩:=zz;unfold Cm at e;split at e
 ·rename_i i j e1
  split at e
  ·rename_i hj
   cases e;refine ⟨env,R,A,_,k,e1,fun vs H1 s1 p1=>?_⟩;obtain ⟨v,w,e2,p2,p3⟩:=p1.two;exact ⟨i,j,by rw [e2,p2.int,p3.int],hj.1,q _ H1 (by rw [Tj];exact hj.2) s1 Z3f⟩
  ·cases e
 ·cases e
end
def Le (is:List Nat) (σ σ':St):Prop:=σ'.length=σ.length/\∀ j,j∉is->σ'[j]?=σ[j]?
def PGd (is:List Nat) (X:Cx) (tg:Expr) (g:Dat->Ev->Option Ev):Prop:=PG X tg fun v σ H Q=>∃ env R A d env',EnvOk X.K R A H σ env/\Rp X.K (av H A) d v/\g d env=some env'/\∀ σ',EnvOk X.K R A H σ' env'->Le is σ σ'->Q σ' H
def Zam (is:List Nat) (X:Cx) (tgs:List Expr) (g:List Dat->Ev->Option Ev):Prop:=PGs X tgs fun vs σ H Q=>∃ env R A ds env',EnvOk X.K R A H σ env/\Rps X.K (av H A) ds vs/\g ds env=some env'/\∀ σ',EnvOk X.K R A H σ' env'->Le is σ σ'->Q σ' H
theorem EnvOk.put {K:PySem.W.Frag} {B:Bs} {A:AS} {H:Hp} {σ:St} {env:Ev} (k:EnvOk K B A H σ env) (i:Nat) {d:Dat} {v:V} (r:Rp K (av H A) d v):EnvOk K B A H (σ.set i (some v)) (env.set i (.fz d)):=by
 obtain ⟨own,h1,h2,h4⟩:=k.sl;refine ⟨k.h0,k.r0,k.ra,k.ar,k.mu,by rw [length_set,length_set];exact k.len,fun hs j d'=>?_,fun j a=>j≠i/\own j a,fun j j' a q q'=>h1 j j' a q.2 q'.2,fun j a q=>h2 j a q.2,fun j s e=>?_⟩
 ·rw [getElem?_set]
  split
  ·split
   ·intro z;cases z
   ·intro z;cases z
  ·exact k.np hs j d'
 by_cases hj:i=j
 ·subst hj
  rw [getElem?_set] at e;rw [if_pos rfl] at e;split at e
  ·rename_i hl
   cases e;refine ⟨some v,?_,v,rfl,r⟩;rw [getElem?_set,if_pos rfl,if_pos (by rw [k.len];exact hl)]
  ·cases e
 ·rw [getElem?_set,if_neg hj] at e
  obtain ⟨x,q1,q2⟩:=h4 j s e;refine ⟨x,by rw [getElem?_set,if_neg hj];exact q1,?_⟩;cases s with
  | un=>trivial
  | fz d=>exact q2
  | pk d=>exact q2
  | ow ds=>obtain ⟨a,vs,e1,e2,e3⟩:=q2;exact ⟨a,vs,e1,⟨Ne.symm hj,e2⟩,e3⟩
  | gx g=>obtain ⟨v,e1,e2⟩:=q2;exact ⟨v,e1,e2.frame (fun _ z=>⟨Ne.symm hj,z⟩) (fun _ _ _ z=>z) (Yj.refl _)⟩
theorem PG.weak {X:Cx} {e:Expr} {t t':TG} (h:PG X e t) (w:∀ v σ H Q,t' v σ H Q->t v σ H Q):PG X e t':=fun pins s σ H v u Q I r q=>h pins s σ H v u Q I r (w _ _ _ _ q)
theorem PGs.weak {X:Cx} {e:List Expr} {t t':TGs} (h:PGs X e t) (w:∀ v σ H Q,t' v σ H Q->t v σ H Q):PGs X e t':=fun pins s σ H v u Q I r q=>h pins s σ H v u Q I r (w _ _ _ _ q)
section
variable {X:Cx} {pos:Pos}
def Yu (i:Nat):Dat->Ev->Option Ev:=fun d env=>some (env.set i (.fz d))
theorem By {σ:St} {i:Nat} {v:Option V}:Le [i] σ (σ.set i v):=⟨by rw [length_set],fun j hj=>by rw [getElem?_set,if_neg (by intro e;exact hj (by simp [e]))]⟩
theorem Zn (i:Nat) {x:Str} (hN:X.N.Nodup) (hi:X.N[i]?=some x) (hx:Loc X.env.scope x) (hf:X.fn x=true\/X.env.scope.names.lookup x=some .local:=by first | exact .inl rfl | exact .inr rfl | assumption):PGd [i] X (.Name x pos) (Yu i):=(Z45 hN hi hx hf).weak fun v σ H Q zz=>by
 obtain ⟨env,R,A,d,env',k,r,e,q⟩:=zz;cases e;exact q _ (k.put i r) By
def Ju:List Dat->Ev->Option Ev:=fun ds env=>match ds with
 | []=>some env
 | _=>none
def Y9 (g:Dat->Ev->Option Ev) (gs:List Dat->Ev->Option Ev):List Dat->Ev->Option Ev:=fun ds env=>match ds with
 | d::ds=>(g d env).bind fun env'=>gs ds env'
 | _=>none
theorem Q8:Zam [] X [] Ju:=Z4k.weak fun vs σ H Q zz=>by
 obtain ⟨env,R,A,ds,env',k,r,e,q⟩:=zz;unfold Ju at e;split at e
 ·cases e
  exact ⟨Yl r,q σ k ⟨rfl,fun _ _=>rfl⟩⟩
 ·cases e
theorem Y3 {e:Expr} {es:List Expr} {is js:List Nat} {g:Dat->Ev->Option Ev} {gs:List Dat->Ev->Option Ev} (h1:PGd is X e g) (h2:Zam js X es gs)
  (hs:(assignEach (e::es) X.env).map (·.2)=assign e X.env::(assignEach es X.env).map (·.2):=by rfl):Zam (is++js) X (e::es) (Y9 g gs):=(Z18 h1 h2 hs).weak fun vs σ H Q zz=>by
 obtain ⟨env,R,A,ds,env',k,r,e,q⟩:=zz;unfold Y9 at e;split at e
 ·rename_i d ds'
  obtain ⟨env1,e1,e2⟩:=bind_some e;obtain ⟨v,us,ev,r1,r2⟩:=Zy r;refine ⟨v,us,ev,env,R,A,d,env1,k,r1,e1,fun σ1 k1 a1=>⟨env1,R,A,ds',env',k1,r2,e2,fun σ2 k2 a2=>q σ2 k2 ⟨by rw [a2.1,a1.1],fun j hj=>?_⟩⟩⟩;rw [mem_append,not_or] at hj;rw [a2.2 j hj.2,a1.2 j hj.1]
 ·cases e
end
def Qq (fs:List (Option Nat)) (env:Ev):Ev:=fs.map fun o=>match o with
 | none=>.un
 | some j=>match env[j]? with
  | some (.fz d)=>.fz d
  | some (.pk d)=>.pk d
  | some (.ow ds)=>.pk (.lst ds)
  | _=>.un
theorem EnvOk.inn {K:PySem.W.Frag} {B:Bs} {A:AS} {H:Hp} {σ:St} {env:Ev} (k:EnvOk K B A H σ env) (fs:List (Option Nat)):EnvOk K ⟨H,A,false⟩ A H (Tv fs σ) (Qq fs env):=by
 obtain ⟨own,h1,h2,h4⟩:=k.sl;refine ⟨Yj.refl H,fun a h=>?_,fun _ h=>h,fun _ h=>.inl h,k.mu,by simp [Tv,Qq],fun z=>(by cases z),fun _ _=>False,fun _ _ _ h=>h.elim,fun _ _ h=>h.elim,fun i s e=>?_⟩
 ·have:=k.mu a h
  cases q:H a with
  | none=>rw [q] at this;exact this.elim
  | some o=>exact ⟨o,q⟩
 ·unfold Qq at e
  rw [getElem?_map] at e;unfold Tv;rw [getElem?_map];cases hf:fs[i]? with
  | none=>rw [hf] at e;cases e
  | some o =>
   rw [hf] at e;cases o with
   | none=>cases e;exact ⟨_,rfl,trivial⟩
   | some j =>
    simp only [Option.map_some,Option.some.injEq] at e ⊢;refine ⟨_,rfl,?_⟩;split at e
    ·rename_i d hd
     obtain ⟨x,q1,q2⟩:=h4 j _ hd;subst e;rw [q1];exact q2
    ·rename_i d hd
     obtain ⟨x,q1,q2⟩:=h4 j _ hd;subst e;rw [q1];exact q2
    ·rename_i ds hd
     obtain ⟨x,q1,a,vs,e1,_,hz,e3,e4⟩:=h4 j _ hd;subst e;rw [q1];exact ⟨.ref a,e1,.inr ⟨a,vs,ds,rfl,rfl,hz,e3,e4⟩⟩
    ·subst e;trivial
def V8 (g:Dat->Ev->Option Ev) (t:Ev->Option Bool) (f:Ev->Option Dat) (env:Ev):List Dat->Option (List Dat)
 | []=>some []
 | x::xs=>(g x env).bind fun env1=>(t env1).bind fun b=>if b=true then (f env1).bind fun y=>(V8 g t f env xs).map (y::·) else V8 g t f env xs
def Tk (src:Ev->Option (List Dat)) (fs:List (Option Nat)) (g:Dat->Ev->Option Ev) (t:Ev->Option Bool) (f:Ev->Option Dat):Ev->Option (List Dat):=fun env=>(src env).bind fun ds=>V8 g t f (Qq fs env) ds
theorem G6 {g:Dat->Ev->Option Ev} {t:Ev->Option Bool} {f:Ev->Option Dat} {env:Ev}:∀ {xs ys:List Dat},V8 g t f env xs=some ys->ys.length<=xs.length
 | [],ys,h=>by cases h;exact le_refl _
 | x::xs,ys,h=>by
  rw [V8] at h;obtain ⟨env1,e1,h⟩:=bind_some h;obtain ⟨b,e2,h⟩:=bind_some h;split at h
  ·obtain ⟨y,e3,h⟩:=bind_some h
   obtain ⟨zs,e4,h⟩:=map_some h;subst h;exact Nat.succ_le_succ (G6 e4)
  ·exact Nat.le_succ_of_le (G6 h)
def PFd (X:Cx) (ifs:List Expr) (t:Ev->Option Bool):Prop:=PIf X ifs fun σ H Q=>∃ env R A b,EnvOk X.K R A H σ env/\t env=some b/\∀ H',Yj H H'->Q b H'
def Ub:Ev->Option Bool:=fun _=>some true
theorem PIf.weak {X:Cx} {e:List Expr} {t t':TT} (h:PIf X e t) (w:∀ σ H Q,t' σ H Q->t σ H Q):PIf X e t':=fun pins s σ H Q I q=>h pins s σ H Q I (w σ H Q q)
theorem S6 {X:Cx}:PFd X [] Ub:=(Z5m (Y:=X)).weak fun σ H Q ⟨env,R,A,b,k,e,q⟩=>by cases e;exact q H (Yj.refl H)
theorem f_one {X:Cx} {c:Expr} {t:Ev->Option Bool} (h:PTd X c t):PFd X [c] t:=Z5j h
section
variable {X:Cx} {sc:Scope}
theorem Cj {J:It} {fs:List (Option Nat)} {is:List Nat} {g:Dat->Ev->Option Ev} {t:Ev->Option Bool} {f:Ev->Option Dat} {σ:St} {H1:Hp} {Q:VK} {K:PySem.W.Frag} {A:AS} {B:Bs} {env:Ev} {ds ys:List Dat}
  (hfs:∀ i∈is,fs[i]?=some none) (k:EnvOk K B A H1 σ env) (hJ:Z41 false K A H1 ds J) (hz:ds.length<=sizeLine) (hc:V8 g t f (Qq fs env) ds=some ys) (q:Z10 K A H1 ys Q) :
  ∃ W:Nat->Nat->List V->Hp->Prop,(∃ m,W 0 m [] H1)/\∀ i m zs H,W i m zs H ->
   (J.stop i H/\zs.length<=sizeLine/\∀ p,H p=none->Q (.ref p) (upd H p (.lst zs))) \/
   (J.go i H/\zs.length<=sizeLine/\∃ N:List V->Hp->Prop,(∀ ys' H',N ys' H'->∃ m',m'<m/\W (i+1) m' ys' H')/\∀ x H',J.yld i H x H'->(∃ env R A d env',EnvOk K R A H' (Tv fs σ) env/\Rp K (av H' A) d x/\g d env=some env'/\∀ σ',EnvOk K R A H' σ' env'->Le is (Tv fs σ) σ' ->
    (Ext (Tv fs σ) σ'/\∃ env R A b,EnvOk K R A H' σ' env/\t env=some b/\∀ H3,Yj H' H3->if b=true then ∃ env R A d,EnvOk K R A H3 σ' env/\f env=some d/\Se false K A H3 d (fun v H4=>N (zs++[v]) H4) else N zs H3))):=by
 have hl:=G6 hc;refine ⟨fun i m zs H=>m=ds.length - i/\i<=ds.length/\Yj H1 H/\∃ us rest,V8 g t f (Qq fs env) (ds.drop i)=some rest/\us++rest=ys/\Rps K (av H A) us zs,
  ⟨ds.length,by simp,zero_le _,Yj.refl _,[],ys,by simpa using hc,rfl,Uv⟩,?_⟩
 rintro i m zs H ⟨rfl,hi,s1,us,rest,e1,e2,r⟩;have hzs:zs.length<=sizeLine:=by
  rw [Y5 r];have:us.length<=ys.length:=by rw [← e2,length_append];lia
  lia
 obtain ⟨hgo,hstop⟩:=hJ A H ⟨rfl,s1⟩ (k.mono s1).mu;by_cases hlt:i<ds.length
 ·have hx:ds[i]?=some ds[i]:=by simp [hlt]
  obtain ⟨go,yl⟩:=hgo i _ hx;rw [List.drop_eq_getElem_cons hlt,V8] at e1;obtain ⟨env1,b1,e1⟩:=bind_some e1;obtain ⟨b,b2,e1⟩:=bind_some e1;refine .inr ⟨go,hzs,fun zs' H'=>i+1<=ds.length/\Yj H1 H'/\∃ us rest,V8 g t f (Qq fs env) (ds.drop (i+1))=some rest/\us++rest=ys/\Rps K (av H' A) us zs',
   fun zs' H' h=>⟨ds.length - (i+1),by lia,rfl,h⟩,fun x H' hy=>?_⟩
  obtain ⟨s2,rx⟩:=yl x H' hy;refine ⟨Qq fs env,⟨H1,A,false⟩,A,ds[i],env1,(k.inn fs).mono (s1.trans s2),rx,b1,fun σ' k' ag=>⟨⟨ag.1.symm,fun j v ej=>?_⟩,env1,⟨H1,A,false⟩,A,b,k',b2,fun H3 s3=>?_⟩⟩
  ·have hj:j∉is:=fun hj=>by
    have:=hfs j hj;unfold Tv at ej;rw [getElem?_map,this] at ej;cases ej
   rw [ag.2 j hj];exact ej
  ·cases b with
   | true =>
    rw [if_pos rfl] at e1 ⊢;obtain ⟨y,b3,e1⟩:=bind_some e1;obtain ⟨rest',b4,e1⟩:=map_some e1;subst e1;refine ⟨env1,⟨H1,A,false⟩,A,y,k'.mono s3,b3,fun v H4 s4 rv=>⟨hlt,((s1.trans s2).trans s3).trans s4,us++[y],rest',b4,by rw [append_assoc];exact e2,Wm (r.mono (Vd ((s2.trans s3).trans s4))) (M2 rv)⟩⟩
   | false =>
    rw [if_neg Bool.false_ne_true] at e1 ⊢;exact ⟨hlt,(s1.trans s2).trans s3,us,rest,e1,e2,r.mono (Vd (s2.trans s3))⟩
 ·have e:i=ds.length:=by lia
  subst e;rw [List.drop_length,V8] at e1;cases e1;rw [append_nil] at e2;subst e2;exact .inl ⟨hstop,hzs,(q.mono s1).at (by lia) r⟩
variable {elt tg iter:Expr} {ifs:List Expr} {pos:Pos} {src:Ev->Option (List Dat)} {is:List Nat} {g:Dat->Ev->Option Ev} {t:Ev->Option Bool} {f:Ev->Option Dat}
theorem Qp (psc:Scope) (fs:List (Option Nat)) (N:List Str) (hp:X.env.scope=psc) (S:CompOk psc sc X.N N fs) (hc:X.calm=true) (hi:PId false X tg iter src)
  (hb:∀ (C:Addr) (s:Shared) (H:Hp) (fp:List Addr),PGd is (Vv X sc N C s H fp) tg g/\PFd (Vv X sc N C s H fp) ifs t/\PXd false (Vv X sc N C s H fp) elt f)
  (hfs:∀ i∈is,fs[i]?=some none) (hs:∀ x,foldedSetIterable iter X.env x=pure x:=by intro _;rfl):PNd X (.ListComp elt [⟨tg,iter,ifs,0⟩] sc pos) (Tk src fs g t f):=by
 refine PE.weak (Z63 (g:=fun v σ H Q=>∃ env R A d env',EnvOk X.K R A H σ env/\Rp X.K (av H A) d v/\g d env=some env'/\∀ σ',EnvOk X.K R A H σ' env'->Le is σ σ'->Q σ' H) (tt:=fun σ H Q=>∃ env R A b,EnvOk X.K R A H σ env/\t env=some b/\∀ H',Yj H H'->Q b H') (te:=fun σ H Q=>∃ env R A d,EnvOk X.K R A H σ env/\f env=some d/\Se false X.K A H d Q) psc fs N hp S hc hi hb hs) fun σ H Q ⟨env,R,A,ys,k,e,q⟩=>?_
 obtain ⟨ds,e1,e2⟩:=bind_some e;exact ⟨env,R,A,ds,k,e1,fun J H1 hz s1 hJ=>Cj hfs (k.mono s1) hJ hz e2 (q.mono s1)⟩
end
def TrX (h base:Heap) (e T:Addr) (cls:Value) (dct:Option Addr) (fl:Value):Prop :=
 ∃ oe vs oT ts,h.get? e=some oe/\oe.cls=cls/\oe.dict=dct/\oe.data=.fields vs/\vs[1]?=some (.ref T)/\base.get? T=none/\T≠e/\h.get? T=some oT/\oT.data=.fields ts/\ts[3]?=some fl
def KpX (l:List Env) (ch:List Addr) (h h':Heap):Prop:=∀ b o,h.get? b=some o->b∉ch->(b∉frs l->h'.get? b=some o)/\∃ sl,h'.get? b=some { o with slots:=sl }
theorem KpX.of {l:List Env} {ch:List Addr} {h h1:Heap} (a:∀ b o,h.get? b=some o->b∉ch->h1.get? b=some o):KpX l ch h h1:=fun c o q hc=>⟨fun _=>a c o q hc,o.slots,a c o q hc⟩
theorem Gh (f:Array Value->Array Value) (o:Obj):(Obj.mapFields f o).dict=o.dict:=by
 unfold Obj.mapFields;split<;>rfl
section
variable {M:Model} {A:Around} {E:Value->Shared->Prop} {s:Shared}
theorem Z3t {base:Heap} {env:Env} {outer:List Env} {L e:Addr} {oe:Obj} {vs:Array Value} {head:Value} {hadNext:Bool} {Q:Unit->Shared->Prop}
   (hfr:A.frames=some (env::outer)) (hl:s.heap.FunFrames base (env::outer)) (hf:env.frame=some L)
   (he:s.heap.get? e=some oe) (hkb:base.StaysIn s.heap) (hen:base.get? e=none) (hd:oe.data=.fields vs) (hsz:1<vs.size)
   (h:∀ h' T,s.heap.objs.size<=T->base.StaysIn h'->h'.FunFrames base (env::outer)->TrX h' base e T oe.cls oe.dict (rawInt L)->KpX (env::outer) [e] s.heap h'->s.heap.objs.size<=h'.objs.size->Q () { s with heap:=h' }) :
   wpAny M A (do let a ← frameOf env;let pl ← entryPlaceOf L hadNext;let b ← EntryCells.newEntry head a .none (rawInt L) .none pl;setField (.ref e) 1 b) Q E s:=by
 have hene:e∉(env::outer).filterMap (·.frame):=fun hm=>by
   obtain ⟨_,o,ho,hnf⟩:=hl.mem hm;rw [he] at ho;injection ho with ho;subst ho;exact hnf vs hd
 refine wpAny_bind (wpAny_frameOf_fun hfr hl hf fun h₁ hs₁=>?_);refine wpAny_bind (wpAny_entryPlaceOf fun pl hpl=>?_);unfold EntryCells.newEntry newFields;refine wpAny_bind (wpAny_newObj_type ?_ (hpl.sizeOk5 _ _ _ _ _));have he₁:h₁.get? e=some oe:=(hs₁.2.1 e hene).trans he;have kb₁:base.StaysIn h₁:=fun b o hbo=>(hs₁.2.1 b fun hm=>by rw [(hl.mem hm).1] at hbo;cases hbo).trans (hkb b o hbo)
 have he₂:=get?_push_of_some (h:=h₁) { cls:=.type "traceback",dict:=none,data:=.fields ([head,.ref L,.none,rawInt L,.none]++(if pl.isEmpty then List.replicate 6 Value.none else pl)).toArray } he₁;have hlow:s.heap.objs.size<=h₁.objs.size:=le_of_eq hs₁.1.symm;have hTe:h₁.objs.size≠e:=Nat.ne_of_gt (lt_size he₁);have hd₃:=Obj.data_mapFields hd (·.setIfInBounds 1 (Value.ref h₁.objs.size));have he₃:=get?_update_self (Obj.mapFields (·.setIfInBounds 1 (Value.ref h₁.objs.size))) he₂ (Obj.isFreed_of_fields hd₃);have hT₃:=(get?_update_other (h₁.push { cls:=.type "traceback",dict:=none,data:=.fields ([head,.ref L,.none,rawInt L,.none]++(if pl.isEmpty then List.replicate 6 Value.none else pl)).toArray })
   (Obj.mapFields (·.setIfInBounds 1 (Value.ref h₁.objs.size))) (Ne.symm hTe)).trans (get?_push_size h₁ rfl)
 have keep:∀ b o,b≠e->h₁.get? b=some o ->
     ((h₁.push { cls:=.type "traceback",dict:=none,data:=.fields ([head,.ref L,.none,rawInt L,.none]++(if pl.isEmpty then List.replicate 6 Value.none else pl)).toArray }).update e (Obj.mapFields (·.setIfInBounds 1 (Value.ref h₁.objs.size)))).get? b=some o :=
   fun b o hbe hb=>by
     rw [get?_update_other _ _ (Ne.symm hbe)];exact get?_push_of_some _ hb
 refine wpAny_setField he₂ hd hsz (h _ h₁.objs.size hlow ?_ ?_ ?_ ?_ ?_)
 · exact fun b o hbo=>keep b o (fun q=>by rw [q,hen] at hbo;cases hbo) (kb₁ b o hbo)
 · refine hl.of_keeps fun b o hb hnf=>?_
   obtain ⟨sl,hs⟩:=hs₁.2.2 b o hb;have hbe:b≠e:=fun q=>by rw [q,he] at hb;injection hb with hb;subst hb;exact hnf vs hd
   exact ⟨_,keep b _ hbe hs,rfl⟩
 · exact ⟨_,_,_,_,he₃,Obj.cls_mapFields _ _,Gh _ _,hd₃,by simp [hsz],kb₁.fresh,hTe,hT₃,rfl,by first | (simp;done) | (rcases hpl with rfl | ⟨_,_,_,_,_,_,_,rfl⟩<;>simp)⟩
 · intro b o hb hbe
   have hbe':b≠e:=fun z=>hbe (by simp [z])
   obtain ⟨sl,hs⟩:=hs₁.2.2 b o hb;exact ⟨fun hfr'=>keep b o hbe' ((hs₁.2.1 b hfr').trans hb),sl,keep b _ hbe' hs⟩
 · rw [size_update,size_push];exact Nat.le_succ_of_le hlow
theorem Z0w {base:Heap} {l:List Env} {e T:Addr} {cls:Value} {dct:Option Addr} {fl:Value} {Q:Unit->Shared->Prop}
  (hkb:base.StaysIn s.heap) (hl:s.heap.FunFrames base l) (ht:TrX s.heap base e T cls dct fl)
  (h:∀ h',base.StaysIn h'->h'.FunFrames base l->TrX h' base e T cls dct .none->(∀ b o,s.heap.get? b=some o->b∉[T]->h'.get? b=some o)->h'.objs.size=s.heap.objs.size->Q () { s with heap:=h' }) :
  wpAny M A (setFlight (.ref e) none) Q E s:=by
 obtain ⟨oe,vs,oT,ts,he,hcls,hdct,hd,h1,hnT,hTe,hT,hdT,h3⟩:=ht;have hsz3:3<ts.size:=(Array.getElem?_eq_some_iff.mp h3).1;have other:∀ b,b≠T->(s.heap.update T (Obj.mapFields (·.setIfInBounds 3 ((none:Option Addr).elim Value.none fun f=>rawInt f)))).get? b=s.heap.get? b :=
  fun b hb=>get?_update_other _ _ (Ne.symm hb)
 have noRecord:∀ b o,s.heap.get? b=some o->(∀ vs,o.data≠.fields vs)->b≠T:=fun b o hb hnf q=>by
  rw [q,hT] at hb;injection hb with hb;subst hb;exact hnf ts hdT
 unfold setFlight;refine wpAny_bind (wpAny_field he hd h1 ?_);rw [if_pos (show (Value.ref T != Value.none)=true from by simp)];refine wpAny_setField hT hdT hsz3 (h _ (fun b o hbo=>(other b fun q=>by rw [q,hnT] at hbo;cases hbo).trans (hkb b o hbo))
  (hl.of_keeps fun b o hb hnf=>⟨o,(other b (noRecord b o hb hnf)).trans hb,rfl⟩) ?_ (fun b o hb hnf=>(other b (fun z=>hnf (by simp [z]))).trans hb) (size_update ..))
 exact ⟨oe,vs,_,_,(other e (Ne.symm hTe)).trans he,hcls,hdct,hd,h1,hnT,hTe,get?_update_self _ hT (Obj.isFreed_of_fields (Obj.data_mapFields hdT _)),Obj.data_mapFields hdT _,by simp [hsz3]⟩
theorem Za2 {base:Heap} {env:Env} {outer:List Env} {L e T:Addr} {cls:Value} {dct:Option Addr} {Q:Unit->Shared->Prop}
  (hfr:A.frames=some (env::outer)) (hl:s.heap.FunFrames base (env::outer)) (hf:env.frame=some L) (ht:TrX s.heap base e T cls dct .none) (hkb:base.StaysIn s.heap) (hen:base.get? e=none)
  (h:∀ h' T',s.heap.objs.size<=T'->base.StaysIn h'->h'.FunFrames base (env::outer)->TrX h' base e T' cls dct (rawInt L)->KpX (env::outer) [e,T] s.heap h'->s.heap.objs.size<=h'.objs.size->Q () { s with heap:=h' }):wpAny M A (noteFrame (.ref e) env) Q E s:=by
 obtain ⟨oe,vs,oT,ts,he,hcls,hdct,hd,h1,hnT,hTe,hT,hdT,h3⟩:=ht;subst hcls hdct;unfold noteFrame;simp only [hf];refine wpAny_bind (wpAny_field he hd h1 ?_);rw [if_pos (show (Value.ref T != Value.none)=true from by simp)];refine wpAny_bind (wpAny_field hT hdT h3 ?_);rw [if_neg (show ¬ ((Value.none==rawInt L)=true) from by simp [rawInt])];refine wpAny_bind (wpAny_setField hT hdT (Array.getElem?_eq_some_iff.mp h3).1 ?_);have other:∀ b,b≠T->(s.heap.update T (Obj.mapFields (·.setIfInBounds 3 Value.none))).get? b=s.heap.get? b:=fun b hb=>get?_update_other _ _ (Ne.symm hb)
 have noRecord:∀ b o,s.heap.get? b=some o->(∀ vs,o.data≠.fields vs)->b≠T:=fun b o hb hnf q=>by
  rw [q,hT] at hb;injection hb with hb;subst hb;exact hnf ts hdT
 have hsz:(s.heap.update T (Obj.mapFields (·.setIfInBounds 3 Value.none))).objs.size=s.heap.objs.size:=size_update ..;refine Z3t (s:={ s with heap:=s.heap.update T (Obj.mapFields (·.setIfInBounds 3 Value.none)) }) hfr (hl.of_keeps fun b o hb hnf=>⟨o,(other b (noRecord b o hb hnf)).trans hb,rfl⟩) hf ((other e (Ne.symm hTe)).trans he)
  (fun b o hbo=>(other b fun q=>by rw [q,hnT] at hbo;cases hbo).trans (hkb b o hbo)) hen hd (Array.getElem?_eq_some_iff.mp h1).1
  fun h' T' x0 x1 x2 x3 x4 x5=>h h' T' (by rw [← hsz];exact x0) x1 x2 x3 (fun b o hb hc=>?_) (by rw [← hsz];exact x5)
 have hbT:b≠T:=fun z=>hc (by simp [z])
 exact x4 b o ((other b hbT).trans hb) (fun z=>hc (by simp at z;simp [z]))
theorem G7 {base:Heap} {env:Env} {outer:List Env} {L e:Addr} {oe:Obj} {vs:Array Value} {Q:Unit->Shared->Prop}
  (hfr:A.frames=some (env::outer)) (hl:s.heap.FunFrames base (env::outer)) (hf:env.frame=some L)
  (he:s.heap.get? e=some oe) (hkb:base.StaysIn s.heap) (hen:base.get? e=none) (hd:oe.data=.fields vs) (h1:vs[1]?=some .none)
  (h:∀ h' T',s.heap.objs.size<=T'->base.StaysIn h'->h'.FunFrames base (env::outer)->TrX h' base e T' oe.cls oe.dict (rawInt L)->KpX (env::outer) [e] s.heap h'->s.heap.objs.size<=h'.objs.size->Q () { s with heap:=h' }):wpAny M A (noteFrame (.ref e) env) Q E s:=by
 unfold noteFrame;simp only [hf];refine wpAny_bind (wpAny_field he hd h1 ?_);rw [if_neg (by decide)];exact Z3t hfr hl hf he hkb hen hd (Array.getElem?_eq_some_iff.mp h1).1 h
theorem Ln {base:Heap} {env:Env} {outer:List Env} {L e:Addr} {oe:Obj} {vs:Array Value} {Q:Unit->Shared->Prop}
  (hfr:A.frames=some (env::outer)) (hl:s.heap.FunFrames base (env::outer)) (hf:env.frame=some L)
  (he:s.heap.get? e=some oe) (hkb:base.StaysIn s.heap) (hen:base.get? e=none) (hd:oe.data=.fields vs) (h1:vs[1]?=some .none)
  (h:∀ h' T',s.heap.objs.size<=T'->base.StaysIn h'->h'.FunFrames base (env::outer)->TrX h' base e T' oe.cls oe.dict .none->KpX (env::outer) [e] s.heap h'->Q () { s with heap:=h' }):wpAny M A (leaving env (.ref e)) Q E s:=by
 unfold leaving;refine wpAny_bind (G7 hfr hl hf he hkb hen hd h1 fun h' T' x0 x1 x2 x3 x4 x5=>?_);refine Z0w (s:={ s with heap:=h' }) x1 x2 x3 fun h2 y1 y2 y3 y4 y5=>h h2 T' x0 y1 y2 y3 (fun b o hb hc=>?_)
 obtain ⟨k1,sl,k2⟩:=x4 b o hb hc;have hbT:b∉[T']:=fun z=>by
  have e1:b=T':=by simpa using z
  have e2:=lt_size hb;rw [e1] at e2;exact absurd (lt_of_lt_of_le e2 x0) (lt_irrefl _)
 exact ⟨fun hfr'=>y4 b o (k1 hfr') hbT,sl,y4 b _ k2 hbT⟩
theorem Z8p {base:Heap} {env:Env} {outer:List Env} {L e T:Addr} {cls:Value} {dct:Option Addr} {Q:Unit->Shared->Prop}
  (hfr:A.frames=some (env::outer)) (hl:s.heap.FunFrames base (env::outer)) (hf:env.frame=some L) (ht:TrX s.heap base e T cls dct .none) (hkb:base.StaysIn s.heap) (hen:base.get? e=none)
  (h:∀ h' T',s.heap.objs.size<=T'->base.StaysIn h'->h'.FunFrames base (env::outer)->TrX h' base e T' cls dct .none->KpX (env::outer) [e,T] s.heap h'->Q () { s with heap:=h' }):wpAny M A (leaving env (.ref e)) Q E s:=by
 unfold leaving;refine wpAny_bind (Za2 hfr hl hf ht hkb hen fun h' T' x0 x1 x2 x3 x4 x5=>?_);refine Z0w (s:={ s with heap:=h' }) x1 x2 x3 fun h2 y1 y2 y3 y4 y5=>h h2 T' x0 y1 y2 y3 (fun b o hb hc=>?_)
 obtain ⟨k1,sl,k2⟩:=x4 b o hb hc;have hbT:b∉[T']:=fun z=>by
  have e1:b=T':=by simpa using z
  have e2:=lt_size hb;rw [e1] at e2;exact absurd (lt_of_lt_of_le e2 x0) (lt_irrefl _)
 exact ⟨fun hfr'=>y4 b o (k1 hfr') hbT,sl,y4 b _ k2 hbT⟩
end
inductive Fl where
 | next (env:Ev) | ret (d:Dat) | brk (env:Ev) | cont (env:Ev) | exc (env:Ev) (c:Str) (fs:List (Str×XD)) | no
def NwT (K:PySem.W.Frag) (B:Bs) (H':Hp) (d:Dat) (v:V):Prop:=∀ ds,d=.lst ds->∃ p vs,v=.ref p/\B.H₀ p=none/\H' p=some (.lst vs)/\ds.length<=sizeLine/\Rps K (av H' (ins B.R p)) ds vs
structure XSt (X:Cx) (pins:List (Addr×Obj)) (H:Hp) (h:Heap) (e C:Addr) (dct:Option Addr):Prop where
 lo:X.s₀.heap.objs.size<=e
 un:H e=none
 ob:(∃ o vs,h.get? e=some o/\o.cls=.ref C/\o.dict=dct/\o.data=.fields vs/\vs[1]?=some .none)\/∃ T,X.s₀.heap.objs.size<=T/\H T=none/\(∀ p∈X.pn++pins,p.1≠T)/\TrX h X.base e T (.ref C) dct .none
 pe:∀ p∈X.pn++pins,p.1≠e
def XW (X:Cx) (A:AS) (H:Hp) (σ:St) (c:Str) (fs:List (Str×XD)):Prop :=
 ∀ (pins:List (Addr×Obj)) (s:Shared) (e C:Addr) (dct:Option Addr),Inv X pins σ H s->T3 X.K c C->XSt X pins H s.heap e C dct->XFs X.K (av H A) dct fs->X.xe (.ref e) s
def Cr (fr:Bool) (X:Cx) (B:Bs) (A:AS) (H:Hp) (D:Ends):Fl->Prop
 | .next env'=>∀ A' H' σ',Step A H A' H'->EnvOk X.K B A' H' σ' env'->D.nx σ' H'
 | .brk env'=>∀ A' H' σ',Step A H A' H'->EnvOk X.K B A' H' σ' env'->D.bk σ' H'
 | .cont env'=>∀ A' H' σ',Step A H A' H'->EnvOk X.K B A' H' σ' env'->D.ct σ' H'
 | .ret d=>∀ v H',Yj B.H₀ H'->Rp X.K (av H' B.R) d v->(fr=true->NwT X.K B H' d v)->D.rt v H'
 | .exc env' c fs=>∀ A' H' σ',Step A H A' H'->EnvOk X.K B A' H' σ' env'->XW X A' H' σ' c fs
 | .no=>False
def tS (fr:Bool) (X:Cx) (g:Ev->Fl):TS:=fun D σ H=>∃ env B A,EnvOk X.K B A H σ env/\B.st=true/\Cr fr X B A H D (g env)
def PSd (fr:Bool) (X:Cx) (st:Stmt) (g:Ev->Fl):Prop:=PS X st (tS fr X g)
def PBd (fr:Bool) (X:Cx) (st:List Stmt) (g:Ev->Fl):Prop:=PSs X st (tS fr X g)
theorem Cr.step {fr:Bool} {X:Cx} {B:Bs} {A A':AS} {H H':Hp} {D:Ends} {r:Fl} (h:Cr fr X B A H D r) (s:Step A H A' H'):Cr fr X B A' H' D r:=by
 cases r with
 | next e=>exact fun A2 H2 σ2 s2 k=>h A2 H2 σ2 (s.trans s2) k
 | brk e=>exact fun A2 H2 σ2 s2 k=>h A2 H2 σ2 (s.trans s2) k
 | cont e=>exact fun A2 H2 σ2 s2 k=>h A2 H2 σ2 (s.trans s2) k
 | ret d=>exact h
 | exc e c fs=>exact fun A2 H2 σ2 s2 k=>h A2 H2 σ2 (s.trans s2) k
 | no=>exact h
section
variable {fr m:Bool} {X:Cx} {st:Stmt} {rest a b:List Stmt} {e c:Expr} {g h:Ev->Fl} {f:Ev->Option Dat} {fs:Ev->Option (List Dat)} {t:Ev->Option Bool} {pos:Pos}
def Mt:Ev->Fl:=fun env=>.next env
def Zc (g h:Ev->Fl):Ev->Fl:=fun env=>match g env with
 | .next env'=>h env'
 | r=>r
theorem Vz:PBd fr X [] Mt:=Z5s.weak fun D σ H ⟨env,B,A,k,hst,q⟩=>q A H σ (Step.refl A H) k
theorem Z9 (h1:PSd fr X st g) (h2:PBd fr X rest h):PBd fr X (st::rest) (Zc g h):=(Dm h1 h2).weak fun D σ H zz=>by
 obtain ⟨env,B,A,k,hst,q⟩:=zz;refine ⟨env,B,A,k,hst,?_⟩;unfold Zc at q;split at q
 ·rename_i env' e
  rw [e];exact fun A' H' σ' s k'=>⟨env',B,A',k',hst,q.step s⟩
 ·rename_i r hn
  cases e:g env with
  | next env'=>exact absurd e (hn env')
  | brk e'=>rw [e] at q;exact q
  | cont e'=>rw [e] at q;exact q
  | ret d=>rw [e] at q;exact q
  | exc e' c fs=>rw [e] at q;exact q
  | no=>rw [e] at q;exact q
theorem Zo (h1:PSd fr X st g):PBd fr X [st] g:=Ax h1
theorem Z6q:PSd fr X (.Continue pos) (fun env=>.cont env):=Nj.weak fun D σ H ⟨env,B,A,k,hst,q⟩=>q A H σ (Step.refl A H) k
def sIf (t:Ev->Option Bool) (g h:Ev->Fl):Ev->Fl:=fun env=>match t env with
 | some true=>g env
 | some false=>h env
 | none=>.no
theorem R9 (hc:PTd X c t) (ha:PBd fr X a g) (hb:PBd fr X b h):PSd fr X (.If c a b pos) (sIf t g h):=(Zbu hc ha hb).weak fun D σ H zz=>by
 obtain ⟨env,B,A,k,hst,q⟩:=zz;unfold sIf at q;split at q
 ·rename_i e
  refine ⟨env,B,A,true,k,e,fun H' s=>?_⟩;exact Zca ⟨env,B,A,k.mono s,hst,q.step (Step.same s)⟩
 ·rename_i e
  refine ⟨env,B,A,false,k,e,fun H' s=>?_⟩;exact Zcu ⟨env,B,A,k.mono s,hst,q.step (Step.same s)⟩
 ·exact q.elim
def U4 (f:Ev->Option Dat):Ev->Fl:=fun env=>match f env with
 | some d=>.ret d
 | none=>.no
theorem Z3u {B:Bs} {A:AS} {H H':Hp} {σ:St} {env:Ev} {d:Dat} {v:V} (k:EnvOk X.K B A H σ env) (s:Yj H H') (r:Rp X.K (av H' A) d v):Yj B.H₀ H'/\Rp X.K (av H' B.R) d v:=⟨k.h0.trans s,r.mono (M7 k.ra)⟩
theorem W1 (he:PXd false X e f):PSd false X (.Return (some e) pos) (U4 f):=(Cz he).weak fun D σ H zz=>by
 obtain ⟨env,B,A,k,hst,q⟩:=zz;unfold U4 at q;split at q
 ·rename_i d e
  exact ⟨env,B,A,d,k,e,fun v H' s r=>q v H' (Z3u k s r).1 (Z3u k s r).2 (fun z=>by cases z)⟩
 ·exact q.elim
theorem Z72 {B:Bs} {A:AS} {H H':Hp} {σ:St} {env:Ev} {ds:List Dat} {p:Addr} {vs:List V} (k:EnvOk X.K B A H σ env) (hz:ds.length<=sizeLine) (s:Yj H H') (hn:H p=none) (hp:H' p=some (.lst vs)) (r:Rps X.K (av H' (ins A p)) ds vs):B.H₀ p=none/\B.R p=false/\Rps X.K (av H' (ins B.R p)) ds vs:=by
 have h0:B.H₀ p=none:=k.h0.free hn;refine ⟨h0,?_,r.mono (M7 fun a ha=>?_)⟩
 ·cases q:B.R p with
  | false=>rfl
  | true=>obtain ⟨o,ho⟩:=k.r0 p q;rw [h0] at ho;cases ho
 ·rcases Lx ha with z | z
  ·exact Hm (k.ra a z)
  ·subst z;exact Pz
theorem G9 (he:PNd X e fs):PSd fr X (.Return (some e) pos) (U4 (dL fs)):=(Cz he).weak fun D σ H zz=>by
 obtain ⟨env,B,A,k,hst,q⟩:=zz;unfold U4 at q;split at q
 ·rename_i d e
  obtain ⟨ds,e1,e2⟩:=map_some e;subst e2;refine ⟨env,B,A,ds,k,e1,fun p vs H' hz s hn hp r=>?_⟩;obtain ⟨h1,h2,h3⟩:=Z72 k hz s hn hp r;refine q (.ref p) H' (k.h0.trans s) (Dw hz (.inl (.inl (Qe hp h2))) (h3.mono (M7 fun a ha=>Hm ha))) fun _ ds' ed=>?_
  cases ed;exact ⟨p,vs,rfl,h1,hp,hz,h3⟩
 ·exact q.elim
theorem N4 {env:Ev} {i:Nat} {s:Slt} (h:∀ (j:Nat) d,env[j]?≠some (.pk d)) (hs:∀ d,s≠.pk d):∀ (j:Nat) d,(env.set i s)[j]?≠some (.pk d):=fun j d=>by
 rw [getElem?_set];split
 ·split
  ·intro z;exact hs d (Option.some.inj z)
  ·intro z;cases z
 ·exact h j d
theorem EnvOk.own {K:PySem.W.Frag} {B:Bs} {A:AS} {H:Hp} {σ:St} {env:Ev} {i:Nat} {ds:List Dat} (k:EnvOk K B A H σ env) (hst:B.st=true) (h:env[i]?=some (.ow ds)) :
  ∃ a vs,σ[i]?=some (some (.ref a))/\H a=some (.lst vs)/\Rps K (av H A) ds vs/\ds.length<=sizeLine/\A a=true/\B.R a=false/\B.H₀ a=none /\
   (∀ ds' vs',ds'.length<=sizeLine->Rps K (av H A) ds' vs'->Step A H A (upd H a (.lst vs'))/\EnvOk K B A (upd H a (.lst vs')) σ (env.set i (.ow ds'))) /\
   Step A H (fun b=>A b&&b != a) H/\EnvOk K B (fun b=>A b&&b != a) H σ (env.set i (.fz (.lst ds))):=by
 obtain ⟨own,h1,h2,h4⟩:=k.sl;obtain ⟨x,q1,a,vs,e1,e2,hz,e3,e4⟩:=h4 i _ h;subst e1;obtain ⟨hA,hR⟩:=h2 i a e2;have h0:B.H₀ a=none:=by
  rcases k.ar a hA with z | z
  ·rw [z] at hR;cases hR
  ·exact z
 have avs:∀ vs',Yj (av H A) (av (upd H a (.lst vs')) A):=fun vs' b o e=>by
  obtain ⟨z1,z2⟩:=Rg e;have hb:b≠a:=by intro z;rw [z,hA] at z1;cases z1
  exact Qe (by rw [Zg hb];exact z2) z1
 refine ⟨a,vs,q1,e3,e4,hz,hA,hR,h0,fun ds' vs' hz' r'=>⟨⟨fun b o hb hAb=>?_,fun b hb=>.inl hb⟩,?_⟩,⟨fun b o hb _=>hb,fun b hb=>.inl ?_⟩,?_⟩
 ·have hn:b≠a:=by intro z;rw [z,hA] at hAb;cases hAb
  rw [Zg hn];exact hb
 ·refine ⟨fun b o hb=>?_,k.r0,k.ra,k.ar,fun b hb=>?_,by rw [length_set];exact k.len,fun hs j d'=>N4 (k.np hs) (fun _ z=>by cases z) j d',own,h1,h2,fun j s e=>?_⟩
  ·have hn:b≠a:=Y6 hb h0
   rw [Zg hn];exact k.h0 b o hb
  ·by_cases hn:b=a
   ·subst hn;rw [Zu];trivial
   ·rw [Zg hn];exact k.mu b hb
  ·by_cases hj:i=j
   ·subst hj
    rw [getElem?_set,if_pos rfl] at e;split at e
    ·cases e
     exact ⟨_,q1,a,vs',rfl,e2,hz',Zu,r'.mono (avs vs')⟩
    ·cases e
   ·rw [getElem?_set,if_neg hj] at e
    obtain ⟨x,p1,p2⟩:=h4 j s e;refine ⟨x,p1,?_⟩;cases s with
    | un=>trivial
    | fz d=>obtain ⟨v,z1,z2⟩:=p2;exact ⟨v,z1,z2.mono (avs vs')⟩
    | pk d =>
     exact absurd e (k.np hst j d)
    | ow es =>
     obtain ⟨b,us,z1,z2,z3,z4,z5⟩:=p2;have hn:b≠a:=fun z=>hj (h1 i j a e2 (z▸z2))
     exact ⟨b,us,z1,z2,z3,by rw [Zg hn];exact z4,z5.mono (avs vs')⟩
    | gx g =>
     obtain ⟨v,z1,z2⟩:=p2;exact ⟨v,z1,z2.frame (fun _ z=>z) (fun b x ob z=>by
      have hn:b≠a:=fun w=>hj (h1 i j a e2 (w▸ob))
      rw [Zg hn];exact z) (avs vs')⟩
 ·rw [Bool.and_eq_true] at hb;exact hb.1
 ·have less:Yj (av H A) (av H fun b=>A b&&b != a):=M7 fun b hb=>by rw [Bool.and_eq_true] at hb;exact hb.1
  refine ⟨k.h0,k.r0,fun b hb=>?_,fun b hb=>?_,fun b hb=>?_,by rw [length_set];exact k.len,fun hs j d'=>N4 (k.np hs) (fun _ z=>by cases z) j d',fun j b=>j≠i/\own j b,fun j j' b z z'=>h1 j j' b z.2 z'.2,fun j b z=>?_,fun j s e=>?_⟩
  ·have hn:b≠a:=by intro z;rw [z,hR] at hb;cases hb
   simp [k.ra b hb,hn]
  ·rw [Bool.and_eq_true] at hb;exact k.ar b hb.1
  ·rw [Bool.and_eq_true] at hb;exact k.mu b hb.1
  ·have hn:b≠a:=fun w=>z.1 (h1 j i a (w▸z.2) e2)
   simp [(h2 j b z.2).1,(h2 j b z.2).2,hn]
  ·by_cases hj:i=j
   ·subst hj
    rw [getElem?_set,if_pos rfl] at e;split at e
    ·cases e
     exact ⟨_,q1,.ref a,rfl,Dw hz (.inl (.inl (Qe e3 (by simp)))) (e4.mono less)⟩
    ·cases e
   ·rw [getElem?_set,if_neg hj] at e
    obtain ⟨x,p1,p2⟩:=h4 j s e;refine ⟨x,p1,?_⟩;cases s with
    | un=>trivial
    | fz d=>obtain ⟨v,z1,z2⟩:=p2;exact ⟨v,z1,z2.mono less⟩
    | pk d =>
     obtain ⟨v,z1,z2⟩:=p2;refine ⟨v,z1,?_⟩;rcases z2 with z2 | ⟨b,us,es,y1,y2,y3,y4,y5⟩
     ·exact .inl (z2.mono less)
     ·exact .inr ⟨b,us,es,y1,y2,y3,y4,y5.mono less⟩
    | ow es =>
     obtain ⟨b,us,z1,z2,z3,z4,z5⟩:=p2;exact ⟨b,us,z1,⟨Ne.symm hj,z2⟩,z3,z4,z5.mono less⟩
    | gx g =>
     obtain ⟨v,z1,z2⟩:=p2;exact ⟨v,z1,z2.frame (fun _ z=>⟨Ne.symm hj,z⟩) (fun _ _ _ z=>z) less⟩
def K2 (i:Nat):Ev->Fl:=fun env=>match env[i]? with
 | some (.ow ds)=>.ret (.lst ds)
 | _=>.no
theorem N6 (i:Nat) {x:Str} {p:Pos} (hN:X.N[i]?=some x:=by rfl) (hv:Vis X.env.scope x:=by first | exact Or.inl rfl | exact Or.inr (Or.inl rfl) | exact Or.inr (Or.inr rfl)) (hd:(x==("__debug__" : Str))=false:=by decide)
  (hcd:(x==("__classdict__" : Str))=false:=by decide):PSd fr X (.Return (some (.Name x p)) pos) (K2 i):=(Cz (Mw hN hv hd hcd)).weak fun D σ H zz=>by
 obtain ⟨env,B,A,k,hst,q⟩:=zz;unfold K2 at q;split at q
 ·rename_i ds e
  obtain ⟨a,vs,h1,h2,h3,hz,hA,hR,h0,_⟩:=k.own hst e;have less:∀ b,ins B.R a b=true->A b=true:=fun b hb=>by
   rcases Lx hb with z | z
   ·exact k.ra b z
   ·rw [z];exact hA
  have r:=h3.mono (M7 (H:=H) less);refine ⟨.ref a,h1,q (.ref a) H k.h0 (Dw hz (.inl (.inl (Qe h2 hR))) (r.mono (M7 fun b hb=>Hm hb))) fun _ ds' ed=>?_⟩;cases ed;exact ⟨a,vs,rfl,h0,h2,hz,r⟩
 ·exact q.elim
def Yg (i:Nat) (f:Ev->Option Dat):Ev->Fl:=fun env=>match f env with
 | some d=>.next (env.set i (.fz d))
 | none=>.no
def N8 (i:Nat) (f:Ev->Option (List Dat)):Ev->Fl:=fun env=>match f env with
 | some ds=>.next (env.set i (.ow ds))
 | none=>.no
theorem EnvOk.putO {K:PySem.W.Frag} {B:Bs} {A:AS} {H H':Hp} {σ:St} {env:Ev} (k:EnvOk K B A H σ env) (hst:B.st=true) (i:Nat) {ds:List Dat} {p:Addr} {vs:List V} (hz:ds.length<=sizeLine) (s:Yj H H') (hn:H p=none) (hp:H' p=some (.lst vs)) (r:Rps K (av H' (ins A p)) ds vs) :
  Step A H (ins A p) H'/\EnvOk K B (ins A p) H' (σ.set i (some (.ref p))) (env.set i (.ow ds)):=by
 have st:Step A H (ins A p) H':=⟨fun a o h _=>s a o h,fun a h=>by
  rcases Lx h with z | z
  ·exact .inl z
  ·rw [z];exact .inr hn⟩
 have hAp:A p=false:=k.mu.new hn;have h0:B.H₀ p=none:=k.h0.free hn;obtain ⟨own,h1,h2,h4⟩:=k.sl;refine ⟨st,k.h0.trans s,k.r0,fun a h=>Hm (k.ra a h),fun a h=>?_,fun a h=>?_,by rw [length_set,length_set];exact k.len,fun hs j d'=>N4 (k.np hs) (fun _ z=>by cases z) j d',
  fun j a=>(j≠i/\own j a)\/(j=i/\a=p),fun j j' a z z'=>?_,fun j a z=>?_,fun j sl e=>?_⟩
 ·rcases Lx h with z | z
  ·exact k.ar a z
  ·rw [z];exact .inr h0
 ·rcases Lx h with z | z
  ·exact k.mu.mono s a z
  ·rw [z,hp];trivial
 ·rcases z with z | z<;>rcases z' with z' | z'
  ·exact h1 j j' a z.2 z'.2
  ·have:=(h2 j a z.2).1;rw [z'.2,hAp] at this;cases this
  ·have:=(h2 j' a z'.2).1;rw [z.2,hAp] at this;cases this
  ·rw [z.1,z'.1]
 ·rcases z with z | z
  ·exact ⟨Hm (h2 j a z.2).1,(h2 j a z.2).2⟩
  ·refine ⟨by rw [z.2];exact Pz,?_⟩
   cases q:B.R a with
   | false=>rfl
   | true=>obtain ⟨o,ho⟩:=k.r0 a q;rw [z.2,h0] at ho;cases ho
 ·by_cases hj:i=j
  ·subst hj
   rw [getElem?_set,if_pos rfl] at e;split at e
   ·rename_i hl
    cases e;exact ⟨some (.ref p),by rw [getElem?_set,if_pos rfl,if_pos (by rw [k.len];exact hl)],p,vs,rfl,.inr ⟨rfl,rfl⟩,hz,hp,r⟩
   ·cases e
  ·rw [getElem?_set,if_neg hj] at e
   obtain ⟨x,p1,p2⟩:=h4 j sl e;refine ⟨x,by rw [getElem?_set,if_neg hj];exact p1,?_⟩;cases sl with
   | un=>trivial
   | fz d=>obtain ⟨v,z1,z2⟩:=p2;exact ⟨v,z1,z2.mono st.av⟩
   | pk d=>exact absurd e (k.np hst j d)
   | ow es =>
    obtain ⟨b,us,z1,z2,z3,z4,z5⟩:=p2;exact ⟨b,us,z1,.inl ⟨Ne.symm hj,z2⟩,z3,s _ _ z4,z5.mono st.av⟩
   | gx g =>
    obtain ⟨v,z1,z2⟩:=p2;exact ⟨v,z1,z2.frame (fun _ z=>.inl ⟨Ne.symm hj,z⟩) (fun b x _ z=>s b x z) st.av⟩
theorem Zp (i:Nat) {x:Str} {pos':Pos} (hN:X.N.Nodup) (hi:X.N[i]?=some x) (hx:Loc X.env.scope x) (he:PXd false X e f) (hs:swapsWith e (some (.Name x pos')) pos.line X.env=pure false:=by rfl)
  (hf:X.fn x=true\/X.env.scope.names.lookup x=some .local:=by first | exact .inl rfl | exact .inr rfl | assumption):PSd fr X (.Assign [.Name x pos'] e pos) (Yg i f):=(X0 hN hi hx he hs hf).weak fun D σ H zz=>by
 obtain ⟨env,B,A,k,hst,q⟩:=zz;unfold Yg at q;split at q
 ·rename_i d e
  exact ⟨env,B,A,d,k,e,fun v H' s r=>q A H' _ (Step.same s) ((k.mono s).put i r)⟩
 ·exact q.elim
theorem Dd (i:Nat) {x:Str} {pos':Pos} (hN:X.N.Nodup) (hi:X.N[i]?=some x) (hx:Loc X.env.scope x) (he:PNd X e fs) (hs:swapsWith e (some (.Name x pos')) pos.line X.env=pure false:=by rfl)
  (hf:X.fn x=true\/X.env.scope.names.lookup x=some .local:=by first | exact .inl rfl | exact .inr rfl | assumption):PSd fr X (.Assign [.Name x pos'] e pos) (N8 i fs):=(X0 hN hi hx he hs hf).weak fun D σ H zz=>by
 obtain ⟨env,B,A,k,hst,q⟩:=zz;unfold N8 at q;split at q
 ·rename_i ds e
  refine ⟨env,B,A,ds,k,e,fun p vs H' hz s hn hp r=>?_⟩;obtain ⟨h1,h2⟩:=k.putO hst i hz s hn hp r;exact q _ H' _ h1 h2
 ·exact q.elim
variable {sc:Scope} {elt tg iter:Expr} {ifs:List Expr} {src:Ev->Option (List Dat)} {is:List Nat} {gg:Dat->Ev->Option Ev} {tt:Ev->Option Bool}
theorem Hn (i:Nat) {x:Str} {pos' spos:Pos} (hN:X.N.Nodup) (hi':X.N[i]?=some x) (hx:Loc X.env.scope x) (psc:Scope) (fs:List (Option Nat)) (N:List Str) (hp:X.env.scope=psc) (S:CompOk psc sc X.N N fs) (hc:X.calm=true) (hi:PId false X tg iter src)
  (hb:∀ (C:Addr) (s:Shared) (H:Hp) (fp:List Addr),PGd is (Vv X sc N C s H fp) tg gg/\PFd (Vv X sc N C s H fp) ifs tt/\PXd false (Vv X sc N C s H fp) elt f)
  (hfs:∀ i∈is,fs[i]?=some none) (hs:∀ x,foldedSetIterable iter X.env x=pure x:=by intro _;rfl) (hsw:swapsWith (.ListComp elt [⟨tg,iter,ifs,0⟩] sc pos) (some (.Name x pos')) spos.line X.env=pure true:=by rfl)
  (hf:X.fn x=true\/X.env.scope.names.lookup x=some .local:=by first | exact .inl rfl | exact .inr rfl | assumption) :
  PSd fr X (.Assign [.Name x pos'] (.ListComp elt [⟨tg,iter,ifs,0⟩] sc pos) spos) (Yg i (dL (Tk src fs gg tt f))):=(Ho (g:=fun v σ H Q=>∃ env R A d env',EnvOk X.K R A H σ env/\Rp X.K (av H A) d v/\gg d env=some env'/\∀ σ',EnvOk X.K R A H σ' env'->Le is σ σ'->Q σ' H) (tt:=fun σ H Q=>∃ env R A b,EnvOk X.K R A H σ env/\tt env=some b/\∀ H',Yj H H'->Q b H') (te:=fun σ H Q=>∃ env R A d,EnvOk X.K R A H σ env/\f env=some d/\Se false X.K A H d Q) hN hi' hx psc fs N hp S hc hi hb hs hsw hf).weak fun D σ H zz=>by
 obtain ⟨env,B,A,k,hst,q⟩:=zz;unfold Yg at q;split at q
 ·rename_i d e
  obtain ⟨ys,e',ed⟩:=map_some e;subst ed;obtain ⟨ds,e1,e2⟩:=bind_some e';have q':Se false X.K A H (.lst ys) (fun v H'=>D.nx (σ.set i (some v)) H'):=fun v H' s r=>q A H' _ (Step.same s) ((k.mono s).put i r)
  exact ⟨env,B,A,ds,k,e1,fun J H1 hz s1 hJ=>Cj (Q:=fun v H'=>D.nx (σ.set i (some v)) H') hfs (k.mono s1) hJ hz e2 ((q'.new k.mu).mono s1)⟩
 ·exact q.elim
def Z33 (f:Ev->Option Dat) (g:Dat->Ev->Option Ev):Ev->Fl:=fun env=>match (f env).bind fun d=>g d env with
 | some env'=>.next env'
 | none=>.no
theorem Z2e {tg e:Expr} {is:List Nat} {g:Dat->Ev->Option Ev} (he:PXd false X e f) (hg:PGd is X tg g) (hs:swapsWithSole [tg] e pos.line X.env=pure false:=by rfl) (hw:swappedStores [tg] e X.env=pure none:=by rfl) (h1:(assignEach [tg] X.env).map (·.2)=[assign tg X.env]:=by rfl):PSd fr X (.Assign [tg] e pos) (Z33 f g):=(Z3d he hg hs hw h1).weak fun D σ H zz=>by
 obtain ⟨env,B,A,k,hst,q⟩:=zz;unfold Z33 at q;split at q
 ·rename_i env' e
  obtain ⟨d,e1,e2⟩:=bind_some e;exact ⟨env,B,A,d,k,e1,fun v H' s r=>⟨env,B,A,d,env',k.mono s,r,e2,fun σ' k' _=>q A H' σ' (Step.same s) k'⟩⟩
 ·exact q.elim
def Ab (g:Dat->Ev->Option Ev) (body:Ev->Fl):List Dat->Ev->Fl
 | [],env=>.next env
 | x::xs,env=>match g x env with
  | none=>.no
  | some env1=>match body env1 with
   | .next e=>Ab g body xs e
   | .cont e=>Ab g body xs e
   | .brk e=>.next e
   | .ret d=>.ret d
   | .exc e c fs=>.exc e c fs
   | .no=>.no
def Sa (src:Ev->Option (List Dat)) (g:Dat->Ev->Option Ev) (body:Ev->Fl):Ev->Fl:=fun env=>match src env with
 | none=>.no
 | some ds=>Ab g body ds env
theorem Q0 {body:List Stmt} (hp:PassesOwn (model X.prog X.w) X.A X.env X.xe) (hc:X.calm=true) (hi:PId true X tg iter src) (hg:PGd is X tg gg) (hb:PBd fr X body g)
  (hs:∀ x,foldedSetIterable iter X.env x=pure x:=by intro _;rfl):PSd fr X (.For tg iter body [] pos) (Sa src gg g):=(Z8l hp hc hi hg hb hs).weak fun D σ H zz=>by
 obtain ⟨env,B,A,k,hst,q⟩:=zz;unfold Sa at q;split at q
 ·exact q.elim
 rename_i ds e;refine ⟨env,B,A,ds,k,e,fun J H1 hz s1 hJ=>?_⟩;refine ⟨fun i m σ' H'=>m=ds.length - i/\i<=ds.length/\∃ A' env',Step A H1 A' H'/\EnvOk X.K B A' H' σ' env'/\Cr fr X B A' H' D (Ab gg g (ds.drop i) env'),
  ⟨ds.length,by simp,zero_le _,A,env,Step.refl A H1,k.mono s1,by simpa using q.step (Step.same s1)⟩,?_⟩
 rintro i m σ' H' ⟨rfl,hi',A',env',s',k',q'⟩;obtain ⟨hgo,hstop⟩:=hJ A' H' s' k'.mu;by_cases hlt:i<ds.length
 ·obtain ⟨go,yl⟩:=hgo i _ (show ds[i]?=some ds[i] by simp [hlt])
  refine .inr ⟨go,fun σ2 H2=>i+1<=ds.length/\∃ A2 env2,Step A H1 A2 H2/\EnvOk X.K B A2 H2 σ2 env2/\Cr fr X B A2 H2 D (Ab gg g (ds.drop (i+1)) env2),fun σ2 H2 z=>⟨ds.length - (i+1),by lia,rfl,z⟩,fun x H2 hy=>?_⟩;obtain ⟨s2,rx⟩:=yl x H2 hy;rw [List.drop_eq_getElem_cons hlt,Ab] at q';split at q'
  ·exact q'.elim
  rename_i env1 e1;refine ⟨env',B,A',ds[i],env1,k'.mono s2,rx,e1,fun σ3 k3 _=>⟨env1,B,A',k3,hst,?_⟩⟩;have st2:Step A' H' A' H2:=Step.same s2;split at q'
  ·rename_i e2 eb
   rw [eb];exact fun A4 H4 σ4 s4 k4=>⟨hlt,A4,e2,s'.trans (st2.trans s4),k4,q'.step (st2.trans s4)⟩
  ·rename_i e2 eb
   rw [eb];exact fun A4 H4 σ4 s4 k4=>⟨hlt,A4,e2,s'.trans (st2.trans s4),k4,q'.step (st2.trans s4)⟩
  ·rename_i e2 eb
   rw [eb];exact fun A4 H4 σ4 s4 k4=>q' A4 H4 σ4 (st2.trans s4) k4
  ·rename_i d eb
   rw [eb];exact q'
  ·rename_i e2 c2 f2 eb
   rw [eb];exact fun A4 H4 σ4 s4 k4=>q' A4 H4 σ4 (st2.trans s4) k4
  ·exact q'.elim
 ·have e:i=ds.length:=by lia
  subst e;rw [List.drop_length,Ab] at q';exact .inl ⟨hstop,q' A' H' σ' (Step.refl _ _) k'⟩
def Us (t:Ev->Option Bool) (body:Ev->Fl):Nat->Ev->Fl
 | 0,_=>.no
 | n+1,env=>match t env with
  | none=>.no
  | some false=>.next env
  | some true=>match body env with
   | .next e=>Us t body n e
   | .cont e=>Us t body n e
   | .brk e=>.next e
   | .ret d=>.ret d
   | .exc e c fs=>.exc e c fs
   | .no=>.no
theorem Tu {t:Ev->Option Bool} {body:Ev->Fl}:∀ {n:Nat} {env:Ev} (k:Nat),Us t body n env≠.no->Us t body (n+k) env=Us t body n env
 | 0,env,k,h=>absurd rfl h
 | n+1,env,k,h=>by
  rw [show n+1+k=(n+k)+1 by lia];simp only [Us] at h ⊢;split
  ·rfl
  ·rfl
  ·rename_i e1
   simp only [e1] at h;split
   ·rename_i e2 eb;simp only [eb] at h;exact Tu k h
   ·rename_i e2 eb;simp only [eb] at h;exact Tu k h
   ·rfl
   ·rfl
   ·rfl
   ·rfl
open Classical in
def Ea (t:Ev->Option Bool) (body:Ev->Fl):Ev->Fl:=fun env=>if h:∃ n,Us t body n env≠.no then Us t body (Classical.choose h) env else .no
theorem C4 {t:Ev->Option Bool} {body:Ev->Fl} {n:Nat} {env:Ev} (h:Us t body n env≠.no):Ea t body env=Us t body n env:=by
 unfold Ea;have hx:∃ n,Us t body n env≠.no:=⟨n,h⟩;rw [dif_pos hx];have hc:=Classical.choose_spec hx;have e1:=Tu n hc;have e2:=Tu (Classical.choose hx) h;rw [← e1,← e2,Nat.add_comm]
theorem At {body:List Stmt} (hp:PassesOwn (model X.prog X.w) X.A X.env X.xe) (hc:PTd X c t) (hb:PBd fr X body g):PSd fr X (.While c body [] pos) (Ea t g):=(Z1e hp hc hb).weak fun D σ H zz=>by
 obtain ⟨env,B,A,k,hst,q⟩:=zz;unfold Ea at q;split at q
 ·rename_i hx
  refine ⟨fun n σ' H'=>∃ A' env',EnvOk X.K B A' H' σ' env'/\Cr fr X B A' H' D (Us t g n env'),⟨_,A,env,k,q⟩,?_⟩;rintro n σ' H' ⟨A',env',k',q'⟩;cases n with
  | zero=>exact q'.elim
  | succ n =>
   rw [Us] at q';split at q'
   ·exact q'.elim
   ·rename_i e1
    refine ⟨env',B,A',false,k',e1,fun H1 s1=>?_⟩;refine Zcu ?_;exact q' A' H1 σ' (Step.same s1) (k'.mono s1)
   ·rename_i e1
    refine ⟨env',B,A',true,k',e1,fun H1 s1=>?_⟩;refine Zca ?_;refine ⟨fun σ2 H2=>∃ A2 env2,EnvOk X.K B A2 H2 σ2 env2/\Cr fr X B A2 H2 D (Us t g n env2),fun σ2 H2 z=>⟨n,Nat.lt_succ_self n,z⟩,env',B,A',k'.mono s1,hst,?_⟩;have st2:Step A' H' A' H1:=Step.same s1;split at q'
    ·rename_i e2 eb
     rw [eb];exact fun A4 H4 σ4 s4 k4=>⟨A4,e2,k4,q'.step (st2.trans s4)⟩
    ·rename_i e2 eb
     rw [eb];exact fun A4 H4 σ4 s4 k4=>⟨A4,e2,k4,q'.step (st2.trans s4)⟩
    ·rename_i e2 eb
     rw [eb];exact fun A4 H4 σ4 s4 k4=>q' A4 H4 σ4 (st2.trans s4) k4
    ·rename_i d eb
     rw [eb];exact q'
    ·rename_i e2 c2 f2 eb
     rw [eb];exact fun A4 H4 σ4 s4 k4=>q' A4 H4 σ4 (st2.trans s4) k4
    ·exact q'.elim
 ·exact q.elim
def MtU (X:Cx) (id:String) (F:List Dat->List Dat->Option (List Dat)):Prop:=MtR X id (fun v us H Q=>∃ A a vs ds as ds',Ra A H/\v=.ref a/\H a=some (.lst vs)/\Rps X.K (av H A) ds vs/\Rms false X.K A H as us/\F ds as=some ds'/\∀ w vs',ds'.length<=sizeLine->Rps X.K (av H A) ds' vs'->Q w (upd H a (.lst vs')))
def Ms (i:Nat) (F:List Dat->List Dat->Option (List Dat)) (fs:Ev->Option (List Dat)):Ev->Fl:=fun env=>match env[i]? with
 | some (.ow ds)=>match (fs env).bind fun as=>F ds as with
  | some ds'=>.next (env.set i (.ow ds'))
  | none=>.no
 | _=>.no
theorem M6 (i:Nat) {x:Str} {es:List Expr} {name:Str} {id:String} {F:List Dat->List Dat->Option (List Dat)} {p apos cpos:Pos} (slot:Slot "list" name id) (hty:typeOf (.builtin id)=pure (.type "method_descriptor")) (hm:MtU X id F) (ha:PAd false X (e::es) fs)
  (hN:X.N[i]?=some x:=by rfl) (hv:Vis X.env.scope x:=by first | exact Or.inl rfl | exact Or.inr (Or.inl rfl) | exact Or.inr (Or.inr rfl)) (hd:(x==("__debug__" : Str))=false:=by decide) (hcd:(x==("__classdict__" : Str))=false:=by decide)
  (hsw:swapsWith (.Call (.Attribute (.Name x p) name apos) (e::es) [] cpos) none pos.line X.env=pure false:=by rfl)
  (hbase:attributeBase (.Name x p) name X.env (eval (.Name x p) X.env)=eval (.Name x p) X.env:=by rfl)
  (hfew:((backTo cpos (starEach (e::es) X.env)).all (fun x=>!x.1)&&(backToKw cpos (keywordEach [] X.env)).all (fun x=>x.1.isSome)
   && decide ((e::es).length+([]:List Keyword).length+(if ([]:List Keyword).isEmpty then 0 else 1)<30))=true:=by rfl)
  (hline:(apos.endLine==cpos.line)=true:=by rfl) (hs:starEach (e::es) X.env=(false,eval e X.env)::starEach es X.env:=by rfl) (hplain:(backTo cpos (starEach es X.env)).any (·.1)=false:=by rfl) :
  PSd fr X (.Expr (.Call (.Attribute (.Name x p) name apos) (e::es) [] cpos) pos) (Ms i F fs):=(O5 (Z48 PySem.F.plainAttrs_list slot hty hm (Mw hN hv hd hcd) ha hbase hfew hline hs hplain) hsw).weak fun D σ H zz=>by
 obtain ⟨env,B,A,k,hst,q⟩:=zz;unfold Ms at q;split at q
 ·rename_i ds e
  split at q
  ·rename_i ds' e2
   obtain ⟨as,e3,e4⟩:=bind_some e2;obtain ⟨a,vs,h1,h2,h3,_⟩:=k.own hst e;refine ⟨.ref a,h1,.inl ⟨rfl,vs,SqL.of h2⟩,env,B,A,as,k,e3,fun us H2 s2 rs=>?_⟩;have k2:=k.mono s2;obtain ⟨a',vs',g1,g2,g3,_,_,_,_,g4,_⟩:=k2.own hst e;rw [h1] at g1;cases g1;refine ⟨A,a,vs',ds,as,ds',k2.mu,rfl,g2,g3,rs,e4,fun w vs2 hz r2=>?_⟩;obtain ⟨z1,z2⟩:=g4 ds' vs2 hz r2;exact q A _ σ ((Step.same s2).trans z1) z2
  ·exact q.elim
 ·exact q.elim
def Vl:List Dat->List Dat->Option (List Dat)
 | ds,[d]=>if ds.length<sizeLine then some (ds++[d]) else none
 | _,_=>none
theorem Jf:MtU X "list.append" Vl:=MtR.weak (id:="list.append") Lb fun v us H Q zz=>by
 obtain ⟨A,a,vs,ds,as,ds',mu,e1,h1,r1,r2,e2,q⟩:=zz;unfold Vl at e2;split at e2
 ·rename_i d
  split at e2
  ·rename_i hl
   cases e2;obtain ⟨w,us',e3,r3,e4⟩:=r2;refine ⟨a,vs,w,e1,by rw [e3,show us'=[] from e4],h1,by rw [Y5 r1];exact hl,q _ _ (by simp;lia) (Wm r1 (M2 r3))⟩
  ·cases e2
 ·cases e2
end
inductive Rs where
 | ok (d:Dat) | exc (c:Str) (fs:List (Str×XD)) | no
def M9 (n:Nat) (ds:List Dat):Ev:=ds.map .fz++List.replicate (n - ds.length) .un
def U0 (n p:Nat) (g:Ev->Fl):List Dat->Rs:=fun ds=>if ds.length=p then (match g (M9 n ds) with
 | .ret d=>.ok d
 | .next _=>.ok .non
 | .exc _ c fs=>.exc c fs
 | _=>.no) else .no
def spD (K:PySem.W.Frag) (fr:Bool) (p:Nat) (F:List Dat->Rs):Sp:=fun vs H Q _=>vs.length=p/\∃ ds R d,Ra R H/\Rps K (av H R) ds vs/\F ds=.ok d/\∀ v H',Yj H H'->Rp K (av H' R) d v->(fr=true->NwT K ⟨H,R,true⟩ H' d v)->Q v H'
structure CalD (P:Program) (w:World) (K:PySem.W.Frag) (mg:Str->Option Value) (base:Heap) (k:Nat) (x:Str) (ps:List Str) (fr:Bool) (F:List Dat->Rs):Prop where
 cal:Cal P w K mg base k x ps (spD K fr ps.length F)
 len:∀ ds d,F ds=.ok d->ds.length=ps.length
theorem Mtb.some {o:Option HO} (h:Mtb o):∃ u,o=Option.some u:=by
 cases o with
 | none=>exact h.elim
 | some u=>exact ⟨u,rfl⟩
theorem Pq {K:PySem.W.Frag} {H:Hp} {R:AS} {N:List Str} {ds:List Dat} {vs:List V} (mu:Ra R H) (r:Rps K (av H R) ds vs) (hl:ds.length<=N.length):EnvOk K ⟨H,R,true⟩ R H (start N vs) (M9 N.length ds):=by
 have hn:=Y5 r;refine ⟨Yj.refl H,fun a h=>(mu a h).some,fun _ h=>h,fun _ h=>.inl h,mu,by simp [start,M9];lia,fun _ i d=>?_,fun _ _=>False,fun _ _ _ h=>h.elim,fun _ _ h=>h.elim,fun i s e=>?_⟩
 ·unfold M9
  rw [List.getElem?_append];split
  ·rw [getElem?_map]
   cases ds[i]?<;>simp
  ·rw [List.getElem?_replicate]
   split<;>simp
 ·unfold M9 at e
  unfold start;rw [List.getElem?_append] at e ⊢;simp only [length_map] at e ⊢;rw [hn];split at e
  ·rename_i hi
   rw [if_pos hi];rw [getElem?_map] at e ⊢;cases hd:ds[i]? with
   | none=>rw [hd] at e;cases e
   | some d =>
    rw [hd] at e;cases e;obtain ⟨v,h1,h2⟩:=Sm r hd;rw [h1];exact ⟨some v,rfl,v,rfl,h2⟩
  ·rename_i hi
   rw [if_neg hi];rw [List.getElem?_replicate] at e ⊢;split at e
   ·rename_i h2
    cases e;rw [if_pos h2];exact ⟨none,rfl,trivial⟩
   ·cases e
theorem Po {fr:Bool} {X:Cx} {N:List Str} {p:Nat} {g:Ev->Fl} {ds:List Dat} {d:Dat} {R:AS} {H:Hp} {vs:List V} {Q:VK} (hp:p<=N.length) (mu:Ra R H) (r:Rps X.K (av H R) ds vs) (hF:U0 N.length p g ds=.ok d)
  (q:∀ v H',Yj H H'->Rp X.K (av H' R) d v->(fr=true->NwT X.K ⟨H,R,true⟩ H' d v)->Q v H') :
  tS fr X g (Ends.mk (fun _ H'=>Q .non H') Q (fun _ _=>False) (fun _ _=>False)) (start N vs) H:=by
 unfold U0 at hF;split at hF
 ·rename_i hl
  refine ⟨M9 N.length ds,⟨H,R,true⟩,R,Pq mu r (by lia),rfl,?_⟩;split at hF
  ·rename_i d' e
   cases hF;rw [e];exact fun v H' s r n=>q v H' s r n
  ·rename_i env e
   cases hF;rw [e];exact fun A' H' σ' s k=>q .non H' k.h0 Ph (fun _ ds e=>by cases e)
  ·cases hF
  ·cases hF
 ·cases hF
section
variable {P:Program} {w:World} {K:PySem.W.Frag} {mg:Str->Option Value} {base:Heap}
theorem Z1z {n p:Nat} {g:Ev->Fl} {ds:List Dat} {d:Dat} (h:U0 n p g ds=.ok d):ds.length=p:=by
 unfold U0 at h;split at h
 ·assumption
 ·cases h
theorem ar0 {α:Type} {P:List α->Prop} (us:List α) (hl:us.length=0) (h:P []):P us:=by cases us with | nil=>exact h | cons _ _=>cases hl
@[elab_as_elim] theorem ar1 {α:Type} {P:List α->Prop} (us:List α) (hl:us.length=1) (h:∀ a,P [a]):P us:=by
 cases us with
 | nil=>cases hl
 | cons a us=>exact ar0 (P:=fun us=>P (a::us)) us (Nat.succ.inj hl) (h a)
@[elab_as_elim] theorem ar2 {α:Type} {P:List α->Prop} (us:List α) (hl:us.length=2) (h:∀ a b,P [a,b]):P us:=by
 cases us with
 | nil=>cases hl
 | cons a us=>exact ar1 (P:=fun us=>P (a::us)) us (Nat.succ.inj hl) (h a)
@[elab_as_elim] theorem ar3 {α:Type} {P:List α->Prop} (us:List α) (hl:us.length=3) (h:∀ a b c,P [a,b,c]):P us:=by
 cases us with
 | nil=>cases hl
 | cons a us=>exact ar2 (P:=fun us=>P (a::us)) us (Nat.succ.inj hl) (h a)
@[elab_as_elim] theorem ar4 {α:Type} {P:List α->Prop} (us:List α) (hl:us.length=4) (h:∀ a b c d,P [a,b,c,d]):P us:=by
 cases us with
 | nil=>cases hl
 | cons a us=>exact ar3 (P:=fun us=>P (a::us)) us (Nat.succ.inj hl) (h a)
@[elab_as_elim] theorem ar5 {α:Type} {P:List α->Prop} (us:List α) (hl:us.length=5) (h:∀ a b c d e,P [a,b,c,d,e]):P us:=by
 cases us with
 | nil=>cases hl
 | cons a us=>exact ar4 (P:=fun us=>P (a::us)) us (Nat.succ.inj hl) (h a)
@[elab_as_elim] theorem ar6 {α:Type} {P:List α->Prop} (us:List α) (hl:us.length=6) (h:∀ a b c d e f,P [a,b,c,d,e,f]):P us:=by
 cases us with
 | nil=>cases hl
 | cons a us=>exact ar5 (P:=fun us=>P (a::us)) us (Nat.succ.inj hl) (h a)
theorem W6 {x:Str} {st:Stmt} {N ps:List Str} {k:Nat} {fr:Bool} {g:Ev->Fl} (D:Def K mg x st) (S:FnScope N ps (Z7 st))
  (hbi:∀ (kV doc pm:Value) (an:Option Addr) (cdv ct:Value) (us:List Value),us.length=ps.length->bindArgs (fnOf x x (Qd st) (Wp st) (Z7 st) .none kV doc pm an cdv ct) ⟨us,[]⟩=pure (ps.zip us))
  (hb:∀ (f:Addr) (cdv:Value) (A:Around) (outer:List Env) (s:Shared) (H:Hp) (E:XK),Room k (A.deeper (envOfC x (Z7 st) s.heap.objs.size f cdv))->PBd fr (Kg CX0 P w K mg base N x (Z7 st) f cdv A outer s H E).nox (Wp st) g) :
  CalD P w K mg base (k+1) x ps fr (U0 N.length ps.length g):=by
 have hpl:ps.length<=N.length:=by have:=congrArg List.length S.pre;rw [length_take] at this;lia
 refine ⟨Z6w D S hbi (fun vs H Q E h=>h.1) fun f cdv A outer s H vs Q E hr ⟨hl,ds,R,d,mu,r,hF,q⟩=>⟨_,hb f cdv A outer s H E hr,?_⟩,fun ds d h=>Z1z h⟩;exact Po hpl mu r hF q
def Bu (K:PySem.W.Frag):Sp:=fun vs H Q _=>∃ (a:Addr) (ns:List Int),vs=[.ref a]/\SL K H a (ns.map V.int)/\ns.length<=63/\∀ H',Q (.bl true) H'
theorem Zau {x:Str} {st:Stmt} {f:Addr} {fd:FuncData} {N ps:List Str} {k:Nat} {g:Ev->Fl} (F:Fun K x x st f fd) (S:FnScope N ps (Z7 st)) (hps:ps.length=1)
  (hb:∀ (cdv:Value) (A:Around) (outer:List Env) (s:Shared) (H:Hp) (E:XK),Room k (A.deeper (envOfC x (Z7 st) s.heap.objs.size f cdv))->PBd false (Kg CX0 P w K mg base N x (Z7 st) f cdv A outer s H E).nox (Wp st) g)
  (law:∀ ns:List Int,ns.length<=63->U0 N.length 1 g [.lst (ns.map .int)]=.ok (.bl true)):FnOk P w K mg base CX0 (k+1) f fd ps (Bu K):=by
 have hpl:ps.length<=N.length:=by have:=congrArg List.length S.pre;rw [length_take] at this;lia
 refine Z64 F S (fun vs H Q E ⟨a,ns,e,_⟩=>by rw [e,hps];rfl) fun cdv A outer s H vs Q E hr ⟨a,ns,e,hS,hl,q⟩=>⟨_,hb cdv A outer s H E hr,?_⟩
 subst e;refine Po (R:=no) (d:=.bl true) (by lia) (fun a h=>by cases h) (ds:=[.lst (ns.map .int)]) ?_ (law ns hl) fun v H' _ r _=>by rw [Lo r];exact q H'
 rw [Z4z];refine M2 (Dw ?_ hS (S0 ns));rw [length_map];exact le_of_lt (Qo (by lia))
variable {X:Cx} {m:Bool} {fr:Bool} {F:List Dat->Rs} {k:Nat} {x:Str} {ps:List Str} {e:Expr} {es:List Expr} {fs:Ev->Option (List Dat)} {p pos:Pos}
def okR:Rs->Option Dat
 | .ok d=>some d
 | _=>none
theorem X2 {r:Rs} {d:Dat} (h:okR r=some d):r=.ok d:=by cases r<;>cases h;rfl
def Yo (F:List Dat->Rs) (fs:Ev->Option (List Dat)):Ev->Option Dat:=fun env=>(fs env).bind fun ds=>okR (F ds)
theorem Zcy (C:CalD X.prog X.w X.K X.mg X.base k x ps fr F) (hr:Room k X.A) (ha:PAd false X (e::es) fs) (hg:Gl X x:=by rfl)
  (hdb:(x==("__debug__" : Str))=false:=by decide) (he:starEach (e::es) X.env=(false,eval e X.env)::starEach es X.env:=by rfl) (hpl:(backTo pos (starEach es X.env)).any (·.1)=false:=by rfl) :
  PXd m X (.Call (.Name x p) (e::es) [] pos) (Yo F fs):=PXd.any ((Av C.cal hr ha hg hdb he hpl).weak fun σ H Q zz=>by
 obtain ⟨env,R,A,d,k,q1,q2⟩:=zz;obtain ⟨ds,e1,e2⟩:=bind_some q1;have e3:=X2 e2;refine ⟨env,R,A,ds,k,e1,fun vs H1 s1 rs=>⟨by rw [Y5 rs.rps];exact C.len ds d e3,ds,A,d,k.mu.mono s1,rs.rps,e3,fun v H' s r _=>q2 v H' (s1.trans s) r⟩⟩)
def Zab:Rs->Option (List Dat)
 | .ok (.lst ds)=>some ds
 | _=>none
theorem Z0h {r:Rs} {d:List Dat} (h:Zab r=some d):r=.ok (.lst d):=by
 unfold Zab at h;split at h
 ·cases h;rfl
 ·cases h
def Z28 (F:List Dat->Rs) (fs:Ev->Option (List Dat)):Ev->Option (List Dat):=fun env=>(fs env).bind fun ds=>Zab (F ds)
theorem Zdz (C:CalD X.prog X.w X.K X.mg X.base k x ps true F) (hr:Room k X.A) (ha:PAd false X (e::es) fs) (hg:Gl X x:=by rfl)
  (hdb:(x==("__debug__" : Str))=false:=by decide) (he:starEach (e::es) X.env=(false,eval e X.env)::starEach es X.env:=by rfl) (hpl:(backTo pos (starEach es X.env)).any (·.1)=false:=by rfl) :
  PNd X (.Call (.Name x p) (e::es) [] pos) (Z28 F fs):=(Av C.cal hr ha hg hdb he hpl).weak fun σ H Q zz=>by
 obtain ⟨env,R,A,d,k,q1,q2⟩:=zz;obtain ⟨ds,e1,e2⟩:=bind_some q1;have e3:=Z0h e2;refine ⟨env,R,A,ds,k,e1,fun vs H1 s1 rs=>⟨by rw [Y5 rs.rps];exact C.len ds _ e3,ds,A,_,k.mu.mono s1,rs.rps,e3,fun v H' s r n=>?_⟩⟩;obtain ⟨p',vs',z1,z2,z3,z4,z5⟩:=n rfl d rfl;subst z1;exact q2 p' vs' H' z4 (s1.trans s) (s1.free z2) z3 z5
mutual
def Fm:Dat->Bool
 | .lst _=>false
 | .dct _=>false
 | .exc _ _=>false
 | .tup xs=>Pw xs
 | .non=>true
 | .bl _=>true
 | .int _=>true
 | .str _=>true
def Pw:List Dat->Bool
 | []=>true
 | x::xs=>Fm x&&Pw xs
end
theorem Z7k {K:PySem.W.Frag} {H:Hp} {A:AS} {a:Addr} {vs:List V} (mu:Ra A H) (h:SqT K H a vs):SqT K (av H A) a vs:=by
 rcases h with h | h
 ·left
  have hA:A a=false:=by
   cases q:A a with
   | false=>rfl
   | true =>
    have:=mu a q;rw [h] at this;exact this.elim
  exact Qe h hA
 ·exact .inr h
mutual
theorem Rp.pure {K:PySem.W.Frag} {H:Hp} {A:AS} (mu:Ra A H):∀ {d:Dat} {v:V},Fm d=true->Rp K H d v->Rp K (av H A) d v
 | .non,v,_,r=>by rw [Lv r];exact Ph
 | .bl b,v,_,r=>by rw [Lo r];exact Tp
 | .int b,v,_,r=>by rw [D8 r];exact Wb
 | .str b,v,_,r=>by obtain ⟨e,h⟩:=L4 r;rw [e];exact Gw h
 | .lst _,v,h,_=>by cases h
 | .dct _,v,h,_=>by cases h
 | .exc _ _,v,h,_=>by cases h
 | .tup xs,v,h,r=>by
  obtain ⟨a,vs,e,h1,h2⟩:=Rj r;subst e;exact Z0s (Ae r) (Z7k mu h1) (Rps.pure mu (by simpa [Fm] using h) h2)
theorem Rps.pure {K:PySem.W.Frag} {H:Hp} {A:AS} (mu:Ra A H):∀ {ds:List Dat} {vs:List V},Pw ds=true->Rps K H ds vs->Rps K (av H A) ds vs
 | [],vs,_,r=>by rw [Yl r];exact Uv
 | d::ds,vs,h,r=>by
  obtain ⟨v,us,e,r1,r2⟩:=Zy r;subst e;rw [Pw,Bool.and_eq_true] at h;exact U2 (Rp.pure mu h.1 r1) (Rps.pure mu h.2 r2)
end
def Z21 (F:List Dat->Rs) (fs:Ev->Option (List Dat)):Ev->Option Dat:=fun env=>(fs env).bind fun ds=>(okR (F ds)).bind fun d=>if Fm d=true then some d else none
theorem Zb8 (C:CalD X.prog X.w X.K X.mg X.base k x ps fr F) (hr:Room k X.A) (ha:PAd true X (e::es) fs) (hg:Gl X x:=by rfl)
  (hdb:(x==("__debug__" : Str))=false:=by decide) (he:starEach (e::es) X.env=(false,eval e X.env)::starEach es X.env:=by rfl) (hpl:(backTo pos (starEach es X.env)).any (·.1)=false:=by rfl) :
  PXd m X (.Call (.Name x p) (e::es) [] pos) (Z21 F fs):=PXd.any ((Av C.cal hr ha hg hdb he hpl).weak fun σ H Q zz=>by
 obtain ⟨env,R,A,d,k,q1,q2⟩:=zz;obtain ⟨ds,e1,e2⟩:=bind_some q1;obtain ⟨d',e3,e4⟩:=bind_some e2;have e5:=X2 e3;split at e4
 ·rename_i hpu
  cases e4;refine ⟨env,R,A,ds,k,e1,fun vs H1 s1 rs=>⟨by rw [Y5 rs.full];exact C.len ds _ e5,ds,no,d,(fun a h=>by cases h),by rw [Z4z];exact rs.full,e5,fun v H' s r _=>q2 v H' (s1.trans s) ?_⟩⟩;rw [Z4z] at r;exact Rp.pure (k.mu.mono (s1.trans s)) hpu r
 ·cases e4)
end
section
variable {X:Cx} {m:Bool}
end
def Ite (sq:Hp->List V->Prop):It :=
 ⟨fun i H=>∃ xs x,sq H xs/\xs[i]?=some x,
  fun i H v H'=>∃ p x,v=.ref p/\H p=none/\(∀ xs,sq H xs->xs[i]?=some x)/\H'=upd H p (.tup [.int i,x]),
  fun i H=>∃ xs,sq H xs/\xs.length=i⟩
theorem Inv.turnedT {X:Cx} {pins:List (Addr×Obj)} {σ:St} {H:Hp} {s:Shared} {h':Heap} {tk:Nat} {ch:List Addr} {T:Addr} {xs:List V} {its:List Value} (I:Inv X pins σ H s) (hf:∀ b∈ch,O6 X pins H b)
  (kk:∀ b o,b∉ch->s.heap.get? b=some o->h'.get? b=some o) (hT:s.heap.objs.size<=T) (rv:Wa xs its) (hz:xs.length<=sizeLine) (ht:IsTup h' T its.toArray) :
  Inv X pins σ (upd H T (.tup xs)) { s with heap:=h',toks:=tk }:=by
 have hn:H T=none:=I.hok.fresh hT;have nch:∀ b u,H b=some u->b∉ch:=fun b u e z=>by rw [(hf b z).1] at e;cases e
 refine I.call' (ch:=ch) rfl ⟨fun b o q n _ hx=>kk b o hx q,fun b o q n _ hx=>⟨o.slots,kk b o hx q⟩,fun b o q n hx=>?_,fun b o q hx=>⟨o,kk b o hx q⟩,fun b ys q=>?_,fun b o u q=>?_,fun b ps q=>⟨#[],?_⟩⟩ (fun b u e=>?_) I.bare fun b hb=>⟨(hf b hb).2.2.2.1,(hf b hb).2.1,(hf b hb).2.2.2.2.1,(hf b hb).2.2.2.2.2⟩
 ·rw [Zg (ne_of_lt (lt_of_lt_of_le (lt_size q) hT))];exact n
 ·rw [Zg (Y6 q hn)];exact q
 ·rw [Zg (Y6 q hn)];exact q
 ·rw [Zg (Y6 q hn),q];simp
 ·by_cases hb:b=T
  ·subst hb
   rw [Zu] at e;cases e;exact ⟨hz,its,rv,ht⟩
  ·rw [Zg hb] at e
   refine (I.hok b u e).stay (fun c v hc q=>?_) (fun c q=>?_) fun c ys q=>?_
   ·rcases hc with hc | hc
    ·subst hc;exact kk c v (nch c u e) q
    ·exact kk c v (nch c _ hc) q
   ·rw [Zg (Y6 q hn)];exact q
   ·rw [Zg (Y6 q hn)];exact q
theorem Inv.turnedN {X:Cx} {pins:List (Addr×Obj)} {σ:St} {H:Hp} {s:Shared} {h':Heap} {tk:Nat} {ch:List Addr} (I:Inv X pins σ H s) (hf:∀ b∈ch,O6 X pins H b)
  (kk:∀ b o,b∉ch->s.heap.get? b=some o->h'.get? b=some o):Inv X pins σ H { s with heap:=h',toks:=tk }:=by
 have nch:∀ b u,H b=some u->b∉ch:=fun b u e z=>by rw [(hf b z).1] at e;cases e
 refine I.call' (ch:=ch) rfl ⟨fun b o q n _ hx=>kk b o hx q,fun b o q n _ hx=>⟨o.slots,kk b o hx q⟩,fun b o q n hx=>n,fun b o q hx=>⟨o,kk b o hx q⟩,fun b ys q=>q,fun b o u q=>q,fun b ps q=>⟨#[],by rw [q];simp⟩⟩ (fun b u e=>?_) I.bare fun b hb=>⟨(hf b hb).2.2.2.1,(hf b hb).2.1,(hf b hb).2.2.2.2.1,(hf b hb).2.2.2.2.2⟩
 refine (I.hok b u e).stay (fun c v hc q=>?_) (fun c q=>q) fun c ys q=>q
 rcases hc with hc | hc
 ·subst hc;exact kk c v (nch c u e) q
 ·exact kk c v (nch c _ hc) q
theorem Kz {P:Program} {w:World} {K:PySem.W.Frag} {es:List Expr} {k:Nat} {pos:Pos} (a e it:Addr) (itS:Nat->Heap->Prop) (IsS:Heap->Array Value->Prop) (sq:Hp->List V->Prop)
  (hS:∀ h h' i,itS i h->(∀ o,h.get? it=some o->h'.get? it=some o)->itS i h')
  (hO:∀ h i,itS i h->∃ o,h.get? it=some o/\o.cls≠.type "enumerate" /\ ∀ v,o.data≠.cell v)
  (hA:∀ h items,IsS h items->∃ o,h.get? a=some o/\o.cls≠.type "enumerate" /\ ∀ h' i,itS i h'->∀ o',h'.get? it=some o'->o'.cls≠o.cls)
  (hD:∀ A:Around,A.handled=none->a≠it->∀ items:Array Value,Draws P w A it [it,a] items.size (fun i v=>items[i]?=some v) (fun i h=>itS i h/\IsS h items))
  (hg:∀ (X:Cx) (pins:List (Addr×Obj)) (σ:St) (H:Hp) (s:Shared) (xs:List V),X.K=K->Inv X pins σ H s->sq H xs->∃ its,Wa xs its/\IsS s.heap its.toArray)
  (hj:∀ (X:Cx) (pins:List (Addr×Obj)) (σ:St) (H:Hp) (s:Shared) (xs ys:List V),X.K=K->Inv X pins σ H s->sq H xs->sq H ys->xs=ys) :
  Turn P w K (.Tuple es k pos) (Ite sq) [e,it] e (fun i h=>(∃ old,IsEnum h e it i old)/\itS i h) where
 mem:=by simp
 obj:=fun i h st b hb=>by
  rcases mem_cons.mp hb with rfl | hb
  ·obtain ⟨⟨old,z⟩,_⟩:=st;exact ⟨_,z,fun v q=>by cases q⟩
  ·rw [mem_singleton.mp hb];obtain ⟨o,h1,_,h2⟩:=hO h i st.2;exact ⟨o,h1,h2⟩
 keep:=fun i h h' st kk=>by
  obtain ⟨⟨old,z⟩,q⟩:=st;exact ⟨⟨old,kk e (by simp) _ z⟩,hS h h' i q fun o r=>kk it (by simp) o r⟩
 item:=by
  intro X hP hw hK hc i pins s σ H E I hf st hgo;subst hP hw;obtain ⟨xs,x,hsq,hx⟩:=hgo;obtain ⟨its,rv,hI⟩:=hg X pins σ H s xs hK I hsq;obtain ⟨u,hu,ru⟩:=rv.get hx;obtain ⟨⟨old,hE⟩,hIt⟩:=st;obtain ⟨oi,hoi,hci,_⟩:=hO _ _ hIt;obtain ⟨oa,hoa,hca,hcc⟩:=hA _ _ hI;have hne:a≠it:=by intro z;rw [z,hoi] at hoa;cases hoa;exact hcc _ _ hIt _ hoi rfl
  have hei:e≠it:=by intro z;rw [← z,hE] at hoi;cases hoi;exact hci rfl
  have hea:e≠a:=by intro z;rw [← z,hE] at hoa;cases hoa;exact hca rfl
  have W:=WalksT.enumerateD (hD X.A.in1 (I.ok.hd hc) hne its.toArray) e hei (by simp [hei,hea]) (by simp);have hi:i<its.toArray.size:=by rw [size_toArray];exact (List.getElem?_eq_some_iff.mp hu).1
  refine W.item i s _ _ hi ⟨⟨old,hE⟩,hIt,hI⟩ fun T vals h' tk hPt hT hTup hM hk=>⟨.ref T,rfl,W.go es k pos i T _ _ _ hM fun h2 hst hk2=>?_⟩
  obtain ⟨t,x',hx',rfl⟩:=hPt;have hxu:x'=u:=by
   have:its[i]?=some x':=by simpa using hx'
   rw [hu] at this;exact (Option.some.inj this).symm
  subst hxu;have hTup2:IsTup h2 T #[.int i t,x']:=by
   obtain ⟨o,ho,r⟩:=hTup;exact ⟨o,hk2 T o (W.apart i T h' hM) ho,r⟩
  have I2:=Inv.turnedT (s:=s) (h':=h2) (tk:=tk) (ch:=[e,it]) (its:=[.int i t,x']) (xs:=[.int i,x]) I hf (fun b o hb q=>hk2 b o hb (hk b o hb q)) hT (.cons ⟨t,rfl⟩ (.cons ru .nil)) (by show 2<=sizeLine;decide) hTup2;refine ⟨.ref T,upd H T (.tup [.int i,x]),I2,rfl,⟨T,x,rfl,I.hok.fresh hT,fun ys hy=>?_,rfl⟩,⟨hst.1,hst.2.1⟩,fun b hb=>?_⟩
  ·rw [hj X pins σ H s ys xs hK I hy hsq];exact hx
  ·rw [Zg ?_];exact (hf b hb).1
   intro z;have hlt:b<s.heap.objs.size:=by
    rcases mem_cons.mp hb with rfl | hb
    ·exact lt_size hE
    ·rw [mem_singleton.mp hb];exact lt_size hoi
   exact absurd (lt_of_lt_of_le hlt (by rw [z];exact hT)) (lt_irrefl _)
 done:=by
  intro X hP hw hK hc i pins s σ H E I hf st hs;subst hP hw;obtain ⟨xs,hsq,hl⟩:=hs;obtain ⟨its,rv,hI⟩:=hg X pins σ H s xs hK I hsq;obtain ⟨⟨old,hE⟩,hIt⟩:=st;obtain ⟨oi,hoi,hci,_⟩:=hO _ _ hIt;obtain ⟨oa,hoa,hca,hcc⟩:=hA _ _ hI;have hne:a≠it:=by intro z;rw [z,hoi] at hoa;cases hoa;exact hcc _ _ hIt _ hoi rfl
  have hei:e≠it:=by intro z;rw [← z,hE] at hoi;cases hoi;exact hci rfl
  have hea:e≠a:=by intro z;rw [← z,hE] at hoa;cases hoa;exact hca rfl
  have W:=WalksT.enumerateD (hD X.A.in1 (I.ok.hd hc) hne its.toArray) e hei (by simp [hei,hea]) (by simp);have hn:its.toArray.size=i:=by rw [size_toArray,← rv.length];exact hl
  refine W.done s _ _ (by rw [hn];exact ⟨⟨old,hE⟩,hIt,hI⟩) fun h' tk hk=>⟨rfl,I.turnedN (ch:=[e,it]) hf fun b o hb q=>hk b o hb q⟩
 self:=fun A i s Q E st h=>by
  obtain ⟨⟨old,z⟩,_⟩:=st;exact wpAny_pyIter_enum z h
section
variable {st m:Bool} {X:Cx} {l:Expr} {es:List Expr} {f:Ev->Option Dat} {tk:Nat} {tpos:Pos}
theorem X9 (a e it:Addr):Turn X.prog X.w X.K (.Tuple es tk tpos) (Ite fun H xs=>SqT X.K H a xs) [e,it] e (fun i h=>(∃ old,IsEnum h e it i old)/\h.IsTupleIter it a i) :=
 Kz a e it (fun i h=>h.IsTupleIter it a i) (fun h items=>h.IsTuple a items) _ (fun h h' i q kk=>let ⟨o,h1,r⟩:=q;⟨o,kk o h1,r⟩)
  (fun h i q=>let ⟨o,h1,h2,h3⟩:=q;⟨o,h1,by rw [h2];decide,fun v z=>by rw [h3] at z;cases z⟩)
  (fun h items q=>let ⟨o,h1,h2,_⟩:=q;⟨o,h1,by rw [h2];decide,fun h' i r o' e'=>by obtain ⟨o2,g1,g2,_⟩:=r;rw [g1] at e';cases e';rw [g2,h2];decide⟩)
  (fun A hh hne items=>Draws.tupleD hh it a hne items)
  (fun Y pins σ H s xs hK I h=>by rw [← hK] at h;obtain ⟨its,r,p,_⟩:=I.tuple h;exact ⟨its,r,p⟩)
  (fun Y pins σ H s xs ys hK I h h'=>by rw [← hK] at h h';exact I.tuple_inj h h')
theorem Xw (a e it:Addr):Turn X.prog X.w X.K (.Tuple es tk tpos) (Ite fun H xs=>SqL X.K H a xs) [e,it] e (fun i h=>(∃ old,IsEnum h e it i old)/\h.IsListIter it a i) :=
 Kz a e it (fun i h=>h.IsListIter it a i) (fun h items=>h.IsList a items) _ (fun h h' i q kk=>let ⟨o,h1,r⟩:=q;⟨o,kk o h1,r⟩)
  (fun h i q=>let ⟨o,h1,h2,h3⟩:=q;⟨o,h1,by rw [h2];decide,fun v z=>by rw [h3] at z;cases z⟩)
  (fun h items q=>let ⟨o,h1,h2,_⟩:=q;⟨o,h1,by rw [h2];decide,fun h' i r o' e'=>by obtain ⟨o2,g1,g2,_⟩:=r;rw [g1] at e';cases e';rw [g2,h2];decide⟩)
  (fun A hh hne items=>Draws.list hh it a hne items)
  (fun Y pins σ H s xs hK I h=>by rw [← hK] at h;obtain ⟨its,r,p,_⟩:=I.list h;exact ⟨its,r,p.isList⟩)
  (fun Y pins σ H s xs ys hK I h h'=>by rw [← hK] at h h';exact I.list_inj h h')
def Ex:Nat->List Dat->List Dat
 | _,[]=>[]
 | k,x::xs=>.tup [.int k,x]::Ex (k+1) xs
theorem Ht:∀ (xs:List Dat) (k i:Nat),(Ex k xs)[i]?=(xs[i]?).map fun x=>.tup [.int ((k+i:Nat):Int),x]
 | [],k,i=>by simp [Ex]
 | x::xs,k,0=>by simp [Ex]
 | x::xs,k,i+1=>by
  rw [Ex,List.getElem?_cons_succ,List.getElem?_cons_succ,Ht xs (k+1) i,show k+1+i=k+(i+1) by lia]
theorem Ul:∀ (xs:List Dat) (k:Nat),(Ex k xs).length=xs.length
 | [],_=>rfl
 | x::xs,k=>by rw [Ex,length_cons,length_cons,Ul xs]
def O9 (f:Ev->Option Dat):Ev->Option (List Dat):=fun env=>(Rv f env).map (Ex 0)
theorem Ka {K:PySem.W.Frag} {A:AS} {H:Hp} {vs:List V} {ds:List Dat} {sq:Hp->List V->Prop} (h:∀ A1 H1,Adv st A H A1 H1->sq H1 vs) (r:Rps K (av H A) ds vs):Z41 st K A H (Ex 0 ds) (Ite sq):=fun A1 H1 adv mu=>by
 have h1:=h A1 H1 adv;have r1:=r.mono adv.step.av;refine ⟨fun i x e=>?_,⟨vs,h1,by rw [Ul];exact Y5 r⟩⟩;rw [Ht] at e;obtain ⟨d,e1,e2⟩:=map_some e;subst e2;obtain ⟨v,e3,e4⟩:=Sm r1 e1;refine ⟨⟨vs,v,h1,e3⟩,fun v' H2 ⟨p,x,z1,z2,z3,z4⟩=>?_⟩;subst z1 z4;have:=z3 vs h1;rw [e3] at this;cases this;refine ⟨Yj.new z2,Z0s (by show 2<=sizeLine;decide) (.inl (Qe Zu (mu.new z2))) (U2 ?_ (M2 (e4.mono (Vd (Yj.new z2)))))⟩;rw [zero_add];exact Wb
def Z79 (K:PySem.W.Frag) (ta:TA):TI:=fun σ H R=>ta σ H fun vs H1=>∃ a,vs=[.ref a]/\(∃ xs,SqL K H1 a xs)/\R (Ite fun H xs=>SqL K H a xs) H1
def Z9g (K:PySem.W.Frag) (ta:TA):TI:=fun σ H R=>ta σ H fun vs H1=>∃ a,vs=[.ref a]/\(∃ xs,SqT K H1 a xs)/\R (Ite fun H xs=>SqT K H a xs) H1
theorem fp2 {pins:List (Addr×Obj)} {σ:St} {H:Hp} {s:Shared} (I:Inv X pins σ H s):∀ b∈[s.heap.objs.size+1,s.heap.objs.size],O6 X pins H b:=fun b hb=>by
 rcases mem_cons.mp hb with rfl | hb
 ·exact I.fpOk (le_succ _) (I.hok.fresh (le_succ _))
 ·rw [mem_singleton.mp hb];exact I.fpOk (le_refl _) (I.hok.fresh (le_refl _))
theorem On {ta:TA} {p pos:Pos} (hg:Gl X "enumerate") (hm:X.mg "enumerate" = none) (hv:bootBuiltins "enumerate" = some (.type "enumerate")) (ha:PA X [l] ta) (hs:starEach [l] X.env=[(false,eval l X.env)]:=by rfl):PI X (.Tuple es tk tpos) (.Call (.Name "enumerate" p) [l] [] pos) (Z79 X.K ta):=by
 intro pins s σ H R I h;refine Call_ (Ri I hg hm hv (PyProof.Rows.callWith_type1 (thn (ha pos pins s σ H _ I h) fun us s1 ⟨vs,H1,I1,r1,q1⟩=>?_) hs rfl));obtain ⟨a,e,⟨xs,hq⟩,q⟩:=q1;subst e;obtain ⟨u,rfl,ru⟩:=Sr r1;cases ru;obtain ⟨its,rv,pl,hz⟩:=I1.list hq;refine call_enumerate_list pl.isList fun h' h1 h2 h3 h4=>?_
 have I2:Inv X pins σ H1 { s1 with heap:=h' }:=I1.kept (t':=s1.toks) h4;refine wpAny_pyIter_enum (s:={ s1 with heap:=h' }) h1 ?_;exact ⟨s1.heap.objs.size+1,[s1.heap.objs.size+1,s1.heap.objs.size],_,_,H1,rfl,I2,Xw a _ _,⟨⟨_,h1⟩,h2⟩,fp2 I1,q⟩
theorem P3 {ta:TA} {p pos:Pos} (hg:Gl X "enumerate") (hm:X.mg "enumerate" = none) (hv:bootBuiltins "enumerate" = some (.type "enumerate")) (ha:PA X [l] ta) (hs:starEach [l] X.env=[(false,eval l X.env)]:=by rfl):PI X (.Tuple es tk tpos) (.Call (.Name "enumerate" p) [l] [] pos) (Z9g X.K ta):=by
 intro pins s σ H R I h;refine Call_ (Ri I hg hm hv (PyProof.Rows.callWith_type1 (thn (ha pos pins s σ H _ I h) fun us s1 ⟨vs,H1,I1,r1,q1⟩=>?_) hs rfl));obtain ⟨a,e,⟨xs,hq⟩,q⟩:=q1;subst e;obtain ⟨u,rfl,ru⟩:=Sr r1;cases ru;obtain ⟨its,rv,pl,hz⟩:=I1.tuple hq;refine Mr (show s1.heap.IsTuple a its.toArray from pl) fun h' h1 h2 h3 h4=>?_
 have I2:Inv X pins σ H1 { s1 with heap:=h' }:=I1.kept (t':=s1.toks) h4;refine wpAny_pyIter_enum (s:={ s1 with heap:=h' }) h1 ?_;exact ⟨s1.heap.objs.size+1,[s1.heap.objs.size+1,s1.heap.objs.size],_,_,H1,rfl,I2,X9 a _ _,⟨⟨_,h1⟩,h2⟩,fp2 I1,q⟩
theorem Lq {p pos:Pos} (hg:Gl X "enumerate") (hm:X.mg "enumerate" = none) (h:PXd false X l f) (hv:bootBuiltins "enumerate" = some (.type "enumerate"):=by decide +kernel) (hs:starEach [l] X.env=[(false,eval l X.env)]:=by rfl):PId st X (.Tuple es tk tpos) (.Call (.Name "enumerate" p) [l] [] pos) (O9 f) :=
 ((On hg hm hv (Ve h Jn hs) hs).or (P3 hg hm hv (Ve h Jn hs) hs)).weak fun σ H R' zz=>by
 obtain ⟨env,R,A,ds,k,e,q⟩:=zz;obtain ⟨xs,e0,e1⟩:=map_some e;subst e1;unfold Rv at e0;split at e0
 ·rename_i ys e1
  cases e0;refine .inl ⟨env,R,A,.lst xs,k,e1,fun v H1 s1 p1=>?_⟩;obtain ⟨a,vs,e2,h1,r1⟩:=R0 (show Rp X.K (av H1 A) (.lst xs) v from p1);subst e2;exact ⟨a,rfl,⟨vs,(Yv.sl h1).sq⟩,q _ H1 (by rw [Ul];exact p1.pk.lenL) s1 (Ka (vs:=vs) (fun A1 H2 adv=>(Yv.sl (adv.step.av.sl h1)).sq) r1)⟩
 ·rename_i ys e1
  cases e0;refine .inr ⟨env,R,A,.tup xs,k,e1,fun v H1 s1 p1=>?_⟩;obtain ⟨a,vs,e2,h1,r1⟩:=Rj (show Rp X.K (av H1 A) (.tup xs) v from p1);subst e2;exact ⟨a,rfl,⟨vs,Yv.seqT h1⟩,q _ H1 (by rw [Ul];exact p1.pk.lenT) s1 (Ka (vs:=vs) (fun A1 H2 adv=>Yv.seqT (adv.step.av.seqT h1)) r1)⟩
 ·cases e0
theorem Z04 {p pos:Pos} (hg:Gl X "enumerate") (hm:X.mg "enumerate" = none) (h:PXd true X l f) (hv:bootBuiltins "enumerate" = some (.type "enumerate"):=by decide +kernel) (hs:starEach [l] X.env=[(false,eval l X.env)]:=by rfl):PId false X (.Tuple es tk tpos) (.Call (.Name "enumerate" p) [l] [] pos) (O9 f) :=
 ((On hg hm hv (Ve h Jn hs) hs).or (P3 hg hm hv (Ve h Jn hs) hs)).weak fun σ H R' zz=>by
 obtain ⟨env,R,A,ds,k,e,q⟩:=zz;obtain ⟨xs,e0,e1⟩:=map_some e;subst e1;unfold Rv at e0;split at e0
 ·rename_i ys e1
  cases e0;refine .inl ⟨env,R,A,.lst xs,k,e1,fun v H1 s1 p1=>?_⟩;obtain ⟨a,vs,e2,h1,r1⟩:=p1.pk.lst;subst e2;exact ⟨a,rfl,⟨vs,h1.sq⟩,q _ H1 (by rw [Ul];exact p1.pk.lenL) s1 (Ka (vs:=vs) (fun A1 H2 adv=>(adv.2.sl h1).sq) r1)⟩
 ·rename_i ys e1
  cases e0;refine .inr ⟨env,R,A,.tup xs,k,e1,fun v H1 s1 p1=>?_⟩;obtain ⟨a,vs,e2,h1,r1⟩:=p1.pk.tup;subst e2;exact ⟨a,rfl,⟨vs,h1⟩,q _ H1 (by rw [Ul];exact p1.pk.lenT) s1 (Ka (vs:=vs) (fun A1 H2 adv=>adv.2.seqT h1) r1)⟩
 ·cases e0
end
end L2
namespace PySem
open Sem (wp)
open AutoSeq1 (wpAny_loadPart')
namespace F
theorem nolen_lr:typeLookup (.type "list_reverseiterator") "__len__" = pure none:=by rw [typeLookup_type,builtinLookup_eq_fast];kernel_rfl
theorem hint_lr:typeLookup (.type "list_reverseiterator") "__length_hint__" = pure (some (.builtin "list_reverseiterator.__length_hint__")):=by rw [typeLookup_type,builtinLookup_eq_fast];kernel_rfl
end F
section
variable {prog:Program} {w:World} {A:Around} {E:Value->Shared->Prop} {s:Shared}
end
section
variable {prog:Program} {w:World} {A:Around} {s:Shared} {R:Result->Shared->Prop}
variable {I:Addr} {fp wr:List Addr} {G:Array GenState->Array GenState->Prop} {n:Nat} {P:Nat->Value->Prop} {St:Nat->Shared->Prop}
def P6 (prog:Program) (w:World) (A:Around) (I:Addr) (St:Nat->Shared->Prop):Prop:=∀ (s:Shared) (Q:Bool->Shared->Prop) (E:Value->Shared->Prop),St 0 s->(∀ tk,s.toks<=tk->Q false { s with toks:=tk })->wpAny (model prog w) A (Builtin.List.listLengthHint (.ref I)) Q E s
theorem Ga {T:String} (W:WalksS prog w A.in1 I fp wr G n P St) (hT:∀ i s,St i s->s.TypeIs (.ref I) T) (hTm:T="range_iterator" \/ T="list_reverseiterator") (hh:P6 prog w A.in1 I St) (S:Addr) (res:Value) (c₀:Nat) (hst:St 0 s) (hSf:S∉fp) (hI:I∈fp)
  (hS:s.heap.get? S=some { cls:=.type "list",data:=.seq #[] c₀ })
  (hR:∀ s' acc' c',Moved (S::wr) G s s'->s'.heap.get? S=some { cls:=.type "list",dict:=none,data:=.seq acc' c',slots:=#[] }->ItemsOf P acc' n->R (.ok (.ret res)) s') (hn:n<=sizeLine) :
  wpAny (model prog w) A.in1 (Builtin.List.listExtendWith (.ref S) (.ref I) res)
   (fun fin s'=>match fin with | .done f=>R (.ok f) s' | .again c'=>c'.quiet=true/\codeAny (model prog w) A c' R s') (fun e s'=>R (.error e) s') s:=by
 have hSI:S≠I:=fun e=>hSf (e▸hI)
 unfold Builtin.List.listExtendWith;refine wpAny_bind (wpAny_typeOf (hT 0 _ hst) ?_);have h1:Builtin.List.listSameRef (.ref S) (.ref I)=false:=by simp [Builtin.List.listSameRef,hSI]
 have h2:(Value.type T==Value.type "list")=false:=by rcases hTm with rfl | rfl<;>decide
 have h3:(Value.type T==Value.type "tuple")=false:=by rcases hTm with rfl | rfl<;>decide
 simp only [h1,h2,h3,Bool.or_false,Bool.false_eq_true,if_false];refine wpAny_bind (W.self 0 _ _ _ hst ?_);refine wpAny_bind (wpAny_holding (hh s _ _ hst fun tk htk=>?_));rw [if_neg (by rcases hTm with rfl | rfl<;>decide)];have hst₂:=W.frame 0 _ _ tk hst htk fun b _ o e=>e
 refine wpAny_pure ⟨plainId_quiet F.plain_extend_loop _,codeAny_extend_loopS W hn _ hSf _ n 0 _ _ _ rfl (zero_le _) hst₂ hS (ItemsOf.nil P) fun s' acc' c' hm hS' hacc=>?_⟩;exact hR s' acc' c' (Moved.trans W.gtrans ((Moved.refl W.grefl).then_heap htk fun b o hb e=>e) hm) hS' hacc
theorem Rb {T:String} (W:WalksS prog w A.in1 I fp wr G n P St) (hT:∀ i s,St i s->s.TypeIs (.ref I) T) (hTm:T="range_iterator" \/ T="list_reverseiterator") (hh:P6 prog w A.in1 I St) (S:Addr) (hst:St 0 s) (hSf:S∉fp) (hI:I∈fp)
  (hS:s.heap.get? S=some { cls:=.type "list",data:=.seq #[] })
  (hR:∀ s' acc' c',Moved (S::wr) G s s'->s'.heap.get? S=some { cls:=.type "list",dict:=none,data:=.seq acc' c',slots:=#[] }->ItemsOf P acc' n->R (.ok (.ret .none)) s') (hn:n<=sizeLine) :
  wpAny (model prog w) A.in1 (Builtin.«list.__init__» ⟨[.ref S,.ref I],[]⟩)
   (fun fin s'=>match fin with | .done f=>R (.ok f) s' | .again c'=>c'.quiet=true/\codeAny (model prog w) A c' R s') (fun e s'=>R (.error e) s') s:=by
 show wpAny _ A.in1 (do let old ← Builtin.List.listItems (.ref S);Builtin.List.listUpdate (.ref S) (fun _=>#[]);letGo old.toList.reverse;Builtin.List.listExtendWith (.ref S) (.ref I) .none) _ _ s;refine wpAny_bind ?_;unfold Builtin.List.listItems;refine wpAny_bind (wpAny_seqItems hS rfl (wpAny_pure ?_));show wpAny _ A.in1 (updateSeq S (fun _=>#[]) >>= fun _=>letGo (#[]:Array Value).toList.reverse >>= fun _=>Builtin.List.listExtendWith (.ref S) (.ref I) .none) _ _ s;refine wpAny_bind (wpAny_updateSeq hS rfl ?_);have hS₂:=get?_update_self (Obj.mapSeq (fun _=>(#[]:Array Value))) hS rfl;have oth:∀ b o,b≠S->s.heap.get? b=some o->(s.heap.update S (Obj.mapSeq (fun _=>(#[]:Array Value)))).get? b=some o :=
  fun b o hb e=>(get?_update_other _ _ (Ne.symm hb)).trans e
 refine wpAny_bind (wpAny_letGo ?_);refine Ga (hn:=hn) W hT hTm hh S .none _ (W.frame 0 s _ s.toks hst (le_refl _) fun b hb o e=>oth b o (fun h=>hSf (h▸hb)) e) hSf hI hS₂ fun s' acc' c' hm hS' hacc=>?_
 exact hR s' acc' c' (Moved.trans W.gtrans ((Moved.refl W.grefl).then_heap (le_refl _) fun b o hb e=>oth b o (fun h=>hb (h▸mem_cons_self)) e) hm) hS' hacc
end
section
variable {prog:Program} {w:World} {A:Around} {E:Value->Shared->Prop} {s:Shared}
variable {I:Addr} {fp wr:List Addr} {n:Nat} {P:Nat->Value->Prop} {St:Nat->Shared->Prop}
theorem Kt {T:String} {Q:Value->Shared->Prop} (W:WalksS prog w A.in1.in1 I fp wr (fun a b=>b=a) n P St) (hT:∀ i s,St i s->s.TypeIs (.ref I) T) (hTm:T="range_iterator" \/ T="list_reverseiterator") (hh:P6 prog w A.in1.in1 I St) (hst:St 0 s) (hfp:∀ b∈fp,b<s.heap.objs.size) (hI:I∈fp)
  (hQ:∀ h' tk acc' c',(∀ b o,b∉wr->s.heap.get? b=some o->h'.get? b=some o)->h'.get? s.heap.objs.size=some { cls:=.type "list",dict:=none,data:=.seq acc' c',slots:=#[] }->ItemsOf P acc' n->Q (.ref s.heap.objs.size) { s with heap:=h',toks:=tk }) (hn:n<=sizeLine) :
  wpAny (model prog w) A (call (.type "list") [.ref I]) Q E s:=by
 have hSf:s.heap.objs.size∉fp:=fun hm=>lt_irrefl _ (hfp _ hm)
 refine callType_codes (Q₁:=fun obj s₁=>obj=.ref s.heap.objs.size/\s₁={ s with heap:=s.heap.push { cls:=.type "list",data:=.seq #[] } }) F.called_list (F.typeCall_list_1 _) F.entry_list_init
  (code_list_new _ ⟨rfl,rfl⟩) fun obj s₁ h₁=>?_
 obtain ⟨rfl,rfl⟩:=h₁;have hS:(s.heap.push { cls:=.type "list",data:=.seq #[] }).get? s.heap.objs.size=some { cls:=.type "list",data:=.seq #[] }:=get?_push_size _ rfl;refine ⟨⟨_,hS,rfl⟩,F.args_list_init_2 _ _,Rb (hn:=hn) W hT hTm hh _ (W.frame 0 s _ s.toks hst (le_refl _) fun b _ o e=>get?_push_of_some _ e) hSf hI hS fun s' acc' c' hm hS' hacc=>?_⟩;refine ⟨rfl,?_⟩;rw [Moved.eq_with hm];refine hQ s'.heap s'.toks acc' c' (fun b o hb e=>hm.heap b o (fun hmem=>?_) (get?_push_of_some _ e)) hS' hacc;rcases mem_cons.mp hmem with e' | hmem
 ·exact absurd (lt_size e) (by rw [e'];exact lt_irrefl _)
 ·exact hb hmem
end
section
variable {prog:Program} {w:World} {A:Around}
theorem Z1f (it:Addr) (St:Nat->Shared->Prop) (hT:∀ s,St 0 s->s.TypeIs (.ref it) "list_reverseiterator"):P6 prog w A it St:=fun s Q E hst hQ=>by
 unfold Builtin.List.listLengthHint;refine wpAny_bind (wpAny_specialOf (hT s hst) F.nolen_lr ?_);show wpAny _ _ (specialOf (Value.ref it) (Str.ofString "__length_hint__") >>= _) _ _ _;refine wpAny_bind (wpAny_specialOf (hT s hst) F.hint_lr ?_)
 (generalize hid:("list_reverseiterator.__length_hint__" : String)=id0;(fail_if_success (clear hid id0));wp_delta;rw [show splitId id0=some ("list_reverseiterator","__length_hint__") from by subst hid;decide +kernel];subst hid)
 refine wpAny_bind (wpAny_isInstance (b:=true) (hT s hst) (by rw [isSubtype_type];kernel_rfl) ?_);exact wpAny_pure (hQ s.toks (le_refl _))
end
end PySem
namespace L2
open PySem PySem.Spec PyProof.Rows
section
variable {X:Cx} {m:Bool} {e:Expr} {f:Ev->Option Dat} {fs:Ev->Option (List Dat)}
theorem Dx (h:Heap) (o:Obj):(h.push o).objs.size=h.objs.size+1:=by cases h;exact Array.size_push ..
def dLR (fs:Ev->Option (List Dat)):Ev->Option (List Dat):=fun env=>match fs env with
 | some [.lst xs]=>some xs.reverse
 | _=>none
theorem Wa.rev:∀ {xs:List V} {us:List Value},Wa xs us->Wa xs.reverse us.reverse
 | [],[],_=>.nil
 | x::xs,u::us,.cons h r=>by rw [reverse_cons,reverse_cons];exact (Wa.rev r).append (.cons h .nil)
theorem C6 {p1 p2 q1 q2:Pos} (hgL:Gl X "list") (hmL:X.mg "list" = none) (hgR:Gl X "reversed") (hmR:X.mg "reversed" = none) (ha:PAd true X [e] fs) (hc:X.calm=true:=by rfl)
  (hvL:bootBuiltins "list" = some (.type "list"):=by decide +kernel) (hvR:bootBuiltins "reversed" = some (.type "reversed"):=by decide +kernel)
  (hs1:starEach [.Call (.Name "reversed" p2) [e] [] q2] X.env=[(false,eval (.Call (.Name "reversed" p2) [e] [] q2) X.env)]:=by rfl)
  (hs3:starEach [e] X.env=[(false,eval e X.env)]:=by rfl) :
  PNd X (.Call (.Name "list" p1) [.Call (.Name "reversed" p2) [e] [] q2] [] q1) (dLR fs):=by
 intro pins s σ H Q I ⟨env,R,A,ds,k,e1,q⟩;unfold dLR at e1;split at e1
 case h_2=>cases e1
 rename_i xs en;cases e1;refine Call_ (Ri I hgL hmL hvL (callWith_type1 ?_ hs1 rfl));rw [hs1];refine Calls.spliced_cons ?_;refine Call_ (Ri I hgR hmR hvR (callWith_type1 (thn (ha q2 pins s σ H (fun vs H1=>∃ v,Yj H H1/\vs=[v]/\Pk X.K A H1 (.lst xs) v) I ⟨env,R,A,[.lst xs],k,en,fun vs H1 s1 r1=>?_⟩) fun us s1 ⟨vs,H1,I1,r1,v,sm,ev,pv⟩=>?_) hs3 rfl))
 ·obtain ⟨v,e3,p1⟩:=r1.one
  exact ⟨v,s1,e3,p1⟩
 subst ev;obtain ⟨a,ys,ea,h1,r2⟩:=pv.lst;subst ea;obtain ⟨u,rfl,ru⟩:=Sr r1;cases ru;obtain ⟨its,rv0,pl,hz⟩:=I1.list h1.sq;refine call_reversed_list pl.isList ?_;refine Calls.spliced_nil ?_;have hlt:=I1.hok;obtain ⟨oa,hoa,_⟩:=id pl.isList;have hne:a≠s1.heap.objs.size:=ne_of_lt (lt_size hoa);have W:=(Walks.listRev (prog:=X.prog) (w:=X.w) (A:=X.A.in1.in1) (I1.ok.hd hc) s1.heap.objs.size a hne its.toArray).toS;have hlen:=rv0.length;refine Kt W (T:="list_reverseiterator") (fun i s st=>st.2.1.typeIs) (.inr rfl) (Z1f _ _ fun s st=>st.2.1.typeIs) ⟨zero_le _,?_,pl.isList.at fun o eo=>get?_push_of_some _ eo⟩ ?_ (by simp) ?_ ?_
 ·refine ⟨_,get?_push_size _ rfl,rfl,?_⟩
  simp [revObj]
 ·intro b hb
  rcases mem_cons.mp hb with rfl | hb
  ·rw [Dx];exact Nat.lt_succ_self _
  ·rw [mem_singleton.mp hb]
   exact lt_of_lt_of_le (lt_size hoa) (by rw [Dx];lia)
 ·intro h' tk acc' c' hk hl hi
  have kp:∀ b o,s1.heap.get? b=some o->h'.get? b=some o:=fun b o eb=>hk b o (fun hm=>by
   have hlt:=lt_size eb;rw [mem_singleton.mp hm] at hlt;exact lt_irrefl _ hlt) (get?_push_of_some _ eb)
  have eacc:acc'.toList=its.reverse:=by
   apply List.ext_getElem?;intro i;by_cases hi':i<its.length
   ·have hia:i<acc'.size:=by rw [hi.1];simpa using hi'
    have:=hi.2 i acc'[i] (by simp [hia]);rw [Array.getElem?_toList,Array.getElem?_eq_getElem hia,List.getElem?_reverse hi'];simpa using this.symm
   ·rw [List.getElem?_eq_none (l:=acc'.toList) (by rw [Array.length_toList,hi.1];simpa using hi'),List.getElem?_eq_none (l:=its.reverse) (by rw [List.length_reverse];exact Nat.le_of_not_lt hi')]
  generalize hS:({ heap:=s1.heap.push (revObj a ((its.toArray.size:Int) - 1)),gens:=s1.gens,drawn:=s1.drawn,toks:=s1.toks,os:=s1.os }:Shared).heap.objs.size=S at hl ⊢;have hSz:s1.heap.objs.size<=S:=by
   rw [← hS];show _<=(Heap.push _ _).objs.size;rw [Dx];exact le_succ _
  have I2:Inv X pins σ (upd H1 S (.lst ys.reverse)) { s1 with heap:=h',toks:=tk }:=I1.laid kp hSz (show Wf X.prog X.w _ h' _ (.lst ys.reverse) from ⟨by rw [List.length_reverse];exact hz,acc'.toList,c',by rw [eacc];exact rv0.rev,by rw [Array.toArray_toList];exact hl⟩);exact ⟨.ref S,_,I2,rfl,(q.mono sm).at (vs:=ys.reverse) (by rw [List.length_reverse,← Y5 r2];exact hz) (Z5y r2) _ (I1.hok.fresh hSz)⟩
 ·rw [size_toArray,← hlen];exact hz
def Z3q:List Dat->Option Dat
 | [.int i]=>some (.int i)
 | [.bl b]=>some (.int (if b then 1 else 0))
 | _=>none
theorem Z5i:Lg X (.type "int") Z3q:=Ce.weak fun vs H Q zz=>by
 obtain ⟨A,ds,d,mu,e,p,q⟩:=zz;unfold Z3q at e;split at e
 ·obtain ⟨v,e1,p1⟩:=p.one
  cases e;exact .inl ⟨_,by rw [e1,p1.int],q.here Wb⟩
 ·obtain ⟨v,e1,p1⟩:=p.one
  cases e;exact .inr ⟨_,by rw [e1,p1.bl],q.here Wb⟩
 ·cases e
def Zb1:Dat->Dat->Option Dat
 | .str x,.int k=>if 1<=k/\k<=1000/\x.length<=1000 then some (.str (Txt.mul x k)) else none
 | _,_=>none
theorem Ox {α:Type} (x:Array α) (c:α):∀ (n:Nat) (acc:Array α),c∈(List.replicate n x).foldl (·++·) acc->c∈acc\/c∈x
 | 0,acc,h=>.inl h
 | n+1,acc,h=>by
  rw [List.replicate_succ,List.foldl_cons] at h;rcases Ox x c n _ h with h | h
  ·rcases Array.mem_append.mp h with h | h
   ·exact .inl h
   ·exact .inr h
  ·exact .inr h
theorem C0 {x:Str} {k:Int} (h:PyData.strOk x=true):PyData.strOk (Txt.mul x k)=true:=by
 unfold Txt.mul;split
 ·unfold PyData.strOk Str.empty;simp
 ·split
  ·exact h
  ·unfold PyData.strOk at h ⊢
   rw [Array.all_eq_true'] at h ⊢;intro c hc;rcases Ox x.cps c _ _ hc with z | z
   ·simp at z
   ·exact h c z
theorem Z73:OpD X (binaryOp .Mult) Zb1:=fun pins s σ H x y v u Q I rx ry zz=>by
 obtain ⟨A,a,b,d,mu,e,p1,p2,q⟩:=zz;unfold Zb1 at e;split at e
 ·rename_i z k
  split at e
  ·rename_i hz
   cases e;obtain ⟨e1,k1⟩:=p1.str;have e2:=p2.int;subst e1 e2;obtain ⟨t,rfl⟩:=rx;obtain ⟨t',rfl⟩:=ry;have hl:(Txt.mul z k).length<=1000*1000:=len_mul_leN hz.2.2 hz.2.1;refine SB.mul (mulOk_of 1000 1000 hz.2.2 hz.2.1 (by lia) (by decide) (by decide)) fun t' k'=>⟨.str (Txt.mul z k),H,I.tok _,⟨_,rfl⟩,q.here (Gw (SOk.of (C0 k1.ok) (le_trans hl (by decide))))⟩
  ·cases e
 ·cases e
def Nh:Dat->Dat->Option Dat
 | .int i,.int j=>Zck (.int i) (.int j)
 | .str x,.int k=>Zb1 (.str x) (.int k)
 | _,_=>none
theorem D3:OpD X (binaryOp .Mult) Nh:=OpD.or Z90 Z73 fun x y d e=>by
 unfold Nh at e;split at e
 ·exact .inl e
 ·exact .inr e
 ·cases e
end
end L2
namespace L2
open PySem
section
variable {prog:Program} {w:World} {A:Around} {E:Value->Shared->Prop} {h:Heap} {g:Array GenState} {d:Drawn} {t:Nat} {os:OsState}
variable {nm q:Str} {C N:Addr} {bs bm bmB:List Value} {hdct:Bool} {sn:List Str} {sub:List Value} {ab:Bool} {col:Option Bool} {dd:Option Addr} {k0 k1 k2 k3 k5:Option Value} {B Bn newId nid initId inN:String} {bmN:List Value}
theorem E8 (Fn:ExcBaseFacts Bn newId inN bmN) (hBn:bmB.contains (.type Bn)=true) (F:ExcBaseFacts B nid initId bmB) (T:OwnTail h bmB bm) {mN:Str->Option Value} {rest:List Value} {fI:Addr} {oI:Obj} {Q:Fin->Shared->Prop}
   (hC:h.get? C=some (excClassObj nm q C N bs bm hdct sn sub ab col dd k0 k1 k2 k3 k5 newId)) (hn:h.Ns N mN) (hi:mN "__init__" = some (.ref fI))
   (hfI:h.get? fI=some oI) (hfc:oI.cls=.type "function")
   (hq:∀ h' e,h.objs.size<=e->Heap.MadeExcOf h h' e (.ref C) rest ->
     wpAny (model prog w) A (call (.ref fI) (.ref e::rest)) (fun r s'=>r=.none/\Q (.done (.ret (.ref e))) s') E ⟨h',g,d,t,os⟩) (hrest:rest.length<=sizeLine:=by size_fits) :
   wpAny (model prog w) A (Builtin.«type.__call__» ⟨.ref C::rest,[]⟩) Q E ⟨h,g,d,t,os⟩:=by
 repeat (first | with_reducible refine wpAny_loadPart_at hC ?_ | with_reducible refine wpAny_madeBy_exc hC ?_ | wp_step)
 refine codeAny_call_builtin_code (Code.quiet_builtin _ Fn.quiet) (wpAny_check_new_subU Fn hBn T hC ?_);refine codeAny_exc_new_subU Fn hBn F T hC ?_ hrest;show wpAny _ _ _ _ _ _;have hC₁:=get?_push_of_some { cls:=.ref C,data:=.fields #[.ref h.objs.size,.none,.none,.none,.bool false,.none] }
   (get?_push_of_some { cls:=.type "tuple",data:=.seq rest.toArray } hC)
 have hfI₁:=get?_push_of_some { cls:=.ref C,data:=.fields #[.ref h.objs.size,.none,.none,.none,.bool false,.none] }
   (get?_push_of_some { cls:=.type "tuple",data:=.seq rest.toArray } hfI)
 have hn₁:((h.push { cls:=.type "tuple",data:=.seq rest.toArray }).push { cls:=.ref C,data:=.fields #[.ref h.objs.size,.none,.none,.none,.bool false,.none] }).Ns N mN :=
   let ⟨o,es,ep,e,r⟩:=hn;⟨o,es,ep,get?_push_of_some _ (get?_push_of_some _ e),r⟩
 have hget:((h.push { cls:=.type "tuple",data:=.seq rest.toArray }).push
     { cls:=.ref C,data:=.fields #[.ref h.objs.size,.none,.none,.none,.bool false,.none] }).get? (h.objs.size+1)=some
     { cls:=.ref C,data:=.fields #[.ref h.objs.size,.none,.none,.none,.bool false,.none] }:=by heap_get
 have hcC:(Value.ref C::bm).contains (.ref C)=true:=by simp
 have T₁:=T.keeps (h':=(h.push { cls:=.type "tuple",data:=.seq rest.toArray }).push { cls:=.ref C,data:=.fields #[.ref h.objs.size,.none,.none,.none,.bool false,.none] })
   fun b o e=>get?_push_of_some _ (get?_push_of_some _ e)
 unfold isInstance;repeat (first | with_reducible refine wpAny_loadPart_at hget ?_ | (with_reducible refine wpAny_isSubtype_exc hC₁ ?_;rw [hcC]) | wp_step)
 show wpAny _ _ (typeLookup (.ref C) _) _ _ _;refine wpAny_typeLookup_tail hC₁ hn₁ T₁ F.mroIs F.init.lookup ?_;rw [hi];refine wpAny_holding (wpAny_bind ?_);unfold bindSpecial;refine wpAny_bind (wpAny_typeOf (T:="function") ⟨_,hfI₁,hfc⟩ ?_);rw [if_pos (by decide)];refine wpAny_pure (wpAny_bind (wpAny_mono (hq _ (h.objs.size+1) (le_succ _) ⟨fun b o hb=>get?_push_of_some _ (get?_push_of_some _ hb),Heap.get?_none_of_le (le_succ _),h.objs.size,hget,Heap.get?_none_of_le (le_refl _),?_⟩) (fun r s' hr=>?_) fun _ _ x=>x))
 · exact get?_push_of_some _ (Heap.get?_push_at rfl rfl)
 · obtain ⟨rfl,hQ⟩:=hr
   wp_walk
   exact hQ
theorem Xt (Fn:ExcBaseFacts Bn newId inN bmN) (hBn:bmB.contains (.type Bn)=true) (F:ExcBaseFacts B nid initId bmB) (T:OwnTail h bmB bm) {mN:Str->Option Value} {rest:List Value} {fI:Addr} {oI:Obj} {Q:Value->Shared->Prop}
  (hC:h.get? C=some (excClassObj nm q C N bs bm hdct sn sub ab col dd k0 k1 k2 k3 k5 newId)) (hn:h.Ns N mN) (hi:mN "__init__" = some (.ref fI))
  (hfI:h.get? fI=some oI) (hfc:oI.cls=.type "function")
  (hq:∀ h' e,h.objs.size<=e->Heap.MadeExcOf h h' e (.ref C) rest ->
   wpAny (model prog w) (A.under (.builtin "type.__call__" ⟨.ref C::rest,[]⟩)) (call (.ref fI) (.ref e::rest)) (fun r s'=>r=.none/\Q (.ref e) s') E ⟨h',g,d,t,os⟩) (hrest:rest.length<=sizeLine:=by size_fits) :
  wpAny (model prog w) A (call (.ref C) rest) Q E ⟨h,g,d,t,os⟩:=by
 have f1:=tc_lookup;have f2:=tc_bind (.ref C);have hT:(⟨h,g,d,t,os⟩:Shared).TypeIs (.ref C) "type" := ⟨_,hC,rfl⟩;refine wpAny_call (codeAny_of_tree ?_);show wpAny _ _ (callAny (.ref C) _) _ _ _;repeat (any_goals (first | assumption | with_reducible refine wpAny_loadPart_at hC ?_ | wp_step))
 refine ⟨rfl,?_⟩;refine codeAny_call_builtin_at (Code.quiet_builtin _ (by decide +kernel)) entry_typeCall (wpAny_check_type_call_sub hC (E8 (hrest:=hrest) Fn hBn F T hC hn hi hfI hfc fun h' e hlo hm=>?_));exact hq h' e hlo hm
end
section
variable {M:Model} {A:Around} {E:Value->Shared->Prop} {env:Env}
variable {nm q:Str} {C N:Addr} {bs bm:List Value} {hdct:Bool} {sn:List Str} {sub:List Value} {ab:Bool} {col:Option Bool} {dd:Option Addr} {k0 k1 k2 k3 k5:Option Value} {newId:String}
theorem Nm {s:Shared} {x:Sem Value} {Q:Flow->Shared->Prop} (hbase:bm.contains (.type "BaseException")=true) (hh:A.handled=none)
   (h:wpAny M A x (fun v s₁=>∃ e a dct,v=.ref e/\s₁.heap.get? C=some (excClassObj nm q C N bs bm hdct sn sub ab col dd k0 k1 k2 k3 k5 newId) /\
     s₁.heap.get? e=some { cls:=.ref C,dict:=dct,data:=.fields #[a,.none,.none,.none,.bool false,.none] }/\E (.ref e) s₁) E s) :
   wpAny M A (raiseStmt env (some x) none) Q E s:=by
 have hcB:(Value.ref C::bm).contains (.type "BaseException")=true:=by rw [List.contains_cons,hbase,Bool.or_true]
 unfold raiseStmt;refine wpAny_bind (wpAny_mono h (fun v s₁ h₁=>?_) fun _ _ x=>x);obtain ⟨e,a,dct,rfl,hC,he,hE⟩:=h₁;obtain ⟨hp,g,d,tk,os⟩:=s₁;repeat (first | with_reducible refine wpAny_loadPart_at he ?_ | with_reducible refine wpAny_loadPart_at hC ?_ | (with_reducible refine wpAny_isSubtype_exc hC ?_;rw [hcB]) | wp_step)
 exact wpAny_raiseNew_none hh hE
end
section
variable {prog:Program} {w:World} {A:Around} {E:Value->Shared->Prop} {h:Heap} {g:Array GenState} {d:Drawn} {t:Nat} {os:OsState}
variable {nm q:Str} {C N:Addr} {bs bm bmB:List Value} {hdct:Bool} {sn:List Str} {sub:List Value} {ab:Bool} {col:Option Bool} {dd:Option Addr} {k0 k1 k2 k3 k5:Option Value} {newId nid:String}
theorem Il (T:OwnTail h [.type "ValueError",.type "Exception",.type "BaseException",.type "object"] bm) {e t0:Addr} {x:Value} {dct:Option Addr} {Q:Value->Shared->Prop}
  (hC:h.get? C=some (excClassObj nm q C N bs bm hdct sn sub ab col dd k0 k1 k2 k3 k5 newId)) (he:h.get? e=some { cls:=.ref C,dict:=dct,data:=.fields #[.ref t0,.none,.none,.none,.bool false,.none] })
  (hq:∀ h',h'.get? e=some { cls:=.ref C,dict:=dct,data:=.fields #[.ref h.objs.size,.none,.none,.none,.bool false,.none] }->(∀ b o,b≠e->h.get? b=some o->h'.get? b=some o)->h.objs.size<=h'.objs.size->Q .none ⟨h',g,d,t,os⟩) :
  wpAny (model prog w) A (call (.builtin "ValueError.__init__") [.ref e,x]) Q E ⟨h,g,d,t,os⟩:=by
 have F:=PySem.F.excBase_ValueError;refine wpAny_call (codeAny_call_builtin F.init.plain F.initEntry (wpAny_check_init_subU F T hC he rfl ?_));have he2:=get?_push_of_some { cls:=.type "tuple",data:=.seq #[x] } he
 wp_walk
 refine hq _ ?_ ?_ ?_
 ·rw [get?_update_self _ he2 rfl]
  rfl
 ·intro b o hb hbo
  rw [get?_update_other _ _ (Ne.symm hb)];exact get?_push_of_some _ hbo
 ·rw [Heap.size_after_update,size_push];exact le_succ _
end
end L2
namespace L2
open PySem PySem.Spec PyProof.Rows PySem.W
open PySem.Builtin PySem.Builtin.ObjectAttr
def De:List Value:=[.type "ValueError",.type "Exception",.type "BaseException",.type "object"]
section
variable {prog:Program} {w:World} {A:Around} {E:Value->Shared->Prop} {s:Shared} {K:Frag} {x C a b:Addr} {cd:ClassData} {R:Result->Shared->Prop} {v:Value} {name:Str}
theorem Z9t {ox:Obj} {od:Option Obj} {tk:Tok} (X:K.In s.heap) (I:InstAt s.heap x ox C od) (hc:clsIn K C=some cd) (hm:cd.mro=.ref a::.ref b::De) (ha:findIn K (.ref C) name=some none)
  (h:wpAny (model prog w) A.in1 (storeInOwnDict (.ref x) (.ref C) (.str name tk) name v false)
   (fun fin s'=>match fin with | .done f=>R (.ok f) s' | .again c'=>c'.quiet=true/\codeAny (model prog w) A c' R s') (fun e s'=>R (.error e) s') s) :
  codeAny (model prog w) A (.call (.builtin "object.__setattr__") ⟨[.ref x,.str name tk,v],[]⟩) R s:=by
 have SF:=PySem.F.store_object;have sub:Looks (model prog w) s.heap (isInstance (.ref x) (.type "object")) true:=I.type.andThen (looks_mroIn X (by unfold mroIn;rw [hc,Option.bind_some,hm];rfl));refine codeAny_call_builtin SF.slot.plain SF.entry (@check_slot (model prog w) _ _ s "object.__setattr__" "object" "__setattr__" (.ref x) [.str name tk,v] [] _ SF.kind SF.split sub (SF.args (.ref x) (.str name tk) v) ?_);have hmr:Looks (model prog w) s.heap (mroOf (.ref C)) cd.mro:=(looks_clsIn X hc).andThen .now;rw [osa_eq,refuse_eq];refine wpAny_bind (wpAny_bind (I.type.here (wpAny_bind (hmr.here ?_))));rw [hm,refuseLoop_ref,refuseLoop_ref,show De=[.type "ValueError",.type "Exception",.type "BaseException",.type "object"] from rfl,PySem.F.store_ValueError.passes];refine wpAny_pure (wpAny_bind (I.type.here (wpAny_bind ((looks_findIn X ha).here (wpAny_bind ?_)))));exact wpAny_pure h
end
section
variable {prog:Program} {w:World} {A:Around} {E:Value->Shared->Prop} {h:Heap} {g:Array GenState} {d:Drawn} {t:Nat} {os:OsState} {x C:Addr} {v:Value} {name:Str} {oC:Obj} {cd:ClassData}
theorem Cy {o:Obj} {tk:Tok} {Q:Fin->Shared->Prop} (hx:h.get? x=some o) (hc:o.cls=.ref C) (hnc:∀ c,o.data≠.cls c) (hdn:o.dict=none) (hC:h.get? C=some oC) (hcd:oC.data=.cls cd) (hhd:cd.hasDict=true)
   (hq:∀ h' tk',h'.get? x=some { cls:=o.cls,dict:=some h.objs.size,data:=o.data,slots:=o.slots }->h'.Ns1 h.objs.size (fun y=>if y=name then some v else none)->(∀ b ob,b≠x->h.get? b=some ob->h'.get? b=some ob)->h.objs.size<h'.objs.size->Q (.done (.ret .none)) ⟨h',g,d,tk',os⟩) :
   wpAny (model prog w) A (storeInOwnDict (.ref x) (.ref C) (.str name tk) name v false) Q E ⟨h,g,d,t,os⟩:=by
 unfold storeInOwnDict;repeat (first | (with_reducible refine wpAny_loadPart_at hx ?_;rw [hc]) | with_reducible refine wpAny_loadPart_at hC ?_ | wp_step)
 rw [hcd];refine wpAny_pure ?_;rw [hhd,if_neg (by decide),hdn];show wpAny _ _ (if (!true||!typeHasDict (Value.ref C))=true then pure none else _) _ _ _;rw [if_neg (by simp [typeHasDict])];have hx₁:(h.push { cls:=.type "dict",data:=.dict #[] }).get? x=some o:=get?_push_of_some _ hx;have hxs:x≠h.objs.size:=ne_of_lt (lt_size hx);split
 · rename_i c hcd'
   exact absurd hcd' (hnc c)
 · refine wpAny_bind (wpAny_alloc' ?_)
   refine wpAny_bind (wpAny_update' hx₁ ?_);refine wpAny_pure ?_;have hgd:((h.push { cls:=.type "dict",data:=.dict #[] }).update x fun o=>{ cls:=o.cls,dict:=some h.objs.size,data:=o.data,slots:=o.slots }).get? h.objs.size
       = some { cls:=.type "dict",data:=.dict #[] } :=
     (Heap.get?_update_ne _ _ _ _ hxs.symm).trans (Heap.get?_push_at rfl rfl)
   have hnd:((h.push { cls:=.type "dict",data:=.dict #[] }).update x fun o=>{ cls:=o.cls,dict:=some h.objs.size,data:=o.data,slots:=o.slots }).Ns h.objs.size (fun _=>none) :=
     ⟨_,#[],_,hgd,rfl,fun e he=>absurd he (by simp),fun _=>rfl⟩
   show wpAny _ _ (storeInDict h.objs.size (.str name tk) name v) _ _ _;unfold storeInDict newKeyGuard;refine wpAny_bind (wpAny_pure (wpAny_bind (wpAny_nsSet1 (Heap.Ns1.of_empty hnd) fun h' hn' hs=>?_)));obtain ⟨oD,esD,epD,hoD,hdD,hcD⟩:=hn'.count (Within.cons name v Within.nil);refine wpAny_bind (wpAny_lookBehind hoD (by rw [hdD];exact pastItsLine_dict (le_trans hcD (by rw [length_cons,List.length_nil,sizeLine_eq];lia))) ?_)
   wp_walk
   have hx':h'.get? x=some { cls:=o.cls,dict:=some h.objs.size,data:=o.data,slots:=o.slots }:=by
     refine (hs.2 x hxs).trans (get?_update_self _ hx₁ ?_);have hfr:=(Heap.get?_some_iff.mp hx).2;obtain ⟨oc,od,odt,osl⟩:=o;cases odt<;>first | rfl | exact hfr
   refine hq h' _ hx' hn' (fun b ob hbx hb=>?_) ?_
   · exact (hs.2 b (ne_of_lt (lt_size hb))).trans ((Heap.get?_update_ne _ _ _ _ hbx).trans (get?_push_of_some _ hb))
   · have h1:=hs.1
     rw [Heap.size_after_update,size_push] at h1;lia
theorem Fe {o:Obj} {dx:Addr} {mA:Str->Option Value} {ns:List Str} {tk:Tok} {Q:Fin->Shared->Prop} (hx:h.get? x=some o) (hc:o.cls=.ref C) (hdx:o.dict=some dx) (hns:h.Ns1 dx mA) (hw:Within mA ns) (hsz:ns.length<=1000) (hC:h.get? C=some oC) (hcd:oC.data=.cls cd) (hhd:cd.hasDict=true)
   (hq:∀ h' tk',h'.Ns1 dx (fun y=>if y=name then some v else mA y)->(∀ b ob,b≠dx->h.get? b=some ob->h'.get? b=some ob)->h.objs.size<=h'.objs.size->Q (.done (.ret .none)) ⟨h',g,d,tk',os⟩) :
   wpAny (model prog w) A (storeInOwnDict (.ref x) (.ref C) (.str name tk) name v false) Q E ⟨h,g,d,t,os⟩:=by
 unfold storeInOwnDict;repeat (first | (with_reducible refine wpAny_loadPart_at hx ?_;rw [hc]) | with_reducible refine wpAny_loadPart_at hC ?_ | wp_step)
 rw [hcd];refine wpAny_pure ?_;rw [hhd,if_neg (by decide),hdx];refine wpAny_pure ?_;show wpAny _ _ (storeInDict dx (.str name tk) name v) _ _ _;unfold storeInDict newKeyGuard;refine wpAny_bind (wpAny_pure (wpAny_bind (wpAny_nsSet1 hns fun h' hn' hs=>?_)));obtain ⟨oD,esD,epD,hoD,hdD,hcD⟩:=hn'.count (Within.cons name v hw);refine wpAny_bind (wpAny_lookBehind hoD (by rw [hdD];exact pastItsLine_dict (le_trans hcD (by rw [length_cons,sizeLine_eq];lia))) ?_)
 wp_walk
 exact hq h' _ hn' (fun b ob hbx hb=>(hs.2 b hbx).trans hb) (by have h1:h'.objs.size=h.objs.size:=hs.1;lia)
end
open PySem.Builtin PySem.Builtin.ObjectAttr
section
variable {prog:Program} {w:World} {A:Around} {E:Value->Shared->Prop} {h:Heap} {g:Array GenState} {d:Drawn} {t:Nat} {os:OsState} {x C dx:Addr} {v:Value} {name:Str} {oC o:Obj} {cd:ClassData} {K:Frag} {mA:Str->Option Value}
theorem Xl {tk:Tok} {Q:Fin->Shared->Prop} (X:K.In h) (hx:h.get? x=some o) (hc:o.cls=.ref C) (hnc:∀ c,o.data≠.cls c) (hdx:o.dict=some dx) (hns:h.Ns1 dx mA) (hv:mA name=some v)
   (hf:findIn K (.ref C) name=some none) (hC:h.get? C=some oC) (hcd:oC.data=.cls cd) (hhd:cd.hasDict=true) (hq:Q (.done (.ret v)) ⟨h,g,d,t,os⟩) :
   wpAny (model prog w) A (Builtin.«object.__getattribute__» ⟨[.ref x,.str name tk],[]⟩) Q E ⟨h,g,d,t,os⟩:=by
 have L1:=looks_findIn (M:=model prog w) X hf;unfold Builtin.«object.__getattribute__»;repeat (first | (with_reducible refine wpAny_loadPart_at hx ?_;rw [hc]) | with_reducible refine L1.at ?_ | wp_step)
 split
 · rename_i c hcd'
   exact absurd hcd' (hnc c)
 unfold instanceDict;repeat (first | (with_reducible refine wpAny_loadPart_at hx ?_;rw [hc]) | with_reducible refine wpAny_loadPart_at hC ?_ | wp_step)
 rw [hcd];refine wpAny_pure ?_;rw [hhd,if_neg (by decide),hdx];refine wpAny_pure ?_;unfold inDict;repeat (first | (with_reducible refine wpAny_nsGet hns.ns ?_;rw [hv]) | wp_step)
 exact hq
theorem Aw {tk:Tok} {R:Result->Shared->Prop} (X:K.In h) (hx:h.get? x=some o) (hc:o.cls=.ref C) (hnc:∀ c,o.data≠.cls c) (hdx:o.dict=some dx) (hns:h.Ns1 dx mA) (hv:mA name=some v)
  (hf:findIn K (.ref C) name=some none) (hC:h.get? C=some oC) (hcd:oC.data=.cls cd) (hhd:cd.hasDict=true) (hsub:Looks (model prog w) h (isInstance (.ref x) (.type "BaseException")) true) (hq:R (.ok (.ret v)) ⟨h,g,d,t,os⟩) :
  codeAny (model prog w) A (.call (.builtin "BaseException.__getattribute__") ⟨[.ref x,.str name tk],[]⟩) R ⟨h,g,d,t,os⟩:=by
 have hk:builtinKind "BaseException.__getattribute__" = some .slot:=by decide +kernel
 have hsplit:splitId "BaseException.__getattribute__" = some ("BaseException","__getattribute__"):=by decide +kernel
 refine codeAny_call_builtin PySem.F.excAttr_ValueError.ga.plain PySem.F.entry_bexc_ga (@check_slot (model prog w) _ _ ⟨h,g,d,t,os⟩ "BaseException.__getattribute__" "BaseException" "__getattribute__" (.ref x) [.str name tk] [] _ hk hsplit hsub (PySem.F.args_bexc_ga (.ref x) (.str name tk)) ?_);exact Xl X hx hc hnc hdx hns hv hf hC hcd hhd hq
theorem Ze6 {expr:Bool} {Q:Value->Shared->Prop} (X:K.In h) (hx:h.get? x=some o) (hc:o.cls=.ref C) (hnc:∀ c,o.data≠.cls c) (hdx:o.dict=some dx) (hns:h.Ns1 dx mA) (hv:mA name=some v)
   (hf:findIn K (.ref C) name=some none) (hC:h.get? C=some oC) (hcd:oC.data=.cls cd) (hhd:cd.hasDict=true) (hsub:Looks (model prog w) h (isInstance (.ref x) (.type "BaseException")) true)
   (hga:findIn K (.ref C) "__getattribute__" = some (some (.builtin "BaseException.__getattribute__"))) (hgh:findIn K (.ref C) "__getattr__" = some none) (hh:handedOut v=pure v) (hq:Q v ⟨h,g,d,t+1,os⟩) :
   wpAny (model prog w) A (getAttr (.ref x) name expr) Q E ⟨h,g,d,t,os⟩:=by
 have L1:=looks_findIn (M:=model prog w) X hga;have L2:=looks_findIn (M:=model prog w) X hgh;have f3:=PySem.F.excAttr_ValueError.ga.bind (.ref x);have hx0:(expr&&onTheHeap (Value.builtin "BaseException.__getattribute__"))=false:=by cases expr<;>rfl
 have hx2:(Value.builtin "BaseException.__getattribute__" == Value.builtin "object.__getattribute__")=false:=by decide +kernel
 have hx1:(onTheHeap (Value.ref C)&&Value.builtin "BaseException.__getattribute__" == Value.builtin "object.__getattribute__")=false:=by rw [hx2];rfl
 unfold getAttr;repeat (any_goals (first | assumption | (with_reducible refine wpAny_loadPart_at hx ?_;rw [hc]) | with_reducible refine L1.at ?_ | with_reducible refine L2.at ?_ | wp_step))
 refine Aw X hx hc hnc hdx hns hv hf hC hcd hhd hsub ?_;show wpAny _ _ (handedOut v) _ _ _;rw [hh];exact wpAny_pure hq
end
open PySem.Builtin PySem.Builtin.ObjectAttr
section
variable {prog:Program} {w:World} {A:Around} {E:Value->Shared->Prop} {h:Heap} {g:Array GenState} {d:Drawn} {t:Nat} {os:OsState} {x C:Addr} {o:Obj} {K:Frag}
theorem Z1j {R:Result->Shared->Prop} (hx:h.get? x=some o) (hc:o.cls=.ref C) (hs:Looks (model prog w) h (isSubtype (.ref C) (.type "object")) true) (hq:R (.ok (.ret (.ref C))) ⟨h,g,d,t,os⟩) :
   codeAny (model prog w) A (.call (.builtin "getset_descriptor.__get__") ⟨[.builtin "object.__class__",.ref x,.ref C],[]⟩) R ⟨h,g,d,t,os⟩:=by
 have hT5:(⟨h,g,d,t,os⟩:Shared).TypeIs (.builtin "object.__class__") "getset_descriptor" := PySem.F.typeOf_object_class;have f8:Looks (model prog w) h (isSubtype (.ref C) (.type (".".intercalate ("object.__class__".cutAt '.').dropLast))) true:=by rw [PySem.F.owner_object_class];exact hs
 refine codeAny_call_builtin PySem.F.slot_gs_get.plain PySem.F.entry_gs_get (PySem.F.slot_gs_get.check _ _ _ _ _ _ _ _ hT5 (PySem.F.args_gs_get _ _ _) ?_);repeat (any_goals (first | assumption | (with_reducible refine wpAny_loadPart_at hx ?_;rw [hc]) | with_reducible refine f8.at ?_ | wp_step))
 refine ⟨Code.quiet_builtin _ (by decide +kernel),codeAny_builtin PySem.F.entry_object_class ?_⟩;repeat (any_goals (first | assumption | (with_reducible refine wpAny_loadPart_at hx ?_;rw [hc]) | wp_step))
theorem F6 {tk:Tok} {Q:Fin->Shared->Prop} (X:K.In h) (hx:h.get? x=some o) (hc:o.cls=.ref C) (ha:findIn K (.ref C) "__class__" = some (some (.builtin "object.__class__"))) (hs:Looks (model prog w) h (isSubtype (.ref C) (.type "object")) true) (hq:Q (.done (.ret (.ref C))) ⟨h,g,d,t,os⟩) :
   wpAny (model prog w) A (Builtin.«object.__getattribute__» ⟨[.ref x,.str "__class__" tk],[]⟩) Q E ⟨h,g,d,t,os⟩:=by
 have hT5:(⟨h,g,d,t,os⟩:Shared).TypeIs (.builtin "object.__class__") "getset_descriptor" := PySem.F.typeOf_object_class;have L1:=looks_findIn (M:=model prog w) X ha;have f5:=PySem.F.typeOf_object_class;have f6:=PySem.F.slot_gs_get.lookup;have f7:=PySem.F.slot_gs_set.lookup;repeat (any_goals (first | assumption | (with_reducible refine wpAny_loadPart_at hx ?_;rw [hc]) | with_reducible refine L1.at ?_ | wp_step))
 refine Z1j hx hc hs ?_;repeat (any_goals (first | assumption | wp_step))
theorem Ag {Q:Option Value->Shared->Prop} (X:K.In h) (hx:h.get? x=some o) (hc:o.cls=.ref C) (ha:findIn K (.ref C) "__class__" = some (some (.builtin "object.__class__"))) (hs:Looks (model prog w) h (isSubtype (.ref C) (.type "object")) true)
   (hsub:Looks (model prog w) h (isInstance (.ref x) (.type "BaseException")) true) (hga:findIn K (.ref C) "__getattribute__" = some (some (.builtin "BaseException.__getattribute__"))) (hgh:findIn K (.ref C) "__getattr__" = some none) (hq:Q (some (.ref C)) ⟨h,g,d,t+1,os⟩) :
   wpAny (model prog w) A (getAttr? (.ref x) "__class__") Q E ⟨h,g,d,t,os⟩:=by
 have L1:=looks_findIn (M:=model prog w) X hga;have L2:=looks_findIn (M:=model prog w) X hgh;have f3:=PySem.F.excAttr_ValueError.ga.bind (.ref x);have hx2:(Value.builtin "BaseException.__getattribute__" == Value.builtin "object.__getattribute__")=false:=by decide +kernel
 have hx1:(onTheHeap (Value.ref C)&&Value.builtin "BaseException.__getattribute__" == Value.builtin "object.__getattribute__")=false:=by rw [hx2];rfl
 have hk:builtinKind "BaseException.__getattribute__" = some .slot:=by decide +kernel
 have hsplit:splitId "BaseException.__getattribute__" = some ("BaseException","__getattribute__"):=by decide +kernel
 unfold getAttr? getAttrBy?;repeat (any_goals (first | assumption | (with_reducible refine wpAny_loadPart_at hx ?_;rw [hc]) | with_reducible refine L1.at ?_ | with_reducible refine L2.at ?_ | wp_step))
 refine codeAny_call_builtin PySem.F.excAttr_ValueError.ga.plain PySem.F.entry_bexc_ga (@check_slot (model prog w) _ _ ⟨h,g,d,t+1,os⟩ "BaseException.__getattribute__" "BaseException" "__getattribute__" (.ref x) [.str "__class__" t] [] _ hk hsplit hsub (PySem.F.args_bexc_ga (.ref x) (.str "__class__" t)) ?_);refine F6 X hx hc ha hs ?_;repeat (any_goals (first | assumption | wp_step))
structure XCls (K:Frag) (C:Addr):Prop where
 cd:∃ cd,clsIn K C=some cd/\cd.hasDict=true/\∃ a b,cd.mro=.ref a::.ref b::De
 cl:findIn K (.ref C) "__class__" = some (some (.builtin "object.__class__"))
 ga:findIn K (.ref C) "__getattribute__" = some (some (.builtin "BaseException.__getattribute__"))
 gh:findIn K (.ref C) "__getattr__" = some none
 sa:findIn K (.ref C) "__setattr__" = some (some (.builtin "object.__setattr__"))
theorem XCls.sub (c:XCls K C) (X:K.In h) (T:String) (hT:De.contains (.type T)=true) {M:Model}:Looks M h (isSubtype (.ref C) (.type T)) true:=by
 obtain ⟨cd,hc,_,a,b,hm⟩:=c.cd;have hT2:Value.type T∈De:=by simpa using hT
 exact looks_mroIn X (by unfold mroIn;rw [hc,Option.bind_some,hm];simp [hT2])
theorem XCls.ld (c:XCls K C) (X:K.In h):∃ oC cd,h.get? C=some oC/\oC.data=.cls cd/\cd.hasDict=true:=by
 obtain ⟨cd,hc,hd,_⟩:=c.cd;unfold clsIn at hc;split at hc
 ·rename_i c' d' cd' sl' ho
  cases hc;exact ⟨_,_,X _ _ ho,rfl,hd⟩
 ·cases hc
def Zdy (x C:Addr) (h:Heap):Prop:=∃ o,h.get? x=some o/\o.cls=.ref C
theorem Z1v (c:XCls K C):KitX K (.ref x) (.ref C) (Zdy x C) where
 ty:=fun M h _ ⟨o,h1,h2⟩=>h2▸(Looks.ld h1).andThen .now
 it:=fun M h X _=>by
  obtain ⟨oC,cd,h1,h2,_⟩:=c.ld X;intro A' Q' E' s' k q;unfold isType loadHead;refine wpAny_bind (wpAny_loadPart (k _ _ h1) ?_);rw [h2];exact wpAny_pure q
 ne:=fun h tp dd its n sl X htp=>by
  obtain ⟨oC,cd,h1,h2,_⟩:=c.ld X;refine Bool.eq_false_iff.mpr fun q=>?_
  have e:C=tp:=Value.ref.inj (beq_iff_eq.mp q);subst e;rw [h1] at htp;cases htp;cases h2
 ca:=fun {prog w A E Q s} X p k=>by
  obtain ⟨o,h1,h2⟩:=p;obtain ⟨h,g,d,t,os⟩:=s;exact Ag X h1 h2 c.cl (c.sub X "object" (by decide)) ((h2▸(Looks.ld h1).andThen .now:Looks _ _ (typeOf (.ref x)) (.ref C)).andThen (c.sub X "BaseException" (by decide))) c.ga c.gh k
end
end L2
namespace L2
open PySem PySem.Spec PyProof.Rows
theorem Nk {P:Program} {w:World} {l:List Env} {ch:List Addr} {H:Hp} {h h':Heap} (ok:HOk P w H h) (k:KpX l ch h h') (hc:∀ b∈ch,H b=none) (hf:∀ b∈frs l,H b=none):HOk P w H h':=fun a o e=>by
 have key:∀ b u,H b≠none->h.get? b=some u->h'.get? b=some u:=fun b u n q=>(k b u q fun z=>n (hc b z)).1 fun z=>n (hf b z)
 exact (ok a o e).stay (fun b u z q=>key b u (by rcases z with z | z<;>simp_all) q) (fun _ q=>q) fun _ _ q=>q
theorem Z38 {l:List Env} {ch:List Addr} {H:Hp} {h h':Heap} (k:KpX l ch h h') (hc:∀ b∈ch,H b=none):Un (frs l) ch H H h h' where
 keep:=fun b o q n hf hx=>(k b o q hx).1 hf
 slot:=fun b o q n hf hx=>(k b o q hx).2
 free:=fun b o q n hx=>n
 there:=fun b o q hx=>by obtain ⟨sl,z⟩:=(k b o q hx).2;exact ⟨_,z⟩
 tups:=fun b xs q=>q
 frzs:=fun b o u q=>q
 tbls:=fun b ps q=>⟨#[],by simpa using q⟩
def CXv (P:Program) (w:World) (base:Heap):CXT:=fun outer H s E ev s'=>∃ e C dct T H',ev=.ref e/\s'.os=s.os/\AllBare s'.gens/\Un (frs outer) [] H H' s.heap s'.heap/\HOk P w H' s'.heap /\
 s.heap.objs.size<=e/\s.heap.objs.size<=T/\H' e=none/\H' T=none/\TrX s'.heap base e T (.ref C) dct .none/\E (.ref C) dct H'
theorem Inv.noBase {X:Cx} {pins:List (Addr×Obj)} {σ:St} {H:Hp} {s:Shared} (I:Inv X pins σ H s) {e:Addr} (h:X.s₀.heap.objs.size<=e):X.base.get? e=none:=by
 cases q:X.base.get? e with
 | none=>rfl
 | some o=>exact absurd (lt_size (I.ok.bs e o q).1) (not_lt.mpr h)
theorem Z2o {P:Program} {w:World} {K:PySem.W.Frag} {mg:Str->Option Value} {base:Heap} {N:List Str} {qual:Str} {scope:Scope} {f:Addr} {cd:Value} {A:Around} {outer:List Env} {s:Shared} {H:Hp} {E:XK} {pins:List (Addr×Obj)} {σ:St} {H':Hp} {s':Shared} {e C:Addr} {dct:Option Addr}
  (I:Inv (Kg (CXv P w base) P w K mg base N qual scope f cd A outer s H E) pins σ H' s') (x:XSt (Kg (CXv P w base) P w K mg base N qual scope f cd A outer s H E) pins H' s'.heap e C dct) (q:E (.ref C) dct H') :
  (Kg (CXv P w base) P w K mg base N qual scope f cd A outer s H E).xe (.ref e) s':=by
 have hfr:(A.deeper (envOfC qual scope s.heap.objs.size f cd)).frames=some (envOfC qual scope s.heap.objs.size f cd::outer):=I.ok.frames;have hl:s'.heap.FunFrames base (envOfC qual scope s.heap.objs.size f cd::outer):=I.stack;have hkb:base.StaysIn s'.heap:=I.bk;have lo:s.heap.objs.size<=e:=x.lo;have hen:base.get? e=none:=I.noBase x.lo;have bs:Un (frs outer) [] H H' s.heap s'.heap:=I.base;have hfree:∀ b∈frs (envOfC qual scope s.heap.objs.size f cd::outer),H' b=none:=I.stkFree;have fin:∀ (h':Heap) (T':Addr) (ch:List Addr),(∀ b∈ch,H' b=none/\s.heap.objs.size<=b)->s.heap.objs.size<=T'->H' T'=none->TrX h' base e T' (.ref C) dct .none->KpX (envOfC qual scope s.heap.objs.size f cd::outer) ch s'.heap h' ->
   CXv P w base outer H s E (.ref e) { s' with heap:=h' }:=fun h' T' ch hch hT hTn ht kp=>by
  have ncb:∀ {b:Addr} {o:Obj},s.heap.get? b=some o->b∉ch:=fun {b o} q z=>absurd (lt_size q) (not_lt.mpr (hch b z).2)
  have nfr:∀ {b:Addr} {o:Obj},s.heap.get? b=some o->b∉frs outer->b∉frs (envOfC qual scope s.heap.objs.size f cd::outer):=fun {b o} q n z=>by
   rcases mem_cons.mp (I.stkSub b z) with e1 | e1
   ·have:b=s.heap.objs.size:=e1
    exact absurd (lt_size q) (by rw [this];exact lt_irrefl _)
   ·exact n e1
  refine ⟨e,C,dct,T',H',rfl,I.os,I.bare,⟨?_,?_,?_,?_,bs.tups,bs.frzs,bs.tbls⟩,Nk I.hok kp (fun b z=>(hch b z).1) hfree,lo,hT,x.un,hTn,ht,q⟩
  ·exact fun b o q n hf hx=>(kp b o (bs.keep b o q n hf hx) (ncb q)).1 (nfr q hf)
  ·intro b o q n hf hx
   obtain ⟨sl,z⟩:=bs.slot b o q n hf hx;obtain ⟨sl',z'⟩:=(kp b _ z (ncb q)).2;exact ⟨sl',z'⟩
  ·exact fun b o q n hx=>bs.free b o q n hx
  ·intro b o q hx
   obtain ⟨o',z⟩:=bs.there b o q hx;obtain ⟨sl,z'⟩:=(kp b o' z (ncb q)).2;exact ⟨_,z'⟩
 have sz:s.heap.objs.size<=s'.heap.objs.size:=I.sz;rcases x.ob with ⟨o,vs,he,hc,hd,hda,h1⟩ | ⟨T,hT,hTn,_,ht⟩
 ·refine Ln hfr hl rfl he hkb hen hda h1 fun h' T' z0 z1 z2 z3 z4=>?_
  rw [hc,hd] at z3;exact fin h' T' [e] (fun b hb=>by rw [mem_singleton.mp hb];exact ⟨x.un,lo⟩) (le_trans sz z0) (I.hok.fresh z0) z3 z4
 ·refine Z8p hfr hl rfl ht hkb hen fun h' T' z0 z1 z2 z3 z4=>?_
  refine fin h' T' [e,T] (fun b hb=>?_) (le_trans sz z0) (I.hok.fresh z0) z3 z4;rcases mem_cons.mp hb with e1 | e1
  ·rw [e1];exact ⟨x.un,lo⟩
  ·rw [mem_singleton.mp e1];exact ⟨hTn,hT⟩
def Z6b (K:PySem.W.Frag) (fr:Bool) (R:AS) (H:Hp) (Q:VK) (E:XK):Rs->Prop
 | .ok d=>∀ v H',Yj H H'->Rp K (av H' R) d v->(fr=true->NwT K ⟨H,R,true⟩ H' d v)->Q v H'
 | .exc c fs=>∀ C dct H',Yj H H'->T3 K c C->XFs K (av H' R) dct fs->E (.ref C) dct H'
 | .no=>False
def spX (K:PySem.W.Frag) (fr:Bool) (p:Nat) (F:List Dat->Rs):Sp:=fun vs H Q E=>vs.length=p/\∃ ds R,Ra R H/\Rps K (av H R) ds vs/\Z6b K fr R H Q E (F ds)
structure CalX (P:Program) (w:World) (K:PySem.W.Frag) (mg:Str->Option Value) (base:Heap) (k:Nat) (x:Str) (ps:List Str) (fr:Bool) (F:List Dat->Rs):Prop where
 ex:∃ f fd,FnOk P w K mg base (CXv P w base) k f fd ps (spX K fr ps.length F)/\mg x=some (.ref f)/\PySem.W.keepIn K (.ref f)=true/\Ih K fd ps []
 len:∀ ds,F ds≠.no->ds.length=ps.length
section
variable {P:Program} {w:World} {K:PySem.W.Frag} {mg:Str->Option Value} {base:Heap}
theorem Fun.okX {x qual:Str} {st:Stmt} {f:Addr} {fd:FuncData} {N ps:List Str} {k:Nat} {sp:Sp} {CX:CXT} (F:Fun K x qual st f fd) (S:FnScope N ps (Z7 st)) (len:∀ vs H Q E,sp vs H Q E->vs.length=ps.length)
  (hbody:∀ (cdv:Value) (A:Around) (outer:List Env) (s:Shared) (H:Hp) (vs:List V) (Q:VK) (E:XK),Room k (A.deeper (envOfC qual (Z7 st) s.heap.objs.size f cdv))->sp vs H Q E ->
   ∃ t,PSs (Kg CX P w K mg base N qual (Z7 st) f cdv A outer s H E) (Wp st) t/\t { nx:=fun _ H'=>Q .non H',rt:=Q } (start N vs) H):FnOk P w K mg base CX (k+1) f fd ps sp:=by
 obtain ⟨oc,od,kV,doc,pm,an,cdv,ct,osl,rfl,lk,hcd⟩:=F.ex;exact Z8o lk hcd S len fun A outer s H vs Q E hr hsp=>hbody cdv A outer s H vs Q E hr hsp
theorem Z0x {n p:Nat} {g:Ev->Fl} {ds:List Dat} (h:U0 n p g ds≠.no):ds.length=p:=by
 unfold U0 at h;split at h
 ·assumption
 ·exact absurd rfl h
theorem Bj {fr:Bool} {N:List Str} {qual:Str} {scope:Scope} {f:Addr} {cd:Value} {A:Around} {outer:List Env} {s:Shared} {H:Hp} {E:XK} {p:Nat} {g:Ev->Fl} {ds:List Dat} {R:AS} {vs:List V} {Q:VK} (hp:p<=N.length) (mu:Ra R H) (r:Rps K (av H R) ds vs)
  (q:Z6b K fr R H Q E (U0 N.length p g ds)) :
  tS fr (Kg (CXv P w base) P w K mg base N qual scope f cd A outer s H E) g (Ends.mk (fun _ H'=>Q .non H') Q (fun _ _=>False) (fun _ _=>False)) (start N vs) H:=by
 unfold U0 at q;split at q
 ·rename_i hl
  refine ⟨M9 N.length ds,⟨H,R,true⟩,R,Pq mu r (by lia),rfl,?_⟩;split at q
  ·rename_i d' e
   rw [e];exact fun v H' s r n=>q v H' s r n
  ·rename_i env e
   rw [e];exact fun A' H' σ' s k=>q .non H' k.h0 Ph (fun _ ds e=>by cases e)
  ·rename_i env c fs e
   rw [e];exact fun A' H' σ' st k pins s' e C dct I hc x hf=>Z2o I x (q C dct H' k.h0 hc (hf.mono (M7 k.ra)))
  ·exact q.elim
 ·exact q.elim
theorem Z9e {x:Str} {st:Stmt} {N ps:List Str} {k:Nat} {fr:Bool} {g:Ev->Fl} (D:Def K mg x st) (S:FnScope N ps (Z7 st))
  (hbi:∀ (kV doc pm:Value) (an:Option Addr) (cdv ct:Value) (us:List Value),us.length=ps.length->bindArgs (fnOf x x (Qd st) (Wp st) (Z7 st) .none kV doc pm an cdv ct) ⟨us,[]⟩=pure (ps.zip us))
  (hb:∀ (f:Addr) (cdv:Value) (A:Around) (outer:List Env) (s:Shared) (H:Hp) (E:XK),Room k (A.deeper (envOfC x (Z7 st) s.heap.objs.size f cdv))->PBd fr (Kg (CXv P w base) P w K mg base N x (Z7 st) f cdv A outer s H E) (Wp st) g) :
  CalX P w K mg base (k+1) x ps fr (U0 N.length ps.length g):=by
 have hpl:ps.length<=N.length:=by have:=congrArg List.length S.pre;rw [length_take] at this;lia
 obtain ⟨f,fd,F,hm⟩:=D.ex;refine ⟨⟨f,fd,F.okX S (fun vs H Q E h=>h.1) fun cdv A outer s H vs Q E hr ⟨hl,ds,R,mu,r,q⟩=>⟨_,hb f cdv A outer s H E hr,?_⟩,hm,F.kp,F.binds hbi⟩,fun ds h=>Z0x h⟩;exact Bj hpl mu r q
end
section
variable {X:Cx} {m fr fr':Bool} {F:List Dat->Rs} {k:Nat} {x:Str} {ps:List Str} {e:Expr} {es:List Expr} {fs:Ev->Option (List Dat)} {p pos:Pos}
def tXx (X:Cx) (fr:Bool) (F:List Dat->Rs) (fs:Ev->Option (List Dat)):TE:=fun σ H Q=>∃ env B A ds,EnvOk X.K B A H σ env/\fs env=some ds/\match F ds with
 | .ok d=>∀ v H',Yj H H'->Rp X.K (av H' A) d v->Q v H'
 | .exc c fl=>∀ A' H' σ',Step A H A' H'->EnvOk X.K B A' H' σ' env->σ'=σ->XW X A' H' σ' c fl
 | .no=>False
theorem Zan (C:CalX X.prog X.w X.K X.mg X.base k x ps fr F) (hr:Room k X.A) (ha:PAd false X (e::es) fs) (hg:Gl X x:=by rfl)
  (hdb:(x==("__debug__" : Str))=false:=by decide) (he:starEach (e::es) X.env=(false,eval e X.env)::starEach es X.env:=by rfl) (hpl:(backTo pos (starEach es X.env)).any (·.1)=false:=by rfl) :
  PE X (.Call (.Name x p) (e::es) [] pos) (tXx X fr F fs):=by
 obtain ⟨f,fd,Ff,hm,hk,hb⟩:=C.ex;intro pins s σ H Q I ⟨env,B,A,ds,kk,e1,q⟩;refine wpAny_Call_Name_kw (Sh I hg hm ?_ hdb);refine PySem.W.callWith_K (h₀:=X.base) I.ok.mod.kin hk (thn (ha pos pins s σ H (fun vs H1=>Yj H H1/\Rps X.K (av H1 A) ds vs) I ⟨env,B,A,ds,kk,e1,fun vs H1 s1 rs=>⟨s1,rs.rps⟩⟩) fun us s1 ⟨vs,H1,I1,r,sm,rs⟩=>⟨I1.kIn,?_⟩) he hpl;have hne:F ds≠.no:=fun z=>by rw [z] at q;exact q
 have hl:us.length=ps.length:=by rw [← r.length,Y5 rs];exact C.len ds hne
 let E:XK:=fun cls dct H'=>∃ c fl C,F ds=.exc c fl/\cls=.ref C/\T3 X.K c C/\Yj H1 H'/\XFs X.K (av H' A) dct fl
 refine wpAny_call (codeAny_mono (Ff.run X.A X.stack s1 H1 ⟨us,[]⟩ us vs Q E hr I1.env0 (by simpa using hb s1 us I1.kIn (by simpa using hl)) r ⟨by rw [Y5 rs];exact C.len ds hne,ds,A,kk.mu.mono sm,rs,?_⟩) fun rr s' hq=>?_)
 ·unfold Z6b
  split
  ·rename_i d hd
   rw [hd] at q;exact fun v H' s2 r2 _=>q v H' (sm.trans s2) r2
  ·rename_i c fl hd
   exact fun C dct H' s2 hc hf=>⟨c,fl,C,hd,rfl,hc,s2,hf⟩
  ·rename_i hd
   exact hne hd
 ·cases rr with
  | error ev =>
   obtain ⟨ex,C,dct,T,H',rfl,ho,hbr,un,hok,h1,h2,h3,h4,ht,c,fl,C',hF,eC,hc,sm2,hf⟩:=hq;cases eC;rw [hF] at q;have I2:Inv X pins σ H' s':=I1.call' (ch:=[]) ho un hok hbr (fun b z=>absurd z (by simp));have sz:X.s₀.heap.objs.size<=s1.heap.objs.size:=I1.sz;have np:∀ {a:Addr},s1.heap.objs.size<=a->∀ p∈X.pn++pins,p.1≠a:=fun {a} ha p hp z=>by
    have:=(I1.pin p hp).1;rw [z] at this;exact absurd (lt_size this) (not_lt.mpr ha)
   exact q A H' σ (Step.same (sm.trans sm2)) (kk.mono (sm.trans sm2)) rfl pins s' ex C dct I2 hc ⟨le_trans sz h1,h3,.inr ⟨T,le_trans sz h2,h4,np h2,ht⟩,np h1⟩ hf
  | ok fl =>
   cases fl with
   | ret u=>exact I1.after hq
   | next=>exact False.elim hq
   | brk=>exact False.elim hq
   | cont=>exact False.elim hq
def Oi (i:Nat) (F:List Dat->Rs) (fs:Ev->Option (List Dat)):Ev->Fl:=fun env=>match fs env with
 | none=>.no
 | some ds=>match F ds with
  | .ok d=>.next (env.set i (.fz d))
  | .exc c fl=>.exc env c fl
  | .no=>.no
theorem Z94 (i:Nat) {x:Str} {pos':Pos} (hN:X.N.Nodup) (hi:X.N[i]?=some x) (hx:Loc X.env.scope x) (he:PE X e (tXx X fr' F fs)) (hs:swapsWith e (some (.Name x pos')) pos.line X.env=pure false:=by rfl)
  (hf:X.fn x=true\/X.env.scope.names.lookup x=some .local:=by first | exact .inl rfl | exact .inr rfl | assumption):PSd fr X (.Assign [.Name x pos'] e pos) (Oi i F fs):=(X0 hN hi hx he hs hf).weak fun D σ H zz=>by
 obtain ⟨env,B,A,k,hst,q⟩:=zz;unfold Oi at q;split at q
 ·exact q.elim
 rename_i ds e1;refine ⟨env,B,A,ds,k,e1,?_⟩;split at q
 ·rename_i d hd
  exact fun v H' s r=>q A H' _ (Step.same s) ((k.mono s).put i r)
 ·rename_i c fl hd
  exact fun A' H' σ' s k' _=>q A' H' σ' s k'
 ·exact q.elim
end
theorem Xu:∀ i:Fin 1000,(Str.ofString (toString (i.val:Int))).length<=3:=by decide +kernel
theorem E5 {i:Int} (h0:0<=i) (h1:i<1000):(Str.ofString (toString i)).length<=3:=by
 have:=Xu ⟨i.toNat,by lia⟩;have e:((i.toNat:Nat):Int)=i:=by lia
 rw [e] at this;exact this
theorem E6:∀ (ts:List Str) (k:Nat) (acc:Str),(textFrom k acc ts).length<=acc.length+piled ts
 | [],k,acc=>by rw [piled_nil];exact le_refl _
 | t::ts,k,acc=>by
  have h:=E6 ts (k+1) (acc++(if k > 0 then ", " else "" : String)++t);rw [piled_cons];have e:(acc++(if k > 0 then ", " else "" : String)++t).length<=acc.length+2+t.length:=by
   rw [strLen_append,strLen_append];have:(Str.ofString (if k > 0 then ", " else "")).length<=2:=by split<;>decide
   lia
  show (textFrom (k+1) (acc++(if k > 0 then ", " else "" : String)++t) ts).length<=_;lia
def Hj (ns:List Int):Prop:=ns.length<=500/\∀ n∈ns,0<=n/\n<1000
theorem Np {ns:List Int} (h:Hj ns):(PyData.shown (.list (ns.map PyData.int))).length<=3000:=by
 have key:∀ ns:List Int,(∀ n∈ns,0<=n/\n<1000)->piled (PyData.shownAll (ns.map PyData.int))<=5*ns.length:=by
  intro ns;induction ns with
  | nil=>intro _;simp [PyData.shownAll,piled_nil]
  | cons n ns ih =>
   intro hn;have h1:=ih fun m hm=>hn m (mem_cons_of_mem _ hm)
   have h2:=hn n mem_cons_self;rw [map_cons,PyData.shownAll,piled_cons,length_cons];have:(PyData.shown (.int n)).length<=3:=by rw [PyData.shown];exact E5 h2.1 h2.2
   lia
 have hk:=key ns h.2;have h5:=h.1;rw [PyData.shown];show (textFrom 0 "[" _++"]").length<=_;rw [strLen_append];have:=E6 (PyData.shownAll (ns.map PyData.int)) 0 "[";have e1:(Str.ofString "[").length=1:=by decide
 have e2:(Str.ofString "]").length=1:=by decide
 lia
theorem Mx:∀ {ns:List Int},(∀ n∈ns,0<=n/\n<1000)->PyData.showableAll (ns.map PyData.int)=true
 | [],_=>by simp [PyData.showableAll]
 | n::ns,h=>by
  have h2:=h n mem_cons_self;rw [map_cons,PyData.showableAll,Mx fun m hm=>h m (mem_cons_of_mem _ hm),Bool.and_true,PyData.showable];have h3:n.natAbs<2^1920:=lt_of_lt_of_le (show n.natAbs<2^10 by lia) (pow_le_pow_right (by decide) (by decide));by_cases h0:n.natAbs=0
  ·rw [h0];decide
  ·exact decide_eq_true ((Nat.log2_lt h0).mpr h3)
theorem Es:∀ (ns:List Int),PyData.hasDictAll (ns.map PyData.int)=false
 | []=>by simp [PyData.hasDictAll]
 | n::ns=>by rw [map_cons,PyData.hasDictAll,Es ns,PyData.hasDict];rfl
theorem Gy:∀ (ns:List Int),PyData.depthAll (ns.map PyData.int)=0
 | []=>by simp [PyData.depthAll]
 | n::ns=>by rw [map_cons,PyData.depthAll,Gy ns,PyData.depth];rfl
theorem Ha {h:Heap}:∀ {ns:List Int} {its:List Value},Wa (ns.map V.int) its->ReadsAll h its (ns.map PyData.int) []
 | [],[],_=>.nil
 | [],_::_,r=>by have:=r.length;simp at this
 | _::_,[],r=>by have:=r.length;simp at this
 | n::ns,v::its,r=>by
  cases r with
  | cons h1 r' =>
   obtain ⟨t,rfl⟩:=h1;exact .cons (as:=[]) (bs:=[]) (.int n t) (Ha r')
section
variable {X:Cx}
def Zch (K:PySem.W.Frag) (te:TE) (r:TJ):TJ:=fun σ H acc Q=>te σ H fun x H1=>((∃ i:Int,x=.int i/\0<=i/\i<1000)\/∃ a ns,x=.ref a/\SL K H1 a (ns.map V.int)/\Hj ns)/\acc.length<=100000/\∀ y:Str,y.length<=3000->r σ H1 (acc++y) Q
theorem Br {k:Nat} (hr:Room k X.A) {e:Expr} {pos:Pos} {te:TE} {vs:List Expr} {r:TJ} (he:PE X e te) (hrr:PJ X vs r):PJ X (.FormattedValue e (-1) none pos::vs) (Zch X.K te r):=by
 intro pins s σ H acc Q I hz h;refine joinParts_cons (FormattedValue_plain (thn (he pins s σ H _ I h) fun v s1 ⟨x,H1,I1,r1,hx,hacc,q⟩=>?_));have hle:∀ y:Str,y.length<=3000->(acc++y).length<=sizeLine:=fun y hy=>by rw [strLen_append,sizeLine_eq];lia
 rcases hx with ⟨i,rfl,h0,h1⟩ | ⟨a,ns,rfl,hS,hsm⟩
 ·obtain ⟨t,rfl⟩:=r1
  have hy:(Str.ofString (toString i)).length<=3000:=le_trans (E5 h0 h1) (by decide);refine formatField_int_small ?_ ⟨hle _ hy,hrr pins _ σ H1 _ Q (I1.tok _) (hle _ hy) (q _ hy)⟩;by_cases h00:i.natAbs=0
  ·rw [h00];decide
  ·exact (Nat.log2_lt h00).mpr (lt_of_lt_of_le (show i.natAbs<2^10 by lia) (pow_le_pow_right (by decide) (by decide)))
 ·cases r1
  obtain ⟨its,n,w1,g1,_⟩:=hS.get I1;have hy:=Np hsm;have rd:Reads s1.heap (.ref a) (.list (ns.map PyData.int)) [a]:=.list g1 rfl rfl (by simpa using Ha w1);refine formatField_of_reads (h₀:=s1.heap) rd (by rw [PyData.showable];exact Mx hsm.2) (PyData.noDict_hsm (by rw [PyData.hasDict];exact Es ns)) hr.gd (by rw [PyData.depth,Gy];have:=hr.un;lia) (fun _ _ q=>q) (fun h' u tk hk=>?_) (le_trans hy (by decide));exact ⟨hle _ hy,hrr pins _ σ H1 _ Q (I1.kept hk) (hle _ hy) (q _ hy)⟩
end
end L2
namespace L2
open PySem PySem.Spec PyProof.Rows PySem.W
theorem A5 {K:Frag} {h:Heap} {N:Addr} {mg:Str->Option Value} {n:Str} {v:Value} (X:K.In h) (G:h.Ns N mg) (e:nsIn K N n=some (some v)):mg n=some v:=by
 obtain ⟨o,es,ep,ho,hd,_,hf⟩:=G;unfold nsIn at e;split at e
 ·rename_i c d es' n' sl q
  have:=X _ _ q;rw [ho] at this;cases this;cases hd;split at e
  ·rename_i en he
   cases e;rw [← hf];unfold nsFind findBy;rw [← Array.find?_toList,he];rfl
  ·split at e<;>cases e
 ·cases e
def Fu (K:Frag) (C fI D:Addr):Bool:=match K.lookup C with
 | some ⟨.type "type",_,.cls cd,sl⟩=>(match cd.mro,sl.toList with
  | .ref C'::bm,[_,_,_,_,some (.builtin n),_]=>C'==C&&n=="ValueError.__new__" && !cd.hasDel&&cd.hasDict&&bm==.ref D::De&&tailIn K De bm&&nsOkIn K cd.ns&&nsIn K cd.ns "__init__" == some (some (.ref fI))
  | _,_=>false)
 | _=>false
theorem Z27 {K:Frag} {h:Heap} {C fI D:Addr} (X:K.In h) (q:Fu K C fI D=true):∃ nm qn N bs sn sub ab col dd k0 k1 k2 k3 k5 mN,
  h.get? C=some (excClassObj nm qn C N bs (.ref D::De) true sn sub ab col dd k0 k1 k2 k3 k5 "ValueError.__new__")/\h.Ns N mN/\mN "__init__" = some (.ref fI)/\OwnTail h De (.ref D::De):=by
 unfold Fu at q;split at q
 ·rename_i dd cd sl ho
  split at q
  ·rename_i C' bm k0 k1 k2 k3 n k5 hm hs
   simp only [Bool.and_eq_true,beq_iff_eq,Bool.not_eq_true'] at q;obtain ⟨⟨⟨⟨⟨⟨⟨rfl,rfl⟩,hdel⟩,hdi⟩,rfl⟩,ht⟩,hok⟩,hni⟩:=q;obtain ⟨nm,bs,mro,ns,qn,hd,sn,sub,ab,col,del⟩:=cd;dsimp only at hm hdel hok hni hdi;subst hm hdel hdi;have hsl:sl=#[k0,k1,k2,k3,some (.builtin "ValueError.__new__"),k5]:=by
    obtain ⟨l⟩:=sl;simp only at hs;rw [hs]
   subst hsl;have G:h.Ns ns (h.nsMap ns):=.of_isNs (isNs_of_in X hok);exact ⟨nm,qn,ns,bs,sn,sub,ab,col,dd,k0,k1,k2,k3,k5,_,X _ _ ho,G,A5 X G hni,tail_of_in X ht⟩
  ·cases q
 ·cases q
def XNw (e C:Addr) (dct:Option Addr) (h:Heap):Prop:=∃ t:Addr,h.get? e=some { cls:=.ref C,dict:=dct,data:=.fields #[.ref t,.none,.none,.none,.bool false,.none] }
theorem Za6 {H:Hp} {a:Addr} {o:HO} (h:H a=some o):upd H a o=H:=by
 funext b;unfold upd;split
 ·rename_i e;rw [e,h]
 ·rfl
theorem Bg {P:Program} {w:World} {H:Hp} {h:Heap} {e C:Addr} {dct:Option Addr} (x:XNw e C dct h):Wf P w H h e (.ext (XNw e C dct)):=by
 obtain ⟨t,ht⟩:=x;exact ⟨⟨t,ht⟩,⟨_,ht⟩,fun h1 h2 ⟨t,q⟩ k=>⟨t,k _ q⟩⟩
structure BaseC (K:Frag) (mg:Str->Option Value) (D:Addr):Prop where
 mg:mg "CalmError" = some (.ref D)
 ga:specialIn K (.ref D) "__getattribute__" = some (some (.builtin "type.__getattribute__"))
 rd:readsIn K D (.type "type")=true
 fi:findCls K (.ref D) (.type "type") "__init__" = some (.val (.builtin "ValueError.__init__"))
section
variable {X:Cx} {e:Expr} {es:List Expr} {t:TA} {p apos pos pos':Pos} {D:Addr}
def Z9f (K:Frag) (t:TA):TE:=fun σ H Q=>t σ H fun vs H1=>∃ e C dct v fI D,vs=[.ref e,v]/\H1 e=some (.ext (XNw e C dct))/\Fu K C fI D=true/\Q .non H1
theorem Z47 {pl:Sem Bool} (B:BaseC X.K X.mg D) (ha:PA X (e::es) t) (hg:Gl X "CalmError" := by rfl) (he:starEach (e::es) X.env=(false,eval e X.env)::starEach es X.env:=by rfl) (hpl:(backTo pos (starEach es X.env)).any (·.1)=false:=by rfl)
  (ht:eval (.Call (.Attribute (.Name "CalmError" p) "__init__" apos) (e::es) [] pos) X.env=(do
   let ov ← eval (.Name "CalmError" p) X.env
   standAt apos.atName
   let (f,first) ← holding [ov] (getMethod ov "__init__" pl)
   callWith pos f first (backTo pos (starEach (e::es) X.env)) (backToKw pos (keywordEach [] X.env))):=by rfl) :
  PE X (.Call (.Attribute (.Name "CalmError" p) "__init__" apos) (e::es) [] pos) (Z9f X.K t):=by
 intro pins s σ H Q I h;refine methodCall_KW (pl:=pl) (Sh I hg B.mg ?_ (by decide)) ht;refine method_cls I.kIn B.ga (cls_value I.kIn B.rd B.fi rfl ?_);refine PyProof.Rows.callWith_builtin1 (thn (ha pos pins _ σ H _ (I.tok _) h) fun us s1 ⟨vs,H1,I1,r,ex,C,dct,v,fI,D',ev,hx,hc,q⟩=>?_) he hpl;subst ev;obtain ⟨u,w',rfl,r1,r2⟩:=Xp r;cases r1;obtain ⟨nm,qn,N,bs,sn,sub,ab,col,dd,k0,k1,k2,k3,k5,mN,hC,hN,hi,T⟩:=Z27 I1.kIn hc;obtain ⟨⟨t0,ht0⟩,_,_⟩:=(show Wf X.prog X.w H1 s1.heap ex (.ext (XNw ex C dct)) from I1.hok ex _ hx);obtain ⟨hh,g,d,tk,os⟩:=s1;refine Il T hC ht0 fun h' he' hk hsz=>⟨.non,H1,?_,rfl,q⟩
 have:=I1.write (h':=h') (x:=ex) (e:=ex) (o:=.ext (XNw ex C dct)) (t':=tk) (by rw [hx];trivial) (.inl rfl) (fun b u hb q=>hk b u hb q) ⟨_,he'⟩ (Bg ⟨_,he'⟩);rw [Za6 hx] at this;exact this
def Z7v (K:Frag) (ta tv:TE) (f:Str):TS:=fun D σ H=>tv σ H fun y H1=>ta σ H1 fun x H2=>∃ a C dct fI D',x=.ref a/\H2 a=some (.ext (XNw a C dct))/\Fu K C fI D'=true/\XCls K C/\findIn K (.ref C) f=some none /\
 match dct with
 | none=>∀ dx,H2 dx=none->dx≠a->D.nx σ (upd (upd H2 a (.ext (XNw a C (some dx)))) dx (.xd [(f,y)]))
 | some dx=>False
theorem Z5q {o value:Expr} {f:Str} {ta tv:TE} (ha:PE X o ta) (hv:PE X value tv) (hs:swapsWith value (some (.Attribute o f pos')) pos.line X.env=pure false:=by rfl):PS X (.Assign [.Attribute o f pos'] value pos) (Z7v X.K ta tv f):=by
 intro pins s σ H D I h;refine plainObj_wpAny_Assign_Attribute (thn (hv pins s σ H _ I h) fun u s1 ⟨y,H1,I1,ry,q⟩=>thn (ha pins s1 σ H1 _ I1 q) fun ov s2 ⟨x,H2,I2,rx,a,C,dct,fI,D',ex,ea,hc,xc,hf,q2⟩=>?_) hs;subst ex;obtain rfl:ov=Value.ref a:=rx;cases dct with
 | some dx=>exact q2.elim
 | none =>
  obtain ⟨⟨t0,ht0⟩,_,_⟩:=(show Wf X.prog X.w H2 s2.heap a (.ext (XNw a C none)) from I2.hok a _ ea);obtain ⟨cd,hcd,hhd,a',b',hm⟩:=xc.cd;obtain ⟨oC,cd',hC,hcd',hhd'⟩:=xc.ld I2.kIn;have IA:InstAt s2.heap a { cls:=.ref C,dict:=none,data:=.fields #[.ref t0,.none,.none,.none,.bool false,.none] } C none:=⟨ht0,rfl,rfl,trivial⟩;refine set_plain I2.kIn IA xc.sa ?_;refine Z9t (s:={ s2 with toks:=s2.toks+1 }) I2.kIn IA hcd hm hf ?_;obtain ⟨hh,g,d,tk,os⟩:=s2;refine Cy ht0 rfl (fun c z=>by cases z) rfl hC hcd' hhd' fun h' tk' hx' hns hk hsz=>?_
  have hlt:a<hh.objs.size:=lt_size ht0;have hfr:H2 hh.objs.size=none:=I2.hok.fresh (le_refl _);have hda:hh.objs.size≠a:=Nat.ne_of_gt hlt;have agr:∀ b,b≠a->b≠hh.objs.size->upd (upd H2 a (.ext (XNw a C (some hh.objs.size)))) hh.objs.size (.xd [(f,y)]) b=H2 b:=fun b h1 h2=>by rw [Zg h2,Zg h1]
  have nex:∀ {b:Addr} {o:HO},H2 b=some o->b≠hh.objs.size:=fun {b o} q z=>by rw [z,hfr] at q;cases q
  have un:Un X.fs [] H2 (upd (upd H2 a (.ext (XNw a C (some hh.objs.size)))) hh.objs.size (.xd [(f,y)])) hh h':=by
   refine ⟨fun b o q n _ _=>hk b o (fun z=>by rw [z,ea] at n;cases n) q,fun b o q n _ _=>⟨o.slots,hk b o (fun z=>by rw [z,ea] at n;cases n) q⟩,fun b o q n _=>?_,fun b o q _=>?_,fun b xs q=>?_,fun b o u q=>?_,fun b ps q=>?_⟩
   ·rw [agr b (fun z=>by rw [z,ea] at n;cases n) (fun z=>by rw [z] at q;exact absurd (lt_size q) (lt_irrefl _))];exact n
   ·by_cases z:b=a
    ·subst z;exact ⟨_,hx'⟩
    ·exact ⟨_,hk b o z q⟩
   ·rw [agr b (fun z=>by rw [z,ea] at q;cases q) (nex q)];exact q
   ·rw [agr b (fun z=>by rw [z,ea] at q;cases q) (nex q)];exact q
   ·exact ⟨#[],by rw [agr b (fun z=>by rw [z,ea] at q;cases q) (nex q)];simpa using q⟩
  have hok:HOk X.prog X.w (upd (upd H2 a (.ext (XNw a C (some hh.objs.size)))) hh.objs.size (.xd [(f,y)])) h':=by
   intro b o q;by_cases z2:b=hh.objs.size
   ·subst z2
    rw [Zu] at q;cases q;refine ⟨_,hns,fun g=>?_⟩;show Aa (List.lookup g [(f,y)]) (if g=f then some u else none);by_cases e:g=f
    ·subst e;simp [List.lookup,Aa];exact ry
    ·have e':(g==f)=false:=by simpa using e
     simp [List.lookup,e',e,Aa]
   ·by_cases z1:b=a
    ·subst z1
     rw [Zg z2,Zu] at q;cases q;exact Bg ⟨t0,hx'⟩
    ·rw [agr b z1 z2] at q
     refine (I2.hok b o q).stay (fun c v z w=>hk c v (fun zz=>?_) w) (fun c w=>?_) fun c xs w=>?_
     ·rcases z with z | z
      ·exact z1 (z.symm.trans zz)
      ·rw [zz,ea] at z;cases z
     ·rw [agr c (fun zz=>by rw [zz,ea] at w;cases w) (nex w)];exact w
     ·rw [agr c (fun zz=>by rw [zz,ea] at w;cases w) (nex w)];exact w
  exact ⟨σ,_,I2.un (h':=h') (t':=tk') un hok,q2 _ hfr hda⟩
end
def spG (K:Frag) (C:Addr) (p:Nat) (G:List Dat->Option (List (Str×XD))):Sp:=fun vs H Q _=>∃ e ws ds R fl,vs=.ref e::ws/\ws.length=p/\H e=some (.ext (XNw e C none))/\Ra R H/\R e=false/\Rps K (av H R) ds ws/\G ds=some fl /\
 ∀ H' dct,(∀ c o,c≠e->H c=some o->H' c=some o)->H' e=some (.ext (XNw e C dct))->XFs K (av H' R) dct fl->Q .non H'
structure XMake (P:Program) (w:World) (K:Frag) (mg:Str->Option Value) (base:Heap) (k:Nat) (c:Str) (p:Nat) (G:List Dat->Option (List (Str×XD))):Prop where
 ex:∃ C fI D fd ps,T3 K c C/\mg c=some (.ref C)/\keepIn K (.ref C)=true/\Fu K C fI D=true/\XCls K C/\isFn K (.ref fI)=true/\FnOk P w K mg base CX0 k fI fd ps (spG K C p G)/\Ih K fd ps []
 len:∀ ds fl,G ds=some fl->ds.length=p
 few:p<=10
theorem XFs.of_ne {K:Frag} {H H':Hp} {e:Addr} {dct:Option Addr} {fs:List (Str×XD)} {g:Heap->Prop} (he:H e=some (.ext g)) (k:∀ c o,c≠e->H c=some o->H' c=some o) (h:XFs K H dct fs):XFs K H' dct fs:=by
 have ne:∀ {c:Addr} {o:HO},H c=some o->(∀ g,o≠.ext g)->H' c=some o:=fun {c o} q n=>k c o (fun z=>by rw [z,he] at q;exact n _ (Option.some.inj q).symm) q
 cases dct with
 | none=>exact h
 | some dx =>
  obtain ⟨fvs,e1,e2⟩:=h;refine ⟨fvs,ne e1 (fun _ z=>by cases z),fun f=>(e2 f).imp id fun ⟨d,v,a,b,c⟩=>⟨d,v,a,b,?_⟩⟩;cases d with
  | int i=>exact c
  | nums is =>
   obtain ⟨a,z1,z2,z3⟩:=c;refine ⟨a,z1,?_,z3⟩;rcases z2 with (z | ⟨o,z⟩) | z
   ·exact .inl (.inl (ne z (fun _ w=>by cases w)))
   ·exact .inl (.inr ⟨o,ne z (fun _ w=>by cases w)⟩)
   ·exact .inr z
def drp (H:Hp) (a:Addr):Hp:=fun b=>if b=a then none else H b
theorem Pr {H:Hp} {a b:Addr} (h:b≠a):drp H a b=H b:=by unfold drp;rw [if_neg h]
theorem Pe {H:Hp} {a:Addr}:drp H a a=none:=by unfold drp;rw [if_pos rfl]
theorem Dt {H:Hp} {a b:Addr} (h:H b=none):drp H a b=none:=by unfold drp;split<;>first | rfl | exact h
theorem Inv.drop {X:Cx} {pins:List (Addr×Obj)} {σ:St} {H:Hp} {s:Shared} {a:Addr} {g:Heap->Prop} (I:Inv X pins σ H s) (ha:H a=some (.ext g)):Inv X pins σ (drp H a) s:=by
 have ne:∀ {b:Addr} {o:HO},H b=some o->(∀ g,o≠.ext g)->drp H a b=some o:=fun {b o} q n=>by rw [Pr (fun z=>by rw [z,ha] at q;exact n _ (Option.some.inj q).symm)];exact q
 refine ⟨I.ok,I.os,I.bare,⟨I.base.keep,I.base.slot,fun b o q n hx=>Dt (I.base.free b o q n hx),I.base.there,fun b xs q=>ne (I.base.tups b xs q) (fun _ z=>by cases z),fun b o u q=>ne (I.base.frzs b o u q) (fun _ z=>by cases z),fun b ps q=>?_⟩,I.loc,I.cell,Dt I.free,fun x c e=>Dt (I.freeC x c e),fun p hp=>?_,fun b o q=>?_,I.len⟩
 ·obtain ⟨more,z⟩:=I.base.tbls b ps q
  exact ⟨more,ne z (fun _ z=>by cases z)⟩
 ·obtain ⟨h1,h2,h3⟩:=I.pin p hp
  exact ⟨h1,Dt h2,h3⟩
 ·have hb:b≠a:=fun z=>by rw [z,Pe] at q;cases q
  rw [Pr hb] at q;exact (I.hok b o q).stay (fun _ _ _ w=>w) (fun c w=>ne w (fun _ z=>by cases z)) fun c xs w=>ne w (fun _ z=>by cases z)
theorem Im {H:Hp} {a:Addr} {o:HO} (h:H a=none):Yj H (upd H a o):=fun b u e=>by rw [Zg (fun z=>by rw [z,h] at e;cases e)];exact e
section
variable {X:Cx} {fr:Bool} {e:Expr} {es:List Expr} {fs:Ev->Option (List Dat)} {p pos cpos:Pos} {k n:Nat} {c:Str} {G:List Dat->Option (List (Str×XD))}
def Ll (c:Str) (G:List Dat->Option (List (Str×XD))) (fs:Ev->Option (List Dat)):Ev->Fl:=fun env=>match (fs env).bind G with
 | none=>.no
 | some fl=>.exc env c fl
theorem Ad {pins:List (Addr×Obj)} {σ:St} {H:Hp} {s:Shared} {us:List Value} {vs:List V} {ds:List Dat} {fl:List (Str×XD)} {env:Ev} {B:Bs} {A:AS} (M:XMake X.prog X.w X.K X.mg X.base k c n G) (hr:Room (k+1) X.A)
  (I:Inv X pins σ H s) (kk:EnvOk X.K B A H σ env) (r:Wa vs us) (rs:Rps X.K (av H A) ds vs) (hG:G ds=some fl) {C fI D:Addr} (hcl:T3 X.K c C) (hx:Fu X.K C fI D=true) {fd:FuncData} {ps:List Str} (hfn:isFn X.K (.ref fI)=true) (F:FnOk X.prog X.w X.K X.mg X.base CX0 k fI fd ps (spG X.K C n G)) (hb:Ih X.K fd ps [])
  (q:∀ H' σ',σ'=σ->Yj H H'->EnvOk X.K B A H' σ env->XW X A H' σ c fl) :
  wpAny (model X.prog X.w) X.A (call (.ref C) us) (fun v s'=>∃ ex t dct,v=.ref ex/\(∃ o,s'.heap.get? C=some o)/\s'.heap.get? ex=some { cls:=.ref C,dict:=dct,data:=.fields #[.ref t,.none,.none,.none,.bool false,.none] }/\X.K.In s'.heap/\X.xe (.ref ex) s') X.xe s:=by
 obtain ⟨nm,qn,N,bs,sn,sub,ab,col,dd,k0,k1,k2,k3,k5,mN,hC,hN,hi,T⟩:=Z27 I.kIn hx;have hfI:∃ oI,s.heap.get? fI=some oI/\oI.cls=.type "function" := by
  have:=beq_iff_eq.mp hfn;obtain ⟨oI,h1,h2⟩:=Option.map_eq_some_iff.mp this;exact ⟨oI,I.kIn _ _ h1,h2⟩
 obtain ⟨oI,hfI,hfc⟩:=hfI;have hlen:us.length<=sizeLine:=by
  have h1:=r.length;have h2:=Y5 rs;have h3:=M.len ds fl hG;have h4:=M.few;exact le_of_lt (Qo (by lia))
 obtain ⟨hh,g,d,tk,os⟩:=s;refine Xt (hrest:=hlen) PySem.F.excBase_ValueError (by decide) PySem.F.excBase_ValueError T hC hN hi hfI hfc fun h' ex hlo hm=>?_
 obtain ⟨t0,ht0,_,_⟩:=hm.there;have hfr:H ex=none:=I.hok.fresh hlo;have I2:Inv X pins σ (upd H ex (.ext (XNw ex C none))) ⟨h',g,d,tk,os⟩:=I.laid (h':=h') (t':=tk) (a:=ex) (o:=.ext (XNw ex C none)) hm.keeps hlo (Bg ⟨t0,ht0⟩);have aex:A ex=false:=by
  cases z:A ex with
  | false=>rfl
  | true=>obtain ⟨o,ho⟩:=(kk.mu ex z).some;rw [hfr] at ho;cases ho
 have sm1:Yj H (upd H ex (.ext (XNw ex C none))):=Im hfr;let Q':VK:=fun v H'=>v=.non/\∃ dct,(∀ c o,c≠ex->upd H ex (.ext (XNw ex C none)) c=some o->H' c=some o)/\H' ex=some (.ext (XNw ex C dct))/\XFs X.K (av H' A) dct fl
 have hsp:spG X.K C n G (.ref ex::vs) (upd H ex (.ext (XNw ex C none))) Q' E0:=⟨ex,vs,ds,A,fl,rfl,by rw [Y5 rs];exact M.len ds fl hG,Zu,kk.mu.mono sm1,aex,rs.mono (Vd sm1),hG,fun H' dct h1 h2 h3=>⟨rfl,dct,h1,h2,h3⟩⟩;have hl2:(Value.ref ex::us).length=ps.length:=by
  have e1:=F.len _ _ _ _ hsp;have e2:=r.length;rw [length_cons] at e1 ⊢;lia
 refine wpAny_call (codeAny_mono (F.run _ X.stack ⟨h',g,d,tk,os⟩ _ ⟨Value.ref ex::us,[]⟩ (Value.ref ex::us) (V.ref ex::vs) Q' E0 (hr.make C us []) (I2.env0.make C us []) (by simpa using hb _ (Value.ref ex::us) I2.kIn (by simpa using hl2)) (.cons rfl r) hsp) fun rr s' hq=>?_);cases rr with
 | error e=>exact False.elim hq
 | ok fl' =>
  cases fl' with
  | ret u =>
   obtain ⟨v,H',I3,rv,ev,dct,h1,h2,h3⟩:=I2.after hq;subst ev;have eu:u=.none:=rv;subst eu;refine ⟨rfl,?_⟩;obtain ⟨⟨t1,ht1⟩,_,_⟩:=(show Wf X.prog X.w H' s'.heap ex (.ext (XNw ex C dct)) from I3.hok ex _ h2);have I4:=I3.drop h2;have sm:Yj H (drp H' ex):=fun b o q=>by
    have hb:b≠ex:=fun z=>by rw [z,hfr] at q;cases q
    rw [Pr hb];exact h1 b o hb (by rw [Zg hb];exact q)
   have lo2:X.s₀.heap.objs.size<=ex:=le_trans I.sz hlo;obtain ⟨nm',qn',N',bs',sn',sub',ab',col',dd',k0',k1',k2',k3',k5',mN',hC',_,_,_⟩:=Z27 I3.kIn hx;refine ⟨ex,t1,dct,rfl,⟨_,hC'⟩,ht1,I3.kIn,?_⟩;refine q (drp H' ex) σ rfl sm (kk.mono sm) pins s' ex C dct I4 hcl ⟨lo2,Pe,.inl ⟨_,_,ht1,rfl,rfl,rfl,rfl⟩,fun p hp z=>?_⟩ ?_
   ·have:=(I.pin p hp).1
    rw [z] at this;exact absurd (lt_size this) (not_lt.mpr hlo)
   ·exact h3.of_ne (e:=ex) (Qe h2 aex) fun c o hc q=>Qe (by rw [Pr hc];exact (Rg q).2) (Rg q).1
  | next=>exact False.elim hq
  | brk=>exact False.elim hq
  | cont=>exact False.elim hq
theorem Z53 (M:XMake X.prog X.w X.K X.mg X.base k c n G) (hr:Room (k+1) X.A) (hc:X.calm=true) (ha:PAd false X (e::es) fs) (hg:Gl X c:=by rfl) (hdb:(c==("__debug__" : Str))=false:=by decide)
  (he:starEach (e::es) X.env=(false,eval e X.env)::starEach es X.env:=by rfl) (hpl:(backTo cpos (starEach es X.env)).any (·.1)=false:=by rfl):PSd fr X (.Raise (some (.Call (.Name c p) (e::es) [] cpos)) none pos) (Ll c G fs):=by
 intro pins s σ H D I ⟨env,B,A,kk,hst,q⟩;obtain ⟨C,fI,D',fd,ps,hcl,hm,hkp,hx,xc,hfn,F,hb⟩:=M.ex;unfold Ll at q;split at q
 ·exact q.elim
 rename_i fl hfl;obtain ⟨ds,e1,hG⟩:=bind_some hfl;obtain ⟨nm,qn,N,bs,sn,sub,ab,col,dd,k0,k1,k2,k3,k5,mN,hC,hN,hi,T⟩:=Z27 I.kIn hx;have key:wpAny (model X.prog X.w) X.A (eval (.Call (.Name c p) (e::es) [] cpos) X.env) (fun v s'=>∃ ex t dct,v=.ref ex/\(∃ o,s'.heap.get? C=some o)/\s'.heap.get? ex=some { cls:=.ref C,dict:=dct,data:=.fields #[.ref t,.none,.none,.none,.bool false,.none] }/\X.K.In s'.heap/\X.xe (.ref ex) s') X.xe s:=by
  refine wpAny_Call_Name_kw (Sh I hg hm ?_ hdb);refine callWith_K (h₀:=X.base) I.ok.mod.kin hkp (thn (ha cpos pins s σ H (fun vs H1=>Yj H H1/\Rps X.K (av H1 A) ds vs) I ⟨env,B,A,ds,kk,e1,fun vs H1 s1 rs=>⟨s1,rs.rps⟩⟩) fun us s1 ⟨vs,H1,I1,r,sm,rs⟩=>⟨I1.kIn,?_⟩) he hpl;exact Ad M hr I1 (kk.mono sm) r rs hG hcl hx hfn F hb fun H' σ' _ sm2 k2=>q A H' σ (Step.same (sm.trans sm2)) k2
 rw [arm_exec_Raise];refine wpAny_bind (wpAny_standAt (Nm (C:=C) (nm:=nm) (q:=qn) (N:=N) (bs:=bs) (bm:=.ref D'::De) (hdct:=true) (sn:=sn) (sub:=sub) (ab:=ab) (col:=col) (dd:=dd) (k0:=k0) (k1:=k1) (k2:=k2) (k3:=k3) (k5:=k5) (newId:="ValueError.__new__") (by simp [De]) (I.ok.hd hc) (wpAny_bind (wpAny_mono key (fun v s₃ h₃=>wpAny_bind (wpAny_standAt (wpAny_pure ?_))) fun _ _ x=>x))));obtain ⟨ex,t,dct,rfl,_,hex,hK,hxe⟩:=h₃;obtain ⟨o,lk⟩:∃ o,X.K.lookup C=some o:=by
  unfold Fu at hx;split at hx
  ·rename_i ho;exact ⟨_,ho⟩
  ·cases hx
 have e2:=(I.kIn _ _ lk).symm.trans hC;cases e2;exact ⟨ex,.ref t,dct,rfl,hK _ _ lk,hex,hxe⟩
end
def M8 (ns:List Int):Bool:=decide (ns.length<=500)&&ns.all fun n=>decide (0<=n)&&decide (n<1000)
theorem Kr {ns:List Int} (h:M8 ns=true):Hj ns:=by
 unfold M8 at h;rw [Bool.and_eq_true,all_eq_true] at h;refine ⟨of_decide_eq_true h.1,fun n hn=>?_⟩;have:=h.2 n hn;rw [Bool.and_eq_true] at this;exact ⟨of_decide_eq_true this.1,of_decide_eq_true this.2⟩
def JOk (n:Nat) (σ:St) (H:Hp) (r:TJ):Prop:=∀ (acc:Str) (Q:VK),acc.length<=n->(∀ z,Q (.str z) H)->r σ H acc Q
theorem Z4p {n:Nat} {σ:St} {H:Hp}:JOk n σ H Zcg:=fun acc Q _ q=>q acc
theorem Nd {n:Nat} {σ:St} {H:Hp} {c:Str} {r:TJ} (hr:JOk (n+c.length) σ H r) (h:n+c.length<=100000):JOk n σ H (Zcv c r):=fun acc Q ha q=>by
 have e:(acc++c).length=acc.length+c.length:=strLen_append _ _;exact ⟨by rw [e,sizeLine_eq];lia,hr _ Q (by rw [e];lia) q⟩
theorem Ni {n i:Nat} {K:Frag} {σ:St} {H:Hp} {v:V} {r:TJ} (hr:JOk (n+3000) σ H r) (h:n<=90000) (hv:σ[i]?=some (some v)) (hs:(∃ i:Int,v=.int i/\0<=i/\i<1000)\/∃ a ns,v=.ref a/\SL K H a (ns.map V.int)/\Hj ns):JOk n σ H (Zch K (Z0z i) r):=fun acc Q ha q =>
 ⟨v,hv,hs,by lia,fun y hy=>hr _ Q (by rw [strLen_append];lia) q⟩
section
variable {P:Program} {w:World} {K:Frag} {mg:Str->Option Value} {base:Heap}
end
section
variable {X:Cx} {pins:List (Addr×Obj)} {σ:St} {H:Hp} {s:Shared}
theorem K4 {M:Model} {A:Around} {E:Value->Shared->Prop} {i:Nat} {x:Str} {pos:Pos} {Q:Unit->Shared->Prop} (I:Inv X pins σ H s) (hN:X.N.Nodup) (hi:X.N[i]?=some x) (hk:X.env.kindOf x=some .local)
   (h:∀ s',Inv X pins (σ.set i none) H s'->Q () s'):wpAny M A (do bindName X.env x .none;unbindBehindTheSuite X.env x pos) Q E s:=by
 obtain ⟨m,hn,hl⟩:=id I.loc;have hcls:(X.env.scope.kind==.class||(X.env.scope.kind==.module&&X.env.locals != X.env.globals))=false:=by rw [I.ok.kind];rfl
 have cne:=I.cne;refine wpAny_nameGoes_keeps hk hn hcls fun h' v hn' hs=>?_
 obtain ⟨oL,_,_,hoL,_⟩:=id hn;refine h _ ⟨I.ok,I.os,I.bare,⟨fun b o e n hb hx=>?_,fun b o e n hb hx=>?_,I.base.free,fun b o e hx=>?_,I.base.tups,I.base.frzs,I.base.tbls⟩,⟨_,hn',fun j y v' e1 e2 e3=>?_⟩,fun y c e=>?_,I.free,I.freeC,fun p hp=>?_,fun b ob e=>?_,by simpa using I.len⟩
 · exact (hs.2 b (ne_of_lt (lt_of_lt_of_le (lt_size e) I.ok.above))).trans (I.base.keep b o e n hb hx)
 · obtain ⟨sl,e1⟩:=I.base.slot b o e n hb hx
   exact ⟨sl,(hs.2 b (ne_of_lt (lt_of_lt_of_le (lt_size e) I.ok.above))).trans e1⟩
 · obtain ⟨o',e1⟩:=I.base.there b o e hx
   exact ⟨o',(hs.2 b (ne_of_lt (lt_of_lt_of_le (lt_size e) I.ok.above))).trans e1⟩
 · by_cases hj:j=i
   · subst hj
     rw [getElem?_set] at e2;simp at e2
   · rw [List.getElem?_set_ne (Ne.symm hj)] at e2
     obtain ⟨u',r',q⟩:=hl j y v' e1 e2 e3;refine ⟨u',r',?_⟩;rcases q with ⟨k,e⟩ | ⟨k,c,e,z⟩
     · refine .inl ⟨k,?_⟩
       have:y≠x:=fun e=>hj (Ir hN e1 (e▸hi))
       simp [this,e]
     · exact .inr ⟨k,c,e,z.sameBut hs (cne y c e)⟩
 · obtain ⟨w',z⟩:=I.cell y c e
   exact ⟨w',z.sameBut hs (cne y c e)⟩
 · obtain ⟨e,n,ne,nf,d⟩:=I.pin p hp
   exact ⟨(hs.2 p.1 ne).trans e,n,ne,nf,d⟩
 · refine (I.hok b ob e).stay (fun c w' hc q=>(hs.2 c ?_).trans q) (fun _ q=>q) fun _ _ q=>q
   rintro rfl;rcases hc with rfl | hc
   · rw [I.free] at e;cases e
   · rw [I.free] at hc;cases hc
theorem Inv.track {a:Addr} {o:HO} (I:Inv X pins σ H s) (ha:H a=none) (lo:X.s₀.heap.objs.size<=a) (hl:a≠X.env.locals) (hc:∀ x c,X.env.cells.lookup x=some c->c≠a) (hp:∀ p∈X.pn++pins,p.1≠a) (ok:Wf X.prog X.w (upd H a o) s.heap a o):Inv X pins σ (upd H a o) s:=by
 have sm:Yj H (upd H a o):=Im ha;refine ⟨I.ok,I.os,I.bare,⟨I.base.keep,I.base.slot,fun b ob q n hx=>?_,I.base.there,fun b xs q=>sm _ _ (I.base.tups b xs q),fun b o u q=>sm _ _ (I.base.frzs b o u q),fun b ps q=>?_⟩,I.loc,I.cell,?_,fun x c e=>?_,fun p h=>?_,fun b u q=>?_,I.len⟩
 ·rw [Zg (fun z=>by rw [z] at q;exact absurd (lt_size q) (not_lt.mpr lo))]
  exact I.base.free b ob q n hx
 ·obtain ⟨more,z⟩:=I.base.tbls b ps q
  exact ⟨more,sm _ _ z⟩
 ·rw [Zg (Ne.symm hl)];exact I.free
 ·rw [Zg (hc x c e)];exact I.freeC x c e
 ·obtain ⟨h1,h2,h3⟩:=I.pin p h
  exact ⟨h1,by rw [Zg (hp p h)];exact h2,h3⟩
 ·by_cases z:b=a
  ·subst z;rw [Zu] at q;cases q;exact ok
  ·rw [Zg z] at q
   exact (I.hok b u q).stay (fun _ _ _ w=>w) (fun c w=>sm _ _ w) fun c xs w=>sm _ _ w
abbrev Cx.inTry (X:Cx) (pn:List (Addr×Obj)) (E:Value->Shared->Prop):Cx:={ X with pn:=pn,xe:=E }
abbrev Cx.inH (X:Cx) (pn:List (Addr×Obj)) (e:Addr):Cx:={ X with A:=X.A.mark (some (.ref e)),calm:=false,pn:=pn,xe:=fun _ _=>False }
theorem Inv.toTry {E:Value->Shared->Prop} (I:Inv X pins σ H s):Inv (X.inTry (X.pn++pins) E) [] σ H s :=
 ⟨⟨I.ok.mod,I.ok.kind,I.ok.glob,I.ok.blt,I.ok.above,I.ok.inj,I.ok.has,I.ok.cab,I.ok.hd,I.ok.frames,I.ok.stk,I.ok.exf,I.ok.bs,I.ok.bsz,I.ok.noex,I.ok.exfs,I.ok.funs,I.ok.frf⟩,I.os,I.bare,I.base,I.loc,I.cell,I.free,I.freeC,fun p hp=>I.pin p (by simpa using hp),I.hok,I.len⟩
theorem Inv.ofTry {E:Value->Shared->Prop} {pins':List (Addr×Obj)} (ok:X.Ok) (I:Inv (X.inTry (X.pn++pins) E) pins' σ H s):Inv X pins σ H s :=
 ⟨ok,I.os,I.bare,I.base,I.loc,I.cell,I.free,I.freeC,fun p hp=>I.pin p (mem_append_left _ hp),I.hok,I.len⟩
theorem Inv.toH {e:Addr} (I:Inv X pins σ H s):Inv (X.inH (X.pn++pins) e) [] σ H s :=
 ⟨⟨I.ok.mod,I.ok.kind,I.ok.glob,I.ok.blt,I.ok.above,I.ok.inj,I.ok.has,I.ok.cab,(fun z=>nomatch z),I.ok.frames,I.ok.stk,I.ok.exf,I.ok.bs,I.ok.bsz,I.ok.noex,I.ok.exfs,I.ok.funs,I.ok.frf⟩,I.os,I.bare,I.base,I.loc,I.cell,I.free,I.freeC,fun p hp=>I.pin p (by simpa using hp),I.hok,I.len⟩
theorem Inv.ofH {e:Addr} {pins':List (Addr×Obj)} (ok:X.Ok) (I:Inv (X.inH (X.pn++pins) e) pins' σ H s):Inv X pins σ H s :=
 ⟨ok,I.os,I.bare,I.base,I.loc,I.cell,I.free,I.freeC,fun p hp=>I.pin p (mem_append_left _ hp),I.hok,I.len⟩
end
theorem EnvOk.clr {K:Frag} {B:Bs} {A:AS} {H:Hp} {σ:St} {env:Ev} (k:EnvOk K B A H σ env) (i:Nat):EnvOk K B A H (σ.set i none) (env.set i .un):=by
 obtain ⟨own,h1,h2,h4⟩:=k.sl;refine ⟨k.h0,k.r0,k.ra,k.ar,k.mu,by rw [length_set,length_set];exact k.len,fun hst j d=>?_,own,h1,h2,fun j s e=>?_⟩
 ·rw [getElem?_set]
  split
  ·split<;>simp
  ·exact k.np hst j d
 ·rw [getElem?_set] at e
  split at e
  ·rename_i hij
   split at e
   ·rename_i hl
    cases e;exact ⟨none,by rw [getElem?_set,if_pos hij,if_pos (by rw [k.len];exact hl)],trivial⟩
   ·cases e
  ·rename_i hij
   obtain ⟨x,e1,e2⟩:=h4 j s e;exact ⟨x,by rw [getElem?_set,if_neg hij];exact e1,e2⟩
def Zd3 (i:Nat):Fl->Fl
 | .next e=>.next (e.set i .un)
 | .brk e=>.brk (e.set i .un)
 | .cont e=>.cont (e.set i .un)
 | .ret d=>.ret d
 | .exc _ _ _=>.no
 | .no=>.no
def Z37 (sub:Str->Bool) (i:Nat) (g h:Ev->Fl):Ev->Fl:=fun env=>match g env with
 | .exc env' c fl=>if sub c=true then Zd3 i (h (env'.set i (.fz (.exc c fl)))) else .no
 | r=>r
theorem Ps {l:List Env} {ch:List Addr} {T':Addr} {h h' h2:Heap} (k:KpX l ch h h') (hT:h.objs.size<=T') (y:∀ b o,h'.get? b=some o->b∉[T']->h2.get? b=some o):KpX l ch h h2:=fun b o hb hc=>by
 obtain ⟨k1,sl,k2⟩:=k b o hb hc;have hbT:b∉[T']:=fun z=>by
  have e1:b=T':=by simpa using z
  rw [e1] at hb;exact absurd (lt_size hb) (not_lt.mpr hT)
 exact ⟨fun hl=>y b o (k1 hl) hbT,sl,y b _ k2 hbT⟩
section
variable {X:Cx} {fr:Bool} {g h:Ev->Fl} {body:List Stmt} {b₀:Stmt} {suite:List Stmt} {T n:Str} {np hpos pos:Pos} {i:Nat} {sub:Str->Bool} {DT:Addr}
theorem Z5k (hb:∀ pn E,PBd fr (X.inTry pn E) body g) (hh:∀ pn e,PBd fr (X.inH pn e) (b₀::suite) h) (hN:X.N.Nodup) (hi:X.N[i]?=some n) (hx:Loc X.env.scope n) (hT:X.mg T=some (.ref DT))
  (hsub:∀ c C,T3 X.K c C->sub c=true->exmOne X.K (.ref C) (.ref DT)=some true) (hk:X.env.kindOf n=some .local:=by rfl) (hg:Gl X T:=by rfl) (hdb:(T==("__debug__" : Str))=false:=by decide)
  (hstk:X.stack=X.env::X.outer/\X.env.frame=some X.env.locals:=by exact ⟨rfl,rfl⟩)
  (hf:X.fn n=true\/X.env.scope.names.lookup n=some .local:=by first | exact .inl rfl | exact .inr rfl | assumption) :
  PSd fr X (.Try body [.ExceptHandler (some (.Name T np)) (some n) (b₀::suite) hpos] [] [] pos) (Z37 sub i g h):=by
 intro pins s σ H D I ⟨env,B,A,kk,hst,q⟩;let EX:Value->Shared->Prop:=fun ev s₁=>wpAny (model X.prog X.w) X.A (noteFrame ev X.env) (fun _ s₂=>wpAny (model X.prog X.w) X.A (setFlight ev none) (fun _ s₃=>wpAny (model X.prog X.w) X.A (handleBy ev X.env [.ExceptHandler (some (.Name T np)) (some n) (b₀::suite) hpos]) (SP X pins D) X.xe s₃) X.xe s₂) X.xe s₁
 have flok:Cr fr (X.inTry (X.pn++pins) EX) B A H D (g env):=by
  unfold Z37 at q;cases eg:g env with
  | next e'=>rw [eg] at q;exact q
  | brk e'=>rw [eg] at q;exact q
  | cont e'=>rw [eg] at q;exact q
  | ret d=>rw [eg] at q;exact q
  | no=>rw [eg] at q;exact q
  | exc env' c fl =>
   rw [eg] at q;dsimp only at q;split at q
   ·rename_i hsc
    intro A1 H1 σ1 st1 k1 pins' s1 e C dct I1 hcl x hf1;have J1:Inv X pins σ1 H1 s1:=I1.ofTry I.ok;have hfr:X.A.frames=some (X.env::X.outer):=by rw [← hstk.1];exact J1.ok.frames
    have hl:s1.heap.FunFrames X.base (X.env::X.outer):=by rw [← hstk.1];exact J1.stack
    have hkb:X.base.StaysIn s1.heap:=J1.bk;have hen:X.base.get? e=none:=J1.noBase x.lo;have hfree:∀ b∈frs (X.env::X.outer),H1 b=none:=by rw [← hstk.1];exact J1.stkFree
    have hpn:∀ {a:Addr},(∀ p∈(X.inTry (X.pn++pins) EX).pn++pins',p.1≠a)->∀ p∈X.pn++pins,p.1≠a:=fun {a} z p hp=>z p (mem_append_left _ hp)
    have nloc:∀ {s1:Shared} (J1:Inv X pins σ1 H1 s1) {a:Addr} {o:Obj} {vs:Array Value},s1.heap.get? a=some o->o.data=.fields vs->a≠X.env.locals/\∀ y c,X.env.cells.lookup y=some c->c≠a:=fun {s1} J1 {a o vs} ho hd=>by
     refine ⟨fun z=>?_,fun y c hc z=>?_⟩
     ·obtain ⟨m,⟨o',es,ep,ho',hd',_⟩,_⟩:=J1.loc
      rw [z,ho'] at ho;cases ho;rw [hd] at hd';cases hd'
     ·obtain ⟨v,o',ho',hd'⟩:=J1.cell y c hc
      rw [z,ho] at ho';cases ho';rw [hd] at hd';cases hd'
    have ae:∀ {a:Addr},H1 a=none->A1 a=false:=fun {a} z=>by
     cases y:A1 a with
     | false=>rfl
     | true=>obtain ⟨o,ho⟩:=(k1.mu a y).some;rw [z] at ho;cases ho
    -- behind the landing
    have after:∀ (h2:Heap) (T':Addr) (ch:List Addr),s1.heap.objs.size<=T'->X.base.StaysIn h2->h2.FunFrames X.base (X.env::X.outer)->TrX h2 X.base e T' (.ref C) dct .none->KpX (X.env::X.outer) ch s1.heap h2->(∀ b∈ch,H1 b=none/\X.s₀.heap.objs.size<=b/\b≠X.env.locals/\(∀ y c,X.env.cells.lookup y=some c->c≠b)/\∀ p∈X.pn++pins,p.1≠b) ->
      wpAny (model X.prog X.w) X.A (handleBy (.ref e) X.env [.ExceptHandler (some (.Name T np)) (some n) (b₀::suite) hpos]) (SP X pins D) X.xe { s1 with heap:=h2 }:=by
     intro h2 T' ch hT' sb2 ff2 tr2 kp hch;have J2:Inv X pins σ1 H1 { s1 with heap:=h2 }:=J1.call' (s':={ s1 with heap:=h2 }) (ch:=ch) rfl (by rw [hstk.1];exact Z38 kp fun b hb=>(hch b hb).1) (Nk J1.hok kp (fun b hb=>(hch b hb).1) hfree) J1.bare fun b hb=>⟨.inr (hch b hb).2.1,(hch b hb).2.2.1,(hch b hb).2.2.2.1,(hch b hb).2.2.2.2⟩
     obtain ⟨oe,ve,oT,ts,g1,g2,g3,g4,g5,g6,g7,g8,g9,g10⟩:=id tr2;have LT:Looks (model X.prog X.w) h2 (typeOf (.ref e)) (.ref C):=g2▸(Looks.ld g1).andThen .now;refine wpAny_handleBy_cons (codeAny_handlers_test (Sh (J2.toH (e:=e)) hg hT ?_ hdb)) (by intro z;cases z);refine (exm_one (M:=model X.prog X.w) J2.kIn LT (hsub c C hcl hsc)).here ?_;show codeAny _ _ _ _ _;refine codeAny_handlers_suite_as ?_;refine Z0w (s:={ s1 with heap:=h2 }) sb2 ff2 tr2 fun h3 y1 y2 tr3 y4 y5=>?_
     have kp3:KpX (X.env::X.outer) [T'] h2 h3:=.of fun b o hb hc=>y4 b o hb hc
     have hTn:H1 T'=none:=J1.hok.fresh hT';have hTl:=nloc J2 g8 g9;have hTp:∀ p∈X.pn++pins,p.1≠T':=fun p hp z=>by
      have:=(J1.pin p hp).1;rw [z] at this;exact absurd (lt_size this) (not_lt.mpr hT')
     have hTs:∀ b∈[T'],b=T':=fun b hb=>mem_singleton.mp hb
     have J3:Inv X pins σ1 H1 { s1 with heap:=h3 }:=J2.call' (s':={ s1 with heap:=h3 }) (ch:=[T']) rfl (by rw [hstk.1];exact Z38 kp3 fun b hb=>by rw [hTs b hb];exact hTn) (Nk J2.hok kp3 (fun b hb=>by rw [hTs b hb];exact hTn) hfree) J2.bare fun b hb=>by rw [hTs b hb];exact ⟨.inr (le_trans J1.sz hT'),hTl.1,hTl.2,hTp⟩
     obtain ⟨oe',ve',_,_,e1,e2,e3,e4,_⟩:=id tr3;have el:=nloc J3 e1 e4;have hxi:XIs e C dct h3:=⟨oe',e1,e2,e3,fun cc z=>by rw [e4] at z;cases z⟩;have J4:Inv X pins σ1 (upd H1 e (.ext (XIs e C dct))) { s1 with heap:=h3 }:=J3.track x.un x.lo el.1 el.2 (hpn x.pe) ⟨hxi,⟨_,e1⟩,fun ha hb ⟨o,z1,z2⟩ k=>⟨o,k _ z1,z2⟩⟩;have sm:Yj H1 (upd H1 e (.ext (XIs e C dct))):=Im x.un;refine Dh J4 hN hi hx (v:=.ref e) rfl (fun s5 J5=>?_) hf;have rp:Rp X.K (av (upd H1 e (.ext (XIs e C dct))) A1) (.exc c fl) (.ref e):=by
      unfold Rp;exact ⟨e,C,dct,rfl,Qe Zu (ae x.un),hcl,hf1.mono (Vd sm)⟩
     have k5:=(k1.mono sm).put i rp;have hfl:Cr fr (X.inH (X.pn++pins) e) B A1 (upd H1 e (.ext (XIs e C dct))) (Ends.mk (fun σ' H'=>D.nx (σ'.set i none) H') D.rt (fun σ' H'=>D.bk (σ'.set i none) H') (fun σ' H'=>D.ct (σ'.set i none) H')) (h (env'.set i (.fz (.exc c fl)))):=by
      have q2:=q.step (st1.trans (Step.same sm));unfold Zd3 at q2;cases eh:h (env'.set i (.fz (.exc c fl))) with
      | next e'=>rw [eh] at q2;exact fun A' H' σ' s' k'=>q2 A' H' _ s' (k'.clr i)
      | brk e'=>rw [eh] at q2;exact fun A' H' σ' s' k'=>q2 A' H' _ s' (k'.clr i)
      | cont e'=>rw [eh] at q2;exact fun A' H' σ' s' k'=>q2 A' H' _ s' (k'.clr i)
      | ret d=>rw [eh] at q2;exact q2
      | exc e' c' f'=>rw [eh] at q2;exact q2.elim
      | no=>rw [eh] at q2;exact q2
     refine wpAny_mono (hh (X.pn++pins) e [] s5 _ _ _ J5.toH ⟨_,B,A1,k5,hst,hfl⟩) (fun f s6 hs=>?_) (fun _ _ z=>z.elim);show wpAny _ _ _ _ _ _;cases f with
     | next=>obtain ⟨σ',H',I',q'⟩:=hs;exact K4 (I'.ofH I.ok) hN hi hk fun s7 I7=>⟨_,H',I7,q'⟩
     | brk=>obtain ⟨σ',H',I',q'⟩:=hs;exact K4 (I'.ofH I.ok) hN hi hk fun s7 I7=>⟨_,H',I7,q'⟩
     | cont=>obtain ⟨σ',H',I',q'⟩:=hs;exact K4 (I'.ofH I.ok) hN hi hk fun s7 I7=>⟨_,H',I7,q'⟩
     | ret u=>obtain ⟨v,σ',H',I',r',q'⟩:=hs;exact K4 (I'.ofH I.ok) hN hi hk fun s7 I7=>⟨v,_,H',I7,r',q'⟩
    show wpAny _ _ _ _ _ _;rcases x.ob with ⟨o,vs,he,hc,hd,hda,h1⟩ | ⟨T0,hT,hTn,hTp,ht⟩
    ·refine G7 hfr hl hstk.2 he hkb hen hda h1 fun h' T' x0 x1 x2 x3 x4 x5=>?_
     refine Z0w (s:={ s1 with heap:=h' }) x1 x2 x3 fun h2 y1 y2 y3 y4 y5=>?_
     rw [hc,hd] at y3;refine after h2 T' [e] x0 y1 y2 y3 (Ps x4 x0 y4) fun b hb=>?_
     rw [mem_singleton.mp hb];have z:=nloc J1 he hda;exact ⟨x.un,x.lo,z.1,z.2,hpn x.pe⟩
    ·refine Za2 hfr hl hstk.2 ht hkb hen fun h' T' x0 x1 x2 x3 x4 x5=>?_
     refine Z0w (s:={ s1 with heap:=h' }) x1 x2 x3 fun h2 y1 y2 y3 y4 y5=>?_
     refine after h2 T' [e,T0] x0 y1 y2 y3 (Ps x4 x0 y4) fun b hb=>?_
     obtain ⟨oe,ve,oT,ts,g1,g2,g3,g4,g5,g6,g7,g8,g9,g10⟩:=id ht;rcases mem_cons.mp hb with z | z
     ·rw [z];have w:=nloc J1 g1 g4;exact ⟨x.un,x.lo,w.1,w.2,hpn x.pe⟩
     ·rw [mem_singleton.mp z];have w:=nloc J1 g8 g9;exact ⟨hTn,hT,w.1,w.2,hpn hTp⟩
   ·exact q.elim
 refine wpAny_Try_except (wpAny_mono (hb (X.pn++pins) EX [] s σ H D I.toTry ⟨env,B,A,kk,hst,flok⟩) (fun f s₁ hs=>?_) (fun e s₁ hx=>hx));cases f with
 | next=>obtain ⟨σ',H',I',q'⟩:=hs;exact wpAny_pure ⟨σ',H',I'.ofTry I.ok,q'⟩
 | brk=>obtain ⟨σ',H',I',q'⟩:=hs;exact ⟨σ',H',I'.ofTry I.ok,q'⟩
 | cont=>obtain ⟨σ',H',I',q'⟩:=hs;exact ⟨σ',H',I'.ofTry I.ok,q'⟩
 | ret u=>obtain ⟨v,σ',H',I',r',q'⟩:=hs;exact ⟨v,σ',H',I'.ofTry I.ok,r',q'⟩
end
section
variable {X:Cx} {m:Bool} {e:Expr} {f:Ev->Option Dat} {p p2 pos:Pos}
def dIX (sb:Str->Option Bool) (f:Ev->Option Dat):Ev->Option Dat:=fun env=>(f env).bind fun d=>match d with
 | .exc c _=>(sb c).map .bl
 | _=>none
theorem Z3x {pins:List (Addr×Obj)} {σ:St} {H:Hp} {s:Shared} {c:Str} {fl:List (Str×XD)} {v:V} {u cv:Value} {b:Bool} {Q:Value->Shared->Prop} {A:Around} {E:Value->Shared->Prop} (I:Inv X pins σ H s) (r:Rp X.K H (.exc c fl) v) (ru:Vf v u) (hk:∀ C,T3 X.K c C->kitOne X.K (.ref C) cv=some b/\XCls X.K C) (h:∀ tk,Q (.bool b) { s with toks:=tk }) :
  wpAny (model X.prog X.w) A (call (.builtin "isinstance") [u,cv]) Q E s:=by
 obtain ⟨ex,C,dct,e1,e2,e3,e4⟩:=C7 r;subst e1;cases ru;obtain ⟨⟨o,h1,h2,_⟩,_,_⟩:=(show Wf X.prog X.w H s.heap ex (.ext (XIs ex C dct)) from I.hok ex _ e2);obtain ⟨hk1,xc⟩:=hk C e3;exact kia_one (Z1v xc) I.kIn ⟨o,h1,h2⟩ hk1 (fun z=>nomatch z) h
theorem Z98 {x:Str} {D:Addr} (hg:Gl X x) (hm:X.mg x=some (.ref D)) (hd:(x==("__debug__" : Str))=false:=by decide):PE X (.Name x p) (fun σ H Q=>Q (.ref D) H):=fun pins s σ H Q I h=>Sh I hg hm ⟨.ref D,H,I,rfl,h⟩ hd
theorem Zdx {sb:Str->Option Bool} {tx:Str} {D:Addr} (he:PXd true X e f) (hmT:X.mg tx=some (.ref D)) (hk:∀ c C b,T3 X.K c C->sb c=some b->kitOne X.K (.ref C) (.ref D)=some b/\XCls X.K C) (hm:X.mg "isinstance" = none) (hg:Gl X "isinstance" := by rfl) (hgT:Gl X tx:=by rfl) (hv:bootBuiltins "isinstance" = some (.builtin "isinstance"):=by decide +kernel) (hdT:(tx==("__debug__" : Str))=false:=by decide)
  (hs:starEach [e,.Name tx p2] X.env=(false,eval e X.env)::starEach [.Name tx p2] X.env:=by rfl):PXd m X (.Call (.Name "isinstance" p) [e,.Name tx p2] [] pos) (dIX sb f):=by
 have hc:Uq X (.builtin "isinstance") (fun vs H Q=>∃ v A d b c fl,vs=[v,.ref D]/\Ra A H/\d=.exc c fl/\sb c=some b/\Pk X.K A H d v/\Se false X.K A H (.bl b) Q):=by
  intro pins s σ H xs us Q I r ⟨v,A,d,b,c,fl,e1,mu,e2,e3,p1,q⟩;subst e1 e2;obtain ⟨u,w',rfl,ru,rw'⟩:=Xp r;cases rw';exact Z3x I p1.rp ru (fun C hC=>hk c C b hC e3) fun tk=>⟨.bl b,H,I.tok _,rfl,q.here Tp⟩
 refine PXd.any ((Rl hc hg hm hv (Ve he (Ve (Z98 hgT hmT hdT) Jn) hs) (he:=hs)).weak fun σ H Q ⟨env,R,A,d,k,q1,q2⟩=>?_);obtain ⟨x,e1,h⟩:=bind_some q1;cases x with
 | exc c fl =>
  obtain ⟨b,e2,h⟩:=map_some h;subst h;exact ⟨env,R,A,_,k,e1,fun v H1 s1 p1=>⟨v,A,_,b,c,fl,rfl,k.mu.mono s1,rfl,e2,p1,q2.mono s1⟩⟩
 | _=>cases h
theorem Zdk {sb:Str->Option Bool} {tx:Str} {T:String} (he:PXd true X e f) (hmT:X.mg tx=none) (hvT:bootBuiltins tx=some (.type T)) (hnT:tx≠"__name__") (hk:∀ c C b,T3 X.K c C->sb c=some b->kitOne X.K (.ref C) (.type T)=some b/\XCls X.K C) (hm:X.mg "isinstance" = none) (hg:Gl X "isinstance" := by rfl) (hgT:Gl X tx:=by rfl) (hv:bootBuiltins "isinstance" = some (.builtin "isinstance"):=by decide +kernel) (hdT:(tx==("__debug__" : Str))=false:=by decide)
  (hs:starEach [e,.Name tx p2] X.env=(false,eval e X.env)::starEach [.Name tx p2] X.env:=by rfl):PXd m X (.Call (.Name "isinstance" p) [e,.Name tx p2] [] pos) (dIX sb f):=by
 have hc:Uq X (.builtin "isinstance") (fun vs H Q=>∃ v A d b c fl,vs=[v,.ty T]/\Ra A H/\d=.exc c fl/\sb c=some b/\Pk X.K A H d v/\Se false X.K A H (.bl b) Q):=by
  intro pins s σ H xs us Q I r ⟨v,A,d,b,c,fl,e1,mu,e2,e3,p1,q⟩;subst e1 e2;obtain ⟨u,w',rfl,ru,rw'⟩:=Xp r;cases rw';exact Z3x I p1.rp ru (fun C hC=>hk c C b hC e3) fun tk=>⟨.bl b,H,I.tok _,rfl,q.here Tp⟩
 refine PXd.any ((Rl hc hg hm hv (Ve he (Ve (Z3w hgT hmT hvT hnT hdT) Jn) hs) (he:=hs)).weak fun σ H Q ⟨env,R,A,d,k,q1,q2⟩=>?_);obtain ⟨x,e1,h⟩:=bind_some q1;cases x with
 | exc c fl =>
  obtain ⟨b,e2,h⟩:=map_some h;subst h;exact ⟨env,R,A,_,k,e1,fun v H1 s1 p1=>⟨v,A,_,b,c,fl,rfl,k.mu.mono s1,rfl,e2,p1,q2.mono s1⟩⟩
 | _=>cases h
def XD.d:XD->Dat
 | .int i=>.int i
 | .nums is=>.lst (is.map .int)
def Jz (ok:Str->Bool) (fd:Str) (f:Ev->Option Dat):Ev->Option Dat:=fun env=>(f env).bind fun d=>match d with
 | .exc c fl=>if ok c=true then (fl.lookup fd).map XD.d else none
 | _=>none
theorem Zc7 {K:Frag} {H:Hp} {d:XD} {v:V} (h:Z9u K H d v):Rp K H d.d v:=by
 cases d with
 | int i=>cases h;exact Wb
 | nums is =>
  obtain ⟨a,e1,e2,e3⟩:=h;subst e1;exact Dw (by rw [length_map];exact e3) e2 (S0 is)
theorem Ey {fd:Str} {okc:Str->Bool} (he:PXd true X e f) (hk:∀ c C,T3 X.K c C->okc c=true->XCls X.K C/\findIn X.K (.ref C) fd=some none) (hb:attributeBase e fd X.env (eval e X.env)=eval e X.env:=by rfl):PXd m X (.Attribute e fd pos) (Jz okc fd f):=by
 refine PXd.any ?_;intro pins s σ H Q I ⟨env,R,A,d,k,q1,q2⟩;obtain ⟨x,e1,h⟩:=bind_some q1;cases x with
 | exc c fl =>
  dsimp only at h;split at h
  case isFalse=>cases h
  rename_i hok;obtain ⟨xd,e2,h⟩:=map_some h;subst h;refine Z5g hb (thn (he pins s σ H (fun v H1=>Yj H H1/\Rp X.K (av H1 A) (.exc c fl) v) I ⟨env,R,A,_,k,e1,fun v H1 s1 p1=>?_⟩) fun u s1 ⟨v,H1,I1,ru,sm,r⟩=>?_)
  ·refine ⟨s1,?_⟩
   rcases p1 with p1 | ⟨_,_,_,z,_⟩
   ·exact p1
   ·cases z
  obtain ⟨ex,C,dct,z1,z2,z3,z4⟩:=C7 r;subst z1;cases ru;have z2':=(Rg z2).2;obtain ⟨⟨o,h1,h2,h3,h4⟩,_,_⟩:=(show Wf X.prog X.w H1 s1.heap ex (.ext (XIs ex C dct)) from I1.hok ex _ z2');obtain ⟨xc,hf⟩:=hk c C z3 hok;cases dct with
  | none =>
   have z4:fl=[]:=z4;subst z4;cases e2
  | some dx =>
   obtain ⟨fvs,y1,y2⟩:=z4;rcases y2 fd with ⟨y3,_⟩ | ⟨d',vv,y3,y4,y5⟩
   ·rw [y3] at e2;cases e2
   ·rw [y3] at e2;cases e2
    obtain ⟨mA,hns,hrel⟩:=(show Wf X.prog X.w H1 s1.heap dx (.xd fvs) from I1.hok dx _ (Rg y1).2);have hr:=hrel fd;rw [y4] at hr;obtain ⟨uu,hu,hru⟩:∃ uu,mA fd=some uu/\Vf vv uu:=by
     cases hm:mA fd with
     | none=>rw [hm] at hr;exact hr.elim
     | some uu=>rw [hm] at hr;exact ⟨uu,rfl,hr⟩
    obtain ⟨oC,cd,hC,hcd,hhd⟩:=xc.ld I1.kIn;have LT:Looks (model X.prog X.w) s1.heap (typeOf (.ref ex)) (.ref C):=h2▸(Looks.ld h1).andThen .now;have hh:handedOut uu=pure uu:=by
     refine handedOut_of ?_;cases xd with
     | int i=>cases y5;obtain ⟨t,rfl⟩:=hru;rfl
     | nums is=>obtain ⟨a,z,_⟩:=y5;subst z;cases hru;rfl
    obtain ⟨hh',g,d,tk,os⟩:=s1;refine Ze6 (K:=X.K) I1.kIn h1 h2 h4 h3 hns hu hf hC hcd hhd (LT.andThen (xc.sub I1.kIn "BaseException" (by decide))) xc.ga xc.gh hh ?_;exact ⟨vv,H1,I1.tok _,hru,(q2.mono sm).here (Zc7 y5)⟩
 | _=>cases h
end
end L2
namespace L2
open PySem
end L2
namespace L2
open PySem PySem.Spec PyProof.Rows
section
variable {P:Program} {w:World} {A:Around} {E:Value->Shared->Prop} {s:Shared}
end
section
variable {P:Program} {w:World} {A:Around} {R:Result->Shared->Prop} {I:Addr} {fp wr:List Addr} {G:Array GenState->Array GenState->Prop} {n:Nat} {Pv:Nat->Value->Prop} {St:Nat->Shared->Prop}
end
section
variable {P:Program} {w:World} {A:Around} {E:Value->Shared->Prop} {s:Shared}
end
end L2
namespace PySem
namespace F
end F
end PySem
namespace L2
open PySem PySem.Spec PyProof.Rows
section
variable {P:Program} {w:World} {A:Around} {E:Value->Shared->Prop} {s:Shared}
end
end L2
namespace PySem.F
end PySem.F
namespace L2
open PySem PySem.Spec PyProof.Rows
section
variable {P:Program} {w:World} {A:Around} {E:Value->Shared->Prop} {s:Shared}
end
end L2
namespace Sq
open PySem PyProof PyProof.Rows
section
variable {prog:Program} {w:World} {A:Around} {E:Value->Shared->Prop} {s:Shared} {a₀:Array Keyed} {p:Array (Nat×Nat×Nat)}
end
section
variable {prog:Program} {w:World} {A:Around} {E:Value->Shared->Prop} {s:Shared}
end
section
variable {r:Int->Int->Prop} {a b out:List Keyed} {ia ib:Nat}
end
section
variable {prog:Program} {w:World} {A:Around} {E:Value->Shared->Prop} {s:Shared} {a b:Array Keyed} {n0:Nat}
end
section
variable {prog:Program} {w:World} {A:Around} {E:Value->Shared->Prop} {s:Shared} {a₀:Array Keyed}
end
section
variable {prog:Program} {w:World} {A:Around} {E:Value->Shared->Prop} {s:Shared}
end
end Sq
namespace L2
open PySem PySem.Spec PyProof.Rows
section
variable {P:Program} {w:World} {A:Around} {E:Value->Shared->Prop} {s:Shared}
end
section
variable {X:Cx} {e:Expr} {fs:Ev->Option (List Dat)}
end
end L2
set_option maxHeartbeats 4000000
namespace L2
open PySem PySem.Spec PyProof.Rows
section
variable {X:Cx}
theorem Z2r {P:Program} {w:World} {A:Around} {E:Value->Shared->Prop} {s:Shared} {t b:Addr} {vs ws:List Value} {Q:Value->Shared->Prop} (ht:IsTup s.heap t vs.toArray) (hb:IsTup s.heap b ws.toArray) (hv:vs=[]) (h0:Q (.ref b) s):wpAny (model P w) A (binaryOp .Add (.ref t) (.ref b)) Q E s:=by
 obtain ⟨⟨cls,dd,data,sl⟩,ho,hc,n,hd⟩:=id ht;obtain ⟨⟨cls2,dd2,data2,sl2⟩,ho2,hc2,n2,hd2⟩:=id hb;simp only at hc hd hc2 hd2;subst hc hd hc2 hd2;exact concat_meets ⟨_,ho,rfl⟩ ⟨_,ho2,rfl⟩ noFill_tuple_add seq_tuple_add PySem.F.slot_tuple_add PySem.F.entry_tuple_add (PySem.F.args_tuple_add_2 _ _)
  (tuple_addW0 t b vs.toArray ws.toArray n n2 dd dd2 sl sl2 (by simp [hv])) ⟨ho,ho2,h0⟩
theorem Pk.tupR {K:PySem.W.Frag} {A:AS} {H:Hp} {ds:List Dat} {v:V} (h:Pk K A H (.tup ds) v):Rp K (av H A) (.tup ds) v:=by
 rcases h with h | ⟨a,vs,ds,e1,e2,e3,e4⟩
 ·exact h
 ·cases e1
def B2:Dat->Dat->Option Dat
 | .tup xs,.tup ys=>if xs.length+ys.length<=sizeLine then some (.tup (xs++ys)) else none
 | _,_=>none
theorem Gu:OpD X (binaryOp .Add) B2:=fun pins s σ H x y v u Q I rx ry zz=>by
 obtain ⟨A,a,b,d,mu,e,p1,p2,q⟩:=zz;unfold B2 at e;split at e
 ·rename_i xs ys
  split at e
  ·rename_i hz
   cases e;obtain ⟨l1,vs,e1,h1,r1⟩:=p1.tup;obtain ⟨l2,us,e2,h2,r2⟩:=p2.tup;have z1:=Y5 r1;have z2:=Y5 r2;have w1:=p1.tupR;have w2:=p2.tupR;by_cases hx:xs=[]
   ·subst hx e1 e2
    cases rx;cases ry;obtain ⟨its,y1,g1,_⟩:=I.tuple h1;obtain ⟨its2,y2,g2,_⟩:=I.tuple h2;have hn:its=[]:=by
     have:=y1.length;rw [z1] at this;exact List.length_eq_zero_iff.mp this.symm
    refine Z2r g1 g2 hn ⟨.ref l2,H,I,rfl,?_⟩;exact q.here w2
   ·refine Z5d pins s σ H x y v u Q I rx ry ⟨l1,l2,vs,us,e1,e2,h1,h2,Ci r1 (by simpa using hx),by lia,fun hy=>?_,fun hy=>?_⟩
    ·have:ys=[]:=by subst hy;exact List.length_eq_zero_iff.mp z2.symm
     subst this;rw [append_nil] at q;rw [e1] at w1;exact q.here w1
    ·exact q.tup mu (by rw [length_append];exact hz) (Wm r1 r2)
  ·cases e
 ·cases e
end
end L2
namespace L2
open PySem PySem.Spec PyProof.Rows PySem.W
def Sy (raised:List Str) (t:Str):Str->Option Bool:=fun c=>if c∈raised then some (decide (c=t)) else none
def Z07 (raised:List Str):Str->Option Bool:=fun c=>if c∈raised then some true else none
def Ym (raised:List Str):Str->Bool:=fun c=>decide (c∈raised)
def IsC (K:Frag) (mg:Str->Option Value) (tx:Str) (sb:Str->Option Bool):Prop:=∃ D,mg tx=some (.ref D)/\∀ c C b,T3 K c C->sb c=some b->kitOne K (.ref C) (.ref D)=some b/\XCls K C
def IsT (K:Frag) (mg:Str->Option Value) (tx:Str) (T:String) (sb:Str->Option Bool):Prop:=∀ c C b,T3 K c C->sb c=some b->kitOne K (.ref C) (.type T)=some b/\XCls K C
def Zb2 (K:Frag) (mg:Str->Option Value) (T:Str) (sub:Str->Bool):Prop:=∃ D,mg T=some (.ref D)/\∀ c C,T3 K c C->sub c=true->exmOne K (.ref C) (.ref D)=some true
def Za9 (K:Frag) (okc:Str->Bool) (fd:Str):Prop:=∀ c C,T3 K c C->okc c=true->XCls K C/\findIn K (.ref C) fd=some none
section
variable {X:Cx} {m fr:Bool} {e:Expr} {f:Ev->Option Dat} {g h:Ev->Fl} {p p2 pos:Pos} {body:List Stmt} {b₀:Stmt} {suite:List Stmt} {T n tx:Str} {np hpos:Pos} {i:Nat} {sub:Str->Bool} {sb:Str->Option Bool}
theorem Z3j (he:PXd true X e f) (hC:IsC X.K X.mg tx sb) (hm:X.mg "isinstance" = none) (hg:Gl X "isinstance" := by rfl) (hgT:Gl X tx:=by rfl) (hv:bootBuiltins "isinstance" = some (.builtin "isinstance"):=by decide +kernel) (hdT:(tx==("__debug__" : Str))=false:=by decide)
  (hs:starEach [e,.Name tx p2] X.env=(false,eval e X.env)::starEach [.Name tx p2] X.env:=by rfl):PXd m X (.Call (.Name "isinstance" p) [e,.Name tx p2] [] pos) (dIX sb f):=by
 obtain ⟨D,h1,h2⟩:=hC;exact Zdx he h1 h2 hm hg hgT hv hdT hs
theorem Z80 (hb:∀ pn E,PBd fr (X.inTry pn E) body g) (hh:∀ pn e,PBd fr (X.inH pn e) (b₀::suite) h) (hC:Zb2 X.K X.mg T sub) (hN:X.N.Nodup) (hi:X.N[i]?=some n) (hx:Loc X.env.scope n) (hk:X.env.kindOf n=some .local:=by rfl) (hg:Gl X T:=by rfl) (hdb:(T==("__debug__" : Str))=false:=by decide)
  (hstk:X.stack=X.env::X.outer/\X.env.frame=some X.env.locals:=by exact ⟨rfl,rfl⟩)
  (hf:X.fn n=true\/X.env.scope.names.lookup n=some .local:=by first | exact .inl rfl | exact .inr rfl | assumption) :
  PSd fr X (.Try body [.ExceptHandler (some (.Name T np)) (some n) (b₀::suite) hpos] [] [] pos) (Z37 sub i g h):=by
 obtain ⟨D,h1,h2⟩:=hC;exact Z5k hb hh hN hi hx h1 h2 hk hg hdb hstk hf
end
section
variable {K:Frag} {mg:Str->Option Value}
theorem Sz {raised:List Str} {tx:Str} {D:Addr} (hm:mg tx=some (.ref D)) (h:∀ c∈raised,∃ C,T3 K c C/\kitOne K (.ref C) (.ref D)=some (decide (c=tx))/\XCls K C):IsC K mg tx (Sy raised tx):=by
 refine ⟨D,hm,fun c C b hc hb=>?_⟩;unfold Sy at hb;split at hb
 ·rename_i hr
  cases hb;obtain ⟨C',h1,h2,h3⟩:=h c hr;unfold T3 at hc h1;rw [hc] at h1;cases h1;exact ⟨h2,h3⟩
 ·cases hb
theorem Z75 {raised:List Str} {tx:Str} {T:String} (h:∀ c∈raised,∃ C,T3 K c C/\kitOne K (.ref C) (.type T)=some true/\XCls K C):IsT K mg tx T (Z07 raised):=by
 refine fun c C b hc hb=>?_
 unfold Z07 at hb;split at hb
 ·rename_i hr
  cases hb;obtain ⟨C',h1,h2,h3⟩:=h c hr;unfold T3 at hc h1;rw [hc] at h1;cases h1;exact ⟨h2,h3⟩
 ·cases hb
theorem Z5p {raised:List Str} {T:Str} {D:Addr} (hm:mg T=some (.ref D)) (h:∀ c∈raised,∃ C,T3 K c C/\exmOne K (.ref C) (.ref D)=some true):Zb2 K mg T (Ym raised):=by
 refine ⟨D,hm,fun c C hc hb=>?_⟩;obtain ⟨C',h1,h2⟩:=h c (of_decide_eq_true hb);unfold T3 at hc h1;rw [hc] at h1;cases h1;exact h2
theorem Oj {raised:List Str} {fd:Str} (h:∀ c∈raised,∃ C,T3 K c C/\XCls K C/\findIn K (.ref C) fd=some none):Za9 K (Ym raised) fd:=fun c C hc hb=>by
 obtain ⟨C',h1,h2⟩:=h c (of_decide_eq_true hb);unfold T3 at hc h1;rw [hc] at h1;cases h1;exact h2
end
section
variable {X:Cx}
theorem Xs:MtR X "list.extend" (fun x vs H Q=>∃ l b xs zs,x=.ref l/\vs=[.ref b]/\H l=some (.lst xs)/\SL X.K H b zs/\xs.length+zs.length<=sizeLine/\Q .non (upd H l (.lst (xs++zs)))):=by
 intro pins s σ H x vs v us Q I rx rv h;obtain ⟨l,b,xs,zs,rfl,rfl,hH,hB,hz,q⟩:=h;cases rx;obtain ⟨u,rfl,ru⟩:=rv.one;cases ru;obtain ⟨z,its,n,r,hl,e⟩:=I.lstM hH;obtain ⟨its2,n2,r2,e2,hz2⟩:=hB.get I;have hl2:=r2.length;have hsz:its.toArray.size+its2.toArray.size<=sizeLine:=by rw [size_toArray,size_toArray];lia
 have hlong:¬ (!its.toArray.isEmpty&&Builtin.List.listTooLong (its.toArray.size+its2.toArray.size))=true:=by
  rw [Z23 hsz,Bool.and_false];exact Bool.false_ne_true
 refine call_meets PySem.F.slot_list_extend ⟨_,e,rfl⟩ PySem.F.entry_list_extend (PySem.F.args_list_extend_2 _ _)
  (AutoSeq1.list_extend_list_list_0 l its.toArray n b its2.toArray n2 hlong (by rw [size_toArray];lia) (by lia)) ⟨e,e2,?_⟩
 refine ⟨.non,_,I.lset (its':=its++its2) hH e (by simp) (r.append r2) ?_,rfl,q⟩;rw [length_append];lia
def K6:List Dat->List Dat->Option (List Dat)
 | ds,[.lst es]=>if ds.length+es.length<=sizeLine then some (ds++es) else none
 | _,_=>none
theorem Z2w:MtU X "list.extend" K6:=MtR.weak (id:="list.extend") Xs fun v us H Q zz=>by
 obtain ⟨A,a,vs,ds,as,ds',mu,e1,h1,r1,r2,e2,q⟩:=zz;unfold K6 at e2;split at e2
 ·rename_i es
  split at e2
  ·rename_i hl
   cases e2;obtain ⟨w,us',e3,r3,e4⟩:=r2;obtain ⟨b,zs,e5,hS,r5⟩:=R0 r3;subst e5;have l1:=Y5 r1;have l2:=Y5 r5;refine ⟨a,b,vs,zs,e1,by rw [e3,show us'=[] from e4],h1,Yv.sl hS,by lia,q _ _ (by rw [length_append];exact hl) (Wm r1 r5)⟩
  ·cases e2
 ·cases e2
end
section
variable {X:Cx} {m:Bool} {e:Expr} {f:Ev->Option Dat} {pos:Pos} {vs:List Expr} {r:Ev->Str->Option Str}
end
end L2
namespace L2
open PySem PySem.Spec PyProof.Rows PySem.W PySem.Builtin PySem.Builtin.Str
section
variable {X:Cx}
end
end L2
namespace L2
open PySem PySem.Spec PyProof.Rows PySem.W
def sNo:Ev->Fl:=fun _=>.no
theorem Za8 {X:Cx} {fr:Bool} {st:Stmt}:PSd fr X st sNo:=fun pins s σ H D I ⟨env,B,A,k,hst,q⟩=>q.elim
section
variable {X:Cx} {fr:Bool} {p pos cpos:Pos} {k n:Nat} {c:Str} {G:List Dat->Option (List (Str×XD))}
end
section
variable {P:Program} {w:World} {K:Frag} {mg:Str->Option Value} {base:Heap}
end
section
variable {X:Cx} {pos pos':Pos}
def Z57 (K:Frag) (ta tv:TE) (f:Str):TS:=fun D σ H=>tv σ H fun y H1=>ta σ H1 fun x H2=>∃ a C dx fvs fI D',x=.ref a/\H2 a=some (.ext (XNw a C (some dx)))/\H2 dx=some (.xd fvs)/\fvs.length<=100/\fvs.lookup f=none/\Fu K C fI D'=true/\XCls K C/\findIn K (.ref C) f=some none /\
 D.nx σ (upd H2 dx (.xd (fvs++[(f,y)])))
theorem Ep {β:Type} (f g:Str) (y:β):∀ (l:List (Str×β)),(l++[(f,y)]).lookup g=match l.lookup g with | some v=>some v | none=>if g=f then some y else none
 | []=>by
   by_cases e:g=f
   · subst e;simp [List.lookup]
   · have e':(g==f)=false:=by simpa using e
     simp [List.lookup,e',e]
 | (h,z)::l=>by
   rw [List.cons_append,lookup_cons,lookup_cons];cases hh:(g==h) with
   | true=>rfl
   | false=>exact Ep f g y l
theorem Hc {β:Type} {z:Str} {v:β}:∀ {l:List (Str×β)},l.lookup z=some v->z∈l.map (·.1)
 | [],h=>by simp at h
 | (k,w)::l,h=>by
   rw [lookup_cons] at h;cases hh:(z==k) with
   | true=>rw [beq_iff_eq.mp hh];simp
   | false=>rw [hh] at h;exact mem_cons_of_mem _ (Hc h)
theorem Z0j {o value:Expr} {f:Str} {ta tv:TE} (ha:PE X o ta) (hv:PE X value tv) (hs:swapsWith value (some (.Attribute o f pos')) pos.line X.env=pure false:=by rfl):PS X (.Assign [.Attribute o f pos'] value pos) (Z57 X.K ta tv f):=by
 intro pins s σ H D I h;refine plainObj_wpAny_Assign_Attribute (thn (hv pins s σ H _ I h) fun u s1 ⟨y,H1,I1,ry,q⟩=>thn (ha pins s1 σ H1 _ I1 q) fun ov s2 ⟨x,H2,I2,rx,a,C,dx,fvs,fI,D',ex,ea,ed,hle,hnf,hc,xc,hf,q2⟩=>?_) hs;subst ex;obtain rfl:ov=Value.ref a:=rx;obtain ⟨⟨t0,ht0⟩,_,_⟩:=(show Wf X.prog X.w H2 s2.heap a (.ext (XNw a C (some dx))) from I2.hok a _ ea);obtain ⟨mA,hns,hrel⟩:=(show Wf X.prog X.w H2 s2.heap dx (.xd fvs) from I2.hok dx _ ed);obtain ⟨cd,hcd,hhd,a',b',hm⟩:=xc.cd;obtain ⟨oC,cd',hC,hcd',hhd'⟩:=xc.ld I2.kIn;have hns':=hns;obtain ⟨od,es,ep,hod,hcod⟩:=hns;have IA:InstAt s2.heap a { cls:=.ref C,dict:=some dx,data:=.fields #[.ref t0,.none,.none,.none,.bool false,.none] } C (some od):=⟨ht0,rfl,rfl,hod⟩;refine set_plain I2.kIn IA xc.sa ?_;refine Z9t (s:={ s2 with toks:=s2.toks+1 }) I2.kIn IA hcd hm hf ?_;obtain ⟨hh,g,d,tk,os⟩:=s2;have hw:Within mA (fvs.map (·.1)):=fun z hz=>by
  have:=hrel z;cases e:fvs.lookup z with
  | none =>
   rw [e] at this;cases e2:mA z with
   | none=>exact absurd e2 hz
   | some v=>rw [e2] at this;exact this.elim
  | some v=>exact Hc e
 refine Fe ht0 rfl rfl hns' hw (by rw [length_map];lia) hC hcd' hhd' fun h' tk' hn' hk hsz=>?_
 have nd:∀ {b:Addr} {o:HO},H2 b=some o->(∀ l,o≠.xd l)->b≠dx:=fun {b o} q n z=>by rw [z,ed] at q;cases q;exact n _ rfl
 have n0:∀ {b:Addr},H2 b=none->b≠dx:=fun {b} q z=>by rw [z,ed] at q;cases q
 have un:Un X.fs [] H2 (upd H2 dx (.xd (fvs++[(f,y)]))) hh h':=by
  refine ⟨fun b o q n _ _=>hk b o (n0 n) q,fun b o q n _ _=>⟨o.slots,hk b o (n0 n) q⟩,fun b o q n _=>by rw [Zg (n0 n)];exact n,fun b o q _=>?_,fun b xs q=>by rw [Zg (nd q (fun _ z=>by cases z))];exact q,fun b o u q=>by rw [Zg (nd q (fun _ z=>by cases z))];exact q,fun b ps q=>⟨#[],by rw [Zg (nd q (fun _ z=>by cases z))];simpa using q⟩⟩;by_cases z:b=dx
  ·subst z
   obtain ⟨od2,_,_,h2,_⟩:=hn';exact ⟨_,h2⟩
  ·exact ⟨_,hk b o z q⟩
 have hok:HOk X.prog X.w (upd H2 dx (.xd (fvs++[(f,y)]))) h':=by
  intro b o q;by_cases z2:b=dx
  ·subst z2
   rw [Zu] at q;cases q;refine ⟨_,hn',fun g=>?_⟩;show Aa (List.lookup g (fvs++[(f,y)])) (if g=f then some u else mA g);rw [Ep];by_cases e:g=f
   ·subst e
    rw [hnf];simp [Aa];exact ry
   ·have:=hrel g
    cases e3:fvs.lookup g with
    | none=>rw [e3] at this;simpa [e] using this
    | some v=>rw [e3] at this;simpa [e] using this
  ·rw [Zg z2] at q
   refine (I2.hok b o q).stay (fun c v z w=>hk c v (fun zz=>?_) w) (fun c w=>?_) fun c xs w=>?_
   ·rcases z with z | z
    ·exact z2 (z.symm.trans zz)
    ·rw [zz,ed] at z;cases z
   ·rw [Zg (fun zz=>by rw [zz,ed] at w;cases w)];exact w
   ·rw [Zg (fun zz=>by rw [zz,ed] at w;cases w)];exact w
 exact ⟨σ,_,I2.un (h':=h') (t':=tk') un hok,q2⟩
end
def Ks (i:Int):Bool:=decide (0<=i)&&decide (i<1000)
theorem Ch {i:Int} (h:Ks i=true):0<=i/\i<1000:=by
 unfold Ks at h;rw [Bool.and_eq_true] at h;exact ⟨of_decide_eq_true h.1,of_decide_eq_true h.2⟩
def gK (f1 f2 f3:Str):List Dat->Option (List (Str×XD))
 | [.lst xs,.lst ys,.int i]=>(Ru xs).bind fun ns=>(Ru ys).bind fun ms=>if (M8 ns&&M8 ms&&Ks i)=true then some [(f1,.nums ns),(f2,.nums ms),(f3,.int i)] else none
 | _=>none
section
variable {P:Program} {w:World} {K:Frag} {mg:Str->Option Value} {base:Heap}
theorem Z91 {qual x1 x2 x3:Str} {st:Stmt} {fI C D fI':Addr} {fd:FuncData} {k:Nat} {f1 f2 f3:Str} {r:TJ} (F:Fun K "__init__" qual st fI fd) (S:FnScope ["self",x1,x2,x3] ["self",x1,x2,x3] (Z7 st)) (hx:Fu K C fI' D=true) (xc:XCls K C) (h1:findIn K (.ref C) f1=some none) (h2:findIn K (.ref C) f2=some none) (h3:findIn K (.ref C) f3=some none)
  (n12:f1≠f2) (n13:f1≠f3) (n23:f2≠f3)
  (hb:∀ (cdv:Value) (A:Around) (outer:List Env) (s:Shared) (H:Hp) (E:XK),Room k (A.deeper (envOfC qual (Z7 st) s.heap.objs.size fI cdv)) ->
   PSs (Kg CX0 P w K mg base ["self",x1,x2,x3] qual (Z7 st) fI cdv A outer s H E).nox (Wp st) (Z9v (Z95 (Z9f K (Bf (Z0z 0) (Bf (C5 r) Zac)))) (Z9v (Z7v K (Z0z 0) (tCB (Z61 K) (Bf (Z0z 1) Zac)) f1) (Z9v (Z57 K (Z0z 0) (tCB (Z61 K) (Bf (Z0z 2) Zac)) f2) (Z57 K (Z0z 0) (Z0z 3) f3)))))
  (hj:∀ (H:Hp) (e a b:Addr) (ns ms:List Int) (j:Int),SL K H a (ns.map V.int)->Hj ns->SL K H b (ms.map V.int)->Hj ms->0<=j->j<1000->JOk 0 [some (.ref e),some (.ref a),some (.ref b),some (.int j)] H r) :
  FnOk P w K mg base CX0 (k+1) fI fd ["self",x1,x2,x3] (spG K C 3 (gK f1 f2 f3)):=by
 refine F.ok S (fun vs H Q E ⟨e,ws,ds,R,fl,ev,hl,_⟩=>by rw [ev,length_cons,hl];rfl) fun cdv A outer s H vs Q E hr ⟨e,ws,ds,R,fl,ev,hl,he,mu,re,rs,hG,q⟩=>⟨_,hb cdv A outer s H E hr,?_⟩
 subst ev;unfold gK at hG;split at hG
 ·rename_i xs ys j
  obtain ⟨ns,hn,hG⟩:=bind_some hG;obtain ⟨ms,hm,hG⟩:=bind_some hG;split at hG
  ·rename_i hs
   cases hG;rw [Bool.and_eq_true,Bool.and_eq_true] at hs;obtain ⟨⟨hs,hi⟩,hjj⟩:=hs;have hs:=Kr hs;have ht:=Kr hi;obtain ⟨hj0,hj1⟩:=Ch hjj;obtain ⟨v,rA,e1,r1,r2⟩:=Zy rs;obtain ⟨v2,rB,e2,r3,r4⟩:=Zy r2;obtain ⟨v3,rC,e3,r5,r6⟩:=Zy r4;have e4:=Yl r6;have e6:=D8 r5;subst e1 e2 e3 e4 e6;obtain ⟨a,us,e3,hS,ru⟩:=R0 r1;rw [Mo hn] at ru;have e4:=Vk ru;subst e3 e4;obtain ⟨b,us',e7,hT,ru'⟩:=R0 r3;rw [Mo hm] at ru';have e8:=Vk ru';subst e7 e8;have hS':SL K H a (ns.map V.int):=Yv.sl hS;have hT':SL K H b (ms.map V.int):=Yv.sl hT;show Z9v _ _ _ [some (.ref e),some (.ref a),some (.ref b),some (.int j)] H;refine ⟨.ref e,rfl,?_⟩;refine hj H e a b ns ms j hS' hs hT' ht hj0 hj1 Str.empty _ (by decide) fun z=>?_
   refine ⟨e,C,none,.str z,fI',D,rfl,he,hx,?_⟩;refine ⟨.ref a,rfl,a,ns.map V.int,rfl,.inl hS'.sq,fun l hln=>?_⟩;have hle:l≠e:=fun z=>by rw [z,he] at hln;cases hln
   refine ⟨.ref e,rfl,e,C,none,fI',D,rfl,by rw [Zg (Ne.symm hle)];exact he,hx,xc,h1,fun dx hdx hde=>?_⟩;have hdl:dx≠l:=fun z=>by rw [z,Zu] at hdx;cases hdx
   have hdn:H dx=none:=by rw [Zg hdl] at hdx;exact hdx
   have nR:∀ {b:Addr},H b=none->R b=false:=fun {b} z=>by
    cases y:R b with
    | false=>rfl
    | true=>obtain ⟨o,ho⟩:=(mu b y).some;rw [z] at ho;cases ho
   have keep:∀ c o,c≠e->H c=some o->upd (upd (upd H l (.lst (ns.map V.int))) e (.ext (XNw e C (some dx)))) dx (.xd [(f1,.ref l)]) c=some o:=fun c o hc h=>by
    have c1:c≠dx:=fun z=>by rw [z,hdn] at h;cases h
    have c2:c≠l:=fun z=>by rw [z,hln] at h;cases h
    rw [Zg c1,Zg hc,Zg c2];exact h
   have hT2:SL K (upd (upd (upd H l (.lst (ns.map V.int))) e (.ext (XNw e C (some dx)))) dx (.xd [(f1,.ref l)])) b (ms.map V.int):=by
    rcases hT' with (z | ⟨o,z⟩) | z
    ·exact .inl (.inl (keep b _ (fun w=>by rw [w,he] at z;cases z) z))
    ·exact .inl (.inr ⟨o,keep b _ (fun w=>by rw [w,he] at z;cases z) z⟩)
    ·exact .inr z
   refine ⟨.ref b,rfl,b,ms.map V.int,rfl,.inl hT2.sq,fun l2 hl2=>?_⟩;have g1:l2≠dx:=fun z=>by rw [z,Zu] at hl2;cases hl2
   have g2:l2≠e:=fun z=>by rw [z,Zg (Ne.symm hde),Zu] at hl2;cases hl2
   have g3:l2≠l:=fun z=>by rw [z,Zg (Ne.symm hdl),Zg hle,Zu] at hl2;cases hl2
   have hl2n:H l2=none:=by rw [Zg g1,Zg g2,Zg g3] at hl2;exact hl2
   have a1:(f2==f1)=false:=by simpa using Ne.symm n12
   have a2:(f3==f1)=false:=by simpa using Ne.symm n13
   have a3:(f3==f2)=false:=by simpa using Ne.symm n23
   have lk2:List.lookup f2 [(f1,V.ref l)]=none:=by simp [List.lookup,a1]
   have lk3:List.lookup f3 [(f1,V.ref l),(f2,V.ref l2)]=none:=by simp [List.lookup,a2,a3]
   refine ⟨.ref e,rfl,e,C,dx,[(f1,.ref l)],fI',D,rfl,by rw [Zg (Ne.symm g2),Zg (Ne.symm hde),Zu],by rw [Zg (Ne.symm g1),Zu],by simp,lk2,hx,xc,h2,?_⟩;refine ⟨.int j,rfl,.ref e,rfl,e,C,dx,[(f1,.ref l),(f2,.ref l2)],fI',D,rfl,by rw [Zg (Ne.symm hde),Zg (Ne.symm g2),Zg (Ne.symm hde),Zu],Zu,by simp,lk3,hx,xc,h3,?_⟩;refine q _ (some dx) (fun c o hc h=>?_) ?_ ?_
   ·have c1:c≠dx:=fun z=>by rw [z,hdn] at h;cases h
    have c3:c≠l2:=fun z=>by rw [z,hl2n] at h;cases h
    rw [Zg c1,Zg c1,Zg c3];exact keep c o hc h
   ·rw [Zg (Ne.symm hde),Zg (Ne.symm hde),Zg (Ne.symm g2),Zg (Ne.symm hde),Zu]
   ·refine ⟨[(f1,.ref l),(f2,.ref l2),(f3,.int j)],Qe Zu (nR hdn),fun g=>?_⟩
    by_cases g1':g=f1
    ·subst g1'
     refine .inr ⟨.nums ns,.ref l,by simp [List.lookup],by simp [List.lookup],l,rfl,.inl (.inl (Qe ?_ (nR hln))),?_⟩
     ·rw [Zg (Ne.symm hdl),Zg (Ne.symm hdl),Zg (Ne.symm g3),Zg (Ne.symm hdl),Zg hle,Zu]
     ·exact le_of_lt (Qo (by have:=hs.1;lia))
    have b1:(g==f1)=false:=by simpa using g1'
    by_cases g2':g=f2
    ·subst g2'
     refine .inr ⟨.nums ms,.ref l2,by simp [List.lookup,b1],by simp [List.lookup,b1],l2,rfl,.inl (.inl (Qe ?_ (nR hl2n))),?_⟩
     ·rw [Zg g1,Zg g1,Zu]
     ·exact le_of_lt (Qo (by have:=ht.1;lia))
    have b2:(g==f2)=false:=by simpa using g2'
    by_cases g3':g=f3
    ·subst g3'
     exact .inr ⟨.int j,.int j,by simp [List.lookup,b1,b2],by simp [List.lookup,b1,b2],rfl⟩
    have b3:(g==f3)=false:=by simpa using g3'
    exact .inl ⟨by simp [List.lookup,b1,b2,b3],by simp [List.lookup,b1,b2,b3]⟩
  ·cases hG
 ·cases hG
end
theorem Z6p {f1 f2 f3:Str}:∀ ds fl,gK f1 f2 f3 ds=some fl->ds.length=3:=fun ds fl h=>by
 unfold gK at h;split at h
 ·rfl
 ·cases h
theorem Z44 {K:PySem.W.Frag} {C fI D:Addr} (q:Fu K C fI D=true) (cl:PySem.W.findIn K (.ref C) "__class__" = some (some (.builtin "object.__class__"))) (ga:PySem.W.findIn K (.ref C) "__getattribute__" = some (some (.builtin "BaseException.__getattribute__"))) (gh:PySem.W.findIn K (.ref C) "__getattr__" = some none) (sa:PySem.W.findIn K (.ref C) "__setattr__" = some (some (.builtin "object.__setattr__"))):XCls K C:=by
 refine ⟨?_,cl,ga,gh,sa⟩;unfold Fu at q;split at q
 ·rename_i dd cd sl ho
  split at q
  ·rename_i C' bm k0 k1 k2 k3 n k5 hm hs
   simp only [Bool.and_eq_true,beq_iff_eq,Bool.not_eq_true'] at q;obtain ⟨⟨⟨⟨⟨⟨⟨e1,_⟩,_⟩,hdi⟩,e2⟩,_⟩,_⟩,_⟩:=q;exact ⟨cd,by unfold PySem.W.clsIn;rw [ho],hdi,C',D,by rw [hm,e2]⟩
  ·cases q
 ·cases q
section
variable {M:Model} {A:Around} {E:Value->Shared->Prop} {s:Shared}
end
end L2
namespace L2
open PySem PySem.Spec PyProof.Rows
section
variable {P:Program} {w:World} {K:PySem.W.Frag} {mg:Str->Option Value} {base:Heap}
end
section
variable {X:Cx}
def Z5v:V->List V->Hp->VK->Prop:=fun x vs H Q=>∃ l xs i y,x=.ref l/\vs=[.int i,y]/\H l=some (.lst xs)/\0<=i/\i<=xs.length/\xs.length<sizeLine/\Q .non (upd H l (.lst (xs.take i.toNat++y::xs.drop i.toNat)))
theorem Lp:∀ {vs:List V} {us:List Value} (n:Nat),Wa vs us->Wa (vs.take n) (us.take n)
 | _,_,0,_=>by simp;exact .nil
 | [],us,n+1,h=>by cases h;exact .nil
 | v::vs,us,n+1,h=>by cases h with | cons a b=>exact .cons a (Lp n b)
theorem N3:∀ {vs:List V} {us:List Value} (n:Nat),Wa vs us->Wa (vs.drop n) (us.drop n)
 | _,_,0,h=>h
 | [],us,n+1,h=>by cases h;exact .nil
 | v::vs,us,n+1,h=>by cases h with | cons a b=>exact N3 n b
theorem Ct:MtM X "list.insert" Z5v:=by
 intro pins s σ H x vs v us Q I rx rv h;obtain ⟨l,xs,i,y,rfl,rfl,hH,h0,h1,hz,q⟩:=h;cases rx;cases rv with
 | cons r1 r2 =>
  cases r2 with
  | cons ru r3 =>
   cases r3;obtain ⟨t,rfl⟩:=r1;rename_i u;obtain ⟨z,its,n,r,hl,e⟩:=I.lstM hH;have hfit:¬ (!Builtin.List.listFitsIndex i)=true:=by
    have:(sizeLine:Nat)<2^62:=by decide
    rw [fitsIndex_both (by lia) (by lia)]
    decide
   refine call_meets F.slot_list_insert ⟨_,e,rfl⟩ F.entry_list_insert (F.args_list_insert_3 _ _ _) (AutoSeq1.list_insert_list_int_val_1 l its.toArray n i t u hfit (by rw [size_toArray];lia)) ⟨e,?_⟩;refine ⟨.non,_,I.lset (its':=its.take i.toNat++u::its.drop i.toNat) hH e ?_ ((Lp _ r).append (.cons ru (N3 _ r))) ?_,rfl,q⟩
   ·apply Array.toList_inj.mp
    have hm:(if i<0 then (i+(its.toArray.size:Int)).toNat else min i.toNat its.toArray.size)=i.toNat:=by
     rw [if_neg (by lia),size_toArray,Nat.min_eq_left (by lia)]
    show ((its.toArray.extract 0 (if i<0 then (i+(its.toArray.size:Int)).toNat else min i.toNat its.toArray.size)).push u++its.toArray.extract (if i<0 then (i+(its.toArray.size:Int)).toNat else min i.toNat its.toArray.size)).toList=_;rw [hm];simp [List.extract];exact take_of_length_le (by rw [length_drop];lia)
   ·rw [length_append,length_cons,length_take,length_drop]
    lia
def R3:List Dat->List Dat->Option (List Dat)
 | ds,[.int i,d]=>if 0<=i/\i<=ds.length/\ds.length<sizeLine then some (ds.take i.toNat++d::ds.drop i.toNat) else none
 | _,_=>none
theorem K0:MtU X "list.insert" R3:=MtR.weak (id:="list.insert") Ct fun v us H Q zz=>by
 obtain ⟨A,a,vs,ds,as,ds',mu,e1,h1,r1,r2,e2,q⟩:=zz;unfold R3 at e2;split at e2
 ·rename_i i d
  split at e2
  ·rename_i hl
   cases e2;obtain ⟨w,us',e3,r3,e4⟩:=r2;obtain ⟨w2,us2,e5,r5,e6⟩:=e4;have hw:w=.int i:=(Rm.pk r3).int;have hlen:=Y5 r1;refine ⟨a,vs,i,w2,e1,by rw [e3,e5,show us2=[] from e6,hw],h1,hl.1,by rw [hlen];exact hl.2.1,by rw [hlen];exact hl.2.2,q _ _ (by rw [length_append,length_cons,length_take,length_drop];lia) (Wm (Hv _ r1) (U2 r5 (K3 _ r1)))⟩
  ·cases e2
 ·cases e2
def Zbd (c:Int):Value->Bool
 | .int z _=>z==c
 | _=>false
theorem P0:∀ {ns:List Int} {us:List Value},Wa (ns.map V.int) us->∀ (j:Nat) (h:j<us.length) (h':j<ns.length),∃ t,us[j]=.int ns[j] t
 | [],us,r,j,h,h'=>by simp at h'
 | n::ns,us,r,j,h,h'=>by
  rw [map_cons] at r;cases r with
  | cons r1 r2 =>
   obtain ⟨t,e⟩:=r1;subst e;cases j with
   | zero=>exact ⟨t,rfl⟩
   | succ j=>exact P0 r2 j (by simpa using h) (by simpa using h')
theorem Z7b {ns:List Int} {us:List Value} (r:Wa (ns.map V.int) us) {y:Value} (h:y∈us):∃ z t,y=.int z t:=by
 obtain ⟨j,hj,rfl⟩:=List.getElem_of_mem h;have hl:=r.length;rw [length_map] at hl;obtain ⟨t,e⟩:=P0 r j hj (by lia);exact ⟨_,t,e⟩
theorem Z0b:MtR X "list.index" (fun x vs H Q=>∃ (p:Addr) (zs:List Int) (c:Int),x=.ref p/\vs=[.int c]/\SqL X.K H p (zs.map V.int)/\c∈zs/\Q (.int ((zs.idxOf c:Nat):Int)) H):=by
 intro pins s σ H x vs v us Q I rx rs h;obtain ⟨p,zs,c,rfl,rfl,hq,hm,q⟩:=h;cases rx;obtain ⟨u',rfl,ru⟩:=Sr rs;obtain ⟨u,rfl⟩:=ru;obtain ⟨its,r',pl,hz⟩:=I.list hq;obtain ⟨⟨cls,dd,data,sl⟩,ho,hc,n,hd⟩:=pl.isList;simp only at hc hd;subst hc hd;have hlen':=r'.length;rw [length_map] at hlen' hz;have hj:zs.idxOf c<zs.length:=List.idxOf_lt_length_iff.mpr hm;have hsl:sizeLine<2^63 - 1:=by decide
 refine call_meets PySem.F.slot_list_index ⟨_,ho,rfl⟩ PySem.F.entry_list_index (PySem.F.args_list_index_2 _ _) (SeqAt.list_indexAt p _ n dd sl (.int c u) (Zbd c) (zs.idxOf c) (by simpa [← hlen'] using hj) (by lia) ?_ ?_) ⟨ho,fun y hy=>?_,⟨.int _,H,I.tok _,⟨_,rfl⟩,q⟩⟩
 ·obtain ⟨t,e⟩:=P0 r' (zs.idxOf c) (by lia) hj
  show Zbd c (its[zs.idxOf c]'(by lia))=true;rw [e];show (zs[zs.idxOf c]==c)=true;simpa using List.getElem_idxOf hj
 ·intro j hjs hlt
  have hjb:j<zs.length:=by lia
  obtain ⟨t,e⟩:=P0 r' j (by lia) hjb;show Zbd c (its[j]'(by lia))=false;rw [e];show (zs[j]==c)=false;have:=List.not_of_lt_findIdx (xs:=zs) (p:=(·==c)) (i:=j) (by simpa [List.idxOf] using hlt);simpa using this
 ·obtain ⟨z,t,rfl⟩:=Z7b r' (by simpa using hy)
  exact SeqAt.EqAt.int_int z t c u
def Ki:Dat->List Dat->Option Dat
 | .lst xs,[.int c]=>(Ru xs).bind fun zs=>if c∈zs then some (.int ((zs.idxOf c:Nat):Int)) else none
 | _,_=>none
theorem Ow:MtD X "list.index" Ki:=Z0b.weak fun v vs H Q zz=>by
 obtain ⟨A,x,ds,d,mu,e,p,ps,q⟩:=zz;unfold Ki at e;split at e
 ·rename_i xs c
  obtain ⟨l,us,e2,h1,r1⟩:=p.lst;obtain ⟨v1,e3,p1⟩:=ps.one;obtain ⟨zs,hy,e⟩:=bind_some e;split at e
  ·rename_i hc
   cases e;rw [Mo hy] at r1;have eu:=Vk r1;subst eu;exact ⟨l,zs,c,e2,by rw [e3,p1.int],h1.sq,hc,q.here Wb⟩
  ·cases e
 ·cases e
end
section
variable {fr m:Bool} {X:Cx} {e:Expr} {f fa fb:Ev->Option Dat} {pos:Pos}
def Rf (i:Nat) (fa fb:Ev->Option Dat):Ev->Fl:=fun env=>match env[i]?,fb env,fa env with
 | some (.ow ds),some d,some (.int k)=>if 0<=k/\k<ds.length then .next (env.set i (.ow (ds.set k.toNat d))) else .no
 | _,_,_=>.no
theorem Z0o (i:Nat) {x:Str} {ix:Expr} {p pos':Pos} (ha:PXd true X ix fa) (hb:PXd false X e fb)
  (hN:X.N[i]?=some x:=by rfl) (hv:Vis X.env.scope x:=by first | exact Or.inl rfl | exact Or.inr (Or.inl rfl) | exact Or.inr (Or.inr rfl)) (hd:(x==("__debug__" : Str))=false:=by decide) (hcd:(x==("__classdict__" : Str))=false:=by decide)
  (hs:swapsWithSole [.Subscript (.Name x p) ix pos'] e pos.line X.env=pure false:=by rfl) (hw:swappedStores [.Subscript (.Name x p) ix pos'] e X.env=pure none:=by rfl) (h1:(assignEach [.Subscript (.Name x p) ix pos'] X.env).map (·.2)=[assign (.Subscript (.Name x p) ix pos') X.env]:=by rfl)
  (hq:∀ v,assign (.Subscript (.Name x p) ix pos') X.env v=(do
   let ov ← holding [v] (eval (.Name x p) X.env)
   let iv ← holding [v,ov] (eval ix X.env)
   standAt pos'
   holding [v,ov,iv] (setItem ov iv v)
   release [v,ov,iv] []):=by intro _;rfl) :
  PSd fr X (.Assign [.Subscript (.Name x p) ix pos'] e pos) (Rf i fa fb):=(Z3d hb (Z9i (Mw hN hv hd hcd) ha Z2y hq) hs hw h1).weak fun D σ H zz=>by
 obtain ⟨env,B,A,k,hst,q⟩:=zz;unfold Rf at q;split at q
 ·rename_i ds d j e1 e2 e3
  split at q
  ·rename_i hj
   refine ⟨env,B,A,d,k,e2,fun v H1 s1 r1=>?_⟩;have k1:=k.mono s1;obtain ⟨a,vs,g1,g2,g3,_⟩:=k1.own hst e1;refine ⟨.ref a,g1,env,B,A,.int j,k1,e3,fun w H2 s2 r2=>?_⟩;have k2:=k1.mono s2;obtain ⟨a',vs',m1,m2,m3,mz,_,_,_,m4,_⟩:=k2.own hst e1;rw [g1] at m1;cases m1;have hw2:w=.int j:=(Rm.pk r2).int;have hlen:=Y5 m3;have r1':Rp X.K (av H2 A) d v:=Rp.mono (Vd s2) r1;refine ⟨a,vs',j,j.toNat,rfl,hw2,m2,?_,?_⟩
   ·unfold ixN;rw [if_pos hj.1,if_pos (by lia)]
   ·obtain ⟨z1,z2⟩:=m4 (ds.set j.toNat d) (vs'.set j.toNat v) (by rw [length_set];exact mz) (Co _ m3 r1')
    exact q A _ σ (((Step.same s1).trans (Step.same s2)).trans z1) z2
  ·exact q.elim
 ·exact q.elim
end
theorem EnvOk.gx {K:PySem.W.Frag} {B:Bs} {A:AS} {H:Hp} {σ:St} {env:Ev} {i:Nat} {g:GX} (k:EnvOk K B A H σ env) (hst:B.st=true) (h:env[i]?=some (.gx g)) :
  ∃ (v:V) (o:Addr->Prop),σ[i]?=some (some v)/\GOk K A H o g v/\(∀ b,o b->A b=true/\B.H₀ b=none) /\
   ∀ (b:Addr) (O:HO) (g':GX),o b->Mtb (some O)->GOk K A (upd H b O) o g' v->Step A H A (upd H b O)/\EnvOk K B A (upd H b O) σ (env.set i (.gx g')):=by
 obtain ⟨own,h1,h2,h4⟩:=k.sl;obtain ⟨x,q1,v,e1,e2⟩:=h4 i _ h;subst e1;have hb0:∀ b,own i b->A b=true/\B.H₀ b=none:=fun b ob=>by
  obtain ⟨hA,hR⟩:=h2 i b ob;refine ⟨hA,?_⟩;rcases k.ar b hA with z | z
  ·rw [z] at hR;cases hR
  ·exact z
 refine ⟨v,own i,q1,e2,hb0,fun a O g' oa hO hg=>?_⟩;obtain ⟨hA,h0⟩:=hb0 a oa;have avs:Yj (av H A) (av (upd H a O) A):=fun b o e=>by
  obtain ⟨z1,z2⟩:=Rg e;have hb:b≠a:=by intro z;rw [z,hA] at z1;cases z1
  exact Qe (by rw [Zg hb];exact z2) z1
 refine ⟨⟨fun b o hb hAb=>?_,fun b hb=>.inl hb⟩,?_⟩
 ·have hn:b≠a:=by intro z;rw [z,hA] at hAb;cases hAb
  rw [Zg hn];exact hb
 ·refine ⟨fun b o hb=>?_,k.r0,k.ra,k.ar,fun b hb=>?_,by rw [length_set];exact k.len,fun hs j d'=>N4 (k.np hs) (fun _ z=>by cases z) j d',own,h1,h2,fun j s e=>?_⟩
  ·have hn:b≠a:=Y6 hb h0
   rw [Zg hn];exact k.h0 b o hb
  ·by_cases hn:b=a
   ·subst hn;rw [Zu];exact hO
   ·rw [Zg hn];exact k.mu b hb
  ·by_cases hj:i=j
   ·subst hj
    rw [getElem?_set,if_pos rfl] at e;split at e
    ·cases e
     exact ⟨_,q1,v,rfl,hg⟩
    ·cases e
   ·rw [getElem?_set,if_neg hj] at e
    obtain ⟨x,p1,p2⟩:=h4 j s e;refine ⟨x,p1,?_⟩;cases s with
    | un=>trivial
    | fz d=>obtain ⟨v,z1,z2⟩:=p2;exact ⟨v,z1,z2.mono avs⟩
    | pk d=>exact absurd e (k.np hst j d)
    | ow es =>
     obtain ⟨b,us,z1,z2,z3,z4,z5⟩:=p2;have hn:b≠a:=fun z=>hj (h1 i j a oa (z▸z2))
     exact ⟨b,us,z1,z2,z3,by rw [Zg hn];exact z4,z5.mono avs⟩
    | gx g2 =>
     obtain ⟨w,z1,z2⟩:=p2;exact ⟨w,z1,z2.frame (fun _ z=>z) (fun b x ob z=>by
      have hn:b≠a:=fun y=>hj (h1 i j a oa (y▸ob))
      rw [Zg hn];exact z) avs⟩
def Z11 (A:AS) (S:Addr->Bool):AS:=fun b=>A b||S b
theorem EnvOk.putG {K:PySem.W.Frag} {B:Bs} {A:AS} {H H':Hp} {σ:St} {env:Ev} (k:EnvOk K B A H σ env) (hst:B.st=true) (i:Nat) {g:GX} {v:V} {S:Addr->Bool} (s:Yj H H') (hn:∀ p,S p=true->H p=none) (hm:∀ p,S p=true->Mtb (H' p)) (r:GOk K (Z11 A S) H' (fun b=>S b=true) g v) :
  Step A H (Z11 A S) H'/\EnvOk K B (Z11 A S) H' (σ.set i (some v)) (env.set i (.gx g)):=by
 have or_of:∀ {b},Z11 A S b=true->A b=true\/S b=true:=fun {b} h=>by unfold Z11 at h;rw [Bool.or_eq_true] at h;exact h
 have inl_of:∀ {b},A b=true->Z11 A S b=true:=fun {b} h=>by unfold Z11;rw [h];rfl
 have inr_of:∀ {b},S b=true->Z11 A S b=true:=fun {b} h=>by unfold Z11;rw [h,Bool.or_true]
 have st:Step A H (Z11 A S) H':=⟨fun a o h _=>s a o h,fun a h=>(or_of h).imp id fun z=>hn a z⟩;have hAp:∀ p,S p=true->A p=false:=fun p hp=>k.mu.new (hn p hp)
 have h0:∀ p,S p=true->B.H₀ p=none:=fun p hp=>k.h0.free (hn p hp)
 obtain ⟨own,h1,h2,h4⟩:=k.sl;refine ⟨st,k.h0.trans s,k.r0,fun a h=>inl_of (k.ra a h),fun a h=>?_,fun a h=>?_,by rw [length_set,length_set];exact k.len,fun hs j d'=>N4 (k.np hs) (fun _ z=>by cases z) j d',
  fun j a=>(j≠i/\own j a)\/(j=i/\S a=true),fun j j' a z z'=>?_,fun j a z=>?_,fun j sl e=>?_⟩
 ·rcases or_of h with z | z
  ·exact k.ar a z
  ·exact .inr (h0 a z)
 ·rcases or_of h with z | z
  ·exact k.mu.mono s a z
  ·exact hm a z
 ·rcases z with z | z<;>rcases z' with z' | z'
  ·exact h1 j j' a z.2 z'.2
  ·have:=(h2 j a z.2).1;rw [hAp a z'.2] at this;cases this
  ·have:=(h2 j' a z'.2).1;rw [hAp a z.2] at this;cases this
  ·rw [z.1,z'.1]
 ·rcases z with z | z
  ·exact ⟨inl_of (h2 j a z.2).1,(h2 j a z.2).2⟩
  ·refine ⟨inr_of z.2,?_⟩
   cases q:B.R a with
   | false=>rfl
   | true=>obtain ⟨o,ho⟩:=k.r0 a q;rw [h0 a z.2] at ho;cases ho
 ·by_cases hj:i=j
  ·subst hj
   rw [getElem?_set,if_pos rfl] at e;split at e
   ·rename_i hl
    cases e;exact ⟨some v,by rw [getElem?_set,if_pos rfl,if_pos (by rw [k.len];exact hl)],v,rfl,r.frame (fun _ z=>.inr ⟨rfl,z⟩) (fun _ _ _ z=>z) (Yj.refl _)⟩
   ·cases e
  ·rw [getElem?_set,if_neg hj] at e
   obtain ⟨x,p1,p2⟩:=h4 j sl e;refine ⟨x,by rw [getElem?_set,if_neg hj];exact p1,?_⟩;cases sl with
   | un=>trivial
   | fz d=>obtain ⟨v,z1,z2⟩:=p2;exact ⟨v,z1,z2.mono st.av⟩
   | pk d=>exact absurd e (k.np hst j d)
   | ow es =>
    obtain ⟨b,us,z1,z2,z3,z4,z5⟩:=p2;exact ⟨b,us,z1,.inl ⟨Ne.symm hj,z2⟩,z3,s _ _ z4,z5.mono st.av⟩
   | gx g2 =>
    obtain ⟨w,z1,z2⟩:=p2;exact ⟨w,z1,z2.frame (fun _ z=>.inl ⟨Ne.symm hj,z⟩) (fun b x _ z=>s b x z) st.av⟩
section
variable {fr m:Bool} {X:Cx} {e ix:Expr} {f fa:Ev->Option Dat} {fs:Ev->Option (List Dat)} {pos:Pos}
def E2 (dss:List (List Dat)) (k:Int):Option (List Dat):=if 0<=k then dss[k.toNat]? else none
def Z6j (i:Nat) (fa:Ev->Option Dat):Ev->Option Dat:=fun env=>match env[i]?,fa env with
 | some (.gx (.nest dss)),some (.int k)=>(E2 dss k).map .lst
 | _,_=>none
theorem EnvOk.nest {K:PySem.W.Frag} {B:Bs} {A:AS} {H:Hp} {σ:St} {env:Ev} {i:Nat} {dss:List (List Dat)} (k:EnvOk K B A H σ env) (h:env[i]?=some (.gx (.nest dss))) :
  ∃ (a:Addr) (as:List Addr),σ[i]?=some (some (.ref a))/\H a=some (.lst (as.map V.ref))/\as.length=dss.length/\∀ (n:Nat) b ds,as[n]?=some b->dss[n]?=some ds->ds.length<=sizeLine/\∃ vs,H b=some (.lst vs)/\Rps K (av H A) ds vs:=by
 obtain ⟨own,h1,h2,h4⟩:=k.sl;obtain ⟨x,q1,v,e1,a,as,e2,e3,e4,e5,e6,e7,e8,e9⟩:=h4 i _ h;subst e1 e2;exact ⟨a,as,q1,e5,e6,fun n b ds z1 z2=>⟨(e9 n b ds z1 z2).2.1,(e9 n b ds z1 z2).2.2⟩⟩
theorem Em {dss:List (List Dat)} {k:Int} {ds:List Dat} (h:E2 dss k=some ds):0<=k/\dss[k.toNat]?=some ds/\k=((k.toNat:Nat):Int):=by
 unfold E2 at h;split at h
 ·rename_i h0;exact ⟨h0,h,(Int.toNat_of_nonneg h0).symm⟩
 ·cases h
theorem Zd0 (i:Nat) {x:Str} {p:Pos} (ha:PXd true X ix fa) (hpl:Hz ix)
  (hN:X.N[i]?=some x:=by rfl) (hv:Vis X.env.scope x:=by first | exact Or.inl rfl | exact Or.inr (Or.inl rfl) | exact Or.inr (Or.inr rfl)) (hd:(x==("__debug__" : Str))=false:=by decide) (hcd:(x==("__classdict__" : Str))=false:=by decide) :
  PXd true X (.Subscript (.Name x p) ix pos) (Z6j i fa):=PE.weak (Z4s Ob (Mw hN hv hd hcd) ha hpl) fun σ H Q zz=>by
 obtain ⟨env,B,A,d,k,e,q⟩:=zz;unfold Z6j at e;split at e
 ·rename_i dss n e1 e2
  obtain ⟨ds,e3,e4⟩:=map_some e;subst e4;obtain ⟨h0,e5,e6⟩:=Em e3;obtain ⟨a,as,h1,h2,h3,h4⟩:=k.nest e1;refine ⟨.ref a,h1,env,B,A,.int n,k,e2,fun w H2 s2 r2=>?_⟩;have hw:w=.int n:=(Rm.pk r2).int;have hlt:n.toNat<as.length:=by rw [h3];exact (List.getElem?_eq_some_iff.mp e5).1
  obtain ⟨hz,vs,g1,g2⟩:=h4 n.toNat _ ds (getElem?_eq_getElem hlt) e5;refine ⟨a,as.map V.ref,n,.ref as[n.toNat],rfl,hw,SqL.of (s2 _ _ h2),?_,q _ _ s2 (.inr ⟨_,vs,ds,rfl,rfl,hz,s2 _ _ g1,g2.mono (Vd s2)⟩)⟩;have hat:atI (as.map V.ref) ((n.toNat:Nat):Int)=some (.ref as[n.toNat]):=Ew (by rw [getElem?_map,getElem?_eq_getElem hlt];rfl)
  rwa [← e6] at hat
 ·cases e
def L3 (i:Nat) (fa:Ev->Option Dat) (fs:Ev->Option (List Dat)):Ev->Fl:=fun env=>match env[i]?,fa env with
 | some (.gx (.nest dss)),some (.int k)=>match E2 dss k with
  | some ds=>match (fs env).bind fun as=>Vl ds as with
   | some ds'=>.next (env.set i (.gx (.nest (dss.set k.toNat ds'))))
   | none=>.no
  | none=>.no
 | _,_=>.no
theorem Pi (i:Nat) {x:Str} {es:List Expr} {p p2 apos cpos:Pos} (ha:PXd true X ix fa) (hpl:Hz ix) (hb:PAd false X (e::es) fs)
  (hN:X.N[i]?=some x:=by rfl) (hv:Vis X.env.scope x:=by first | exact Or.inl rfl | exact Or.inr (Or.inl rfl) | exact Or.inr (Or.inr rfl)) (hd:(x==("__debug__" : Str))=false:=by decide) (hcd:(x==("__classdict__" : Str))=false:=by decide)
  (hsw:swapsWith (.Call (.Attribute (.Subscript (.Name x p) ix p2) "append" apos) (e::es) [] cpos) none pos.line X.env=pure false:=by rfl)
  (hbase:attributeBase (.Subscript (.Name x p) ix p2) "append" X.env (eval (.Subscript (.Name x p) ix p2) X.env)=eval (.Subscript (.Name x p) ix p2) X.env:=by rfl)
  (hfew:((backTo cpos (starEach (e::es) X.env)).all (fun x=>!x.1)&&(backToKw cpos (keywordEach [] X.env)).all (fun x=>x.1.isSome)
   && decide ((e::es).length+([]:List Keyword).length+(if ([]:List Keyword).isEmpty then 0 else 1)<30))=true:=by rfl)
  (hline:(apos.endLine==cpos.line)=true:=by rfl) (hs:starEach (e::es) X.env=(false,eval e X.env)::starEach es X.env:=by rfl) (hplain:(backTo cpos (starEach es X.env)).any (·.1)=false:=by rfl) :
  PSd fr X (.Expr (.Call (.Attribute (.Subscript (.Name x p) ix p2) "append" apos) (e::es) [] cpos) pos) (L3 i fa fs):=(O5 (Z48 PySem.F.plainAttrs_list PySem.F.slot_list_append PySem.F.type_list_append (id:="list.append") Lb (Z4s Ob (Mw hN hv hd hcd) ha hpl) hb hbase hfew hline hs hplain) hsw).weak fun D σ H zz=>by
 obtain ⟨env,B,A,k,hst,q⟩:=zz;unfold L3 at q;split at q
 ·rename_i dss n e1 e2
  split at q
  ·rename_i ds e3
   split at q
   ·rename_i ds' e4
    obtain ⟨as0,e5,e6⟩:=bind_some e4;obtain ⟨h0,e7,e8⟩:=Em e3;obtain ⟨a,as,h1,h2,h3,h4⟩:=k.nest e1;refine ⟨.ref a,h1,env,B,A,.int n,k,e2,fun w H2 s2 r2=>?_⟩;have hw:w=.int n:=(Rm.pk r2).int;have hlt:n.toNat<as.length:=by rw [h3];exact (List.getElem?_eq_some_iff.mp e7).1
    obtain ⟨hz,vs,g1,g2⟩:=h4 n.toNat _ ds (getElem?_eq_getElem hlt) e7;refine ⟨a,as.map V.ref,n,.ref as[n.toNat],rfl,hw,SqL.of (s2 _ _ h2),?_,.inl ⟨rfl,vs,SqL.of (s2 _ _ g1)⟩,env,B,A,as0,k.mono s2,e5,fun us H3 s3 rs=>?_⟩
    ·have hat:atI (as.map V.ref) ((n.toNat:Nat):Int)=some (.ref as[n.toNat]):=Ew (by rw [getElem?_map,getElem?_eq_getElem hlt];rfl)
     rwa [← e8] at hat
    have k3:=k.mono (s2.trans s3);obtain ⟨v,o,m1,m2,m3,m4⟩:=k3.gx hst e1;rw [h1] at m1;cases m1;obtain ⟨a',as',z1,z2,z3,z4,z5,z6,z7,z8⟩:=m2;cases z1;have eas:as'.map V.ref=as.map V.ref:=by
     have:=(s2.trans s3) _ _ h2;rw [z4] at this;exact HO.lst.inj (Option.some.inj this)
    have eas2:as'=as:=by
     have hinj:∀ (l1 l2:List Addr),l1.map V.ref=l2.map V.ref->l1=l2:=fun l1=>by
      induction l1 with
      | nil=>intro l2 hl;cases l2 with | nil=>rfl | cons=>cases hl
      | cons y l1 ih =>
       intro l2 hl;cases l2 with
       | nil=>cases hl
       | cons y2 l2=>simp at hl;rw [hl.1,ih l2 (by simpa using hl.2)]
     exact hinj _ _ eas
    subst eas2;obtain ⟨ob,hz2,vs2,g3,g4⟩:=z8 n.toNat _ ds (getElem?_eq_getElem hlt) e7;generalize hbq:as'[n.toNat]=b at *;have hbm:b∈as':=by rw [← hbq];exact getElem_mem hlt
    unfold Vl at e6;split at e6
    ·rename_i d
     split at e6
     ·rename_i hl
      cases e6;obtain ⟨y,us',e9,r3,e10⟩:=rs;have hus:us=[y]:=by rw [e9,show us'=[] from e10]
      refine ⟨b,vs2,y,rfl,hus,g3,by rw [Y5 g4];exact hl,?_⟩;have hA:A b=true:=(m3 b ob).1;have avs:Yj (av H3 A) (av (upd H3 b (.lst (vs2++[y]))) A):=fun c o2 ec=>by
       obtain ⟨y1,y2⟩:=Rg ec;have hc:c≠b:=by intro z;rw [z,hA] at y1;cases y1
       exact Qe (by rw [Zg hc];exact y2) y1
      have hab:a≠b:=fun z=>z7 (z▸hbm)
      have hg:GOk X.K A (upd H3 b (.lst (vs2++[y]))) o (.nest (dss.set n.toNat (ds++[d]))) (.ref a):=by
       refine ⟨a,as',rfl,z2,by rw [length_set];exact z3,by rw [Zg hab];exact z4,by rw [length_set];exact z5,z6,z7,fun j c es q1 q2=>?_⟩;by_cases hj:n.toNat=j
       ·subst hj
        rw [getElem?_eq_getElem hlt,hbq] at q1;cases q1;rw [getElem?_set,if_pos rfl,if_pos (by rw [← h3];exact hlt)] at q2;cases q2;exact ⟨ob,by rw [length_append,length_singleton];lia,vs2++[y],Zu,Wm (g4.mono avs) (M2 (Rp.mono avs r3))⟩
       ·rw [getElem?_set,if_neg hj] at q2
        obtain ⟨y1,y2,us2,y3,y4⟩:=z8 j c es q1 q2;have hcb:c≠b:=fun z=>by
         obtain ⟨hjl1,hjl2⟩:=List.getElem?_eq_some_iff.mp q1;have:=List.nodup_iff_pairwise_ne.mp z6;rw [List.pairwise_iff_getElem] at this;rcases lt_or_ge n.toNat j with hlt2 | hge2
         ·exact this n.toNat j hlt hjl1 hlt2 (by rw [hbq,hjl2,z])
         ·exact this j n.toNat hjl1 hlt (by lia) (by rw [hbq,hjl2,z])
        exact ⟨y1,y2,us2,by rw [Zg hcb];exact y3,y4.mono avs⟩
      obtain ⟨w1,w2⟩:=m4 b (.lst (vs2++[y])) _ ob trivial hg;exact q A _ σ (((Step.same s2).trans (Step.same s3)).trans w1) w2
     ·cases e6
    ·cases e6
   ·exact q.elim
  ·exact q.elim
 ·exact q.elim
end
section
variable {fr:Bool} {X:Cx} {sc:Scope} {tg iter:Expr} {pos:Pos} {src:Ev->Option (List Dat)} {is:List Nat} {gg:Dat->Ev->Option Ev}
def Xk (i:Nat) (src:Ev->Option (List Dat)) (fs:List (Option Nat)) (gg:Dat->Ev->Option Ev):Ev->Fl:=fun env=>match src env with
 | some ds=>if ds.all (fun d=>(gg d (Qq fs env)).isSome)=true then .next (env.set i (.gx (.nest (List.replicate ds.length [])))) else .no
 | none=>.no
theorem Z30 {J:It} {fs:List (Option Nat)} {is:List Nat} {g:Dat->Ev->Option Ev} {σ:St} {H1:Hp} {Q:VK} {K:PySem.W.Frag} {A:AS} {B:Bs} {env:Ev} {ds:List Dat}
  (hfs:∀ i∈is,fs[i]?=some none) (k:EnvOk K B A H1 σ env) (hJ:Z41 false K A H1 ds J) (hz:ds.length<=sizeLine) (hc:∀ d∈ds,∃ e',g d (Qq fs env)=some e')
  (q:∀ (p:Addr) (as:List Addr) (H':Hp),Yj H1 H'->H1 p=none->H' p=some (.lst (as.map V.ref))->as.length=ds.length->as.Nodup->p∉as->(∀ b∈as,H1 b=none/\H' b=some (.lst []))->Q (.ref p) H') :
  ∃ W:Nat->Nat->List V->Hp->Prop,(∃ m,W 0 m [] H1)/\∀ i m zs H,W i m zs H ->
   (J.stop i H/\zs.length<=sizeLine/\∀ p,H p=none->Q (.ref p) (upd H p (.lst zs))) \/
   (J.go i H/\zs.length<=sizeLine/\∃ N:List V->Hp->Prop,(∀ ys' H',N ys' H'->∃ m',m'<m/\W (i+1) m' ys' H')/\∀ x H',J.yld i H x H'->(∃ env R A d env',EnvOk K R A H' (Tv fs σ) env/\Rp K (av H' A) d x/\g d env=some env'/\∀ σ',EnvOk K R A H' σ' env'->Le is (Tv fs σ) σ' ->
    (Ext (Tv fs σ) σ'/\∃ env R A b,EnvOk K R A H' σ' env/\Ub env=some b/\∀ H3,Yj H' H3->if b=true then (∀ p,H3 p=none->N (zs++[.ref p]) (upd H3 p (.lst []))) else N zs H3))):=by
 refine ⟨fun i m zs H=>m=ds.length - i/\i<=ds.length/\Yj H1 H/\∃ as:List Addr,zs=as.map V.ref/\as.length=i/\as.Nodup/\∀ b∈as,H1 b=none/\H b=some (.lst []),
  ⟨ds.length,by simp,zero_le _,Yj.refl _,[],rfl,rfl,nodup_nil,fun b hb=>nomatch hb⟩,?_⟩
 rintro i m zs H ⟨rfl,hi,s1,as,rfl,hal,hnd,has⟩;have hzs:(as.map V.ref).length<=sizeLine:=by rw [length_map];lia
 obtain ⟨hgo,hstop⟩:=hJ A H ⟨rfl,s1⟩ (k.mono s1).mu;by_cases hlt:i<ds.length
 ·have hx:ds[i]?=some ds[i]:=by simp [hlt]
  obtain ⟨go,yl⟩:=hgo i _ hx;obtain ⟨env1,b1⟩:=hc _ (getElem_mem hlt);refine .inr ⟨go,hzs,fun zs' H'=>i+1<=ds.length/\Yj H1 H'/\∃ as:List Addr,zs'=as.map V.ref/\as.length=i+1/\as.Nodup/\∀ b∈as,H1 b=none/\H' b=some (.lst []),
   fun zs' H' h=>⟨ds.length - (i+1),by lia,rfl,h⟩,fun x H' hy=>?_⟩
  obtain ⟨s2,rx⟩:=yl x H' hy;refine ⟨Qq fs env,⟨H1,A,false⟩,A,ds[i],env1,(k.inn fs).mono (s1.trans s2),rx,b1,fun σ' k' ag=>⟨⟨ag.1.symm,fun j v ej=>?_⟩,env1,⟨H1,A,false⟩,A,true,k',rfl,fun H3 s3=>?_⟩⟩
  ·have hj:j∉is:=fun hj=>by
    have:=hfs j hj;unfold Tv at ej;rw [getElem?_map,this] at ej;cases ej
   rw [ag.2 j hj];exact ej
  ·rw [if_pos rfl]
   intro p hp;have s4:Yj H1 H3:=(s1.trans s2).trans s3;have hpa:p∉as:=fun z=>by
    have:=(s2.trans s3) _ _ (has p z).2;rw [hp] at this;cases this
   refine ⟨hlt,fun b o hb=>?_,as++[p],by rw [map_append];rfl,by rw [length_append,length_singleton,hal],nodup_append.mpr ⟨hnd,nodup_cons.mpr ⟨by simp,nodup_nil⟩,fun a ha b hb=>by rw [mem_singleton.mp hb];intro z;exact hpa (z▸ha)⟩,fun b hb=>?_⟩
   ·have hn:b≠p:=fun z=>by have:=s4 b o hb;rw [z,hp] at this;cases this
    rw [Zg hn];exact s4 b o hb
   ·rcases mem_append.mp hb with hb | hb
    ·have hn:b≠p:=fun z=>hpa (z▸hb)
     exact ⟨(has b hb).1,by rw [Zg hn];exact (s2.trans s3) _ _ (has b hb).2⟩
    ·rw [mem_singleton.mp hb]
     exact ⟨s4.free hp,Zu⟩
 ·have e:i=ds.length:=by lia
  subst e;refine .inl ⟨hstop,hzs,fun p hp=>q p as _ (fun b o hb=>?_) (s1.free hp) Zu hal hnd (fun z=>by have:=(has p z).2;rw [hp] at this;cases this) fun b hb=>⟨(has b hb).1,?_⟩⟩
  ·have hn:b≠p:=fun z=>by have:=s1 b o hb;rw [z,hp] at this;cases this
   rw [Zg hn];exact s1 b o hb
  ·have hn:b≠p:=fun z=>by have:=(has b hb).2;rw [z,hp] at this;cases this
   rw [Zg hn];exact (has b hb).2
theorem Z3i (i:Nat) {x:Str} {pos' spos lpos:Pos} (hN:X.N.Nodup) (hi':X.N[i]?=some x) (hx:Loc X.env.scope x) (psc:Scope) (fs:List (Option Nat)) (N:List Str) (hp:X.env.scope=psc) (S:CompOk psc sc X.N N fs) (hc:X.calm=true) (hi:PId false X tg iter src)
  (hb:∀ (C:Addr) (s:Shared) (H:Hp) (fp:List Addr),PGd is (Vv X sc N C s H fp) tg gg/\PFd (Vv X sc N C s H fp) [] Ub)
  (hfs:∀ i∈is,fs[i]?=some none) (hs:∀ x,foldedSetIterable iter X.env x=pure x:=by intro _;rfl) (hsw:swapsWith (.ListComp (.List [] lpos) [⟨tg,iter,[],0⟩] sc pos) (some (.Name x pos')) spos.line X.env=pure true:=by rfl)
  (hf:X.fn x=true\/X.env.scope.names.lookup x=some .local:=by first | exact .inl rfl | exact .inr rfl | assumption) :
  PSd fr X (.Assign [.Name x pos'] (.ListComp (.List [] lpos) [⟨tg,iter,[],0⟩] sc pos) spos) (Xk i src fs gg):=(Ho (g:=fun v σ H Q=>∃ env R A d env',EnvOk X.K R A H σ env/\Rp X.K (av H A) d v/\gg d env=some env'/\∀ σ',EnvOk X.K R A H σ' env'->Le is σ σ'->Q σ' H) (tt:=fun σ H Q=>∃ env R A b,EnvOk X.K R A H σ env/\Ub env=some b/\∀ H',Yj H H'->Q b H') (te:=fun σ H Q=>∀ p,H p=none->Q (.ref p) (upd H p (.lst []))) hN hi' hx psc fs N hp S hc hi (fun C s H fp=>⟨(hb C s H fp).1,(hb C s H fp).2,(Z3m Jn).weak fun σ H Q h=>⟨zero_le _,h⟩⟩) hs hsw hf).weak fun D σ H zz=>by
 obtain ⟨env,B,A,k,hst,q⟩:=zz;unfold Xk at q;split at q
 ·rename_i ds e
  split at q
  ·rename_i hall
   refine ⟨env,B,A,ds,k,e,fun J H1 hz s1 hJ=>Z30 (Q:=fun v H'=>D.nx (σ.set i (some v)) H') hfs (k.mono s1) hJ hz (fun d hd=>Option.isSome_iff_exists.mp (all_eq_true.mp hall d hd)) fun p as H' s2 hn hp1 hal hnd hpa has=>?_⟩;have h1:=k.putG hst i (g:=.nest (List.replicate ds.length [])) (v:=.ref p) (S:=fun b=>decide (b=p)||decide (b∈as)) (s1.trans s2) (fun b hb=>?_) (fun b hb=>?_) ⟨p,as,rfl,by simp,by rw [length_replicate];exact hz,hp1,by rw [length_replicate];exact hal,hnd,hpa,fun n b es q1 q2=>?_⟩
   ·exact q _ H' _ h1.1 h1.2
   ·rw [Bool.or_eq_true,decide_eq_true_eq,decide_eq_true_eq] at hb
    rcases hb with z | z
    ·rw [z];exact s1.free hn
    ·exact s1.free (has b z).1
   ·rw [Bool.or_eq_true,decide_eq_true_eq,decide_eq_true_eq] at hb
    rcases hb with z | z
    ·rw [z,hp1];trivial
    ·rw [(has b z).2];trivial
   ·have hbm:b∈as:=mem_of_getElem? q1
    have hes:es=[]:=by
     have:=mem_of_getElem? q2;exact (mem_replicate.mp this).2
    subst hes;exact ⟨by simp [hbm],zero_le _,[],(has b hbm).2,Uv⟩
  ·exact q.elim
 ·exact q.elim
end
section
variable {X:Cx} {m:Bool}
end
section
variable {prog:Program} {w:World} {A:Around} {E:Value->Shared->Prop} {s:Shared} {z TI TO i1 i2:Addr} {f1 f2:List Addr} {n i:Nat} {P1 P2:Nat->Value->Prop} {S1 S2:Nat->Heap->Prop} {a b:Value}
end
section
variable {st m:Bool} {X:Cx} {l1 l2:Expr} {es:List Expr} {fs:Ev->Option (List Dat)} {tk:Nat} {tpos:Pos}
end
section
variable {prog:Program} {w:World} {A:Around} {E:Value->Shared->Prop} {s:Shared}
theorem Nr {l:Addr} {vs:List Value} {Q:List Value->Shared->Prop} (hl:s.heap.IsTuple l vs.toArray)
  (h:Q vs { s with heap:=(s.heap.push (seqObj "list" #[] 0)).update s.heap.objs.size (Obj.mapSeq (·++vs.toArray)) }) (hsz:vs.length<=sizeLine) :
  wpAny (model prog w) A (collect (.ref l)) Q E s:=by
 obtain ⟨o,ho,hc,n,hd⟩:=id hl;unfold collect;refine wpAny_bind (wpAny_runValue (codeAny_builtin entry_proto_collect' ?_));show wpAny _ _ (do again (.builtin "list.__iadd__" ⟨[← newList [],.ref l],[]⟩)) _ _ s;refine wpAny_bind (wpAny_newList (wpAny_pure ⟨Code.quiet_builtin _ (by decide +kernel),codeAny_builtin entry_list_iadd' ?_⟩));show wpAny _ _ (Builtin.List.listExtendWith (.ref s.heap.objs.size) (.ref l) (.ref s.heap.objs.size)) _ _ { s with heap:=s.heap.push (seqObj "list" #[] 0) };unfold Builtin.List.listExtendWith;have ho':(s.heap.push (seqObj "list" #[] 0)).get? l=some o:=get?_push_of_some _ ho;refine wpAny_bind (wpAny_typeOf (T:="tuple") ⟨o,ho',hc⟩ ?_);have ht:(Value.type "tuple" == Value.type "tuple")=true:=by rfl
 rw [if_pos (by rw [ht];simp)];refine wpAny_bind (listItems_at ho' hd ?_);refine wpAny_bind (listItems_at (xs:=#[]) (n:=0) (get?_push_size _ rfl) rfl ?_);rw [if_neg (by simp)];refine wpAny_bind (listUpdate_at (xs:=#[]) (n:=0) (get?_push_size _ rfl) rfl ?_ (zero_le _) (by show (#[]++vs.toArray).size<=sizeLine+1;simp only [Array.size_append,size_toArray,List.length_nil];lia));refine wpAny_pure ?_;show wpAny (model prog w) A (do
   let o ← load s.heap.objs.size
   match o.data with
   | .seq xs _=>pure xs.toList
   | _=>unsupported "internal:collect") Q E { s with heap:=(s.heap.push (seqObj "list" #[] 0)).update s.heap.objs.size (Obj.mapSeq (·++vs.toArray)) }
 refine wpAny_bind (wpAny_load (get?_update_seq (get?_push_size _ rfl) _) ?_);show wpAny _ _ (pure ((#[]:Array Value)++vs.toArray).toList) Q E _;rw [show ((#[]:Array Value)++vs.toArray).toList=vs by simp];exact wpAny_pure h
theorem X7 {l:Addr} {vs:List Value} {ns:List Int} {Q:Value->Shared->Prop} (hl:s.heap.IsTuple l vs.toArray) (hI:IntsAre vs ns) (h64:vs.length<64)
  (h:∀ (out:Array Value) (ns':List Int),IntsAre out.toList ns'->ns'.Perm ns->ns'.Pairwise (·<=·)->Q (.ref (s.heap.objs.size+1)) { s with heap:=sortedAll s.heap vs out }) :
  wpAny (model prog w) A (call (.builtin "sorted") [.ref l]) Q E s:=by
 refine Calls.call_function_entry kind_sorted plain_sorted entry_sorted (args_sorted1 _) ?_;unfold Builtin.«sorted»;refine wpAny_bind (m:=checkCount "sorted" 1 1 _) (wpAny_pure ?_);refine wpAny_bind (Nr hl ?_ (by rw [sizeLine_eq];lia));refine wpAny_bind (wpAny_newList ?_);have hsz:((s.heap.push (seqObj "list" #[] 0)).update s.heap.objs.size (Obj.mapSeq (·++vs.toArray))).objs.size=s.heap.objs.size+1:=by
  rw [size_update,size_push']
 have hoL:(((s.heap.push (seqObj "list" #[] 0)).update s.heap.objs.size (Obj.mapSeq (·++vs.toArray))).push (seqObj "list" vs.toArray 0)).get? (s.heap.objs.size+1)=some (seqObj "list" vs.toArray 0):=by
  rw [← hsz];exact get?_push_size _ rfl
 show wpAny _ _ _ _ _ { s with heap:=((s.heap.push (seqObj "list" #[] 0)).update s.heap.objs.size (Obj.mapSeq (·++vs.toArray))).push (seqObj "list" vs.toArray 0) };rw [hsz];refine wpAny_bind (wpAny_holding (wpAny_call_entry slot_list_sort ⟨_,hoL,rfl⟩ entry_list_sort (list_sort_tree hoL hI h64 fun out ns' a1 a2 a3=>⟨_,rfl,?_⟩) (args_list_sort _)));exact wpAny_pure ⟨_,rfl,h out ns' a1 a2 a3⟩
end
section
variable {X:Cx}
def Z2x (K:PySem.W.Frag):List V->Hp->VK->Prop:=fun xs H Q=>∃ p ns,xs=[.ref p]/\SqT K H p (ns.map V.int)/\ns.length<64 /\
 ∀ (ms:List Int) (l:Addr),ms.Perm ns->ms.Pairwise (·<=·)->H l=none->Q (.ref l) (upd H l (.lst (ms.map V.int)))
theorem L8:Uq X (.builtin "sorted") (Z2x X.K):=by
 intro pins s σ H xs us Q I r h;obtain ⟨p,ns,rfl,hq,h64,q⟩:=h;obtain ⟨u,rfl,rx⟩:=Sr r;cases rx;obtain ⟨its,r',pl,hz⟩:=I.tuple hq;have hlen:=r'.length;rw [length_map] at hlen;refine X7 (show s.heap.IsTuple p its.toArray from pl) (Gv r') (by lia) fun out ms h1 h2 h3=>?_
 obtain ⟨e,he⟩:=sortedAll_at s.heap its out;have hl:ms.length=ns.length:=h2.length_eq;refine ⟨.ref (s.heap.objs.size+1),upd H (s.heap.objs.size+1) (.lst (ms.map V.int)),I.laid (t':=s.toks) (fun b o q=>sortedAll_old q) (le_succ _) ?_,rfl,q ms _ h2 h3 (I.hok.fresh (le_succ _))⟩;refine ⟨by rw [length_map] at hz ⊢;lia,out.toList,e,D6 h1,?_⟩;rw [he]
def M4:List Dat->Option (List Dat)
 | [.lst xs]=>(Ru xs).bind fun ns=>if ns.length<64 then some ((K7 ns).map .int) else none
 | [.tup xs]=>(Ru xs).bind fun ns=>if ns.length<64 then some ((K7 ns).map .int) else none
 | _=>none
theorem S3:Z1k X (.builtin "sorted") M4:=(Li.or L8).weak fun vs H Q zz=>by
 obtain ⟨A,ds,d,mu,e,p,q⟩:=zz;unfold M4 at e;split at e
 ·rename_i xs
  obtain ⟨v,e1,p1⟩:=p.one;obtain ⟨l,us,e2,h1,r1⟩:=p1.lst;obtain ⟨ns,hn,e⟩:=bind_some e;split at e
  ·rename_i h64
   cases e;rw [Mo hn] at r1;have eu:=Vk r1;subst eu;refine .inl ⟨l,ns,by rw [e1,e2],h1.sq,h64,fun ms l' hp hs hl=>?_⟩;rw [Jc (hp.trans (Th ns).symm) hs (D2 ns)];have h0:(64:Nat)<=sizeLine:=by decide
   exact q.at (by rw [length_map,(Th ns).length_eq];lia) (S0 _) l' hl
  ·cases e
 ·rename_i xs
  obtain ⟨v,e1,p1⟩:=p.one;obtain ⟨l,us,e2,h1,r1⟩:=p1.tup;obtain ⟨ns,hn,e⟩:=bind_some e;split at e
  ·rename_i h64
   cases e;rw [Mo hn] at r1;have eu:=Vk r1;subst eu;refine .inr ⟨l,ns,by rw [e1,e2],h1,h64,fun ms l' hp hs hl=>?_⟩;rw [Jc (hp.trans (Th ns).symm) hs (D2 ns)];have h0:(64:Nat)<=sizeLine:=by decide
   exact q.at (by rw [length_map,(Th ns).length_eq];lia) (S0 _) l' hl
  ·cases e
 ·cases e
end
section
variable {prog:Program} {w:World} {A:Around} {E:Value->Shared->Prop} {s:Shared}
open HT in
theorem R4 {t sl:Addr} {items:Array Value} {vl vu:Value} {lo hi:Option Int} {Q:Value->Shared->Prop} (ht:IsTup s.heap t items) (hs:s.heap.IsSliceOf sl vl vu .none) (pl:IsPart vl lo) (pu:IsPart vu hi)
  (hw:(sIx items.size 0 lo=0/\sIx items.size items.size hi=items.size))
  (h:Q (.ref t) s)
  (hsz:items.size<=sizeLine):wpAny (model prog w) A (getItem (.ref t) (.ref sl)) Q E s:=by
 obtain ⟨os,hos,hcs,hds⟩:=id hs;have hTs:s.TypeIs (.ref sl) "slice" := ⟨os,hos,hcs⟩;unfold getItem;try with_reducible refine wpAny_holding ?_
 first | refine wpAny_bind (wpAny_pure ?_) | skip
 refine wpAny_bind (wpAny_sequenceKey ht.typeIs (by decide) ?_);refine wpAny_bind (wpAny_callSpecial?_slot (name:=Str.ofString "__getitem__") ht.typeIs PyProof.Rows.slot_tuple_getitem
  (wpAny_call_entry PyProof.Rows.slot_tuple_getitem ht.typeIs entry_tuple_getitem ?_ (args_tuple_getitem _ _)))
 show wpAny _ _ (Builtin.Tuple.tupleItemsOf (.ref t) >>= _) _ _ s;refine wpAny_bind (tupleItemsOf_ ht ?_);refine wpAny_bind (wpAny_typeOf hTs ?_);rw [if_pos (by decide)];refine wpAny_bind (Jp hs pl pu ?_);have hyes:(((sIx items.size 0 lo:Nat):Int)==0&&(1:Int)==1&&(sIx items.size items.size hi - sIx items.size 0 lo)==items.size)=true:=by
  rw [hw.1,hw.2];simp
 show wpAny _ _ (if (((sIx items.size 0 lo:Nat):Int)==0&&(1:Int)==1&&(sIx items.size items.size hi - sIx items.size 0 lo)==items.size)=true then _ else _) _ _ s;rw [if_pos hyes];unfold Builtin.Tuple.tupleIsExact;refine wpAny_bind (wpAny_bind (wpAny_typeOf ht.typeIs (wpAny_pure ?_)));rw [if_pos (by decide)];exact wpAny_bind (wpAny_rule (wpAny_pure ⟨_,rfl,wpAny_pure h⟩))
end
section
variable {X:Cx}
def Zdm (K:PySem.W.Frag):V->Option Int->Option Int->Hp->VK->Prop:=fun x lo hi H Q=>∃ a xs,x=.ref a/\SqT K H a xs /\
 (HT.sIx xs.length 0 lo=0/\HT.sIx xs.length xs.length hi=xs.length)/\Q (.ref a) H
theorem Z17:SlR X (Zdm X.K):=by
 intro pins s σ H x v vl vu lo hi sl Q I rx hs pl pu h;obtain ⟨a,xs,rfl,hx,hw,q⟩:=h;cases rx;obtain ⟨its,r,ht,hz⟩:=I.tuple hx;have hlen:its.toArray.size=xs.length:=by rw [size_toArray];exact r.length.symm
 refine ⟨"tuple",_,PyProof.Rows.slot_tuple_getitem.lookup,ht.typeIs,?_⟩;exact R4 ht hs pl pu (by rw [hlen];exact hw) ⟨.ref a,H,I,rfl,q⟩ (by rw [hlen];exact hz)
def slX:Dat->Option Int->Option Int->Option Dat
 | .lst xs,lo,hi=>some (.lst (Eh xs lo hi))
 | .str z,lo,hi=>some (.str (Txt.slice z lo hi))
 | .tup xs,lo,hi=>some (.tup (Eh xs lo hi))
 | _,_,_=>none
theorem R7:SlD X slX:=(Zde.or Z17).weak fun v lo hi H Q zz=>by
 obtain ⟨A,x,d,mu,e,p1,q⟩:=zz;unfold slX at e;split at e
 ·exact .inl ⟨A,.lst _,d,mu,e,p1,q⟩
 ·exact .inl ⟨A,.str _,d,mu,e,p1,q⟩
 ·rename_i xs
  by_cases hw:HT.sIx xs.length 0 lo=0/\HT.sIx xs.length xs.length hi=xs.length
  ·obtain ⟨l,vs,e1,h1,r1⟩:=p1.tup
   cases e;have ec:Eh xs lo hi=xs:=by unfold Eh;rw [hw.1,hw.2];simp
   rw [ec] at q;exact .inr ⟨l,vs,e1,h1,by rw [Y5 r1];exact hw,by rw [← e1];exact q.here (by rcases p1 with h | ⟨_,_,_,e9,_⟩;exact h;cases e9)⟩
  ·exact .inl ⟨A,.tup xs,d,mu,by show (if _ then none else _)=_;rw [if_neg hw];exact e,p1,q⟩
 ·cases e
end
section
variable {P:Program} {w:World} {A:Around} {E:Value->Shared->Prop} {s:Shared}
end
section
variable {X:Cx} {e:Expr} {fs:Ev->Option (List Dat)}
end
section
variable {prog:Program} {w:World} {A:Around} {E:Value->Shared->Prop} {s:Shared}
theorem Mk {h h':Heap} {t:Addr} {xs:Array Value} (q:h.IsList t xs) (e:∀ o,h.get? t=some o->h'.get? t=some o):h'.IsList t xs:=by
 obtain ⟨o,ho,r⟩:=q;exact ⟨o,e o ho,r⟩
theorem Lf {it t:Addr} {items:Array Value} (hne:t≠it):∀ (n i:Nat) (s:Shared) (Q:List Value->Shared->Prop),s.heap.IsListIter it t i->s.heap.IsList t items->i+n<=items.size ->
  (∀ h',h'.IsListIter it t (i+n)->SameBut it s.heap h'->Q ((items.toList.drop i).take n) { s with heap:=h' })->wpAny (model prog w) A (draw (.ref it) n) Q E s
 | 0,i,s,Q,hit,_,_,hQ=>by
  show wpAny _ _ (pure []) Q E s;exact wpAny_pure (by simpa using hQ s.heap hit (SameBut.refl ..))
 | n+1,i,s,Q,hit,ht,hle,hQ=>by
  have hlt:i<items.size:=by lia
  show wpAny _ _ (pyNext (.ref it) >>= _) Q E s;refine wpAny_bind (wpAny_pyNext_list_item hit ht (x:=items[i]) (by simp [hlt]) fun h₁ hit₁ hs₁=>?_);refine wpAny_bind (wpAny_holding (Lf hne n (i+1) _ _ hit₁ (Mk ht fun o e=>hs₁.extBut _ _ hne e) (by lia) fun h₂ hit₂ hs₂=>wpAny_pure ?_));have hd:items.toList.drop i=items[i]::items.toList.drop (i+1):=by simp [List.drop_eq_getElem_cons,hlt]
  have:=hQ h₂ (by rw [show i+(n+1)=i+1+n by lia];exact hit₂) (hs₁.trans hs₂);rw [hd,take_succ_cons] at this;exact this
theorem Dc {t:Addr} {items:Array Value} {Q:List Value->Shared->Prop} (hh:A.handled=none) (ht:s.heap.IsList t items)
  (hQ:∀ h',ExtBut s.heap.objs.size s.heap h'->Q items.toList { s with heap:=h' }):wpAny (model prog w) A (unpackItems (.ref t) items.size none) Q E s:=by
 have hlt:t≠s.heap.objs.size:=by obtain ⟨o,ho,_⟩:=ht;exact ne_of_lt (lt_size ho)
 unfold unpackItems;refine wpAny_bind ?_
 ·unfold notIterableAtAll
  refine wpAny_bind (wpAny_specialOf ht.typeIs slot_list_iter.lookup ?_);refine wpAny_pure ?_;simp only [Bool.false_eq_true,if_false];refine wpAny_bind (wpAny_holding (wpAny_pyIter_list ht ?_));refine wpAny_bind (wpAny_holding (Lf hlt items.size 0 _ _ ⟨_,get?_push_size _ rfl,rfl,rfl⟩ (Mk ht fun o e=>get?_push_of_some _ e) (by lia) fun h₁ hit₁ hs₁=>?_));have hall:List.take items.size (List.drop 0 items.toList)=items.toList:=by
   rw [drop_zero];exact take_of_length_le (by simp)
  rw [hall];rw [if_neg (by simp)];have ht₁:Heap.IsList h₁ t items:=Mk (Mk ht fun o e=>get?_push_of_some _ e) fun o e=>hs₁.extBut _ _ hlt e
  refine wpAny_bind (wpAny_holding (wpAny_pyNext_list_end hh hit₁ ht₁ (by simp) fun h₂ he₂=>?_));simp only [Option.isSome_none,Bool.false_eq_true,if_false];refine wpAny_pure (hQ h₂ fun b o hb e=>he₂ b o hb (hs₁.extBut b o hb (get?_push_of_some _ e)))
theorem Sb {env:Env} {elts:List Expr} {x1} {pos:Pos} {t:Addr} {items:Array Value} {Q:Unit->Shared->Prop} (hh:A.handled=none) (ht:s.heap.IsList t items)
  (hn:(assignEach elts env).length=items.size) (hstar:(assignEach elts env).findIdx? (·.1)=none)
  (h:∀ h',ExtBut s.heap.objs.size s.heap h'->wpAny (model prog w) A (assignInOrder ((assignEach elts env).map (·.2)) items.toList) Q E { s with heap:=h' }) :
  wpAny (model prog w) A (assign (.Tuple elts x1 pos) env (.ref t)) Q E s:=by
 rw [assign_Tuple];refine wpAny_bind (wpAny_standAt ?_);unfold unpack;rw [hn,hstar];exact wpAny_bind (wpAny_holding (Dc hh ht h))
end
section
variable {X:Cx} {pos:Pos}
def Zdb (K:PySem.W.Frag) (n:Nat) (t:TGs):TG:=fun v σ H Q=>∃ a xs,v=.ref a/\SqL K H a xs/\xs.length=n/\t xs σ H Q
theorem Z9w {es:List Expr} {k:Nat} {t:TGs} {n:Nat} (hc:X.calm=true) (h:PGs X es t)
  (hn:(assignEach es X.env).length=n:=by rfl) (hst:(assignEach es X.env).findIdx? (·.1)=none:=by rfl):PG X (.Tuple es k pos) (fun v σ H Q=>Zcd X.K n t v σ H Q\/Zdb X.K n t v σ H Q):=by
 intro pins s σ H v u Q I r hw;rcases hw with hw | hw
 ·exact Z9h hc h hn hst pins s σ H v u Q I r hw
 obtain ⟨a,xs,e1,hq,hl,hw⟩:=hw;subst e1;cases r;obtain ⟨its,rv,pl,hz⟩:=I.list hq;refine Sb (I.ok.hd hc) pl.isList (by simp [hn,← hl,rv.length]) hst fun h' hx=>?_
 have I1:Inv X pins σ H { s with heap:=h' }:=I.kept (t':=s.toks) fun b o e=>hx b o (ne_of_lt (lt_size e)) e
 exact h pins _ σ H xs _ Q I1 (by simpa using rv) hw
def Kf (n:Nat) (gs:List Dat->Ev->Option Ev):Dat->Ev->Option Ev:=fun d env=>match d with
 | .tup ds=>if ds.length=n then gs ds env else none
 | .lst ds=>if ds.length=n then gs ds env else none
 | _=>none
theorem S7 {es:List Expr} {k:Nat} {is:List Nat} {gs:List Dat->Ev->Option Ev} {n:Nat} (hc:X.calm=true) (h:Zam is X es gs)
  (hn:(assignEach es X.env).length=n:=by rfl) (hst:(assignEach es X.env).findIdx? (·.1)=none:=by rfl):PGd is X (.Tuple es k pos) (Kf n gs):=(Z9w hc h hn hst).weak fun v σ H Q zz=>by
 obtain ⟨env,R,A,d,env',k,r,e,q⟩:=zz;unfold Kf at e;split at e
 ·rename_i ds
  split at e
  ·rename_i hl
   obtain ⟨a,vs,ev,h1,r1⟩:=Rj r;exact .inl ⟨a,vs,ev,Yv.seqT h1,by rw [Y5 r1];exact hl,env,R,A,ds,env',k,r1,e,q⟩
  ·cases e
 ·rename_i ds
  split at e
  ·rename_i hl
   obtain ⟨a,vs,ev,h1,r1⟩:=R0 r;exact .inr ⟨a,vs,ev,(Yv.sl h1).sq,by rw [Y5 r1];exact hl,env,R,A,ds,env',k,r1,e,q⟩
  ·cases e
 ·cases e
end
section
variable {P:Program} {w:World} {A:Around} {E:Value->Shared->Prop} {s:Shared}
end
section
variable {X:Cx} {e:Expr} {fs:Ev->Option (List Dat)}
end
section
variable (P:Program) (w:World)
end
section
variable {P:Program} {w:World} {H H':Hp} {h h':Heap} {a:Addr} {o:HO}
end
section
variable {P:Program} {w:World} {H:Hp} {h h':Heap} {x e:Addr} {o':HO}
end
section
variable {fs fs' ex ex':List Addr} {H H1 H2:Hp} {h h1 h2 h':Heap} {a x e:Addr} {o:HO}
end
section
variable {X:Cx} {pins:List (Addr×Obj)} {σ:List (Option V)} {H H':Hp} {s:Shared} {h':Heap}
end
section
variable {X:Cx}
variable {a b:Expr} {ta tb:TE} {pos:Pos}
variable {tA tB':TT} {rest:List Expr}
end
section
variable {X:Cx} {pins:List (Addr×Obj)} {σ:St} {H:Hp} {s:Shared} {a:Addr} {xs ys:List V}
end
section
variable {X:Cx} {pins:List (Addr×Obj)} {σ:St} {H:Hp} {s:Shared} {E:Value->Shared->Prop}
end
section
variable {X:Cx} {st:Stmt} {rest:List Stmt} {t u:TS} {e:Expr} {te:TE} {pos:Pos}
end
section
variable {X:Cx} {pos:Pos}
end
section
variable {X:Cx} {tg:Expr}
end
section
variable {X:Cx} {a b c:Expr} {ta tb tc:TE} {pos:Pos}
end
section
variable {prog:Program} {w:World} {A:Around} {E:Value->Shared->Prop} {s:Shared} {K:PySem.W.Frag} {x dx C f:Addr} {mA:Str->Option Value} {name:Str} {v:Value}
end
section
variable {P:Program} {w:World} {H H':Hp} {h h':Heap} {a C dx:Addr} {fs fs':List (Str×V)}
end
section
variable {X:Cx} {pins:List (Addr×Obj)} {σ:St} {H:Hp} {s:Shared} {a C dx:Addr} {fs:List (Str×V)} {f:Str} {v:V} {A:Around} {E:Value->Shared->Prop}
end
section
variable {X:Cx} {o e value:Expr} {f:Str} {pos pos' tpos:Pos} {ta tv:TE}
end
section
variable {X:Cx} {pins:List (Addr×Obj)} {σ:St} {H:Hp} {s:Shared} {A:Around} {E:Value->Shared->Prop} {Q:Value->Shared->Prop} {c:Value} {b:Bool}
end
section
variable {X:Cx} {e:Expr} {es:List Expr} {te:TE} {t:TA} {pos:Pos}
end
section
variable {X:Cx} {pins:List (Addr×Obj)} {σ:St} {H:Hp} {s s':Shared}
end
section
variable {X:Cx} {CX:CXT} {k:Nat} {f C:Addr} {fd:FuncData} {ps:List Str} {sp:Sp} {dvs:List V} {ds:List Value} {E:XK} {x m:Str} {p pos apos:Pos} {e o:Expr} {es:List Expr} {ta:TE} {t:TA}
end
section
variable {X:Cx} {CX:CXT} {k:Nat} {f C:Addr} {fd:FuncData} {ps ks:List Str} {sp:Sp} {E:XK} {x m:Str} {p pos apos kpos:Pos} {e o:Expr} {es:List Expr} {kws:List Keyword} {te ta:TE} {t tk:TA} {nm:Option Str}
variable {g:List Value->List Value->List Value} {gV:List V->List V->List V}
end
section
variable {X:Cx} {x:Str} {p pos:Pos} {e:Expr} {es:List Expr} {t:TA} {id T:String} {r:List V->Hp->VK->Prop}
end
section
variable {κ:Type} [DecidableEq κ]
def N7 (kvs:List (κ×V)) (k:κ):Option V:=(kvs.find? fun kv=>decide (kv.1=k)).map (·.2)
def Pb (kvs:List (κ×V)) (k:κ) (v:V):List (κ×V) :=
 if (kvs.any fun kv=>decide (kv.1=k))=true then kvs.map (fun kv=>if kv.1=k then (kv.1,v) else kv) else kvs++[(k,v)]
theorem Ii {p:κ×V} {r:List (κ×V)} {k:κ} (e:p.1=k):N7 (p::r) k=some p.2:=by simp [N7,find?_cons,e]
theorem Iy {p:κ×V} {r:List (κ×V)} {k:κ} (e:¬ p.1=k):N7 (p::r) k=N7 r k:=by simp [N7,find?_cons,e]
theorem Dn (k:κ):∀ kvs:List (κ×V),(kvs.any fun kv=>decide (kv.1=k))=(N7 kvs k).isSome
 | []=>rfl
 | p::r=>by
  rw [any_cons];by_cases e:p.1=k
  ·simp only [Ii e,decide_eq_true e,Bool.true_or,Option.isSome_some]
  ·rw [Iy e,decide_eq_false e,Bool.false_or];exact Dn k r
theorem E3 (kvs:List (κ×V)) (k:κ) (v:V):(Pb kvs k v).length<=kvs.length+1:=by
 unfold Pb;split
 ·rw [length_map];lia
 ·rw [length_append,length_cons,List.length_nil];lia
theorem Z1s {kvs:List (κ×V)} {k:κ} (v:V) (h:N7 kvs k=none):Pb kvs k v=kvs++[(k,v)]:=by
 unfold Pb;rw [Dn,h];exact if_neg (by decide)
theorem Aa.isSome_eq {o:Option V} {u:Option Value} (r:Aa o u):o.isSome=u.isSome:=by
 cases o with
 | none=>cases u with
  | none=>rfl
  | some _=>exact (show False from r).elim
 | some _=>cases u with
  | none=>exact (show False from r).elim
  | some _=>rfl
theorem KV.val {kvs:List (κ×V)} {vs:List (κ×Value)} (r:KV kvs vs) (k:κ):Aa (N7 kvs k) (valueAt vs k):=by
 unfold KV at r;induction r with
 | nil=>exact True.intro
 | @cons p q ps qs h t ih =>
  obtain ⟨h1,h2⟩:=h;by_cases e:p.1=k
  ·have e':q.1=k:=h1.symm.trans e
   have b:valueAt (q::qs) k=some q.2:=by simp [valueAt,find?_cons,e']
   rw [Ii e,b];exact h2
  ·have e':¬ q.1=k:=fun z=>e (h1.trans z)
   have b:valueAt (q::qs) k=valueAt qs k:=by simp [valueAt,find?_cons,e']
   rw [Iy e,b];exact ih
theorem KV.any {kvs:List (κ×V)} {vs:List (κ×Value)} (r:KV kvs vs) (k:κ):(kvs.any fun kv=>decide (kv.1=k))=vs.any fun kv=>decide (kv.1=k):=by
 unfold KV at r;induction r with
 | nil=>rfl
 | cons h t ih=>rw [any_cons,any_cons,ih,h.1]
theorem KV.repl {kvs:List (κ×V)} {vs:List (κ×Value)} (r:KV kvs vs) (k:κ) {y:V} {u:Value} (ry:Vf y u) :
  KV (kvs.map fun kv=>if kv.1=k then (kv.1,y) else kv) (vs.map fun kv=>if kv.1=k then (kv.1,u) else kv):=by
 unfold KV at r ⊢;induction r with
 | nil=>exact .nil
 | @cons p q ps qs h t ih =>
  rw [map_cons,map_cons];refine .cons ?_ ih;obtain ⟨h1,h2⟩:=h;by_cases e:p.1=k
  ·rw [if_pos e,if_pos (h1.symm.trans e)];exact ⟨h1,ry⟩
  ·rw [if_neg e,if_neg (fun z=>e (h1.trans z))];exact ⟨h1,h2⟩
theorem KV.put {kvs:List (κ×V)} {vs:List (κ×Value)} (r:KV kvs vs) (k:κ) {y:V} {u:Value} (ry:Vf y u):KV (Pb kvs k y) (stored vs k u):=by
 unfold Pb stored;rw [r.any k];by_cases e:(vs.any fun kv=>decide (kv.1=k))=true
 ·rw [if_pos e,if_pos e];exact r.repl k ry
 ·rw [if_neg e,if_neg e];exact Paired.snoc r ⟨rfl,ry⟩
theorem KV.length {kvs:List (κ×V)} {vs:List (κ×Value)} (r:KV kvs vs):kvs.length=vs.length:=Paired.length r
end
theorem Z66 {P:Program} {w:World} {k:Key} {u:Value} (r:Vf (kV k) u):(Vg P w).is k u=true:=by
 cases k with
 | inl i=>obtain ⟨t,e⟩:=(show ∃ t,u=Value.int i t from r);subst e;exact Og P w i t
 | inr x=>obtain ⟨t,e⟩:=(show ∃ t,u=Value.str x t from r);subst e;exact Nz P w x t
theorem Ku {P:Program} {w:World}:∀ {ks:List Key} {us:List Value},Wa (ks.map kV) us->ItemsAre (Vg P w) ks us
 | [],_,r=>by rw [map_nil] at r;cases r;exact .nil
 | k::ks,_,r=>by
  rw [map_cons] at r;cases r with
  | cons h t=>exact .cons (Z66 h) (Ku t)
abbrev KT (H:Hp):List (List Key×V)->List (List Key×Addr×Value)->Prop:=Paired fun p q=>p.1=q.1/\H q.2.1=some (.tup (p.1.map kV))/\Vf p.2 q.2.2
theorem KT.val {H:Hp} {kvs:List (List Key×V)} {xs:List (List Key×Addr×Value)} (r:KT H kvs xs) (k:List Key):Aa (N7 kvs k) ((atKey xs k).map (·.2)):=by
 induction r with
 | nil=>exact True.intro
 | @cons p q ps qs h t ih =>
  obtain ⟨h1,_,h2⟩:=h;by_cases e:p.1=k
  ·have e':q.1=k:=h1.symm.trans e
   have b:atKey (q::qs) k=some q.2:=by simp [atKey,find?_cons,e']
   rw [Ii e,b];exact h2
  ·have e':¬ q.1=k:=fun z=>e (h1.trans z)
   have b:atKey (q::qs) k=atKey qs k:=by simp [atKey,find?_cons,e']
   rw [Iy e,b];exact ih
theorem KT.repl {H:Hp} {kvs:List (List Key×V)} {xs:List (List Key×Addr×Value)} (r:KT H kvs xs) (k:List Key) {y:V} {u:Value} (ry:Vf y u) :
  KT H (kvs.map fun kv=>if kv.1=k then (kv.1,y) else kv) (xs.map (putAt k u)):=by
 induction r with
 | nil=>exact .nil
 | @cons p q ps qs h t ih =>
  rw [map_cons,map_cons];refine .cons ?_ ih;obtain ⟨h1,h2,h3⟩:=h;unfold putAt;by_cases e:p.1=k
  ·rw [if_pos e,if_pos (h1.symm.trans e)];exact ⟨h1,h2,ry⟩
  ·rw [if_neg e,if_neg (fun z=>e (h1.trans z))];exact ⟨h1,h2,h3⟩
theorem KT.put {H:Hp} {kvs:List (List Key×V)} {xs:List (List Key×Addr×Value)} (r:KT H kvs xs) (k:List Key) {b:Addr} {y:V} {u:Value} (hb:H b=some (.tup (k.map kV))) (ry:Vf y u) :
  KT H (Pb kvs k y) (storedH xs k b u):=by
 have e:(kvs.any fun kv=>decide (kv.1=k))=(atKey xs k).isSome:=by
  rw [Dn,(r.val k).isSome_eq,Option.isSome_map]
 unfold Pb storedH;rw [e];by_cases q:(atKey xs k).isSome=true
 ·rw [if_pos q,if_pos q];exact r.repl k ry
 ·rw [if_neg q,if_neg q];exact Paired.snoc r ⟨rfl,hb,ry⟩
theorem KT.keeps {H H':Hp} {kvs:List (List Key×V)} {xs:List (List Key×Addr×Value)} (r:KT H kvs xs) (ht:∀ b ys,H b=some (.tup ys)->H' b=some (.tup ys)):KT H' kvs xs :=
 Paired.mapP r fun _ _ z=>⟨z.1,ht _ _ z.2.1,z.2.2⟩
section
variable {P:Program} {w:World} {H:Hp} {h:Heap} {a:Addr}
theorem Z7p {u:HO} (ok:HOk P w H h) (e:Rd H a u):Wf P w H h a u:=e.ok ok
theorem Z8s {kvs:List (Key×V)} (ok:HOk P w H h) (e:Rd H a (.dK kvs)):kvs.length<=sizeLine/\(a==sysModules)=false/\∃ vs,KV kvs vs/\h.DictOf (Vg P w) a vs :=
 show Wf P w H h a (.dK kvs) from Z7p ok e
theorem Zc3 {kvs:List (Key×V)} (ok:HOk P w H h) (e:H a=some (.dK kvs)):kvs.length<=sizeLine/\(a==sysModules)=false/\∃ vs,KV kvs vs/\h.DictOf (Vg P w) a vs:=Z8s ok (.inl e)
theorem Pj {ks:List Key} (ok:HOk P w H h) (e:H a=some (.tup (ks.map kV))):(tupleKind (Vg P w)).is h ks a:=by
 obtain ⟨_,its,r,o,h1,h2,n,h3⟩:=(show Wf P w H h a (.tup (ks.map kV)) from ok a _ e);exact ⟨o,its.toArray,n,h1,h2,h3,by simpa using Ku r⟩
theorem Z7g {kvs:List (List Key×V)} (ok:HOk P w H h) (e:Rd H a (.dT kvs)):kvs.length<=sizeLine/\(a==sysModules)=false /\
  ∃ xs,KT H kvs xs/\h.DictOfH (tupleKind (Vg P w)) a xs:=by
 obtain ⟨z,y,xs,r,o,es,ep,h1,h2,h3,h4,h5⟩:=(show Wf P w H h a (.dT kvs) from Z7p ok e);refine ⟨z,y,xs,r,o,es,ep,h1,h2,h3,h4,fun x hx=>?_,h5⟩;have all:∀ {l:List (List Key×V)} {m:List (List Key×Addr×Value)},KT H l m->∀ x∈m,(tupleKind (Vg P w)).is h x.1 x.2.1:=by
  intro l m q;induction q with
  | nil=>intro x hx;exact nomatch hx
  | @cons p q ps qs hq t ih =>
   intro x hx;rcases mem_cons.mp hx with e | hx
   ·subst e
    exact Pj ok (by rw [← hq.1];exact hq.2.1)
   ·exact ih x hx
 exact all r x hx
theorem Z7y {kvs:List (List Key×V)} (ok:HOk P w H h) (e:H a=some (.dT kvs)):kvs.length<=sizeLine/\(a==sysModules)=false /\
 ∃ xs,KT H kvs xs/\h.DictOfH (tupleKind (Vg P w)) a xs:=Z7g ok (.inl e)
end
def Z9o (H:Hp) (a:Addr) (y:V) (r:Option V):Prop :=
 (∃ kvs k,Rd H a (.dK kvs)/\y=kV k/\r=N7 kvs k)\/∃ kvs k b,Rd H a (.dT kvs)/\y=.ref b/\H b=some (.tup (k.map kV))/\r=N7 kvs k
def Z7o (H:Hp) (a:Addr) (y v:V) (H':Hp):Prop :=
 (∃ kvs k,H a=some (.dK kvs)/\y=kV k/\kvs.length<sizeLine/\H'=upd H a (.dK (Pb kvs k v))) \/
 ∃ kvs k b,H a=some (.dT kvs)/\y=.ref b/\H b=some (.tup (k.map kV))/\kvs.length<sizeLine/\H'=upd H a (.dT (Pb kvs k v))
theorem Z9o.t {H:Hp} {a b:Addr} {kvs:List (List Key×V)} {k:List Key} (e:H a=some (.dT kvs)) (eb:H b=some (.tup (k.map kV))):Z9o H a (.ref b) (N7 kvs k):=.inr ⟨kvs,k,b,.inl e,rfl,eb,rfl⟩
theorem Z7o.t {H:Hp} {a b:Addr} {kvs:List (List Key×V)} {k:List Key} {v:V} (e:H a=some (.dT kvs)) (eb:H b=some (.tup (k.map kV))) (hl:kvs.length<sizeLine) :
 Z7o H a (.ref b) v (upd H a (.dT (Pb kvs k v))):=.inr ⟨kvs,k,b,e,rfl,eb,hl,rfl⟩
section
variable {X:Cx} {pins:List (Addr×Obj)} {σ:St} {H:Hp} {s:Shared} {a:Addr} {y v:V} {u r:Value} {o:Option V} {A:Around} {E:Value->Shared->Prop}
theorem Inv.big (I:Inv X pins σ H s):sysModules<s.heap.objs.size:=by
 have h:mainGlobals<s.heap.objs.size:=(I.mod.glob.keeps I.bk).lt;exact Nat.lt_trans (by decide) h
theorem Ze1 {Q:Value->Shared->Prop} (hu:A.units+1<cLine) (I:Inv X pins σ H s) (g:Z9o H a y o) (ry:Vf y u) (h:∀ s',Inv X pins σ H s'->Q (.bool o.isSome) s') :
  wpAny (model X.prog X.w) A (compareOp .In u (.ref a)) Q E s:=by
 rcases g with ⟨kvs,k,e,ey,l⟩ | ⟨kvs,k,b,e,ey,eb,l⟩
 ·subst ey
  obtain ⟨z,hd,vs,rel,dd⟩:=Z8s I.hok e;refine wpAny_in_of (Z66 ry) hd dd.mapOf ?_;rw [← (rel.val k).isSome_eq,← l];exact h _ (I.tok _)
 ·subst ey
  cases (show u=Value.ref b from ry);obtain ⟨z,hd,xs,rel,dd⟩:=Z7g I.hok e;refine wpAny_in_heap (tupleKind_room_in1 hu) (Pj I.hok eb) hd dd ?_;have q:=(rel.val k).isSome_eq;rw [Option.isSome_map] at q;rw [← q,← l];exact h _ (I.tok _)
theorem Nl {h':Heap} {t':Nat} {ob:HO} (I:Inv X pins σ H s) (mu:Mut (H a)) (hs:SameBut a s.heap h') (he:∃ q,h'.get? a=some q) (new:Wf X.prog X.w (upd H a ob) h' a ob) :
  Inv X pins σ (upd H a ob) { s with heap:=h',toks:=t' } :=
 I.write (x:=a) (e:=a) mu (.inl rfl) (fun b q hb z=>(hs.2 b hb).trans z) he new
theorem Z87 {P:Program} {w:World} {H':Hp} {h':Heap} {kvs:List (Key×V)} {vs:List (Key×Value)} (z:kvs.length<=sizeLine) (hd:(a==sysModules)=false) (rel:KV kvs vs) (dd:h'.DictOf (Vg P w) a vs) :
 Wf P w H' h' a (.dK kvs):=⟨z,hd,vs,rel,dd⟩
theorem B9 {H':Hp} {Q:Unit->Shared->Prop} (hu:A.units+1<cLine) (I:Inv X pins σ H s) (g:Z7o H a y v H') (ry:Vf y u) (rv:Vf v r) (h:∀ s',Inv X pins σ H' s'->Q () s') :
  wpAny (model X.prog X.w) A (setItem (.ref a) u r) Q E s:=by
 rcases g with ⟨kvs,k,e,ey,l,eH⟩ | ⟨kvs,k,b,e,ey,eb,l,eH⟩
 ·subst ey eH
  obtain ⟨z,hd,vs,rel,dd⟩:=Zc3 I.hok e;have hz:vs.length<=sizeLine:=by rw [← rel.length];exact z
  have hl:(Pb kvs k v).length<=sizeLine:=by have:=E3 kvs k v;lia
  refine wpAny_setItem_pairs (hsz:=hz) (Z66 ry) dd fun h' dd' hs=>h _ ?_
  have he:∃ q,h'.get? a=some q:=let ⟨q,_,_,hq,_⟩:=dd';⟨q,hq⟩
  exact Nl I (by rw [e];exact True.intro) hs he (Z87 hl hd (rel.put k rv) dd')
 ·subst ey eH
  cases (show u=Value.ref b from ry);obtain ⟨z,hd,xs,rel,dd⟩:=Z7y I.hok e;have hz:xs.length<=sizeLine:=by rw [← Paired.length rel];exact z
  have hl:(Pb kvs k v).length<=sizeLine:=by have:=E3 kvs k v;lia
  refine wpAny_setItem_heap (hsz:=hz) (tupleKind_room_in1 hu) (Pj I.hok eb) dd fun h' dd' hs=>h _ ?_
  obtain ⟨q,es,ep,hq,h2,h3,h4,_,h5⟩:=dd';refine Nl I (by rw [e];exact True.intro) hs ⟨q,hq⟩ ⟨hl,hd,_,(rel.put k eb rv).keeps fun c ys ec=>?_,q,es,ep,hq,h2,h3,h4,h5⟩;rw [Zg (Z7j ec e (fun z=>nomatch z))];exact ec
end
section
variable {X:Cx} {pins:List (Addr×Obj)} {σ:St} {H:Hp} {s:Shared} {a:Addr} {kvs:List (Key×V)} {k:Key} {u:Value} {A:Around} {E:Value->Shared->Prop}
end
def Zdj (ty td:TE):TE:=fun σ H Q=>ty σ H fun y H1=>td σ H1 fun x H2=>∃ a o,x=.ref a/\Z9o H2 a y o/\Q (.bl o.isSome) H2
def Zb6 (td ty tv:TE):TS:=fun D σ H=>tv σ H fun v H1=>td σ H1 fun x H2=>ty σ H2 fun y H3=>∃ a H4,x=.ref a/\Z7o H3 a y v H4/\D.nx σ H4
section
variable {X:Cx} {o i e value:Expr} {pos pos' tpos:Pos} {td ty tv:TE}
theorem Z8x (hu:X.A.units+1<cLine) (hi:PE X i ty) (ho:PE X o td):PC X .In i o (Zdj ty td):=by
 intro pins s σ H Q I h;refine thn (hi pins s σ H _ I h) fun iv s1 ⟨y,H1,I1,ry,q1⟩=>thn (ho pins s1 σ H1 _ I1 q1) fun u s2 ⟨x,H2,I2,rx,a,ov,ex,g,q2⟩=>?_
 subst ex;obtain rfl:u=Value.ref a:=rx;exact Ze1 hu I2 g ry fun s3 I3=>⟨.bl ov.isSome,H2,I3,rfl,q2⟩
theorem Z6c (hu:X.A.units+1<cLine) (ho:PE X o td) (hi:PE X i ty) (hv:PE X value tv) (hs:swapsWith value (some (.Subscript o i pos')) pos.line X.env=pure false) :
  PS X (.Assign [.Subscript o i pos'] value pos) (Zb6 td ty tv):=by
 intro pins s σ H D I h;refine wpAny_Assign_Subscript (thn (hv pins s σ H _ I h) fun r s1 ⟨v,H1,I1,rv,q1⟩=>thn (ho pins s1 σ H1 _ I1 q1) fun u s2 ⟨x,H2,I2,rx,q2⟩=>thn (hi pins s2 σ H2 _ I2 q2) fun iv s3 ⟨y,H3,I3,ry,a,H4,ex,g,q3⟩=>?_) hs;subst ex;obtain rfl:u=Value.ref a:=rx;exact B9 hu I3 g ry rv fun s4 I4=>⟨σ,H4,I4,q3⟩
end
theorem Z1d {P:Program} {w:World} {H:Hp} (h:Heap) (hb:sysModules<h.objs.size):Wf P w H (h.push { cls:=.type "dict",data:=.dict #[] }) h.objs.size (.dT []) :=
 ⟨zero_le _,beq_eq_false_iff_ne.mpr (Ne.symm (ne_of_lt hb)),[],.nil,_,#[],0,get?_push_size _ rfl,⟨rfl,rfl,rfl⟩,rfl,rfl,nodup_nil⟩
section
variable {X:Cx} {pos:Pos}
end
section
variable {X:Cx} {pins:List (Addr×Obj)} {σ:St} {H:Hp} {s:Shared} {a:Addr} {y d:V} {u r:Value} {o:Option V} {A:Around} {E:Value->Shared->Prop}
end
section
variable {X:Cx} {o e f:Expr} {apos cpos:Pos} {td ty tx:TE}
end
section
variable {X:Cx} {pins:List (Addr×Obj)} {σ:St} {H:Hp} {s:Shared} {a:Addr} {kvs:List (Key×V)} {A:Around} {E:Value->Shared->Prop}
end
section
variable {X:Cx} {pins:List (Addr×Obj)} {σ:St} {H:Hp} {s:Shared} {a:Addr} {y:V} {u:Value} {A:Around} {E:Value->Shared->Prop}
end
end L2
namespace Att
open PySem PySem.W PySem.Calls PyProof.Rows
section
variable {prog:Program} {w:World} {A:Around} {E:Value->Shared->Prop} {s:Shared} {K:Frag}
end
end Att
namespace L2
open PySem PySem.Spec PyProof.Rows
section
variable {P:Program} {w:World} {K:PySem.W.Frag} {mg:Str->Option Value} {base:Heap}
end
section
variable {X:Cx}
end
section
variable {κ:Type} [DecidableEq κ]
end
def Z6n:Dat->Option (List Key)
 | .tup [.int a,.int b]=>some [.inl a,.inl b]
 | _=>none
theorem Od {K:PySem.W.Frag} {A:AS} {H:Hp} {d:Dat} {v:V} {ks:List Key} (e:Z6n d=some ks) (r:Pk K A H d v):∃ p,v=.ref p/\H p=some (.tup (ks.map kV)):=by
 unfold Z6n at e;split at e
 ·rename_i a b
  cases e;obtain ⟨p,vs,e1,h1,r1⟩:=r.tup;have ev:vs=[.int a,.int b]:=Vk (ns:=[a,b]) r1;subst ev;rcases h1 with h1 | ⟨_,_,_,_,_,_,_,_,h2⟩
  ·exact ⟨p,e1,h1⟩
  ·exact absurd mem_cons_self (h2 a)
 ·cases e
def N0 (kvs:List (List Key×Dat)) (ks:List Key):Bool:=(kvs.map (·.1)).any fun x=>decide (x=ks)
theorem Os {us:List (List Key×V)} {k:List Key}:(N7 us k).isSome=(us.map (·.1)).any fun x=>decide (x=k):=by
 rw [any_map,← Dn];congr 1
section
variable {X:Cx} {pos:Pos} {e:Expr} {f g:Ev->Option Dat} {m fr:Bool}
def Z8m (neg:Bool) (i:Nat) (f:Ev->Option Dat):Ev->Option Dat:=fun env=>match env[i]?,f env with
 | some (.gx (.dict kvs)),some d=>(Z6n d).map fun ks=>.bl (if neg then !N0 kvs ks else N0 kvs ks)
 | _,_=>none
theorem EnvOk.dictA {K:PySem.W.Frag} {B:Bs} {A:AS} {H:Hp} {σ:St} {env:Ev} {i:Nat} {kvs:List (List Key×Dat)} (k:EnvOk K B A H σ env) (h:env[i]?=some (.gx (.dict kvs))) :
  ∃ (a:Addr) (us:List (List Key×V)),σ[i]?=some (some (.ref a))/\H a=some (.dT us)/\us.map (·.1)=kvs.map (·.1):=by
 obtain ⟨own,h1,h2,h4⟩:=k.sl;obtain ⟨x,q1,v,e1,a,us,e2,e3,e4,e5,e6,e7⟩:=h4 i _ h;subst e1 e2;exact ⟨a,us,q1,e5,e6⟩
def La (i:Nat) (fk fv:Ev->Option Dat):Ev->Fl:=fun env=>match env[i]?,fv env,fk env with
 | some (.gx (.dict kvs)),some d,some y=>match Z6n y with
  | some ks=>if N0 kvs ks=false/\kvs.length<sizeLine then .next (env.set i (.gx (.dict (kvs++[(ks,d)])))) else .no
  | none=>.no
 | _,_,_=>.no
theorem Z76 (i:Nat) {x:Str} {ix:Expr} {p pos':Pos} (hu:X.A.units+1<cLine) (ha:PXd true X ix f) (hb:PXd false X e g)
  (hN:X.N[i]?=some x:=by rfl) (hv:Vis X.env.scope x:=by first | exact Or.inl rfl | exact Or.inr (Or.inl rfl) | exact Or.inr (Or.inr rfl)) (hd:(x==("__debug__" : Str))=false:=by decide) (hcd:(x==("__classdict__" : Str))=false:=by decide)
  (hs:swapsWith e (some (.Subscript (.Name x p) ix pos')) pos.line X.env=pure false:=by rfl) :
  PSd fr X (.Assign [.Subscript (.Name x p) ix pos'] e pos) (La i f g):=(Z6c hu (Mw hN hv hd hcd) ha hb hs).weak fun D σ H zz=>by
 obtain ⟨env,B,A,k,hst,q⟩:=zz;unfold La at q;split at q
 ·rename_i kvs d y h1 h2 h3
  split at q
  ·rename_i ks hk
   split at q
   ·rename_i hc
    obtain ⟨a,us,s1,s2,s3⟩:=k.dictA h1;refine ⟨env,B,A,d,k,h2,fun v H1 sm1 r1=>⟨.ref a,s1,env,B,A,y,k.mono sm1,h3,fun u H2 sm2 r2=>?_⟩⟩;obtain ⟨b,e4,e5⟩:=Od hk r2.pk;subst e4;have sm:=sm1.trans sm2;have k3:=k.mono sm;obtain ⟨v0,o,m1,m2,m3,m4⟩:=k3.gx hst h1;rw [s1] at m1;cases m1;obtain ⟨a',us',z1,z2,z3,z4,z5,z6⟩:=m2;cases z1;have eus:us'=us:=by
     have:=sm _ _ s2;rw [z4] at this;exact HO.dT.inj (Option.some.inj this)
    subst eus;have hno:N7 us' ks=none:=by
     have:=Os (us:=us') (k:=ks);rw [s3] at this;have h9:N0 kvs ks=false:=hc.1;unfold N0 at h9;rw [h9] at this;cases h8:N7 us' ks with
     | none=>rfl
     | some _=>rw [h8] at this;cases this
    have hul:us'.length=kvs.length:=by have:=congrArg List.length s3;rwa [length_map,length_map] at this
    have ep:Pb us' ks v=us'++[(ks,v)]:=Z1s v hno;refine ⟨a,upd H2 a (.dT (us'++[(ks,v)])),rfl,by rw [← ep];exact Z7o.t (sm _ _ s2) e5 (by rw [hul];exact hc.2),?_⟩;have hA:A a=true:=(m3 a z2).1;have avs:Yj (av H2 A) (av (upd H2 a (.dT (us'++[(ks,v)]))) A):=fun c o2 ec=>by
     obtain ⟨y1,y2⟩:=Rg ec;have hc:c≠a:=by intro z;rw [z,hA] at y1;cases y1
     exact Qe (by rw [Zg hc];exact y2) y1
    have hg:GOk X.K A (upd H2 a (.dT (us'++[(ks,v)]))) o (.dict (kvs++[(ks,d)])) (.ref a):=by
     refine ⟨a,us'++[(ks,v)],rfl,z2,by rw [length_append];exact hc.2,Zu,by rw [map_append,map_append,s3];rfl,?_⟩;rw [map_append,map_append];exact Wm (z6.mono avs) (M2 ((Rp.mono (Vd sm2) (show Rp X.K (av H1 A) d v from r1)).mono avs))
    obtain ⟨w1,w2⟩:=m4 a (.dT (us'++[(ks,v)])) _ z2 trivial hg;exact q A _ σ ((Step.same sm).trans w1) w2
   ·exact q.elim
  ·exact q.elim
 ·exact q.elim
def Z9l (tk tv:TE):TE:=fun σ H Q=>∀ p,H p=none->tk σ (upd H p (.dT [])) fun y H1=>tv σ H1 fun x H2=>H2 p=some (.dT [])/\∃ ks b,y=.ref b/\H2 b=some (.tup (ks.map kV))/\Q (.ref p) (upd H2 p (.dT [(ks,x)]))
theorem Fo {prog:Program} {w:World} {A:Around} {E:Value->Shared->Prop} {s:Shared} {env:Env} {K:Type} [DecidableEq K] {knd:HeapKind prog w K} {k v:Expr} {pos:Pos} {Q:Value->Shared->Prop}
  (h:wpAny (model prog w) A (evalPairs (pairTrees [some k] [v] env pos)) (fun vs s₁=>∃ b x ks,vs=[(.ref b,x)]/\knd.room A/\knd.is s₁.heap ks b/\s₁.heap.DictOfH knd s.heap.objs.size [] /\
   ∀ h',h'.DictOfH knd s.heap.objs.size (storedH [] ks b x)->SameBut s.heap.objs.size s₁.heap h'->Q (.ref s.heap.objs.size) { s₁ with heap:=h',toks:=s₁.toks+knd.draws ks }) E
   { s with heap:=s.heap.push { cls:=.type "dict",data:=.dict #[] } }) :
  wpAny (model prog w) A (eval (.Dict [some k] [v] pos) env) Q E s:=by
 rw [arm_eval_Dict,zip_pairTrees [some k] [v] env pos rfl rfl,dictDisplay_pairs (pairTrees [some k] [v] env pos) (by simp [pairTrees]) (by simp [pairTrees])];refine wpAny_bind (wpAny_standAt (wpAny_bind ?_));unfold subDict;refine wpAny_bind (wpAny_alloc ?_);refine wpAny_bind (wpAny_holding ?_);rw [if_pos (by simp [pairTrees])];refine wpAny_bind (wpAny_mono h (fun vs s₁ h₁=>?_) fun _ _ e=>e);obtain ⟨b,x,ks,rfl,hr,hk,hm,hq⟩:=h₁;refine wpAny_holding ?_;rw [List.forIn_cons];refine wpAny_bind (wpAny_bind (wpAny_bind (wpAny_dictSet_heap hr hk hm (fun h' a c=>wpAny_pure ?_) (zero_le _))));show wpAny _ _ (forIn ([]:List (Value×Value)) PUnit.unit _) _ _ _;rw [List.forIn_nil];exact wpAny_pure (wpAny_pure (wpAny_pure (wpAny_pure (hq h' a c))))
theorem Z1g {k v:Expr} {tk tv:TE} (hu:X.A.units+1<cLine) (hk:PE X k tk) (hv:PE X v tv):PE X (.Dict [some k] [v] pos) (Z9l tk tv):=by
 intro pins s σ H Q I q;have hn:=I.hok.fresh (le_refl s.heap.objs.size);have I1:=I.laid (a:=s.heap.objs.size) (o:=.dT []) (h':=s.heap.push { cls:=.type "dict",data:=.dict #[] }) (t':=s.toks) (fun _ _ q=>get?_push_of_some _ q) (le_refl _) (Z1d s.heap I.big);refine Fo (knd:=tupleKind (Vg X.prog X.w)) (pairTrees_cons_walk (thn (hk pins _ σ _ _ I1 (q _ hn)) fun u s1 ⟨y,H1,I2,ry,q1⟩=>thn (hv pins s1 σ H1 _ I2 q1) fun u2 s2 ⟨x,H2,I3,rx,q2⟩=>pairTrees_nil_walk ?_));obtain ⟨hp,ks,b,ey,eb,q3⟩:=q2;subst ey;cases (show u=Value.ref b from ry);obtain ⟨z,hd,xs,rel,dd⟩:=Z7y I3.hok hp;cases rel;refine ⟨b,u2,ks,rfl,(show X.A.units<cLine by lia),Pj I3.hok eb,dd,fun h' dd' hs=>⟨.ref s.heap.objs.size,_,?_,rfl,q3⟩⟩;obtain ⟨q,es,ep,hq,h2,h3,h4,_,h5⟩:=dd';have r1:=(KT.put (H:=H2) (kvs:=[]) (xs:=[]) .nil ks eb rx);refine Nl I3 (by rw [hp];exact True.intro) hs ⟨q,hq⟩ ⟨by show 1<=sizeLine;decide,hd,_,r1.keeps fun c ys ec=>?_,q,es,ep,hq,h2,h3,h4,h5⟩;rw [Zg (Z7j ec hp (fun z=>nomatch z))];exact ec
def Cs (i:Nat) (fk fv:Ev->Option Dat):Ev->Fl:=fun env=>match fk env,fv env with
 | some y,some (.bl d)=>match Z6n y with
  | some ks=>.next (env.set i (.gx (.dict [(ks,.bl d)])))
  | none=>.no
 | _,_=>.no
theorem Z89 (i:Nat) {x:Str} {kx:Expr} {pos' dpos:Pos} (hN:X.N.Nodup) (hi:X.N[i]?=some x) (hx:Loc X.env.scope x) (hu:X.A.units+1<cLine) (ha:PXd true X kx f) (hb:PXd false X e g)
  (hs:swapsWith (.Dict [some kx] [e] dpos) (some (.Name x pos')) pos.line X.env=pure false:=by rfl)
  (hf:X.fn x=true\/X.env.scope.names.lookup x=some .local:=by first | exact .inl rfl | exact .inr rfl | assumption) :
  PSd fr X (.Assign [.Name x pos'] (.Dict [some kx] [e] dpos) pos) (Cs i f g):=(X0 hN hi hx (Z1g hu ha hb) hs hf).weak fun D σ H zz=>by
 obtain ⟨env,B,A,k,hst,q⟩:=zz;unfold Cs at q;split at q
 ·rename_i y d h1 h2
  split at q
  ·rename_i ks hk
   intro p hp;have sm0:Yj H (upd H p (.dT [])):=Yj.new hp;refine ⟨env,B,A,y,k.mono sm0,h1,fun u H1 sm1 r1=>⟨env,B,A,.bl d,(k.mono sm0).mono sm1,h2,fun v H2 sm2 r2=>⟨sm2 _ _ (sm1 _ _ Zu),?_⟩⟩⟩;obtain ⟨b,e4,e5⟩:=Od hk r1.pk;refine ⟨ks,b,e4,sm2 _ _ e5,?_⟩;have smH:Yj H (upd H2 p (.dT [(ks,v)])):=fun c o ec=>by
    rw [Zg (fun z=>by rw [z,hp] at ec;cases ec)];exact sm2 _ _ (sm1 _ _ (sm0 _ _ ec))
   have h9:=k.putG hst i (g:=.dict [(ks,.bl d)]) (v:=.ref p) (S:=fun b=>decide (b=p)) smH (fun b hb=>by rw [of_decide_eq_true hb];exact hp) (fun b hb=>by rw [of_decide_eq_true hb,Zu];trivial) ⟨p,[(ks,v)],rfl,by simp,by show 1<=sizeLine;decide,Zu,rfl,M2 ?_⟩
   ·exact q _ _ _ h9.1 h9.2
   ·rw [(show Rp X.K (av H2 A) (.bl d) v from r2) |> Lo];exact Tp
  ·exact q.elim
 ·exact q.elim
end
end L2
namespace L2
open PySem PySem.Spec PyProof.Rows PySem.W
def Bi (g:Ev->Fl):Ev->Fl:=fun env=>match g env with
 | .exc _ _ _=>.no
 | r=>r
section
variable {X:Cx} {fr:Bool} {g:Ev->Fl} {body:List Stmt} {h₀:ExceptHandler} {hs:List ExceptHandler} {pos:Pos}
theorem Z5l (hb:∀ pn,PBd fr (X.inTry pn (fun _ _=>False)) body g):PSd fr X (.Try body (h₀::hs) [] [] pos) (Bi g):=by
 intro pins s σ H D I zz;obtain ⟨env,B,A,kk,hst,q⟩:=zz;have flok:Cr fr (X.inTry (X.pn++pins) (fun _ _=>False)) B A H D (g env):=by
  unfold Bi at q;cases eg:g env with
  | next e'=>rw [eg] at q;exact q
  | brk e'=>rw [eg] at q;exact q
  | cont e'=>rw [eg] at q;exact q
  | ret d=>rw [eg] at q;exact q
  | no=>rw [eg] at q;exact q
  | exc env' c fl=>rw [eg] at q;exact q.elim
 refine wpAny_Try_except (wpAny_mono (hb (X.pn++pins) [] s σ H D I.toTry ⟨env,B,A,kk,hst,flok⟩) (fun f s₁ hs=>?_) (fun e s₁ hx=>hx.elim));cases f with
 | next=>obtain ⟨σ',H',I',q'⟩:=hs;exact wpAny_pure ⟨σ',H',I'.ofTry I.ok,q'⟩
 | brk=>obtain ⟨σ',H',I',q'⟩:=hs;exact ⟨σ',H',I'.ofTry I.ok,q'⟩
 | cont=>obtain ⟨σ',H',I',q'⟩:=hs;exact ⟨σ',H',I'.ofTry I.ok,q'⟩
 | ret u=>obtain ⟨v,σ',H',I',r',q'⟩:=hs;exact ⟨v,σ',H',I'.ofTry I.ok,r',q'⟩
variable {e a b c:Expr} {f1 f2 f3:Ev->Option Dat} {F1 F2:Dat->Dat->Option Dat} {m1 m2 m3:Bool}
def Z6u (i:Nat) (f:Ev->Option Dat):Ev->Fl:=fun env=>match env[i]?,f env with
 | some (.fz (.int x)),some (.int y)=>.next (env.set i (.fz (.int (x+y))))
 | _,_=>.no
theorem Zbs (i:Nat) {x:Str} {pos':Pos} (hN:X.N.Nodup) (hi:X.N[i]?=some x) (hx:Loc X.env.scope x) (he:PXd m1 X e f1)
  (hf:X.fn x=true\/X.env.scope.names.lookup x=some .local:=by first | exact .inl rfl | exact .inr rfl | assumption):PSd fr X (.AugAssign (.Name x pos') .Add e pos) (Z6u i f1):=(Z9k hN hi hx he Z9d hf).weak fun D σ H zz=>by
 obtain ⟨env,B,A,k,hst,q⟩:=zz;unfold Z6u at q;split at q
 ·rename_i n m h1 h2
  obtain ⟨own,z1,z2,z4⟩:=k.sl;obtain ⟨w,q1,v,e1,e2⟩:=z4 i _ h1;subst e1;have ev:v=.int n:=D8 e2;subst ev;refine ⟨.int n,q1,env,B,A,.int m,k,h2,fun y H1 s1 r1=>?_⟩;refine ⟨n,m,rfl,r1.pk.int,?_⟩;exact q A H1 _ (Step.same s1) ((k.mono s1).put i Wb)
 ·exact q.elim
theorem Zdn (i:Nat) {x:Str} {p:Pos} (hu:X.A.units+1<cLine) (he:PXd true X e f1) (hN:X.N[i]?=some x:=by rfl) (hv:Vis X.env.scope x:=by first | exact Or.inl rfl | exact Or.inr (Or.inl rfl) | exact Or.inr (Or.inr rfl)) (hd:(x==("__debug__" : Str))=false:=by decide) (hcd:(x==("__classdict__" : Str))=false:=by decide)
  (hm:behindInMarks .In (.Name x p)=false:=by rfl):PTd X (.Compare e [.In] [.Name x p] pos) (dB (Z8m false i f1)):=(Z6z (Z8x hu he (Mw hN hv hd hcd)) hm).weak fun σ H Q zz=>by
 obtain ⟨env,R,A,d,k,e1,q⟩:=zz;have e1:=Hr e1;unfold Z8m at e1;split at e1
 ·rename_i kvs d0 h1 h2
  obtain ⟨ks,hk,e3⟩:=map_some e1;have e4:=Dat.bl.inj e3;subst e4;obtain ⟨a,us,s1,s2,s3⟩:=k.dictA h1;refine ⟨env,R,A,d0,k,h2,fun y H1 sm r1=>⟨.ref a,s1,a,N7 us ks,rfl,?_,_,rfl,?_⟩⟩
  ·obtain ⟨b,e4,e5⟩:=Od hk r1.pk
   subst e4;exact Z9o.t (sm _ _ s2) e5
  ·rw [Os,s3]
   exact q H1 sm
 ·cases e1
def Ov (F1 F2:Dat->Dat->Option Dat) (f1 f2 f3:Ev->Option Dat):Ev->Option Bool:=fun env=>(f1 env).bind fun x=>(f2 env).bind fun y=>match F1 x y with
 | some (.bl true)=>(f3 env).bind fun z=>match F2 y z with
  | some (.bl b)=>some b
  | _=>none
 | some (.bl false)=>some false
 | _=>none
theorem Z8c {o1 o2:CmpOp} (h1:OpD X (compareOp o1) F1) (h2:OpD X (compareOp o2) F2) (ha:PXd m1 X a f1) (hb:PXd m2 X b f2) (hc:PXd m3 X c f3) (hm:lastMarks [o1,o2] [b,c]=false:=by with_unfolding_all rfl) :
  PTd X (.Compare a [o1,o2] [b,c] pos) (Ov F1 F2 f1 f2 f3):=(Z2p h1 h2 ha hb hc hm).weak fun σ H Q zz=>by
 obtain ⟨env,R,A,d,k,q1,q2⟩:=zz;obtain ⟨x,e1,q1⟩:=bind_some q1;obtain ⟨y,e2,q1⟩:=bind_some q1;split at q1
 ·rename_i e3
  obtain ⟨z,e4,q1⟩:=bind_some q1;split at q1
  ·rename_i bb e5
   cases q1;refine ⟨env,R,A,x,k,e1,fun v H1 s1 p1=>⟨env,R,A,y,k.mono s1,e2,fun u H2 s2 p2=>⟨A,x,y,.bl true,k.mu.mono (s1.trans s2),e3,p1.pk.mono s2,p2.pk,fun w H3 s3 r3=>⟨true,r3.pk.bl,?_⟩⟩⟩⟩;rw [if_pos rfl];exact ⟨env,R,A,z,k.mono ((s1.trans s2).trans s3),e4,fun t H4 s4 p4=>⟨A,y,z,.bl _,k.mu.mono (((s1.trans s2).trans s3).trans s4),e5,p2.pk.mono (s3.trans s4),p4.pk,fun w2 H5 s5 r5=>⟨_,r5.pk.bl,q2 H5 ((((s1.trans s2).trans s3).trans s4).trans s5)⟩⟩⟩
  ·cases q1
 ·rename_i e3
  cases q1;refine ⟨env,R,A,x,k,e1,fun v H1 s1 p1=>⟨env,R,A,y,k.mono s1,e2,fun u H2 s2 p2=>⟨A,x,y,.bl false,k.mu.mono (s1.trans s2),e3,p1.pk.mono s2,p2.pk,fun w H3 s3 r3=>⟨false,r3.pk.bl,?_⟩⟩⟩⟩;rw [if_neg (by decide)];exact ⟨false,rfl,q2 H3 ((s1.trans s2).trans s3)⟩
 ·cases q1
end
end L2
namespace L2
open PySem PySem.Spec PyProof.Rows
section
variable {prog:Program} {w:World} {κ:Type} [DecidableEq κ] {kd:HeapKind prog w κ} {A:Around} {E:Value->Shared->Prop} {s:Shared}
end
section
variable {X:Cx} {pos:Pos} {m fr fr':Bool} {F:List Dat->Rs} {k:Nat} {ps:List Str} {e:Expr} {es:List Expr} {fs:Ev->Option (List Dat)} {p:Pos}
end
def T2:=@Zbm false
def Zj:=@xix true
def Z2:=@xv true
def Z3:=@Zc9 true
def Y4:=@Z3k true
def Zt {X:Cx}:=@Zcy X true
def Z8:=@xv false
def Zr:=@xix false
def Zz:=@Zc9 false
def Zi:=@xop false
def Zb:=@xop true
def Zl {X:Cx}:=@Zcy X false
def Y0:=@Zcj false
def Md:=@Zbj false
def Q4:=@Zcj true
def U1:=@xbl false
def Qx:=@Z3k false
def Yk:=@PNd.x true
def Wq:=@Zaj false
def W8:=@L9 true
end L2
namespace K42
open PySem PySem.Spec PyProof.Rows L2
abbrev N0_:List Str:=["_law_script","_law_first","_law_n","_law_many","_law_order_here","_law_size","_law_cell","_law_pairs","_law_w","_law_one","_law_two","_law_takes","_law_fills","_law_marks","_law_spots","_law_i","_law_j","_law_code","_law_seen","_law_steps","_law_d","_law_turn","_law_word_here","_law_wires"]
abbrev N1_:List Str:=["_law_script","_law_first","_law_many","_law_own","_law_word_here","_law_wires","_law_steps","_law_spots","_law_k","_law_cell","_law_chain","_law_back","_law_both","_law_last","_law_at","_law_deed","_law_fill"]
abbrev N2_:List Str:=["_law_script","_law_first","_law_most","_law_arrows_here","_law_cell","_law_graph_here","_law_more","_law_gone","_law_many","_law_k","_law_at","_law_kind"]
abbrev N3_:List Str:=["_law_graph_here","_law_at","_law_kind","_law_up","_law_word_here","_law_wires","_law_steps","_law_marks","_law_code","_law_low","_law_rows"]
abbrev N4_:List Str:=["_law_graph_here","_law_cell","_law_there","_law_step","_law_spot","_law_steps","_law_k","_law_wire","_law_up","_law_takes","_law_fills"]
abbrev N5_:List Str:=["_law_script","_law_first","_law_many","_law_size","_law_pairs","_law_k","_law_cell","_law_i","_law_j"]
abbrev N6_:List Str:=["_law_graph_here","_law_rows","_law_stands_there","_law_caught","_law_got","_law_one","_law_other"]
abbrev N7_:List Str:=["_law_cell","_law_k","_law_letters","_law_size","_law_at","_law_word_here","_law_j","_law_shift"]
abbrev N8_:List Str:=["_law_script","_law_first","_law_n","_law_order_here","_law_w","_law_cell","_law_at","_law_far"]
abbrev N9_:List Str:=["_law_graph_here","_law_stand","_law_k","_law_wire","_law_up","_law_takes","_law_fills"]
abbrev N10_:List Str:=["_law_script","_law_graph_here","_law_wire","_law_rows","_law_wires"]
abbrev N11_:List Str:=["_law_graph_here","_law_at","_law_kind","_law_up","_law_word_here"]
abbrev N12_:List Str:=["_law_graph_here","_law_stand","_law_wire","_law_k","_law_step"]
abbrev N13_:List Str:=["graph","most","found","pairs","n","stand","here","by","lost"]
abbrev N14_:List Str:=["_law_wire","_law_rise","_law_takes","_law_fills","_law_at"]
abbrev N15_:List Str:=["_law_script","_law_first","_law_most","_law_arrows_here"]
abbrev N16_:List Str:=["graph","most","found","seen","at","here","step","stand"]
abbrev N17_:List Str:=["_law_graph_here","_law_stand","_law_k","_law_takes"]
abbrev N18_:List Str:=["_law_graph_here","_law_steps","_law_stand","_law_k"]
abbrev N19_:List Str:=["_law_w","_law_word_here","_law_script","_law_first"]
abbrev N20_:List Str:=["_law_script","_law_first","_law_many","_law_size"]
abbrev N21_:List Str:=["graph","found","wires","wanted","told","n","m"]
abbrev N22_:List Str:=["_law_script","_law_first","_law_n","_law_many"]
abbrev N23_:List Str:=["_law_graph_here","_law_caught","_law_got","e"]
abbrev N24_:List Str:=["graph","stand","step","wire","left","fills"]
abbrev N25_:List Str:=["_law_j","_law_many","_law_own","_law_cell"]
abbrev N26_:List Str:=["_law_graph_here","_law_stand","_law_wire"]
abbrev N27_:List Str:=["_law_graph_here","_law_stand","_law_k"]
abbrev N28_:List Str:=["_law_k","_law_word_here","_law_many"]
abbrev N29_:List Str:=["_law_script","_law_first","_law_n"]
abbrev N30_:List Str:=["_law_pair","_law_one","_law_two"]
abbrev N31_:List Str:=["_law_graph_here","_law_steps"]
abbrev N32_:List Str:=["_law_graph_here","_law_cell"]
abbrev N33_:List Str:=["place","wire","one","other"]
abbrev N34_:List Str:=["graph","found","at","step"]
abbrev N35_:List Str:=["graph","stand","wire","up"]
abbrev N36_:List Str:=["self","one","other","wire"]
abbrev N37_:List Str:=["number","step","wire","up"]
abbrev N38_:List Str:=["_law_script","_law_first"]
abbrev N39_:List Str:=["_law_k","_law_word_here"]
abbrev N40_:List Str:=["graph","stand","wires"]
abbrev N41_:List Str:=["stand","graph","wires"]
abbrev N42_:List Str:=["graph","stand","step"]
abbrev N43_:List Str:=["graph","stand","wire"]
abbrev N44_:List Str:=["_law_script","_law_k"]
abbrev N45_:List Str:=["step","graph","stand"]
abbrev N46_:List Str:=["wire","graph","stand"]
abbrev N47_:List Str:=["wires","one","other"]
abbrev N48_:List Str:=["_law_k","_law_pairs"]
abbrev N49_:List Str:=["_law_p","_law_there"]
abbrev N50_:List Str:=["_law_cell","_law_k"]
abbrev N51_:List Str:=["graph","wire","up"]
abbrev N52_:List Str:=["graph","by","lost"]
abbrev N53_:List Str:=["_law_graph_here"]
abbrev N54_:List Str:=["number","place"]
abbrev N55_:List Str:=["graph","stand"]
abbrev N56_:List Str:=["graph","found"]
abbrev N57_:List Str:=["graph","wire"]
abbrev N58_:List Str:=["graph","step"]
abbrev N59_:List Str:=["graph","most"]
abbrev N60_:List Str:=["_law_script"]
abbrev N61_:List Str:=["found","n"]
abbrev N62_:List Str:=["_law_some"]
abbrev N63_:List Str:=["_law_wire"]
abbrev N64_:List Str:=["Clash"]
abbrev N65_:List Str:=["graph"]
def Qr:Ev->Fl:=(U4 (dO eqF (dO ixD (dO ixD (dO ixD (dV 0) (dC (.int 0))) (dV 1)) (dC (.int 1))) (dC (.str "made"))))
def Ut:List Dat->Rs:=U0 2 2 Qr
def Hd:Ev->Fl:=(U4 (dL (Tk (Tz (Z4 (dF Rq (Z4 (dO ixD (dV 0) (dC (.int 0))) Zk)) Zk)) [none,some 0] (Yu 0) (dT (Yo Ut (Z4 (dV 1) (Z4 (dV 0) Zk)))) (dV 0))))
def X6:List Dat->Rs:=U0 1 1 Hd
def Tc:Ev->Fl:=(U4 (dL (Tk (O9 (dO ixD (dV 0) (dC (.int 1)))) [none,none,some 1,some 2] (Kf 2 (Y9 (Yu 0) (Y9 (Yu 1) Ju))) (Ia (dB (dO eqF (dO ixD (dV 1) (dC (.int 0))) (dV 2))) (dB (dO eqF (dO ixD (dV 1) (dC (.int 1))) (dV 3)))) (dV 0))))
def Mh:List Dat->Rs:=U0 3 3 Tc
def J6:Ev->Fl:=(U4 (dO ixD (dO ixD (dO ixD (dV 0) (dC (.int 1))) (dV 1)) (dC (.int 0))))
def Tl:List Dat->Rs:=U0 2 2 J6
def J7:Ev->Fl:=(U4 (dO ixD (dO ixD (dO ixD (dV 0) (dC (.int 1))) (dV 1)) (dC (.int 1))))
def Rn:List Dat->Rs:=U0 2 2 J7
def Te:Ev->Fl:=(U4 (dO ixD (dO ixD (dO ixD (dV 0) (dC (.int 1))) (dV 1)) (dC (.int 2))))
def V1:List Dat->Rs:=U0 2 2 Te
def Ta:Ev->Fl:=(U4 (dO ixD (dO ixD (dO ixD (dV 0) (dC (.int 1))) (dV 1)) (dC (.int 3))))
def Tg:List Dat->Rs:=U0 2 2 Ta
def Gm:Ev->Fl:=(Zc (Yg 1 (dC (.int 0)))
 (Zc (Sa (Rv (dV 0)) (Yu 2) (Yg 1 (dO orD (dV 1) (dO N9 (dC (.int 1)) (dV 2)))))
 (U4 (dV 1))))
def M3:List Dat->Rs:=U0 3 1 Gm
def Qk:Ev->Fl:=(U4 (dO eqF (dO Nf (dO Z13 (dV 0) (dV 1)) (dC (.int 1))) (dC (.int 1))))
def Rr:List Dat->Rs:=U0 2 2 Qk
def A9:Ev->Fl:=(Zc (Yg 3 (Yo M3 (Z4 (Yo V1 (Z4 (dV 0) (Z4 (dV 2) Zk))) Zk)))
 (U4 (dO eqF (dO Nf (dO ixD (dV 1) (dC (.int 0))) (dV 3)) (dV 3))))
def Lm:List Dat->Rs:=U0 4 3 A9
def Me:Ev->Fl:=(Zc (Yg 3 (Yo Tl (Z4 (dV 0) (Z4 (dV 2) Zk))))
 (Zc (sIf (dB (dO eqF (Yo Rr (Z4 (dO ixD (dV 1) (dC (.int 1))) (Z4 (dV 3) Zk))) (Yo Rn (Z4 (dV 0) (Z4 (dV 2) Zk))))) sNo Mt)
 (Zc (Yg 4 (dO Nf (dO ixD (dV 1) (dC (.int 0))) (dU Zak (Yo M3 (Z4 (Yo V1 (Z4 (dV 0) (Z4 (dV 2) Zk))) Zk)))))
 (Zc (Yg 5 (Yo M3 (Z4 (Yo Tg (Z4 (dV 0) (Z4 (dV 2) Zk))) Zk)))
 (Zc (sIf (dB (dO neF (dO Nf (dV 4) (dV 5)) (dC (.int 0)))) sNo Mt)
 (U4 (Uj (Z4 (dO orD (dV 4) (dV 5)) (Z4 (dO Z6m (dO ixD (dV 1) (dC (.int 1))) (dO N9 (dC (.int 1)) (dV 3))) Zk)))))))))
def Dj:List Dat->Rs:=U0 6 3 Me
def Tf:Ev->Fl:=(U4 (dL (Tk (Tz (Z4 (dF Rq (Z4 (dO ixD (dV 0) (dC (.int 1))) Zk)) Zk)) [none,some 0,some 1] (Yu 0) (dT (Yo Lm (Z4 (dV 1) (Z4 (dV 2) (Z4 (dV 0) Zk))))) (dV 0))))
def Td:List Dat->Rs:=U0 2 2 Tf
def Xc:Ev->Fl:=(Zc (N8 2 (Ef Zk))
 (Zc (Yg 3 (dV 1))
 (Zc (Ea (dB (dO Zbh (dO ixD (dO ixD (dV 0) (dV 3)) (dC (.int 2))) (dC .non))) (Zc (Ms 2 Vl (Z4 (dO ixD (dO ixD (dV 0) (dV 3)) (dC (.int 3))) Zk))
 (Yg 3 (dO ixD (dO ixD (dV 0) (dV 3)) (dC (.int 2))))))
 (U4 (dL (dLR (Z4 (dP 2) Zk)))))))
def Ge:List Dat->Rs:=U0 4 2 Xc
def Qw:Ev->Fl:=(Bi (U4 (Yo Dj (Z4 (dV 0) (Z4 (dS slX (dO ixD (dV 1) (dV 2)) M0 (Qz (dC (.int 2)))) (Z4 (dV 3) Zk))))))
def Ry:List Dat->Rs:=U0 4 4 Qw
def Mg:Ev->Fl:=(Zc (N8 2 (Ef (Z4 (Uj (Z4 (dO ixD (dV 0) (dC (.int 2))) (Z4 (dO ixD (dV 0) (dC (.int 3))) (Z4 (dC .non) (Z4 (dC .non) Zk))))) Zk)))
 (Zc (Cs 3 (Uj (Z4 (dO ixD (dV 0) (dC (.int 2))) (Z4 (dO ixD (dV 0) (dC (.int 3))) Zk))) (dC (.bl true)))
 (Zc (Yg 4 (dC (.int 0)))
 (Zc (Ea (dB (dO ltD (dV 4) (dF Rq (Z4 (dP 2) Zk)))) (Zc (Yg 5 (Yo Td (Z4 (dV 0) (Z4 (dS slX (dO ixD (dP 2) (dV 4)) M0 (Qz (dC (.int 2)))) Zk))))
 (Zc (Sa (Rv (dV 5)) (Yu 6) (Zc (Yg 7 (Z21 Ry (Z4 (dV 0) (Z4 (dP 2) (Z4 (dV 4) (Z4 (dV 6) Zk))))))
 (Zc (sIf (dB (Z8m false 3 (dV 7))) (fun env=>.cont env) Mt)
 (Zc (sIf (dB (dO geD (dF Rq (Z4 (dP 2) Zk)) (dV 1))) sNo Mt)
 (Zc (La 3 (dV 7) (dC (.bl true)))
 (Ms 2 Vl (Z4 (Uj (Z4 (dO ixD (dV 7) (dC (.int 0))) (Z4 (dO ixD (dV 7) (dC (.int 1))) (Z4 (dV 4) (Z4 (dV 6) Zk))))) Zk)))))))
 (Z6u 4 (dC (.int 1))))))
 (K2 2)))))
def Rt:List Dat->Rs:=U0 8 2 Mg
def Ug:Ev->Fl:=(U4 (dF Z6h (Z4 (dL (Tk (Rv (Yo Mh (Z4 (dV 0) (Z4 (dV 2) (Z4 (dV 3) Zk))))) [none,some 0,some 1] (Yu 0) Ub (Yo Lm (Z4 (dV 1) (Z4 (dV 2) (Z4 (dV 0) Zk)))))) Zk)))
def Tn:List Dat->Rs:=U0 4 4 Ug
def Sv:Ev->Fl:=(Zc (sIf (dT (Yo Tn (Z4 (dV 0) (Z4 (dV 1) (Z4 (dV 2) (Z4 (dC (.bl true)) Zk)))))) (U4 (dC (.int 1))) Mt)
 (Zc (sIf (dT (Yo Tn (Z4 (dV 0) (Z4 (dV 1) (Z4 (dV 2) (Z4 (dC (.bl false)) Zk)))))) (U4 (dU Zbn (dC (.int 1)))) Mt)
 (U4 (dC (.int 0)))))
def E1:List Dat->Rs:=U0 3 3 Sv
def H0:Ev->Fl:=(Zc (Yg 3 (dO Nf (Yo M3 (Z4 (Yo V1 (Z4 (dV 0) (Z4 (dV 1) Zk))) Zk)) (dU Zak (Yo M3 (Z4 (Yo Tg (Z4 (dV 0) (Z4 (dV 1) Zk))) Zk)))))
 (U4 (dO neF (dO Nf (dV 3) (Yo M3 (Z4 (Yo V1 (Z4 (dV 0) (Z4 (dV 2) Zk))) Zk))) (dC (.int 0)))))
def P8:List Dat->Rs:=U0 4 3 H0
def Wk:Ev->Fl:=(U4 (dOr (Yo Ut (Z4 (dV 0) (Z4 (Yo Tl (Z4 (dV 0) (Z4 (dV 1) Zk))) Zk))) (Yo Ut (Z4 (dV 0) (Z4 (Yo Tl (Z4 (dV 0) (Z4 (dV 2) Zk))) Zk)))))
def Uo:List Dat->Rs:=U0 3 3 Wk
def Mi:Ev->Fl:=(Zc (N8 1 (Ef Zk))
 (Zc (Sa (Tz (Z4 (dF Rq (Z4 (dO ixD (dV 0) (dC (.int 1))) Zk)) Zk)) (Yu 2) (Sa (Tz (Z4 (dF Rq (Z4 (dO ixD (dV 0) (dC (.int 1))) Zk)) Zk)) (Yu 3) (sIf (Ia (dB (dO neF (dV 2) (dV 3))) (Ia (dT (Yo Uo (Z4 (dV 0) (Z4 (dV 2) (Z4 (dV 3) Zk))))) (dT (Yo P8 (Z4 (dV 0) (Z4 (dV 2) (Z4 (dV 3) Zk))))))) (Ms 1 Vl (Z4 (Uj (Z4 (dV 2) (Z4 (dV 3) Zk))) Zk)) Mt)))
 (K2 1)))
def Do:List Dat->Rs:=U0 4 1 Mi
def Sg:Ev->Fl:=(Zc (Yg 2 (Yo Rt (Z4 (dV 0) (Z4 (dV 1) Zk))))
 (Zc (Yg 3 (Yo Do (Z4 (dV 0) Zk)))
 (Zc (Sa (O9 (dV 2)) (Kf 2 (Y9 (Yu 4) (Y9 (Yu 5) Ju))) (Zc (Yg 6 (Yo Td (Z4 (dV 0) (Z4 (dS slX (dV 5) M0 (Qz (dC (.int 2)))) Zk))))
 (Sa (Rv (dV 3)) (Kf 2 (Y9 (Yu 7) (Y9 (Yu 8) Ju))) (sIf (Ia (dB (dO inF (dV 7) (dV 6))) (dB (dO inF (dV 8) (dV 6)))) sNo Mt))))
 (U4 (dV 2)))))
def M1:List Dat->Rs:=U0 9 2 Sg
def T7:Ev->Fl:=(U4 (dL (Tk (Rv (dV 2)) [none,some 0,some 1] (Yu 0) Ub (Yo E1 (Z4 (dV 1) (Z4 (dV 2) (Z4 (dV 0) Zk)))))))
def J8:List Dat->Rs:=U0 3 3 T7
def Ml:Ev->Fl:=(U4 (dL (Tk (O9 (dV 0)) [none,none,some 1,some 2] (Kf 2 (Y9 (Yu 0) (Y9 (Yu 1) Ju))) (dB (dO neF (dO ixD (dV 2) (dV 0)) (dO ixD (dV 3) (dV 0)))) (dV 1))))
def Ds:List Dat->Rs:=U0 3 3 Ml
def W9:Ev->Fl:=(Zc (Yg 2 (Yo X6 (Z4 (dV 0) Zk)))
 (Zc (Yg 3 (dL (Tk (Rv (dV 1)) [none,some 0,some 2] (Yu 0) Ub (Yo J8 (Z4 (dV 1) (Z4 (dS slX (dV 0) M0 (Qz (dC (.int 2)))) (Z4 (dV 2) Zk)))))))
 (Zc (N8 4 (Ef Zk))
 (Zc (Sa (Tz (Z4 (dF Rq (Z4 (dV 1) Zk)) Zk)) (Yu 5) (Sa (Cm (Z4 (dO Wu (dV 5) (dC (.int 1))) (Z4 (dF Rq (Z4 (dV 1) Zk)) Zk))) (Yu 6) (sIf (dB (dO eqF (dO ixD (dO ixD (dV 1) (dV 5)) (dC (.int 1))) (dO ixD (dO ixD (dV 1) (dV 6)) (dC (.int 1))))) (Ms 4 K6 (Z4 (dL (Tk (Rv (Yo Ds (Z4 (dV 2) (Z4 (dO ixD (dV 3) (dV 5)) (Z4 (dO ixD (dV 3) (dV 6)) Zk))))) [none,some 5,some 6] (Yu 0) Ub (Uj (Z4 (dV 1) (Z4 (dV 2) (Z4 (dV 0) Zk)))))) Zk)) Mt)))
 (K2 4)))))
def Yd:List Dat->Rs:=U0 7 2 W9
def Qi:Ev->Fl:=(U4 (dL (Z28 Yd (Z4 (dV 0) (Z4 (Yo M1 (Z4 (dV 0) (Z4 (dV 1) Zk))) Zk)))))
def Qm:List Dat->Rs:=U0 2 2 Qi
def Ud:Ev->Fl:=(Zc (Yg 2 (Yo M1 (Z4 (dV 0) (Z4 (dV 1) Zk))))
 (Zc (Yg 3 (Yo Yd (Z4 (dV 0) (Z4 (dV 2) Zk))))
 (Zc (sIf (dB (dO gtD (dF Rq (Z4 (dV 3) Zk)) (dC (.int 0)))) (Zc (Yg 4 (dO ixD (dV 3) (dC (.int 0))))
 (Ll "Clash" (gK "one" "other" "wire") (Z4 (Yo Ge (Z4 (dV 2) (Z4 (dO ixD (dV 4) (dC (.int 0))) Zk))) (Z4 (Yo Ge (Z4 (dV 2) (Z4 (dO ixD (dV 4) (dC (.int 1))) Zk))) (Z4 (dO ixD (dV 4) (dC (.int 2))) Zk))))) Mt)
 (U4 (dV 2)))))
def Tq:List Dat->Rs:=U0 5 2 Ud
def T8:Ev->Fl:=(Zc (Yg 2 (dO Wu (dO Nh (dC (.int 7919)) (dV 1)) (dC (.int 12345))))
 (Zc (sIf (dB (dO ltD (dV 1) (dF Rq (Z4 (dV 0) Zk)))) (Yg 2 (dO Wu (dV 2) (dO Nh (dO ixD (dV 0) (dV 1)) (dC (.int 6364136223846793005))))) Mt)
 (U4 (dO Jl (dO Nh (dV 2) (dC (.int 48271))) (dC (.int 1000000000039))))))
def Zw:List Dat->Rs:=U0 3 2 T8
def Ui:Ev->Fl:=(Zc (Yg 2 (dC (.str "abcdefghijklmnopqrstuvwxyz")))
 (Zc (Yg 3 (dO Wu (dC (.int 2)) (dO Jl (dV 0) (dC (.int 7)))))
 (Zc (Yg 4 (dO Jl (dO Vj (dV 0) (dC (.int 7))) (dV 3)))
 (Zc (Yg 5 (dC (.str "")))
 (Zc (Sa (Tz (Z4 (dV 3) Zk)) (Yu 6) (Zc (Yg 7 (dC (.int 0)))
 (Zc (sIf (dB (dO eqF (dV 6) (dV 4))) (Yg 7 (dV 1)) Mt)
 (Yg 5 (dO Wu (dV 5) (dO ixD (dV 2) (dO Jl (dO Wu (dO Wu (dO Vj (dV 0) (dC (.int 49))) (dO Nh (dC (.int 5)) (dV 6))) (dO Nh (dC (.int 7)) (dV 7))) (dC (.int 26)))))))))
 (Zc (sIf (dB (dO inF (dV 5) (dL (Ef (Z4 (dC (.str "given")) (Z4 (dC (.str "made")) (Z4 (dC (.str "up")) (Z4 (dC (.str "down")) (Z4 (dC (.str "start")) Zk))))))))) (Yg 5 (dO Wu (dS slX (dV 5) (Qz (dC (.int 1))) M0) (dC (.str "q")))) Mt)
 (U4 (dV 5))))))))
def W4:List Dat->Rs:=U0 8 2 Ui
def Vs:Ev->Fl:=(Zc (N8 3 (Ef Zk))
 (Zc (Sa (Tz (Z4 (dV 2) Zk)) (Yu 4) (Zc (Yg 5 (Yo Zw (Z4 (dV 0) (Z4 (dO Wu (dV 1) (dV 4)) Zk))))
 (Zc (Yg 6 (dO Jl (dV 5) (dO Wu (dF Rq (Z4 (dP 3) Zk)) (dC (.int 1)))))
 (Zc (Ms 3 R3 (Z4 (dV 6) (Z4 (dV 4) Zk)))
 (Zc (Yg 7 (dO Jl (dO Vj (dV 5) (dC (.int 64))) (dO Z68 (dF Rq (Z4 (dP 3) Zk)) (dV 6))))
 (Ms 3 R3 (Z4 (dO Wu (dO Wu (dV 6) (dC (.int 1))) (dV 7)) (Z4 (dV 4) Zk))))))))
 (K2 3)))
def Q5:List Dat->Rs:=U0 8 3 Vs
def V6:Ev->Fl:=(Zc (N8 4 (Ef Zk))
 (Zc (Sa (Tz (Z4 (dV 2) Zk)) (Yu 5) (Zc (Yg 6 (Yo Zw (Z4 (dV 0) (Z4 (dO Wu (dV 1) (dV 5)) Zk))))
 (Zc (Yg 7 (dO Jl (dV 6) (dV 3)))
 (Zc (Yg 8 (dO Jl (dO Vj (dV 6) (dC (.int 64))) (dV 3)))
 (sIf (Ia (dB (dO neF (dV 7) (dV 8))) (dB (dO Z5o (Uj (Z4 (dF Z6l (Z4 (dV 7) (Z4 (dV 8) Zk))) (Z4 (dF Z6k (Z4 (dV 7) (Z4 (dV 8) Zk))) Zk))) (dP 4)))) (Ms 4 Vl (Z4 (Uj (Z4 (dF Z6l (Z4 (dV 7) (Z4 (dV 8) Zk))) (Z4 (dF Z6k (Z4 (dV 7) (Z4 (dV 8) Zk))) Zk))) Zk)) Mt)))))
 (K2 4)))
def T1:List Dat->Rs:=U0 9 4 V6
def Vr:Ev->Fl:=(Zc (Yg 4 (Yo Q5 (Z4 (dV 0) (Z4 (dV 1) (Z4 (dV 2) Zk)))))
 (Zc (Yg 5 (dO Nh (dC (.int 2)) (dV 2)))
 (Zc (Yg 6 (Yo Zw (Z4 (dV 0) (Z4 (dO Wu (dV 1) (dV 2)) Zk))))
 (Zc (Yg 7 (Yo T1 (Z4 (dV 0) (Z4 (dO Wu (dO Wu (dV 1) (dV 2)) (dC (.int 1))) (Z4 (dV 3) (Z4 (dV 5) Zk))))))
 (Zc (sIf (dB (dO eqF (dO Jl (dV 6) (dC (.int 3))) (dC (.int 0)))) (Yg 7 (dO Wu (dV 7) (dL (Tk (Tz (Z4 (dO Z68 (dV 5) (dC (.int 1))) Zk)) [none,some 7] (Yu 0) (dB (dO Z5o (Uj (Z4 (dV 0) (Z4 (dO Wu (dV 0) (dC (.int 1))) Zk))) (dV 1))) (Uj (Z4 (dV 0) (Z4 (dO Wu (dV 0) (dC (.int 1))) Zk))))))) Mt)
 (Zc (Sa (Tz (Z4 (dV 2) Zk)) (Yu 8) (Zc (Yg 9 (dM "list" Ki (dV 4) (Z4 (dV 8) Zk)))
 (Zc (Yg 10 (dO Wu (dO Wu (dV 9) (dC (.int 1))) (dM "list" Ki (dS slX (dV 4) (Qz (dO Wu (dV 9) (dC (.int 1)))) M0) (Z4 (dV 8) Zk))))
 (Yg 7 (dO Wu (dL (Tk (Rv (dV 7)) [none,some 9,some 10] (Yu 0) (dB (dO neF (dV 0) (Uj (Z4 (dV 1) (Z4 (dV 2) Zk))))) (dV 0))) (dL (Ef (Z4 (Uj (Z4 (dV 9) (Z4 (dV 10) Zk))) Zk))))))))
 (Zc (Xk 11 (Rv (dV 4)) [none] (Yu 0))
 (Zc (Xk 12 (Rv (dV 4)) [none] (Yu 0))
 (Zc (Yg 13 (dC (.int 0)))
 (Zc (Yg 14 (dO Jl (dO Vj (dV 6) (dC (.int 3))) (dC (.int 20))))
 (Zc (Sa (Rv (dV 7)) (Kf 2 (Y9 (Yu 15) (Y9 (Yu 16) Ju))) (Zc (L3 12 (dV 15) (Z4 (dV 14) Zk))
 (Zc (L3 11 (dV 16) (Z4 (dV 14) Zk))
 (Zc (L3 12 (dV 16) (Z4 (dO Wu (dV 14) (dC (.int 1))) Zk))
 (Zc (L3 11 (dV 15) (Z4 (dO Wu (dV 14) (dC (.int 1))) Zk))
 (Zc (Yg 13 (dO orD (dV 13) (dO N9 (dC (.int 1)) (dO Wu (dV 14) (dC (.int 1))))))
 (Yg 14 (dO Wu (dV 14) (dC (.int 2))))))))))
 (Zc (Yg 17 (dO Jl (dO Vj (dV 6) (dC (.int 60))) (dO N9 (dC (.int 1)) (dV 2))))
 (Zc (Yg 18 (dV 17))
 (Zc (N8 19 (Ef Zk))
 (Zc (Sa (O9 (dV 4)) (Kf 2 (Y9 (Yu 20) (Y9 (Yu 8) Ju))) (Zc (Ms 19 Vl (Z4 (Uj (Z4 (dV 8) (Z4 (dO eqF (dO Nf (dO Z13 (dV 18) (dV 8)) (dC (.int 1))) (dC (.int 0))) (Z4 (dF tupleD (Z4 (dL (dF M4 (Z4 (Z6j 11 (dV 20)) Zk))) Zk)) (Z4 (dF tupleD (Z4 (dL (dF M4 (Z4 (Z6j 12 (dV 20)) Zk))) Zk)) Zk))))) Zk))
 (Yg 18 (dO Z6m (dV 18) (dO N9 (dC (.int 1)) (dV 8))))))
 (Zc (Yg 21 (dO Jl (dO Vj (dV 6) (dC (.int 2000))) (dV 5)))
 (Zc (N8 19 (dO Z6i (dS slX (dP 19) (Qz (dV 21)) M0) (dS slX (dP 19) M0 (Qz (dV 21)))))
 (Zc (Yg 22 (dO Vj (dV 6) (dC (.int 40000))))
 (Zc (Yg 23 (dL (Tk (Tz (Z4 (dV 2) Zk)) [none,some 22,some 0,some 1] (Yu 0) Ub (Uj (Z4 (Yo W4 (Z4 (dV 1) (Z4 (dV 0) Zk))) (Z4 (dO ixD (dL (Ef (Z4 (dC (.str "given")) (Z4 (dC (.str "made")) Zk)))) (dO Jl (dO Vj (Yo Zw (Z4 (dV 2) (Z4 (dO Wu (dV 3) (dV 0)) Zk))) (dC (.int 4096))) (dC (.int 2)))) Zk))))))
 (U4 (Uj (Z4 (dF tupleD (Z4 (dV 23) Zk)) (Z4 (dF tupleD (Z4 (dP 19) Zk)) (Z4 (dV 13) (Z4 (dV 17) Zk)))))))))))))))))))))))))
def Q7:List Dat->Rs:=U0 24 4 Vr
def V4:Ev->Fl:=(Zc (Yg 2 (dO Wu (dC (.int 2)) (dO Jl (Yo Zw (Z4 (dV 0) (Z4 (dV 1) Zk))) (dC (.int 2)))))
 (Zc (Yg 3 (dO Wu (dC (.int 1)) (dO Jl (dO Vj (Yo Zw (Z4 (dV 0) (Z4 (dV 1) Zk))) (dC (.int 2))) (dC (.int 2)))))
 (Zc (Yg 4 (dO Vj (Yo Zw (Z4 (dV 0) (Z4 (dV 1) Zk))) (dC (.int 4))))
 (Zc (Yg 5 (dL (Tk (Tz (Z4 (dV 2) Zk)) [none,some 4] (Yu 0) Ub (Uj (Z4 (Yo W4 (Z4 (dV 1) (Z4 (dV 0) Zk))) (Z4 (dC (.str "given")) Zk))))))
 (Zc (Yg 5 (dO Wu (dV 5) (dL (Tk (Tz (Z4 (dV 3) Zk)) [none,some 4,some 2] (Yu 0) Ub (Uj (Z4 (Yo W4 (Z4 (dV 1) (Z4 (dO Wu (dV 2) (dV 0)) Zk))) (Z4 (dC (.str "made")) Zk)))))))
 (Zc (N8 6 (Ef Zk))
 (Zc (Yg 7 (dC (.int 1)))
 (Zc (Sa (Tz (Z4 (dV 2) Zk)) (Yu 8) (Zc (Yg 9 (Yo Zw (Z4 (dV 0) (Z4 (dO Wu (dO Wu (dV 1) (dC (.int 1))) (dV 8)) Zk))))
 (Zc (Yg 10 (dL (Tk (Tz (Z4 (dV 3) Zk)) [none,some 2,some 3,some 9] (Yu 0) Ub (dO Wu (dV 1) (dO Jl (dO Wu (dV 3) (dV 0)) (dV 2))))))
 (Zc (Yg 11 (dL (Tk (Tz (Z4 (dV 3) Zk)) [none,some 2,some 3,some 9] (Yu 0) Ub (dO Wu (dV 1) (dO Jl (dO Wu (dO Vj (dV 3) (dC (.int 2))) (dV 0)) (dV 2))))))
 (Zc (N8 12 (dO Z6i (dL (Tk (Rv (dV 10)) [none] (Yu 0) Ub (Uj (Z4 (dV 0) (Z4 (dC (.bl true)) Zk))))) (dL (Tk (Rv (dV 11)) [none] (Yu 0) Ub (Uj (Z4 (dV 0) (Z4 (dC (.bl false)) Zk)))))))
 (Zc (Ms 12 R3 (Z4 (dO Jl (dO Vj (dV 9) (dC (.int 4))) (dO Wu (dF Rq (Z4 (dP 12) Zk)) (dC (.int 1)))) (Z4 (Uj (Z4 (dV 8) (Z4 (dC (.bl false)) Zk))) Zk)))
 (Zc (Yg 13 (dC (.int 0)))
 (Sa (O9 (dO Wu (dL (Ef (Z4 (Uj (Z4 (dV 8) (Z4 (dC (.bl true)) Zk))) Zk))) (dP 12))) (Kf 2 (Y9 (Yu 14) (Y9 (Yu 15) Ju))) (Zc (Yg 16 (dV 7))
 (Zc (sIf (dB (dO eqF (dV 14) (dF Rq (Z4 (dP 12) Zk)))) (Yg 16 (dC (.int 0))) Mt)
 (Zc (Ms 6 Vl (Z4 (Uj (Z4 (dO ixD (dV 15) (dC (.int 0))) (Z4 (dO ixD (dV 15) (dC (.int 1))) (Z4 (Uj (Z4 (dV 13) Zk)) (Z4 (Uj (Z4 (dV 16) Zk)) Zk))))) Zk))
 (Zc (Yg 13 (dV 16))
 (Yg 7 (dO Wu (dV 7) (dC (.int 1))))))))))))))))
 (U4 (Uj (Z4 (dF tupleD (Z4 (dV 5) Zk)) (Z4 (dF tupleD (Z4 (dP 6) Zk)) (Z4 (dC (.int 1)) (Z4 (dC (.int 0)) Zk))))))))))))))
def Uy:List Dat->Rs:=U0 17 2 V4
def Vo:Ev->Fl:=(Zc (Z33 (dV 0) (Kf 4 (Y9 (Yu 5) (Y9 (Yu 6) (Y9 (Yu 7) (Y9 (Yu 8) Ju))))))
 (Zc (Yg 9 (dO Nf (dV 8) (dO Z68 (dO N9 (dC (.int 1)) (dV 1)) (dC (.int 1)))))
 (Zc (Yg 8 (dO orD (dO orD (dV 9) (dO N9 (dF Z3q (Z4 (dV 3) Zk)) (dV 1))) (dO N9 (dO Z13 (dV 8) (dV 1)) (dO Wu (dV 1) (dC (.int 1))))))
 (Zc (Yg 10 (dL (Tk (Rv (dV 6)) [none,none,none,none,some 1] (Kf 4 (Y9 (Yu 0) (Y9 (Yu 1) (Y9 (Yu 2) (Y9 (Yu 3) Ju))))) Ub (Uj (Z4 (dO Wu (dV 0) (dF Z3q (Z4 (dO geD (dV 0) (dV 4)) Zk))) (Z4 (dV 1) (Z4 (dV 2) (Z4 (dV 3) Zk))))))))
 (U4 (Uj (Z4 (dO B2 (dO B2 (dS slX (dV 5) M0 (Qz (dV 1))) (Uj (Z4 (Uj (Z4 (dV 4) (Z4 (dV 2) Zk))) Zk))) (dS slX (dV 5) (Qz (dV 1)) M0)) (Z4 (dF tupleD (Z4 (dV 10) Zk)) (Z4 (dV 7) (Z4 (dV 8) Zk))))))))))
def Qc:List Dat->Rs:=U0 11 5 Vo
def Yy:Ev->Fl:=(Zc (Yg 4 (Yo Zw (Z4 (dV 0) (Z4 (dV 1) Zk))))
 (Zc (sIf (dB (dO eqF (dO Jl (dV 4) (dC (.int 3))) (dC (.int 0)))) (Yg 5 (Yo Uy (Z4 (dV 0) (Z4 (dO Wu (dV 1) (dC (.int 1))) Zk)))) (Yg 5 (Yo Q7 (Z4 (dV 0) (Z4 (dO Wu (dV 1) (dC (.int 1))) (Z4 (dO Wu (dC (.int 1)) (dO Jl (dO Vj (dV 4) (dC (.int 3))) (dV 2))) (Z4 (dO Jl (dO Vj (dV 4) (dC (.int 30))) (dO Wu (dV 3) (dC (.int 1)))) Zk)))))))
 (Zc (Yg 6 (dO Vj (dV 4) (dC (.int 1000))))
 (Zc (sIf (dB (dO eqF (dO Jl (dV 6) (dC (.int 4))) (dC (.int 0)))) (Zc (Yg 7 (dO Jl (dO Vj (dV 6) (dC (.int 4))) (dF Rq (Z4 (dO ixD (dV 5) (dC (.int 1))) Zk))))
 (Yg 5 (Uj (Z4 (dO ixD (dV 5) (dC (.int 0))) (Z4 (dO B2 (dS slX (dO ixD (dV 5) (dC (.int 1))) M0 (Qz (dV 7))) (dS slX (dO ixD (dV 5) (dC (.int 1))) (Qz (dO Wu (dV 7) (dC (.int 1)))) M0)) (Z4 (dO ixD (dV 5) (dC (.int 2))) (Z4 (dO ixD (dV 5) (dC (.int 3))) Zk))))))) Mt)
 (Zc (Yg 8 (dO ixD (dL (Ef (Z4 (dC (.int 0)) (Z4 (dC (.int 0)) (Z4 (dC (.int 0)) (Z4 (dC (.int 0)) (Z4 (dC (.int 1)) (Z4 (dC (.int 1)) (Z4 (dC (.int 2)) (Z4 (dO Z68 (dC (.int 10)) (dF Rq (Z4 (dO ixD (dV 5) (dC (.int 0))) Zk))) Zk)))))))))) (dO Jl (dO Vj (dV 6) (dC (.int 100))) (dC (.int 8)))))
 (Zc (Sa (Tz (Z4 (dV 8) Zk)) (Yu 9) (Zc (Yg 10 (dO Jl (dO Wu (dO Vj (dV 6) (dC (.int 800))) (dO Nh (dC (.int 7)) (dV 9))) (dO Wu (dF Rq (Z4 (dO ixD (dV 5) (dC (.int 0))) Zk)) (dC (.int 1)))))
 (Zc (Yg 11 (dO ixD (dL (Ef (Z4 (dC (.str "given")) (Z4 (dC (.str "made")) Zk)))) (dO Jl (dO Wu (dO Vj (dV 6) (dC (.int 10000))) (dV 9)) (dC (.int 2)))))
 (Yg 5 (Yo Qc (Z4 (dV 5) (Z4 (dV 10) (Z4 (dV 11) (Z4 (dO eqF (dO Jl (dO Wu (dO Vj (dV 6) (dC (.int 20000))) (dO Vj (dV 9) (dC (.int 2)))) (dC (.int 2))) (dC (.int 1))) (Z4 (dO ixD (dC (.str "abcdefghij")) (dV 9)) Zk))))))))))
 (U4 (dV 5))))))))
def Vc:List Dat->Rs:=U0 12 4 Yy
def U8:Ev->Fl:=(Zc (Yg 1 (dC (.int 0)))
 (Zc (Sa (Rv (dV 0)) (Yu 2) (Yg 1 (dO orD (dV 1) (dO N9 (dC (.int 1)) (dV 2)))))
 (U4 (dV 1))))
def W3:List Dat->Rs:=U0 3 1 U8
def T9:Ev->Fl:=(Zc (Yg 3 (Yo W3 (Z4 (dO ixD (dO ixD (dO ixD (dV 0) (dC (.int 1))) (dV 2)) (dC (.int 2))) Zk)))
 (U4 (dO eqF (dO Nf (dO ixD (dV 1) (dC (.int 0))) (dV 3)) (dV 3))))
def Ti:List Dat->Rs:=U0 4 3 T9
def V3:Ev->Fl:=(Zc (Z33 (dO ixD (dO ixD (dV 0) (dC (.int 1))) (dV 2)) (Kf 4 (Y9 (Yu 3) (Y9 (Yu 4) (Y9 (Yu 5) (Y9 (Yu 6) Ju))))))
 (U4 (Uj (Z4 (dO orD (dO Z6m (dO ixD (dV 1) (dC (.int 0))) (Yo W3 (Z4 (dV 5) Zk))) (Yo W3 (Z4 (dV 6) Zk))) (Z4 (dO Z6m (dO ixD (dV 1) (dC (.int 1))) (dO N9 (dC (.int 1)) (dV 3))) Zk)))))
def Ux:List Dat->Rs:=U0 7 3 V3
def Vm:Ev->Fl:=(Zc (Sa (O9 (dO ixD (dV 0) (dC (.int 1)))) (Kf 2 (Y9 (Yu 3) (Y9 (Yu 4) Ju))) (sIf (Ia (dB (dO eqF (dO ixD (dV 4) (dC (.int 0))) (dV 2))) (dT (Yo Ti (Z4 (dV 0) (Z4 (dV 1) (Z4 (dV 3) Zk)))))) (U4 (dO Z68 (dO Nh (dC (.int 2)) (dF Z3q (Z4 (dO ixD (dV 4) (dC (.int 1))) Zk))) (dC (.int 1)))) Mt))
 (U4 (dC (.int 0))))
def Ur:List Dat->Rs:=U0 5 3 Vm
def Wj:Ev->Fl:=(Zc (Yg 2 (dO ixD (dV 0) (dC (.int 2))))
 (Zc (Sa (Rv (dO ixD (dV 0) (dC (.int 1)))) (Yu 3) (Yg 2 (dO orD (dO orD (dV 2) (Yo W3 (Z4 (dO ixD (dV 3) (dC (.int 2))) Zk))) (Yo W3 (Z4 (dO ixD (dV 3) (dC (.int 3))) Zk)))))
 (Zc (Yg 4 (dO ixD (dL (Tk (Tz (Z4 (dC (.int 64)) Zk)) [none,some 2] (Yu 0) (dB (dO eqF (dO Nf (dO Z13 (dV 1) (dV 0)) (dC (.int 1))) (dC (.int 0)))) (dV 0))) (dO Jl (dV 1) (dC (.int 3)))))
 (Zc (N8 5 (Ef Zk))
 (Zc (Sa (O9 (dO ixD (dV 0) (dC (.int 1)))) (Kf 2 (Y9 (Yu 6) (Y9 (Yu 3) Ju))) (Zc (Z33 (dV 3) (Kf 4 (Y9 (Yu 7) (Y9 (Yu 8) (Y9 (Yu 9) (Y9 (Yu 10) Ju))))))
 (Zc (sIf (dB (dO eqF (dO Nf (dO Z13 (dO Vj (dV 1) (dC (.int 3))) (dV 6)) (dC (.int 1))) (dC (.int 1)))) (Zc (Yg 9 (dF tupleD (Z4 (dL (dF M4 (Z4 (dO B2 (dV 9) (Uj (Z4 (dV 4) Zk))) Zk))) Zk)))
 (Yg 10 (dF tupleD (Z4 (dL (dF M4 (Z4 (dO B2 (dV 10) (Uj (Z4 (dV 4) Zk))) Zk))) Zk)))) Mt)
 (Ms 5 Vl (Z4 (Uj (Z4 (dV 7) (Z4 (dV 8) (Z4 (dV 9) (Z4 (dV 10) Zk))))) Zk)))))
 (U4 (Uj (Z4 (dO ixD (dV 0) (dC (.int 0))) (Z4 (dF tupleD (Z4 (dP 5) Zk)) (Z4 (dO orD (dO ixD (dV 0) (dC (.int 2))) (dO N9 (dC (.int 1)) (dV 4))) (Z4 (dO ixD (dV 0) (dC (.int 3))) Zk)))))))))))
def Um:List Dat->Rs:=U0 11 2 Wj
def Wx:Ev->Fl:=(Zc (Yg 2 (Uj (Z4 (dO ixD (dV 0) (dC (.int 2))) (Z4 (dO ixD (dV 0) (dC (.int 3))) Zk))))
 (Zc (Sa (Rv (dV 1)) (Yu 3) (Zc (sIf (Fg (Sc (dT (dI "int" (dV 3)))) (Fg (dT (dI "bool" (dV 3))) (Sc (Ov leD ltD (dC (.int 0)) (dV 3) (dF Rq (Z4 (dO ixD (dV 0) (dC (.int 1))) Zk)))))) (U4 (dC .non)) Mt)
 (Zc (sIf (Sc (dT (Yo Ti (Z4 (dV 0) (Z4 (dV 2) (Z4 (dV 3) Zk)))))) (U4 (dC .non)) Mt)
 (Yg 2 (Yo Ux (Z4 (dV 0) (Z4 (dV 2) (Z4 (dV 3) Zk))))))))
 (U4 (dV 2))))
def U3:List Dat->Rs:=U0 4 2 Wx
def U9:Ev->Fl:=(Zc (Yg 1 (dC .non))
 (Zc (Yg 2 (dC .non))
 (Zc (Z37 (Ym N64_) 3 (Oi 2 Tq (Z4 (dV 0) (Z4 (dC (.int 400)) Zk))) (Yg 1 (dV 3)))
 (U4 (Uj (Z4 (dV 1) (Z4 (dV 2) Zk)))))))
def Ja:List Dat->Rs:=U0 4 1 U9
def V7:Ev->Fl:=(Zc (Yg 1 (dL (Ef (Z4 (dIX (Sy N64_ "Broken") (dV 0)) (Z4 (dIX (Sy N64_ "Crowded") (dV 0)) (Z4 (dIX (Sy N64_ "CalledOff") (dV 0)) Zk))))))
 (Zc (Yg 1 (dO Wu (dV 1) (dL (Ef (Z4 (dIX (Sy N64_ "TooMany") (dV 0)) (Z4 (dIX (Sy N64_ "NoText") (dV 0)) (Z4 (dIX (Sy N64_ "NoMove") (dV 0)) Zk)))))))
 (U4 (dOr (dF Z6h (Z4 (dV 1) Zk)) (dIX (Sy N64_ "NoPlace") (dV 0))))))
def Uz:List Dat->Rs:=U0 2 1 V7
def Uc:Ev->Fl:=(Zc (Yg 1 (Yo Qm (Z4 (dV 0) (Z4 (dC (.int 400)) Zk))))
 (Zc (Yg 2 (Yo M1 (Z4 (dV 0) (Z4 (dC (.int 400)) Zk))))
 (Zc (Z33 (Yo Ja (Z4 (dV 0) Zk)) (Kf 2 (Y9 (Yu 3) (Y9 (Yu 4) Ju))))
 (Zc (sIf (dB (dO eqF (dV 1) (dL (Ef Zk)))) (U4 (Z8n (dO isF (dV 3) (dC .non)) (dO eqF (dV 4) (dV 2)))) Mt)
 (Zc (sIf (Fg (Sc (dT (dIX (Sy N64_ "Clash") (dV 3)))) (Fg (Sc (dT (dIX (Z07 N64_) (dV 3)))) (dT (Yo Uz (Z4 (dV 3) Zk))))) (U4 (dC (.bl false))) Mt)
 (Zc (sIf (Fg (Sc (dT (dI "list" (Jz (Ym N64_) "one" (dV 3))))) (Fg (Sc (dT (dI "list" (Jz (Ym N64_) "other" (dV 3))))) (dB (dO neF (Jz (Ym N64_) "wire" (dV 3)) (dO ixD (dO ixD (dV 1) (dC (.int 0))) (dC (.int 2))))))) (U4 (dC (.bl false))) Mt)
 (Zc (sIf (Fg (Sc (dT (dI "int" (Jz (Ym N64_) "wire" (dV 3))))) (dT (dI "bool" (Jz (Ym N64_) "wire" (dV 3))))) (U4 (dC (.bl false))) Mt)
 (Zc (Yg 5 (Yo U3 (Z4 (dV 0) (Z4 (Jz (Ym N64_) "one" (dV 3)) Zk))))
 (Zc (Yg 6 (Yo U3 (Z4 (dV 0) (Z4 (Jz (Ym N64_) "other" (dV 3)) Zk))))
 (Zc (sIf (Fg (dB (dO neF (dV 5) (dS slX (dO ixD (dV 2) (dO ixD (dO ixD (dV 1) (dC (.int 0))) (dC (.int 0)))) M0 (Qz (dC (.int 2)))))) (Fg (dB (dO neF (dV 6) (dS slX (dO ixD (dV 2) (dO ixD (dO ixD (dV 1) (dC (.int 0))) (dC (.int 1)))) M0 (Qz (dC (.int 2)))))) (dB (dO neF (dO ixD (dV 5) (dC (.int 1))) (dO ixD (dV 6) (dC (.int 1))))))) (U4 (dC (.bl false))) Mt)
 (Zc (sIf (Fg (dB (dO neF (Jz (Ym N64_) "one" (dV 3)) (Yo Ge (Z4 (dV 2) (Z4 (dO ixD (dO ixD (dV 1) (dC (.int 0))) (dC (.int 0))) Zk))))) (dB (dO neF (Jz (Ym N64_) "other" (dV 3)) (Yo Ge (Z4 (dV 2) (Z4 (dO ixD (dO ixD (dV 1) (dC (.int 0))) (dC (.int 1))) Zk)))))) (U4 (dC (.bl false))) Mt)
 (U4 (dO neF (Yo Ur (Z4 (dV 0) (Z4 (dV 5) (Z4 (Jz (Ym N64_) "wire" (dV 3)) Zk)))) (Yo Ur (Z4 (dV 0) (Z4 (dV 6) (Z4 (Jz (Ym N64_) "wire" (dV 3)) Zk)))))))))))))))))
def U6:List Dat->Rs:=U0 7 1 Uc
def A7:Ev->Fl:=(Zc (Yg 1 (Yo Vc (Z4 (dV 0) (Z4 (dC (.int 1)) (Z4 (dC (.int 4)) (Z4 (dC (.int 5)) Zk))))))
 (Zc (sIf (dB (dO eqF (dO Jl (dO Vj (Yo Zw (Z4 (dV 0) (Z4 (dC (.int 0)) Zk))) (dC (.int 4096))) (dC (.int 3))) (dC (.int 0)))) (Yg 1 (Yo Um (Z4 (dV 1) (Z4 (dO Vj (Yo Zw (Z4 (dV 0) (Z4 (dC (.int 0)) Zk))) (dC (.int 12288))) Zk)))) Mt)
 (Zc (sIf (Sc (dT (Yo U6 (Z4 (dV 1) Zk)))) (U4 (dC (.bl false))) Mt)
 (Zc (Yg 2 (dO Jl (Yo Zw (Z4 (dV 0) (Z4 (dC (.int 0)) Zk))) (dF Rq (Z4 (dO ixD (dV 1) (dC (.int 0))) Zk))))
 (Zc (Yg 3 (Yo Qm (Z4 (dV 1) (Z4 (dC (.int 400)) Zk))))
 (Zc (sIf (dB (dO neF (dV 3) (dL (Ef Zk)))) (Yg 2 (dO ixD (dO ixD (dV 3) (dC (.int 0))) (dC (.int 2)))) Mt)
 (Zc (N8 4 (dF Z4h (Z4 (dO ixD (dV 1) (dC (.int 0))) Zk)))
 (Zc (Rf 4 (dV 2) (Uj (Z4 (dO ixD (dO ixD (dP 4) (dV 2)) (dC (.int 0))) (Z4 (dC (.str "given")) Zk))))
 (U4 (Z8n (Yo U6 (Z4 (dO B2 (Uj (Z4 (dF tupleD (Z4 (dP 4) Zk)) Zk)) (dS slX (dV 1) (Qz (dC (.int 1))) M0)) Zk)) (Yo U6 (Z4 (dV 1) Zk))))))))))))
def Za5:List Dat->Rs:=U0 5 1 A7
def top (i:Nat):Stmt:=PySem.Challenge.pw_calmwires_k42_two_ways_to_a_clash.main.body.getD i (.Pass ⟨0,0,0,0⟩)
abbrev J9:Stmt:=top 12
theorem X8:FnScope N57_ N57_ (Z7 J9):=⟨rfl,rfl,rfl,by decide +kernel,rfl,by decide +kernel,by decide +kernel⟩
abbrev D1:Stmt:=top 11
theorem Z6d:FnScope N65_ N65_ (Z7 D1):=⟨rfl,rfl,rfl,by decide +kernel,rfl,by decide +kernel,by decide +kernel⟩
abbrev Vt:Stmt:=top 13
theorem O1:FnScope N51_ N51_ (Z7 Vt):=⟨rfl,rfl,rfl,by decide +kernel,rfl,by decide +kernel,by decide +kernel⟩
abbrev Qv:Stmt:=top 14
theorem Xx:FnScope N58_ N58_ (Z7 Qv):=⟨rfl,rfl,rfl,by decide +kernel,rfl,by decide +kernel,by decide +kernel⟩
abbrev Qt:Stmt:=top 15
theorem Xf:FnScope N58_ N58_ (Z7 Qt):=⟨rfl,rfl,rfl,by decide +kernel,rfl,by decide +kernel,by decide +kernel⟩
abbrev T4:Stmt:=top 16
theorem Nc:FnScope N58_ N58_ (Z7 T4):=⟨rfl,rfl,rfl,by decide +kernel,rfl,by decide +kernel,by decide +kernel⟩
abbrev T6:Stmt:=top 17
theorem Oc:FnScope N58_ N58_ (Z7 T6):=⟨rfl,rfl,rfl,by decide +kernel,rfl,by decide +kernel,by decide +kernel⟩
abbrev Gz:Stmt:=top 18
theorem I0:FnScope ["some","number","place"] ["some"] (Z7 Gz):=⟨rfl,rfl,rfl,by decide +kernel,rfl,by decide +kernel,by decide +kernel⟩
abbrev Ql:Stmt:=top 19
theorem Xj:FnScope N54_ N54_ (Z7 Ql):=⟨rfl,rfl,rfl,by decide +kernel,rfl,by decide +kernel,by decide +kernel⟩
abbrev Xy:Stmt:=top 21
theorem Z3s:FnScope ["graph","stand","step","takes"] N42_ (Z7 Xy):=⟨rfl,rfl,rfl,by decide +kernel,rfl,by decide +kernel,by decide +kernel⟩
abbrev Mf:Stmt:=top 22
theorem Rc:FnScope N24_ N42_ (Z7 Mf):=⟨rfl,rfl,rfl,by decide +kernel,rfl,by decide +kernel,by decide +kernel⟩
abbrev Vw:Stmt:=top 24
theorem Ng:FnScope N55_ N55_ (Z7 Vw):=⟨rfl,rfl,rfl,by decide +kernel,rfl,by decide +kernel,by decide +kernel⟩
abbrev Fa:Stmt:=top 26
theorem Px:FnScope ["found","n","steps","at"] N61_ (Z7 Fa):=⟨rfl,rfl,rfl,by decide +kernel,rfl,by decide +kernel,by decide +kernel⟩
abbrev Qj:Stmt:=top 25
theorem Fb:FnScope N34_ N34_ (Z7 Qj):=⟨rfl,rfl,rfl,by decide +kernel,rfl,by decide +kernel,by decide +kernel⟩
abbrev Mj:Stmt:=top 23
theorem Uu:FnScope N16_ N59_ (Z7 Mj):=⟨rfl,rfl,rfl,by decide +kernel,rfl,by decide +kernel,by decide +kernel⟩
abbrev Wr:Stmt:=top 29
theorem Lr:FnScope N35_ N35_ (Z7 Wr):=⟨rfl,rfl,rfl,by decide +kernel,rfl,by decide +kernel,by decide +kernel⟩
abbrev Sl:Stmt:=top 28
theorem Z1n:FnScope N43_ N43_ (Z7 Sl):=⟨rfl,rfl,rfl,by decide +kernel,rfl,by decide +kernel,by decide +kernel⟩
abbrev Hi:Stmt:=top 30
theorem Bp:FnScope ["graph","by","lost","kept"] N52_ (Z7 Hi):=⟨rfl,rfl,rfl,by decide +kernel,rfl,by decide +kernel,by decide +kernel⟩
abbrev Wl:Stmt:=top 33
theorem Ei:FnScope N52_ N52_ (Z7 Wl):=⟨rfl,rfl,rfl,by decide +kernel,rfl,by decide +kernel,by decide +kernel⟩
abbrev Mn:Stmt:=top 32
theorem Rz:FnScope ["graph","pairs","by","lost"] N65_ (Z7 Mn):=⟨rfl,rfl,rfl,by decide +kernel,rfl,by decide +kernel,by decide +kernel⟩
abbrev Sf:Stmt:=top 31
theorem Qa:FnScope N13_ N59_ (Z7 Sf):=⟨rfl,rfl,rfl,by decide +kernel,rfl,by decide +kernel,by decide +kernel⟩
abbrev Vq:Stmt:=top 38
theorem Of:FnScope N40_ N40_ (Z7 Vq):=⟨rfl,rfl,rfl,by decide +kernel,rfl,by decide +kernel,by decide +kernel⟩
abbrev Qb:Stmt:=top 39
theorem Ah:FnScope N47_ N47_ (Z7 Qb):=⟨rfl,rfl,rfl,by decide +kernel,rfl,by decide +kernel,by decide +kernel⟩
abbrev Ya:Stmt:=top 37
theorem W0:FnScope N21_ N56_ (Z7 Ya):=⟨rfl,rfl,rfl,by decide +kernel,rfl,by decide +kernel,by decide +kernel⟩
abbrev Qn:Stmt:=top 35
theorem A8:FnScope N59_ N59_ (Z7 Qn):=⟨rfl,rfl,rfl,by decide +kernel,rfl,by decide +kernel,by decide +kernel⟩
abbrev Uk:Stmt:=top 36
theorem Q2:FnScope ["graph","most","found","told","first"] N59_ (Z7 Uk):=⟨rfl,rfl,rfl,by decide +kernel,rfl,by decide +kernel,by decide +kernel⟩
abbrev Tb:Stmt:=top 41
theorem R6:FnScope ["_law_script","_law_k","_law_number"] N44_ (Z7 Tb):=⟨rfl,rfl,rfl,by decide +kernel,rfl,by decide +kernel,by decide +kernel⟩
abbrev Ue:Stmt:=top 42
theorem Yq:FnScope N7_ N50_ (Z7 Ue):=⟨rfl,rfl,rfl,by decide +kernel,rfl,by decide +kernel,by decide +kernel⟩
abbrev Vp:Stmt:=top 43
theorem Ww:FnScope N8_ N29_ (Z7 Vp):=⟨rfl,rfl,rfl,by decide +kernel,rfl,by decide +kernel,by decide +kernel⟩
abbrev V2:Stmt:=top 44
theorem Wn:FnScope N5_ N20_ (Z7 V2):=⟨rfl,rfl,rfl,by decide +kernel,rfl,by decide +kernel,by decide +kernel⟩
abbrev Y1:Stmt:=top 45
theorem Zh:FnScope N0_ N22_ (Z7 Y1):=⟨rfl,rfl,rfl,by decide +kernel,rfl,by decide +kernel,by decide +kernel⟩
abbrev Zq:Stmt:=top 46
theorem Zm:FnScope N1_ N38_ (Z7 Zq):=⟨rfl,rfl,rfl,by decide +kernel,rfl,by decide +kernel,by decide +kernel⟩
abbrev Wc:Stmt:=top 47
theorem W2:FnScope N3_ N11_ (Z7 Wc):=⟨rfl,rfl,rfl,by decide +kernel,rfl,by decide +kernel,by decide +kernel⟩
abbrev Yz:Stmt:=top 48
theorem Zs:FnScope N2_ N15_ (Z7 Yz):=⟨rfl,rfl,rfl,by decide +kernel,rfl,by decide +kernel,by decide +kernel⟩
abbrev Ua:Stmt:=top 49
theorem Q6:FnScope ["_law_some","_law_number","_law_place"] N62_ (Z7 Ua):=⟨rfl,rfl,rfl,by decide +kernel,rfl,by decide +kernel,by decide +kernel⟩
abbrev T5:Stmt:=top 50
theorem Er:FnScope N17_ N27_ (Z7 T5):=⟨rfl,rfl,rfl,by decide +kernel,rfl,by decide +kernel,by decide +kernel⟩
abbrev V5:Stmt:=top 51
theorem V9:FnScope N9_ N27_ (Z7 V5):=⟨rfl,rfl,rfl,by decide +kernel,rfl,by decide +kernel,by decide +kernel⟩
abbrev Vu:Stmt:=top 52
theorem Jh:FnScope N12_ N26_ (Z7 Vu):=⟨rfl,rfl,rfl,by decide +kernel,rfl,by decide +kernel,by decide +kernel⟩
abbrev Yr:Stmt:=top 53
theorem Zv:FnScope N4_ N32_ (Z7 Yr):=⟨rfl,rfl,rfl,by decide +kernel,rfl,by decide +kernel,by decide +kernel⟩
abbrev Wy:Stmt:=top 54
theorem Up:FnScope N18_ N31_ (Z7 Wy):=⟨rfl,rfl,rfl,by decide +kernel,rfl,by decide +kernel,by decide +kernel⟩
abbrev Uf:Stmt:=top 55
theorem Vn:FnScope N23_ N53_ (Z7 Uf):=⟨rfl,rfl,rfl,by decide +kernel,rfl,by decide +kernel,by decide +kernel⟩
abbrev V0:Stmt:=top 56
theorem Qg:FnScope ["_law_caught","_law_some"] ["_law_caught"] (Z7 V0):=⟨rfl,rfl,rfl,by decide +kernel,rfl,by decide +kernel,by decide +kernel⟩
abbrev U7:Stmt:=top 57
theorem Wv:FnScope N6_ N53_ (Z7 U7):=⟨rfl,rfl,rfl,by decide +kernel,rfl,by decide +kernel,by decide +kernel⟩
abbrev Ky:Stmt:=top 58
theorem Eb:FnScope N10_ N60_ (Z7 Ky):=⟨rfl,rfl,rfl,by decide +kernel,rfl,by decide +kernel,by decide +kernel⟩
structure Txt (K:PySem.W.Frag) (mg:Str->Option Value):Prop where
 b_ValueError:mg "ValueError" = none
 b_any:mg "any" = none
 b_bool:mg "bool" = none
 b_enumerate:mg "enumerate" = none
 b_int:mg "int" = none
 b_isinstance:mg "isinstance" = none
 b_len:mg "len" = none
 b_list:mg "list" = none
 b_max:mg "max" = none
 b_min:mg "min" = none
 b_range:mg "range" = none
 b_reversed:mg "reversed" = none
 b_sorted:mg "sorted" = none
 b_tuple:mg "tuple" = none
 i_0:IsC K mg "Broken" (Sy N64_ "Broken")
 i_3:IsC K mg "CalledOff" (Sy N64_ "CalledOff")
 i_4:IsC K mg "Clash" (Sy N64_ "Clash")
 i_1:IsC K mg "Crowded" (Sy N64_ "Crowded")
 i_5:IsC K mg "NoMove" (Sy N64_ "NoMove")
 i_6:IsC K mg "NoPlace" (Sy N64_ "NoPlace")
 i_7:IsC K mg "NoText" (Sy N64_ "NoText")
 i_2:IsC K mg "TooMany" (Sy N64_ "TooMany")
 j_ValueError:IsT K mg "ValueError" "ValueError" (Z07 N64_)
 k_8:Zb2 K mg "CalmError" (Ym N64_)
 f_one:Za9 K (Ym N64_) "one"
 f_other:Za9 K (Ym N64_) "other"
 f_wire:Za9 K (Ym N64_) "wire"
section
variable {P:Program} {w:World} {K:PySem.W.Frag} {mg:Str->Option Value} {base:Heap}
end
abbrev i_4:Stmt:=Z4a (top 7) 0
theorem Zdg:FnScope N36_ N36_ (Z7 i_4):=⟨rfl,rfl,rfl,by decide +kernel,rfl,by decide +kernel,by decide +kernel⟩
section
variable {P:Program} {w:World} {K:PySem.W.Frag} {mg:Str->Option Value} {base:Heap}
theorem m_4 {C fI D:Addr} {fd:FuncData} (B:BaseC K mg D) (F:Fun K "__init__" "Clash.__init__" i_4 fI fd) (hc:T3 K "Clash" C) (hm:mg "Clash" = some (.ref C)) (hk:PySem.W.keepIn K (.ref C)=true) (hx:Fu K C fI D=true) (xc:XCls K C) (hf0:PySem.W.findIn K (.ref C) "one" = some none) (hf1:PySem.W.findIn K (.ref C) "other" = some none) (hf2:PySem.W.findIn K (.ref C) "wire" = some none) (isf:PySem.W.isFn K (.ref fI)=true) (bl:mg "list" = none):XMake P w K mg base 1 "Clash" 3 (gK "one" "other" "wire") where
 ex:=⟨C,fI,D,fd,N36_,hc,hm,hk,hx,xc,isf,Z91 (k:=0) F Zdg hx xc hf0 hf1 hf2 (by decide +kernel) (by decide +kernel) (by decide +kernel) (fun cdv A outer s H E hr=>(Dm (O5 (Z47 B (Ve (pv 0) (Ve (Au (B8 (Br hr (pv 3) (B8 (Br hr (pv 1) (B8 (Br hr (pv 2) Z9m))))))) Jn)))) (Dm (Z5q (pv 0) (Rx (Gq K) rfl bl (by decide +kernel) (Ve (pv 1) Jn))) (Dm (Z0j (pv 0) (Rx (Gq K) rfl bl (by decide +kernel) (Ve (pv 2) Jn))) (Ax (Z0j (pv 0) (pv 3))))))) (fun H e a0 a1 n0 n1 i0 l0 m0 l1 m1 u0 v0=>(Nd (Ni (Nd (Ni (Nd (Ni Z4p (by decide +kernel) rfl (.inr ⟨a1,n1,rfl,l1,m1⟩)) (by decide +kernel)) (by decide +kernel) rfl (.inr ⟨a0,n0,rfl,l0,m0⟩)) (by decide +kernel)) (by decide +kernel) rfl (.inl ⟨i0,rfl,u0,v0⟩)) (by decide +kernel))),
  F.binds fun _ _ _ _ _ _ us hl=>ar4 us hl fun _ _ _ _=>rfl⟩
 len:=Z6p
 few:=by lia
theorem Cw (Df:Def K mg "is_made" J9) (T:Txt K mg)   : CalD P w K mg base 1 "is_made" N57_ false Ut :=
 W6 (N:=N57_) (ps:=N57_) (st:=J9) (k:=0) (g:=Qr) Df X8 (fun _ _ _ _ _ _ us hl=>ar2 us hl fun _ _=>rfl) (fun f cdv A outer s H E hr=>(by
  unfold Qr;exact (Zo (W1 (T2 (Gk hr.units) (Zj Yh (Zj Yh (Zj Yh (Z2 0) (Z3) (fun _ _=>rfl)) (Z2 1) (fun _ _=>rfl)) (Z3) (fun _ _=>rfl)) (Zaj (m:=true)) (Yf _))))))
theorem Z7u (Df:Def K mg "made" D1) (T:Txt K mg)  (C_is_made:CalD P w K mg base 1 "is_made" N57_ false Ut):CalD P w K mg base 2 "made" N65_ true X6 :=
 W6 (N:=N65_) (ps:=N65_) (st:=D1) (k:=1) (g:=Hd) Df Z6d (fun _ _ _ _ _ _ us hl=>ar1 us hl fun _=>rfl) (fun f cdv A outer s H E hr=>(by
  unfold Hd;refine (Zo (G9 ?c0))
  case c0=>exact Qp (Z7 D1) [none,some 0] ["wire","graph"] rfl (show CompOk (Z7 D1) _ N65_ ["wire","graph"] [none,some 0] from CompOk.of (by decide +kernel)) rfl (Ys (by rfl) T.b_range (Z0 (Y4 Jg (by rfl) T.b_len (by decide +kernel) (Z0 (Zj Yh (Z2 0) (Z3) (fun _ _=>rfl)) Za)) Za)) (fun _ _ _ _=>⟨(Zn 0 (show (["wire","graph"]:List Str).Nodup from by decide +kernel) rfl (Or.inl rfl)),(f_one (Ke (Zt C_is_made (hr.mono (by lia)) (Z0 (Z8 1) (Z0 (Z8 0) Za))))),(Z8 0)⟩) (by decide)))
theorem Xh (Df:Def K mg "steps_of" Vt) (T:Txt K mg)   : CalD P w K mg base 1 "steps_of" N51_ true Mh :=
 W6 (N:=N51_) (ps:=N51_) (st:=Vt) (k:=0) (g:=Tc) Df O1 (fun _ _ _ _ _ _ us hl=>ar3 us hl fun _ _ _=>rfl) (fun f cdv A outer s H E hr=>(by
  unfold Tc;refine (Zo (G9 ?c0))
  case c0=>exact Qp (Z7 Vt) [none,none,some 1,some 2] N37_ rfl (show CompOk (Z7 Vt) _ N51_ N37_ [none,none,some 1,some 2] from CompOk.of (by decide +kernel)) rfl (Z04 (by rfl) T.b_enumerate (Zj Yh (Z2 0) (Z3) (fun _ _=>rfl))) (fun _ _ _ _=>⟨(S7 (n:=2) rfl (Y3 (Zn 0 (show (N37_:List Str).Nodup from by decide +kernel) rfl (Or.inl rfl)) (Y3 (Zn 1 (show (N37_:List Str).Nodup from by decide +kernel) rfl (Or.inl rfl)) Q8))),(f_one (PWd.pt (Fd (Jw (Gk hr.units) (Zj Yh (Z2 1) (Z3) (fun _ _=>rfl)) (Z2 2) (Yf _)) (N1 (Jw (Gk hr.units) (Zj Yh (Z2 1) (Z3) (fun _ _=>rfl)) (Z2 3) (Yf _)))))),(Z8 0)⟩) (by decide)))
theorem B0 (Df:Def K mg "wire_of" Qv) (T:Txt K mg)   : CalD P w K mg base 1 "wire_of" N58_ false Tl :=
 W6 (N:=N58_) (ps:=N58_) (st:=Qv) (k:=0) (g:=J6) Df Xx (fun _ _ _ _ _ _ us hl=>ar2 us hl fun _ _=>rfl) (fun f cdv A outer s H E hr=>(by
  unfold J6;exact (Zo (W1 (Zr Yh (Zj Yh (Zj Yh (Z2 0) (Z3) (fun _ _=>rfl)) (Z2 1) (fun _ _=>rfl)) (Z3) (fun _ _=>rfl))))))
theorem Aj (Df:Def K mg "is_rise" Qt) (T:Txt K mg)   : CalD P w K mg base 1 "is_rise" N58_ false Rn :=
 W6 (N:=N58_) (ps:=N58_) (st:=Qt) (k:=0) (g:=J7) Df Xf (fun _ _ _ _ _ _ us hl=>ar2 us hl fun _ _=>rfl) (fun f cdv A outer s H E hr=>(by
  unfold J7;exact (Zo (W1 (Zr Yh (Zj Yh (Zj Yh (Z2 0) (Z3) (fun _ _=>rfl)) (Z2 1) (fun _ _=>rfl)) (Z3) (fun _ _=>rfl))))))
theorem Fk (Df:Def K mg "takes_of" T4) (T:Txt K mg)   : CalD P w K mg base 1 "takes_of" N58_ false V1 :=
 W6 (N:=N58_) (ps:=N58_) (st:=T4) (k:=0) (g:=Te) Df Nc (fun _ _ _ _ _ _ us hl=>ar2 us hl fun _ _=>rfl) (fun f cdv A outer s H E hr=>(by
  unfold Te;exact (Zo (W1 (Zr Yh (Zj Yh (Zj Yh (Z2 0) (Z3) (fun _ _=>rfl)) (Z2 1) (fun _ _=>rfl)) (Z3) (fun _ _=>rfl))))))
theorem Xn (Df:Def K mg "fills_of" T6) (T:Txt K mg)   : CalD P w K mg base 1 "fills_of" N58_ false Tg :=
 W6 (N:=N58_) (ps:=N58_) (st:=T6) (k:=0) (g:=Ta) Df Oc (fun _ _ _ _ _ _ us hl=>ar2 us hl fun _ _=>rfl) (fun f cdv A outer s H E hr=>(by
  unfold Ta;exact (Zo (W1 (Zr Yh (Zj Yh (Zj Yh (Z2 0) (Z3) (fun _ _=>rfl)) (Z2 1) (fun _ _=>rfl)) (Z3) (fun _ _=>rfl))))))
theorem Z9b (Df:Def K mg "bits" Gz) (T:Txt K mg)   : CalD P w K mg base 1 "bits" ["some"] false M3 :=
 W6 (N:=["some","number","place"]) (ps:=["some"]) (st:=Gz) (k:=0) (g:=Gm) Df I0 (fun _ _ _ _ _ _ us hl=>ar1 us hl fun _=>rfl) (fun f cdv A outer s H E hr=>(by
  unfold Gm;exact (Z9 (Zp 1 I0.nd rfl (Or.inl rfl) (Zz))
  (Z9 (Q0 PassesOwn.never rfl (O0 (Z8 0)) (Zn 2 I0.nd rfl (Or.inl rfl)) (Zo (Zp 1 I0.nd rfl (Or.inl rfl) (Zi Z12 (Z2 1) (Zb Ej (Z3) (Z2 2))))))
  (Zo (W1 (Z8 1)))))))
theorem Z0k (Df:Def K mg "has_one" Ql) (T:Txt K mg)   : CalD P w K mg base 1 "has_one" N54_ false Rr :=
 W6 (N:=N54_) (ps:=N54_) (st:=Ql) (k:=0) (g:=Qk) Df Xj (fun _ _ _ _ _ _ us hl=>ar2 us hl fun _ _=>rfl) (fun f cdv A outer s H E hr=>(by
  unfold Qk;exact (Zo (W1 (T2 (Gk hr.units) (Zb Dv (Zb Z08 (Z2 0) (Z2 1)) (Z3)) (Z3) (Yf _))))))
theorem Zar (Df:Def K mg "can" Xy) (T:Txt K mg)  (C_bits:CalD P w K mg base 1 "bits" ["some"] false M3) (C_takes_of:CalD P w K mg base 1 "takes_of" N58_ false V1):CalD P w K mg base 2 "can" N42_ false Lm :=
 W6 (N:=["graph","stand","step","takes"]) (ps:=N42_) (st:=Xy) (k:=1) (g:=A9) Df Z3s (fun _ _ _ _ _ _ us hl=>ar3 us hl fun _ _ _=>rfl) (fun f cdv A outer s H E hr=>(by
  unfold A9;exact (Z9 (Zp 3 Z3s.nd rfl (Or.inl rfl) (Zl C_bits (hr.mono (by lia)) (Z0 (Zl C_takes_of (hr.mono (by lia)) (Z0 (Z8 0) (Z0 (Z8 2) Za))) Za)))
  (Zo (W1 (T2 (Gk hr.units) (Zb Dv (Zj Yh (Z2 1) (Z3) (fun _ _=>rfl)) (Z2 3)) (Z2 3) (Yf _)))))))
theorem Z1i (Df:Def K mg "behind" Mf) (T:Txt K mg)  (C_wire_of:CalD P w K mg base 1 "wire_of" N58_ false Tl) (C_bits:CalD P w K mg base 1 "bits" ["some"] false M3) (C_has_one:CalD P w K mg base 1 "has_one" N54_ false Rr) (C_is_rise:CalD P w K mg base 1 "is_rise" N58_ false Rn) (C_fills_of:CalD P w K mg base 1 "fills_of" N58_ false Tg) (C_takes_of:CalD P w K mg base 1 "takes_of" N58_ false V1):CalD P w K mg base 3 "behind" N42_ false Dj :=
 W6 (N:=N24_) (ps:=N42_) (st:=Mf) (k:=2) (g:=Me) Df Rc (fun _ _ _ _ _ _ us hl=>ar3 us hl fun _ _ _=>rfl) (fun f cdv A outer s H E hr=>(by
  unfold Me;exact (Z9 (Zp 3 Rc.nd rfl (Or.inl rfl) (Zl C_wire_of (hr.mono (by lia)) (Z0 (Z8 0) (Z0 (Z8 2) Za))))
  (Z9 (R9 (Jw (Gk hr.units) (Zt C_has_one (hr.mono (by lia)) (Z0 (Zr Yh (Z2 1) (Z3) (fun _ _=>rfl)) (Z0 (Z8 3) Za))) (Zt C_is_rise (hr.mono (by lia)) (Z0 (Z8 0) (Z0 (Z8 2) Za))) (Yf _)) (Zo Za8) Vz)
  (Z9 (Zp 4 Rc.nd rfl (Or.inl rfl) (Zi Dv (Zj Yh (Z2 1) (Z3) (fun _ _=>rfl)) (xun (m:=true) Z8f (Zt C_bits (hr.mono (by lia)) (Z0 (Zl C_takes_of (hr.mono (by lia)) (Z0 (Z8 0) (Z0 (Z8 2) Za))) Za)))))
  (Z9 (Zp 5 Rc.nd rfl (Or.inl rfl) (Zl C_bits (hr.mono (by lia)) (Z0 (Zl C_fills_of (hr.mono (by lia)) (Z0 (Z8 0) (Z0 (Z8 2) Za))) Za)))
  (Z9 (R9 (Jw (Ou hr.units) (Zb Dv (Z2 4) (Z2 5)) (Z3) (Yf _)) (Zo Za8) Vz)
  (Zo (W1 (Y0 (Z0 (Zi Z12 (Z2 4) (Z2 5)) (Z0 (Zi Z2d (Zj Yh (Z2 1) (Z3) (fun _ _=>rfl)) (Zb Ej (Z3) (Z2 3))) Za))))))))))))
theorem Fy (Df:Def K mg "steps_at" Vw) (T:Txt K mg)  (C_can:CalD P w K mg base 2 "can" N42_ false Lm):CalD P w K mg base 3 "steps_at" N55_ true Td :=
 W6 (N:=N55_) (ps:=N55_) (st:=Vw) (k:=2) (g:=Tf) Df Ng (fun _ _ _ _ _ _ us hl=>ar2 us hl fun _ _=>rfl) (fun f cdv A outer s H E hr=>(by
  unfold Tf;refine (Zo (G9 ?c0))
  case c0=>exact Qp (Z7 Vw) [none,some 0,some 1] N45_ rfl (show CompOk (Z7 Vw) _ N55_ N45_ [none,some 0,some 1] from CompOk.of (by decide +kernel)) rfl (Ys (by rfl) T.b_range (Z0 (Y4 Jg (by rfl) T.b_len (by decide +kernel) (Z0 (Zj Yh (Z2 0) (Z3) (fun _ _=>rfl)) Za)) Za)) (fun _ _ _ _=>⟨(Zn 0 (show (N45_:List Str).Nodup from by decide +kernel) rfl (Or.inl rfl)),(f_one (Ke (Zt C_can (hr.mono (by lia)) (Z0 (Z8 1) (Z0 (Z8 2) (Z0 (Z8 0) Za)))))),(Z8 0)⟩) (by decide)))
theorem Zas (Df:Def K mg "way" Fa) (T:Txt K mg)   : CalD P w K mg base 1 "way" N61_ true Ge :=
 W6 (N:=["found","n","steps","at"]) (ps:=N61_) (st:=Fa) (k:=0) (g:=Xc) Df Px (fun _ _ _ _ _ _ us hl=>ar2 us hl fun _ _=>rfl) (fun f cdv A outer s H E hr=>(by
  unfold Xc;exact (Z9 (Dd 2 Px.nd rfl (Or.inl rfl) (Ic Za))
  (Z9 (Zp 3 Px.nd rfl (Or.inl rfl) (Z8 1))
  (Z9 (At PassesOwn.never (Jw Zbl (Zj Yh (Zj Yh (Z2 0) (Z2 3) (fun _ _=>rfl)) (Z3) (fun _ _=>rfl)) (Zbj (m:=true)) (Yf _)) (Z9 (M6 2 PySem.F.slot_list_append PySem.F.type_list_append Jf (Z0 (Zr Yh (Zj Yh (Z2 0) (Z2 3) (fun _ _=>rfl)) (Z3) (fun _ _=>rfl)) Za))
  (Zo (Zp 3 Px.nd rfl (Or.inl rfl) (Zr Yh (Zj Yh (Z2 0) (Z2 3) (fun _ _=>rfl)) (Z3) (fun _ _=>rfl))))))
  (Zo (G9 (C6 (by rfl) T.b_list (by rfl) T.b_reversed (Z0 (xo 2) Za)))))))))
theorem Az (Df:Def K mg "come_to" Qj) (T:Txt K mg)  (C_behind:CalD P w K mg base 3 "behind" N42_ false Dj) (C_way:CalD P w K mg base 1 "way" N61_ true Ge):CalD P w K mg base 4 "come_to" N34_ false Ry :=
 W6 (N:=N34_) (ps:=N34_) (st:=Qj) (k:=3) (g:=Qw) Df Fb (fun _ _ _ _ _ _ us hl=>ar4 us hl fun _ _ _ _=>rfl) (fun f cdv A outer s H E hr=>(by
  unfold Qw;exact (Zo (Z5l (fun _=>(Zo (W1 (Zl C_behind (hr.mono (by lia)) (Z0 (Z8 0) (Z0 (L9 (m:=false) R7 (Zj Yh (Z2 1) (Z2 2) (fun _ _=>rfl)) Tr (Tw (Z3))) (Z0 (Z8 3) Za)))))))))))
theorem Z2q (Df:Def K mg "stands" Mj) (T:Txt K mg)  (C_steps_at:CalD P w K mg base 3 "steps_at" N55_ true Td) (C_come_to:CalD P w K mg base 4 "come_to" N34_ false Ry):CalD P w K mg base 5 "stands" N59_ true Rt :=
 W6 (N:=N16_) (ps:=N59_) (st:=Mj) (k:=4) (g:=Mg) Df Uu (fun _ _ _ _ _ _ us hl=>ar2 us hl fun _ _=>rfl) (fun f cdv A outer s H E hr=>(by
  unfold Mg;exact (Z9 (Dd 2 Uu.nd rfl (Or.inl rfl) (Ic (Z0 (Y0 (Z0 (Zr Yh (Z2 0) (Z3) (fun _ _=>rfl)) (Z0 (Zr Yh (Z2 0) (Z3) (fun _ _=>rfl)) (Z0 (Md) (Z0 (Md) Za))))) Za)))
  (Z9 (Z89 3 Uu.nd rfl (Or.inl rfl) (Z4n hr) (Q4 (Z0 (Zr Yh (Z2 0) (Z3) (fun _ _=>rfl)) (Z0 (Zr Yh (Z2 0) (Z3) (fun _ _=>rfl)) Za))) (U1))
  (Z9 (Zp 4 Uu.nd rfl (Or.inl rfl) (Zz))
  (Z9 (At PassesOwn.never (Jw Zba (Z2 4) (Y4 Jg (by rfl) T.b_len (by decide +kernel) (Z0 (xo 2) Za)) (Yf _)) (Z9 (Zp 5 Uu.nd rfl (Or.inl rfl) (Zl C_steps_at (hr.mono (by lia)) (Z0 (Z8 0) (Z0 (L9 (m:=false) R7 (Zj Yh (xo 2) (Z2 4) (fun _ _=>rfl)) Tr (Tw (Z3))) Za))))
  (Z9 (Q0 PassesOwn.never rfl (O0 (Z8 5)) (Zn 6 Uu.nd rfl (Or.inl rfl)) (Z9 (Zp 7 Uu.nd rfl (Or.inl rfl) (Zb8 (m:=false) C_come_to (hr.mono (by lia)) (Z0 (Z2 0) (Z0 (xo 2) (Z0 (Z2 4) (Z0 (Z2 6) Za))))))
  (Z9 (R9 (Zdn 3 (Z4n hr) (Z2 7)) (Zo Z6q) Vz)
  (Z9 (R9 (Jw Zcn (Y4 Jg (by rfl) T.b_len (by decide +kernel) (Z0 (xo 2) Za)) (Z2 1) (Yf _)) (Zo Za8) Vz)
  (Z9 (Z76 3 (Z4n hr) (Z2 7) (U1))
  (Zo (M6 2 PySem.F.slot_list_append PySem.F.type_list_append Jf (Z0 (Y0 (Z0 (Zr Yh (Z2 7) (Z3) (fun _ _=>rfl)) (Z0 (Zr Yh (Z2 7) (Z3) (fun _ _=>rfl)) (Z0 (Z8 4) (Z0 (Z8 6) Za))))) Za))))))))
  (Zo (Zbs 4 Uu.nd rfl (Or.inl rfl) (Zz))))))
  (Zo (N6 2))))))))
theorem Ol (Df:Def K mg "is_called" Wr) (T:Txt K mg)  (C_can:CalD P w K mg base 2 "can" N42_ false Lm) (C_steps_of:CalD P w K mg base 1 "steps_of" N51_ true Mh):CalD P w K mg base 3 "is_called" N35_ false Tn :=
 W6 (N:=N35_) (ps:=N35_) (st:=Wr) (k:=2) (g:=Ug) Df Lr (fun _ _ _ _ _ _ us hl=>ar4 us hl fun _ _ _ _=>rfl) (fun f cdv A outer s H E hr=>(by
  unfold Ug;refine (Zo (W1 (Qx (Z9j rfl) (by rfl) T.b_any (by decide +kernel) (Z0 (Yk ?c0) Za))))
  case c0=>exact Qp (Z7 Wr) [none,some 0,some 1] N45_ rfl (show CompOk (Z7 Wr) _ N35_ N45_ [none,some 0,some 1] from CompOk.of (by decide +kernel)) rfl (Mz (Zt C_steps_of (hr.mono (by lia)) (Z0 (Z8 0) (Z0 (Z8 2) (Z0 (Z8 3) Za))))) (fun _ _ _ _=>⟨(Zn 0 (show (N45_:List Str).Nodup from by decide +kernel) rfl (Or.inl rfl)),S6,(Zl C_can (hr.mono (by lia)) (Z0 (Z8 1) (Z0 (Z8 2) (Z0 (Z8 0) Za))))⟩) (by decide)))
theorem Z5e (Df:Def K mg "wants" Sl) (T:Txt K mg)  (C_is_called:CalD P w K mg base 3 "is_called" N35_ false Tn):CalD P w K mg base 4 "wants" N43_ false E1 :=
 W6 (N:=N43_) (ps:=N43_) (st:=Sl) (k:=3) (g:=Sv) Df Z1n (fun _ _ _ _ _ _ us hl=>ar3 us hl fun _ _ _=>rfl) (fun f cdv A outer s H E hr=>(by
  unfold Sv;exact (Z9 (R9 (Ke (Zt C_is_called (hr.mono (by lia)) (Z0 (Z8 0) (Z0 (Z8 1) (Z0 (Z8 2) (Z0 (U1) Za)))))) (Zo (W1 (Zz))) Vz)
  (Z9 (R9 (Ke (Zt C_is_called (hr.mono (by lia)) (Z0 (Z8 0) (Z0 (Z8 1) (Z0 (Z8 2) (Z0 (U1) Za)))))) (Zo (W1 (xun (m:=false) Zc2 (Z3)))) Vz)
  (Zo (W1 (Zz)))))))
theorem Z81 (Df:Def K mg "robs" Hi) (T:Txt K mg)  (C_bits:CalD P w K mg base 1 "bits" ["some"] false M3) (C_takes_of:CalD P w K mg base 1 "takes_of" N58_ false V1) (C_fills_of:CalD P w K mg base 1 "fills_of" N58_ false Tg):CalD P w K mg base 2 "robs" N52_ false P8 :=
 W6 (N:=["graph","by","lost","kept"]) (ps:=N52_) (st:=Hi) (k:=1) (g:=H0) Df Bp (fun _ _ _ _ _ _ us hl=>ar3 us hl fun _ _ _=>rfl) (fun f cdv A outer s H E hr=>(by
  unfold H0;exact (Z9 (Zp 3 Bp.nd rfl (Or.inl rfl) (Zi Dv (Zt C_bits (hr.mono (by lia)) (Z0 (Zl C_takes_of (hr.mono (by lia)) (Z0 (Z8 0) (Z0 (Z8 1) Za))) Za)) (xun (m:=true) Z8f (Zt C_bits (hr.mono (by lia)) (Z0 (Zl C_fills_of (hr.mono (by lia)) (Z0 (Z8 0) (Z0 (Z8 1) Za))) Za)))))
  (Zo (W1 (T2 (Ou hr.units) (Zb Dv (Z2 3) (Zt C_bits (hr.mono (by lia)) (Z0 (Zl C_takes_of (hr.mono (by lia)) (Z0 (Z8 0) (Z0 (Z8 2) Za))) Za))) (Z3) (Yf _)))))))
theorem Gg (Df:Def K mg "touches_made" Wl) (T:Txt K mg)  (C_is_made:CalD P w K mg base 1 "is_made" N57_ false Ut) (C_wire_of:CalD P w K mg base 1 "wire_of" N58_ false Tl):CalD P w K mg base 2 "touches_made" N52_ false Uo :=
 W6 (N:=N52_) (ps:=N52_) (st:=Wl) (k:=1) (g:=Wk) Df Ei (fun _ _ _ _ _ _ us hl=>ar3 us hl fun _ _ _=>rfl) (fun f cdv A outer s H E hr=>(by
  unfold Wk;exact (Zo (W1 (xor (m:=false) (Zt C_is_made (hr.mono (by lia)) (Z0 (Z8 0) (Z0 (Zl C_wire_of (hr.mono (by lia)) (Z0 (Z8 0) (Z0 (Z8 1) Za))) Za))) (Zae (Zl C_is_made (hr.mono (by lia)) (Z0 (Z8 0) (Z0 (Zl C_wire_of (hr.mono (by lia)) (Z0 (Z8 0) (Z0 (Z8 2) Za))) Za)))))))))
theorem Z2m (Df:Def K mg "rivals" Mn) (T:Txt K mg)  (C_touches_made:CalD P w K mg base 2 "touches_made" N52_ false Uo) (C_robs:CalD P w K mg base 2 "robs" N52_ false P8):CalD P w K mg base 3 "rivals" N65_ true Do :=
 W6 (N:=["graph","pairs","by","lost"]) (ps:=N65_) (st:=Mn) (k:=2) (g:=Mi) Df Rz (fun _ _ _ _ _ _ us hl=>ar1 us hl fun _=>rfl) (fun f cdv A outer s H E hr=>(by
  unfold Mi;exact (Z9 (Dd 1 Rz.nd rfl (Or.inl rfl) (Ic Za))
  (Z9 (Q0 PassesOwn.never rfl (Ys (by rfl) T.b_range (Z0 (Y4 Jg (by rfl) T.b_len (by decide +kernel) (Z0 (Zj Yh (Z2 0) (Z3) (fun _ _=>rfl)) Za)) Za)) (Zn 2 Rz.nd rfl (Or.inl rfl)) (Zo (Q0 PassesOwn.never rfl (Ys (by rfl) T.b_range (Z0 (Y4 Jg (by rfl) T.b_len (by decide +kernel) (Z0 (Zj Yh (Z2 0) (Z3) (fun _ _=>rfl)) Za)) Za)) (Zn 3 Rz.nd rfl (Or.inl rfl)) (Zo (R9 (PWd.pt (Fd (Jw (Ou hr.units) (Z2 2) (Z2 3) (Yf _)) (Fd (Ke (Zt C_touches_made (hr.mono (by lia)) (Z0 (Z8 0) (Z0 (Z8 2) (Z0 (Z8 3) Za))))) (N1 (Ke (Zt C_robs (hr.mono (by lia)) (Z0 (Z8 0) (Z0 (Z8 2) (Z0 (Z8 3) Za))))))))) (Zo (M6 1 PySem.F.slot_list_append PySem.F.type_list_append Jf (Z0 (Y0 (Z0 (Z8 2) (Z0 (Z8 3) Za))) Za))) Vz)))))
  (Zo (N6 1))))))
theorem Z5w (Df:Def K mg "sound" Sf) (T:Txt K mg)  (C_stands:CalD P w K mg base 5 "stands" N59_ true Rt) (C_rivals:CalD P w K mg base 3 "rivals" N65_ true Do) (C_steps_at:CalD P w K mg base 3 "steps_at" N55_ true Td) (C_way:CalD P w K mg base 1 "way" N61_ true Ge):CalD P w K mg base 6 "sound" N59_ false M1 :=
 W6 (N:=N13_) (ps:=N59_) (st:=Sf) (k:=5) (g:=Sg) Df Qa (fun _ _ _ _ _ _ us hl=>ar2 us hl fun _ _=>rfl) (fun f cdv A outer s H E hr=>(by
  unfold Sg;exact (Z9 (Zp 2 Qa.nd rfl (Or.inl rfl) (Zl C_stands (hr.mono (by lia)) (Z0 (Z8 0) (Z0 (Z8 1) Za))))
  (Z9 (Zp 3 Qa.nd rfl (Or.inl rfl) (Zl C_rivals (hr.mono (by lia)) (Z0 (Z8 0) Za)))
  (Z9 (Q0 PassesOwn.never rfl (Lq (by rfl) T.b_enumerate (Z8 2)) (S7 (n:=2) rfl (Y3 (Zn 4 Qa.nd rfl (Or.inl rfl)) (Y3 (Zn 5 Qa.nd rfl (Or.inl rfl)) Q8))) (Z9 (Zp 6 Qa.nd rfl (Or.inl rfl) (Zl C_steps_at (hr.mono (by lia)) (Z0 (Z8 0) (Z0 (L9 (m:=false) R7 (Z2 5) Tr (Tw (Z3))) Za))))
  (Zo (Q0 PassesOwn.never rfl (O0 (Z8 3)) (S7 (n:=2) rfl (Y3 (Zn 7 Qa.nd rfl (Or.inl rfl)) (Y3 (Zn 8 Qa.nd rfl (Or.inl rfl)) Q8))) (Zo (R9 (PWd.pt (Fd (Jw (Zbw hr.units) (Z2 7) (Z2 6) (by rfl)) (N1 (Jw (Zbw hr.units) (Z2 8) (Z2 6) (by rfl))))) (Zo Za8) Vz))))))
  (Zo (W1 (Z8 2))))))))
theorem F4 (Df:Def K mg "wants_of" Vq) (T:Txt K mg)  (C_wants:CalD P w K mg base 4 "wants" N43_ false E1):CalD P w K mg base 5 "wants_of" N40_ true J8 :=
 W6 (N:=N40_) (ps:=N40_) (st:=Vq) (k:=4) (g:=T7) Df Of (fun _ _ _ _ _ _ us hl=>ar3 us hl fun _ _ _=>rfl) (fun f cdv A outer s H E hr=>(by
  unfold T7;refine (Zo (G9 ?c0))
  case c0=>exact Qp (Z7 Vq) [none,some 0,some 1] N46_ rfl (show CompOk (Z7 Vq) _ N40_ N46_ [none,some 0,some 1] from CompOk.of (by decide +kernel)) rfl (Mz (Z2 2)) (fun _ _ _ _=>⟨(Zn 0 (show (N46_:List Str).Nodup from by decide +kernel) rfl (Or.inl rfl)),S6,(Zl C_wants (hr.mono (by lia)) (Z0 (Z8 1) (Z0 (Z8 2) (Z0 (Z8 0) Za))))⟩) (by decide)))
theorem Z2l (Df:Def K mg "unlike" Qb) (T:Txt K mg)   : CalD P w K mg base 1 "unlike" N47_ true Ds :=
 W6 (N:=N47_) (ps:=N47_) (st:=Qb) (k:=0) (g:=Ml) Df Ah (fun _ _ _ _ _ _ us hl=>ar3 us hl fun _ _ _=>rfl) (fun f cdv A outer s H E hr=>(by
  unfold Ml;refine (Zo (G9 ?c0))
  case c0=>exact Qp (Z7 Qb) [none,none,some 1,some 2] N33_ rfl (show CompOk (Z7 Qb) _ N47_ N33_ [none,none,some 1,some 2] from CompOk.of (by decide +kernel)) rfl (Z04 (by rfl) T.b_enumerate (Z2 0)) (fun _ _ _ _=>⟨(S7 (n:=2) rfl (Y3 (Zn 0 (show (N33_:List Str).Nodup from by decide +kernel) rfl (Or.inl rfl)) (Y3 (Zn 1 (show (N33_:List Str).Nodup from by decide +kernel) rfl (Or.inl rfl)) Q8))),(f_one (Jw (Ou hr.units) (Zj Yh (Z2 2) (Z2 0) (fun _ _=>rfl)) (Zj Yh (Z2 3) (Z2 0) (fun _ _=>rfl)) (Yf _))),(Z8 1)⟩) (by decide)))
theorem G4 (Df:Def K mg "clashes_among" Ya) (T:Txt K mg)  (C_made:CalD P w K mg base 2 "made" N65_ true X6) (C_wants_of:CalD P w K mg base 5 "wants_of" N40_ true J8) (C_unlike:CalD P w K mg base 1 "unlike" N47_ true Ds):CalD P w K mg base 6 "clashes_among" N56_ true Yd :=
 W6 (N:=N21_) (ps:=N56_) (st:=Ya) (k:=5) (g:=W9) Df W0 (fun _ _ _ _ _ _ us hl=>ar2 us hl fun _ _=>rfl) (fun f cdv A outer s H E hr=>(by
  unfold W9;refine (Z9 (Zp 2 W0.nd rfl (Or.inr rfl) (Zl C_made (hr.mono (by lia)) (Z0 (Z8 0) Za)))
  (Z9 (Hn 3 W0.nd rfl (Or.inl rfl) (Z7 Ya) [none,some 0,some 2] N41_ rfl (show CompOk (Z7 Ya) _ N21_ N41_ [none,some 0,some 2] from CompOk.of (by decide +kernel)) rfl (Mz (Z2 1)) (fun _ _ _ _=>⟨(Zn 0 (show (N41_:List Str).Nodup from by decide +kernel) rfl (Or.inl rfl)),S6,(Zl C_wants_of (hr.mono (by lia)) (Z0 (Z8 1) (Z0 (L9 (m:=false) R7 (Z2 0) Tr (Tw (Z3))) (Z0 (Z8 2) Za))))⟩) (by decide))
  (Z9 (Dd 4 W0.nd rfl (Or.inl rfl) (Ic Za))
  (Z9 (Q0 PassesOwn.never rfl (Ys (by rfl) T.b_range (Z0 (Y4 Jg (by rfl) T.b_len (by decide +kernel) (Z0 (Z2 1) Za)) Za)) (Zn 5 W0.nd rfl (Or.inr rfl)) (Zo (Q0 PassesOwn.never rfl (Z2g (by rfl) T.b_range (Z0 (Zb Yi (Z2 5) (Z3)) (Z0 (Y4 Jg (by rfl) T.b_len (by decide +kernel) (Z0 (Z2 1) Za)) Za))) (Zn 6 W0.nd rfl (Or.inr rfl)) (Zo (R9 (Jw (Gk hr.units) (Zj Yh (Zj Yh (Z2 1) (Z2 5) (fun _ _=>rfl)) (Z3) (fun _ _=>rfl)) (Zj Yh (Zj Yh (Z2 1) (Z2 6) (fun _ _=>rfl)) (Z3) (fun _ _=>rfl)) (Yf _)) (Zo (M6 4 PySem.F.slot_list_extend PySem.F.type_list_extend Z2w (Z0 (PNd.x (m:=false) ?c0) Za))) Vz)))))
  (Zo (N6 4))))))
  case c0=>exact Qp (Z7 Ya) [none,some 5,some 6] ["wire","n","m"] rfl (show CompOk (Z7 Ya) _ N21_ ["wire","n","m"] [none,some 5,some 6] from CompOk.of (by decide +kernel)) rfl (Mz (Zt C_unlike (hr.mono (by lia)) (Z0 (Z8 2) (Z0 (Zr Yh (Z2 3) (Z2 5) (fun _ _=>rfl)) (Z0 (Zr Yh (Z2 3) (Z2 6) (fun _ _=>rfl)) Za))))) (fun _ _ _ _=>⟨(Zn 0 (show (["wire","n","m"]:List Str).Nodup from by decide +kernel) rfl (Or.inl rfl)),S6,(Y0 (Z0 (Z8 1) (Z0 (Z8 2) (Z0 (Z8 0) Za))))⟩) (by decide)))
theorem Ao (Df:Def K mg "clashes" Qn) (T:Txt K mg)  (C_clashes_among:CalD P w K mg base 6 "clashes_among" N56_ true Yd) (C_sound:CalD P w K mg base 6 "sound" N59_ false M1):CalD P w K mg base 7 "clashes" N59_ true Qm :=
 W6 (N:=N59_) (ps:=N59_) (st:=Qn) (k:=6) (g:=Qi) Df A8 (fun _ _ _ _ _ _ us hl=>ar2 us hl fun _ _=>rfl) (fun f cdv A outer s H E hr=>(by
  unfold Qi;exact (Zo (G9 (Zdz C_clashes_among (hr.mono (by lia)) (Z0 (Z8 0) (Z0 (Zl C_sound (hr.mono (by lia)) (Z0 (Z8 0) (Z0 (Z8 1) Za))) Za)))))))
theorem Nx (Df:Def K mg "need_none" Uk) (T:Txt K mg) (M_4:XMake P w K mg base 1 "Clash" 3 (gK "one" "other" "wire")) (C_sound:CalD P w K mg base 6 "sound" N59_ false M1) (C_clashes_among:CalD P w K mg base 6 "clashes_among" N56_ true Yd) (C_way:CalD P w K mg base 1 "way" N61_ true Ge):CalX P w K mg base 7 "need_none" N59_ false Tq :=
 Z9e (N:=["graph","most","found","told","first"]) (ps:=N59_) (st:=Uk) (k:=6) (g:=Ud) Df Q2 (fun _ _ _ _ _ _ us hl=>ar2 us hl fun _ _=>rfl) (fun f cdv A outer s H E hr=>(by
  unfold Ud;exact (Z9 (Zp 2 Q2.nd rfl (Or.inl rfl) (Zl C_sound (hr.mono (by lia)) (Z0 (Z8 0) (Z0 (Z8 1) Za))))
  (Z9 (Zp 3 Q2.nd rfl (Or.inl rfl) (Zl C_clashes_among (hr.mono (by lia)) (Z0 (Z8 0) (Z0 (Z8 2) Za))))
  (Z9 (R9 (Jw Zd4 (Y4 Jg (by rfl) T.b_len (by decide +kernel) (Z0 (Z2 3) Za)) (Z3) (Yf _)) (Z9 (Zp 4 Q2.nd rfl (Or.inl rfl) (Zr Yh (Z2 3) (Z3) (fun _ _=>rfl)))
  (Zo (Z53 M_4 (hr.mono (by lia)) rfl (Z0 (Zl C_way (hr.mono (by lia)) (Z0 (Z8 2) (Z0 (Zr Yh (Z2 4) (Z3) (fun _ _=>rfl)) Za))) (Z0 (Zl C_way (hr.mono (by lia)) (Z0 (Z8 2) (Z0 (Zr Yh (Z2 4) (Z3) (fun _ _=>rfl)) Za))) (Z0 (Zr Yh (Z2 4) (Z3) (fun _ _=>rfl)) Za)))))) Vz)
  (Zo (W1 (Z8 2))))))))
theorem Xv (Df:Def K mg "_law_mix" Tb) (T:Txt K mg)   : CalD P w K mg base 1 "_law_mix" N44_ false Zw :=
 W6 (N:=["_law_script","_law_k","_law_number"]) (ps:=N44_) (st:=Tb) (k:=0) (g:=T8) Df R6 (fun _ _ _ _ _ _ us hl=>ar2 us hl fun _ _=>rfl) (fun f cdv A outer s H E hr=>(by
  unfold T8;exact (Z9 (Zp 2 R6.nd rfl (Or.inl rfl) (Zi Yi (Zb D3 (Z3) (Z2 1)) (Z3)))
  (Z9 (R9 (Jw Zba (Z2 1) (Y4 Jg (by rfl) T.b_len (by decide +kernel) (Z0 (Z2 0) Za)) (Yf _)) (Zo (Zp 2 R6.nd rfl (Or.inl rfl) (Zi Yi (Z2 2) (Zb D3 (Zj Yh (Z2 0) (Z2 1) (fun _ _=>rfl)) (Z3))))) Vz)
  (Zo (W1 (Zi Vy (Zb D3 (Z2 2) (Z3)) (Z3))))))))
theorem Nn (Df:Def K mg "_law_word" Ue) (T:Txt K mg)   : CalD P w K mg base 1 "_law_word" N50_ false W4 :=
 W6 (N:=N7_) (ps:=N50_) (st:=Ue) (k:=0) (g:=Ui) Df Yq (fun _ _ _ _ _ _ us hl=>ar2 us hl fun _ _=>rfl) (fun f cdv A outer s H E hr=>(by
  unfold Ui;exact (Z9 (Zp 2 Yq.nd rfl (Or.inl rfl) (Wq))
  (Z9 (Zp 3 Yq.nd rfl (Or.inl rfl) (Zi Yi (Z3) (Zb Vy (Z2 0) (Z3))))
  (Z9 (Zp 4 Yq.nd rfl (Or.inl rfl) (Zi Vy (Zb Wh (Z2 0) (Z3)) (Z2 3)))
  (Z9 (Zp 5 Yq.nd rfl (Or.inl rfl) (Wq))
  (Z9 (Q0 PassesOwn.never rfl (Ys (by rfl) T.b_range (Z0 (Z2 3) Za)) (Zn 6 Yq.nd rfl (Or.inl rfl)) (Z9 (Zp 7 Yq.nd rfl (Or.inl rfl) (Zz))
  (Z9 (R9 (Jw (Gk hr.units) (Z2 6) (Z2 4) (Yf _)) (Zo (Zp 7 Yq.nd rfl (Or.inl rfl) (Z8 1))) Vz)
  (Zo (Zp 5 Yq.nd rfl (Or.inl rfl) (Zi Yi (Z2 5) (Zj Yh (Z2 2) (Zb Vy (Zb Yi (Zb Yi (Zb Wh (Z2 0) (Z3)) (Zb D3 (Z3) (Z2 6))) (Zb D3 (Z3) (Z2 7))) (Z3)) (fun _ _=>rfl))))))))
  (Z9 (R9 (Jw (Zbw hr.units) (Z2 5) (Yk (Ic (Z0 (Wq) (Z0 (Wq) (Z0 (Wq) (Z0 (Wq) (Z0 (Wq) Za))))))) (by rfl)) (Zo (Zp 5 Yq.nd rfl (Or.inl rfl) (Zi Yi (W8 R7 (Z2 5) (Tw (Z3)) Tr) (Zaj (m:=true))))) Vz)
  (Zo (W1 (Z8 5)))))))))))
theorem Kx (Df:Def K mg "_law_order" Vp) (T:Txt K mg)  (C__law_mix:CalD P w K mg base 1 "_law_mix" N44_ false Zw):CalD P w K mg base 2 "_law_order" N29_ true Q5 :=
 W6 (N:=N8_) (ps:=N29_) (st:=Vp) (k:=1) (g:=Vs) Df Ww (fun _ _ _ _ _ _ us hl=>ar3 us hl fun _ _ _=>rfl) (fun f cdv A outer s H E hr=>(by
  unfold Vs;exact (Z9 (Dd 3 Ww.nd rfl (Or.inl rfl) (Ic Za))
  (Z9 (Q0 PassesOwn.never rfl (Ys (by rfl) T.b_range (Z0 (Z2 2) Za)) (Zn 4 Ww.nd rfl (Or.inl rfl)) (Z9 (Zp 5 Ww.nd rfl (Or.inl rfl) (Zl C__law_mix (hr.mono (by lia)) (Z0 (Z8 0) (Z0 (Zi Yi (Z2 1) (Z2 4)) Za))))
  (Z9 (Zp 6 Ww.nd rfl (Or.inl rfl) (Zi Vy (Z2 5) (Zb Yi (Y4 Jg (by rfl) T.b_len (by decide +kernel) (Z0 (xo 3) Za)) (Z3))))
  (Z9 (M6 3 PySem.F.slot_list_insert PySem.F.type_list_insert K0 (Z0 (Z8 6) (Z0 (Z8 4) Za)))
  (Z9 (Zp 7 Ww.nd rfl (Or.inl rfl) (Zi Vy (Zb Wh (Z2 5) (Z3)) (Zb Cp (Y4 Jg (by rfl) T.b_len (by decide +kernel) (Z0 (xo 3) Za)) (Z2 6))))
  (Zo (M6 3 PySem.F.slot_list_insert PySem.F.type_list_insert K0 (Z0 (Zi Yi (Zb Yi (Z2 6) (Z3)) (Z2 7)) (Z0 (Z8 4) Za)))))))))
  (Zo (N6 3))))))
theorem Ij (Df:Def K mg "_law_arrows" V2) (T:Txt K mg)  (C__law_mix:CalD P w K mg base 1 "_law_mix" N44_ false Zw):CalD P w K mg base 2 "_law_arrows" N20_ true T1 :=
 W6 (N:=N5_) (ps:=N20_) (st:=V2) (k:=1) (g:=V6) Df Wn (fun _ _ _ _ _ _ us hl=>ar4 us hl fun _ _ _ _=>rfl) (fun f cdv A outer s H E hr=>(by
  unfold V6;exact (Z9 (Dd 4 Wn.nd rfl (Or.inl rfl) (Ic Za))
  (Z9 (Q0 PassesOwn.never rfl (Ys (by rfl) T.b_range (Z0 (Z2 2) Za)) (Zn 5 Wn.nd rfl (Or.inl rfl)) (Z9 (Zp 6 Wn.nd rfl (Or.inl rfl) (Zl C__law_mix (hr.mono (by lia)) (Z0 (Z8 0) (Z0 (Zi Yi (Z2 1) (Z2 5)) Za))))
  (Z9 (Zp 7 Wn.nd rfl (Or.inl rfl) (Zi Vy (Z2 6) (Z2 3)))
  (Z9 (Zp 8 Wn.nd rfl (Or.inl rfl) (Zi Vy (Zb Wh (Z2 6) (Z3)) (Z2 3)))
  (Zo (R9 (PWd.pt (Fd (Jw (Ou hr.units) (Z2 7) (Z2 8) (Yf _)) (N1 (Jw (Z7e hr.units) (Q4 (Z0 (Qx (Z8a rfl) (by rfl) T.b_min (by decide +kernel) (Z0 (Z2 7) (Z0 (Z2 8) Za))) (Z0 (Qx (Z9x rfl) (by rfl) T.b_max (by decide +kernel) (Z0 (Z2 7) (Z0 (Z2 8) Za))) Za))) (xo 4) (by rfl))))) (Zo (M6 4 PySem.F.slot_list_append PySem.F.type_list_append Jf (Z0 (Y0 (Z0 (Qx (Z8a rfl) (by rfl) T.b_min (by decide +kernel) (Z0 (Z2 7) (Z0 (Z2 8) Za))) (Z0 (Qx (Z9x rfl) (by rfl) T.b_max (by decide +kernel) (Z0 (Z2 7) (Z0 (Z2 8) Za))) Za))) Za))) Vz))))))
  (Zo (N6 4))))))
theorem L0 (Df:Def K mg "_law_graph" Y1) (T:Txt K mg)  (C__law_order:CalD P w K mg base 2 "_law_order" N29_ true Q5) (C__law_mix:CalD P w K mg base 1 "_law_mix" N44_ false Zw) (C__law_arrows:CalD P w K mg base 2 "_law_arrows" N20_ true T1) (C__law_word:CalD P w K mg base 1 "_law_word" N50_ false W4):CalD P w K mg base 3 "_law_graph" N22_ false Q7 :=
 W6 (N:=N0_) (ps:=N22_) (st:=Y1) (k:=2) (g:=Vr) Df Zh (fun _ _ _ _ _ _ us hl=>ar4 us hl fun _ _ _ _=>rfl) (fun f cdv A outer s H E hr=>(by
  unfold Vr;refine (Z9 (Zp 4 Zh.nd rfl (Or.inl rfl) (Zl C__law_order (hr.mono (by lia)) (Z0 (Z8 0) (Z0 (Z8 1) (Z0 (Z8 2) Za)))))
  (Z9 (Zp 5 Zh.nd rfl (Or.inl rfl) (Zi D3 (Z3) (Z2 2)))
  (Z9 (Zp 6 Zh.nd rfl (Or.inl rfl) (Zl C__law_mix (hr.mono (by lia)) (Z0 (Z8 0) (Z0 (Zi Yi (Z2 1) (Z2 2)) Za))))
  (Z9 (Zp 7 Zh.nd rfl (Or.inr rfl) (Zl C__law_arrows (hr.mono (by lia)) (Z0 (Z8 0) (Z0 (Zi Yi (Zb Yi (Z2 1) (Z2 2)) (Z3)) (Z0 (Z8 3) (Z0 (Z8 5) Za))))))
  (Z9 (R9 (Jw (Gk hr.units) (Zb Vy (Z2 6) (Z3)) (Z3) (Yf _)) (Zo (Zp 7 Zh.nd rfl (Or.inr rfl) (Zi Yi (Z2 7) (Yk ?c0)))) Vz)
  (Z9 (Q0 PassesOwn.never rfl (Ys (by rfl) T.b_range (Z0 (Z2 2) Za)) (Zn 8 Zh.nd rfl (Or.inl rfl)) (Z9 (Zp 9 Zh.nd rfl (Or.inr rfl) (xbm (m:=false) PySem.F.plainAttrs_list PySem.F.slot_list_index PySem.F.type_list_index Ow (Z2 4) (Z0 (Z2 8) Za)))
  (Z9 (Zp 10 Zh.nd rfl (Or.inr rfl) (Zi Yi (Zb Yi (Z2 9) (Z3)) (xbm (m:=true) PySem.F.plainAttrs_list PySem.F.slot_list_index PySem.F.type_list_index Ow (W8 R7 (Z2 4) (Tw (Zb Yi (Z2 9) (Z3))) Tr) (Z0 (Z2 8) Za))))
  (Zo (Zp 7 Zh.nd rfl (Or.inr rfl) (Zi Yi (Yk ?c1) (Yk (Ic (Z0 (Y0 (Z0 (Z8 9) (Z0 (Z8 10) Za))) Za)))))))))
  (Z9 (Z3i 11 Zh.nd rfl (Or.inl rfl) (Z7 Y1) [none] ["_law_d"] rfl (show CompOk (Z7 Y1) _ N0_ ["_law_d"] [none] from CompOk.of (by decide +kernel)) rfl (Mz (Z2 4)) (fun _ _ _ _=>⟨(Zn 0 (show (["_law_d"]:List Str).Nodup from by decide +kernel) rfl (Or.inl rfl)),S6⟩) (by decide))
  (Z9 (Z3i 12 Zh.nd rfl (Or.inl rfl) (Z7 Y1) [none] ["_law_d"] rfl (show CompOk (Z7 Y1) _ N0_ ["_law_d"] [none] from CompOk.of (by decide +kernel)) rfl (Mz (Z2 4)) (fun _ _ _ _=>⟨(Zn 0 (show (["_law_d"]:List Str).Nodup from by decide +kernel) rfl (Or.inl rfl)),S6⟩) (by decide))
  (Z9 (Zp 13 Zh.nd rfl (Or.inl rfl) (Zz))
  (Z9 (Zp 14 Zh.nd rfl (Or.inl rfl) (Zi Vy (Zb Wh (Z2 6) (Z3)) (Z3)))
  (Z9 (Q0 PassesOwn.never rfl (O0 (Z8 7)) (S7 (n:=2) rfl (Y3 (Zn 15 Zh.nd rfl (Or.inl rfl)) (Y3 (Zn 16 Zh.nd rfl (Or.inl rfl)) Q8))) (Z9 (Pi 12 (Z2 15) (fun _ _=>rfl) (Z0 (Z8 14) Za))
  (Z9 (Pi 11 (Z2 16) (fun _ _=>rfl) (Z0 (Z8 14) Za))
  (Z9 (Pi 12 (Z2 16) (fun _ _=>rfl) (Z0 (Zi Yi (Z2 14) (Z3)) Za))
  (Z9 (Pi 11 (Z2 15) (fun _ _=>rfl) (Z0 (Zi Yi (Z2 14) (Z3)) Za))
  (Z9 (Zp 13 Zh.nd rfl (Or.inl rfl) (Zi Z12 (Z2 13) (Zb Ej (Z3) (Zb Yi (Z2 14) (Z3)))))
  (Zo (Zp 14 Zh.nd rfl (Or.inl rfl) (Zi Yi (Z2 14) (Z3))))))))))
  (Z9 (Zp 17 Zh.nd rfl (Or.inl rfl) (Zi Vy (Zb Wh (Z2 6) (Z3)) (Zb Ej (Z3) (Z2 2))))
  (Z9 (Zp 18 Zh.nd rfl (Or.inl rfl) (Z8 17))
  (Z9 (Dd 19 Zh.nd rfl (Or.inl rfl) (Ic Za))
  (Z9 (Q0 PassesOwn.never rfl (Lq (by rfl) T.b_enumerate (Z8 4)) (S7 (n:=2) rfl (Y3 (Zn 20 Zh.nd rfl (Or.inl rfl)) (Y3 (Zn 8 Zh.nd rfl (Or.inl rfl)) Q8))) (Z9 (M6 19 PySem.F.slot_list_append PySem.F.type_list_append Jf (Z0 (Y0 (Z0 (Z8 8) (Z0 (T2 (Gk hr.units) (Zb Dv (Zb Z08 (Z2 18) (Z2 8)) (Z3)) (Z3) (Yf _)) (Z0 (Q3 (m:=false) Tt (by rfl) T.b_tuple (by decide +kernel) (Z0 (Yk (Oo S3 (by rfl) T.b_sorted (by decide +kernel) (Z0 (Zd0 11 (Z2 20) (fun _ _=>rfl)) Za))) Za)) (Z0 (Q3 (m:=false) Tt (by rfl) T.b_tuple (by decide +kernel) (Z0 (Yk (Oo S3 (by rfl) T.b_sorted (by decide +kernel) (Z0 (Zd0 12 (Z2 20) (fun _ _=>rfl)) Za))) Za)) Za))))) Za))
  (Zo (Zp 18 Zh.nd rfl (Or.inl rfl) (Zi Z2d (Z2 18) (Zb Ej (Z3) (Z2 8)))))))
  (Z9 (Zp 21 Zh.nd rfl (Or.inl rfl) (Zi Vy (Zb Wh (Z2 6) (Z3)) (Z2 5)))
  (Z9 (Dd 19 Zh.nd rfl (Or.inl rfl) (nop Z49 (W8 R7 (xo 19) (Tw (Z2 21)) Tr) (W8 R7 (xo 19) Tr (Tw (Z2 21)))))
  (Z9 (Zp 22 Zh.nd rfl (Or.inr rfl) (Zi Wh (Z2 6) (Z3)))
  (Z9 (Hn 23 Zh.nd rfl (Or.inl rfl) (Z7 Y1) [none,some 22,some 0,some 1] N19_ rfl (show CompOk (Z7 Y1) _ N0_ N19_ [none,some 22,some 0,some 1] from CompOk.of (by decide +kernel)) rfl (Ys (by rfl) T.b_range (Z0 (Z2 2) Za)) (fun _ _ _ _=>⟨(Zn 0 (show (N19_:List Str).Nodup from by decide +kernel) rfl (Or.inl rfl)),S6,(Y0 (Z0 (Zl C__law_word (hr.mono (by lia)) (Z0 (Z8 1) (Z0 (Z8 0) Za))) (Z0 (Zr Yh (Yk (Ic (Z0 (Wq) (Z0 (Wq) Za)))) (Zb Vy (Zb Wh (Zt C__law_mix (hr.mono (by lia)) (Z0 (Z8 2) (Z0 (Zi Yi (Z2 3) (Z2 0)) Za))) (Z3)) (Z3)) (fun _ _=>rfl)) Za)))⟩) (by decide))
  (Zo (W1 (Y0 (Z0 (Q3 (m:=false) Tt (by rfl) T.b_tuple (by decide +kernel) (Z0 (Z2 23) Za)) (Z0 (Q3 (m:=false) Tt (by rfl) T.b_tuple (by decide +kernel) (Z0 (xo 19) Za)) (Z0 (Z8 13) (Z0 (Z8 17) Za))))))))))))))))))))))))))
  case c0=>exact Qp (Z7 Y1) [none,some 7] N48_ rfl (show CompOk (Z7 Y1) _ N0_ N48_ [none,some 7] from CompOk.of (by decide +kernel)) rfl (Ys (by rfl) T.b_range (Z0 (Zb Cp (Z2 5) (Z3)) Za)) (fun _ _ _ _=>⟨(Zn 0 (show (N48_:List Str).Nodup from by decide +kernel) rfl (Or.inl rfl)),(f_one (Jw (Z7e hr.units) (Q4 (Z0 (Z8 0) (Z0 (Zi Yi (Z2 0) (Z3)) Za))) (Z2 1) (by rfl))),(Y0 (Z0 (Z8 0) (Z0 (Zi Yi (Z2 0) (Z3)) Za)))⟩) (by decide)
  case c1=>exact Qp (Z7 Y1) [none,some 9,some 10] N30_ rfl (show CompOk (Z7 Y1) _ N0_ N30_ [none,some 9,some 10] from CompOk.of (by decide +kernel)) rfl (Mz (Z2 7)) (fun _ _ _ _=>⟨(Zn 0 (show (N30_:List Str).Nodup from by decide +kernel) rfl (Or.inl rfl)),(f_one (Jw (Ou hr.units) (Z2 0) (Q4 (Z0 (Z8 1) (Z0 (Z8 2) Za))) (Yf _))),(Z8 0)⟩) (by decide)))
theorem Iv (Df:Def K mg "_law_choice" Zq) (T:Txt K mg)  (C__law_mix:CalD P w K mg base 1 "_law_mix" N44_ false Zw) (C__law_word:CalD P w K mg base 1 "_law_word" N50_ false W4):CalD P w K mg base 2 "_law_choice" N38_ false Uy :=
 W6 (N:=N1_) (ps:=N38_) (st:=Zq) (k:=1) (g:=V4) Df Zm (fun _ _ _ _ _ _ us hl=>ar2 us hl fun _ _=>rfl) (fun f cdv A outer s H E hr=>(by
  unfold V4;refine (Z9 (Zp 2 Zm.nd rfl (Or.inr rfl) (Zi Yi (Z3) (Zb Vy (Zt C__law_mix (hr.mono (by lia)) (Z0 (Z8 0) (Z0 (Z8 1) Za))) (Z3))))
  (Z9 (Zp 3 Zm.nd rfl (Or.inr rfl) (Zi Yi (Z3) (Zb Vy (Zb Wh (Zt C__law_mix (hr.mono (by lia)) (Z0 (Z8 0) (Z0 (Z8 1) Za))) (Z3)) (Z3))))
  (Z9 (Zp 4 Zm.nd rfl (Or.inr rfl) (Zi Wh (Zt C__law_mix (hr.mono (by lia)) (Z0 (Z8 0) (Z0 (Z8 1) Za))) (Z3)))
  (Z9 (Hn 5 Zm.nd rfl (Or.inl rfl) (Z7 Zq) [none,some 4] N39_ rfl (show CompOk (Z7 Zq) _ N1_ N39_ [none,some 4] from CompOk.of (by decide +kernel)) rfl (Ys (by rfl) T.b_range (Z0 (Z2 2) Za)) (fun _ _ _ _=>⟨(Zn 0 (show (N39_:List Str).Nodup from by decide +kernel) rfl (Or.inl rfl)),S6,(Y0 (Z0 (Zl C__law_word (hr.mono (by lia)) (Z0 (Z8 1) (Z0 (Z8 0) Za))) (Z0 (Wq) Za)))⟩) (by decide))
  (Z9 (Zp 5 Zm.nd rfl (Or.inl rfl) (Zi Yi (Z2 5) (Yk ?c0)))
  (Z9 (Dd 6 Zm.nd rfl (Or.inl rfl) (Ic Za))
  (Z9 (Zp 7 Zm.nd rfl (Or.inl rfl) (Zz))
  (Z9 (Q0 PassesOwn.never rfl (Ys (by rfl) T.b_range (Z0 (Z2 2) Za)) (Zn 8 Zm.nd rfl (Or.inl rfl)) (Z9 (Zp 9 Zm.nd rfl (Or.inr rfl) (Zl C__law_mix (hr.mono (by lia)) (Z0 (Z8 0) (Z0 (Zi Yi (Zb Yi (Z2 1) (Z3)) (Z2 8)) Za))))
  (Z9 (Hn 10 Zm.nd rfl (Or.inl rfl) (Z7 Zq) [none,some 2,some 3,some 9] N25_ rfl (show CompOk (Z7 Zq) _ N1_ N25_ [none,some 2,some 3,some 9] from CompOk.of (by decide +kernel)) rfl (Ys (by rfl) T.b_range (Z0 (Z2 3) Za)) (fun _ _ _ _=>⟨(Zn 0 (show (N25_:List Str).Nodup from by decide +kernel) rfl (Or.inl rfl)),S6,(Zi Yi (Z2 1) (Zb Vy (Zb Yi (Z2 3) (Z2 0)) (Z2 2)))⟩) (by decide))
  (Z9 (Hn 11 Zm.nd rfl (Or.inl rfl) (Z7 Zq) [none,some 2,some 3,some 9] N25_ rfl (show CompOk (Z7 Zq) _ N1_ N25_ [none,some 2,some 3,some 9] from CompOk.of (by decide +kernel)) rfl (Ys (by rfl) T.b_range (Z0 (Z2 3) Za)) (fun _ _ _ _=>⟨(Zn 0 (show (N25_:List Str).Nodup from by decide +kernel) rfl (Or.inl rfl)),S6,(Zi Yi (Z2 1) (Zb Vy (Zb Yi (Zb Wh (Z2 3) (Z3)) (Z2 0)) (Z2 2)))⟩) (by decide))
  (Z9 (Dd 12 Zm.nd rfl (Or.inl rfl) (nop Z49 (Yk ?c1) (Yk ?c2)))
  (Z9 (M6 12 PySem.F.slot_list_insert PySem.F.type_list_insert K0 (Z0 (Zi Vy (Zb Wh (Z2 9) (Z3)) (Zb Yi (Y4 Jg (by rfl) T.b_len (by decide +kernel) (Z0 (xo 12) Za)) (Z3))) (Z0 (Y0 (Z0 (Z8 8) (Z0 (U1) Za))) Za)))
  (Z9 (Zp 13 Zm.nd rfl (Or.inl rfl) (Zz))
  (Zo (Q0 PassesOwn.never rfl (Lq (by rfl) T.b_enumerate (Zi Yi (Yk (Ic (Z0 (Y0 (Z0 (Z8 8) (Z0 (U1) Za))) Za))) (xo 12))) (S7 (n:=2) rfl (Y3 (Zn 14 Zm.nd rfl (Or.inl rfl)) (Y3 (Zn 15 Zm.nd rfl (Or.inl rfl)) Q8))) (Z9 (Zp 16 Zm.nd rfl (Or.inl rfl) (Z8 7))
  (Z9 (R9 (Jw (Gk hr.units) (Z2 14) (Y4 Jg (by rfl) T.b_len (by decide +kernel) (Z0 (xo 12) Za)) (Yf _)) (Zo (Zp 16 Zm.nd rfl (Or.inl rfl) (Zz))) Vz)
  (Z9 (M6 6 PySem.F.slot_list_append PySem.F.type_list_append Jf (Z0 (Y0 (Z0 (Zr Yh (Z2 15) (Z3) (fun _ _=>rfl)) (Z0 (Zr Yh (Z2 15) (Z3) (fun _ _=>rfl)) (Z0 (Y0 (Z0 (Z8 13) Za)) (Z0 (Y0 (Z0 (Z8 16) Za)) Za))))) Za))
  (Z9 (Zp 13 Zm.nd rfl (Or.inl rfl) (Z8 16))
  (Zo (Zp 7 Zm.nd rfl (Or.inl rfl) (Zi Yi (Z2 7) (Z3)))))))))))))))))
  (Zo (W1 (Y0 (Z0 (Q3 (m:=false) Tt (by rfl) T.b_tuple (by decide +kernel) (Z0 (Z2 5) Za)) (Z0 (Q3 (m:=false) Tt (by rfl) T.b_tuple (by decide +kernel) (Z0 (xo 6) Za)) (Z0 (Zz) (Z0 (Zz) Za)))))))))))))))
  case c0=>exact Qp (Z7 Zq) [none,some 4,some 2] N28_ rfl (show CompOk (Z7 Zq) _ N1_ N28_ [none,some 4,some 2] from CompOk.of (by decide +kernel)) rfl (Ys (by rfl) T.b_range (Z0 (Z2 3) Za)) (fun _ _ _ _=>⟨(Zn 0 (show (N28_:List Str).Nodup from by decide +kernel) rfl (Or.inl rfl)),S6,(Y0 (Z0 (Zl C__law_word (hr.mono (by lia)) (Z0 (Z8 1) (Z0 (Zi Yi (Z2 2) (Z2 0)) Za))) (Z0 (Wq) Za)))⟩) (by decide)
  case c1=>exact Qp (Z7 Zq) [none] N63_ rfl (show CompOk (Z7 Zq) _ N1_ N63_ [none] from CompOk.of (by decide +kernel)) rfl (Mz (Z2 10)) (fun _ _ _ _=>⟨(Zn 0 (show (N63_:List Str).Nodup from by decide +kernel) rfl (Or.inl rfl)),S6,(Y0 (Z0 (Z8 0) (Z0 (U1) Za)))⟩) (by decide)
  case c2=>exact Qp (Z7 Zq) [none] N63_ rfl (show CompOk (Z7 Zq) _ N1_ N63_ [none] from CompOk.of (by decide +kernel)) rfl (Mz (Z2 11)) (fun _ _ _ _=>⟨(Zn 0 (show (N63_:List Str).Nodup from by decide +kernel) rfl (Or.inl rfl)),S6,(Y0 (Z0 (Z8 0) (Z0 (U1) Za)))⟩) (by decide)))
theorem Kj (Df:Def K mg "_law_wider" Wc) (T:Txt K mg)   : CalD P w K mg base 1 "_law_wider" N11_ false Qc :=
 W6 (N:=N3_) (ps:=N11_) (st:=Wc) (k:=0) (g:=Vo) Df W2 (fun _ _ _ _ _ _ us hl=>ar5 us hl fun _ _ _ _ _=>rfl) (fun f cdv A outer s H E hr=>(by
  unfold Vo;exact (Z9 (Z2e (Z8 0) (S7 (n:=4) rfl (Y3 (Zn 5 W2.nd rfl (Or.inl rfl)) (Y3 (Zn 6 W2.nd rfl (Or.inl rfl)) (Y3 (Zn 7 W2.nd rfl (Or.inl rfl)) (Y3 (Zn 8 W2.nd rfl (Or.inl rfl)) Q8))))))
  (Z9 (Zp 9 W2.nd rfl (Or.inl rfl) (Zi Dv (Z2 8) (Zb Cp (Zb Ej (Z3) (Z2 1)) (Z3))))
  (Z9 (Zp 8 W2.nd rfl (Or.inl rfl) (Zi Z12 (Zb Z12 (Z2 9) (Zb Ej (Q3 (m:=true) Z5i (by rfl) T.b_int (by decide +kernel) (Z0 (Z2 3) Za)) (Z2 1))) (Zb Ej (Zb Z08 (Z2 8) (Z2 1)) (Zb Yi (Z2 1) (Z3)))))
  (Z9 (Hn 10 W2.nd rfl (Or.inl rfl) (Z7 Wc) [none,none,none,none,some 1] N14_ rfl (show CompOk (Z7 Wc) _ N3_ N14_ [none,none,none,none,some 1] from CompOk.of (by decide +kernel)) rfl (Mz (Z2 6)) (fun _ _ _ _=>⟨(S7 (n:=4) rfl (Y3 (Zn 0 (show (N14_:List Str).Nodup from by decide +kernel) rfl (Or.inl rfl)) (Y3 (Zn 1 (show (N14_:List Str).Nodup from by decide +kernel) rfl (Or.inl rfl)) (Y3 (Zn 2 (show (N14_:List Str).Nodup from by decide +kernel) rfl (Or.inl rfl)) (Y3 (Zn 3 (show (N14_:List Str).Nodup from by decide +kernel) rfl (Or.inl rfl)) Q8))))),S6,(Y0 (Z0 (Zi Yi (Z2 0) (Q3 (m:=true) Z5i (by rfl) T.b_int (by decide +kernel) (Z0 (Zbm (m:=true) Zcn (Z2 0) (Z2 4) (Yf _)) Za))) (Z0 (Z8 1) (Z0 (Z8 2) (Z0 (Z8 3) Za)))))⟩) (by decide))
  (Zo (W1 (Y0 (Z0 (Zi Gu (Zb Gu (W8 R7 (Z2 5) Tr (Tw (Z2 1))) (Q4 (Z0 (Y0 (Z0 (Z8 4) (Z0 (Z8 2) Za))) Za))) (W8 R7 (Z2 5) (Tw (Z2 1)) Tr)) (Z0 (Q3 (m:=false) Tt (by rfl) T.b_tuple (by decide +kernel) (Z0 (Z2 10) Za)) (Z0 (Z8 7) (Z0 (Z8 8) Za)))))))))))))
theorem Da (Df:Def K mg "_law_any_graph" Yz) (T:Txt K mg)  (C__law_mix:CalD P w K mg base 1 "_law_mix" N44_ false Zw) (C__law_choice:CalD P w K mg base 2 "_law_choice" N38_ false Uy) (C__law_graph:CalD P w K mg base 3 "_law_graph" N22_ false Q7) (C__law_wider:CalD P w K mg base 1 "_law_wider" N11_ false Qc):CalD P w K mg base 4 "_law_any_graph" N15_ false Vc :=
 W6 (N:=N2_) (ps:=N15_) (st:=Yz) (k:=3) (g:=Yy) Df Zs (fun _ _ _ _ _ _ us hl=>ar4 us hl fun _ _ _ _=>rfl) (fun f cdv A outer s H E hr=>(by
  unfold Yy;exact (Z9 (Zp 4 Zs.nd rfl (Or.inl rfl) (Zl C__law_mix (hr.mono (by lia)) (Z0 (Z8 0) (Z0 (Z8 1) Za))))
  (Z9 (R9 (Jw (Gk hr.units) (Zb Vy (Z2 4) (Z3)) (Z3) (Yf _)) (Zo (Zp 5 Zs.nd rfl (Or.inl rfl) (Zl C__law_choice (hr.mono (by lia)) (Z0 (Z8 0) (Z0 (Zi Yi (Z2 1) (Z3)) Za))))) (Zo (Zp 5 Zs.nd rfl (Or.inl rfl) (Zl C__law_graph (hr.mono (by lia)) (Z0 (Z8 0) (Z0 (Zi Yi (Z2 1) (Z3)) (Z0 (Zi Yi (Z3) (Zb Vy (Zb Wh (Z2 4) (Z3)) (Z2 2))) (Z0 (Zi Vy (Zb Wh (Z2 4) (Z3)) (Zb Yi (Z2 3) (Z3))) Za))))))))
  (Z9 (Zp 6 Zs.nd rfl (Or.inl rfl) (Zi Wh (Z2 4) (Z3)))
  (Z9 (R9 (Jw (Gk hr.units) (Zb Vy (Z2 6) (Z3)) (Z3) (Yf _)) (Z9 (Zp 7 Zs.nd rfl (Or.inl rfl) (Zi Vy (Zb Wh (Z2 6) (Z3)) (Y4 Jg (by rfl) T.b_len (by decide +kernel) (Z0 (Zj Yh (Z2 5) (Z3) (fun _ _=>rfl)) Za))))
  (Zo (Zp 5 Zs.nd rfl (Or.inl rfl) (Y0 (Z0 (Zr Yh (Z2 5) (Z3) (fun _ _=>rfl)) (Z0 (Zi Gu (W8 R7 (Zj Yh (Z2 5) (Z3) (fun _ _=>rfl)) Tr (Tw (Z2 7))) (W8 R7 (Zj Yh (Z2 5) (Z3) (fun _ _=>rfl)) (Tw (Zb Yi (Z2 7) (Z3))) Tr)) (Z0 (Zr Yh (Z2 5) (Z3) (fun _ _=>rfl)) (Z0 (Zr Yh (Z2 5) (Z3) (fun _ _=>rfl)) Za)))))))) Vz)
  (Z9 (Zp 8 Zs.nd rfl (Or.inl rfl) (Zr Yh (Yk (Ic (Z0 (Zz) (Z0 (Zz) (Z0 (Zz) (Z0 (Zz) (Z0 (Zz) (Z0 (Zz) (Z0 (Zz) (Z0 (Zi Cp (Z3) (Y4 Jg (by rfl) T.b_len (by decide +kernel) (Z0 (Zj Yh (Z2 5) (Z3) (fun _ _=>rfl)) Za))) Za)))))))))) (Zb Vy (Zb Wh (Z2 6) (Z3)) (Z3)) (fun _ _=>rfl)))
  (Z9 (Q0 PassesOwn.never rfl (Ys (by rfl) T.b_range (Z0 (Z2 8) Za)) (Zn 9 Zs.nd rfl (Or.inl rfl)) (Z9 (Zp 10 Zs.nd rfl (Or.inl rfl) (Zi Vy (Zb Yi (Zb Wh (Z2 6) (Z3)) (Zb D3 (Z3) (Z2 9))) (Zb Yi (Y4 Jg (by rfl) T.b_len (by decide +kernel) (Z0 (Zj Yh (Z2 5) (Z3) (fun _ _=>rfl)) Za)) (Z3))))
  (Z9 (Zp 11 Zs.nd rfl (Or.inl rfl) (Zr Yh (Yk (Ic (Z0 (Wq) (Z0 (Wq) Za)))) (Zb Vy (Zb Yi (Zb Wh (Z2 6) (Z3)) (Z2 9)) (Z3)) (fun _ _=>rfl)))
  (Zo (Zp 5 Zs.nd rfl (Or.inl rfl) (Zl C__law_wider (hr.mono (by lia)) (Z0 (Z8 5) (Z0 (Z8 10) (Z0 (Z8 11) (Z0 (T2 (Gk hr.units) (Zb Vy (Zb Yi (Zb Wh (Z2 6) (Z3)) (Zb Wh (Z2 9) (Z3))) (Z3)) (Z3) (Yf _)) (Z0 (Zr Yh (Zaj (m:=true)) (Z2 9) (fun _ _=>rfl)) Za)))))))))))
  (Zo (W1 (Z8 5)))))))))))
theorem Oe (Df:Def K mg "_law_bits" Ua) (T:Txt K mg)   : CalD P w K mg base 1 "_law_bits" N62_ false W3 :=
 W6 (N:=["_law_some","_law_number","_law_place"]) (ps:=N62_) (st:=Ua) (k:=0) (g:=U8) Df Q6 (fun _ _ _ _ _ _ us hl=>ar1 us hl fun _=>rfl) (fun f cdv A outer s H E hr=>(by
  unfold U8;exact (Z9 (Zp 1 Q6.nd rfl (Or.inl rfl) (Zz))
  (Z9 (Q0 PassesOwn.never rfl (O0 (Z8 0)) (Zn 2 Q6.nd rfl (Or.inl rfl)) (Zo (Zp 1 Q6.nd rfl (Or.inl rfl) (Zi Z12 (Z2 1) (Zb Ej (Z3) (Z2 2))))))
  (Zo (W1 (Z8 1)))))))
theorem Xi (Df:Def K mg "_law_can" T5) (T:Txt K mg)  (C__law_bits:CalD P w K mg base 1 "_law_bits" N62_ false W3):CalD P w K mg base 2 "_law_can" N27_ false Ti :=
 W6 (N:=N17_) (ps:=N27_) (st:=T5) (k:=1) (g:=T9) Df Er (fun _ _ _ _ _ _ us hl=>ar3 us hl fun _ _ _=>rfl) (fun f cdv A outer s H E hr=>(by
  unfold T9;exact (Z9 (Zp 3 Er.nd rfl (Or.inl rfl) (Zl C__law_bits (hr.mono (by lia)) (Z0 (Zr Yh (Zj Yh (Zj Yh (Z2 0) (Z3) (fun _ _=>rfl)) (Z2 2) (fun _ _=>rfl)) (Z3) (fun _ _=>rfl)) Za)))
  (Zo (W1 (T2 (Gk hr.units) (Zb Dv (Zj Yh (Z2 1) (Z3) (fun _ _=>rfl)) (Z2 3)) (Z2 3) (Yf _)))))))
theorem Ik (Df:Def K mg "_law_behind" V5) (T:Txt K mg)  (C__law_bits:CalD P w K mg base 1 "_law_bits" N62_ false W3):CalD P w K mg base 2 "_law_behind" N27_ false Ux :=
 W6 (N:=N9_) (ps:=N27_) (st:=V5) (k:=1) (g:=V3) Df V9 (fun _ _ _ _ _ _ us hl=>ar3 us hl fun _ _ _=>rfl) (fun f cdv A outer s H E hr=>(by
  unfold V3;exact (Z9 (Z2e (Zr Yh (Zj Yh (Z2 0) (Z3) (fun _ _=>rfl)) (Z2 2) (fun _ _=>rfl)) (S7 (n:=4) rfl (Y3 (Zn 3 V9.nd rfl (Or.inl rfl)) (Y3 (Zn 4 V9.nd rfl (Or.inl rfl)) (Y3 (Zn 5 V9.nd rfl (Or.inl rfl)) (Y3 (Zn 6 V9.nd rfl (Or.inl rfl)) Q8))))))
  (Zo (W1 (Y0 (Z0 (Zi Z12 (Zb Z2d (Zj Yh (Z2 1) (Z3) (fun _ _=>rfl)) (Zt C__law_bits (hr.mono (by lia)) (Z0 (Z8 5) Za))) (Zt C__law_bits (hr.mono (by lia)) (Z0 (Z8 6) Za))) (Z0 (Zi Z2d (Zj Yh (Z2 1) (Z3) (fun _ _=>rfl)) (Zb Ej (Z3) (Z2 3))) Za))))))))
theorem Kn (Df:Def K mg "_law_wants" Vu) (T:Txt K mg)  (C__law_can:CalD P w K mg base 2 "_law_can" N27_ false Ti):CalD P w K mg base 3 "_law_wants" N26_ false Ur :=
 W6 (N:=N12_) (ps:=N26_) (st:=Vu) (k:=2) (g:=Vm) Df Jh (fun _ _ _ _ _ _ us hl=>ar3 us hl fun _ _ _=>rfl) (fun f cdv A outer s H E hr=>(by
  unfold Vm;exact (Z9 (Q0 PassesOwn.never rfl (Lq (by rfl) T.b_enumerate (Zr Yh (Z2 0) (Z3) (fun _ _=>rfl))) (S7 (n:=2) rfl (Y3 (Zn 3 Jh.nd rfl (Or.inl rfl)) (Y3 (Zn 4 Jh.nd rfl (Or.inl rfl)) Q8))) (Zo (R9 (PWd.pt (Fd (Jw (Gk hr.units) (Zj Yh (Z2 4) (Z3) (fun _ _=>rfl)) (Z2 2) (Yf _)) (N1 (Ke (Zt C__law_can (hr.mono (by lia)) (Z0 (Z8 0) (Z0 (Z8 1) (Z0 (Z8 3) Za)))))))) (Zo (W1 (Zi Cp (Zb D3 (Z3) (Q3 (m:=true) Z5i (by rfl) T.b_int (by decide +kernel) (Z0 (Zj Yh (Z2 4) (Z3) (fun _ _=>rfl)) Za))) (Z3)))) Vz)))
  (Zo (W1 (Zz))))))
theorem Gi (Df:Def K mg "_law_lookers" Yr) (T:Txt K mg)  (C__law_bits:CalD P w K mg base 1 "_law_bits" N62_ false W3):CalD P w K mg base 2 "_law_lookers" N32_ false Um :=
 W6 (N:=N4_) (ps:=N32_) (st:=Yr) (k:=1) (g:=Wj) Df Zv (fun _ _ _ _ _ _ us hl=>ar2 us hl fun _ _=>rfl) (fun f cdv A outer s H E hr=>(by
  unfold Wj;refine (Z9 (Zp 2 Zv.nd rfl (Or.inr rfl) (Zr Yh (Z2 0) (Z3) (fun _ _=>rfl)))
  (Z9 (Q0 PassesOwn.never rfl (O0 (Zr Yh (Z2 0) (Z3) (fun _ _=>rfl))) (Zn 3 Zv.nd rfl (Or.inl rfl)) (Zo (Zp 2 Zv.nd rfl (Or.inr rfl) (Zi Z12 (Zb Z12 (Z2 2) (Zt C__law_bits (hr.mono (by lia)) (Z0 (Zr Yh (Z2 3) (Z3) (fun _ _=>rfl)) Za))) (Zt C__law_bits (hr.mono (by lia)) (Z0 (Zr Yh (Z2 3) (Z3) (fun _ _=>rfl)) Za))))))
  (Z9 (Zp 4 Zv.nd rfl (Or.inl rfl) (Zr Yh (Yk ?c0) (Zb Vy (Z2 1) (Z3)) (fun _ _=>rfl)))
  (Z9 (Dd 5 Zv.nd rfl (Or.inl rfl) (Ic Za))
  (Z9 (Q0 PassesOwn.never rfl (Lq (by rfl) T.b_enumerate (Zr Yh (Z2 0) (Z3) (fun _ _=>rfl))) (S7 (n:=2) rfl (Y3 (Zn 6 Zv.nd rfl (Or.inl rfl)) (Y3 (Zn 3 Zv.nd rfl (Or.inl rfl)) Q8))) (Z9 (Z2e (Z8 3) (S7 (n:=4) rfl (Y3 (Zn 7 Zv.nd rfl (Or.inl rfl)) (Y3 (Zn 8 Zv.nd rfl (Or.inl rfl)) (Y3 (Zn 9 Zv.nd rfl (Or.inl rfl)) (Y3 (Zn 10 Zv.nd rfl (Or.inl rfl)) Q8))))))
  (Z9 (R9 (Jw (Gk hr.units) (Zb Dv (Zb Z08 (Zb Wh (Z2 1) (Z3)) (Z2 6)) (Z3)) (Z3) (Yf _)) (Z9 (Zp 9 Zv.nd rfl (Or.inl rfl) (Q3 (m:=false) Tt (by rfl) T.b_tuple (by decide +kernel) (Z0 (Yk (Oo S3 (by rfl) T.b_sorted (by decide +kernel) (Z0 (Zb Gu (Z2 9) (Q4 (Z0 (Z8 4) Za))) Za))) Za)))
  (Zo (Zp 10 Zv.nd rfl (Or.inl rfl) (Q3 (m:=false) Tt (by rfl) T.b_tuple (by decide +kernel) (Z0 (Yk (Oo S3 (by rfl) T.b_sorted (by decide +kernel) (Z0 (Zb Gu (Z2 10) (Q4 (Z0 (Z8 4) Za))) Za))) Za))))) Vz)
  (Zo (M6 5 PySem.F.slot_list_append PySem.F.type_list_append Jf (Z0 (Y0 (Z0 (Z8 7) (Z0 (Z8 8) (Z0 (Z8 9) (Z0 (Z8 10) Za))))) Za))))))
  (Zo (W1 (Y0 (Z0 (Zr Yh (Z2 0) (Z3) (fun _ _=>rfl)) (Z0 (Q3 (m:=false) Tt (by rfl) T.b_tuple (by decide +kernel) (Z0 (xo 5) Za)) (Z0 (Zi Z12 (Zj Yh (Z2 0) (Z3) (fun _ _=>rfl)) (Zb Ej (Z3) (Z2 4))) (Z0 (Zr Yh (Z2 0) (Z3) (fun _ _=>rfl)) Za))))))))))))
  case c0=>exact Qp (Z7 Yr) [none,some 2] N49_ rfl (show CompOk (Z7 Yr) _ N4_ N49_ [none,some 2] from CompOk.of (by decide +kernel)) rfl (Ys (by rfl) T.b_range (Z0 (Z3) Za)) (fun _ _ _ _=>⟨(Zn 0 (show (N49_:List Str).Nodup from by decide +kernel) rfl (Or.inl rfl)),(f_one (Jw (Gk hr.units) (Zb Dv (Zb Z08 (Z2 1) (Z2 0)) (Z3)) (Z3) (Yf _))),(Z8 0)⟩) (by decide)))
theorem Hq (Df:Def K mg "_law_walked" Wy) (T:Txt K mg)  (C__law_behind:CalD P w K mg base 2 "_law_behind" N27_ false Ux) (C__law_can:CalD P w K mg base 2 "_law_can" N27_ false Ti):CalD P w K mg base 3 "_law_walked" N31_ false U3 :=
 W6 (N:=N18_) (ps:=N31_) (st:=Wy) (k:=2) (g:=Wx) Df Up (fun _ _ _ _ _ _ us hl=>ar2 us hl fun _ _=>rfl) (fun f cdv A outer s H E hr=>(by
  unfold Wx;exact (Z9 (Zp 2 Up.nd rfl (Or.inl rfl) (Y0 (Z0 (Zr Yh (Z2 0) (Z3) (fun _ _=>rfl)) (Z0 (Zr Yh (Z2 0) (Z3) (fun _ _=>rfl)) Za))))
  (Z9 (Q0 PassesOwn.never rfl (O0 (Z8 1)) (Zn 3 Up.nd rfl (Or.inl rfl)) (Z9 (R9 (PWd.pt (Z14 (Z1u (Ke (Z6g (m:=true) (T:="int") (Z2 3) (by rfl) T.b_isinstance (by decide +kernel) (by rfl) T.b_int (by decide +kernel)))) (Z14 (Ke (Z6g (m:=true) (T:="bool") (Z2 3) (by rfl) T.b_isinstance (by decide +kernel) (by rfl) T.b_bool (by decide +kernel))) (Xd (Z1u (Z8c Zdf Zba (Z3) (Z2 3) (Y4 Jg (by rfl) T.b_len (by decide +kernel) (Z0 (Zj Yh (Z2 0) (Z3) (fun _ _=>rfl)) Za)))))))) (Zo (W1 (Md))) Vz)
  (Z9 (R9 (Z1u (Ke (Zt C__law_can (hr.mono (by lia)) (Z0 (Z8 0) (Z0 (Z8 2) (Z0 (Z8 3) Za)))))) (Zo (W1 (Md))) Vz)
  (Zo (Zp 2 Up.nd rfl (Or.inl rfl) (Zl C__law_behind (hr.mono (by lia)) (Z0 (Z8 0) (Z0 (Z8 2) (Z0 (Z8 3) Za)))))))))
  (Zo (W1 (Z8 2)))))))
theorem Ny (Df:Def K mg "_law_told" Uf) (T:Txt K mg)  (C_need_none:CalX P w K mg base 7 "need_none" N59_ false Tq):CalD P w K mg base 8 "_law_told" N53_ false Ja :=
 W6 (N:=N23_) (ps:=N53_) (st:=Uf) (k:=7) (g:=U9) Df Vn (fun _ _ _ _ _ _ us hl=>ar1 us hl fun _=>rfl) (fun f cdv A outer s H E hr=>(by
  unfold U9;exact (Z9 (Zp 1 Vn.nd rfl (Or.inl rfl) (Md))
  (Z9 (Zp 2 Vn.nd rfl (Or.inl rfl) (Md))
  (Z9 (Z80 (i:=3) (sub:=Ym N64_) (fun _ _=>(Zo (Z94 2 Vn.nd rfl (Or.inl rfl) (Zan C_need_none (hr.mono (by lia)) (Z0 (Z8 0) (Z0 (Zz) Za)))))) (fun _ _=>(Zo (Zp 1 Vn.nd rfl (Or.inl rfl) (Z8 3)))) T.k_8 Vn.nd rfl (Or.inl rfl))
  (Zo (W1 (Y0 (Z0 (Z8 1) (Z0 (Z8 2) Za))))))))))
theorem Iq (Df:Def K mg "_law_others" V0) (T:Txt K mg)   : CalD P w K mg base 1 "_law_others" ["_law_caught"] false Uz :=
 W6 (N:=["_law_caught","_law_some"]) (ps:=["_law_caught"]) (st:=V0) (k:=0) (g:=V7) Df Qg (fun _ _ _ _ _ _ us hl=>ar1 us hl fun _=>rfl) (fun f cdv A outer s H E hr=>(by
  unfold V7;exact (Z9 (Zp 1 Qg.nd rfl (Or.inl rfl) (PNd.x (m:=false) (Ic (Z0 (Z3j (m:=false) (tx:="Broken") (sb:=Sy N64_ "Broken") (Z2 0) T.i_0 T.b_isinstance) (Z0 (Z3j (m:=false) (tx:="Crowded") (sb:=Sy N64_ "Crowded") (Z2 0) T.i_1 T.b_isinstance) (Z0 (Z3j (m:=false) (tx:="CalledOff") (sb:=Sy N64_ "CalledOff") (Z2 0) T.i_3 T.b_isinstance) Za))))))
  (Z9 (Zp 1 Qg.nd rfl (Or.inl rfl) (Zi Yi (Z2 1) (Yk (Ic (Z0 (Z3j (m:=false) (tx:="TooMany") (sb:=Sy N64_ "TooMany") (Z2 0) T.i_2 T.b_isinstance) (Z0 (Z3j (m:=false) (tx:="NoText") (sb:=Sy N64_ "NoText") (Z2 0) T.i_7 T.b_isinstance) (Z0 (Z3j (m:=false) (tx:="NoMove") (sb:=Sy N64_ "NoMove") (Z2 0) T.i_5 T.b_isinstance) Za)))))))
  (Zo (W1 (xor (m:=false) (Y4 (Z9j rfl) (by rfl) T.b_any (by decide +kernel) (Z0 (Z2 1) Za)) (Zae (Z3j (m:=false) (tx:="NoPlace") (sb:=Sy N64_ "NoPlace") (Z2 0) T.i_6 T.b_isinstance)))))))))
theorem O7 (Df:Def K mg "_law_good" U7) (T:Txt K mg)  (C_clashes:CalD P w K mg base 7 "clashes" N59_ true Qm) (C_sound:CalD P w K mg base 6 "sound" N59_ false M1) (C__law_told:CalD P w K mg base 8 "_law_told" N53_ false Ja) (C__law_walked:CalD P w K mg base 3 "_law_walked" N31_ false U3) (C__law_others:CalD P w K mg base 1 "_law_others" ["_law_caught"] false Uz) (C__law_wants:CalD P w K mg base 3 "_law_wants" N26_ false Ur) (C_way:CalD P w K mg base 1 "way" N61_ true Ge):CalD P w K mg base 9 "_law_good" N53_ false U6 :=
 W6 (N:=N6_) (ps:=N53_) (st:=U7) (k:=8) (g:=Uc) Df Wv (fun _ _ _ _ _ _ us hl=>ar1 us hl fun _=>rfl) (fun f cdv A outer s H E hr=>(by
  unfold Uc;exact (Z9 (Zp 1 Wv.nd rfl (Or.inl rfl) (Zl C_clashes (hr.mono (by lia)) (Z0 (Z8 0) (Z0 (Zz) Za))))
  (Z9 (Zp 2 Wv.nd rfl (Or.inl rfl) (Zl C_sound (hr.mono (by lia)) (Z0 (Z8 0) (Z0 (Zz) Za))))
  (Z9 (Z2e (Zl C__law_told (hr.mono (by lia)) (Z0 (Z8 0) Za)) (S7 (n:=2) rfl (Y3 (Zn 3 Wv.nd rfl (Or.inl rfl)) (Y3 (Zn 4 Wv.nd rfl (Or.inl rfl)) Q8))))
  (Z9 (R9 (Jw (Gk hr.units) (Z2 1) (Yk (Ic Za)) (Yf _)) (Zo (W1 (Zcx (m:=false) (Zbm (m:=true) Zd8 (Z2 3) (Zbj (m:=true)) (Yf _)) (Zae (T2 (Gk hr.units) (Z2 4) (Z2 2) (Yf _)))))) Vz)
  (Z9 (R9 (PWd.pt (Z14 (Z1u (Ke (Z3j (m:=true) (tx:="Clash") (sb:=Sy N64_ "Clash") (Z2 3) T.i_4 T.b_isinstance))) (Z14 (Z1u (Ke (Zdk (m:=true) (sb:=Z07 N64_) (Z2 3) T.b_ValueError (by decide +kernel) (by decide +kernel) T.j_ValueError T.b_isinstance))) (Xd (Ke (Zt C__law_others (hr.mono (by lia)) (Z0 (Z8 3) Za))))))) (Zo (W1 (U1))) Vz)
  (Z9 (R9 (PWd.pt (Z14 (Z1u (Ke (Z6g (m:=true) (T:="list") (Ey (m:=true) (okc:=Ym N64_) (Z2 3) T.f_one) (by rfl) T.b_isinstance (by decide +kernel) (by rfl) T.b_list (by decide +kernel)))) (Z14 (Z1u (Ke (Z6g (m:=true) (T:="list") (Ey (m:=true) (okc:=Ym N64_) (Z2 3) T.f_other) (by rfl) T.b_isinstance (by decide +kernel) (by rfl) T.b_list (by decide +kernel)))) (Xd (Jw (Ou hr.units) (Ey (m:=true) (okc:=Ym N64_) (Z2 3) T.f_wire) (Zj Yh (Zj Yh (Z2 1) (Z3) (fun _ _=>rfl)) (Z3) (fun _ _=>rfl)) (Yf _)))))) (Zo (W1 (U1))) Vz)
  (Z9 (R9 (PWd.pt (Z14 (Z1u (Ke (Z6g (m:=true) (T:="int") (Ey (m:=true) (okc:=Ym N64_) (Z2 3) T.f_wire) (by rfl) T.b_isinstance (by decide +kernel) (by rfl) T.b_int (by decide +kernel)))) (Xd (Ke (Z6g (m:=true) (T:="bool") (Ey (m:=true) (okc:=Ym N64_) (Z2 3) T.f_wire) (by rfl) T.b_isinstance (by decide +kernel) (by rfl) T.b_bool (by decide +kernel)))))) (Zo (W1 (U1))) Vz)
  (Z9 (Zp 5 Wv.nd rfl (Or.inl rfl) (Zl C__law_walked (hr.mono (by lia)) (Z0 (Z8 0) (Z0 (Ey (m:=false) (okc:=Ym N64_) (Z2 3) T.f_one) Za))))
  (Z9 (Zp 6 Wv.nd rfl (Or.inl rfl) (Zl C__law_walked (hr.mono (by lia)) (Z0 (Z8 0) (Z0 (Ey (m:=false) (okc:=Ym N64_) (Z2 3) T.f_other) Za))))
  (Z9 (R9 (PWd.pt (Z14 (Jw (Ou hr.units) (Z2 5) (W8 R7 (Zj Yh (Z2 2) (Zj Yh (Zj Yh (Z2 1) (Z3) (fun _ _=>rfl)) (Z3) (fun _ _=>rfl)) (fun _ _=>rfl)) Tr (Tw (Z3))) (Yf _)) (Z14 (Jw (Ou hr.units) (Z2 6) (W8 R7 (Zj Yh (Z2 2) (Zj Yh (Zj Yh (Z2 1) (Z3) (fun _ _=>rfl)) (Z3) (fun _ _=>rfl)) (fun _ _=>rfl)) Tr (Tw (Z3))) (Yf _)) (Xd (Jw (Ou hr.units) (Zj Yh (Z2 5) (Z3) (fun _ _=>rfl)) (Zj Yh (Z2 6) (Z3) (fun _ _=>rfl)) (Yf _)))))) (Zo (W1 (U1))) Vz)
  (Z9 (R9 (PWd.pt (Z14 (Jw (Ou hr.units) (Ey (m:=true) (okc:=Ym N64_) (Z2 3) T.f_one) (Zt C_way (hr.mono (by lia)) (Z0 (Z8 2) (Z0 (Zr Yh (Zj Yh (Z2 1) (Z3) (fun _ _=>rfl)) (Z3) (fun _ _=>rfl)) Za))) (Yf _)) (Xd (Jw (Ou hr.units) (Ey (m:=true) (okc:=Ym N64_) (Z2 3) T.f_other) (Zt C_way (hr.mono (by lia)) (Z0 (Z8 2) (Z0 (Zr Yh (Zj Yh (Z2 1) (Z3) (fun _ _=>rfl)) (Z3) (fun _ _=>rfl)) Za))) (Yf _))))) (Zo (W1 (U1))) Vz)
  (Zo (W1 (T2 (Ou hr.units) (Zt C__law_wants (hr.mono (by lia)) (Z0 (Z8 0) (Z0 (Z8 5) (Z0 (Ey (m:=false) (okc:=Ym N64_) (Z2 3) T.f_wire) Za)))) (Zt C__law_wants (hr.mono (by lia)) (Z0 (Z8 0) (Z0 (Z8 6) (Z0 (Ey (m:=false) (okc:=Ym N64_) (Z2 3) T.f_wire) Za)))) (Yf _)))))))))))))))))
theorem Zc4 {f:Addr} {fd:FuncData} (Df:Fun K "law" "law" Ky f fd) (T:Txt K mg)  (C__law_any_graph:CalD P w K mg base 4 "_law_any_graph" N15_ false Vc) (C_clashes:CalD P w K mg base 7 "clashes" N59_ true Qm) (C__law_lookers:CalD P w K mg base 2 "_law_lookers" N32_ false Um) (C__law_good:CalD P w K mg base 9 "_law_good" N53_ false U6) (C__law_mix:CalD P w K mg base 1 "_law_mix" N44_ false Zw) (hl:∀ ns:List Int,ns.length<=63->Za5 [.lst (ns.map .int)]=.ok (.bl true)):FnOk P w K mg base CX0 10 f fd N60_ (Bu K) :=
 Zau (N:=N10_) (ps:=N60_) (st:=Ky) (g:=A7) Df Eb rfl (fun cdv A outer s H E hr=>(by
  unfold A7;exact (Z9 (Zp 1 Eb.nd rfl (Or.inl rfl) (Zl C__law_any_graph (hr.mono (by lia)) (Z0 (Z8 0) (Z0 (Zz) (Z0 (Zz) (Z0 (Zz) Za))))))
  (Z9 (R9 (Jw (Gk hr.units) (Zb Vy (Zb Wh (Zt C__law_mix (hr.mono (by lia)) (Z0 (Z8 0) (Z0 (Zz) Za))) (Z3)) (Z3)) (Z3) (Yf _)) (Zo (Zp 1 Eb.nd rfl (Or.inl rfl) (Zl C__law_lookers (hr.mono (by lia)) (Z0 (Z8 1) (Z0 (Zi Wh (Zt C__law_mix (hr.mono (by lia)) (Z0 (Z8 0) (Z0 (Zz) Za))) (Z3)) Za))))) Vz)
  (Z9 (R9 (Z1u (Ke (Zt C__law_good (hr.mono (by lia)) (Z0 (Z8 1) Za)))) (Zo (W1 (U1))) Vz)
  (Z9 (Zp 2 Eb.nd rfl (Or.inl rfl) (Zi Vy (Zt C__law_mix (hr.mono (by lia)) (Z0 (Z8 0) (Z0 (Zz) Za))) (Y4 Jg (by rfl) T.b_len (by decide +kernel) (Z0 (Zj Yh (Z2 1) (Z3) (fun _ _=>rfl)) Za))))
  (Z9 (Zp 3 Eb.nd rfl (Or.inl rfl) (Zl C_clashes (hr.mono (by lia)) (Z0 (Z8 1) (Z0 (Zz) Za))))
  (Z9 (R9 (Jw (Ou hr.units) (Z2 3) (Yk (Ic Za)) (Yf _)) (Zo (Zp 2 Eb.nd rfl (Or.inl rfl) (Zr Yh (Zj Yh (Z2 3) (Z3) (fun _ _=>rfl)) (Z3) (fun _ _=>rfl)))) Vz)
  (Z9 (Dd 4 Eb.nd rfl (Or.inl rfl) (Z8z Z96 (by rfl) T.b_list (by decide +kernel) (Z0 (Zj Yh (Z2 1) (Z3) (fun _ _=>rfl)) Za)))
  (Z9 (Z0o 4 (Z2 2) (Y0 (Z0 (Zr Yh (Zj Yh (xo 4) (Z2 2) (fun _ _=>rfl)) (Z3) (fun _ _=>rfl)) (Z0 (Wq) Za))))
  (Zo (W1 (Zcx (m:=false) (Zt C__law_good (hr.mono (by lia)) (Z0 (Zi Gu (Q4 (Z0 (Q3 (m:=false) Tt (by rfl) T.b_tuple (by decide +kernel) (Z0 (xo 4) Za)) Za)) (W8 R7 (Z2 1) (Tw (Z3)) Tr)) Za)) (Zae (Zl C__law_good (hr.mono (by lia)) (Z0 (Z8 1) Za)))))))))))))))) hl
end
end K42
namespace L2
open PySem PySem.Spec PyProof.Rows
def Gd (r:Fl) (N:Ev->Prop) (R:Dat->Prop):Prop:=match r with
 | .next e=>N e
 | .ret d=>R d
 | _=>False
structure Go (r:Fl) (N:Ev->Prop) (R:Dat->Prop):Prop where
 of:Gd r N R
section
variable {N:Ev->Prop} {R:Dat->Prop} {g h:Ev->Fl} {f:Ev->Option Dat} {fs:Ev->Option (List Dat)} {t:Ev->Option Bool} {env:Ev} {d:Dat} {ds:List Dat} {i:Nat}
theorem Go.mono {N':Ev->Prop} {R':Dat->Prop} {r:Fl} (q:Go r N R) (hN:∀ e,N e->N' e) (hR:∀ d,R d->R' d):Go r N' R':=by
 cases r with
 | next e=>exact ⟨hN e q.of⟩
 | ret d=>exact ⟨hR d q.of⟩
 | _=>exact q.of.elim
theorem W5 (q:N env):Go (Mt env) N R:=⟨q⟩
theorem Z6 (q:Go (g env) (fun e=>Go (h e) N R) R):Go (Zc g h env) N R:=by
 unfold Zc;cases e:g env with
 | next e'=>rw [e] at q;exact q.of
 | ret d=>rw [e] at q;exact ⟨q.of⟩
 | _=>rw [e] at q;exact q.of.elim
theorem Zf (e:f env=some d) (q:N (env.set i (.fz d))):Go (Yg i f env) N R:=by unfold Yg;rw [e];exact ⟨q⟩
theorem Jo (e:fs env=some ds) (q:N (env.set i (.ow ds))):Go (N8 i fs env) N R:=by unfold N8;rw [e];exact ⟨q⟩
theorem Y8 (e:f env=some d) (q:R d):Go (U4 f env) N R:=by unfold U4;rw [e];exact ⟨q⟩
theorem Ec (e:env[i]?=some (.ow ds)) (q:R (.lst ds)):Go (K2 i env) N R:=by unfold K2;rw [e];exact ⟨q⟩
theorem Z3h (e:t env=some true) (q:Go (g env) N R):Go (sIf t g h env) N R:=by unfold sIf;rw [e];exact q
theorem Qs (e:t env=some false) (q:Go (h env) N R):Go (sIf t g h env) N R:=by unfold sIf;rw [e];exact q
theorem Mq {b:Bool} (e:t env=some b) (q1:b=true->Go (g env) N R) (q2:b=false->Go (h env) N R):Go (sIf t g h env) N R:=by
 cases b with
 | true=>exact Z3h e (q1 rfl)
 | false=>exact Qs e (q2 rfl)
theorem L5 {gg:Dat->Ev->Option Ev} {env':Ev} (e:f env=some d) (e2:gg d env=some env') (q:N env'):Go (Z33 f gg env) N R:=by
 unfold Z33;rw [e];dsimp only [Option.bind];rw [e2];exact ⟨q⟩
theorem Qf {F:List Dat->List Dat->Option (List Dat)} {ds' as:List Dat} (e:env[i]?=some (.ow ds)) (e2:fs env=some as) (e3:F ds as=some ds') (q:N (env.set i (.ow ds'))):Go (Ms i F fs env) N R:=by
 unfold Ms;rw [e];dsimp only;rw [e2];dsimp only [Option.bind];rw [e3];exact ⟨q⟩
theorem Cf {gg:Dat->Ev->Option Ev} (P:Nat->Ev->Prop):∀ (ds:List Dat) (k:Nat) (env:Ev),P k env->(∀ i d e,ds[i]?=some d->P (k+i) e->∃ e1,gg d e=some e1/\Go (g e1) (P (k+i+1)) R)->(∀ e,P (k+ds.length) e->N e)->Go (Ab gg g ds env) N R
 | [],k,env,h0,_,hN=>⟨hN env h0⟩
 | d::ds,k,env,h0,hs,hN=>by
  obtain ⟨e1,a1,a2⟩:=hs 0 d env rfl h0;rw [Ab,a1];dsimp only;cases e:g e1 with
  | next e' =>
   rw [e] at a2;exact Cf P ds (k+1) e' a2.of (fun i d e hi hp=>by
    have:=hs (i+1) d e (by simpa using hi) (by rw [show k+(i+1)=k+1+i by lia];exact hp);rw [show k+1+i+1=k+(i+1)+1 by lia];exact this) (fun e hp=>hN e (by rw [length_cons,show k+(ds.length+1)=k+1+ds.length by lia];exact hp))
  | ret d'=>rw [e] at a2;exact ⟨a2.of⟩
  | _=>rw [e] at a2;exact a2.of.elim
theorem Vb {src:Ev->Option (List Dat)} {gg:Dat->Ev->Option Ev} (P:Nat->Ev->Prop) (e:src env=some ds) (h0:P 0 env) (hs:∀ i d e,ds[i]?=some d->P i e->∃ e1,gg d e=some e1/\Go (g e1) (P (i+1)) R) (hN:∀ e,P ds.length e->N e):Go (Sa src gg g env) N R:=by
 unfold Sa;rw [e];exact Cf P ds 0 env h0 (fun i d e hi hp=>by simpa using hs i d e hi (by simpa using hp)) (fun e hp=>hN e (by simpa using hp))
theorem Go.ne {r:Fl} (q:Go r N R):r≠.no:=fun z=>by rw [z] at q;exact q.of
theorem X5 (W:Nat->Ev->Prop) {n:Nat} (h0:W n env) (hs:∀ n e,W n e->(t e=some false/\N e)\/(t e=some true/\Go (g e) (fun e'=>∃ m,m<n/\W m e') R)):Go (Ea t g env) N R:=by
 have key:∀ n e,W n e->Go (Us t g (n+1) e) N R:=by
  intro n;induction n using Nat.strongRecOn with
  | _ n ih =>
   intro e hw;rcases hs n e hw with ⟨a,b⟩ | ⟨a,b⟩
   ·rw [Us,a];exact ⟨b⟩
   ·rw [Us,a]
    dsimp only;cases eg:g e with
    | next e' =>
     rw [eg] at b;obtain ⟨m,hm,hw'⟩:=b.of;have q:=ih m hm e' hw';dsimp only;have:=Tu (n - (m+1)) q.ne;rw [show m+1+(n - (m+1))=n by lia] at this;rw [this];exact q
    | ret d=>rw [eg] at b;exact ⟨b.of⟩
    | _=>rw [eg] at b;exact b.of.elim
 have q:=key n env h0;rw [C4 q.ne];exact q
theorem Yb {n p:Nat} (hp:ds.length=p) (q:Go (g (M9 n ds)) (fun _=>R .non) R):∃ d,U0 n p g ds=.ok d/\R d:=by
 unfold U0;rw [if_pos hp];cases e:g (M9 n ds) with
 | next e'=>rw [e] at q;exact ⟨_,rfl,q.of⟩
 | ret d=>rw [e] at q;exact ⟨_,rfl,q.of⟩
 | _=>rw [e] at q;exact q.of.elim
end
theorem Tx {lo:Int} {n i:Nat} {d:Dat} (h:(rng lo n)[i]?=some d):i<n/\d=.int (lo+i):=by
 unfold rng at h;rw [getElem?_map] at h;by_cases hi:i<n
 ·rw [getElem?_range hi] at h
  exact ⟨hi,(Option.some.inj h).symm⟩
 ·rw [List.getElem?_eq_none (by simpa using hi)] at h
  cases h
theorem Yt {fs:Ev->Option (List Dat)} {env:Ev} {n:Nat} (h:fs env=some [.int n]) (hn:n<=100000):Tz fs env=some (rng 0 n):=by
 unfold Tz;rw [h];dsimp only;rw [if_pos ⟨by lia,by lia,by rw [sizeLine_eq];simp;lia⟩,Int.toNat_natCast]
theorem E9 {i j:Int} (h:Z3z i j):Nh (.int i) (.int j)=some (.int (i*j)):=if_pos h
theorem Z03 {i j:Int} (h:0<j):Jl (.int i) (.int j)=some (.int (i % j)):=if_pos h
theorem Z1q {i j:Int} (h:Z70 i j):Vj (.int i) (.int j)=some (.int (i / j)):=if_pos h
theorem Z5 {α:Type} {F:Dat->Dat->Option α} {f g:Ev->Option Dat} {env:Ev} {x y:Dat} {z:α} (h1:f env=some x) (h2:g env=some y) (h3:F x y=some z):dO F f g env=some z:=by unfold dO;rw [h1,h2];exact h3
theorem Wg {α:Type} {F:List Dat->Option α} {fs:Ev->Option (List Dat)} {env:Ev} {xs:List Dat} {z:α} (h1:fs env=some xs) (h3:F xs=some z):dF F fs env=some z:=by unfold dF;rw [h1];exact h3
theorem Z1 {f:Ev->Option Dat} {fs:Ev->Option (List Dat)} {env:Ev} {x:Dat} {xs:List Dat} (h1:f env=some x) (h2:fs env=some xs):Z4 f fs env=some (x::xs):=by unfold Z4;rw [h1,h2];rfl
theorem Zd {F:List Dat->Rs} {fs:Ev->Option (List Dat)} {env:Ev} {xs:List Dat} {d:Dat} (h1:fs env=some xs) (h2:F xs=.ok d):Yo F fs env=some d:=by unfold Yo;rw [h1];show okR (F xs)=_;rw [h2];rfl
theorem Wo {f:Ev->Option Dat} {env:Ev} {b:Bool} (h:f env=some (.bl b)):dB f env=some b:=by unfold dB;rw [h]
theorem Z50 (z:Str) (ws:List Str):(ws.map Dat.str).any (fun y=>eqD y (.str z))=decide (z∈ws):=by
 induction ws with
 | nil=>simp
 | cons w ws ih =>
  rw [map_cons,any_cons,ih];have:eqD (.str w) (.str z)=(w==z):=by unfold eqD;rfl
  rw [this];by_cases e:w=z
  ·subst e;simp
  ·have e':(w==z)=false:=by simpa using e
   have e2:¬ z=w:=fun q=>e q.symm
   rw [e'];simp [e2]
theorem Z3e (n:Nat) (z:Str):pd n (.str z)=true:=by cases n<;>rfl
theorem Z5t (ws:List Str):(ws.map Dat.str).all (pd 20)=true:=by
 induction ws with
 | nil=>rfl
 | cons w ws ih=>rw [map_cons,List.all_cons,ih,Z3e];rfl
theorem Z4e (z:Str) (ws:List Str):inB (.str z) (.lst (ws.map .str))=some (decide (z∈ws)):=by
 unfold inB;dsimp only;rw [Z5t,Z3e,Bool.and_self,if_pos rfl,Z50]
theorem Z4q (z:Str) (ws:List Str):inF (.str z) (.lst (ws.map .str))=some (.bl (decide (z∈ws))):=by unfold inF;rw [Z4e];rfl
theorem R1 {t u:Ev->Option Bool} {env:Ev} {a b:Bool} (h1:t env=some a) (h2:a=false->u env=some b):Fg t u env=some (a||b):=by
 unfold Fg;rw [h1];cases a with
 | true=>rfl
 | false=>exact h2 rfl
theorem G5 {t u:Ev->Option Bool} {env:Ev} {a b:Bool} (h1:t env=some a) (h2:a=true->u env=some b):Ia t u env=some (a&&b):=by
 unfold Ia;rw [h1];cases a with
 | false=>rfl
 | true=>exact h2 rfl
theorem R5 {F:Dat->Option Int->Option Int->Option Dat} {f:Ev->Option Dat} {l h:Ev->Option (Option Int)} {env:Ev} {x z:Dat} {a b:Option Int} (h1:f env=some x) (h2:l env=some a) (h3:h env=some b) (h4:F x a b=some z):dS F f l h env=some z:=by
 unfold dS;rw [h1,h2,h3];exact h4
theorem Wd {f:Ev->Option Dat} {env:Ev} {i:Int} (h:f env=some (.int i)):Qz f env=some (some i):=by unfold Qz;rw [h]
theorem Wt {xs:List Dat} {j:Nat} {x:Dat} (h:xs[j]?=some x):ixD (.lst xs) (.int j)=some x:=Ew h
theorem R8 {xs:List Dat} {j:Nat} {x:Dat} (h:xs[j]?=some x):ixD (.tup xs) (.int j)=some x:=Ew h
theorem Zbq (x y:Dat) {j:Int} (h0:0<=j) (h1:j<2):ixD (.lst [x,y]) (.int j)=some (if j=1 then y else x):=by
 rcases (show j=0\/j=1 by lia) with rfl | rfl<;>rfl
theorem Zbv (b:Bool):Z3q [.bl b]=some (.int (if b then 1 else 0)):=rfl
theorem Y2 {fs:Ev->Option (List Dat)} {env:Ev} {xs:List Dat} (h:fs env=some xs) (hl:xs.length<=1000):Uj fs env=some (.tup xs):=by unfold Uj;rw [h];exact if_pos hl
theorem Ts {ds:List Dat} {d:Dat} (h:ds.length<=1000):Vl ds [d]=some (ds++[d]):=if_pos (lt_of_le_of_lt h (by decide))
abbrev scr (ns:List Int):Dat:=.lst (ns.map .int)
abbrev M5:Str:="abcdefghijklmnopqrstuvwxyz"
theorem Ly:cl M5=List.range' 97 26:=by decide +kernel
theorem Xg {j:Int} (h0:0<=j) (h1:j<26):atI (cl M5) j=some (97+j.toNat):=by
 obtain ⟨n,rfl⟩:∃ n:Nat,j=n:=⟨j.toNat,(Int.toNat_of_nonneg h0).symm⟩;refine Ew ?_;rw [Ly,List.getElem?_range' (by lia)];simp
theorem Fc {j:Int} (h0:0<=j) (h1:j<26):ixD (.str M5) (.int j)=some (.str ⟨#[97+j.toNat]⟩):=by
 show (atI (cl M5) j).map _=_;rw [Xg h0 h1];rfl
theorem Am {x y:Str} (h:x.length+y.length<=1000):Wu (.str x) (.str y)=some (.str (x++y)):=if_pos (le_trans h (by decide))
theorem Zd1:Z67 "int" "bool" = some false:=by decide +kernel
theorem Zcq:Z67 "int" "int" = some true:=by decide +kernel
theorem Zcp:Z67 "list" "list" = some true:=by decide +kernel
theorem Xr {f:Ev->Option Dat} {env:Ev} {d:Dat} {t T:String} {b:Bool} (h:f env=some d) (ht:tyN d=some t) (hk:Z67 t T=some b):dI T f env=some (.bl b):=by
 unfold dI;rw [h];show (Zaf T d).map _=_;unfold Zaf;rw [ht];show Option.map _ (Z67 t T)=_;rw [hk];rfl
theorem Jt {f:Ev->Option Dat} {env:Ev} {b:Bool} (h:f env=some (.bl b)):dT f env=some b:=by unfold dT;rw [h];rfl
theorem Jd {t:Ev->Option Bool} {env:Ev} {b:Bool} (h:t env=some b):Sc t env=some (!b):=by unfold Sc;rw [h];rfl
theorem Vh {r:Rs} {d0:Dat} (h:∃ d,r=.ok d/\d=d0):r=.ok d0:=by obtain ⟨d,e,rfl⟩:=h;exact e
theorem Z4l (i:Str):eqF (.str i) (.str i)=some (.bl true):=by unfold eqF;rw [if_pos (by rfl)];unfold eqD;simp
theorem Vx {g:Ev->Option (List Dat)} {env:Ev} {ds:List Dat} (h:g env=some ds):dL g env=some (.lst ds):=by unfold dL;rw [h];rfl
theorem Yn {src:Ev->Option (List Dat)} {fs:List (Option Nat)} {g:Dat->Ev->Option Ev} {t:Ev->Option Bool} {f:Ev->Option Dat} {env env':Ev} {xs ys:List Dat} (h1:src env=some xs) (h2:Qq fs env=env') (h3:V8 g t f env' xs=some ys):Tk src fs g t f env=some ys:=by
 unfold Tk;rw [h1,h2];exact h3
theorem G0 {f:Ev->Option Dat} {env:Ev} {xs:List Dat} (h:f env=some (.tup xs)):Rv f env=some xs:=by unfold Rv;rw [h]
theorem Z69 {f:Ev->Option Dat} {env:Ev} {xs:List Dat} (h:f env=some (.tup xs)):O9 f env=some (Ex 0 xs):=by unfold O9;rw [G0 h];rfl
theorem Va {g:Dat->Ev->Option Ev} {t:Ev->Option Bool} {f:Ev->Option Dat} {env:Ev} {α:Type} (D:α->Dat) (y:α->Dat):∀ (xs:List α),(∀ x∈xs,∃ e1,g (D x) env=some e1/\t e1=some true/\f e1=some (y x))->V8 g t f env (xs.map D)=some (xs.map y)
 | [],_=>rfl
 | x::xs,h=>by
  obtain ⟨e1,a1,a2,a3⟩:=h x mem_cons_self;have ih:=Va D y xs fun z hz=>h z (mem_cons_of_mem _ hz)
  rw [map_cons,V8,a1];dsimp only [Option.bind];rw [a2];dsimp only;rw [if_pos rfl,a3];dsimp only;rw [ih];rfl
theorem Z54 (b:Bool):eqF (.str (if b then "made" else "given")) (.str "made")=some (.bl b):=by
 cases b
 ·show eqF (.str "given") (.str "made")=_
  unfold eqF;rw [if_pos (by rfl)];unfold eqD;rw [show (("given" : Str)=="made")=false by decide +kernel]
 ·exact Z4l _
theorem Zct (i j:Bool):eqF (.bl i) (.bl j)=some (.bl (i==j)):=rfl
theorem E7 (a b:Nat):Builtin.bitOr (a:Int) (b:Int)=((a ||| b:Nat):Int):=by
 unfold Builtin.bitOr Builtin.bitAnd Builtin.bitNot;have h1:decide (0<=-(a:Int) - 1)=false:=by simp;lia
 have h2:decide (0<=-(b:Int) - 1)=false:=by simp;lia
 rw [h1,h2];dsimp only;rw [show (-(-(a:Int) - 1) - 1).toNat=a by lia,show (-(-(b:Int) - 1) - 1).toNat=b by lia];lia
theorem Mp (a b:Nat):Builtin.bitAnd (a:Int) (b:Int)=((a &&& b:Nat):Int):=by
 unfold Builtin.bitAnd;rw [show decide (0<=(a:Int))=true by simp,show decide (0<=(b:Int))=true by simp];simp
def bitsN (ps:List Nat):Nat:=ps.foldl (fun a p=>a ||| 2^p) 0
theorem Cn (ps:List Nat):∀ (a j:Nat),(ps.foldl (fun a p=>a ||| 2^p) a).testBit j=(a.testBit j||decide (j∈ps)):=by
 induction ps with
 | nil=>intro a j;simp
 | cons p ps ih =>
  intro a j;rw [List.foldl_cons,ih,testBit_or,testBit_two_pow];by_cases h:j=p
  ·subst h;simp
  ·have h':¬ p=j:=fun e=>h e.symm
   simp [h,h']
theorem W7 (ps:List Nat) (j:Nat):(bitsN ps).testBit j=decide (j∈ps):=by unfold bitsN;rw [Cn];simp
theorem toI (ps:List Nat):(ps.map fun p:Nat=>(p:Int)).map Dat.int=ps.map fun p:Nat=>Dat.int (p:Int):=by rw [map_map];rfl
abbrev Ze (ps:List Nat):List Dat:=(ps.map fun p:Nat=>(p:Int)).map Dat.int
theorem Z26 (p:Nat) (hp:p<=1000):N9 (.int 1) (.int (p:Int))=some (.int ((2^p:Nat):Int)):=by
 have:N9 (.int 1) (.int (p:Int))=some (.int (1*2^((p:Int)).toNat)):=if_pos ⟨by lia,by lia,by decide⟩;rw [this,Int.toNat_natCast,Int.one_mul];congr 2
theorem C2 {F:List Dat->Rs} {fs:Ev->Option (List Dat)} {env:Ev} {xs:List Dat} {d:Dat} (h1:fs env=some xs) (h2:F xs=.ok d) (hd:Fm d=true:=by rfl):Z21 F fs env=some d:=by unfold Z21;rw [h1];show (okR (F xs)).bind _=_;rw [h2];show (if Fm d=true then some d else none)=_;rw [if_pos hd]
theorem Pm {ps:List Nat} {k:Nat} (h:∀ p∈ps,p<k):bitsN ps<2^k:=Nat.lt_pow_two_of_testBit _ fun i hi=>by
 rw [W7];apply decide_eq_false;intro hm;have:=h i hm;lia
theorem Gp (a b:Nat):Builtin.bitXor (a:Int) (b:Int)=((a ^^^ b:Nat):Int):=by
 unfold Builtin.bitXor;rw [E7,Mp];have key:∀ (x y:Nat),x ||| y=(x ^^^ y)+(x &&& y):=by
  intro x;induction x using Nat.strongRecOn with
  | _ x ih =>
   intro y;by_cases hx:x=0
   ·subst hx;simp
   ·have h:=ih (x / 2) (by lia) (y / 2)
    have e1:x ||| y=2*(x / 2 ||| y / 2)+(x ||| y) % 2:=by rw [← Nat.or_div_two];lia
    have e2:x ^^^ y=2*(x / 2 ^^^ y / 2)+(x ^^^ y) % 2:=by rw [← Nat.xor_div_two];lia
    have e3:x &&& y=2*(x / 2 &&& y / 2)+(x &&& y) % 2:=by rw [← Nat.and_div_two];lia
    have e4:(x ||| y) % 2=(x ^^^ y) % 2+(x &&& y) % 2:=by
     have t1:∀ z:Nat,z % 2=(z.testBit 0).toNat:=fun z=>by rw [Nat.testBit_zero];by_cases q:z % 2=1<;>simp [q];lia
     rw [t1,t1,t1,testBit_or,testBit_xor,testBit_and];cases x.testBit 0<;>cases y.testBit 0<;>rfl
    lia
 have:=key a b;lia
theorem Hh (a b:Nat):∃ c:Nat,Builtin.bitAnd (a:Int) (-(b:Int) - 1)=(c:Int)/\∀ j,c.testBit j=(a.testBit j&&!b.testBit j):=by
 refine ⟨a ^^^ (a &&& b),?_,fun j=>by rw [testBit_xor,testBit_and];cases a.testBit j<;>cases b.testBit j<;>rfl⟩;have hx:=Gp a (a &&& b);unfold Builtin.bitXor at hx;rw [E7,Mp] at hx;have e1:a ||| (a &&& b)=a:=eq_of_testBit_eq fun j=>by rw [testBit_or,testBit_and];cases a.testBit j<;>cases b.testBit j<;>rfl
 have e2:a &&& (a &&& b)=a &&& b:=eq_of_testBit_eq fun j=>by rw [testBit_and,testBit_and];cases a.testBit j<;>cases b.testBit j<;>rfl
 rw [e1,e2] at hx;rw [← hx];unfold Builtin.bitAnd Builtin.bitNot;have h1:decide (0<=(a:Int))=true:=by simp
 have h2:decide (0<=-(b:Int) - 1)=false:=by simp;lia
 rw [h1,h2];dsimp only;rw [show (-(-(b:Int) - 1) - 1).toNat=b by lia,Int.toNat_natCast]
theorem Z7c (n j:Nat):Z13 (.int (n:Int)) (.int (j:Int))=some (.int ((n / 2^j:Nat):Int)):=by
 have:Z13 (.int (n:Int)) (.int (j:Int))=some (.int ((n:Int) / 2^((j:Int)).toNat)):=by unfold Z13 iop;dsimp only;rw [if_pos (by lia)]
 rw [this,Int.toNat_natCast];congr 2
theorem Z1b (n j:Nat):Nf (.int ((n / 2^j:Nat):Int)) (.int 1)=some (.int (if n.testBit j then 1 else 0)):=by
 show some (Dat.int (Builtin.bitAnd ((n / 2^j:Nat):Int) ((1:Nat):Int)))=_;rw [Mp,Nat.and_one_is_mod,Nat.testBit_eq_decide_div_mod_eq];generalize n / 2^j=q;congr 2
 rcases (show q % 2=0\/q % 2=1 by lia) with h | h<;>simp [h]
theorem Z78 (a b:Nat):Nf (.int (a:Int)) (.int (b:Int))=some (.int ((a &&& b:Nat):Int)):=by
 show some (Dat.int (Builtin.bitAnd _ _))=_;rw [Mp]
theorem orN (a b:Nat):orD (.int (a:Int)) (.int (b:Int))=some (.int ((a ||| b:Nat):Int)):=by
 show some (Dat.int (Builtin.bitOr _ _))=_;rw [E7]
theorem Zaa (a b:Nat):Z6m (.int (a:Int)) (.int (b:Int))=some (.int ((a ^^^ b:Nat):Int)):=by
 show some (Dat.int (Builtin.bitXor _ _))=_;rw [Gp]
theorem C9 (b:Bool):eqF (.int (if b then 1 else 0)) (.int 1)=some (.bl b):=by cases b<;>rfl
theorem eqN (a b:Nat):eqF (.int (a:Int)) (.int (b:Int))=some (.bl (a==b)):=by
 show some (Dat.bl ((a:Int)==(b:Int)))=_;congr 2
 rw [Bool.eq_iff_iff,beq_iff_eq,beq_iff_eq];lia
theorem Zai (i j:Int):neF (.int i) (.int j)=some (.bl (!(i==j))):=rfl
theorem Bd (bs:List Bool):Z6h [.lst (bs.map .bl)]=some (.bl (bs.any id)):=by unfold Z6h;dsimp only;rw [Z25];rfl
theorem Sw {fs:Ev->Option (List Dat)} {env:Ev} {xs:List Dat} (h:fs env=some xs) (hl:xs.length<=1000):Ef fs env=some xs:=by unfold Ef;rw [h];exact if_pos (le_trans hl (by decide))
theorem Wi (ps:List Nat):Ze ps=ps.map fun p:Nat=>Dat.int (p:Int):=toI ps
theorem Z9q {F:Dat->Option Dat} {f:Ev->Option Dat} {env:Ev} {x z:Dat} (h1:f env=some x) (h2:F x=some z):dU F f env=some z:=by unfold dU;rw [h1];exact h2
theorem Dl {g:Dat->Ev->Option Ev} {f:Ev->Option Dat} {env:Ev} {α:Type} (D:α->Dat) (P:α->Prop):∀ (xs:List Dat),(∀ x∈xs,∃ (e1:Ev) (y:α),g x env=some e1/\f e1=some (D y)/\P y)->∃ ys:List α,V8 g Ub f env xs=some (ys.map D)/\ys.length=xs.length/\∀ y∈ys,P y
 | [],_=>⟨[],rfl,rfl,fun _ h=>nomatch h⟩
 | x::xs,h=>by
  obtain ⟨e1,y,a1,a2,a3⟩:=h x mem_cons_self;obtain ⟨ys,b1,b2,b3⟩:=Dl D P xs fun z hz=>h z (mem_cons_of_mem _ hz)
  refine ⟨y::ys,?_,by rw [length_cons,length_cons,b2],fun z hz=>?_⟩
  ·rw [V8,a1]
   dsimp only [Option.bind,Ub];rw [if_pos rfl,a2];dsimp only;rw [b1];rfl
  ·rcases mem_cons.mp hz with e | e
   ·exact e▸a3
   ·exact b3 z e
theorem Nq {lo:Int} {n:Nat} {d:Dat} (h:d∈rng lo n):∃ i:Nat,i<n/\d=.int (lo+i):=by
 obtain ⟨i,hi,e⟩:=List.getElem_of_mem h;have:=Tx (lo:=lo) (n:=n) (i:=i) (d:=d) (by rw [getElem?_eq_getElem hi,e]);exact ⟨i,this.1,this.2⟩
theorem S8 {ps:List Nat} {i:Nat} {d:Dat} (h:(Ze ps)[i]?=some d):∃ p:Nat,ps[i]?=some p/\d=.int (p:Int):=by
 rw [getElem?_map,getElem?_map] at h;obtain ⟨y,hy,rfl⟩:=map_some h;obtain ⟨p,hq,rfl⟩:=map_some hy;exact ⟨p,hq,rfl⟩
theorem Z1w {m:Nat} {ps:List Nat}:(m &&& bitsN ps)=bitsN ps↔∀ p∈ps,m.testBit p=true:=by
 constructor
 ·intro h p hp
  have:(m &&& bitsN ps).testBit p=true:=by rw [h,W7];simpa using hp
  rw [testBit_and] at this;exact (Bool.and_eq_true_iff.mp this).1
 ·intro h
  apply eq_of_testBit_eq;intro j;rw [testBit_and,W7];by_cases hj:j∈ps
  ·simp [hj,h j hj]
  ·simp [hj]
structure St3 where
 w:Nat
 up:Bool
 takes:List Nat
 fills:List Nat
def St3.d (s:St3):Dat:=.tup [.int (s.w:Int),.bl s.up,.tup (Ze s.takes),.tup (Ze s.fills)]
structure G3 where
 wires:List (Str×Bool)
 steps:List St3
 marks:Nat
 code:Nat
def Mv (w:Str×Bool):Dat:=.tup [.str w.1,.str (if w.2 then "made" else "given")]
def G3.d (G:G3):Dat:=.tup [.tup (G.wires.map Mv),.tup (G.steps.map St3.d),.int (G.marks:Int),.int (G.code:Int)]
theorem Ro (r m:Nat) (h:0<m):Jl (.int (r:Int)) (.int (m:Int))=some (.int ((r % m:Nat):Int)):=by
 rw [Z03 (by lia)];rfl
theorem Uw (r m:Nat) (h:0<m) (h2:m<1073741824):Vj (.int (r:Int)) (.int (m:Int))=some (.int ((r / m:Nat):Int)):=by
 rw [Z1q ⟨by lia,by lia⟩];rfl
theorem Z2f (r m:Nat) (h:r<18446744073709551616):Nh (.int (r:Int)) (.int (m:Int))=some (.int ((r*m:Nat):Int)):=by
 rw [E9 (.inl ⟨by lia,by lia⟩)];rfl
theorem Qu (r m:Nat):Wu (.int (r:Int)) (.int (m:Int))=some (.int ((r+m:Nat):Int)):=rfl
def My (s:St3) (m:Nat):Bool:=(m &&& bitsN s.takes)==bitsN s.takes
theorem Ji {s:St3} {m:Nat}:My s m=true↔∀ p∈s.takes,m.testBit p=true:=by
 unfold My;rw [beq_iff_eq];exact Z1w
theorem Cu (ps:List Nat):∃ qs:List Nat,(K7 (ps.map fun p:Nat=>(p:Int))).map Dat.int=Ze qs/\qs.Perm ps:=by
 refine ⟨(K7 (ps.map fun p:Nat=>(p:Int))).map Int.toNat,?_,?_⟩
 ·show _=(((K7 (ps.map fun p:Nat=>(p:Int))).map Int.toNat).map fun p:Nat=>(p:Int)).map Dat.int
  congr 1
  rw [map_map];conv=>lhs;rw [← List.map_id (K7 _)]
  apply List.map_congr_left;intro x hx;have:=(Th _).mem_iff.mp hx;obtain ⟨p,_,rfl⟩:=mem_map.mp this;simp
 ·have h:=(Th (ps.map fun p:Nat=>(p:Int))).map Int.toNat
  rw [map_map] at h;have e:(Int.toNat ∘ fun p:Nat=>(p:Int))=id:=by funext p;simp
  rw [e,List.map_id] at h;exact h
theorem Ek (ps:List Nat) (h:ps.length<64):∃ qs:List Nat,Z0r [.lst (Ze ps)]=some (Ze qs)/\qs.Perm ps:=by
 obtain ⟨qs,e,hp⟩:=Cu ps;refine ⟨qs,?_,hp⟩;unfold Z0r;dsimp only;rw [Ee];show (if (ps.map fun p:Nat=>(p:Int)).length<64 then _ else _)=_;rw [if_pos (by rw [length_map];exact h),e]
theorem Gj (x y:Str):(x++y).length=x.length+y.length:=B6 x y
section
variable {env:Ev} {N:Ev->Prop} {R:Dat->Prop}
theorem Fq {i:Nat} {fa fb:Ev->Option Dat} {ds:List Dat} {d:Dat} {k:Nat} (e:env[i]?=some (.ow ds)) (e1:fb env=some d) (e2:fa env=some (.int (k:Int))) (hk:k<ds.length) (q:N (env.set i (.ow (ds.set k d)))):Go (Rf i fa fb env) N R:=by
 unfold Rf;rw [e,e1,e2];dsimp only;rw [if_pos ⟨by lia,by lia⟩];exact ⟨q⟩
theorem Bk {i:Nat} {src:Ev->Option (List Dat)} {fs:List (Option Nat)} {ds:List Dat} {h:Nat} (e:src env=some ds) (q:N (env.set i (.gx (.nest (List.replicate ds.length []))))):Go (Xk i src fs (Yu h) env) N R:=by
 unfold Xk;rw [e];dsimp only;rw [if_pos (show (ds.all fun d=>(Yu h d (Qq fs env)).isSome)=true from all_eq_true.mpr fun d _=>rfl)];exact ⟨q⟩
def Ac (tk:List (List Nat)) (k x:Nat):List (List Nat):=tk.set k (tk.getD k []++[x])
theorem Je (tk:List (List Nat)) (k x:Nat):(Ac tk k x).length=tk.length:=by unfold Ac;rw [length_set]
structure Nst (L B:Nat) (tk:List (List Nat)):Prop where
 len:∀ l∈tk,l.length<=L
 lt:∀ l∈tk,∀ p∈l,p<B
theorem Nst.mono {L L' B B':Nat} {tk:List (List Nat)} (h:Nst L B tk) (h1:L<=L') (h2:B<=B'):Nst L' B' tk:=⟨fun l q=>le_trans (h.len l q) h1,fun l q p z=>lt_of_lt_of_le (h.lt l q p z) h2⟩
theorem Nst.app {L B:Nat} {tk:List (List Nat)} (h:Nst L B tk) (k x:Nat) (hx:x<B):Nst (L+1) B (Ac tk k x):=by
 have hg:(tk.getD k []).length<=L/\∀ p∈tk.getD k [],p<B:=by
  cases e:tk[k]? with
  | none=>simp [List.getD,e]
  | some l=>have hm:=mem_of_getElem? e;simp only [List.getD,e,Option.getD_some];exact ⟨h.len l hm,h.lt l hm⟩
 constructor
 ·intro l hl
  rcases List.mem_or_eq_of_mem_set hl with q | q
  ·exact Nat.le_succ_of_le (h.len l q)
  ·rw [q,length_append];show _+1<=_;lia
 ·intro l hl p hp
  rcases List.mem_or_eq_of_mem_set hl with q | q
  ·exact h.lt l q p hp
  ·rw [q] at hp
   rcases mem_append.mp hp with z | z
   ·exact hg.2 p z
   ·rw [mem_singleton.mp z];exact hx
theorem Nst.nil (n:Nat):Nst 0 0 (List.replicate n []):=⟨fun l h=>by rw [(mem_replicate.mp h).2];exact le_refl _,fun l h p hp=>by rw [(mem_replicate.mp h).2] at hp;cases hp⟩
theorem Z2c (n:Nat):(List.replicate n ([]:List Dat))=(List.replicate n ([]:List Nat)).map Ze:=by rw [List.map_replicate];rfl
theorem Hx {i:Nat} {fa:Ev->Option Dat} {fs:Ev->Option (List Dat)} {tk:List (List Nat)} {k x L B:Nat} (e:env[i]?=some (.gx (.nest (tk.map Ze)))) (h:Nst L B tk) (hL:L<=1000) (hk:k<tk.length) (e1:fa env=some (.int (k:Int))) (e2:fs env=some [.int (x:Int)]) (q:N (env.set i (.gx (.nest ((Ac tk k x).map Ze))))):Go (L3 i fa fs env) N R:=by
 unfold L3;rw [e,e1];dsimp only;have hat:E2 (tk.map Ze) (k:Int)=some (Ze tk[k]):=by
  unfold E2;rw [if_pos (by lia),Int.toNat_natCast];simp [hk]
 rw [hat,e2];dsimp only;have hl:=h.len _ (getElem_mem hk);rw [show (some [Dat.int (x:Int)]).bind (fun as=>Vl (Ze tk[k]) as)=some (Ze (tk[k]++[x])) by
  show Vl (Ze tk[k]) [Dat.int (x:Int)]=_;rw [Ts (by rw [length_map,length_map];lia)];simp [Ze]]
 dsimp only;have:(tk.map Ze).set ((k:Int)).toNat (Ze (tk[k]++[x]))=(Ac tk k x).map Ze:=by
  unfold Ac;rw [Int.toNat_natCast,List.map_set];congr 2
  simp [List.getD,hk]
 rw [this];exact ⟨q⟩
theorem Z0v {i:Nat} {fa:Ev->Option Dat} {tk:List (List Nat)} {k:Nat} {l:List Nat} (e:env[i]?=some (.gx (.nest (tk.map Ze)))) (e1:fa env=some (.int (k:Int))) (hk:tk[k]?=some l):Z6j i fa env=some (.lst (Ze l)):=by
 unfold Z6j;rw [e,e1];dsimp only;unfold E2;rw [if_pos (by lia),Int.toNat_natCast,getElem?_map,hk];rfl
end
theorem Km {g:Dat->Ev->Option Ev} {t:Ev->Option Bool} {f:Ev->Option Dat} {env:Ev} {α:Type} (D E:α->Dat):∀ (xs:List α),(∀ x∈xs,∃ e1 b,g (D x) env=some e1/\t e1=some b/\f e1=some (E x))->∃ ys:List α,ys.Sublist xs/\V8 g t f env (xs.map D)=some (ys.map E)
 | [],_=>⟨[],.slnil,rfl⟩
 | x::xs,h=>by
  obtain ⟨ys,h1,h2⟩:=Km D E xs fun z hz=>h z (mem_cons_of_mem _ hz)
  obtain ⟨e1,b,a1,a2,a3⟩:=h x mem_cons_self;cases b with
  | true=>exact ⟨x::ys,h1.cons₂ x,by rw [map_cons,V8,a1];show (t e1).bind _=_;rw [a2];show (f e1).bind _=_;rw [a3,h2];rfl⟩
  | false=>exact ⟨ys,h1.cons x,by rw [map_cons,V8,a1];show (t e1).bind _=_;rw [a2];exact h2⟩
theorem Zag (r m:Nat) (h:m<=r):Z68 (.int (r:Int)) (.int (m:Int))=some (.int ((r - m:Nat):Int)):=by
 show some (Dat.int ((r:Int) - (m:Int)))=_;rw [Int.ofNat_sub h]
theorem Lw (ps:List Nat):Rq [.lst (Ze ps)]=some (.int ((ps.length:Nat):Int)):=by
 show some (Dat.int ((Ze ps).length:Int))=_;rw [length_map,length_map]
theorem Ed (ps:List Nat) (a w:Nat) (h:a<=ps.length) (hl:ps.length<=1000):R3 (Ze ps) [.int (a:Int),.int (w:Int)]=some (Ze (ps.take a++w::ps.drop a)):=by
 show (if _ then some _ else none)=_;rw [if_pos ⟨by lia,by rw [length_map,length_map];lia,by rw [length_map,length_map];exact lt_of_le_of_lt hl (by decide)⟩,Int.toNat_natCast];simp [Ze,map_take,map_drop]
theorem Qy {α:Type} (ps:List α) (a:Nat) (w:α):(ps.take a++w::ps.drop a).length=ps.length+1:=by
 rw [length_append,length_cons,length_take,length_drop];lia
theorem Nv {α:Type} (ps:List α) (a:Nat) (w:α):(ps.take a++w::ps.drop a).Perm (w::ps):=by
 have h:(ps.take a++w::ps.drop a).Perm (w::(ps.take a++ps.drop a)):=List.perm_middle;rw [List.take_append_drop] at h;exact h
theorem D0 (ps:List Nat) (a w v:Nat):(ps.take a++w::ps.drop a).count v=ps.count v+(if w=v then 1 else 0):=by
 rw [(Nv ps a w).count_eq,List.count_cons];by_cases h:w=v<;>simp [h]
theorem Dq {α:Type} (xs:List α) (t:Nat) (h:t<=xs.length):Eh xs (some (t:Int)) none=xs.drop t:=by
 unfold Eh;rw [HT.sIx_nat,HT.sIx_none,Nat.min_eq_left h,take_of_length_le (by rw [length_drop];exact le_refl _)]
theorem Dg {α:Type} (xs:List α) (t:Nat) (h:t<=xs.length):Eh xs none (some (t:Int))=xs.take t:=by
 unfold Eh;rw [HT.sIx_nat,HT.sIx_none,Nat.min_eq_left h,drop_zero,Nat.sub_zero]
theorem Jb {α β:Type} (f:α->β) (xs:List α) (a b:Option Int):Eh (xs.map f) a b=(Eh xs a b).map f:=by
 unfold Eh;rw [length_map,map_take,map_drop]
theorem Z5u (ps:List Nat) (c:Nat):(ps.map fun p:Nat=>(p:Int)).idxOf (c:Int)=ps.idxOf c:=by
 induction ps with
 | nil=>rfl
 | cons p ps ih =>
  rw [map_cons,idxOf_cons,idxOf_cons,ih];by_cases h:p=c
  ·subst h;rw [show ((p:Int)==(p:Int))=true from beq_self_eq_true _,show (p==p)=true from beq_self_eq_true _]
  ·rw [show ((p:Int)==(c:Int))=false from beq_eq_false_iff_ne.mpr (by lia),show (p==c)=false from beq_eq_false_iff_ne.mpr h]
theorem Gn (ps:List Nat) (c:Nat) (h:c∈ps):Ki (.lst (Ze ps)) [.int (c:Int)]=some (.int ((ps.idxOf c:Nat):Int)):=by
 show ((Ru (Ze ps)).bind fun zs=>if (c:Int)∈zs then some (Dat.int ((zs.idxOf (c:Int):Nat):Int)) else none)=_;rw [Ee];show (if _ then some _ else none)=_;rw [if_pos (List.mem_map_of_mem h),Z5u]
theorem Iw {xs ys:List Dat} (h:xs.length+ys.length<=1000):Wu (.lst xs) (.lst ys)=some (.lst (xs++ys)):=if_pos (le_trans h (by decide))
theorem B1 {xs ys:List Dat} (h:xs.length+ys.length<=1000):Z6i (.lst xs) (.lst ys)=some (xs++ys):=if_pos (le_trans h (by decide))
theorem Sk {xs ys:List Dat} (h:xs.length+ys.length<=1000):B2 (.tup xs) (.tup ys)=some (.tup (xs++ys)):=if_pos (le_trans h (by decide))
def Zx (p:Nat×Nat):Dat:=.tup [.int (p.1:Int),.int (p.2:Int)]
theorem K9 (p:Nat×Nat):pd 20 (Zx p)=true:=rfl
theorem Kh (p:Nat×Nat) (qs:List (Nat×Nat)):∃ b,Z5o (Zx p) (.lst (qs.map Zx))=some (.bl b):=by
 refine ⟨!((qs.map Zx).any fun y=>eqD y (Zx p)),?_⟩;unfold Z5o inB;dsimp only;rw [if_pos]
 ·rfl
 ·rw [K9,Bool.true_and]
  exact all_eq_true.mpr fun x hx=>by obtain ⟨q,_,rfl⟩:=mem_map.mp hx;exact K9 q
theorem Zdr (a b:Nat):Z6l [.int (a:Int),.int (b:Int)]=some (.int ((min a b:Nat):Int)):=by
 show some (Dat.int (if (b:Int)<(a:Int) then (b:Int) else (a:Int)))=_;congr 2
 split<;>lia
theorem Zdv (a b:Nat):Z6k [.int (a:Int),.int (b:Int)]=some (.int ((max a b:Nat):Int)):=by
 show some (Dat.int (if (b:Int) > (a:Int) then (b:Int) else (a:Int)))=_;congr 2
 split<;>lia
theorem neN (a b:Nat):neF (.int (a:Int)) (.int (b:Int))=some (.bl (!(a==b))):=by
 rw [Zai];congr 3
 rw [Bool.eq_iff_iff];simp;lia
theorem D9 (ps:List Nat) (h:ps.length<64):∃ qs:List Nat,M4 [.lst (Ze ps)]=some (Ze qs)/\qs.Perm ps:=Ek ps h
theorem E4 (ps:List Nat) (h:ps.length<64):∃ qs:List Nat,M4 [.tup (Ze ps)]=some (Ze qs)/\qs.Perm ps:=Ek ps h
theorem Su (n:Nat):rng 0 n=(List.range n).map fun k:Nat=>Dat.int (k:Int):=by
 unfold rng;congr 1
 funext k
 rw [Int.zero_add]
theorem Jx {xs:List Dat} {i:Nat} {d:Dat} (h:(Ex 0 xs)[i]?=some d):∃ x,xs[i]?=some x/\d=.tup [.int (i:Int),x]:=by
 rw [Ht] at h;cases e:xs[i]? with
 | none=>rw [e] at h;cases h
 | some x=>rw [e] at h;cases h;exact ⟨x,rfl,by rw [zero_add]⟩
theorem Z9a {α:Type} {T:String} {F:Dat->List Dat->Option α} {f:Ev->Option Dat} {fs:Ev->Option (List Dat)} {env:Ev} {x:Dat} {as:List Dat} {z:α} (h1:f env=some x) (ht:Z5c T x=true) (h2:fs env=some as) (h3:F x as=some z):dM T F f fs env=some z:=by
 unfold dM;rw [h1];show (if _ then _ else _)=_;rw [if_pos ht,h2];exact h3
theorem Bh {f:Ev->Option Dat} {env:Ev} {xs:List Dat} (h:f env=some (.lst xs)):Rv f env=some xs:=by unfold Rv;rw [h]
theorem Io {f:Ev->Option Dat} {env:Ev} {xs:List Dat} (h:f env=some (.lst xs)):O9 f env=some (Ex 0 xs):=by unfold O9;rw [Bh h];rfl
theorem Fi (ds:List Dat) (a:Nat) (d:Dat) (h:a<=ds.length) (hl:ds.length<=1000):R3 ds [.int (a:Int),d]=some (ds.take a++d::ds.drop a):=by
 show (if _ then some _ else none)=_;rw [if_pos ⟨by lia,by lia,lt_of_le_of_lt hl (by decide)⟩,Int.toNat_natCast]
theorem Qh {g:Dat->Ev->Option Ev} {t:Ev->Option Bool} {f:Ev->Option Dat} {env:Ev} {α:Type} (D E:α->Dat) (p:α->Bool):∀ (xs:List α),(∀ x∈xs,∃ e1,g (D x) env=some e1/\t e1=some (p x)/\f e1=some (E x))->V8 g t f env (xs.map D)=some ((xs.filter p).map E)
 | [],_=>rfl
 | x::xs,h=>by
  have ih:=Qh D E p xs fun z hz=>h z (mem_cons_of_mem _ hz)
  obtain ⟨e1,a1,a2,a3⟩:=h x mem_cons_self;rw [map_cons,V8,a1];show (t e1).bind _=_;rw [a2];cases hp:p x with
  | true=>show (f e1).bind _=_;rw [a3,ih,List.filter_cons_of_pos hp];rfl
  | false=>rw [List.filter_cons_of_neg (by rw [hp];decide)];exact ih
theorem O3 (xs:List Dat) (a b:Option Int):slX (.lst xs) a b=some (.lst (Eh xs a b)):=rfl
theorem Dy (xs:List Dat) (a b:Option Int):slX (.tup xs) a b=some (.tup (Eh xs a b)):=rfl
theorem Z56 (z:Str) (a b:Option Int):slX (.str z) a b=some (.str (Txt.slice z a b)):=rfl
def Jm (s:St3) (p:Nat×Nat):Nat×Nat:=((p.1 ^^^ (p.1 &&& bitsN s.takes)) ||| bitsN s.fills,p.2 ^^^ 2^s.w)
theorem K1 (s:St3) (p:Nat×Nat) (j:Nat):(Jm s p).1.testBit j=((p.1.testBit j&&!decide (j∈s.takes))||decide (j∈s.fills)):=by
 unfold Jm;dsimp only;rw [testBit_or,testBit_xor,testBit_and,W7,W7];cases p.1.testBit j<;>cases decide (j∈s.takes)<;>rfl
theorem Zay (s:St3) (p:Nat×Nat) (j:Nat):(Jm s p).2.testBit j=(p.2.testBit j ^^ decide (s.w=j)):=by
 unfold Jm;dsimp only;rw [testBit_xor,testBit_two_pow]
structure Calm (G:G3) (I:Nat×Nat->Prop):Prop where
 ini:I (G.marks,G.code)
 lev:∀ p s,I p->s∈G.steps->My s p.1=true->p.2.testBit s.w≠s.up
 room:∀ p s,I p->s∈G.steps->My s p.1=true->∀ q∈s.fills,p.1.testBit q=true->q∈s.takes
 nxt:∀ p s,I p->s∈G.steps->My s p.1=true->I (Jm s p)
 few:∀ l:List (Nat×Nat),l.Nodup->(∀ p∈l,I p)->l.length<=400
structure Rw where
 m:Nat
 c:Nat
 src:Option (Nat×Nat)
def Rw.st (r:Rw):Nat×Nat:=(r.m,r.c)
def Rw.d (r:Rw):Dat:=.tup [.int (r.m:Int),.int (r.c:Int),match r.src with | none=>.non | some p=>.int (p.1:Int),match r.src with | none=>.non | some p=>.int (p.2:Int)]
structure Told (G:G3) (I:Nat×Nat->Prop) (rows:List Rw):Prop where
 zero:rows[0]?=some ⟨G.marks,G.code,none⟩
 inv:∀ r∈rows,I r.st
 nd:(rows.map Rw.st).Nodup
 src:∀ i r,rows[i]?=some r->0<i->∃ f k s rf,r.src=some (f,k)/\f<i/\G.steps[k]?=some s/\rows[f]?=some rf/\My s rf.m=true/\r.st=Jm s rf.st
theorem Told.start {G:G3} {I:Nat×Nat->Prop} (h:Calm G I):Told G I [⟨G.marks,G.code,none⟩] where
 zero:=rfl
 inv:=fun r hr=>by rw [mem_singleton.mp hr];exact h.ini
 nd:=nodup_cons.mpr ⟨by simp,nodup_nil⟩
 src:=fun i r e h0=>by
  rw [getElem?_cons,if_neg (by lia)] at e;cases e
theorem Told.app {G:G3} {I:Nat×Nat->Prop} (h:Calm G I) {rows:List Rw} (t:Told G I rows) {f k:Nat} {s:St3} {rf:Rw} (hf:rows[f]?=some rf) (hs:G.steps[k]?=some s) (hc:My s rf.m=true) (hn:Jm s rf.st∉rows.map Rw.st):Told G I (rows++[⟨(Jm s rf.st).1,(Jm s rf.st).2,some (f,k)⟩]) where
 zero:=by
  have:=t.zero;have hl:=(List.getElem?_eq_some_iff.mp this).1;rw [getElem?_append_left hl];exact this
 inv:=fun r hr=>by
  rcases mem_append.mp hr with q | q
  ·exact t.inv r q
  ·rw [mem_singleton.mp q]
   exact h.nxt rf.st s (t.inv rf (mem_of_getElem? hf)) (mem_of_getElem? hs) hc
 nd:=by
  rw [map_append];refine nodup_append.mpr ⟨t.nd,nodup_cons.mpr ⟨by simp,nodup_nil⟩,fun a ha b hb=>?_⟩;have eb:b=Jm s rf.st:=mem_singleton.mp hb;rw [eb];intro e;exact hn (e▸ha)
 src:=fun i r e h0=>by
  rcases lt_or_ge i rows.length with hl | hl
  ·rw [getElem?_append_left hl] at e
   obtain ⟨f',k',s',rf',a1,a2,a3,a4,a5,a6⟩:=t.src i r e h0;exact ⟨f',k',s',rf',a1,a2,a3,by rw [getElem?_append_left (by lia)];exact a4,a5,a6⟩
  ·rw [getElem?_append_right hl] at e
   have hfl:=(List.getElem?_eq_some_iff.mp hf).1;have e0:i - rows.length=0:=by
    rcases eq_zero_or_pos (i - rows.length) with z | z
    ·exact z
    ·rw [getElem?_cons,if_neg (by lia)] at e;cases e
   rw [e0] at e;cases e;exact ⟨f,k,s,rf,rfl,by lia,hs,by rw [getElem?_append_left hfl];exact hf,hc,rfl⟩
theorem Told.le {G:G3} {I:Nat×Nat->Prop} (h:Calm G I) {rows:List Rw} (t:Told G I rows):rows.length<=400:=by
 have:=h.few (rows.map Rw.st) t.nd fun p hp=>by obtain ⟨r,hr,rfl⟩:=mem_map.mp hp;exact t.inv r hr
 rwa [length_map] at this
def Pt (rows:List Rw):Nat->Nat->List Nat
 | 0,_=>[]
 | fu+1,n=>match (rows[n]?).bind Rw.src with
  | none=>[]
  | some p=>Pt rows fu p.1++[p.2]
theorem Et {G:G3} {I:Nat×Nat->Prop} {rows:List Rw} (t:Told G I rows):∀ (fu n:Nat),n<rows.length->n<=fu->Pt rows fu n=Pt rows n n
 | 0,n,_,h=>by rw [show n=0 by lia]
 | fu+1,n,hl,h=>by
  obtain ⟨r,hr⟩:∃ r,rows[n]?=some r:=⟨_,getElem?_eq_getElem hl⟩;rcases eq_zero_or_pos n with z | z
  ·subst z
   show (match (rows[0]?).bind Rw.src with | none=>[] | some p=>Pt rows fu p.1++[p.2])=[];rw [t.zero];rfl
  ·obtain ⟨f,k,s,rf,a1,a2,_,a4,_,_⟩:=t.src n r hr z
   have hfl:=(List.getElem?_eq_some_iff.mp a4).1;obtain ⟨n',rfl⟩:∃ n',n=n'+1:=⟨n - 1,by lia⟩;rw [Pt,Pt,hr];show (match r.src with | none=>[] | some p=>Pt rows fu p.1++[p.2])=(match r.src with | none=>[] | some p=>Pt rows n' p.1++[p.2]);rw [a1];show Pt rows fu f++[k]=Pt rows n' f++[k];rw [Et t fu f hfl (by lia),Et t n' f hfl (by lia)]
def Iz (rows:List Rw) (n:Nat):List Nat:=Pt rows n n
theorem X1 (rows:List Rw):Iz rows 0=[]:=rfl
theorem Kd {G:G3} {I:Nat×Nat->Prop} {rows:List Rw} (t:Told G I rows) {n:Nat} {r:Rw} {f k:Nat} (hr:rows[n]?=some r) (hs:r.src=some (f,k)) (h0:0<n):Iz rows n=Iz rows f++[k]:=by
 obtain ⟨f',k',s,rf,a1,a2,_,a4,_,_⟩:=t.src n r hr h0;rw [hs] at a1;cases a1;have hfl:=(List.getElem?_eq_some_iff.mp a4).1;obtain ⟨n',rfl⟩:∃ n',n=n'+1:=⟨n - 1,by lia⟩;unfold Iz;rw [Pt,hr];show (match r.src with | none=>[] | some p=>Pt rows n' p.1++[p.2])=_;rw [hs];show Pt rows n' f++[k]=_;rw [Et t n' f hfl (by lia)]
theorem Z1r {G:G3} {I:Nat×Nat->Prop} {rows:List Rw} (t:Told G I rows) {n:Nat} {r:Rw} (hr:rows[n]?=some r):r.src=none↔n=0:=by
 constructor
 ·intro h
  rcases eq_zero_or_pos n with z | z
  ·exact z
  ·obtain ⟨f,k,s,rf,a1,_⟩:=t.src n r hr z
   rw [h] at a1;cases a1
 ·rintro rfl
  rw [t.zero] at hr;cases hr;rfl
inductive Along (G:G3) (I:Nat×Nat->Prop):Nat×Nat->List Nat->Nat×Nat->Prop
 | nil (p:Nat×Nat):I p->Along G I p [] p
 | snoc {p q:Nat×Nat} {ks:List Nat} {k:Nat} {s:St3}:Along G I p ks q->I q->G.steps[k]?=some s->My s q.1=true->Along G I p (ks++[k]) (Jm s q)
theorem Kp {G:G3} {I:Nat×Nat->Prop} {rows:List Rw} (h:Calm G I) (t:Told G I rows):∀ (n:Nat) (r:Rw),rows[n]?=some r->Along G I (G.marks,G.code) (Iz rows n) r.st:=by
 intro n;induction n using Nat.strongRecOn with
 | _ n ih =>
  intro r hr;rcases eq_zero_or_pos n with z | z
  ·subst z
   rw [t.zero] at hr;cases hr;exact .nil _ h.ini
  ·obtain ⟨f,k,s,rf,a1,a2,a3,a4,a5,a6⟩:=t.src n r hr z
   rw [Kd t hr a1 z,a6];exact .snoc (ih f a2 rf a4) (t.inv rf (mem_of_getElem? a4)) a3 a5
end L2
namespace L2
theorem Du {α:Type} [BEq α] [LawfulBEq α]:∀ (l m:List α),l.Nodup->(∀ x∈l,x∈m)->l.length<=m.length
 | [],_,_,_=>zero_le _
 | x::l,m,hn,hs=>by
  obtain ⟨h1,h2⟩:=nodup_cons.mp hn;have hx:=hs x mem_cons_self;have:=Du l (m.erase x) h2 fun y hy=>by
   refine (List.mem_erase_of_ne ?_).mpr (hs y (mem_cons_of_mem _ hy));rintro rfl;exact h1 hy
  rw [List.length_erase_of_mem hx] at this;have:=List.length_pos_of_mem hx;show l.length+1<=_;lia
theorem Z3p {α:Type} (R:Nat->α->Prop) (hR:∀ k a b,R k a->R k b->a=b) (N:Nat):∀ l:List α,l.Nodup->(∀ p∈l,∃ k,k<N/\R k p)->l.length<=N:=by
 intro l hn hl;have:∃ ks:List Nat,ks.length=l.length/\ks.Nodup/\∀ k∈ks,k<N/\∃ p∈l,R k p:=by
  revert hn hl;induction l with
  | nil=>intro _ _;exact ⟨[],rfl,nodup_nil,by simp⟩
  | cons p l ih =>
   intro hn hl;obtain ⟨h1,h2⟩:=nodup_cons.mp hn;obtain ⟨ks,a1,a2,a3⟩:=ih h2 fun q hq=>hl q (mem_cons_of_mem _ hq)
   obtain ⟨k,hk,hr⟩:=hl p mem_cons_self;refine ⟨k::ks,by simp [a1],nodup_cons.mpr ⟨fun hm=>?_,a2⟩,fun k' hk'=>?_⟩
   ·obtain ⟨_,p',hp',hr'⟩:=a3 k hm
    exact h1 (hR k p p' hr hr'▸hp')
   ·rcases mem_cons.mp hk' with rfl | h
    ·exact ⟨hk,p,mem_cons_self,hr⟩
    ·obtain ⟨b1,p',b2,b3⟩:=a3 k' h
     exact ⟨b1,p',mem_cons_of_mem _ b2,b3⟩
 obtain ⟨ks,a1,a2,a3⟩:=this;have:=Du ks (List.range N) a2 fun k hk=>mem_range.mpr (a3 k hk).1
 rw [length_range] at this;lia
def Ot (s0:Nat) (rs:List (Nat×Nat)) (f g:Nat×Nat->Nat) (d:Nat) (l:List Nat):Prop:=∀ q,q∈l↔∃ t p,rs[t]?=some p/\((q=s0+2*t/\f p=d)\/(q=s0+2*t+1/\g p=d))
structure Deed (G:G3) (s0:Nat) (one two:Nat->Nat) (rs:List (Nat×Nat)) (n d:Nat) (s:St3):Prop where
 w:s.w<n
 dl:d<2*n
 tk:Ot s0 rs (·.2) (·.1) d s.takes
 fl:Ot s0 rs (·.1) (·.2) d s.fills
 lev:(d=one s.w/\s.up=!G.code.testBit s.w)\/(d=two s.w/\s.up=G.code.testBit s.w)
structure RG (G:G3) (n s0:Nat) (one two:Nat->Nat) (rs:List (Nat×Nat)):Prop where
 ne:∀ q∈rs,q.1≠q.2
 ring:∀ w,w<n->(one w,two w)∈rs
 inj:∀ w v,w<n->v<n->(one w=one v\/two w=two v\/one w=two v)->w=v/\one w≠two v
 mks:∀ q,G.marks.testBit q=true↔∃ t,t<rs.length/\q=s0+2*t+1
 st:∀ s∈G.steps,∃ d,Deed G s0 one two rs n d s
structure RI (G:G3) (n s0:Nat) (one two:Nat->Nat) (rs:List (Nat×Nat)) (k:Nat) (p:Nat×Nat):Prop where
 a:∀ t q,rs[t]?=some q->p.1.testBit (s0+2*t)=(k.testBit q.1 ^^ k.testBit q.2)
 b:∀ t q,rs[t]?=some q->p.1.testBit (s0+2*t+1)=!(k.testBit q.1 ^^ k.testBit q.2)
 o:∀ j,(∀ t,t<rs.length->j≠s0+2*t/\j≠s0+2*t+1)->p.1.testBit j=false
 c:∀ w,p.2.testBit w=(G.code.testBit w ^^ (decide (w<n)&&(k.testBit (one w) ^^ k.testBit (two w))))
theorem Ot.a {s0:Nat} {rs:List (Nat×Nat)} {f g:Nat×Nat->Nat} {d:Nat} {l:List Nat} (h:Ot s0 rs f g d l) {t:Nat} {q:Nat×Nat} (e:rs[t]?=some q):s0+2*t∈l↔f q=d:=by
 rw [h];constructor
 ·rintro ⟨t',p,e',⟨h1,h2⟩ | ⟨h1,_⟩⟩
  ·have:t'=t:=by lia
   subst this;rw [e] at e';cases e';exact h2
  ·lia
 ·exact fun h2=>⟨t,q,e,.inl ⟨rfl,h2⟩⟩
theorem Ot.b {s0:Nat} {rs:List (Nat×Nat)} {f g:Nat×Nat->Nat} {d:Nat} {l:List Nat} (h:Ot s0 rs f g d l) {t:Nat} {q:Nat×Nat} (e:rs[t]?=some q):s0+2*t+1∈l↔g q=d:=by
 rw [h];constructor
 ·rintro ⟨t',p,e',⟨h1,_⟩ | ⟨h1,h2⟩⟩
  ·lia
  ·have:t'=t:=by lia
   subst this;rw [e] at e';cases e';exact h2
 ·exact fun h2=>⟨t,q,e,.inr ⟨rfl,h2⟩⟩
theorem Ot.o {s0:Nat} {rs:List (Nat×Nat)} {f g:Nat×Nat->Nat} {d:Nat} {l:List Nat} (h:Ot s0 rs f g d l) {j:Nat} (e:∀ t,t<rs.length->j≠s0+2*t/\j≠s0+2*t+1):j∉l:=by
 intro hj;obtain ⟨t,p,et,h1⟩:=(h j).mp hj;have:=e t (List.getElem?_eq_some_iff.mp et).1;rcases h1 with h1 | h1
 ·exact this.1 h1.1
 ·exact this.2 h1.1
theorem Wz (k d j:Nat):(k ^^^ 2^d).testBit j=(k.testBit j ^^ decide (d=j)):=by
 rw [testBit_xor,testBit_two_pow]
theorem B3 {G:G3} {n s0:Nat} {one two:Nat->Nat} {rs:List (Nat×Nat)} (h:RG G n s0 one two rs) (hn:n<=4):Calm G fun p=>∃ k,k<2^(2*n)/\RI G n s0 one two rs k p where
 ini:=by
  refine ⟨0,two_pow_pos _,?_,?_,?_,?_⟩
  ·intro t q e
   simp only [Nat.zero_testBit,Bool.xor_false];rw [Bool.eq_false_iff];intro hh;obtain ⟨t',_,e'⟩:=(h.mks _).mp hh;lia
  ·intro t q e
   simp only [Nat.zero_testBit,Bool.xor_false,Bool.not_false];exact (h.mks _).mpr ⟨t,(List.getElem?_eq_some_iff.mp e).1,rfl⟩
  ·intro j hj
   rw [Bool.eq_false_iff];intro hh;obtain ⟨t',ht',e'⟩:=(h.mks _).mp hh;exact (hj t' ht').2 e'
  ·intro w;simp
 lev:=by
  rintro p s ⟨k,hk,hi⟩ hs hc;obtain ⟨d,hd⟩:=h.st s hs;obtain ⟨t,ht⟩:=List.getElem?_of_mem (h.ring s.w hd.w);rw [hi.c,decide_eq_true hd.w,Bool.true_and];have hc:=Ji.mp hc;rcases hd.lev with ⟨e1,e2⟩ | ⟨e1,e2⟩
  ·have:=hc _ ((hd.tk.b ht).mpr e1.symm)
   rw [hi.b t _ ht] at this;have hx:(k.testBit (one s.w) ^^ k.testBit (two s.w))=false:=by simpa using this
   rw [hx,e2];cases G.code.testBit s.w<;>simp
  ·have:=hc _ ((hd.tk.a ht).mpr e1.symm)
   rw [hi.a t _ ht] at this;have hx:(k.testBit (one s.w) ^^ k.testBit (two s.w))=true:=this;rw [hx,e2];cases G.code.testBit s.w<;>simp
 room:=by
  rintro p s ⟨k,hk,hi⟩ hs hc q hq hb;obtain ⟨d,hd⟩:=h.st s hs;have hc:=Ji.mp hc;obtain ⟨t,r,et,hh⟩:=(hd.fl q).mp hq;exfalso;rcases hh with ⟨rfl,e1⟩ | ⟨rfl,e1⟩
  ·have:=hc _ ((hd.tk.b et).mpr e1)
   rw [hi.b t _ et] at this;rw [hi.a t _ et] at hb;rw [hb] at this;cases this
  ·have:=hc _ ((hd.tk.a et).mpr e1)
   rw [hi.a t _ et] at this;rw [hi.b t _ et,this] at hb;cases hb
 nxt:=by
  rintro p s ⟨k,hk,hi⟩ hs hc;obtain ⟨d,hd⟩:=h.st s hs;have hc:=Ji.mp hc;have hlt:k ^^^ 2^d<2^(2*n):=Nat.xor_lt_two_pow hk (Nat.pow_lt_pow_right (by lia) hd.dl);refine ⟨k ^^^ 2^d,hlt,?_,?_,?_,?_⟩
  ·intro t q e
   have hne:=h.ne q (mem_of_getElem? e);have ha:=hi.a t q e;have hb:=hi.b t q e;have h1:=hd.tk.a e;have h2:=hd.fl.a e;have h3:=hd.tk.b e;rw [K1,Wz,Wz];by_cases e1:q.2=d
   ·have:=hc _ (h1.mpr e1)
    have e2:¬ q.1=d:=fun e2=>hne (e2.trans e1.symm)
    rw [decide_eq_true (h1.mpr e1),decide_eq_false (mt h2.mp e2),decide_eq_true e1.symm,decide_eq_false (Ne.symm e2)];rw [ha] at this;revert this;cases k.testBit q.1<;>cases k.testBit q.2<;>simp
   ·by_cases e2:q.1=d
    ·have:=hc _ (h3.mpr e2)
     rw [decide_eq_false (mt h1.mp e1),decide_eq_true (h2.mpr e2),decide_eq_false (Ne.symm e1),decide_eq_true e2.symm];rw [hb] at this;revert this;cases k.testBit q.1<;>cases k.testBit q.2<;>simp
    ·rw [decide_eq_false (mt h1.mp e1),decide_eq_false (mt h2.mp e2),decide_eq_false (Ne.symm e1),decide_eq_false (Ne.symm e2),ha]
     simp
  ·intro t q e
   have hne:=h.ne q (mem_of_getElem? e);have ha:=hi.a t q e;have hb:=hi.b t q e;have h1:=hd.tk.b e;have h2:=hd.fl.b e;have h3:=hd.tk.a e;rw [K1,Wz,Wz];by_cases e1:q.1=d
   ·have:=hc _ (h1.mpr e1)
    have e2:¬ q.2=d:=fun e2=>hne (e1.trans e2.symm)
    rw [decide_eq_true (h1.mpr e1),decide_eq_false (mt h2.mp e2),decide_eq_true e1.symm,decide_eq_false (Ne.symm e2)];rw [hb] at this;revert this;cases k.testBit q.1<;>cases k.testBit q.2<;>simp
   ·by_cases e2:q.2=d
    ·have:=hc _ (h3.mpr e2)
     rw [decide_eq_false (mt h1.mp e1),decide_eq_true (h2.mpr e2),decide_eq_false (Ne.symm e1),decide_eq_true e2.symm];rw [ha] at this;revert this;cases k.testBit q.1<;>cases k.testBit q.2<;>simp
    ·rw [decide_eq_false (mt h1.mp e1),decide_eq_false (mt h2.mp e2),decide_eq_false (Ne.symm e1),decide_eq_false (Ne.symm e2),hb]
     simp
  ·intro j hj
   rw [K1,hi.o j hj,decide_eq_false (hd.fl.o hj)];simp
  ·intro w
   rw [Zay,hi.c,Wz,Wz];by_cases hw:w<n
   ·rw [decide_eq_true hw,Bool.true_and,Bool.true_and]
    have key:decide (s.w=w)=(decide (d=one w) ^^ decide (d=two w)):=by
     by_cases ew:s.w=w
     ·subst ew
      have hne:=(h.inj s.w s.w hd.w hd.w (.inl rfl)).2;rcases hd.lev with ⟨e1,_⟩ | ⟨e1,_⟩
      ·rw [decide_eq_true rfl,decide_eq_true e1,decide_eq_false (fun e2=>hne (e1.symm.trans e2))];rfl
      ·rw [decide_eq_true rfl,decide_eq_true e1,decide_eq_false (fun e2=>hne (e2.symm.trans e1))];rfl
     ·have n1:¬ d=one w:=by
       intro e0;rcases hd.lev with ⟨e1,_⟩ | ⟨e1,_⟩
       ·exact ew (h.inj s.w w hd.w hw (.inl (e1.symm.trans e0))).1
       ·exact ew (h.inj w s.w hw hd.w (.inr (.inr (e0.symm.trans e1)))).1.symm
      have n2:¬ d=two w:=by
       intro e0;rcases hd.lev with ⟨e1,_⟩ | ⟨e1,_⟩
       ·exact ew (h.inj s.w w hd.w hw (.inr (.inr (e1.symm.trans e0)))).1
       ·exact ew (h.inj s.w w hd.w hw (.inr (.inl (e1.symm.trans e0)))).1
      rw [decide_eq_false ew,decide_eq_false n1,decide_eq_false n2];rfl
    rw [key];cases G.code.testBit w<;>cases k.testBit (one w)<;>cases k.testBit (two w)<;>cases decide (d=one w)<;>cases decide (d=two w)<;>rfl
   ·have:s.w≠w:=fun e=>hw (e▸hd.w)
    rw [decide_eq_false hw,decide_eq_false this];simp
 few:=by
  intro l hl hp;have hle:2^(2*n)<=256:=le_trans (pow_le_pow_right (by lia) (show 2*n<=8 by lia)) (by decide);have:=Z3p (fun k p=>RI G n s0 one two rs k p) (fun k p q h1 h2=>?_) (2^(2*n)) l hl hp
  ·lia
  ·refine Prod.ext (eq_of_testBit_eq fun j=>?_) (eq_of_testBit_eq fun j=>by rw [h1.c,h2.c])
   by_cases hj:∀ t,t<rs.length->j≠s0+2*t/\j≠s0+2*t+1
   ·rw [h1.o j hj,h2.o j hj]
   ·simp only [Classical.not_forall] at hj
    obtain ⟨t,ht,hj⟩:=hj;have e:rs[t]?=some rs[t]:=getElem?_eq_getElem ht;by_cases e1:j=s0+2*t
    ·rw [e1,h1.a t _ e,h2.a t _ e]
    ·have e2:j=s0+2*t+1:=Classical.byContradiction fun e2=>hj ⟨e1,e2⟩
     rw [e2,h1.b t _ e,h2.b t _ e]
structure OneT (G:G3) (b:Nat) (L:Nat->Nat):Prop where
 bl:b<64
 ma:G.marks=2^b
 cd:G.code=L b
 st:∀ s∈G.steps,∃ x y,x<64/\y<64/\x≠y/\s.takes=[x]/\s.fills=[y]/\L y=L x ^^^ 2^s.w/\(L x).testBit s.w≠s.up
theorem Z1a {G:G3} {b:Nat} {L:Nat->Nat} (h:OneT G b L):Calm G fun p=>∃ k,k<64/\p=(2^k,L k):=by
 have key:∀ (p:Nat×Nat) (s:St3),(∃ k,k<64/\p=(2^k,L k))->s∈G.steps->My s p.1=true->∃ x y,x<64/\y<64/\x≠y/\s.takes=[x]/\s.fills=[y]/\L y=L x ^^^ 2^s.w/\(L x).testBit s.w≠s.up/\p=(2^x,L x):=by
  rintro p s ⟨k,hk,rfl⟩ hs hc;obtain ⟨x,y,h1,h2,h3,h4,h5,h6,h7⟩:=h.st s hs;have:=Ji.mp hc x (by rw [h4];simp);have e:k=x:=by
   have:(2^k).testBit x=true:=this;rw [testBit_two_pow] at this;simpa using this
  subst e;exact ⟨k,y,h1,h2,h3,h4,h5,h6,h7,rfl⟩
 refine ⟨⟨b,h.bl,by rw [h.ma,h.cd]⟩,?_,?_,?_,?_⟩
 ·intro p s hi hs hc
  obtain ⟨x,y,h1,h2,h3,h4,h5,h6,h7,rfl⟩:=key p s hi hs hc;exact h7
 ·intro p s hi hs hc q hq hb
  obtain ⟨x,y,h1,h2,h3,h4,h5,h6,h7,rfl⟩:=key p s hi hs hc;rw [h5] at hq;rw [mem_singleton.mp hq,testBit_two_pow] at hb;exact absurd (by simpa using hb) h3
 ·intro p s hi hs hc
  obtain ⟨x,y,h1,h2,h3,h4,h5,h6,h7,rfl⟩:=key p s hi hs hc;refine ⟨y,h2,Prod.ext (eq_of_testBit_eq fun j=>?_) h6.symm⟩;rw [K1,h4,h5];show ((2^x).testBit j&&!decide (j∈[x])||decide (j∈[y]))=(2^y).testBit j;rw [testBit_two_pow,testBit_two_pow];by_cases e1:x=j
  ·subst e1;simp [eq_comm]
  ·by_cases e2:y=j<;>simp [e1,e2,eq_comm]
 ·intro l hl hp
  have:=Z3p (fun k p=>p=(2^k,L k)) (fun k p q h1 h2=>h1.trans h2.symm) 64 l hl hp;lia
structure LookG (G G':G3) (z:Nat):Prop where
 len:G'.steps.length=G.steps.length
 ma:G'.marks=G.marks ||| 2^z
 mz:G.marks.testBit z=false
 cd:G'.code=G.code
 st:∀ s'∈G'.steps,∃ s∈G.steps,∃ b:Bool,s'.w=s.w/\s'.up=s.up/\z∉s.takes/\z∉s.fills/\(∀ q,q∈s'.takes↔q∈s.takes\/(b=true/\q=z))/\(∀ q,q∈s'.fills↔q∈s.fills\/(b=true/\q=z))
theorem Bt {G G':G3} {z:Nat} {I:Nat×Nat->Prop} (h:LookG G G' z) (hc:Calm G I):Calm G' fun p=>∃ m,m.testBit z=false/\p.1=m ||| 2^z/\I (m,p.2):=by
 have bit:∀ m j:Nat,(m ||| 2^z).testBit j=(m.testBit j||decide (z=j)):=fun m j=>by rw [testBit_or,testBit_two_pow]
 have key:∀ (m:Nat) (s' s:St3) (b:Bool),z∉s.takes->(∀ q,q∈s'.takes↔q∈s.takes\/(b=true/\q=z))->My s' (m ||| 2^z)=true->My s m=true:=by
  intro m s' s b hz ht hc;refine Ji.mpr fun q hq=>?_
  have:=Ji.mp hc q ((ht q).mpr (.inl hq));rw [bit] at this;have hne:z≠q:=by rintro rfl;exact hz hq
  rw [decide_eq_false hne,Bool.or_false] at this;exact this
 refine ⟨⟨G.marks,h.mz,h.ma,by rw [h.cd];exact hc.ini⟩,?_,?_,?_,?_⟩
 ·rintro p s' ⟨m,hm,e,hi⟩ hs' hcan
  obtain ⟨s,hs,b,w,u,zt,zf,ht,hf⟩:=h.st s' hs';rw [e] at hcan;have:=hc.lev (m,p.2) s hi hs (key m s' s b zt ht hcan);rw [w,u];exact this
 ·rintro p s' ⟨m,hm,e,hi⟩ hs' hcan q hq hb
  obtain ⟨s,hs,b,w,u,zt,zf,ht,hf⟩:=h.st s' hs';rw [e] at hcan hb;rcases (hf q).mp hq with h1 | ⟨h1,h2⟩
  ·have hne:z≠q:=by rintro rfl;exact zf h1
   rw [bit,decide_eq_false hne,Bool.or_false] at hb;exact (ht q).mpr (.inl (hc.room (m,p.2) s hi hs (key m s' s b zt ht hcan) q h1 hb))
  ·exact (ht q).mpr (.inr ⟨h1,h2⟩)
 ·rintro p s' ⟨m,hm,e,hi⟩ hs' hcan
  obtain ⟨s,hs,b,w,u,zt,zf,ht,hf⟩:=h.st s' hs';rw [e] at hcan;have hn:=hc.nxt (m,p.2) s hi hs (key m s' s b zt ht hcan);refine ⟨(Jm s (m,p.2)).1,?_,eq_of_testBit_eq fun j=>?_,?_⟩
  ·rw [K1,hm,decide_eq_false zf];rfl
  ·rw [bit,K1,K1,e,bit]
   by_cases ej:z=j
   ·subst ej
    rw [decide_eq_true rfl];cases b
    ·have n1:z∉s'.takes:=fun x=>by rcases (ht z).mp x with y | y;exact zt y;exact absurd y.1 (by simp)
     rw [decide_eq_false n1];simp
    ·rw [decide_eq_true ((hf z).mpr (.inr ⟨rfl,rfl⟩))];simp
   ·have t1:decide (j∈s'.takes)=decide (j∈s.takes):=by
     rw [Bool.eq_iff_iff,decide_eq_true_eq,decide_eq_true_eq,ht j];exact ⟨fun x=>x.elim id fun y=>absurd y.2.symm ej,.inl⟩
    have t2:decide (j∈s'.fills)=decide (j∈s.fills):=by
     rw [Bool.eq_iff_iff,decide_eq_true_eq,decide_eq_true_eq,hf j];exact ⟨fun x=>x.elim id fun y=>absurd y.2.symm ej,.inl⟩
    rw [t1,t2,decide_eq_false ej];simp
  ·have:(Jm s' p).2=(Jm s (m,p.2)).2:=by unfold Jm;rw [w]
   rw [this];exact hn
 ·intro l hl hp
  have:=hc.few (l.map fun p=>(p.1 ^^^ 2^z,p.2)) ?_ ?_
  ·rwa [length_map] at this
  ·refine List.pairwise_map.mpr (hl.imp ?_)
   intro p q hne e;apply hne;have e1:=congrArg Prod.fst e;have e2:=congrArg Prod.snd e;refine Prod.ext (eq_of_testBit_eq fun j=>?_) e2;have:(p.1 ^^^ 2^z).testBit j=(q.1 ^^^ 2^z).testBit j:=by rw [show p.1 ^^^ 2^z=q.1 ^^^ 2^z from e1]
   rw [Wz,Wz] at this;simpa using this
  ·intro p hp'
   obtain ⟨q,hq,rfl⟩:=mem_map.mp hp';obtain ⟨m,hm,e,hi⟩:=hp q hq;have:q.1 ^^^ 2^z=m:=eq_of_testBit_eq fun j=>by
    rw [Wz,e,bit];by_cases ej:z=j
    ·subst ej;rw [hm];simp
    ·simp [ej]
   show I (q.1 ^^^ 2^z,q.2);rw [this];exact hi
end L2
namespace L2
def Jv (ps:List Nat) (w:Nat):Nat:=ps.idxOf w
def Js (ps:List Nat) (w:Nat):Nat:=ps.idxOf w+1+(ps.drop (ps.idxOf w+1)).idxOf w
theorem Zcw {w:Nat}:∀ {ps:List Nat} {d:Nat},ps[d]?=some w->ps.count w=1->(ps.take d).count w=0/\d=ps.idxOf w
 | [],_,h,_=>by cases h
 | p::ps,0,h,_=>by
  cases h;exact ⟨rfl,by rw [idxOf_cons];simp⟩
 | p::ps,d+1,h,hc=>by
  have h':ps[d]?=some w:=h;by_cases e:p=w
  ·subst e
   rw [List.count_cons_self] at hc;have:ps.count p=0:=by lia
   exact absurd (mem_of_getElem? h') (List.count_eq_zero.mp this)
  ·rw [List.count_cons_of_ne e] at hc
   obtain ⟨h1,h2⟩:=Zcw h' hc;rw [take_succ_cons,List.count_cons_of_ne e,idxOf_cons,show (p==w)=false from beq_eq_false_iff_ne.mpr e];exact ⟨h1,by simp [h2]⟩
theorem Zbb {w:Nat}:∀ {ps:List Nat} {d:Nat},ps[d]?=some w->ps.count w=2->((ps.take d).count w=0/\d=Jv ps w)\/((ps.take d).count w=1/\d=Js ps w)
 | [],_,h,_=>by cases h
 | p::ps,0,h,_=>by
  cases h;exact .inl ⟨rfl,by unfold Jv;rw [idxOf_cons];simp⟩
 | p::ps,d+1,h,hc=>by
  have h':ps[d]?=some w:=h;by_cases e:p=w
  ·subst e
   rw [List.count_cons_self] at hc;obtain ⟨h1,h2⟩:=Zcw h' (by lia);refine .inr ⟨by rw [take_succ_cons,List.count_cons_self,h1],?_⟩;unfold Js;rw [idxOf_cons,beq_self_eq_true];show d+1=0+1+ps.idxOf p;lia
  ·rw [List.count_cons_of_ne e] at hc
   have e1:(p::ps).idxOf w=ps.idxOf w+1:=by rw [idxOf_cons,show (p==w)=false from beq_eq_false_iff_ne.mpr e];rfl
   rw [take_succ_cons,List.count_cons_of_ne e];unfold Jv Js;rw [e1];rcases Zbb h' hc with ⟨h1,h2⟩ | ⟨h1,h2⟩
   ·exact .inl ⟨h1,by unfold Jv at h2;lia⟩
   ·refine .inr ⟨h1,?_⟩
    unfold Js at h2;show d+1=ps.idxOf w+1+1+(ps.drop (ps.idxOf w+1)).idxOf w;lia
theorem Bv {v:Nat}:∀ {ps:List Nat},ps.count v=2->v∈ps.drop (ps.idxOf v+1)
 | [],h=>by cases h
 | p::ps,h=>by
  rw [List.count_cons] at h;rw [idxOf_cons];by_cases e:p=v
  ·subst e
   rw [show (p==p)=true from beq_self_eq_true _] at h ⊢;show p∈ps;refine List.count_pos_iff.mp ?_;simp at h;lia
  ·rw [show (p==v)=false from beq_eq_false_iff_ne.mpr e] at h ⊢
   show v∈ps.drop (ps.idxOf v+1);exact Bv (by simpa using h)
theorem Ay {w:Nat} {ps:List Nat} (h:w∈ps):ps[ps.idxOf w]?=some w:=by
 have hl:=List.idxOf_lt_length_of_mem h;rw [getElem?_eq_getElem hl,List.getElem_idxOf hl]
theorem Z32 {w:Nat} {ps:List Nat} (h:ps.count w=2):ps[Jv ps w]?=some w:=Ay (List.count_pos_iff.mp (by lia))
theorem Z3n {w:Nat} {ps:List Nat} (h:ps.count w=2):ps[Js ps w]?=some w:=by
 have:=Ay (Bv h);rw [getElem?_drop] at this;exact this
theorem Fw (ps:List Nat) (w:Nat):Jv ps w<Js ps w:=by unfold Jv Js;lia
structure Ord (n:Nat) (ps:List Nat):Prop where
 len:ps.length=2*n
 cnt:∀ v,ps.count v=if v<n then 2 else 0
theorem Ord.mem {n:Nat} {ps:List Nat} (h:Ord n ps) {v:Nat}:v∈ps↔v<n:=by
 rw [← List.count_pos_iff,h.cnt];split<;>lia
theorem Ord.two {n:Nat} {ps:List Nat} (h:Ord n ps) {v:Nat} (hv:v<n):ps.count v=2:=by rw [h.cnt,if_pos hv]
theorem Ord.inj {n:Nat} {ps:List Nat} (h:Ord n ps) (w v:Nat) (hw:w<n) (hv:v<n) (e:Jv ps w=Jv ps v\/Js ps w=Js ps v\/Jv ps w=Js ps v):w=v/\Jv ps w≠Js ps v:=by
 have a1:=Z32 (h.two hw);have a2:=Z3n (h.two hw);have b1:=Z32 (h.two hv);have b2:=Z3n (h.two hv);have ewv:w=v:=by
  rcases e with e | e | e
  ·rw [e,b1] at a1;exact (Option.some.inj a1).symm
  ·rw [e,b2] at a2;exact (Option.some.inj a2).symm
  ·rw [e,b2] at a1;exact (Option.some.inj a1).symm
 subst ewv;exact ⟨rfl,by have:=Fw ps w;lia⟩
theorem Z06 (tk:List (List Nat)) (k x d:Nat) (hk:k<tk.length):(Ac tk k x).getD d []=if d=k then tk.getD d []++[x] else tk.getD d []:=by
 unfold Ac;by_cases e:d=k
 ·subst e
  simp [List.getD,getElem?_set,hk]
 ·have e':¬ k=d:=fun z=>e z.symm
  simp [List.getD,getElem?_set,e,e']
theorem P7 (tk:List (List Nat)) (k x d q:Nat) (hk:k<tk.length):q∈(Ac tk k x).getD d []↔q∈tk.getD d []\/(d=k/\q=x):=by
 rw [Z06 tk k x d hk];by_cases e:d=k
 ·rw [if_pos e];simp [e]
 ·rw [if_neg e];simp [e]
def NS (s0:Nat) (rs:List (Nat×Nat)) (f g:Nat×Nat->Nat) (tk:List (List Nat)):Prop:=∀ d,Ot s0 rs f g d (tk.getD d [])
theorem NS.nil (s0 m:Nat) (f g:Nat×Nat->Nat):NS s0 [] f g (List.replicate m []):=fun d q=>by
 have:(List.replicate m ([]:List Nat)).getD d []=[]:=by
  simp only [List.getD];cases e:(List.replicate m ([]:List Nat))[d]? with
  | none=>rfl
  | some l=>have:=mem_of_getElem? e;rw [(mem_replicate.mp this).2];rfl
 rw [this];simp
theorem NS.app {s0:Nat} {rs:List (Nat×Nat)} {f g:Nat×Nat->Nat} {tk:List (List Nat)} (h:NS s0 rs f g tk) (p:Nat×Nat) (hf:f p<tk.length) (hg:g p<tk.length):NS s0 (rs++[p]) f g (Ac (Ac tk (f p) (s0+2*rs.length)) (g p) (s0+2*rs.length+1)):=fun d q=>by
 rw [P7 _ _ _ _ _ (by rw [Je];exact hg),P7 _ _ _ _ _ hf,h d q];constructor
 ·rintro ((⟨t,r,e,h1⟩ | ⟨h1,h2⟩) | ⟨h1,h2⟩)
  ·exact ⟨t,r,by rw [getElem?_append_left (List.getElem?_eq_some_iff.mp e).1];exact e,h1⟩
  ·exact ⟨rs.length,p,by simp,.inl ⟨h2,h1.symm⟩⟩
  ·exact ⟨rs.length,p,by simp,.inr ⟨h2,h1.symm⟩⟩
 ·rintro ⟨t,r,e,h1⟩
  rcases lt_or_ge t rs.length with hl | hl
  ·rw [getElem?_append_left hl] at e
   exact .inl (.inl ⟨t,r,e,h1⟩)
  ·rw [getElem?_append_right hl] at e
   have e0:t - rs.length=0:=by
    rcases eq_zero_or_pos (t - rs.length) with z | z
    ·exact z
    ·rw [getElem?_cons,if_neg (by lia)] at e;cases e
   rw [e0] at e;cases e;have et:t=rs.length:=by lia
   subst et;rcases h1 with ⟨h1,h2⟩ | ⟨h1,h2⟩
   ·exact .inl (.inr ⟨h2.symm,h1⟩)
   ·exact .inr ⟨h2.symm,h1⟩
theorem Pl {L B:Nat} {tk:List (List Nat)} (hb:Nst L B tk) (h:∀ l∈tk,l.Nodup) (k x:Nat) (hx:B<=x):∀ l∈Ac tk k x,l.Nodup:=by
 intro l hl;rcases List.mem_or_eq_of_mem_set hl with q | q
 ·exact h l q
 ·rw [q]
  cases e:tk[k]? with
  | none=>simp [List.getD,e]
  | some l' =>
   have hm:=mem_of_getElem? e;simp only [List.getD,e,Option.getD_some];refine nodup_append.mpr ⟨h l' hm,nodup_cons.mpr ⟨by simp,nodup_nil⟩,fun a ha b hb'=>?_⟩;have:=hb.lt l' hm a ha;rw [mem_singleton.mp hb'];lia
theorem Ot.perm {s0:Nat} {rs:List (Nat×Nat)} {f g:Nat×Nat->Nat} {d:Nat} {l l':List Nat} (h:Ot s0 rs f g d l) (e:l'.Perm l):Ot s0 rs f g d l':=fun q=>by rw [e.mem_iff];exact h q
structure SB (B n:Nat) (s:St3):Prop where
 w:s.w<n
 t:∀ p∈s.takes,p<B
 f:∀ p∈s.fills,p<B
 tn:s.takes.Nodup
 fn:s.fills.Nodup
theorem Z36 {l:List Nat} {B:Nat} (h:l.Nodup) (hb:∀ p∈l,p<B):l.length<=B:=by
 have:=Du l (List.range B) h fun x hx=>mem_range.mpr (hb x hx)
 rwa [length_range] at this
structure Gb (B:Nat) (G:G3):Prop where
 w2:G.wires.length<=10
 s1:1<=G.steps.length
 s2:G.steps.length<=24
 st:∀ s∈G.steps,SB B G.wires.length s
 mks:G.marks<2^B
end L2
namespace L2
open PySem PySem.Spec PyProof.Rows
def GdC (r:Fl) (N:Ev->Prop) (R:Dat->Prop):Prop:=match r with
 | .next e=>N e
 | .cont e=>N e
 | .ret d=>R d
 | _=>False
structure GoC (r:Fl) (N:Ev->Prop) (R:Dat->Prop):Prop where
 of:GdC r N R
section
variable {N:Ev->Prop} {R:Dat->Prop} {g h:Ev->Fl} {f fk fv:Ev->Option Dat} {t:Ev->Option Bool} {env:Ev} {d:Dat} {ds:List Dat} {i:Nat}
theorem Go.toC {r:Fl} (q:Go r N R):GoC r N R:=by
 cases r with
 | next e=>exact ⟨q.of⟩
 | ret d=>exact ⟨q.of⟩
 | _=>exact q.of.elim
theorem Hu (q:Go (g env) (fun e=>GoC (h e) N R) R):GoC (Zc g h env) N R:=by
 unfold Zc;cases e:g env with
 | next e'=>rw [e] at q;exact q.of
 | ret d=>rw [e] at q;exact ⟨q.of⟩
 | _=>rw [e] at q;exact q.of.elim
theorem Z16 {b:Bool} (e:t env=some b) (q1:b=true->N env) (q2:b=false->GoC (h env) N R):GoC (Zc (sIf t (fun env=>.cont env) Mt) h env) N R:=by
 unfold Zc sIf;rw [e];cases b with
 | true=>exact ⟨q1 rfl⟩
 | false=>exact q2 rfl
theorem Pp {gg:Dat->Ev->Option Ev} (P:Nat->Ev->Prop):∀ (ds:List Dat) (k:Nat) (env:Ev),P k env->(∀ i d e,ds[i]?=some d->P (k+i) e->∃ e1,gg d e=some e1/\GoC (g e1) (P (k+i+1)) R)->(∀ e,P (k+ds.length) e->N e)->Go (Ab gg g ds env) N R
 | [],k,env,h0,_,hN=>⟨hN env h0⟩
 | d::ds,k,env,h0,hs,hN=>by
  obtain ⟨e1,a1,a2⟩:=hs 0 d env rfl h0;rw [Ab,a1];dsimp only;have more:∀ e',P (k+0+1) e'->Go (Ab gg g ds e') N R:=fun e' h'=>Pp P ds (k+1) e' h' (fun i d e hi hp=>by
   have:=hs (i+1) d e (by simpa using hi) (by rw [show k+(i+1)=k+1+i by lia];exact hp);rw [show k+1+i+1=k+(i+1)+1 by lia];exact this) (fun e hp=>hN e (by rw [length_cons,show k+(ds.length+1)=k+1+ds.length by lia];exact hp))
  cases e:g e1 with
  | next e'=>rw [e] at a2;exact more e' a2.of
  | cont e'=>rw [e] at a2;exact more e' a2.of
  | ret d'=>rw [e] at a2;exact ⟨a2.of⟩
  | _=>rw [e] at a2;exact a2.of.elim
theorem Z5x {src:Ev->Option (List Dat)} {gg:Dat->Ev->Option Ev} (P:Nat->Ev->Prop) (e:src env=some ds) (h0:P 0 env) (hs:∀ i d e,ds[i]?=some d->P i e->∃ e1,gg d e=some e1/\GoC (g e1) (P (i+1)) R) (hN:∀ e,P ds.length e->N e):Go (Sa src gg g env) N R:=by
 unfold Sa;rw [e];exact Pp P ds 0 env h0 (fun i d e hi hp=>by simpa using hs i d e hi (by simpa using hp)) (fun e hp=>hN e (by simpa using hp))
theorem Z8b {x y:Int} (e:env[i]?=some (.fz (.int x))) (e2:f env=some (.int y)) (q:N (env.set i (.fz (.int (x+y))))):Go (Z6u i f env) N R:=by
 unfold Z6u;rw [e,e2];exact ⟨q⟩
theorem Z29 (q:Go (g env) N R):Go (Bi g env) N R:=by
 unfold Bi;cases e:g env with
 | exc e' c fs=>rw [e] at q;exact q.of.elim
 | _=>rw [e] at q;exact q
def B5 (p:Nat×Nat):List Key:=[.inl (p.1:Int),.inl (p.2:Int)]
theorem Z1m {p q:Nat×Nat}:B5 p=B5 q↔p=q:=by
 constructor
 ·intro h
  unfold B5 at h;simp only [List.cons.injEq,Sum.inl.injEq,and_true] at h;exact Prod.ext (by lia) (by lia)
 ·rintro rfl;rfl
theorem G1 (p:Nat×Nat):Z6n (Zx p)=some (B5 p):=rfl
def Oq (ps:List (Nat×Nat)):List (List Key×Dat):=ps.map fun p=>(B5 p,.bl true)
theorem Hg (ps:List (Nat×Nat)) (q:Nat×Nat):N0 (Oq ps) (B5 q)=decide (q∈ps):=by
 unfold N0 Oq;rw [map_map,Bool.eq_iff_iff,any_eq_true,decide_eq_true_eq];constructor
 ·rintro ⟨x,hx,e⟩
  obtain ⟨p,hp,rfl⟩:=mem_map.mp hx;have:B5 p=B5 q:=of_decide_eq_true e;rw [← Z1m.mp this];exact hp
 ·intro h
  exact ⟨B5 q,mem_map.mpr ⟨q,h,rfl⟩,decide_eq_true rfl⟩
theorem Z4w {ps:List (Nat×Nat)} {q:Nat×Nat} (e:env[i]?=some (.gx (.dict (Oq ps)))) (e2:f env=some (Zx q)):Z8m false i f env=some (.bl (decide (q∈ps))):=by
 unfold Z8m;rw [e,e2];dsimp only;rw [G1];show some (Dat.bl (N0 (Oq ps) (B5 q)))=_;rw [Hg]
theorem Z5z {ps:List (Nat×Nat)} {q:Nat×Nat} (e:env[i]?=some (.gx (.dict (Oq ps)))) (e2:fv env=some (.bl true)) (e3:fk env=some (Zx q)) (hq:q∉ps) (hl:ps.length<=1000) (n:N (env.set i (.gx (.dict (Oq (ps++[q])))))):Go (La i fk fv env) N R:=by
 unfold La;rw [e,e2,e3];dsimp only;rw [G1];dsimp only;rw [if_pos ⟨by rw [Hg,decide_eq_false hq],by unfold Oq;rw [length_map];exact lt_of_le_of_lt hl (by decide)⟩];have:Oq ps++[(B5 q,Dat.bl true)]=Oq (ps++[q]):=by unfold Oq;rw [map_append];rfl
 rw [this];exact ⟨n⟩
theorem Z4v {q:Nat×Nat} (e:fk env=some (Zx q)) (e2:fv env=some (.bl true)) (n:N (env.set i (.gx (.dict (Oq [q]))))):Go (Cs i fk fv env) N R:=by
 unfold Cs;rw [e,e2];dsimp only;rw [G1];exact ⟨n⟩
theorem Ar {F1 F2:Dat->Dat->Option Dat} {f1 f2 f3:Ev->Option Dat} {x y z:Dat} {b:Bool} (h1:f1 env=some x) (h2:f2 env=some y) (h3:f3 env=some z) (e1:F1 x y=some (.bl true)) (e2:F2 y z=some (.bl b)):Ov F1 F2 f1 f2 f3 env=some b:=by
 unfold Ov;rw [h1];show (f2 env).bind _=_;rw [h2];dsimp only [Option.bind];rw [e1];dsimp only;rw [h3];dsimp only [Option.bind];rw [e2]
theorem Z1h {F:List Dat->Rs} {fs:Ev->Option (List Dat)} {xs ds:List Dat} (h1:fs env=some xs) (h2:F xs=.ok (.lst ds)):Z28 F fs env=some ds:=by unfold Z28;rw [h1];show Zab (F xs)=_;rw [h2];rfl
theorem Z6v {fs:Ev->Option (List Dat)} {xs:List Dat} (h1:fs env=some [.lst xs]):dLR fs env=some xs.reverse:=by unfold dLR;rw [h1]
theorem Z0u {f g:Ev->Option Dat} (h1:f env=some (.bl true)) (h2:g env=some d):Z8n f g env=some d:=by unfold Z8n dB;rw [h1];exact h2
end
theorem Re:∀ xs:List Dat,(∀ x∈xs,eqD x x=true)->Z3v xs xs=true
 | [],_=>by unfold Z3v;rfl
 | x::xs,h=>by unfold Z3v;rw [h x mem_cons_self,Re xs fun y hy=>h y (mem_cons_of_mem _ hy)];rfl
theorem Py {xs:List Dat} (h:∀ x∈xs,eqD x x=true/\pd 19 x=true):pd 20 (.lst xs)=true/\eqD (.lst xs) (.lst xs)=true:=by
 constructor
 ·show xs.all (pd 19)=true
  exact all_eq_true.mpr fun x hx=>(h x hx).2
 ·unfold eqD;exact Re xs fun x hx=>(h x hx).1
theorem Z20 {d:Dat} (h:pd 20 d=true/\eqD d d=true):eqF d d=some (.bl true):=by unfold eqF;rw [h.1,h.2];rfl
theorem Di {d:Dat} (h:pd 20 d=true/\eqD d d=true):neF d d=some (.bl false):=by unfold neF;rw [h.1,h.2];rfl
theorem Mc (i:Int):eqD (.int i) (.int i)=true:=by unfold eqD;exact beq_self_eq_true i
theorem L7 (ps:List Nat):pd 20 (.lst (Ze ps))=true/\eqD (.lst (Ze ps)) (.lst (Ze ps))=true:=Py fun x hx=>by
 rw [Wi] at hx;obtain ⟨p,_,rfl⟩:=mem_map.mp hx;exact ⟨Mc _,rfl⟩
theorem Rw.self (r:Rw):eqD r.d r.d=true/\pd 19 r.d=true:=by
 obtain ⟨m,c,src⟩:=r;cases src with
 | none =>
  refine ⟨?_,rfl⟩;show eqD (.tup [.int (m:Int),.int (c:Int),.non,.non]) (.tup [.int (m:Int),.int (c:Int),.non,.non])=true;unfold eqD;refine Re _ fun x hx=>?_
  simp only [mem_cons,List.not_mem_nil,or_false] at hx;rcases hx with rfl | rfl | rfl | rfl
  ·exact Mc _
  ·exact Mc _
  ·unfold eqD;rfl
  ·unfold eqD;rfl
 | some p =>
  refine ⟨?_,rfl⟩;show eqD (.tup [.int (m:Int),.int (c:Int),.int (p.1:Int),.int (p.2:Int)]) (.tup [.int (m:Int),.int (c:Int),.int (p.1:Int),.int (p.2:Int)])=true;unfold eqD;refine Re _ fun x hx=>?_
  simp only [mem_cons,List.not_mem_nil,or_false] at hx;rcases hx with rfl | rfl | rfl | rfl<;>exact Mc _
theorem Z0q (rows:List Rw):pd 20 (.lst (rows.map Rw.d))=true/\eqD (.lst (rows.map Rw.d)) (.lst (rows.map Rw.d))=true:=Py fun x hx=>by
 obtain ⟨r,_,rfl⟩:=mem_map.mp hx;exact r.self
theorem Along.det {G:G3} {I:Nat×Nat->Prop} {p q q':Nat×Nat} {ks:List Nat} (h:Along G I p ks q):Along G I p ks q'->q=q':=by
 induction h generalizing q' with
 | nil _ =>
  intro h';generalize hk:([]:List Nat)=ks at h';cases h' with
  | nil=>rfl
  | snoc _ _ _ _=>simp at hk
 | @snoc q0 ks0 k0 s0 h1 _ h3 _ ih =>
  intro h';generalize hk:ks0++[k0]=ks at h';cases h' with
  | nil=>simp at hk
  | snoc a1 a2 a3 a4 =>
   obtain ⟨e1,e2⟩:=List.append_inj' hk rfl;cases e2;subst e1;rw [a3] at h3;cases h3;rw [ih a1]
theorem Along.at {G:G3} {I:Nat×Nat->Prop} {p q:Nat×Nat} {ks:List Nat} (h:Along G I p ks q):∀ i k,ks[i]?=some k->∃ qi s,Along G I p (ks.take i) qi/\I qi/\G.steps[k]?=some s/\My s qi.1=true/\Along G I p (ks.take (i+1)) (Jm s qi):=by
 induction h with
 | nil _=>intro i k h;simp at h
 | @snoc q0 ks0 k0 s0 h1 h2 h3 h4 ih =>
  intro i k hi;rcases lt_or_ge i ks0.length with hl | hl
  ·rw [getElem?_append_left hl] at hi
   obtain ⟨qi,s,b1,b2,b3,b4,b5⟩:=ih i k hi;refine ⟨qi,s,?_,b2,b3,b4,?_⟩
   ·rw [List.take_append_of_le_length (by lia)];exact b1
   ·rw [List.take_append_of_le_length (by lia)];exact b5
  ·rw [getElem?_append_right hl] at hi
   have e0:i - ks0.length=0:=by
    rcases eq_zero_or_pos (i - ks0.length) with z | z
    ·exact z
    ·rw [getElem?_cons,if_neg (by lia)] at hi;cases hi
   rw [e0] at hi;cases hi;have ei:i=ks0.length:=by lia
   subst ei;refine ⟨q0,s0,?_,h2,h3,h4,?_⟩
   ·rw [List.take_left];exact h1
   ·rw [take_of_length_le (by simp)];exact .snoc h1 h2 h3 h4
def Z39 (G:G3) (m k:Nat):Bool:=match G.steps[k]? with
 | some s=>My s m
 | none=>false
theorem Ca {G:G3} {m k:Nat} (h:Z39 G m k=true):∃ s,G.steps[k]?=some s/\My s m=true:=by
 unfold Z39 at h;cases e:G.steps[k]? with
 | none=>rw [e] at h;cases h
 | some s=>rw [e] at h;exact ⟨s,rfl,h⟩
def Zah (G:G3) (m:Nat):List Nat:=(List.range G.steps.length).filter (Z39 G m)
theorem Z1p {G:G3} {m k:Nat} (h:k∈Zah G m):Z39 G m k=true:=(mem_filter.mp h).2
def GdE (r:Fl) (N C:Ev->Prop) (R:Dat->Prop) (E:Str->List (Str×XD)->Prop):Prop:=match r with
 | .next e=>N e
 | .cont e=>C e
 | .ret d=>R d
 | .exc _ c fl=>E c fl
 | _=>False
structure GoE (r:Fl) (N C:Ev->Prop) (R:Dat->Prop) (E:Str->List (Str×XD)->Prop):Prop where
 of:GdE r N C R E
section
variable {N C:Ev->Prop} {R:Dat->Prop} {E:Str->List (Str×XD)->Prop} {g h:Ev->Fl} {t:Ev->Option Bool} {env:Ev} {d:Dat} {ds:List Dat} {i:Nat}
theorem Go.toE {r:Fl} (q:Go r N R):GoE r N C R E:=by
 cases r with
 | next e=>exact ⟨q.of⟩
 | ret d=>exact ⟨q.of⟩
 | _=>exact q.of.elim
theorem P4 (q:GoE (g env) (fun e=>GoE (h e) N C R E) C R E):GoE (Zc g h env) N C R E:=by
 unfold Zc;cases e:g env with
 | next e'=>rw [e] at q;exact q.of
 | ret d=>rw [e] at q;exact ⟨q.of⟩
 | cont d=>rw [e] at q;exact ⟨q.of⟩
 | exc e' c fl=>rw [e] at q;exact ⟨q.of⟩
 | _=>rw [e] at q;exact q.of.elim
theorem No (q:Go (g env) (fun e=>GoE (h e) N C R E) R):GoE (Zc g h env) N C R E:=P4 q.toE
theorem Z9y {b:Bool} (e:t env=some b) (q1:b=true->GoE (g env) N C R E) (q2:b=false->GoE (h env) N C R E):GoE (sIf t g h env) N C R E:=by
 unfold sIf;rw [e];cases b with
 | true=>exact q1 rfl
 | false=>exact q2 rfl
theorem Bw {c:Str} {Gf:List Dat->Option (List (Str×XD))} {fs:Ev->Option (List Dat)} {fl:List (Str×XD)} (e:fs env=some ds) (e2:Gf ds=some fl) (q:E c fl):GoE (Ll c Gf fs env) N C R E:=by
 unfold Ll;rw [e];dsimp only [Option.bind];rw [e2];exact ⟨q⟩
theorem Z5r {n p:Nat} (hp:ds.length=p) (q:GoE (g (M9 n ds)) (fun _=>R .non) (fun _=>False) R E):(∃ d,U0 n p g ds=.ok d/\R d)\/∃ c fl,U0 n p g ds=.exc c fl/\E c fl:=by
 unfold U0;rw [if_pos hp];cases e:g (M9 n ds) with
 | next e'=>rw [e] at q;exact .inl ⟨_,rfl,q.of⟩
 | ret d=>rw [e] at q;exact .inl ⟨_,rfl,q.of⟩
 | exc e' c fl=>rw [e] at q;exact .inr ⟨_,_,rfl,q.of⟩
 | _=>rw [e] at q;exact q.of.elim
variable {e' e3:Ev} {sub:Str->Bool} {c:Str} {fl:List (Str×XD)} {F:List Dat->Rs} {fs:Ev->Option (List Dat)}
theorem Z4m (e:g env=.next e') (q:N e'):Go (Z37 sub i g h env) N R:=by unfold Z37;rw [e];exact ⟨q⟩
theorem Z6f (e:g env=.exc e' c fl) (hs:sub c=true) (e2:h (e'.set i (.fz (.exc c fl)))=.next e3) (q:N (e3.set i .un)):Go (Z37 sub i g h env) N R:=by
 unfold Z37;rw [e];dsimp only;rw [if_pos hs,e2];exact ⟨q⟩
theorem S9 {sb:Str->Option Bool} {f:Ev->Option Dat} {b:Bool} (h:f env=some (.exc c fl)) (hs:sb c=some b):dIX sb f env=some (.bl b):=by unfold dIX;rw [h];show (sb c).map Dat.bl=_;rw [hs];rfl
end
end L2
namespace L2
open PySem
def Q1 (G:G3) (s:St3):Bool:=match G.wires[s.w]? with
 | some u=>u.2
 | none=>false
def Jj (G:G3):Prop:=∀ (i j:Nat) (si sj:St3),i≠j->G.steps[i]?=some si->G.steps[j]?=some sj->∀ q,q∈si.takes->q∉si.fills->q∈sj.takes->Q1 G si=false/\Q1 G sj=false
theorem A0 {G:G3} {n s0:Nat} {one two:Nat->Nat} {rs:List (Nat×Nat)} (ds:List Nat) (nd:ds.Nodup) (h:∀ (i:Nat) (s:St3),G.steps[i]?=some s->∃ d:Nat,ds[i]?=some d/\Deed G s0 one two rs n d s):Jj G:=by
 intro i j si sj hij hi hj q hq _ hq2;exfalso;obtain ⟨di,e1,h1⟩:=h i si hi;obtain ⟨dj,e2,h2⟩:=h j sj hj;have hd:di=dj:=by
  obtain ⟨t,p,et,hp⟩:=(h1.tk q).mp hq;obtain ⟨t',p',et',hp'⟩:=(h2.tk q).mp hq2;rcases hp with ⟨a1,a2⟩ | ⟨a1,a2⟩<;>rcases hp' with ⟨b1,b2⟩ | ⟨b1,b2⟩
  ·have:t=t':=by lia
   subst this;rw [et] at et';cases et';rw [← a2,← b2]
  ·lia
  ·lia
  ·have:t=t':=by lia
   subst this;rw [et] at et';cases et';rw [← a2,← b2]
 subst hd;obtain ⟨l1,g1⟩:=List.getElem?_eq_some_iff.mp e1;obtain ⟨l2,g2⟩:=List.getElem?_eq_some_iff.mp e2;have pw:=List.pairwise_iff_getElem.mp nd;rcases Nat.lt_or_gt_of_ne hij with h0 | h0
 ·exact pw i j l1 l2 h0 (g1.trans g2.symm)
 ·exact pw j i l2 l1 h0 (g2.trans g1.symm)
def Xa (G:G3) (g:Nat):G3:=⟨G.wires,G.steps.take g++G.steps.drop (g+1),G.marks,G.code⟩
theorem Z0e {α:Type} (l:List α) (g i:Nat) (hg:g<l.length):(l.take g++l.drop (g+1))[i]?=l[if i<g then i else i+1]?:=by
 by_cases h:i<g
 ·rw [if_pos h,getElem?_append_left (by rw [length_take];lia),getElem?_take,if_pos h]
 ·rw [if_neg h,getElem?_append_right (by rw [length_take];lia),getElem?_drop,length_take]
  congr 1
  lia
theorem Dp {G:G3} {g:Nat} {s:St3} (h:s∈(Xa G g).steps):s∈G.steps:=by
 rcases mem_append.mp h with h | h
 ·exact List.mem_of_mem_take h
 ·exact List.mem_of_mem_drop h
theorem Cb {G:G3} {I:Nat×Nat->Prop} (h:Calm G I) (g:Nat):Calm (Xa G g) I where
 ini:=h.ini
 lev:=fun p s hi hs=>h.lev p s hi (Dp hs)
 room:=fun p s hi hs=>h.room p s hi (Dp hs)
 nxt:=fun p s hi hs=>h.nxt p s hi (Dp hs)
 few:=h.few
theorem F8 {G:G3} (h:Jj G) {g:Nat} (hg:g<G.steps.length):Jj (Xa G g):=by
 intro i j si sj hij hi hj;have hi':G.steps[if i<g then i else i+1]?=some si:=by rw [← Z0e G.steps g i hg];exact hi
 have hj':G.steps[if j<g then j else j+1]?=some sj:=by rw [← Z0e G.steps g j hg];exact hj
 refine h _ _ si sj ?_ hi' hj';split<;>split<;>lia
def upW (at0 w:Nat):Nat:=if at0<=w then w+1 else w
def Xo (c at0:Nat) (u:Bool):Nat:=(c % 2^at0) ||| ((if u then 1 else 0)*2^at0) ||| (c / 2^at0*2^(at0+1))
theorem K8 (c at0:Nat) (u:Bool) (j:Nat):(Xo c at0 u).testBit j=if j<at0 then c.testBit j else if j=at0 then u else c.testBit (j - 1):=by
 unfold Xo;rw [testBit_or,testBit_or,Nat.testBit_mod_two_pow,Nat.testBit_mul_two_pow,Nat.testBit_mul_two_pow,Nat.testBit_div_two_pow];by_cases h1:j<at0
 ·rw [if_pos h1,decide_eq_true h1,decide_eq_false (show ¬ at0<=j by lia),decide_eq_false (show ¬ at0+1<=j by lia)];simp
 ·rw [if_neg h1,decide_eq_false h1]
  by_cases h2:j=at0
  ·subst h2
   rw [if_pos rfl,decide_eq_true (le_refl _),decide_eq_false (show ¬ j+1<=j by lia)];cases u<;>simp
  ·rw [if_neg h2,decide_eq_true (show at0<=j by lia),decide_eq_true (show at0+1<=j by lia)]
   have e1:at0+(j - (at0+1))=j - 1:=by lia
   have e0:(if u=true then 1 else 0:Nat).testBit (j - at0)=false:=by
    have:j - at0≠0:=by lia
    cases u
    ·simp
    ·rw [if_pos rfl,show (1:Nat)=2^0 from rfl,testBit_two_pow];simp;lia
   rw [e0,Nat.add_comm,e1];simp
theorem Z1c (c at0 w:Nat) (u:Bool):Xo (c ^^^ 2^w) at0 u=Xo c at0 u ^^^ 2^upW at0 w:=eq_of_testBit_eq fun j=>by
 rw [K8,Wz c,Wz c,Wz (Xo c at0 u),K8];unfold upW;by_cases h1:j<at0
 ·rw [if_pos h1,if_pos h1]
  by_cases h2:at0<=w
  ·rw [if_pos h2,decide_eq_false (show ¬ w=j by lia),decide_eq_false (show ¬ w+1=j by lia)]
  ·rw [if_neg h2]
 ·rw [if_neg h1,if_neg h1]
  by_cases h3:j=at0
  ·rw [if_pos h3,if_pos h3]
   by_cases h2:at0<=w
   ·rw [if_pos h2,decide_eq_false (show ¬ w+1=j by lia)];simp
   ·rw [if_neg h2,decide_eq_false (show ¬ w=j by lia)];simp
  ·rw [if_neg h3,if_neg h3]
   by_cases h2:at0<=w
   ·rw [if_pos h2]
    congr 1
    by_cases e:w=j - 1
    ·rw [decide_eq_true e,decide_eq_true (show w+1=j by lia)]
    ·rw [decide_eq_false e,decide_eq_false (show ¬ w+1=j by lia)]
   ·rw [if_neg h2,decide_eq_false (show ¬ w=j - 1 by lia),decide_eq_false (show ¬ w=j by lia)]
theorem Z8w (c at0 w:Nat) (u:Bool):(Xo c at0 u).testBit (upW at0 w)=c.testBit w:=by
 rw [K8];unfold upW;by_cases h:at0<=w
 ·rw [if_pos h,if_neg (by lia),if_neg (by lia)];congr 1
 ·rw [if_neg h,if_pos (by lia)]
def Z24 (at0:Nat) (s:St3):St3:=⟨upW at0 s.w,s.up,s.takes,s.fills⟩
def Z3a (G:G3) (at0:Nat) (x:Str×Bool) (u:Bool):G3:=⟨G.wires.take at0++x::G.wires.drop at0,G.steps.map (Z24 at0),G.marks,Xo G.code at0 u⟩
theorem Z15 {G:G3} {I:Nat×Nat->Prop} (h:Calm G I) (at0:Nat) (x:Str×Bool) (u:Bool):Calm (Z3a G at0 x u) fun p=>∃ c,I (p.1,c)/\p.2=Xo c at0 u where
 ini:=⟨G.code,h.ini,rfl⟩
 lev:=by
  rintro p s ⟨c,hi,e⟩ hs hc;obtain ⟨r,hr,rfl⟩:=mem_map.mp hs;rw [e];show (Xo c at0 u).testBit (upW at0 r.w)≠r.up;rw [Z8w];exact h.lev (p.1,c) r hi hr hc
 room:=by
  rintro p s ⟨c,hi,e⟩ hs hc;obtain ⟨r,hr,rfl⟩:=mem_map.mp hs;exact h.room (p.1,c) r hi hr hc
 nxt:=by
  rintro p s ⟨c,hi,e⟩ hs hc;obtain ⟨r,hr,rfl⟩:=mem_map.mp hs;refine ⟨c ^^^ 2^r.w,h.nxt (p.1,c) r hi hr hc,?_⟩;show p.2 ^^^ 2^upW at0 r.w=_;rw [e,Z1c]
 few:=by
  intro l hl hp;obtain ⟨l',e1,e2,e3⟩:∃ l':List (Nat×Nat),l'.length=l.length/\l'.Nodup/\∀ q∈l',I q/\(q.1,Xo q.2 at0 u)∈l:=by
   clear h;induction l with
   | nil=>exact ⟨[],rfl,nodup_nil,by simp⟩
   | cons p l ih =>
    obtain ⟨h1,h2⟩:=nodup_cons.mp hl;obtain ⟨l',a1,a2,a3⟩:=ih h2 fun q hq=>hp q (mem_cons_of_mem _ hq)
    obtain ⟨c,hi,e⟩:=hp p mem_cons_self;refine ⟨(p.1,c)::l',by simp [a1],nodup_cons.mpr ⟨fun hm=>?_,a2⟩,fun q hq=>?_⟩
    ·have:=(a3 _ hm).2
     rw [← e] at this;exact h1 this
    ·rcases mem_cons.mp hq with rfl | hq
     ·exact ⟨hi,by rw [← e];exact mem_cons_self⟩
     ·exact ⟨(a3 q hq).1,mem_cons_of_mem _ (a3 q hq).2⟩
  have:=h.few l' e2 fun q hq=>(e3 q hq).1
  lia
theorem Z2n {α:Type} (l:List α) (at0 w:Nat) (x:α) (ha:at0<=l.length):(l.take at0++x::l.drop at0)[upW at0 w]?=l[w]?:=by
 unfold upW;by_cases h:at0<=w
 ·rw [if_pos h,getElem?_append_right (by rw [length_take];lia),length_take,Nat.min_eq_left ha,show w+1 - at0=(w - at0)+1 by lia,List.getElem?_cons_succ,getElem?_drop]
  congr 1;lia
 ·rw [if_neg h,getElem?_append_left (by rw [length_take];lia),getElem?_take,if_pos (by lia)]
theorem Pu (G:G3) (at0:Nat) (x:Str×Bool) (u:Bool) (ha:at0<=G.wires.length) (s:St3):Q1 (Z3a G at0 x u) (Z24 at0 s)=Q1 G s:=by
 unfold Q1;show (match (G.wires.take at0++x::G.wires.drop at0)[upW at0 s.w]? with | some u=>u.2 | none=>false)=_;rw [Z2n G.wires at0 s.w x ha]
theorem Ck {G:G3} (h:Jj G) (at0:Nat) (x:Str×Bool) (u:Bool) (ha:at0<=G.wires.length):Jj (Z3a G at0 x u):=by
 intro i j si sj hij hi hj q h1 h2 h3;have hi':(G.steps.map (Z24 at0))[i]?=some si:=hi;have hj':(G.steps.map (Z24 at0))[j]?=some sj:=hj;rw [getElem?_map] at hi' hj';cases ei:G.steps[i]? with
 | none=>rw [ei] at hi';cases hi'
 | some ri =>
  cases ej:G.steps[j]? with
  | none=>rw [ej] at hj';cases hj'
  | some rj =>
   rw [ei] at hi';cases hi';rw [ej] at hj';cases hj';rw [Pu G at0 x u ha,Pu G at0 x u ha];exact h i j ri rj hij ei ej q h1 h2 h3
structure LookI (G G':G3) (z:Nat):Prop where
 ws:G'.wires=G.wires
 ma:G'.marks=G.marks ||| 2^z
 mz:G.marks.testBit z=false
 cd:G'.code=G.code
 len:G'.steps.length=G.steps.length
 st:∀ (i:Nat) (s':St3),G'.steps[i]?=some s'->∃ s:St3,G.steps[i]?=some s/\∃ b:Bool,s'.w=s.w/\s'.up=s.up/\z∉s.takes/\z∉s.fills/\(∀ q,q∈s'.takes↔q∈s.takes\/(b=true/\q=z))/\(∀ q,q∈s'.fills↔q∈s.fills\/(b=true/\q=z))
theorem LookI.look {G G':G3} {z:Nat} (h:LookI G G' z):LookG G G' z:=⟨h.len,h.ma,h.mz,h.cd,fun s' hs=>by
 obtain ⟨i,hi⟩:=List.getElem?_of_mem hs;obtain ⟨s,e,b,q⟩:=h.st i s' hi;exact ⟨s,mem_of_getElem? e,b,q⟩⟩
theorem Xe {G G':G3} {z:Nat} (h:LookI G G' z) (hn:Jj G):Jj G':=by
 intro i j si sj hij hi hj q h1 h2 h3;obtain ⟨ri,ei,bi,w1,u1,zt1,zf1,t1,f1⟩:=h.st i si hi;obtain ⟨rj,ej,bj,w2,u2,zt2,zf2,t2,f2⟩:=h.st j sj hj;have k1:Q1 G' si=Q1 G ri:=by unfold Q1;rw [h.ws,w1]
 have k2:Q1 G' sj=Q1 G rj:=by unfold Q1;rw [h.ws,w2]
 rw [k1,k2];have hz:q≠z:=by
  rintro rfl;rcases (t1 q).mp h1 with a | ⟨a,_⟩
  ·exact zt1 a
  ·exact h2 ((f1 q).mpr (.inr ⟨a,rfl⟩))
 refine hn i j ri rj hij ei ej q ?_ (fun a=>h2 ((f1 q).mpr (.inl a))) ?_
 ·exact ((t1 q).mp h1).elim id fun a=>absurd a.2 hz
 ·exact ((t2 q).mp h3).elim id fun a=>absurd a.2 hz
def Dz (G:G3) (w:Nat) (x:Str):G3:=⟨G.wires.set w (x,false),G.steps,G.marks,G.code⟩
theorem A6 {G:G3} {I:Nat×Nat->Prop} (h:Calm G I) (w:Nat) (x:Str):Calm (Dz G w x) I:=⟨h.ini,h.lev,h.room,h.nxt,h.few⟩
theorem Nb {G:G3} (h:Jj G) (w:Nat) (x:Str):Jj (Dz G w x):=by
 intro i j si sj hij hi hj q h1 h2 h3;have key:∀ s:St3,Q1 G s=false->Q1 (Dz G w x) s=false:=fun s hs=>by
  unfold Q1 at hs ⊢;show (match (G.wires.set w (x,false))[s.w]? with | some u=>u.2 | none=>false)=false;rw [getElem?_set];by_cases e:w=s.w
  ·rw [if_pos e]
   by_cases hl:w<G.wires.length
   ·rw [if_pos hl]
   ·rw [if_neg hl]
  ·rw [if_neg e];exact hs
 obtain ⟨a,b⟩:=h i j si sj hij hi hj q h1 h2 h3;exact ⟨key si a,key sj b⟩
def Gc (l:List (Nat×Bool)):Nat:=l.foldl (fun c q=>c ^^^ 2^q.1) 0
theorem Z02 (l:List (Nat×Bool)) (q:Nat×Bool):Gc (l++[q])=Gc l ^^^ 2^q.1:=by unfold Gc;rw [List.foldl_append];rfl
def Ss (n:Nat) (l:List (Nat×Bool)):Bool:=((List.range l.length).all fun i=>match l[i]? with
 | some q=>!((Gc (l.take i)).testBit q.1==q.2)&&decide (q.1<n)
 | none=>true)&&Gc l==0
def Ws (many own r:Nat):List Nat:=(List.range own).map fun j=>many+(r+j) % own
def O8 (many own r:Nat):List (Nat×Bool):=((Ws many own r).map fun w=>(w,true))++((Ws many own (r / 2)).map fun w=>(w,false))
def Aq (k pos:Nat) (both:List (Nat×Bool)):List (Nat×Bool):=(k,true)::(both.take pos++(k,false)::both.drop pos)
theorem Kv (many own r:Nat) (h1:1<=own) (h2:own<=2):Ws many own r=Ws many own (r % 2):=by
 unfold Ws;refine List.map_congr_left fun j _=>?_
 rcases (show own=1\/own=2 by lia) with rfl | rfl<;>lia
def Zc0 (many own a b:Nat):List (Nat×Bool):=((Ws many own a).map fun w=>(w,true))++((Ws many own b).map fun w=>(w,false))
theorem Z0a:([2,3].all fun many=>[1,2].all fun own=>(List.range many).all fun k=>(List.range 2).all fun a=>(List.range 2).all fun b=>(List.range (2*own+1)).all fun pos=>Ss (many+own) (Aq k pos (Zc0 many own a b)))=true:=by decide +kernel
theorem Z22 {many own k r pos:Nat} (m1:2<=many) (m2:many<=3) (o1:1<=own) (o2:own<=2) (hk:k<many) (hp:pos<=2*own):Ss (many+own) (Aq k pos (O8 many own r))=true:=by
 have h:=Z0a;simp only [all_eq_true] at h;have:=h many (by rcases (show many=2\/many=3 by lia) with rfl | rfl<;>simp) own (by rcases (show own=1\/own=2 by lia) with rfl | rfl<;>simp) k (mem_range.mpr hk) (r % 2) (mem_range.mpr (by lia)) (r / 2 % 2) (mem_range.mpr (by lia)) pos (mem_range.mpr (by lia));unfold O8;rw [Kv many own r o1 o2,Kv many own (r / 2) o1 o2];exact this
theorem A3 {n:Nat} {l:List (Nat×Bool)} (h:Ss n l=true) {i:Nat} {q:Nat×Bool} (e:l[i]?=some q):(Gc (l.take i)).testBit q.1≠q.2/\q.1<n:=by
 unfold Ss at h;have h1:=all_eq_true.mp (Bool.and_eq_true_iff.mp h).1 i (mem_range.mpr (List.getElem?_eq_some_iff.mp e).1);rw [e] at h1;dsimp only at h1;obtain ⟨a,b⟩:=Bool.and_eq_true_iff.mp h1;exact ⟨by simpa using a,of_decide_eq_true b⟩
theorem Nt {n:Nat} {l:List (Nat×Bool)} (h:Ss n l=true):Gc l=0:=by
 unfold Ss at h;exact beq_iff_eq.mp (Bool.and_eq_true_iff.mp h).2
structure CG (many n sp:Nat) (L:Nat->Nat) (ss:List St3):Prop where
 l0:L 0=0
 st:∀ s∈ss,∃ x y,x<sp/\y<sp/\x≠y/\s.takes=[x]/\s.fills=[y]/\L y=L x ^^^ 2^s.w/\(L x).testBit s.w≠s.up/\s.w<n/\(x=0->s.w<many)
 sh:∀ (i j:Nat) (si sj:St3),i≠j->ss[i]?=some si->ss[j]?=some sj->∀ x,si.takes=[x]->sj.takes=[x]->x=0
theorem Oa {α:Type} {l:List α} {a b:α} {i:Nat} (h:(l++[a])[i]?=some b):(i<l.length/\l[i]?=some b)\/(i=l.length/\b=a):=by
 rcases lt_or_ge i l.length with hl | hl
 ·rw [getElem?_append_left hl] at h;exact .inl ⟨hl,h⟩
 ·rw [getElem?_append_right hl] at h
  rcases eq_zero_or_pos (i - l.length) with z | z
  ·rw [z] at h;cases h;exact .inr ⟨by lia,rfl⟩
  ·rw [getElem?_cons,if_neg (by lia)] at h;cases h
theorem CG.add {many n sp:Nat} {L L':Nat->Nat} {ss:List St3} (h:CG many n sp L ss) {w last fill:Nat} {up:Bool} (hl:last<sp) (hf:fill<sp+1) (hne:last≠fill) (fr:∀ s∈ss,s.takes=[last]->last=0) (hw:w<n) (hg:last=0->w<many) (hL0:L' 0=0) (hL:∀ p,p<sp->L' p=L p) (h1:L' fill=L last ^^^ 2^w) (h2:(L last).testBit w≠up):CG many n (sp+1) L' (ss++[⟨w,up,[last],[fill]⟩]) where
 l0:=hL0
 st:=fun s hs=>by
  rcases mem_append.mp hs with a | a
  ·obtain ⟨x,y,b1,b2,b3,b4,b5,b6,b7,b8,b9⟩:=h.st s a
   exact ⟨x,y,by lia,by lia,b3,b4,b5,by rw [hL x b1,hL y b2];exact b6,by rw [hL x b1];exact b7,b8,b9⟩
  ·rw [mem_singleton.mp a]
   exact ⟨last,fill,by lia,hf,hne,rfl,rfl,by rw [h1,hL last hl],by rw [hL last hl];exact h2,hw,hg⟩
 sh:=fun i j si sj hij hi hj x e1 e2=>by
  rcases Oa hi with ⟨a1,a2⟩ | ⟨a1,a2⟩<;>rcases Oa hj with ⟨b1,b2⟩ | ⟨b1,b2⟩
  ·exact h.sh i j si sj hij a2 b2 x e1 e2
  ·subst b2
   have ex:last=x:=by simpa using e2
   subst ex;exact fr si (mem_of_getElem? a2) e1
  ·subst a2
   have ex:last=x:=by simpa using e1
   subst ex;exact fr sj (mem_of_getElem? b2) e2
  ·lia
theorem CG.one {many n sp:Nat} {L:Nat->Nat} {G:G3} (h:CG many n sp L G.steps) (hs:sp<=64) (hm:G.marks=1) (hc:G.code=0):OneT G 0 L where
 bl:=by lia
 ma:=hm
 cd:=by rw [hc,h.l0]
 st:=fun s hs'=>by
  obtain ⟨x,y,b1,b2,b3,b4,b5,b6,b7,_⟩:=h.st s hs';exact ⟨x,y,by lia,by lia,b3,b4,b5,b6,b7⟩
theorem CG.noriv {many n sp:Nat} {L:Nat->Nat} {G:G3} (h:CG many n sp L G.steps) (hk:∀ s:St3,s.w<many->Q1 G s=false):Jj G:=by
 intro i j si sj hij hi hj q h1 _ h3;obtain ⟨x,y,_,_,_,t1,_,_,_,_,g1⟩:=h.st si (mem_of_getElem? hi);obtain ⟨x',y',_,_,_,t2,_,_,_,_,g2⟩:=h.st sj (mem_of_getElem? hj);rw [t1] at h1;rw [t2] at h3;have e1:q=x:=mem_singleton.mp h1;have e2:q=x':=mem_singleton.mp h3;have exx:x=x':=e1.symm.trans e2;subst exx;have hx:=h.sh i j si sj hij hi hj x t1 t2;exact ⟨hk si (g1 hx),hk sj (g2 hx)⟩
end L2
namespace K42
open PySem PySem.Spec PyProof.Rows L2
theorem D7 (ns:List Int) (k:Nat) (hk:k<=100000):∃ r:Nat,Zw [scr ns,.int (k:Int)]=.ok (.int (r:Int))/\r<1000000000039:=by
 have:=Yb (n:=3) (p:=2) (ds:=[scr ns,.int (k:Int)]) (g:=T8) (R:=fun d=>∃ r:Nat,d=.int (r:Int)/\r<1000000000039) rfl ?_
 ·obtain ⟨d,e,r,rfl,h⟩:=this
  exact ⟨r,e,h⟩
 show Go (T8 [.fz (scr ns),.fz (.int (k:Int)),.un]) _ _;unfold T8;have fin:∀ z:Int,Go (U4 (dO Jl (dO Nh (dV 2) (dC (.int 48271))) (dC (.int 1000000000039))) [.fz (scr ns),.fz (.int (k:Int)),.fz (.int z)]) (fun _=>False) (fun d=>∃ r:Nat,d=.int (r:Int)/\r<1000000000039):=fun z=>by
  refine Y8 (d:=.int (z*48271 % 1000000000039)) (Z5 (Z5 rfl rfl (E9 (.inr (by lia)))) rfl (Z03 (by lia))) ⟨(z*48271 % 1000000000039).toNat,?_,?_⟩
  ·congr 1;lia
  ·lia
 refine Z6 (Zf (d:=.int (7919*(k:Int)+12345)) (Z5 (Z5 rfl rfl (E9 (.inl (by lia)))) rfl rfl) ?_);refine Z6 (Mq (b:=decide ((k:Int)<((ns.map Dat.int).length:Int))) rfl (fun hb=>?_) (fun hb=>?_))
 ·have hkl:k<ns.length:=by have:=of_decide_eq_true hb;rw [length_map] at this;lia
  have hix:ixD (scr ns) (.int (k:Int))=some (.int ns[k]):=Wt (by simp [hkl]);refine Zf (d:=.int (7919*(k:Int)+12345+ns[k]*6364136223846793005)) (Z5 rfl (Z5 (Z5 rfl rfl hix) rfl (E9 (.inr (by lia)))) rfl) ?_;exact (fin _).mono (fun _ h=>h.elim) fun _ h=>h
 ·refine W5 ?_
  exact (fin _).mono (fun _ h=>h.elim) fun _ h=>h
theorem Na (c k:Nat):∃ z:Str,W4 [.int (c:Int),.int (k:Int)]=.ok (.str z):=by
 have:=Yb (n:=8) (p:=2) (ds:=[.int (c:Int),.int (k:Int)]) (g:=Ui) (R:=fun d=>∃ z:Str,d=.str z) rfl ?_
 ·obtain ⟨d,e,z,rfl⟩:=this
  exact ⟨z,e⟩
 show Go (Ui [.fz (.int (c:Int)),.fz (.int (k:Int)),.un,.un,.un,.un,.un,.un]) _ _;unfold Ui;obtain ⟨n,hn,hn1⟩:∃ n:Nat,2+c % 7=n/\n<=8:=⟨_,rfl,by lia⟩;refine Z6 (Zf (d:=.str M5) rfl ?_);refine Z6 (Zf (d:=.int (n:Int)) (by rw [← hn];exact Z5 rfl (Z5 rfl rfl (Ro c 7 (by lia))) (Qu 2 _)) ?_);refine Z6 (Zf (Z5 (Z5 rfl rfl (Uw c 7 (by lia) (by lia))) rfl (Ro (c / 7) n (by lia))) ?_);refine Z6 (Zf (d:=.str "") rfl ?_);generalize c / 7 % n=at0;refine Z6 (Vb (ds:=rng 0 n) (fun i e=>∃ (z:Str) (v6 v7:Slt),e=[.fz (.int (c:Int)),.fz (.int (k:Int)),.fz (.str M5),.fz (.int (n:Int)),.fz (.int (at0:Int)),.fz (.str z),v6,v7]/\z.length=i) (Yt (Z1 rfl rfl) (by lia)) ⟨"",.un,.un,rfl,by decide⟩ ?_ ?_)
 ·rintro i d e hi ⟨z,v6,v7,rfl,hz⟩
  obtain ⟨hi1,rfl⟩:=Tx hi;rw [Int.zero_add];refine ⟨_,rfl,?_⟩;refine Z6 (Zf (d:=.int ((0:Nat):Int)) rfl ?_);have fin:∀ q:Nat,Go (Yg 5 (dO Wu (dV 5) (dO ixD (dV 2) (dO Jl (dO Wu (dO Wu (dO Vj (dV 0) (dC (.int 49))) (dO Nh (dC (.int 5)) (dV 6))) (dO Nh (dC (.int 7)) (dV 7))) (dC (.int 26))))) [.fz (.int (c:Int)),.fz (.int (k:Int)),.fz (.str M5),.fz (.int (n:Int)),.fz (.int (at0:Int)),.fz (.str z),.fz (.int (i:Int)),.fz (.int (q:Int))]) (fun e=>∃ (z:Str) (v6 v7:Slt),e=[.fz (.int (c:Int)),.fz (.int (k:Int)),.fz (.str M5),.fz (.int (n:Int)),.fz (.int (at0:Int)),.fz (.str z),v6,v7]/\z.length=i+1) (fun d=>∃ z:Str,d=.str z):=fun q=>by
   have hx:=Fc (j:=(((c / 49+5*i+7*q) % 26:Nat):Int)) (by lia) (by lia);refine Zf (Z5 rfl (Z5 rfl (Z5 (Z5 (Z5 (Z5 rfl rfl (Uw c 49 (by lia) (by lia))) (Z5 rfl rfl (Z2f 5 i (by lia))) (Qu _ _)) (Z5 rfl rfl (Z2f 7 q (by lia))) (Qu _ _)) rfl (Ro _ 26 (by lia))) hx) (Am (by show z.length+1<=_;lia))) ?_;exact ⟨_,_,_,rfl,by rw [Gj];show _+1=_;lia⟩
  refine Z6 (Mq (Wo (Z5 rfl rfl (eqN i at0))) (fun hb=>?_) (fun hb=>?_))
  ·exact Zf rfl (fin k)
  ·exact W5 (fin 0)
 ·rintro e ⟨z,v6,v7,rfl,hz⟩
  rw [Tj] at hz;refine Z6 (Mq (b:=decide (z∈(["given","made","up","down","start"]:List Str))) (Wo (Z5 rfl rfl (Z4q z ["given","made","up","down","start"]))) (fun hb=>?_) (fun hb=>?_))
  ·refine Zf (Z5 (R5 rfl (Wd rfl) rfl (Z56 z _ _)) rfl (Am ?_)) (Y8 rfl ⟨_,rfl⟩)
   have:=Txt.slice_le z (some 1) none;show (Txt.slice z (some 1) none).length+1<=_;lia
  ·exact W5 (Y8 rfl ⟨_,rfl⟩)
theorem Z1l (ns:List Int) (first n:Nat) (hf:first<=1000) (hn:n<=10):∃ ps:List Nat,Q5 [scr ns,.int (first:Int),.int (n:Int)]=.ok (.lst (Ze ps))/\Ord n ps:=by
 have:=Yb (n:=8) (p:=3) (ds:=[scr ns,.int (first:Int),.int (n:Int)]) (g:=Vs) (R:=fun d=>∃ ps:List Nat,d=.lst (Ze ps)/\Ord n ps) rfl ?_
 ·obtain ⟨d,e,z,rfl,h⟩:=this
  exact ⟨z,e,h⟩
 show Go (Vs [.fz (scr ns),.fz (.int (first:Int)),.fz (.int (n:Int)),.un,.un,.un,.un,.un]) _ _;unfold Vs;refine Z6 (Jo (ds:=Ze []) rfl ?_);refine Z6 (Vb (ds:=rng 0 n) (fun i e=>∃ (ps:List Nat) (v4 v5 v6 v7:Slt),e=[.fz (scr ns),.fz (.int (first:Int)),.fz (.int (n:Int)),.ow (Ze ps),v4,v5,v6,v7]/\Ord i ps) (Yt (Z1 rfl rfl) (by lia)) ⟨[],.un,.un,.un,.un,rfl,rfl,fun v=>by simp⟩ ?_ ?_)
 ·rintro i d e hi ⟨ps,v4,v5,v6,v7,rfl,ho⟩
  obtain ⟨hi1,rfl⟩:=Tx hi;rw [Int.zero_add];refine ⟨_,rfl,?_⟩;obtain ⟨c,ec,lc⟩:=D7 ns (first+i) (by lia);have hl:=ho.len;refine Z6 (Zf (Zd (xs:=[scr ns,.int ((first+i:Nat):Int)]) (Z1 rfl (Z1 (Z5 rfl rfl (Qu _ _)) rfl)) ec) ?_);refine Z6 (Zf (Z5 rfl (Z5 (Wg (Z1 rfl rfl) (Lw ps)) rfl (Qu _ 1)) (Ro c (ps.length+1) (by lia))) ?_);have ha:c % (ps.length+1)<=ps.length:=by have:=mod_lt c (show 0<ps.length+1 by lia);lia
  generalize c % (ps.length+1)=a at ha;refine Z6 (Qf (ds:=Ze ps) (as:=[.int (a:Int),.int (i:Int)]) rfl rfl (Ed ps a i ha (by lia)) ?_);have hl1:=Qy ps a i;have hc1:=D0 ps a i;generalize ps.take a++i::ps.drop a=qs at hl1 hc1;refine Z6 (Zf (Z5 (Z5 rfl rfl (Uw c 64 (by lia) (by lia))) (Z5 (Wg (Z1 rfl rfl) (Lw qs)) rfl (Zag _ a (by lia))) (Ro (c / 64) (qs.length - a) (by lia))) ?_);have hb:c / 64 % (qs.length - a)<qs.length - a:=mod_lt _ (by lia);generalize c / 64 % (qs.length - a)=b at hb;refine Qf (ds:=Ze qs) (as:=[.int ((a+1+b:Nat):Int),.int (i:Int)]) rfl (Z1 (Z5 (Z5 rfl rfl (Qu a 1)) rfl (Qu _ b)) (Z1 rfl rfl)) (Ed qs (a+1+b) i (by lia) (by lia)) ?_;have hl2:=Qy qs (a+1+b) i;have hc2:=D0 qs (a+1+b) i;refine ⟨_,_,_,_,_,rfl,by lia,fun v=>?_⟩;rw [hc2,hc1,ho.cnt];by_cases h1:i=v
  ·subst h1;rw [if_neg (by lia),if_pos rfl,if_pos (by lia)]
  ·rw [if_neg h1]
   by_cases h2:v<i
   ·rw [if_pos h2,if_pos (by lia)]
   ·rw [if_neg h2,if_neg (by lia)]
 ·rintro e ⟨ps,v4,v5,v6,v7,rfl,ho⟩
  rw [Tj] at ho;exact Ec rfl ⟨ps,rfl,ho⟩
structure Prs (n m:Nat) (qs:List (Nat×Nat)):Prop where
 len:qs.length<=m
 lt:∀ q∈qs,q.1<q.2/\q.2<n
theorem Prs.app {n m m':Nat} {qs rs:List (Nat×Nat)} (h:Prs n m qs) (h':Prs n m' rs):Prs n (m+m') (qs++rs):=⟨by rw [length_append];have:=h.len;have:=h'.len;lia,fun q hq=>(mem_append.mp hq).elim (h.lt q) (h'.lt q)⟩
theorem Prs.sub {n m:Nat} {qs rs:List (Nat×Nat)} (h:Prs n m qs) (s:rs.Sublist qs):Prs n m rs:=⟨le_trans s.length_le h.len,fun q hq=>h.lt q (s.subset hq)⟩
theorem Prs.one {n:Nat} {q:Nat×Nat} (h1:q.1<q.2) (h2:q.2<n):Prs n 1 [q]:=⟨le_refl _,fun p hp=>by rw [mem_singleton.mp hp];exact ⟨h1,h2⟩⟩
theorem Prs.mono {n m m':Nat} {qs:List (Nat×Nat)} (h:Prs n m qs) (hm:m<=m'):Prs n m' qs:=⟨le_trans h.len hm,h.lt⟩
theorem Prs.nil (n m:Nat):Prs n m []:=⟨zero_le _,fun q hq=>by cases hq⟩
theorem Cc (ns:List Int) (first many size:Nat) (hf:first<=1000) (hm:many<=100) (hs:0<size):∃ qs:List (Nat×Nat),T1 [scr ns,.int (first:Int),.int (many:Int),.int (size:Int)]=.ok (.lst (qs.map Zx))/\Prs size many qs:=by
 have:=Yb (n:=9) (p:=4) (ds:=[scr ns,.int (first:Int),.int (many:Int),.int (size:Int)]) (g:=V6) (R:=fun d=>∃ qs:List (Nat×Nat),d=.lst (qs.map Zx)/\Prs size many qs) rfl ?_
 ·obtain ⟨d,e,z,rfl,h⟩:=this
  exact ⟨z,e,h⟩
 show Go (V6 [.fz (scr ns),.fz (.int (first:Int)),.fz (.int (many:Int)),.fz (.int (size:Int)),.un,.un,.un,.un,.un]) _ _;unfold V6;refine Z6 (Jo (ds:=([]:List (Nat×Nat)).map Zx) rfl ?_);refine Z6 (Vb (ds:=rng 0 many) (fun i e=>∃ (qs:List (Nat×Nat)) (v5 v6 v7 v8:Slt),e=[.fz (scr ns),.fz (.int (first:Int)),.fz (.int (many:Int)),.fz (.int (size:Int)),.ow (qs.map Zx),v5,v6,v7,v8]/\Prs size i qs) (Yt (Z1 rfl rfl) (by lia)) ⟨[],.un,.un,.un,.un,rfl,Prs.nil _ _⟩ ?_ ?_)
 ·rintro i d e hi ⟨qs,v5,v6,v7,v8,rfl,hq⟩
  obtain ⟨hi1,rfl⟩:=Tx hi;rw [Int.zero_add];refine ⟨_,rfl,?_⟩;obtain ⟨c,ec,lc⟩:=D7 ns (first+i) (by lia);refine Z6 (Zf (Zd (xs:=[scr ns,.int ((first+i:Nat):Int)]) (Z1 rfl (Z1 (Z5 rfl rfl (Qu _ _)) rfl)) ec) ?_);refine Z6 (Zf (Z5 rfl rfl (Ro c size hs)) ?_);refine Z6 (Zf (Z5 (Z5 rfl rfl (Uw c 64 (by lia) (by lia))) rfl (Ro _ size hs)) ?_);have ha:c % size<size:=mod_lt _ hs;have hb:c / 64 % size<size:=mod_lt _ hs;generalize c % size=a at ha;generalize c / 64 % size=b at hb;obtain ⟨z,hz⟩:=Kh (min a b,max a b) qs;have et:∀ env:Ev,env[7]?=some (.fz (.int (a:Int)))->env[8]?=some (.fz (.int (b:Int)))->Uj (Z4 (dF Z6l (Z4 (dV 7) (Z4 (dV 8) Zk))) (Z4 (dF Z6k (Z4 (dV 7) (Z4 (dV 8) Zk))) Zk)) env=some (Zx (min a b,max a b)):=fun env h7 h8=>by
   have e7:dV 7 env=some (.int (a:Int)):=by unfold dV;rw [h7]
   have e8:dV 8 env=some (.int (b:Int)):=by unfold dV;rw [h8]
   exact Y2 (Z1 (Wg (Z1 e7 (Z1 e8 rfl)) (Zdr a b)) (Z1 (Wg (Z1 e7 (Z1 e8 rfl)) (Zdv a b)) rfl)) (by simp)
  refine Mq (G5 (Wo (Z5 rfl rfl (neN a b))) fun _=>Wo (Z5 (et _ rfl rfl) rfl hz)) (fun hb=>?_) (fun _=>W5 ⟨qs,_,_,_,_,rfl,hq.mono (by lia)⟩);have hne:a≠b:=by
   have:=(Bool.and_eq_true_iff.mp hb).1;simpa using this
  refine Qf (ds:=qs.map Zx) (as:=[Zx (min a b,max a b)]) (ds':=(qs++[(min a b,max a b)]).map Zx) rfl (Z1 (et _ rfl rfl) rfl) (by rw [Ts (by rw [length_map];have:=hq.len;lia),map_append];rfl) ⟨_,_,_,_,_,rfl,hq.app (Prs.one (by show min a b<max a b;lia) (by show max a b<_;lia))⟩
 ·rintro e ⟨qs,v5,v6,v7,v8,rfl,hq⟩
  rw [Tj] at hq;exact Ec rfl ⟨qs,rfl,hq⟩
end K42
set_option maxHeartbeats 1000000
namespace K42
open PySem PySem.Spec PyProof.Rows L2
theorem Z4c (p q:Nat×Nat):eqD (Zx p) (Zx q)=decide (p=q):=by
 show (((p.1:Int)==(q.1:Int))&&(((p.2:Int)==(q.2:Int))&&true))=_;rw [Bool.eq_iff_iff];simp only [Bool.and_eq_true,beq_iff_eq,decide_eq_true_eq,and_true];constructor
 ·rintro ⟨h1,h2⟩;exact Prod.ext (by lia) (by lia)
 ·rintro rfl;exact ⟨rfl,rfl⟩
theorem Cv (p q:Nat×Nat):neF (Zx p) (Zx q)=some (.bl (!decide (p=q))):=by
 unfold neF;rw [K9,K9,Z4c];rfl
theorem Z2j (ps:List Nat) (t:Nat) (h:t<=ps.length):Eh (Ze ps) (some (t:Int)) none=Ze (ps.drop t):=by
 unfold Ze;rw [Jb,Jb,Dq ps t h]
theorem An (b:Bool):eqF (.int (if b then 1 else 0)) (.int 0)=some (.bl (!b)):=by cases b<;>rfl
theorem Z2i {a b k:Nat} (h1:a<2^k) (h2:b<2^k):a ||| b<2^k:=Nat.or_lt_two_pow h1 h2
structure DS (s0:Nat) (rs:List (Nat×Nat)) (ps:List Nat) (code d:Nat) (s:St3):Prop where
 w:ps[d]?=some s.w
 tk:Ot s0 rs (·.2) (·.1) d s.takes
 fl:Ot s0 rs (·.1) (·.2) d s.fills
 up:s.up=!(code.testBit s.w ^^ decide ((ps.take d).count s.w % 2=1))
theorem Z2a (ns:List Int) (first n many:Nat) (hf:first<=900) (hn1:1<=n) (hn2:n<=4) (hm:many<=5):∃ (G:G3) (s0:Nat) (ps:List Nat) (rs:List (Nat×Nat)),Q7 [scr ns,.int (first:Int),.int (n:Int),.int (many:Int)]=.ok G.d/\RG G n s0 (Jv ps) (Js ps) rs/\Gb 54 G/\Jj G/\G.wires.length=n/\2<=G.steps.length/\G.code<2^n:=by
 have:=Yb (n:=24) (p:=4) (ds:=[scr ns,.int (first:Int),.int (n:Int),.int (many:Int)]) (g:=Vr) (R:=fun d=>∃ (G:G3) (s0:Nat) (ps:List Nat) (rs:List (Nat×Nat)),d=G.d/\RG G n s0 (Jv ps) (Js ps) rs/\Gb 54 G/\Jj G/\G.wires.length=n/\2<=G.steps.length/\G.code<2^n) rfl ?_
 ·obtain ⟨d,e,z,s0,ps,rs,rfl,h⟩:=this
  exact ⟨z,s0,ps,rs,e,h⟩
 show Go (Vr [.fz (scr ns),.fz (.int (first:Int)),.fz (.int (n:Int)),.fz (.int (many:Int)),.un,.un,.un,.un,.un,.un,.un,.un,.un,.un,.un,.un,.un,.un,.un,.un,.un,.un,.un,.un]) _ _;unfold Vr;obtain ⟨ps,eo,ho⟩:=Z1l ns first n (by lia) (by lia);have hpl:=ho.len;refine Z6 (Zf (Zd (xs:=[scr ns,.int (first:Int),.int (n:Int)]) rfl eo) ?_);refine Z6 (Zf (Z5 rfl rfl (Z2f 2 n (by lia))) ?_);obtain ⟨m,hm0⟩:∃ m:Nat,2*n=m:=⟨_,rfl⟩;rw [hm0] at hpl ⊢;obtain ⟨c,ec,lc⟩:=D7 ns (first+n) (by lia);refine Z6 (Zf (Zd (xs:=[scr ns,.int ((first+n:Nat):Int)]) (Z1 rfl (Z1 (Z5 rfl rfl (Qu _ _)) rfl)) ec) ?_);obtain ⟨qs,eq,hq⟩:=Cc ns (first+n+1) many m (by lia) (by lia) (by lia);refine Z6 (Zf (Zd (xs:=[scr ns,.int ((first+n+1:Nat):Int),.int (many:Int),.int (m:Int)]) (Z1 rfl (Z1 (Z5 (Z5 rfl rfl (Qu _ _)) rfl (Qu _ 1)) rfl)) eq) ?_);refine Z6 (Go.mono (N:=fun e=>∃ rs:List (Nat×Nat),e=[.fz (scr ns),.fz (.int (first:Int)),.fz (.int (n:Int)),.fz (.int (many:Int)),.fz (.lst (Ze ps)),.fz (.int (m:Int)),.fz (.int (c:Int)),.fz (.lst (rs.map Zx)),.un,.un,.un,.un,.un,.un,.un,.un,.un,.un,.un,.un,.un,.un,.un,.un]/\Prs m 12 rs) ?_ ?_ (fun _ h=>h))
 ·refine Mq (Wo (Z5 (Z5 rfl rfl (Ro c 3 (by lia))) rfl (eqN _ 0))) (fun _=>?_) (fun _=>W5 ⟨qs,rfl,hq.mono (by lia)⟩)
  obtain ⟨ks,hs,hc⟩:=Km (g:=Yu 0) (t:=dB (dO Z5o (Uj (Z4 (dV 0) (Z4 (dO Wu (dV 0) (dC (.int 1))) Zk))) (dV 1))) (f:=Uj (Z4 (dV 0) (Z4 (dO Wu (dV 0) (dC (.int 1))) Zk))) (env:=[.un,.fz (.lst (qs.map Zx))]) (fun k:Nat=>Dat.int (k:Int)) (fun k:Nat=>Zx (k,k+1)) (List.range (m - 1)) fun k _=>by
   obtain ⟨b,hb⟩:=Kh (k,k+1) qs;have et:Uj (Z4 (dV 0) (Z4 (dO Wu (dV 0) (dC (.int 1))) Zk)) [.fz (.int (k:Int)),.fz (.lst (qs.map Zx))]=some (Zx (k,k+1)):=Y2 (Z1 rfl (Z1 (Z5 rfl rfl (Qu k 1)) rfl)) (by simp);exact ⟨_,b,rfl,Wo (Z5 et rfl hb),et⟩
  rw [← Su] at hc;have hp:Prs m 7 (ks.map fun k=>(k,k+1)):=⟨by have:=hs.length_le;rw [length_range] at this;rw [length_map];lia,fun q hq=>by
   obtain ⟨k,hk,rfl⟩:=mem_map.mp hq;have:=mem_range.mp (hs.subset hk);exact ⟨by show k<k+1;lia,by show k+1<m;lia⟩⟩
  have hl1:=hq.len;have hl2:=hp.len;rw [length_map] at hl2;refine Zf (Z5 rfl (Vx (Yn (xs:=rng 0 (m - 1)) (Yt (Z1 (Z5 rfl rfl (Zag m 1 (by lia))) rfl) (by lia)) rfl hc)) (Iw (by rw [length_map,length_map];lia))) ⟨qs++ks.map fun k=>(k,k+1),by rw [map_append,map_map];rfl,(hq.app hp).mono (by lia)⟩
 rintro e ⟨rs,rfl,hr⟩;clear eq hq qs;refine Z6 (Vb (ds:=rng 0 n) (fun i e=>∃ (rs:List (Nat×Nat)) (v8 v9 v10:Slt),e=[.fz (scr ns),.fz (.int (first:Int)),.fz (.int (n:Int)),.fz (.int (many:Int)),.fz (.lst (Ze ps)),.fz (.int (m:Int)),.fz (.int (c:Int)),.fz (.lst (rs.map Zx)),v8,v9,v10,.un,.un,.un,.un,.un,.un,.un,.un,.un,.un,.un,.un,.un]/\Prs m (12+i) rs/\∀ w,w<i->(Jv ps w,Js ps w)∈rs) (Yt (Z1 rfl rfl) (by lia)) ⟨rs,.un,.un,.un,rfl,hr,fun w hw=>absurd hw (by lia)⟩ ?_ ?_)
 ·rintro i d e hi ⟨rs,v8,v9,v10,rfl,hr,hrg⟩
  obtain ⟨hi1,rfl⟩:=Tx hi;rw [Int.zero_add];refine ⟨_,rfl,?_⟩;have hmem:i∈ps:=ho.mem.mpr hi1;have hone:ps.idxOf i<ps.length:=List.idxOf_lt_length_of_mem hmem;have h2:=Bv (ho.two hi1);have htw0:Js ps i=ps.idxOf i+1+(ps.drop (ps.idxOf i+1)).idxOf i:=rfl;have hon0:Jv ps i=ps.idxOf i:=rfl;refine Z6 (Zf (Z9a rfl rfl rfl (Gn ps i hmem)) ?_);generalize ps.idxOf i=one at hone h2 htw0 hon0;have htwo:(ps.drop (one+1)).idxOf i<(ps.drop (one+1)).length:=List.idxOf_lt_length_of_mem h2;rw [length_drop] at htwo;refine Z6 (Zf (Z5 (Z5 rfl rfl (Qu one 1)) (Z9a (x:=.lst (Ze (ps.drop (one+1)))) (R5 rfl (Wd (Z5 rfl rfl (Qu one 1))) rfl (by rw [O3,Z2j ps _ (by lia)])) rfl rfl (Gn _ i h2)) (Qu _ _)) ?_);generalize (ps.drop (one+1)).idxOf i=x2 at htwo htw0;have hc:=Qh (g:=Yu 0) (t:=dB (dO neF (dV 0) (Uj (Z4 (dV 1) (Z4 (dV 2) Zk))))) (f:=dV 0) (env:=[.un,.fz (.int (one:Int)),.fz (.int ((one+1+x2:Nat):Int))]) Zx Zx (fun q=>!decide (q=(one,one+1+x2))) rs fun q _ =>
   ⟨_,rfl,Wo (Z5 rfl (Y2 rfl (by simp)) (Cv q (one,one+1+x2))),rfl⟩
  have hs:(rs.filter fun q=>!decide (q=(one,one+1+x2))).Sublist rs:=List.filter_sublist;have hl:=hs.length_le;have hl2:=hr.len;refine Zf (Z5 (Vx (Yn (xs:=rs.map Zx) rfl rfl hc)) (Vx (Sw (xs:=[Zx (one,one+1+x2)]) (Z1 (Y2 rfl (by simp)) rfl) (by simp))) (Iw (by rw [length_map];show _+1<=_;lia))) ⟨(rs.filter fun q=>!decide (q=(one,one+1+x2)))++[(one,one+1+x2)],_,_,_,by rw [map_append];rfl,?_,?_⟩
  ·exact ((hr.sub hs).app (Prs.one (by show one<one+1+x2;lia) (by show one+1+x2<m;lia))).mono (by lia)
  ·intro w hw
   by_cases e:(Jv ps w,Js ps w)=(one,one+1+x2)
   ·rw [e];exact mem_append_right _ (mem_singleton.mpr rfl)
   ·have hwi:w<i:=by
     rcases lt_or_ge w i with h | h
     ·exact h
     ·have:w=i:=by lia
      subst this;exact absurd (Prod.ext hon0 htw0) e
    exact mem_append_left _ (mem_filter.mpr ⟨hrg w hwi,by rw [decide_eq_false e];rfl⟩)
 rintro e ⟨rs,v8,v9,v10,rfl,hr,hrg⟩;rw [Tj] at hr hrg;refine Z6 (Bk (ds:=Ze ps) rfl ?_);refine Z6 (Bk (ds:=Ze ps) rfl ?_);rw [length_map,length_map,hpl,Z2c];refine Z6 (Zf (d:=.int ((0:Nat):Int)) rfl ?_);refine Z6 (Zf (Z5 (Z5 rfl rfl (Uw c 3 (by lia) (by lia))) rfl (Ro _ 20 (by lia))) ?_);have hs0:c / 3 % 20<20:=mod_lt _ (by lia);generalize c / 3 % 20=s0 at hs0;refine Z6 (Vb (ds:=rs.map Zx) (fun i e=>∃ (tk fl:List (List Nat)) (mk:Nat) (v15 v16:Slt),e=[.fz (scr ns),.fz (.int (first:Int)),.fz (.int (n:Int)),.fz (.int (many:Int)),.fz (.lst (Ze ps)),.fz (.int (m:Int)),.fz (.int (c:Int)),.fz (.lst (rs.map Zx)),v8,v9,v10,.gx (.nest (tk.map Ze)),.gx (.nest (fl.map Ze)),.fz (.int (mk:Int)),.fz (.int ((s0+2*i:Nat):Int)),v15,v16,.un,.un,.un,.un,.un,.un,.un]/\tk.length=m/\fl.length=m/\Nst (2*i) (s0+2*i) tk/\Nst (2*i) (s0+2*i) fl/\mk<2^(s0+2*i)/\(∀ l∈tk,l.Nodup)/\(∀ l∈fl,l.Nodup)/\NS s0 (rs.take i) (·.2) (·.1) tk/\NS s0 (rs.take i) (·.1) (·.2) fl/\∀ q,mk.testBit q=true↔∃ t,t<i/\q=s0+2*t+1) rfl ⟨_,_,0,.un,.un,rfl,length_replicate,length_replicate,(Nst.nil m).mono (by lia) (by lia),(Nst.nil m).mono (by lia) (by lia),two_pow_pos _,fun l h=>by rw [(mem_replicate.mp h).2];exact nodup_nil,fun l h=>by rw [(mem_replicate.mp h).2];exact nodup_nil,by rw [take_zero];exact NS.nil _ _ _ _,by rw [take_zero];exact NS.nil _ _ _ _,fun q=>by simp⟩ ?_ ?_)
 ·rintro i d e hi ⟨tk,fl,mk,v15,v16,rfl,htl,hfl,ht,hfk,hmk,ndt,ndf,nst,nsf,hmb⟩
  rw [getElem?_map] at hi;obtain ⟨q,hq,rfl⟩:=map_some hi;have hil:=(List.getElem?_eq_some_iff.mp hq).1;have hql:=hr.lt q (mem_of_getElem? hq);have hrl:=hr.len;refine ⟨_,rfl,?_⟩;have ht1:=ht.mono (le_refl _) (show s0+2*i<=s0+2*i+2 by lia);have hf1:=hfk.mono (le_refl _) (show s0+2*i<=s0+2*i+2 by lia);refine Z6 (Hx rfl hf1 (by lia) (k:=q.1) (by lia) rfl rfl ?_);refine Z6 (Hx rfl ht1 (by lia) (k:=q.2) (by lia) rfl rfl ?_);have ht2:=ht1.app q.2 (s0+2*i) (by lia);have hf2:=hf1.app q.1 (s0+2*i) (by lia);refine Z6 (Hx (x:=s0+2*i+1) rfl hf2 (by lia) (k:=q.2) (by rw [Je];lia) rfl rfl ?_);refine Z6 (Hx (x:=s0+2*i+1) rfl ht2 (by lia) (k:=q.1) (by rw [Je];lia) rfl rfl ?_);have ht3:=ht2.app q.1 (s0+2*i+1) (by lia);have hf3:=hf2.app q.2 (s0+2*i+1) (by lia);have htb:=(ht.mono (le_refl _) (show s0+2*i<=s0+2*i+1 by lia)).app q.2 (s0+2*i) (by lia);have hfb:=(hfk.mono (le_refl _) (show s0+2*i<=s0+2*i+1 by lia)).app q.1 (s0+2*i) (by lia);have hti:(rs.take i).length=i:=by rw [length_take];lia
  have htk1:rs.take (i+1)=rs.take i++[q]:=by rw [take_succ,hq];rfl
  refine Z6 (Zf (Z5 rfl (Z5 rfl (Z5 rfl rfl (Qu _ 1)) (Z26 (s0+2*i+1) (by lia))) (orN mk _)) ?_);refine Zf (Z5 rfl rfl (Qu _ 2)) ⟨_,_,_,_,_,rfl,by rw [Je,Je,htl],by rw [Je,Je,hfl],ht3.mono (by lia) (by lia),hf3.mono (by lia) (by lia),?_,?_,?_,?_,?_,?_⟩
  ·exact Z2i (lt_of_lt_of_le hmk (pow_le_pow_right (by lia) (by lia))) (Nat.pow_lt_pow_right (by lia) (by lia))
  ·exact Pl htb (Pl ht ndt _ _ (le_refl _)) _ _ (le_refl _)
  ·exact Pl hfb (Pl hfk ndf _ _ (le_refl _)) _ _ (le_refl _)
  ·have:=nst.app q (by show q.2<_;lia) (by show q.1<_;lia)
   rw [hti] at this;rw [htk1];exact this
  ·have:=nsf.app q (by show q.1<_;lia) (by show q.2<_;lia)
   rw [hti] at this;rw [htk1];exact this
  ·intro j
   rw [testBit_or,Bool.or_eq_true,hmb,testBit_two_pow,decide_eq_true_eq];constructor
   ·rintro (⟨t,h1,h2⟩ | h1)
    ·exact ⟨t,by lia,h2⟩
    ·exact ⟨i,by lia,h1.symm⟩
   ·rintro ⟨t,h1,h2⟩
    rcases lt_or_ge t i with h | h
    ·exact .inl ⟨t,h,h2⟩
    ·have:t=i:=by lia
     subst this;exact .inr h2.symm
 rintro e ⟨tk,fl,mk,v15,v16,rfl,htl,hfl,ht,hfk,hmk,ndt,ndf,nst,nsf,hmb⟩;rw [length_map] at ht hfk hmk nst nsf hmb ⊢;rw [take_of_length_le (le_refl _)] at nst nsf;have hrl:=hr.len;have ht:=ht.mono (L':=32) (B':=54) (by lia) (by lia);have hfk:=hfk.mono (L':=32) (B':=54) (by lia) (by lia);have hmk:mk<2^54:=lt_of_lt_of_le hmk (pow_le_pow_right (by lia) (by lia));refine Z6 (Zf (Z5 (Z5 rfl rfl (Uw c 60 (by lia) (by lia))) (Z5 rfl rfl (Z26 n (by lia))) (Ro _ (2^n) (two_pow_pos _))) ?_);have hcode:c / 60 % 2^n<2^n:=mod_lt _ (two_pow_pos _);generalize c / 60 % 2^n=code at hcode;refine Z6 (Zf rfl ?_);refine Z6 (Jo (ds:=([]:List St3).map St3.d) rfl ?_);generalize (s0+2*rs.length)=s9;refine Z6 (Vb (ds:=Ex 0 (Ze ps)) (fun i e=>∃ (ss:List St3) (seen:Nat) (v8 v20:Slt),e=[.fz (scr ns),.fz (.int (first:Int)),.fz (.int (n:Int)),.fz (.int (many:Int)),.fz (.lst (Ze ps)),.fz (.int (m:Int)),.fz (.int (c:Int)),.fz (.lst (rs.map Zx)),v8,v9,v10,.gx (.nest (tk.map Ze)),.gx (.nest (fl.map Ze)),.fz (.int (mk:Int)),.fz (.int (s9:Int)),v15,v16,.fz (.int (code:Int)),.fz (.int (seen:Int)),.ow (ss.map St3.d),v20,.un,.un,.un]/\ss.length=i/\(∀ v,seen.testBit v=(code.testBit v ^^ decide ((ps.take i).count v % 2=1)))/\(∀ j s,ss[j]?=some s->DS s0 rs ps code j s)/\∀ s∈ss,SB 54 n s) rfl ⟨[],code,v8,.un,rfl,rfl,fun v=>by simp,fun j s h=>(by simp at h),by simp⟩ ?_ ?_)
 ·rintro i d e hi ⟨ss,seen,v8,v20,rfl,hsl,hsn,hds,hsk⟩
  obtain ⟨x,hx,rfl⟩:=Jx hi;obtain ⟨w,hw,rfl⟩:=S8 hx;have hil:=(List.getElem?_eq_some_iff.mp hw).1;have hwn:w<n:=ho.mem.mp (mem_of_getElem? hw);refine ⟨_,rfl,?_⟩;have e1:tk[i]?=some tk[i]:=getElem?_eq_getElem (by lia);have e2:fl[i]?=some fl[i]:=getElem?_eq_getElem (by lia);have n1:=nst i;have n2:=nsf i;rw [show tk.getD i []=tk[i] by rw [List.getD,e1];rfl] at n1;rw [show fl.getD i []=fl[i] by rw [List.getD,e2];rfl] at n2;generalize htk:tk[i]=tl at e1 n1;generalize hfl':fl[i]=fl' at e2 n2;have t1:=ht.len _ (mem_of_getElem? e1);have t2:=ht.lt _ (mem_of_getElem? e1);have f1:=hfk.len _ (mem_of_getElem? e2);have f2:=hfk.lt _ (mem_of_getElem? e2);obtain ⟨ta,ea,pa⟩:=D9 tl (by lia);obtain ⟨fa,eb,pb⟩:=D9 fl' (by lia);refine Z6 (Qf (ds:=ss.map St3.d) (as:=[(⟨w,!(seen.testBit w),ta,fa⟩:St3).d]) (ds':=(ss++[(⟨w,!(seen.testBit w),ta,fa⟩:St3)]).map St3.d) rfl (Z1 (Y2 (Z1 rfl (Z1 (Z5 (Z5 (Z5 rfl rfl (Z7c seen w)) rfl (Z1b seen w)) rfl (An _)) (Z1 (Wg (Z1 (Vx (Wg (Z1 (Z0v rfl rfl e1) rfl) ea)) rfl) rfl) (Z1 (Wg (Z1 (Vx (Wg (Z1 (Z0v rfl rfl e2) rfl) eb)) rfl) rfl) rfl)))) (by simp)) rfl) ?_ ?_)
  ·rw [Ts (by rw [length_map];lia),map_append];rfl
  ·refine Zf (Z5 rfl (Z5 rfl rfl (Z26 w (by lia))) (Zaa seen _)) ⟨_,_,_,_,rfl,by rw [length_append,length_singleton,hsl],?_,?_,fun s hs=>?_⟩
   ·intro v
    rw [Wz,hsn,take_succ,hw];show (code.testBit v ^^ decide ((ps.take i).count v % 2=1) ^^ decide (w=v))=(code.testBit v ^^ decide ((ps.take i++[w]).count v % 2=1));rw [List.count_append,List.count_singleton];by_cases ew:w=v
    ·subst ew
     rw [show (w==w)=true from beq_self_eq_true _,decide_eq_true rfl,if_pos rfl];by_cases hp:(ps.take i).count w % 2=1
     ·rw [decide_eq_true hp,decide_eq_false (by lia)];cases code.testBit w<;>rfl
     ·rw [decide_eq_false hp,decide_eq_true (by lia)];cases code.testBit w<;>rfl
    ·rw [show (w==v)=false from beq_eq_false_iff_ne.mpr ew,decide_eq_false ew];simp
   ·intro j s hj
    rcases lt_or_ge j ss.length with hl | hl
    ·rw [getElem?_append_left hl] at hj
     exact hds j s hj
    ·rw [getElem?_append_right hl] at hj
     have e0:j - ss.length=0:=by
      rcases eq_zero_or_pos (j - ss.length) with z | z
      ·exact z
      ·rw [getElem?_cons,if_neg (by lia)] at hj;cases hj
     rw [e0] at hj;cases hj;have ej:j=i:=by lia
     subst ej;exact ⟨hw,n1.perm pa,n2.perm pb,by show (!(seen.testBit w))=_;rw [hsn]⟩
   rcases mem_append.mp hs with h | h
   ·exact hsk s h
   ·rw [mem_singleton.mp h]
    exact ⟨hwn,fun p hp=>t2 p (pa.mem_iff.mp hp),fun p hp=>f2 p (pb.mem_iff.mp hp),pa.nodup_iff.mpr (ndt _ (mem_of_getElem? e1)),pb.nodup_iff.mpr (ndf _ (mem_of_getElem? e2))⟩
 rintro e ⟨ss,seen,v8,v20,rfl,hsl,hsn,hds,hsk⟩;rw [Ul,length_map,length_map] at hsl;refine Z6 (Zf (Z5 (Z5 rfl rfl (Uw c 2000 (by lia) (by lia))) rfl (Ro _ m (by lia))) ?_);have htn:c / 2000 % m<m:=mod_lt _ (by lia);generalize c / 2000 % m=t at htn;refine Z6 (Jo (ds:=(ss.drop t++ss.take t).map St3.d) (by
  refine Z5 (R5 rfl (Wd rfl) rfl (O3 _ _ _)) (R5 rfl rfl (Wd rfl) (O3 _ _ _)) ?_;rw [Jb,Jb,Dq ss t (by lia),Dg ss t (by lia),B1 (by rw [length_map,length_map,length_drop,length_take];lia),map_append]) ?_)
 refine Z6 (Zf (Z5 rfl rfl (Uw c 40000 (by lia) (by lia))) ?_);obtain ⟨ws,ew,wl,_⟩:=Dl (g:=Yu 0) (f:=Uj (Z4 (Yo W4 (Z4 (dV 1) (Z4 (dV 0) Zk))) (Z4 (dO ixD (dL (Ef (Z4 (dC (.str "given")) (Z4 (dC (.str "made")) Zk)))) (dO Jl (dO Vj (Yo Zw (Z4 (dV 2) (Z4 (dO Wu (dV 3) (dV 0)) Zk))) (dC (.int 4096))) (dC (.int 2)))) Zk))) (env:=[.un,.fz (.int ((c / 40000:Nat):Int)),.fz (scr ns),.fz (.int (first:Int))]) Mv (fun _=>True) (rng 0 n) fun x hx=>by
  obtain ⟨i,hi,rfl⟩:=Nq hx;rw [Int.zero_add];obtain ⟨z,ez⟩:=Na (c / 40000) i;obtain ⟨r,er,_⟩:=D7 ns (first+i) (by lia);have p1:=Zbq (.str "given") (.str "made") (j:=((r / 4096 % 2:Nat):Int)) (by lia) (by lia);refine ⟨[.fz (.int (i:Int)),.fz (.int ((c / 40000:Nat):Int)),.fz (scr ns),.fz (.int (first:Int))],(z,decide (((r / 4096 % 2:Nat):Int)=1)),rfl,?_,trivial⟩;refine Eq.trans (Y2 (Z1 (Zd (xs:=[.int ((c / 40000:Nat):Int),.int (i:Int)]) rfl ez) (Z1 (Z5 (x:=.lst [.str "given",.str "made"]) rfl (Z5 (Z5 (Zd (xs:=[scr ns,.int ((first+i:Nat):Int)]) (Z1 rfl (Z1 (Z5 rfl rfl (Qu _ _)) rfl)) er) rfl (Uw r 4096 (by lia) (by lia))) rfl (Ro _ 2 (by lia))) p1) rfl)) (by simp)) ?_;show some (Dat.tup [.str z,if ((r / 4096 % 2:Nat):Int)=1 then .str "made" else .str "given"])=some (Dat.tup [.str z,.str (if decide (((r / 4096 % 2:Nat):Int)=1)=true then "made" else "given")]);by_cases hb:((r / 4096 % 2:Nat):Int)=1
  ·rw [if_pos hb,decide_eq_true hb];rfl
  ·rw [if_neg hb,decide_eq_false hb];rfl
 rw [Tj] at wl;refine Z6 (Zf (d:=.lst (ws.map Mv)) (Vx (Yn (xs:=rng 0 n) (Yt (Z1 rfl rfl) (by lia)) rfl ew)) ?_);have hperm:(ss.drop t++ss.take t).Perm ss:=by
  have:=List.perm_append_comm (l₁:=ss.drop t) (l₂:=ss.take t);rw [List.take_append_drop] at this;exact this
 have hlen:=hperm.length_eq;refine Y8 (Y2 (Z1 (Wg (Z1 rfl rfl) rfl) (Z1 (Wg (Z1 rfl rfl) rfl) rfl)) (by simp)) ⟨⟨ws,ss.drop t++ss.take t,mk,code⟩,s0,ps,rs,rfl,?_,?_,?_,wl,by show 2<=(ss.drop t++ss.take t).length;lia,hcode⟩
 ·exact {
   ne:=fun q hq=>by have:=(hr.lt q hq).1;lia
   ring:=hrg
   inj:=fun w v hw hv h=>ho.inj w v hw hv h
   mks:=hmb
   st:=fun s hs=>by
    obtain ⟨d,hd⟩:=List.getElem?_of_mem (hperm.mem_iff.mp hs);have q:=hds d s hd;have hwn:=(hsk s (hperm.mem_iff.mp hs)).w;have hdl:=(List.getElem?_eq_some_iff.mp hd).1;refine ⟨d,hwn,by lia,q.tk,q.fl,?_⟩;have hu:=q.up;rcases Zbb q.w (ho.two hwn) with ⟨h1,h2⟩ | ⟨h1,h2⟩
    ·exact .inl ⟨h2,by rw [hu,h1];show (!(code.testBit s.w ^^ decide (0 % 2=1)))=(!code.testBit s.w);simp⟩
    ·exact .inr ⟨h2,by rw [hu,h1];show (!(code.testBit s.w ^^ decide (1 % 2=1)))=code.testBit s.w;simp⟩ }
 ·exact { w2:=by show ws.length<=10;lia,s1:=by show 1<=(ss.drop t++ss.take t).length;lia,s2:=by show (ss.drop t++ss.take t).length<=24;lia,st:=fun s hs=>by show SB 54 ws.length s;rw [wl];exact hsk s (hperm.mem_iff.mp hs),mks:=hmk }
 ·have hnd:((List.range m).drop t++(List.range m).take t).Nodup:=by
   have hp:((List.range m).drop t++(List.range m).take t).Perm (List.range m):=by
    have:=List.perm_append_comm (l₁:=(List.range m).drop t) (l₂:=(List.range m).take t);rw [List.take_append_drop] at this;exact this
   exact hp.nodup_iff.mpr List.nodup_range
  refine A0 (n:=n) (s0:=s0) (one:=Jv ps) (two:=Js ps) (rs:=rs) _ hnd fun i s hi=>?_
  have key:∀ d:Nat,ss[d]?=some s->Deed (⟨ws,ss.drop t++ss.take t,mk,code⟩:G3) s0 (Jv ps) (Js ps) rs n d s:=fun d hd=>by
   have q:=hds d s hd;have hwn:=(hsk s (mem_of_getElem? hd)).w;have hdl:=(List.getElem?_eq_some_iff.mp hd).1;refine ⟨hwn,by lia,q.tk,q.fl,?_⟩;have hu:=q.up;rcases Zbb q.w (ho.two hwn) with ⟨h1,h2⟩ | ⟨h1,h2⟩
   ·exact .inl ⟨h2,by rw [hu,h1];show (!(code.testBit s.w ^^ decide (0 % 2=1)))=(!code.testBit s.w);simp⟩
   ·exact .inr ⟨h2,by rw [hu,h1];show (!(code.testBit s.w ^^ decide (1 % 2=1)))=code.testBit s.w;simp⟩
  have hi':(ss.drop t++ss.take t)[i]?=some s:=hi;rcases lt_or_ge i (m - t) with h | h
  ·rw [getElem?_append_left (by rw [length_drop];lia),getElem?_drop] at hi'
   refine ⟨t+i,?_,key _ hi'⟩;rw [getElem?_append_left (by rw [length_drop,length_range];lia),getElem?_drop,getElem?_range (by lia)]
  ·rw [getElem?_append_right (by rw [length_drop];lia),length_drop,getElem?_take] at hi'
   split at hi'
   ·rename_i hlt
    refine ⟨i - (ss.length - t),?_,key _ hi'⟩;have e9:i - (m - t)=i - (ss.length - t):=by lia
    rw [getElem?_append_right (by rw [length_drop,length_range];lia),length_drop,length_range,getElem?_take,e9,if_pos hlt,getElem?_range (by lia)]
   ·cases hi'
def Jr (p:Nat×Bool):Dat:=.tup [.int (p.1:Int),.bl p.2]
theorem CG.sb {many n sp:Nat} {L:Nat->Nat} {ss:List St3} (h:CG many n sp L ss) (hs:sp<=54) {s:St3} (hm:s∈ss):SB 54 n s:=by
 obtain ⟨x,y,b1,b2,b3,b4,b5,b6,b7,b8,b9⟩:=h.st s hm;exact ⟨b8,fun p hp=>by rw [b4] at hp;rw [mem_singleton.mp hp];lia,fun p hp=>by rw [b5] at hp;rw [mem_singleton.mp hp];lia,by rw [b4];exact nodup_cons.mpr ⟨by simp,nodup_nil⟩,by rw [b5];exact nodup_cons.mpr ⟨by simp,nodup_nil⟩⟩
theorem Bc (ns:List Int) (first:Nat) (hf:first<=900):∃ (G:G3) (L:Nat->Nat),Uy [scr ns,.int (first:Int)]=.ok G.d/\OneT G 0 L/\Gb 54 G/\Jj G/\1<=G.wires.length/\G.wires.length<=5/\2<=G.steps.length/\G.code=0:=by
 have:=Yb (n:=17) (p:=2) (ds:=[scr ns,.int (first:Int)]) (g:=V4) (R:=fun d=>∃ (G:G3) (L:Nat->Nat),d=G.d/\OneT G 0 L/\Gb 54 G/\Jj G/\1<=G.wires.length/\G.wires.length<=5/\2<=G.steps.length/\G.code=0) rfl ?_
 ·obtain ⟨d,e,z,L,rfl,h⟩:=this
  exact ⟨z,L,e,h⟩
 show Go (V4 [.fz (scr ns),.fz (.int (first:Int)),.un,.un,.un,.un,.un,.un,.un,.un,.un,.un,.un,.un,.un,.un,.un]) _ _;unfold V4;obtain ⟨c,ec,lc⟩:=D7 ns first (by lia);have ec':∀ env:Ev,env[0]?=some (.fz (scr ns))->env[1]?=some (.fz (.int (first:Int)))->Yo Zw (Z4 (dV 0) (Z4 (dV 1) Zk)) env=some (.int (c:Int)):=fun env h0 h1=>Zd (xs:=[scr ns,.int (first:Int)]) (Z1 (by unfold dV;rw [h0]) (Z1 (by unfold dV;rw [h1]) rfl)) ec
 obtain ⟨many,hma,hm1,hm2⟩:∃ n:Nat,2+c % 2=n/\2<=n/\n<=3:=⟨_,rfl,by lia,by lia⟩;obtain ⟨own,how,ho1,ho2⟩:∃ n:Nat,1+c / 2 % 2=n/\1<=n/\n<=2:=⟨_,rfl,by lia,by lia⟩;refine Z6 (Zf (d:=.int (many:Int)) (by rw [← hma];exact Z5 rfl (Z5 (ec' _ rfl rfl) rfl (Ro c 2 (by lia))) (Qu 2 _)) ?_);refine Z6 (Zf (d:=.int (own:Int)) (by rw [← how];exact Z5 rfl (Z5 (Z5 (ec' _ rfl rfl) rfl (Uw c 2 (by lia) (by lia))) rfl (Ro _ 2 (by lia))) (Qu 1 _)) ?_);refine Z6 (Zf (Z5 (ec' _ rfl rfl) rfl (Uw c 4 (by lia) (by lia))) ?_);generalize c / 4=wd;obtain ⟨ws,ew,wl,hwg⟩:=Dl (g:=Yu 0) (f:=Uj (Z4 (Yo W4 (Z4 (dV 1) (Z4 (dV 0) Zk))) (Z4 (dC (.str "given")) Zk))) (env:=[.un,.fz (.int (wd:Int))]) Mv (fun u=>u.2=false) (rng 0 many) fun x hx=>by
  obtain ⟨i,hi,rfl⟩:=Nq hx;rw [Int.zero_add];obtain ⟨z,ez⟩:=Na wd i;exact ⟨[.fz (.int (i:Int)),.fz (.int (wd:Int))],(z,false),rfl,Y2 (Z1 (Zd (xs:=[.int (wd:Int),.int (i:Int)]) rfl ez) rfl) (by simp),rfl⟩
 rw [Tj] at wl;refine Z6 (Zf (d:=.lst (ws.map Mv)) (Vx (Yn (xs:=rng 0 many) (Yt (Z1 rfl rfl) (by lia)) rfl ew)) ?_);obtain ⟨us,eu,ul,_⟩:=Dl (g:=Yu 0) (f:=Uj (Z4 (Yo W4 (Z4 (dV 1) (Z4 (dO Wu (dV 2) (dV 0)) Zk))) (Z4 (dC (.str "made")) Zk))) (env:=[.un,.fz (.int (wd:Int)),.fz (.int (many:Int))]) Mv (fun _=>True) (rng 0 own) fun x hx=>by
  obtain ⟨i,hi,rfl⟩:=Nq hx;rw [Int.zero_add];obtain ⟨z,ez⟩:=Na wd (many+i);exact ⟨[.fz (.int (i:Int)),.fz (.int (wd:Int)),.fz (.int (many:Int))],(z,true),rfl,Y2 (Z1 (Zd (xs:=[.int (wd:Int),.int ((many+i:Nat):Int)]) (Z1 rfl (Z1 (Z5 rfl rfl (Qu _ _)) rfl)) ez) rfl) (by simp),trivial⟩
 rw [Tj] at ul;refine Z6 (Zf (d:=.lst ((ws++us).map Mv)) (by
  rw [map_append];exact Z5 rfl (Vx (Yn (xs:=rng 0 own) (Yt (Z1 rfl rfl) (by lia)) rfl eu)) (Iw (by rw [length_map,length_map];lia))) ?_)
 have hwl:(ws++us).length=many+own:=by rw [length_append];lia
 have hkd:∀ w u,w<many->(ws++us)[w]?=some u->u.2=false:=fun w u hw hu=>by
  rw [getElem?_append_left (by lia)] at hu;exact hwg u (mem_of_getElem? hu)
 generalize ws++us=wires at hwl hkd;refine Z6 (Jo (ds:=([]:List St3).map St3.d) rfl ?_);refine Z6 (Zf (d:=.int ((1:Nat):Int)) rfl ?_);refine Z6 (Vb (ds:=rng 0 many) (fun i e=>∃ (ss:List St3) (sp:Nat) (L:Nat->Nat) (v8 v9 v10 v11 v12 v13 v14 v15 v16:Slt),e=[.fz (scr ns),.fz (.int (first:Int)),.fz (.int (many:Int)),.fz (.int (own:Int)),.fz (.int (wd:Int)),.fz (.lst (wires.map Mv)),.ow (ss.map St3.d),.fz (.int (sp:Int)),v8,v9,v10,v11,v12,v13,v14,v15,v16]/\ss.length=i*(2+2*own)/\1<=sp/\sp<=1+6*i/\CG many (many+own) sp L ss) (Yt (Z1 rfl rfl) (by lia)) ⟨[],1,fun _=>0,.un,.un,.un,.un,.un,.un,.un,.un,.un,rfl,by simp,by lia,by lia,⟨rfl,fun s hs=>(nomatch hs),fun i j si sj _ hi=>(by simp at hi)⟩⟩ ?_ ?_)
 ·rintro i d e hi ⟨ss,sp,L,v8,v9,v10,v11,v12,v13,v14,v15,v16,rfl,hsl,hsp1,hsp,hcg⟩
  obtain ⟨hi1,rfl⟩:=Tx hi;rw [Int.zero_add];refine ⟨_,rfl,?_⟩;obtain ⟨r,er,_⟩:=D7 ns (first+1+i) (by lia);refine Z6 (Zf (Zd (xs:=[scr ns,.int ((first+1+i:Nat):Int)]) (Z1 rfl (Z1 (Z5 (Z5 rfl rfl (Qu _ 1)) rfl (Qu _ _)) rfl)) er) ?_);have hch:V8 (Yu 0) Ub (dO Wu (dV 1) (dO Jl (dO Wu (dV 3) (dV 0)) (dV 2))) [.un,.fz (.int (many:Int)),.fz (.int (own:Int)),.fz (.int (r:Int))] (rng 0 own)=some (Ze (Ws many own r)):=by
   rw [Su,Va (fun j:Nat=>Dat.int (j:Int)) (fun j:Nat=>Dat.int ((many+(r+j) % own:Nat):Int)) (List.range own) fun j _=>⟨[.fz (.int (j:Int)),.fz (.int (many:Int)),.fz (.int (own:Int)),.fz (.int (r:Int))],rfl,rfl,Z5 rfl (Z5 (Z5 rfl rfl (Qu _ _)) rfl (Ro _ own (by lia))) (Qu _ _)⟩];unfold Ws;rw [Wi,map_map];rfl
  have hbk:V8 (Yu 0) Ub (dO Wu (dV 1) (dO Jl (dO Wu (dO Vj (dV 3) (dC (.int 2))) (dV 0)) (dV 2))) [.un,.fz (.int (many:Int)),.fz (.int (own:Int)),.fz (.int (r:Int))] (rng 0 own)=some (Ze (Ws many own (r / 2))):=by
   rw [Su,Va (fun j:Nat=>Dat.int (j:Int)) (fun j:Nat=>Dat.int ((many+(r / 2+j) % own:Nat):Int)) (List.range own) fun j _=>⟨[.fz (.int (j:Int)),.fz (.int (many:Int)),.fz (.int (own:Int)),.fz (.int (r:Int))],rfl,rfl,Z5 rfl (Z5 (Z5 (Z5 rfl rfl (Uw r 2 (by lia) (by lia))) rfl (Qu _ _)) rfl (Ro _ own (by lia))) (Qu _ _)⟩];unfold Ws;rw [Wi,map_map];rfl
  refine Z6 (Zf (Vx (Yn (xs:=rng 0 own) (Yt (Z1 rfl rfl) (by lia)) rfl hch)) ?_);refine Z6 (Zf (Vx (Yn (xs:=rng 0 own) (Yt (Z1 rfl rfl) (by lia)) rfl hbk)) ?_);have hc1:V8 (Yu 0) Ub (Uj (Z4 (dV 0) (Z4 (dC (.bl true)) Zk))) [.un] (Ze (Ws many own r))=some (((Ws many own r).map fun w=>(w,true)).map Jr):=by
   rw [Wi,Va (fun w:Nat=>Dat.int (w:Int)) (fun w:Nat=>Jr (w,true)) (Ws many own r) fun w _=>⟨[.fz (.int (w:Int))],rfl,rfl,Y2 rfl (by simp)⟩,map_map];rfl
  have hc2:V8 (Yu 0) Ub (Uj (Z4 (dV 0) (Z4 (dC (.bl false)) Zk))) [.un] (Ze (Ws many own (r / 2)))=some (((Ws many own (r / 2)).map fun w=>(w,false)).map Jr):=by
   rw [Wi,Va (fun w:Nat=>Dat.int (w:Int)) (fun w:Nat=>Jr (w,false)) (Ws many own (r / 2)) fun w _=>⟨[.fz (.int (w:Int))],rfl,rfl,Y2 rfl (by simp)⟩,map_map];rfl
  have hl1:∀ q,(Ws many own q).length=own:=fun q=>by unfold Ws;rw [length_map,length_range]
  refine Z6 (Jo (ds:=(O8 many own r).map Jr) (by
   unfold O8;rw [map_append];exact Z5 (Vx (Yn (xs:=Ze (Ws many own r)) rfl rfl hc1)) (Vx (Yn (xs:=Ze (Ws many own (r / 2))) rfl rfl hc2)) (B1 (by simp only [length_map,hl1];lia))) ?_)
  have hb0:(O8 many own r).length=2*own:=by unfold O8;rw [length_append,length_map,length_map,hl1,hl1];lia
  have hdd:=fun pos hp=>Z22 (k:=i) (r:=r) (pos:=pos) hm1 hm2 ho1 ho2 hi1 hp
  generalize O8 many own r=both at hb0 hdd;generalize Ws many own r=chain;generalize Ws many own (r / 2)=back;have hat:r / 4 % (both.length+1)<=both.length:=by have:=mod_lt (r / 4) (show 0<both.length+1 by lia);lia
  refine Z6 (Qf (ds:=both.map Jr) (as:=[.int ((r / 4 % (both.length+1):Nat):Int),Jr (i,false)]) (ds':=(both.take (r / 4 % (both.length+1))++(i,false)::both.drop (r / 4 % (both.length+1))).map Jr) rfl (Z1 (Z5 (Z5 rfl rfl (Uw r 4 (by lia) (by lia))) (Z5 (y:=.int 1) (z:=.int ((both.length+1:Nat):Int)) (Wg (xs:=[.lst (both.map Jr)]) (z:=.int ((both.length:Nat):Int)) rfl (by show some (Dat.int ((both.map Jr).length:Int))=_;rw [length_map])) rfl (Qu _ 1)) (Ro _ (both.length+1) (by lia))) (Z1 (Y2 rfl (by simp)) rfl)) (by rw [Fi _ _ _ (by rw [length_map];exact hat) (by rw [length_map];lia),map_append,map_take,map_cons,map_drop]) ?_);have hok:=hdd (r / 4 % (both.length+1)) (by lia);have hbl:=Qy both (r / 4 % (both.length+1)) (i,false);unfold Aq at hok;generalize both.take (r / 4 % (both.length+1))++(i,false)::both.drop (r / 4 % (both.length+1))=bs at hok hbl;refine Z6 (Zf (d:=.int ((0:Nat):Int)) rfl ?_);have hDl:((i,true)::bs).length=2+2*own:=by rw [length_cons];lia
  refine Vb (ds:=Ex 0 (((i,true)::bs).map Jr)) (fun j e=>∃ (new:List St3) (last:Nat) (L:Nat->Nat) (v14 v15 v16:Slt),e=[.fz (scr ns),.fz (.int (first:Int)),.fz (.int (many:Int)),.fz (.int (own:Int)),.fz (.int (wd:Int)),.fz (.lst (wires.map Mv)),.ow ((ss++new).map St3.d),.fz (.int ((sp+j:Nat):Int)),.fz (.int (i:Int)),.fz (.int (r:Int)),.fz (.lst (Ze chain)),.fz (.lst (Ze back)),.ow (bs.map Jr),.fz (.int (last:Int)),v14,v15,v16]/\new.length=j/\last<sp+j/\CG many (many+own) (sp+j) L (ss++new)/\L last=Gc (((i,true)::bs).take j)/\(j=0->last=0)/\(0<j->j<2+2*own->last≠0/\∀ s∈ss++new,s.takes≠[last])) (Io (Z5 (x:=.lst [Jr (i,true)]) (y:=.lst (bs.map Jr)) (Vx (Sw (Z1 (Y2 rfl (by simp)) rfl) (by simp))) rfl (Iw (by rw [length_map];show 1+_<=_;lia)))) ⟨[],0,L,_,_,_,by rw [append_nil];rfl,rfl,by lia,by rw [append_nil];exact hcg,hcg.l0,fun _=>rfl,fun h=>absurd h (by lia)⟩ ?_ ?_
  ·rintro j d e hj ⟨new,last,L,v14,v15,v16,rfl,hnl,hla,hcg,hLl,hj0,hj1⟩
   obtain ⟨x,hx,rfl⟩:=Jx hj;rw [getElem?_map] at hx;obtain ⟨q,hq,rfl⟩:=map_some hx;obtain ⟨hq1,hqw⟩:=A3 hok hq;have hjl:=(List.getElem?_eq_some_iff.mp hq).1;rw [hDl] at hjl;rw [← hLl] at hq1;have htk:((i,true)::bs).take (j+1)=((i,true)::bs).take j++[q]:=by rw [take_succ,hq];rfl
   have hxs:Gc (((i,true)::bs).take (j+1))=L last ^^^ 2^q.1:=by rw [htk,Z02,hLl]
   have hfr:∀ s∈ss++new,s.takes=[last]->last=0:=fun s hs e=>by
    rcases eq_zero_or_pos j with z | z
    ·exact hj0 z
    ·exact absurd e ((hj1 z hjl).2 s hs)
   have hgv:last=0->q.1<many:=fun e=>by
    rcases eq_zero_or_pos j with z | z
    ·subst z
     have:q=(i,true):=by simpa using hq.symm
     rw [this];exact hi1
    ·exact absurd e (hj1 z hjl).1
   refine ⟨_,rfl,?_⟩;refine Z6 (Zf rfl ?_);refine Z6 (Go.mono (N:=fun e=>∃ (fill:Nat) (L':Nat->Nat),fill<sp+j+1/\last≠fill/\L' 0=0/\(∀ p,p<sp+j->L' p=L p)/\L' fill=L last ^^^ 2^q.1/\(j+1<2+2*own->fill=sp+j)/\e=[.fz (scr ns),.fz (.int (first:Int)),.fz (.int (many:Int)),.fz (.int (own:Int)),.fz (.int (wd:Int)),.fz (.lst (wires.map Mv)),.ow ((ss++new).map St3.d),.fz (.int ((sp+j:Nat):Int)),.fz (.int (i:Int)),.fz (.int (r:Int)),.fz (.lst (Ze chain)),.fz (.lst (Ze back)),.ow (bs.map Jr),.fz (.int (last:Int)),.fz (.int (j:Int)),.fz (Jr q),.fz (.int (fill:Int))]) ?_ ?_ (fun _ h=>h))
   ·refine Mq (Wo (Z5 rfl (Wg (xs:=[.lst (bs.map Jr)]) (z:=.int ((bs.length:Nat):Int)) rfl (by show some (Dat.int ((bs.map Jr).length:Int))=_;rw [length_map])) (eqN _ _))) (fun hb=>?_) (fun hb=>W5 ?_)
    ·have hjb:j=bs.length:=by simpa using hb
     have hend:Gc (((i,true)::bs).take (j+1))=0:=by rw [take_of_length_le (by rw [hDl];lia)];exact Nt hok
     exact Zf (d:=.int ((0:Nat):Int)) rfl ⟨0,L,by lia,(hj1 (by lia) hjl).1,hcg.l0,fun p _=>rfl,by rw [hcg.l0,← hxs,hend],fun h=>absurd h (by lia),rfl⟩
    ·refine ⟨sp+j,fun p=>if p=sp+j then L last ^^^ 2^q.1 else L p,by lia,by lia,?_,fun p hp=>if_neg (by lia),if_pos rfl,fun _=>rfl,rfl⟩
     show (if 0=sp+j then _ else L 0)=0;rw [if_neg (by lia)];exact hcg.l0
   rintro e ⟨fill,L',hfl,hlf,hL0,hLp,hLf,hff,rfl⟩;refine Z6 (Qf (ds:=(ss++new).map St3.d) (as:=[(⟨q.1,q.2,[last],[fill]⟩:St3).d]) (ds':=(ss++(new++[(⟨q.1,q.2,[last],[fill]⟩:St3)])).map St3.d) rfl (Z1 (Y2 (Z1 rfl (Z1 rfl (Z1 (Y2 rfl (by simp)) (Z1 (Y2 rfl (by simp)) rfl)))) (by simp)) rfl) (by
    have hi2:i*(2+2*own)<=18:=le_trans (Nat.mul_le_mul (show i<=3 by lia) (show 2+2*own<=6 by lia)) (by lia);rw [Ts (by rw [length_map,length_append];lia),← append_assoc,map_append (l₁:=ss++new)];rfl) ?_)
   refine Z6 (Zf rfl ?_);have hcg':=hcg.add (up:=q.2) hla hfl hlf hfr hqw hgv hL0 hLp hLf hq1;rw [append_assoc] at hcg';refine Zf (Z5 rfl rfl (Qu _ 1)) ⟨new++[(⟨q.1,q.2,[last],[fill]⟩:St3)],fill,L',_,_,_,rfl,by rw [length_append,length_singleton,hnl],hfl,hcg',by rw [hLf,hxs],fun h=>absurd h (by lia),fun _ hlt=>?_⟩;have ef:=hff hlt;refine ⟨by lia,fun s hs e=>?_⟩;rw [← append_assoc] at hs;rcases mem_append.mp hs with h | h
   ·obtain ⟨x,y,b1,_,_,b4,_⟩:=hcg.st s h
    rw [b4] at e;have:x=fill:=by simpa using e
    lia
   ·rw [mem_singleton.mp h] at e
    have:last=fill:=by simpa using e
    exact hlf this
  ·rintro e ⟨new,last,L,v14,v15,v16,rfl,hnl,hla,hcg,hLl,hj0,hj1⟩
   rw [Ul,length_map] at hnl hcg ⊢;rw [hDl] at hnl hcg ⊢;refine ⟨ss++new,sp+(2+2*own),L,_,_,_,_,_,_,_,_,_,rfl,?_,by lia,by lia,hcg⟩;rw [length_append,hsl,hnl];exact (Nat.succ_mul i (2+2*own)).symm
 ·rintro e ⟨ss,sp,L,v8,v9,v10,v11,v12,v13,v14,v15,v16,rfl,hsl,hsp1,hsp,hcg⟩
  rw [Tj] at hsl hsp;have b1:many*(2+2*own)<=18:=le_trans (Nat.mul_le_mul hm2 (show 2+2*own<=6 by lia)) (by lia);have b2:8<=many*(2+2*own):=le_trans (by lia) (Nat.mul_le_mul hm1 (show 4<=2+2*own by lia));have hcG:CG many (many+own) sp L (⟨wires,ss,1,0⟩:G3).steps:=hcg;refine Y8 (Y2 (Z1 (Wg (Z1 rfl rfl) rfl) (Z1 (Wg (Z1 rfl rfl) rfl) rfl)) (by simp)) ⟨⟨wires,ss,1,0⟩,L,rfl,hcG.one (by lia) rfl rfl,?_,hcG.noriv fun s hs=>?_,by show 1<=wires.length;lia,by show wires.length<=5;lia,by show 2<=ss.length;lia,rfl⟩
  ·exact { w2:=by show wires.length<=10;lia,s1:=by show 1<=ss.length;lia,s2:=by show ss.length<=24;lia,st:=fun s hs=>by show SB 54 wires.length s;rw [hwl];exact CG.sb hcg (by lia) hs,mks:=by show 1<2^54;decide }
  ·unfold Q1
   show (match wires[s.w]? with | some u=>u.2 | none=>false)=false;cases e:wires[s.w]? with
   | none=>rfl
   | some u=>exact hkd s.w u hs e
theorem To (ps:List Nat) (hp:∀ p∈ps,p<=1000):W3 [.tup (Ze ps)]=.ok (.int (bitsN ps:Int)):=by
 refine Vh (Yb (n:=3) (p:=1) (ds:=[.tup (Ze ps)]) (g:=U8) (R:=fun d=>d=.int (bitsN ps:Int)) rfl ?_);show Go (U8 [.fz (.tup (Ze ps)),.un,.un]) _ _;unfold U8;refine Z6 (Zf (d:=.int 0) rfl ?_);refine Z6 (Vb (ds:=Ze ps) (fun i e=>∃ (z:Int) (v:Slt),e=[.fz (.tup (Ze ps)),.fz (.int z),v]/\z=(((ps.take i).foldl (fun a p=>a ||| 2^p) 0:Nat):Int)) rfl ⟨0,.un,rfl,rfl⟩ ?_ ?_)
 ·rintro i x e hi ⟨z,v,rfl,rfl⟩
  obtain ⟨p,hq,rfl⟩:=S8 hi;have hpp:=hp p (mem_of_getElem? hq);refine ⟨_,rfl,?_⟩;refine Zf (d:=.int ((((ps.take (i+1)).foldl (fun a p=>a ||| 2^p) 0:Nat)):Int)) (Z5 rfl (Z5 rfl rfl (Z26 p hpp)) ?_) ⟨_,_,rfl,rfl⟩;rw [orN,take_succ,hq,List.foldl_append];rfl
 ·rintro e ⟨z,v,rfl,rfl⟩
  refine Y8 rfl ?_;rw [length_map,length_map,take_of_length_le (le_refl _)];rfl
theorem Kc (a b:List Nat):Ze a++Ze b=Ze (a++b):=by unfold Ze;rw [map_append,map_append]
theorem K5 {α:Type} (f:α->Dat) (xs:List α):Rq [.lst (xs.map f)]=some (.int ((xs.length:Nat):Int)):=by
 show some (Dat.int ((xs.map f).length:Int))=_;rw [length_map]
theorem Mb {α:Type} (f:α->Dat) (xs:List α):Rq [.tup (xs.map f)]=some (.int ((xs.length:Nat):Int)):=by
 show some (Dat.int ((xs.map f).length:Int))=_;rw [length_map]
theorem geN (a b:Nat):geD (.int (a:Int)) (.int (b:Int))=some (.bl (decide (b<=a))):=by
 show some (Dat.bl (decide ((b:Int)<=(a:Int))))=_;by_cases h:b<=a
 ·rw [decide_eq_true h,decide_eq_true (by lia)]
 ·rw [decide_eq_false h,decide_eq_false (by lia)]
theorem Zcr (b:Bool):Z3q [.bl b]=some (.int ((if b then 1 else 0:Nat):Int)):=by cases b<;>rfl
theorem Zc8 (a p:Nat) (ha:a<18446744073709551616) (hp:p<=1000):N9 (.int (a:Int)) (.int (p:Int))=some (.int ((a*2^p:Nat):Int)):=by
 have:N9 (.int (a:Int)) (.int (p:Int))=some (.int ((a:Int)*2^((p:Int)).toNat)):=if_pos ⟨by lia,by lia,by rw [Int.natAbs_natCast];exact ha⟩;rw [this,Int.toNat_natCast];congr 2
theorem Zc5 {c n:Nat} (h:c<2^n) (hn:n<=10):c<1024:=lt_of_lt_of_le h (pow_le_pow_right (by lia) hn)
theorem Z9n {c at0 n:Nat} (u:Bool) (h:c<2^n) (ha:at0<=n):Xo c at0 u<2^(n+1):=Nat.lt_pow_two_of_testBit _ fun j hj=>by
 rw [K8,if_neg (by lia),if_neg (by lia)];exact Nat.testBit_lt_two_pow (lt_of_lt_of_le h (pow_le_pow_right (by lia) (by lia)))
structure GA (G:G3):Prop where
 calm:∃ I,Calm G I
 gb:Gb 54 G
 nr:Jj G
 w1:1<=G.wires.length
 cd:G.code<2^G.wires.length
theorem Z86 {G:G3} (h:GA G) (at0:Nat) (x:Str×Bool) (u:Bool) (ha:at0<=G.wires.length) (hw:G.wires.length<10):GA (Z3a G at0 x u):=by
 obtain ⟨I,hI⟩:=h.calm;have hl:(Z3a G at0 x u).wires.length=G.wires.length+1:=by show (G.wires.take at0++x::G.wires.drop at0).length=_;exact Qy G.wires at0 x
 refine ⟨⟨_,Z15 hI at0 x u⟩,⟨by lia,by show 1<=(G.steps.map _).length;rw [length_map];exact h.gb.s1,by show (G.steps.map _).length<=24;rw [length_map];exact h.gb.s2,fun s hs=>?_,h.gb.mks⟩,Ck h.nr at0 x u ha,by lia,by rw [hl];exact Z9n u h.cd ha⟩;obtain ⟨r,hr,rfl⟩:=mem_map.mp hs;have hb:=h.gb.st r hr;refine ⟨?_,hb.t,hb.f,hb.tn,hb.fn⟩;rw [hl];show upW at0 r.w<_;have:=hb.w;unfold upW;split<;>lia
theorem Z2v (G:G3) (h:GA G) (at0:Nat) (ha:at0<=G.wires.length) (hw:G.wires.length<10) (b u:Bool) (z:Str):Qc [G.d,.int (at0:Int),.str (if b then "made" else "given"),.bl u,.str z]=.ok (Z3a G at0 (z,b) u).d:=by
 refine Vh (Yb (n:=11) (p:=5) (ds:=[G.d,.int (at0:Int),.str (if b then "made" else "given"),.bl u,.str z]) (g:=Vo) (R:=fun d=>d=(Z3a G at0 (z,b) u).d) rfl ?_);show Go (Vo [.fz G.d,.fz (.int (at0:Int)),.fz (.str (if b then "made" else "given")),.fz (.bl u),.fz (.str z),.un,.un,.un,.un,.un,.un]) _ _;unfold Vo;have hc10:=Zc5 h.cd (by lia);have hs2:=h.gb.s2;refine Z6 (L5 (d:=G.d) (env':=[.fz G.d,.fz (.int (at0:Int)),.fz (.str (if b then "made" else "given")),.fz (.bl u),.fz (.str z),.fz (.tup (G.wires.map Mv)),.fz (.tup (G.steps.map St3.d)),.fz (.int (G.marks:Int)),.fz (.int (G.code:Int)),.un,.un]) rfl rfl ?_);refine Z6 (Zf (d:=.int ((G.code % 2^at0:Nat):Int)) (Z5 rfl (Z5 (Z5 rfl rfl (Z26 at0 (by lia))) rfl (Zag (2^at0) 1 (two_pow_pos _))) ((Z78 _ _).trans (by rw [Nat.and_two_pow_sub_one_eq_mod]))) ?_);have hdiv:G.code / 2^at0<=G.code:=Nat.div_le_self _ _;refine Z6 (Zf (d:=.int ((Xo G.code at0 u:Nat):Int)) (Z5 (Z5 rfl (Z5 (Wg (Z1 rfl rfl) (Zcr u)) rfl (Zc8 _ at0 (by split<;>lia) (by lia))) (orN _ _)) (Z5 (Z5 rfl rfl (Z7c G.code at0)) (Z5 rfl rfl (Qu at0 1)) (Zc8 _ (at0+1) (by lia) (by lia))) (orN _ _)) ?_);have hc:V8 (Kf 4 (Y9 (Yu 0) (Y9 (Yu 1) (Y9 (Yu 2) (Y9 (Yu 3) Ju))))) Ub (Uj (Z4 (dO Wu (dV 0) (dF Z3q (Z4 (dO geD (dV 0) (dV 4)) Zk))) (Z4 (dV 1) (Z4 (dV 2) (Z4 (dV 3) Zk))))) [.un,.un,.un,.un,.fz (.int (at0:Int))] (G.steps.map St3.d)=some (G.steps.map fun s=>(Z24 at0 s).d) :=
  Va St3.d (fun s=>(Z24 at0 s).d) G.steps fun s _=>⟨[.fz (.int (s.w:Int)),.fz (.bl s.up),.fz (.tup (Ze s.takes)),.fz (.tup (Ze s.fills)),.fz (.int (at0:Int))],rfl,rfl,Y2 (Z1 (Z5 rfl (Wg (Z1 (Z5 rfl rfl (geN s.w at0)) rfl) (Zcr _)) ((Qu _ _).trans (by
   congr 3
   unfold Z24 upW;by_cases hh:at0<=s.w
   ·rw [decide_eq_true hh,if_pos rfl,if_pos hh]
   ·rw [decide_eq_false hh,if_neg (by decide),if_neg hh];rfl))) rfl) (by simp)⟩
 refine Z6 (Zf (d:=.lst (G.steps.map fun s=>(Z24 at0 s).d)) (Vx (Yn (xs:=G.steps.map St3.d) (G0 rfl) rfl hc)) ?_);refine Y8 (d:=(Z3a G at0 (z,b) u).d) (Y2 (xs:=[.tup ((G.wires.take at0++(z,b)::G.wires.drop at0).map Mv),.tup ((G.steps.map (Z24 at0)).map St3.d),.int (G.marks:Int),.int ((Xo G.code at0 u:Nat):Int)]) (Z1 (Z5 (Z5 (R5 rfl rfl (Wd rfl) (Dy _ _ _)) (Y2 (xs:=[Mv (z,b)]) (Z1 (Y2 rfl (by simp)) rfl) (by simp)) (Sk (by rw [Jb,length_map,Dg G.wires at0 ha,length_take];show _+1<=_;lia))) (R5 rfl (Wd rfl) rfl (Dy _ _ _)) (by
  rw [Jb,Jb,Dg G.wires at0 ha,Dq G.wires at0 ha,Sk (by rw [length_append,length_map,length_map,length_take,length_drop];show _+1+_<=_;lia),map_append,append_assoc];rfl)) (Z1 (Wg (Z1 rfl rfl) (by rw [map_map];rfl)) rfl)) (by simp)) rfl
theorem Z35 {B:Nat} {l l':List Nat} {z:Nat} (hb:∀ p∈l,p<B) (hB:B<=64) (hz:z<64) (hn:l.Nodup) (hzl:z∉l) (e:l'.Perm (l++[z])):(∀ p∈l',p<64)/\l'.Nodup/\∀ q,q∈l'↔q∈l\/(true=true/\q=z):=by
 refine ⟨fun p hp=>?_,?_,fun q=>?_⟩
 ·rcases mem_append.mp (e.mem_iff.mp hp) with h | h
  ·have:=hb p h;lia
  ·rw [mem_singleton.mp h];exact hz
 ·refine e.nodup_iff.mpr (nodup_append.mpr ⟨hn,nodup_cons.mpr ⟨by simp,nodup_nil⟩,fun a ha b hb'=>?_⟩)
  rw [mem_singleton.mp hb'];rintro rfl;exact hzl ha
 ·rw [e.mem_iff];simp
structure LkS (G:G3) (z i:Nat) (s':St3):Prop where
 a:∃ s:St3,G.steps[i]?=some s/\∃ b:Bool,s'.w=s.w/\s'.up=s.up/\z∉s.takes/\z∉s.fills/\(∀ q,q∈s'.takes↔q∈s.takes\/(b=true/\q=z))/\(∀ q,q∈s'.fills↔q∈s.fills\/(b=true/\q=z))
 b:SB 64 G.wires.length s'
theorem F7 (G:G3) (hG:Gb 54 G) (c:Nat):∃ (G':G3) (z:Nat),Um [G.d,.int (c:Int)]=.ok G'.d/\LookI G G' z/\Gb 64 G':=by
 have:=Yb (n:=11) (p:=2) (ds:=[G.d,.int (c:Int)]) (g:=Wj) (R:=fun d=>∃ (G':G3) (z:Nat),d=G'.d/\LookI G G' z/\Gb 64 G') rfl ?_
 ·obtain ⟨d,e,z,b,rfl,h⟩:=this
  exact ⟨z,b,e,h⟩
 show Go (Wj [.fz G.d,.fz (.int (c:Int)),.un,.un,.un,.un,.un,.un,.un,.un,.un]) _ _;unfold Wj;refine Z6 (Zf (d:=.int (G.marks:Int)) (Z5 rfl rfl rfl) ?_);refine Z6 (Vb (ds:=G.steps.map St3.d) (fun i e=>∃ (th:Nat) (v3:Slt),e=[.fz G.d,.fz (.int (c:Int)),.fz (.int (th:Int)),v3,.un,.un,.un,.un,.un,.un,.un]/\th<2^54/\(∀ j,G.marks.testBit j=true->th.testBit j=true)/\∀ s∈G.steps.take i,∀ j,j∈s.takes\/j∈s.fills->th.testBit j=true) (G0 (Z5 rfl rfl rfl)) ⟨G.marks,.un,rfl,hG.mks,fun j h=>h,fun s hs=>by simp at hs⟩ ?_ ?_)
 ·rintro i d e hi ⟨th,v3,rfl,h1,h2,h3⟩
  rw [getElem?_map] at hi;obtain ⟨s,hs,rfl⟩:=map_some hi;have hsb:=hG.st s (mem_of_getElem? hs);refine ⟨_,rfl,?_⟩;refine Zf (Z5 (Z5 rfl (Zd (xs:=[.tup (Ze s.takes)]) (Z1 (Z5 rfl rfl rfl) rfl) (To s.takes fun p hp=>by have:=hsb.t p hp;lia)) (orN th _)) (Zd (xs:=[.tup (Ze s.fills)]) (Z1 (Z5 rfl rfl rfl) rfl) (To s.fills fun p hp=>by have:=hsb.f p hp;lia)) (orN _ _)) ⟨_,_,rfl,Z2i (Z2i h1 (Pm hsb.t)) (Pm hsb.f),fun j h=>by rw [testBit_or,testBit_or,h2 j h];rfl,fun r hr j hj=>?_⟩;rw [take_succ,hs] at hr;rw [testBit_or,testBit_or,W7,W7];rcases mem_append.mp hr with h | h
  ·rw [h3 r h j hj];rfl
  ·have:r=s:=mem_singleton.mp h
   subst this;rcases hj with hj | hj
   ·rw [decide_eq_true hj];simp
   ·rw [decide_eq_true hj];simp
 rintro e ⟨th,v3,rfl,h1,h2,h3⟩;rw [length_map,take_of_length_le (le_refl _)] at h3;have hc:=Qh (g:=Yu 0) (t:=dB (dO eqF (dO Nf (dO Z13 (dV 1) (dV 0)) (dC (.int 1))) (dC (.int 0)))) (f:=dV 0) (env:=[.un,.fz (.int (th:Int))]) (fun k:Nat=>Dat.int (k:Int)) (fun k:Nat=>Dat.int (k:Int)) (fun p=>!th.testBit p) (List.range 64) fun p _=>⟨[.fz (.int (p:Int)),.fz (.int (th:Int))],rfl,Wo (Z5 (Z5 (Z5 rfl rfl (Z7c th p)) rfl (Z1b th p)) rfl (An _)),rfl⟩
 rw [← Su] at hc;have hfl:3<=((List.range 64).filter fun p=>!th.testBit p).length:=by
  refine Du [54,55,56] _ (by decide) fun p hp=>mem_filter.mpr ⟨mem_range.mpr ?_,?_⟩
  ·have:p=54\/p=55\/p=56:=by simpa using hp
   lia
  ·have:p=54\/p=55\/p=56:=by simpa using hp
   rw [Nat.testBit_lt_two_pow (lt_of_lt_of_le h1 (pow_le_pow_right (by lia) (by lia)))];rfl
 have hc3:c % 3<((List.range 64).filter fun p=>!th.testBit p).length:=by lia
 have hz:=getElem_mem hc3;have ez:((List.range 64).filter fun p=>!th.testBit p)[c % 3]?=some _:=getElem?_eq_getElem hc3;generalize ((List.range 64).filter fun p=>!th.testBit p)[c % 3]=z at hz ez;obtain ⟨hz1,hz2⟩:=mem_filter.mp hz;have hz64:z<64:=mem_range.mp hz1;have hzt:th.testBit z=false:=by simpa using hz2
 have hz3:∀ s∈G.steps,z∉s.takes/\z∉s.fills:=fun s hs=>⟨fun h=>absurd (h3 s hs z (.inl h)) (by rw [hzt];decide),fun h=>absurd (h3 s hs z (.inr h)) (by rw [hzt];decide)⟩
 have hzm:G.marks.testBit z=false:=by
  cases h:G.marks.testBit z with
  | false=>rfl
  | true=>rw [h2 z h] at hzt;cases hzt
 refine Z6 (Zf (d:=.int (z:Int)) (Z5 (Vx (Yn (xs:=rng 0 64) (Yt (Z1 rfl rfl) (by lia)) rfl hc)) (Z5 rfl rfl (Ro c 3 (by lia))) (Wt (by rw [getElem?_map,ez];rfl))) ?_);refine Z6 (Jo (ds:=([]:List St3).map St3.d) rfl ?_);refine Z6 (Vb (ds:=Ex 0 (G.steps.map St3.d)) (fun i e=>∃ (ss:List St3) (v3 v6 v7 v8 v9 v10:Slt),e=[.fz G.d,.fz (.int (c:Int)),.fz (.int (th:Int)),v3,.fz (.int (z:Int)),.ow (ss.map St3.d),v6,v7,v8,v9,v10]/\ss.length=i/\∀ (j:Nat) (s:St3),ss[j]?=some s->LkS G z j s) (by unfold O9;rw [G0 (xs:=G.steps.map St3.d) (Z5 rfl rfl rfl)];rfl) ⟨[],v3,.un,.un,.un,.un,.un,rfl,rfl,fun j s h=>(by simp at h)⟩ ?_ ?_)
 ·rintro i d e hi ⟨ss,v3,v6,v7,v8,v9,v10,rfl,hsl,hlk⟩
  obtain ⟨x,hx,rfl⟩:=Jx hi;rw [getElem?_map] at hx;obtain ⟨s,hs,rfl⟩:=map_some hx;have hmem:=mem_of_getElem? hs;have hsb:=hG.st s hmem;have hil:=(List.getElem?_eq_some_iff.mp hs).1;have hs24:=hG.s2;obtain ⟨n1,n2⟩:=hz3 s hmem;have hlt:s.takes.length<=54:=Z36 hsb.tn hsb.t;have hlf:s.fills.length<=54:=Z36 hsb.fn hsb.f;refine ⟨[.fz G.d,.fz (.int (c:Int)),.fz (.int (th:Int)),.fz s.d,.fz (.int (z:Int)),.ow (ss.map St3.d),.fz (.int (i:Int)),v7,v8,v9,v10],rfl,?_⟩;refine Z6 (L5 (d:=s.d) (env':=[.fz G.d,.fz (.int (c:Int)),.fz (.int (th:Int)),.fz s.d,.fz (.int (z:Int)),.ow (ss.map St3.d),.fz (.int (i:Int)),.fz (.int (s.w:Int)),.fz (.bl s.up),.fz (.tup (Ze s.takes)),.fz (.tup (Ze s.fills))]) rfl rfl ?_);have fin:∀ (t f:List Nat),LkS G z i ⟨s.w,s.up,t,f⟩->Go (Ms 5 Vl (Z4 (Uj (Z4 (dV 7) (Z4 (dV 8) (Z4 (dV 9) (Z4 (dV 10) Zk))))) Zk) [.fz G.d,.fz (.int (c:Int)),.fz (.int (th:Int)),.fz s.d,.fz (.int (z:Int)),.ow (ss.map St3.d),.fz (.int (i:Int)),.fz (.int (s.w:Int)),.fz (.bl s.up),.fz (.tup (Ze t)),.fz (.tup (Ze f))]) (fun e=>∃ (ss:List St3) (v3 v6 v7 v8 v9 v10:Slt),e=[.fz G.d,.fz (.int (c:Int)),.fz (.int (th:Int)),v3,.fz (.int (z:Int)),.ow (ss.map St3.d),v6,v7,v8,v9,v10]/\ss.length=i+1/\∀ (j:Nat) (s:St3),ss[j]?=some s->LkS G z j s) (fun d=>∃ (G':G3) (z:Nat),d=G'.d/\LookI G G' z/\Gb 64 G'):=fun t f hl=>by
   refine Qf (ds:=ss.map St3.d) (as:=[(⟨s.w,s.up,t,f⟩:St3).d]) (ds':=(ss++[(⟨s.w,s.up,t,f⟩:St3)]).map St3.d) rfl (Z1 (Y2 rfl (by simp)) rfl) (by rw [Ts (by rw [length_map];lia),map_append];rfl) ⟨_,_,_,_,_,_,_,rfl,by rw [length_append,length_singleton,hsl],fun j r hr=>?_⟩;rcases Oa hr with ⟨_,h⟩ | ⟨h1,h2⟩
   ·exact hlk j r h
   ·rw [h2,h1,hsl];exact hl
  refine Z6 (Mq (Wo (Z5 (Z5 (Z5 (Z5 rfl rfl (Uw c 3 (by lia) (by lia))) rfl (Z7c _ i)) rfl (Z1b _ i)) rfl (C9 _))) (fun _=>?_) (fun _=>W5 ?_))
  ·obtain ⟨t,et,pt⟩:=E4 (s.takes++[z]) (by rw [length_append,length_singleton];lia)
   obtain ⟨f,ef,pf⟩:=E4 (s.fills++[z]) (by rw [length_append,length_singleton];lia);have a1:B2 (.tup (Ze s.takes)) (.tup [.int (z:Int)])=some (.tup (Ze (s.takes++[z]))):=by
    rw [Sk (by unfold Ze;rw [length_map,length_map];show _+1<=_;lia),← Kc];rfl
   have a2:B2 (.tup (Ze s.fills)) (.tup [.int (z:Int)])=some (.tup (Ze (s.fills++[z]))):=by
    rw [Sk (by unfold Ze;rw [length_map,length_map];show _+1<=_;lia),← Kc];rfl
   refine Z6 (Zf (d:=.tup (Ze t)) (Wg (Z1 (Vx (Wg (Z1 (Z5 rfl (Y2 (Z1 rfl rfl) (by simp)) a1) rfl) et)) rfl) rfl) ?_);refine Zf (d:=.tup (Ze f)) (Wg (Z1 (Vx (Wg (Z1 (Z5 rfl (Y2 (Z1 rfl rfl) (by simp)) a2) rfl) ef)) rfl) rfl) ?_;obtain ⟨t1,t2,t3⟩:=Z35 hsb.t (by lia) hz64 hsb.tn n1 pt;obtain ⟨f1,f2,f3⟩:=Z35 hsb.f (by lia) hz64 hsb.fn n2 pf;exact fin t f ⟨⟨s,hs,true,rfl,rfl,n1,n2,t3,f3⟩,⟨hsb.w,t1,f1,t2,f2⟩⟩
  ·exact fin s.takes s.fills ⟨⟨s,hs,false,rfl,rfl,n1,n2,fun q=>by simp,fun q=>by simp⟩,⟨hsb.w,fun p hp=>by have:=hsb.t p hp;lia,fun p hp=>by have:=hsb.f p hp;lia,hsb.tn,hsb.fn⟩⟩
 rintro e ⟨ss,v3,v6,v7,v8,v9,v10,rfl,hsl,hlk⟩;rw [Ul,length_map] at hsl;have:=hG.s1;have:=hG.s2;have:=hG.w2;refine Y8 (Y2 (Z1 (Z5 rfl rfl rfl) (Z1 (Wg (Z1 rfl rfl) rfl) (Z1 (Z5 (Z5 rfl rfl rfl) (Z5 rfl rfl (Z26 z (by lia))) (orN G.marks _)) (Z1 (Z5 rfl rfl rfl) rfl)))) (by simp)) ⟨⟨G.wires,ss,G.marks ||| 2^z,G.code⟩,z,rfl,?_,?_⟩
 ·exact { ws:=rfl,len:=hsl,ma:=rfl,mz:=hzm,cd:=rfl,st:=fun i s hs=>(hlk i s hs).a }
 ·exact { w2:=hG.w2,s1:=by show 1<=ss.length;lia,s2:=by show ss.length<=24;lia,st:=fun s hs=>by obtain ⟨i,hi⟩:=List.getElem?_of_mem hs;exact (hlk i s hi).b,mks:=Z2i (lt_of_lt_of_le hG.mks (pow_le_pow_right (by lia) (by lia))) (Nat.pow_lt_pow_right (by lia) hz64) }
theorem Z82:∀ k:Nat,k<10->∃ z:Str,ixD (.str "abcdefghij") (.int (k:Int))=some (.str z)
 | 0,_=>⟨_,rfl⟩ | 1,_=>⟨_,rfl⟩ | 2,_=>⟨_,rfl⟩ | 3,_=>⟨_,rfl⟩ | 4,_=>⟨_,rfl⟩ | 5,_=>⟨_,rfl⟩ | 6,_=>⟨_,rfl⟩ | 7,_=>⟨_,rfl⟩ | 8,_=>⟨_,rfl⟩ | 9,_=>⟨_,rfl⟩
theorem Zbg (n j:Nat) (hj:j<8) (hn:n<=5):∃ m:Nat,ixD (.lst [.int 0,.int 0,.int 0,.int 0,.int 1,.int 1,.int 2,.int ((10 - n:Nat):Int)]) (.int (j:Int))=some (.int (m:Int))/\n+m<=10:=by
 rcases (show j=0\/j=1\/j=2\/j=3\/j=4\/j=5\/j=6\/j=7 by lia) with rfl | rfl | rfl | rfl | rfl | rfl | rfl | rfl
 ·exact ⟨0,rfl,by lia⟩
 ·exact ⟨0,rfl,by lia⟩
 ·exact ⟨0,rfl,by lia⟩
 ·exact ⟨0,rfl,by lia⟩
 ·exact ⟨1,rfl,by lia⟩
 ·exact ⟨1,rfl,by lia⟩
 ·exact ⟨2,rfl,by lia⟩
 ·exact ⟨10 - n,rfl,by lia⟩
theorem Zb5 (j:Nat) (hj:j<2):∃ b:Bool,ixD (.lst [.str "given",.str "made"]) (.int (j:Int))=some (.str (if b then "made" else "given")):=by
 rcases (show j=0\/j=1 by lia) with rfl | rfl
 ·exact ⟨false,rfl⟩
 ·exact ⟨true,rfl⟩
theorem Z7l (ns:List Int) (first most arr:Nat) (hf:first<=800) (hm1:1<=most) (hm2:most<=4) (ha:arr<=5):∃ G:G3,Vc [scr ns,.int (first:Int),.int (most:Int),.int (arr:Int)]=.ok G.d/\GA G:=by
 have:=Yb (n:=12) (p:=4) (ds:=[scr ns,.int (first:Int),.int (most:Int),.int (arr:Int)]) (g:=Yy) (R:=fun d=>∃ G:G3,d=G.d/\GA G) rfl ?_
 ·obtain ⟨d,e,z,rfl,h⟩:=this
  exact ⟨z,e,h⟩
 show Go (Yy [.fz (scr ns),.fz (.int (first:Int)),.fz (.int (most:Int)),.fz (.int (arr:Int)),.un,.un,.un,.un,.un,.un,.un,.un]) _ _;unfold Yy;obtain ⟨c,ec,lc⟩:=D7 ns first (by lia);refine Z6 (Zf (Zd (xs:=[scr ns,.int (first:Int)]) rfl ec) ?_);refine Z6 (Go.mono (N:=fun e=>∃ G:G3,e=[.fz (scr ns),.fz (.int (first:Int)),.fz (.int (most:Int)),.fz (.int (arr:Int)),.fz (.int (c:Int)),.fz G.d,.un,.un,.un,.un,.un,.un]/\GA G/\G.wires.length<=5/\2<=G.steps.length) ?_ ?_ (fun _ h=>h))
 ·refine Mq (Wo (Z5 (Z5 rfl rfl (Ro c 3 (by lia))) rfl (eqN _ 0))) (fun _=>?_) (fun _=>?_)
  ·obtain ⟨G,L,e,h1,h2,h3,h4,h5,h6,h7⟩:=Bc ns (first+1) (by lia)
   exact Zf (Zd (xs:=[scr ns,.int ((first+1:Nat):Int)]) (Z1 rfl (Z1 (Z5 rfl rfl (Qu _ 1)) rfl)) e) ⟨G,rfl,⟨⟨_,Z1a h1⟩,h2,h3,h4,by rw [h7];exact two_pow_pos _⟩,h5,h6⟩
  ·have hmm:c / 3 % most<most:=mod_lt _ (by lia)
   have har:c / 30 % (arr+1)<arr+1:=mod_lt _ (by lia);obtain ⟨G,s0,ps,rs,e,h1,h2,h3,h4,h5,h6⟩:=Z2a ns (first+1) (1+c / 3 % most) (c / 30 % (arr+1)) (by lia) (by lia) (by lia) (by lia);exact Zf (Zd (xs:=[scr ns,.int ((first+1:Nat):Int),.int ((1+c / 3 % most:Nat):Int),.int ((c / 30 % (arr+1):Nat):Int)]) (Z1 rfl (Z1 (Z5 rfl rfl (Qu _ 1)) (Z1 (Z5 rfl (Z5 (Z5 rfl rfl (Uw c 3 (by lia) (by lia))) rfl (Ro _ most (by lia))) (Qu 1 _)) (Z1 (Z5 (Z5 rfl rfl (Uw c 30 (by lia) (by lia))) (Z5 rfl rfl (Qu arr 1)) (Ro _ (arr+1) (by lia))) rfl)))) e) ⟨G,rfl,⟨⟨_,B3 h1 (by lia)⟩,h2,h3,by lia,by rw [h4];exact h6⟩,by lia,h5⟩
 rintro e ⟨G,rfl,hG,hw5,hs2⟩;refine Z6 (Zf (Z5 rfl rfl (Uw c 1000 (by lia) (by lia))) ?_);generalize c / 1000=more;refine Z6 (Go.mono (N:=fun e=>∃ (G:G3) (v7:Slt),e=[.fz (scr ns),.fz (.int (first:Int)),.fz (.int (most:Int)),.fz (.int (arr:Int)),.fz (.int (c:Int)),.fz G.d,.fz (.int (more:Int)),v7,.un,.un,.un,.un]/\GA G/\G.wires.length<=5) ?_ ?_ (fun _ h=>h))
 ·refine Mq (Wo (Z5 (Z5 rfl rfl (Ro more 4 (by lia))) rfl (eqN _ 0))) (fun _=>?_) (fun _=>W5 ⟨G,.un,rfl,hG,hw5⟩)
  have hlen:dF Rq (Z4 (dO ixD (dV 5) (dC (.int 1))) Zk) [.fz (scr ns),.fz (.int (first:Int)),.fz (.int (most:Int)),.fz (.int (arr:Int)),.fz (.int (c:Int)),.fz G.d,.fz (.int (more:Int)),.un,.un,.un,.un,.un]=some (.int ((G.steps.length:Nat):Int)):=Wg (Z1 (Z5 rfl rfl rfl) rfl) (Mb St3.d G.steps);refine Z6 (Zf (Z5 (Z5 rfl rfl (Uw more 4 (by lia) (by lia))) hlen (Ro _ G.steps.length (by lia))) ?_);have hg:more / 4 % G.steps.length<G.steps.length:=mod_lt _ (by lia);generalize more / 4 % G.steps.length=g at hg;have h24:=hG.gb.s2;refine Zf (d:=(Xa G g).d) (Y2 (xs:=[.tup (G.wires.map Mv),.tup ((G.steps.take g++G.steps.drop (g+1)).map St3.d),.int (G.marks:Int),.int (G.code:Int)]) (Z1 (Z5 rfl rfl rfl) (Z1 (Z5 (R5 (Z5 rfl rfl rfl) rfl (Wd rfl) (Dy _ _ _)) (R5 (Z5 rfl rfl rfl) (Wd (Z5 rfl rfl (Qu g 1))) rfl (Dy _ _ _)) (by
   rw [Jb,Jb,Dg G.steps g (by lia),Dq G.steps (g+1) (by lia),Sk (by rw [length_map,length_map,length_take,length_drop];lia),map_append])) (Z1 (Z5 rfl rfl rfl) (Z1 (Z5 rfl rfl rfl) rfl)))) (by simp)) ⟨Xa G g,_,rfl,?_,hw5⟩
  obtain ⟨I,hI⟩:=hG.calm;have hl:(Xa G g).steps.length=G.steps.length - 1:=by show (G.steps.take g++G.steps.drop (g+1)).length=_;rw [length_append,length_take,length_drop];lia
  exact ⟨⟨I,Cb hI g⟩,⟨hG.gb.w2,by lia,by lia,fun s hs=>hG.gb.st s (Dp hs),hG.gb.mks⟩,F8 hG.nr hg,hG.w1,hG.cd⟩
 clear hs2 hw5 hG G;rintro e ⟨G,v7,rfl,hG,hw5⟩;have hwl:∀ (G:G3) (e:Ev),e[5]?=some (.fz G.d)->dF Rq (Z4 (dO ixD (dV 5) (dC (.int 0))) Zk) e=some (.int ((G.wires.length:Nat):Int)):=fun G e he=>Wg (Z1 (x:=.tup (G.wires.map Mv)) (Z5 (x:=G.d) (by unfold dV;rw [he]) rfl rfl) rfl) (Mb Mv G.wires)
 obtain ⟨m,em,hm⟩:=Zbg G.wires.length (more / 100 % 8) (mod_lt _ (by lia)) hw5;refine Z6 (Zf (d:=.int (m:Int)) (Z5 (Vx (Sw (Z1 rfl (Z1 rfl (Z1 rfl (Z1 rfl (Z1 rfl (Z1 rfl (Z1 rfl (Z1 (Z5 rfl (hwl G _ rfl) (Zag 10 G.wires.length (by lia))) rfl)))))))) (by simp))) (Z5 (Z5 rfl rfl (Uw more 100 (by lia) (by lia))) rfl (Ro _ 8 (by lia))) em) ?_);obtain ⟨n0,hn0⟩:∃ n0:Nat,G.wires.length=n0:=⟨_,rfl⟩;rw [hn0] at hm;have hg1:=hG.w1;refine Z6 (Vb (ds:=rng 0 m) (fun i e=>∃ (G:G3) (v9 v10 v11:Slt),e=[.fz (scr ns),.fz (.int (first:Int)),.fz (.int (most:Int)),.fz (.int (arr:Int)),.fz (.int (c:Int)),.fz G.d,.fz (.int (more:Int)),v7,.fz (.int (m:Int)),v9,v10,v11]/\GA G/\G.wires.length=n0+i) (Yt (Z1 rfl rfl) (by lia)) ⟨G,.un,.un,.un,rfl,hG,hn0⟩ ?_ ?_)
 ·rintro i d e hi ⟨G,v9,v10,v11,rfl,hG,hgl⟩
  obtain ⟨hi1,rfl⟩:=Tx hi;rw [Int.zero_add];refine ⟨_,rfl,?_⟩;refine Z6 (Zf (Z5 (Z5 (Z5 rfl rfl (Uw more 800 (by lia) (by lia))) (Z5 rfl rfl (Z2f 7 i (by lia))) (Qu _ _)) (Z5 (hwl G _ rfl) rfl (Qu _ 1)) (Ro _ (G.wires.length+1) (by lia))) ?_);have hat:(more / 800+7*i) % (G.wires.length+1)<G.wires.length+1:=mod_lt _ (by lia);generalize (more / 800+7*i) % (G.wires.length+1)=at0 at hat;obtain ⟨b,hb⟩:=Zb5 ((more / 10000+i) % 2) (mod_lt _ (by lia));refine Z6 (Zf (Z5 (x:=.lst [.str "given",.str "made"]) rfl (Z5 (Z5 (Z5 rfl rfl (Uw more 10000 (by lia) (by lia))) rfl (Qu _ i)) rfl (Ro _ 2 (by lia))) hb) ?_);obtain ⟨z,hz⟩:=Z82 i (by lia);refine Zf (Zd (xs:=[G.d,.int (at0:Int),.str (if b then "made" else "given"),.bl ((more / 20000+i / 2) % 2==1),.str z]) (Z1 rfl (Z1 rfl (Z1 rfl (Z1 (Z5 (Z5 (Z5 (Z5 rfl rfl (Uw more 20000 (by lia) (by lia))) (Z5 rfl rfl (Uw i 2 (by lia) (by lia))) (Qu _ _)) rfl (Ro _ 2 (by lia))) rfl (eqN _ 1)) (Z1 (Z5 rfl rfl hz) rfl))))) (Z2v G hG at0 (by lia) (by lia) b _ z)) ⟨_,_,_,_,rfl,Z86 hG at0 (z,b) _ (by lia) (by lia),?_⟩;show (G.wires.take at0++(z,b)::G.wires.drop at0).length=_;rw [Qy];lia
 ·rintro e ⟨G,v9,v10,v11,rfl,hG,hgl⟩
  exact Y8 rfl ⟨G,rfl,hG⟩
theorem Dr (G:G3) (k:Nat) (s:St3) (h:G.steps[k]?=some s):V1 [G.d,.int (k:Int)]=.ok (.tup (Ze s.takes)):=by
 refine Vh (Yb (n:=2) (p:=2) (ds:=[G.d,.int (k:Int)]) (g:=Te) (R:=fun d=>d=.tup (Ze s.takes)) rfl ?_);show Go (Te [.fz G.d,.fz (.int (k:Int))]) _ _;unfold Te;exact Y8 (Z5 (Z5 (Z5 rfl rfl rfl) rfl (R8 (x:=s.d) (by rw [getElem?_map,h];rfl))) rfl rfl) rfl
theorem So (ps:List Nat) (hp:∀ p∈ps,p<=1000):M3 [.tup (Ze ps)]=.ok (.int (bitsN ps:Int)):=by
 refine Vh (Yb (n:=3) (p:=1) (ds:=[.tup (Ze ps)]) (g:=Gm) (R:=fun d=>d=.int (bitsN ps:Int)) rfl ?_);show Go (Gm [.fz (.tup (Ze ps)),.un,.un]) _ _;unfold Gm;refine Z6 (Zf (d:=.int 0) rfl ?_);refine Z6 (Vb (ds:=Ze ps) (fun i e=>∃ (z:Int) (v:Slt),e=[.fz (.tup (Ze ps)),.fz (.int z),v]/\z=(((ps.take i).foldl (fun a p=>a ||| 2^p) 0:Nat):Int)) rfl ⟨0,.un,rfl,rfl⟩ ?_ ?_)
 ·rintro i x e hi ⟨z,v,rfl,rfl⟩
  obtain ⟨p,hq,rfl⟩:=S8 hi;have hpp:=hp p (mem_of_getElem? hq);refine ⟨_,rfl,?_⟩;refine Zf (d:=.int ((((ps.take (i+1)).foldl (fun a p=>a ||| 2^p) 0:Nat)):Int)) (Z5 rfl (Z5 rfl rfl (Z26 p hpp)) ?_) ⟨_,_,rfl,rfl⟩;rw [orN,take_succ,hq,List.foldl_append];rfl
 ·rintro e ⟨z,v,rfl,rfl⟩
  refine Y8 rfl ?_;rw [length_map,length_map,take_of_length_le (le_refl _)];rfl
theorem O2 (G:G3) (k:Nat) (s:St3) (h:G.steps[k]?=some s):Tl [G.d,.int (k:Int)]=.ok (.int (s.w:Int)):=by
 refine Vh (Yb (n:=2) (p:=2) (ds:=[G.d,.int (k:Int)]) (g:=J6) (R:=fun d=>d=.int (s.w:Int)) rfl ?_);show Go (J6 [.fz G.d,.fz (.int (k:Int))]) _ _;unfold J6;exact Y8 (Z5 (Z5 (Z5 rfl rfl rfl) rfl (R8 (x:=s.d) (by rw [getElem?_map,h];rfl))) rfl rfl) rfl
theorem Z55 (G:G3) (k:Nat) (s:St3) (h:G.steps[k]?=some s):Rn [G.d,.int (k:Int)]=.ok (.bl s.up):=by
 refine Vh (Yb (n:=2) (p:=2) (ds:=[G.d,.int (k:Int)]) (g:=J7) (R:=fun d=>d=.bl s.up) rfl ?_);show Go (J7 [.fz G.d,.fz (.int (k:Int))]) _ _;unfold J7;exact Y8 (Z5 (Z5 (Z5 rfl rfl rfl) rfl (R8 (x:=s.d) (by rw [getElem?_map,h];rfl))) rfl rfl) rfl
theorem X4 (G:G3) (k:Nat) (s:St3) (h:G.steps[k]?=some s):Tg [G.d,.int (k:Int)]=.ok (.tup (Ze s.fills)):=by
 refine Vh (Yb (n:=2) (p:=2) (ds:=[G.d,.int (k:Int)]) (g:=Ta) (R:=fun d=>d=.tup (Ze s.fills)) rfl ?_);show Go (Ta [.fz G.d,.fz (.int (k:Int))]) _ _;unfold Ta;exact Y8 (Z5 (Z5 (Z5 rfl rfl rfl) rfl (R8 (x:=s.d) (by rw [getElem?_map,h];rfl))) rfl rfl) rfl
theorem Z8k (n p:Nat):Rr [.int (n:Int),.int (p:Int)]=.ok (.bl (n.testBit p)):=by
 refine Vh (Yb (n:=2) (p:=2) (ds:=[.int (n:Int),.int (p:Int)]) (g:=Qk) (R:=fun d=>d=.bl (n.testBit p)) rfl ?_);show Go (Qk [.fz (.int (n:Int)),.fz (.int (p:Int))]) _ _;unfold Qk;exact Y8 (Z5 (Z5 (Z5 rfl rfl (Z7c n p)) rfl (Z1b n p)) rfl (C9 _)) rfl
theorem ne0 (a:Nat):neF (.int (a:Int)) (.int 0)=some (.bl (!(a==0))):=by
 rw [Zai];congr 3
 rw [Bool.eq_iff_iff,beq_iff_eq,beq_iff_eq];lia
theorem Z34 (G:G3) (hG:Gb 64 G) (m:Nat) (cd:Dat) (k:Nat) (s:St3) (h:G.steps[k]?=some s):Lm [G.d,.tup [.int (m:Int),cd],.int (k:Int)]=.ok (.bl (My s m)):=by
 refine Vh (Yb (n:=4) (p:=3) (ds:=[G.d,.tup [.int (m:Int),cd],.int (k:Int)]) (g:=A9) (R:=fun d=>d=.bl (My s m)) rfl ?_);show Go (A9 [.fz G.d,.fz (.tup [.int (m:Int),cd]),.fz (.int (k:Int)),.un]) _ _;unfold A9;have hs:=hG.st s (mem_of_getElem? h);refine Z6 (Zf (Zd (xs:=[.tup (Ze s.takes)]) (Z1 (Zd (xs:=[G.d,.int (k:Int)]) rfl (Dr G k s h)) rfl) (So s.takes fun p hp=>by have:=hs.t p hp;lia)) ?_);exact Y8 (Z5 (Z5 (Z5 rfl rfl rfl) rfl (Z78 m _)) rfl (eqN _ _)) rfl
structure Fine (s:St3) (p:Nat×Nat):Prop where
 can:My s p.1=true
 lev:p.2.testBit s.w≠s.up
 room:∀ q∈s.fills,p.1.testBit q=true->q∈s.takes
theorem Z0l (G:G3) (hG:Gb 64 G) (p:Nat×Nat) (k:Nat) (s:St3) (h:G.steps[k]?=some s) (hf:Fine s p):Dj [G.d,Zx p,.int (k:Int)]=.ok (Zx (Jm s p)):=by
 have hs:=hG.st s (mem_of_getElem? h);have hw2:=hG.w2;have hw1:=hs.w;refine Vh (Yb (n:=6) (p:=3) (ds:=[G.d,Zx p,.int (k:Int)]) (g:=Me) (R:=fun d=>d=Zx (Jm s p)) rfl ?_);show Go (Me [.fz G.d,.fz (Zx p),.fz (.int (k:Int)),.un,.un,.un]) _ _;unfold Me;refine Z6 (Zf (Zd (xs:=[G.d,.int (k:Int)]) rfl (O2 G k s h)) ?_);refine Z6 (Qs (Wo (Z5 (Zd (xs:=[.int (p.2:Int),.int (s.w:Int)]) (Z1 (Z5 rfl rfl rfl) rfl) (Z8k p.2 s.w)) (Zd (xs:=[G.d,.int (k:Int)]) rfl (Z55 G k s h)) (by rw [Zct,show (p.2.testBit s.w==s.up)=false by simpa using hf.lev]))) (W5 ?_));obtain ⟨lf,ek,hlf⟩:=Hh p.1 (bitsN s.takes);refine Z6 (Zf (d:=.int (lf:Int)) (Z5 (Z5 rfl rfl rfl) (Z9q (Zd (xs:=[.tup (Ze s.takes)]) (Z1 (Zd (xs:=[G.d,.int (k:Int)]) rfl (Dr G k s h)) rfl) (So s.takes fun p hp=>by have:=hs.t p hp;lia)) (z:=.int (-(bitsN s.takes:Int) - 1)) rfl) (by show some (Dat.int (Builtin.bitAnd _ _))=_;rw [ek])) ?_);refine Z6 (Zf (d:=.int (bitsN s.fills:Int)) (Zd (xs:=[.tup (Ze s.fills)]) (Z1 (Zd (xs:=[G.d,.int (k:Int)]) rfl (X4 G k s h)) rfl) (So s.fills fun p hp=>by have:=hs.f p hp;lia)) ?_);have hz:lf &&& bitsN s.fills=0:=eq_of_testBit_eq fun j=>by
  rw [testBit_and,hlf,W7,W7,Nat.zero_testBit];by_cases h1:j∈s.fills
  ·by_cases h2:p.1.testBit j=true
   ·rw [decide_eq_true (hf.room j h1 h2)];simp
   ·have:p.1.testBit j=false:=by simpa using h2
    rw [this];rfl
  ·rw [decide_eq_false h1,Bool.and_false]
 refine Z6 (Qs (Wo (Z5 (Z5 rfl rfl (Z78 lf _)) rfl (by rw [hz];exact ne0 0))) (W5 ?_));have em:lf ||| bitsN s.fills=(Jm s p).1:=eq_of_testBit_eq fun j=>by rw [testBit_or,hlf,W7,W7,K1]
 refine Y8 (Y2 (xs:=[.int ((Jm s p).1:Int),.int ((Jm s p).2:Int)]) (Z1 (Z5 rfl rfl (by rw [orN,em])) (Z1 (Z5 (Z5 rfl rfl rfl) (Z5 rfl rfl (Z26 s.w (by lia))) (Zaa p.2 _)) rfl)) (by simp)) rfl
theorem Hk (r:Rw):slX r.d none (some 2)=some (Zx r.st):=rfl
theorem Eg (G:G3) (hG:Gb 64 G) (p:Nat×Nat):Td [G.d,Zx p]=.ok (.lst (Ze (Zah G p.1))):=by
 refine Vh (Yb (n:=2) (p:=2) (ds:=[G.d,Zx p]) (g:=Tf) (R:=fun d=>d=.lst (Ze (Zah G p.1))) rfl ?_);show Go (Tf [.fz G.d,.fz (Zx p)]) _ _;unfold Tf;have hs2:=hG.s2;have hc:=Qh (g:=Yu 0) (t:=dT (Yo Lm (Z4 (dV 1) (Z4 (dV 2) (Z4 (dV 0) Zk))))) (f:=dV 0) (env:=[.un,.fz G.d,.fz (Zx p)]) (fun k:Nat=>Dat.int (k:Int)) (fun k:Nat=>Dat.int (k:Int)) (Z39 G p.1) (List.range G.steps.length) fun k hk=>by
  have hkl:=mem_range.mp hk;have e:G.steps[k]?=some G.steps[k]:=getElem?_eq_getElem hkl;refine ⟨[.fz (.int (k:Int)),.fz G.d,.fz (Zx p)],rfl,?_,rfl⟩;have:Z39 G p.1 k=My G.steps[k] p.1:=by unfold Z39;rw [e]
  rw [this];exact Jt (Zd (xs:=[G.d,.tup [.int (p.1:Int),.int (p.2:Int)],.int (k:Int)]) rfl (Z34 G hG p.1 _ k _ e))
 rw [← Su] at hc;refine Y8 (Vx (Yn (xs:=rng 0 G.steps.length) (Yt (Z1 (Wg (Z1 (x:=.tup (G.steps.map St3.d)) (Z5 rfl rfl rfl) rfl) (by show some (Dat.int ((G.steps.map St3.d).length:Int))=_;rw [length_map])) rfl) (by lia)) rfl hc)) ?_;rw [Wi];rfl
theorem Z59 {I:Nat×Nat->Prop} (G:G3) (hG:Gb 64 G) (rows:List Rw) (n k:Nat) (r:Rw) (s:St3) (hr:rows[n]?=some r) (h:G.steps[k]?=some s) (hf:Fine s r.st):Ry [G.d,.lst (rows.map Rw.d),.int (n:Int),.int (k:Int)]=.ok (Zx (Jm s r.st)):=by
 refine Vh (Yb (n:=4) (p:=4) (ds:=[G.d,.lst (rows.map Rw.d),.int (n:Int),.int (k:Int)]) (g:=Qw) (R:=fun d=>d=Zx (Jm s r.st)) rfl ?_);show Go (Qw [.fz G.d,.fz (.lst (rows.map Rw.d)),.fz (.int (n:Int)),.fz (.int (k:Int))]) _ _;unfold Qw;exact Z29 (Y8 (Zd (xs:=[G.d,Zx r.st,.int (k:Int)]) (Z1 rfl (Z1 (R5 (Z5 rfl rfl (Wt (x:=r.d) (by rw [getElem?_map,hr];rfl))) rfl (Wd rfl) (Hk r)) rfl)) (Z0l G hG r.st k s h hf)) rfl)
theorem Pf {G:G3} {I:Nat×Nat->Prop} {rows:List Rw} (hc:Calm G I) (t:Told G I rows) (n:Nat) (hn:n<rows.length):Ge [.lst (rows.map Rw.d),.int (n:Int)]=.ok (.lst (Ze (Iz rows n))):=by
 have hle:=t.le hc;refine Vh (Yb (n:=4) (p:=2) (ds:=[.lst (rows.map Rw.d),.int (n:Int)]) (g:=Xc) (R:=fun d=>d=.lst (Ze (Iz rows n))) rfl ?_);show Go (Xc [.fz (.lst (rows.map Rw.d)),.fz (.int (n:Int)),.un,.un]) _ _;unfold Xc;refine Z6 (Jo (ds:=Ze []) rfl ?_);refine Z6 (Zf rfl ?_);refine Z6 (X5 (fun m e=>∃ (at0:Nat) (ks:List Nat),e=[.fz (.lst (rows.map Rw.d)),.fz (.int (n:Int)),.ow (Ze ks),.fz (.int (at0:Int))]/\m=at0/\at0<rows.length/\Iz rows n=Iz rows at0++ks.reverse/\ks.length+at0<=n) (n:=n) ⟨n,[],rfl,rfl,hn,by simp,by simp⟩ ?_);rintro m e ⟨at0,ks,rfl,rfl,hl,hw,hk⟩;obtain ⟨r,hr⟩:∃ r,rows[m]?=some r:=⟨_,getElem?_eq_getElem hl⟩;have hix:ixD (.lst (rows.map Rw.d)) (.int (m:Int))=some r.d:=Wt (by rw [getElem?_map,hr];rfl);rcases eq_zero_or_pos m with z | z
 ·left
  have hs:=(Z1r t hr).mpr z;subst z;refine ⟨Wo (Z5 (x:=.non) (Z5 (Z5 rfl rfl hix) rfl (by show some (match r.src with | none=>Dat.non | some p=>.int (p.1:Int))=_;rw [hs])) rfl rfl),?_⟩;rw [X1,List.nil_append] at hw;refine Y8 (Vx (Z6v (xs:=Ze ks) (Z1 rfl rfl))) ?_;rw [hw];unfold Ze;rw [List.map_reverse,List.map_reverse]
 ·right
  obtain ⟨f,k,s,rf,a1,a2,a3,a4,a5,a6⟩:=t.src m r hr z;have hd2:ixD r.d (.int 2)=some (.int (f:Int)):=by show some (match r.src with | none=>Dat.non | some p=>.int (p.1:Int))=_;rw [a1]
  have hd3:ixD r.d (.int 3)=some (.int (k:Int)):=by show some (match r.src with | none=>Dat.non | some p=>.int (p.2:Int))=_;rw [a1]
  refine ⟨Wo (Z5 (x:=.int (f:Int)) (Z5 (Z5 rfl rfl hix) rfl hd2) rfl rfl),?_⟩;refine Z6 (Qf (ds:=Ze ks) (as:=[.int (k:Int)]) (ds':=Ze (ks++[k])) rfl (Z1 (Z5 (Z5 rfl rfl hix) rfl hd3) rfl) (by rw [Ts (by unfold Ze;rw [length_map,length_map];lia),← Kc];rfl) ?_);refine Zf (Z5 (Z5 rfl rfl hix) rfl hd2) ⟨f,a2,f,ks++[k],rfl,rfl,by lia,?_,by rw [length_append,length_singleton];lia⟩;rw [hw,Kd t hr a1 z,List.reverse_append];simp
theorem Bl {G:G3} {I:Nat×Nat->Prop} (hG:Gb 64 G) (hc:Calm G I):∃ rows:List Rw,Rt [G.d,.int 400]=.ok (.lst (rows.map Rw.d))/\Told G I rows:=by
 have:=Yb (n:=8) (p:=2) (ds:=[G.d,.int 400]) (g:=Mg) (R:=fun d=>∃ rows:List Rw,d=.lst (rows.map Rw.d)/\Told G I rows) rfl ?_
 ·obtain ⟨d,e,z,rfl,h⟩:=this
  exact ⟨z,e,h⟩
 show Go (Mg [.fz G.d,.fz (.int 400),.un,.un,.un,.un,.un,.un]) _ _;unfold Mg;refine Z6 (Jo (ds:=[(⟨G.marks,G.code,none⟩:Rw)].map Rw.d) (Sw (Z1 (Y2 (Z1 (Z5 rfl rfl rfl) (Z1 (Z5 rfl rfl rfl) rfl)) (by simp)) rfl) (by simp)) ?_);refine Z6 (Z4v (q:=(G.marks,G.code)) (Y2 (Z1 (Z5 rfl rfl rfl) (Z1 (Z5 rfl rfl rfl) rfl)) (by simp)) rfl ?_);refine Z6 (Zf (d:=.int ((0:Nat):Int)) rfl ?_);refine Z6 (X5 (fun m e=>∃ (rows:List Rw) (at0:Nat) (v5 v6 v7:Slt),e=[.fz G.d,.fz (.int 400),.ow (rows.map Rw.d),.gx (.dict (Oq (rows.map Rw.st))),.fz (.int (at0:Int)),v5,v6,v7]/\Told G I rows/\at0<=rows.length/\m+at0=400) (n:=400) ⟨_,0,.un,.un,.un,rfl,Told.start hc,by lia,rfl⟩ ?_);rintro m e ⟨rows,at0,v5,v6,v7,rfl,t,hal,hm⟩;have hle:=t.le hc;have hlen:dF Rq (Z4 (dP 2) Zk) [.fz G.d,.fz (.int 400),.ow (rows.map Rw.d),.gx (.dict (Oq (rows.map Rw.st))),.fz (.int (at0:Int)),v5,v6,v7]=some (.int (rows.length:Int)):=Wg (Z1 rfl rfl) (K5 Rw.d rows);rcases lt_or_ge at0 rows.length with hl | hl
 ·right
  obtain ⟨r,hr⟩:∃ r,rows[at0]?=some r:=⟨_,getElem?_eq_getElem hl⟩;have hix:ixD (.lst (rows.map Rw.d)) (.int (at0:Int))=some r.d:=Wt (by rw [getElem?_map,hr];rfl);refine ⟨Wo (Z5 rfl hlen (by show some (Dat.bl (decide ((at0:Int)<(rows.length:Int))))=_;rw [decide_eq_true (by lia)])),?_⟩;refine Z6 (Zf (Zd (xs:=[G.d,Zx r.st]) (Z1 rfl (Z1 (R5 (Z5 rfl rfl hix) rfl (Wd rfl) (Hk r)) rfl)) (Eg G hG r.st)) ?_);obtain ⟨ks,hks⟩:∃ ks:List Nat,Zah G r.st.1=ks:=⟨_,rfl⟩;have hkm:∀ k∈ks,Z39 G r.st.1 k=true:=fun k hk=>by rw [← hks] at hk;exact Z1p hk
  rw [hks];refine Z6 (Z5x (ds:=Ze ks) (fun i e=>∃ (rows:List Rw) (v6 v7:Slt),e=[.fz G.d,.fz (.int 400),.ow (rows.map Rw.d),.gx (.dict (Oq (rows.map Rw.st))),.fz (.int (at0:Int)),.fz (.lst (Ze ks)),v6,v7]/\Told G I rows/\rows[at0]?=some r) rfl ⟨rows,v6,v7,rfl,t,hr⟩ ?_ ?_)
  ·rintro i d e hi ⟨rows,v6,v7,rfl,t,hr⟩
   obtain ⟨k,hk,rfl⟩:=S8 hi;obtain ⟨s,hs,hcan⟩:=Ca (hkm k (mem_of_getElem? hk));have hI:=t.inv r (mem_of_getElem? hr);have hsm:=mem_of_getElem? hs;have hf:Fine s r.st:=⟨hcan,hc.lev _ s hI hsm hcan,hc.room _ s hI hsm hcan⟩;have hle:=t.le hc;refine ⟨_,rfl,?_⟩;refine Hu (Zf (C2 (xs:=[G.d,.lst (rows.map Rw.d),.int (at0:Int),.int (k:Int)]) rfl (Z59 (I:=I) G hG rows at0 k r s hr hs hf) rfl) ?_);refine Z16 (Wo (Z4w (ps:=rows.map Rw.st) (q:=Jm s r.st) rfl rfl)) (fun _=>⟨rows,_,_,rfl,t,hr⟩) (fun hb=>?_);have hnin:Jm s r.st∉rows.map Rw.st:=of_decide_eq_false hb;have t':=t.app hc hr hs hcan hnin;have hle':=t'.le hc;rw [length_append,length_singleton] at hle';refine Hu (Qs (Wo (Z5 (Wg (Z1 rfl rfl) (K5 Rw.d rows)) rfl (by show some (Dat.bl (decide ((400:Int)<=(rows.length:Int))))=_;rw [decide_eq_false (by lia)]))) (W5 ?_));refine Hu (Z5z (ps:=rows.map Rw.st) (q:=Jm s r.st) rfl rfl rfl hnin (by rw [length_map];lia) ?_);refine (Qf (ds:=rows.map Rw.d) (as:=[(⟨(Jm s r.st).1,(Jm s r.st).2,some (at0,k)⟩:Rw).d]) (ds':=(rows++[(⟨(Jm s r.st).1,(Jm s r.st).2,some (at0,k)⟩:Rw)]).map Rw.d) rfl (Z1 (Y2 (Z1 (Z5 rfl rfl rfl) (Z1 (Z5 rfl rfl rfl) rfl)) (by simp)) rfl) (by rw [Ts (by rw [length_map];lia),map_append];rfl) ?_).toC;refine ⟨rows++[(⟨(Jm s r.st).1,(Jm s r.st).2,some (at0,k)⟩:Rw)],.fz (.int (k:Int)),.fz (Zx (Jm s r.st)),?_,t',?_⟩
   ·rw [map_append (f:=Rw.st)];rfl
   ·rw [getElem?_append_left (List.getElem?_eq_some_iff.mp hr).1];exact hr
  ·rintro e ⟨rows,v6,v7,rfl,t,hr⟩
   have hl':=(List.getElem?_eq_some_iff.mp hr).1;have hle:=t.le hc;refine Z8b rfl rfl ⟨m - 1,by lia,rows,at0+1,_,_,_,rfl,t,by lia,by lia⟩
 ·left
  refine ⟨Wo (Z5 rfl hlen (by show some (Dat.bl (decide ((at0:Int)<(rows.length:Int))))=_;rw [decide_eq_false (by lia)])),?_⟩;exact Ec rfl ⟨rows,rfl,t⟩
def Uh {α:Type} (p:α->Bool):Nat->List α->List Nat
 | _,[]=>[]
 | k,x::xs=>if p x=true then k::Uh p (k+1) xs else Uh p (k+1) xs
theorem Hb {g:Dat->Ev->Option Ev} {t:Ev->Option Bool} {f:Ev->Option Dat} {env:Ev} {α:Type} (D:α->Dat) (p:α->Bool):∀ (xs:List α) (k:Nat),(∀ x∈xs,∀ n:Nat,∃ e1,g (.tup [.int (n:Int),D x]) env=some e1/\t e1=some (p x)/\f e1=some (.int (n:Int)))->V8 g t f env (Ex k (xs.map D))=some (Ze (Uh p k xs))
 | [],_,_=>rfl
 | x::xs,k,h=>by
  obtain ⟨e1,a1,a2,a3⟩:=h x mem_cons_self k;have ih:=Hb D p xs (k+1) fun z hz=>h z (mem_cons_of_mem _ hz)
  rw [map_cons,Ex,V8,a1];dsimp only [Option.bind];rw [a2];dsimp only;rw [Uh];cases hp:p x with
  | true=>rw [if_pos rfl,a3];dsimp only;rw [ih,if_pos rfl];rfl
  | false=>rw [if_neg (by decide),ih,if_neg (by decide)]
theorem Q9 {α:Type} (p:α->Bool):∀ (xs:List α) (k j:Nat),j∈Uh p k xs↔∃ i x,j=k+i/\xs[i]?=some x/\p x=true
 | [],k,j=>by simp [Uh]
 | x::xs,k,j=>by
  rw [Uh];have ih:=Q9 p xs (k+1) j;have key:(j∈Uh p (k+1) xs)↔∃ i y,j=k+(i+1)/\(x::xs)[i+1]?=some y/\p y=true:=by
   rw [ih];constructor
   ·rintro ⟨i,y,h1,h2,h3⟩;exact ⟨i,y,by lia,by simpa using h2,h3⟩
   ·rintro ⟨i,y,h1,h2,h3⟩;exact ⟨i,y,by lia,by simpa using h2,h3⟩
  constructor
  ·intro h
   split at h
   ·rename_i hp
    rcases mem_cons.mp h with e | e
    ·exact ⟨0,x,by lia,rfl,hp⟩
    ·obtain ⟨i,y,h1,h2,h3⟩:=key.mp e;exact ⟨i+1,y,h1,h2,h3⟩
   ·obtain ⟨i,y,h1,h2,h3⟩:=key.mp h;exact ⟨i+1,y,h1,h2,h3⟩
  ·rintro ⟨i,y,h1,h2,h3⟩
   cases i with
   | zero =>
    have:x=y:=by simpa using h2
    subst this;rw [if_pos h3];exact mem_cons.mpr (.inl (by lia))
   | succ i =>
    have:=key.mpr ⟨i,y,h1,h2,h3⟩;split
    ·exact mem_cons_of_mem _ this
    ·exact this
def Z0y (w:Nat) (up:Bool) (s:St3):Bool:=(s.w==w)&&(s.up==up)
theorem O4 (G:G3) (w:Nat) (up:Bool):Mh [G.d,.int (w:Int),.bl up]=.ok (.lst (Ze (Uh (Z0y w up) 0 G.steps))):=by
 refine Vh (Yb (n:=3) (p:=3) (ds:=[G.d,.int (w:Int),.bl up]) (g:=Tc) (R:=fun d=>d=.lst (Ze (Uh (Z0y w up) 0 G.steps))) rfl ?_);show Go (Tc [.fz G.d,.fz (.int (w:Int)),.fz (.bl up)]) _ _;unfold Tc;exact Y8 (Vx (Yn (xs:=Ex 0 (G.steps.map St3.d)) (env':=[.un,.un,.fz (.int (w:Int)),.fz (.bl up)]) (Z69 (Z5 rfl rfl rfl)) rfl (Hb St3.d (Z0y w up) G.steps 0 fun s _ n=>⟨[.fz (.int (n:Int)),.fz s.d,.fz (.int (w:Int)),.fz (.bl up)],rfl,G5 (Wo (Z5 (Z5 rfl rfl rfl) rfl (eqN s.w w))) fun _=>Wo (Z5 (Z5 rfl rfl rfl) rfl (Zct s.up up)),rfl⟩))) rfl
def Vi (G:G3) (m w:Nat) (up:Bool):Bool:=G.steps.any fun s=>Z0y w up s&&My s m
theorem D5 (G:G3) (hG:Gb 64 G) (m:Nat) (cd:Dat) (w:Nat) (up:Bool):Tn [G.d,.tup [.int (m:Int),cd],.int (w:Int),.bl up]=.ok (.bl (Vi G m w up)):=by
 refine Vh (Yb (n:=4) (p:=4) (ds:=[G.d,.tup [.int (m:Int),cd],.int (w:Int),.bl up]) (g:=Ug) (R:=fun d=>d=.bl (Vi G m w up)) rfl ?_);show Go (Ug [.fz G.d,.fz (.tup [.int (m:Int),cd]),.fz (.int (w:Int)),.fz (.bl up)]) _ _;unfold Ug;let q:Nat->Bool:=fun k=>match G.steps[k]? with | some s=>My s m | none=>false
 have hc:V8 (Yu 0) Ub (Yo Lm (Z4 (dV 1) (Z4 (dV 2) (Z4 (dV 0) Zk)))) [.un,.fz G.d,.fz (.tup [.int (m:Int),cd])] (Ze (Uh (Z0y w up) 0 G.steps))=some (((Uh (Z0y w up) 0 G.steps).map q).map Dat.bl):=by
  rw [Wi,Va (fun p:Nat=>Dat.int (p:Int)) (fun p:Nat=>.bl (q p)) _ fun p hp=>?_,map_map]
  ·rfl
  ·obtain ⟨i,s,e,hs,_⟩:=(Q9 _ _ _ _).mp hp
   rw [zero_add] at e;subst e;refine ⟨[.fz (.int (p:Int)),.fz G.d,.fz (.tup [.int (m:Int),cd])],rfl,rfl,Zd (xs:=[G.d,.tup [.int (m:Int),cd],.int (p:Int)]) rfl ?_⟩;rw [Z34 G hG m cd p s hs];show _=Rs.ok (.bl (match G.steps[p]? with | some s=>My s m | none=>false));rw [hs]
 refine Y8 (Wg (Z1 (Vx (Yn (xs:=Ze (Uh (Z0y w up) 0 G.steps)) (env':=[.un,.fz G.d,.fz (.tup [.int (m:Int),cd])]) (by unfold Rv;rw [Zd (xs:=[G.d,.int (w:Int),.bl up]) rfl (O4 G w up)]) rfl hc)) rfl) (Bd _)) ?_;congr 1
 unfold Vi;rw [Bool.eq_iff_iff,any_map,any_eq_true,any_eq_true];constructor
 ·rintro ⟨j,hj,hq⟩
  obtain ⟨i,s,e,hs,hp⟩:=(Q9 _ _ _ _).mp hj;rw [zero_add] at e;subst e;refine ⟨s,mem_of_getElem? hs,?_⟩;have:My s m=true:=by
   have hq':q j=true:=hq;have e2:q j=My s m:=by show (match G.steps[j]? with | some s=>My s m | none=>false)=_;rw [hs]
   rw [← e2];exact hq'
  rw [hp,this];rfl
 ·rintro ⟨s,hs,hq⟩
  obtain ⟨i,hi,e⟩:=List.getElem_of_mem hs;have hg:G.steps[i]?=some s:=by rw [getElem?_eq_getElem hi,e]
  rw [Bool.and_eq_true] at hq;refine ⟨i,(Q9 _ _ _ _).mpr ⟨i,s,by lia,hg,hq.1⟩,?_⟩;show q i=true;have e2:q i=My s m:=by show (match G.steps[i]? with | some s=>My s m | none=>false)=_;rw [hg]
  rw [e2];exact hq.2
def Bm (u d:Bool):Int:=if u then 1 else if d then -1 else 0
theorem Z1t (G:G3) (hG:Gb 64 G) (m:Nat) (cd:Dat) (w:Nat):E1 [G.d,.tup [.int (m:Int),cd],.int (w:Int)]=.ok (.int (Bm (Vi G m w true) (Vi G m w false))):=by
 refine Vh (Yb (n:=3) (p:=3) (ds:=[G.d,.tup [.int (m:Int),cd],.int (w:Int)]) (g:=Sv) (R:=fun d=>d=.int (Bm (Vi G m w true) (Vi G m w false))) rfl ?_);show Go (Sv [.fz G.d,.fz (.tup [.int (m:Int),cd]),.fz (.int (w:Int))]) _ _;unfold Sv;refine Z6 (Mq (Jt (Zd (xs:=[G.d,.tup [.int (m:Int),cd],.int (w:Int),.bl true]) rfl (D5 G hG m cd w true))) (fun hb=>Y8 rfl ?_) (fun hb=>W5 ?_))
 ·rw [hb];rfl
 refine Z6 (Mq (Jt (Zd (xs:=[G.d,.tup [.int (m:Int),cd],.int (w:Int),.bl false]) rfl (D5 G hG m cd w false))) (fun hb2=>Y8 rfl ?_) (fun hb2=>W5 (Y8 rfl ?_)))
 ·rw [hb,hb2];rfl
 ·rw [hb,hb2];rfl
theorem Z6e {G:G3} {w:Nat} {u:Str×Bool} (h:G.wires[w]?=some u):ixD (.tup (G.wires.map Mv)) (.int (w:Int))=some (Mv u):=R8 (by rw [getElem?_map,h];rfl)
theorem Sn (G:G3) (w:Nat) (u:Str×Bool) (h:G.wires[w]?=some u):Ut [G.d,.int (w:Int)]=.ok (.bl u.2):=by
 refine Vh (Yb (n:=2) (p:=2) (ds:=[G.d,.int (w:Int)]) (g:=Qr) (R:=fun d=>d=.bl u.2) rfl ?_);show Go (Qr [.fz G.d,.fz (.int (w:Int))]) _ _;unfold Qr;exact Y8 (Z5 (Z5 (Z5 (Z5 rfl rfl rfl) rfl (Z6e h)) rfl rfl) rfl (Z54 _)) rfl
theorem Z0g {G:G3} {s:St3} {u:Str×Bool} (h:G.wires[s.w]?=some u):Q1 G s=u.2:=by unfold Q1;rw [h]
def N2 (G:G3):List Nat:=(List.range G.wires.length).filter fun w=>match G.wires[w]? with | some u=>u.2 | none=>false
theorem Z3y {G:G3} {w:Nat} (h:w∈N2 G):w<G.wires.length:=mem_range.mp (mem_filter.mp h).1
theorem Z4g (G:G3) (hG:Gb 64 G):X6 [G.d]=.ok (.lst (Ze (N2 G))):=by
 refine Vh (Yb (n:=1) (p:=1) (ds:=[G.d]) (g:=Hd) (R:=fun d=>d=.lst (Ze (N2 G))) rfl ?_);show Go (Hd [.fz G.d]) _ _;unfold Hd;have hw2:=hG.w2;have hc:=Qh (g:=Yu 0) (t:=dT (Yo Ut (Z4 (dV 1) (Z4 (dV 0) Zk)))) (f:=dV 0) (env:=[.un,.fz G.d]) (fun k:Nat=>Dat.int (k:Int)) (fun k:Nat=>Dat.int (k:Int)) (fun w=>match G.wires[w]? with | some u=>u.2 | none=>false) (List.range G.wires.length) fun k hk=>by
  have hkl:=mem_range.mp hk;have e:G.wires[k]?=some G.wires[k]:=getElem?_eq_getElem hkl;refine ⟨[.fz (.int (k:Int)),.fz G.d],rfl,?_,rfl⟩;rw [e];exact Jt (Zd (xs:=[G.d,.int (k:Int)]) rfl (Sn G k _ e))
 rw [← Su] at hc;refine Y8 (Vx (Yn (xs:=rng 0 G.wires.length) (Yt (Z1 (Wg (Z1 (x:=.tup (G.wires.map Mv)) (Z5 rfl rfl rfl) rfl) (Mb Mv G.wires)) rfl) (by lia)) rfl hc)) ?_;unfold N2;rw [Wi]
theorem Z46 (G:G3) (hG:Gb 64 G) (i j:Nat) (si sj:St3) (hi:G.steps[i]?=some si) (hj:G.steps[j]?=some sj):∃ b:Bool,P8 [G.d,.int (i:Int),.int (j:Int)]=.ok (.bl b)/\(b=true->∃ q,q∈si.takes/\q∉si.fills/\q∈sj.takes):=by
 have bi:=hG.st si (mem_of_getElem? hi);have bj:=hG.st sj (mem_of_getElem? hj);have:=Yb (n:=4) (p:=3) (ds:=[G.d,.int (i:Int),.int (j:Int)]) (g:=H0) (R:=fun d=>∃ b:Bool,d=.bl b/\(b=true->∃ q,q∈si.takes/\q∉si.fills/\q∈sj.takes)) rfl ?_
 ·obtain ⟨d,e,b,rfl,h⟩:=this
  exact ⟨b,e,h⟩
 show Go (H0 [.fz G.d,.fz (.int (i:Int)),.fz (.int (j:Int)),.un]) _ _;unfold H0;obtain ⟨kp,ek,hkp⟩:=Hh (bitsN si.takes) (bitsN si.fills);refine Z6 (Zf (d:=.int (kp:Int)) (Z5 (Zd (xs:=[.tup (Ze si.takes)]) (Z1 (Zd (xs:=[G.d,.int (i:Int)]) rfl (Dr G i si hi)) rfl) (So si.takes fun p hp=>by have:=bi.t p hp;lia)) (Z9q (Zd (xs:=[.tup (Ze si.fills)]) (Z1 (Zd (xs:=[G.d,.int (i:Int)]) rfl (X4 G i si hi)) rfl) (So si.fills fun p hp=>by have:=bi.f p hp;lia)) (z:=.int (-(bitsN si.fills:Int) - 1)) rfl) (by show some (Dat.int (Builtin.bitAnd _ _))=_;rw [ek])) ?_);refine Y8 (Z5 (Z5 rfl (Zd (xs:=[.tup (Ze sj.takes)]) (Z1 (Zd (xs:=[G.d,.int (j:Int)]) rfl (Dr G j sj hj)) rfl) (So sj.takes fun p hp=>by have:=bj.t p hp;lia)) (Z78 kp _)) rfl (ne0 _)) ⟨_,rfl,fun hb=>?_⟩;have hne:kp &&& bitsN sj.takes≠0:=by simpa using hb
 obtain ⟨q,hq⟩:=Nat.exists_testBit_of_ne_zero hne;rw [testBit_and,hkp,W7,W7,W7] at hq;simp only [Bool.and_eq_true,decide_eq_true_eq,Bool.not_eq_true',decide_eq_false_iff_not] at hq;exact ⟨q,hq.1.1,hq.1.2,hq.2⟩
theorem Z3b {f g:Ev->Option Dat} {env:Ev} {a b:Bool} (h1:f env=some (.bl a)) (h2:g env=some (.bl b)):dOr f g env=some (.bl (a||b)):=by
 unfold dOr dB;rw [h1];cases a with
 | true=>rfl
 | false=>exact h2
theorem F3 (G:G3) (hG:Gb 64 G) (i j:Nat) (si sj:St3) (hi:G.steps[i]?=some si) (hj:G.steps[j]?=some sj):Uo [G.d,.int (i:Int),.int (j:Int)]=.ok (.bl (Q1 G si||Q1 G sj)):=by
 have bi:=(hG.st si (mem_of_getElem? hi)).w;have bj:=(hG.st sj (mem_of_getElem? hj)).w;have ei:G.wires[si.w]?=some G.wires[si.w]:=getElem?_eq_getElem bi;have ej:G.wires[sj.w]?=some G.wires[sj.w]:=getElem?_eq_getElem bj;refine Vh (Yb (n:=3) (p:=3) (ds:=[G.d,.int (i:Int),.int (j:Int)]) (g:=Wk) (R:=fun d=>d=.bl (Q1 G si||Q1 G sj)) rfl ?_);show Go (Wk [.fz G.d,.fz (.int (i:Int)),.fz (.int (j:Int))]) _ _;unfold Wk;rw [Z0g ei,Z0g ej];exact Y8 (Z3b (Zd (xs:=[G.d,.int (si.w:Int)]) (Z1 rfl (Z1 (Zd (xs:=[G.d,.int (i:Int)]) rfl (O2 G i si hi)) rfl)) (Sn G si.w _ ei)) (Zd (xs:=[G.d,.int (sj.w:Int)]) (Z1 rfl (Z1 (Zd (xs:=[G.d,.int (j:Int)]) rfl (O2 G j sj hj)) rfl)) (Sn G sj.w _ ej))) rfl
theorem Cd (G:G3) (hG:Gb 64 G) (hn:Jj G):Do [G.d]=.ok (.lst []):=by
 refine Vh (Yb (n:=4) (p:=1) (ds:=[G.d]) (g:=Mi) (R:=fun d=>d=.lst []) rfl ?_);show Go (Mi [.fz G.d,.un,.un,.un]) _ _;unfold Mi;have hs2:=hG.s2;have hlen:∀ e:Ev,e[0]?=some (.fz G.d)->dF Rq (Z4 (dO ixD (dV 0) (dC (.int 1))) Zk) e=some (.int ((G.steps.length:Nat):Int)):=fun e he=>Wg (Z1 (x:=.tup (G.steps.map St3.d)) (Z5 (x:=G.d) (by unfold dV;rw [he]) rfl rfl) rfl) (Mb St3.d G.steps)
 refine Z6 (Jo (ds:=[]) rfl ?_);refine Z6 (Vb (ds:=rng 0 G.steps.length) (fun _ e=>∃ v2 v3:Slt,e=[.fz G.d,.ow [],v2,v3]) (Yt (Z1 (hlen _ rfl) rfl) (by lia)) ⟨.un,.un,rfl⟩ ?_ ?_)
 ·rintro i d e hi ⟨v2,v3,rfl⟩
  obtain ⟨hi1,rfl⟩:=Tx hi;rw [Int.zero_add];refine ⟨_,rfl,?_⟩;obtain ⟨si,hsi⟩:∃ s,G.steps[i]?=some s:=⟨_,getElem?_eq_getElem hi1⟩;refine Vb (ds:=rng 0 G.steps.length) (fun _ e=>∃ v3:Slt,e=[.fz G.d,.ow [],.fz (.int (i:Int)),v3]) (Yt (Z1 (hlen _ rfl) rfl) (by lia)) ⟨v3,rfl⟩ ?_ ?_
  ·rintro j d e hj ⟨v3,rfl⟩
   obtain ⟨hj1,rfl⟩:=Tx hj;rw [Int.zero_add];refine ⟨_,rfl,?_⟩;obtain ⟨sj,hsj⟩:∃ s,G.steps[j]?=some s:=⟨_,getElem?_eq_getElem hj1⟩;obtain ⟨b,eb,hb⟩:=Z46 G hG i j si sj hsi hsj;refine Mq (G5 (Wo (Z5 rfl rfl (neN i j))) fun _=>G5 (Jt (Zd (xs:=[G.d,.int (i:Int),.int (j:Int)]) rfl (F3 G hG i j si sj hsi hsj))) fun _=>Jt (Zd (xs:=[G.d,.int (i:Int),.int (j:Int)]) rfl eb)) (fun hq=>?_) (fun _=>W5 ⟨_,rfl⟩);exfalso;obtain ⟨h1,h2⟩:=Bool.and_eq_true_iff.mp hq;obtain ⟨h3,h4⟩:=Bool.and_eq_true_iff.mp h2;have hij:i≠j:=by simpa using h1
   obtain ⟨q,q1,q2,q3⟩:=hb h4;obtain ⟨k1,k2⟩:=hn i j si sj hij hsi hsj q q1 q2 q3;rw [k1,k2] at h3;cases h3
  ·rintro e ⟨v3,rfl⟩
   exact ⟨_,_,rfl⟩
 ·rintro e ⟨v2,v3,rfl⟩
  exact Ec rfl rfl
structure GS (G:G3) (I:Nat×Nat->Prop) (F:List Rw):Prop where
 calm:Calm G I
 gb:Gb 64 G
 nr:Jj G
 told:Told G I F
 run:Rt [G.d,.int 400]=.ok (.lst (F.map Rw.d))
theorem Z8q {G:G3} {I:Nat×Nat->Prop} (hc:Calm G I) (hb:Gb 64 G) (hn:Jj G):∃ F,GS G I F:=by
 obtain ⟨F,e,t⟩:=Bl hb hc;exact ⟨F,hc,hb,hn,t,e⟩
theorem Hs {G:G3} {I:Nat×Nat->Prop} {F:List Rw} (h:GS G I F):M1 [G.d,.int 400]=.ok (.lst (F.map Rw.d)):=by
 refine Vh (Yb (n:=9) (p:=2) (ds:=[G.d,.int 400]) (g:=Sg) (R:=fun d=>d=.lst (F.map Rw.d)) rfl ?_);show Go (Sg [.fz G.d,.fz (.int 400),.un,.un,.un,.un,.un,.un,.un]) _ _;unfold Sg;refine Z6 (Zf (Zd (xs:=[G.d,.int 400]) rfl h.run) ?_);refine Z6 (Zf (Zd (xs:=[G.d]) rfl (Cd G h.gb h.nr)) ?_);refine Z6 (Vb (ds:=Ex 0 (F.map Rw.d)) (fun _ e=>∃ v4 v5 v6 v7 v8:Slt,e=[.fz G.d,.fz (.int 400),.fz (.lst (F.map Rw.d)),.fz (.lst []),v4,v5,v6,v7,v8]) (Io rfl) ⟨_,_,_,_,_,rfl⟩ ?_ ?_)
 ·rintro n d e hn ⟨v4,v5,v6,v7,v8,rfl⟩
  obtain ⟨x,hx,rfl⟩:=Jx hn;rw [getElem?_map] at hx;obtain ⟨r,hr,rfl⟩:=map_some hx;refine ⟨[.fz G.d,.fz (.int 400),.fz (.lst (F.map Rw.d)),.fz (.lst []),.fz (.int (n:Int)),.fz r.d,v6,v7,v8],rfl,?_⟩;refine Z6 (Zf (Zd (xs:=[G.d,Zx r.st]) (Z1 rfl (Z1 (R5 rfl rfl (Wd rfl) (Hk r)) rfl)) (Eg G h.gb r.st)) ?_);refine Vb (ds:=[]) (fun _ e=>∃ v4 v5 v6 v7 v8:Slt,e=[.fz G.d,.fz (.int 400),.fz (.lst (F.map Rw.d)),.fz (.lst []),v4,v5,v6,v7,v8]) rfl ⟨_,_,_,_,_,rfl⟩ ?_ ?_
  ·intro i d e hi
   simp at hi
  ·intro e he;exact he
 ·rintro e ⟨v4,v5,v6,v7,v8,rfl⟩
  exact Y8 rfl rfl
def U5 (G:G3) (m w:Nat):Int:=Bm (Vi G m w true) (Vi G m w false)
theorem Nu (G:G3) (hG:Gb 64 G) (p:Nat×Nat) (ws:List Nat):J8 [G.d,Zx p,.lst (Ze ws)]=.ok (.lst ((ws.map (U5 G p.1)).map .int)):=by
 refine Vh (Yb (n:=3) (p:=3) (ds:=[G.d,Zx p,.lst (Ze ws)]) (g:=T7) (R:=fun d=>d=.lst ((ws.map (U5 G p.1)).map .int)) rfl ?_);show Go (T7 [.fz G.d,.fz (Zx p),.fz (.lst (Ze ws))]) _ _;unfold T7;have hc:V8 (Yu 0) Ub (Yo E1 (Z4 (dV 1) (Z4 (dV 2) (Z4 (dV 0) Zk)))) [.un,.fz G.d,.fz (Zx p)] (Ze ws)=some ((ws.map (U5 G p.1)).map .int):=by
  rw [Wi,Va (fun w:Nat=>Dat.int (w:Int)) (fun w:Nat=>.int (U5 G p.1 w)) ws fun w _=>⟨[.fz (.int (w:Int)),.fz G.d,.fz (Zx p)],rfl,rfl,Zd (xs:=[G.d,.tup [.int (p.1:Int),.int (p.2:Int)],.int (w:Int)]) rfl (Z1t G hG p.1 _ w)⟩,map_map];rfl
 exact Y8 (Vx (Yn (xs:=Ze ws) rfl rfl hc)) rfl
theorem P9 {g:Dat->Ev->Option Ev} {t:Ev->Option Bool} {f:Ev->Option Dat} {env:Ev} {α:Type} (D E:α->Dat) (P:α->Prop):∀ (xs:List α) (k:Nat),(∀ (i:Nat) (x:α),xs[i]?=some x->∃ e1 b,g (.tup [.int ((k+i:Nat):Int),D x]) env=some e1/\t e1=some b/\f e1=some (E x)/\(b=true->P x))->∃ ys:List α,V8 g t f env (Ex k (xs.map D))=some (ys.map E)/\ys.length<=xs.length/\∀ y∈ys,P y/\y∈xs
 | [],k,_=>⟨[],rfl,le_refl _,by simp⟩
 | x::xs,k,h=>by
  obtain ⟨ys,h1,h2,h3⟩:=P9 D E P xs (k+1) fun i y hy=>by
   have:=h (i+1) y (by simpa using hy);rw [show k+1+i=k+(i+1) by lia];exact this
  obtain ⟨e1,b,a1,a2,a3,a4⟩:=h 0 x rfl;rw [Nat.add_zero] at a1;rw [map_cons,Ex,V8,a1];dsimp only [Option.bind];rw [a2];dsimp only;cases b with
  | true =>
   refine ⟨x::ys,?_,by simp;lia,fun y hy=>?_⟩
   ·rw [if_pos rfl,a3];dsimp only;rw [h1];rfl
   ·rcases mem_cons.mp hy with rfl | hy
    ·exact ⟨a4 rfl,mem_cons_self⟩
    ·exact ⟨(h3 y hy).1,mem_cons_of_mem _ (h3 y hy).2⟩
  | false =>
   refine ⟨ys,by rw [if_neg (by decide),h1],by simp;lia,fun y hy=>⟨(h3 y hy).1,mem_cons_of_mem _ (h3 y hy).2⟩⟩
theorem Z0c (ws:List Nat) (f g:Nat->Int):∃ ys:List Nat,Ds [.lst (Ze ws),.lst ((ws.map f).map .int),.lst ((ws.map g).map .int)]=.ok (.lst (Ze ys))/\ys.length<=ws.length/\∀ y∈ys,f y≠g y/\y∈ws:=by
 have:=Yb (n:=3) (p:=3) (ds:=[.lst (Ze ws),.lst ((ws.map f).map .int),.lst ((ws.map g).map .int)]) (g:=Ml) (R:=fun d=>∃ ys:List Nat,d=.lst (Ze ys)/\ys.length<=ws.length/\∀ y∈ys,f y≠g y/\y∈ws) rfl ?_
 ·obtain ⟨d,e,b,rfl,h⟩:=this
  exact ⟨b,e,h⟩
 show Go (Ml [.fz (.lst (Ze ws)),.fz (.lst ((ws.map f).map .int)),.fz (.lst ((ws.map g).map .int))]) _ _;unfold Ml;obtain ⟨ys,e,h1,h2⟩:=P9 (g:=Kf 2 (Y9 (Yu 0) (Y9 (Yu 1) Ju))) (t:=dB (dO neF (dO ixD (dV 2) (dV 0)) (dO ixD (dV 3) (dV 0)))) (f:=dV 1) (env:=[.un,.un,.fz (.lst ((ws.map f).map .int)),.fz (.lst ((ws.map g).map .int))]) (fun w:Nat=>Dat.int (w:Int)) (fun w:Nat=>Dat.int (w:Int)) (fun y=>f y≠g y) ws 0 fun i x hx=>by
  rw [zero_add];refine ⟨[.fz (.int (i:Int)),.fz (.int (x:Int)),.fz (.lst ((ws.map f).map .int)),.fz (.lst ((ws.map g).map .int))],!(f x==g x),rfl,Wo (Z5 (Z5 rfl rfl (Wt (x:=.int (f x)) (by rw [getElem?_map,getElem?_map,hx];rfl))) (Z5 rfl rfl (Wt (x:=.int (g x)) (by rw [getElem?_map,getElem?_map,hx];rfl))) (Zai _ _)),rfl,fun hb=>by simpa using hb⟩
 rw [← Wi,← Wi] at e;exact Y8 (Vx (Yn (xs:=Ex 0 (Ze ws)) (Io rfl) rfl e)) ⟨ys,rfl,h1,h2⟩
def S5 (t:Nat×Nat×Nat):Dat:=.tup [.int (t.1:Int),.int (t.2.1:Int),.int (t.2.2:Int)]
structure ClT (G:G3) (F:List Rw) (t:Nat×Nat×Nat):Prop where
 w:t.2.2<G.wires.length
 a:∃ r q,F[t.1]?=some r/\F[t.2.1]?=some q/\r.c=q.c/\U5 G r.m t.2.2≠U5 G q.m t.2.2
theorem Z31 {fs:Ev->Option (List Dat)} {env:Ev} {a b:Nat} (h:fs env=some [.int (a:Int),.int (b:Int)]) (ha:a<=100000) (hb:b<=100000):Cm fs env=some (rng (a:Int) (b - a)):=by
 unfold Cm;rw [h];dsimp only;have e:((b:Int) - (a:Int)).toNat=b - a:=by lia
 rw [e,if_pos ⟨⟨by lia,by lia,by lia,by lia⟩,by rw [sizeLine_eq];lia⟩]
theorem C1 {ds es:List Dat} (h:ds.length+es.length<=10000000):K6 ds [.lst es]=some (ds++es):=if_pos (by rw [sizeLine_eq];lia)
theorem Oz {G:G3} {I:Nat×Nat->Prop} {F:List Rw} (h:GS G I F):∃ cs:List (Nat×Nat×Nat),Yd [G.d,.lst (F.map Rw.d)]=.ok (.lst (cs.map S5))/\∀ t∈cs,ClT G F t:=by
 have hF:=h.told.le h.calm;have hw2:=h.gb.w2;have:=Yb (n:=7) (p:=2) (ds:=[G.d,.lst (F.map Rw.d)]) (g:=W9) (R:=fun d=>∃ cs:List (Nat×Nat×Nat),d=.lst (cs.map S5)/\∀ t∈cs,ClT G F t) rfl ?_
 ·obtain ⟨d,e,b,rfl,h⟩:=this
  exact ⟨b,e,h⟩
 show Go (W9 [.fz G.d,.fz (.lst (F.map Rw.d)),.un,.un,.un,.un,.un]) _ _;unfold W9;refine Z6 (Zf (Zd (xs:=[G.d]) rfl (Z4g G h.gb)) ?_);have hml:(N2 G).length<=G.wires.length:=by unfold N2;exact le_trans (List.length_filter_le _ _) (by rw [length_range];exact le_refl _)
 have hmm:∀ w∈N2 G,w<G.wires.length:=fun w hw=>Z3y hw
 generalize N2 G=ms at hml hmm;have hc:V8 (Yu 0) Ub (Yo J8 (Z4 (dV 1) (Z4 (dS slX (dV 0) M0 (Qz (dC (.int 2)))) (Z4 (dV 2) Zk)))) [.un,.fz G.d,.fz (.lst (Ze ms))] (F.map Rw.d)=some (F.map fun r:Rw=>.lst ((ms.map (U5 G r.m)).map .int)) :=
  Va Rw.d (fun r:Rw=>.lst ((ms.map (U5 G r.m)).map .int)) F fun r _=>⟨[.fz r.d,.fz G.d,.fz (.lst (Ze ms))],rfl,rfl,Zd (xs:=[G.d,Zx r.st,.lst (Ze ms)]) (Z1 rfl (Z1 (R5 rfl rfl (Wd rfl) (Hk r)) rfl)) (Nu G h.gb r.st ms)⟩
 refine Z6 (Zf (d:=.lst (F.map fun r:Rw=>.lst ((ms.map (U5 G r.m)).map .int))) (Vx (Yn (xs:=F.map Rw.d) rfl rfl hc)) ?_);refine Z6 (Jo (ds:=([]:List (Nat×Nat×Nat)).map S5) rfl ?_);have hlen:∀ e:Ev,e[1]?=some (.fz (.lst (F.map Rw.d)))->dF Rq (Z4 (dV 1) Zk) e=some (.int ((F.length:Nat):Int)):=fun e he=>Wg (Z1 (x:=.lst (F.map Rw.d)) (by unfold dV;rw [he]) rfl) (K5 Rw.d F)
 refine Z6 (Vb (ds:=rng 0 F.length) (fun i e=>∃ (cs:List (Nat×Nat×Nat)) (v5 v6:Slt),e=[.fz G.d,.fz (.lst (F.map Rw.d)),.fz (.lst (Ze ms)),.fz (.lst (F.map fun r:Rw=>.lst ((ms.map (U5 G r.m)).map .int))),.ow (cs.map S5),v5,v6]/\cs.length<=4000*i/\∀ t∈cs,ClT G F t) (Yt (Z1 (hlen _ rfl) rfl) (by lia)) ⟨[],.un,.un,rfl,by simp,by simp⟩ ?_ ?_)
 ·rintro n d e hn ⟨cs,v5,v6,rfl,hcl,hcs⟩
  obtain ⟨hn1,rfl⟩:=Tx hn;rw [Int.zero_add];refine ⟨_,rfl,?_⟩;obtain ⟨r,hr⟩:∃ r,F[n]?=some r:=⟨_,getElem?_eq_getElem hn1⟩;refine Vb (ds:=rng ((n+1:Nat):Int) (F.length - (n+1))) (fun j e=>∃ (cs:List (Nat×Nat×Nat)) (v6:Slt),e=[.fz G.d,.fz (.lst (F.map Rw.d)),.fz (.lst (Ze ms)),.fz (.lst (F.map fun r:Rw=>.lst ((ms.map (U5 G r.m)).map .int))),.ow (cs.map S5),.fz (.int (n:Int)),v6]/\cs.length<=4000*n+10*j/\∀ t∈cs,ClT G F t) (Z31 (Z1 (Z5 rfl rfl (Qu n 1)) (Z1 (hlen _ rfl) rfl)) (by lia) (by lia)) ⟨cs,v6,rfl,by lia,hcs⟩ ?_ ?_
  ·rintro j d e hj ⟨cs,v6,rfl,hcl,hcs⟩
   obtain ⟨hj1,rfl⟩:=Tx hj;obtain ⟨m,hm⟩:∃ m:Nat,n+1+j=m:=⟨_,rfl⟩;rw [show ((n+1:Nat):Int)+(j:Int)=(m:Int) by lia];refine ⟨_,rfl,?_⟩;obtain ⟨q,hq⟩:∃ r,F[m]?=some r:=⟨_,getElem?_eq_getElem (by lia)⟩;have hxr:ixD (.lst (F.map Rw.d)) (.int (n:Int))=some r.d:=Wt (by rw [getElem?_map,hr];rfl);have hxq:ixD (.lst (F.map Rw.d)) (.int (m:Int))=some q.d:=Wt (by rw [getElem?_map,hq];rfl);refine Mq (Wo (Z5 (Z5 (Z5 rfl rfl hxr) rfl rfl) (Z5 (Z5 rfl rfl hxq) rfl rfl) (eqN r.c q.c))) (fun hb=>?_) (fun _=>W5 ⟨cs,_,rfl,by lia,hcs⟩);have hrq:r.c=q.c:=by simpa using hb
   obtain ⟨ys,ey,yl,yh⟩:=Z0c ms (U5 G r.m) (U5 G q.m);have hwr:ixD (.lst (F.map fun r:Rw=>.lst ((ms.map (U5 G r.m)).map .int))) (.int (n:Int))=some (.lst ((ms.map (U5 G r.m)).map .int)):=Wt (by rw [getElem?_map,hr];rfl);have hwq:ixD (.lst (F.map fun r:Rw=>.lst ((ms.map (U5 G r.m)).map .int))) (.int (m:Int))=some (.lst ((ms.map (U5 G q.m)).map .int)):=Wt (by rw [getElem?_map,hq];rfl);have hc2:V8 (Yu 0) Ub (Uj (Z4 (dV 1) (Z4 (dV 2) (Z4 (dV 0) Zk)))) [.un,.fz (.int (n:Int)),.fz (.int (m:Int))] (Ze ys)=some (ys.map fun y=>S5 (n,m,y)):=by
    rw [Wi];exact Va (fun y:Nat=>Dat.int (y:Int)) (fun y:Nat=>S5 (n,m,y)) ys fun y _=>⟨[.fz (.int (y:Int)),.fz (.int (n:Int)),.fz (.int (m:Int))],rfl,rfl,Y2 rfl (by simp)⟩
   refine Qf (ds:=cs.map S5) (as:=[.lst (ys.map fun y=>S5 (n,m,y))]) (ds':=(cs++ys.map fun y=>(n,m,y)).map S5) rfl (Z1 (Vx (Yn (xs:=Ze ys) (Bh (Zd (xs:=[.lst (Ze ms),.lst ((ms.map (U5 G r.m)).map .int),.lst ((ms.map (U5 G q.m)).map .int)]) (Z1 rfl (Z1 (Z5 rfl rfl hwr) (Z1 (Z5 rfl rfl hwq) rfl))) ey)) rfl hc2)) rfl) (by rw [C1 (by rw [length_map,length_map];lia),map_append,map_map];rfl) ⟨_,_,rfl,by rw [length_append,length_map];lia,fun t ht=>?_⟩;rcases mem_append.mp ht with ht | ht
   ·exact hcs t ht
   ·obtain ⟨y,hy,rfl⟩:=mem_map.mp ht
    obtain ⟨y1,y2⟩:=yh y hy;exact ⟨hmm y y2,r,q,hr,hq,hrq,y1⟩
  ·rintro e ⟨cs,v6,rfl,hcl,hcs⟩
   rw [Tj] at hcl;exact ⟨cs,_,_,rfl,by lia,hcs⟩
 ·rintro e ⟨cs,v5,v6,rfl,hcl,hcs⟩
  exact Ec rfl ⟨cs,rfl,hcs⟩
theorem Gs {G:G3} {I:Nat×Nat->Prop} {F:List Rw} (h:GS G I F) {cs:List (Nat×Nat×Nat)} (e:Yd [G.d,.lst (F.map Rw.d)]=.ok (.lst (cs.map S5))):Qm [G.d,.int 400]=.ok (.lst (cs.map S5)):=by
 refine Vh (Yb (n:=2) (p:=2) (ds:=[G.d,.int 400]) (g:=Qi) (R:=fun d=>d=.lst (cs.map S5)) rfl ?_);show Go (Qi [.fz G.d,.fz (.int 400)]) _ _;unfold Qi;exact Y8 (Vx (Z1h (xs:=[G.d,.lst (F.map Rw.d)]) (Z1 rfl (Z1 (Zd (xs:=[G.d,.int 400]) rfl (Hs h)) rfl)) e)) rfl
theorem Lc {G:G3} {I:Nat×Nat->Prop} {rows:List Rw} (t:Told G I rows):∀ n,n<rows.length->(Iz rows n).length<=n/\∀ k∈Iz rows n,k<G.steps.length:=by
 intro m;induction m using Nat.strongRecOn with
 | _ m ih =>
  intro hm;rcases eq_zero_or_pos m with z | z
  ·subst z;rw [X1];exact ⟨le_refl _,by simp⟩
  ·obtain ⟨r',hr'⟩:∃ r,rows[m]?=some r:=⟨_,getElem?_eq_getElem hm⟩
   obtain ⟨f,k,s,rf,a1,a2,a3,_,_,_⟩:=t.src m r' hr' z;obtain ⟨h1,h2⟩:=ih f a2 (by lia);rw [Kd t hr' a1 z,length_append,length_singleton];refine ⟨by lia,fun x hx=>?_⟩;rcases mem_append.mp hx with q | q
   ·exact h2 x q
   ·rw [mem_singleton.mp q];exact (List.getElem?_eq_some_iff.mp a3).1
def Db (ks:List Nat):List Int:=ks.map fun k:Nat=>(k:Int)
theorem He {ks:List Nat} (h1:ks.length<=500) (h2:∀ k∈ks,k<1000):M8 (Db ks)=true:=by
 unfold M8 Db;rw [length_map,decide_eq_true h1,Bool.true_and,all_eq_true];intro n hn;obtain ⟨k,hk,rfl⟩:=mem_map.mp hn;have:=h2 k hk;rw [decide_eq_true (by lia),decide_eq_true (by lia)];rfl
def clF (F:List Rw) (t:Nat×Nat×Nat):List (Str×XD):=[("one",.nums (Db (Iz F t.1))),("other",.nums (Db (Iz F t.2.1))),("wire",.int (t.2.2:Int))]
theorem Zb9 (a b:List Nat) (w:Nat) (ha:M8 (Db a)=true) (hb:M8 (Db b)=true) (hw:w<1000):gK "one" "other" "wire" [.lst (Ze a),.lst (Ze b),.int (w:Int)]=some ([("one",.nums (Db a)),("other",.nums (Db b)),("wire",.int (w:Int))]:List (Str×XD)):=by
 unfold gK;dsimp only;have e:∀ l:List Nat,Ru (Ze l)=some (Db l):=fun l=>Ee (Db l)
 rw [e a];dsimp only [Option.bind];rw [e b];dsimp only [Option.bind];have hs:Ks (w:Int)=true:=by unfold Ks;rw [decide_eq_true (by lia),decide_eq_true (by lia)];rfl
 rw [if_pos (by rw [ha,hb,hs];rfl)]
theorem Z5a {G:G3} {I:Nat×Nat->Prop} {F:List Rw} (h:GS G I F) {cs:List (Nat×Nat×Nat)} (e:Yd [G.d,.lst (F.map Rw.d)]=.ok (.lst (cs.map S5))) (hcs:∀ t∈cs,ClT G F t):(cs=[]->Tq [G.d,.int 400]=.ok (.lst (F.map Rw.d)))/\∀ t l,cs=t::l->Tq [G.d,.int 400]=.exc "Clash" (clF F t):=by
 have hF:=h.told.le h.calm;have hs2:=h.gb.s2;have hw2:=h.gb.w2;have key:=Z5r (n:=5) (p:=2) (ds:=[G.d,.int 400]) (g:=Ud) (R:=fun d=>cs=[]/\d=.lst (F.map Rw.d)) (E:=fun c fl=>∃ t l,cs=t::l/\c="Clash" /\ fl=clF F t) rfl ?_
 ·constructor
  ·intro hc
   rcases key with ⟨d,e1,_,rfl⟩ | ⟨c,fl,_,t,l,e2,_⟩
   ·exact e1
   ·rw [hc] at e2;cases e2
  ·intro t l hc
   rcases key with ⟨d,_,e2,_⟩ | ⟨c,fl,e1,t',l',e2,rfl,rfl⟩
   ·rw [hc] at e2;cases e2
   ·rw [hc] at e2;cases e2;exact e1
 show GoE (Ud [.fz G.d,.fz (.int 400),.un,.un,.un]) _ _ _ _;unfold Ud;refine No (Zf (Zd (xs:=[G.d,.int 400]) rfl (Hs h)) ?_);refine No (Zf (Zd (xs:=[G.d,.lst (F.map Rw.d)]) rfl e) ?_);refine P4 (Z9y (b:=decide ((0:Int)<((cs.length:Nat):Int))) (Wo (Z5 (Wg (Z1 rfl rfl) (K5 S5 cs)) rfl rfl)) (fun hb=>?_) (fun hb=>(W5 ?_:Go _ _ _).toE))
 ·have:=of_decide_eq_true hb
  cases hc:cs with
  | nil=>rw [hc] at this;simp at this
  | cons t l =>
   have ht:=hcs t (by rw [hc];exact mem_cons_self);obtain ⟨r,q,h1,h2,h3,h4⟩:=ht.a;have l1:=(List.getElem?_eq_some_iff.mp h1).1;have l2:=(List.getElem?_eq_some_iff.mp h2).1;have s1:=Lc h.told t.1 l1;have s2:=Lc h.told t.2.1 l2;have hw:=ht.w;refine No (Zf (d:=S5 t) (Z5 rfl rfl (Wt (j:=0) (x:=S5 t) rfl)) ?_);exact Bw (Z1 (Zd (xs:=[.lst (F.map Rw.d),.int (t.1:Int)]) (Z1 rfl (Z1 (Z5 rfl rfl rfl) rfl)) (Pf h.calm h.told t.1 l1)) (Z1 (Zd (xs:=[.lst (F.map Rw.d),.int (t.2.1:Int)]) (Z1 rfl (Z1 (Z5 rfl rfl rfl) rfl)) (Pf h.calm h.told t.2.1 l2)) (Z1 (Z5 rfl rfl rfl) rfl))) (Zb9 _ _ t.2.2 (He (by lia) fun k hk=>by have:=s1.2 k hk;lia) (He (by lia) fun k hk=>by have:=s2.2 k hk;lia) (by lia)) ⟨t,l,rfl,rfl,rfl⟩
 ·have:=of_decide_eq_false hb
  have hc:cs=[]:=List.eq_nil_of_length_eq_zero (by lia);exact (Y8 rfl ⟨hc,rfl⟩:Go _ _ _).toE
theorem Gx (G:G3) (hG:Gb 64 G) (p:Nat×Nat) (k:Nat) (s:St3) (h:G.steps[k]?=some s):Ti [G.d,Zx p,.int (k:Int)]=.ok (.bl (My s p.1)):=by
 refine Vh (Yb (n:=4) (p:=3) (ds:=[G.d,Zx p,.int (k:Int)]) (g:=T9) (R:=fun d=>d=.bl (My s p.1)) rfl ?_);show Go (T9 [.fz G.d,.fz (Zx p),.fz (.int (k:Int)),.un]) _ _;unfold T9;have hs:=hG.st s (mem_of_getElem? h);refine Z6 (Zf (Zd (xs:=[.tup (Ze s.takes)]) (Z1 (Z5 (Z5 (Z5 rfl rfl rfl) rfl (R8 (x:=s.d) (by rw [getElem?_map,h];rfl))) rfl rfl) rfl) (To s.takes fun p hp=>by have:=hs.t p hp;lia)) ?_);exact Y8 (Z5 (Z5 (Z5 rfl rfl rfl) rfl (Z78 p.1 _)) rfl (eqN _ _)) rfl
theorem Ix (G:G3) (hG:Gb 64 G) (p:Nat×Nat) (k:Nat) (s:St3) (h:G.steps[k]?=some s) (hf:Fine s p):Ux [G.d,Zx p,.int (k:Int)]=.ok (Zx (Jm s p)):=by
 refine Vh (Yb (n:=7) (p:=3) (ds:=[G.d,Zx p,.int (k:Int)]) (g:=V3) (R:=fun d=>d=Zx (Jm s p)) rfl ?_);show Go (V3 [.fz G.d,.fz (Zx p),.fz (.int (k:Int)),.un,.un,.un,.un]) _ _;unfold V3;have hs:=hG.st s (mem_of_getElem? h);have hw1:=hs.w;have hw2:=hG.w2;refine Z6 (L5 (d:=s.d) (env':=[.fz G.d,.fz (Zx p),.fz (.int (k:Int)),.fz (.int (s.w:Int)),.fz (.bl s.up),.fz (.tup (Ze s.takes)),.fz (.tup (Ze s.fills))]) (Z5 (Z5 rfl rfl rfl) rfl (R8 (x:=s.d) (by rw [getElem?_map,h];rfl))) rfl ?_);have em:(p.1 ^^^ bitsN s.takes) ||| bitsN s.fills=(Jm s p).1:=eq_of_testBit_eq fun j=>by
  rw [testBit_or,testBit_xor,W7,W7,K1];by_cases hj:j∈s.takes
  ·rw [Ji.mp hf.can j hj,decide_eq_true hj];rfl
  ·rw [decide_eq_false hj];simp
 exact Y8 (Y2 (xs:=[.int ((Jm s p).1:Int),.int ((Jm s p).2:Int)]) (Z1 (Z5 (Z5 (Z5 rfl rfl rfl) (Zd (xs:=[.tup (Ze s.takes)]) rfl (To s.takes fun p hp=>by have:=hs.t p hp;lia)) (Zaa p.1 _)) (Zd (xs:=[.tup (Ze s.fills)]) rfl (To s.fills fun p hp=>by have:=hs.f p hp;lia)) ((orN _ _).trans (by rw [em]))) (Z1 (Z5 (Z5 rfl rfl rfl) (Z5 rfl rfl (Z26 s.w (by lia))) (Zaa p.2 _)) rfl)) (by simp)) rfl
theorem Kq {G:G3} {I:Nat×Nat->Prop} (hG:Gb 64 G) (hc:Calm G I) (ks:List Nat) (q:Nat×Nat) (ha:Along G I (G.marks,G.code) ks q):U3 [G.d,.lst (Ze ks)]=.ok (Zx q):=by
 refine Vh (Yb (n:=4) (p:=2) (ds:=[G.d,.lst (Ze ks)]) (g:=Wx) (R:=fun d=>d=Zx q) rfl ?_);show Go (Wx [.fz G.d,.fz (.lst (Ze ks)),.un,.un]) _ _;unfold Wx;refine Z6 (Zf (d:=Zx (G.marks,G.code)) (Y2 (Z1 (Z5 rfl rfl rfl) (Z1 (Z5 rfl rfl rfl) rfl)) (by simp)) ?_);refine Z6 (Vb (ds:=Ze ks) (fun i e=>∃ (p:Nat×Nat) (v:Slt),e=[.fz G.d,.fz (.lst (Ze ks)),.fz (Zx p),v]/\Along G I (G.marks,G.code) (ks.take i) p) rfl ⟨(G.marks,G.code),.un,rfl,by rw [take_zero];exact .nil _ hc.ini⟩ ?_ ?_)
 ·rintro i d e hi ⟨p,v,rfl,hp⟩
  obtain ⟨k,hk,rfl⟩:=S8 hi;obtain ⟨qi,s,b1,b2,b3,b4,b5⟩:=ha.at i k hk;have epq:=hp.det b1;subst epq;have hkl:=(List.getElem?_eq_some_iff.mp b3).1;have hsm:=mem_of_getElem? b3;have hf:Fine s p:=⟨b4,hc.lev _ s b2 hsm b4,hc.room _ s b2 hsm b4⟩;refine ⟨_,rfl,?_⟩;refine Z6 (Qs (R1 (a:=false) (b:=false) (Jd (b:=true) (Jt (Xr rfl rfl Zcq))) fun _=>R1 (a:=false) (b:=false) (Jt (Xr rfl rfl Zd1)) fun _=>Jd (b:=true) (Ar (z:=.int (G.steps.length:Int)) rfl rfl (Wg (Z1 (x:=.tup (G.steps.map St3.d)) (Z5 rfl rfl rfl) rfl) (Mb St3.d G.steps)) (by show some (Dat.bl (decide ((0:Int)<=(k:Int))))=_;rw [decide_eq_true (by lia)]) (by show some (Dat.bl (decide ((k:Int)<(G.steps.length:Int))))=_;rw [decide_eq_true (by lia)]))) (W5 ?_));refine Z6 (Qs (Jd (b:=true) (Jt (Zd (xs:=[G.d,Zx p,.int (k:Int)]) rfl (by rw [Gx G hG p k s b3,b4])))) (W5 ?_));exact Zf (Zd (xs:=[G.d,Zx p,.int (k:Int)]) rfl (Ix G hG p k s b3 hf)) ⟨_,_,rfl,b5⟩
 ·rintro e ⟨p,v,rfl,hp⟩
  have hl:(Ze ks).length=ks.length:=by unfold Ze;rw [length_map,length_map]
  rw [hl,take_of_length_le (le_refl _)] at hp;rw [ha.det hp];exact Y8 rfl rfl
theorem Sx {G:G3} {I:Nat×Nat->Prop} (hG:Gb 64 G) (hc:Calm G I) (p:Nat×Nat) (hp:I p) (w:Nat):Ur [G.d,Zx p,.int (w:Int)]=.ok (.int (U5 G p.1 w)):=by
 refine Vh (Yb (n:=5) (p:=3) (ds:=[G.d,Zx p,.int (w:Int)]) (g:=Vm) (R:=fun d=>d=.int (U5 G p.1 w)) rfl ?_);show Go (Vm [.fz G.d,.fz (Zx p),.fz (.int (w:Int)),.un,.un]) _ _;unfold Vm;have called:∀ (s:St3),s∈G.steps->s.w=w->My s p.1=true->U5 G p.1 w=2*(if s.up then 1 else 0) - 1:=fun s hs hw hcn=>by
  have hup:∀ r∈G.steps,r.w=w->My r p.1=true->r.up=s.up:=fun r hr hrw hrc=>by
   have a:=hc.lev p r hp hr hrc;have b:=hc.lev p s hp hs hcn;rw [hrw] at a;rw [hw] at b;revert a b;cases p.2.testBit w<;>cases r.up<;>cases s.up<;>simp
  have c1:Vi G p.1 w s.up=true:=any_eq_true.mpr ⟨s,hs,by unfold Z0y;rw [hw,hcn];simp⟩;have c2:Vi G p.1 w (!s.up)=false:=by
   cases hx:Vi G p.1 w (!s.up) with
   | false=>rfl
   | true =>
    obtain ⟨r,hr,hq⟩:=any_eq_true.mp hx;unfold Z0y at hq;simp only [Bool.and_eq_true,beq_iff_eq] at hq;have:=hup r hr hq.1.1 hq.2;rw [this] at hq;have:=hq.1.2;cases s.up<;>simp at this
  unfold U5 Bm;cases hu:s.up with
  | true=>rw [hu] at c1;rw [c1];rfl
  | false =>
   rw [hu] at c1 c2;have c2':Vi G p.1 w true=false:=c2;rw [c1,c2'];rfl
 refine Z6 (Vb (ds:=Ex 0 (G.steps.map St3.d)) (fun i e=>∃ v3 v4:Slt,e=[.fz G.d,.fz (Zx p),.fz (.int (w:Int)),v3,v4]/\∀ s∈G.steps.take i,¬ (s.w=w/\My s p.1=true)) (by unfold O9;rw [G0 (xs:=G.steps.map St3.d) (Z5 rfl rfl rfl)];rfl) ⟨_,_,rfl,by simp⟩ ?_ ?_)
 ·rintro i d e hi ⟨v3,v4,rfl,hno⟩
  obtain ⟨x,hx,rfl⟩:=Jx hi;rw [getElem?_map] at hx;obtain ⟨s,hs,rfl⟩:=map_some hx;have hsm:=mem_of_getElem? hs;refine ⟨[.fz G.d,.fz (Zx p),.fz (.int (w:Int)),.fz (.int (i:Int)),.fz s.d],rfl,?_⟩;refine Mq (b:=s.w==w&&My s p.1) (G5 (Wo (Z5 (Z5 rfl rfl rfl) rfl (eqN s.w w))) fun _=>Jt (Zd (xs:=[G.d,Zx p,.int (i:Int)]) rfl (Gx G hG p i s hs))) (fun hb=>?_) (fun hb=>W5 ⟨_,_,rfl,fun r hr=>?_⟩)
  ·rw [Bool.and_eq_true,beq_iff_eq] at hb
   have hu:=called s hsm hb.1 hb.2;refine Y8 (d:=.int (2*(if s.up then 1 else 0) - 1)) (Z5 (Z5 rfl (Wg (Z1 (x:=.bl s.up) (Z5 rfl rfl rfl) rfl) (Zbv s.up)) (E9 (.inl (by lia)))) rfl rfl) ?_;rw [hu]
  ·rw [take_succ,hs] at hr
   rcases mem_append.mp hr with q | q
   ·exact hno r q
   ·rw [mem_singleton.mp q]
    rintro ⟨h1,h2⟩;rw [h1,h2] at hb;simp at hb
 ·rintro e ⟨v3,v4,rfl,hno⟩
  rw [Ul,length_map,take_of_length_le (le_refl _)] at hno;refine Y8 (d:=.int 0) rfl ?_;have cz:∀ u,Vi G p.1 w u=false:=fun u=>by
   cases hx:Vi G p.1 w u with
   | false=>rfl
   | true =>
    obtain ⟨r,hr,hq⟩:=any_eq_true.mp hx;unfold Z0y at hq;simp only [Bool.and_eq_true,beq_iff_eq] at hq;exact absurd ⟨hq.1.1,hq.2⟩ (hno r hr)
  unfold U5 Bm;rw [cz true,cz false];rfl
theorem Gb.up {G:G3} (h:Gb 54 G):Gb 64 G:=⟨h.w2,h.s1,h.s2,fun s hs=>⟨(h.st s hs).w,fun p hp=>by have:=(h.st s hs).t p hp;lia,fun p hp=>by have:=(h.st s hs).f p hp;lia,(h.st s hs).tn,(h.st s hs).fn⟩,lt_of_lt_of_le h.mks (pow_le_pow_right (by lia) (by lia))⟩
theorem Z52 {i:Nat} {F:List Dat->Rs} {fs:Ev->Option (List Dat)} {env:Ev} {ds:List Dat} {d:Dat} (e:fs env=some ds) (h:F ds=.ok d):Oi i F fs env=.next (env.set i (.fz d)):=by unfold Oi;rw [e];dsimp only;rw [h]
theorem Z2h {i:Nat} {F:List Dat->Rs} {fs:Ev->Option (List Dat)} {env:Ev} {ds:List Dat} {c:Str} {fl:List (Str×XD)} (e:fs env=some ds) (h:F ds=.exc c fl):Oi i F fs env=.exc env c fl:=by unfold Oi;rw [e];dsimp only;rw [h]
theorem Hw {okc:Str->Bool} {fd:Str} {f:Ev->Option Dat} {env:Ev} {c:Str} {fl:List (Str×XD)} {x:XD} (h:f env=some (.exc c fl)) (hs:okc c=true) (hx:fl.lookup fd=some x):Jz okc fd f env=some x.d:=by unfold Jz;rw [h];show (if okc c=true then (fl.lookup fd).map XD.d else none)=_;rw [if_pos hs,hx];rfl
theorem Ai (fl:List (Str×XD)):Uz [.exc "Clash" fl]=.ok (.bl false):=by
 refine Vh (Yb (n:=2) (p:=1) (ds:=[.exc "Clash" fl]) (g:=V7) (R:=fun d=>d=.bl false) rfl ?_);show Go (V7 [.fz (.exc "Clash" fl),.un]) _ _;unfold V7;refine Z6 (Zf (d:=.lst ([false,false,false].map Dat.bl)) (Vx (Sw (Z1 (S9 rfl (by decide +kernel)) (Z1 (S9 rfl (by decide +kernel)) (Z1 (S9 rfl (by decide +kernel)) rfl))) (by simp))) ?_);refine Z6 (Zf (d:=.lst ([false,false,false,false,false,false].map Dat.bl)) (Z5 rfl (Vx (Sw (Z1 (S9 rfl (b:=false) (by decide +kernel)) (Z1 (S9 rfl (b:=false) (by decide +kernel)) (Z1 (S9 rfl (b:=false) (by decide +kernel)) rfl))) (by simp))) rfl) ?_);exact Y8 (Z3b (a:=false) (b:=false) (Wg (Z1 rfl rfl) (Bd [false,false,false,false,false,false])) (S9 rfl (by decide +kernel))) rfl
theorem Xz (cs:List (Nat×Nat×Nat)):eqF (.lst (cs.map S5)) (.lst [])=some (.bl (decide (cs=[]))):=by
 have hp:pd 20 (.lst (cs.map S5))=true:=all_eq_true.mpr fun x hx=>by obtain ⟨t,_,rfl⟩:=mem_map.mp hx;rfl
 unfold eqF;rw [hp];cases cs with
 | nil=>rfl
 | cons t l=>rw [decide_eq_false (by simp)];rfl
theorem Fh (cs:List (Nat×Nat×Nat)):neF (.lst (cs.map S5)) (.lst [])=some (.bl (!decide (cs=[]))):=by
 have hp:pd 20 (.lst (cs.map S5))=true:=all_eq_true.mpr fun x hx=>by obtain ⟨t,_,rfl⟩:=mem_map.mp hx;rfl
 unfold neF;rw [hp];cases cs with
 | nil=>rfl
 | cons t l=>rw [decide_eq_false (by simp)];rfl
def Zce (F:List Rw):List (Nat×Nat×Nat)->List Dat
 | []=>[.non,.lst (F.map Rw.d)]
 | t::_=>[.exc "Clash" (clF F t),.non]
theorem Z4y {G:G3} {I:Nat×Nat->Prop} {F:List Rw} (h:GS G I F) {cs:List (Nat×Nat×Nat)} (e:Yd [G.d,.lst (F.map Rw.d)]=.ok (.lst (cs.map S5))) (hcs:∀ t∈cs,ClT G F t):Ja [G.d]=.ok (.tup (Zce F cs)):=by
 obtain ⟨n1,n2⟩:=Z5a h e hcs;refine Vh (Yb (n:=4) (p:=1) (ds:=[G.d]) (g:=U9) (R:=fun d=>d=.tup (Zce F cs)) rfl ?_);show Go (U9 [.fz G.d,.un,.un,.un]) _ _;unfold U9;refine Z6 (Zf (d:=.non) rfl ?_);refine Z6 (Zf (d:=.non) rfl ?_);cases cs with
 | nil =>
  refine Z6 (Z4m (Z52 (ds:=[G.d,.int 400]) rfl (n1 rfl)) ?_);exact Y8 (Y2 rfl (by simp)) rfl
 | cons t l =>
  refine Z6 (Z6f (Z2h (ds:=[G.d,.int 400]) rfl (n2 t l rfl)) (by decide +kernel) (e3:=[.fz G.d,.fz (.exc "Clash" (clF F t)),.fz .non,.fz (.exc "Clash" (clF F t))]) rfl ?_);exact Y8 (Y2 rfl (by simp)) rfl
theorem Z09 {G:G3} {I:Nat×Nat->Prop} {F:List Rw} (h:GS G I F) {cs:List (Nat×Nat×Nat)} (e:Yd [G.d,.lst (F.map Rw.d)]=.ok (.lst (cs.map S5))) (hcs:∀ t∈cs,ClT G F t):U6 [G.d]=.ok (.bl true):=by
 have et:=Z4y h e hcs;refine Vh (Yb (n:=7) (p:=1) (ds:=[G.d]) (g:=Uc) (R:=fun d=>d=.bl true) rfl ?_);show Go (Uc [.fz G.d,.un,.un,.un,.un,.un,.un]) _ _;unfold Uc;refine Z6 (Zf (Zd (xs:=[G.d,.int 400]) rfl (Gs h e)) ?_);refine Z6 (Zf (Zd (xs:=[G.d,.int 400]) rfl (Hs h)) ?_);cases cs with
 | nil =>
  refine Z6 (L5 (env':=[.fz G.d,.fz (.lst []),.fz (.lst (F.map Rw.d)),.fz .non,.fz (.lst (F.map Rw.d)),.un,.un]) (Zd (xs:=[G.d]) rfl et) rfl ?_);exact Z6 (Z3h (Wo (Z5 rfl rfl rfl)) (Y8 (Z0u (Z5 rfl rfl rfl) (Z5 rfl rfl (Z20 (Z0q F)))) rfl))
 | cons t l =>
  have ht:=hcs t mem_cons_self;obtain ⟨r,q,h1,h2,h3,h4⟩:=ht.a;have l1:=(List.getElem?_eq_some_iff.mp h1).1;have l2:=(List.getElem?_eq_some_iff.mp h2).1;have hI1:=h.told.inv r (mem_of_getElem? h1);have hI2:=h.told.inv q (mem_of_getElem? h2);have x0:ixD (.lst ((t::l).map S5)) (.int 0)=some (S5 t):=Wt (j:=0) (x:=S5 t) rfl;have xr:ixD (.lst (F.map Rw.d)) (.int (t.1:Int))=some r.d:=Wt (by rw [getElem?_map,h1];rfl);have xq:ixD (.lst (F.map Rw.d)) (.int (t.2.1:Int))=some q.d:=Wt (by rw [getElem?_map,h2];rfl);have f1:∀ e:Ev,e[3]?=some (.fz (.exc "Clash" (clF F t)))->Jz (Ym N64_) "one" (dV 3) e=some (.lst (Ze (Iz F t.1))):=fun e he=>Hw (x:=XD.nums (Db (Iz F t.1))) (c:="Clash") (fl:=clF F t) (by unfold dV;rw [he]) (by decide +kernel) (by unfold clF;simp [List.lookup])
  have f2:∀ e:Ev,e[3]?=some (.fz (.exc "Clash" (clF F t)))->Jz (Ym N64_) "other" (dV 3) e=some (.lst (Ze (Iz F t.2.1))):=fun e he=>Hw (x:=XD.nums (Db (Iz F t.2.1))) (c:="Clash") (fl:=clF F t) (by unfold dV;rw [he]) (by decide +kernel) (by
   have n1:(("other" : Str)==("one" : Str))=false:=by decide +kernel
   unfold clF;simp [List.lookup,n1])
  have f3:∀ e:Ev,e[3]?=some (.fz (.exc "Clash" (clF F t)))->Jz (Ym N64_) "wire" (dV 3) e=some (.int (t.2.2:Int)):=fun e he=>Hw (x:=XD.int (t.2.2:Int)) (c:="Clash") (fl:=clF F t) (by unfold dV;rw [he]) (by decide +kernel) (by
   have n1:(("wire" : Str)==("one" : Str))=false:=by decide +kernel
   have n2:(("wire" : Str)==("other" : Str))=false:=by decide +kernel
   unfold clF;simp [List.lookup,n1,n2])
  refine Z6 (L5 (env':=[.fz G.d,.fz (.lst ((t::l).map S5)),.fz (.lst (F.map Rw.d)),.fz (.exc "Clash" (clF F t)),.fz .non,.un,.un]) (Zd (xs:=[G.d]) rfl et) rfl ?_);refine Z6 (Qs (Wo (Z5 rfl rfl ((Xz (t::l)).trans (by rw [decide_eq_false (by simp)])))) (W5 ?_));refine Z6 (Qs (R1 (a:=false) (b:=false) (Jd (b:=true) (Jt (S9 rfl (by decide +kernel)))) fun _=>R1 (a:=false) (b:=false) (Jd (b:=true) (Jt (S9 rfl (by decide +kernel)))) fun _=>Jt (Zd (xs:=[.exc "Clash" (clF F t)]) rfl (Ai _))) (W5 ?_));refine Z6 (Qs (R1 (a:=false) (b:=false) (Jd (b:=true) (Jt (Xr (f1 _ rfl) rfl Zcp))) fun _=>R1 (a:=false) (b:=false) (Jd (b:=true) (Jt (Xr (f2 _ rfl) rfl Zcp))) fun _=>Wo (Z5 (f3 _ rfl) (Z5 (Z5 rfl rfl x0) rfl rfl) (Di ⟨rfl,Mc _⟩))) (W5 ?_));refine Z6 (Qs (R1 (a:=false) (b:=false) (Jd (b:=true) (Jt (Xr (f3 _ rfl) rfl Zcq))) fun _=>Jt (Xr (f3 _ rfl) rfl Zd1)) (W5 ?_));refine Z6 (Zf (Zd (xs:=[G.d,.lst (Ze (Iz F t.1))]) (Z1 rfl (Z1 (f1 _ rfl) rfl)) (Kq h.gb h.calm _ _ (Kp h.calm h.told t.1 r h1))) ?_);refine Z6 (Zf (Zd (xs:=[G.d,.lst (Ze (Iz F t.2.1))]) (Z1 rfl (Z1 (f2 _ rfl) rfl)) (Kq h.gb h.calm _ _ (Kp h.calm h.told t.2.1 q h2))) ?_);have pne:∀ p:Nat×Nat,neF (Zx p) (Zx p)=some (.bl false):=fun p=>by rw [Cv,decide_eq_true rfl];rfl
  refine Z6 (Qs (R1 (a:=false) (b:=false) (Wo (Z5 rfl (R5 (Z5 rfl (Z5 (Z5 rfl rfl x0) rfl rfl) xr) rfl (Wd rfl) (Hk r)) (pne _))) fun _=>R1 (a:=false) (b:=false) (Wo (Z5 rfl (R5 (Z5 rfl (Z5 (Z5 rfl rfl x0) rfl rfl) xq) rfl (Wd rfl) (Hk q)) (pne _))) fun _=>Wo (Z5 (Z5 rfl rfl rfl) (Z5 rfl rfl rfl) (show neF (.int (r.c:Int)) (.int (q.c:Int))=some (.bl false) by rw [h3];exact Di ⟨rfl,Mc _⟩))) (W5 ?_));refine Z6 (Qs (R1 (a:=false) (b:=false) (Wo (Z5 (f1 _ rfl) (Zd (xs:=[.lst (F.map Rw.d),.int (t.1:Int)]) (Z1 rfl (Z1 (Z5 (Z5 rfl rfl x0) rfl rfl) rfl)) (Pf h.calm h.told t.1 l1)) (Di (L7 _)))) fun _=>Wo (Z5 (f2 _ rfl) (Zd (xs:=[.lst (F.map Rw.d),.int (t.2.1:Int)]) (Z1 rfl (Z1 (Z5 (Z5 rfl rfl x0) rfl rfl) rfl)) (Pf h.calm h.told t.2.1 l2)) (Di (L7 _)))) (W5 ?_));refine Y8 (Z5 (Zd (xs:=[G.d,Zx r.st,.int (t.2.2:Int)]) (Z1 rfl (Z1 rfl (Z1 (f3 _ rfl) rfl))) (Sx h.gb h.calm r.st hI1 t.2.2)) (Zd (xs:=[G.d,Zx q.st,.int (t.2.2:Int)]) (Z1 rfl (Z1 rfl (Z1 (f3 _ rfl) rfl))) (Sx h.gb h.calm q.st hI2 t.2.2)) (Zai _ _)) ?_;have hne:U5 G r.st.1 t.2.2≠U5 G q.st.1 t.2.2:=h4;rw [show (U5 G r.st.1 t.2.2==U5 G q.st.1 t.2.2)=false from beq_eq_false_iff_ne.mpr hne];rfl
theorem Z7r (ns:List Int) (hl:ns.length<=63):Za5 [.lst (ns.map .int)]=.ok (.bl true):=by
 refine Vh (Yb (n:=5) (p:=1) (ds:=[scr ns]) (g:=A7) (R:=fun d=>d=.bl true) rfl ?_);show Go (A7 [.fz (scr ns),.un,.un,.un,.un]) _ _;unfold A7;obtain ⟨c,ec,lc⟩:=D7 ns 0 (by lia);have ec':∀ env:Ev,env[0]?=some (.fz (scr ns))->Yo Zw (Z4 (dV 0) (Z4 (dC (.int 0)) Zk)) env=some (.int (c:Int)):=fun env h0=>Zd (xs:=[scr ns,.int ((0:Nat):Int)]) (Z1 (by unfold dV;rw [h0]) rfl) ec
 obtain ⟨G,eG,hG⟩:=Z7l ns 1 4 5 (by lia) (by lia) (by lia) (by lia);refine Z6 (Zf (Zd (xs:=[scr ns,.int ((1:Nat):Int),.int ((4:Nat):Int),.int ((5:Nat):Int)]) rfl eG) ?_);refine Z6 (Go.mono (N:=fun e=>∃ (G:G3) (I:Nat×Nat->Prop),e=[.fz (scr ns),.fz G.d,.un,.un,.un]/\Calm G I/\Gb 64 G/\Jj G/\1<=G.wires.length) ?_ ?_ (fun _ h=>h))
 ·obtain ⟨I,hI⟩:=hG.calm
  refine Mq (Wo (Z5 (Z5 (Z5 (ec' _ rfl) rfl (Uw c 4096 (by lia) (by lia))) rfl (Ro _ 3 (by lia))) rfl (eqN _ 0))) (fun _=>?_) (fun _=>W5 ⟨G,I,rfl,hI,Gb.up hG.gb,hG.nr,hG.w1⟩);obtain ⟨G',z,e,h1,h2⟩:=F7 G hG.gb (c / 12288);exact Zf (Zd (xs:=[G.d,.int ((c / 12288:Nat):Int)]) (Z1 rfl (Z1 (Z5 (ec' _ rfl) rfl (Uw c 12288 (by lia) (by lia))) rfl)) e) ⟨G',_,rfl,Bt h1.look hI,h2,Xe h1 hG.nr,by rw [h1.ws];exact hG.w1⟩
 clear hG eG G;rintro e ⟨G,I,rfl,hc,hb,hn,hw1⟩;obtain ⟨F,h⟩:=Z8q hc hb hn;obtain ⟨cs,ea,hcs⟩:=Oz h;have hgood:=Z09 h ea hcs;have hw2:=hb.w2;refine Z6 (Qs (Jd (b:=true) (Jt (Zd (xs:=[G.d]) rfl hgood))) (W5 ?_));refine Z6 (Zf (Z5 (ec' _ rfl) (Wg (Z1 (x:=.tup (G.wires.map Mv)) (Z5 rfl rfl rfl) rfl) (Mb Mv G.wires)) (Ro c G.wires.length (by lia))) ?_);have hmod:c % G.wires.length<G.wires.length:=mod_lt _ (by lia);generalize c % G.wires.length=w0 at hmod;refine Z6 (Zf (Zd (xs:=[G.d,.int 400]) rfl (Gs h ea)) ?_);refine Z6 (Go.mono (N:=fun e=>∃ w:Nat,w<G.wires.length/\e=[.fz (scr ns),.fz G.d,.fz (.int (w:Int)),.fz (.lst (cs.map S5)),.un]) ?_ ?_ (fun _ h=>h))
 ·refine Mq (Wo (Z5 rfl rfl (Fh cs))) (fun hb=>?_) (fun _=>W5 ⟨w0,hmod,rfl⟩)
  have hne:cs≠[]:=by simpa using hb
  cases cs with
  | nil=>exact absurd rfl hne
  | cons t l=>exact Zf (d:=.int (t.2.2:Int)) (Z5 (Z5 rfl rfl (Wt (j:=0) (x:=S5 t) rfl)) rfl rfl) ⟨t.2.2,(hcs t mem_cons_self).w,rfl⟩
 rintro e ⟨w,hw,rfl⟩;have ew:G.wires[w]?=some G.wires[w]:=getElem?_eq_getElem hw;refine Z6 (Jo (ds:=G.wires.map Mv) (Wg (Z1 (x:=.tup (G.wires.map Mv)) (Z5 rfl rfl rfl) rfl) rfl) ?_);refine Z6 (Fq (ds:=G.wires.map Mv) (d:=Mv (G.wires[w].1,false)) (k:=w) rfl (Y2 (Z1 (Z5 (Z5 rfl rfl (Wt (x:=Mv G.wires[w]) (by rw [getElem?_map,ew];rfl))) rfl rfl) rfl) (by simp)) rfl (by rw [length_map];exact hw) ?_);have ed:.tup [.tup ((G.wires.map Mv).set w (Mv (G.wires[w].1,false))),.tup (G.steps.map St3.d),.int (G.marks:Int),.int (G.code:Int)]=(Dz G w G.wires[w].1).d:=by
  show _=Dat.tup [.tup ((G.wires.set w (G.wires[w].1,false)).map Mv),.tup (G.steps.map St3.d),.int (G.marks:Int),.int (G.code:Int)];rw [List.map_set]
 have hb':Gb 64 (Dz G w G.wires[w].1):=by
  have hl:(Dz G w G.wires[w].1).wires.length=G.wires.length:=by show (G.wires.set w _).length=_;rw [length_set]
  exact ⟨by rw [hl];exact hb.w2,hb.s1,hb.s2,fun s hs=>by rw [hl];exact hb.st s hs,hb.mks⟩
 obtain ⟨F',h'⟩:=Z8q (A6 hc w G.wires[w].1) hb' (Nb hn w G.wires[w].1);obtain ⟨cs',ea',hcs'⟩:=Oz h';have hgood':=Z09 h' ea' hcs';exact Y8 (Z0u (Zd (xs:=[(Dz G w G.wires[w].1).d]) (Z1 (Z5 (Y2 (Z1 (Wg (Z1 rfl rfl) rfl) rfl) (by simp)) (R5 rfl (Wd rfl) rfl (Dy _ _ _)) ((Sk (xs:=[.tup ((G.wires.map Mv).set w (Mv (G.wires[w].1,false)))]) (ys:=[.tup (G.steps.map St3.d),.int (G.marks:Int),.int (G.code:Int)]) (by simp)).trans (by rw [← ed];rfl))) rfl) hgood') (Zd (xs:=[G.d]) rfl hgood)) rfl
end K42
set_option maxHeartbeats 4000000
namespace K42
open PySem PySem.Spec PyProof.Rows L2
abbrev DA (K:PySem.W.Frag) (n:Str) (f:Addr):Prop:=PySem.W.nsIn K mainGlobals n=some (some (.ref f))
abbrev DL (K:PySem.W.Frag) (n:Str) (st:Stmt) (f:Addr) (oc:Value) (od:Option Addr) (kV dc pm:Value) (an:Option Addr) (cd ct:Value) (sl:Array (Option Value)):Prop:=K.lookup f=some ⟨oc,od,.func (fnOf n n (Qd st) (Wp st) (Z7 st) .none kV dc pm an cd ct),sl⟩
theorem Zd2 {l:PySem.W.OpenLaw} {w:World} {K:PySem.W.Frag} {h:Heap} {mg:Str->Option Value} {fa:Addr} (X:K.In h) (G:h.Ns mainGlobals mg) (hfa:mg "law" = some (.ref fa))
  {f0 f1 f2 f3 f4 f5 f6 f7 f8 f9 f10 f11 f12 f13 f14 f15 f16 f17 f18 f19 f20 f21 f22 f23 f24 f25 f26 f27 f28 f29 f30 f31 f32 f33 f34 f35 f36 f37 f38 f39 f40 f41 f42 f43:Addr} {od0 od1 od2 od3 od4 od5 od6 od7 od8 od9 od10 od11 od12 od13 od14 od15 od16 od17 od18 od19 od20 od21 od22 od23 od24 od25 od26 od27 od28 od29 od30 od31 od32 od33 od34 od35 od36 od37 od38 od39 od40 od41 od42 od43 an0 an1 an2 an3 an4 an5 an6 an7 an8 an9 an10 an11 an12 an13 an14 an15 an16 an17 an18 an19 an20 an21 an22 an23 an24 an25 an26 an27 an28 an29 an30 an31 an32 an33 an34 an35 an36 an37 an38 an39 an40 an41 an42 an43:Option Addr} {sl0 sl1 sl2 sl3 sl4 sl5 sl6 sl7 sl8 sl9 sl10 sl11 sl12 sl13 sl14 sl15 sl16 sl17 sl18 sl19 sl20 sl21 sl22 sl23 sl24 sl25 sl26 sl27 sl28 sl29 sl30 sl31 sl32 sl33 sl34 sl35 sl36 sl37 sl38 sl39 sl40 sl41 sl42 sl43:Array (Option Value)} {oc0 oc1 oc2 oc3 oc4 oc5 oc6 oc7 oc8 oc9 oc10 oc11 oc12 oc13 oc14 oc15 oc16 oc17 oc18 oc19 oc20 oc21 oc22 oc23 oc24 oc25 oc26 oc27 oc28 oc29 oc30 oc31 oc32 oc33 oc34 oc35 oc36 oc37 oc38 oc39 oc40 oc41 oc42 oc43 kV0 kV1 kV2 kV3 kV4 kV5 kV6 kV7 kV8 kV9 kV10 kV11 kV12 kV13 kV14 kV15 kV16 kV17 kV18 kV19 kV20 kV21 kV22 kV23 kV24 kV25 kV26 kV27 kV28 kV29 kV30 kV31 kV32 kV33 kV34 kV35 kV36 kV37 kV38 kV39 kV40 kV41 kV42 kV43 dc0 dc1 dc2 dc3 dc4 dc5 dc6 dc7 dc8 dc9 dc10 dc11 dc12 dc13 dc14 dc15 dc16 dc17 dc18 dc19 dc20 dc21 dc22 dc23 dc24 dc25 dc26 dc27 dc28 dc29 dc30 dc31 dc32 dc33 dc34 dc35 dc36 dc37 dc38 dc39 dc40 dc41 dc42 dc43 pm0 pm1 pm2 pm3 pm4 pm5 pm6 pm7 pm8 pm9 pm10 pm11 pm12 pm13 pm14 pm15 pm16 pm17 pm18 pm19 pm20 pm21 pm22 pm23 pm24 pm25 pm26 pm27 pm28 pm29 pm30 pm31 pm32 pm33 pm34 pm35 pm36 pm37 pm38 pm39 pm40 pm41 pm42 pm43 cd0 cd1 cd2 cd3 cd4 cd5 cd6 cd7 cd8 cd9 cd10 cd11 cd12 cd13 cd14 cd15 cd16 cd17 cd18 cd19 cd20 cd21 cd22 cd23 cd24 cd25 cd26 cd27 cd28 cd29 cd30 cd31 cd32 cd33 cd34 cd35 cd36 cd37 cd38 cd39 cd40 cd41 cd42 cd43 ct0 ct1 ct2 ct3 ct4 ct5 ct6 ct7 ct8 ct9 ct10 ct11 ct12 ct13 ct14 ct15 ct16 ct17 ct18 ct19 ct20 ct21 ct22 ct23 ct24 ct25 ct26 ct27 ct28 ct29 ct30 ct31 ct32 ct33 ct34 ct35 ct36 ct37 ct38 ct39 ct40 ct41 ct42 ct43:Value}
  {C_0:Addr}
  {C_3:Addr}
  {C_4:Addr}
  {C_1:Addr}
  {C_5:Addr}
  {C_6:Addr}
  {C_7:Addr}
  {C_2:Addr}
  {C_8:Addr}
  {J_4:Addr} {qd_4 qa_4 qo_4:Option Addr} {qs_4 qt_4:Array (Option Value)} {qk_4 qc_4 kV_4 dc_4 pm_4 cv_4 ct_4:Value} {cd_4:ClassData}
  (a0:DA K "is_made" f0) (l0:DL K "is_made" J9 f0 oc0 od0 kV0 dc0 pm0 an0 cd0 ct0 sl0) (c0:codeIn K cd0 "is_made" = true) (k0:PySem.W.keepIn K (.ref f0)=true)
  (a1:DA K "made" f1) (l1:DL K "made" D1 f1 oc1 od1 kV1 dc1 pm1 an1 cd1 ct1 sl1) (c1:codeIn K cd1 "made" = true) (k1:PySem.W.keepIn K (.ref f1)=true)
  (a2:DA K "steps_of" f2) (l2:DL K "steps_of" Vt f2 oc2 od2 kV2 dc2 pm2 an2 cd2 ct2 sl2) (c2:codeIn K cd2 "steps_of" = true) (k2:PySem.W.keepIn K (.ref f2)=true)
  (a3:DA K "wire_of" f3) (l3:DL K "wire_of" Qv f3 oc3 od3 kV3 dc3 pm3 an3 cd3 ct3 sl3) (c3:codeIn K cd3 "wire_of" = true) (k3:PySem.W.keepIn K (.ref f3)=true)
  (a4:DA K "is_rise" f4) (l4:DL K "is_rise" Qt f4 oc4 od4 kV4 dc4 pm4 an4 cd4 ct4 sl4) (c4:codeIn K cd4 "is_rise" = true) (k4:PySem.W.keepIn K (.ref f4)=true)
  (a5:DA K "takes_of" f5) (l5:DL K "takes_of" T4 f5 oc5 od5 kV5 dc5 pm5 an5 cd5 ct5 sl5) (c5:codeIn K cd5 "takes_of" = true) (k5:PySem.W.keepIn K (.ref f5)=true)
  (a6:DA K "fills_of" f6) (l6:DL K "fills_of" T6 f6 oc6 od6 kV6 dc6 pm6 an6 cd6 ct6 sl6) (c6:codeIn K cd6 "fills_of" = true) (k6:PySem.W.keepIn K (.ref f6)=true)
  (a7:DA K "bits" f7) (l7:DL K "bits" Gz f7 oc7 od7 kV7 dc7 pm7 an7 cd7 ct7 sl7) (c7:codeIn K cd7 "bits" = true) (k7:PySem.W.keepIn K (.ref f7)=true)
  (a8:DA K "has_one" f8) (l8:DL K "has_one" Ql f8 oc8 od8 kV8 dc8 pm8 an8 cd8 ct8 sl8) (c8:codeIn K cd8 "has_one" = true) (k8:PySem.W.keepIn K (.ref f8)=true)
  (a9:DA K "can" f9) (l9:DL K "can" Xy f9 oc9 od9 kV9 dc9 pm9 an9 cd9 ct9 sl9) (c9:codeIn K cd9 "can" = true) (k9:PySem.W.keepIn K (.ref f9)=true)
  (a10:DA K "behind" f10) (l10:DL K "behind" Mf f10 oc10 od10 kV10 dc10 pm10 an10 cd10 ct10 sl10) (c10:codeIn K cd10 "behind" = true) (k10:PySem.W.keepIn K (.ref f10)=true)
  (a11:DA K "steps_at" f11) (l11:DL K "steps_at" Vw f11 oc11 od11 kV11 dc11 pm11 an11 cd11 ct11 sl11) (c11:codeIn K cd11 "steps_at" = true) (k11:PySem.W.keepIn K (.ref f11)=true)
  (a12:DA K "way" f12) (l12:DL K "way" Fa f12 oc12 od12 kV12 dc12 pm12 an12 cd12 ct12 sl12) (c12:codeIn K cd12 "way" = true) (k12:PySem.W.keepIn K (.ref f12)=true)
  (a13:DA K "come_to" f13) (l13:DL K "come_to" Qj f13 oc13 od13 kV13 dc13 pm13 an13 cd13 ct13 sl13) (c13:codeIn K cd13 "come_to" = true) (k13:PySem.W.keepIn K (.ref f13)=true)
  (a14:DA K "stands" f14) (l14:DL K "stands" Mj f14 oc14 od14 kV14 dc14 pm14 an14 cd14 ct14 sl14) (c14:codeIn K cd14 "stands" = true) (k14:PySem.W.keepIn K (.ref f14)=true)
  (a15:DA K "is_called" f15) (l15:DL K "is_called" Wr f15 oc15 od15 kV15 dc15 pm15 an15 cd15 ct15 sl15) (c15:codeIn K cd15 "is_called" = true) (k15:PySem.W.keepIn K (.ref f15)=true)
  (a16:DA K "wants" f16) (l16:DL K "wants" Sl f16 oc16 od16 kV16 dc16 pm16 an16 cd16 ct16 sl16) (c16:codeIn K cd16 "wants" = true) (k16:PySem.W.keepIn K (.ref f16)=true)
  (a17:DA K "robs" f17) (l17:DL K "robs" Hi f17 oc17 od17 kV17 dc17 pm17 an17 cd17 ct17 sl17) (c17:codeIn K cd17 "robs" = true) (k17:PySem.W.keepIn K (.ref f17)=true)
  (a18:DA K "touches_made" f18) (l18:DL K "touches_made" Wl f18 oc18 od18 kV18 dc18 pm18 an18 cd18 ct18 sl18) (c18:codeIn K cd18 "touches_made" = true) (k18:PySem.W.keepIn K (.ref f18)=true)
  (a19:DA K "rivals" f19) (l19:DL K "rivals" Mn f19 oc19 od19 kV19 dc19 pm19 an19 cd19 ct19 sl19) (c19:codeIn K cd19 "rivals" = true) (k19:PySem.W.keepIn K (.ref f19)=true)
  (a20:DA K "sound" f20) (l20:DL K "sound" Sf f20 oc20 od20 kV20 dc20 pm20 an20 cd20 ct20 sl20) (c20:codeIn K cd20 "sound" = true) (k20:PySem.W.keepIn K (.ref f20)=true)
  (a21:DA K "wants_of" f21) (l21:DL K "wants_of" Vq f21 oc21 od21 kV21 dc21 pm21 an21 cd21 ct21 sl21) (c21:codeIn K cd21 "wants_of" = true) (k21:PySem.W.keepIn K (.ref f21)=true)
  (a22:DA K "unlike" f22) (l22:DL K "unlike" Qb f22 oc22 od22 kV22 dc22 pm22 an22 cd22 ct22 sl22) (c22:codeIn K cd22 "unlike" = true) (k22:PySem.W.keepIn K (.ref f22)=true)
  (a23:DA K "clashes_among" f23) (l23:DL K "clashes_among" Ya f23 oc23 od23 kV23 dc23 pm23 an23 cd23 ct23 sl23) (c23:codeIn K cd23 "clashes_among" = true) (k23:PySem.W.keepIn K (.ref f23)=true)
  (a24:DA K "clashes" f24) (l24:DL K "clashes" Qn f24 oc24 od24 kV24 dc24 pm24 an24 cd24 ct24 sl24) (c24:codeIn K cd24 "clashes" = true) (k24:PySem.W.keepIn K (.ref f24)=true)
  (a25:DA K "need_none" f25) (l25:DL K "need_none" Uk f25 oc25 od25 kV25 dc25 pm25 an25 cd25 ct25 sl25) (c25:codeIn K cd25 "need_none" = true) (k25:PySem.W.keepIn K (.ref f25)=true)
  (a26:DA K "_law_mix" f26) (l26:DL K "_law_mix" Tb f26 oc26 od26 kV26 dc26 pm26 an26 cd26 ct26 sl26) (c26:codeIn K cd26 "_law_mix" = true) (k26:PySem.W.keepIn K (.ref f26)=true)
  (a27:DA K "_law_word" f27) (l27:DL K "_law_word" Ue f27 oc27 od27 kV27 dc27 pm27 an27 cd27 ct27 sl27) (c27:codeIn K cd27 "_law_word" = true) (k27:PySem.W.keepIn K (.ref f27)=true)
  (a28:DA K "_law_order" f28) (l28:DL K "_law_order" Vp f28 oc28 od28 kV28 dc28 pm28 an28 cd28 ct28 sl28) (c28:codeIn K cd28 "_law_order" = true) (k28:PySem.W.keepIn K (.ref f28)=true)
  (a29:DA K "_law_arrows" f29) (l29:DL K "_law_arrows" V2 f29 oc29 od29 kV29 dc29 pm29 an29 cd29 ct29 sl29) (c29:codeIn K cd29 "_law_arrows" = true) (k29:PySem.W.keepIn K (.ref f29)=true)
  (a30:DA K "_law_graph" f30) (l30:DL K "_law_graph" Y1 f30 oc30 od30 kV30 dc30 pm30 an30 cd30 ct30 sl30) (c30:codeIn K cd30 "_law_graph" = true) (k30:PySem.W.keepIn K (.ref f30)=true)
  (a31:DA K "_law_choice" f31) (l31:DL K "_law_choice" Zq f31 oc31 od31 kV31 dc31 pm31 an31 cd31 ct31 sl31) (c31:codeIn K cd31 "_law_choice" = true) (k31:PySem.W.keepIn K (.ref f31)=true)
  (a32:DA K "_law_wider" f32) (l32:DL K "_law_wider" Wc f32 oc32 od32 kV32 dc32 pm32 an32 cd32 ct32 sl32) (c32:codeIn K cd32 "_law_wider" = true) (k32:PySem.W.keepIn K (.ref f32)=true)
  (a33:DA K "_law_any_graph" f33) (l33:DL K "_law_any_graph" Yz f33 oc33 od33 kV33 dc33 pm33 an33 cd33 ct33 sl33) (c33:codeIn K cd33 "_law_any_graph" = true) (k33:PySem.W.keepIn K (.ref f33)=true)
  (a34:DA K "_law_bits" f34) (l34:DL K "_law_bits" Ua f34 oc34 od34 kV34 dc34 pm34 an34 cd34 ct34 sl34) (c34:codeIn K cd34 "_law_bits" = true) (k34:PySem.W.keepIn K (.ref f34)=true)
  (a35:DA K "_law_can" f35) (l35:DL K "_law_can" T5 f35 oc35 od35 kV35 dc35 pm35 an35 cd35 ct35 sl35) (c35:codeIn K cd35 "_law_can" = true) (k35:PySem.W.keepIn K (.ref f35)=true)
  (a36:DA K "_law_behind" f36) (l36:DL K "_law_behind" V5 f36 oc36 od36 kV36 dc36 pm36 an36 cd36 ct36 sl36) (c36:codeIn K cd36 "_law_behind" = true) (k36:PySem.W.keepIn K (.ref f36)=true)
  (a37:DA K "_law_wants" f37) (l37:DL K "_law_wants" Vu f37 oc37 od37 kV37 dc37 pm37 an37 cd37 ct37 sl37) (c37:codeIn K cd37 "_law_wants" = true) (k37:PySem.W.keepIn K (.ref f37)=true)
  (a38:DA K "_law_lookers" f38) (l38:DL K "_law_lookers" Yr f38 oc38 od38 kV38 dc38 pm38 an38 cd38 ct38 sl38) (c38:codeIn K cd38 "_law_lookers" = true) (k38:PySem.W.keepIn K (.ref f38)=true)
  (a39:DA K "_law_walked" f39) (l39:DL K "_law_walked" Wy f39 oc39 od39 kV39 dc39 pm39 an39 cd39 ct39 sl39) (c39:codeIn K cd39 "_law_walked" = true) (k39:PySem.W.keepIn K (.ref f39)=true)
  (a40:DA K "_law_told" f40) (l40:DL K "_law_told" Uf f40 oc40 od40 kV40 dc40 pm40 an40 cd40 ct40 sl40) (c40:codeIn K cd40 "_law_told" = true) (k40:PySem.W.keepIn K (.ref f40)=true)
  (a41:DA K "_law_others" f41) (l41:DL K "_law_others" V0 f41 oc41 od41 kV41 dc41 pm41 an41 cd41 ct41 sl41) (c41:codeIn K cd41 "_law_others" = true) (k41:PySem.W.keepIn K (.ref f41)=true)
  (a42:DA K "_law_good" f42) (l42:DL K "_law_good" U7 f42 oc42 od42 kV42 dc42 pm42 an42 cd42 ct42 sl42) (c42:codeIn K cd42 "_law_good" = true) (k42:PySem.W.keepIn K (.ref f42)=true)
  (a43:DA K "law" f43) (l43:DL K "law" Ky f43 oc43 od43 kV43 dc43 pm43 an43 cd43 ct43 sl43) (c43:codeIn K cd43 "law" = true) (k43:PySem.W.keepIn K (.ref f43)=true)
  (z_ValueError:PySem.W.nsIn K mainGlobals "ValueError" = some none)
  (z_any:PySem.W.nsIn K mainGlobals "any" = some none)
  (z_bool:PySem.W.nsIn K mainGlobals "bool" = some none)
  (z_enumerate:PySem.W.nsIn K mainGlobals "enumerate" = some none)
  (z_int:PySem.W.nsIn K mainGlobals "int" = some none)
  (z_isinstance:PySem.W.nsIn K mainGlobals "isinstance" = some none)
  (z_len:PySem.W.nsIn K mainGlobals "len" = some none)
  (z_list:PySem.W.nsIn K mainGlobals "list" = some none)
  (z_max:PySem.W.nsIn K mainGlobals "max" = some none)
  (z_min:PySem.W.nsIn K mainGlobals "min" = some none)
  (z_range:PySem.W.nsIn K mainGlobals "range" = some none)
  (z_reversed:PySem.W.nsIn K mainGlobals "reversed" = some none)
  (z_sorted:PySem.W.nsIn K mainGlobals "sorted" = some none)
  (z_tuple:PySem.W.nsIn K mainGlobals "tuple" = some none)
  (y_0:PySem.W.nsIn K mainGlobals "Broken" = some (some (.ref C_0)))
  (y_3:PySem.W.nsIn K mainGlobals "CalledOff" = some (some (.ref C_3)))
  (y_4:PySem.W.nsIn K mainGlobals "Clash" = some (some (.ref C_4)))
  (y_1:PySem.W.nsIn K mainGlobals "Crowded" = some (some (.ref C_1)))
  (y_5:PySem.W.nsIn K mainGlobals "NoMove" = some (some (.ref C_5)))
  (y_6:PySem.W.nsIn K mainGlobals "NoPlace" = some (some (.ref C_6)))
  (y_7:PySem.W.nsIn K mainGlobals "NoText" = some (some (.ref C_7)))
  (y_2:PySem.W.nsIn K mainGlobals "TooMany" = some (some (.ref C_2)))
  (y_8:PySem.W.nsIn K mainGlobals "CalmError" = some (some (.ref C_8)))
  (b0:PySem.W.specialIn K (.ref C_8) "__getattribute__" = some (some (.builtin "type.__getattribute__"))) (b1:PySem.W.readsIn K C_8 (.type "type")=true) (b2:PySem.W.findCls K (.ref C_8) (.type "type") "__init__" = some (.val (.builtin "ValueError.__init__")))
  (o_4:K.lookup C_4=some ⟨qk_4,qd_4,.cls cd_4,qs_4⟩) (n_4:PySem.W.nsIn K cd_4.ns "__init__" = some (some (.ref J_4))) (jl_4:K.lookup J_4=some ⟨qc_4,qo_4,.func (fnOf "__init__" "Clash.__init__" (Qd i_4) (Wp i_4) (Z7 i_4) .none kV_4 dc_4 pm_4 qa_4 cv_4 ct_4),qt_4⟩) (w_4:codeIn K cv_4 "Clash.__init__" = true) (p_4:PySem.W.keepIn K (.ref J_4)=true) (g_4:PySem.W.isFn K (.ref J_4)=true) (h_4:PySem.W.keepIn K (.ref C_4)=true)
  (x_4:Fu K C_4 J_4 C_8=true)
  (ra_4:PySem.W.findIn K (.ref C_4) "__class__" = some (some (.builtin "object.__class__"))) (rb_4:PySem.W.findIn K (.ref C_4) "__getattribute__" = some (some (.builtin "BaseException.__getattribute__"))) (rc_4:PySem.W.findIn K (.ref C_4) "__getattr__" = some none) (rd_4:PySem.W.findIn K (.ref C_4) "__setattr__" = some (some (.builtin "object.__setattr__"))) (re_4_one:PySem.W.findIn K (.ref C_4) "one" = some none) (re_4_other:PySem.W.findIn K (.ref C_4) "other" = some none) (re_4_wire:PySem.W.findIn K (.ref C_4) "wire" = some none)
  (s_4:PySem.W.exmOne K (.ref C_4) (.ref C_8)=some true)
  (tv_4:PySem.W.kitOne K (.ref C_4) (.type "ValueError")=some true)
  (t_4_0:PySem.W.kitOne K (.ref C_4) (.ref C_0)=some false)
  (t_4_3:PySem.W.kitOne K (.ref C_4) (.ref C_3)=some false)
  (t_4_4:PySem.W.kitOne K (.ref C_4) (.ref C_4)=some true)
  (t_4_1:PySem.W.kitOne K (.ref C_4) (.ref C_1)=some false)
  (t_4_5:PySem.W.kitOne K (.ref C_4) (.ref C_5)=some false)
  (t_4_6:PySem.W.kitOne K (.ref C_4) (.ref C_6)=some false)
  (t_4_7:PySem.W.kitOne K (.ref C_4) (.ref C_7)=some false)
  (t_4_2:PySem.W.kitOne K (.ref C_4) (.ref C_2)=some false) :
  ∃ fd:FuncData,(∀ (s:Shared) (v:Value),BindsTo s fd ⟨[v],[]⟩ [("_law_script",v)])/\∀ base:Heap,K.In base->base.Ns mainGlobals mg->FnOk l.prog w K mg base CX0 10 fa fd N60_ (Bu K):=by
 have e:=hfa.symm.trans (mg_of X G a43);cases e;have xc_4:XCls K C_4:=Z44 x_4 ra_4 rb_4 rc_4 rd_4;have B:BaseC K mg C_8:=⟨mg_of X G y_8,b0,b1,b2⟩;have T:Txt K mg:={ b_ValueError:=mg_none_of X G z_ValueError,b_any:=mg_none_of X G z_any,b_bool:=mg_none_of X G z_bool,b_enumerate:=mg_none_of X G z_enumerate,b_int:=mg_none_of X G z_int,b_isinstance:=mg_none_of X G z_isinstance,b_len:=mg_none_of X G z_len,b_list:=mg_none_of X G z_list,b_max:=mg_none_of X G z_max,b_min:=mg_none_of X G z_min,b_range:=mg_none_of X G z_range,b_reversed:=mg_none_of X G z_reversed,b_sorted:=mg_none_of X G z_sorted,b_tuple:=mg_none_of X G z_tuple,i_0:=Sz (mg_of X G y_0) (forall_mem_cons.mpr ⟨⟨C_4,y_4,t_4_0.trans (by decide +kernel),xc_4⟩,(fun _ h=>nomatch h)⟩),i_3:=Sz (mg_of X G y_3) (forall_mem_cons.mpr ⟨⟨C_4,y_4,t_4_3.trans (by decide +kernel),xc_4⟩,(fun _ h=>nomatch h)⟩),i_4:=Sz (mg_of X G y_4) (forall_mem_cons.mpr ⟨⟨C_4,y_4,t_4_4.trans (by decide +kernel),xc_4⟩,(fun _ h=>nomatch h)⟩),i_1:=Sz (mg_of X G y_1) (forall_mem_cons.mpr ⟨⟨C_4,y_4,t_4_1.trans (by decide +kernel),xc_4⟩,(fun _ h=>nomatch h)⟩),i_5:=Sz (mg_of X G y_5) (forall_mem_cons.mpr ⟨⟨C_4,y_4,t_4_5.trans (by decide +kernel),xc_4⟩,(fun _ h=>nomatch h)⟩),i_6:=Sz (mg_of X G y_6) (forall_mem_cons.mpr ⟨⟨C_4,y_4,t_4_6.trans (by decide +kernel),xc_4⟩,(fun _ h=>nomatch h)⟩),i_7:=Sz (mg_of X G y_7) (forall_mem_cons.mpr ⟨⟨C_4,y_4,t_4_7.trans (by decide +kernel),xc_4⟩,(fun _ h=>nomatch h)⟩),i_2:=Sz (mg_of X G y_2) (forall_mem_cons.mpr ⟨⟨C_4,y_4,t_4_2.trans (by decide +kernel),xc_4⟩,(fun _ h=>nomatch h)⟩),j_ValueError:=Z75 (forall_mem_cons.mpr ⟨⟨C_4,y_4,tv_4,xc_4⟩,(fun _ h=>nomatch h)⟩),k_8:=Z5p (mg_of X G y_8) (forall_mem_cons.mpr ⟨⟨C_4,y_4,s_4⟩,(fun _ h=>nomatch h)⟩),f_one:=Oj (forall_mem_cons.mpr ⟨⟨C_4,y_4,xc_4,re_4_one⟩,(fun _ h=>nomatch h)⟩),f_other:=Oj (forall_mem_cons.mpr ⟨⟨C_4,y_4,xc_4,re_4_other⟩,(fun _ h=>nomatch h)⟩),f_wire:=Oj (forall_mem_cons.mpr ⟨⟨C_4,y_4,xc_4,re_4_wire⟩,(fun _ h=>nomatch h)⟩) };have D_is_made:Def K mg "is_made" J9:=⟨_,_,Y7 (st:=J9) l0 c0 k0,mg_of X G a0⟩;have D_made:Def K mg "made" D1:=⟨_,_,Y7 (st:=D1) l1 c1 k1,mg_of X G a1⟩;have D_steps_of:Def K mg "steps_of" Vt:=⟨_,_,Y7 (st:=Vt) l2 c2 k2,mg_of X G a2⟩;have D_wire_of:Def K mg "wire_of" Qv:=⟨_,_,Y7 (st:=Qv) l3 c3 k3,mg_of X G a3⟩;have D_is_rise:Def K mg "is_rise" Qt:=⟨_,_,Y7 (st:=Qt) l4 c4 k4,mg_of X G a4⟩;have D_takes_of:Def K mg "takes_of" T4:=⟨_,_,Y7 (st:=T4) l5 c5 k5,mg_of X G a5⟩;have D_fills_of:Def K mg "fills_of" T6:=⟨_,_,Y7 (st:=T6) l6 c6 k6,mg_of X G a6⟩;have D_bits:Def K mg "bits" Gz:=⟨_,_,Y7 (st:=Gz) l7 c7 k7,mg_of X G a7⟩;have D_has_one:Def K mg "has_one" Ql:=⟨_,_,Y7 (st:=Ql) l8 c8 k8,mg_of X G a8⟩;have D_can:Def K mg "can" Xy:=⟨_,_,Y7 (st:=Xy) l9 c9 k9,mg_of X G a9⟩;have D_behind:Def K mg "behind" Mf:=⟨_,_,Y7 (st:=Mf) l10 c10 k10,mg_of X G a10⟩;have D_steps_at:Def K mg "steps_at" Vw:=⟨_,_,Y7 (st:=Vw) l11 c11 k11,mg_of X G a11⟩;have D_way:Def K mg "way" Fa:=⟨_,_,Y7 (st:=Fa) l12 c12 k12,mg_of X G a12⟩;have D_come_to:Def K mg "come_to" Qj:=⟨_,_,Y7 (st:=Qj) l13 c13 k13,mg_of X G a13⟩;have D_stands:Def K mg "stands" Mj:=⟨_,_,Y7 (st:=Mj) l14 c14 k14,mg_of X G a14⟩;have D_is_called:Def K mg "is_called" Wr:=⟨_,_,Y7 (st:=Wr) l15 c15 k15,mg_of X G a15⟩;have D_wants:Def K mg "wants" Sl:=⟨_,_,Y7 (st:=Sl) l16 c16 k16,mg_of X G a16⟩;have D_robs:Def K mg "robs" Hi:=⟨_,_,Y7 (st:=Hi) l17 c17 k17,mg_of X G a17⟩;have D_touches_made:Def K mg "touches_made" Wl:=⟨_,_,Y7 (st:=Wl) l18 c18 k18,mg_of X G a18⟩;have D_rivals:Def K mg "rivals" Mn:=⟨_,_,Y7 (st:=Mn) l19 c19 k19,mg_of X G a19⟩;have D_sound:Def K mg "sound" Sf:=⟨_,_,Y7 (st:=Sf) l20 c20 k20,mg_of X G a20⟩;have D_wants_of:Def K mg "wants_of" Vq:=⟨_,_,Y7 (st:=Vq) l21 c21 k21,mg_of X G a21⟩;have D_unlike:Def K mg "unlike" Qb:=⟨_,_,Y7 (st:=Qb) l22 c22 k22,mg_of X G a22⟩;have D_clashes_among:Def K mg "clashes_among" Ya:=⟨_,_,Y7 (st:=Ya) l23 c23 k23,mg_of X G a23⟩;have D_clashes:Def K mg "clashes" Qn:=⟨_,_,Y7 (st:=Qn) l24 c24 k24,mg_of X G a24⟩;have D_need_none:Def K mg "need_none" Uk:=⟨_,_,Y7 (st:=Uk) l25 c25 k25,mg_of X G a25⟩;have D__law_mix:Def K mg "_law_mix" Tb:=⟨_,_,Y7 (st:=Tb) l26 c26 k26,mg_of X G a26⟩;have D__law_word:Def K mg "_law_word" Ue:=⟨_,_,Y7 (st:=Ue) l27 c27 k27,mg_of X G a27⟩;have D__law_order:Def K mg "_law_order" Vp:=⟨_,_,Y7 (st:=Vp) l28 c28 k28,mg_of X G a28⟩;have D__law_arrows:Def K mg "_law_arrows" V2:=⟨_,_,Y7 (st:=V2) l29 c29 k29,mg_of X G a29⟩;have D__law_graph:Def K mg "_law_graph" Y1:=⟨_,_,Y7 (st:=Y1) l30 c30 k30,mg_of X G a30⟩;have D__law_choice:Def K mg "_law_choice" Zq:=⟨_,_,Y7 (st:=Zq) l31 c31 k31,mg_of X G a31⟩;have D__law_wider:Def K mg "_law_wider" Wc:=⟨_,_,Y7 (st:=Wc) l32 c32 k32,mg_of X G a32⟩;have D__law_any_graph:Def K mg "_law_any_graph" Yz:=⟨_,_,Y7 (st:=Yz) l33 c33 k33,mg_of X G a33⟩;have D__law_bits:Def K mg "_law_bits" Ua:=⟨_,_,Y7 (st:=Ua) l34 c34 k34,mg_of X G a34⟩;have D__law_can:Def K mg "_law_can" T5:=⟨_,_,Y7 (st:=T5) l35 c35 k35,mg_of X G a35⟩;have D__law_behind:Def K mg "_law_behind" V5:=⟨_,_,Y7 (st:=V5) l36 c36 k36,mg_of X G a36⟩;have D__law_wants:Def K mg "_law_wants" Vu:=⟨_,_,Y7 (st:=Vu) l37 c37 k37,mg_of X G a37⟩;have D__law_lookers:Def K mg "_law_lookers" Yr:=⟨_,_,Y7 (st:=Yr) l38 c38 k38,mg_of X G a38⟩;have D__law_walked:Def K mg "_law_walked" Wy:=⟨_,_,Y7 (st:=Wy) l39 c39 k39,mg_of X G a39⟩;have D__law_told:Def K mg "_law_told" Uf:=⟨_,_,Y7 (st:=Uf) l40 c40 k40,mg_of X G a40⟩;have D__law_others:Def K mg "_law_others" V0:=⟨_,_,Y7 (st:=V0) l41 c41 k41,mg_of X G a41⟩;have D__law_good:Def K mg "_law_good" U7:=⟨_,_,Y7 (st:=U7) l42 c42 k42,mg_of X G a42⟩;have F43:=Y7 (st:=Ky) l43 c43 k43;refine ⟨fnOf "law" "law" (Qd Ky) (Wp Ky) (Z7 Ky) .none kV43 dc43 pm43 an43 cd43 ct43,fun s v=>.of_eq rfl,fun base _ _=>?_⟩;have M_4:=m_4 (P:=l.prog) (w:=w) (base:=base) B (Y7 (st:=i_4) jl_4 w_4 p_4) y_4 (mg_of X G y_4) h_4 x_4 xc_4 re_4_one re_4_other re_4_wire g_4 (mg_none_of X G z_list);have C_is_made:=Cw (P:=l.prog) (w:=w) (base:=base) D_is_made T;have C_made:=Z7u (P:=l.prog) (w:=w) (base:=base) D_made T C_is_made;have C_steps_of:=Xh (P:=l.prog) (w:=w) (base:=base) D_steps_of T;have C_wire_of:=B0 (P:=l.prog) (w:=w) (base:=base) D_wire_of T;have C_is_rise:=Aj (P:=l.prog) (w:=w) (base:=base) D_is_rise T;have C_takes_of:=Fk (P:=l.prog) (w:=w) (base:=base) D_takes_of T;have C_fills_of:=Xn (P:=l.prog) (w:=w) (base:=base) D_fills_of T;have C_bits:=Z9b (P:=l.prog) (w:=w) (base:=base) D_bits T;have C_has_one:=Z0k (P:=l.prog) (w:=w) (base:=base) D_has_one T;have C_can:=Zar (P:=l.prog) (w:=w) (base:=base) D_can T C_bits C_takes_of;have C_behind:=Z1i (P:=l.prog) (w:=w) (base:=base) D_behind T C_wire_of C_bits C_has_one C_is_rise C_fills_of C_takes_of;have C_steps_at:=Fy (P:=l.prog) (w:=w) (base:=base) D_steps_at T C_can;have C_way:=Zas (P:=l.prog) (w:=w) (base:=base) D_way T;have C_come_to:=Az (P:=l.prog) (w:=w) (base:=base) D_come_to T C_behind C_way;have C_stands:=Z2q (P:=l.prog) (w:=w) (base:=base) D_stands T C_steps_at C_come_to;have C_is_called:=Ol (P:=l.prog) (w:=w) (base:=base) D_is_called T C_can C_steps_of;have C_wants:=Z5e (P:=l.prog) (w:=w) (base:=base) D_wants T C_is_called;have C_robs:=Z81 (P:=l.prog) (w:=w) (base:=base) D_robs T C_bits C_takes_of C_fills_of;have C_touches_made:=Gg (P:=l.prog) (w:=w) (base:=base) D_touches_made T C_is_made C_wire_of;have C_rivals:=Z2m (P:=l.prog) (w:=w) (base:=base) D_rivals T C_touches_made C_robs;have C_sound:=Z5w (P:=l.prog) (w:=w) (base:=base) D_sound T C_stands C_rivals C_steps_at C_way;have C_wants_of:=F4 (P:=l.prog) (w:=w) (base:=base) D_wants_of T C_wants;have C_unlike:=Z2l (P:=l.prog) (w:=w) (base:=base) D_unlike T;have C_clashes_among:=G4 (P:=l.prog) (w:=w) (base:=base) D_clashes_among T C_made C_wants_of C_unlike;have C_clashes:=Ao (P:=l.prog) (w:=w) (base:=base) D_clashes T C_clashes_among C_sound;have C_need_none:=Nx (P:=l.prog) (w:=w) (base:=base) D_need_none T M_4 C_sound C_clashes_among C_way;have C__law_mix:=Xv (P:=l.prog) (w:=w) (base:=base) D__law_mix T;have C__law_word:=Nn (P:=l.prog) (w:=w) (base:=base) D__law_word T;have C__law_order:=Kx (P:=l.prog) (w:=w) (base:=base) D__law_order T C__law_mix;have C__law_arrows:=Ij (P:=l.prog) (w:=w) (base:=base) D__law_arrows T C__law_mix;have C__law_graph:=L0 (P:=l.prog) (w:=w) (base:=base) D__law_graph T C__law_order C__law_mix C__law_arrows C__law_word;have C__law_choice:=Iv (P:=l.prog) (w:=w) (base:=base) D__law_choice T C__law_mix C__law_word;have C__law_wider:=Kj (P:=l.prog) (w:=w) (base:=base) D__law_wider T;have C__law_any_graph:=Da (P:=l.prog) (w:=w) (base:=base) D__law_any_graph T C__law_mix C__law_choice C__law_graph C__law_wider;have C__law_bits:=Oe (P:=l.prog) (w:=w) (base:=base) D__law_bits T;have C__law_can:=Xi (P:=l.prog) (w:=w) (base:=base) D__law_can T C__law_bits;have C__law_behind:=Ik (P:=l.prog) (w:=w) (base:=base) D__law_behind T C__law_bits;have C__law_wants:=Kn (P:=l.prog) (w:=w) (base:=base) D__law_wants T C__law_can;have C__law_lookers:=Gi (P:=l.prog) (w:=w) (base:=base) D__law_lookers T C__law_bits;have C__law_walked:=Hq (P:=l.prog) (w:=w) (base:=base) D__law_walked T C__law_behind C__law_can;have C__law_told:=Ny (P:=l.prog) (w:=w) (base:=base) D__law_told T C_need_none;have C__law_others:=Iq (P:=l.prog) (w:=w) (base:=base) D__law_others T;have C__law_good:=O7 (P:=l.prog) (w:=w) (base:=base) D__law_good T C_clashes C_sound C__law_told C__law_walked C__law_others C__law_wants C_way;exact Zc4 F43 T C__law_any_graph C_clashes C__law_lookers C__law_good C__law_mix Z7r
theorem Ze7 {l:PySem.W.OpenLaw} {q:Program} {loose:List Str} {XP:(Str->Option Value)->Heap->Prop} {YP:World->Heap->Prop} {d:DefRec} {K:Params->PySem.W.Frag} (hn:l.most=some 63) (hdf:d.params.defaults=[])
  (hY:∀ (w:World) (h:Heap),YP w h->(K w.params).In h)
  (F:∀ (w:World) (mg:Str->Option Value) (fa:Addr) (h:Heap),(K w.params).In h->h.Ns mainGlobals mg->mg d.name=some (.ref fa) ->
   ∃ fd:FuncData,(∀ (s:Shared) (u:Value),BindsTo s fd ⟨[u],[]⟩ [("_law_script",u)])/\∀ base:Heap,(K w.params).In base->base.Ns mainGlobals mg->FnOk l.prog w (K w.params) mg base CX0 10 fa fd N60_ (Bu (K w.params))) :
  PySem.W.WalkO q loose XP YP l.row.toRowW d [] (fun f vs=>PySem.call f vs) :=
 L2.Zaw (n:=63) (k:=10) (x:="_law_script") (CX:=fun _=>CX0) (sp:=fun w=>Bu (K w.params)) hn (by decide) hdf ⟨rfl,by decide,by decide,rfl⟩ hY F (fun _ _ a ns hl _ hS=>⟨a,ns,rfl,hS,hl,fun _=>rfl⟩) fun _ _ _ _ _ z=>z
end K42
open PySem PySem.W PyProof.Rows
set_option maxRecDepth 100000 in
set_option maxHeartbeats 0 in
theorem PySem.Challenge.cw_calmwires_k42_two_ways_to_a_clash_holds : PySem.Challenge.rw_calmwires_k42_two_ways_to_a_clash.Holds := by
 refine theTop ?_
 k_fill;refine K42.Ze7 (l:=PySem.Challenge.rw_calmwires_k42_two_ways_to_a_clash) rfl rfl (fun w h Y=>PySem.W.kIn_of Y) ?F
 case F =>
   intro w mg fa h KX G hmg;refine' K42.Zd2 KX G hmg ?a0 ?l0 ?c0 ?k0 ?a1 ?l1 ?c1 ?k1 ?a2 ?l2 ?c2 ?k2 ?a3 ?l3 ?c3 ?k3 ?a4 ?l4 ?c4 ?k4 ?a5 ?l5 ?c5 ?k5 ?a6 ?l6 ?c6 ?k6 ?a7 ?l7 ?c7 ?k7 ?a8 ?l8 ?c8 ?k8 ?a9 ?l9 ?c9 ?k9 ?a10 ?l10 ?c10 ?k10 ?a11 ?l11 ?c11 ?k11 ?a12 ?l12 ?c12 ?k12 ?a13 ?l13 ?c13 ?k13 ?a14 ?l14 ?c14 ?k14 ?a15 ?l15 ?c15 ?k15 ?a16 ?l16 ?c16 ?k16 ?a17 ?l17 ?c17 ?k17 ?a18 ?l18 ?c18 ?k18 ?a19 ?l19 ?c19 ?k19 ?a20 ?l20 ?c20 ?k20 ?a21 ?l21 ?c21 ?k21 ?a22 ?l22 ?c22 ?k22 ?a23 ?l23 ?c23 ?k23 ?a24 ?l24 ?c24 ?k24 ?a25 ?l25 ?c25 ?k25 ?a26 ?l26 ?c26 ?k26 ?a27 ?l27 ?c27 ?k27 ?a28 ?l28 ?c28 ?k28 ?a29 ?l29 ?c29 ?k29 ?a30 ?l30 ?c30 ?k30 ?a31 ?l31 ?c31 ?k31 ?a32 ?l32 ?c32 ?k32 ?a33 ?l33 ?c33 ?k33 ?a34 ?l34 ?c34 ?k34 ?a35 ?l35 ?c35 ?k35 ?a36 ?l36 ?c36 ?k36 ?a37 ?l37 ?c37 ?k37 ?a38 ?l38 ?c38 ?k38 ?a39 ?l39 ?c39 ?k39 ?a40 ?l40 ?c40 ?k40 ?a41 ?l41 ?c41 ?k41 ?a42 ?l42 ?c42 ?k42 ?a43 ?l43 ?c43 ?k43 ?z_ValueError ?z_any ?z_bool ?z_enumerate ?z_int ?z_isinstance ?z_len ?z_list ?z_max ?z_min ?z_range ?z_reversed ?z_sorted ?z_tuple ?y_0 ?y_3 ?y_4 ?y_1 ?y_5 ?y_6 ?y_7 ?y_2 ?y_8 ?b0 ?b1 ?b2 ?o_4 ?n_4 ?jl_4 ?w_4 ?p_4 ?g_4 ?h_4 ?x_4 ?ra_4 ?rb_4 ?rc_4 ?rd_4 ?re_4_one ?re_4_other ?re_4_wire ?s_4 ?tv_4 ?t_4_0 ?t_4_3 ?t_4_4 ?t_4_1 ?t_4_5 ?t_4_6 ?t_4_7 ?t_4_2
   case a0 | l0 | c0 | k0 | a1 | l1 | c1 | k1 | a2 | l2 | c2 | k2 | a3 | l3 | c3 | k3 | a4 | l4 | c4 | k4 | a5 | l5 | c5 | k5 | a6 | l6 | c6 | k6 | a7 | l7 | c7 | k7 | a8 | l8 | c8 | k8 | a9 | l9 | c9 | k9 | a10 | l10 | c10 | k10 | a11 | l11 | c11 | k11 | a12 | l12 | c12 | k12 | a13 | l13 | c13 | k13 | a14 | l14 | c14 | k14 | a15 | l15 | c15 | k15 | a16 | l16 | c16 | k16 | a17 | l17 | c17 | k17 | a18 | l18 | c18 | k18 | a19 | l19 | c19 | k19 | a20 | l20 | c20 | k20 | a21 | l21 | c21 | k21 | a22 | l22 | c22 | k22 | a23 | l23 | c23 | k23 | a24 | l24 | c24 | k24 | a25 | l25 | c25 | k25 | a26 | l26 | c26 | k26 | a27 | l27 | c27 | k27 | a28 | l28 | c28 | k28 | a29 | l29 | c29 | k29 | a30 | l30 | c30 | k30 | a31 | l31 | c31 | k31 | a32 | l32 | c32 | k32 | a33 | l33 | c33 | k33 | a34 | l34 | c34 | k34 | a35 | l35 | c35 | k35 | a36 | l36 | c36 | k36 | a37 | l37 | c37 | k37 | a38 | l38 | c38 | k38 | a39 | l39 | c39 | k39 | a40 | l40 | c40 | k40 | a41 | l41 | c41 | k41 | a42 | l42 | c42 | k42 | a43 | l43 | c43 | k43 | z_ValueError | z_any | z_bool | z_enumerate | z_int | z_isinstance | z_len | z_list | z_max | z_min | z_range | z_reversed | z_sorted | z_tuple | y_0 | y_3 | y_4 | y_1 | y_5 | y_6 | y_7 | y_2 | y_8 | b0 | b1 | b2 | o_4 | n_4 | jl_4 | w_4 | p_4 | g_4 | h_4 | ra_4 | rb_4 | rc_4 | rd_4 | re_4_one | re_4_other | re_4_wire=>first | k_is | (unfold K42.DA;k_is) | (unfold K42.DL;k_is)
   (case x_4=>kernel_rfl!)
   (case tv_4=>kit_is);(case t_4_0=>kit_is);(case t_4_3=>kit_is);(case t_4_4=>kit_is);(case t_4_1=>kit_is);(case t_4_5=>kit_is);(case t_4_6=>kit_is);(case t_4_7=>kit_is);(case t_4_2=>kit_is)
   (case s_4=>kts_exm)
