import PyProof.Rows.All
import Wide.All
import Wide.FinOn
import KE.KRevIter
import KE.KTryMore
import KE.KIntText
import KE.KDictOf
import KE.KFromBytes
import KE.KItem
import PySem.Challenge.RW_calmwires_k61_moves
set_option Elab.async false
set_option linter.all false
namespace L2
open PySem PySem.W
noncomputable def pT (l:List Obj):BT->Nat->Option BT:=
 @List.rec Obj (λ_=>BT->Nat->Option BT) (λt _=>some t) (λo _ ih t n=>bif ((t.ins n o).get n).isSome then ih (t.ins n o) (n+1) else none) l
theorem pTo (life:Life):∀ {l:List Obj}{t t' : BT}{n:Nat},pT l t n=some t'->absHeap t' (n+l.length) life=⟨(absHeap t n life).objs++l.toArray,life⟩
 | [],t,t',n,h=>by
  cases h
  show absHeap t n life = _
  simp
  rfl
 | o::r,t,t',n,h=>by
  have h' : (bif ((t.ins n o).get n).isSome then pT r (t.ins n o) (n+1) else none)=some t':=h
  cases e:((t.ins n o).get n).isSome with
  | false=>rw[e] at h';cases h'
  | true=>
   rw[e] at h'
   have i:=pTo life (l:=r) h'
   rw[absHeap_ins e] at i
   rw[show n+(o::r).length=n+1+r.length by simp only [List.length_cons];omega,i]
   show Heap.mk ((absHeap t n life).objs.push o++r.toArray) life = _
   congr 1
   apply Array.toList_inj.mp
   simp
noncomputable def pn (s:Shared):Option SharedT:=(pT s.heap.objs.toList .nil 0).map fun t=>⟨t,s.heap.objs.size,s.heap.life,s.gens,s.drawn,s.toks,s.os⟩
theorem po {s:Shared}{S:SharedT}(h:pn s=some S):S.abs=s:=by
 obtain⟨t,e,rfl⟩:=Option.map_eq_some_iff.mp h
 have i:=pTo s.heap.life e
 obtain⟨⟨objs,life⟩,gens,drawn,toks,os⟩:=s
 show Shared.mk (absHeap t objs.size life) gens drawn toks os = _
 have j:absHeap t objs.size life=⟨objs,life⟩:=by
  rw[Nat.zero_add] at i
  have k:(absHeap BT.nil 0 life).objs=#[]:=rfl
  simp only [k] at i
  rw[show objs.size=objs.toList.length from rfl,i]
  simp
 rw[j]
noncomputable def goT (st:SharedT->Thread->Option (SharedT × Thread)) (ok:Thread->Bool) (n:Nat):SharedT->Thread->Option SharedT:=
 @Nat.rec (λ_=>SharedT->Thread->Option SharedT) (λ_ _=>none) (λ_ ih s t=>bif through t then some s else bif ok t then (st s t).bind fun z=>ih z.1 z.2 else none) n
theorem gTo {tb:String->Option Builtin}{p:Program}{w:World}{m:Nat}{a:Option Value}:∀ {n:Nat}{s s' : SharedT}{t:Thread},goT (stepT (denote tb) p w) (stepOk m a) n s t=some s'->topRun tb p w m a n s.abs t=some s'.abs
 | 0,_,_,_,h=>nomatch h
 | n+1,s,s',t,h=>by
  have h' : (bif through t then some s else bif stepOk m a t then (stepT (denote tb) p w s t).bind fun z=>goT (stepT (denote tb) p w) (stepOk m a) n z.1 z.2 else none)=some s':=h
  unfold topRun
  cases e:through t with
  | true=>rw[e] at h';cases h';rfl
  | false =>
   rw[e] at h'
   cases e2:stepOk m a t with
   | false=>rw[e2] at h';cases h'
   | true=>
    rw[e2] at h'
    obtain⟨⟨s2,t2⟩,e3,e4⟩:=Option.bind_eq_some_iff.mp h'
    rw[stepT_spec e3]
    exact gTo e4
noncomputable def aT (tb:String->Option Builtin) (p:Program) (w:World) (N:Nat) (z:Shared):Option Shared:=
 bif z.heap.isNs mainGlobals&&z.gens.size == 0 then
  (pn z).bind fun S=>(goT (stepT (denote tb) p w) (stepOk z.heap.objs.size (z.heap.nsMap mainGlobals "__annotations__")) N S (topStub p)).bind fun y =>
   bif staticsOk (importedModules p.main.body) z.heap y.abs.heap&&namesBound p y.abs.heap&&gensDone y.abs&&laidKept z.heap y.abs.heap then some y.abs else none
 else none
theorem aTo {tb:String->Option Builtin}{p:Program}{w:World}{N:Nat}{z y:Shared}(h:aT tb p w N z=some y):topFrom tb p w N z=some y:=by
 unfold aT at h
 unfold topFrom
 cases e:(z.heap.isNs mainGlobals&&z.gens.size == 0) with
 | false=>rw[e] at h;cases h
 | true=>
  rw[e] at h
  obtain⟨S,e1,h⟩:=Option.bind_eq_some_iff.mp h
  obtain⟨Y,e2,h⟩:=Option.bind_eq_some_iff.mp h
  have r:=gTo e2
  rw[po e1] at r
  dsimp only
  rw[r]
  cases e3:(staticsOk (importedModules p.main.body) z.heap Y.abs.heap&&namesBound p Y.abs.heap&&gensDone Y.abs&&laidKept z.heap Y.abs.heap) with
  | false=>rw[e3] at h;cases h
  | true=>
   rw[e3] at h
   cases h
   show (match staticsOk (importedModules p.main.body) z.heap Y.abs.heap&&namesBound p Y.abs.heap&&gensDone Y.abs&&laidKept z.heap Y.abs.heap with | true=>_ | false=>_) = _
   rw[e3]
theorem l2 {p q:Program}{loose:List PySem.Str}{Xt:Shared->Bool}{α:Type}{Yf:Shared->α}{Ya:World->α}{N:Nat}{g0:Bool}
  (h1:∀ w,((fencedOpening treeTable p w N).bind (aT treeTable p w N)).map (λs=>openSeen q loose (importedModules p.main.body) Xt g0 s)=some (openGood q loose))
  (h2:∀ w,((fencedOpening treeTable p w N).bind (aT treeTable p w N)).map Yf=some (Ya w)):LeftO p q loose Xt Yf Ya N g0:=λw=>by
 obtain⟨s,e,e2⟩:=Option.map_eq_some_iff.mp (h1 w)
 have h3:=h2 w
 rw[e] at h3
 obtain⟨z,e3,e4⟩:=Option.bind_eq_some_iff.mp e
 unfold openEnds
 rw[e3]
 show (topFrom treeTable p w N z).map _ = _
 rw[aTo e4]
 show some (openSeen q loose (importedModules p.main.body) Xt g0 s,Yf s) = _
 rw[e2,show Yf s=Ya w from Option.some.inj h3]
theorem l1 {p q:Program}{loose:List PySem.Str}{Xt:Shared->Bool}{α:Type}{Yf:Shared->α}{Ya:World->α}{N:Nat}{g0:Bool}
  (h:∀ w,((fencedOpening treeTable p w N).bind (aT treeTable p w N)).map (λs=>(openSeen q loose (importedModules p.main.body) Xt g0 s,Yf s))=some (openGood q loose,Ya w)):LeftO p q loose Xt Yf Ya N g0:=
 l2 (λw=>by
  obtain⟨s,e,e2⟩:=Option.map_eq_some_iff.mp (h w)
  rw[e]
  exact congrArg some (Prod.mk.inj e2).1) (λw=>by
  obtain⟨s,e,e2⟩:=Option.map_eq_some_iff.mp (h w)
  rw[e]
  exact congrArg some (Prod.mk.inj e2).2)
end L2
section
open PySem PySem.W PyProof.Rows PySem.W.Fast
lay_quick PySem.Challenge.pw_calmwires_k61_moves
local macro_rules | `(tactic| refine $f:ident $as*) => do if (f.getId.toString.splitOn "holds_open").length > 1 then `(tactic| (refine' $f $as*; case' $(Lean.mkIdent `hl):ident => (refine' L2.l1 (fun w => ?_); unfold fencedOpening L2.aT; rw [show PySem.Challenge.rw_calmwires_k61_moves.row.prog = _ from te18145931369401415757,te10156331382660048174,te11892475500146522536,te6613529449190102663,te10274390034422433532,te14289696077712309145,te14364793385576792824,te1435165496053646825,te8920871248978507458,te4187177175401517315]; kernel_rfl!))) else Lean.Macro.throwUnsupported
set_option maxRecDepth 100000 in
set_option maxHeartbeats 0 in
open_top theTop for PySem.Challenge.rw_calmwires_k61_moves
end
set_option genSizeOf false
open List (map_nil any_map map_take map_drop sum_cons)
open PySem.W (instObj methodObj lookIn plainGet hasDictIn handedIn plainOver takerIn emptyDict kitOne kitx_tuple kitx_dict)
open Nat (not_lt)
open PySem.Heap (ExtBut SameBut)
noncomputable section
set_option maxRecDepth 100000
abbrev Cg(x:PySem.Str):Prop:=(x==("__debug__" : PySem.Str))=false
abbrev Z2(n:PySem.Env)(e:PySem.Expr)(l:List PySem.Expr):Prop:=PySem.starEach (e::l) n=(false,PySem.eval e n)::PySem.starEach l n
abbrev dO(p:PySem.Pos)(n:PySem.Env)(l:List PySem.Expr):Prop:=(PySem.backTo p (PySem.starEach l n)).any (·.1)=false
local macro_rules|`(tactic|ext)=>`(tactic|first|exact .inl rfl|exact .inr rfl|exact .inr (.inl rfl)|exact .inr (.inr rfl)|assumption|decide +kernel|exact of_decide_eq_true (by kernel_rfl!))
abbrev A1:=PySem.Value
abbrev A2:=PySem.Addr
abbrev A4:=PySem.Shared
abbrev B2:=PySem.Around
abbrev Cc:=@Option
abbrev Z:=@List
abbrev Cs:=PySem.Expr
abbrev C2:=PySem.Stmt
abbrev Df:=PySem.FuncData
abbrev D1:=PySem.Program
abbrev D2:=PySem.World
abbrev Ff:=PySem.Heap
abbrev IX:=PySem.Scope
abbrev IY:=PySem.Env
def AA:=@PySem.wpAny_bind
def AB:=@List.length_map
def AC:=@decide_eq_false
def AD:=@PySem.Heap.get?_push_of_some
def AE:=@List.getElem?_eq_some_iff
def AF:=@if_pos
def AG:=@PySem.wpAny_pure
def AH:=@List.length_append
def AI:=@List.mem_of_getElem?
def AJ:=@if_neg
def AK:=@List.mem_singleton
def AL:=@List.getElem?_eq_getElem
def AM:=@decide_eq_true
def AN:=@Or.inr
def AO:=@List.size_toArray
def AQ:=@List.getElem?_map
def AR:=@PySem.PassesOwn.never
def AT:=@Nat.le_refl
def AU:=@List.map_append
def AV:=@Nat.lt_of_lt_of_le
def AW:=@PySem.Heap.get?_push_size
def AX:=@List.mem_cons_of_mem
def AY:=@Or.inl
def AZ:=@PySem.F.slot_list_append
def BA:=@PySem.F.type_list_append
def BB:=@List.take_of_length_le
def BC:=@decide_eq_true_eq
def BD:=@List.mem_cons_self
def BE:=@PySem.Heap.lt_size
def BF:=@List.getElem?_set
def BG:=@Bool.and_eq_true
def BH:=@List.mem_append
def BI:=@Nat.le_trans
def BJ:=@List.length_cons
def BK:=@Option.some.inj
def BM:=@List.map_cons
def BN:=@List.mem_cons
def BO:=@Bool.false_ne_true
def BP:=@beq_eq_false_iff_ne
def BQ:=@List.mem_append_right
def BR:=@Bool.eq_iff_iff
def BS:=@Int.toNat_natCast
def BU:=@PySem.wpAny_field
def BV:=@List.map_map
def BW:=@Ne.symm
def BX:=@Nat.testBit_two_pow
def BY:=@List.length_take
def BZ:=@Nat.ne_of_lt
def CA:=@List.length_singleton
def CC:=@List.nodup_cons
def CD:=@List.all_eq_true
def CH:=@Nat.eq_of_testBit_eq
def CI:=@List.mem_range
def CJ:=@PySem.wpAny_mono
def CK:=@Int.zero_add
def CL:=@List.mem_map
def CM:=@PySem.wpAny_callSpecial?_slot
def CN:=@List.getElem?_append_left
def CP:=@beq_iff_eq
def CQ:=@List.length_range
def CS:=@List.length_drop
def CT:=@PySem.wpAny_newObj_type
def CU:=@PySem.mem_of_lookup
def CV:=@List.nodup_nil
def CW:=@Nat.pow_le_pow_right
def CY:=@beq_self_eq_true
def CZ:=@PySem.wpAny_holding
def DA:=@List.mem_filter
def DB:=@List.length_set
def DC:=@of_decide_eq_true
def DE:=@List.take_succ
def DF:=@PyProof.Rows.callWith_type1
def DG:=@PySem.wpAny_loadPart'
def DH:=@Nat.zero_le
def DI:=@List.lookup_cons
def DJ:=@List.getElem?_append_right
def DK:=@PySem.wpAny_call_entry
def DL:=@PyProof.Rows.slot_tuple_getitem
def DM:=@List.append_assoc
def DN:=@True.intro
def DO:=@PySem.F.slot_list_extend
def DP:=@List.getElem?_eq_none
def DQ:=@Nat.lt_of_le_of_lt
def DR:=@PySem.wpAny_seqItems
def DU:=@List.append_nil
def DV:=@Nat.testBit_or
def DW:=@List.getElem?_of_mem
def DX:=@PySem.wpAny_passesOwn
def DY:=@Bool.or_eq_true
def DZ:=@PySem.F.slot_tuple_iterator_next
def EA:=@Nat.mod_lt
def EB:=@List.drop_eq_getElem_cons
def EC:=@Bool.and_eq_true_iff
def ED:=@Nat.lt_irrefl
def EE:=@PySem.Heap.size_push
def EF:=@PySem.W.kia_one
def EG:=@List.length_replicate
def EH:=@congrArg
def EI:=@Option.isSome_iff_exists
def EJ:=@PySem.wpAny_getItem_str_slice
def EK:=@PySem.F.plainAttrs_list
def EL:=@List.filter_cons_of_pos
def EM:=@List.filter_cons_of_neg
def EN:=@List.mem_replicate
def EO:=@List.idxOf_cons
def EQ:=@PySem.wpAny_pyIter_tuple
def ER:=@PySem.wpAny_setField_rec
def ES:=@List.any_eq_true
def ET:=@Nat.two_pow_pos
def EU:=@PySem.Heap.get?_update_other
def EV:=@PySem.wpAny_truthy_bool
def EW:=@List.take_succ_cons
def EX:=@List.getElem?_range
def EY:=@PySem.F.slot_zip_next
def EZ:=@List.count_cons_of_ne
def FA:=@List.idxOf_lt_length_of_mem
def FC:=@List.mem_append_left
def FD:=@Nat.pow_lt_pow_right
def FE:=@Bool.true_and
def FG:=@Nat.le_succ
def FH:=@Nat.testBit_and
def FI:=@PySem.sizeLine_eq
def FJ:=@Array.length_toList
def FK:=@PySem.codeAny_builtin
def FL:=@List.pairwise_iff_getElem
def FM:=@List.mem_or_eq_of_mem_set
def FN:=@List.any_cons
def FO:=@List.nodup_append
def FP:=@Nat.lt_succ_self
def FQ:=@PySem.wpAny_Call_Name_kw
def FR:=@PySem.F.args_tuple_add_2
def FS:=@PySem.Txt.slice_le
def FT:=@Nat.succ.inj
def FU:=@PySem.F.type_list_extend
def FV:=@PySem.F.slot_list_insert
def FW:=@PySem.F.type_list_insert
def FX:=@Nat.eq_zero_or_pos
def FY:=@List.filterMap_cons
def FZ:=@List.find?_cons
def GC:=@List.mem_map_of_mem
def GD:=@List.flatMap_append
def GE:=@List.getElem?_replicate
def GF:=@PySem.F.entry_tuple_add
def GG:=@List.length_eq_zero_iff
def GH:=@List.getElem?_cons_succ
def GI:=@PySem.F.slot_list_index
def GJ:=@PySem.wpAny_pyIter_list
def GK:=@List.getElem_mem
def GL:=@Nat.testBit_xor
def GM:=@PySem.F.slot_tuple_add
def GN:=@List.zip_cons_cons
def GO:=@List.filter_append
def GP:=@Nat.lt_or_ge
def GQ:=@Prod.ext
def GR:=@Nat.zero_testBit
def GS:=@if_true
def GT:=@List.take_append_drop
def GU:=@List.length_filter_le
def GV:=@List.flatMap_cons
def GW:=@PySem.wpAny_execs_nil
def GY:=@PySem.post_val_or_str
def GZ:=@List.mem_of_mem_take
def HA:=@List.count_cons_self
def HB:=@Nat.le_of_lt
def HC:=@PySem.wpAny_setField
def HD:=@List.filterMap_map
def HE:=@Bool.false_eq_true
def HF:=@PySem.tupleKind_room_in1
def HG:=@Array.all_eq_true'
def HH:=@List.count_pos_iff
def HI:=@List.getElem?_cons
def HJ:=@PySem.Paired.length
def HK:=@PySem.wpAny_standAt
def HL:=@Nat.le_succ_of_le
def HM:=@PySem.wpAny_pyIter_enum
def HN:=@Bool.eq_false_iff
def HP:=@List.forIn_cons
def HQ:=@List.filter_nil
def HR:=@PySem.wpAny_rule
def HS:=@PySem.call_meets
def HU:=@PySem.codeAny_mono
def HV:=@PySem.noFill_tuple_add
def HW:=@if_false
def HX:=@PySem.wpAny_typeOf
def HY:=@Option.getD_some
def HZ:=@Nat.succ_le_succ
def IA:=@PySem.wpAny_pyIter_zip
def IB:=@Nat.le_add_right
def IC:=@List.mem_flatMap
def ID:=@List.of_mem_zip
def IE:=@Nat.min_eq_left
def IF:=@PySem.W.plainGet_of
def IG:=@PySem.wpAny_runValue
def IH:=@Bool.and_false
def II:=@Nat.mul_le_mul
def IJ:=@PySem.W.callWith_K
def IK:=@Nat.ne_of_gt
def IL:=@Nat.le_of_eq
def IM:=@Nat.zero_add
def IN:=@PySem.wpAny_attempt
def IP:=@PySem.seq_tuple_add
def IQ:=@Bool.or_false
def IR:=@PySem.wpAny_onRaise
def IS:=@List.drop_zero
def IT:=@List.take_zero
def IU:=@List.forIn_nil
def IV:=@PySem.W.kitx_list
def IW:=@PySem.concat_meets
abbrev JH:=PySem.Value->PySem.Shared->Prop
abbrev E':=PySem.W.Frag
abbrev I3:=Z (PySem.Addr×PySem.Obj)
abbrev JG:=PySem.Str->Cc PySem.Value
variable{prog q P:PySem.Program}{w:PySem.World}{A:PySem.Around}{E:JH}{h h' base:PySem.Heap}{g:Z PySem.Value->Z PySem.Value->Z PySem.Value}{nm:Cc PySem.Str}{N sn ps ks loose:Z PySem.Str}{bm vs its us ds:Z PySem.Value}{hdct ab:Bool}{col:Cc Bool}{dd an od:Cc PySem.Addr}{k0 k1 k2 k3 k5:Cc PySem.Value}{B:Prop}{newId:String}{env:PySem.Env}{e c tg iter aq:PySem.Expr}{s s':PySem.Shared}{Q:Unit->PySem.Shared->Prop}{α:Type}{it l f dx:PySem.Addr}{i t' j n:Nat}{ae:Array PySem.Value}{u v aw pm ai ct oc vl vu:PySem.Value}{aG ex ex' ch fp:Z PySem.Addr}{aa:I3}{pos au p aB aj kpos al:PySem.Pos}{op:PySem.CmpOp}{ap es:Z PySem.Expr}{xs:Z α}{K:E'}{st:PySem.Stmt}{body:Z PySem.Stmt}{lo hi:Cc Int}{pl:PySem.Sem Bool}{mA mg:JG}{name m am:PySem.Str}{ns:Z Int}{kw:Z (PySem.Str×PySem.Value)}{fd:PySem.FuncData}{outer:Z PySem.Env}{sc scope ao:PySem.Scope}{XP:(PySem.Str->Cc PySem.Value)->PySem.Heap->Prop}{YP:PySem.World->PySem.Heap->Prop}{cells:Z (PySem.Str×PySem.Addr)}
namespace L2
open PySem
section
variable{g:Array GenState}{d:Drawn}{t:Nat}{os:OsState}
variable{nm q:Str}{C N:A2}{bs aI:Z A1}{sub:Z A1}{B Bn aJ initId inN:String}{bmN:Z A1}
end
section
variable{M:Model}
variable{nm q:Str}{C N:A2}{bs:Z A1}{sub:Z A1}
end
theorem Mw:entryFor table "proto.unchain" = some Builtin.«proto.unchain» := entryFor_of_fast (by kernel_rfl)
def LO(h:Ff)(e:A2):Prop:=∃ f d,h.get? e=some f/\f.data=.fields d/\(d[2]?=some .none\/∃ e2 o2 l,d[2]?=some (.ref e2)/\h.get? e2=some o2/\o2.data=.fields l/\l[2]?=some .none)
theorem LO.at{e:A2}(c:LO h e)(k:∀ a o v x,h.get? a=some o->o.data=.fields v->v[2]?=some x->h'.get? a=some o):LO h' e:=by
 obtain⟨o,v,a1,a2,a3⟩:=c;refine⟨o,v,?_,a2,a3.imp id λ⟨e2,o2,l,b1,b2,I,b4⟩=>⟨e2,o2,l,b1,k _ _ _ _ b2 I b4,I,b4⟩⟩;rcases a3 with z | ⟨_,_,_,z,_⟩
 .exact k _ _ _ _ a1 a2 z
 .exact k _ _ _ _ a1 a2 z
theorem Xg{e h:A2}{o:Obj}{vs:Array A1}{Q:JH}(J:s.heap.get? h=some o)(hd:o.data=.fields vs)(hc:vs[2]?=some .none)(B:Q .none s) :
  wpAny (model prog w) A (runValue (.builtin "proto.unchain" ⟨[.ref e,.ref h,.ref h,.bool false],[]⟩)) Q E s:=by
 refine IG (FK Mw ?_);unfold Builtin.«proto.unchain»;refine AA (BU J hd hc ?_);exact AG B
theorem eM{e h:A2}{Q:JH}(hc:LO s.heap h)(hn:∀ o v e2 o2 l,s.heap.get? h=some o->o.data=.fields v->v[2]?=some (.ref e2)->s.heap.get? e2=some o2->o2.data=.fields l->e2≠e)(B:Q .none s) :
  wpAny (model prog w) A (runValue (.builtin "proto.unchain" ⟨[.ref e,.ref h,.ref h,.bool false],[]⟩)) Q E s:=by
 obtain⟨f,d,h1,h2,h3 | ⟨e2,o2,l,h3,h4,h5,h6⟩⟩:=hc
 .exact Xg h1 h2 h3 B
 have n1:(Value.ref e2==Value.ref e)=false:=by
  have:=hn f d e2 o2 l h1 h2 h3 h4 h5;simpa using this
 have n2:(Value.ref e2==Value.ref h)=false:=by
  have:e2≠h:=λz=>by
   subst z;rw[h1] at h4;cases h4;rw[h2] at h5;cases h5;rw[h3] at h6;cases h6
  simpa using this
 refine IG (FK Mw ?_);unfold Builtin.«proto.unchain»;refine AA (BU h1 h2 h3 ?_);rw[AJ (show ¬ ((Value.ref e2==Value.none)=true) from by simp),AJ (by rw[n1];simp),AJ (by rw[n2];simp)];refine AA (AG ?_);refine AG ⟨plainId_quiet (by ext) _,FK Mw ?_⟩;unfold Builtin.«proto.unchain»;refine AA (BU h4 h5 h6 ?_);exact AG B
theorem Ao{e h:A2}{f:Obj}{d:Array A1}{Q:α->A4->Prop}{h0:Ff}(M:A.handled=some (.ref h))(he:s.heap.get? e=some f)(b:f.data=.fields d)(h2:2<d.size)(hc:LO h0 h)(hk:∀ a o v x,h0.get? a=some o->o.data=.fields v->v[2]?=some x->s.heap.get? a=some o/\a≠e)
  (hE:E (.ref e) { s with heap:=s.heap.update e (Obj.mapFields (·.setIfInBounds 2 (.ref h))) }):wpAny (model prog w) A (raiseNew (.ref e):Sem α) Q E s:=by
 have t:LO s.heap h:=hc.at λa o v x a1 a2 a3=>(hk a o v x a1 a2 a3).1
 obtain⟨o',P,a1,a2,a3⟩:=hc;obtain⟨b1,ne⟩:s.heap.get? h=some o'/\h≠e:=by
  rcases a3 with z | ⟨_,_,_,z,_⟩
  .exact hk _ _ _ _ a1 a2 z
  .exact hk _ _ _ _ a1 a2 z
 unfold raiseNew;refine AA (wpAny_handled ?_);rw[M];have ag:(Value.ref h != Value.ref e)=true:=by
  simp only[bne_iff_ne,ne_eq];intro z;cases z;exact ne rfl
 dsimp only;rw[AF ag];refine AA (CZ (eM t (λo v e2 o2 l c1 c2 c3 k m=>?_) ?_))
 .rw[b1] at c1;cases c1
  rw[a2] at c2;cases c2;rcases a3 with a3 | ⟨e3,o3,D,R,d2,c,g⟩
  .rw[c3] at a3;cases a3
  .rw[c3] at R;cases R
   exact(hk _ _ _ _ d2 c g).2
 show wpAny _ _ (setField (.ref e) 2 (.ref h) >>= _) _ _ _;refine AA (CJ (HC (x:=.ref h) he b h2 (Q:=λ_ s'=>s'={ s with heap:=s.heap.update e (Obj.mapFields (·.setIfInBounds 2 (.ref h))) }) rfl) (λ_ s' z=>?_) λ_ _ x=>x);rw[z];exact wpAny_throw hE
theorem Lx{h:A2}{Q:Cc A1->A4->Prop}(M:A.handled=some (.ref h))(t:LO s.heap h)
   (c:s.heap.IsListIter it l i) (hl:s.heap.IsList l ae) (hx:ae[i]?=none)
   (g:∀ h',ExtBut it s.heap h'->Q none { s with heap:=h' }):wpAny (model prog w) A (pyNext (.ref it)) Q E s:=by
 obtain⟨o,J,hc,hd⟩:=id c;obtain⟨j,d,_,r,Y⟩:=hl;unfold pyNext;refine AA (IN (CM (name:=Str.ofString "__next__") c.typeIs slot_listiter_next
   (DK slot_listiter_next c.typeIs entry_listiter_next ?_ (args_listiter_next _))))
 show wpAny _ _ (field (.ref it) 0 >>= _) _ _ s;refine AA (BU J hd (x:=.ref l) rfl ?_);show wpAny _ _ (if(Value.ref l==Value.none)=true then _ else _) _ _ s;rw[AJ (show ¬ ((Value.ref l==Value.none)=true) from BO)];show wpAny _ _ (field (.ref it) 1 >>= _) _ _ s;refine AA (BU J hd (x:=.int i 0) rfl ?_);show wpAny _ _ (seqItems? (.ref l) >>= _) _ _ s;refine AA (DR d Y ?_);simp only[BS,hx];refine AA (HR (AA (HC J hd (by simp) ?_)));show wpAny _ _ (newExc (.type "StopIteration") [] >>= _) _ _ _;refine AA ?_;simp only[newExc,newTuple];refine AA (CT ?_ (by size_fits));refine AA (m:=firstArgMember _ _) (wpAny_of_eq (a:=Value.none) (by first | rfl | (simp only[firstArgMember];rfl)) ?_);refine CT ?_ (by size_fits);have sz:∀ {f:Obj->Obj},(s.heap.update it f).objs.size=s.heap.objs.size:=λ{f}=>by simp[Heap.update]
 have D:∀ {f:Obj->Obj} {o1:Obj} {b:A2} {ob:Obj},s.heap.get? b=some ob->b≠((s.heap.update it f).push o1).objs.size:=λ{f o1 b ob} q z=>by
   have:=BE q;rw[z,EE,sz] at this;exact absurd this (not_lt.mpr (FG _))
 refine Ao (A:=A.in1) (h:=h) (h0:=s.heap) M (AW _ rfl) rfl (by simp;lia) t (λa o' v x a1 a2 a3=>⟨?_,D a1⟩) ?_
 · have ag:it≠a:=λz=>by
     subst z;rw[J] at a1;cases a1;rw[hd] at a2;cases a2;simp at a3
   exact AD _ (AD _ ((EU _ _ ag).trans a1))
 refine AA (wpAny_isInstance (T:="StopIteration") (b:=true) ⟨_,Heap.get?_update_self _ (AW _ rfl) rfl,rfl⟩ isSubtype_stop ?_);refine AG (g _ λb ob hb eo=>?_);exact(EU _ _ (D eo).symm).trans (AD _ (AD _ ((EU _ _ (BW hb)).trans eo)))
end L2
variable{tk:Nat}
namespace L2
open PySem PySem.Spec PyProof.Rows
abbrev U0:=Sum Int Str
def Pd:U0->A1->Bool
 | .inl k,v=>Value.isInt k v
 | .inr x,v=>Value.isStrOf x v
def ZP(w:D2):U0->Int
 | .inl k=>hashInt k
 | .inr x=>hashStr w x
theorem Vk:∀ {k:U0} {v:A1},Pd k v=true->(∃ i t,k=Sum.inl i/\v=Value.int i t)\/(∃ x t,k=Sum.inr x/\v=Value.str x t)
 | .inl i,v,h=>by
  obtain⟨t,e⟩:=Value.isInt_shape (k:=i) (v:=v) h;exact .inl ⟨i,t,rfl,e⟩
 | .inr x,v,h=>by
  obtain⟨t,e⟩:=Value.isStrOf_shape (x:=x) (v:=v) h;exact .inr ⟨x,t,rfl,e⟩
theorem ei(i:Int)(t:Tok):Pd (.inl i) (.int i t)=true:=by simp[Pd,Value.isInt]
theorem iL(x:Str)(t:Tok):Pd (.inr x) (.str x t)=true:=by simp[Pd,Value.isStrOf]
theorem YL(a b:Int):decide ((Sum.inl a:U0)=Sum.inl b)=(a==b):=by
 by_cases e:a=b
 .subst e;simp
 .have h:¬ (Sum.inl a:U0)=Sum.inl b:=λq=>e (Sum.inl.inj q)
  rw[AC h];exact(BP.mpr e).symm
theorem ha(a b:Str):decide ((Sum.inr a:U0)=Sum.inr b)=decide (a=b):=by
 by_cases e:a=b
 .subst e;simp
 .have h:¬ (Sum.inr a:U0)=Sum.inr b:=λq=>e (Sum.inr.inj q)
  rw[AC h,AC e]
theorem bJ(a:Int)(b:Str):decide ((Sum.inl a:U0)=Sum.inr b)=false:=AC (λq=>nomatch q)
theorem ZX(a:Str)(b:Int):decide ((Sum.inr a:U0)=Sum.inl b)=false:=AC (λq=>nomatch q)
def U4(prog:D1)(w:D2):PySem.KeyKind prog w U0 where
 is:=Pd
 hash:=ZP w
 inj:=λv a b Y hb=>by
  rcases Vk Y with⟨i,t,rfl,rfl⟩ | ⟨x,t,rfl,rfl⟩
  .rcases Vk hb with⟨j,u,rfl,e⟩ | ⟨y,u,rfl,e⟩
   .injection e with e1 _;rw[e1]
   .exact nomatch e
  .rcases Vk hb with⟨j,u,rfl,e⟩ | ⟨y,u,rfl,e⟩
   .exact nomatch e
   .injection e with e1 _;rw[e1]
 byValue:=λk v h=>by
  rcases Vk h with⟨i,t,rfl,rfl⟩ | ⟨x,t,rfl,rfl⟩<;>rfl
 pyHash:=λhv h=>by
  rcases Vk hv with⟨i,t,rfl,rfl⟩ | ⟨x,t,rfl,rfl⟩
  .exact wpAny_pyHash_int h
  .exact wpAny_pyHash_str h
 eqBool:=λhu hv h=>by
  rcases Vk hu with⟨i,t,rfl,rfl⟩ | ⟨x,t,rfl,rfl⟩
  .rcases Vk hv with⟨j,u,rfl,rfl⟩ | ⟨y,u,rfl,rfl⟩
   .rw[YL] at h;exact wpAny_eqBool_int h
   .rw[bJ] at h;exact SeqAt.EqAt.int_str i t y u _ _ _ _ h
  .rcases Vk hv with⟨j,u,rfl,rfl⟩ | ⟨y,u,rfl,rfl⟩
   .rw[ZX] at h;exact SeqAt.EqAt.str_int x t j u _ _ _ _ h
   .rw[ha] at h;exact wpAny_eqBool_str h
 «strs» :=λk x t v h=>by
  rcases Vk h with⟨i,u,rfl,e⟩ | ⟨y,u,rfl,e⟩
  .exact nomatch e
  .injection e with e1 _
   subst e1;cases v<;>rfl
theorem Bc(prog:D1)(w:D2)(i:Int)(t:Tok):(U4 prog w).is (.inl i) (.int i t)=true:=ei i t
theorem By(prog:D1)(w:D2)(x:Str)(t:Tok):(U4 prog w).is (.inr x) (.str x t)=true:=iL x t
inductive V where
 | non | bl (b:Bool) | int (i:Int) | str (x:Str) | byt (b:Array UInt8) | flt (b:UInt64) | ref (a:Addr) | ty (n:String)
 deriving DecidableEq
def W5:V->A1->Prop
 | .non,u=>u=Value.none
 | .bl b,u=>u=Value.bool b
 | .int i,u=>∃ t,u=Value.int i t
 | .str x,u=>∃ t,u=Value.str x t
 | .byt b,u=>∃ t,u=Value.bytes b t
 | .flt b,u=>∃ t,u=Value.float b t
 | .ref a,u=>u=Value.ref a
 | .ty n,u=>u=Value.type n
abbrev Yl:Z V->Z A1->Prop:=Paired W5
theorem Yl.length{xs:Z V}{us:Z A1}(r:Yl xs us):xs.length=us.length:=HJ r
theorem Yl.get:∀ {xs:Z V} {us:Z A1} {i:Nat} {x:V},Yl xs us->xs[i]?=some x->∃ u,us[i]?=some u/\W5 x u
 | _,_,_,_,.nil,e=>by simp at e
 | _,_,0,_,.cons r _,e=>by simp at e;subst e;exact⟨_,rfl,r⟩
 | _,_,i+1,x,.cons _ t,e=>by
  obtain⟨u,h1,h2⟩:=Yl.get (i:=i) (x:=x) t (by simpa using e);exact⟨u,by simpa using h1,h2⟩
theorem Yl.append:∀ {xs ys:Z V} {us u:Z A1},Yl xs us->Yl ys u->Yl (xs++ys) (us++u)
 | _,_,_,_,.nil,s=>s
 | _,_,_,_,.cons r t,s=>.cons r (Yl.append t s)
theorem Yl.take:∀ {xs:Z V} {us:Z A1} (n:Nat),Yl xs us->Yl (xs.take n) (us.take n)
 | _,_,0,_=>.nil
 | _,_,_+1,.nil=>.nil
 | _,_,n+1,.cons r t=>.cons r (Yl.take n t)
theorem Yl.drop:∀ {xs:Z V} {us:Z A1} (n:Nat),Yl xs us->Yl (xs.drop n) (us.drop n)
 | _,_,0,r=>r
 | _,_,_+1,.nil=>.nil
 | _,_,n+1,.cons _ t=>Yl.drop n t
def Dy:Cc V->Cc A1->Prop
 | some v,some u=>W5 v u
 | none,none=>True
 | _,_=>False
def KV{κ:Type}:Z (κ×V)->Z (κ×A1)->Prop:=Paired λ(p:κ×V) (q:κ×A1)=>p.1=q.1/\W5 p.2 q.2
def kV:U0->V
 | .inl i=>.int i
 | .inr x=>.str x
inductive HO where
 | lst (xs:List V)
 | tup (xs:List V)
 | dK (kvs:List (U0×V)) | dT (kvs:List (List U0×V))
 | set (S:Int->Bool) (n:Nat)
 | ins (C dx:Addr) (fs:List (Str×V))
 | own (x:Addr)
 | xd (fs:List (Str×V))
 | met (f x:Addr)
 | rng (lo hi:Int)
 | frz (o:Obj) (u:HO)
 | tbl (ps:Array Value)
 | ext (φ:Heap->Prop)
abbrev Hp:=A2->Cc HO
def Wq(H:Hp)(a:A2)(o:HO):Hp:=λb=>if b=a then some o else H b
theorem Y5{H:Hp}{a:A2}{o:HO}:Wq H a o a=some o:=by unfold Wq;rw[AF rfl]
theorem Zp{H:Hp}{a b:A2}{o:HO}(h:b≠a):Wq H a o b=H b:=by unfold Wq;rw[AJ h]
theorem XC{H:Hp}{a b:A2}{o u:HO}(h:H a=some o)(h':H b=some u)(d:o≠u):a≠b:=by
 intro e;subst e;rw[h] at h';exact d (BK h')
theorem Ym{H:Hp}{a b:A2}{o:HO}(h:H a=some o)(h':H b=none):a≠b:=by
 intro e;subst e;rw[h] at h';cases h'
section
variable(P:D1)(w:D2)
def V9(H:Hp)(h:Ff)(a:A2):HO->Prop
 | .lst xs=>xs.length<=sizeLine/\∃ (its:Z A1) (n:Nat),Yl xs its/\h.get? a=some { cls:=.type "list",data:=.seq its.toArray n }
 | .tup xs=>xs.length<=sizeLine/\∃ its:Z A1,Yl xs its/\IsTup h a its.toArray
 | .dK kvs=>kvs.length<=sizeLine/\(a==sysModules)=false/\∃ vs,KV kvs vs/\h.DictOf (U4 P w) a vs
 | .dT kvs=>kvs.length<=sizeLine/\(a==sysModules)=false/\∃ xs:Z (Z U0×A2×A1),
  Paired (λ(p:Z U0×V) (q:Z U0×A2×A1)=>p.1=q.1/\H q.2.1=some (.tup (p.1.map kV))/\W5 p.2 q.2.2) kvs xs /\
  ∃ o es j,h.get? a=some o/\o.ExactDict/\o.data=.dict es j/\es.toList=xs.map (entryOfKey (tupleKind (U4 P w)))/\(xs.map (·.1)).Nodup
 | .set S n=>h.SetOf (intKind P w) a S n
 | .ins C dx fs=>H dx=some (.own a)/\fs.length<=1000/\dx≠a/\h.get? a=some (instObj C dx) /\
  ∃ mA,h.Ns1 dx mA/\(∀ f,Dy (fs.lookup f) (mA f))/\PySem.Within mA (fs.map (·.1))
 | .own _=>∃ o,h.get? a=some o
 | .xd fs=>∃ mA,h.Ns1 a mA/\∀ f,Dy (fs.lookup f) (mA f)
 | .rng lo hi=>∃ t u v,h.get? a=some { cls:=.type "range",data:=.fields #[.int lo t,.int hi u,.int 1 v] }
 | .frz o u=>h.get? a=some o/\V9 H h a u
 | .tbl ps=>h.get? a=some { cls:=.none,data:=.fields ps }
 | .met f x=>h.get? a=some (methodObj (.ref f) (.ref x))
 | .ext φ=>φ h/\(∃ o,h.get? a=some o)/\∀ h1 h2:Ff,φ h1->(∀ o,h1.get? a=some o->h2.get? a=some o)->φ h2
def D8(H:Hp)(h:Ff):Prop:=∀ a o,H a=some o->V9 P w H h a o
end
section
variable{H H':Hp}{a:A2}{o:HO}
theorem V9.lt(x:V9 P w H h a o):a<h.objs.size:=by
 cases o with
 | lst xs=>obtain⟨_,_,_,_,e⟩:=x;exact BE e
 | tup xs=>obtain⟨_,_,_,p⟩:=x;exact p.lt
 | dK kvs=>obtain⟨_,_,_,_,o,_,_,e,_⟩:=x;exact BE e
 | dT kvs=>obtain⟨_,_,_,_,o,_,_,e,_⟩:=x;exact BE e
 | set S n=>obtain⟨o,_,_,_,e,_⟩:=x;exact BE e
 | ins C dx fs=>obtain⟨_,_,_,e,_⟩:=x;exact BE e
 | own y=>obtain⟨_,e⟩:=x;exact BE e
 | xd fs=>obtain⟨_,⟨_,_,_,e,_⟩,_⟩:=x;exact BE e
 | rng lo hi=>obtain⟨_,_,_,e⟩:=x;exact BE e
 | frz ob u=>obtain⟨e,_⟩:=x;exact BE e
 | tbl ps=>exact BE (show h.get? a=some _ from x)
 | met f y=>exact BE (show h.get? a=some _ from x)
 | ext φ=>obtain⟨_,⟨_,e⟩,_⟩:=x;exact BE e
theorem Paired.mapP{β:Type}{F G:α->β->Prop}:∀ {l₁:Z α} {l₂:Z β},Paired F l₁ l₂->(∀ a b,F a b->G a b)->Paired G l₁ l₂
 | _,_,.nil,_=>.nil
 | _,_,.cons r t,f=>.cons (f _ _ r) (Paired.mapP t f)
theorem V9.stay(x:V9 P w H h a o)(k:∀ b u,(b=a\/H b=some (.own a))->h.get? b=some u->h'.get? b=some u)
  (J:∀ b,H b=some (.own a)->H' b=some (.own a)) (ht:∀ b xs,H b=some (.tup xs)->H' b=some (.tup xs)):V9 P w H' h' a o:=by
 induction o with
 | lst xs=>obtain⟨z,its,n,r,e⟩:=x;exact⟨z,its,n,r,k _ _ (.inl rfl) e⟩
 | tup xs=>obtain⟨z,its,r,ob,e,c⟩:=x;exact⟨z,its,r,ob,k _ _ (.inl rfl) e,c⟩
 | dK kvs=>obtain⟨z,y,vs,r,ob,es,j,e,c⟩:=x;exact⟨z,y,vs,r,ob,es,j,k _ _ (.inl rfl) e,c⟩
 | dT kvs =>
  obtain⟨z,y,xs,r,ob,es,j,e,c⟩:=x;exact⟨z,y,xs,Paired.mapP r λp q z=>⟨z.1,ht _ _ z.2.1,z.2.2⟩,ob,es,j,k _ _ (.inl rfl) e,c⟩
 | set S n=>obtain⟨ob,es,j,t,e,c⟩:=x;exact⟨ob,es,j,t,k _ _ (.inl rfl) e,c⟩
 | ins C dx fs =>
  obtain⟨d,z,ne,e,mA,⟨od,es,j,e2,c⟩,r⟩:=x;exact⟨J _ d,z,ne,k _ _ (.inl rfl) e,mA,⟨od,es,j,k _ _ (.inr d) e2,c⟩,r⟩
 | own y=>obtain⟨ob,e⟩:=x;exact⟨ob,k _ _ (.inl rfl) e⟩
 | xd fs=>obtain⟨mA,⟨od,es,j,e,c⟩,r⟩:=x;exact⟨mA,⟨od,es,j,k _ _ (.inl rfl) e,c⟩,r⟩
 | rng lo hi=>obtain⟨t,u,v,e⟩:=x;exact⟨t,u,v,k _ _ (.inl rfl) e⟩
 | frz ob u ih=>obtain⟨e,q⟩:=x;exact⟨k _ _ (.inl rfl) e,ih q⟩
 | tbl ps =>
  have e:h.get? a=some { cls:=.none,data:=.fields ps }:=x;show h'.get? a=some { cls:=.none,data:=.fields ps };exact k a _ (.inl rfl) e
 | met f y =>
  have e:h.get? a=some (methodObj (.ref f) (.ref y)):=x;show h'.get? a=some (methodObj (.ref f) (.ref y));exact k a _ (.inl rfl) e
 | ext φ=>obtain⟨p,⟨o,e⟩,st⟩:=x;exact⟨st _ _ p λo q=>k _ _ (.inl rfl) q,⟨o,k _ _ (.inl rfl) e⟩,st⟩
theorem D8.lt(x:D8 P w H h)(e:H a=some o):a<h.objs.size:=(x a o e).lt
theorem D8.fresh(x:D8 P w H h)(e:h.objs.size<=a):H a=none:=by
 cases q:H a with
 | none=>rfl
 | some u=>exact absurd (AV (x.lt q) e) (ED _)
theorem D8.kept(x:D8 P w H h)(k:∀ b u,h.get? b=some u->h'.get? b=some u):D8 P w H h':=λa o e =>
 (x a o e).stay (λb u _ q=>k b u q) (λ_ q=>q) λ_ _ q=>q
theorem D8.laid(x:D8 P w H h)(k:∀ b u,h.get? b=some u->h'.get? b=some u)(F:h.objs.size<=a)(new:V9 P w (Wq H a o) h' a o):D8 P w (Wq H a o) h':=λb u e=>by
 have hn:=x.fresh F;by_cases hb:b=a
 .subst hb;rw[Y5] at e;cases e;exact new
 .rw[Zp hb] at e
  exact(x b u e).stay (λc v _ q=>k c v q) (λc q=>by rw[Zp (Ym q hn)];exact q) λc xs q=>by rw[Zp (Ym q hn)];exact q
end
variable{H H':Hp}{v:V}{f:A1->A1->Sem A1}{g:Int->Int->Int}{l:Cs}
def Rd(H:Hp)(a:A2)(u:HO):Prop:=H a=some u\/∃ o,H a=some (.frz o u)
theorem Rd.of{a:A2}{u:HO}(h:H a=some u):Rd H a u:=.inl h
theorem Rd.ok{a:A2}{u:HO}(r:Rd H a u)(x:D8 P w H h):V9 P w H h a u:=by
 rcases r with r | ⟨o,r⟩
 .exact x a u r
 .obtain⟨_,q⟩:=x a _ r
  exact q
def NG:Cc HO->Prop
 | some (.lst _)=>True
 | some (.dK _)=>True
 | some (.dT _)=>True
 | some (.set _ _)=>True
 | some (.ins _ _ _)=>True
 | some (.ext _)=>True
 | _=>False
section
variable{x e:A2}{o':HO}
theorem D8.write(ok:D8 P w H h)(mu:NG (H x))(he:e=x\/H e=some (.own x))(k:∀ b u,b≠e->h.get? b=some u->h'.get? b=some u)(d:∃ u,h'.get? e=some u)
  (new:V9 P w (Wq H x o') h' x o'):D8 P w (Wq H x o') h':=λb u q=>by
 have f:∀ c y,H c=some (.own y)->c≠x:=λc y r z=>by subst z;rw[r] at mu;exact mu
 have g:∀ c xs,H c=some (.tup xs)->c≠x:=λc xs r z=>by subst z;rw[r] at mu;exact mu
 by_cases hb:b=x
 .subst hb;rw[Y5] at q;cases q;exact new
 .rw[Zp hb] at q
  by_cases a:b=e
  .have G:H b=some (.own x):=by
    rcases he with z | z
    .exact absurd (a.trans z) hb
    .rw[a];exact z
   rw[q] at G;cases G;obtain⟨v,hv⟩:=d;exact⟨v,by rw[a];exact hv⟩
  .refine(ok b u q).stay (λc v hc r=>k c v ?_ r) (λc r=>by rw[Zp (f c b r)];exact r) λc xs r=>by rw[Zp (g c xs r)];exact r
   rcases hc with rfl | hc
   .exact a
   .rintro rfl
    rcases he with z | z
    .exact f c b hc z
    .rw[hc] at z;cases z;exact hb rfl
end
structure Un (fs ex:List Addr) (H H':Hp) (h h':Heap):Prop where
 keep:∀ b o,h.get? b=some o->H b=none->b∉fs->b∉ex->h'.get? b=some o
 slot:∀ b o,h.get? b=some o->H b=none->b∈fs->b∉ex->∃ sl,h'.get? b=some { o with slots:=sl }
 free:∀ b o,h.get? b=some o->H b=none->b∉ex->H' b=none
 there:∀ b o,h.get? b=some o->b∉ex->∃ o',h'.get? b=some o'
 tups:∀ b xs,H b=some (.tup xs)->H' b=some (.tup xs)
 frzs:∀ b o u,H b=some (.frz o u)->H' b=some (.frz o u)
 tbls:∀ b ps,H b=some (.tbl ps)->∃ a,H' b=some (.tbl (ps++a))
section
variable{fs:Z A2}{H1 H2:Hp}{h1 h2:Ff}{a x e:A2}{o:HO}
theorem Un.any(u:Un fs ex H H1 h h1){b:A2}{ob:Obj}(q:h.get? b=some ob)(n:H b=none)(hx:b∉ex):∃ sl,h1.get? b=some { ob with slots:=sl }:=by
 by_cases hb:b∈fs
 .exact u.slot b ob q n hb hx
 .exact⟨ob.slots,u.keep b ob q n hb hx⟩
theorem Un.kept(k:∀ b u,h.get? b=some u->h'.get? b=some u):Un fs ex H H h h' :=
 ⟨λb ob q _ _ _=>k b ob q,λb ob q _ _ _=>⟨ob.slots,k b ob q⟩,λ_ _ _ n _=>n,λb ob q _=>⟨ob,k b ob q⟩,λ_ _ q=>q,λ_ _ _ q=>q,λ_ ps q=>⟨#[],by rw[q];simp⟩⟩
theorem Un.refl:Un fs ex H H h h:=Un.kept λ_ _ q=>q
theorem Un.laid(k:∀ b u,h.get? b=some u->h'.get? b=some u)(F:h.objs.size<=a)(hn:H a=none):Un fs ex H (Wq H a o) h h' where
 keep:=λb u q _ _ _=>k b u q
 slot:=λb u q _ _ _=>⟨u.slots,k b u q⟩
 free:=λb u q n _=>by rw[Zp (BZ (AV (BE q) F))];exact n
 there:=λb u q _=>⟨u,k b u q⟩
 tups:=λb xs q=>by rw[Zp (Ym q hn)];exact q
 frzs:=λb u xs q=>by rw[Zp (Ym q hn)];exact q
 tbls:=λb ps q=>⟨#[],by rw[Zp (Ym q hn),q];simp⟩
theorem Un.write(mu:NG (H x))(he:e=x\/H e=some (.own x))(k:∀ b u,b≠e->h.get? b=some u->h'.get? b=some u)(d:∃ u,h'.get? e=some u):Un fs ex H (Wq H x o) h h':=by
 have hx:∀ b,H b=none->b≠x:=λb n z=>by subst z;rw[n] at mu;exact mu
 have hb:∀ b,H b=none->b≠e:=λb n z=>by
  subst z;rcases he with r | r
  .exact hx b n r
  .rw[n] at r;cases r
 have hm:∀ b u,H b=some u->¬ NG (some u)->b≠x:=λb u q nm z=>by subst z;rw[q] at mu;exact nm mu
 refine⟨λb u q n _ _=>k b u (hb b n) q,λb u q n _ _=>⟨u.slots,k b u (hb b n) q⟩,λb u q n _=>by rw[Zp (hx b n)];exact n,λb u q _=>?_,
  λb xs q=>by rw[Zp (hm b _ q λz=>z)];exact q,λb u xs q=>by rw[Zp (hm b _ q λz=>z)];exact q,λb ps q=>⟨#[],by rw[Zp (hm b _ q λz=>z),q];simp⟩⟩
 by_cases a:b=e
 .subst a;exact d
 .exact⟨u,k b u a q⟩
end
variable{xs:Z V}
def PM(h:Ff)(H:Hp):Z A2:=(List.range h.objs.size).filter λa=>(H a).isSome
def Xq(h:Ff)(H:Hp):Ff:=PySem.W.hideAll h (PM h H)
theorem b7(h:Ff)(H:Hp):(Xq h H).objs.size=h.objs.size:=PySem.W.hideAll_size _ _
theorem f0{b:A2}{o:Obj}(e:h.get? b=some o)(n:H b=none):(Xq h H).get? b=some o :=
 PySem.W.hideAll_get _ e λhm=>by
  have q:(H b).isSome=true:=(DA.mp hm).2;rw[n] at q;simp at q
theorem d1{b:A2}{o:Obj}(e:(Xq h H).get? b=some o):h.get? b=some o/\H b=none:=by
 have e':h.get? b=some o:=PySem.W.of_hideAll (PM h H) e;refine⟨e',?_⟩;cases q:H b with
 | none=>rfl
 | some x =>
  have hm:b∈PM h H:=DA.mpr ⟨CI.mpr (BE e'),by simp[q]⟩;have z:(Xq h H).get? b=none:=PySem.W.hideAll_none (PM h H) hm;rw[z] at e;cases e
structure Mod (K:E') (mg:JG) (base:Heap):Prop where
 kin:K.In base
 glob:base.Ns mainGlobals mg
 blt:∃ y,base.Ns builtinsNs y/\∀ x:Str,x≠"__name__" -> y x=bootBuiltins x
 nolimit:base.NoLimit
structure Cx where
 prog:Program
 w:World
 K:E'
 mg:Str->Option Value
 base:Heap
 A:Around
 N:List Str
 s₀:Shared
 H₀:Hp
 env:Env
 outer:List Env
 stack:List Env
 ex:List Addr
 fn:Str->Bool
 calm:Bool
 pn:List (Addr×Obj)
 xe:Value->Shared->Prop
 pl:Bool:=false
def KG(l:Z IY):Z A2:=l.filterMap (·.frame)
abbrev Cx.fs(X:Cx):Z A2:=KG X.outer
def KX(sc:IX)(x:Str):Prop:=sc.names.lookup x=some .local\/sc.names.lookup x=some .cell\/sc.names.lookup x=some .free
def KH(sc:IX)(x:Str):Prop:=sc.names.lookup x=some .local\/sc.names.lookup x=some .cell
def fM(env:IY)(h:Ff)(m:JG)(x:Str)(u:A1):Prop :=
 (env.kindOf x=some .local/\m x=some u)\/((env.kindOf x=some .cell\/env.kindOf x=some .free)/\∃ c,env.cells.lookup x=some c/\h.IsCell c (some u))
structure Cx.Ok (X:Cx):Prop where
 mod:Mod X.K X.mg X.base
 kind:X.env.scope.kind=.function
 glob:X.env.globals=mainGlobals
 blt:X.env.builtins=builtinsNs
 above:X.s₀.heap.objs.size<=X.env.locals
 inj:∀ x y c,X.env.cells.lookup x=some c->X.env.cells.lookup y=some c->x=y
 has:∀ x,(X.env.kindOf x=some .cell\/X.env.kindOf x=some .free)->∃ c,X.env.cells.lookup x=some c
 cab:∀ x c,X.fn x=true->X.env.cells.lookup x=some c->X.s₀.heap.objs.size<=c
 hd:X.calm=true->X.A.handled=none
 frames:X.A.frames=some X.stack
 stk:X.stack=X.outer\/(X.stack=X.env::X.outer/\X.env.frame=some X.env.locals)
 exf:∀ b∈X.ex,b≠X.env.locals/\∀ x c,X.env.cells.lookup x=some c->c≠b
 bs:∀ b o,X.base.get? b=some o->X.s₀.heap.get? b=some o/\X.H₀ b=none
 bsz:X.base.objs.size<=X.s₀.heap.objs.size
 noex:∀ b o,X.base.get? b=some o->b∉X.ex
 exfs:∀ b∈X.ex,b∉X.fs
 funs:X.s₀.heap.FunFrames X.base X.outer
 frf:∀ b∈X.fs,X.H₀ b=none
variable{X:Cx}
structure D' (X:Cx) (aa:I3) (σ:List (Option V)) (H:Hp) (s:Shared):Prop where
 ok:X.Ok
 os:s.os=X.s₀.os
 bare:AllBare s.gens
 base:Un X.fs X.ex X.H₀ H X.s₀.heap s.heap
 loc:∃ m,s.heap.Ns X.env.locals m/\∀ (i:Nat) (x:Str) (v:V),X.N[i]?=some x->σ[i]?=some (some v)->KX X.env.scope x->∃ u,W5 v u/\fM X.env s.heap m x u
 cell:∀ x c,X.env.cells.lookup x=some c->∃ v,s.heap.IsCell c v
 free:H X.env.locals=none
 freeC:∀ x c,X.env.cells.lookup x=some c->H c=none
 pin:∀ p∈X.pn++aa,s.heap.get? p.1=some p.2/\H p.1=none/\p.1≠X.env.locals/\p.1∉X.fs/\∀ v,p.2.data≠.cell v
 hok:D8 X.prog X.w H s.heap
 len:σ.length=X.N.length
section
variable{σ:Z (Cc V)}
theorem Cx.Ok.nofr(ok:X.Ok){b:A2}{o:Obj}(e:X.base.get? b=some o):b∉X.fs:=λhb=>by
 have:=(ok.funs.mem hb).1;rw[e] at this;cases this
theorem D'.bs(I:D' X aa σ H s):∀ b o,X.base.get? b=some o->s.heap.get? b=some o/\H b=none:=λb o e =>
 ⟨I.base.keep b o (I.ok.bs b o e).1 (I.ok.bs b o e).2 (I.ok.nofr e) (I.ok.noex b o e),I.base.free b o (I.ok.bs b o e).1 (I.ok.bs b o e).2 (I.ok.noex b o e)⟩
theorem D'.bk(I:D' X aa σ H s):∀ b o,X.base.get? b=some o->s.heap.get? b=some o:=λb o e=>(I.bs b o e).1
theorem D'.mod(I:D' X aa σ H s):Mod X.K X.mg X.base:=I.ok.mod
theorem D'.kIn(I:D' X aa σ H s):X.K.In s.heap:=I.ok.mod.kin.keeps I.bk
theorem D'.lt(I:D' X aa σ H s):X.env.locals<s.heap.objs.size:=let ⟨_,hn,_⟩:=I.loc;hn.lt
theorem D'.sz(I:D' X aa σ H s):X.s₀.heap.objs.size<=s.heap.objs.size:=BI I.ok.above (HB I.lt)
theorem D'.nofs(I:D' X aa σ H s){a:A2}(h:s.heap.objs.size<=a):a∉X.fs:=λhb=>by
 obtain⟨_,o,J,_⟩:=I.ok.funs.mem hb;exact absurd (AV (BE J) (BI I.sz h)) (ED _)
theorem D'.cne(I:D' X aa σ H s):∀ x c,X.env.cells.lookup x=some c->c≠X.env.locals:=λx c e z=>by
 obtain⟨v,o,J,hd⟩:=I.cell x c e;obtain⟨m,⟨o',es,j,a,d,_⟩,_⟩:=I.loc;rw[z,a] at J;cases J;rw[d] at hd;cases hd
theorem D'.funs(I:D' X aa σ H s):s.heap.FunFrames X.base X.outer:=by
 have all:∀ (l:Z IY),(∀ b∈KG l,b∈X.fs)->X.s₀.heap.FunFrames X.base l->s.heap.FunFrames X.base l:=by
  intro l;induction l with
  | nil=>intro _ _;trivial
  | cons env r ih =>
   intro hs hl;obtain⟨hk,⟨ah,o,hf,hn,J,hd⟩,hr⟩:=hl;have f:ah∈X.fs:=hs ah (by unfold KG;rw[FY,hf];exact BD);obtain⟨sl,e⟩:=I.base.slot ah o J (I.ok.frf ah f) f λz=>I.ok.exfs ah z f
   exact⟨hk,⟨ah,_,hf,hn,e,hd⟩,ih (λb hb=>hs b (by unfold KG;rw[FY,hf];exact AX _ hb)) hr⟩
 exact all X.outer (λ_ hb=>hb) I.ok.funs
theorem D'.stack(I:D' X aa σ H s):s.heap.FunFrames X.base X.stack:=by
 rcases I.ok.stk with e | ⟨e,hf⟩
 .rw[e];exact I.funs
 .rw[e]
  obtain⟨m,hn,_⟩:=I.loc;refine .cons (by rw[I.ok.kind];decide) hf hn ?_ I.funs;exact Heap.get?_none_of_le (BI I.ok.bsz I.ok.above)
theorem D'.stkSub(I:D' X aa σ H s):∀ b∈KG X.stack,b∈X.env.locals::X.fs:=λb hb=>by
 rcases I.ok.stk with e | ⟨e,hf⟩
 .rw[e] at hb;exact AX _ hb
 .rw[e] at hb
  unfold KG at hb;rw[FY,hf] at hb;exact hb
theorem D'.stkFree(I:D' X aa σ H s):∀ b∈KG X.stack,H b=none:=λb hb=>by
 rcases BN.mp (I.stkSub b hb) with e | hb
 .rw[e];exact I.free
 .obtain⟨_,o,J,_⟩:=I.ok.funs.mem hb
  exact I.base.free b o J (I.ok.frf b hb) λz=>I.ok.exfs b z hb
theorem D'.step{g':Array GenState}{d':Drawn}(I:D' X aa σ H s)
  (t:∀ b∈ch,(b∈X.ex\/X.s₀.heap.objs.size<=b)/\b≠X.env.locals/\(∀ x c,X.env.cells.lookup x=some c->c≠b)/\∀ p∈X.pn++aa,p.1≠b)
  (keep:∀ b o,b≠X.env.locals->b∉X.fs->b∉ch->s.heap.get? b=some o->H b=none->h'.get? b=some o)
  (slot:∀ b o,b≠X.env.locals->b∈X.fs->b∉ch->s.heap.get? b=some o->H b=none->∃ sl,h'.get? b=some { o with slots:=sl }) (free:∀ b o,b∉ch->s.heap.get? b=some o->H b=none->H' b=none)
  (there:∀ b o,b∉ch->s.heap.get? b=some o->∃ o',h'.get? b=some o')
  (tups:∀ b xs,H b=some (.tup xs)->H' b=some (.tup xs)) (frzs:∀ b o u,H b=some (.frz o u)->H' b=some (.frz o u)) (tbls:∀ b ps,H b=some (.tbl ps)->∃ a,H' b=some (.tbl (ps++a)))
  (ns:∀ m,s.heap.Ns X.env.locals m->h'.Ns X.env.locals m) (hok:D8 X.prog X.w H' h') (S:AllBare g') :
  D' X aa σ H' { s with heap:=h',gens:=g',drawn:=d',toks:=t' }:=by
 have j:∀ b o,X.s₀.heap.get? b=some o->b≠X.env.locals:=λb o e=>BZ (AV (BE e) I.ok.above)
 have h:∀ b o,X.s₀.heap.get? b=some o->b∉X.ex->b∉ch:=λb o e hx hb=>by
  rcases(t b hb).1 with z | z
  .exact hx z
  .exact absurd (AV (BE e) z) (ED _)
 have g:∀ x c,X.env.cells.lookup x=some c->∀ v,s.heap.IsCell c v->h'.IsCell c v:=λx c e v M=>by
  obtain⟨o,J,hd⟩:=M;have f:c∉ch:=λz=>(t c z).2.2.1 x c e rfl
  by_cases hc:c∈X.fs
  .obtain⟨sl,q⟩:=slot c o (I.cne x c e) hc f J (I.freeC x c e)
   exact⟨_,q,hd⟩
  .exact⟨o,keep c o (I.cne x c e) hc f J (I.freeC x c e),hd⟩
 refine⟨I.ok,I.os,S,⟨λb o e n hb hx=>?_,λb o e n hb hx=>?_,λb o e n hx=>?_,λb o e hx=>?_,λb xs e=>tups b xs (I.base.tups b xs e),λb o xs e=>frzs b o xs (I.base.frzs b o xs e),λb ps e=>?_⟩,?_,λx c e=>?_,?_,λx c e=>?_,λp F=>?_,hok,I.len⟩
 .exact keep b o (j b o e) hb (h b o e hx) (I.base.keep b o e n hb hx) (I.base.free b o e n hx)
 .obtain⟨sl,e1⟩:=I.base.slot b o e n hb hx
  obtain⟨y,e2⟩:=slot b _ (j b o e) hb (h b o e hx) e1 (I.base.free b o e n hx);exact⟨y,e2⟩
 .obtain⟨o',e1⟩:=I.base.there b o e hx
  exact free b o' (h b o e hx) e1 (I.base.free b o e n hx)
 .obtain⟨o',e1⟩:=I.base.there b o e hx
  exact there b o' (h b o e hx) e1
 .obtain⟨m1,e1⟩:=I.base.tbls b ps e
  obtain⟨m2,e2⟩:=tbls b _ e1;exact⟨m1++m2,by rw[e2,Array.append_assoc]⟩
 .obtain⟨m,hn,hl⟩:=I.loc
  refine⟨m,ns m hn,λi x v e1 e2 e3=>?_⟩;obtain⟨u,r,l⟩:=hl i x v e1 e2 e3;refine⟨u,r,?_⟩;rcases l with l | ⟨k,c,e,z⟩
  .exact .inl l
  .exact .inr ⟨k,c,e,g x c e _ z⟩
 .obtain⟨v,z⟩:=I.cell x c e
  exact⟨v,g x c e v z⟩
 .obtain⟨m,⟨o,_,_,J,_⟩,_⟩:=I.loc
  exact free _ o (λz=>(t _ z).2.1 rfl) J I.free
 .obtain⟨v,o,J,hd⟩:=I.cell x c e
  exact free c o (λz=>(t c z).2.2.1 x c e rfl) J (I.freeC x c e)
 .obtain⟨e,n,ne,T,d⟩:=I.pin p F
  have f:p.1∉ch:=λz=>(t p.1 z).2.2.2 p F rfl
  exact⟨keep p.1 p.2 ne T f e n,free p.1 p.2 f e n,ne,T,d⟩
theorem D'.un(I:D' X aa σ H s)(u:Un X.fs [] H H' s.heap h')(hok:D8 X.prog X.w H' h'):D' X aa σ H' { s with heap:=h',toks:=t' }:=by
 obtain⟨m,⟨o,es,j,J,r⟩,_⟩:=id I.loc;obtain⟨sl,f⟩:=u.any J I.free (by simp);exact I.step (g':=s.gens) (d':=s.drawn) (ch:=[]) (λ_ z=>nomatch z) (λb o _ hb _ e n=>u.keep b o e n hb (by simp)) (λb o _ hb _ e n=>u.slot b o e n hb (by simp)) (λb o _ e n=>u.free b o e n (by simp)) (λb o _ e=>u.there b o e (by simp)) u.tups u.frzs u.tbls (λm' hm=>by
  obtain⟨o',d,g,a,r'⟩:=hm;rw[J] at a;cases a;exact⟨_,d,g,f,r'⟩) hok I.bare
theorem D'.call{g':Array GenState}{d':Drawn}(I:D' X aa σ H s)(u:Un (KG X.stack) ch H H' s.heap h')(hok:D8 X.prog X.w H' h')(S:AllBare g')
  (t:∀ b∈ch,(b∈X.ex\/X.s₀.heap.objs.size<=b)/\b≠X.env.locals/\(∀ x c,X.env.cells.lookup x=some c->c≠b)/\∀ p∈X.pn++aa,p.1≠b) :
  D' X aa σ H' { s with heap:=h',gens:=g',drawn:=d',toks:=t' }:=by
 obtain⟨m,⟨o,es,j,J,r⟩,_⟩:=id I.loc;obtain⟨sl,f⟩:=u.any J I.free λz=>(t _ z).2.1 rfl
 exact I.step (ch:=ch) t (λb o f hb hc e n=>u.keep b o e n (λz=>(BN.mp (I.stkSub b z)).elim f hb) hc) (λb o _ _ hc e n=>u.any e n hc) (λb o hc e n=>u.free b o e n hc) (λb o hc e=>u.there b o e hc) u.tups u.frzs u.tbls (λm' hm=>by
  obtain⟨o',d,g,a,r'⟩:=hm;rw[J] at a;cases a;exact⟨_,d,g,f,r'⟩) hok S
theorem D'.turned(I:D' X aa σ H s)(k:∀ b o,b≠it->s.heap.get? b=some o->h'.get? b=some o)(hn:H it=none)(f:it≠X.env.locals)
  (h1:it∈X.ex\/X.s₀.heap.objs.size<=it) (h2:∀ x c,X.env.cells.lookup x=some c->c≠it) (h3:∀ p∈X.pn++aa,p.1≠it):D' X aa σ H { s with heap:=h',toks:=t' }:=by
 have a:∀ b u,H b=some u->b≠it:=λb u e z=>by rw[z,hn] at e;cases e
 refine I.step (g':=s.gens) (d':=s.drawn) (ch:=[it]) (λb hb=>?_) (λb o _ _ hc e _=>k b o (λz=>hc (by simp[z])) e) (λb o _ _ hc e _=>⟨o.slots,k b o (λz=>hc (by simp[z])) e⟩) (λ_ _ _ _ n=>n)
  (λb o hc e=>⟨o,k b o (λz=>hc (by simp[z])) e⟩) (λ_ _ e=>e) (λ_ _ _ e=>e) (λb ps e=>⟨#[],by rw[e];simp⟩) (λm hm=>?_) (λb u e=>?_) I.bare
 .have e:b=it:=by simpa using hb
  subst e;exact⟨h1,f,h2,h3⟩
 .obtain⟨o,es,j,J,r⟩:=hm
  exact⟨o,es,j,k _ o (BW f) J,r⟩
 .refine(I.hok b u e).stay (λc v hc q=>k c v ?_ q) (λ_ q=>q) λ_ _ q=>q
  rcases hc with z | z
  .rw[z];exact a b u e
  .exact a c _ z
theorem D'.tok(I:D' X aa σ H s)(t:Nat):D' X aa σ H { s with toks:=t }:=I.un (h':=s.heap) (t':=t) Un.refl I.hok
theorem D'.kept(I:D' X aa σ H s)(k:∀ b u,s.heap.get? b=some u->h'.get? b=some u):D' X aa σ H { s with heap:=h',toks:=t' }:=I.un (Un.kept k) (I.hok.kept k)
theorem D'.laid{a:A2}{o:HO}(I:D' X aa σ H s)(k:∀ b u,s.heap.get? b=some u->h'.get? b=some u)(F:s.heap.objs.size<=a)(new:V9 X.prog X.w (Wq H a o) h' a o) :
 D' X aa σ (Wq H a o) { s with heap:=h',toks:=t' }:=I.un (Un.laid k F (I.hok.fresh F)) (I.hok.laid k F new)
theorem D'.write{x e:A2}{o:HO}(I:D' X aa σ H s)(mu:NG (H x))(he:e=x\/H e=some (.own x))(k:∀ b u,b≠e->s.heap.get? b=some u->h'.get? b=some u)(d:∃ u,h'.get? e=some u)
 (new:V9 X.prog X.w (Wq H x o) h' x o):D' X aa σ (Wq H x o) { s with heap:=h',toks:=t' }:=I.un (Un.write mu he k d) (I.hok.write mu he k d new)
theorem D'.weak{σ':Z (Cc V)}(I:D' X aa σ H s)(hl:σ'.length=σ.length)(w:∀ (i:Nat) v,σ'[i]?=some (some v)->σ[i]?=some (some v)):D' X aa σ' H s :=
 ⟨I.ok,I.os,I.bare,I.base,let ⟨m,hn,a⟩:=I.loc;⟨m,hn,λi x v e1 e2 e3=>a i x v e1 (w i v e2) e3⟩,I.cell,I.free,I.freeC,I.pin,I.hok,hl.trans I.len⟩
theorem D'.pins_of{a:I3}(I:D' X aa σ H s)(h:∀ p∈a,s.heap.get? p.1=some p.2/\H p.1=none/\p.1≠X.env.locals/\p.1∉X.fs/\∀ v,p.2.data≠.cell v):D' X a σ H s :=
 ⟨I.ok,I.os,I.bare,I.base,I.loc,I.cell,I.free,I.freeC,λp F=>(BH.mp F).elim (λz=>I.pin p (FC _ z)) (h p),I.hok,I.len⟩
theorem Bf(hN:N.Nodup){x:Str}(a:N[i]?=some x)(b:N[j]?=some x):i=j:=by
 obtain⟨h1,e1⟩:=AE.mp a;obtain⟨h2,e2⟩:=AE.mp b;exact(List.getElem_inj hN).mp (e1.trans e2.symm)
theorem P5{M:Model}{x:Str}(I:D' X aa σ H s)(hN:X.N.Nodup)(hi:X.N[i]?=some x)(hx:KH X.env.scope x)(r:W5 v u)
   (h:∀ s',D' X aa (σ.set i (some v)) H s'->(∃ a,SameBut a s.heap s'.heap/\(a=X.env.locals\/X.env.cells.lookup x=some a))->Q () s') (hf:X.fn x=true\/X.env.scope.names.lookup x=some .local:=by ext):wpAny M A (storeName X.env x u) Q E s:=by
 obtain⟨m,hn,hl⟩:=id I.loc;have W:(X.env.scope.kind==.class||(X.env.scope.kind==.module&&X.env.locals != X.env.globals))=false:=by rw[I.ok.kind];rfl
 have hiσ:i<σ.length:=by rw[I.len];exact(AE.mp hi).1
 have cne:=I.cne;have f:∀ {a:A2} {h':Ff},(∃ o,s.heap.get? a=some o/\H a=none)->SameBut a s.heap h'->D8 X.prog X.w H h':=λ{a h'} Y hs b ob e=>by
   obtain⟨_,_,l⟩:=Y;refine(I.hok b ob e).stay (λc B hc q=>(hs.2 c ?_).trans q) (λ_ q=>q) λ_ _ q=>q
   rintro rfl;rcases hc with rfl | hc
   · rw[l] at e;cases e
   · rw[l] at hc;cases hc
 rcases hx with hk | hk
 · refine wpAny_storeName_local hk hn (λh' af hs=>?_) W
   obtain⟨oL,_,_,J,_⟩:=id hn;refine h _ ⟨I.ok,I.os,I.bare,⟨λb o e n hb hx=>?_,λb o e n hb hx=>?_,I.base.free,λb o e hx=>?_,I.base.tups,I.base.frzs,I.base.tbls⟩,⟨_,af,λj y P e1 e2 e3=>?_⟩,λy c e=>?_,I.free,I.freeC,λp F=>?_,f ⟨oL,J,I.free⟩ hs,by simpa using I.len⟩ ⟨_,hs,.inl rfl⟩
   · exact(hs.2 b (BZ (AV (BE e) I.ok.above))).trans (I.base.keep b o e n hb hx)
   · obtain⟨sl,e1⟩:=I.base.slot b o e n hb hx
     exact⟨sl,(hs.2 b (BZ (AV (BE e) I.ok.above))).trans e1⟩
   · obtain⟨o',e1⟩:=I.base.there b o e hx
     exact⟨o',(hs.2 b (BZ (AV (BE e) I.ok.above))).trans e1⟩
   · by_cases C:j=i
     · subst C
       rw[hi] at e1;cases e1;rw[List.getElem?_set_self hiσ] at e2;cases e2;exact⟨u,r,.inl ⟨hk,by simp⟩⟩
     · rw[List.getElem?_set_ne (BW C)] at e2
       obtain⟨R,r',q⟩:=hl j y P e1 e2 e3;refine⟨R,r',?_⟩;rcases q with⟨k,e⟩ | ⟨k,c,e,z⟩
       · refine .inl ⟨k,?_⟩
         have:y≠x:=λe=>C (Bf hN e1 (e▸hi))
         simp[this,e]
       · exact .inr ⟨k,c,e,z.sameBut hs (cne y c e)⟩
   · obtain⟨B,z⟩:=I.cell y c e
     exact⟨B,z.sameBut hs (cne y c e)⟩
   · obtain⟨e,n,ne,T,d⟩:=I.pin p F
     exact⟨(hs.2 p.1 ne).trans e,n,ne,T,d⟩
 · have S:X.fn x=true:=by
     rcases hf with z | z
     · exact z
     · rw[z] at hk;cases hk
   obtain⟨c,hc⟩:=I.ok.has x (.inl hk);obtain⟨B,z⟩:=I.cell x c hc;refine wpAny_storeName_cell I.ok.kind hk hc z (λh' t hs=>?_);obtain⟨oc,ac,ae⟩:=id z;refine h { s with heap:=h' } ⟨I.ok,I.os,I.bare,⟨λb o e n hb hx=>?_,λb o e n hb hx=>?_,I.base.free,λb o e hx=>?_,I.base.tups,I.base.frzs,I.base.tbls⟩,⟨m,hn.sameBut hs (BW (cne x c hc)),λj y P e1 e2 e3=>?_⟩,λy g e=>?_,I.free,I.freeC,λp F=>?_,f ⟨oc,ac,I.freeC x c hc⟩ hs,by simpa using I.len⟩ ⟨c,hs,.inr hc⟩
   · exact(hs.2 b (BZ (AV (BE e) (I.ok.cab x c S hc)))).trans (I.base.keep b o e n hb hx)
   · obtain⟨sl,e1⟩:=I.base.slot b o e n hb hx
     exact⟨sl,(hs.2 b (BZ (AV (BE e) (I.ok.cab x c S hc)))).trans e1⟩
   · obtain⟨o',e1⟩:=I.base.there b o e hx
     exact⟨o',(hs.2 b (BZ (AV (BE e) (I.ok.cab x c S hc)))).trans e1⟩
   · by_cases C:j=i
     · subst C
       rw[hi] at e1;cases e1;rw[List.getElem?_set_self hiσ] at e2;cases e2;exact⟨u,r,.inr ⟨.inl hk,c,hc,t⟩⟩
     · rw[List.getElem?_set_ne (BW C)] at e2
       obtain⟨R,r',q⟩:=hl j y P e1 e2 e3;refine⟨R,r',?_⟩;rcases q with q | ⟨k,g,e,z'⟩
       · exact .inl q
       · refine .inr ⟨k,g,e,z'.sameBut hs ?_⟩
         rintro rfl;exact C (Bf hN e1 (I.ok.inj _ _ _ e hc▸hi))
   · by_cases D:g=c
     · subst D;exact⟨_,t⟩
     · obtain⟨w2,z2⟩:=I.cell y g e
       exact⟨w2,z2.sameBut hs D⟩
   · obtain⟨e,n,ne,T,d⟩:=I.pin p F
     refine⟨(hs.2 p.1 ?_).trans e,n,ne,T,d⟩;intro q;rw[q,ac] at e;have G:oc=p.2:=BK e;exact d B (by rw[<- G];exact ae)
theorem Bx{M:Model}{x:Str}(I:D' X aa σ H s)(hN:X.N.Nodup)(hi:X.N[i]?=some x)(hx:KH X.env.scope x)(r:W5 v u)
  (h:∀ s',D' X aa (σ.set i (some v)) H s'->Q () s') (hf:X.fn x=true\/X.env.scope.names.lookup x=some .local:=by ext):wpAny M A (storeName X.env x u) Q E s :=
 P5 I hN hi hx r (λs' c _=>h s' c) hf
theorem D'.call'(I:D' X aa σ H s)(J:s'.os=s.os)(u:Un (KG X.stack) ch H H' s.heap s'.heap)(hok:D8 X.prog X.w H' s'.heap)(S:AllBare s'.gens)
  (t:∀ b∈ch,(b∈X.ex\/X.s₀.heap.objs.size<=b)/\b≠X.env.locals/\(∀ x c,X.env.cells.lookup x=some c->c≠b)/\∀ p∈X.pn++aa,p.1≠b):D' X aa σ H' s':=by
 obtain⟨h',g',d',t',o'⟩:=s';have e:o'=s.os:=J;subst e;exact I.call (g':=g') (t':=t') (d':=d') u hok S t
end
variable{y:V}{fs:Z (Str×V)}
abbrev XK:=A1->Cc A2->Hp->Prop
abbrev St:=Z (Cc V)
abbrev VK:=V->Hp->Prop
abbrev TE:=St->Hp->VK->Prop
abbrev TT:=St->Hp->(Bool->Hp->Prop)->Prop
abbrev TA:=St->Hp->(Z V->Hp->Prop)->Prop
structure JF where
 nx:St->Hp->Prop
 rt:VK
 bk:St->Hp->Prop:=λ_ _=>False
 ct:St->Hp->Prop:=λ_ _=>False
abbrev TS:=JF->St->Hp->Prop
def EP(X:Cx)(aa:I3)(σ:St)(Q:VK)(u:A1)(s':A4):Prop:=∃ v H',D' X aa σ H' s'/\W5 v u/\Q v H'
def TP(X:Cx)(aa:I3)(σ:St)(Q:Bool->Hp->Prop)(b:Bool)(s':A4):Prop:=∃ H',D' X aa σ H' s'/\Q b H'
def AP(X:Cx)(aa:I3)(σ:St)(Q:Z V->Hp->Prop)(us:Z A1)(s':A4):Prop:=∃ vs H',D' X aa σ H' s'/\Yl vs us/\Q vs H'
def SP(X:Cx)(aa:I3)(D:JF)(f:Flow)(s':A4):Prop :=
 match f with
 | .next=>∃ σ' H',D' X aa σ' H' s'/\D.nx σ' H'
 | .brk=>∃ σ' H',D' X aa σ' H' s'/\D.bk σ' H'
 | .cont=>∃ σ' H',D' X aa σ' H' s'/\D.ct σ' H'
 | .ret u=>∃ v σ' H',D' X aa σ' H' s'/\W5 v u/\D.rt v H'
def PE(X:Cx)(e:Cs)(t:TE):Prop :=
 ∀ (aa:I3) (s:A4) (σ:St) (H:Hp) (Q:VK),D' X aa σ H s->t σ H Q->wpAny (model X.prog X.w) X.A (eval e X.env) (EP X aa σ Q) X.xe s
def PT(X:Cx)(e:Cs)(t:TT):Prop :=
 ∀ (aa:I3) (s:A4) (σ:St) (H:Hp) (Q:Bool->Hp->Prop),D' X aa σ H s->t σ H Q->wpAny (model X.prog X.w) X.A (isTrue e X.env (eval e X.env)) (TP X aa σ Q) X.xe s
def PW(X:Cx)(e:Cs)(t:TT):Prop :=
 ∀ (c:Sem A1) (aa:I3) (s:A4) (σ:St) (H:Hp) (Q:Bool->Hp->Prop),D' X aa σ H s->t σ H Q->wpAny (model X.prog X.w) X.A (isTrue e X.env c) (TP X aa σ Q) X.xe s
theorem PW.pt{t:TT}(h:PW X e t):PT X e t:=h _
def PA(X:Cx)(es:Z Cs)(t:TA):Prop :=
 ∀ (pos:Pos) (aa:I3) (s:A4) (σ:St) (H:Hp) (Q:Z V->Hp->Prop),D' X aa σ H s->t σ H Q->wpAny (model X.prog X.w) X.A (spliced (backTo pos (starEach es X.env))) (AP X aa σ Q) X.xe s
def PS(X:Cx)(st:C2)(t:TS):Prop :=
 ∀ (aa:I3) (s:A4) (σ:St) (H:Hp) (D:JF),D' X aa σ H s->t D σ H->wpAny (model X.prog X.w) X.A (exec st X.env) (SP X aa D) X.xe s
def Ku(X:Cx)(st:Z C2)(t:TS):Prop :=
 ∀ (aa:I3) (s:A4) (σ:St) (H:Hp) (D:JF),D' X aa σ H s->t D σ H->wpAny (model X.prog X.w) X.A (execs st X.env) (SP X aa D) X.xe s
theorem Vy{t:Sem α}{Q b:α->A4->Prop}{M:Model}(h:wpAny M A t Q E s)(g:∀ a s,Q a s->b a s):wpAny M A t b E s:=CJ h g λ_ _ x=>x
section
def Jx(i:Nat):TE:=λσ H Q=>∃ v,σ[i]?=some (some v)/\Q v H
def tC(v:V):TE:=λ_ H Q=>Q v H
theorem W8{x:Str}(hN:X.N[i]?=some x)(hv:KX X.env.scope x)(hd:Cg x:=by decide)(af:(x==("__classdict__" : Str))=false:=by decide):PE X (.Name x pos) (Jx i):=by
 intro aa s σ H Q I h;obtain⟨v,e,h⟩:=h;obtain⟨m,hn,hl⟩:=I.loc;obtain⟨u,r,l⟩:=hl i x v hN e hv;have M:EP X aa σ Q u s:=⟨v,H,I,r,h⟩;rcases l with⟨hk,hm⟩ | ⟨hk,c,hc,a⟩
 .exact wpAny_Name (wpAny_loadName_local I.ok.kind hk hn hm M) hd
 .rcases hk with hk | hk
  .exact wpAny_Name (wpAny_loadName_cell I.ok.kind hk hc a M) hd
  .exact wpAny_Name (wpAny_loadName_free I.ok.kind hk hc a M af) hd
theorem dQ{i j pos}:PE X (.Constant (.int i) j pos) (tC (.int i)):=λ_ _ _ H _ I h=>wpAny_Constant_int ⟨.int i,H,I.tok _,⟨_,rfl⟩,h⟩
theorem f'{b j pos}:PE X (.Constant (.bool b) j pos) (tC (.bl b)):=λ_ _ _ H _ I h=>Constant_bool ⟨.bl b,H,I,rfl,h⟩
theorem eS{x j pos}:PE X (.Constant (.str x) j pos) (tC (.str x)):=λ_ _ _ H _ I h=>Calls.Constant_str ⟨.str x,H,I.tok _,⟨_,rfl⟩,h⟩
def Gl(X:Cx)(x:Str):Prop:=X.env.kindOf x=some .globalImplicit
theorem XH{σ:St}{x:Str}{Q:JH}(I:D' X aa σ H s)(S:Gl X x)(hm:X.mg x=some u)(h:Q u s)
  (hd:Cg x:=by decide):wpAny (model X.prog X.w) X.A (eval (.Name x pos) X.env) Q E s :=
 Calls.Name_function_global I.ok.kind S (Calls.loadGlobal_global (by rw[I.ok.glob];exact I.mod.glob.keeps I.bk) hm h) hd
theorem S0{σ:St}{x:Str}{Q:JH}(I:D' X aa σ H s)(S:Gl X x)(hm:X.mg x=none)(hv:bootBuiltins x=some u)(h:Q u s)
  (hn:x≠"__name__" := by decide) (hd:Cg x:=by decide):wpAny (model X.prog X.w) X.A (eval (.Name x pos) X.env) Q E s:=by
 obtain⟨y,h1,h2⟩:=I.mod.blt;exact Calls.Name_function_global I.ok.kind S (Calls.loadGlobal_builtin (by rw[I.ok.glob];exact I.mod.glob.keeps I.bk) hm (by rw[I.ok.blt];exact h1.keeps I.bk) ((h2 x hn).trans hv) h) hd
theorem YC{x:Str}(S:Gl X x)(hm:X.mg x=none)(hv:bootBuiltins x=some u)(r:W5 v u)(hn:x≠"__name__" := by decide)(hd:Cg x:=by decide):PE X (.Name x pos) (tC v) :=
 λ_ _ _ H _ I h=>S0 I S hm hv ⟨v,H,I,r,h⟩ hn hd
variable{a b:Cs}{ta tb:TE}
def PC(X:Cx)(op:CmpOp)(a b:Cs)(t:TE):Prop :=
 ∀ (aa:I3) (s:A4) (σ:St) (H:Hp) (Q:VK),D' X aa σ H s->t σ H Q ->
  wpAny (model X.prog X.w) X.A (eval a X.env) (λv s₁=>wpAny (model X.prog X.w) X.A (eval b X.env) (λu s₂=>wpAny (model X.prog X.w) X.A (compareOp op v u) (EP X aa σ Q) X.xe s₂) X.xe s₁) X.xe s
def tB(t:TE):TT:=λσ H Q=>t σ H λx H1=>∃ c,x=.bl c/\Q c H1
theorem UD{t:TE}(h:PC X op a b t)(h1:behindInMarks op b=false:=by first | exact nobehind _ (by decide) (by decide) | rfl):PT X (.Compare a [op] [b] pos) (tB t):=by
 intro aa s σ H Q I hw;refine wpAny_isTrue_Compare1 (Vy (h aa s σ H _ I hw) λv s1 h1=>Vy h1 λu s2 h2=>Vy h2 λc P ⟨x,H1,G,r1,q1⟩=>?_) h1;obtain⟨d,rfl,q⟩:=q1;cases r1;exact EV ⟨H1,G,q⟩
variable{tA aE:TT}
def dv(t u:TT):TT:=λσ H Q=>t σ H λc H1=>if c=true then u σ H1 Q else Q false H1
def fj(t u:TT):TT:=λσ H Q=>t σ H λc H1=>if c=true then Q true H1 else u σ H1 Q
def bP(t:TT):TT:=λσ H Q=>t σ H λc H1=>Q (!c) H1
theorem bZ(Y:PT X a tA):PW X (.BoolOp .And [a] pos) tA:=by
 intro d aa s σ H Q I h;refine isTrue_and (Vy (Y aa s σ H Q I h) λc s1 e=>?_);cases c with
 | true=>exact isTrue_and_nil e
 | false=>exact e
theorem fU(Y:PT X a tA):PW X (.BoolOp .Or [a] pos) tA:=by
 intro d aa s σ H Q I h;refine isTrue_or (Vy (Y aa s σ H Q I h) λc s1 e=>?_);cases c with
 | false=>exact isTrue_or_nil e
 | true=>exact e
theorem cS(Y:PT X a tA)(hb:PW X (.BoolOp .And (b::ap) pos) aE):PW X (.BoolOp .And (a::b::ap) pos) (dv tA aE):=by
 intro d aa s σ H Q I h;refine isTrue_and (Vy (Y aa s σ H _ I h) λc s1 ⟨H1,G,q1⟩=>?_);cases c with
 | true=>exact hb d aa s1 σ H1 Q G q1
 | false=>exact⟨H1,G,q1⟩
theorem hB(Y:PT X a tA)(hb:PW X (.BoolOp .Or (b::ap) pos) aE):PW X (.BoolOp .Or (a::b::ap) pos) (fj tA aE):=by
 intro d aa s σ H Q I h;refine isTrue_or (Vy (Y aa s σ H _ I h) λc s1 ⟨H1,G,q1⟩=>?_);cases c with
 | true=>exact⟨H1,G,q1⟩
 | false=>exact hb d aa s1 σ H1 Q G q1
theorem gE(Y:PT X a tA):PT X (.UnaryOp .Not a pos) (bP tA):=by
 intro aa s σ H Q I h;exact isTrue_not (Y aa s σ H (λc H1=>Q (!c) H1) I h)
def fO(ta tb:TE):TE:=λσ H Q=>ta σ H λx H1=>∃ c,x=.bl c/\if c=true then tb σ H1 Q else Q (.bl false) H1
theorem fg{op}{t:TE}(h:PE X a t):PE X (.BoolOp op [a] pos) t:=λaa s σ H Q I hw=>BoolOp_one (h aa s σ H Q I hw)
theorem cG(Y:PE X a ta)(hb:PE X (.BoolOp .And (b::ap) pos) tb):PE X (.BoolOp .And (a::b::ap) pos) (fO ta tb):=by
 intro aa s σ H Q I h;refine BoolOp_and (Vy (Y aa s σ H _ I h) λv s1 ⟨x,H1,G,r1,q1⟩=>?_);obtain⟨c,rfl,q1⟩:=q1;cases r1;refine EV ?_;cases c with
 | true=>exact hb aa s1 σ H1 Q G q1
 | false=>exact⟨.bl false,H1,G,rfl,q1⟩
def dn(t:TT)(ta tb:TE):TE:=λσ H Q=>t σ H λc H1=>if c=true then ta σ H1 Q else tb σ H1 Q
theorem ie(hc:PT X c tA)(Y:PE X a ta)(hb:PE X b tb):PE X (.IfExp c a b pos) (dn tA ta tb):=by
 intro aa s σ H Q I h;refine wpAny_IfExp (Vy (hc aa s σ H _ I h) λd s1 ⟨H1,G,q1⟩=>?_);cases d with
 | true=>exact Y aa s1 σ H1 Q G q1
 | false=>exact hb aa s1 σ H1 Q G q1
end
variable{σ:St}{te tl ta:TE}{tc:TT}{tb:TS}
def Dq(K:E')(H:Hp)(a:A2)(xs:Z V):Prop :=
 Rd H a (.lst xs) \/
  ∃ (o:Obj) (its:Array A1) (n:Nat),K.lookup a=some o/\o.cls=.type "list" /\ o.dict=none/\o.data=.seq its n/\its.size<=sizeLine/\Yl xs its.toList
def Dx(K:E')(H:Hp)(a:A2)(xs:Z V):Prop :=
 H a=some (.tup xs) \/
  ∃ (o:Obj) (its:Array A1) (n:Nat),K.lookup a=some o/\o.cls=.type "tuple" /\ o.data=.seq its n/\its.size<=sizeLine/\Yl xs its.toList/\∀ i:Int,V.int i∉xs
def eF:A1->Cc V
 | .none=>some .non
 | .bool b=>some (.bl b)
 | .int i _=>some (.int i)
 | .str x _=>some (.str x)
 | .bytes b _=>some (.byt b)
 | .float b _=>some (.flt b)
 | .ref a=>some (.ref a)
 | .type n=>some (.ty n)
 | _=>none
theorem W5.abs{x:V}(r:W5 x u):eF u=some x:=by
 cases x with
 | non=>cases r;rfl
 | bl _=>cases r;rfl
 | int _=>obtain⟨t,rfl⟩:=r;rfl
 | str _=>obtain⟨t,rfl⟩:=r;rfl
 | byt _=>obtain⟨t,rfl⟩:=r;rfl
 | flt _=>obtain⟨t,rfl⟩:=r;rfl
 | ref _=>cases r;rfl
 | ty _=>cases r;rfl
theorem W5.inj{x y:V}{u:A1}(r:W5 x u)(q:W5 y u):x=y:=BK (r.abs.symm.trans q.abs)
theorem Yl.inj:∀ {xs ys:Z V} {us:Z A1},Yl xs us->Yl ys us->xs=ys
 | _,_,_,.nil,.nil=>rfl
 | _,_,_,.cons r t,.cons r' t'=>by rw[r.inj r',Yl.inj t t']
section
variable{a:A2}{ys:Z V}
theorem Dq.of(h:H a=some (.lst xs)):Dq K H a xs:=.inl (.inl h)
theorem D'.list(I:D' X aa σ H s)(h:Dq X.K H a xs):∃ its:Z A1,Yl xs its/\PlainL s.heap a its.toArray/\xs.length<=sizeLine:=by
 rcases h with h | ⟨o,its,n,hk,hc,hd,hs,hz,r⟩
 .obtain⟨z,its,n,r,e⟩:=h.ok I.hok
  exact⟨its,r,⟨_,n,e,rfl,rfl,rfl⟩,z⟩
 .refine⟨its.toList,r,⟨o,n,I.kIn a o hk,hc,hd,by simpa using hs⟩,?_⟩
  have e:=r.length;simp only[FJ] at e;lia
theorem D'.tuple(I:D' X aa σ H s)(h:Dx X.K H a xs):∃ its:Z A1,Yl xs its/\IsTup s.heap a its.toArray/\xs.length<=sizeLine:=by
 rcases h with h | ⟨o,its,n,hk,hc,hs,hz,r,_⟩
 .obtain⟨z,its,r,p⟩:=(Rd.of h).ok I.hok
  exact⟨its,r,p,z⟩
 .refine⟨its.toList,r,⟨o,I.kIn a o hk,hc,n,by simpa using hs⟩,?_⟩
  have e:=r.length;simp only[FJ] at e;lia
theorem D'.list_inj(I:D' X aa σ H s)(h:Dq X.K H a xs)(h':Dq X.K H a ys):xs=ys:=by
 obtain⟨its,r,⟨o,n,e,_,_,d⟩,_⟩:=I.list h;obtain⟨its',r',⟨o',p,e',_,_,d'⟩,_⟩:=I.list h';rw[e] at e';cases e';rw[d] at d';injection d' with R _
 have:its=its':=by simpa using EH Array.toList R
 subst this;exact r.inj r'
theorem D'.tuple_inj(I:D' X aa σ H s)(h:Dx X.K H a xs)(h':Dx X.K H a ys):xs=ys:=by
 obtain⟨its,r,⟨o,e,_,n,d⟩,_⟩:=I.tuple h;obtain⟨its',r',⟨o',e',_,p,d'⟩,_⟩:=I.tuple h';rw[e] at e';cases e';rw[d] at d';injection d' with R _
 have:its=its':=by simpa using EH Array.toList R
 subst this;exact r.inj r'
end
abbrev Cx.wish(X:Cx)(E:JH):Cx:={ X with xe:=E }
abbrev Cx.nox(X:Cx):Cx:=X.wish λ_ _=>False
theorem Cx.Ok.wish(ok:X.Ok)(E:JH):(X.wish E).Ok :=
 ⟨ok.mod,ok.kind,ok.glob,ok.blt,ok.above,ok.inj,ok.has,ok.cab,ok.hd,ok.frames,ok.stk,ok.exf,ok.bs,ok.bsz,ok.noex,ok.exfs,ok.funs,ok.frf⟩
theorem Cx.Ok.unwish(ok:(X.wish E).Ok):X.Ok :=
 ⟨ok.mod,ok.kind,ok.glob,ok.blt,ok.above,ok.inj,ok.has,ok.cab,ok.hd,ok.frames,ok.stk,ok.exf,ok.bs,ok.bsz,ok.noex,ok.exfs,ok.funs,ok.frf⟩
theorem D'.wish(I:D' X aa σ H s)(E:JH):D' (X.wish E) aa σ H s:=⟨I.ok.wish E,I.os,I.bare,I.base,I.loc,I.cell,I.free,I.freeC,I.pin,I.hok,I.len⟩
theorem D'.unwish(I:D' (X.wish E) aa σ H s):D' X aa σ H s:=⟨I.ok.unwish,I.os,I.bare,I.base,I.loc,I.cell,I.free,I.freeC,I.pin,I.hok,I.len⟩
theorem SP.unwish{D:JF}{f:Flow}(h:SP (X.wish E) aa D f s'):SP X aa D f s':=by
 cases f with
 | next=>obtain⟨σ',H',I,q⟩:=h;exact⟨σ',H',I.unwish,q⟩
 | brk=>obtain⟨σ',H',I,q⟩:=h;exact⟨σ',H',I.unwish,q⟩
 | cont=>obtain⟨σ',H',I,q⟩:=h;exact⟨σ',H',I.unwish,q⟩
 | ret u=>obtain⟨v,σ',H',I,r,q⟩:=h;exact⟨v,σ',H',I.unwish,r,q⟩
theorem Ku.nox{st:Z C2}{t:TS}(h:Ku X.nox st t):Ku X st t:=λaa s σ H D I hw =>
 CJ (h aa s σ H D (I.wish _) hw) (λ_ _ q=>q.unwish) λ_ _ z=>False.elim z
section
variable{ap:Z C2}{t u:TS}
def gZ:TS:=λD σ H=>D.nx σ H
def OQ(t u:TS):TS:=λD σ H=>t { D with nx:=u D } σ H
theorem VA:Ku X [] gZ:=λ_ _ σ H _ I h=>GW ⟨σ,H,I,h⟩
theorem Qu(h1:PS X st t)(h2:Ku X ap u):Ku X (st::ap) (OQ t u):=by
 intro aa s σ H D I h;refine wpAny_execs_cons (Vy (h1 aa s σ H { D with nx:=u D } I h) λf s1 q=>?_);cases f with
 | next =>
  obtain⟨σ',H',c,q⟩:=q;exact h2 aa s1 σ' H' D c q
 | ret v=>exact q
 | brk=>exact q
 | cont=>exact q
theorem Dr(h1:PS X st t):Ku X [st] t:=by
 intro aa s σ H D I h;refine wpAny_execs_cons (Vy (h1 aa s σ H D I h) λf s1 q=>?_);cases f with
 | next=>exact GW q
 | ret v=>exact q
 | brk=>exact q
 | cont=>exact q
theorem D'.quiet(I:D' X aa σ H s):interactive X.env=false:=by simp[interactive,I.ok.kind]
def gw(te:TE):TS:=λD σ H=>te σ H λ_ H1=>D.nx σ H1
theorem TK(he:PE X e te)(hs:swapsWith e none pos.line X.env=pure false:=by rfl):PS X (.Expr e pos) (gw te):=by
 intro aa s σ H D I h;exact wpAny_Expr_any (Vy (he aa s σ H _ I h) λv s1 ⟨x,H1,G,r1,q1⟩=>⟨σ,H1,G,q1⟩) I.quiet hs
def TM(te:TE):TS:=λD σ H=>te σ H D.rt
theorem Nj(he:PE X e te):PS X (.Return (some e) pos) (TM te):=by
 intro aa s σ H D I h;exact wpAny_Return_some (Vy (he aa s σ H _ I h) λv s1 ⟨x,H1,G,r1,q1⟩=>⟨x,σ,H1,G,r1,q1⟩)
def cZ(c:TT)(t u:TS):TS:=λD σ H=>c σ H λb H1=>if b=true then t D σ H1 else u D σ H1
theorem VH{a b:Z C2}(hc:PT X c tc)(Y:Ku X a t)(hb:Ku X b u):PS X (.If c a b pos) (cZ tc t u):=by
 intro aa s σ H D I h;refine wpAny_If (Vy (hc aa s σ H _ I h) λd s1 ⟨H1,G,q1⟩=>?_);cases d with
 | true=>exact Y aa s1 σ H1 D G q1
 | false=>exact hb aa s1 σ H1 D G q1
end
variable{vs:Z V}
abbrev TG:=V->St->Hp->(St->Hp->Prop)->Prop
abbrev KU:=Z V->St->Hp->(St->Hp->Prop)->Prop
def PG(X:Cx)(a:Cs)(t:TG):Prop :=
 ∀ (aa:I3) (s:A4) (σ:St) (H:Hp) (v:V) (u:A1) (Q:St->Hp->Prop),D' X aa σ H s->W5 v u->t v σ H Q ->
  wpAny (model X.prog X.w) X.A (assign a X.env u) (λ_ s'=>∃ σ' H',D' X aa σ' H' s'/\Q σ' H') X.xe s
def LB(X:Cx)(a:Z Cs)(t:KU):Prop :=
 ∀ (aa:I3) (s:A4) (σ:St) (H:Hp) (vs:Z V) (us:Z A1) (Q:St->Hp->Prop),D' X aa σ H s->Yl vs us->t vs σ H Q ->
  wpAny (model X.prog X.w) X.A (assignInOrder ((assignEach a X.env).map (·.2)) us) (λ_ s'=>∃ σ' H',D' X aa σ' H' s'/\Q σ' H') X.xe s
def ON(i:Nat):TG:=λv σ H Q=>Q (σ.set i (some v)) H
theorem hY{x:Str}(hN:X.N.Nodup)(hi:X.N[i]?=some x)(hx:KH X.env.scope x)(hf:X.fn x=true\/X.env.scope.names.lookup x=some .local:=by ext):PG X (.Name x pos) (ON i):=by
 intro aa s σ H v u Q I r h;exact wpAny_assign_Name (Bx I hN hi hx r (λs' c=>⟨_,H,c,h⟩) hf)
def dR:KU:=λvs σ H Q=>vs=[]/\Q σ H
def ce(t:TG)(u:KU):KU:=λvs σ H Q=>∃ v r,vs=v::r/\t v σ H λσ' H'=>u r σ' H' Q
theorem cj:LB X [] dR:=by
 intro aa s σ H vs us Q I r h;obtain⟨e,h⟩:=h;subst e;cases r;exact assignInOrder_nil ⟨σ,H,I,h⟩
theorem eI{t:TG}{u:KU}(h1:PG X e t)(h2:LB X es u)
  (hs:(assignEach (e::es) X.env).map (·.2)=assign e X.env::(assignEach es X.env).map (·.2):=by rfl):LB X (e::es) (ce t u):=by
 intro aa s σ H vs us Q I r h;obtain⟨v,a,e1,h⟩:=h;subst e1;cases r with
 | cons r rr =>
  rw[hs];refine assignInOrder_cons (Vy (h1 aa s σ H _ _ _ I r h) λ_ s1 ⟨σ1,H1,G,q1⟩=>?_);exact h2 aa s1 σ1 H1 _ _ Q G rr q1
def WG(K:E')(n:Nat)(t:KU):TG:=λv σ H Q=>∃ a xs,v=.ref a/\Dx K H a xs/\xs.length=n/\t xs σ H Q
theorem gj{k:Nat}{t:KU}(hc:X.calm=true)(h:LB X es t)
  (hn:(assignEach es X.env).length=n:=by rfl) (ac:(assignEach es X.env).findIdx? (·.1)=none:=by rfl):PG X (.Tuple es k pos) (WG X.K n t):=by
 intro aa s σ H v u Q I r hw;obtain⟨a,xs,e1,B,hl,hw⟩:=hw;subst e1;cases r;obtain⟨its,rv,ht,hz⟩:=I.tuple B;refine assign_Tuple_tuple (I.ok.hd hc) ht (by simp[hn,<- hl,rv.length]) ac λh' hx=>?_
 have G:D' X aa σ H { s with heap:=h' }:=I.kept (t':=s.toks) λb o e=>hx b o (BZ (BE e)) e
 exact h aa _ σ H xs _ Q G (by simpa using rv) hw
def RW(te:TE)(g:TG):TS:=λD σ H=>te σ H λx H1=>g x σ H1 D.nx
theorem XY{g:TG}(he:PE X e te)(S:PG X tg g)(hs:swapsWithSole [tg] e pos.line X.env=pure false:=by rfl)(hw:swappedStores [tg] e X.env=pure none:=by rfl)
  (h1:(assignEach [tg] X.env).map (·.2)=[assign tg X.env]:=by rfl):PS X (.Assign [tg] e pos) (RW te g):=by
 intro aa s σ H D I h;refine wpAny_Assign_stores (Vy (he aa s σ H _ I h) λv s1 ⟨x,H1,G,r1,q1⟩=>?_) hs hw;rw[h1];exact Vy (S aa s1 σ H1 x v _ G r1 q1) λ_ s2 q=>q
theorem Co{x:Str}(hN:X.N.Nodup)(hi:X.N[i]?=some x)(hx:KH X.env.scope x)(he:PE X e te)(hs:swapsWith e (some (.Name x au)) pos.line X.env=pure false:=by rfl)(hf:X.fn x=true\/X.env.scope.names.lookup x=some .local:=by ext) :
  PS X (.Assign [.Name x au] e pos) (RW te (ON i)):=by
 intro aa s σ H D I h;refine wpAny_Assign_Name (Vy (he aa s σ H _ I h) λv s1 ⟨y,H1,G,r1,q1⟩=>?_) hs;exact Bx G hN hi hx r1 (λs2 I2=>⟨_,H1,I2,q1⟩) hf
def bx(c:TT)(tb:TS):TS:=λD σ H=>∃ W:Nat->St->Hp->Prop,(∃ m,W m σ H)/\∀ m σ H,W m σ H ->
 c σ H λb H1=>if b=true then ∃ N:St->Hp->Prop,(∀ σ' H',N σ' H'->∃ m',m'<m/\W m' σ' H')/\tb { D with nx:=N,ct:=N,bk:=D.nx } σ H1 else D.nx σ H1
theorem gI(F:PassesOwn (model X.prog X.w) X.A X.env X.xe)(hc:PT X c tc)(hb:Ku X body tb):PS X (.While c body [] pos) (bx tc tb):=by
 intro aa s σ H D I h;obtain⟨W,⟨m0,w0⟩,l⟩:=h;refine wpAny_While (codeAny_whileLoop (λn s'=>∃ σ' H',D' X aa σ' H' s'/\W n σ' H') ?_ m0 ⟨σ,H,I,w0⟩);rintro n s1 ⟨σ1,H1,G,w1⟩;refine DX F (Vy (hc aa s1 σ1 H1 _ G (l n σ1 H1 w1)) λb s2 ⟨H2,I2,q2⟩=>?_);cases b with
 | true =>
  obtain⟨N,hN,q2⟩:=q2;rw[AF rfl];refine DX F (Vy (hb aa s2 σ1 H2 _ I2 q2) λf P q3=>?_);cases f with
  | next =>
   obtain⟨σ3,H3,t,e⟩:=q3;obtain⟨m',hm,w3⟩:=hN σ3 H3 e;exact⟨m',hm,σ3,H3,t,w3⟩
  | cont =>
   obtain⟨σ3,H3,t,e⟩:=q3;obtain⟨m',hm,w3⟩:=hN σ3 H3 e;exact⟨m',hm,σ3,H3,t,w3⟩
  | brk=>exact q3
  | ret v=>exact q3
 | false =>
  rw[AJ BO];exact GW ⟨σ1,H2,I2,q2⟩
structure It where
 go:Nat->Hp->Prop
 yld:Nat->Hp->V->Hp->Prop
 stop:Nat->Hp->Prop
def Ro(X:Cx)(aa:I3)(H:Hp)(b:A2):Prop :=
 H b=none/\b≠X.env.locals/\b∉X.fs/\(b∈X.ex\/X.s₀.heap.objs.size<=b)/\(∀ x c,X.env.cells.lookup x=some c->c≠b)/\∀ p∈X.pn++aa,p.1≠b
theorem D'.fpOk{b:A2}(I:D' X aa σ H s)(hb:s.heap.objs.size<=b)(hn:H' b=none):Ro X aa H' b:=by
 refine⟨hn,IK (AV I.lt hb),I.nofs hb,.inr (BI I.sz hb),λx c e z=>?_,λp F z=>?_⟩
 .obtain⟨v,q⟩:=I.cell x c e
  exact absurd (AV q.lt (by rw[z];exact hb)) (ED _)
 .exact absurd (AV (BE (I.pin p F).1) (by rw[z];exact hb)) (ED _)
def UK(A:B2)(h:Ff):Prop:=A.handled=none\/∃ e,A.handled=some (.ref e)/\LO h e
def MH(X:Cx):Prop:=∀ aa σ H s,D' X aa σ H s->UK X.A s.heap
theorem MH.calm(h:X.calm=true):MH X:=λ_ _ _ _ I=>.inl (I.ok.hd h)
def Cm:Bool->Cx->Prop
 | false,X=>X.calm=true
 | true,X=>MH X
structure JN (b:Bool) (P:Program) (w:World) (K:E') (tg:Expr) (J:It) (fp:List Addr) (it:Addr) (tn:Nat->Heap->Prop):Prop where
 mem:it∈fp
 obj:∀ i h,tn i h->∀ b∈fp,∃ o,h.get? b=some o/\∀ v,o.data≠.cell v
 keep:∀ i h h',tn i h->(∀ b∈fp,∀ o,h.get? b=some o->h'.get? b=some o)->tn i h'
 item:∀ (X:Cx),X.prog=P->X.w=w->X.K=K->Cm b X->∀ (i:Nat) (aa:I3) (s:Shared) (σ:St) (H:Hp) (E:JH),D' X aa σ H s->(∀ b∈fp,Ro X aa H b)->tn i s.heap->J.go i H ->
  wpAny (model P w) X.A (pyNext (.ref it)) (λr s1=>∃ u,r=some u /\
   wpAny (model P w) X.A (letOwnedTupleGo tg (.ref it) u) (λ_ s2=>∃ x H',D' X aa σ H' s2/\W5 x u/\J.yld i H x H'/\tn (i+1) s2.heap/\∀ b∈fp,H' b=none) E s1) E s
 done:∀ (X:Cx),X.prog=P->X.w=w->X.K=K->Cm b X->∀ (i:Nat) (aa:I3) (s:Shared) (σ:St) (H:Hp) (E:JH),D' X aa σ H s->(∀ b∈fp,Ro X aa H b)->tn i s.heap->J.stop i H ->
  wpAny (model P w) X.A (pyNext (.ref it)) (λr s1=>r=none/\D' X aa σ H s1) E s
 self:∀ (A:Around) (i:Nat) (s:Shared) (Q:JH) (E:JH),tn i s.heap->Q (.ref it) s->wpAny (model P w) A (pyIter (.ref it)) Q E s
abbrev Cw:=JN false
theorem JN.weak{J:It}{tn:Nat->Ff->Prop}(T:JN true P w K tg J fp it tn):Cw P w K tg J fp it tn :=
 ⟨T.mem,T.obj,T.keep,λX h1 h2 h3 hc=>T.item X h1 h2 h3 (MH.calm hc),λX h1 h2 h3 hc=>T.done X h1 h2 h3 (MH.calm hc),T.self⟩
abbrev TI:=St->Hp->(It->Hp->Prop)->Prop
def TU(b:Bool)(X:Cx)(aa:I3)(σ:St)(tg:Cs)(R:It->Hp->Prop)(k:A1)(s2:A4):Prop :=
 ∃ (it:A2) (fp:Z A2) (tn:Nat->Ff->Prop) (J:It) (H':Hp),k=.ref it/\D' X aa σ H' s2/\JN b X.prog X.w X.K tg J fp it tn/\tn 0 s2.heap/\(∀ b∈fp,Ro X aa H' b)/\R J H'
abbrev eG:=TU false
def KW(b:Bool)(X:Cx)(tg iter:Cs)(wi:TI):Prop :=
 ∀ (aa:I3) (s:A4) (σ:St) (H:Hp) (R:It->Hp->Prop),D' X aa σ H s->wi σ H R ->
  wpAny (model X.prog X.w) X.A (eval iter X.env) (λv s1=>wpAny (model X.prog X.w) X.A (pyIter v) (TU b X aa σ tg R) X.xe s1) X.xe s
abbrev PI:=KW false
theorem KW.weak{wi:TI}(h:KW true X tg iter wi):PI X tg iter wi:=λaa s σ H R I q=>CJ (h aa s σ H R I q) (λv s1 z=>CJ z (λu s2 ⟨it,fp,tn,J,H',a,b,c,d⟩=>⟨it,fp,tn,J,H',a,b,c.weak,d⟩) λ_ _ z=>z) λ_ _ z=>z
theorem RD{M:Model}{o:Obj}{n:String}{vs:Array A1}(J:s.heap.get? it=some o)(hc:o.cls=.type n)(hd:o.data=.fields vs)
   (hn:["enumerate","zip","dict_itemiterator","dict_reverseitemiterator","odict_iterator","itertools.zip_longest","itertools.pairwise"].contains n=false) (g:Q () s):wpAny M A (letOwnedTupleGo tg (.ref it) u) Q E s:=by
 unfold letOwnedTupleGo;cases tg<;>first
   | exact AG g
   | (cases u<;>first
       | exact AG g
       | (refine AA (wpAny_load J ?_)
          rw[hc,hd];show wpAny M A (if(["enumerate","zip","dict_itemiterator","dict_reverseitemiterator","odict_iterator","itertools.zip_longest","itertools.pairwise"].contains n&&vs[0]?==some (rawInt _))=true then _ else _) Q E s;rw[AJ (by intro h;rw[hn,Bool.false_and] at h;cases h)];exact AG g))
def QC(K:E')(a:A2):It :=
 ⟨λi H=>∃ xs x,Dq K H a xs/\xs[i]?=some x,λi H x H'=>H'=H/\∀ xs,Dq K H a xs->xs[i]?=some x,λi H=>∃ xs,Dq K H a xs/\xs.length<=i⟩
def QF(K:E')(a:A2):It :=
 ⟨λi H=>∃ xs x,Dx K H a xs/\xs[i]?=some x,λi H x H'=>H'=H/\∀ xs,Dx K H a xs->xs[i]?=some x,λi H=>∃ xs,Dx K H a xs/\xs.length<=i⟩
def OO(lo:Int)(n:Nat):It:=⟨λi _=>i<n,λi H x H'=>H'=H/\x=.int (lo+i),λi _=>n<=i⟩
theorem YW(a it:A2):JN true P w K tg (QC K a) [it] it (λi h=>h.IsListIter it a i) where
 mem:=by simp
 obj:=λi h st b hb=>by
  have e:b=it:=by simpa using hb
  subst e;obtain⟨o,e,c,d⟩:=st;exact⟨o,e,λv z=>by rw[d] at z;cases z⟩
 keep:=λi h h' st k=>st.at λo e=>k it (by simp) o e
 item:=by
  intro X F hw l hc i aa s σ H E I hf st S;subst F hw l;obtain⟨xs,x,B,hx⟩:=S;obtain⟨its,rv,p,hz⟩:=I.list B;obtain⟨u,hu,g⟩:=rv.get hx;obtain⟨j,f1,f2,f3,m,q⟩:=hf it (by simp);refine wpAny_pyNext_list_item st p.isList (x:=u) (by simpa using hu) λh' R sb=>?_
  have G:D' X aa σ H { s with heap:=h' }:=I.turned (t':=s.toks) (λb o hb e=>(sb.2 b hb).trans e) j f1 f3 m q;obtain⟨o,e,c,d⟩:=id R;exact⟨u,rfl,RD (s:={ s with heap:=h' }) e c d (by decide) ⟨x,H,G,g,⟨rfl,λys hy=>by rw[I.list_inj hy B];exact hx⟩,R,λb hb=>(hf b hb).1⟩⟩
 done:=by
  intro X F hw l hc i aa s σ H E I hf st S;subst F hw l;obtain⟨xs,B,hx⟩:=S;obtain⟨its,rv,p,hz⟩:=I.list B;obtain⟨j,f1,f2,f3,m,q⟩:=hf it (by simp);have hl:=rv.length;rcases hc _ _ _ _ I with M | ⟨e,M,t⟩
  .exact wpAny_pyNext_list_end M st p.isList (by simp;lia) λh' T=>⟨rfl,I.turned (t':=s.toks) (λb o hb e=>T b o hb e) j f1 f3 m q⟩
  .exact Lx M t st p.isList (by simp;lia) λh' T=>⟨rfl,I.turned (t':=s.toks) (λb o hb e=>T b o hb e) j f1 f3 m q⟩
 self:=λ_ _ _ _ _ st h=>wpAny_pyIter_listiter st h
theorem dA(a it:A2):Cw P w K tg (QF K a) [it] it (λi h=>h.IsTupleIter it a i) where
 mem:=by simp
 obj:=λi h st b hb=>by
  have e:b=it:=by simpa using hb
  subst e;obtain⟨o,e,c,d⟩:=st;exact⟨o,e,λv z=>by rw[d] at z;cases z⟩
 keep:=λi h h' st k=>st.at λo e=>k it (by simp) o e
 item:=by
  intro X F hw l hc i aa s σ H E I hf st S;subst F hw l;obtain⟨xs,x,B,hx⟩:=S;obtain⟨its,rv,p,hz⟩:=I.tuple B;obtain⟨u,hu,g⟩:=rv.get hx;obtain⟨j,f1,f2,f3,m,q⟩:=hf it (by simp);refine wpAny_pyNext_tuple_item st (show s.heap.IsTuple a its.toArray from p) (x:=u) (by simpa using hu) λh' R sb=>?_
  have G:D' X aa σ H { s with heap:=h' }:=I.turned (t':=s.toks) (λb o hb e=>(sb.2 b hb).trans e) j f1 f3 m q;obtain⟨o,e,c,d⟩:=id R;exact⟨u,rfl,RD (s:={ s with heap:=h' }) e c d (by decide) ⟨x,H,G,g,⟨rfl,λys hy=>by rw[I.tuple_inj hy B];exact hx⟩,R,λb hb=>(hf b hb).1⟩⟩
 done:=by
  intro X F hw l hc i aa s σ H E I hf st S;subst F hw l;obtain⟨xs,B,hx⟩:=S;obtain⟨its,rv,p,hz⟩:=I.tuple B;obtain⟨j,f1,f2,f3,m,q⟩:=hf it (by simp);have hl:=rv.length;exact wpAny_pyNext_tuple_end (I.ok.hd hc) st (show s.heap.IsTuple a its.toArray from p) (by simp;lia) λh' T=>⟨rfl,I.turned (t':=s.toks) (λb o hb e=>T b o hb e) j f1 f3 m q⟩
 self:=λ_ _ _ _ _ st h=>wpAny_pyIter_tupleiter st h
theorem f8(it:A2)(lo:Int)(n:Nat):Cw P w K tg (OO lo n) [it] it (λi h=>IsRangeIter h it (lo+(i:Nat)*1) ((n:Int) - (i:Nat)) 1) where
 mem:=by simp
 obj:=λi h st b hb=>by
  have e:b=it:=by simpa using hb
  subst e;exact⟨_,st,λv z=>by
   have z':Data.fields _=Data.cell v:=z;cases z'⟩
 keep:=λi h h' st k=>k it (by simp) _ st
 item:=by
  intro X F hw l hc i aa s σ H E I hf st S;subst F hw l;obtain⟨j,f1,f2,f3,m,q⟩:=hf it (by simp);have W:=Walks.range (prog:=X.prog) (w:=X.w) (I.ok.hd hc) it lo 1 n;refine W.item i s _ _ S st λv h' tk hv R kk=>?_
  obtain⟨t,rfl⟩:=hv;have G:D' X aa σ H { s with heap:=h',toks:=tk }:=I.turned (λb o hb e=>kk b o (by simpa using hb) e) j f1 f3 m q;refine⟨_,rfl,RD (s:={ s with heap:=h',toks:=tk }) (n:="range_iterator") R rfl rfl (by decide) ⟨.int (lo+i),H,G,⟨t,?_⟩,⟨rfl,rfl⟩,R,λb hb=>(hf b hb).1⟩⟩;rw[Int.mul_one]
 done:=by
  intro X F hw l hc i aa s σ H E I hf st S;subst F hw l;obtain⟨j,f1,f2,f3,m,q⟩:=hf it (by simp);exact wpAny_pyNext_range_end (I.ok.hd hc) st (by have:n<=i:=S;lia) λh' T=>⟨rfl,I.turned (t':=s.toks) (λb o hb e=>T b o hb e) j f1 f3 m q⟩
 self:=λ_ _ _ _ _ st h=>wpAny_pyIter_rangeiter st h
def QW(K:E')(tl:TE):TI:=λσ H R=>tl σ H λx H1=>∃ a,x=.ref a/\(∃ xs,Dq K H1 a xs)/\R (QC K a) H1
def VU(K:E')(tl:TE):TI:=λσ H R=>tl σ H λx H1=>∃ a,x=.ref a/\(∃ xs,Dx K H1 a xs)/\R (QF K a) H1
theorem YG(hl:PE X l tl):KW true X tg l (QW X.K tl):=by
 intro aa s σ H R I h;refine Vy (hl aa s σ H _ I h) λv s1 ⟨x,H1,G,r1,q1⟩=>?_
 obtain⟨a,e,⟨xs,B⟩,q⟩:=q1;subst e;cases r1;obtain⟨its,rv,p,hz⟩:=G.list B;refine GJ p.isList ?_;refine⟨s1.heap.objs.size,[s1.heap.objs.size],_,_,H1,rfl,G.kept (t':=s1.toks) λb o e=>AD _ e,YW a _,⟨_,AW _ rfl,rfl,rfl⟩,λb hb=>?_,q⟩;have e:b=s1.heap.objs.size:=by simpa using hb
 subst e;exact G.fpOk (AT _) (G.hok.fresh (AT _))
theorem ZL(hl:PE X l tl):PI X tg l (QW X.K tl):=(YG hl).weak
theorem en(hl:PE X l tl):PI X tg l (VU X.K tl):=by
 intro aa s σ H R I h;refine Vy (hl aa s σ H _ I h) λv s1 ⟨x,H1,G,r1,q1⟩=>?_
 obtain⟨a,e,⟨xs,B⟩,q⟩:=q1;subst e;cases r1;obtain⟨its,rv,p,hz⟩:=G.tuple B;refine EQ (show s1.heap.IsTuple a its.toArray from p) ?_;refine⟨s1.heap.objs.size,[s1.heap.objs.size],_,_,H1,rfl,G.kept (t':=s1.toks) λb o e=>AD _ e,dA a _,⟨_,AW _ rfl,rfl,rfl⟩,λb hb=>?_,q⟩;have e:b=s1.heap.objs.size:=by simpa using hb
 subst e;exact G.fpOk (AT _) (G.hok.fresh (AT _))
theorem gN{R:It->Hp->Prop}{lo hi:Int}{t u v:Tok}(I:D' X aa σ H s)(h1 : -(2^62)<=lo)(h2:lo<2^62)(h3 : -(2^62)<=hi)(h4:hi<2^62)
  (q:R (OO lo (hi - lo).toNat) H):wpAny (model X.prog X.w) X.A (pyIter (.ref s.heap.objs.size)) (eG X aa σ tg R) E { s with heap:=s.heap.push { cls:=.type "range",data:=.fields #[.int lo t,.int hi u,.int 1 v] },toks:=tk }:=by
 refine wpAny_pyIter_range (IsRange.new ..) (small_one h1 h2 h3 h4) ?_;have G:D' X aa σ H { s with heap:=s.heap.push { cls:=.type "range",data:=.fields #[.int lo t,.int hi u,.int 1 v] },toks:=tk }:=I.kept λb o e=>AD _ e
 refine⟨(s.heap.push { cls:=.type "range",data:=.fields #[.int lo t,.int hi u,.int 1 v] }).objs.size,[(s.heap.push { cls:=.type "range",data:=.fields #[.int lo t,.int hi u,.int 1 v] }).objs.size],_,_,H,rfl,
  G.kept (t':=tk) λb o e=>AD _ e,f8 _ lo (hi - lo).toNat,?_,λb hb=>?_,q⟩
 .have e1:lo+((0:Nat):Int)*1=lo:=by simp
  have e2:(((hi - lo).toNat:Nat):Int) - ((0:Nat):Int)=Builtin.Range.rangeSize lo hi 1:=by rw[rangeSize_one];split<;>lia
  show IsRangeIter _ _ (lo+((0:Nat):Int)*1) ((((hi - lo).toNat:Nat):Int) - ((0:Nat):Int)) 1;rw[e1,e2];exact AW _ rfl
 .have e:b=(s.heap.push { cls:=.type "range",data:=.fields #[.int lo t,.int hi u,.int 1 v] }).objs.size:=by simpa using hb
  subst e;exact G.fpOk (AT _) (G.hok.fresh (AT _))
def gL(ta:TA):TI:=λσ H R=>ta σ H λvs H1=>∃ j:Int,vs=[.int j]/\-(2^62)<=j/\j<2^62/\R (OO 0 j.toNat) H1
theorem ep{a:Cs}{ta:TA}(S:Gl X "range")(hm:X.mg "range" = none)(Y:PA X [a] ta)(hs:starEach [a] X.env=[(false,eval a X.env)]:=by rfl):PI X tg (.Call (.Name "range" p) [a] [] pos) (gL ta):=by
 intro aa s σ H R I h;refine Call_ (S0 I S hm boot_range (DF (Vy (Y pos aa s σ H _ I h) λus s1 ⟨vs,H1,G,r1,q1⟩=>?_) hs rfl));obtain⟨j,e,q1,q2,q⟩:=q1;subst e;cases r1 with
 | cons r rr =>
  cases rr;obtain⟨t,rfl⟩:=r;exact call_range_1 (gN G (by lia) (by lia) q1 q2 (by simpa using q))
def cV(wi:TI)(g:TG)(tb:TS):TS:=λD σ H=>wi σ H λJ H1=>∃ W:Nat->Nat->St->Hp->Prop,(∃ m,W 0 m σ H1)/\∀ i m σ H,W i m σ H ->
 (J.stop i H/\D.nx σ H)\/(J.go i H/\∃ N:St->Hp->Prop,(∀ σ' H',N σ' H'->∃ m',m'<m/\W (i+1) m' σ' H')/\∀ x H',J.yld i H x H'->g x σ H' λσ2 H2=>tb { D with nx:=N,ct:=N,bk:=D.nx } σ2 H2)
def Li(fp:Z A2)(h:Ff):Z (A2×Obj):=fp.filterMap λb=>(h.get? b).map λo=>(b,o)
theorem S9{b:A2}{o:Obj}(hb:b∈fp)(e:h.get? b=some o):(b,o)∈Li fp h:=List.mem_filterMap.mpr ⟨b,hb,by rw[e];rfl⟩
theorem cN{p:A2×Obj}(F:p∈Li fp h):p.1∈fp/\h.get? p.1=some p.2:=by
 obtain⟨b,hb,e⟩:=List.mem_filterMap.mp F;cases q:h.get? b with
 | none=>rw[q] at e;cases e
 | some o =>
  rw[q] at e;have e':(b,o)=p:=BK e;subst e';exact⟨hb,q⟩
theorem D'.pinned(I:D' X aa σ H s)(hf:∀ b∈fp,Ro X aa H b)(J:∀ b∈fp,∃ o,s.heap.get? b=some o/\∀ v,o.data≠.cell v):D' X (aa++Li fp s.heap) σ H s :=
 I.pins_of λp F=>(BH.mp F).elim (λz=>I.pin p (BQ _ z)) λz=>by
  obtain⟨hb,e⟩:=cN z;obtain⟨j,f1,f2,_⟩:=hf p.1 hb;obtain⟨o,e',d⟩:=J p.1 hb;rw[e] at e';cases e';exact⟨e,j,f1,f2,d⟩
theorem D'.unpinned{pl:I3}(I:D' X (aa++pl) σ H s):D' X aa σ H s:=I.pins_of λp F=>I.pin p (BQ _ (FC _ F))
theorem iJ{wi:TI}{g:TG}(F:PassesOwn (model X.prog X.w) X.A X.env X.xe)(hc:X.calm=true)(hi:PI X tg iter wi)(S:PG X tg g)(hb:Ku X body tb)
  (hs:∀ x,foldedSetIterable iter X.env x=pure x:=by intro _;rfl):PS X (.For tg iter body [] pos) (cV wi g tb):=by
 intro aa s σ H D I h;refine wpAny_For (Vy (hi aa s σ H _ I h) λv s1 h1=>Vy h1 λk s2 h2=>?_) hs;obtain⟨it,fp,tn,J,H2,e,I2,T,p,f2,W,⟨m0,w0⟩,l⟩:=h2;subst e
 -- what stays true of C iterator's B through C aj
 have M:∀ {H':Hp},(∀ b∈fp,H' b=none)->∀ b∈fp,Ro X aa H' b:=λhn b hb=>⟨hn b hb,(f2 b hb).2⟩
 refine codeAny_forLoop_any (λn s'=>∃ i σ' H',D' X aa σ' H' s'/\tn i s'.heap/\(∀ b∈fp,H' b=none)/\W i n σ' H') ?_ m0 ⟨0,σ,H2,I2,p,λb hb=>(f2 b hb).1,w0⟩;rintro n P ⟨i,σ3,H3,t,a,c,w3⟩;rcases l i n σ3 H3 w3 with⟨stop,qn⟩ | ⟨go,N,hN,step⟩
 .refine DX F (Vy (T.done X rfl rfl rfl hc i aa P σ3 H3 X.xe t (M c) a stop) λr s4 ⟨hr,I4⟩=>?_)
  subst hr;exact GW ⟨σ3,H3,I4,qn⟩
 .refine DX F (Vy (T.item X rfl rfl rfl hc i aa P σ3 H3 X.xe t (M c) a go) λr s4 ⟨u,hr,h4⟩=>?_)
  subst hr;refine DX F (Vy h4 λ_ s5 ⟨x,H5,I5,r5,y5,af,ar⟩=>?_);have au:=I5.pinned (M ar) (T.obj _ _ af);refine DX F (Vy (S _ s5 σ3 H5 x u _ au r5 (step x H5 y5)) λ_ s6 ⟨σ6,H6,I6,q6⟩=>?_);refine DX F (Vy (hb _ s6 σ6 H6 _ I6 q6) λf s7 q7=>?_);have again:∀ {σ7:St} {H7:Hp},D' X (aa++Li fp s5.heap) σ7 H7 s7->N σ7 H7->∃ m,m<n/\∃ i σ' H',D' X aa σ' H' s7/\tn i s7.heap/\(∀ b∈fp,H' b=none)/\W i m σ' H':=λ{σ7 H7} I7 j=>by
   obtain⟨m',hm,w7⟩:=hN σ7 H7 j;refine⟨m',hm,i+1,σ7,H7,I7.unpinned,T.keep _ _ _ af λb hb o e=>(I7.pin (b,o) (BQ _ (BQ _ (S9 hb e)))).1,λb hb=>?_,w7⟩;obtain⟨o,e,d⟩:=T.obj _ _ af b hb;exact(I7.pin (b,o) (BQ _ (BQ _ (S9 hb e)))).2.1
  cases f with
  | next=>obtain⟨σ7,H7,I7,j⟩:=q7;exact again I7 j
  | cont=>obtain⟨σ7,H7,I7,j⟩:=q7;exact again I7 j
  | brk=>obtain⟨σ7,H7,I7,q7⟩:=q7;exact⟨σ7,H7,I7.unpinned,q7⟩
  | ret v=>obtain⟨y,σ7,H7,I7,r7,q7⟩:=q7;exact⟨y,σ7,H7,I7.unpinned,r7,q7⟩
abbrev R2:=V->V->Hp->VK->Prop
def E3(X:Cx)(f:A1->A1->Sem A1)(r:R2):Prop :=
 ∀ (aa:I3) (s:A4) (σ:St) (H:Hp) (x y:V) (v u:A1) (Q:VK),D' X aa σ H s->W5 x v->W5 y u->r x y H Q ->
  wpAny (model X.prog X.w) X.A (f v u) (EP X aa σ Q) X.xe s
def LP(X:Cx)(f:A1->Sem A1)(r:V->Hp->VK->Prop):Prop :=
 ∀ (aa:I3) (s:A4) (σ:St) (H:Hp) (x:V) (v:A1) (Q:VK),D' X aa σ H s->W5 x v->r x H Q ->
  wpAny (model X.prog X.w) X.A (f v) (EP X aa σ Q) X.xe s
def Uq(X:Cx)(f:A1)(r:Z V->Hp->VK->Prop):Prop :=
 ∀ (aa:I3) (s:A4) (σ:St) (H:Hp) (xs:Z V) (us:Z A1) (Q:VK),D' X aa σ H s->Yl xs us->r xs H Q ->
  wpAny (model X.prog X.w) X.A (call f us) (EP X aa σ Q) X.xe s
def iZ(X:Cx)(r:V->Hp->(Bool->Hp->Prop)->Prop):Prop :=
 ∀ (aa:I3) (s:A4) (σ:St) (H:Hp) (x:V) (v:A1) (Q:Bool->Hp->Prop),D' X aa σ H s->W5 x v->r x H Q ->
  wpAny (model X.prog X.w) X.A (truthy v) (TP X aa σ Q) X.xe s
def MT(r:R2)(ta tb:TE):TE:=λσ H Q=>ta σ H λx H1=>tb σ H1 λy H2=>r x y H2 Q
def gR(r:V->Hp->VK->Prop)(ta:TE):TE:=λσ H Q=>ta σ H λx H1=>r x H1 Q
def rI(C:Int->Int->Prop)(g:Int->Int->V):R2:=λx y H Q=>∃ i j,x=.int i/\y=.int j/\C i j/\Q (g i j) H
def KI(g:Int->Int->V):R2:=λx y H Q=>∃ i j,x=.int i/\y=.int j/\Q (g i j) H
def rU(g:Int->V):V->Hp->VK->Prop:=λx H Q=>∃ i,x=.int i/\Q (g i) H
section
variable{a b:Cs}{tb tc:TE}
theorem QG(Y:PE X a ta)(hb:PE X b tb){R:V->V->Hp->Prop}(I:D' X aa σ H s)
  (h:ta σ H λx H1=>tb σ H1 λy H2=>R x y H2) {Q:JH} {f:A1->A1->Sem A1}
  (hf:∀ v u s2 x y H2,D' X aa σ H2 s2->W5 x v->W5 y u->R x y H2->wpAny (model X.prog X.w) X.A (f v u) Q X.xe s2) :
  wpAny (model X.prog X.w) X.A (eval a X.env) (λv s₁=>wpAny (model X.prog X.w) X.A (eval b X.env) (λu s₂=>wpAny (model X.prog X.w) X.A (f v u) Q X.xe s₂) X.xe s₁) X.xe s:=by
 refine Vy (Y aa s σ H _ I h) λv s1 ⟨x,H1,G,r1,q1⟩=>?_
 refine Vy (hb aa s1 σ H1 _ G q1) λu s2 ⟨y,H2,I2,r2,q2⟩=>?_
 exact hf v u s2 x y H2 I2 r1 r2 q2
theorem TZ{op:Operator}{r:R2}(J:E3 X (binaryOp op) r)(Y:PE X a ta)(hb:PE X b tb):PE X (.BinOp a op b pos) (MT r ta tb):=by
 intro aa s σ H Q I h;exact wpAny_BinOp (QG Y hb I h λv u s2 x y H2 I2 rx m q=>J aa s2 σ H2 x y v u Q I2 rx m q)
theorem cT{op:UnaryOp}{r:V->Hp->VK->Prop}(J:LP X (unaryOp op) r)(Y:PE X a ta):PE X (.UnaryOp op a pos) (gR r ta):=by
 intro aa s σ H Q I h;exact UnaryOp_ (Vy (Y aa s σ H _ I h) λv s1 ⟨x,H1,G,r1,q1⟩=>J aa s1 σ H1 x v Q G r1 q1)
theorem NN{C:Int->Int->Prop} 
  (rule:∀ (i j:Int) (t u:Tok) (s:A4) (Q:JH) (E:JH),C i j->Q (.int (g i j) s.toks) { s with toks:=s.toks+1 }->wpAny (model X.prog X.w) X.A (f (.int i t) (.int j u)) Q E s) :
  E3 X f (rI C λi j=>.int (g i j)):=by
 intro aa s σ H x y v u Q I rx m h;obtain⟨i,j,rfl,rfl,hc,q⟩:=h;obtain⟨t,rfl⟩:=rx;obtain⟨t',rfl⟩:=m;exact rule i j t t' s _ _ hc ⟨.int (g i j),H,I.tok _,⟨_,rfl⟩,q⟩
theorem MZ
  (rule:∀ (i j:Int) (t u:Tok) (s:A4) (Q:JH) (E:JH),Q (.int (g i j) s.toks) { s with toks:=s.toks+1 }->wpAny (model X.prog X.w) X.A (f (.int i t) (.int j u)) Q E s) :
  E3 X f (KI λi j=>.int (g i j)):=by
 intro aa s σ H x y v u Q I rx m h;obtain⟨i,j,rfl,rfl,q⟩:=h;obtain⟨t,rfl⟩:=rx;obtain⟨t',rfl⟩:=m;exact rule i j t t' s _ _ ⟨.int (g i j),H,I.tok _,⟨_,rfl⟩,q⟩
theorem PX{g:Int->Int->Bool}
  (rule:∀ (i j:Int) (t u:Tok) (s:A4) (Q:JH) (E:JH),Q (.bool (g i j)) s->wpAny (model X.prog X.w) X.A (f (.int i t) (.int j u)) Q E s) :
  E3 X f (KI λi j=>.bl (g i j)):=by
 intro aa s σ H x y v u Q I rx m h;obtain⟨i,j,rfl,rfl,q⟩:=h;obtain⟨t,rfl⟩:=rx;obtain⟨t',rfl⟩:=m;exact rule i j t t' s _ _ ⟨.bl (g i j),H,I,rfl,q⟩
def NW(i j:Int):Prop:=0<j/\j<1073741824
def OI(i j:Int):Prop:=0<=j/\j<=1000000/\i.natAbs<2^64
def LY(i j:Int):Prop:=(-(2^64)<i/\i<2^64)\/(-(2^64)<j/\j<2^64)
theorem LY.ok{i j:Int}(h:LY i j):IntMulOk i j:=by
 rcases h with⟨h1,h2⟩ | ⟨h1,h2⟩
 .exact .of_left (intBits_le_64 h1 h2)
 .exact .of_right (intBits_le_64 h1 h2)
theorem Cf(k:Nat):(0:Int)<=2^k:=by
 rw[two_pow_cast];exact Int.natCast_nonneg _
theorem eQ:E3 X (binaryOp .Add) (KI λi j=>.int (i+j)):=MZ λ_ _ _ _ _ _ _ q=>add_int q
theorem fT:E3 X (binaryOp .Sub) (KI λi j=>.int (i - j)):=MZ λ_ _ _ _ _ _ _ q=>sub_int q
theorem hH:E3 X (binaryOp .Mult) (rI LY λi j=>.int (i*j)):=NN λ_ _ _ _ _ _ _ hc q=>mul_int q hc.ok
theorem h8:E3 X (binaryOp .FloorDiv) (rI NW λi j=>.int (i / j)):=NN λi j _ _ _ _ _ hc q=>by
 have h1:(0:Int)<j:=hc.1;have h2:j<1073741824:=hc.2;exact floordiv_int (by lia) (by rw[Int.fdiv_eq_ediv_of_nonneg i (by lia)];exact q) (.inl (PyProof.noPylong_small (by lia)))
theorem fm:E3 X (binaryOp .Mod) (rI (λ_ j=>0<j) λi j=>.int (i % j)):=NN λi j _ _ _ _ _ hc q=>by
 have h1:(0:Int)<j:=hc;exact mod_int' (by lia) (by rw[Int.fmod_eq_emod_of_nonneg i (by lia)];exact q)
theorem hj:E3 X (binaryOp .LShift) (rI OI λi j=>.int (i*2^j.toNat)):=NN λ_ _ _ _ _ _ _ hc q=>lshift_int_small hc.1 hc.2.1 hc.2.2 q
theorem YF:E3 X (binaryOp .RShift) (rI (λ_ j=>0<=j) λi j=>.int (i / 2^j.toNat)):=NN λi j _ _ _ _ _ hc q =>
 rshift_int hc (by rw[Int.fdiv_eq_ediv_of_nonneg i (Cf _)];exact q)
theorem fG:E3 X (binaryOp .BitAnd) (KI λi j=>.int (Builtin.bitAnd i j)):=MZ λ_ _ _ _ _ _ _ q=>and_int q
theorem eU:E3 X (binaryOp .BitOr) (KI λi j=>.int (Builtin.bitOr i j)):=MZ λ_ _ _ _ _ _ _ q=>or_int q
theorem Y':E3 X (binaryOp .BitXor) (KI λi j=>.int (Builtin.bitXor i j)):=MZ λ_ _ _ _ _ _ _ q=>xor_int q
theorem iP{f:A1->Sem A1}{g:Int->Int}
  (rule:∀ (i:Int) (t:Tok) (s:A4) (Q:JH) (E:JH),Q (.int (g i) s.toks) { s with toks:=s.toks+1 }->wpAny (model X.prog X.w) X.A (f (.int i t)) Q E s) :
  LP X f (rU λi=>.int (g i)):=by
 intro aa s σ H x v Q I rx h;obtain⟨i,rfl,q⟩:=h;obtain⟨t,rfl⟩:=rx;exact rule i t s _ _ ⟨.int (g i),H,I.tok _,⟨_,rfl⟩,q⟩
theorem ee:LP X (unaryOp .USub) (rU λi=>.int (-i)):=iP λ_ _ _ _ _ q=>neg_int q
theorem bw{Q:VK}{k E:Bool}(I:D' X aa σ H s)(q:Q (.bl k) H)(e:k=E):EP X aa σ Q (.bool E) s:=by
 subst e;exact⟨.bl k,H,I,rfl,q⟩
theorem ZQ:E3 X (compareOp .Lt) (KI λi j=>.bl (decide (i<j))):=PX λ_ _ _ _ _ _ _ q=>lt_int q
theorem du:E3 X (compareOp .LtE) (KI λi j=>.bl (decide (i<=j))):=PX λ_ _ _ _ _ _ _ q=>le_int q
theorem fy:E3 X (compareOp .Gt) (KI λi j=>.bl (decide (j<i))):=PX λ_ _ _ _ _ _ _ q=>gt_int q
theorem ho:E3 X (compareOp .GtE) (KI λi j=>.bl (decide (j<=i))):=PX λ_ _ _ _ _ _ _ q=>ge_int q
theorem ey:E3 X (compareOp .In) (λx y H Q=>∃ i j,x=.str i/\y=.str j/\Q (.bl (!(Builtin.Str.occurrences j i 0 j.length 1).isEmpty)) H):=by
 intro aa s σ H x y v u Q I rx m h;obtain⟨i,j,rfl,rfl,q⟩:=h;obtain⟨t,rfl⟩:=rx;obtain⟨t',rfl⟩:=m;exact in_str (bw I q rfl)
theorem Yd(b:Cs)(h:op≠.In:=by decide)(h2:op≠.NotIn:=by decide):behindInMarks op b=false:=by
 have e1:(op==CmpOp.In)=false:=by cases op<;>first | rfl | exact absurd rfl h
 have e2:(op==CmpOp.NotIn)=false:=by cases op<;>first | rfl | exact absurd rfl h2
 cases b<;>simp[behindInMarks,e1,e2]
theorem ci{r:R2}(J:E3 X (compareOp op) r)(Y:PE X a ta)(hb:PE X b tb)(hm:behindInMarks op b=false):PE X (.Compare a [op] [b] pos) (MT r ta tb):=by
 intro aa s σ H Q I h;exact wpAny_Compare1 (QG Y hb I h λv u s2 x y H2 I2 rx m q=>J aa s2 σ H2 x y v u Q I2 rx m q) hm
def ZW(t:TE):TT:=λσ H Q=>t σ H λx H'=>∃ k,x=.bl k/\Q k H'
theorem c4{r:R2}(J:E3 X (compareOp op) r)(Y:PE X a ta)(hb:PE X b tb)(hm:behindInMarks op b=false):PT X (.Compare a [op] [b] pos) (ZW (MT r ta tb)):=by
 intro aa s σ H Q I h;refine wpAny_isTrue_Compare1 (Vy (Y aa s σ H _ I h) λv s1 ⟨x,H1,G,r1,q1⟩=>Vy (hb aa s1 σ H1 _ G q1) λu s2 ⟨y,H2,I2,r2,q2⟩ =>
  Vy (J aa s2 σ H2 x y v u _ I2 r1 r2 q2) λc P ⟨z,H3,t,r3,k,e,q3⟩=>?_) hm
 subst e;cases r3;exact EV ⟨H3,t,q3⟩
def WU(K:E')(x:V)(H:Hp)(k:Bool):Prop :=
 match x with
 | .non=>k=false
 | .bl b=>k=b
 | .int i=>k=(i != 0)
 | .str y=>y.length<=sizeLine/\k=((y.length:Int) != 0)
 | .byt y=>y.size<=sizeLine/\k=((y.size:Int) != 0)
 | .ref p=>(∃ xs,Dq K H p xs/\k=!xs.isEmpty)\/(∃ xs,Dx K H p xs/\k=!xs.isEmpty)\/∃ kvs,H p=some (.dK kvs)/\k=!kvs.isEmpty
 | _=>False
theorem iT{κ:Type}{kvs:Z (κ×V)}{vs:Z (κ×A1)}(r:KV kvs vs):(!vs.isEmpty)=!kvs.isEmpty:=by
 cases r<;>rfl
theorem O8(r:Yl xs its):(!its.toArray.isEmpty)=!xs.isEmpty:=by
 cases r<;>simp
theorem Il:(sizeLine:Nat)<2^63:=by rw[FI];decide
theorem dX:iZ X (λx H Q=>∃ k,WU X.K x H k/\Q k H):=by
 intro aa s σ H x v Q I rx h;obtain⟨k,e,q⟩:=h;have hl:=Il;have hs:sizeLine=16777216:=FI;cases x with
 | non =>
  cases rx;have e':k=false:=e;subst e';exact truthy_none ⟨H,I,q⟩
 | bl b =>
  cases rx;have e':k=b:=e;subst e';exact EV ⟨H,I,q⟩
 | int i =>
  obtain⟨t,rfl⟩:=rx;have e':k=(i != 0):=e;subst e';exact PySem.P.truthy_int ⟨H,I,q⟩
 | str y =>
  obtain⟨t,rfl⟩:=rx;obtain⟨hy,e'⟩:y.length<=sizeLine/\k=((y.length:Int) != 0):=e;subst e';exact PySem.P.truthy_str (by lia) ⟨H,I.tok _,q⟩
 | byt y =>
  obtain⟨t,rfl⟩:=rx;obtain⟨hy,e'⟩:y.size<=sizeLine/\k=((y.size:Int) != 0):=e;subst e';exact PySem.W.truthy_bytes (by lia) ⟨H,I.tok _,q⟩
 | ref p =>
  cases rx;have e':(∃ xs,Dq X.K H p xs/\k=!xs.isEmpty)\/(∃ xs,Dx X.K H p xs/\k=!xs.isEmpty)\/∃ kvs,H p=some (.dK kvs)/\k=!kvs.isEmpty:=e;rcases e' with⟨xs,hx,e'⟩ | ⟨xs,hx,e'⟩ | ⟨kvs,hx,e'⟩
  .subst e'
   obtain⟨its,r,pl,hz⟩:=I.list hx;have D:=r.length;exact wpAny_truthy_list pl.isList (by simp only[AO];lia) ⟨H,I.tok _,by rw[O8 r];exact q⟩
  .subst e'
   obtain⟨its,r,pl,hz⟩:=I.tuple hx;have D:=r.length;exact truthy_tuple pl (by simp only[AO];lia) ⟨H,I.tok _,by rw[O8 r];exact q⟩
  .subst e'
   obtain⟨hz,hS,vs,r,m⟩:kvs.length<=sizeLine/\(p==sysModules)=false/\∃ vs,KV kvs vs/\s.heap.DictOf (U4 X.prog X.w) p vs:=I.hok p _ hx;have D:kvs.length=vs.length:=HJ r;exact wpAny_truthy_dict hS m (by lia) ⟨H,I.tok _,by rw[iT r];exact q⟩
 | _=>exact(show False from e).elim
theorem ig(Y:PE X a ta)(he:∀ c,isTrue a X.env c=(do let v <- c;standAt a.pos;holding [v] (truthy v))) :
  PT X a (λσ H Q=>ta σ H λx H'=>∃ k,WU X.K x H' k/\Q k H'):=by
 intro aa s σ H Q I h;exact isTrue_plain (Vy (Y aa s σ H _ I h) λv s1 ⟨x,H1,G,r1,q1⟩=>dX aa s1 σ H1 x v Q G r1 q1) (he _)
theorem Cv:E3 X (binaryOp .Add) (λx y H Q=>∃ i j,x=.str i/\y=.str j/\i.length+j.length<=sizeLine/\Q (.str (i++j)) H):=by
 intro aa s σ H x y v u Q I rx m h;obtain⟨i,j,rfl,rfl,hz,q⟩:=h;obtain⟨t,rfl⟩:=rx;obtain⟨t',rfl⟩:=m;exact add_str (λt' tk=>⟨.str (i++j),H,I.tok _,⟨_,rfl⟩,q⟩) hz
theorem Sh{x:V}(r:Yl [x] us):∃ u,us=[u]/\W5 x u:=by
 cases r with
 | cons r1 r2=>cases r2;exact⟨_,rfl,r1⟩
theorem PV{x:V}(r:Yl [x,y] us):∃ u B,us=[u,B]/\W5 x u/\W5 y B:=by
 cases r with
 | cons r1 r2 =>
  cases r2 with
  | cons r3 r4=>cases r4;exact⟨_,_,rfl,r1,r3⟩
theorem ZY(hc:X.calm=true):Uq X (.builtin "max") (λxs H Q=>∃ i j,xs=[.int i,.int j]/\Q (.int (if j > i then j else i)) H):=by
 intro aa s σ H xs us Q I r h;obtain⟨i,j,rfl,q⟩:=h;obtain⟨u,B,rfl,⟨t,rfl⟩,⟨t',rfl⟩⟩:=PV r;refine max_two_ints (I.ok.hd hc) λh' tk k=>⟨_,H,I.kept k,?_,q⟩
 by_cases C:j > i
 .rw[AF C,AF C];exact⟨_,rfl⟩
 .rw[AJ C,AJ C];exact⟨_,rfl⟩
theorem ca(hc:X.calm=true):Uq X (.builtin "min") (λxs H Q=>∃ i j,xs=[.int i,.int j]/\Q (.int (if j<i then j else i)) H):=by
 intro aa s σ H xs us Q I r h;obtain⟨i,j,rfl,q⟩:=h;obtain⟨u,B,rfl,⟨t,rfl⟩,⟨t',rfl⟩⟩:=PV r;refine min_two_ints (I.ok.hd hc) λh' tk k=>⟨_,H,I.kept k,?_,q⟩
 by_cases C:j<i
 .rw[AF C,AF C];exact⟨_,rfl⟩
 .rw[AJ C,AJ C];exact⟨_,rfl⟩
theorem bY:Uq X (.type "int") (λxs H Q=>(∃ i,xs=[.int i]/\Q (.int i) H)\/∃ k,xs=[.bl k]/\Q (.int (if k then 1 else 0)) H):=by
 intro aa s σ H xs us Q I r h;rcases h with⟨i,rfl,q⟩ | ⟨k,rfl,q⟩
 .obtain⟨u,rfl,t,rfl⟩:=Sh r
  exact call_int_int ⟨.int i,H,I,⟨_,rfl⟩,q⟩
 .obtain⟨u,rfl,r1⟩:=Sh r
  cases r1;exact call_int_bool ⟨.int (if k then 1 else 0),H,I.tok _,⟨_,rfl⟩,q⟩
end
variable{f:A2}
structure JR (h:Heap) (x dx C:Addr) (mA:JG):Prop where
 obj:h.get? x=some (instObj C dx)
 ns:h.Ns1 dx mA
 ne:dx≠x
theorem fW(n:h.Ns1 dx mA):∃ od,h.get? dx=some od/\∀ name,lookIn name od=some (mA name):=by
 obtain⟨o,es,j,J,hd,hk,_,hm⟩:=n;refine⟨o,J,λname=>?_⟩;have e:=hm name;unfold nsFind findBy at e;rw[<- Array.find?_toList] at e;unfold lookIn;rw[hd];dsimp only;split
 .rename_i y q
  rw[q] at e;exact EH some e
 .rename_i q
  rw[q] at e;have a:es.toList.any (·.refKey)=false:=by
   rw[List.any_eq_false];intro y hy;obtain⟨z,t,b⟩:=hk y (Array.mem_toList_iff.mp hy);simp[DictEntry.refKey,b]
  have a':¬ es.toList.any (·.refKey)=true:=by rw[a];exact BO
  rw[AJ a'];exact EH some e
theorem JR.look{x C:A2}(I:JR h x dx C mA):∃ od,PySem.W.InstAt h x (instObj C dx) C (some od)/\∀ name,lookIn name od=some (mA name) :=
 let ⟨od,J,hl⟩:=fW I.ns
 ⟨od,⟨I.obj,rfl,rfl,J⟩,hl⟩
section
variable{x C:A2}{v:A1}
theorem YM{b:Bool}{Q:JH}(X:K.In s.heap)(I:JR s.heap x dx C mA)(S:plainGet K C name=true)(M:hasDictIn K C=true)
  (Y:PySem.W.findIn K (.ref C) name=some none) (hv:mA name=some v) (a:handedIn v=true) (h:Q v { s with toks:=s.toks+1 }) :
  wpAny (model prog w) A (getAttr (.ref x) name b) Q E s:=by
 obtain⟨od,J,hl⟩:=I.look;exact PySem.W.get_value X J (IF S).1 (PySem.W.findObj_own M Y rfl (by rw[hl,hv])) a h
theorem gt{Q:A1×Z A1->A4->Prop}(X:K.In s.heap)(I:JR s.heap x dx C mA)(S:plainGet K C name=true)
  (hf:PySem.W.findIn K (.ref C) name=some (some (.ref f))) (ht:PySem.W.isFn K (.ref f)=true) (hv:mA name=none) (h:Q (.ref f,[.ref x]) s) :
  wpAny (model prog w) A (getMethod (.ref x) name pl) Q E s:=by
 obtain⟨od,J,hl⟩:=I.look;exact PySem.W.method_fn X J (IF S).1 (IF S).2 hf (CP.mp ht) (by show(lookIn name od).map (·.isSome)=some false;rw[hl,hv];rfl) h
theorem YT{ns:Z Str}(X:K.In s.heap)(I:JR s.heap x dx C mA)
  (hs:PySem.W.findIn K (.ref C) "__setattr__" = some (some (.builtin "object.__setattr__"))) (F:plainOver K C=true) (ht:takerIn K C name=some none) (M:hasDictIn K C=true)
  (hw:PySem.Within mA ns) (hsz:ns.length<=sizeLine)
  (h:∀ h',JR h' x dx C (λy=>if y=name then some v else mA y)->SameBut dx s.heap h'->Q () { s with heap:=h',toks:=s.toks+2 }) :
  wpAny (model prog w) A (setAttr (.ref x) name v) Q E s:=by
 obtain⟨od,J,hl⟩:=I.look;refine PySem.W.set_plain X J hs (PySem.W.osa_open (s:={ s with toks:=s.toks+1 }) (r:=none) X J F ht λb=>?_);obtain⟨cd,hc,d⟩:=PySem.W.any_some M;have hx:s.heap.get? x=some ⟨.ref C,some dx,.plain,#[]⟩:=I.obj;refine AA (AG (AA (AA (wpAny_loadPart hx (AA (PySem.W.Looks.here (s:={ s with toks:=s.toks+1 }) (PySem.W.looks_clsIn X hc) ?_))))));rw[d];refine AG (a:=some dx) (AA (AG (AA ?_)));refine wpAny_nsSet1 (s:={ s with toks:=s.toks+1 }) I.ns λh' ai l=>?_
 obtain⟨B,esD,epD,c,e,f⟩:=ai.count (PySem.Within.cons name v hw);refine AA (wpAny_lookBehind c (by rw[e];exact pastItsLine_dict (BI f (by rw[BJ];lia))) ?_);exact AG (h _ ⟨(l.2 _ (BW I.ne)).trans I.obj,ai,I.ne⟩ l)
theorem bq{R:Result->A4->Prop}{vs:Z A1}(X:K.In s.heap)(hm:PySem.W.makesIn K C=true)
  (hi:PySem.W.findIn K (.ref C) "__init__" = some (some (.ref f))) (hf:PySem.W.typeIn K (.ref f)=some (.type "function"))
  (h:codeAny (model prog w) (A.under (.builtin "type.__call__" ⟨.ref C::vs,kw⟩)) (.call (.ref f) ⟨.ref (s.heap.objs.size+1)::vs,kw⟩) (PySem.W.InitBack (s.heap.objs.size+1) R)
   { s with heap:=(s.heap.push emptyDict).push (instObj C s.heap.objs.size) }) :
  codeAny (model prog w) A (.call (.ref C) ⟨vs,kw⟩) R s:=by
 obtain⟨M,g,d,t,os⟩:=s;exact PySem.W.make_core (PySem.W.makes_of X hm) (PySem.W.looks_findIn X hi) (λself=>PySem.W.bind_fn X self hf) (.inl rfl) h
end
def Jb(f:Str)(v:V):Z (Str×V)->Z (Str×V)
 | []=>[(f,v)]
 | (g,x)::r=>if g=f then(g,v)::r else(g,x)::Jb f v r
theorem Kp(f g:Str)(v:V):∀ fs:Z (Str×V),(Jb f v fs).lookup g=if g=f then some v else fs.lookup g
 | []=>by
   show List.lookup g [(f,v)]=_;by_cases h:g=f
   · have hb:(g==f)=true:=CP.mpr h
     simp only[List.lookup,hb,AF h]
   · have hb:(g==f)=false:=BP.mpr h
     simp only[List.lookup,hb,AJ h]
 | (k,x)::r=>by
   have ih:=Kp f g v r;rw[show Jb f v ((k,x)::r)=(if k=f then(k,v)::r else(k,x)::Jb f v r) from rfl];by_cases hk:k=f
   · rw[AF hk]
     by_cases h:g=k
     · have hb:(g==k)=true:=CP.mpr h
       simp only[List.lookup,hb,AF (h.trans hk)]
     · have hb:(g==k)=false:=BP.mpr h
       simp only[List.lookup,hb,AJ (λe:g=f=>h (e.trans hk.symm))]
   · rw[AJ hk]
     by_cases h:g=k
     · have hb:(g==k)=true:=CP.mpr h
       simp only[List.lookup,hb,AJ (λe:g=f=>hk (h.symm.trans e))]
     · have hb:(g==k)=false:=BP.mpr h
       simp only[List.lookup,hb];exact ih
theorem Iq(f:Str)(v:V):∀ fs:Z (Str×V),f∈(Jb f v fs).map (·.1)/\∀ g,g∈fs.map (·.1)->g∈(Jb f v fs).map (·.1)
 | []=>⟨by simp[Jb],λg h=>by simp at h⟩
 | (k,x)::r=>by
   obtain⟨i1,i2⟩:=Iq f v r;rw[show Jb f v ((k,x)::r)=(if k=f then(k,v)::r else(k,x)::Jb f v r) from rfl];by_cases hk:k=f
   · rw[AF hk]
     subst hk;exact⟨by simp,λg h=>by simpa using h⟩
   · rw[AJ hk]
     refine⟨?_,λg h=>?_⟩
     · rw[BM]
       exact AX _ i1
     · rw[BM] at h ⊢
       rcases BN.mp h with e | e
       · exact BN.mpr (.inl e)
       · exact AX _ (i2 g e)
theorem Kl(f:Str)(v:V):∀ fs:Z (Str×V),(Jb f v fs).length<=fs.length+1
 | []=>by simp[Jb]
 | (k,x)::r=>by
   have ih:=Kl f v r;rw[show Jb f v ((k,x)::r)=(if k=f then(k,v)::r else(k,x)::Jb f v r) from rfl];by_cases hk:k=f
   · rw[AF hk,BJ,BJ];lia
   · rw[AJ hk,BJ,BJ];lia
theorem Dy.some_of{o:Cc A1}(r:Dy (some v) o):∃ u,o=some u/\W5 v u:=by
 cases o with
 | none=>exact(show False from r).elim
 | some u=>exact⟨u,rfl,r⟩
theorem Dy.none_of{o:Cc A1}(r:Dy none o):o=none:=by
 cases o with
 | none=>rfl
 | some u=>exact(show False from r).elim
theorem eJ(r:W5 v u):handedIn u=true:=by
 cases v with
 | non=>cases (show u=Value.none from r);rfl
 | bl b=>cases (show u=Value.bool b from r);rfl
 | int i=>obtain⟨t,e⟩:=(show ∃ t,u=Value.int i t from r);cases e;rfl
 | str x=>obtain⟨t,e⟩:=(show ∃ t,u=Value.str x t from r);cases e;rfl
 | byt b=>obtain⟨t,e⟩:=(show ∃ t,u=Value.bytes b t from r);cases e;rfl
 | flt b=>obtain⟨t,e⟩:=(show ∃ t,u=Value.float b t from r);cases e;rfl
 | ref a=>cases (show u=Value.ref a from r);rfl
 | ty n=>cases (show u=Value.type n from r);rfl
section
variable{a C:A2}{aG:Z (Str×V)}
theorem L8(hok:D8 P w H h)(e:H a=some (.ins C dx fs)):∃ mA,JR h a dx C mA/\(∀ f,Dy (fs.lookup f) (mA f))/\PySem.Within mA (fs.map (·.1))/\fs.length<=1000/\H dx=some (.own a):=by
 obtain⟨d,z,ne,ob,mA,n,r,q⟩:=(show V9 P w H h a (.ins C dx fs) from hok a _ e);exact⟨mA,⟨ob,n,ne⟩,r,q,z,d⟩
end
structure JO (K:E') (C:Addr):Prop where
 pg:plainGet K C Str.empty=true
 hd:hasDictIn K C=true
 po:plainOver K C=true
 sa:PySem.W.findIn K (.ref C) "__setattr__" = some (some (.builtin "object.__setattr__"))
theorem JO.get{C:A2}(c:JO K C)(f:Str):plainGet K C f=true:=c.pg
def En(K:E')(C:A2)(f:Str):Prop:=PySem.W.findIn K (.ref C) f=some none
theorem En.taker{C:A2}{f:Str}(n:En K C f):takerIn K C f=some none:=by
 unfold takerIn;rw[show PySem.W.findIn K (.ref C) f=some none from n];rfl
structure J' (K:E') (C:Addr) (m:Str) (f:Addr):Prop where
 at_:PySem.W.findIn K (.ref C) m=some (some (.ref f))
 fn:PySem.W.isFn K (.ref f)=true
 kp:PySem.W.keepIn K (.ref f)=true
section
variable{a C:A2}{f:Str}
theorem Cr{b:Bool}{Q:JH}(I:D' X aa σ H s)(e:H a=some (.ins C dx fs))(c:JO X.K C)(n:En X.K C f)(l:fs.lookup f=some v)
  (h:∀ u s',D' X aa σ H s'->W5 v u->Q u s'):wpAny (model X.prog X.w) A (getAttr (.ref a) f b) Q E s:=by
 obtain⟨mA,D,r,_,_,_⟩:=L8 I.hok e;obtain⟨u,hu,g⟩:=Dy.some_of (v:=v) (o:=mA f) (by rw[<- l];exact r f);exact YM I.kIn D (c.get f) c.hd n hu (eJ g) (h u _ (I.tok _) g)
theorem Lk{g:A2}{Q:A1×Z A1->A4->Prop}(I:D' X aa σ H s)(e:H a=some (.ins C dx fs))(c:JO X.K C)(k:J' X.K C m g)(l:fs.lookup m=none)
  (h:Q (.ref g,[.ref a]) s):wpAny (model X.prog X.w) A (getMethod (.ref a) m pl) Q E s:=by
 obtain⟨mA,D,r,_,_,_⟩:=L8 I.hok e;have hn:mA m=none:=Dy.none_of (by rw[<- l];exact r m);exact gt I.kIn D (c.get m) k.at_ k.fn hn h
theorem gz(I:D' X aa σ H s)(e:H a=some (.ins C dx fs))(c:JO X.K C)(n:En X.K C f)(hl:fs.length<1000)(m:W5 y u)
  (h:∀ s',D' X aa σ (Wq H a (.ins C dx (Jb f y fs))) s'->Q () s'):wpAny (model X.prog X.w) A (setAttr (.ref a) f u) Q E s:=by
 obtain⟨mA,D,r,wi,_,J⟩:=L8 I.hok e;have hz:(fs.map (·.1)).length<=sizeLine:=by rw[AB,FI];lia
 refine YT I.kIn D c.sa c.po n.taker c.hd wi hz λh' d sb=>h _ ?_
 have hd:∃ o,h'.get? dx=some o:=let ⟨o,_,_,e',_⟩:=d.ns;⟨o,e'⟩
 refine I.write (x:=a) (e:=dx) (by rw[e];exact DN) (.inr J) (λb q hb z=>(sb.2 b hb).trans z) hd ?_;refine⟨by rw[Zp D.ne];exact J,?_,D.ne,d.obj,_,d.ns,λg=>?_,λg S=>?_⟩
 .have:=Kl f y fs;lia
 .show Dy ((Jb f y fs).lookup g) (if g=f then some u else mA g)
  rw[Kp];by_cases q:g=f
  .rw[AF q,AF q];exact m
  .rw[AJ q,AJ q];exact r g
 .by_cases q:g=f
  .rw[q];exact(Iq f y fs).1
  .refine(Iq f y fs).2 g (wi g λz=>S ?_)
   show(if g=f then some u else mA g)=none;rw[AJ q];exact z
theorem D'.made(I:D' X aa σ H s):D' X aa σ (Wq (Wq H s.heap.objs.size (.own (s.heap.objs.size+1))) (s.heap.objs.size+1) (.ins C s.heap.objs.size []))
  { s with heap:=(s.heap.push emptyDict).push (instObj C s.heap.objs.size) }:=by
 have e1:(s.heap.push emptyDict).get? s.heap.objs.size=some emptyDict:=AW s.heap rfl;have e2:((s.heap.push emptyDict).push (instObj C s.heap.objs.size)).get? (s.heap.objs.size+1)=some (instObj C s.heap.objs.size):=by
  have:=AW (s.heap.push emptyDict) (o:=instObj C s.heap.objs.size) rfl
  rwa [EE] at this
 have e3:(s.heap.push emptyDict).Ns s.heap.objs.size (λ_=>none):=⟨emptyDict,#[],_,e1,rfl,(λe he=>absurd he (by simp)),λ_=>rfl⟩;have G:=I.laid (a:=s.heap.objs.size) (o:=.own (s.heap.objs.size+1)) (h':=s.heap.push emptyDict) (t':=s.toks) (λb u q=>AD _ q) (AT _) ⟨_,e1⟩;refine G.laid (a:=s.heap.objs.size+1) (o:=.ins C s.heap.objs.size []) (t':=s.toks) (λb u q=>AD _ q) (IL (EE _ _)) ?_;have ne:s.heap.objs.size≠s.heap.objs.size+1:=BZ (FP _);refine⟨by rw[Zp ne,Y5],DH _,ne,e2,λ_=>none,(Heap.Ns1.of_empty e3).at λo q=>AD _ q,λ_=>DN,λy hy=>absurd rfl hy⟩
theorem bz{Q:JH}(hb:attributeBase e f env (eval e env)=eval e env)
  (h:wpAny (model prog w) A (eval e env) (λo s₁=>wpAny (model prog w) A (getAttr o f true) Q E s₁) E s):wpAny (model prog w) A (eval (.Attribute e f pos) env) Q E s :=
 Attribute_any_ h (by rw[arm_eval_Attribute,hb])
end
variable{E:XK}{Q:VK}{v:A1}
def PQ(K:E')(ta:TE)(f:Str):TE:=λσ H Q=>ta σ H λx H1=>∃ a C dx fs v,x=.ref a/\H1 a=some (.ins C dx fs)/\JO K C/\En K C f/\fs.lookup f=some v/\Q v H1
def dy(K:E')(ta tv:TE)(f:Str):TS:=λD σ H=>tv σ H λy H1=>ta σ H1 λx H2=>∃ a C dx fs,x=.ref a/\H2 a=some (.ins C dx fs)/\JO K C/\En K C f/\fs.length<1000 /\
 D.nx σ (Wq H2 a (.ins C dx (Jb f y fs)))
section
variable{o:Cs}{f:Str}{tv:TE}
theorem Fz(he:PE X e ta)(hb:attributeBase e f X.env (eval e X.env)=eval e X.env):PE X (.Attribute e f pos) (PQ X.K ta f):=by
 intro aa s σ H Q I h;refine bz hb (Vy (he aa s σ H _ I h) λu s1 ⟨x,H1,G,rx,a,C,dx,fs,v,ex,ea,c,n,l,q⟩=>?_);subst ex;obtain rfl:u=Value.ref a:=rx;exact Cr G ea c n l λR s2 I2 g=>⟨v,H1,I2,g,q⟩
theorem D0(Y:PE X o ta)(hv:PE X aq tv)(hs:swapsWith aq (some (.Attribute o f au)) pos.line X.env=pure false):PS X (.Assign [.Attribute o f au] aq pos) (dy X.K ta tv f):=by
 intro aa s σ H D I h;refine plainObj_wpAny_Assign_Attribute (Vy (hv aa s σ H _ I h) λu s1 ⟨y,H1,G,m,q⟩=>Vy (Y aa s1 σ H1 _ G q) λd s2 ⟨x,H2,I2,rx,a,C,dx,fs,ex,ea,c,n,l,q2⟩=>?_) hs;subst ex;obtain rfl:d=Value.ref a:=rx;exact gz I2 ea c n l m λP t=>⟨σ,_,t,q2⟩
end
section
variable{E:JH}{Q:JH}{c:A1}{b:Bool}
inductive JI (K:E') (H:Hp):V->Value->Prop where
 | non:JI K H .non (.type "NoneType")
 | bl (x:Bool):JI K H (.bl x) (.type "bool")
 | int (i:Int):JI K H (.int i) (.type "int")
 | str (x:Str):JI K H (.str x) (.type "str")
 | flt (x:UInt64):JI K H (.flt x) (.type "float")
 | lst {a:Addr} {xs:List V} (e:H a=some (.lst xs)):JI K H (.ref a) (.type "list")
 | frz {a:Addr} {o:Obj} {xs:List V} (e:H a=some (.frz o (.lst xs))):JI K H (.ref a) (.type "list")
 | tup {a:Addr} {xs:List V} (e:H a=some (.tup xs)):JI K H (.ref a) (.type "tuple")
 | dK {a:Addr} {kvs:List (U0×V)} (e:H a=some (.dK kvs)):JI K H (.ref a) (.type "dict")
 | dT {a:Addr} {kvs:List (List U0×V)} (e:H a=some (.dT kvs)):JI K H (.ref a) (.type "dict")
 | ins {a C dx:Addr} {fs:List (Str×V)} (e:H a=some (.ins C dx fs)) (cl:JO K C) (Y:PySem.W.findIn K (.ref C) "__class__" = some (some (.builtin "object.__class__")))
  (hn:PySem.W.specialIn K (.builtin "object.__class__") "__get__" = some (some (.builtin "getset_descriptor.__get__"))) (am:PySem.W.takesIn K (.builtin "object.__class__")=some true)
  (hm:PySem.W.mroIn K C (.type "object")=some true):JI K H (.ref a) (.ref C)
theorem Dm{x:V}{t:A1}(I:D' X aa σ H s)(rx:W5 x u)(ty:JI X.K H x t)(e:kitOne X.K t c=some b)(h:∀ tk,Q (.bool b) { s with toks:=tk }) :
  wpAny (model X.prog X.w) A (call (.builtin "isinstance") [u,c]) Q E s:=by
 cases ty with
 | non=>cases (show u=Value.none from rx);exact EF PySem.W.kitx_none I.kIn DN e (λz=>nomatch z) h
 | bl y=>cases (show u=Value.bool y from rx);exact EF PySem.W.kitx_bool I.kIn DN e (λz=>nomatch z) h
 | int i=>obtain⟨t,q⟩:=(show ∃ t,u=Value.int i t from rx);cases q;exact EF PySem.W.kitx_int I.kIn DN e (λz=>nomatch z) h
 | str y=>obtain⟨t,q⟩:=(show ∃ t,u=Value.str y t from rx);cases q;exact EF PySem.W.kitx_str I.kIn DN e (λz=>nomatch z) h
 | flt y=>obtain⟨t,q⟩:=(show ∃ t,u=Value.float y t from rx);cases q;exact EF PySem.W.kitx_float I.kIn DN e (λz=>nomatch z) h
 | @lst a xs ea =>
  cases (show u=Value.ref a from rx);obtain⟨_,_,n,_,h1⟩:=(show V9 X.prog X.w H s.heap a (.lst xs) from I.hok a _ ea);exact EF IV I.kIn ⟨_,h1,rfl⟩ e (λz=>nomatch z) h
 | @frz a ob xs ea =>
  cases (show u=Value.ref a from rx);obtain⟨_,_,_,n,_,h1⟩:=(show V9 X.prog X.w H s.heap a (.frz ob (.lst xs)) from I.hok a _ ea);exact EF IV I.kIn ⟨_,h1,rfl⟩ e (λz=>nomatch z) h
 | @tup a xs ea =>
  cases (show u=Value.ref a from rx);obtain⟨_,_,_,p⟩:=(show V9 X.prog X.w H s.heap a (.tup xs) from I.hok a _ ea);obtain⟨o,h1,h2,_⟩:=p;exact EF kitx_tuple I.kIn ⟨o,h1,h2⟩ e (λz=>nomatch z) h
 | @dK a kvs ea =>
  cases (show u=Value.ref a from rx);obtain⟨_,_,vs,_,p⟩:=(show V9 X.prog X.w H s.heap a (.dK kvs) from I.hok a _ ea);obtain⟨o,es,j,h1,h2,_⟩:=p;exact EF kitx_dict I.kIn ⟨o,h1,h2.1⟩ e (λz=>nomatch z) h
 | @dT a kvs ea =>
  cases (show u=Value.ref a from rx);obtain⟨_,_,xs,_,o,es,j,h1,h2,_⟩:=(show V9 X.prog X.w H s.heap a (.dT kvs) from I.hok a _ ea);exact EF kitx_dict I.kIn ⟨o,h1,h2.1⟩ e (λz=>nomatch z) h
 | @ins a C dx fs ea cl Y hn am hm =>
  cases (show u=Value.ref a from rx);obtain⟨mA,D,_⟩:=L8 I.hok ea;obtain⟨od,J,_⟩:=D.look;exact EF (PySem.W.kitx_own (cl.get _) cl.hd Y hn am hm) I.kIn J e (λz=>nomatch z) h
end
structure G' (k:Nat) (A:Around):Prop where
 hd:A.handled=none
 dp:A.depth+3*k+5<recursionLimit
 un:A.units+16*k+200<cLine
 gd:A.guards=some []
theorem G'.mono{k:Nat}(r:G' k A)(h:j<=k:=by lia):G' j A:=⟨r.hd,by have:=r.dp;lia,by have:=r.un;lia,r.gd⟩
theorem G'.deeper{k:Nat}(r:G' (k+1) A)(env:IY):G' k (A.deeper env) :=
 ⟨r.hd,by have:=r.dp;show A.depth+1+3*k+5<_;lia,by have:=r.un;show A.units+3+16*k+200<_;lia,r.gd⟩
theorem Cj{C:A2} :(A.under (.builtin "type.__call__" ⟨.ref C::us,kw⟩)).depth=A.depth+1:=by
 first | rfl | simp[Around.under,Code.weight,Code.isCreation,Code.isGuard,Code.isCaller,Code.frames,Code.isFrame,guardIds]
theorem bj{C:A2} :(A.under (.builtin "type.__call__" ⟨.ref C::us,kw⟩)).units=A.units+1:=by
 first | rfl | simp[Around.under,Code.cUnits,Code.frames,Code.isFrame]
theorem G'.make{k:Nat}(r:G' (k+1) A)(C:A2)(us:Z A1)(kw:Z (Str×A1)):G' k (A.under (.builtin "type.__call__" ⟨.ref C::us,kw⟩)) :=
 ⟨r.hd,by have:=r.dp;rw[Cj];lia,by have:=r.un;rw[bj];lia,r.gd⟩
theorem G'.depth{k:Nat}(r:G' k A):A.depth<recursionLimit:=by have:=r.dp;lia
theorem G'.units{k:Nat}(r:G' k A):A.units+64<cLine:=by have:=r.un;lia
def WZ:TA:=λ_ H Q=>Q [] H
def fV(ta:TE)(a:TA):TA:=λσ H Q=>ta σ H λx H1=>a σ H1 λxs H2=>Q (x::xs) H2
section
variable{t:TA}
theorem Q4:PA X [] WZ:=λ_ _ _ _ H Q I h=>Calls.spliced_nil ⟨[],H,I,.nil,h⟩
theorem Vq(Y:PE X e te)(hr:PA X es t)(hs:Z2 X.env e es:=by rfl):PA X (e::es) (fV te t):=by
 intro pos aa s σ H Q I h;rw[hs];show wpAny _ _ (spliced ((false,eval e X.env)::backTo pos (starEach es X.env))) _ _ s;refine Calls.spliced_cons (Vy (Y aa s σ H _ I h) λu s1 ⟨x,H1,G,r1,q1⟩=>?_);exact Vy (hr pos aa s1 σ H1 _ G q1) λus s2 ⟨xs,H2,I2,r2,q2⟩=>⟨x::xs,H2,I2,.cons r1 r2,q2⟩
def eP(t:TA):TE:=λσ H Q=>t σ H λxs H1=>xs.length<=sizeLine/\∀ p,H1 p=none->Q (.ref p) (Wq H1 p (.tup xs))
def iN(t:TA):TE:=λσ H Q=>t σ H λxs H1=>xs.length<=sizeLine/\∀ p,H1 p=none->Q (.ref p) (Wq H1 p (.lst xs))
theorem QR{S}(h:PA X es t):PE X (.Tuple es S pos) (eP t):=by
 intro aa s σ H Q I B;refine wpAny_Tuple_spliced (Vy (h pos aa s σ H _ I B) λus s1 ⟨xs,H1,G,r,z,q⟩=>⟨by rw[<- r.length];exact z,?_⟩);have hf:H1 s1.heap.objs.size=none:=G.hok.fresh (AT _);refine⟨.ref s1.heap.objs.size,Wq H1 s1.heap.objs.size (.tup xs),G.laid (t':=s1.toks) (λb u e=>AD _ e) (AT _) ?_,rfl,q _ hf⟩;exact⟨z,us,r,⟨_,AW _ rfl,rfl,_,rfl⟩⟩
theorem VP(h:PA X es t):PE X (.List es pos) (iN t):=by
 intro aa s σ H Q I B;refine wpAny_List_spliced (Vy (h pos aa s σ H _ I B) λus s1 ⟨xs,H1,G,r,z,q⟩=>⟨by rw[<- r.length];exact z,?_⟩);have hf:H1 s1.heap.objs.size=none:=G.hok.fresh (AT _);refine⟨.ref s1.heap.objs.size,Wq H1 s1.heap.objs.size (.lst xs),G.laid (t':=s1.toks) (λb u e=>AD _ e) (AT _) ?_,rfl,q _ hf⟩;exact⟨z,us,0,r,AW _ rfl⟩
end
abbrev Sp:=Z V->Hp->VK->XK->Prop
abbrev CXT:=Z IY->Hp->A4->XK->A1->A4->Prop
structure JT (P:Program) (w:World) (K:E') (mg:JG) (base:Heap) (A:Around) (outer:List Env) (s:Shared) (H:Hp):Prop where
 frames:A.frames=some outer
 mod:Mod K mg base
 bs:∀ b o,base.get? b=some o->s.heap.get? b=some o/\H b=none
 bsz:base.objs.size<=s.heap.objs.size
 funs:s.heap.FunFrames base outer
 frf:∀ b∈KG outer,H b=none
 hok:D8 P w H s.heap
 bare:AllBare s.gens
def CE(outer:Z IY)(P:D1)(w:D2)(H:Hp)(s:A4)(Q:VK)(u:A1)(s':A4):Prop :=
 ∃ v H',s'.os=s.os/\AllBare s'.gens/\Un (KG outer) [] H H' s.heap s'.heap/\D8 P w H' s'.heap/\W5 v u/\Q v H'
def CR(CX:CXT)(outer:Z IY)(P:D1)(w:D2)(H:Hp)(s:A4)(Q:VK)(E:XK)(r:Result)(s':A4):Prop :=
 match r with
 | .ok (.ret u)=>CE outer P w H s Q u s'
 | .ok _=>False
 | .error e=>CX outer H s E e s'
structure I' (P:Program) (w:World) (K:E') (mg:JG) (base:Heap) (CX:CXT) (k:Nat) (f:Addr) (fd:FuncData) (ps:List Str) (sp:Sp):Prop where
 len:∀ vs H Q E,sp vs H Q E->vs.length=ps.length
 run:∀ (A:Around) (outer:List Env) (s:Shared) (H:Hp) (args:Args) (us:List Value) (vs:List V) (Q:VK) (E:XK),G' k A->JT P w K mg base A outer s H->BindsTo s fd args (ps.zip us)->Yl vs us->sp vs H Q E ->
  codeAny (model P w) A (.call (.ref f) args) (CR CX outer P w H s Q E) s
theorem I'.mono{CX:CXT}{k:Nat}{sp:Sp}(F:I' P w K mg base CX j f fd ps sp)(h:j<=k) :
 I' P w K mg base CX k f fd ps sp:=⟨F.len,λA outer s H args us vs Q E hr=>F.run A outer s H args us vs Q E (hr.mono h)⟩
theorem JT.make(e:JT P w K mg base A outer s H)(C:A2)(us:Z A1)(kw:Z (Str×A1)) :
 JT P w K mg base (A.under (.builtin "type.__call__" ⟨.ref C::us,kw⟩)) outer s H:=⟨by first | exact e.frames | (simpa[Around.under,Code.envs,Code.isFrame,pushEnvs] using e.frames),e.mod,e.bs,e.bsz,e.funs,e.frf,e.hok,e.bare⟩
theorem D'.env0(I:D' X aa σ H s):JT X.prog X.w X.K X.mg X.base X.A X.stack s H :=
 ⟨I.ok.frames,I.ok.mod,I.bs,BI I.ok.bsz I.sz,I.stack,I.stkFree,I.hok,I.bare⟩
theorem D'.after(I:D' X aa σ H s)(h:CE X.stack X.prog X.w H s Q u s'):EP X aa σ Q u s':=by
 obtain⟨v,H',os,bare,un,hok,r,q⟩:=h;obtain⟨M,g,d,t,a⟩:=s';obtain rfl:a=s.os:=os;exact⟨v,H',I.call (h':=M) (g':=g) (d':=d) (t':=t) (ch:=[]) un hok bare (λb z=>absurd z (by simp)),r,q⟩
def V'(sp:Sp)(dvs:Z V)(E:XK)(t:TA):TE:=λσ H Q=>t σ H λvs H1=>sp (vs++dvs) H1 Q E
def RC(C:A2)(m:Str)(sp:Sp)(dvs:Z V)(E:XK)(ta:TE)(t:TA):TE:=λσ H Q=>ta σ H λx H1=>∃ a dx fs,x=.ref a/\H1 a=some (.ins C dx fs)/\fs.lookup m=none /\
 t σ H1 λvs H2=>sp (x::(vs++dvs)) H2 Q E
def cx(C:A2)(sp:Sp)(dvs:Z V)(E:XK)(t:TA):TE:=λσ H Q=>t σ H λvs H1=>∀ x dx,H1 x=none->H1 dx=none->dx≠x ->
 sp (.ref x::(vs++dvs)) (Wq (Wq H1 dx (.own x)) x (.ins C dx [])) (λv H2=>v=.non/\Q (.ref x) H2) E
def Sb(K:E')(fd:Df)(ps:Z Str)(ds:Z A1):Prop :=
 ∀ (s:A4) (us:Z A1),K.In s.heap->(us++ds).length=ps.length->BindsTo s fd ⟨us,[]⟩ (ps.zip (us++ds))
theorem Sb.all(h:∀ us:Z A1,us.length=ps.length->bindArgs fd ⟨us,[]⟩=pure (ps.zip us)):Sb K fd ps []:=λs us _ hl=>by
 rw[DU] at hl ⊢;exact .of_eq (h us hl)
def G0(CX:CXT)(X:Cx)(E:XK):Prop:=∀ (aa:I3) (σ:St) (H:Hp) (s:A4) (e:A1) (s':A4),D' X aa σ H s->CX X.stack H s E e s'->X.xe e s'
section
variable{CX:CXT}{k:Nat}{C:A2}{sp:Sp}{dvs:Z V}{x:Str}{o:Cs}{t:TA}
theorem QP(F:I' X.prog X.w X.K X.mg X.base CX k f fd ps sp)(hr:G' k X.A)(hb:Sb X.K fd ps ds)(hd:Yl dvs ds)(hx:G0 CX X E)
  (I:D' X aa σ H s) (r:Yl vs us) (h:sp (vs++dvs) H Q E):wpAny (model X.prog X.w) X.A (call (.ref f) us) (EP X aa σ Q) X.xe s:=by
 have r2:Yl (vs++dvs) (us++ds):=r.append hd;have hl:(us++ds).length=ps.length:=by rw[<- r2.length];exact F.len _ _ _ _ h
 refine wpAny_call (HU (F.run X.A X.stack s H ⟨us,[]⟩ (us++ds) (vs++dvs) Q E hr I.env0 (hb s us I.kIn hl) r2 h) λr s' B=>?_);cases r with
 | error e=>exact hx aa σ H s e s' I B
 | ok fl =>
  cases fl with
  | ret u=>exact I.after B
  | next=>exact False.elim B
  | brk=>exact False.elim B
  | cont=>exact False.elim B
theorem YH(F:I' X.prog X.w X.K X.mg X.base CX k f fd ps sp)(hr:G' k X.A)(S:Gl X x)(hm:X.mg x=some (.ref f))(hk:PySem.W.keepIn X.K (.ref f)=true)(hb:Sb X.K fd ps ds)(hd:Yl dvs ds)(hx:G0 CX X E)
  (Y:PA X (e::es) t) (g:Cg x:=by decide) (he:Z2 X.env e es:=by rfl) (ae:dO pos X.env es:=by rfl) :
  PE X (.Call (.Name x p) (e::es) [] pos) (V' sp dvs E t):=by
 intro aa s σ H Q I h;refine FQ (XH I S hm ?_ g);refine IJ (h₀:=X.base) I.ok.mod.kin hk (Vy (Y pos aa s σ H _ I h) λus s1 ⟨vs,H1,G,r,q⟩=>⟨G.kIn,?_⟩) he ae;exact QP F hr hb hd hx G r q
theorem VC(he:PE X o ta)(c:JO X.K C)(hm:J' X.K C m f)(F:I' X.prog X.w X.K X.mg X.base CX k f fd ps sp)(hr:G' k X.A)(hb:Sb X.K fd ps ds)(hd:Yl dvs ds)(hx:G0 CX X E)(Y:PA X (e::es) t)
  (ac:Z2 X.env e es:=by rfl) (ae:dO pos X.env es:=by rfl)
  (ht:eval (.Call (.Attribute o m aj) (e::es) [] pos) X.env=(do
   let d <- eval o X.env
   standAt aj.atName
   let (f,first) <- holding [d] (getMethod d m pl)
   callWith pos f first (backTo pos (starEach (e::es) X.env)) (backToKw pos (keywordEach [] X.env))):=by rfl) :
  PE X (.Call (.Attribute o m aj) (e::es) [] pos) (RC C m sp dvs E ta t):=by
 intro aa s σ H Q I h;refine PySem.W.methodCall_KW (pl:=pl) (Vy (he aa s σ H _ I h) λu s1 ⟨x,H1,G,rx,a,dx,fs,ex,ea,l,q⟩=>?_) ht;subst ex;obtain rfl:u=Value.ref a:=rx;refine Lk G ea c hm l ?_;refine IJ (first:=[.ref a]) (h₀:=X.base) I.ok.mod.kin hm.kp (Vy (Y pos aa s1 σ H1 _ G q) λus s2 ⟨vs,H2,I2,r,q2⟩=>⟨I2.kIn,?_⟩) ac ae;exact QP (us:=.ref a::us) (vs:=.ref a::vs) F hr hb hd hx I2 (.cons rfl r) q2
theorem At(he:PE X o ta)(c:JO X.K C)(hm:J' X.K C m f)(F:I' X.prog X.w X.K X.mg X.base CX k f fd ps sp)(hr:G' k X.A)(hb:Sb X.K fd ps ds)(hd:Yl dvs ds)(hx:G0 CX X E)
  (ht:eval (.Call (.Attribute o m aj) [] [] pos) X.env=(do
   let d <- eval o X.env
   standAt aj.atName
   let (f,first) <- holding [d] (getMethod d m pl)
   callWith pos f first (backTo pos (starEach [] X.env)) (backToKw pos (keywordEach [] X.env))):=by rfl) :
  PE X (.Call (.Attribute o m aj) [] [] pos) (RC C m sp dvs E ta WZ):=by
 intro aa s σ H Q I h;refine PySem.W.methodCall_KW (pl:=pl) (Vy (he aa s σ H _ I h) λu s1 ⟨x,H1,G,rx,a,dx,fs,ex,ea,l,q⟩=>?_) ht;subst ex;obtain rfl:u=Value.ref a:=rx;refine Lk G ea c hm l ?_;exact PySem.W.callWith_K0 (first:=[.ref a]) G.kIn hm.kp (QP (us:=[.ref a]) (vs:=[.ref a]) F hr hb hd hx G (.cons rfl .nil) q)
structure Mk (K:E') (C f:Addr):Prop where
 makes:PySem.W.makesIn K C=true
 init:PySem.W.findIn K (.ref C) "__init__" = some (some (.ref f))
 fn:PySem.W.isFn K (.ref f)=true
 kp:PySem.W.keepIn K (.ref C)=true
theorem bu(M:Mk X.K C f)(F:I' X.prog X.w X.K X.mg X.base CX k f fd ps sp)(hr:G' (k+1) X.A)(hb:Sb X.K fd ps ds)(hd:Yl dvs ds)
  (hx:G0 CX X E) (I:D' X aa σ H s) (r:Yl vs us)
  (h:∀ x dx,H x=none->H dx=none->dx≠x->sp (.ref x::(vs++dvs)) (Wq (Wq H dx (.own x)) x (.ins C dx [])) (λv H2=>v=.non/\Q (.ref x) H2) E) :
  wpAny (model X.prog X.w) X.A (call (.ref C) us) (EP X aa σ Q) X.xe s:=by
 have B:=h (s.heap.objs.size+1) s.heap.objs.size (I.hok.fresh (FG _)) (I.hok.fresh (AT _)) (BZ (FP _));have I2:=D'.made (C:=C) I;have r2:Yl (V.ref (s.heap.objs.size+1)::(vs++dvs)) (Value.ref (s.heap.objs.size+1)::(us++ds)):=.cons rfl (r.append hd);have hl:(Value.ref (s.heap.objs.size+1)::us++ds).length=ps.length:=by
  have e:=r2.length;rw[F.len _ _ _ _ B] at e;exact e.symm
 refine wpAny_call (bq (f:=f) I.kIn M.makes M.init (CP.mp M.fn) (HU (F.run _ X.stack _ _ ⟨Value.ref (s.heap.objs.size+1)::us,[]⟩ (Value.ref (s.heap.objs.size+1)::(us++ds)) _ _ E (hr.make C us [])
  (I2.env0.make C us []) (hb _ (Value.ref (s.heap.objs.size+1)::us) I2.kIn hl) r2 B) λr s' J=>?_))
 cases r with
 | error e=>exact hx aa σ _ _ e s' I2 J
 | ok fl =>
  cases fl with
  | ret u =>
   obtain⟨v,H',t,rv,y,q3⟩:=I2.after J;subst y;exact⟨rv,⟨V.ref (s.heap.objs.size+1),H',t,rfl,q3⟩⟩
  | next=>exact False.elim J
  | brk=>exact False.elim J
  | cont=>exact False.elim J
theorem UU(M:Mk X.K C f)(F:I' X.prog X.w X.K X.mg X.base CX k f fd ps sp)(hr:G' (k+1) X.A)(S:Gl X x)(hm:X.mg x=some (.ref C))(hb:Sb X.K fd ps ds)(hd:Yl dvs ds)(hx:G0 CX X E)
  (Y:PA X (e::es) t) (g:Cg x:=by decide) (he:Z2 X.env e es:=by rfl) (ae:dO pos X.env es:=by rfl) :
  PE X (.Call (.Name x p) (e::es) [] pos) (cx C sp dvs E t):=by
 intro aa s σ H Q I h;refine FQ (XH I S hm ?_ g);refine IJ (h₀:=X.base) I.ok.mod.kin M.kp (Vy (Y pos aa s σ H _ I h) λus s1 ⟨vs,H1,G,r,q⟩=>⟨G.kIn,?_⟩) he ae;exact bu M F hr hb hd hx G r q
end
section
variable{CX:CXT}{k:Nat}{C:A2}{sp:Sp}{x:Str}{o:Cs}{aK:Z Keyword}{t tk:TA}
variable{g:Z A1->Z A1->Z A1}{gV:Z V->Z V->Z V}
end
variable{CX:CXT}
structure FnScope (N P:List Str) (sc:Scope):Prop where
 kind:sc.kind=.function
 co:sc.isCoroutine=false
 gen:sc.isGenerator=false
 nd:N.Nodup
 pre:N.take P.length=P
 par:∀ x∈P,sc.names.lookup x=some .local\/sc.names.lookup x=some .cell
 nofree:∀ y∈sc.names,y.2≠.free
theorem X4{kindOf:Str->Cc NameKind}{x:Str}:∀ {binds:Z (Str×A1)} {m:JG},(∀ v,(x,v)∉binds)->bindL kindOf binds m x=m x
 | [],_,_=>rfl
 | (n,v)::r,m,h=>by
   unfold bindL;rw[X4 λw hw=>h w (AX _ hw)];split
   · have:x≠n:=by rintro rfl;exact h v BD
     simp[this]
   · rfl
theorem Pu{kindOf:Str->Cc NameKind}{x:Str}:∀ {binds:Z (Str×A1)} {m:JG},(∀ v,(x,v)∉binds)->bindC kindOf binds m x=m x
 | [],_,_=>rfl
 | (n,v)::r,m,h=>by
   unfold bindC;rw[Pu λw hw=>h w (AX _ hw)];split
   · rfl
   · have:x≠n:=by rintro rfl;exact h v BD
     simp[this]
theorem Pb{kindOf:Str->Cc NameKind}{x:Str} :∀ {P:Z Str} {vs:Z A1} {i:Nat} {m:JG},P.Nodup->P[i]?=some x->vs[i]?=some v->kindOf x=some .local ->
  bindL kindOf (P.zip vs) m x=some v
 | [],_,_,_,_,h,_,_=>by simp at h
 | _::_,[],_,_,_,_,h,_=>by simp at h
 | p::P,w::vs,0,m,nd,h1,h2,hk=>by
  simp at h1 h2;subst h1;subst h2;show bindL kindOf ((p,w)::P.zip vs) m p=_;unfold bindL;rw[X4 λv hv=>(CC.mp nd).1 (ID hv).1,AF hk];simp
 | p::P,w::vs,i+1,m,nd,h1,h2,hk=>by
  show bindL kindOf ((p,w)::P.zip vs) m x=_;unfold bindL;exact Pb (i:=i) (CC.mp nd).2 (by simpa using h1) (by simpa using h2) hk
theorem Pg{kindOf:Str->Cc NameKind}{x:Str} :∀ {P:Z Str} {vs:Z A1} {i:Nat} {m:JG},P.Nodup->P[i]?=some x->vs[i]?=some v->kindOf x≠some .local ->
  bindC kindOf (P.zip vs) m x=some v
 | [],_,_,_,_,h,_,_=>by simp at h
 | _::_,[],_,_,_,_,h,_=>by simp at h
 | p::P,w::vs,0,m,nd,h1,h2,hk=>by
  simp at h1 h2;subst h1;subst h2;show bindC kindOf ((p,w)::P.zip vs) m p=_;unfold bindC;rw[Pu λv hv=>(CC.mp nd).1 (ID hv).1,AJ hk];simp
 | p::P,w::vs,i+1,m,nd,h1,h2,hk=>by
  show bindC kindOf ((p,w)::P.zip vs) m x=_;unfold bindC;exact Pg (i:=i) (CC.mp nd).2 (by simpa using h1) (by simpa using h2) hk
def IZ(N:Z Str)(vs:Z V):St:=vs.map some++List.replicate (N.length - vs.length) none
def K5(CX:CXT)(P:D1)(w:D2)(K:E')(mg:JG)(base:Ff)(N:Z Str)(am:Str)(scope:IX)(f:A2)(cd:A1)(A:B2)(outer:Z IY)(s:A4)(H:Hp)(E:XK):Cx where
 prog:=P
 w:=w
 K:=K
 mg:=mg
 base:=base
 A:=A.deeper (envOfC am scope s.heap.objs.size f cd)
 N:=N
 s₀:=s
 H₀:=H
 env:=envOfC am scope s.heap.objs.size f cd
 outer:=outer
 stack:=envOfC am scope s.heap.objs.size f cd::outer
 ex:=[]
 calm:=true
 fn:=λ_=>true
 pn:=[]
 xe:=λe s'=>wpAny (model P w) (A.deeper (envOfC am scope s.heap.objs.size f cd)) (leaving (envOfC am scope s.heap.objs.size f cd) e) (λ_ b=>CX outer H s E e b) (λe' b=>CX outer H s E e' b) s'
theorem Bu{x:Str}(h:sc.names.lookup x=some .cell):∃ c,(cellsFrom n sc.names []).lookup x=some c:=by
 have q:=PySem.W.cellsFrom_some sc.names n [] (.inl h);exact EI.mp q
theorem dW{cd:A1}{s1:A4} 
  (S:FnScope N ps scope) (hd:A.handled=none) (e0:JT P w K mg base A outer s H) (hl:vs.length=ps.length) (r:Yl vs us)
  (x:InCallC s s.heap.objs.size (bindL (envOfC am scope s.heap.objs.size f cd).kindOf (ps.zip us) λ_=>none) (cellsFrom (s.heap.objs.size+1) scope.names []) (bindC (envOfC am scope s.heap.objs.size f cd).kindOf (ps.zip us) λ_=>none) s1) :
  D' (K5 CX P w K mg base N am scope f cd A outer s H E) [] (IZ N vs) H s1:=by
 have ae:ps.length<=N.length:=by have:=EH List.length S.pre;rw[BY] at this;lia
 obtain⟨h1,tk,rfl,hk⟩:=x.done;have g:∀ b:A2,b∉(K5 CX P w K mg base N am scope f cd A outer s H E).ex:=λb z=>absurd (show b∈([]:Z A2) from z) (by simp)
 refine⟨⟨e0.mod,S.kind,rfl,rfl,AT _,λy z c h1 h2=>?_,λy hy=>?_,λy c _ h=>?_,λ_=>hd,Around.frames_deeper e0.frames,.inr ⟨rfl,rfl⟩,λb z=>absurd z (g b),e0.bs,e0.bsz,λb _ _=>g b,λb z=>absurd z (g b),e0.funs,e0.frf⟩,
  rfl,e0.bare,Un.kept hk,⟨_,x.toInCall.ns,λi y v h1 h2 h3=>?_⟩,λy c h=>⟨_,x.cell y c h⟩,e0.hok.fresh (AT _),λy c h=>?_,λp F=>absurd (show p∈([]:I3) from F) (by simp),e0.hok.kept hk,?_⟩
 .exact name_of_addr x.apart (CU h1) (CU h2)
 .have hy:scope.names.lookup y=some .cell\/scope.names.lookup y=some .free:=hy
  rcases hy with hy | hy
  .exact Bu hy
  .exact absurd rfl (S.nofree _ (CU hy))
 .exact HB (x.above y c (CU h))
 .have hi:i<vs.length:=by
   unfold IZ at h2;by_cases hi:i<vs.length
   .exact hi
   .rw[DJ (by simpa using hi)] at h2
    rw[GE] at h2;split at h2<;>cases h2
  have Y:vs[i]?=some v:=by
   unfold IZ at h2;rw[CN (by simpa using hi),AQ] at h2;cases e:vs[i]? with
   | none=>rw[e] at h2;cases h2
   | some a=>rw[e] at h2;cases h2;rfl
  obtain⟨u,hu,rv⟩:=r.get Y;have F:ps[i]?=some y:=by
   rw[<- S.pre,List.getElem?_take_of_lt (by lia)];exact h1
  have d:ps.Nodup:=by rw[<- S.pre];exact S.nd.sublist (List.take_sublist _ _)
  refine⟨u,rv,?_⟩;rcases S.par y (AI F) with k | k
  .exact .inl ⟨k,Pb d F hu k⟩
  .obtain⟨c,e⟩:=Bu (n:=s.heap.objs.size+1) k
   refine .inr ⟨.inl k,c,e,?_⟩;have q:=x.cell y c e;rw[Pg d F hu (by show scope.names.lookup y≠_;rw[k];decide)] at q;exact q
 .exact e0.hok.fresh (HB (x.above y c (CU h)))
 .unfold IZ
  show _=N.length;rw[AH,AB,EG];lia
theorem cs{k:Nat}{params:Arguments}{U kV:A1} 
  {d:Array (Cc A1)} {N ps:Z Str} {sp:Sp} (lk:K.lookup f=some ⟨oc,od,.func (PySem.W.fnOf name am params body scope U kV aw pm an ai ct),d⟩) (af:PySem.W.codeIn K ai am=true) (S:FnScope N ps scope)
  (len:∀ vs H Q E,sp vs H Q E->vs.length=ps.length)
  (a:∀ (A:B2) (outer:Z IY) (s:A4) (H:Hp) (vs:Z V) (Q:VK) (E:XK),G' k (A.deeper (envOfC am scope s.heap.objs.size f ai))->sp vs H Q E ->
   ∃ t,Ku (K5 CX P w K mg base N am scope f ai A outer s H E) body t/\t { nx:=λ_ H'=>Q .non H',rt:=Q } (IZ N vs) H) :
  I' P w K mg base CX (k+1) f (PySem.W.fnOf name am params body scope U kV aw pm an ai ct) ps sp:=by
 refine⟨len,λA outer s H args us vs Q E hr e0 hb r X=>?_⟩;have hl:=len _ _ _ _ X;have p:K.In s.heap:=e0.mod.kin.keeps λb o e=>(e0.bs b o e).1
 have g:s.heap.NoLimit:=e0.mod.nolimit.keeps λb o e=>(e0.bs b o e).1
 have c:∀ y∈ps.zip us,scope.names.lookup y.1=some .local\/(scope.names.lookup y.1=some .cell/\((cellsFrom (s.heap.objs.size+1) scope.names []).lookup y.1).isSome=true):=λ⟨n,v⟩ hy=>by
  rcases S.par n (ID hy).1 with q | q
  .exact .inl q
  .exact .inr ⟨q,PySem.W.cellsFrom_some _ _ _ (.inl q)⟩
 refine codeAny_call_function hr.depth (p _ _ lk) rfl S.co S.gen rfl (PySem.W.codeRec_of p af) (hb _ _ _ _ ?_);refine wpAny_newFunctionEnv_cells S.kind c λenv he s1 x=>?_
 subst he;refine⟨g.keeps x.toInCall.keep,codeAny_func ?_⟩;obtain⟨t,ht,B⟩:=a A outer s H vs Q E (hr.deeper _) X;have I:D' (K5 CX P w K mg base N am scope f ai A outer s H E) [] (IZ N vs) H s1:=dW S hr.hd e0 hl r x;refine CJ (ht [] s1 (IZ N vs) H _ I B) (λfl s' hs=>?_) λe s' hs=>hs
 have M:∀ {σ':St} {H':Hp} {v:V} {u:A1},D' (K5 CX P w K mg base N am scope f ai A outer s H E) [] σ' H' s'->W5 v u->Q v H'->CE outer P w H s Q u s' :=
  λ{σ' H' v u} J rv q=>⟨v,H',J.os,J.bare,J.base,J.hok,rv,q⟩
 cases fl with
 | ret u =>
  obtain⟨v,σ',H',J,rv,q⟩:=hs;exact M J rv q
 | next =>
  obtain⟨σ',H',J,q⟩:=hs;exact M (v:=V.non) (u:=Value.none) J rfl q
 | brk =>
  obtain⟨_,_,_,q⟩:=hs;exact False.elim q
 | cont =>
  obtain⟨_,_,_,q⟩:=hs;exact False.elim q
section
variable{x:Str}{t:TA}{id T:String}{r:Z V->Hp->VK->Prop}
def TW(r:Z V->Hp->VK->Prop)(t:TA):TE:=λσ H Q=>t σ H λvs H1=>r vs H1 Q
theorem Ng(hc:Uq X (.builtin id) r)(S:Gl X x)(hm:X.mg x=none)(hv:bootBuiltins x=some (.builtin id))(Y:PA X (e::es) t)(hn:x≠"__name__" := by decide)(g:Cg x:=by decide)
  (he:Z2 X.env e es:=by rfl) (ae:dO pos X.env es:=by rfl):PE X (.Call (.Name x p) (e::es) [] pos) (TW r t):=by
 intro aa s σ H Q I h;refine FQ (S0 I S hm hv ?_ hn g);exact PyProof.Rows.callWith_builtin1 (Vy (Y pos aa s σ H _ I h) λus s1 ⟨vs,H1,G,r1,q1⟩=>hc aa s1 σ H1 vs us Q G r1 q1) he ae
theorem fQ(hc:Uq X (.type T) r)(S:Gl X x)(hm:X.mg x=none)(hv:bootBuiltins x=some (.type T))(Y:PA X (e::es) t)(hn:x≠"__name__" := by decide)(g:Cg x:=by decide)
  (he:Z2 X.env e es:=by rfl) (ae:dO pos X.env es:=by rfl):PE X (.Call (.Name x p) (e::es) [] pos) (TW r t):=by
 intro aa s σ H Q I h;refine FQ (S0 I S hm hv ?_ hn g);exact DF (Vy (Y pos aa s σ H _ I h) λus s1 ⟨vs,H1,G,r1,q1⟩=>hc aa s1 σ H1 vs us Q G r1 q1) he ae
end
end L2
variable{vs ys dvs:Z L2.V}{Q:JH}{v y:L2.V}{X:L2.Cx}{te tl ta tb to tv td ty:L2.TE}{r r':L2.V->Cc Int->Cc Int->L2.Hp->L2.VK->Prop}{xs:Z (Z L2.U0×PySem.Addr×PySem.Value)}{σ:L2.St}{H H1 H2 H':L2.Hp}{CX:L2.CXT}{sp:L2.Sp}{fs:Z (Cc Nat)}{tc tt:L2.TT}{m bb:Bool}{kvs:Z (Z L2.U0×L2.V)}{aA:PySem.Expr}{ay:Z PySem.Expr}{wi:L2.TI}{dct:Cc PySem.Addr}{β:Type}
namespace HT
open PySem PyProof.Rows
section
open PySem.SeqAt

open PySem.MeetsSeq PySem.MeetsSeq2 PySem.MeetsSeq3
end
theorem cat_tup{t b:A2}{vs u:Z A1}(ht:IsTup s.heap t vs.toArray)(hb:IsTup s.heap b u.toArray)(hv:vs≠[])
  (h1:u=[]->Q (.ref t) s) (h2:u≠[]->Q (.ref s.heap.objs.size) { s with heap:=s.heap.push { cls:=.type "tuple",data:=.seq (vs++u).toArray } })
  (hsz:vs.length+u.length<=sizeLine):wpAny (model prog w) A (binaryOp .Add (.ref t) (.ref b)) Q E s:=by
 obtain⟨⟨cls,dd,data,sl⟩,J,hc,n,hd⟩:=id ht;obtain⟨⟨f,c,data2,d⟩,W,M,n2,a⟩:=id hb;simp only at hc hd M a;subst hc hd M a;have e:vs.toArray++u.toArray=(vs++u).toArray:=by simp
 by_cases hw:u=[]
 .exact IW ⟨_,J,rfl⟩ ⟨_,W,rfl⟩ HV IP GM GF (FR _ _)
   (tuple_addW1 t b vs.toArray u.toArray n n2 dd c sl d (by simpa using hv) (by simp[hw])) ⟨J,W,h1 hw⟩
 .refine IW ⟨_,J,rfl⟩ ⟨_,W,rfl⟩ HV IP GM GF (FR _ _)
   (tuple_addW2 t b vs.toArray u.toArray n n2 dd c sl d (by simpa using hv) (by simpa using hw) (by rw[AO,AO];exact hsz)) ⟨J,W,?_⟩
  rw[e];exact h2 hw
def sIx(n d:Nat):Cc Int->Nat
 | none=>d
 | some v=>if v<0 then(v+(n:Int)).toNat else min v.toNat n
theorem sIx_none(n d:Nat):sIx n d none=d:=rfl
theorem sIx_nat(n d k:Nat):sIx n d (some (k:Int))=min k n:=by
 show(if(k:Int)<0 then((k:Int)+(n:Int)).toNat else min (k:Int).toNat n)=min k n;rw[AJ (by lia),BS]
theorem sIx_le(n d:Nat)(hd:d<=n)(o:Cc Int):sIx n d o<=n:=by
 cases o with
 | none=>exact hd
 | some v =>
  show(if v<0 then(v+(n:Int)).toNat else min v.toNat n)<=n;by_cases hv:v<0
  .rw[AF hv];lia
  .rw[AJ hv];exact Nat.min_le_right _ _
theorem clip_eq(v:Int)(n d:Nat):(if v<0 then max (v+(n:Int)) 0 else min v (n:Int))=((sIx n d (some v):Nat):Int):=by
 show(if v<0 then max (v+(n:Int)) 0 else min v (n:Int))=(((if v<0 then(v+(n:Int)).toNat else min v.toNat n):Nat):Int);by_cases hv:v<0
 .simp only[AF hv];lia
 .simp only[AJ hv];lia
theorem Cd(lo hi:Cc Int)(n:Nat):Builtin.Slice.sliceAdjust lo hi 1 (n:Int)=(((sIx n 0 lo:Nat):Int),((sIx n n hi:Nat):Int)):=by
 have h1:¬ ((1:Int)<0):=by lia
 unfold Builtin.Slice.sliceAdjust;simp only[h1,HW];refine GQ ?_ ?_
 .cases lo with
  | none=>rfl
  | some v=>exact clip_eq v n 0
 .cases hi with
  | none=>rfl
  | some v=>exact clip_eq v n n
theorem Cq(i j:Nat):Builtin.Slice.slicePlaces (i:Int) (j:Int) 1=j - i:=by
 unfold Builtin.Slice.slicePlaces;have h1:(1:Int) > 0:=by lia
 simp only[h1,GS,Int.ediv_one];split<;>lia
theorem Lm{v:A1}{o:Cc Int}{Q:Cc Int->A4->Prop}(p:IsPart v o)(h:Q o s):wpAny (model prog w) A (Builtin.Slice.slicePartIndex v) Q E s:=by
 cases p with
 | none=>exact slicePart_none h
 | int i t=>exact slicePart_int h
theorem R4{sl:A2}{Q:Int×Int×Nat->A4->Prop}(hs:s.heap.IsSliceOf sl vl vu .none)(pl:IsPart vl lo)(c:IsPart vu hi)
   (h:Q (((sIx n 0 lo:Nat):Int),1,sIx n n hi - sIx n 0 lo) s):wpAny (model prog w) A (Builtin.Slice.sliceApplied (.ref sl) (pure (n:Int))) Q E s:=by
 obtain⟨os,b,d,y⟩:=id hs;unfold Builtin.Slice.sliceApplied Builtin.Slice.sliceFields;refine AA (AA (BU b y (x:=vl) rfl (AA (BU b y (x:=vu) rfl (AA (BU b y (x:=.none) rfl (AG ?_)))))));refine AA (slicePart_none ?_);show wpAny _ _ (if((1:Int)==0)=true then _ else _) _ _ s;rw[AJ (by decide)];refine AA (Lm pl (AA (Lm c (AA (AG ?_)))));show wpAny _ _ (match Builtin.Slice.sliceAdjust lo hi 1 (n:Int) with | (lo,hi)=>pure (lo,(1:Int),Builtin.Slice.slicePlaces lo hi 1)) _ _ s;rw[Cd lo hi n];show wpAny _ _ (pure (((sIx n 0 lo:Nat):Int),(1:Int),Builtin.Slice.slicePlaces ((sIx n 0 lo:Nat):Int) ((sIx n n hi:Nat):Int) 1)) _ _ s;rw[Cq];exact AG h
theorem fL(xs:Array A1)(i k:Nat):((List.range k).filterMap λ(m:Nat)=>xs[((i:Int)+(m:Int)*1).toNat]?).toArray=((xs.toList.drop i).take k).toArray:=by
 have e:(λ(m:Nat)=>xs[((i:Int)+(m:Int)*1).toNat]?)=λm=>xs[i+m]?:=by
  funext m
  have:((i:Int)+(m:Int)*1).toNat=i+m:=by lia
  rw[this]
 rw[e];have:=pick_run xs i k;rw[HD] at this;have e2:((λx=>xs[x]?) ∘ λx=>i+x)=λm=>xs[i+m]?:=rfl
 rw[e2] at this;rw[this]
theorem getItem_tuple_cut{t sl:A2}(ht:IsTup s.heap t ae)(hs:s.heap.IsSliceOf sl vl vu .none)(pl:IsPart vl lo)(c:IsPart vu hi)
   (hw:¬ (sIx ae.size 0 lo=0/\sIx ae.size ae.size hi=ae.size))
   (h:Q (.ref s.heap.objs.size) { s with heap:=s.heap.push { cls:=.type "tuple",data:=.seq ((ae.toList.drop (sIx ae.size 0 lo)).take (sIx ae.size ae.size hi - sIx ae.size 0 lo)).toArray } })
   (hsz:ae.size<=sizeLine):wpAny (model prog w) A (getItem (.ref t) (.ref sl)) Q E s:=by
 have a:sizeOk (.seq ((ae.toList.drop (sIx ae.size 0 lo)).take (sIx ae.size ae.size hi - sIx ae.size 0 lo)).toArray):=by
   show((ae.toList.drop (sIx ae.size 0 lo)).take (sIx ae.size ae.size hi - sIx ae.size 0 lo)).toArray.size<=sizeLine;rw[AO,BY,CS,FJ];lia
 have C:sIx ae.size ae.size hi<=ae.size:=sIx_le _ _ (AT _) hi;obtain⟨os,b,d,y⟩:=id hs;have e:s.TypeIs (.ref sl) "slice" := ⟨os,b,d⟩;unfold getItem;try with_reducible refine CZ ?_
 first | refine AA (AG ?_) | skip
 refine AA (wpAny_sequenceKey ht.typeIs (by decide) ?_);refine AA (CM (name:=Str.ofString "__getitem__") ht.typeIs DL
   (DK DL ht.typeIs entry_tuple_getitem ?_ (args_tuple_getitem _ _)))
 show wpAny _ _ (Builtin.Tuple.tupleItemsOf (.ref t) >>= _) _ _ s;refine AA (tupleItemsOf_ ht ?_);refine AA (HX e ?_);rw[AF (by decide)];refine AA (R4 hs pl c ?_);have r:¬ ((((sIx ae.size 0 lo:Nat):Int)==0&&(1:Int)==1&&(sIx ae.size ae.size hi - sIx ae.size 0 lo)==ae.size)=true):=by
   intro q;rw[BG,BG] at q;have q1:((sIx ae.size 0 lo:Nat):Int)=0:=eq_of_beq q.1.1;have q2:sIx ae.size ae.size hi - sIx ae.size 0 lo=ae.size:=eq_of_beq q.2;exact hw ⟨by lia,by lia⟩
 show wpAny _ _ (if(((sIx ae.size 0 lo:Nat):Int)==0&&(1:Int)==1&&(sIx ae.size ae.size hi - sIx ae.size 0 lo)==ae.size)=true then _ else _) _ _ s;rw[AJ r,fL];first
   | exact AA (m:=Builtin.Tuple.tupleExact _) (CT (AG ⟨_,rfl,AG h⟩) a)
   | exact AA (m:=Builtin.Tuple.tupleExact _) (CT (AA (AG (AG ⟨_,rfl,AG h⟩))) a)
   | exact AA (AA (m:=Builtin.Tuple.tupleExact _) (CT (AG (AG ⟨_,rfl,AG h⟩)) a))
   | exact AA (AA (m:=Builtin.Tuple.tupleExact _) (CT (AG ⟨_,rfl,AG h⟩) a))
end HT
namespace L2
open PySem PySem.Spec PyProof.Rows
abbrev TO:=St->Hp->(Cc Int->Hp->Prop)->Prop
def PO(X:Cx)(e:Cc Cs)(t:TO):Prop :=
 ∀ (aa:I3) (s:A4) (σ:St) (H:Hp) (Q:Cc Int->Hp->Prop),D' X aa σ H s->t σ H Q ->
  wpAny (model X.prog X.w) X.A (evalPart e X.env) (λu s'=>∃ o H',D' X aa σ H' s'/\IsPart u o/\Q o H') X.xe s
def cf:TO:=λ_ H Q=>Q none H
def cX(t:TE):TO:=λσ H Q=>t σ H λx H1=>∃ i,x=.int i/\Q (some i) H1
theorem Nd:∀ {us:Z A1},Yl (ns.map V.int) us->IntsAre us ns:=by
 induction ns with
 | nil=>intro us r;rw[map_nil] at r;cases r;exact .nil
 | cons n ns ih =>
  intro us r;rw[BM] at r;cases r with
  | cons r1 r2 =>
   obtain⟨t,e⟩:=r1;subst e;exact .cons n t (ih r2)
section
variable{lo hi:Cc Cs}{tl th:TO}{p2:Pos}
theorem b8:PO X none cf:=by
 intro aa s σ H Q I h;rw[evalPart_none];exact AG ⟨none,H,I,.none,h⟩
theorem iM(h:PE X e te):PO X (some e) (cX te):=by
 intro aa s σ H Q I hw;rw[evalPart_some];refine Vy (h aa s σ H _ I hw) λu s1 ⟨x,H1,G,r1,q1⟩=>?_
 obtain⟨i,rfl,q⟩:=q1;obtain⟨t,rfl⟩:=r1;exact⟨some i,H1,G,.int i t,q⟩
def JW(X:Cx)(r:V->Cc Int->Cc Int->Hp->VK->Prop):Prop :=
 ∀ (aa:I3) (s:A4) (σ:St) (H:Hp) (x:V) (v vl vu:A1) (lo hi:Cc Int) (sl:A2) (Q:VK),D' X aa σ H s->W5 x v->s.heap.IsSliceOf sl vl vu .none->IsPart vl lo->IsPart vu hi->r x lo hi H Q ->
  ∃ T id,typeLookup (.type T) "__getitem__" = pure (some (.builtin id))/\s.TypeIs v T/\wpAny (model X.prog X.w) X.A (getItem v (.ref sl)) (EP X aa σ Q) X.xe s
theorem JW.or(h:JW X r)(h':JW X r'):JW X (λx lo hi H Q=>r x lo hi H Q\/r' x lo hi H Q):=by
 intro aa s σ H x v vl vu lo hi sl Q I rx hs pl c q;rcases q with q | q
 .exact h aa s σ H x v vl vu lo hi sl Q I rx hs pl c q
 .exact h' aa s σ H x v vl vu lo hi sl Q I rx hs pl c q
def eb(r:V->Cc Int->Cc Int->Hp->VK->Prop)(te:TE)(tl th:TO):TE:=λσ H Q=>te σ H λx H1=>tl σ H1 λl H2=>th σ H2 λu H3=>r x l u H3 Q
theorem hq(hr:JW X r)(he:PE X e te)(hl:PO X lo tl)(hu:PO X hi th):PE X (.Subscript e (.Slice lo hi none p2) pos) (eb r te tl th):=by
 intro aa s σ H Q I h;refine Subscript_ (Vy (he aa s σ H _ I h) λv s1 ⟨x,H1,G,r1,q1⟩=>?_);refine wpAny_Slice (Vy (hl aa s1 σ H1 _ G q1) λvl s2 ⟨l,H2,I2,pl,q2⟩=>Vy (hu aa s2 σ H2 _ I2 q2) λvu P ⟨u,H3,t,c,q3⟩=>?_);rw[evalPart_none];refine AG ?_;have I4:D' X aa σ H3 { P with heap:=P.heap.push { cls:=.type "slice",data:=.fields #[vl,vu,.none] } }:=t.kept (t':=P.toks) λb ob q=>AD _ q
 obtain⟨T,id,j,ht,S⟩:=hr aa { P with heap:=P.heap.push { cls:=.type "slice",data:=.fields #[vl,vu,.none] } } σ H3 x v vl vu l u P.heap.objs.size Q I4 r1 (Heap.IsSliceOf.new ..) pl c q3;show wpAny (model X.prog X.w) X.A (subscriptTail e (.Slice lo hi none p2) v (.ref P.heap.objs.size)) (EP X aa σ Q) X.xe { P with heap:=P.heap.push { cls:=.type "slice",data:=.fields #[vl,vu,.none] } };exact tail_any (ops:=[.ref P.heap.objs.size,v]) ht j S (by with_unfolding_all rfl)
def Ak(xs:Z V)(lo hi:Cc Int):Z V:=(xs.drop (HT.sIx xs.length 0 lo)).take (HT.sIx xs.length xs.length hi - HT.sIx xs.length 0 lo)
theorem Kb(xs:Z V)(lo hi:Cc Int):(Ak xs lo hi).length<=xs.length:=by
 unfold Ak;rw[BY,CS];lia
def SO(K:E'):V->Cc Int->Cc Int->Hp->VK->Prop:=λx lo hi H Q=>∃ a xs,x=.ref a/\Dx K H a xs /\
 ¬ (HT.sIx xs.length 0 lo=0/\HT.sIx xs.length xs.length hi=xs.length)/\∀ p,H p=none->Q (.ref p) (Wq H p (.tup (Ak xs lo hi)))
theorem ZB:JW X (SO X.K):=by
 intro aa s σ H x v vl vu lo hi sl Q I rx hs pl c h;obtain⟨a,xs,rfl,hx,hw,q⟩:=h;cases rx;obtain⟨its,r,ht,hz⟩:=I.tuple hx;have D:its.toArray.size=xs.length:=by rw[AO];exact r.length.symm
 refine⟨"tuple",_,PyProof.Rows.slot_tuple_getitem.lookup,ht.typeIs,?_⟩;refine HT.getItem_tuple_cut ht hs pl c (by rw[D];exact hw) ?_ (by rw[D];exact hz);rw[D];refine⟨.ref s.heap.objs.size,_,I.laid (t':=s.toks) (o:=.tup (Ak xs lo hi)) (λb ob q=>AD _ q) (AT _) ?_,rfl,q _ (I.hok.fresh (AT _))⟩;exact⟨BI (Kb xs lo hi) hz,_,(r.drop (HT.sIx xs.length 0 lo)).take (HT.sIx xs.length xs.length hi - HT.sIx xs.length 0 lo),IsTup.new _ _⟩
def cv(K:E'):R2:=λx y H Q=>∃ a b xs ys,x=.ref a/\y=.ref b/\Dx K H a xs/\Dx K H b ys/\xs≠[]/\xs.length+ys.length<=sizeLine /\
 (ys=[]->Q (.ref a) H)/\(ys≠[]->∀ p,H p=none->Q (.ref p) (Wq H p (.tup (xs++ys))))
theorem Yl.nil_iff{xs:Z V}(r:Yl xs us):us=[]↔xs=[]:=by
 cases r with
 | nil=>simp
 | cons _ _=>simp
theorem ij:E3 X (binaryOp .Add) (cv X.K):=by
 intro aa s σ H x y v u Q I rx m h;obtain⟨a,b,xs,ys,rfl,rfl,Y,hb,hx,hz,q1,q2⟩:=h;cases rx;cases m;obtain⟨its,r1,p1,_⟩:=I.tuple Y;obtain⟨f,r2,p2,_⟩:=I.tuple hb;refine HT.cat_tup p1 p2 (λz=>hx (r1.nil_iff.mp z)) (λz=>⟨.ref a,H,I,rfl,q1 (r2.nil_iff.mp z)⟩) (λz=>?_) (by rw[<- r1.length,<- r2.length];exact hz);refine⟨.ref s.heap.objs.size,_,I.laid (t':=s.toks) (o:=.tup (xs++ys)) (λb ob q=>AD _ q) (AT _) ?_,rfl,q2 (λw=>z (r2.nil_iff.mpr w)) _ (I.hok.fresh (AT _))⟩;exact⟨by rw[AH];exact hz,_,r1.append r2,IsTup.new _ _⟩
end
def MY(n:Nat)(i:Int):Cc Nat:=if 0<=i then(if i<n then some i.toNat else none) else if -(n:Int)<=i then some (i+n).toNat else none
def Pe(xs:Z α)(i:Int):Cc α:=(MY xs.length i).bind λj=>xs[j]?
theorem gy{i:Int}(h:MY n i=some j):seqIndex? i n=some j/\j<n/\-(n:Int)<=i/\i<n:=by
 unfold MY at h;by_cases h0:0<=i
 .rw[AF h0] at h
  by_cases h1:i<n
  .rw[AF h1] at h
   have e:i.toNat=j:=BK h;exact⟨by rw[seqIndex_of h0 h1,e],by lia,by lia,h1⟩
  .rw[AJ h1] at h;cases h
 .rw[AJ h0] at h
  by_cases h1 : -(n:Int)<=i
  .rw[AF h1] at h
   have e:(i+n).toNat=j:=BK h;exact⟨by rw[seqIndex_neg (by lia) h1,e],by lia,h1,by lia⟩
  .rw[AJ h1] at h;cases h
variable{xs:Z α}{v:α}
theorem Ab{i:Int}(h:Pe xs i=some v):∃ j,seqIndex? i xs.length=some j/\xs[j]?=some v/\j<xs.length/\-(xs.length:Int)<=i/\i<xs.length:=by
 unfold Pe at h;cases e:MY xs.length i with
 | none=>rw[e] at h;cases h
 | some j =>
  rw[e] at h;obtain⟨h1,h2,h3,h4⟩:=gy e;exact⟨j,h1,h,h2,h3,h4⟩
theorem Gn(h:xs[j]?=some v):Pe xs (j:Int)=some v:=by
 have C:j<xs.length:=(AE.mp h).1;have e:MY xs.length (j:Int)=some j:=by
  unfold MY;rw[AF (by lia),AF (by lia)];simp
 unfold Pe;rw[e];exact h
def L4(b:Cs):Prop:=∀ o i,subscripted b false o i=operate [o,i] (getItem o i)
def JY(X:Cx)(r:R2):Prop :=
 ∀ (aq slice:Cs) (aa:I3) (s:A4) (σ:St) (H:Hp) (x y:V) (v u:A1) (Q:VK),D' X aa σ H s->W5 x v->W5 y u->r x y H Q ->
  subscripted slice false v u=operate [v,u] (getItem v u)->wpAny (model X.prog X.w) X.A (subscriptTail aq slice v u) (EP X aa σ Q) X.xe s
def Ch(X:Cx)(id:String)(r:V->Z V->Hp->VK->Prop):Prop :=
 ∀ (aa:I3) (s:A4) (σ:St) (H:Hp) (x:V) (xs:Z V) (v:A1) (us:Z A1) (Q:VK),D' X aa σ H s->W5 x v->Yl xs us->r x xs H Q ->
  wpAny (model X.prog X.w) X.A (call (.builtin id) (v::us)) (EP X aa σ Q) X.xe s
section
variable{a b:Cs}
theorem JY.or{r r':R2}(h:JY X r)(h':JY X r'):JY X (λx y H Q=>r x y H Q\/r' x y H Q):=by
 intro aq slice aa s σ H x y v u Q I rx m q hs;rcases q with q | q
 .exact h aq slice aa s σ H x y v u Q I rx m q hs
 .exact h' aq slice aa s σ H x y v u Q I rx m q hs
theorem SC{r:R2}(hr:JY X r)(Y:PE X a ta)(hb:PE X b tb)(hs:L4 b):PE X (.Subscript a b pos) (MT r ta tb):=by
 intro aa s σ H Q I h;exact Subscript_ (QG Y hb I h λv u s2 x y H2 I2 rx m q=>hr a b aa s2 σ H2 x y v u Q I2 rx m q (hs _ _))
def VV(K:E'):R2:=λx y H Q=>∃ p xs i v,x=.ref p/\y=.int i/\Dq K H p xs/\Pe xs i=some v/\Q v H
def UF(K:E'):R2:=λx y H Q=>∃ p xs i v,x=.ref p/\y=.int i/\Dx K H p xs/\Pe xs i=some v/\Q v H
def XN:R2:=λx y H Q=>∃ z i c,x=.str z/\y=.int i/\z.length<=sizeLine/\Pe z.cps.toList i=some c/\Q (.str ⟨#[c]⟩) H
theorem Xr:JY X (VV X.K):=by
 intro aq slice aa s σ H x y v u Q I rx m h hs;obtain⟨p,xs,i,z,rfl,rfl,B,he,q⟩:=h;cases rx;obtain⟨t,rfl⟩:=m;obtain⟨its,r,pl,hz⟩:=I.list B;obtain⟨j,h1,h2,h3,h4,h5⟩:=Ab he;obtain⟨w,ew,c⟩:=r.get h2;have hl:=r.length;have hn:=Il;have M:EP X aa σ Q w s:=⟨z,H,I,c,q⟩;by_cases h0:0<=i
 .have C:i.toNat=j:=by
   rw[seqIndex_of h0 h5] at h1;exact BK h1
  exact item_listR pl.isList h0 (by lia) (by rw[C];simpa using ew) M hs
 .have C:(i+(its.toArray.size:Int)).toNat=j:=by
   rw[seqIndex_neg (by lia) h4] at h1;rw[AO,<- hl];exact BK h1
  exact subscriptTail_builtinR (x:=w) pl.isList.typeIs slot_list_getitem.lookup
   (wpAny_getItem_list_neg (Q:=λr s'=>r=w/\EP X aa σ Q r s') pl.isList (by lia) (by rw[AO]<;>lia) (by lia) (by rw[C];simpa using ew) ⟨rfl,M⟩) hs
theorem eT:JY X (UF X.K):=by
 intro aq slice aa s σ H x y v u Q I rx m h hs;obtain⟨p,xs,i,z,rfl,rfl,B,he,q⟩:=h;cases rx;obtain⟨t,rfl⟩:=m;obtain⟨its,r,pl,hz⟩:=I.tuple B;obtain⟨j,h1,h2,h3,h4,h5⟩:=Ab he;obtain⟨w,ew,c⟩:=r.get h2;have hl:=r.length;have hn:=Il;have M:EP X aa σ Q w s:=⟨z,H,I,c,q⟩;exact subscriptTail_builtinR (x:=w) pl.typeIs slot_tuple_getitem.lookup
  (getItem_tuple (j:=j) (Q:=λr s'=>r=w/\EP X aa σ Q r s') pl (by lia) (by lia) (by rw[AO,<- hl];exact h1) (by simpa using ew) ⟨rfl,M⟩) hs
theorem iR:JY X XN:=by
 intro aq slice aa s σ H x y v u Q I rx m h hs;obtain⟨z,i,c,rfl,rfl,hz,he,q⟩:=h;obtain⟨t,rfl⟩:=rx;obtain⟨t',rfl⟩:=m;obtain⟨j,h1,h2,h3,h4,h5⟩:=Ab he;have hl:z.cps.toList.length=z.length:=by simp[Str.length]
 rw[hl] at h1 h4 h5;have hn:=Il;exact tail_any (typeIs_str s z t) slot_str_getitem.lookup (getItem_str (c:=c) (by
  have e1:decide (i < -(2^63:Int))=false:=AC (by lia);have e2:decide (i≥2^63)=false:=AC (by lia);rw[e1,e2,IQ]) (by rw[h1];simpa using h2) ⟨.str ⟨#[c]⟩,H,I.tok _,⟨_,rfl⟩,q⟩) hs
def fH(K:E'):R2:=λx y H Q=>VV K x y H Q\/UF K x y H Q\/XN x y H Q
theorem YN:JY X (fH X.K):=Xr.or (eT.or iR)
theorem F6(lo hi:Cc Int)(n:Nat):(sliceBounds lo hi none n).1=((HT.sIx n 0 lo:Nat):Int)/\(sliceBounds lo hi none n).2.1=((HT.sIx n n hi:Nat):Int)/\(sliceBounds lo hi none n).2.2=1:=by
 refine⟨?_,?_,rfl⟩
 .cases lo with
  | none=>simp[sliceBounds,HT.sIx]
  | some i =>
   simp only[sliceBounds,HT.sIx,Option.getD_none,show(1:Int) > 0 by decide,GS];by_cases h:i<0
   .simp only[h,GS]<;>lia
   .simp only[h,HW]<;>lia
 .cases hi with
  | none=>simp[sliceBounds,HT.sIx]
  | some i =>
   simp only[sliceBounds,HT.sIx,Option.getD_none,show(1:Int) > 0 by decide,GS];by_cases h:i<0
   .simp only[h,GS]<;>lia
   .simp only[h,HW]<;>lia
theorem Oq(its:Z A1)(lo hi:Cc Int):slicePick its.toArray lo hi none=((its.drop (HT.sIx its.length 0 lo)).take (HT.sIx its.length its.length hi - HT.sIx its.length 0 lo)).toArray:=by
 obtain⟨h1,h2,h3⟩:=F6 lo hi its.toArray.size;unfold slicePick;rw[h1,h2,h3];simp only[sliceRange_one,pick_run,AO]<;>rfl
def WN(K:E'):V->Cc Int->Cc Int->Hp->VK->Prop:=λx lo hi H Q=>∃ a xs,x=.ref a/\Dq K H a xs/\∀ p,H p=none->Q (.ref p) (Wq H p (.lst (Ak xs lo hi)))
theorem dD:JW X (WN X.K):=by
 intro aa s σ H x v vl vu lo hi sl Q I rx hs pl c h;obtain⟨a,xs,rfl,hx,q⟩:=h;cases rx;obtain⟨its,r,ht,hz⟩:=I.list hx;have D:=r.length;refine⟨"list",_,slot_list_getitem.lookup,ht.isList.typeIs,?_⟩;refine wpAny_getItem_list_slice ht.isList hs pl c .none (by simp) ?_ (by rw[AO]<;>lia);rw[Oq,<- D];refine⟨.ref s.heap.objs.size,_,I.laid (t':=s.toks) (o:=.lst (Ak xs lo hi)) (λb ob q=>AD _ q) (AT _) ?_,rfl,q _ (I.hok.fresh (AT _))⟩;exact⟨BI (Kb xs lo hi) hz,_,0,(r.drop (HT.sIx xs.length 0 lo)).take (HT.sIx xs.length xs.length hi - HT.sIx xs.length 0 lo),AW _ rfl⟩
theorem Fh:E3 X (compareOp .NotIn) (λx y H Q=>∃ i j,x=.str i/\y=.str j/\Q (.bl (!(!(Builtin.Str.occurrences j i 0 j.length 1).isEmpty))) H):=by
 intro aa s σ H x y v u Q I rx m h;obtain⟨i,j,rfl,rfl,q⟩:=h;obtain⟨t,rfl⟩:=rx;obtain⟨t',rfl⟩:=m;exact notIn_str ⟨.bl _,H,I,rfl,q⟩
theorem X8:Uq X (.builtin "len") (λxs H Q=>∃ p ys,xs=[.ref p]/\(Dq X.K H p ys\/Dx X.K H p ys)/\Q (.int ys.length) H):=by
 intro aa s σ H xs us Q I r h;obtain⟨p,ys,rfl,B,q⟩:=h;obtain⟨u,rfl,rx⟩:=Sh r;cases rx;have hn:=Il;rcases B with B | B
 .obtain⟨its,r',pl,hz⟩:=I.list B
  have D:=r'.length;exact Calls.call_len_list pl.isList (by simp only[AO]<;>lia) ⟨.int ys.length,H,I.tok _,⟨s.toks+1,by rw[AO,D]⟩,q⟩
 .obtain⟨its,r',pl,hz⟩:=I.tuple B
  have D:=r'.length;exact len_tuple pl (by simp only[AO]<;>lia) ⟨.int ys.length,H,I.tok _,⟨s.toks+1,by rw[AO,D]⟩,q⟩
theorem Fk:Uq X (.builtin "len") (λxs H Q=>∃ z,xs=[.str z]/\z.length<=sizeLine/\Q (.int z.length) H):=by
 intro aa s σ H xs us Q I r h;obtain⟨z,rfl,hz,q⟩:=h;obtain⟨u,rfl,t,rfl⟩:=Sh r;have hn:=Il;exact len_str (by lia) ⟨.int z.length,H,I.tok _,⟨_,rfl⟩,q⟩
theorem Uq.or{f:A1}{r r':Z V->Hp->VK->Prop}(h:Uq X f r)(h':Uq X f r'):Uq X f (λxs H Q=>r xs H Q\/r' xs H Q):=by
 intro aa s σ H xs us Q I rs q;rcases q with q | q
 .exact h aa s σ H xs us Q I rs q
 .exact h' aa s σ H xs us Q I rs q
theorem Om:Uq X (.type "tuple") (λxs H Q=>∃ p ys,xs=[.ref p]/\((Dq X.K H p ys/\∀ l,H l=none->Q (.ref l) (Wq H l (.tup ys)))\/(Dx X.K H p ys/\Q (.ref p) H))):=by
 intro aa s σ H xs us Q I r h;obtain⟨p,ys,rfl,h⟩:=h;obtain⟨u,rfl,rx⟩:=Sh r;cases rx;rcases h with⟨B,q⟩ | ⟨B,q⟩
 .obtain⟨its,r',pl,hz⟩:=I.list B
  have D:=r'.length;refine call_tuple_list pl.isList (λh' kp=>?_) (by simp only[AO]<;>lia);have G:D' X aa σ H { s with heap:=h' }:=I.kept (t':=s.toks) kp;have I2:D' X aa σ (Wq H h'.objs.size (.tup ys)) { s with heap:=h'.push { cls:=.type "tuple",data:=.seq its.toArray } } :=
   G.laid (t':=s.toks) (λb o e=>AD _ e) (AT _) (show V9 X.prog X.w _ _ _ (.tup ys) from⟨hz,its,r',IsTup.new _ _⟩)
  exact⟨.ref h'.objs.size,_,I2,rfl,q _ (G.hok.fresh (AT _))⟩
 .obtain⟨its,r',pl,hz⟩:=I.tuple B
  exact call_tuple_same pl ⟨.ref p,H,I,rfl,q⟩
def PZ(K:E')(T:String)(x:V)(H:Hp):Prop:=match x with
 | .str _=>T="str"
 | .int _=>T="int"
 | .ref p=>(T="list" /\ ∃ xs,Dq K H p xs)\/(T="tuple" /\ ∃ o,K.lookup p=some o/\o.cls=.type "tuple" /\ o.dict=none) \/
  (T="dict" /\ ((∃ kvs,H p=some (.dK kvs))\/∃ kvs,H p=some (.dT kvs)))\/(T="set" /\ ∃ S n,H p=some (.set S n))
 | _=>False
theorem SM{T:String}{x:V}{v:A1}(I:D' X aa σ H s)(r:W5 x v)(ty:PZ X.K T x H) :
  s.TypeIs v T/\∀ a,v=.ref a->∃ ob,s.heap.get? a=some ob/\ob.dict=none:=by
 cases x with
 | str z =>
  obtain⟨t,rfl⟩:=r;cases (show T="str" from ty);exact⟨typeIs_str s z t,λ_ e=>nomatch e⟩
 | int i =>
  obtain⟨t,rfl⟩:=r;cases (show T="int" from ty);exact⟨typeIs_int s i t,λ_ e=>nomatch e⟩
 | ref p =>
  cases r;rcases ty with⟨rfl,xs,B⟩ | ⟨rfl,o,hk,hc,hd⟩ | ⟨rfl,hk⟩ | ⟨rfl,S,n,hk⟩
  .obtain⟨its,_,pl,_⟩:=I.list B
   refine⟨pl.isList.typeIs,λa e=>?_⟩;cases e;obtain⟨o,n,e,c,hd,_⟩:=pl;exact⟨o,e,hd⟩
  .refine⟨⟨o,I.kIn p o hk,hc⟩,λa e=>?_⟩
   cases e;exact⟨o,I.kIn _ o hk,hd⟩
  .have z:∃ o,s.heap.get? p=some o/\o.ExactDict:=by
    rcases hk with⟨kvs,hk⟩ | ⟨kvs,hk⟩
    .obtain⟨_,_,_,_,o,_,_,e,ex,_⟩:=I.hok p _ hk
     exact⟨o,e,ex⟩
    .obtain⟨_,_,_,_,o,_,_,e,ex,_⟩:=I.hok p _ hk
     exact⟨o,e,ex⟩
   obtain⟨o,e,ex⟩:=z;refine⟨⟨o,e,ex.1⟩,λa e2=>?_⟩;cases e2;exact⟨o,e,ex.2.1⟩
  .obtain⟨o,_,_,_,e,ex,_⟩:=I.hok p _ hk
   refine⟨⟨o,e,ex.1⟩,λa e2=>?_⟩;cases e2;exact⟨o,e,ex.2.1⟩
 | _=>exact False.elim ty
def iS(K:E')(T:String)(r:V->Z V->Hp->VK->Prop)(to:TE):TE:=λσ H Q=>to σ H λx H1=>PZ K T x H1/\r x [] H1 Q
def cA(K:E')(T:String)(r:V->Z V->Hp->VK->Prop)(to:TE)(t:TA):TE:=λσ H Q=>to σ H λx H1=>PZ K T x H1/\t σ H1 λxs H2=>r x xs H2 Q
variable{o:Cs}{t:TA}{T id:String}{r:V->Z V->Hp->VK->Prop}
theorem ZZ(pa:PlainAttrs T)(slot:Slot T name id)(b:typeOf (.builtin id)=pure (.type "method_descriptor"))(hm:Ch X id r)(J:PE X o to)
  (g:attributeBase o name X.env (eval o X.env)=eval o X.env:=by rfl) (u:(aj.endLine==al.line)=true:=by rfl):PE X (.Call (.Attribute o name aj) [] [] al) (iS X.K T r to):=by
 intro aa s σ H Q I h;refine wpAny_Call_method0_late g u (Vy (J aa s σ H _ I h) λv s1 ⟨x,H1,G,r1,ty,q1⟩=>?_);obtain⟨h1,h2⟩:=SM G r1 ty;exact⟨T,id,pa,slot,b,h1,h2,Calls.callWith_builtin rfl (PySem.evalArgs_none (hm aa s1 σ H1 x [] v [] Q G r1 .nil q1))⟩
theorem RL(pa:PlainAttrs T)(slot:Slot T name id)(b:typeOf (.builtin id)=pure (.type "method_descriptor"))(hm:Ch X id r)(J:PE X o to)(Y:PA X (e::es) t)
   (g:attributeBase o name X.env (eval o X.env)=eval o X.env:=by rfl)
   (ag:((backTo al (starEach (e::es) X.env)).all (λx=>!x.1)&&(backToKw al (keywordEach [] X.env)).all (λx=>x.1.isSome)
     && decide ((e::es).length+([]:Z Keyword).length+(if([]:Z Keyword).isEmpty then 0 else 1)<30))=true:=by rfl)
   (u:(aj.endLine==al.line)=true:=by rfl) (hs:Z2 X.env e es:=by rfl) (E:dO al X.env es:=by rfl) :
   PE X (.Call (.Attribute o name aj) (e::es) [] al) (cA X.K T r to t):=by
 intro aa s σ H Q I h;refine wpAny_Call_method_late g ag u rfl (Vy (J aa s σ H _ I h) λv s1 ⟨x,H1,G,r1,ty,q1⟩=>?_);obtain⟨h1,h2⟩:=SM G r1 ty;refine⟨T,id,pa,slot,b,h1,h2,?_⟩;have hA:=Y al aa s1 σ H1 _ G q1;rw[hs] at hA ⊢;refine Calls.callWith_builtin (by show(false||(backTo al (starEach es X.env)).any (·.1))=false;rw[E]<;>rfl) (Calls.evalArgs_plain ?_);exact Vy hA λus s2 ⟨vs,H2,I2,r2,q2⟩=>hm aa s2 σ H2 x vs v us Q I2 r1 r2 q2
end
def WP(X:Cx)(id:String)(r:V->Z V->Hp->VK->Prop):Prop :=
 ∀ (aa:I3) (s:A4) (σ:St) (H:Hp) (x:V) (xs:Z V) (v:A1) (us:Z A1) (Q:VK),D' X aa σ H s->W5 x v->Yl xs us->r x xs H Q ->
  wpAny (model X.prog X.w) X.A (call (.builtin id) (v::us)) (EP X aa σ Q) X.xe s
theorem Yl.one:∀ {x:V} {us:Z A1},Yl [x] us->∃ u,us=[u]/\W5 x u
 | _,_,.cons r .nil=>⟨_,rfl,r⟩
section
variable{b:A2}{xs zs:Z V}
theorem D'.lset{its':Z A1}{f:Array A1->Array A1}(I:D' X aa σ H s)(c:H l=some (.lst xs))
  (e:s.heap.get? l=some { cls:=.type "list",data:=.seq its.toArray n }) (hf:f its.toArray=its'.toArray) (hv:Yl ys its') (hz:ys.length<=sizeLine) :
  D' X aa σ (Wq H l (.lst ys)) { s with heap:=s.heap.update l (Obj.mapSeq f),toks:=t' }:=by
 have q:=PySem.IsL.update e f;rw[hf] at q;refine I.write (x:=l) (e:=l) (by rw[c];exact trivial) (.inl rfl) (λd u hb hu=>(EU s.heap (Obj.mapSeq f) (BW hb)).trans hu) ⟨_,q⟩ ?_;exact⟨hz,its',_,hv,q⟩
theorem D'.lnew(I:D' X aa σ H s)(hv:Yl ys its)(hz:ys.length<=sizeLine) :
  D' X aa σ (Wq H s.heap.objs.size (.lst ys)) { s with heap:=s.heap.push { cls:=.type "list",data:=.seq its.toArray },toks:=t' } :=
 I.laid (λ_ _ q=>AD _ q) (AT _) ⟨hz,its,0,hv,AW _ rfl⟩
theorem D'.fresh(I:D' X aa σ H s):H s.heap.objs.size=none:=I.hok.fresh (AT _)
theorem D'.lstM(I:D' X aa σ H s)(c:H l=some (.lst xs)):xs.length<=sizeLine/\∃ (its:Z A1) (n:Nat),Yl xs its/\xs.length=its.length/\s.heap.get? l=some { cls:=.type "list",data:=.seq its.toArray n }:=by
 obtain⟨z,its,n,r,e⟩:=I.hok l _ c;exact⟨z,its,n,r,r.length,e⟩
theorem Bk(h:n<=sizeLine):Builtin.List.listTooLong n=false:=by
 unfold Builtin.List.listTooLong;exact AC (by lia)
end
def hR:V->Z V->Hp->VK->Prop:=λx vs H Q=>∃ l xs y,x=.ref l/\vs=[y]/\H l=some (.lst xs)/\xs.length<sizeLine/\Q .non (Wq H l (.lst (xs++[y])))
theorem P4:WP X "list.append" hR:=by
 intro aa s σ H x vs v us Q I rx rv h;obtain⟨l,xs,y,rfl,rfl,c,hz,q⟩:=h;cases rx;obtain⟨u,rfl,g⟩:=rv.one;obtain⟨z,its,n,r,hl,e⟩:=I.lstM c;refine HS F.slot_list_append ⟨_,e,rfl⟩ F.entry_list_append (F.args_list_append_2 _ _) (PySem.list_append l its.toArray n u (by rw[AO];lia)) ⟨e,?_⟩;refine⟨.non,_,I.lset (its':=its++[u]) c e (by simp) (r.append (.cons g .nil)) ?_,rfl,q⟩;rw[AH,CA];lia
end L2
variable{t':L2.TT}{us:Z L2.V}{is:Z Nat}{fr:Bool}
namespace Att
open PySem PySem.W PySem.Calls PyProof.Rows
theorem Kt{P:Params} :∀ (ns:Z Int) (vs:Z A1),WellAll P h vs (ns.map WData.int)->IntsAre vs ns:=by
 intro ns;induction ns with
 | nil =>
  intro vs w;rw[map_nil] at w;cases w;exact .nil
 | cons n ns ih =>
  intro vs w;rw[BM] at w;cases w with
  | cons a b =>
   cases a;exact .cons _ _ (ih _ b)
theorem dt{l:OpenLaw}(hn:l.most=some n){P:Params}{args:Z WData}{p:Z A1}
   (c:l.row.toRowW.claim.pre args=true) (T:WellAll P h p args) :
   ∃ a vs ns,p=[Value.ref a]/\args=[WData.list (ns.map WData.int)]/\h.get? a=some { cls:=.type "list",data:=.seq vs.toArray }/\IntsAre vs ns/\ns.length<=n:=by
 have b:WShape.hasAll [] args [.list .int]=true:=(pre_splitW c).1;have hc:l.pre.holds [] { args:=args }=true:=(pre_splitW c).2;obtain⟨d,r,rfl,h1,h2⟩:=hasAllW_cons b;obtain rfl:=hasAllW_nil h2;obtain⟨xs,rfl,h3⟩:=hasW_list h1;obtain⟨ns,rfl⟩:=items_int h3;have D:ns.length<=n:=by
   unfold OpenLaw.pre at hc;have h4:(WTm.not (.lt (.lit (.int (n:Int))) (.len (.arg 0)))).holds [] { args:=[.list (ns.map .int)] }=true:=by
     have h4:=(holds_andW hc).1;rw[hn] at h4;exact h4
   have h5:=condW_of h4 (w_not (w_lt w_lit (w_len_list (w_arg rfl))));rw[AB] at h5;refine Nat.le_of_not_lt λq=>?_
   have G:(n:Int)<((ns.length:Nat):Int):=by lia
   first
     | (rw[AM G] at h5;exact absurd h5 (by decide))
     | (simp at h5;lia)
 cases T with
 | cons w1 w2 =>
   cases w2;cases w1 with
   | list J u=>exact⟨_,_,ns,rfl,rfl,J,Kt ns _ u,D⟩
theorem fc(l:OpenLaw)(args:Z WData):l.row.toRowW.claim.post args (.bool true) args=true :=
 postW_of (r:=l.row.toRowW) (X:=(true==true))
  (show WShape.has [] (.bool true) .bool=true by first | rfl | decide | simp[WShape.has,WShape.arms,WShape.armsAll])
  (show(WTm.eq .res (.lit (.bool true))).value [] { args:=args,res:=some (.bool true),after:=args }=some (.bool (true==true)) from w_eq_bool (w_res rfl) w_lit) rfl
theorem attach_call{l:OpenLaw}{d:DefRec}
  (hn:l.most=some n) (A:d.params.defaults=[])
  (call:∀ (w:D2) (s₀ s₁:A4) (mg y:JG) (fa:A2) (o:Obj) (pm cd aw:A1) (a:A2) (vs:Z A1) (ns:Z Int),
   Ground q loose [] XP w s₀ mg y s₁.heap->YP w s₁.heap ->
   s₁.heap.get? fa=some o->o.data=.func (docDef d.name d.params d.body d.scope pm cd aw)->s₁.heap.CodeRec cd d.name->mg d.name=some (.ref fa) ->
   s₁.heap.get? a=some { cls:=.type "list",data:=.seq vs.toArray }->IntsAre vs ns->ns.length<=n->s₁.gens=#[] ->
   codeAny (model l.prog w) callerA (.call (.ref fa) ⟨[.ref a],[]⟩) (λr s'=>r=.ok (.ret (.bool true))/\OldK s₁.heap s'.heap/\s'.os=s₁.os/\AllBare s'.gens) s₁) :
  WalkO q loose XP YP l.row.toRowW d [] (λf vs=>PySem.call f vs):=by
 intro w s₀ s₁ mg y G Y fa o pm cd aw U kV J hd af R I S args p as c hlay hrd T hlo;obtain rfl:U=.none:=Dflts.none R A;obtain rfl:kV=.none:=Dflts.noKw R;obtain⟨a,vs,ns,rfl,rfl,z,i,D⟩:=dt hn c T;refine enter_call (HU (call w s₀ s₁ mg y fa o pm cd aw a vs ns G Y J (fd_plain hd) af I z i D S) λr s' B=>?_);obtain⟨rfl,h2,h3,h4⟩:=B;exact⟨.inl ⟨.bool true,.bool true,[],rfl,λ_=>rfl,.bool true,fc l _,λ_=>⟨List.Pairwise.nil,λ_ hm=>(nomatch hm)⟩⟩,h2,h3,h4⟩
section
variable{K:Frag}
end
end Att
namespace L2
open PySem PySem.Spec PyProof.Rows
theorem Pf:∀ {vs:Z A1} {ns:Z Int},IntsAre vs ns->Yl (ns.map V.int) vs
 | _,_,.nil=>.nil
 | _,_,.cons n t h=>.cons ⟨t,rfl⟩ (Pf h)
def SL(K:E')(H:Hp)(a:A2)(xs:Z V):Prop :=
 Rd H a (.lst xs)\/∃ (its:Z A1) (n:Nat),K.lookup a=some { cls:=.type "list",data:=.seq its.toArray n }/\xs.length<=sizeLine/\Yl xs its
def QB(H:Hp):Prop:=∀ b,H b=none\/∃ o xs,H b=some (.frz o (.lst xs))
theorem dJ{y:JG}{k:Nat}{fa a:A2}{x:Str}{s₁:A4}{vs:Z A1} 
  (p:K.In s₁.heap) (I:s₁.heap.Ns mainGlobals mg) (hb:s₁.heap.Ns builtinsNs y) (Q:∀ x:Str,x≠"__name__" -> y x=bootBuiltins x) (J:s₁.heap.NoLimit) (S:s₁.gens=#[])
  (Y:s₁.heap.get? a=some { cls:=.type "list",data:=.seq vs.toArray }) (hi:IntsAre vs ns) (hl:ns.length<=sizeLine) (hr:G' k callerA)
  (F:∀ base:Ff,K.In base->base.Ns mainGlobals mg->I' P w K mg base CX k fa fd [x] sp) (D:∀ (s:A4) (u:A1),BindsTo s fd ⟨[u],[]⟩ [(x,u)])
  (X:∀ H:Hp,QB H->SL K H a (ns.map V.int)->sp [.ref a] H (λv _=>v=.bl true) λ_ _ _=>False)
  (E:∀ H e s',CX [] H s₁ (λ_ _ _=>False) e s'->False) :
  codeAny (model P w) callerA (.call (.ref fa) ⟨[.ref a],[]⟩) (λr s'=>r=.ok (.ret (.bool true))/\OldK s₁.heap s'.heap/\s'.os=s₁.os/\AllBare s'.gens) s₁:=by
 have rv:=Pf hi;have lenV:=hi.length
 -- from an abstract heap in which nothing but C i may be f
 have A:∀ H:Hp,QB H->SL K H a (ns.map V.int)->D8 P w H s₁.heap->(∀ b,H b≠none->b=a)->(H a≠none->K.lookup a=none) ->
   codeAny (model P w) callerA (.call (.ref fa) ⟨[.ref a],[]⟩) (λr s'=>r=.ok (.ret (.bool true))/\OldK s₁.heap s'.heap/\s'.os=s₁.os/\AllBare s'.gens) s₁:=by
  intro H hO hS hok hA l;have c:∀ {b:A2} {o:Obj},s₁.heap.get? b=some o->H b=none->(Xq s₁.heap H).get? b=some o:=λe n=>f0 e n
  have g:∀ {b:A2} {o:Obj} {es:Array DictEntry} {j:Nat},s₁.heap.get? b=some o->o.data=.dict es j->H b=none:=λ{b o es j} e d=>by
   cases q:H b with
   | none=>rfl
   | some u =>
    have e':b=a:=hA b (by rw[q];simp);subst e';rw[Y] at e;cases e;have d':Data.seq vs.toArray _=Data.dict es j:=d;cases d'
  have t:∀ {b:A2} {m:JG},s₁.heap.Ns b m->(Xq s₁.heap H).Ns b m:=λ{b m} ⟨o,es,j,e,d,r⟩=>⟨o,es,j,c e (g e d),d,r⟩
  have M:K.In (Xq s₁.heap H):=λb o e=>c (p b o e) (by
   cases q:H b with
   | none=>rfl
   | some u =>
    have e':b=a:=hA b (by rw[q];simp);subst e';rw[l (by rw[q];simp)] at e;cases e)
  have hM:Mod K mg (Xq s₁.heap H):=⟨M,t I,⟨y,t hb,Q⟩,let ⟨R,h1,h2⟩:=J;⟨R,t h1,h2⟩⟩;have e0:JT P w K mg (Xq s₁.heap H) callerA [] s₁ H:=⟨rfl,hM,λb o e=>d1 e,IL (b7 _ _),trivial,λb hb=>absurd (show b∈([]:Z A2) from hb) (by simp),hok,.of_eq S⟩;refine HU ((F _ M (t I)).run callerA [] s₁ H ⟨[.ref a],[]⟩ [.ref a] [.ref a] _ _ hr e0 (D s₁ (.ref a)) (.cons rfl .nil) (X H hO hS)) λr s' h=>?_
  cases r with
  | error e=>exact(E H e s' h).elim
  | ok fl =>
   cases fl with
   | next=>exact False.elim h
   | brk=>exact False.elim h
   | cont=>exact False.elim h
   | ret u =>
    obtain⟨v,H',os,bare,un,N,r',q⟩:=h;have G:v=.bl true:=q;subst G;obtain rfl:u=Value.bool true:=r';refine⟨rfl,OldK.of_keep λb o e=>?_,os,bare⟩;cases q:H b with
    | none=>exact un.keep b o e q (by intro z;exact absurd (show b∈([]:Z A2) from z) (by simp)) (by simp)
    | some u =>
     rcases hO b with z | ⟨ob,xs,z⟩
     .rw[q] at z;cases z
     .have z2:=un.frzs b ob _ z
      obtain⟨e1,_⟩:=hok b _ z;obtain⟨e2,_⟩:=N b _ z2;rw[e] at e1;cases e1;exact e2
 cases hk:K.lookup a with
 | some o =>
  -- C i is one of C module's own B
  have e:=p a o hk;rw[Y] at e;cases e;refine A (λ_=>none) (λ_=>.inl rfl) (.inr ⟨vs,_,hk,by rw[AB];exact hl,rv⟩) (λb u z=>by have z':(none:Cc HO)=some u:=z;cases z') (λb z=>absurd rfl z) λz=>absurd rfl z
 | none =>
  refine A (λb=>if b=a then some (.frz { cls:=.type "list",data:=.seq vs.toArray } (.lst (ns.map V.int))) else none) (λb=>?_) (.inl (.inr ⟨{ cls:=.type "list",data:=.seq vs.toArray },AF rfl⟩)) (λb u z=>?_) (λb z=>?_) λ_=>hk
  .by_cases hb:b=a
   .exact .inr ⟨_,_,AF hb⟩
   .exact .inl (AJ hb)
  .by_cases hb:b=a
   .have z':=(AF hb).symm.trans z
    cases z';subst hb;exact⟨Y,by rw[AB];exact hl,vs,_,rv,Y⟩
   .have z':=(AJ hb).symm.trans z
    cases z'
  .by_cases hb:b=a
   .exact hb
   .exact absurd (AJ hb) z
variable{m:Str}
theorem Zgf{l:PySem.W.OpenLaw}{k:Nat}{d:DefRec}{K:Params->E'}{CX:D2->CXT}{sp:D2->Sp}{x:Str}
  (hn:l.most=some n) (ai:n<=sizeLine) (A:d.params.defaults=[]) (hr:G' k callerA)
  (t:∀ (w:D2) (h:Ff),YP w h->(K w.params).In h)
  (F:∀ (w:D2) (mg:JG) (fa:A2) (h:Ff),(K w.params).In h->h.Ns mainGlobals mg->mg d.name=some (.ref fa) ->
   ∃ fd:Df,(∀ (s:A4) (u:A1),BindsTo s fd ⟨[u],[]⟩ [(x,u)]) /\
    ∀ base:Ff,(K w.params).In base->base.Ns mainGlobals mg->I' l.prog w (K w.params) mg base (CX w) k fa fd [x] (sp w))
  (X:∀ (w:D2) (H:Hp) (a:A2) (ns:Z Int),ns.length<=n->QB H->SL (K w.params) H a (ns.map V.int)->sp w [.ref a] H (λv _=>v=.bl true) λ_ _ _=>False)
  (E:∀ (w:D2) (H:Hp) (s:A4) (e:A1) (s':A4),CX w [] H s (λ_ _ _=>False) e s'->False) :
  PySem.W.WalkO q loose XP YP l.row.toRowW d [] (λf vs=>PySem.call f vs):=by
 refine Att.attach_call hn A λw s₀ s₁ mg y fa o pm cd aw a vs ns G Y J hd af I z i D S=>?_
 have p:=t w _ Y;obtain⟨fd,hb,m⟩:=F w mg fa _ p G.T.g I;exact dJ p G.T.g G.T.b G.T.builtins G.T.nolimit S z i (BI D ai) hr m hb (λH hO hS=>X w H a ns D hO hS) λH e s'=>E w H s₁ e s'
def Jd(s:C2)(j:Nat):C2:=match s with
 | .ClassDef _ _ _ body _ _ _ _ _ _ _=>body.getD j (.Pass ⟨0,0,0,0⟩)
 | _=>.Pass ⟨0,0,0,0⟩
def U3(s:C2):Arguments:=match s with
 | .FunctionDef _ a _ _ _ _ _ _ _ _=>a
 | _=>{ posonlyargs:=[],args:=[],vararg:=none,kwonlyargs:=[],kw_defaults:=[],kwarg:=none,defaults:=[] }
def Wb(s:C2):Z C2:=match s with
 | .FunctionDef _ _ b _ _ _ _ _ _ _=>b
 | _=>[]
def Z9(s:C2):IX:=match s with
 | .FunctionDef _ _ _ _ _ _ sc _ _ _=>sc
 | _=>{ kind:=.function,names:=[],isGenerator:=false,isCoroutine:=false }
abbrev A7:CXT:=λ_ _ _ _ _ _=>False
abbrev E0:XK:=λ_ _ _=>False
theorem Lz:G0 A7 X E0:=λ_ _ _ _ _ _ _ h=>h.elim
structure KF (K:E') (x am:Str) (st:Stmt) (f:Addr) (fd:FuncData):Prop where
 ex:∃ (oc:Value) (od:Option Addr) (kV aw pm:Value) (an:Option Addr) (ai ct:Value) (d:Array (Option Value)),
  fd=PySem.W.fnOf x am (U3 st) (Wb st) (Z9 st) .none kV aw pm an ai ct/\K.lookup f=some ⟨oc,od,.func fd,d⟩/\PySem.W.codeIn K ai am=true
 kp:PySem.W.keepIn K (.ref f)=true
theorem KF.ok{x:Str}{k:Nat}(F:KF K x am st f fd)(S:FnScope N ps (Z9 st))(len:∀ vs H Q E,sp vs H Q E->vs.length=ps.length)
  (a:∀ (ai:A1) (A:B2) (outer:Z IY) (s:A4) (H:Hp) (vs:Z V) (Q:VK) (E:XK),G' k (A.deeper (envOfC am (Z9 st) s.heap.objs.size f ai))->sp vs H Q E ->
   ∃ t,Ku (K5 A7 P w K mg base N am (Z9 st) f ai A outer s H E).nox (Wb st) t/\t { nx:=λ_ H'=>Q .non H',rt:=Q } (IZ N vs) H):I' P w K mg base A7 (k+1) f fd ps sp:=by
 obtain⟨oc,od,kV,aw,pm,an,ai,ct,d,rfl,lk,af⟩:=F.ex;refine cs lk af S len λA outer s H vs Q E hr X=>?_
 obtain⟨t,h,q⟩:=a ai A outer s H vs Q E hr X;exact⟨t,h.nox,q⟩
theorem KF.binds{x:Str}(F:KF K x am st f fd)
  (h:∀ (kV aw pm:A1) (an:Cc A2) (ai ct:A1) (us:Z A1),us.length=ps.length->bindArgs (PySem.W.fnOf x am (U3 st) (Wb st) (Z9 st) .none kV aw pm an ai ct) ⟨us,[]⟩=pure (ps.zip us)):Sb K fd ps []:=by
 obtain⟨oc,od,kV,aw,pm,an,ai,ct,d,rfl,lk,af⟩:=F.ex;exact .all (h kV aw pm an ai ct)
theorem X6{x:Str}{d:Array (Cc A1)}{kV:A1}(l:K.lookup f=some ⟨oc,od,.func (PySem.W.fnOf x am (U3 st) (Wb st) (Z9 st) .none kV aw pm an ai ct),d⟩)
 (c:PySem.W.codeIn K ai am=true) (k:PySem.W.keepIn K (.ref f)=true):KF K x am st f (PySem.W.fnOf x am (U3 st) (Wb st) (Z9 st) .none kV aw pm an ai ct):=⟨⟨oc,od,kV,aw,pm,an,ai,ct,d,rfl,l,c⟩,k⟩
theorem N7{k:Nat}(hr:G' k A):A.units+1<cLine:=DQ (Nat.add_le_add_left (by decide:1<=64) _) hr.units
theorem Iw(h:n<=1000):n<sizeLine:=DQ h (by decide)
theorem VB{A:Prop}(h:B):if false=true then A else B:=by
 rw[AJ BO];exact h
theorem QE{A:Prop}(h:A):if true=true then A else B:=by
 rw[AF rfl];exact h
def Zv(H H':Hp):Prop:=∀ b o,H b=some o->H' b=some o
theorem Zv.refl(H:Hp):Zv H H:=λ_ _ h=>h
theorem Zv.trans(a:Zv H H1)(b:Zv H1 H2):Zv H H2:=λc o h=>b c o (a c o h)
theorem Zv.free(e:Zv H H')(h:H' l=Option.none):H l=Option.none:=by
 cases q:H l with
 | none=>rfl
 | some o =>
  rw[e l o q] at h;cases h
theorem Ax{R:Result->A4->Prop}{aA a iter:Cs}{ay:Z Cs}{scope:IX}{pos:Pos}{it j:A1}{env:IY}(I:Nat->A4->Prop)
  (l:∀ n s,I n s->wpAny (model prog w) A (pyNext it) (λr s₁=>match r with
   | none=>R (.ok .next) s₁
   | some v=>wpAny (model prog w) A (letOwnedTupleGo a it v) (λ_ s₁'=>wpAny (model prog w) A (assign a env v) (λ_ s₂ =>
    wpAny (model prog w) A (forIn ay true λc r=>if r=true then do let ok <- isTrue c env (eval c env);pure (ForInStep.yield ok) else pure (ForInStep.yield r)) (λok s₃ =>
     if ok=true then wpAny (model prog w) A (eval aA env) (λx s₄ =>
      wpAny (model prog w) A (call (.builtin "list.append") [j,x]) (λ_ s₅=>∃ m,m<n/\I m s₅) (λ_ _=>False) s₄) (λ_ _=>False) s₃
     else ∃ m,m<n/\I m s₃) (λ_ _=>False) s₂) (λ_ _=>False) s₁') (λ_ _=>False) s₁) (λ_ _=>False) s)
  (n:Nat) (h:I n s) :
  codeAny (model prog w) A (.compLoop (.ListComp aA [⟨a,iter,ay,0⟩] scope pos) 0 it j env) R s:=by
 refine codeAny_loop rfl I (λn s B=>?_) n h;show wpAny _ A ((compTurn (.ListComp aA [⟨a,iter,ay,0⟩] scope pos) 0 it j env).onRaise (λx=>do noteFrame x env;theTreesLotGoes x)) _ _ s;refine wpAny_noted ?_;rw[compTurn_list];refine AA (HK (AA (CJ (l n s B) (λr s₁ h₁=>?_) λ_ _ h'=>h'.elim)));cases r with
 | none=>exact AG h₁
 | some v =>
  refine AA (CJ h₁ (λ_ s₁' h₁'=>?_) λ_ _ h'=>h'.elim);refine AA (CJ h₁' (λ_ s₂ h₂=>AA (CJ h₂ (λok s₃ h₃=>?_) λ_ _ h'=>h'.elim)) λ_ _ h'=>h'.elim);cases ok with
  | false=>exact AG ⟨rfl,h₃⟩
  | true =>
   exact AA (AA (CJ h₃ (λx s₄ h₄=>AA (CJ h₄ (λ_ s₅ h₅=>AG (AG ⟨rfl,h₅⟩)) λ_ _ h'=>h'.elim)) λ_ _ h'=>h'.elim))
def K7(cells:Z (Str×A2)):Z (Str×NameKind)->Z (Str×A2)->Z (Str×A2)
 | [],j=>j
 | (n,k)::r,j=>K7 cells r (if k==.free then(n,(cells.lookup n).getD 0)::j else j)
theorem Ln(h:∀ y∈sc.names,y.2=.free->∃ c,env.cells.lookup y.1=some c):closureFor sc env=pure (K7 env.cells sc.names []):=by
 unfold closureFor;generalize ([]:Z (Str×A2))=j;generalize hl:sc.names=names at h;clear hl;induction names generalizing j with
 | nil=>rfl
 | cons y r ih =>
  obtain⟨n,k⟩:=y;have a:=λj=>ih j λy hy=>h y (AX _ hy)
  dsimp only at a ⊢;rw[HP];by_cases hk:k=.free
  .subst hk
   obtain⟨c,hc⟩:=h (n,.free) BD rfl;simp only[cellOf,hc,CY,GS,pure_bind,K7,HY];exact a _
  .have hb:(k==NameKind.free)=false:=by simpa using hk
   simp only[hb,HE,HW,pure_bind,K7];exact a _
theorem Kh:∀ (names:Z (Str×NameKind)) (j:Z (Str×A2)),(∀ y∈names,y.2=.free->∃ c,cells.lookup y.1=some c)->(∀ x c,j.lookup x=some c->cells.lookup x=some c) ->
   ∀ x c,(K7 cells names j).lookup x=some c->cells.lookup x=some c
 | [],_,_,Y,x,c,e=>Y x c e
 | (n,k)::r,j,h,Y,x,c,e=>by
   unfold K7 at e;refine Kh r _ (λy hy=>h y (AX _ hy)) (λM g e'=>?_) x c e;split at e'
   · rename_i hk
     have d:k=.free:=by simpa using hk
     obtain⟨c0,a⟩:=h (n,k) BD d;simp only at a;rw[DI] at e';split at e'
     · rename_i hx
       have N:M=n:=by simpa using hx
       subst N;rw[a] at e';simp at e';rw[a,e']
     · exact Y M g e'
   · exact Y M g e'
theorem Nk:∀ (names:Z (Str×NameKind)) (j:Z (Str×A2)) (x:Str),((x,NameKind.free)∈names\/(j.lookup x).isSome=true)->((K7 cells names j).lookup x).isSome=true
 | [],j,x,h=>by
   rcases h with h | h
   · simp at h
   · exact h
 | (n,k)::r,j,x,h=>by
   unfold K7;refine Nk r _ x ?_;rcases h with h | h
   · rcases BN.mp h with e | h
     · cases e
       right;simp
     · exact .inl h
   · right
     split
     · rw[DI]
       split
       · rfl
       · exact h
     · exact h
def Wl(X:Cx)(sc:IX)(N:Z Str)(C:A2)(s:A4)(H:Hp)(fp:Z A2):Cx :=
 { X with N:=N,s₀:=s,H₀:=H,env:=compEnvC sc (K7 X.env.cells sc.names []) C X.env,outer:=X.stack,ex:=fp,fn:=λ_=>false,pn:=[],xe:=λ_ _=>False }
def VY(ao sc:IX)(a N:Z Str)(fs:Z (Cc Nat)):Bool :=
 N.length==fs.length&&(N.zip fs).all (λp=>match p.2 with | none=>true | some j=>a[j]?==some p.1&&sc.names.lookup p.1==some .free) &&
 sc.names.all (λy=>y.2 != .cell&&(y.2 != .free||(ao.names.lookup y.1==some .cell||ao.names.lookup y.1==some .free))&&(y.2 != .local||sc.names.lookup y.1==some .local))&&sc.kind==.function
structure CompOk (ao sc:Scope) (a N:List Str) (fs:List (Option Nat)):Prop where
 len:N.length=fs.length
 frees:∀ (i j:Nat),fs[i]?=some (some j)->∃ x,N[i]?=some x/\a[j]?=some x/\sc.names.lookup x=some .free
 nocell:∀ y∈sc.names,y.2≠.cell
 par:∀ y∈sc.names,y.2=.free->ao.names.lookup y.1=some .cell\/ao.names.lookup y.1=some .free
 loc:∀ y∈sc.names,y.2=.local->sc.names.lookup y.1=some .local
 kind:sc.kind=.function
theorem CompOk.of{a:Z Str}(h:VY ao sc a N fs=true):CompOk ao sc a N fs:=by
 unfold VY at h;simp only[BG,CP,CD,bne_iff_ne,ne_eq,DY] at h;obtain⟨⟨⟨h1,h2⟩,h3⟩,h4⟩:=h;refine⟨h1,λi j e=>?_,λy hy=>(h3 y hy).1.1,λy hy e=>?_,λy hy e=>?_,h4⟩
 .have hi:i<fs.length:=(AE.mp e).1
  have hN:i<N.length:=by lia
  have hz:(N.zip fs)[i]?=some (N[i],some j):=by
   rw[List.getElem?_zip_eq_some];exact⟨by simp[hN],e⟩
  have:=h2 _ (AI hz);simp only[BG,CP] at this;exact⟨N[i],by simp[hN],this.1,this.2⟩
 .rcases(h3 y hy).1.2 with z | z
  .exact absurd e z
  .exact z
 .rcases(h3 y hy).2 with z | z
  .exact absurd e z
  .exact z
theorem E7{x:Str}{k:NameKind}(a:∀ y∈sc.names,y.2≠.cell)(h:(relabel sc env).names.lookup x=some k)(hk:k=.cell\/k=.free):(x,NameKind.free)∈sc.names:=by
 have hm:=CU h;unfold relabel at hm;simp only[CL] at hm;obtain⟨⟨n,E⟩,hy,e⟩:=hm;dsimp only at e;split at e
 .rename_i hc
  simp only[BG,CP] at hc;cases e;rw[hc.1.1] at hy;exact hy
 .cases e
  rcases hk with z | z
  .exact absurd z (a _ hy)
  .rw[z] at hy;exact hy
theorem Xm{x:Str}(h:sc.names.lookup x=some .free):(relabel sc env).names.lookup x=some .cell\/(relabel sc env).names.lookup x=some .free:=by
 unfold relabel;dsimp only;generalize sc.names=names at h;induction names with
 | nil=>simp at h
 | cons y r ih =>
  obtain⟨n,k⟩:=y;rw[DI] at h;rw[BM];split at h
  .rename_i hx
   cases h;have:x=n:=by simpa using hx
   subst this;dsimp only;split
   .left;rw[DI];simp
   .right;rw[DI];simp
  .rename_i hx
   dsimp only;split
   .rw[DI,hx];exact ih h
   .rw[DI,hx];exact ih h
section
variable(P:D1)(w:D2)
end
section
variable{a:A2}{o:HO}
end
section
variable{x e:A2}{o':HO}
end
section
variable{fs:Z A2}{h1 h2:Ff}{a x e:A2}{o:HO}
end
section
variable{σ:Z (Cc V)}
end
section
variable{a b:Cs}
variable{tA aE:TT}
end
section
variable{a:A2}{xs:Z V}
end
section
variable{ap:Z C2}{t u:TS}
end
section
variable{a b:Cs}{tc:TE}
end
section
variable{x C:A2}{v:A1}
end
section
variable{a C:A2}{fs aG:Z (Str×V)}
end
section
variable{a C:A2}{fs:Z (Str×V)}{f:Str}
end
section
variable{o:Cs}{f:Str}
end
section
variable{c:A1}{b:Bool}
end
section
variable{t:TA}
end
section
variable{k:Nat}{C:A2}{E:XK}{x:Str}{o:Cs}{t:TA}
end
section
variable{k:Nat}{C:A2}{E:XK}{x:Str}{o:Cs}{aK:Z Keyword}{t tk:TA}
variable{gV:Z V->Z V->Z V}
end
section
variable{x:Str}{t:TA}{id T:String}{r:Z V->Hp->VK->Prop}
end
section
variable{κ:Type}[DecidableEq κ]
def Rz(kvs:Z (κ×V))(k:κ):Cc V:=(kvs.find? λa=>decide (a.1=k)).map (·.2)
def Ep(kvs:Z (κ×V))(k:κ)(v:V):Z (κ×V) :=
 if(kvs.any λa=>decide (a.1=k))=true then kvs.map (λa=>if a.1=k then(a.1,v) else a) else kvs++[(k,v)]
theorem D9{p:κ×V}{r:Z (κ×V)}{k:κ}(e:p.1=k):Rz (p::r) k=some p.2:=by simp[Rz,FZ,e]
theorem Gh{p:κ×V}{r:Z (κ×V)}{k:κ}(e:¬ p.1=k):Rz (p::r) k=Rz r k:=by simp[Rz,FZ,e]
theorem Hq(k:κ):∀ kvs:Z (κ×V),(kvs.any λa=>decide (a.1=k))=(Rz kvs k).isSome
 | []=>rfl
 | p::r=>by
  rw[FN];by_cases e:p.1=k
  .simp only[D9 e,AM e,Bool.true_or,Option.isSome_some]
  .rw[Gh e,AC e,Bool.false_or];exact Hq k r
theorem K9(kvs:Z (κ×V))(k:κ)(v:V):(Ep kvs k v).length<=kvs.length+1:=by
 unfold Ep;split
 .rw[AB];lia
 .rw[AH,BJ,List.length_nil];lia
theorem gm{kvs:Z (κ×V)}{k:κ}(v:V)(h:Rz kvs k=none):Ep kvs k v=kvs++[(k,v)]:=by
 unfold Ep;rw[Hq,h];exact AJ (by decide)
theorem Dy.isSome_eq{o:Cc V}{u:Cc A1}(r:Dy o u):o.isSome=u.isSome:=by
 cases o with
 | none=>cases u with
  | none=>rfl
  | some _=>exact(show False from r).elim
 | some _=>cases u with
  | none=>exact(show False from r).elim
  | some _=>rfl
theorem KV.val{kvs:Z (κ×V)}{vs:Z (κ×A1)}(r:KV kvs vs)(k:κ):Dy (Rz kvs k) (valueAt vs k):=by
 unfold KV at r;induction r with
 | nil=>exact DN
 | @cons p q ps qs h t ih =>
  obtain⟨h1,h2⟩:=h;by_cases e:p.1=k
  .have e':q.1=k:=h1.symm.trans e
   have b:valueAt (q::qs) k=some q.2:=by simp[valueAt,FZ,e']
   rw[D9 e,b];exact h2
  .have e':¬ q.1=k:=λz=>e (h1.trans z)
   have b:valueAt (q::qs) k=valueAt qs k:=by simp[valueAt,FZ,e']
   rw[Gh e,b];exact ih
theorem KV.any{kvs:Z (κ×V)}{vs:Z (κ×A1)}(r:KV kvs vs)(k:κ):(kvs.any λa=>decide (a.1=k))=vs.any λa=>decide (a.1=k):=by
 unfold KV at r;induction r with
 | nil=>rfl
 | cons h t ih=>rw[FN,FN,ih,h.1]
theorem KV.repl{kvs:Z (κ×V)}{vs:Z (κ×A1)}(r:KV kvs vs)(k:κ)(m:W5 y u) :
  KV (kvs.map λa=>if a.1=k then(a.1,y) else a) (vs.map λa=>if a.1=k then(a.1,u) else a):=by
 unfold KV at r ⊢;induction r with
 | nil=>exact .nil
 | @cons p q ps qs h t ih =>
  rw[BM,BM];refine .cons ?_ ih;obtain⟨h1,h2⟩:=h;by_cases e:p.1=k
  .rw[AF e,AF (h1.symm.trans e)];exact⟨h1,m⟩
  .rw[AJ e,AJ (λz=>e (h1.trans z))];exact⟨h1,h2⟩
theorem KV.put{kvs:Z (κ×V)}{vs:Z (κ×A1)}(r:KV kvs vs)(k:κ)(m:W5 y u):KV (Ep kvs k y) (stored vs k u):=by
 unfold Ep stored;rw[r.any k];by_cases e:(vs.any λa=>decide (a.1=k))=true
 .rw[AF e,AF e];exact r.repl k m
 .rw[AJ e,AJ e];exact Paired.snoc r ⟨rfl,m⟩
theorem KV.length{kvs:Z (κ×V)}{vs:Z (κ×A1)}(r:KV kvs vs):kvs.length=vs.length:=HJ r
end
variable{r:A1}
theorem OT{k:U0}(r:W5 (kV k) u):(U4 P w).is k u=true:=by
 cases k with
 | inl i=>obtain⟨t,e⟩:=(show ∃ t,u=Value.int i t from r);subst e;exact Bc P w i t
 | inr x=>obtain⟨t,e⟩:=(show ∃ t,u=Value.str x t from r);subst e;exact By P w x t
theorem Px:∀ {ks:Z U0} {us:Z A1},Yl (ks.map kV) us->ItemsAre (U4 P w) ks us
 | [],_,r=>by rw[map_nil] at r;cases r;exact .nil
 | k::ks,_,r=>by
  rw[BM] at r;cases r with
  | cons h t=>exact .cons (OT h) (Px t)
abbrev KT(H:Hp):Z (Z U0×V)->Z (Z U0×A2×A1)->Prop:=Paired λp q=>p.1=q.1/\H q.2.1=some (.tup (p.1.map kV))/\W5 p.2 q.2.2
theorem KT.val(r:KT H kvs xs)(k:Z U0):Dy (Rz kvs k) ((atKey xs k).map (·.2)):=by
 induction r with
 | nil=>exact DN
 | @cons p q ps qs h t ih =>
  obtain⟨h1,_,h2⟩:=h;by_cases e:p.1=k
  .have e':q.1=k:=h1.symm.trans e
   have b:atKey (q::qs) k=some q.2:=by simp[atKey,FZ,e']
   rw[D9 e,b];exact h2
  .have e':¬ q.1=k:=λz=>e (h1.trans z)
   have b:atKey (q::qs) k=atKey qs k:=by simp[atKey,FZ,e']
   rw[Gh e,b];exact ih
theorem KT.repl(r:KT H kvs xs)(k:Z U0)(m:W5 y u) :
  KT H (kvs.map λa=>if a.1=k then(a.1,y) else a) (xs.map (putAt k u)):=by
 induction r with
 | nil=>exact .nil
 | @cons p q ps qs h t ih =>
  rw[BM,BM];refine .cons ?_ ih;obtain⟨h1,h2,h3⟩:=h;unfold putAt;by_cases e:p.1=k
  .rw[AF e,AF (h1.symm.trans e)];exact⟨h1,h2,m⟩
  .rw[AJ e,AJ (λz=>e (h1.trans z))];exact⟨h1,h2,h3⟩
theorem KT.put(r:KT H kvs xs)(k:Z U0){b:A2}(hb:H b=some (.tup (k.map kV)))(m:W5 y u) :
  KT H (Ep kvs k y) (storedH xs k b u):=by
 have e:(kvs.any λa=>decide (a.1=k))=(atKey xs k).isSome:=by
  rw[Hq,(r.val k).isSome_eq,Option.isSome_map]
 unfold Ep storedH;rw[e];by_cases q:(atKey xs k).isSome=true
 .rw[AF q,AF q];exact r.repl k m
 .rw[AJ q,AJ q];exact Paired.snoc r ⟨rfl,hb,m⟩
theorem KT.keeps(r:KT H kvs xs)(ht:∀ b ys,H b=some (.tup ys)->H' b=some (.tup ys)):KT H' kvs xs :=
 Paired.mapP r λ_ _ z=>⟨z.1,ht _ _ z.2.1,z.2.2⟩
section
variable{a:A2}
theorem XQ{u:HO}(ok:D8 P w H h)(e:Rd H a u):V9 P w H h a u:=e.ok ok
theorem OV{kvs:Z (U0×V)}(ok:D8 P w H h)(e:Rd H a (.dK kvs)):kvs.length<=sizeLine/\(a==sysModules)=false/\∃ vs,KV kvs vs/\h.DictOf (U4 P w) a vs :=
 show V9 P w H h a (.dK kvs) from XQ ok e
theorem ZE{kvs:Z (U0×V)}(ok:D8 P w H h)(e:H a=some (.dK kvs)):kvs.length<=sizeLine/\(a==sysModules)=false/\∃ vs,KV kvs vs/\h.DictOf (U4 P w) a vs:=OV ok (.inl e)
theorem Nx{ks:Z U0}(ok:D8 P w H h)(e:H a=some (.tup (ks.map kV))):(tupleKind (U4 P w)).is h ks a:=by
 obtain⟨_,its,r,o,h1,h2,n,h3⟩:=(show V9 P w H h a (.tup (ks.map kV)) from ok a _ e);exact⟨o,its.toArray,n,h1,h2,h3,by simpa using Px r⟩
theorem OM(ok:D8 P w H h)(e:Rd H a (.dT kvs)):kvs.length<=sizeLine/\(a==sysModules)=false /\
  ∃ xs,KT H kvs xs/\h.DictOfH (tupleKind (U4 P w)) a xs:=by
 obtain⟨z,y,xs,r,o,es,j,h1,h2,h3,h4,h5⟩:=(show V9 P w H h a (.dT kvs) from XQ ok e);refine⟨z,y,xs,r,o,es,j,h1,h2,h3,h4,λx hx=>?_,h5⟩;have all:∀ {l:Z (Z U0×V)} {m:Z (Z U0×A2×A1)},KT H l m->∀ x∈m,(tupleKind (U4 P w)).is h x.1 x.2.1:=by
  intro l m q;induction q with
  | nil=>intro x hx;exact nomatch hx
  | @cons p q ps qs B t ih =>
   intro x hx;rcases BN.mp hx with e | hx
   .subst e
    exact Nx ok (by rw[<- B.1];exact B.2.1)
   .exact ih x hx
 exact all r x hx
theorem TD(ok:D8 P w H h)(e:H a=some (.dT kvs)):kvs.length<=sizeLine/\(a==sysModules)=false /\
 ∃ xs,KT H kvs xs/\h.DictOfH (tupleKind (U4 P w)) a xs:=OM ok (.inl e)
end
variable{kvs:Z (U0×V)}
def K0(H:Hp)(a:A2)(y:V)(r:Cc V):Prop :=
 (∃ kvs k,Rd H a (.dK kvs)/\y=kV k/\r=Rz kvs k)\/∃ kvs k b,Rd H a (.dT kvs)/\y=.ref b/\H b=some (.tup (k.map kV))/\r=Rz kvs k
def Bb(H:Hp)(a:A2)(y v:V)(H':Hp):Prop :=
 (∃ kvs k,H a=some (.dK kvs)/\y=kV k/\kvs.length<sizeLine/\H'=Wq H a (.dK (Ep kvs k v))) \/
 ∃ kvs k b,H a=some (.dT kvs)/\y=.ref b/\H b=some (.tup (k.map kV))/\kvs.length<sizeLine/\H'=Wq H a (.dT (Ep kvs k v))
theorem K0.k{a:A2}{k:U0}(e:H a=some (.dK kvs)):K0 H a (kV k) (Rz kvs k):=.inl ⟨kvs,k,.inl e,rfl,rfl⟩
theorem K0.t{a b:A2}{kvs:Z (Z U0×V)}{k:Z U0}(e:H a=some (.dT kvs))(T:H b=some (.tup (k.map kV))):K0 H a (.ref b) (Rz kvs k):=.inr ⟨kvs,k,b,.inl e,rfl,T,rfl⟩
theorem Bb.k{a:A2}{k:U0}(e:H a=some (.dK kvs))(hl:kvs.length<sizeLine):Bb H a (kV k) v (Wq H a (.dK (Ep kvs k v))):=.inl ⟨kvs,k,e,rfl,hl,rfl⟩
theorem Bb.t{a b:A2}{kvs:Z (Z U0×V)}{k:Z U0}(e:H a=some (.dT kvs))(T:H b=some (.tup (k.map kV)))(hl:kvs.length<sizeLine) :
 Bb H a (.ref b) v (Wq H a (.dT (Ep kvs k v))):=.inr ⟨kvs,k,b,e,rfl,T,hl,rfl⟩
section
variable{a:A2}{o:Cc V}
theorem D'.big(I:D' X aa σ H s):sysModules<s.heap.objs.size:=by
 have h:mainGlobals<s.heap.objs.size:=(I.mod.glob.keeps I.bk).lt;exact Nat.lt_trans (by decide) h
theorem bO(hu:A.units+1<cLine)(I:D' X aa σ H s)(g:K0 H a y (some v))(m:W5 y u)(h:∀ B s',D' X aa σ H s'->W5 v B->Q B s') :
  wpAny (model X.prog X.w) A (getItem (.ref a) u) Q E s:=by
 rcases g with⟨kvs,k,e,C,l⟩ | ⟨kvs,k,b,e,C,T,l⟩
 .subst C
  obtain⟨z,hd,vs,d,dd⟩:=OV I.hok e;obtain⟨B,hw,c⟩:=Dy.some_of (v:=v) (o:=valueAt vs k) (by rw[l];exact d.val k);exact wpAny_getItem_of (OT m) dd.mapOf hw (h B _ (I.tok _) c)
 .subst C
  cases (show u=Value.ref b from m);obtain⟨z,hd,xs,d,dd⟩:=OM I.hok e;obtain⟨B,hw,c⟩:=Dy.some_of (v:=v) (o:=(atKey xs k).map (·.2)) (by rw[l];exact d.val k);obtain⟨p,F,aH⟩:=Option.map_eq_some_iff.mp hw;refine wpAny_getItem_heap (HF hu) (Nx I.hok T) dd F ?_;rw[aH];exact h B _ (I.tok _) c
theorem dN(hu:A.units+1<cLine)(I:D' X aa σ H s)(g:K0 H a y o)(m:W5 y u)(h:∀ s',D' X aa σ H s'->Q (.bool (!o.isSome)) s') :
  wpAny (model X.prog X.w) A (compareOp .NotIn u (.ref a)) Q E s:=by
 rcases g with⟨kvs,k,e,C,l⟩ | ⟨kvs,k,b,e,C,T,l⟩
 .subst C
  obtain⟨z,hd,vs,d,dd⟩:=OV I.hok e;refine wpAny_notIn_of (OT m) hd dd.mapOf ?_;rw[<- (d.val k).isSome_eq,<- l];exact h _ (I.tok _)
 .subst C
  cases (show u=Value.ref b from m);obtain⟨z,hd,xs,d,dd⟩:=OM I.hok e;refine wpAny_notIn_heap (HF hu) (Nx I.hok T) hd dd ?_;have q:=(d.val k).isSome_eq;rw[Option.isSome_map] at q;rw[<- q,<- l];exact h _ (I.tok _)
theorem Fx{t':Nat}{ob:HO}(I:D' X aa σ H s)(mu:NG (H a))(hs:SameBut a s.heap h')(he:∃ q,h'.get? a=some q)(new:V9 X.prog X.w (Wq H a ob) h' a ob) :
  D' X aa σ (Wq H a ob) { s with heap:=h',toks:=t' } :=
 I.write (x:=a) (e:=a) mu (.inl rfl) (λb q hb z=>(hs.2 b hb).trans z) he new
theorem YQ{vs:Z (U0×A1)}(z:kvs.length<=sizeLine)(hd:(a==sysModules)=false)(d:KV kvs vs)(dd:h'.DictOf (U4 P w) a vs) :
 V9 P w H' h' a (.dK kvs):=⟨z,hd,vs,d,dd⟩
theorem YY{Q:Unit->A4->Prop}(hu:A.units+1<cLine)(I:D' X aa σ H s)(g:Bb H a y v H')(m:W5 y u)(rv:W5 v r)(h:∀ s',D' X aa σ H' s'->Q () s') :
  wpAny (model X.prog X.w) A (setItem (.ref a) u r) Q E s:=by
 rcases g with⟨kvs,k,e,C,l,i⟩ | ⟨kvs,k,b,e,C,T,l,i⟩
 .subst C i
  obtain⟨z,hd,vs,d,dd⟩:=ZE I.hok e;have hz:vs.length<=sizeLine:=by rw[<- d.length];exact z
  have hl:(Ep kvs k v).length<=sizeLine:=by have:=K9 kvs k v;lia
  refine wpAny_setItem_pairs (hsz:=hz) (OT m) dd λh' f hs=>h _ ?_
  have he:∃ q,h'.get? a=some q:=let ⟨q,_,_,B,_⟩:=f;⟨q,B⟩
  exact Fx I (by rw[e];exact DN) hs he (YQ hl hd (d.put k rv) f)
 .subst C i
  cases (show u=Value.ref b from m);obtain⟨z,hd,xs,d,dd⟩:=TD I.hok e;have hz:xs.length<=sizeLine:=by rw[<- HJ d];exact z
  have hl:(Ep kvs k v).length<=sizeLine:=by have:=K9 kvs k v;lia
  refine wpAny_setItem_heap (hsz:=hz) (HF hu) (Nx I.hok T) dd λh' f hs=>h _ ?_
  obtain⟨q,es,j,B,h2,h3,h4,_,h5⟩:=f;refine Fx I (by rw[e];exact DN) hs ⟨q,B⟩ ⟨hl,hd,_,(d.put k T rv).keeps λc ys ec=>?_,q,es,j,B,h2,h3,h4,h5⟩;rw[Zp (XC ec e (λz=>nomatch z))];exact ec
end
section
variable{a:A2}{k:U0}
end
def PY(i:Cs):Prop:=∀ d b,subscripted i false d b=operate [d,b] (getItem d b)
theorem YU{slice:Cs}{T id:String} 
   (hl:typeLookup (.type T) "__getitem__" = pure (some (.builtin id))) (hs:PY slice)
   (h:wpAny (model prog w) A (eval aq env) (λo s₁=>wpAny (model prog w) A (eval slice env) (λi s₂=>s₂.TypeIs o T/\wpAny (model prog w) A (getItem o i) Q E s₂) E s₁) E s) :
   wpAny (model prog w) A (eval (.Subscript aq slice pos) env) Q E s:=by
 refine Subscript_ (CJ h (λo s₁ h₁=>CJ h₁ (λi s₂ h₂=>?_) λ_ _ x=>x) λ_ _ x=>x);obtain⟨j,h₂⟩:=h₂;unfold subscriptTail;refine AA ?_;rw[getitemInPython_of_ne j.not_modules];refine AA (wpAny_specialOf j hl ?_);have M:wpAny (model prog w) A (subscripted slice false o i) (λr s₃=>wpAny (model prog w) A (letTemporaryGo aq o r >>= λ_=>pure r) Q E s₃) E s₂:=by
   rw[hs o i];exact wpAny_operating (CJ h₂ (λr s₃ h₃=>AA (wpAny_letTemporaryGo (AG h₃))) λ_ _ x=>x)
 first
   | exact AG (AA M)
   | exact AA (AG (AA M))
   | exact AA M
theorem C0{a:A2}{o:Cc V}(I:D' X aa σ H s)(g:K0 H a y o):s.TypeIs (.ref a) "dict" := by
 rcases g with⟨kvs,k,e,_,_⟩ | ⟨kvs,k,b,e,_,_,_⟩
 .obtain⟨_,_,vs,_,dd⟩:=OV I.hok e
  exact dd.typeIs
 .obtain⟨_,_,xs,_,dd⟩:=OM I.hok e
  exact dd.typeIs
def ZI(td ty:TE):TE:=λσ H Q=>td σ H λx H1=>ty σ H1 λy H2=>∃ a v,x=.ref a/\K0 H2 a y (some v)/\Q v H2
def e6(ty td:TE):TE:=λσ H Q=>ty σ H λy H1=>td σ H1 λx H2=>∃ a o,x=.ref a/\K0 H2 a y o/\Q (.bl (!o.isSome)) H2
def eH(td ty tv:TE):TS:=λD σ H=>tv σ H λv H1=>td σ H1 λx H2=>ty σ H2 λy H3=>∃ a H4,x=.ref a/\Bb H3 a y v H4/\D.nx σ H4
section
variable{o i:Cs}
theorem XJ(hu:X.A.units+1<cLine)(J:PE X o td)(hi:PE X i ty)(hs:PY i):PE X (.Subscript o i pos) (ZI td ty):=by
 intro aa s σ H Q I h;refine YU PySem.F.slot_dict_getitem.lookup hs (Vy (J aa s σ H _ I h) λu s1 ⟨x,H1,G,rx,q1⟩=>Vy (hi aa s1 σ H1 _ G q1) λb s2 ⟨y,H2,I2,m,a,v,ex,g,q2⟩=>?_);subst ex;obtain rfl:u=Value.ref a:=rx;exact⟨C0 I2 g,bO hu I2 g m λB P t c=>⟨v,H2,t,c,q2⟩⟩
theorem Pw(hu:X.A.units+1<cLine)(hi:PE X i ty)(J:PE X o td):PC X .NotIn i o (e6 ty td):=by
 intro aa s σ H Q I h;refine Vy (hi aa s σ H _ I h) λb s1 ⟨y,H1,G,m,q1⟩=>Vy (J aa s1 σ H1 _ G q1) λu s2 ⟨x,H2,I2,rx,a,d,ex,g,q2⟩=>?_
 subst ex;obtain rfl:u=Value.ref a:=rx;exact dN hu I2 g m λP t=>⟨.bl (!d.isSome),H2,t,rfl,q2⟩
theorem TB(hu:X.A.units+1<cLine)(J:PE X o td)(hi:PE X i ty)(hv:PE X aq tv)(hs:swapsWith aq (some (.Subscript o i au)) pos.line X.env=pure false) :
  PS X (.Assign [.Subscript o i au] aq pos) (eH td ty tv):=by
 intro aa s σ H D I h;refine wpAny_Assign_Subscript (Vy (hv aa s σ H _ I h) λr s1 ⟨v,H1,G,rv,q1⟩=>Vy (J aa s1 σ H1 _ G q1) λu s2 ⟨x,H2,I2,rx,q2⟩=>Vy (hi aa s2 σ H2 _ I2 q2) λb P ⟨y,H3,t,m,a,H4,ex,g,q3⟩=>?_) hs;subst ex;obtain rfl:u=Value.ref a:=rx;exact YY hu t g m rv λs4 I4=>⟨σ,H4,I4,q3⟩
end
theorem fu(h:Ff)(hb:sysModules<h.objs.size):V9 P w H (h.push { cls:=.type "dict",data:=.dict #[] }) h.objs.size (.dK []) :=
 ⟨DH _,BP.mpr (BW (BZ hb)),[],.nil,Heap.DictOf.new h⟩
theorem gA(h:Ff)(hb:sysModules<h.objs.size):V9 P w H (h.push { cls:=.type "dict",data:=.dict #[] }) h.objs.size (.dT []) :=
 ⟨DH _,BP.mpr (BW (BZ hb)),[],.nil,_,#[],0,AW _ rfl,⟨rfl,rfl,rfl⟩,rfl,rfl,CV⟩
def fw:TE:=λ_ H Q=>∀ p,H p=none->Q (.ref p) (Wq H p (.dK []))
theorem iX:PE X (.Dict [] [] pos) fw:=λaa s σ H Q I h =>
 wpAny_Dict_empty ⟨.ref s.heap.objs.size,_,I.laid (a:=s.heap.objs.size) (o:=.dK []) (t':=s.toks) (λ_ _ q=>AD _ q) (AT _) (fu s.heap I.big),rfl,h _ (I.hok.fresh (AT _))⟩
section
variable{a:A2}{d:V}{o:Cc V}
end
section
variable{o f:Cs}{tx:TE}
end
section
variable{a:A2}
end
section
variable{a:A2}
end
end L2
variable{P:Z α->Prop}{f:PySem.Value->PySem.Value->PySem.Sem PySem.Value}{t:L2.TA}{g:Int->Int->L2.V}{aC:PySem.Pos}{xs:Z L2.V}
namespace Att
open PySem PySem.W PySem.Calls PyProof.Rows
section
variable{K:Frag}
end
end Att
namespace L2
open PySem PySem.Spec PyProof.Rows
section
variable{P:D1}
end
section
variable{κ:Type}[DecidableEq κ]
end
def SF(H:Hp)(c:Cc A1):Prop:=c=some .none\/∃ e2 o2 l,c=some (.ref e2)/\H e2=some (.frz o2 (.own 0))/\o2.data=.fields l/\l[2]?=some .none
def RB(A:B2)(fs:Z A2)(H:Hp)(h:Ff):Prop:=A.handled=none\/∃ e f d,A.handled=some (.ref e)/\h.get? e=some f/\f.data=.fields d/\SF H d[2]?/\((H e=none/\e∉fs)\/∃ u,H e=some (.frz f u))
def MD(X:Cx):Prop:=RB X.A X.fs X.H₀ X.s₀.heap/\X.ex=[]
theorem im{P:D1}{fs:Z A2}(k:RB A fs H h)(hx:∀ e o,h.get? e=some o->H e=none->A.handled=some (.ref e)->e∉ex)(u:Un fs ex H H' h h')(ok:D8 P w H' h'):UK A h' :=
 k.imp id λ⟨e,f,d,h1,h2,h3,h4,h5⟩=>⟨e,h1,f,d,h5.elim (λ⟨z1,z2⟩=>u.keep e f h2 z1 z2 (hx e f h2 z1 h1)) (λ⟨v,z⟩=>(show V9 P w H' h' e (.frz f v) from ok e _ (u.frzs e f v z)).1),h3,h4.imp id λ⟨e2,o2,l,y1,y2,y3⟩=>⟨e2,o2,l,y1,(show V9 P w H' h' e2 (.frz o2 (.own 0)) from ok e2 _ (u.frzs e2 o2 _ y2)).1,y3⟩⟩
section
variable{k:Nat}{f C:A2}{E:XK}{x m:Str}{o:Cs}
end
section
variable{C:A2}
theorem Er(I:D' X aa σ H s)(F:X.env.scope=ao)(S:CompOk ao sc X.N N fs):∀ y∈sc.names,y.2=.free->∃ c,X.env.cells.lookup y.1=some c:=λy hy e=>by
 refine I.ok.has y.1 ?_;have:=S.par y hy e;rw[<- F] at this;exact this
theorem M3(I:D' X aa σ H s)(F:X.env.scope=ao)(S:CompOk ao sc X.N N fs):∀ x c,(K7 X.env.cells sc.names []).lookup x=some c->X.env.cells.lookup x=some c :=
 Kh sc.names [] (Er I F S) λx c e=>by simp at e
theorem YV(I:D' X aa σ H s)(F:X.env.scope=ao)(S:CompOk ao sc X.N N fs)(hf:∀ b∈fp,Ro X aa H b)(P:∀ b∈fp,b<s.heap.objs.size)(hC:s.heap.objs.size<=C):(Wl X sc N C s H fp).Ok where
 mod:=I.ok.mod
 kind:=S.kind
 glob:=I.ok.glob
 blt:=I.ok.blt
 above:=hC
 inj:=λx y c h1 h2=>I.ok.inj x y c (M3 I F S x c h1) (M3 I F S y c h2)
 has:=λx hx=>by
  have hm:(x,NameKind.free)∈sc.names:=by
   rcases hx with hx | hx
   .exact E7 S.nocell hx (.inl rfl)
   .exact E7 S.nocell hx (.inr rfl)
  exact EI.mp (Nk sc.names [] x (.inl hm))
 cab:=λx c h _=>by cases h
 hd:=I.ok.hd
 frames:=I.ok.frames
 stk:=.inl rfl
 exf:=λb hb=>⟨BZ (AV (P b hb) hC),λx c e=>(hf b hb).2.2.2.2.1 x c (M3 I F S x c e)⟩
 bs:=I.bs
 bsz:=BI I.ok.bsz I.sz
 noex:=λb o e hb=>by
  rcases(hf b hb).2.2.2.1 with z | z
  .exact I.ok.noex b o e z
  .exact absurd (AV (BE e) (BI I.ok.bsz z)) (ED _)
 exfs:=λb hb hs=>by
  rcases BN.mp (I.stkSub b hs) with z | z
  .exact(hf b hb).2.1 z
  .exact(hf b hb).2.2.1 z
 funs:=I.stack
 frf:=I.stkFree
def Uo(fs:Z (Cc Nat))(σ:St):St:=fs.map λo=>match o with | none=>none | some j=>(σ[j]?).getD none
theorem iA{h₁:Ff}{D:A2}{B:Obj}{m₁:JG}(I:D' X aa σ H s)(F:X.env.scope=ao)(S:CompOk ao sc X.N N fs)(hf:∀ b∈fp,Ro X aa H b)(P:∀ b∈fp,b<s.heap.objs.size)(hC:s.heap.objs.size<=C)
  (f:∀ b o,s.heap.get? b=some o->h₁.get? b=some o) (hn:h₁.Ns C m₁) (R:h₁.get? D=some B) (d:s.heap.objs.size<=D) (ah:D≠C) (A:∀ v,B.data≠.cell v) :
  D' (Wl X sc N C s H fp) [(D,B)] (Uo fs σ) H { s with heap:=h₁,toks:=tk }:=by
 refine⟨YV I F S hf P hC,rfl,I.bare,Un.kept f,⟨m₁,hn,λi x v e1 e2 e3=>?_⟩,λx c e=>?_,I.hok.fresh hC,λx c e=>I.freeC x c (M3 I F S x c e),λp G=>?_,I.hok.kept f,?_⟩
 .unfold Uo at e2
  rw[AQ] at e2;cases h:fs[i]? with
  | none=>rw[h] at e2;cases e2
  | some o =>
   rw[h] at e2;cases o with
   | none=>simp at e2
   | some j =>
    simp only[Option.map_some,Option.some.injEq] at e2;obtain⟨M,ex,ej,n⟩:=S.frees i j h;have:M=x:=by
     have q:N[i]?=some x:=e1;rw[ex] at q;exact BK q
    subst this;have y:σ[j]?=some (some v):=by
     cases q:σ[j]? with
     | none=>rw[q] at e2;simp at e2
     | some z=>rw[q] at e2;simp at e2;rw[e2]
    have kk:X.env.scope.names.lookup M=some .cell\/X.env.scope.names.lookup M=some .free:=by
     rw[F];exact S.par (M,.free) (CU n) rfl
    obtain⟨m,hm,hl⟩:=I.loc;obtain⟨u,r,l⟩:=hl j M v ej y (by
     rcases kk with k | k
     .exact .inr (.inl k)
     .exact .inr (.inr k))
    refine⟨u,r,.inr ⟨Xm n,?_⟩⟩;rcases l with⟨k,_⟩ | ⟨_,c,hc,a⟩
    .have E:X.env.scope.names.lookup M=some .local:=k
     rcases kk with z | z<;>rw[z] at E<;>cases E
    .obtain⟨g,t⟩:=EI.mp (Nk (cells:=X.env.cells) sc.names [] M (.inl (CU n)))
     have:=M3 I F S M g t;rw[hc] at this;cases this;obtain⟨oc,J,hd⟩:=a;exact⟨c,t,oc,f _ _ J,hd⟩
 .obtain⟨v,oc,J,hd⟩:=I.cell x c (M3 I F S x c e)
  exact⟨v,oc,f _ _ J,hd⟩
 .have w:p=(D,B):=by
   rcases BH.mp G with z | z
   .exact absurd (show p∈([]:I3) from z) (by simp)
   .simpa using z
  subst w;refine⟨R,I.hok.fresh d,ah,λhs=>?_,A⟩;have hb:D∈X.env.locals::X.fs:=I.stkSub D hs;rcases BN.mp hb with z | z
  .exact absurd (AV I.lt (by rw[<- z];exact d)) (ED _)
  .exact I.nofs d z
 .show(Uo fs σ).length=N.length
  unfold Uo;rw[AB,S.len]
theorem D8.adopt{P:D1}{D:A2}(ok:D8 P w H h)(R:H D=none)(J:h.get? D=some { cls:=.type "list",data:=.seq its.toArray n })(r:Yl ys its)(hz:ys.length<=sizeLine) :
  D8 P w (Wq H D (.lst ys)) h:=λb u e=>by
 by_cases hb:b=D
 .subst hb
  rw[Y5] at e;cases e;exact⟨hz,its,n,r,J⟩
 .rw[Zp hb] at e
  refine(ok b u e).stay (λc v _ q=>q) (λc q=>?_) λc xs q=>?_
  .rw[Zp (Ym q R)];exact q
  .rw[Zp (Ym q R)];exact q
theorem Un.adopt{fs:Z A2}{D:A2}{o:HO}(u:Un fs ex H H' h h')(R:h.objs.size<=D)(hn:H' D=none):Un fs ex H (Wq H' D o) h h' where
 keep:=u.keep
 slot:=u.slot
 free:=λb ob q n hx=>by rw[Zp (BZ (AV (BE q) R))];exact u.free b ob q n hx
 there:=u.there
 tups:=λb xs q=>by rw[Zp (Ym (u.tups b xs q) hn)];exact u.tups b xs q
 frzs:=λb ob x q=>by rw[Zp (Ym (u.frzs b ob x q) hn)];exact u.frzs b ob x q
 tbls:=λb ps q=>by
  obtain⟨a,e⟩:=u.tbls b ps q;exact⟨a,by rw[Zp (Ym e hn)];exact e⟩
def LF(Y:Cx)(ay:Z Cs)(tt:TT):Prop :=
 ∀ (aa:I3) (s:A4) (σ:St) (H:Hp) (Q:Bool->Hp->Prop),D' Y aa σ H s->tt σ H Q ->
  wpAny (model Y.prog Y.w) Y.A (forIn ay true λc r=>if r=true then do let ok <- isTrue c Y.env (eval c Y.env);pure (ForInStep.yield ok) else pure (ForInStep.yield r)) (TP Y aa σ Q) Y.xe s
def eD:TT:=λ_ H Q=>Q true H
theorem iV{Y:Cx}:LF Y [] eD:=λ_ _ _ H _ I h=>wpAny_tests_nil ⟨H,I,h⟩
theorem fA{Y:Cx}(h:PT Y c tc):LF Y [c] tc:=λaa s σ H Q I q=>wpAny_tests_one (h aa s σ H Q I q)
def O'(σ σ2:St):Prop:=σ.length=σ2.length/\∀ (i:Nat) v,σ[i]?=some (some v)->σ2[i]?=some (some v)
def UI(wi:TI)(fs:Z (Cc Nat))(g:TG)(tt:TT)(te:TE):TE:=λσ H Q=>wi σ H λJ H1=>∃ W:Nat->Nat->Z V->Hp->Prop,(∃ m,W 0 m [] H1)/\∀ i m ys H,W i m ys H ->
 (J.stop i H/\ys.length<=sizeLine/\∀ p,H p=none->Q (.ref p) (Wq H p (.lst ys))) \/
 (J.go i H/\ys.length<=sizeLine/\∃ N:Z V->Hp->Prop,(∀ ac H',N ac H'->∃ m',m'<m/\W (i+1) m' ac H')/\∀ x H',J.yld i H x H'->g x (Uo fs σ) H' λσ2 H2=>O' (Uo fs σ) σ2 /\
  tt σ2 H2 λb H3=>if b=true then te σ2 H3 λv H4=>N (ys++[v]) H4 else N ys H3)
theorem MD.k(k:MD X)(I:D' X aa σ H s):RB X.A (KG X.stack) H s.heap:=k.1.imp id λM=>by
 obtain⟨e,f,d,h1,h2,h3,h4,h5⟩:=M;have g:SF H d[2]?:=h4.imp id λ⟨e2,o2,l,a,b,c⟩=>⟨e2,o2,l,a,I.base.frzs _ _ _ b,c⟩
 have hx:e∉X.ex:=by rw[k.2];simp
 rcases h5 with⟨z1,z2⟩ | ⟨u,z⟩
 .refine⟨e,f,d,h1,I.base.keep e f h2 z1 z2 hx,h3,g,.inl ⟨I.base.free e f h2 z1 hx,λz=>?_⟩⟩
  rcases BN.mp (I.stkSub e z) with y | y
  .exact absurd (BE h2) (by rw[y];exact not_lt.mpr I.ok.above)
  .exact z2 y
 .have z':=I.base.frzs e f u z
  exact⟨e,f,d,h1,(show V9 X.prog X.w H s.heap e (.frz f u) from I.hok e _ z').1,h3,g,.inr ⟨u,z'⟩⟩
theorem MD.comp(k:MD X)(I:D' X aa σ H s)(hf:∀ b∈fp,Ro X aa H b):MH (Wl X sc N C s H fp):=λa σ' H' s' c=>im (k.k I) (λe o q n M hm=>by
 have M:X.A.handled=some (.ref e):=M;have hm:e∈fp:=hm;rcases k.1 with z | ⟨e',f,d,h1,h2,_⟩
 .rw[z] at M;cases M
 .rw[h1] at M;cases M
  rcases(hf _ hm).2.2.2.1 with y | y
  .rw[k.2] at y;simp at y
  .exact absurd (BE h2) (not_lt.mpr y)) c.base c.hok
theorem Ar{tn:Nat->Ff->Prop}{J:It}{g:TG}{RR:A1->A2->Result->A4->Prop}
  (F:X.env.scope=ao) (S:CompOk ao sc X.N N fs) (hc:X.calm=true\/(bb=true/\MD X))
  (hb:∀ (C:A2) (s:A4) (H:Hp) (fp:Z A2),PG (Wl X sc N C s H fp) tg g/\LF (Wl X sc N C s H fp) ay tt/\PE (Wl X sc N C s H fp) aA te)
  (I:D' X aa σ H s) (T:JN bb X.prog X.w X.K tg J fp it tn) (st:tn 0 s.heap) (hf:∀ b∈fp,Ro X aa H b) {Q:VK}
  (hW:∃ W:Nat->Nat->Z V->Hp->Prop,(∃ m,W 0 m [] H)/\∀ i m ys H,W i m ys H ->
   (J.stop i H/\ys.length<=sizeLine/\∀ p,H p=none->Q (.ref p) (Wq H p (.lst ys))) \/
   (J.go i H/\ys.length<=sizeLine/\∃ N:Z V->Hp->Prop,(∀ ac H',N ac H'->∃ m',m'<m/\W (i+1) m' ac H')/\∀ x H',J.yld i H x H'->g x (Uo fs σ) H' λσ2 H2=>O' (Uo fs σ) σ2 /\
    tt σ2 H2 λb H3=>if b=true then te σ2 H3 λv H4=>N (ys++[v]) H4 else N ys H3))
  (aI:∀ (D C:A2) (s':A4) (H':Hp),(∃ m,s'.heap.Ns C m)->D' X aa σ H' s'->Ro X aa H' C->Q (.ref D) H'->RR (.ref D) C (.ok .next) s') :
  wpAny (model X.prog X.w) X.A (newList []) (λj s₃=>wpAny (model X.prog X.w) X.A (newFunctionEnv sc X.env.globals (K7 X.env.cells sc.names []) [] X.env.qual none .none (some X.env)) (λap s₄ =>
   codeAny (model X.prog X.w) X.A (.compStart (.ListComp aA [⟨tg,iter,ay,0⟩] sc pos) 0 (.ref it) j { ap with scope:=relabel sc X.env }) (RR j ap.locals) s₄) E s₃) E s:=by
 refine CT (wpAny_newFunctionEnv S.nocell (by intro y hy;simp at hy) (λh₁ hns₁ hsb₁=>?_) S.kind);dsimp only at hns₁ hsb₁ ⊢;generalize ai:s.heap.push { cls:=.type "list",dict:=none,data:=.seq ([]:Z A1).toArray }=G2 at hns₁ hsb₁ ⊢;have hC:G2.objs.size=s.heap.objs.size+1:=by rw[<- ai,EE]
 have ah:s.heap.objs.size≠G2.objs.size:=by rw[hC];exact BZ (FP _)
 have aq:s.heap.objs.size<=G2.objs.size:=by rw[hC];exact FG _
 have h:∀ b,b<s.heap.objs.size->b≠G2.objs.size/\b≠s.heap.objs.size:=λb hb=>⟨by rw[hC];exact BZ (Nat.lt_succ_of_lt hb),BZ hb⟩
 have P:∀ b∈fp,b<s.heap.objs.size:=λb hb=>by
  obtain⟨o,e,_⟩:=T.obj _ _ st b hb;exact BE e
 have f:∀ b o,s.heap.get? b=some o->h₁.get? b=some o:=λb o e=>hsb₁.extBut b o (h b (BE e)).1 (AD _ (ai▸AD _ e))
 have ax:h₁.get? s.heap.objs.size=some { cls:=.type "list",data:=.seq ([]:Z A1).toArray 0 }:=hsb₁.extBut _ _ ah (AD _ (ai▸AW _ rfl));have az:tn 0 h₁:=T.keep _ _ _ st λb _ o e=>f b o e
 obtain⟨W,⟨m0,w0⟩,l⟩:=hW;obtain⟨pg,aB,pe⟩:=hb G2.objs.size s H fp;generalize t:Wl X sc N G2.objs.size s H fp=Y at pg aB pe;have Ye:Y.env=compEnvC sc (K7 X.env.cells sc.names []) G2.objs.size X.env:=by rw[<- t];rfl
 have YA:Y.A=X.A:=by rw[<- t];rfl
 have Yp:Y.prog=X.prog:=by rw[<- t];rfl
 have Yw:Y.w=X.w:=by rw[<- t];rfl
 have YK:Y.K=X.K:=by rw[<- t];rfl
 have Yx:Y.xe=λ_ _=>False:=by rw[<- t];rfl
 have Yc:Cm bb Y:=by
  rw[<- t];rcases hc with hc | ⟨hb,B⟩
  .cases bb with
   | false=>exact hc
   | true=>exact MH.calm hc
  .subst hb
   exact B.comp I hf
 have aw:∀ x c,X.env.cells.lookup x=some c->c<s.heap.objs.size:=λx c e=>by
  obtain⟨v,q⟩:=I.cell x c e;exact q.lt
 have aj:∀ s₃:A4,s₃={ s with heap:=h₁,toks:=s.toks+([]:Z (Str×A1)).length } ->
   codeAny (model X.prog X.w) X.A (.compLoop (.ListComp aA [⟨tg,iter,ay,0⟩] sc pos) 0 (.ref it) (.ref s.heap.objs.size) (compEnvC sc (K7 X.env.cells sc.names []) G2.objs.size X.env)) (RR (.ref s.heap.objs.size) G2.objs.size) s₃:=by
  rintro s₃ rfl;refine Ax (λn s'=>∃ (i:Nat) (H':Hp) (ys:Z V) (its:Z A1) (k:Nat),Yl ys its/\D' Y [(s.heap.objs.size,{ cls:=.type "list",data:=.seq its.toArray k })] (Uo fs σ) H' s'/\tn i s'.heap/\(∀ b∈fp,H' b=none)/\W i n ys H') ?_ m0
   ⟨0,H,[],[],0,.nil,t▸iA (D:=s.heap.objs.size) I F S hf P aq f hns₁ ax (AT _) ah (λv z=>by cases z),az,λb hb=>(hf b hb).1,w0⟩
  rintro n s1 ⟨i,H1,ys,its,k,rv,G,R,aC,w1⟩;have M:∀ {H':Hp} {pl:I3},(∀ b∈fp,H' b=none)->(∀ p∈pl,p.1=s.heap.objs.size)->∀ b∈fp,Ro Y pl H' b:=λ{H' pl} hn ae b hb=>by
   rw[<- t];refine⟨hn b hb,(h b (P b hb)).1,λz=>?_,.inl hb,λx c e=>(hf b hb).2.2.2.2.1 x c (M3 I F S x c e),λp ak=>?_⟩
   .rcases BN.mp (I.stkSub b z) with z | z
    .exact(hf b hb).2.1 z
    .exact(hf b hb).2.2.1 z
   .have aD:p∈pl:=by
     rcases BH.mp ak with z | z
     .exact absurd (show p∈([]:I3) from z) (by simp)
     .exact z
    rw[ae p aD];exact BW (h b (P b hb)).2
  have one:∀ {o:Obj} (p:A2×Obj),p∈([(s.heap.objs.size,o)]:I3)->p.1=s.heap.objs.size:=λ{o} p ak=>by
   have:p=_:=AK.mp ak;rw[this]
  rcases l i n ys H1 w1 with⟨stop,hz,qn⟩ | ⟨go,hz,N',hN,step⟩
  .have:=T.done Y Yp Yw YK Yc i _ s1 _ H1 (λ_ _=>False) G (M aC one) R stop
   rw[YA] at this;refine Vy this λr s4 ⟨hr,I4⟩=>?_
   subst hr;have Ib:=I4.base;have a:=I4.pin (s.heap.objs.size,_) (BQ _ BD);obtain⟨mC,aE,_⟩:=I4.loc;have e1:Y.fs=KG X.stack:=by rw[<- t];rfl
   have e2:Y.ex=fp:=by rw[<- t];rfl
   have e3:Y.H₀=H:=by rw[<- t];rfl
   have e4:Y.s₀=s:=by rw[<- t];rfl
   have e5:Y.env.locals=G2.objs.size:=by rw[<- t];rfl
   rw[e1,e2,e3,e4] at Ib;rw[e5] at aE;have aF:D8 X.prog X.w H1 s4.heap:=by
    have:=I4.hok;rw[Yp,Yw] at this;exact this
   have freeC:H1 G2.objs.size=none:=by have:=I4.free;rw[e5] at this;exact this
   have al:Wq H1 s.heap.objs.size (.lst ys) G2.objs.size=none:=by rw[Zp (BW ah)];exact freeC
   have aJ:s4.os=s.os:=by have:=I4.os;rw[e4] at this;exact this
   refine aI _ _ s4 (Wq H1 s.heap.objs.size (.lst ys)) ⟨mC,aE⟩ ?_ (I.fpOk aq al) (qn _ a.2.1);exact I.call' (s':=s4) (ch:=fp) aJ (Ib.adopt (AT _) a.2.1) (aF.adopt a.2.1 a.1 rv hz) I4.bare λb hb=>⟨(hf b hb).2.2.2.1,(hf b hb).2.1,(hf b hb).2.2.2.2.1,(hf b hb).2.2.2.2.2⟩
  .have:=T.item Y Yp Yw YK Yc i _ s1 _ H1 (λ_ _=>False) G (M aC one) R go
   rw[YA] at this;refine Vy this λr s4 ⟨u,hr,h4⟩=>?_
   subst hr;refine Vy h4 λ_ s5 ⟨x,H5,I5,r5,y5,af,ar⟩=>?_
   have au:=I5.pinned (M ar one) (T.obj _ _ af);have a1:=pg _ s5 _ H5 x u _ au r5 (step x H5 y5);rw[YA,Yp,Yw,Yx,Ye] at a1;refine Vy a1 λ_ s6 ⟨σ6,H6,I6,ext,q6⟩=>?_
   have a2:=aB _ s6 σ6 H6 _ I6 q6;rw[YA,Yp,Yw,Yx,Ye] at a2;refine Vy a2 λb s7 ⟨H7,I7,q7⟩=>?_
   have ag:∀ {H8:Hp} {s8:A4},D' Y ([(s.heap.objs.size,({ cls:=.type "list",data:=.seq its.toArray k }:Obj))]++Li fp s5.heap) σ6 H8 s8->D' Y [(s.heap.objs.size,{ cls:=.type "list",data:=.seq its.toArray k })] (Uo fs σ) H8 s8/\tn (i+1) s8.heap/\∀ b∈fp,H8 b=none:=λ{H8 s8} I8 =>
    ⟨I8.unpinned.weak ext.1 ext.2,T.keep _ _ _ af λb hb o e=>(I8.pin (b,o) (BQ _ (BQ _ (S9 hb e)))).1,λb hb=>by
     obtain⟨o,e,d⟩:=T.obj _ _ af b hb;exact(I8.pin (b,o) (BQ _ (BQ _ (S9 hb e)))).2.1⟩
   cases b with
   | false =>
    rw[AJ BO] at q7 ⊢;obtain⟨m',hm,w7⟩:=hN _ _ q7;obtain⟨aK,aL,aM⟩:=ag I7;exact⟨m',hm,i+1,H7,ys,its,k,rv,aK,aL,aM,w7⟩
   | true =>
    rw[AF rfl] at q7 ⊢;have a3:=pe _ s7 σ6 H7 _ I7 q7;rw[YA,Yp,Yw,Yx,Ye] at a3;refine Vy a3 λy s8 ⟨v,H8,I8,r8,q8⟩=>?_
    obtain⟨m',hm,w8⟩:=hN _ _ q8;obtain⟨aG,aN,aO⟩:=ag I8;have a:=aG.pin (s.heap.objs.size,_) (BQ _ BD);refine append_at (hsz:=by show its.toArray.size<=sizeLine;rw[AO,<- rv.length];exact hz) a.1 λh9 aH aP=>?_
    have e5:Y.env.locals=G2.objs.size:=by rw[<- t];rfl
    have I9:D' Y [] (Uo fs σ) H8 { s8 with heap:=h9 }:=by
     have J0:D' Y [] (Uo fs σ) H8 s8:=aG.pins_of λp F=>absurd F (by simp)
     refine J0.turned (t':=s8.toks) (it:=s.heap.objs.size) (λb o hb e=>aH.extBut b o hb e) a.2.1 (by rw[e5];exact ah) (.inr ?_) (λx c e=>?_) λp F=>?_
     .rw[<- t];exact AT _
     .rw[<- t] at e
      exact BZ (aw x c (M3 I F S x c e))
     .rw[<- t] at F
      exact absurd (show p∈([]:I3) from F) (by simp)
    refine⟨m',hm,i+1,H8,ys++[v],its++[y],k+1,rv.append (.cons r8 .nil),I9.pins_of λp F=>?_,T.keep _ _ _ aN λb hb o e=>aH.extBut b o (h b (P b hb)).2 e,aO,w8⟩;have:p=_:=AK.mp F;subst this;refine⟨?_,a.2.1,a.2.2.1,a.2.2.2.1,λv z=>by cases z⟩;have e9:its.toArray.push y=(its++[y]).toArray:=by simp
    rw[<- e9];exact aP
 exact codeAny_compStart_list (aj _ rfl) (T.self _ 0 _ _ _ az (aj _ rfl))
theorem D'.letGo{H':Hp}(I:D' X aa σ H s)(f:Ro X aa H C)(hs:SameBut C s.heap h'):D' X aa σ H { s with heap:=h' }:=by
 obtain⟨j,f1,f2,f3,m,q⟩:=f;exact I.turned (t':=s.toks) (λb o hb e=>hs.extBut b o hb e) j f1 f3 m q
theorem br{g:TG}(ao:IX)(fs:Z (Cc Nat))(N:Z Str)(F:X.env.scope=ao)(S:CompOk ao sc X.N N fs)(hc:X.calm=true\/(bb=true/\MD X))(hi:KW bb X tg iter wi)
  (hb:∀ (C:A2) (s:A4) (H:Hp) (fp:Z A2),PG (Wl X sc N C s H fp) tg g/\LF (Wl X sc N C s H fp) ay tt/\PE (Wl X sc N C s H fp) aA te)
  (hs:∀ x,foldedSetIterable iter X.env x=pure x:=by intro _;rfl):PE X (.ListComp aA [⟨tg,iter,ay,0⟩] sc pos) (UI wi fs g tt te):=by
 intro aa s σ H Q I h;rw[eval_ListComp];refine wpAny_comprehension_free (use:=none) rfl hs (Ln (Er I F S)) S.kind S.loc (Vy (hi aa s σ H _ I h) λxv s₁ h₁=>Vy h₁ λk s₂ h₂=>?_);obtain⟨it,fp,tn,J,H2,e,I2,T,p,f2,hW⟩:=h₂;subst e;refine Ar (RR:=λj C=>compPost (model X.prog X.w) X.A X.xe none (EP X aa σ Q) j C) F S hc hb I2 T p f2 hW ?_;intro D C s' H' ⟨m,hm⟩ c f q;exact⟨m,hm,λh' t=>⟨.ref D,H',c.letGo (H':=H') f t,rfl,q⟩⟩
theorem G8{x:Str}{g:TG}(hN:X.N.Nodup)(y:X.N[i]?=some x)(hx:KH X.env.scope x)(ao:IX)(fs:Z (Cc Nat))(N:Z Str)(F:X.env.scope=ao)(S:CompOk ao sc X.N N fs)(hc:X.calm=true)(hi:PI X tg iter wi)
  (hb:∀ (C:A2) (s:A4) (H:Hp) (fp:Z A2),PG (Wl X sc N C s H fp) tg g/\LF (Wl X sc N C s H fp) ay tt/\PE (Wl X sc N C s H fp) aA te)
  (hs:∀ x,foldedSetIterable iter X.env x=pure x:=by intro _;rfl) (ak:swapsWith (.ListComp aA [⟨tg,iter,ay,0⟩] sc pos) (some (.Name x au)) aC.line X.env=pure true:=by rfl)
  (hf:X.fn x=true\/X.env.scope.names.lookup x=some .local:=by ext) :
  PS X (.Assign [.Name x au] (.ListComp aA [⟨tg,iter,ay,0⟩] sc pos) aC) (RW (UI wi fs g tt te) (ON i)):=by
 intro aa s σ H D I h;rw[exec_Assign_Name_used _ _ _ _ ak];refine AA (HK (AA ?_));show wpAny _ X.A (do let _ <- comprehension (.ListComp aA [⟨tg,iter,ay,0⟩] sc pos) sc X.env _ (newList []) false (eval iter X.env) (some (assign (.Name x au) X.env))) _ _ s;refine AA (CJ (wpAny_comprehension_free (use:=some (assign (.Name x au) X.env)) (Q:=λ_ s'=>SP X aa D .next s') rfl hs (Ln (Er I F S)) S.kind S.loc
  (Vy (hi aa s σ H _ I h) λxv s₁ h₁=>Vy h₁ λk s₂ h₂=>?_)) (λ_ s' B=>AG (AG B)) λ_ _ e=>e)
 obtain⟨it,fp,tn,J,H2,e,I2,T,p,f2,hW⟩:=h₂;subst e;refine Ar (Q:=λv H'=>ON i v σ H' D.nx) (RR:=λj C=>compPost (model X.prog X.w) X.A X.xe (some (assign (.Name x au) X.env)) (λ_ s'=>SP X aa D .next s') j C) F S (.inl hc) hb I2 T p f2 hW ?_;intro ah C s' H' ⟨m,hm⟩ c f q;refine wpAny_assign_Name (P5 c hN y hx (show W5 (V.ref ah) (Value.ref ah) from rfl) (λb d ⟨a,o,Y⟩=>?_) hf);have l:C≠a:=by
  rintro rfl;rcases Y with z | z
  .exact f.2.1 z
  .exact f.2.2.2.2.1 x _ z rfl
 refine⟨m,hm.sameBut o l,λh' t=>⟨_,H',d.letGo (H':=H') f t,q⟩⟩
end
section
variable{t u:TS}{a b c:St->Hp->Prop}{r:VK}{td:TT}{Q:VK}
end
def ba(K:E'):Z V->Hp->VK->Prop:=λxs H Q=>(∃ p ys,xs=[.ref p]/\(Dq K H p ys\/Dx K H p ys)/\(ys.length<=sizeLine->Q (.int ys.length) H))\/∃ z,xs=[.str z]/\z.length<=sizeLine/\Q (.int z.length) H
theorem ii:Uq X (.builtin "len") (ba X.K):=by
 intro aa s σ H xs us Q I r h;rcases h with⟨p,ys,e,B,q⟩ | h
 .refine X8 aa s σ H xs us Q I r ⟨p,ys,e,B,q ?_⟩
  rcases B with B | B
  .exact(I.list B).choose_spec.2.2
  .exact(I.tuple B).choose_spec.2.2
 .exact Fk aa s σ H xs us Q I r h
theorem PI.or{w1 w2:TI}(h1:PI X tg iter w1)(h2:PI X tg iter w2):PI X tg iter (λσ H R=>w1 σ H R\/w2 σ H R):=by
 intro aa s σ H R I h;rcases h with h | h
 .exact h1 aa s σ H R I h
 .exact h2 aa s σ H R I h
def eV(K:E')(tl:TE):TI:=λσ H R=>QW K tl σ H R\/VU K tl σ H R
theorem UC{l:Cs}(hl:PE X l tl):PI X tg l (eV X.K tl):=(ZL hl).or (en hl)
section
variable{ta:TA}{g:TG}{tb:TS}{D:JF}{a b c:St->Hp->Prop}{r:VK}
variable{Q:VK}
end
variable{k:Nat}
structure OF (K:E') (mg:JG) (x:Str) (st:Stmt):Prop where
 ex:∃ f fd,KF K x x st f fd/\mg x=some (.ref f)
structure ML (P:Program) (w:World) (K:E') (mg:JG) (base:Heap) (k:Nat) (x:Str) (ps:List Str) (sp:Sp):Prop where
 ex:∃ f fd,I' P w K mg base A7 k f fd ps sp/\mg x=some (.ref f)/\PySem.W.keepIn K (.ref f)=true/\Sb K fd ps []
def gM(sp:Sp)(t:TA):TE:=λσ H Q=>t σ H λvs H1=>sp vs H1 Q E0
section
variable{P:D1}
theorem ML.mono{x:Str}(C:ML P w K mg base j x ps sp)(h:j<=k):ML P w K mg base k x ps sp:=by
 obtain⟨f,fd,F,r⟩:=C.ex;exact⟨f,fd,F.mono h,r⟩
theorem RE{x:Str}(C:ML X.prog X.w X.K X.mg X.base k x ps sp)(hr:G' k X.A)(Y:PA X (e::es) t)(S:Gl X x:=by rfl)
  (g:Cg x:=by decide) (he:Z2 X.env e es:=by rfl) (ae:dO pos X.env es:=by rfl) :
  PE X (.Call (.Name x p) (e::es) [] pos) (gM sp t):=by
 obtain⟨f,fd,F,hm,hk,hb⟩:=C.ex;have:=YH (dvs:=[]) (ds:=[]) (E:=E0) F hr S hm hk hb .nil Lz Y g he ae (p:=p);intro aa s σ H Q I h;refine this aa s σ H Q I ?_;unfold V';simp only[DU];exact h
abbrev dV(x:PySem.Str)(st:PySem.Stmt)(ps:List PySem.Str):Prop:=∀ (kV aw pm:A1) (an:Cc A2) (ai ct:A1) (us:Z A1),us.length=ps.length->bindArgs (PySem.W.fnOf x x (U3 st) (Wb st) (Z9 st) .none kV aw pm an ai ct) ⟨us,[]⟩=pure (ps.zip us)
theorem cy{x:Str}(D:OF K mg x st)(S:FnScope N ps (Z9 st))
  (b:dV x st ps)
  (len:∀ vs H Q E,sp vs H Q E->vs.length=ps.length)
  (a:∀ (f:A2) (ai:A1) (A:B2) (outer:Z IY) (s:A4) (H:Hp) (vs:Z V) (Q:VK) (E:XK),G' k (A.deeper (envOfC x (Z9 st) s.heap.objs.size f ai))->sp vs H Q E ->
   ∃ t,Ku (K5 A7 P w K mg base N x (Z9 st) f ai A outer s H E).nox (Wb st) t/\t (JF.mk (λ_ H'=>Q .non H') Q (λ_ _=>False) (λ_ _=>False)) (IZ N vs) H):ML P w K mg base (k+1) x ps sp:=by
 obtain⟨f,fd,F,hm⟩:=D.ex;exact⟨f,fd,F.ok S len (λai A outer s H vs Q E hr h=>a f ai A outer s H vs Q E hr h),hm,F.kp,F.binds b⟩
theorem dG{x:Str}{f:A2}(F:KF K x x st f fd)(S:FnScope N ps (Z9 st))(len:∀ vs H Q E,sp vs H Q E->vs.length=ps.length)
  (a:∀ (ai:A1) (A:B2) (outer:Z IY) (s:A4) (H:Hp) (vs:Z V) (Q:VK) (E:XK),G' k (A.deeper (envOfC x (Z9 st) s.heap.objs.size f ai))->sp vs H Q E ->
   ∃ t,Ku (K5 A7 P w K mg base N x (Z9 st) f ai A outer s H E).nox (Wb st) t/\t (JF.mk (λ_ H'=>Q .non H') Q (λ_ _=>False) (λ_ _=>False)) (IZ N vs) H):I' P w K mg base A7 (k+1) f fd ps sp :=
 F.ok S len a
end
theorem Zv.new{o:HO}(h:H l=none):Zv H (Wq H l o):=λb u e=>by rw[Zp (Ym e h)];exact e
theorem Zv.seqT{a:A2}(e:Zv H H')(h:Dx K H a xs):Dx K H' a xs:=by
 rcases h with h | h
 .exact .inl (e _ _ h)
 .exact .inr h
theorem bG{x:Str}{T:String}(S:Gl X x)(hm:X.mg x=none)(hv:bootBuiltins x=some (.type T))(hn:x≠"__name__" := by decide)(hd:Cg x:=by decide):PE X (.Name x pos) (tC (.ty T)) :=
 YC (v:=.ty T) S hm hv rfl hn hd
def PH(T n:String):Cc Bool:=if(Value.type T==Value.type n)=true then some true else if PySem.W.kitMeta n=true then(PySem.fastBuiltinMro T).map (·.contains (.type n)) else none
theorem cW{T n:String}{b:Bool}(h:PH T n=some b):kitOne K (.type T) (.type n)=some b:=h
def UN:V->Cc Int->Cc Int->Hp->VK->Prop:=λx lo hi H Q=>∃ z,x=.str z/\z.length<=sizeLine/\Q (.str (Txt.slice z lo hi)) H
theorem fD:JW X UN:=by
 intro aa s σ H x v vl vu lo hi sl Q I rx hs pl c h;obtain⟨z,rfl,hz,q⟩:=h;obtain⟨t,rfl⟩:=rx;have M:∀ t' k,EP X aa σ Q (.str (Txt.slice z lo hi) t') { s with toks:=k }:=λt' k=>⟨.str (Txt.slice z lo hi),H,I.tok _,⟨_,rfl⟩,q⟩
 refine⟨"str",_,F.slot_str_getitem.lookup,typeIs_str _ _ _,?_⟩;cases pl with
 | none =>
  cases c with
  | none=>exact EJ (l:=none) (u:=none) (st:=none) hs rfl (GY ⟨BI (FS z _ _) hz,M⟩)
  | int j a=>exact EJ (l:=none) (u:=some (j,a)) (st:=none) hs rfl (GY ⟨BI (FS z _ _) hz,M⟩)
 | int i b =>
  cases c with
  | none=>exact EJ (l:=some (i,b)) (u:=none) (st:=none) hs rfl (GY ⟨BI (FS z _ _) hz,M⟩)
  | int j a=>exact EJ (l:=some (i,b)) (u:=some (j,a)) (st:=none) hs rfl (GY ⟨BI (FS z _ _) hz,M⟩)
def dj(K:E'):V->Cc Int->Cc Int->Hp->VK->Prop:=λx lo hi H Q=>WN K x lo hi H Q\/SO K x lo hi H Q\/UN x lo hi H Q
theorem cm:JW X (dj X.K):=dD.or (ZB.or fD)
def ft:V->Z V->Hp->VK->Prop:=λx xs H Q=>∃ i,x=.int i/\xs=[]/\Q (.int (Builtin.Int.intBits i)) H
theorem bc:Ch X "int.bit_length" ft:=by
 intro aa s σ H x xs v us Q I rx rs h;obtain⟨i,rfl,rfl,q⟩:=h;obtain⟨t,rfl⟩:=rx;cases rs;exact call_int_bit_length ⟨.int _,H,I.tok _,⟨_,rfl⟩,q⟩
theorem Ho:∀ {us:Z A1},IntsAre us ns->Yl (ns.map V.int) us:=by
 intro us h;induction h with
 | nil=>exact .nil
 | cons n t h ih=>exact .cons ⟨t,rfl⟩ ih
def bv(K:E'):Z V->Hp->VK->Prop:=λxs H Q=>∃ p ns,xs=[.ref p]/\Dq K H p (ns.map V.int)/\ns.length<64 /\
 ∀ (a:Z Int) (l:A2),a.Perm ns->a.Pairwise (·<=·)->H l=none->Q (.ref l) (Wq H l (.lst (a.map V.int)))
theorem F0:Uq X (.builtin "sorted") (bv X.K):=by
 intro aa s σ H xs us Q I r h;obtain⟨p,ns,rfl,B,c,q⟩:=h;obtain⟨u,rfl,rx⟩:=Sh r;cases rx;obtain⟨its,r',pl,hz⟩:=I.list B;have D:=r'.length;rw[AB] at D;refine sorted_ints pl.isList (Nd r') (by lia) λaD a h1 h2 h3=>?_
 obtain⟨e,he⟩:=sortedAll_at s.heap its aD;have hl:a.length=ns.length:=h2.length_eq;refine⟨.ref (s.heap.objs.size+1),Wq H (s.heap.objs.size+1) (.lst (a.map V.int)),I.laid (t':=s.toks) (λb o q=>sortedAll_old q) (FG _) ?_,rfl,q a _ h2 h3 (I.hok.fresh (FG _))⟩;refine⟨by rw[AB] at hz ⊢;lia,aD.toList,e,Ho h1,?_⟩;rw[he]
theorem B0{bs:Z Bool}(r:Yl (bs.map V.bl) its):TruthOf X.prog X.w A (λi v=>its.toArray[i]?=some v) (λi=>bs.getD i false):=by
 intro i v s Q E hv h;have a:its[i]?=some v:=by simpa using hv
 have hi:i<its.length:=(AE.mp a).1;have hl:=r.length;rw[AB] at hl;have hb:(bs.map V.bl)[i]?=some (V.bl (bs[i]'(by lia))):=by simp[show i<bs.length by lia]
 obtain⟨u,hu,g⟩:=r.get hb;rw[a] at hu;cases hu;cases g;have:bs.getD i false=bs[i]'(by lia):=by simp[List.getD,show i<bs.length by lia]
 have h':Q (bs.getD i false) s:=h;rw[this] at h';exact EV h'
theorem ik(bs:Z Bool):(List.range bs.length).any (λi=>bs.getD i false)=bs.any id:=by
 induction bs with
 | nil=>rfl
 | cons b bs ih =>
  rw[BJ,List.range_succ_eq_map,FN,any_map,FN];have:(λi=>(b::bs).getD i false) ∘ Nat.succ=λi=>bs.getD i false:=by funext i;rfl
  rw[this,ih];rfl
def gk(K:E'):Z V->Hp->VK->Prop:=λxs H Q=>∃ (p:A2) (bs:Z Bool),xs=[.ref p]/\Dq K H p (bs.map V.bl)/\Q (.bl (bs.any id)) H
theorem dZ(hc:X.calm=true):Uq X (.builtin "any") (gk X.K):=by
 intro aa s σ H xs us Q I r h;obtain⟨p,bs,rfl,B,q⟩:=h;obtain⟨u,rfl,rx⟩:=Sh r;cases rx;obtain⟨its,r',pl,hz⟩:=I.list B;have hl:=pl.isList;have ai:p<s.heap.objs.size:=by obtain⟨o,e,_⟩:=hl;exact BE e
 have D:=r'.length;rw[AB] at D;refine call_any_walk (GJ hl ⟨s.heap.objs.size,_,_,_,_,_,λi=>bs.getD i false,rfl,Walks.list (A:=X.A.in1) (I.ok.hd hc) s.heap.objs.size p (BZ ai) its.toArray,⟨⟨_,AW _ rfl,rfl,rfl⟩,hl.push _⟩,B0 r',λh' tk hk=>?_⟩);have e:(List.range its.toArray.size).any (λi=>bs.getD i false)=bs.any id:=by rw[AO,<- D];exact ik bs
 rw[e];exact⟨.bl _,H,I.kept (h':=h') (t':=tk) (λb o e=>hk b o (by simpa using BZ (BE e)) (AD _ e)),rfl,q⟩
abbrev cl(z:Str):Z Nat:=z.cps.toList
theorem Nv(z:Str):(cl z).length=z.length:=by simp[cl,Str.length]
theorem TH(x y:Str):cl (x++y)=cl x++cl y:=by
 show(x.cps++y.cps).toList=_;simp[cl]
def Q7(xs:Z α)(lo hi:Cc Int):Z α:=(xs.drop (HT.sIx xs.length 0 lo)).take (HT.sIx xs.length xs.length hi - HT.sIx xs.length 0 lo)
theorem el(xs:Z Nat)(i k:Nat):((List.range k).map λ(m:Nat)=>((i:Int)+1*(m:Int)).toNat).filterMap (xs[·]?)=(xs.drop i).take k:=by
 rw[HD];induction k generalizing i with
 | zero=>simp
 | succ k ih =>
  rw[List.range_succ_eq_map,FY,HD];have e0:((λx=>xs[x]?) ∘ λm:Nat=>((i:Int)+1*(m:Int)).toNat) 0=xs[i]?:=by simp[Function.comp]
  rw[e0];have e1:(((λx=>xs[x]?) ∘ λm:Nat=>((i:Int)+1*(m:Int)).toNat) ∘ Nat.succ)=((λx=>xs[x]?) ∘ λm:Nat=>(((i+1:Nat):Int)+1*(m:Int)).toNat):=by
   funext m
   simp only[Function.comp,Nat.succ_eq_add_one];congr 1
   lia
  rw[e1,ih];cases h:xs[i]? with
  | none =>
   have hl:xs.length<=i:=List.getElem?_eq_none_iff.mp h;simp[List.drop_eq_nil_of_le hl,List.drop_eq_nil_of_le (HL hl)]
  | some c =>
   obtain⟨hi,hc⟩:=AE.mp h;rw[EB hi,EW,hc]
theorem TR(lo hi:Cc Int)(n:Nat):Builtin.Str.strSliceIndices lo hi 1 n=(List.range (HT.sIx n n hi - HT.sIx n 0 lo)).map λ(m:Nat)=>(((HT.sIx n 0 lo:Nat):Int)+1*(m:Int)).toNat:=by
 have c:∀ (v:Cc Int) (d:Nat),(match v with | none=>(d:Int) | some i=>(let i:=if i<0 then i+(n:Int) else i;if(1:Int) > 0 then max 0 (min i (n:Int)) else max (-1) (min i ((n:Int) - 1))))=((HT.sIx n d v:Nat):Int):=by
  intro v d;cases v with
  | none=>rfl
  | some i =>
   rw[<- HT.clip_eq i n d];dsimp only;rw[AF (by decide)];by_cases hi:i<0
   .rw[AF hi,AF hi];lia
   .rw[AJ hi,AJ hi];lia
 have D:∀ (x y:Int) (a b:Nat),x=a->y=b->sliceRange x y 1=(List.range (b - a)).map λ(m:Nat)=>((a:Int)+1*(m:Int)).toNat:=by
  rintro x y a b rfl rfl;unfold sliceRange;dsimp only;rw[AF (by decide)];congr 1
  congr 1
  by_cases h:(a:Int)<(b:Int)
  .rw[AF h];lia
  .rw[AJ h];lia
 unfold Builtin.Str.strSliceIndices;dsimp only;have e1:=c lo 0;have e2:=c hi n;dsimp only at e1 e2;simp only[show(1:Int) > 0 by decide,GS] at e1 e2 ⊢;exact D _ _ _ _ e1 e2
theorem eN(z:Str)(lo hi:Cc Int):cl (Txt.slice z lo hi)=Q7 (cl z) lo hi:=by
 have hn:(cl z).length=z.length:=Nv z;unfold Txt.slice Q7;rw[hn];have aj:=HT.sIx_le z.length z.length (AT _) hi;split
 .rename_i h
  rw[TR,AB,CQ] at h;have h':HT.sIx z.length z.length hi - HT.sIx z.length 0 lo=z.length:=by simpa using h
  have h0:HT.sIx z.length 0 lo=0\/z.length=0:=by lia
  rcases h0 with h0 | h0
  .rw[h',h0,IS,BB (by lia)]
  .have:cl z=[]:=GG.mp (by lia)
   rw[this];simp
 .show(((Builtin.Str.strSliceIndices lo hi 1 z.length).filterMap (z.cps[·]?)).toArray).toList=_
  rw[TR];have e:(λx:Nat=>z.cps[x]?)=λx=>(cl z)[x]?:=by funext x;simp[cl]
  rw[e];exact el _ _ _
section
variable(K:E')
variable{o:Cs}{T id:String}{r:V->Z V->Hp->VK->Prop}
end
end L2
variable{c:PySem.Str}{t k:Nat}{p2 hpos:PySem.Pos}{P:PySem.Program}{ta:L2.TA}{I:PySem.Addr}{wr:Z PySem.Addr}{cd:PySem.ClassData}{suite:Z PySem.Stmt}
namespace PySem

theorem R6{ae}{x:A1}(c:s.heap.IsTupleIter it l i)
  (hl:s.heap.IsTuple l ae) (hx:ae[i]?=some x)
  (g:∀ h',h'.IsTupleIter it l (i+1)->SameBut it s.heap h'->Q x { s with heap:=h' }) :
  wpAny (model prog w) A (Builtin.SmallTypes.nextOf (.ref it)) Q E s:=by
 obtain⟨o,J,hc,hd⟩:=id c;obtain⟨j,d,_,r,Y⟩:=hl;unfold Builtin.SmallTypes.nextOf;refine AA (CM (name:=Str.ofString "__next__") c.typeIs DZ
  (DK DZ c.typeIs F.entry_tuple_iterator_next ?_ (F.args_tuple_iterator_next_1 _)))
 show wpAny _ _ (field (.ref it) 0 >>= _) _ _ s;refine AA (BU J hd (x:=.ref l) rfl ?_);show wpAny _ _ (if(Value.ref l==Value.none)=true then _ else _) _ _ s;rw[AJ (show ¬ ((Value.ref l==Value.none)=true) from BO)];show wpAny _ _ (field (.ref it) 1 >>= _) _ _ s;refine AA (BU J hd (x:=.int i 0) rfl ?_);show wpAny _ _ (seqItems? (.ref l) >>= _) _ _ s;refine AA (DR d Y ?_);simp only[BS,hx];refine AA (HC J hd (by simp) (AG ⟨x,rfl,AG (g _ ?_ (SameBut.update ..))⟩));exact⟨_,Heap.get?_update_self _ J (Obj.isFreed_of_fields (Obj.data_mapFields hd _)),(Obj.cls_mapFields ..).trans hc,by
  rw[Obj.data_mapFields hd];simp[rawInt]⟩
theorem Rf{ae}(M:A.handled=none)
   (c:s.heap.IsTupleIter it l i) (hl:s.heap.IsTuple l ae) (hx:ae[i]?=none)
   (hE:∀ h' e,ExtBut it s.heap h'->(∃ o,h'.get? e=some o/\o.cls=.type "StopIteration")->E (.ref e) { s with heap:=h' }) :
   wpAny (model prog w) A (Builtin.SmallTypes.nextOf (.ref it)) Q E s:=by
 obtain⟨o,J,hc,hd⟩:=id c;obtain⟨j,d,_,r,Y⟩:=hl;unfold Builtin.SmallTypes.nextOf;refine AA (CM (name:=Str.ofString "__next__") c.typeIs DZ
   (DK DZ c.typeIs F.entry_tuple_iterator_next ?_ (F.args_tuple_iterator_next_1 _)))
 show wpAny _ _ (field (.ref it) 0 >>= _) _ _ s;refine AA (BU J hd (x:=.ref l) rfl ?_);show wpAny _ _ (if(Value.ref l==Value.none)=true then _ else _) _ _ s;rw[AJ (show ¬ ((Value.ref l==Value.none)=true) from BO)];show wpAny _ _ (field (.ref it) 1 >>= _) _ _ s;refine AA (BU J hd (x:=.int i 0) rfl ?_);show wpAny _ _ (seqItems? (.ref l) >>= _) _ _ s;refine AA (DR d Y ?_);simp only[BS,hx];refine AA (HR (AA (HC J hd (by simp) ?_)));show wpAny _ _ (newExc (.type "StopIteration") [] >>= _) _ _ _;refine AA ?_;simp only[newExc,newTuple];refine AA (CT ?_ (by size_fits));refine AA (m:=firstArgMember _ _) (wpAny_of_eq (a:=Value.none) (by first | rfl | (simp only[firstArgMember];rfl)) ?_);refine CT ?_ (by size_fits);simp only[raiseNew];refine AA (wpAny_handled ?_);first | rw[show A.in1.handled=none from M] | rw[M]
 refine AA (AG (wpAny_throw ?_));exact hE _ _ (((SameBut.update ..).extBut.push _).push _) ⟨_,AW _ rfl,rfl⟩
theorem Draws.tupleD(M:A.handled=none)(it l:A2)(ag:l≠it)(ae:Array A1) :
  Draws prog w A it [it,l] ae.size (λi v=>ae[i]?=some v) (λi h=>h.IsTupleIter it l i/\h.IsTuple l ae) where
 live:=λ_ _ st=>let ⟨o,J,_⟩:=st.1;⟨o,J⟩
 frame:=λ_ _ _ st hk=>⟨st.1.at λo e=>hk it (by simp) o e,let ⟨o,J,r⟩:=st.2;⟨o,hk l (by simp) o J,r⟩⟩
 item:=λi s Q E hi st g=>by
  refine R6 st.1 st.2 (x:=ae[i]) (by simp[hi]) λh' a t=>?_
  exact g _ h' s.toks (by simp[hi]) ⟨a,st.2.extBut t.extBut ag⟩ t
 done:=λs Q E st hE=>Rf M st.1 st.2 (by simp) hE
theorem So(l:A2)(ae:Array A1)(n:Nat)(dct:Cc A2)(sl:Array (Cc A1)) :
  Meets (Builtin.«enumerate.__new__» ⟨[.type "enumerate",.ref l],[]⟩) (λ_ R s=>s.heap.get? l=some { cls:=.type "tuple",dict:=dct,data:=.seq ae n,slots:=sl } /\
   R (.ok (.ret (.ref (s.heap.push { cls:=.type "tuple_iterator",data:=.fields #[.ref l,.int 0 0] }).objs.size)))
    { s with heap:=(s.heap.push { cls:=.type "tuple_iterator",data:=.fields #[.ref l,.int 0 0] }).push { cls:=.type "enumerate",data:=.fields #[.none,.bool false,.ref s.heap.objs.size,rawInt 0,.none,.none] } }) :=
 .of_wp λprog w A R s h=>by
  obtain⟨F,g,d,tk,os⟩:=s;obtain⟨hl,h⟩:=h;have k:=sub_enumerate;have f:Heap.IsTuple (Shared.heap ⟨F,g,d,tk,os⟩) l ae:=⟨_,hl,rfl,n,rfl⟩
  wp_walk using DG hl
  refine wpAny_stack_any λst=>AG ?_
  split
  .rename_i c _ _ _ _ _
   cases (c==Value.type "enumerate")
   .wp_walk using DG hl,EQ f
    exact⟨_,rfl,h⟩
   .wp_walk using DG hl,EQ f
    exact⟨_,rfl,h⟩
  .wp_walk using DG hl,EQ f
   exact⟨_,rfl,h⟩
theorem D4(f:s.heap.IsTuple l ae)
  (h:∀ h',IsEnum h' (s.heap.objs.size+1) s.heap.objs.size 0 .none->h'.IsTupleIter s.heap.objs.size l 0->h'.objs.size=s.heap.objs.size+2 ->
   (∀ b o,s.heap.get? b=some o->h'.get? b=some o)->Q (.ref (s.heap.objs.size+1)) { s with heap:=h' }) :
  wpAny (model prog w) A (call (.type "enumerate") [.ref l]) Q E s:=by
 obtain⟨⟨c,dct,j,sl⟩,hl,hc,n,hd⟩:=f;replace hc:c=.type "tuple" := hc;replace hd:j=.seq ae n:=hd;subst hc hd;refine callType_new F.called_enumerate (by decide) (F.typeCall_enumerate_1 _) (F.newCall_enumerate_1 _) (λobj=>F.args_object_init_2 obj _) F.entry_enumerate_new
  (So l ae n dct sl) ⟨hl,?_⟩
 have hz:(s.heap.push { cls:=.type "tuple_iterator",data:=.fields #[.ref l,.int 0 0] }).objs.size=s.heap.objs.size+1:=EE ..;show _/\_;rw[hz];have he:IsEnum ((s.heap.push { cls:=.type "tuple_iterator",data:=.fields #[.ref l,.int 0 0] }).push
   { cls:=.type "enumerate",data:=.fields #[.none,.bool false,.ref s.heap.objs.size,rawInt 0,.none,.none] }) (s.heap.objs.size+1) s.heap.objs.size 0 .none:=by
  have:=AW (s.heap.push { cls:=.type "tuple_iterator",data:=.fields #[.ref l,.int 0 0] })
   (o:={ cls:=.type "enumerate",data:=.fields #[.none,.bool false,.ref s.heap.objs.size,rawInt 0,.none,.none] }) rfl
  rw[hz] at this;exact this
 refine⟨⟨_,he,rfl⟩,h _ he ⟨_,AD _ (AW _ rfl),rfl,rfl⟩ (by rw[EE,hz]) λb o x=>AD _ (AD _ x)⟩
end PySem
namespace L2
open PySem PySem.Spec PyProof.Rows
inductive XD where
 | int (i:Int) | nums (is:List Int)
inductive Tg where
 | obj (c:Str) (ns:List Str) | dic (ks:List Int)
inductive Dat where
 | non | bl (b:Bool) | int (i:Int) | str (x:Str) | tup (xs:List Dat) | lst (xs:List Dat) | dct (kvs:List (List U0×Int)) | exc (c:Str) (fs:List (Str×XD)) | box (t:Tg) (xs:List Dat)
def Te(K:E')(c:Str)(C:A2):Prop:=PySem.W.nsIn K mainGlobals c=some (some (.ref C))
def O1(e C:A2)(dct:Cc A2)(h:Ff):Prop:=∃ o,h.get? e=some o/\o.cls=.ref C/\o.dict=dct/\∀ c,o.data≠.cls c
def OX(K:E')(H:Hp):XD->V->Prop
 | .int i,v=>v=.int i
 | .nums is,v=>∃ a,v=.ref a/\SL K H a (is.map V.int)/\is.length<=sizeLine
def NX(K:E')(H:Hp):Cc A2->Z (Str×XD)->Prop
 | none,fs=>fs=[]
 | some dx,fs=>∃ j,H dx=some (.xd j)/\∀ f,(fs.lookup f=none/\j.lookup f=none)\/∃ d v,fs.lookup f=some d/\j.lookup f=some v/\OX K H d v
def OH(H:Hp)(e C:A2)(dct:Cc A2):Prop:=H e=some (.ext (O1 e C dct))\/∃ o,H e=some (.frz o (.ext (O1 e C dct)))
theorem OH.mono{e C:A2}(h:OH H e C dct)(s:Zv H H'):OH H' e C dct:=h.imp (s _ _) λ⟨o,z⟩=>⟨o,s _ _ z⟩
def NF(K:E')(H:Hp)(c:Str)(fs:Z (Str×XD))(v:V):Prop:=∃ e C dct,v=.ref e/\OH H e C dct/\Te K c C/\NX K H dct fs
def NC(kvs:Z (Z U0×Int)):Z (Z U0×V):=kvs.map λp=>(p.1,V.int p.2)
structure JP (x:Str):Prop where
 ok:PyData.strOk x=true
 le:x.length<=sizeLine
instance (x:Str):Decidable (JP x):=decidable_of_iff (PyData.strOk x=true/\x.length<=sizeLine) ⟨λh=>⟨h.1,h.2⟩,λh=>⟨h.ok,h.le⟩⟩
theorem JP.of{x:Str}(h:PyData.strOk x=true)(h':x.length<=sizeLine):JP x:=⟨h,h'⟩
def MX(K:E')(H:Hp):Tg->A2->Z V->Prop
 | .obj c ns,a,us=>us.length=ns.length/\∃ C dx,H a=some (.ins C dx (ns.zip us))/\Te K c C
 | .dic ks,a,us=>us.length=ks.length/\us.length<=sizeLine/\H a=some (.dK ((ks.map (λk=>(Sum.inl k:U0))).zip us))
mutual
def Rp(K:E')(H:Hp):Dat->V->Prop
 | .non,v=>v=.non
 | .bl b,v=>v=.bl b
 | .int i,v=>v=.int i
 | .str x,v=>v=.str x/\JP x
 | .tup ds,v=>ds.length<=sizeLine/\∃ a vs,v=.ref a/\Dx K H a vs/\Vc K H ds vs
 | .lst ds,v=>ds.length<=sizeLine/\∃ a vs,v=.ref a/\SL K H a vs/\Vc K H ds vs
 | .dct kvs,v=>kvs.length<=sizeLine/\∃ a,v=.ref a/\H a=some (.dT (NC kvs))
 | .exc c fs,v=>NF K H c fs v
 | .box t ds,v=>∃ a us,v=.ref a/\MX K H t a us/\Vc K H ds us
def Vc(K:E')(H:Hp):Z Dat->Z V->Prop
 | [],vs=>vs=[]
 | d::ds,vs=>∃ v r,vs=v::r/\Rp K H d v/\Vc K H ds r
end
abbrev AS:=A2->Bool
def av(H:Hp)(A:AS):Hp:=λa=>if A a=true then none else H a
theorem U1{A:AS}{a:A2}{o:HO}(h:H a=some o)(hA:A a=false):av H A a=some o:=by unfold av;rw[hA];exact h
theorem Tc{A:AS}{a:A2}{o:HO}(h:av H A a=some o):A a=false/\H a=some o:=by
 unfold av at h;split at h
 .cases h
 .rename_i q;exact⟨by simpa using q,h⟩
theorem Wn{A:AS}:Zv (av H A) H:=λb o e=>(Tc e).2
theorem V0{A:AS}(h:Zv H H'):Zv (av H A) (av H' A):=λb o e=>U1 (h b o (Tc e).2) (Tc e).1
theorem Qm{A B:AS}(h:∀ a,B a=true->A a=true):Zv (av H A) (av H B):=λb o e=>by
 obtain⟨h1,h2⟩:=Tc e;refine U1 h2 ?_;cases q:B b with
 | false=>rfl
 | true=>rw[h b q] at h1;cases h1
def no:AS:=λ_=>false
theorem hT:av H no=H:=by funext a;simp[av,no]
theorem Zv.sl{a:A2}(e:Zv H H')(h:SL K H a xs):SL K H' a xs:=by
 rcases h with(h | ⟨o,h⟩) | h
 .exact .inl (.inl (e _ _ h))
 .exact .inl (.inr ⟨o,e _ _ h⟩)
 .exact .inr h
variable{fs:Z (Str×XD)}{t:Tg}{ds:Z Dat}{A A':AS}{p:A2}{G:Int->Int->Dat}
theorem SL.sq{a:A2}(h:SL K H a xs):Dq K H a xs:=by
 rcases h with h | ⟨its,n,h1,h2,h3⟩
 .exact .inl h
 .refine .inr ⟨_,its.toArray,n,h1,rfl,rfl,rfl,?_,by simpa using h3⟩
  have:=h3.length;simp only[AO];lia
theorem SL.get{a:A2}(h:SL X.K H a xs)(I:D' X aa σ H s) :
  ∃ (its:Z A1) (n:Nat),Yl xs its/\s.heap.get? a=some { cls:=.type "list",data:=.seq its.toArray n }/\xs.length<=sizeLine:=by
 rcases h with h | ⟨its,n,h1,h2,h3⟩
 .obtain⟨z,its,n,r,e⟩:=h.ok I.hok
  exact⟨its,n,r,e,z⟩
 .exact⟨its,n,h3,I.kIn _ _ h1,h2⟩
theorem OX.mono(e:Zv H H'){d:XD}(h:OX K H d v):OX K H' d v:=by
 cases d with
 | int i=>exact h
 | nums is=>obtain⟨a,e1,e2,e3⟩:=h;exact⟨a,e1,e.sl e2,e3⟩
theorem NX.mono(e:Zv H H')(h:NX K H dct fs):NX K H' dct fs:=by
 cases dct with
 | none=>exact h
 | some dx =>
  obtain⟨j,e1,e2⟩:=h;exact⟨j,e _ _ e1,λf=>(e2 f).imp id λ⟨d,v,a,b,c⟩=>⟨d,v,a,b,c.mono e⟩⟩
theorem NF.mono(e:Zv H H')(h:NF K H c fs v):NF K H' c fs v:=by
 obtain⟨x,C,dct,e1,e2,e3,e4⟩:=h;exact⟨x,C,dct,e1,e2.mono e,e3,e4.mono e⟩
theorem MX.mono(e:Zv H H'){a:A2}(h:MX K H t a us):MX K H' t a us:=by
 cases t with
 | obj c ns=>obtain⟨h1,C,dx,h2,h3⟩:=h;exact⟨h1,C,dx,e _ _ h2,h3⟩
 | dic ks=>exact⟨h.1,h.2.1,e _ _ h.2.2⟩
mutual
theorem Rp.mono(e:Zv H H'):∀ {d:Dat} {v:V},Rp K H d v->Rp K H' d v
 | .non,v,h=>by unfold Rp at h ⊢;exact h
 | .bl b,v,h=>by unfold Rp at h ⊢;exact h
 | .int i,v,h=>by unfold Rp at h ⊢;exact h
 | .str x,v,h=>by unfold Rp at h ⊢;exact h
 | .dct _,v,h=>by unfold Rp at h ⊢;obtain⟨hz,a,e1,e2⟩:=h;exact⟨hz,a,e1,e _ _ e2⟩
 | .exc _ _,v,h=>by unfold Rp at h ⊢;exact NF.mono e h
 | .box t ds,v,h=>by unfold Rp at h ⊢;obtain⟨a,us,e1,e2,e3⟩:=h;exact⟨a,us,e1,e2.mono e,Vc.mono e e3⟩
 | .tup ds,v,h=>by
  unfold Rp at h ⊢;obtain⟨hz,a,vs,e1,e2,e3⟩:=h;exact⟨hz,a,vs,e1,e.seqT e2,Vc.mono e e3⟩
 | .lst ds,v,h=>by
  unfold Rp at h ⊢;obtain⟨hz,a,vs,e1,e2,e3⟩:=h;exact⟨hz,a,vs,e1,e.sl e2,Vc.mono e e3⟩
theorem Vc.mono(e:Zv H H'):∀ {ds:Z Dat} {vs:Z V},Vc K H ds vs->Vc K H' ds vs
 | [],vs,h=>by unfold Vc at h ⊢;exact h
 | d::ds,vs,h=>by
  unfold Vc at h ⊢;obtain⟨v,r,e1,e2,e3⟩:=h;exact⟨v,r,e1,Rp.mono e e2,Vc.mono e e3⟩
end
theorem Qh:Vc K H [] []:=by unfold Vc;rfl
theorem Yr{d:Dat}(h:Rp K H d v)(t:Vc K H ds vs):Vc K H (d::ds) (v::vs):=by unfold Vc;exact⟨v,vs,rfl,h,t⟩
theorem Wx(h:Vc K H [] vs):vs=[]:=by unfold Vc at h;exact h
theorem Zw{d:Dat}(h:Vc K H (d::ds) vs):∃ v r,vs=v::r/\Rp K H d v/\Vc K H ds r:=by unfold Vc at h;exact h
theorem Yh:∀ {ds:Z Dat} {vs:Z V},Vc K H ds vs->vs.length=ds.length
 | [],vs,h=>by rw[Wx h];rfl
 | d::ds,vs,h=>by
  obtain⟨v,r,e1,e2,e3⟩:=Zw h;rw[e1,BJ,BJ,Yh e3]
theorem M2:∀ {ds:Z Dat} {vs:Z V} {i:Nat} {d:Dat},Vc K H ds vs->ds[i]?=some d->∃ v,vs[i]?=some v/\Rp K H d v
 | [],vs,i,d,h,e=>by simp at e
 | d'::ds,vs,0,d,h,e=>by
  obtain⟨v,r,e1,e2,e3⟩:=Zw h;simp at e;subst e;exact⟨v,by rw[e1];rfl,e2⟩
 | d'::ds,vs,i+1,d,h,e=>by
  obtain⟨v,r,e1,e2,e3⟩:=Zw h;obtain⟨P,h1,h2⟩:=M2 (i:=i) e3 (by simpa using e);exact⟨P,by rw[e1];simpa using h1,h2⟩
theorem Vm:∀ {ds es:Z Dat} {vs us:Z V},Vc K H ds vs->Vc K H es us->Vc K H (ds++es) (vs++us)
 | [],es,vs,us,h,k=>by rw[Wx h];exact k
 | d::ds,es,vs,us,h,k=>by
  obtain⟨v,r,e1,e2,e3⟩:=Zw h;subst e1;exact Yr e2 (Vm e3 k)
theorem O4:∀ (n:Nat) {ds:Z Dat} {vs:Z V},Vc K H ds vs->Vc K H (ds.take n) (vs.take n)
 | 0,_,_,_=>by simp only[IT];exact Qh
 | n+1,[],vs,h=>by rw[Wx h];simp only[List.take_nil];exact Qh
 | n+1,d::ds,vs,h=>by
  obtain⟨v,r,e1,e2,e3⟩:=Zw h;subst e1;exact Yr e2 (O4 n e3)
theorem Nu:∀ (n:Nat) {ds:Z Dat} {vs:Z V},Vc K H ds vs->Vc K H (ds.drop n) (vs.drop n)
 | 0,_,_,h=>h
 | n+1,[],vs,h=>by rw[Wx h];simp only[List.drop_nil];exact Qh
 | n+1,d::ds,vs,h=>by
  obtain⟨v,r,e1,e2,e3⟩:=Zw h;subst e1;exact Nu n e3
theorem Wu{d:Dat}(h:Rp K H d v):Vc K H [d] [v]:=Yr h Qh
theorem D6:∀ (ns:Z Int),Vc K H (ns.map Dat.int) (ns.map V.int)
 | []=>Qh
 | n::ns=>Yr (by unfold Rp;rfl) (D6 ns)
theorem d7:Rp K H .non .non:=by unfold Rp;rfl
theorem Qs{b:Bool}:Rp K H (.bl b) (.bl b):=by unfold Rp;rfl
theorem W7{i:Int}:Rp K H (.int i) (.int i):=by unfold Rp;rfl
theorem Ll{x:Str}(h:JP x):Rp K H (.str x) (.str x):=by unfold Rp;exact⟨rfl,h⟩
theorem Nh{a:A2}(hz:ds.length<=sizeLine)(h:Dx K H a vs)(r:Vc K H ds vs):Rp K H (.tup ds) (.ref a):=by unfold Rp;exact⟨hz,a,vs,rfl,h,r⟩
theorem K6{a:A2}(hz:ds.length<=sizeLine)(h:SL K H a vs)(r:Vc K H ds vs):Rp K H (.lst ds) (.ref a):=by unfold Rp;exact⟨hz,a,vs,rfl,h,r⟩
theorem QS(h:Rp K H .non v):v=.non:=by unfold Rp at h;exact h
theorem Ps{b:Bool}(h:Rp K H (.bl b) v):v=.bl b:=by unfold Rp at h;exact h
theorem Ls{i:Int}(h:Rp K H (.int i) v):v=.int i:=by unfold Rp at h;exact h
theorem QZ{x:Str}(h:Rp K H (.str x) v):v=.str x/\JP x:=by unfold Rp at h;exact h
theorem Su(h:Rp K H (.tup ds) v):∃ a vs,v=.ref a/\Dx K H a vs/\Vc K H ds vs:=by unfold Rp at h;exact h.2
theorem hQ(h:Rp K H (.tup ds) v):ds.length<=sizeLine:=by unfold Rp at h;exact h.1
theorem df(h:Rp K H (.lst ds) v):ds.length<=sizeLine:=by unfold Rp at h;exact h.1
theorem Ey(h:Rp K H (.lst ds) v):∃ a vs,v=.ref a/\SL K H a vs/\Vc K H ds vs:=by unfold Rp at h;exact h.2
theorem Fq(h:Rp K H (.box t ds) v):∃ a us,v=.ref a/\MX K H t a us/\Vc K H ds us:=by unfold Rp at h;exact h
theorem Oa{a:A2}(h:MX K H t a us)(r:Vc K H ds us):Rp K H (.box t ds) (.ref a):=by unfold Rp;exact⟨a,us,rfl,h,r⟩
variable{xs:Z Dat}{t:TT}
def XO(K:E')(H:Hp)(c f:Str)(ns:Z Int)(v:V):Prop:=∃ (e C dx:A2) (j:Z (Str×V)) (a:A2),v=.ref e/\H e=some (.ext (O1 e C (some dx)))/\Te K c C/\H dx=some (.xd j)/\(∀ g,g≠f->j.lookup g=none)/\j.lookup f=some (.ref a)/\H a=some (.lst (ns.map V.int))/\ns.length<=sizeLine
theorem XO.mono{f:Str}(h:XO K H c f ns v)(e:Zv H H'):XO K H' c f ns v:=by
 obtain⟨x,C,dx,j,a,h1,h2,h3,h4,h5,h6,h7,w⟩:=h;exact⟨x,C,dx,j,a,h1,e _ _ h2,h3,e _ _ h4,h5,h6,e _ _ h7,w⟩
theorem XO.rp{f:Str}(h:XO K H c f ns v):Rp K H (.exc c [(f,.nums ns)]) v:=by
 obtain⟨x,C,dx,j,a,h1,h2,h3,h4,h5,h6,h7,w⟩:=h;unfold Rp;refine⟨x,C,some dx,h1,.inl h2,h3,j,h4,λg=>?_⟩;by_cases S:g=f
 .subst S;exact .inr ⟨.nums ns,.ref a,by simp[List.lookup],h6,a,rfl,.inl (.inl h7),w⟩
 .exact .inl ⟨by simp only[List.lookup];rw[show(g==f)=false from by simpa using S],h5 g S⟩
def Pk(K:E')(A:AS)(H:Hp)(d:Dat)(v:V):Prop :=
 Rp K (av H A) d v\/(∃ a vs ds,d=.lst ds/\v=.ref a/\ds.length<=sizeLine/\H a=some (.lst vs)/\Vc K (av H A) ds vs)\/(∃ c f ns,d=.exc c [(f,.nums ns)]/\XO K H c f ns v)\/∃ kvs a,d=.dct kvs/\v=.ref a/\kvs.length<=sizeLine/\H a=some (.dT (NC kvs))
section
variable{K:E'}{A:AS}{H H':Hp}{d:Dat}{v:V}
theorem Pk.mono(e:Zv H H')(h:Pk K A H d v):Pk K A H' d v:=by
 rcases h with h | ⟨a,vs,ds,e1,e2,hz,e3,e4⟩ | ⟨c,f,ns,e1,e2⟩ | ⟨kvs,a,e1,e2,e3,e4⟩
 .exact .inl (h.mono (V0 e))
 .exact .inr (.inl ⟨a,vs,ds,e1,e2,hz,e _ _ e3,e4.mono (V0 e)⟩)
 .exact .inr (.inr (.inl ⟨c,f,ns,e1,e2.mono e⟩))
 .exact .inr (.inr (.inr ⟨kvs,a,e1,e2,e3,e _ _ e4⟩))
theorem Pk.rp(h:Pk K A H d v):Rp K H d v:=by
 rcases h with h | ⟨a,vs,ds,e1,e2,hz,e3,e4⟩ | ⟨c,f,ns,e1,e2⟩ | ⟨kvs,a,e1,e2,e3,e4⟩
 .exact h.mono Wn
 .subst e1 e2;exact K6 hz (.inl (.inl e3)) (e4.mono Wn)
 .subst e1;exact e2.rp
 .subst e1;unfold Rp;exact⟨e3,a,e2,e4⟩
theorem Pk.lenL(h:Pk K A H (.lst ds) v):ds.length<=sizeLine:=df h.rp
theorem Pk.lenT(h:Pk K A H (.tup ds) v):ds.length<=sizeLine:=hQ h.rp
theorem Pk.non(h:Pk K A H .non v):v=.non:=QS h.rp
theorem Pk.bl{b:Bool}(h:Pk K A H (.bl b) v):v=.bl b:=Ps h.rp
theorem Pk.int{i:Int}(h:Pk K A H (.int i) v):v=.int i:=Ls h.rp
theorem Pk.str{x:Str}(h:Pk K A H (.str x) v):v=.str x/\JP x:=QZ h.rp
theorem Pk.tup{ds:Z Dat}(h:Pk K A H (.tup ds) v):∃ a vs,v=.ref a/\Dx K H a vs/\Vc K (av H A) ds vs:=by
 rcases h with h | ⟨a,vs,ds,e1,e2,e3,e4⟩ | ⟨c,f,ns,e1,e2⟩ | ⟨kvs,a,e1,e2,e3,e4⟩
 .obtain⟨a,vs,e1,e2,e3⟩:=Su h
  exact⟨a,vs,e1,Wn.seqT e2,e3⟩
 .cases e1
 .cases e1
 .cases e1
theorem Pk.lst{ds:Z Dat}(h:Pk K A H (.lst ds) v):∃ a vs,v=.ref a/\SL K H a vs/\Vc K (av H A) ds vs:=by
 rcases h with h | ⟨a,vs,ds',e1,e2,hz,e3,e4⟩ | ⟨c,f,ns,e1,e2⟩ | ⟨kvs,a,e1,e2,e3,e4⟩
 .obtain⟨a,vs,e1,e2,e3⟩:=Ey h
  exact⟨a,vs,e1,Wn.sl e2,e3⟩
 .cases e1;exact⟨a,vs,e2,.inl (.inl e3),e4⟩
 .cases e1
 .cases e1
end
mutual
def R8:Dat->Dat->Bool
 | .non,.non=>true
 | .bl a,.bl b=>a==b
 | .bl a,.int j=>(if a then 1 else 0)==j
 | .int i,.bl b=>i==(if b then 1 else 0)
 | .int i,.int j=>i==j
 | .str x,.str y=>x==y
 | .lst xs,.lst ys=>B5 xs ys
 | .tup xs,.tup ys=>B5 xs ys
 | _,_=>false
def B5:Z Dat->Z Dat->Bool
 | [],[]=>true
 | x::xs,y::ys=>R8 x y&&B5 xs ys
 | _,_=>false
end
def pd:Nat->Dat->Bool
 | 0,.lst _=>false
 | 0,.tup _=>false
 | n+1,.lst xs=>xs.all (pd n)
 | n+1,.tup xs=>xs.all (pd n)
 | _,.dct _=>false
 | _,.exc _ _=>false
 | _,.box _ _=>false
 | _,.non=>true
 | _,.bl _=>true
 | _,.int _=>true
 | _,.str _=>true
mutual
def KY:Dat->PyData
 | .non=>.none
 | .bl b=>.bool b
 | .int i=>.int i
 | .str x=>.str x
 | .tup xs=>.tuple (N2 xs)
 | .lst xs=>.list (N2 xs)
 | .dct _=>.none
 | .exc _ _=>.none
 | .box _ _=>.none
def N2:Z Dat->Z PyData
 | []=>[]
 | x::xs=>KY x::N2 xs
end
theorem Ft(h:pd n (.lst xs)=true):∃ m,n=m+1/\∀ x∈xs,pd m x=true:=by
 cases n with
 | zero=>cases h
 | succ n=>exact⟨n,rfl,by simpa[pd] using h⟩
theorem F3(h:pd n (.tup xs)=true):∃ m,n=m+1/\∀ x∈xs,pd m x=true:=by
 cases n with
 | zero=>cases h
 | succ n=>exact⟨n,rfl,by simpa[pd] using h⟩
theorem A8{xs}(h:pd n (.dct xs)=true):False:=by cases n<;>cases h
theorem F4{c xs}(h:pd n (.box c xs)=true):False:=by cases n<;>cases h
theorem Xl{c xs}(h:pd n (.exc c xs)=true):False:=by cases n<;>cases h
mutual
theorem Dn:∀ {n m:Nat} (x y:Dat),pd n x=true->pd m y=true->PyData.eqv (KY x) (KY y)=R8 x y
 | n,m,.dct _,y,h,_=>(A8 h).elim
 | n,m,.exc _ _,y,h,_=>(Xl h).elim
 | n,m,x,.dct _,_,h=>(A8 h).elim
 | n,m,x,.exc _ _,_,h=>(Xl h).elim
 | n,m,.box _ _,y,h,_=>(F4 h).elim
 | n,m,x,.box _ _,_,h=>(F4 h).elim
 | n,m,.non,.non,_,_=>rfl
 | n,m,.non,.bl _,_,_=>rfl
 | n,m,.non,.int _,_,_=>rfl
 | n,m,.non,.str _,_,_=>rfl
 | n,m,.non,.tup _,_,_=>rfl
 | n,m,.non,.lst _,_,_=>rfl
 | n,m,.bl _,.non,_,_=>rfl
 | n,m,.bl _,.bl _,_,_=>rfl
 | n,m,.bl _,.int _,_,_=>rfl
 | n,m,.bl _,.str _,_,_=>rfl
 | n,m,.bl _,.tup _,_,_=>rfl
 | n,m,.bl _,.lst _,_,_=>rfl
 | n,m,.int _,.non,_,_=>rfl
 | n,m,.int _,.bl _,_,_=>rfl
 | n,m,.int _,.int _,_,_=>rfl
 | n,m,.int _,.str _,_,_=>rfl
 | n,m,.int _,.tup _,_,_=>rfl
 | n,m,.int _,.lst _,_,_=>rfl
 | n,m,.str _,.non,_,_=>rfl
 | n,m,.str _,.bl _,_,_=>rfl
 | n,m,.str _,.int _,_,_=>rfl
 | n,m,.str _,.str _,_,_=>rfl
 | n,m,.str _,.tup _,_,_=>rfl
 | n,m,.str _,.lst _,_,_=>rfl
 | n,m,.lst _,.non,_,_=>rfl
 | n,m,.lst _,.bl _,_,_=>rfl
 | n,m,.lst _,.int _,_,_=>rfl
 | n,m,.lst _,.str _,_,_=>rfl
 | n,m,.lst _,.tup _,_,_=>rfl
 | n,m,.lst xs,.lst ys,h,k=>by
  obtain⟨p,_,hx⟩:=Ft h;obtain⟨m',_,hy⟩:=Ft k;simp only[KY,PyData.eqv,R8];exact O7 xs ys hx hy
 | n,m,.tup _,.non,_,_=>rfl
 | n,m,.tup _,.bl _,_,_=>rfl
 | n,m,.tup _,.int _,_,_=>rfl
 | n,m,.tup _,.str _,_,_=>rfl
 | n,m,.tup _,.lst _,_,_=>rfl
 | n,m,.tup xs,.tup ys,h,k=>by
  obtain⟨p,_,hx⟩:=F3 h;obtain⟨m',_,hy⟩:=F3 k;simp only[KY,PyData.eqv,R8];exact O7 xs ys hx hy
theorem O7:∀ {n m:Nat} (xs ys:Z Dat),(∀ x∈xs,pd n x=true)->(∀ y∈ys,pd m y=true)->PyData.eqvAll (N2 xs) (N2 ys)=B5 xs ys
 | n,m,[],[],_,_=>rfl
 | n,m,[],_::_,_,_=>rfl
 | n,m,_::_,[],_,_=>rfl
 | n,m,x::xs,y::ys,hx,hy=>by
  simp only[N2,PyData.eqvAll,B5];rw[Dn (n:=n) (m:=m) x y (hx x BD) (hy y BD),O7 (n:=n) (m:=m) xs ys (λz hz=>hx z (AX _ hz)) (λz hz=>hy z (AX _ hz))]
end
mutual
theorem Dv:∀ (n:Nat) (x:Dat),pd n x=true->(KY x).depth<=n
 | n,.dct _,h=>(A8 h).elim
 | n,.exc _ _,h=>(Xl h).elim
 | n,.box _ _,h=>(F4 h).elim
 | n,.non,_=>DH _
 | n,.bl _,_=>DH _
 | n,.int _,_=>DH _
 | n,.str _,_=>DH _
 | n,.lst xs,h=>by
  obtain⟨m,e,hx⟩:=Ft h;subst e;simp only[KY,PyData.depth];exact HZ (G7 m xs hx)
 | n,.tup xs,h=>by
  obtain⟨m,e,hx⟩:=F3 h;subst e;simp only[KY,PyData.depth];exact HZ (G7 m xs hx)
theorem G7:∀ (n:Nat) (xs:Z Dat),(∀ x∈xs,pd n x=true)->PyData.depthAll (N2 xs)<=n
 | n,[],_=>DH _
 | n,x::xs,h=>by
  simp only[N2,PyData.depthAll];exact Nat.max_le.mpr ⟨Dv n x (h x BD),G7 n xs λz hz=>h z (AX _ hz)⟩
end
mutual
theorem Rp.reads(I:D' X aa σ H s):∀ {n:Nat} (d:Dat) (v:V) (u:A1),pd n d=true->Rp X.K H d v->W5 v u->∃ as,Reads s.heap u (KY d) as/\(KY d).canLay0=true
 | n,.dct _,v,u,h,_,_=>(A8 h).elim
 | n,.exc _ _,v,u,h,_,_=>(Xl h).elim
 | n,.box _ _,v,u,h,_,_=>(F4 h).elim
 | n,.non,v,u,_,i,r=>by cases QS i;cases r;exact⟨_,.none,rfl⟩
 | n,.bl b,v,u,_,i,r=>by cases Ps i;cases r;exact⟨_,.bool b,rfl⟩
 | n,.int k,v,u,_,i,r=>by cases Ls i;obtain⟨t,rfl⟩:=r;exact⟨_,.int k t,rfl⟩
 | n,.str x,v,u,_,i,r=>by
  obtain⟨e,hs⟩:=QZ i;subst e;obtain⟨t,rfl⟩:=r;exact⟨_,.str x t,hs.ok⟩
 | n,.tup ds,v,u,h,i,r=>by
  obtain⟨m,_,hx⟩:=F3 h;obtain⟨a,vs,e1,e2,e3⟩:=Su i;subst e1;cases r;obtain⟨its,rv,⟨o,J,hc,k,hd⟩,_⟩:=I.tuple e2;obtain⟨as,ra,hl⟩:=Vc.reads I ds vs its hx e3 rv;exact⟨_,.tuple J hc hd (by simpa using ra),hl⟩
 | n,.lst ds,v,u,h,i,r=>by
  obtain⟨m,_,hx⟩:=Ft h;obtain⟨a,vs,e1,e2,e3⟩:=Ey i;subst e1;cases r;obtain⟨its,rv,⟨o,k,J,hc,_,hd⟩,_⟩:=I.list e2.sq;obtain⟨as,ra,hl⟩:=Vc.reads I ds vs its hx e3 rv;exact⟨_,.list J hc hd (by simpa using ra),hl⟩
theorem Vc.reads(I:D' X aa σ H s):∀ {n:Nat} (ds:Z Dat) (vs:Z V) (us:Z A1),(∀ x∈ds,pd n x=true)->Vc X.K H ds vs->Yl vs us->∃ as,ReadsAll s.heap us (N2 ds) as/\PyData.canLayAll0 (N2 ds)=true
 | n,[],vs,us,_,i,r=>by
  rw[Wx i] at r;cases r;exact⟨_,.nil,rfl⟩
 | n,d::ds,vs,us,h,i,r=>by
  obtain⟨v,rr,e1,e2,e3⟩:=Zw i;subst e1;cases r with
  | cons r1 r2 =>
   obtain⟨as,h1,l1⟩:=Rp.reads I d v _ (h d BD) e2 r1;obtain⟨bs,h2,l2⟩:=Vc.reads I ds rr _ (λz hz=>h z (AX _ hz)) e3 r2;exact⟨_,.cons h1 h2,by simp only[N2,PyData.canLayAll0,l1,l2];rfl⟩
end
theorem Rp.eqAt(I:D' X aa σ H s){A:B2}{m:Nat}{d e:Dat}{w:V}{R:A1}(hd:pd n d=true)(he:pd m e=true)(hn:n<=60)(hu:A.units+60<cLine)(r1:Rp X.K H d v)(r2:Rp X.K H e w)(q1:W5 v u)(q2:W5 w R) :
  SeqAt.EqAt A s u R (R8 d e):=by
 obtain⟨as,a1,a2⟩:=Rp.reads I d v u hd r1 q1;obtain⟨bs,b1,b2⟩:=Rp.reads I e w R he r2 q2;rw[<- Dn d e hd he];have:=Dv n d hd;exact SeqAt.eqAt_reads _ _ A s u R as bs a1 b1 a2 b2 (by lia)
variable{xs:Z α}{z:Str}
def NB:Cc HO->Prop
 | some (.lst _)=>True
 | some (.dK _)=>True
 | some (.dT _)=>True
 | some (.ins _ _ _)=>True
 | _=>False
def Qe(A:AS)(H:Hp):Prop:=∀ a,A a=true->NB (H a)
theorem Qe.new(m:Qe A H)(h:H p=none):A p=false:=by
 cases q:A p with
 | false=>rfl
 | true=>have:=m p q;rw[h] at this;exact this.elim
theorem Qe.mono(m:Qe A H)(e:Zv H H'):Qe A H':=λa h=>by
 have:=m a h;cases q:H a with
 | none=>rw[q] at this;exact this.elim
 | some o=>rw[q] at this;rw[e a o q];exact this
def ins(A:AS)(p:A2):AS:=λa=>A a||a==p
theorem Jn:ins A p p=true:=by simp[ins]
theorem Q5{a:A2}(h:A a=true):ins A p a=true:=by simp[ins,h]
theorem Gf{a:A2}(h:ins A p a=true):A a=true\/a=p:=by simpa[ins] using h
theorem RF{a:A2}(h:A a=false)(hn:a≠p):ins A p a=false:=by simp[ins,h,hn]
structure F' (A:AS) (H:Hp) (A':AS) (H':Hp):Prop where
 keep:∀ a o,H a=some o->A a=false->H' a=some o
 sub:∀ a,A' a=true->A a=true\/H a=none
theorem F'.refl(A:AS)(H:Hp):F' A H A H:=⟨λ_ _ h _=>h,λ_ h=>.inl h⟩
theorem F'.same(e:Zv H H'):F' A H A H':=⟨λa o h _=>e a o h,λ_ h=>.inl h⟩
theorem F'.trans{g f:AS}(a:F' A H g H1)(b:F' g H1 f H2):F' A H f H2 where
 keep:=λc o h hA=>b.keep c o (a.keep c o h hA) (by
  cases q:g c with
  | false=>rfl
  | true =>
   rcases a.sub c q with z | z
   .rw[z] at hA;cases hA
   .rw[z] at h;cases h)
 sub:=λc h=>by
  rcases b.sub c h with z | z
  .exact a.sub c z
  .cases d:A c with
   | true=>exact .inl rfl
   | false =>
    cases q:H c with
    | none=>exact .inr rfl
    | some o=>rw[a.keep c o q d] at z;cases z
theorem F'.av(s:F' A H A' H'):Zv (av H A) (av H' A'):=λb o e=>by
 obtain⟨h1,h2⟩:=Tc e;refine U1 (s.keep b o h2 h1) ?_;cases q:A' b with
 | false=>rfl
 | true =>
  rcases s.sub b q with z | z
  .rw[z] at h1;cases h1
  .rw[z] at h2;cases h2
inductive GX where
 | nest (dss:List (List Dat)) | dict (kvs:List (List U0×Dat)) | err (c f:Str) (ns:List Int) | dik (kvs:List (Int×Dat)) | pair (c:Str) (ds:List Dat)
def LD(K:E')(A:AS)(H:Hp)(o:A2->Prop):GX->V->Prop
 | .nest dss,v=>∃ (a:A2) (as:Z A2),v=.ref a/\o a/\dss.length<=sizeLine/\H a=some (.lst (as.map V.ref))/\as.length=dss.length/\as.Nodup/\a∉as/\∀ (n:Nat) b ds,as[n]?=some b->dss[n]?=some ds->o b/\ds.length<=sizeLine/\∃ vs,H b=some (.lst vs)/\Vc K (av H A) ds vs
 | .dict kvs,v=>∃ (a:A2) (us:Z (Z U0×V)),v=.ref a/\o a/\kvs.length<=sizeLine/\H a=some (.dT us)/\us.map (·.1)=kvs.map (·.1)/\Vc K (av H A) (kvs.map (·.2)) (us.map (·.2))
 | .err c f ns,v=>∃ (e C dx:A2) (j:Z (Str×V)) (a:A2),v=.ref e/\av H A e=some (.ext (O1 e C (some dx)))/\Te K c C/\av H A dx=some (.xd j)/\(∀ g,g≠f->j.lookup g=none)/\j.lookup f=some (.ref a)/\o a/\H a=some (.lst (ns.map V.int))/\ns.length<=sizeLine
 | .dik kvs,v=>∃ (a:A2) (us:Z (U0×V)),v=.ref a/\o a/\kvs.length<=sizeLine/\H a=some (.dK us)/\us.map (·.1)=kvs.map (λp=>(Sum.inl p.1:U0))/\Vc K (av H A) (kvs.map (·.2)) (us.map (·.2))
 | .pair c ds,v=>∃ (t a:A2) (us:Z V),v=.ref t/\av H A t=some (.tup [.str c,.ref a])/\JP c/\o a/\ds.length<=sizeLine/\H a=some (.lst us)/\Vc K (av H A) ds us
theorem LD.frame{o o':A2->Prop}{g:GX}(h:LD K A H o g v)(J:∀ b,o b->o' b)(hf:∀ b x,o b->H b=some x->H' b=some x)(Y:Zv (av H A) (av H' A')):LD K A' H' o' g v:=by
 cases g with
 | nest dss =>
  obtain⟨a,as,e1,e2,e3,e4,e5,s,e7,e8⟩:=h;refine⟨a,as,e1,J a e2,e3,hf _ _ e2 e4,e5,s,e7,λn b ds q1 q2=>?_⟩;obtain⟨f1,f2,vs,f3,m⟩:=e8 n b ds q1 q2;exact⟨J b f1,f2,vs,hf _ _ f1 f3,m.mono Y⟩
 | dict kvs =>
  obtain⟨a,us,e1,e2,e3,e4,e5,s⟩:=h;exact⟨a,us,e1,J a e2,e3,hf _ _ e2 e4,e5,s.mono Y⟩
 | err c f ns =>
  obtain⟨x,C,dx,j,a,h1,h2,h3,h4,h5,h6,h7,w,h9⟩:=h;exact⟨x,C,dx,j,a,h1,Y _ _ h2,h3,Y _ _ h4,h5,h6,J a h7,hf _ _ h7 w,h9⟩
 | dik kvs =>
  obtain⟨a,us,e1,e2,e3,e4,e5,s⟩:=h;exact⟨a,us,e1,J a e2,e3,hf _ _ e2 e4,e5,s.mono Y⟩
 | pair c ds =>
  obtain⟨t,a,us,e1,e2,e3,e4,e5,s,e7⟩:=h;exact⟨t,a,us,e1,Y _ _ e2,e3,J a e4,e5,hf _ _ e4 s,e7.mono Y⟩
variable{st:Bool}
inductive JB where
 | un | fz (d:Dat) | pk (d:Dat) | ow (ds:List Dat) | gx (g:GX)
abbrev Ev:=Z JB
abbrev Zzu:=Ev->Cc Dat
abbrev Zzv:=Ev->Cc (Z Dat)
def Fw(K:E')(A:AS)(H:Hp)(o:A2->Prop):JB->Cc V->Prop
 | .un,_=>True
 | .fz d,x=>∃ v,x=some v/\Rp K (av H A) d v
 | .pk d,x=>∃ v,x=some v/\Pk K A H d v
 | .ow ds,x=>∃ a vs,x=some (.ref a)/\o a/\ds.length<=sizeLine/\H a=some (.lst vs)/\Vc K (av H A) ds vs
 | .gx g,x=>∃ v,x=some v/\LD K A H o g v
structure Bs where
 H₀:Hp
 R:AS
 st:Bool
structure C' (K:E') (B:Bs) (A:AS) (H:Hp) (σ:St) (env:Ev):Prop where
 h0:Zv B.H₀ H
 r0:∀ a,B.R a=true->∃ o,B.H₀ a=some o
 ra:∀ a,B.R a=true->A a=true
 ar:∀ a,A a=true->B.R a=true\/B.H₀ a=none
 mu:Qe A H
 len:σ.length=env.length
 np:B.st=true->∀ (i:Nat) d,env[i]?≠some (.pk d)
 sl:∃ own:Nat->Addr->Prop,(∀ i j a,own i a->own j a->i=j)/\(∀ i a,own i a->A a=true/\B.R a=false) /\
  ∀ (i:Nat) s,env[i]?=some s->∃ x,σ[i]?=some x/\Fw K A H (own i) s x
theorem Fw.mono(e:Zv H H'){o:A2->Prop}{s:JB}{x:Cc V}(h:Fw K A H o s x):Fw K A H' o s x:=by
 cases s with
 | un=>trivial
 | fz d=>obtain⟨v,e1,e2⟩:=h;exact⟨v,e1,e2.mono (V0 e)⟩
 | pk d=>obtain⟨v,e1,e2⟩:=h;exact⟨v,e1,e2.mono e⟩
 | ow ds=>obtain⟨a,vs,e1,e2,hz,e3,e4⟩:=h;exact⟨a,vs,e1,e2,hz,e _ _ e3,e4.mono (V0 e)⟩
 | gx g=>obtain⟨v,e1,e2⟩:=h;exact⟨v,e1,e2.frame (λ_ z=>z) (λb x _ q=>e b x q) (V0 e)⟩
theorem C'.mono{B:Bs}{env:Ev}(k:C' K B A H σ env)(e:Zv H H'):C' K B A H' σ env:=by
 obtain⟨own,h1,h2,h4⟩:=k.sl;exact⟨k.h0.trans e,k.r0,k.ra,k.ar,k.mu.mono e,k.len,k.np,own,h1,h2,λi s q=>let ⟨x,q2,q3⟩:=h4 i s q;⟨x,q2,q3.mono e⟩⟩
def Rm(m:Bool)(K:E')(A:AS)(H:Hp)(d:Dat)(v:V):Prop:=match m with
 | true=>Pk K A H d v
 | false=>Rp K (av H A) d v
theorem Rm.any{d:Dat}(h:Rp K (av H A) d v):Rm m K A H d v:=by
 cases m with
 | true=>exact .inl h
 | false=>exact h
theorem Rm.pk{d:Dat}(h:Rm m K A H d v):Pk K A H d v:=by
 cases m with
 | true=>exact h
 | false=>exact .inl h
theorem Rm.mono(e:Zv H H'){d:Dat}(h:Rm m K A H d v):Rm m K A H' d v:=by
 cases m with
 | true=>exact Pk.mono e h
 | false=>exact Rp.mono (V0 e) h
def KD(m:Bool)(K:E')(A:AS)(H:Hp):Z Dat->Z V->Prop
 | [],vs=>vs=[]
 | d::ds,vs=>∃ v r,vs=v::r/\Rm m K A H d v/\KD m K A H ds r
theorem KD.rps:∀ {ds:Z Dat} {vs:Z V},KD false K A H ds vs->Vc K (av H A) ds vs
 | [],vs,h=>by rw[show vs=[] from h];exact Qh
 | _::_,_,⟨v,r,e1,e2,e3⟩=>by rw[e1];exact Yr e2 (KD.rps e3)
theorem KD.one{d:Dat}(h:KD m K A H [d] vs):∃ v,vs=[v]/\Pk K A H d v:=by
 obtain⟨v,r,e1,e2,e3⟩:=h;exact⟨v,by rw[e1,show r=[] from e3],e2.pk⟩
theorem KD.two{d d':Dat}(h:KD m K A H [d,d'] vs):∃ v P,vs=[v,P]/\Pk K A H d v/\Pk K A H d' P:=by
 obtain⟨v,r,e1,e2,P,r',e3,e4,e5⟩:=h;exact⟨v,P,by rw[e1,e3,show r'=[] from e5],e2.pk,e4.pk⟩
def Qc(m:Bool)(K:E')(A:AS)(H:Hp)(d:Dat)(Q:VK):Prop:=∀ v H',Zv H H'->Rm m K A H' d v->Q v H'
variable{R:Bs}{env:Ev}{p:Pos}
def Oj(K:E')(A:AS)(H:Hp)(ds:Z Dat)(Q:VK):Prop:=∀ p vs H',ds.length<=sizeLine->Zv H H'->H p=none->H' p=some (.lst vs)->Vc K (av H' (ins A p)) ds vs->Q (.ref p) H'
section
variable{m:Bool}{K:E'}{A:AS}{H H':Hp}{d:Dat}{ds:Z Dat}{Q:VK}
theorem Qc.mono(h:Qc m K A H d Q)(e:Zv H H'):Qc m K A H' d Q:=λv H2 e2 r=>h v H2 (e.trans e2) r
theorem Oj.mono(h:Oj K A H ds Q)(e:Zv H H'):Oj K A H' ds Q:=λp vs H2 hz e2 hn F r=>h p vs H2 hz (e.trans e2) (e.free hn) F r
theorem Qc.any(h:Qc m K A H d Q):Qc false K A H d Q:=λv H' e r=>h v H' e (Rm.any r)
theorem Qc.here(h:Qc m K A H d Q)(r:Rp K (av H A) d v):Q v H:=h v H (Zv.refl H) (Rm.any r)
theorem Qc.new(h:Qc m K A H (.lst ds) Q)(mu:Qe A H):Oj K A H ds Q:=λp vs H' hz e hn F r=>by
 refine h _ H' e (Rm.any (K6 hz (.inl (.inl (U1 F (mu.new hn)))) (r.mono (Qm λa q=>Q5 q))))
theorem Oj.at(h:Oj K A H ds Q)(hz:ds.length<=sizeLine)(r:Vc K (av H A) ds vs):∀ p,H p=none->Q (.ref p) (Wq H p (.lst vs)):=λp F=>by
 refine h p vs _ hz (Zv.new F) F Y5 (r.mono λb o e=>?_);obtain⟨h1,h2⟩:=Tc e;have hb:b≠p:=Ym h2 F;exact U1 (by rw[Zp hb];exact h2) (RF h1 hb)
theorem Qc.tup{vs:Z V}(h:Qc m K A H (.tup ds) Q)(mu:Qe A H)(hz:ds.length<=sizeLine)(r:Vc K (av H A) ds vs):∀ p,H p=none->Q (.ref p) (Wq H p (.tup vs)):=λp F=>by
 refine h _ _ (Zv.new F) (Rm.any (Nh hz (.inl ((U1 Y5 (mu.new F)))) (r.mono (V0 (Zv.new F)))))
end
def Wy(m:Bool)(X:Cx)(e:Cs)(f:Zzu):Prop:=PE X e λσ H Q=>∃ env R A d,C' X.K R A H σ env/\f env=some d/\Qc m X.K A H d Q
def KB(X:Cx)(e:Cs)(f:Zzv):Prop:=PE X e λσ H Q=>∃ env R A ds,C' X.K R A H σ env/\f env=some ds/\Oj X.K A H ds Q
def Bp(m:Bool)(X:Cx)(es:Z Cs)(f:Zzv):Prop:=PA X es λσ H Q=>∃ env R A ds,C' X.K R A H σ env/\f env=some ds/\∀ vs H',Zv H H'->KD m X.K A H' ds vs->Q vs H'
def Cb(X:Cx)(e:Cs)(f:Ev->Cc Bool):Prop:=PT X e λσ H Q=>∃ env R A b,C' X.K R A H σ env/\f env=some b/\∀ H',Zv H H'->Q b H'
def Ah(X:Cx)(e:Cs)(f:Ev->Cc Bool):Prop:=PW X e λσ H Q=>∃ env R A b,C' X.K R A H σ env/\f env=some b/\∀ H',Zv H H'->Q b H'
theorem PE.weak{t t':TE}(h:PE X e t)(w:∀ σ H Q,t' σ H Q->t σ H Q):PE X e t':=λaa s σ H Q I q=>h aa s σ H Q I (w σ H Q q)
theorem PT.weak(h:PT X e t)(w:∀ σ H Q,t' σ H Q->t σ H Q):PT X e t':=λaa s σ H Q I q=>h aa s σ H Q I (w σ H Q q)
theorem PW.weak(h:PW X e t)(w:∀ σ H Q,t' σ H Q->t σ H Q):PW X e t':=λd aa s σ H Q I q=>h d aa s σ H Q I (w σ H Q q)
theorem PA.weak{e:Z Cs}{t t':TA}(h:PA X e t)(w:∀ σ H Q,t' σ H Q->t σ H Q):PA X e t':=λpos aa s σ H Q I q=>h pos aa s σ H Q I (w σ H Q q)
theorem PS.weak{e:C2}{t t':TS}(h:PS X e t)(w:∀ D σ H,t' D σ H->t D σ H):PS X e t':=λaa s σ H D I q=>h aa s σ H D I (w D σ H q)
theorem Ku.weak{e:Z C2}{t t':TS}(h:Ku X e t)(w:∀ D σ H,t' D σ H->t D σ H):Ku X e t':=λaa s σ H D I q=>h aa s σ H D I (w D σ H q)
section
variable{m:Bool}{X:Cx}{e:Cs}{f:Zzu}
theorem Wy.any(h:Wy false X e f):Wy m X e f:=h.weak λ_ _ _ ⟨env,R,A,d,k,q1,q2⟩=>⟨env,R,A,d,k,q1,q2.any⟩
def dL(g:Zzv):Ev->Cc Dat:=λenv=>(g env).map .lst
theorem KB.x{g:Zzv}(h:KB X e g):Wy m X e (dL g):=h.weak λ_ _ _ M=>by
 obtain⟨env,R,A,d,k,q1,q2⟩:=M;unfold dL at q1;cases q:g env with
 | none=>rw[q] at q1;cases q1
 | some ds =>
  rw[q] at q1;cases q1;exact⟨env,R,A,ds,k,q,q2.new k.mu⟩
theorem Zi{a:Cc α}{g:α->Cc β}{b:β}(h:a.bind g=some b):∃ x,a=some x/\g x=some b:=by
 cases a with
 | none=>cases h
 | some x=>exact⟨x,rfl,h⟩
def U(i:Nat):Ev->Cc Dat:=λenv=>match env[i]? with
 | some (.fz d)=>some d
 | _=>none
def X9:Z (Z U0×Dat)->Cc (Z (Z U0×Int))
 | []=>some []
 | (k,.int n)::r=>(X9 r).map ((k,n)::·)
 | _=>none
theorem Bh:∀ {kvs:Z (Z U0×Dat)} {b:Z (Z U0×Int)},X9 kvs=some b->b.length=kvs.length
 | [],b,h=>by cases h;rfl
 | (k,.int n)::r,b,h=>by
   rw[X9] at h;cases e:X9 r with
   | none=>rw[e] at h;cases h
   | some r'=>rw[e] at h;cases h;rw[BJ,BJ,Bh e]
 | (k,.non)::r,b,h=>by cases h
 | (k,.bl _)::r,b,h=>by cases h
 | (k,.str _)::r,b,h=>by cases h
 | (k,.tup _)::r,b,h=>by cases h
 | (k,.lst _)::r,b,h=>by cases h
 | (k,.dct _)::r,b,h=>by cases h
 | (k,.exc _ _)::r,b,h=>by cases h
 | (k,.box _ _)::r,b,h=>by cases h
theorem Aj:∀ {kvs:Z (Z U0×Dat)} {b:Z (Z U0×Int)} {us:Z (Z U0×V)},X9 kvs=some b->us.map (·.1)=kvs.map (·.1)->Vc K H (kvs.map (·.2)) (us.map (·.2))->us=NC b
 | [],b,us,h,e1,_=>by
   cases h;cases us with
   | nil=>rfl
   | cons u us=>cases e1
 | (k,.int n)::r,b,us,h,e1,e2=>by
   rw[X9] at h;cases e:X9 r with
   | none=>rw[e] at h;cases h
   | some r' =>
     rw[e] at h;cases h;cases us with
     | nil=>cases e1
     | cons u us =>
       obtain⟨v,a,z1,z2,G⟩:=Zw e2;rw[BM] at z1;injection z1 with z1 T
       rw[BM,BM] at e1;injection e1 with e1 e3
       have ih:=Aj e e3 (T▸G);have hv:u.2=.int n:=by rw[z1];exact Ls z2
       rw[ih];show u::NC r'=(k,V.int n)::NC r';rw[show u=(k,V.int n) from GQ e1 hv]
 | (k,.non)::r,b,us,h,_,_=>by cases h
 | (k,.bl _)::r,b,us,h,_,_=>by cases h
 | (k,.str _)::r,b,us,h,_,_=>by cases h
 | (k,.tup _)::r,b,us,h,_,_=>by cases h
 | (k,.lst _)::r,b,us,h,_,_=>by cases h
 | (k,.dct _)::r,b,us,h,_,_=>by cases h
 | (k,.exc _ _)::r,b,us,h,_,_=>by cases h
 | (k,.box _ _)::r,b,us,h,_,_=>by cases h
def dP(i:Nat):Ev->Cc Dat:=λenv=>match env[i]? with
 | some (.fz d)=>some d
 | some (.pk d)=>some d
 | some (.ow ds)=>some (.lst ds)
 | some (.gx (.err c f ns))=>some (.exc c [(f,.nums ns)])
 | some (.gx (.dict kvs))=>(X9 kvs).map .dct
 | _=>none
theorem C'.fz{d:Dat}(k:C' X.K R A H σ env)(h:env[i]?=some (.fz d)):∃ v,σ[i]?=some (some v)/\Rp X.K (av H A) d v:=by
 obtain⟨own,h1,h2,h4⟩:=k.sl;obtain⟨x,q2,v,e1,e2⟩:=h4 i _ h;subst e1;exact⟨v,q2,e2⟩
theorem C'.look{d:Dat}(k:C' X.K R A H σ env)(h:dP i env=some d):∃ v,σ[i]?=some (some v)/\Pk X.K A H d v:=by
 obtain⟨own,h1,h2,h4⟩:=k.sl;unfold dP at h;split at h
 .rename_i z e
  cases h;obtain⟨x,q2,v,e1,e2⟩:=h4 i _ e;subst e1;exact⟨v,q2,.inl e2⟩
 .rename_i z e
  cases h;obtain⟨x,q2,v,e1,e2⟩:=h4 i _ e;subst e1;exact⟨v,q2,e2⟩
 .rename_i z e
  cases h;obtain⟨x,q2,a,vs,e1,e2,hz,e3,e4⟩:=h4 i _ e;subst e1;exact⟨.ref a,q2,.inr (.inl ⟨a,vs,z,rfl,rfl,hz,e3,e4⟩)⟩
 .rename_i c f ns e
  cases h;obtain⟨x,q2,v,e1,y,C,dx,j,a,h1,h2,h3,h4,h5,h6,h7,w,h9⟩:=h4 i _ e;subst e1;exact⟨v,q2,.inr (.inr (.inl ⟨c,f,ns,rfl,y,C,dx,j,a,h1,(Tc h2).2,h3,(Tc h4).2,h5,h6,w,h9⟩))⟩
 .rename_i kvs e
  obtain⟨x,q2,v,e1,a,us,W,g2,g3,t,r,g⟩:=h4 i _ e;subst e1;cases n:X9 kvs with
  | none=>rw[n] at h;cases h
  | some b =>
   rw[n] at h;cases h;exact⟨v,q2,.inr (.inr (.inr ⟨b,a,rfl,W,by rw[Bh n];exact g3,by rw[t,Aj n r g]⟩))⟩
 .cases h
theorem xv(i:Nat){x:Str}{pos:Pos}(hN:X.N[i]?=some x:=by rfl)(hv:KX X.env.scope x:=by ext)(hd:Cg x:=by decide)
  (af:(x==("__classdict__" : Str))=false:=by decide):Wy m X (.Name x pos) (U i):=Wy.any ((W8 hN hv hd af).weak λσ H Q M=>by
 obtain⟨env,R,A,d,k,q1,q2⟩:=M;unfold U at q1;split at q1
 .rename_i z e
  cases q1;obtain⟨v,h1,h2⟩:=k.fz e;exact⟨v,h1,q2.here h2⟩
 .cases q1)
theorem xo(i:Nat){x:Str}(hN:X.N[i]?=some x:=by rfl)(hv:KX X.env.scope x:=by ext)(hd:Cg x:=by decide)
  (af:(x==("__classdict__" : Str))=false:=by decide):Wy true X (.Name x pos) (dP i):=(W8 hN hv hd af).weak λσ H Q M=>by
 obtain⟨env,R,A,d,k,q1,q2⟩:=M;obtain⟨v,h1,h2⟩:=k.look q1;exact⟨v,h1,q2 v H (Zv.refl H) h2⟩
def dC(d:Dat):Ev->Cc Dat:=λ_=>some d
theorem XI{i:Int}{j pos}:Wy m X (.Constant (.int i) j pos) (dC (.int i)):=Wy.any (dQ.weak λ_ _ _ ⟨_,_,_,_,_,q1,q2⟩=>by cases q1;exact q2.here W7)
theorem cw{b:Bool}{j pos}:Wy m X (.Constant (.bool b) j pos) (dC (.bl b)):=Wy.any (f'.weak λ_ _ _ ⟨_,_,_,_,_,q1,q2⟩=>by cases q1;exact q2.here Qs)
theorem WI{x:Str}{j pos}(h:JP x:=by ext):Wy m X (.Constant (.str x) j pos) (dC (.str x)):=Wy.any (eS.weak λ_ _ _ ⟨_,_,_,_,_,q1,q2⟩=>by cases q1;exact q2.here (Ll h))
end
variable{x:Str}{t:Ev->Cc Bool}{g:Dat->Ev->Cc Ev}{B B':Bs}
def rD(K:E')(F:Dat->Dat->Cc Dat):R2:=λv u H Q=>∃ A x y d,Qe A H/\F x y=some d/\Pk K A H x v/\Pk K A H y u/\Qc false K A H d Q
def rN(K:E')(F:Dat->Dat->Cc (Z Dat)):R2:=λv u H Q=>∃ A x y ds,Qe A H/\F x y=some ds/\Pk K A H x v/\Pk K A H y u/\Oj K A H ds Q
def Sk(X:Cx)(f:A1->A1->Sem A1)(F:Dat->Dat->Cc Dat):Prop:=E3 X f (rD X.K F)
def OL(X:Cx)(f:A1->A1->Sem A1)(F:Dat->Dat->Cc (Z Dat)):Prop:=E3 X f (rN X.K F)
theorem E3.weak{r r':R2}(h:E3 X f r)(w:∀ x y H Q,r' x y H Q->r x y H Q):E3 X f r':=λaa s σ H x y v u Q I rx m q=>h aa s σ H x y v u Q I rx m (w _ _ _ _ q)
theorem OL.d{F:Dat->Dat->Cc (Z Dat)}(h:OL X f F):Sk X f (λx y=>(F x y).map .lst):=E3.weak h λv u H Q M=>by
 obtain⟨A,x,y,d,mu,e,p1,p2,q⟩:=M;dsimp only at e;cases z:F x y with
 | none=>rw[z] at e;cases e
 | some ds=>rw[z] at e;cases e;exact⟨A,x,y,ds,mu,z,p1,p2,q.new mu⟩
def L(F:Dat->Dat->Cc α)(f g:Zzu):Ev->Cc α:=λenv=>(f env).bind λx=>(g env).bind λy=>F x y
section
variable{m m1 m2:Bool}{X:Cx}{a b:Cs}{f g:Zzu}{F:Dat->Dat->Cc Dat}{G:Dat->Dat->Cc (Z Dat)}{pos:Pos}
theorem two{r:R2}{Q:VK}{x y:Dat}(k:C' X.K R A H σ env)(e1:f env=some x)(e2:g env=some y)
  (h:∀ v u H2,Zv H H2->Pk X.K A H2 x v->Pk X.K A H2 y u->Qe A H2->r v u H2 Q) :
  MT r (λσ H Q=>∃ env R A d,C' X.K R A H σ env/\f env=some d/\Qc m1 X.K A H d Q) (λσ H Q=>∃ env R A d,C' X.K R A H σ env/\g env=some d/\Qc m2 X.K A H d Q) σ H Q :=
 ⟨env,R,A,x,k,e1,λv H1 s1 p1=>⟨env,R,A,y,k.mono s1,e2,λu H2 s2 p2=>h v u H2 (s1.trans s2) (p1.pk.mono s2) p2.pk (k.mu.mono (s1.trans s2))⟩⟩
theorem Gi{F:Dat->Dat->Cc α}{d:α}(h:L F f g env=some d):∃ x y,f env=some x/\g env=some y/\F x y=some d:=by
 obtain⟨x,e1,h⟩:=Zi h;obtain⟨y,e2,h⟩:=Zi h;exact⟨x,y,e1,e2,h⟩
theorem VM{op:Operator}(J:Sk X (binaryOp op) F)(Y:Wy m1 X a f)(hb:Wy m2 X b g):Wy m X (.BinOp a op b pos) (L F f g):=Wy.any ((TZ J Y hb).weak λσ H Q M=>by
 obtain⟨env,R,A,d,k,q1,q2⟩:=M;obtain⟨x,y,e1,e2,e3⟩:=Gi q1;exact two k e1 e2 λv u H2 s p1 p2 mu=>⟨A,x,y,d,mu,e3,p1,p2,q2.mono s⟩)
theorem QL{op:Operator}(J:OL X (binaryOp op) G)(Y:Wy m1 X a f)(hb:Wy m2 X b g):KB X (.BinOp a op b pos) (L G f g):=(TZ J Y hb).weak λσ H Q M=>by
 obtain⟨env,R,A,d,k,q1,q2⟩:=M;obtain⟨x,y,e1,e2,e3⟩:=Gi q1;exact two k e1 e2 λv u H2 s p1 p2 mu=>⟨A,x,y,d,mu,e3,p1,p2,q2.mono s⟩
theorem SA{op:CmpOp}(J:Sk X (compareOp op) F)(Y:Wy m1 X a f)(hb:Wy m2 X b g)(hm:behindInMarks op b=false):Wy m X (.Compare a [op] [b] pos) (L F f g):=Wy.any ((ci J Y hb hm).weak λσ H Q M=>by
 obtain⟨env,R,A,d,k,q1,q2⟩:=M;obtain⟨x,y,e1,e2,e3⟩:=Gi q1;exact two k e1 e2 λv u H2 s p1 p2 mu=>⟨A,x,y,d,mu,e3,p1,p2,q2.mono s⟩)
def dB(f:Zzu):Ev->Cc Bool:=λenv=>match f env with
 | some (.bl b)=>some b
 | _=>none
theorem X7{b:Bool}(h:dB f env=some b):f env=some (.bl b):=by
 unfold dB at h;split at h
 .rename_i z e;cases h;exact e
 .cases h
theorem Ue(J:Sk X (compareOp op) F)(Y:Wy m1 X a f)(hb:Wy m2 X b g)(hm:behindInMarks op b=false):Cb X (.Compare a [op] [b] pos) (dB (L F f g)):=(c4 J Y hb hm).weak λσ H Q M=>by
 obtain⟨env,R,A,d,k,q1,q2⟩:=M;obtain⟨x,y,e1,e2,e3⟩:=Gi (X7 q1);show MT (rD X.K F) _ _ σ H (λx H'=>∃ k,x=.bl k/\Q k H');exact two k e1 e2 λv u H2 s p1 p2 mu=>⟨A,x,y,.bl d,mu,e3,p1,p2,λv H' s' r=>⟨d,r.pk.bl,q2 H' (s.trans s')⟩⟩
theorem SZ(J:JY X (rD X.K F))(Y:Wy m1 X a f)(hb:Wy m2 X b g)(hs:L4 b:=by exactλ_ _=>rfl):Wy m X (.Subscript a b pos) (L F f g):=Wy.any ((SC J Y hb hs).weak λσ H Q M=>by
 obtain⟨env,R,A,d,k,q1,q2⟩:=M;obtain⟨x,y,e1,e2,e3⟩:=Gi q1;exact two k e1 e2 λv u H2 s p1 p2 mu=>⟨A,x,y,d,mu,e3,p1,p2,q2.mono s⟩)
end
section
variable{m m1 m2:Bool}{X:Cx}{a b c:Cs}{ap:Z Cs}{f g h:Zzu}{t u:Ev->Cc Bool}{pos:Pos}
def Sc(t u:Ev->Cc Bool):Ev->Cc Bool:=λenv=>(t env).bind λb=>if b=true then u env else some false
def Fc(t u:Ev->Cc Bool):Ev->Cc Bool:=λenv=>(t env).bind λb=>if b=true then some true else u env
def Sf(t:Ev->Cc Bool):Ev->Cc Bool:=λenv=>(t env).map (!·)
theorem Et(Y:Cb X a t):Ah X (.BoolOp .And [a] pos) t:=bZ Y
theorem QT(Y:Cb X a t):Ah X (.BoolOp .Or [a] pos) t:=fU Y
theorem N1(Y:Cb X a t)(hb:Ah X (.BoolOp .And (b::ap) pos) u):Ah X (.BoolOp .And (a::b::ap) pos) (Sc t u):=(cS Y hb).weak λσ H Q M=>by
 obtain⟨env,R,A,d,k,q1,q2⟩:=M;obtain⟨x,e1,e2⟩:=Zi q1;refine⟨env,R,A,x,k,e1,λH1 s1=>?_⟩;cases x with
 | true =>
  rw[AF rfl] at e2 ⊢;exact⟨env,R,A,d,k.mono s1,e2,λH2 s2=>q2 H2 (s1.trans s2)⟩
 | false =>
  rw[AJ BO] at e2 ⊢;cases e2;exact q2 H1 s1
theorem PJ(Y:Cb X a t)(hb:Ah X (.BoolOp .Or (b::ap) pos) u):Ah X (.BoolOp .Or (a::b::ap) pos) (Fc t u):=(hB Y hb).weak λσ H Q M=>by
 obtain⟨env,R,A,d,k,q1,q2⟩:=M;obtain⟨x,e1,e2⟩:=Zi q1;refine⟨env,R,A,x,k,e1,λH1 s1=>?_⟩;cases x with
 | true =>
  rw[AF rfl] at e2 ⊢;cases e2;exact q2 H1 s1
 | false =>
  rw[AJ BO] at e2 ⊢;exact⟨env,R,A,d,k.mono s1,e2,λH2 s2=>q2 H2 (s1.trans s2)⟩
theorem Ah.pt(h:Ah X e t):Cb X e t:=PW.pt h
theorem M'(Y:Cb X a t):Cb X (.UnaryOp .Not a pos) (Sf t):=(gE Y).weak λσ H Q M=>by
 obtain⟨env,R,A,d,k,q1,q2⟩:=M;unfold Sf at q1;cases e:t env with
 | none=>rw[e] at q1;cases q1
 | some x =>
  rw[e] at q1;cases q1;exact⟨env,R,A,x,k,e,λH1 s1=>q2 H1 s1⟩
def MI(f g:Zzu):Ev->Cc Dat:=λenv=>(dB f env).bind λb=>if b=true then g env else some (.bl false)
theorem XR{op}(Y:Wy m X a f):Wy m X (.BoolOp op [a] pos) f:=fg Y
theorem UA(Y:Wy m1 X a f)(hb:Wy false X (.BoolOp .And (b::ap) pos) g):Wy m X (.BoolOp .And (a::b::ap) pos) (MI f g):=Wy.any ((cG Y hb).weak λσ H Q M=>by
 obtain⟨env,R,A,d,k,q1,q2⟩:=M;obtain⟨x,e1,e2⟩:=Zi q1;refine⟨env,R,A,.bl x,k,X7 e1,λv H1 s1 p1=>⟨x,p1.pk.bl,?_⟩⟩;cases x with
 | true =>
  rw[AF rfl] at e2 ⊢;exact⟨env,R,A,d,k.mono s1,e2,q2.mono s1⟩
 | false =>
  rw[AJ BO] at e2 ⊢;cases e2;exact(q2.mono s1).here Qs)
def SG(t:Ev->Cc Bool)(f g:Zzu):Ev->Cc Dat:=λenv=>(t env).bind λb=>if b=true then f env else g env
theorem UH(hc:Cb X c t)(Y:Wy m X a f)(hb:Wy m X b g):Wy m X (.IfExp c a b pos) (SG t f g):=(ie hc Y hb).weak λσ H Q M=>by
 obtain⟨env,R,A,d,k,q1,q2⟩:=M;obtain⟨x,e1,e2⟩:=Zi q1;refine⟨env,R,A,x,k,e1,λH1 s1=>?_⟩;cases x with
 | true =>
  rw[AF rfl] at e2 ⊢;exact⟨env,R,A,d,k.mono s1,e2,q2.mono s1⟩
 | false =>
  rw[AJ BO] at e2 ⊢;exact⟨env,R,A,d,k.mono s1,e2,q2.mono s1⟩
def eA:Dat->Cc Bool
 | .non=>some false
 | .bl b=>some b
 | .int i=>some (i != 0)
 | .str y=>some ((y.length:Int) != 0)
 | .lst xs=>some (!xs.isEmpty)
 | .tup xs=>some (!xs.isEmpty)
 | _=>none
def dT(f:Zzu):Ev->Cc Bool:=λenv=>(f env).bind eA
theorem Kf(r:Vc K H ds vs):vs.isEmpty=ds.isEmpty:=by
 cases ds with
 | nil=>rw[Wx r];rfl
 | cons d ds=>obtain⟨v,r',e,_⟩:=Zw r;rw[e];rfl
theorem Dz(Y:Wy true X a f)(he:∀ c,isTrue a X.env c=(do let v <- c;standAt a.pos;holding [v] (truthy v)):=by intro _;rfl):Cb X a (dT f):=(ig Y he).weak λσ H Q M=>by
 obtain⟨env,R,A,b,k,q1,q2⟩:=M;obtain⟨x,e1,e2⟩:=Zi q1;refine⟨env,R,A,x,k,e1,λv H1 s1 p1=>⟨b,?_,q2 H1 s1⟩⟩;have p:Pk X.K A H1 x v:=p1;cases x with
 | non=>cases e2;rw[p.non];rfl
 | bl d=>cases e2;rw[p.bl];rfl
 | int i=>cases e2;rw[p.int];rfl
 | str y=>cases e2;obtain⟨e,h⟩:=p.str;rw[e];exact⟨h.le,rfl⟩
 | lst xs=>cases e2;obtain⟨a',vs,e,h1,h2⟩:=p.lst;rw[e];exact .inl ⟨vs,h1.sq,by rw[Kf h2]⟩
 | tup xs=>cases e2;obtain⟨a',vs,e,h1,h2⟩:=p.tup;rw[e];exact .inr (.inl ⟨vs,h1,by rw[Kf h2]⟩)
 | dct _=>cases e2
 | exc _ _=>cases e2
 | box _ _=>cases e2
end
section
variable{m:Bool}{X:Cx}{e:Cs}{es:Z Cs}{f:Zzu}{fs:Zzv}{pos:Pos}
def Zb:Ev->Cc (Z Dat):=λ_=>some []
def O(f:Zzu)(fs:Zzv):Ev->Cc (Z Dat):=λenv=>(f env).bind λd=>(fs env).map λds=>d::ds
theorem Z7:Bp m X [] Zb:=Q4.weak λσ H Q ⟨env,R,A,ds,k,q1,q2⟩=>by cases q1;exact q2 [] H (Zv.refl H) rfl
theorem Z0(Y:Wy m X e f)(hr:Bp m X es fs)(hs:Z2 X.env e es:=by rfl):Bp m X (e::es) (O f fs):=(Vq Y hr hs).weak λσ H Q M=>by
 obtain⟨env,R,A,ds,k,q1,q2⟩:=M;obtain⟨d,e1,e2⟩:=Zi q1;cases e3:fs env with
 | none=>rw[e3] at e2;cases e2
 | some r =>
  rw[e3] at e2;cases e2;exact⟨env,R,A,d,k,e1,λv H1 s1 p1=>⟨env,R,A,r,k.mono s1,e3,λvs H2 s2 p2=>q2 (v::vs) H2 (s1.trans s2) ⟨v,vs,rfl,p1.mono s2,p2⟩⟩⟩
def Yq(fs:Zzv):Ev->Cc Dat:=λenv=>(fs env).bind λds=>if ds.length<=1000 then some (.tup ds) else none
def T7(fs:Zzv):Ev->Cc (Z Dat):=λenv=>(fs env).bind λds=>if ds.length<=1000 then some ds else none
theorem VQ{S}(h:Bp false X es fs):Wy m X (.Tuple es S pos) (Yq fs):=Wy.any ((QR h).weak λσ H Q M=>by
 obtain⟨env,R,A,d,k,q1,q2⟩:=M;obtain⟨ds,e1,e2⟩:=Zi q1;split at e2
 .rename_i hz
  cases e2;have l:ds.length<=sizeLine:=HB (Iw hz);refine⟨env,R,A,ds,k,e1,λvs H1 s1 p1=>⟨?_,(q2.mono s1).tup (k.mu.mono s1) l p1.rps⟩⟩;rw[Yh p1.rps];exact l
 .cases e2)
theorem Tt(h:Bp false X es fs):KB X (.List es pos) (T7 fs):=(VP h).weak λσ H Q M=>by
 obtain⟨env,R,A,d,k,q1,q2⟩:=M;obtain⟨ds,e1,e2⟩:=Zi q1;split at e2
 .rename_i hz
  cases e2;have l:d.length<=sizeLine:=HB (Iw hz);refine⟨env,R,A,d,k,e1,λvs H1 s1 p1=>⟨?_,(q2.mono s1).at l p1.rps⟩⟩;rw[Yh p1.rps];exact l
 .cases e2
def Hr(X:Cx)(f:A1)(F:Z Dat->Cc Dat):Prop:=Uq X f (λvs H Q=>∃ A ds d,Qe A H/\F ds=some d/\KD true X.K A H ds vs/\Qc false X.K A H d Q)
def SI(X:Cx)(f:A1)(F:Z Dat->Cc (Z Dat)):Prop:=Uq X f (λvs H Q=>∃ A ds d,Qe A H/\F ds=some d/\KD true X.K A H ds vs/\Oj X.K A H d Q)
theorem Uq.weak{f:A1}{r r':Z V->Hp->VK->Prop}(h:Uq X f r)(w:∀ xs H Q,r' xs H Q->r xs H Q):Uq X f r':=λaa s σ H xs us Q I rv q=>h aa s σ H xs us Q I rv (w _ _ _ q)
def dF(F:Z Dat->Cc α)(fs:Zzv):Ev->Cc α:=λenv=>(fs env).bind F
variable{x:Str}{p:Pos}{id T:String}{F:Z Dat->Cc Dat}{G:Z Dat->Cc (Z Dat)}
theorem WO(hc:Hr X (.builtin id) F)(hm:X.mg x=none)(Y:Bp true X (e::es) fs)(S:Gl X x:=by rfl)(hv:bootBuiltins x=some (.builtin id):=by ext)(hn:x≠"__name__" := by decide)(g:Cg x:=by decide)
  (he:Z2 X.env e es:=by rfl) (ae:dO pos X.env es:=by rfl):Wy m X (.Call (.Name x p) (e::es) [] pos) (dF F fs) :=
 Wy.any ((Ng hc S hm hv Y hn g he ae).weak λσ H Q M=>by
  obtain⟨env,R,A,d,k,q1,q2⟩:=M;obtain⟨ds,e1,e2⟩:=Zi q1;exact⟨env,R,A,ds,k,e1,λvs H1 s1 p1=>⟨A,ds,d,k.mu.mono s1,e2,p1,q2.mono s1⟩⟩)
theorem Vn(hc:Hr X (.type T) F)(hm:X.mg x=none)(Y:Bp true X (e::es) fs)(S:Gl X x:=by rfl)(hv:bootBuiltins x=some (.type T):=by ext)(hn:x≠"__name__" := by decide)(g:Cg x:=by decide)
  (he:Z2 X.env e es:=by rfl) (ae:dO pos X.env es:=by rfl):Wy m X (.Call (.Name x p) (e::es) [] pos) (dF F fs) :=
 Wy.any ((fQ hc S hm hv Y hn g he ae).weak λσ H Q M=>by
  obtain⟨env,R,A,d,k,q1,q2⟩:=M;obtain⟨ds,e1,e2⟩:=Zi q1;exact⟨env,R,A,ds,k,e1,λvs H1 s1 p1=>⟨A,ds,d,k.mu.mono s1,e2,p1,q2.mono s1⟩⟩)
theorem Fb(hc:SI X (.builtin id) G)(hm:X.mg x=none)(Y:Bp true X (e::es) fs)(S:Gl X x:=by rfl)(hv:bootBuiltins x=some (.builtin id):=by ext)(hn:x≠"__name__" := by decide)(g:Cg x:=by decide)
  (he:Z2 X.env e es:=by rfl) (ae:dO pos X.env es:=by rfl):KB X (.Call (.Name x p) (e::es) [] pos) (dF G fs) :=
 (Ng hc S hm hv Y hn g he ae).weak λσ H Q M=>by
  obtain⟨env,R,A,d,k,q1,q2⟩:=M;obtain⟨ds,e1,e2⟩:=Zi q1;exact⟨env,R,A,ds,k,e1,λvs H1 s1 p1=>⟨A,ds,d,k.mu.mono s1,e2,p1,q2.mono s1⟩⟩
end
section
variable{m m1:Bool}{X:Cx}{o e:Cs}{es:Z Cs}{f:Zzu}{fs:Zzv}{pos aj al:Pos}{name:Str}{T id:String}{α:Type}
def Ap(T:String):Dat->Bool
 | .str _=>T=="str"
 | .int _=>T=="int"
 | .lst _=>T=="list"
 | _=>false
theorem VG{d:Dat}(h:Ap T d=true)(p:Pk K A H d v):PZ K T v H:=by
 cases d with
 | str x=>rw[p.str.1];show T="str";simpa[Ap] using h
 | int x=>rw[p.int];show T="int";simpa[Ap] using h
 | lst x=>obtain⟨a,vs,e,h1,h2⟩:=p.lst;rw[e];exact .inl ⟨by simpa[Ap] using h,vs,h1.sq⟩
 | _=>cases h
def PP(X:Cx)(id:String)(F:Dat->Z Dat->Cc Dat):Prop:=Ch X id (λv vs H Q=>∃ A x ds d,Qe A H/\F x ds=some d/\Pk X.K A H x v/\KD true X.K A H ds vs/\Qc false X.K A H d Q)
def dM(T:String)(F:Dat->Z Dat->Cc α)(f:Zzu)(fs:Zzv):Ev->Cc α:=λenv=>(f env).bind λx=>if Ap T x=true then(fs env).bind λds=>F x ds else none
theorem eY{F:Dat->Z Dat->Cc α}{d:α}(h:dM T F f fs env=some d):∃ x ds,f env=some x/\Ap T x=true/\fs env=some ds/\F x ds=some d:=by
 obtain⟨x,e1,h⟩:=Zi h;split at h
 .rename_i ht
  obtain⟨ds,e2,h⟩:=Zi h;exact⟨x,ds,e1,ht,e2,h⟩
 .cases h
theorem Ch.weak{r r':V->Z V->Hp->VK->Prop}(h:Ch X id r)(w:∀ x xs H Q,r' x xs H Q->r x xs H Q):Ch X id r':=λaa s σ H x xs v us Q I rx rv q=>h aa s σ H x xs v us Q I rx rv (w _ _ _ _ q)
variable{F:Dat->Z Dat->Cc Dat}{G:Dat->Z Dat->Cc (Z Dat)}
theorem VT(pa:PlainAttrs T)(slot:Slot T name id)(b:typeOf (.builtin id)=pure (.type "method_descriptor"))(hm:PP X id F)(J:Wy m1 X o f)(Y:Bp true X (e::es) fs)
  (g:attributeBase o name X.env (eval o X.env)=eval o X.env:=by rfl)
  (ag:((backTo al (starEach (e::es) X.env)).all (λx=>!x.1)&&(backToKw al (keywordEach [] X.env)).all (λx=>x.1.isSome)
   && decide ((e::es).length+([]:Z Keyword).length+(if([]:Z Keyword).isEmpty then 0 else 1)<30))=true:=by rfl)
  (u:(aj.endLine==al.line)=true:=by rfl) (hs:Z2 X.env e es:=by rfl) (E:dO al X.env es:=by rfl) :
  Wy m X (.Call (.Attribute o name aj) (e::es) [] al) (dM T F f fs):=Wy.any ((RL pa slot b hm J Y g ag u hs E).weak λσ H Q M=>by
 obtain⟨env,R,A,d,k,q1,q2⟩:=M;obtain⟨x,ds,e1,ht,e2,e3⟩:=eY q1;exact⟨env,R,A,x,k,e1,λv H1 s1 p1=>⟨VG ht p1.pk,env,R,A,ds,k.mono s1,e2,λvs H2 s2 p2=>⟨A,x,ds,d,k.mu.mono (s1.trans s2),e3,p1.pk.mono s2,p2,q2.mono (s1.trans s2)⟩⟩⟩)
def TL(T:String)(F:Dat->Z Dat->Cc α)(f:Zzu):Ev->Cc α:=λenv=>(f env).bind λx=>if Ap T x=true then F x [] else none
theorem eZ(pa:PlainAttrs T)(slot:Slot T name id)(b:typeOf (.builtin id)=pure (.type "method_descriptor"))(hm:PP X id F)(J:Wy m1 X o f)
  (g:attributeBase o name X.env (eval o X.env)=eval o X.env:=by rfl) (u:(aj.endLine==al.line)=true:=by rfl):Wy m X (.Call (.Attribute o name aj) [] [] al) (TL T F f) :=
 Wy.any ((ZZ pa slot b hm J g u).weak λσ H Q M=>by
 obtain⟨env,R,A,d,k,q1,q2⟩:=M;obtain⟨x,e1,h⟩:=Zi q1;split at h
 .rename_i ht
  exact⟨env,R,A,x,k,e1,λv H1 s1 p1=>⟨VG ht p1.pk,A,x,[],d,k.mu.mono s1,h,p1.pk,rfl,q2.mono s1⟩⟩
 .cases h)
def OK(X:Cx)(e:Cc Cs)(f:Ev->Cc (Cc Int)):Prop:=PO X e λσ H Q=>∃ env R A i,C' X.K R A H σ env/\f env=some i/\∀ H',Zv H H'->Q i H'
def Sl:Ev->Cc (Cc Int):=λ_=>some none
def Jz(f:Zzu):Ev->Cc (Cc Int):=λenv=>match f env with
 | some (.int i)=>some (some i)
 | _=>none
theorem PO.weak{e:Cc Cs}{t t':TO}(h:PO X e t)(w:∀ σ H Q,t' σ H Q->t σ H Q):PO X e t':=λaa s σ H Q I q=>h aa s σ H Q I (w σ H Q q)
theorem Mp:OK X none Sl:=b8.weak λσ H Q ⟨env,R,A,i,k,q1,q2⟩=>by cases q1;exact q2 H (Zv.refl H)
theorem Mj(h:Wy m X e f):OK X (some e) (Jz f):=(iM h).weak λσ H Q M=>by
 obtain⟨env,R,A,i,k,q1,q2⟩:=M;unfold Jz at q1;split at q1
 .rename_i n e1
  cases q1;exact⟨env,R,A,_,k,e1,λv H1 s1 p1=>⟨n,p1.pk.int,q2 H1 s1⟩⟩
 .cases q1
def QQ(X:Cx)(F:Dat->Cc Int->Cc Int->Cc Dat):Prop:=JW X (λv lo hi H Q=>∃ A x d,Qe A H/\F x lo hi=some d/\Pk X.K A H x v/\Qc false X.K A H d Q)
def dS(F:Dat->Cc Int->Cc Int->Cc α)(f:Zzu)(g h:Ev->Cc (Cc Int)):Ev->Cc α:=λenv=>(f env).bind λx=>(g env).bind λl=>(h env).bind λu=>F x l u
variable{lo hi:Cc Cs}{gl gh:Ev->Cc (Cc Int)}{p2:Pos}
theorem YO{F:Dat->Cc Int->Cc Int->Cc α}{d:α}(h:dS F f gl gh env=some d):∃ x l u,f env=some x/\gl env=some l/\gh env=some u/\F x l u=some d:=by
 obtain⟨x,e1,h⟩:=Zi h;obtain⟨l,e2,h⟩:=Zi h;obtain⟨u,e3,h⟩:=Zi h;exact⟨x,l,u,e1,e2,e3,h⟩
theorem Cy{F:Dat->Cc Int->Cc Int->Cc Dat}(hr:QQ X F)(he:Wy m1 X e f)(hl:OK X lo gl)(hu:OK X hi gh):Wy m X (.Subscript e (.Slice lo hi none p2) pos) (dS F f gl gh):=Wy.any ((hq hr he hl hu).weak λσ H Q M=>by
 obtain⟨env,R,A,d,k,q1,q2⟩:=M;obtain⟨x,l,u,e1,e2,e3,e4⟩:=YO q1;exact⟨env,R,A,x,k,e1,λv H1 s1 p1=>⟨env,R,A,l,k.mono s1,e2,λH2 s2=>⟨env,R,A,u,k.mono (s1.trans s2),e3,λH3 P=>⟨A,x,d,k.mu.mono ((s1.trans s2).trans P),e4,p1.pk.mono (s2.trans P),q2.mono ((s1.trans s2).trans P)⟩⟩⟩⟩)
def SV(X:Cx)(g:A1->Sem A1)(F:Dat->Cc Dat):Prop:=LP X g (λv H Q=>∃ A x d,Qe A H/\F x=some d/\Pk X.K A H x v/\Qc false X.K A H d Q)
def dU(F:Dat->Cc Dat)(f:Zzu):Ev->Cc Dat:=λenv=>(f env).bind F
theorem PL{op:UnaryOp}{F:Dat->Cc Dat}(J:SV X (unaryOp op) F)(Y:Wy m1 X e f):Wy m X (.UnaryOp op e pos) (dU F f):=Wy.any ((cT J Y).weak λσ H Q M=>by
 obtain⟨env,R,A,d,k,q1,q2⟩:=M;obtain⟨x,e1,e2⟩:=Zi q1;exact⟨env,R,A,x,k,e1,λv H1 s1 p1=>⟨A,x,d,k.mu.mono s1,e2,p1.pk,q2.mono s1⟩⟩)
end
def P9(C:Int->Int->Prop)[∀ i j,Decidable (C i j)](g:Int->Int->Dat):Dat->Dat->Cc Dat
 | .int i,.int j=>if C i j then some (g i j) else none
 | _,_=>none
theorem NL{C:Int->Int->Prop}[∀ i j,Decidable (C i j)]{g:Int->Int->V}(h:E3 X f (rI C g))(S:∀ K H i j,Rp K H (G i j) (g i j)):Sk X f (P9 C G):=h.weak λv u H Q M=>by
 obtain⟨A,x,y,d,mu,e,p1,p2,q⟩:=M;unfold P9 at e;split at e
 .rename_i i j
  split at e
  .rename_i hc
   cases e;exact⟨i,j,p1.int,p2.int,hc,q.here (S _ _ _ _)⟩
  .cases e
 .cases e
theorem Hw{g:Int->Int->V}(h:E3 X f (KI g))(S:∀ K H i j,Rp K H (G i j) (g i j)):Sk X f (P9 (λ_ _=>True) G):=h.weak λv u H Q M=>by
 obtain⟨A,x,y,d,mu,e,p1,p2,q⟩:=M;unfold P9 at e;split at e
 .rename_i i j
  rw[AF trivial] at e;cases e;exact⟨i,j,p1.int,p2.int,q.here (S _ _ _ _)⟩
 .cases e
instance:∀ i j,Decidable (LY i j):=λi j=>by unfold LY;infer_instance
instance:∀ i j,Decidable (NW i j):=λi j=>by unfold NW;infer_instance
instance:∀ i j,Decidable (OI i j):=λi j=>by unfold OI;infer_instance
def Oi:=P9 (λ_ _=>True) λi j=>.int (i - j)
def Wc:=P9 NW λi j=>.int (i / j)
def V8:=P9 (λ_ j=>0<j) λi j=>.int (i % j)
def Ry:=P9 OI λi j=>.int (i*2^j.toNat)
def Ir:=P9 (λ_ j=>0<=j) λi j=>.int (i / 2^j.toNat)
def Md:=P9 (λ_ _=>True) λi j=>.int (Builtin.bitAnd i j)
def LL:=P9 (λ_ _=>True) λi j=>.int (Builtin.bitOr i j)
def Cu:=P9 (λ_ _=>True) λi j=>.int (Builtin.bitXor i j)
def QO:=P9 (λ_ _=>True) λi j=>.bl (decide (i<j))
def VO:=P9 (λ_ _=>True) λi j=>.bl (decide (i<=j))
def NZ:=P9 (λ_ _=>True) λi j=>.bl (decide (j<i))
def OY:=P9 (λ_ _=>True) λi j=>.bl (decide (j<=i))
theorem Lp:Sk X (binaryOp .Sub) Oi:=Hw fT λ_ _ _ _=>W7
theorem W4:Sk X (binaryOp .FloorDiv) Wc:=NL h8 λ_ _ _ _=>W7
theorem Wd:Sk X (binaryOp .Mod) V8:=NL fm λ_ _ _ _=>W7
theorem M9:Sk X (binaryOp .LShift) Ry:=NL hj λ_ _ _ _=>W7
theorem Nq:Sk X (binaryOp .RShift) Ir:=NL YF λ_ _ _ _=>W7
theorem M4:Sk X (binaryOp .BitAnd) Md:=Hw fG λ_ _ _ _=>W7
theorem ME:Sk X (binaryOp .BitOr) LL:=Hw eU λ_ _ _ _=>W7
theorem Bv:Sk X (binaryOp .BitXor) Cu:=Hw Y' λ_ _ _ _=>W7
theorem UQ:Sk X (compareOp .Lt) QO:=Hw ZQ λ_ _ _ _=>Qs
theorem eE:Sk X (compareOp .LtE) VO:=Hw du λ_ _ _ _=>Qs
theorem PD:Sk X (compareOp .Gt) NZ:=Hw fy λ_ _ _ _=>Qs
theorem iC:Sk X (compareOp .GtE) OY:=Hw ho λ_ _ _ _=>Qs
theorem Sk.or{F G E:Dat->Dat->Cc Dat}(h:Sk X f F)(h':Sk X f G)(he:∀ x y d,E x y=some d->F x y=some d\/G x y=some d):Sk X f E:=λaa s σ H x y v u Q I rx m M=>by
 obtain⟨A,a,b,d,mu,e,p1,p2,q⟩:=M;rcases he _ _ _ e with e | e
 .exact h aa s σ H x y v u Q I rx m ⟨A,a,b,d,mu,e,p1,p2,q⟩
 .exact h' aa s σ H x y v u Q I rx m ⟨A,a,b,d,mu,e,p1,p2,q⟩
def LS:Dat->Cc Dat
 | .int i=>some (.int (-i))
 | _=>none
theorem LP.weak{f:A1->Sem A1}{r r':V->Hp->VK->Prop}(h:LP X f r)(w:∀ x H Q,r' x H Q->r x H Q):LP X f r':=λaa s σ H x v Q I rx q=>h aa s σ H x v Q I rx (w _ _ _ q)
theorem OS:SV X (unaryOp .USub) LS:=LP.weak ee λv H Q M=>by
 obtain⟨A,x,d,mu,e,p,q⟩:=M;unfold LS at e;split at e
 .cases e;exact⟨_,p.int,q.here W7⟩
 .cases e
theorem Lq(h:∀ c∈cl x,c<0x110000):PyData.strOk x=true:=by
 unfold PyData.strOk;rw[HG];intro c hc;exact AM (h c (by simpa[cl] using hc))
theorem Gr(h:PyData.strOk x=true):∀ c∈cl x,c<0x110000:=by
 unfold PyData.strOk at h;rw[HG] at h;intro c hc;exact DC (h c (by simpa[cl] using hc))
theorem fq{y:Str}(h:PyData.strOk x=true)(k:PyData.strOk y=true):PyData.strOk (x++y)=true:=Lq λc hc=>by
 rw[TH] at hc;rcases BH.mp hc with z | z
 .exact Gr h c z
 .exact Gr k c z
theorem WK(x y:Str):(x++y).length=x.length+y.length:=by rw[<- Nv,TH,AH,Nv,Nv]
def RV:Dat->Dat->Cc Dat
 | .str x,.str y=>if x.length+y.length<=sizeLine then some (.str (x++y)) else none
 | _,_=>none
theorem g4:Sk X (binaryOp .Add) RV:=Cv.weak λv u H Q M=>by
 obtain⟨A,x,y,d,mu,e,p1,p2,q⟩:=M;unfold RV at e;split at e
 .rename_i i j
  split at e
  .rename_i hz
   cases e;obtain⟨e1,k1⟩:=p1.str;obtain⟨e2,k2⟩:=p2.str;exact⟨i,j,e1,e2,hz,q.here (Ll (JP.of (fq k1.ok k2.ok) (by rw[WK];exact hz)))⟩
  .cases e
 .cases e
def LV:Dat->Dat->Cc (Z Dat)
 | .lst xs,.lst ys=>if xs.length+ys.length<=sizeLine then some (xs++ys) else none
 | _,_=>none
theorem OP:OL X (binaryOp .Add) LV:=λaa s σ H x y v u Q I rx m M=>by
 obtain⟨A,a,b,d,mu,e,p1,p2,q⟩:=M;unfold LV at e;split at e
 .rename_i xs ys
  split at e
  .rename_i hz
   cases e;obtain⟨l1,vs,e1,h1,r1⟩:=p1.lst;obtain⟨l2,us,e2,h2,r2⟩:=p2.lst;subst e1 e2;cases rx;cases m;obtain⟨its,n,w1,W,_⟩:=h1.get I;obtain⟨f,n2,w2,g2,_⟩:=h2.get I;have z1:=w1.length;have z2:=w2.length;have G:=Yh r1;have T:=Yh r2;refine PySem.P.add_list W g2 ?_ (by rw[AO,AO];lia);have ea:its.toArray++f.toArray=(its++f).toArray:=by simp
   rw[ea];exact⟨.ref _,_,I.lnew (t':=s.toks) (w1.append w2) (by rw[AH];lia),rfl,q.at (by rw[AH];exact hz) (Vm r1 r2) _ I.fresh⟩
  .cases e
 .cases e
theorem hG(r:Vc K H ds vs)(h:ds.length≠0):vs≠[]:=by
 intro e;subst e;have:=Yh r;simp at this;lia
def Yi:Dat->Dat->Cc Dat
 | .int i,.int j=>some (.int (i+j))
 | .str x,.str y=>if x.length+y.length<=sizeLine then some (.str (x++y)) else none
 | .lst xs,.lst ys=>if xs.length+ys.length<=sizeLine then some (.lst (xs++ys)) else none
 | _,_=>none
theorem bn:Sk X (binaryOp .Add) (P9 (λ_ _=>True) λi j=>.int (i+j)):=Hw eQ λ_ _ _ _=>W7
theorem Y6:Sk X (binaryOp .Add) Yi:=by
 have h1:=Sk.or (E:=λx y=>match x,y with | .int i,.int j=>some (.int (i+j)) | .str x,.str y=>if x.length+y.length<=sizeLine then some (.str (x++y)) else none | _,_=>none) (bn (X:=X)) g4 (λx y d e=>by
  split at e
  .left;simp[P9];exact by simpa using e
  .right;simp only[RV];exact e
  .cases e)
 refine Sk.or h1 OP.d λx y d e=>?_
 unfold Yi at e;split at e
 .left;exact e
 .left;exact e
 .right
  rename_i xs ys;simp only[LV];split at e
  .rename_i hz;cases e;rw[AF hz];rfl
  .cases e
 .cases e
def UR:=P9 LY λi j=>.int (i*j)
theorem iU:Sk X (binaryOp .Mult) UR:=NL hH λ_ _ _ _=>W7
def Mz:Dat->Dat->Cc Dat:=λx y=>if(pd 20 x&&pd 20 y)=true then some (.bl (R8 x y)) else none
def Ag:Dat->Dat->Cc Dat:=λx y=>if(pd 20 x&&pd 20 y)=true then some (.bl (!R8 x y)) else none
theorem Tv(hu:X.A.units+64<cLine):Sk X (compareOp .Eq) Mz:=λaa s σ H x y v u Q I rx m M=>by
 obtain⟨A,a,b,d,mu,e,p1,p2,q⟩:=M;unfold Mz at e;split at e
 .rename_i F
  rw[BG] at F;cases e;obtain⟨as,a1,a2⟩:=Rp.reads I a x v F.1 p1.rp rx;obtain⟨bs,b1,b2⟩:=Rp.reads I b y u F.2 p2.rp m;have:=Dv 20 a F.1;refine SeqAt.compareEq_reads a1 b1 a2 b2 (by lia) ⟨.bl _,H,I,rfl,?_⟩;rw[Dn a b F.1 F.2];exact q.here Qs
 .cases e
theorem An(hu:X.A.units+64<cLine):Sk X (compareOp .NotEq) Ag:=λaa s σ H x y v u Q I rx m M=>by
 obtain⟨A,a,b,d,mu,e,p1,p2,q⟩:=M;unfold Ag at e;split at e
 .rename_i F
  rw[BG] at F;cases e;obtain⟨as,a1,a2⟩:=Rp.reads I a x v F.1 p1.rp rx;obtain⟨bs,b1,b2⟩:=Rp.reads I b y u F.2 p2.rp m;have:=Dv 20 a F.1;refine SeqAt.compareNe_reads a1 b1 a2 b2 (by lia) ⟨.bl _,H,I,rfl,?_⟩;rw[Dn a b F.1 F.2];exact q.here Qs
 .cases e
def ZK:Str->Str->Bool:=λi j=>!(Builtin.Str.occurrences j i 0 j.length 1).isEmpty
def LC:Dat->Dat->Cc Bool
 | x,.lst ys=>if(pd 20 x&&ys.all (pd 20))=true then some (ys.any λy=>R8 y x) else none
 | x,.tup ys=>if(pd 20 x&&ys.all (pd 20))=true then some (ys.any λy=>R8 y x) else none
 | .str i,.str j=>some (ZK i j)
 | _,_=>none
def LX:Dat->Dat->Cc Dat:=λx y=>(LC x y).map .bl
def Ov:Dat->Dat->Cc Dat:=λx y=>(LC x y).map λb=>.bl (!b)
theorem Rr(I:D' X aa σ H s)(hu:X.A.units+64<cLine){a:Dat}{x:V}{v:A1}(Y:pd 20 a=true)(rx:Rp X.K H a x)(d:W5 x v) :
  ∃ e:A1->Bool,∀ {ys:Z Dat} {vs:Z V} {us:Z A1},Vc X.K H ys vs->Yl vs us->(∀ y∈ys,pd 20 y=true)->(∀ u∈us,SeqAt.EqAt X.A.in1 s u v (e u))/\us.any e=ys.any λy=>R8 y a:=by
 classical
 have b:X.A.in1.units+60<cLine:=by show X.A.units+1+60<cLine;lia
 have D:∀ {y:Dat} {w:V} {u:A1},Rp X.K H y w->W5 w u->pd 20 y=true->SeqAt.EqAt X.A.in1 s u v (R8 y a):=λ{y w u} r q h=>Rp.eqAt I h Y (by decide) b r rx q d
 let e:A1->Bool:=λu=>decide (∃ (y:Dat) (w:V),Rp X.K H y w/\W5 w u/\pd 20 y=true/\R8 y a=true)
 have he:∀ {y:Dat} {w:V} {u:A1},Rp X.K H y w->W5 w u->pd 20 y=true->e u=R8 y a:=λ{y w u} r q h=>by
  cases z:R8 y a with
  | true=>exact AM ⟨y,w,r,q,h,z⟩
  | false =>
   refine AC ?_;rintro⟨S,B,r',G,h',z'⟩;have:=q.inj G;subst this;obtain⟨as,a1,a2⟩:=Rp.reads I y w u h r q;obtain⟨bs,b1,b2⟩:=Rp.reads I S w u h' r' q;have c:=SeqAt.Reads.unique _ _ _ _ _ a2 a1 b1;rw[<- Dn y a h Y,c,Dn S a h' Y,z'] at z;cases z
 refine⟨e,λ{ys}=>?_⟩;induction ys with
 | nil=>intro vs us r q _;rw[Wx r] at q;cases q;exact⟨λu hu=>(by cases hu),rfl⟩
 | cons y ys ih =>
  intro vs us r q F;obtain⟨w,f,e1,r1,r2⟩:=Zw r;subst e1;cases q with
  | cons q1 q2 =>
   rename_i u us;obtain⟨h1,h2⟩:=ih r2 q2 λz hz=>F z (AX _ hz)
   have hy:=F y BD;refine⟨λR b=>?_,?_⟩
   .rcases BN.mp b with z | z
    .subst z;rw[he r1 q1 hy];exact D r1 q1 hy
    .exact h1 R z
   .rw[FN,FN,h2,he r1 q1 hy]
theorem US(hu:X.A.units+64<cLine):Sk X (compareOp .In) LX:=λaa s σ H x y v u Q I rx m M=>by
 obtain⟨A,a,b,d,mu,e,p1,p2,q⟩:=M;unfold LX at e;unfold LC at e;split at e
 .rename_i ys
  split at e
  .rename_i F
   rw[BG,CD] at F;cases e;obtain⟨l,vs,e1,h1,r1⟩:=p2.lst;subst e1;cases m;obtain⟨its,w1,pl,_⟩:=I.list h1.sq;obtain⟨f,hf⟩:=Rr I hu F.1 p1.rp rx;obtain⟨k1,k2⟩:=hf (r1.mono Wn) w1 F.2;refine SeqAt.in_listAt f pl.isList (λw hw=>k1 w (by simpa using hw)) ⟨.bl _,H,I,rfl,?_⟩;rw[show its.toArray.any f=its.any f by simp,k2];exact q.here Qs
  .cases e
 .rename_i ys
  split at e
  .rename_i F
   rw[BG,CD] at F;cases e;obtain⟨l,vs,e1,h1,r1⟩:=p2.tup;subst e1;cases m;obtain⟨its,w1,pl,_⟩:=I.tuple h1;obtain⟨f,hf⟩:=Rr I hu F.1 p1.rp rx;obtain⟨k1,k2⟩:=hf (r1.mono Wn) w1 F.2;refine SeqAt.in_tupleAt f pl (λw hw=>k1 w (by simpa using hw)) ⟨.bl _,H,I,rfl,?_⟩;rw[show its.toArray.any f=its.any f by simp,k2];exact q.here Qs
  .cases e
 .rename_i i j
  cases e;obtain⟨e1,k1⟩:=p1.str;obtain⟨e2,k2⟩:=p2.str;exact ey aa s σ H x y v u Q I rx m ⟨i,j,e1,e2,q.here Qs⟩
 .cases e
theorem OU(hu:X.A.units+64<cLine):Sk X (compareOp .NotIn) Ov:=λaa s σ H x y v u Q I rx m M=>by
 obtain⟨A,a,b,d,mu,e,p1,p2,q⟩:=M;unfold Ov at e;unfold LC at e;split at e
 .rename_i ys
  split at e
  .rename_i F
   rw[BG,CD] at F;cases e;obtain⟨l,vs,e1,h1,r1⟩:=p2.lst;subst e1;cases m;obtain⟨its,w1,pl,_⟩:=I.list h1.sq;obtain⟨f,hf⟩:=Rr I hu F.1 p1.rp rx;obtain⟨k1,k2⟩:=hf (r1.mono Wn) w1 F.2;refine SeqAt.notIn_listAt f pl.isList (λw hw=>k1 w (by simpa using hw)) ⟨.bl _,H,I,rfl,?_⟩;rw[show its.toArray.any f=its.any f by simp,k2];exact q.here Qs
  .cases e
 .rename_i ys
  split at e
  .rename_i F
   rw[BG,CD] at F;cases e;obtain⟨l,vs,e1,h1,r1⟩:=p2.tup;subst e1;cases m;obtain⟨its,w1,pl,_⟩:=I.tuple h1;obtain⟨f,hf⟩:=Rr I hu F.1 p1.rp rx;obtain⟨k1,k2⟩:=hf (r1.mono Wn) w1 F.2;refine SeqAt.notIn_tupleAt f pl (λw hw=>k1 w (by simpa using hw)) ⟨.bl _,H,I,rfl,?_⟩;rw[show its.toArray.any f=its.any f by simp,k2];exact q.here Qs
  .cases e
 .rename_i i j
  cases e;obtain⟨e1,k1⟩:=p1.str;obtain⟨e2,k2⟩:=p2.str;exact Fh aa s σ H x y v u Q I rx m ⟨i,j,e1,e2,q.here Qs⟩
 .cases e
def Yk:Dat->Dat->Cc Dat
 | .lst xs,.int i=>Pe xs i
 | .tup xs,.int i=>Pe xs i
 | .str z,.int i=>(Pe (cl z) i).map λc=>.str ⟨#[c]⟩
 | _,_=>none
theorem UY{i:Int}{d:Dat}(r:Vc K H ds vs)(h:Pe ds i=some d):∃ v,Pe vs i=some v/\Rp K H d v:=by
 unfold Pe at h ⊢;rw[Yh r];obtain⟨j,e1,e2⟩:=Zi h;obtain⟨v,h1,h2⟩:=M2 r e2;exact⟨v,by rw[e1];exact h1,h2⟩
theorem dh{i:Int}{x:α}(h:Pe xs i=some x):x∈xs:=by
 unfold Pe at h;obtain⟨j,e1,e2⟩:=Zi h;exact AI e2
theorem bg{c:Nat}(h:JP z)(hc:c∈cl z):JP ⟨#[c]⟩:=JP.of (Lq λg t=>by
 have:g=c:=by simpa[cl] using t
 rw[this];exact Gr h.ok c hc) (by rw[<- Nv];simp[cl];decide)
theorem JY.weak{r r':R2}(h:JY X r)(w:∀ x y H Q,r' x y H Q->r x y H Q):JY X r':=λaq slice aa s σ H x y v u Q I rx m q hs=>h aq slice aa s σ H x y v u Q I rx m (w _ _ _ _ q) hs
theorem Zx:JY X (rD X.K Yk):=YN.weak λv u H Q M=>by
 obtain⟨A,x,y,d,mu,e,p1,p2,q⟩:=M;unfold Yk at e;split at e
 .rename_i xs i
  obtain⟨l,vs,e1,h1,r1⟩:=p1.lst;obtain⟨w,h2,r2⟩:=UY r1 e;exact .inl ⟨l,vs,i,w,e1,p2.int,h1.sq,h2,q.here r2⟩
 .rename_i xs i
  obtain⟨l,vs,e1,h1,r1⟩:=p1.tup;obtain⟨w,h2,r2⟩:=UY r1 e;exact .inr (.inl ⟨l,vs,i,w,e1,p2.int,h1,h2,q.here r2⟩)
 .rename_i z i
  obtain⟨e1,k1⟩:=p1.str;cases hc:Pe (cl z) i with
  | none=>rw[hc] at e;cases e
  | some c =>
   rw[hc] at e;cases e;exact .inr (.inr ⟨z,i,c,e1,p2.int,k1.le,hc,q.here (Ll (bg k1 (dh hc)))⟩)
 .cases e
theorem WB(lo hi:Cc Int)(r:Vc K H ds vs):Vc K H (Q7 ds lo hi) (Ak vs lo hi):=by
 unfold Q7 Ak;rw[Yh r];exact O4 _ (Nu _ r)
theorem dk{x:α}(h:x∈Q7 xs lo hi):x∈xs:=List.mem_of_mem_drop (GZ h)
theorem Hg(h:xs.length<=n):(Q7 xs lo hi).length<=n:=by unfold Q7;rw[BY,CS];lia
theorem JW.weak(h:JW X r)(w:∀ x lo hi H Q,r' x lo hi H Q->r x lo hi H Q):JW X r':=λaa s σ H x v vl vu lo hi sl Q I rx hs pl c q=>h aa s σ H x v vl vu lo hi sl Q I rx hs pl c (w _ _ _ _ _ q)
def WJ:Dat->Cc Int->Cc Int->Cc Dat
 | .lst xs,lo,hi=>some (.lst (Q7 xs lo hi))
 | .str z,lo,hi=>some (.str (Txt.slice z lo hi))
 | .tup xs,lo,hi=>if HT.sIx xs.length 0 lo=0/\HT.sIx xs.length xs.length hi=xs.length then none else some (.tup (Q7 xs lo hi))
 | _,_,_=>none
theorem d9(h:JP z):JP (Txt.slice z lo hi):=JP.of (Lq λc hc=>by
 rw[eN] at hc;exact Gr h.ok c (dk hc)) (BI (FS z _ _) h.le)
theorem ZG:QQ X WJ:=cm.weak λv lo hi H Q M=>by
 obtain⟨A,x,d,mu,e,p1,q⟩:=M;unfold WJ at e;split at e
 .rename_i xs
  cases e;obtain⟨l,vs,e1,h1,r1⟩:=p1.lst;exact .inl ⟨l,vs,e1,h1.sq,(q.new mu).at (Hg p1.lenL) (WB lo hi r1)⟩
 .rename_i z
  cases e;obtain⟨e1,k1⟩:=p1.str;exact .inr (.inr ⟨z,e1,k1.le,q.here (Ll (d9 k1))⟩)
 .rename_i xs
  split at e
  .cases e
  .rename_i hn
   cases e;obtain⟨l,vs,e1,h1,r1⟩:=p1.tup;exact .inr (.inl ⟨l,vs,e1,h1,by rw[Yh r1];exact hn,q.tup mu (Hg p1.lenT) (WB lo hi r1)⟩)
 .cases e
def Uh:Z Dat->Cc Dat
 | [.lst xs]=>some (.int xs.length)
 | [.tup xs]=>some (.int xs.length)
 | [.str z]=>some (.int z.length)
 | _=>none
theorem U9:Hr X (.builtin "len") Uh:=ii.weak λvs H Q M=>by
 obtain⟨A,ds,d,mu,e,p,q⟩:=M;unfold Uh at e;split at e
 .obtain⟨v,e1,p1⟩:=p.one
  obtain⟨l,us,e2,h1,r1⟩:=p1.lst;cases e;exact .inl ⟨l,us,by rw[e1,e2],.inl h1.sq,λ_=>by rw[Yh r1];exact q.here W7⟩
 .obtain⟨v,e1,p1⟩:=p.one
  obtain⟨l,us,e2,h1,r1⟩:=p1.tup;cases e;exact .inl ⟨l,us,by rw[e1,e2],.inr h1,λ_=>by rw[Yh r1];exact q.here W7⟩
 .obtain⟨v,e1,p1⟩:=p.one
  obtain⟨e2,h1⟩:=p1.str;cases e;exact .inr ⟨_,by rw[e1,e2],h1.le,q.here W7⟩
 .cases e
def tupleD:Z Dat->Cc Dat
 | [.lst xs]=>some (.tup xs)
 | [.tup xs]=>some (.tup xs)
 | _=>none
theorem Vd:Hr X (.type "tuple") tupleD:=Om.weak λvs H Q M=>by
 obtain⟨A,ds,d,mu,e,p,q⟩:=M;unfold tupleD at e;split at e
 .obtain⟨v,e1,p1⟩:=p.one
  obtain⟨l,us,e2,h1,r1⟩:=p1.lst;cases e;exact⟨l,us,by rw[e1,e2],.inl ⟨h1.sq,q.tup mu p1.lenL r1⟩⟩
 .obtain⟨v,e1,p1⟩:=p.one
  rcases p1 with p1 | ⟨_,_,_,z,_⟩ | ⟨_,_,_,z,_⟩ | ⟨_,_,z,_⟩
  .obtain⟨l,us,e2,h1,r1⟩:=Su p1
   cases e;exact⟨l,us,by rw[e1,e2],.inr ⟨Wn.seqT h1,by rw[<- e2];exact q.here p1⟩⟩
  .cases z
  .cases z
  .cases z
 .cases e
def Se:Z Dat->Cc (Z Int)
 | []=>some []
 | .int i::r=>(Se r).map (i::·)
 | _=>none
def LZ:Z Dat->Cc (Z Bool)
 | []=>some []
 | .bl i::r=>(LZ r).map (i::·)
 | _=>none
theorem Ip(ns:Z Int):Se (ns.map .int)=some ns:=by
 induction ns with
 | nil=>rfl
 | cons n ns ih=>rw[BM,Se,ih];rfl
theorem hF(ns:Z Bool):LZ (ns.map .bl)=some ns:=by
 induction ns with
 | nil=>rfl
 | cons n ns ih=>rw[BM,LZ,ih];rfl
theorem Sm:∀ {ds:Z Dat} {ns:Z Int},Se ds=some ns->ds=ns.map .int
 | [],_,h=>by cases h;rfl
 | d::ds,ns,h=>by
  cases d<;>try cases h
  rename_i i;rw[Se] at h;cases e:Se ds with
  | none=>rw[e] at h;cases h
  | some r=>rw[e] at h;cases h;rw[Sm e];rfl
theorem SQ:∀ {ds:Z Dat} {ns:Z Bool},LZ ds=some ns->ds=ns.map .bl
 | [],_,h=>by cases h;rfl
 | d::ds,ns,h=>by
  cases d<;>try cases h
  rename_i i;rw[LZ] at h;cases e:LZ ds with
  | none=>rw[e] at h;cases h
  | some r=>rw[e] at h;cases h;rw[SQ e];rfl
theorem Td:∀ {ns:Z Int} {vs:Z V},Vc K H (ns.map .int) vs->vs=ns.map .int
 | [],vs,h=>Wx h
 | n::ns,vs,h=>by obtain⟨v,r,e,h1,h2⟩:=Zw h;rw[e,Ls h1,Td h2];rfl
theorem O2:∀ {ns:Z Bool} {vs:Z V},Vc K H (ns.map .bl) vs->vs=ns.map .bl
 | [],vs,h=>Wx h
 | n::ns,vs,h=>by obtain⟨v,r,e,h1,h2⟩:=Zw h;rw[e,Ps h1,O2 h2];rfl
def Ic(ns:Z Int):Z Int:=ns.mergeSort (λa b=>decide (a<=b))
theorem Qb(ns:Z Int):(Ic ns).Perm ns:=List.mergeSort_perm ns _
theorem Hl(ns:Z Int):(Ic ns).Pairwise (·<=·):=by
 have:=List.pairwise_mergeSort (le:=λa b:Int=>decide (a<=b)) (by intro a b c h1 h2;simp only[BC] at *;lia) (by intro a b;simp only[DY,BC];lia) ns;exact this.imp λh=>DC h
theorem Ms:∀ {xs ys:Z Int},xs.Perm ys->xs.Pairwise (·<=·)->ys.Pairwise (·<=·)->xs=ys
 | [],ys,p,_,_=>by rw[List.nil_perm.mp p]
 | x::xs,[],p,_,_=>by have:=p.length_eq;simp at this
 | x::xs,y::ys,p,h1,h2=>by
  have hx:=List.pairwise_cons.mp h1;have hy:=List.pairwise_cons.mp h2;have e:x=y:=by
   have m1:x∈y::ys:=p.mem_iff.mp BD;have m2:y∈x::xs:=p.mem_iff.mpr BD;rcases BN.mp m1 with z | z
   .exact z
   .rcases BN.mp m2 with w | w
    .exact w.symm
    .have a1:=hx.1 y w
     have a2:=hy.1 x z;lia
  subst e;rw[Ms (List.Perm.cons_inv p) hx.2 hy.2]
def SH:Z Dat->Cc (Z Dat)
 | [.lst xs]=>(Se xs).bind λns=>if ns.length<64 then some ((Ic ns).map .int) else none
 | _=>none
def NR:Z Dat->Cc Dat
 | [.lst xs]=>(LZ xs).map λbs=>.bl (bs.any id)
 | _=>none
theorem map_some{a:Cc α}{g:α->β}{b:β}(h:a.map g=some b):∃ x,a=some x/\g x=b:=by
 cases a with
 | none=>cases h
 | some x=>cases h;exact⟨x,rfl,rfl⟩
theorem di(hc:X.calm=true):Hr X (.builtin "any") NR:=(dZ hc).weak λvs H Q M=>by
 obtain⟨A,ds,d,mu,e,p,q⟩:=M;unfold NR at e;split at e
 .obtain⟨v,e1,p1⟩:=p.one
  obtain⟨l,us,e2,h1,r1⟩:=p1.lst;obtain⟨bs,hb,e⟩:=map_some e;subst e;rw[SQ hb] at r1;have eu:=O2 r1;subst eu;exact⟨l,bs,by rw[e1,e2],h1.sq,q.here Qs⟩
 .cases e
def MK:Z Dat->Cc Dat
 | [.int i,.int j]=>some (.int (if j > i then j else i))
 | _=>none
def MW:Z Dat->Cc Dat
 | [.int i,.int j]=>some (.int (if j<i then j else i))
 | _=>none
theorem VJ(hc:X.calm=true):Hr X (.builtin "max") MK:=(ZY hc).weak λvs H Q M=>by
 obtain⟨A,ds,d,mu,e,p,q⟩:=M;unfold MK at e;split at e
 .obtain⟨v,w,e1,p1,p2⟩:=p.two
  cases e;exact⟨_,_,by rw[e1,p1.int,p2.int],q.here W7⟩
 .cases e
theorem UT(hc:X.calm=true):Hr X (.builtin "min") MW:=(ca hc).weak λvs H Q M=>by
 obtain⟨A,ds,d,mu,e,p,q⟩:=M;unfold MW at e;split at e
 .obtain⟨v,w,e1,p1,p2⟩:=p.two
  cases e;exact⟨_,_,by rw[e1,p1.int,p2.int],q.here W7⟩
 .cases e
def QH:Dat->Cc String
 | .non=>some "NoneType" | .bl _=>some "bool" | .int _=>some "int" | .str _=>some "str" | .tup _=>some "tuple" | .lst _=>some "list" | _=>none
def OA(T:String)(d:Dat):Cc Bool:=(QH d).bind λt=>PH t T
def dI(T:String)(f:Zzu):Ev->Cc Dat:=λenv=>(f env).bind λd=>(OA T d).map .bl
theorem gp{A:B2}{d:Dat}{T t:String}{b:Bool}(I:D' X aa σ H s)(r:Rp X.K H d v)(g:W5 v u)(ht:QH d=some t)(e:kitOne X.K (.type t) (.type T)=some b)(h:∀ tk,Q (.bool b) { s with toks:=tk }) :
  wpAny (model X.prog X.w) A (call (.builtin "isinstance") [u,.type T]) Q E s:=by
 cases d with
 | non=>cases ht;rw[QS r] at g;exact Dm I g .non e h
 | bl y=>cases ht;rw[Ps r] at g;exact Dm I g (.bl y) e h
 | int y=>cases ht;rw[Ls r] at g;exact Dm I g (.int y) e h
 | str y=>cases ht;rw[(QZ r).1] at g;exact Dm I g (.str y) e h
 | tup ds =>
  cases ht;obtain⟨a,vs,e1,h1,_⟩:=Su r;subst e1;cases g;obtain⟨its,_,⟨o,J,hc,_⟩,_⟩:=I.tuple h1;exact EF kitx_tuple I.kIn ⟨o,J,hc⟩ e (λz=>nomatch z) h
 | lst ds =>
  cases ht;obtain⟨a,vs,e1,h1,_⟩:=Ey r;subst e1;cases g;obtain⟨its,n,_,J,_⟩:=h1.get I;exact EF IV I.kIn ⟨_,J,rfl⟩ e (λz=>nomatch z) h
 | dct _=>cases ht
 | exc _ _=>cases ht
 | box _ _=>cases ht
theorem QK{f:Zzu}{T:String}{tx:Str}(he:Wy true X e f)(S:Gl X "isinstance")(hm:X.mg "isinstance" = none)(hv:bootBuiltins "isinstance" = some (.builtin "isinstance"))(a:Gl X tx)(i:X.mg tx=none)(j:bootBuiltins tx=some (.type T))(l:tx≠"__name__" := by decide)(n:Cg tx:=by decide)
  (hs:starEach [e,.Name tx p2] X.env=(false,eval e X.env)::starEach [.Name tx p2] X.env:=by rfl):Wy m X (.Call (.Name "isinstance" p) [e,.Name tx p2] [] pos) (dI T f):=by
 have hc:Uq X (.builtin "isinstance") (λvs H Q=>∃ v A d b,vs=[v,.ty T]/\Qe A H/\OA T d=some b/\Pk X.K A H d v/\Qc false X.K A H (.bl b) Q):=by
  intro aa s σ H xs us Q I r ⟨v,A,d,b,e1,mu,e2,p1,q⟩;subst e1;obtain⟨u,B,rfl,g,c⟩:=PV r;cases c;obtain⟨t,ht,hk⟩:=Zi e2;exact gp I p1.rp g ht (cW hk) λtk=>⟨.bl b,H,I.tok _,rfl,q.here Qs⟩
 refine Wy.any ((Ng hc S hm hv (Vq he (Vq (bG a i j l n) Q4) hs) (he:=hs)).weak λσ H Q ⟨env,R,A,d,k,q1,q2⟩=>?_);obtain⟨x,e1,h⟩:=Zi q1;obtain⟨b,e2,h⟩:=map_some h;subst h;exact⟨env,R,A,x,k,e1,λv H1 s1 p1=>⟨v,A,x,b,rfl,k.mu.mono s1,e2,p1,q2.mono s1⟩⟩
def Ad:Dat->Z Dat->Cc Dat
 | .int i,[]=>some (.int (Builtin.Int.intBits i))
 | _,_=>none
theorem fC:PP X "int.bit_length" Ad:=bc.weak λv vs H Q M=>by
 obtain⟨A,x,ds,d,mu,e,p,ps,q⟩:=M;unfold Ad at e;split at e
 .cases e
  exact⟨_,p.int,ps,q.here W7⟩
 .cases e
variable{l c:Cs}{f:Zzu}{lo:Int}{Q:VK}{az:Zzv}{R:AS}{P:Z α->Prop}
def LM(st:Bool)(A:AS)(H:Hp)(g:AS)(H1:Hp):Prop:=match st with
 | true=>F' A H g H1
 | false=>g=A/\Zv H H1
theorem LM.step{g:AS}(h:LM st A H g H1):F' A H g H1:=by
 cases st with
 | true=>exact h
 | false=>obtain⟨rfl,h⟩:=h;exact F'.same h
def Ai(st:Bool)(K:E')(A:AS)(H:Hp)(ds:Z Dat)(J:It):Prop:=∀ g H1,LM st A H g H1->Qe g H1 ->
 (∀ (i:Nat) x,ds[i]?=some x->J.go i H1/\∀ v H2,J.yld i H1 v H2->Zv H1 H2/\Rp K (av H2 g) x v)/\J.stop ds.length H1
def XB(bb st:Bool)(X:Cx)(tg iter:Cs)(az:Zzv):Prop:=KW bb X tg iter λσ H i=>∃ env R A ds,C' X.K R A H σ env/\az env=some ds /\
 ∀ J H',ds.length<=sizeLine->Zv H H'->Ai st X.K A H' ds J->i J H'
abbrev KR:=XB false
theorem KW.mono{t t':TI}(h:KW bb X tg iter t)(w:∀ σ H Q,t' σ H Q->t σ H Q):KW bb X tg iter t':=λaa s σ H Q I q=>h aa s σ H Q I (w σ H Q q)
theorem PI.weak{t t':TI}(h:PI X tg iter t)(w:∀ σ H Q,t' σ H Q->t σ H Q):PI X tg iter t':=KW.mono h w
section
variable{fs:Zzv}
def Va(f:Zzu):Ev->Cc (Z Dat):=λenv=>match f env with
 | some (.lst xs)=>some xs
 | some (.tup xs)=>some xs
 | _=>none
theorem WY{a:A2}(h:∀ g H1,LM st A H g H1->Dq K H1 a vs)(r:Vc K (av H A) ds vs):Ai st K A H ds (QC K a):=λg H1 c _=>by
 have h1:=h g H1 c;have r1:=r.mono c.step.av;refine⟨λi x e=>?_,⟨vs,h1,IL (Yh r)⟩⟩;obtain⟨v,e1,e2⟩:=M2 r1 e;refine⟨⟨vs,v,h1,e1⟩,λP H2 ⟨e3,e4⟩=>?_⟩;subst e3;have:=e4 vs h1;rw[e1] at this;cases this;exact⟨Zv.refl _,e2⟩
theorem W'{a:A2}(h:∀ g H1,LM st A H g H1->Dx K H1 a vs)(r:Vc K (av H A) ds vs):Ai st K A H ds (QF K a):=λg H1 c _=>by
 have h1:=h g H1 c;have r1:=r.mono c.step.av;refine⟨λi x e=>?_,⟨vs,h1,IL (Yh r)⟩⟩;obtain⟨v,e1,e2⟩:=M2 r1 e;refine⟨⟨vs,v,h1,e1⟩,λP H2 ⟨e3,e4⟩=>?_⟩;subst e3;have:=e4 vs h1;rw[e1] at this;cases this;exact⟨Zv.refl _,e2⟩
theorem J1(h:Wy false X l f):KR st X tg l (Va f):=(UC h).weak λσ H i M=>by
 obtain⟨env,R,A,ds,k,e,q⟩:=M;unfold Va at e;split at e
 .rename_i xs e1
  cases e;refine .inl ⟨env,R,A,.lst ds,k,e1,λv H1 s1 p1=>?_⟩;obtain⟨a,vs,e2,h1,r1⟩:=Ey (show Rp X.K (av H1 A) (.lst ds) v from p1);subst e2;exact⟨a,rfl,⟨vs,(Wn.sl h1).sq⟩,q _ H1 p1.pk.lenL s1 (WY (vs:=vs) (λg H2 c=>(Wn.sl (c.step.av.sl h1)).sq) r1)⟩
 .rename_i xs e1
  cases e;refine .inr ⟨env,R,A,.tup ds,k,e1,λv H1 s1 p1=>?_⟩;obtain⟨a,vs,e2,h1,r1⟩:=Su (show Rp X.K (av H1 A) (.tup ds) v from p1);subst e2;exact⟨a,rfl,⟨vs,Wn.seqT h1⟩,q _ H1 p1.pk.lenT s1 (W' (vs:=vs) (λg H2 c=>Wn.seqT (c.step.av.seqT h1)) r1)⟩
 .cases e
theorem Vr(h:Wy true X l f):KR false X tg l (Va f):=(UC h).weak λσ H i M=>by
 obtain⟨env,R,A,ds,k,e,q⟩:=M;unfold Va at e;split at e
 .rename_i xs e1
  cases e;refine .inl ⟨env,R,A,.lst ds,k,e1,λv H1 s1 p1=>?_⟩;obtain⟨a,vs,e2,h1,r1⟩:=p1.pk.lst;subst e2;exact⟨a,rfl,⟨vs,h1.sq⟩,q _ H1 p1.pk.lenL s1 (WY (vs:=vs) (λg H2 c=>(c.2.sl h1).sq) r1)⟩
 .rename_i xs e1
  cases e;refine .inr ⟨env,R,A,.tup ds,k,e1,λv H1 s1 p1=>?_⟩;obtain⟨a,vs,e2,h1,r1⟩:=p1.pk.tup;subst e2;exact⟨a,rfl,⟨vs,h1⟩,q _ H1 p1.pk.lenT s1 (W' (vs:=vs) (λg H2 c=>c.2.seqT h1) r1)⟩
 .cases e
def rng(lo:Int)(n:Nat):Z Dat:=(List.range n).map λ(k:Nat)=>.int (lo+k)
theorem Tp:(rng lo n).length=n:=by simp[rng]
theorem bL:Ai st K A H (rng lo n) (OO lo n):=λg H1 c _=>by
 refine⟨λi x e=>?_,by show n<=(rng lo n).length;simp[rng]⟩;unfold rng at e;rw[AQ] at e;by_cases hi:i<n
 .rw[EX hi] at e
  cases e;exact⟨hi,λv H2 ⟨e1,e2⟩=>by subst e1 e2;exact⟨Zv.refl _,W7⟩⟩
 .rw[DP (by simpa using hi)] at e
  cases e
def U8(fs:Zzv):Ev->Cc (Z Dat):=λenv=>match fs env with
 | some [.int j]=>if -(2^62)<=j/\j<2^62/\j.toNat<=sizeLine then some (rng 0 j.toNat) else none
 | _=>none
theorem Yz{a:Cs}(hm:X.mg "range" = none)(Y:Bp true X [a] fs)(S:Gl X "range" := by rfl)(hs:starEach [a] X.env=[(false,eval a X.env)]:=by rfl):KR st X tg (.Call (.Name "range" p) [a] [] pos) (U8 fs):=(ep S hm Y hs).weak λσ H i M=>by
 obtain⟨env,R,A,ds,k,e,q⟩:=M;unfold U8 at e;split at e
 .rename_i j e1
  split at e
  .rename_i C
   cases e;refine⟨env,R,A,_,k,e1,λvs H1 s1 p1=>?_⟩;obtain⟨v,e2,p2⟩:=p1.one;exact⟨j,by rw[e2,p2.int],C.1,C.2.1,q _ H1 (by rw[Tp];exact C.2.2) s1 bL⟩
  .cases e
 .cases e
end
def Hd(is:Z Nat)(σ σ':St):Prop:=σ'.length=σ.length/\∀ j,j∉is->σ'[j]?=σ[j]?
def KS(is:Z Nat)(X:Cx)(tg:Cs)(g:Dat->Ev->Cc Ev):Prop:=PG X tg λv σ H Q=>∃ env R A d env',C' X.K R A H σ env/\Rp X.K (av H A) d v/\g d env=some env'/\∀ σ',C' X.K R A H σ' env'->Hd is σ σ'->Q σ' H
variable{st:C2}
def PR(is:Z Nat)(X:Cx)(a:Z Cs)(g:Z Dat->Ev->Cc Ev):Prop:=LB X a λvs σ H Q=>∃ env R A ds env',C' X.K R A H σ env/\Vc X.K (av H A) ds vs/\g ds env=some env'/\∀ σ',C' X.K R A H σ' env'->Hd is σ σ'->Q σ' H
theorem C'.put(k:C' K B A H σ env)(i:Nat){d:Dat}(r:Rp K (av H A) d v):C' K B A H (σ.set i (some v)) (env.set i (.fz d)):=by
 obtain⟨own,h1,h2,h4⟩:=k.sl;refine⟨k.h0,k.r0,k.ra,k.ar,k.mu,by rw[DB,DB];exact k.len,λhs j d'=>?_,λj a=>j≠i/\own j a,λj t a q G=>h1 j t a q.2 G.2,λj a q=>h2 j a q.2,λj s e=>?_⟩
 .rw[BF]
  split
  .split
   .intro z;cases z
   .intro z;cases z
  .exact k.np hs j d'
 by_cases C:i=j
 .subst C
  rw[BF] at e;rw[AF rfl] at e;split at e
  .rename_i hl
   cases e;refine⟨some v,?_,v,rfl,r⟩;rw[BF,AF rfl,AF (by rw[k.len];exact hl)]
  .cases e
 .rw[BF,AJ C] at e
  obtain⟨x,q1,q2⟩:=h4 j s e;refine⟨x,by rw[BF,AJ C];exact q1,?_⟩;cases s with
  | un=>trivial
  | fz d=>exact q2
  | pk d=>exact q2
  | ow ds=>obtain⟨a,vs,e1,e2,e3⟩:=q2;exact⟨a,vs,e1,⟨BW C,e2⟩,e3⟩
  | gx g=>obtain⟨v,e1,e2⟩:=q2;exact⟨v,e1,e2.frame (λ_ z=>⟨BW C,z⟩) (λ_ _ _ z=>z) (Zv.refl _)⟩
theorem PG.weak{t t':TG}(h:PG X e t)(w:∀ v σ H Q,t' v σ H Q->t v σ H Q):PG X e t':=λaa s σ H v u Q I r q=>h aa s σ H v u Q I r (w _ _ _ _ q)
theorem LB.weak{e:Z Cs}{t t':KU}(h:LB X e t)(w:∀ v σ H Q,t' v σ H Q->t v σ H Q):LB X e t':=λaa s σ H v u Q I r q=>h aa s σ H v u Q I r (w _ _ _ _ q)
def Zt(i:Nat):Dat->Ev->Cc Ev:=λd env=>some (env.set i (.fz d))
theorem ZT{v:Cc V}:Hd [i] σ (σ.set i v):=⟨by rw[DB],λj C=>by rw[BF,AJ (by intro e;exact C (by simp[e]))]⟩
theorem Zh(i:Nat)(hN:X.N.Nodup)(hi:X.N[i]?=some x:=by rfl)(hx:KH X.env.scope x:=by ext)(hf:X.fn x=true\/X.env.scope.names.lookup x=some .local:=by ext):KS [i] X (.Name x pos) (Zt i):=(hY hN hi hx hf).weak λv σ H Q M=>by
 obtain⟨env,R,A,d,env',k,r,e,q⟩:=M;cases e;exact q _ (k.put i r) ZT
def T4:Z Dat->Ev->Cc Ev:=λds env=>match ds with
 | []=>some env
 | _=>none
def Y2(g:Dat->Ev->Cc Ev)(gs:Z Dat->Ev->Cc Ev):Z Dat->Ev->Cc Ev:=λds env=>match ds with
 | d::ds=>(g d env).bind λenv'=>gs ds env'
 | _=>none
theorem Uy:PR [] X [] T4:=cj.weak λvs σ H Q M=>by
 obtain⟨env,R,A,ds,env',k,r,e,q⟩:=M;unfold T4 at e;split at e
 .cases e
  exact⟨Wx r,q σ k ⟨rfl,λ_ _=>rfl⟩⟩
 .cases e
theorem Y1{P:Z Nat}{gs:Z Dat->Ev->Cc Ev}(h1:KS is X e g)(h2:PR P X es gs)
  (hs:(assignEach (e::es) X.env).map (·.2)=assign e X.env::(assignEach es X.env).map (·.2):=by rfl):PR (is++P) X (e::es) (Y2 g gs):=(eI h1 h2 hs).weak λvs σ H Q M=>by
 obtain⟨env,R,A,ds,env',k,r,e,q⟩:=M;unfold Y2 at e;split at e
 .rename_i d ds'
  obtain⟨l,e1,e2⟩:=Zi e;obtain⟨v,us,y,r1,r2⟩:=Zw r;refine⟨v,us,y,env,R,A,d,l,k,r1,e1,λσ1 k1 a1=>⟨l,R,A,ds',env',k1,r2,e2,λσ2 k2 a2=>q σ2 k2 ⟨by rw[a2.1,a1.1],λj C=>?_⟩⟩⟩;rw[BH,not_or] at C;rw[a2.2 j C.2,a1.2 j C.1]
 .cases e
def Q9(fs:Z (Cc Nat))(env:Ev):Ev:=fs.map λo=>match o with
 | none=>.un
 | some j=>match env[j]? with
  | some (.fz d)=>.fz d
  | some (.pk d)=>.pk d
  | some (.ow ds)=>.pk (.lst ds)
  | _=>.un
theorem C'.inn(k:C' K B A H σ env)(fs:Z (Cc Nat)):C' K ⟨H,A,false⟩ A H (Uo fs σ) (Q9 fs env):=by
 obtain⟨own,h1,h2,h4⟩:=k.sl;refine⟨Zv.refl H,λa h=>?_,λ_ h=>h,λ_ h=>.inl h,k.mu,by simp[Uo,Q9],λz=>(by cases z),λ_ _=>False,λ_ _ _ h=>h.elim,λ_ _ h=>h.elim,λi s e=>?_⟩
 .have:=k.mu a h
  cases q:H a with
  | none=>rw[q] at this;exact this.elim
  | some o=>exact⟨o,q⟩
 .unfold Q9 at e
  rw[AQ] at e;unfold Uo;rw[AQ];cases hf:fs[i]? with
  | none=>rw[hf] at e;cases e
  | some o =>
   rw[hf] at e;cases o with
   | none=>cases e;exact⟨_,rfl,trivial⟩
   | some j =>
    simp only[Option.map_some,Option.some.injEq] at e ⊢;refine⟨_,rfl,?_⟩;split at e
    .rename_i d hd
     obtain⟨x,q1,q2⟩:=h4 j _ hd;subst e;rw[q1];exact q2
    .rename_i d hd
     obtain⟨x,q1,q2⟩:=h4 j _ hd;subst e;rw[q1];exact q2
    .rename_i ds hd
     obtain⟨x,q1,a,vs,e1,_,hz,e3,e4⟩:=h4 j _ hd;subst e;rw[q1];exact⟨.ref a,e1,.inr (.inl ⟨a,vs,ds,rfl,rfl,hz,e3,e4⟩)⟩
    .subst e;trivial
def Wr(g:Dat->Ev->Cc Ev)(t:Ev->Cc Bool)(f:Zzu)(env:Ev):Z Dat->Cc (Z Dat)
 | []=>some []
 | x::xs=>(g x env).bind λl=>(t l).bind λb=>if b=true then(f l).bind λy=>(Wr g t f env xs).map (y::·) else Wr g t f env xs
def Wg(az:Zzv)(fs:Z (Cc Nat))(g:Dat->Ev->Cc Ev)(t:Ev->Cc Bool)(f:Zzu):Ev->Cc (Z Dat):=λenv=>(az env).bind λds=>Wr g t f (Q9 fs env) ds
theorem Ii:∀ {xs ys:Z Dat},Wr g t f env xs=some ys->ys.length<=xs.length
 | [],ys,h=>by cases h;exact AT _
 | x::xs,ys,h=>by
  rw[Wr] at h;obtain⟨l,e1,h⟩:=Zi h;obtain⟨b,e2,h⟩:=Zi h;split at h
  .obtain⟨y,e3,h⟩:=Zi h
   obtain⟨zs,e4,h⟩:=map_some h;subst h;exact HZ (Ii e4)
  .exact HL (Ii h)
def MC(X:Cx)(ay:Z Cs)(t:Ev->Cc Bool):Prop:=LF X ay λσ H Q=>∃ env R A b,C' X.K R A H σ env/\t env=some b/\∀ H',Zv H H'->Q b H'
def Wh:Ev->Cc Bool:=λ_=>some true
theorem LF.weak{e:Z Cs}{t:TT}(h:LF X e t)(w:∀ σ H Q,t' σ H Q->t σ H Q):LF X e t':=λaa s σ H Q I q=>h aa s σ H Q I (w σ H Q q)
theorem Tb:MC X [] Wh:=(iV (Y:=X)).weak λσ H Q ⟨env,R,A,b,k,e,q⟩=>by cases e;exact q H (Zv.refl H)
theorem R0(h:Cb X c t):MC X [c] t:=fA h
theorem Aa{J:It}{fs:Z (Cc Nat)}{ys:Z Dat}
  (c:∀ i∈is,fs[i]?=some none) (k:C' K B A H1 σ env) (hJ:Ai false K A H1 ds J) (hz:ds.length<=sizeLine) (hc:Wr g t f (Q9 fs env) ds=some ys) (q:Oj K A H1 ys Q) :
  ∃ W:Nat->Nat->Z V->Hp->Prop,(∃ m,W 0 m [] H1)/\∀ i m zs H,W i m zs H ->
   (J.stop i H/\zs.length<=sizeLine/\∀ p,H p=none->Q (.ref p) (Wq H p (.lst zs))) \/
   (J.go i H/\zs.length<=sizeLine/\∃ N:Z V->Hp->Prop,(∀ ac H',N ac H'->∃ m',m'<m/\W (i+1) m' ac H')/\∀ x H',J.yld i H x H'->(∃ env R A d env',C' K R A H' (Uo fs σ) env/\Rp K (av H' A) d x/\g d env=some env'/\∀ σ',C' K R A H' σ' env'->Hd is (Uo fs σ) σ' ->
    (O' (Uo fs σ) σ'/\∃ env R A b,C' K R A H' σ' env/\t env=some b/\∀ H3,Zv H' H3->if b=true then ∃ env R A d,C' K R A H3 σ' env/\f env=some d/\Qc false K A H3 d (λv H4=>N (zs++[v]) H4) else N zs H3))):=by
 have hl:=Ii hc;refine⟨λi m zs H=>m=ds.length - i/\i<=ds.length/\Zv H1 H/\∃ us ap,Wr g t f (Q9 fs env) (ds.drop i)=some ap/\us++ap=ys/\Vc K (av H A) us zs,
  ⟨ds.length,by simp,DH _,Zv.refl _,[],ys,by simpa using hc,rfl,Qh⟩,?_⟩
 rintro i m zs H ⟨rfl,hi,s1,us,ap,e1,e2,r⟩;have s:zs.length<=sizeLine:=by
  rw[Yh r];have:us.length<=ys.length:=by rw[<- e2,AH];lia
  lia
 obtain⟨af,n⟩:=hJ A H ⟨rfl,s1⟩ (k.mono s1).mu;by_cases ai:i<ds.length
 .have hx:ds[i]?=some ds[i]:=by simp[ai]
  obtain⟨go,yl⟩:=af i _ hx;rw[EB ai,Wr] at e1;obtain⟨l,b1,e1⟩:=Zi e1;obtain⟨b,b2,e1⟩:=Zi e1;refine .inr ⟨go,s,λu H'=>i+1<=ds.length/\Zv H1 H'/\∃ us ap,Wr g t f (Q9 fs env) (ds.drop (i+1))=some ap/\us++ap=ys/\Vc K (av H' A) us u,
   λu H' h=>⟨ds.length - (i+1),by lia,rfl,h⟩,λx H' hy=>?_⟩
  obtain⟨s2,rx⟩:=yl x H' hy;refine⟨Q9 fs env,⟨H1,A,false⟩,A,ds[i],l,(k.inn fs).mono (s1.trans s2),rx,b1,λσ' E D=>⟨⟨D.1.symm,λj v ej=>?_⟩,l,⟨H1,A,false⟩,A,b,E,b2,λH3 P=>?_⟩⟩
  .have C:j∉is:=λC=>by
    have:=c j C;unfold Uo at ej;rw[AQ,this] at ej;cases ej
   rw[D.2 j C];exact ej
  .cases b with
   | true =>
    rw[AF rfl] at e1 ⊢;obtain⟨y,I,e1⟩:=Zi e1;obtain⟨a,b4,e1⟩:=map_some e1;subst e1;refine⟨l,⟨H1,A,false⟩,A,y,E.mono P,I,λv H4 s4 rv=>⟨ai,((s1.trans s2).trans P).trans s4,us++[y],a,b4,by rw[DM];exact e2,Vm (r.mono (V0 ((s2.trans P).trans s4))) (Wu rv)⟩⟩
   | false =>
    rw[AJ BO] at e1 ⊢;exact⟨ai,(s1.trans s2).trans P,us,ap,e1,e2,r.mono (V0 (s2.trans P))⟩
 .have e:i=ds.length:=by lia
  subst e;rw[List.drop_length,Wr] at e1;cases e1;rw[DU] at e2;subst e2;exact .inl ⟨n,s,(q.mono s1).at (by lia) r⟩
theorem fX(ao:IX)(fs:Z (Cc Nat))(N:Z Str)(F:X.env.scope=ao)(hc:X.calm=true\/(bb=true/\MD X))(hi:XB bb false X tg iter az)
  (hb:∀ (C:A2) (s:A4) (H:Hp) (fp:Z A2),KS is (Wl X sc N C s H fp) tg g/\MC (Wl X sc N C s H fp) ay t/\Wy false (Wl X sc N C s H fp) aA f)
  (c:∀ i∈is,fs[i]?=some none) (hs:∀ x,foldedSetIterable iter X.env x=pure x:=by intro _;rfl) (S:CompOk ao sc X.N N fs:=by exact CompOk.of (by kernel_rfl!)):KB X (.ListComp aA [⟨tg,iter,ay,0⟩] sc pos) (Wg az fs g t f):=by
 refine PE.weak (br (g:=λv σ H Q=>∃ env R A d env',C' X.K R A H σ env/\Rp X.K (av H A) d v/\g d env=some env'/\∀ σ',C' X.K R A H σ' env'->Hd is σ σ'->Q σ' H) (tt:=λσ H Q=>∃ env R A b,C' X.K R A H σ env/\t env=some b/\∀ H',Zv H H'->Q b H') (te:=λσ H Q=>∃ env R A d,C' X.K R A H σ env/\f env=some d/\Qc false X.K A H d Q) ao fs N F S hc hi hb hs) λσ H Q ⟨env,R,A,ys,k,e,q⟩=>?_
 obtain⟨ds,e1,e2⟩:=Zi e;exact⟨env,R,A,ds,k,e1,λJ H1 hz s1 hJ=>Aa c (k.mono s1) hJ hz e2 (q.mono s1)⟩
theorem Vl(ao:IX)(fs:Z (Cc Nat))(N:Z Str)(F:X.env.scope=ao)(hc:X.calm=true)(hi:KR false X tg iter az)
 (hb:∀ (C:A2) (s:A4) (H:Hp) (fp:Z A2),KS is (Wl X sc N C s H fp) tg g/\MC (Wl X sc N C s H fp) ay t/\Wy false (Wl X sc N C s H fp) aA f)
 (c:∀ i∈is,fs[i]?=some none) (hs:∀ x,foldedSetIterable iter X.env x=pure x:=by intro _;rfl) (S:CompOk ao sc X.N N fs:=by exact CompOk.of (by kernel_rfl!)):KB X (.ListComp aA [⟨tg,iter,ay,0⟩] sc pos) (Wg az fs g t f):=fX ao fs N F (.inl hc) hi hb c hs S
def bR(h base:Ff)(e T:A2)(cls:A1×Cc A1)(dct:Cc A2)(fl:A1):Prop :=
 ∃ f vs b a,h.get? e=some f/\(f.cls,vs[2]?)=cls/\f.dict=dct/\f.data=.fields vs/\vs[1]?=some (.ref T)/\base.get? T=none/\T≠e/\h.get? T=some b/\b.data=.fields a/\a[3]?=some fl
section
variable{M:Model}{A:B2}
end
inductive Fl where
 | next (env:Ev) | ret (d:Dat) | brk (env:Ev) | cont (env:Ev) | exc (env:Ev) (c:Str) (fs:List (Str×XD)) | no
variable{g:Ev->Fl}
def NH(K:E')(B:Bs)(H':Hp)(ds:Z Dat)(v:V):Prop:=∃ p vs,v=.ref p/\B.H₀ p=none/\H' p=some (.lst vs)/\ds.length<=sizeLine/\Vc K (av H' (ins B.R p)) ds vs
def LN(K:E')(B:Bs)(H':Hp):Dat->V->Prop
 | .lst ds,v=>NH K B H' ds v
 | .tup [.str c,.lst ds],v=>c="rows" -> ∃ t w,v=.ref t/\H' t=some (.tup [.str c,w])/\NH K B H' ds w
 | _,_=>True
theorem NH.mono(h:NH K B H' ds v)(h0:∀ p,B.H₀ p=none->B'.H₀ p=none)(hr:∀ a,B'.R a=true->B.R a=true):NH K B' H' ds v:=by
 obtain⟨p,vs,a1,a2,a3,a4,a5⟩:=h;exact⟨p,vs,a1,h0 p a2,a3,a4,a5.mono (Qm λb hb=>(Gf hb).elim (λz=>Q5 (hr b z)) λz=>by rw[z];exact Jn)⟩
theorem LN.mono{d:Dat}(h:LN K B H' d v)(h0:∀ p,B.H₀ p=none->B'.H₀ p=none)(hr:∀ a,B'.R a=true->B.R a=true):LN K B' H' d v:=by
 unfold LN at h ⊢;split at h
 .exact h.mono h0 hr
 .exactλz=>let ⟨t,w,e1,e2,e3⟩:=h z;⟨t,w,e1,e2,e3.mono h0 hr⟩
 .trivial
def S'(X:Cx)(H:Hp)(c:Cc A1):Prop:=c=some .none\/(X.pl=false/\(SF H c\/∃ e2,c=some (.ref e2)/\X.A.handled=some (.ref e2)))
structure hP (X:Cx) (aa:I3) (H:Hp) (h:Heap) (e C:Addr) (dct:Option Addr):Prop where
 lo:X.s₀.heap.objs.size<=e
 un:H e=none
 ob:(∃ o vs,h.get? e=some o/\o.cls=.ref C/\o.dict=dct/\o.data=.fields vs/\vs[1]?=some .none/\S' X H vs[2]?)\/∃ T c2,X.s₀.heap.objs.size<=T/\H T=none/\(∀ p∈X.pn++aa,p.1≠T)/\bR h X.base e T (.ref C,c2) dct .none/\S' X H c2
 pe:∀ p∈X.pn++aa,p.1≠e
def f9(H0 H:Hp)(dct:Cc A2):Prop:=∀ dx,dct=some dx->H0 dx=none/\∀ j f a,H dx=some (.xd j)->j.lookup f=some (.ref a)->H0 a=none/\∃ xs,H a=some (.lst xs)
def XW(X:Cx)(H0:Hp)(A:AS)(H:Hp)(σ:St)(c:Str)(fs:Z (Str×XD)):Prop :=
 ∀ (aa:I3) (s:A4) (e C:A2) (dct:Cc A2),D' X aa σ H s->Te X.K c C->hP X aa H s.heap e C dct->NX X.K (av H A) dct fs->f9 H0 H dct->X.xe (.ref e) s
def Aw(fr:Bool)(X:Cx)(B:Bs)(A:AS)(H:Hp)(D:JF):Fl->Prop
 | .next env'=>∀ A' H' σ',F' A H A' H'->C' X.K B A' H' σ' env'->D.nx σ' H'
 | .brk env'=>∀ A' H' σ',F' A H A' H'->C' X.K B A' H' σ' env'->D.bk σ' H'
 | .cont env'=>∀ A' H' σ',F' A H A' H'->C' X.K B A' H' σ' env'->D.ct σ' H'
 | .ret d=>∀ v H',Zv B.H₀ H'->Rp X.K (av H' B.R) d v->(fr=true->LN X.K B H' d v)->D.rt v H'
 | .exc env' c fs=>∀ A' H' σ',F' A H A' H'->C' X.K B A' H' σ' env'->XW X B.H₀ A' H' σ' c fs
 | .no=>False
def tS(fr:Bool)(X:Cx)(g:Ev->Fl):TS:=λD σ H=>∃ env B A,C' X.K B A H σ env/\B.st=true/\Aw fr X B A H D (g env)
def Af(fr:Bool)(X:Cx)(st:C2)(g:Ev->Fl):Prop:=PS X st (tS fr X g)
def KJ(fr:Bool)(X:Cx)(st:Z C2)(g:Ev->Fl):Prop:=Ku X st (tS fr X g)
theorem Aw.step{D:JF}{r:Fl}(h:Aw fr X B A H D r)(s:F' A H A' H'):Aw fr X B A' H' D r:=by
 cases r with
 | next e=>exactλf H2 σ2 s2 k=>h f H2 σ2 (s.trans s2) k
 | brk e=>exactλf H2 σ2 s2 k=>h f H2 σ2 (s.trans s2) k
 | cont e=>exactλf H2 σ2 s2 k=>h f H2 σ2 (s.trans s2) k
 | ret d=>exact h
 | exc e c fs=>exactλf H2 σ2 s2 k=>h f H2 σ2 (s.trans s2) k
 | no=>exact h
section
variable{ap a b:Z C2}{h:Ev->Fl}{fs:Zzv}
def Tr:Ev->Fl:=λenv=>.next env
def Zd(g h:Ev->Fl):Ev->Fl:=λenv=>match g env with
 | .next env'=>h env'
 | r=>r
theorem Vx:KJ fr X [] Tr:=VA.weak λD σ H ⟨env,B,A,k,ac,q⟩=>q A H σ (F'.refl A H) k
theorem Za(h1:Af fr X st g)(h2:KJ fr X ap h):KJ fr X (st::ap) (Zd g h):=(Qu h1 h2).weak λD σ H M=>by
 obtain⟨env,B,A,k,ac,q⟩:=M;refine⟨env,B,A,k,ac,?_⟩;unfold Zd at q;split at q
 .rename_i env' e
  rw[e];exactλA' H' σ' s E=>⟨env',B,A',E,ac,q.step s⟩
 .rename_i r hn
  cases e:g env with
  | next env'=>exact absurd e (hn env')
  | brk e'=>rw[e] at q;exact q
  | cont e'=>rw[e] at q;exact q
  | ret d=>rw[e] at q;exact q
  | exc e' c fs=>rw[e] at q;exact q
  | no=>rw[e] at q;exact q
theorem Zn(h1:Af fr X st g):KJ fr X [st] g:=Dr h1
def Sy(t:Ev->Cc Bool)(g h:Ev->Fl):Ev->Fl:=λenv=>match t env with
 | some true=>g env
 | some false=>h env
 | none=>.no
theorem Tu(hc:Cb X c t)(Y:KJ fr X a g)(hb:KJ fr X b h):Af fr X (.If c a b pos) (Sy t g h):=(VH hc Y hb).weak λD σ H M=>by
 obtain⟨env,B,A,k,ac,q⟩:=M;unfold Sy at q;split at q
 .rename_i e
  refine⟨env,B,A,true,k,e,λH' s=>?_⟩;exact QE ⟨env,B,A,k.mono s,ac,q.step (F'.same s)⟩
 .rename_i e
  refine⟨env,B,A,false,k,e,λH' s=>?_⟩;exact VB ⟨env,B,A,k.mono s,ac,q.step (F'.same s)⟩
 .exact q.elim
def Wt(f:Zzu):Ev->Fl:=λenv=>match f env with
 | some d=>.ret d
 | none=>.no
theorem WE{d:Dat}(k:C' X.K B A H σ env)(s:Zv H H')(r:Rp X.K (av H' A) d v):Zv B.H₀ H'/\Rp X.K (av H' B.R) d v:=⟨k.h0.trans s,r.mono (Qm k.ra)⟩
theorem W2(he:Wy false X e f):Af false X (.Return (some e) pos) (Wt f):=(Nj he).weak λD σ H M=>by
 obtain⟨env,B,A,k,ac,q⟩:=M;unfold Wt at q;split at q
 .rename_i d e
  exact⟨env,B,A,d,k,e,λv H' s r=>q v H' (WE k s r).1 (WE k s r).2 (λz=>by cases z)⟩
 .exact q.elim
theorem cu{p:A2}(k:C' X.K B A H σ env)(hz:ds.length<=sizeLine)(s:Zv H H')(hn:H p=none)(F:H' p=some (.lst vs))(r:Vc X.K (av H' (ins A p)) ds vs):B.H₀ p=none/\B.R p=false/\Vc X.K (av H' (ins B.R p)) ds vs:=by
 have h0:B.H₀ p=none:=k.h0.free hn;refine⟨h0,?_,r.mono (Qm λa Y=>?_)⟩
 .cases q:B.R p with
  | false=>rfl
  | true=>obtain⟨o,J⟩:=k.r0 p q;rw[h0] at J;cases J
 .rcases Gf Y with z | z
  .exact Q5 (k.ra a z)
  .subst z;exact Jn
theorem Lj(he:KB X e fs):Af fr X (.Return (some e) pos) (Wt (dL fs)):=(Nj he).weak λD σ H M=>by
 obtain⟨env,B,A,k,ac,q⟩:=M;unfold Wt at q;split at q
 .rename_i d e
  obtain⟨ds,e1,e2⟩:=map_some e;subst e2;refine⟨env,B,A,ds,k,e1,λp vs H' hz s hn F r=>?_⟩;obtain⟨h1,h2,h3⟩:=cu k hz s hn F r;refine q (.ref p) H' (k.h0.trans s) (K6 hz (.inl (.inl (U1 F h2))) (h3.mono (Qm λa Y=>Q5 Y))) λ_=>⟨p,vs,rfl,h1,F,hz,h3⟩
 .exact q.elim
theorem O6{s:JB}(h:∀ (j:Nat) d,env[j]?≠some (.pk d))(hs:∀ d,s≠.pk d):∀ (j:Nat) d,(env.set i s)[j]?≠some (.pk d):=λj d=>by
 rw[BF];split
 .split
  .intro z;exact hs d (BK z)
  .intro z;cases z
 .exact h j d
theorem C'.own(k:C' K B A H σ env)(ac:B.st=true)(h:env[i]?=some (.ow ds)) :
  ∃ a vs,σ[i]?=some (some (.ref a))/\H a=some (.lst vs)/\Vc K (av H A) ds vs/\ds.length<=sizeLine/\A a=true/\B.R a=false/\B.H₀ a=none /\
   (∀ ds' f,ds'.length<=sizeLine->Vc K (av H A) ds' f->F' A H A (Wq H a (.lst f))/\C' K B A (Wq H a (.lst f)) σ (env.set i (.ow ds'))) /\
   F' A H (λb=>A b&&b != a) H/\C' K B (λb=>A b&&b != a) H σ (env.set i (.fz (.lst ds))):=by
 obtain⟨own,h1,h2,h4⟩:=k.sl;obtain⟨x,q1,a,vs,e1,e2,hz,e3,e4⟩:=h4 i _ h;subst e1;obtain⟨hA,c⟩:=h2 i a e2;have h0:B.H₀ a=none:=by
  rcases k.ar a hA with z | z
  .rw[z] at c;cases c
  .exact z
 have m:∀ f,Zv (av H A) (av (Wq H a (.lst f)) A):=λf b o e=>by
  obtain⟨z1,z2⟩:=Tc e;have hb:b≠a:=by intro z;rw[z,hA] at z1;cases z1
  exact U1 (by rw[Zp hb];exact z2) z1
 refine⟨a,vs,q1,e3,e4,hz,hA,c,h0,λds' f l r'=>⟨⟨λb o hb n=>?_,λb hb=>.inl hb⟩,?_⟩,⟨λb o hb _=>hb,λb hb=>.inl ?_⟩,?_⟩
 .have hn:b≠a:=by intro z;rw[z,hA] at n;cases n
  rw[Zp hn];exact hb
 .refine⟨λb o hb=>?_,k.r0,k.ra,k.ar,λb hb=>?_,by rw[DB];exact k.len,λhs j d'=>O6 (k.np hs) (λ_ z=>by cases z) j d',own,h1,h2,λj s e=>?_⟩
  .have hn:b≠a:=Ym hb h0
   rw[Zp hn];exact k.h0 b o hb
  .by_cases hn:b=a
   .subst hn;rw[Y5];trivial
   .rw[Zp hn];exact k.mu b hb
  .by_cases C:i=j
   .subst C
    rw[BF,AF rfl] at e;split at e
    .cases e
     exact⟨_,q1,a,f,rfl,e2,l,Y5,r'.mono (m f)⟩
    .cases e
   .rw[BF,AJ C] at e
    obtain⟨x,p1,p2⟩:=h4 j s e;refine⟨x,p1,?_⟩;cases s with
    | un=>trivial
    | fz d=>obtain⟨v,z1,z2⟩:=p2;exact⟨v,z1,z2.mono (m f)⟩
    | pk d =>
     exact absurd e (k.np ac j d)
    | ow es =>
     obtain⟨b,us,z1,z2,G,T,I⟩:=p2;have hn:b≠a:=λz=>C (h1 i j a e2 (z▸z2))
     exact⟨b,us,z1,z2,G,by rw[Zp hn];exact T,I.mono (m f)⟩
    | gx g =>
     obtain⟨v,z1,z2⟩:=p2;exact⟨v,z1,z2.frame (λ_ z=>z) (λb x ob z=>by
      have hn:b≠a:=λw=>C (h1 i j a e2 (w▸ob))
      rw[Zp hn];exact z) (m f)⟩
 .rw[BG] at hb;exact hb.1
 .have less:Zv (av H A) (av H λb=>A b&&b != a):=Qm λb hb=>by rw[BG] at hb;exact hb.1
  refine⟨k.h0,k.r0,λb hb=>?_,λb hb=>?_,λb hb=>?_,by rw[DB];exact k.len,λhs j d'=>O6 (k.np hs) (λ_ z=>by cases z) j d',λj b=>j≠i/\own j b,λj t b z z'=>h1 j t b z.2 z'.2,λj b z=>?_,λj s e=>?_⟩
  .have hn:b≠a:=by intro z;rw[z,c] at hb;cases hb
   simp[k.ra b hb,hn]
  .rw[BG] at hb;exact k.ar b hb.1
  .rw[BG] at hb;exact k.mu b hb.1
  .have hn:b≠a:=λw=>z.1 (h1 j i a (w▸z.2) e2)
   simp[(h2 j b z.2).1,(h2 j b z.2).2,hn]
  .by_cases C:i=j
   .subst C
    rw[BF,AF rfl] at e;split at e
    .cases e
     exact⟨_,q1,.ref a,rfl,K6 hz (.inl (.inl (U1 e3 (by simp)))) (e4.mono less)⟩
    .cases e
   .rw[BF,AJ C] at e
    obtain⟨x,p1,p2⟩:=h4 j s e;refine⟨x,p1,?_⟩;cases s with
    | un=>trivial
    | fz d=>obtain⟨v,z1,z2⟩:=p2;exact⟨v,z1,z2.mono less⟩
    | pk d =>
     obtain⟨v,z1,z2⟩:=p2;refine⟨v,z1,?_⟩;rcases z2 with z2 | ⟨b,us,es,y1,y2,y3,y4,y5⟩ | z2
     .exact .inl (z2.mono less)
     .exact .inr (.inl ⟨b,us,es,y1,y2,y3,y4,y5.mono less⟩)
     .exact .inr (.inr z2)
    | ow es =>
     obtain⟨b,us,z1,z2,G,T,I⟩:=p2;exact⟨b,us,z1,⟨BW C,z2⟩,G,T,I.mono less⟩
    | gx g =>
     obtain⟨v,z1,z2⟩:=p2;exact⟨v,z1,z2.frame (λ_ z=>⟨BW C,z⟩) (λ_ _ _ z=>z) less⟩
def Ec(i:Nat):Ev->Fl:=λenv=>match env[i]? with
 | some (.ow ds)=>.ret (.lst ds)
 | _=>.no
theorem K1(i:Nat)(hN:X.N[i]?=some x:=by rfl)(hv:KX X.env.scope x:=by ext)(hd:Cg x:=by decide)
  (af:(x==("__classdict__" : Str))=false:=by decide):Af fr X (.Return (some (.Name x p)) pos) (Ec i):=(Nj (W8 hN hv hd af)).weak λD σ H M=>by
 obtain⟨env,B,A,k,ac,q⟩:=M;unfold Ec at q;split at q
 .rename_i ds e
  obtain⟨a,vs,h1,h2,h3,hz,hA,c,h0,_⟩:=k.own ac e;have less:∀ b,ins B.R a b=true->A b=true:=λb hb=>by
   rcases Gf hb with z | z
   .exact k.ra b z
   .rw[z];exact hA
  have r:=h3.mono (Qm (H:=H) less);refine⟨.ref a,h1,q (.ref a) H k.h0 (K6 hz (.inl (.inl (U1 h2 c))) (r.mono (Qm λb hb=>Q5 hb))) λ_=>⟨a,vs,rfl,h0,h2,hz,r⟩⟩
 .exact q.elim
def Zz(i:Nat)(f:Zzu):Ev->Fl:=λenv=>match f env with
 | some d=>.next (env.set i (.fz d))
 | none=>.no
def Qy(i:Nat)(f:Zzv):Ev->Fl:=λenv=>match f env with
 | some ds=>.next (env.set i (.ow ds))
 | none=>.no
theorem C'.putO(k:C' K B A H σ env)(ac:B.st=true)(i:Nat){p:A2}(hz:ds.length<=sizeLine)(s:Zv H H')(hn:H p=none)(F:H' p=some (.lst vs))(r:Vc K (av H' (ins A p)) ds vs) :
  F' A H (ins A p) H'/\C' K B (ins A p) H' (σ.set i (some (.ref p))) (env.set i (.ow ds)):=by
 have st:F' A H (ins A p) H':=⟨λa o h _=>s a o h,λa h=>by
  rcases Gf h with z | z
  .exact .inl z
  .rw[z];exact .inr hn⟩
 have l:A p=false:=k.mu.new hn;have h0:B.H₀ p=none:=k.h0.free hn;obtain⟨own,h1,h2,h4⟩:=k.sl;refine⟨st,k.h0.trans s,k.r0,λa h=>Q5 (k.ra a h),λa h=>?_,λa h=>?_,by rw[DB,DB];exact k.len,λhs j d'=>O6 (k.np hs) (λ_ z=>by cases z) j d',
  λj a=>(j≠i/\own j a)\/(j=i/\a=p),λj t a z z'=>?_,λj a z=>?_,λj sl e=>?_⟩
 .rcases Gf h with z | z
  .exact k.ar a z
  .rw[z];exact .inr h0
 .rcases Gf h with z | z
  .exact k.mu.mono s a z
  .rw[z,F];trivial
 .rcases z with z | z<;>rcases z' with z' | z'
  .exact h1 j t a z.2 z'.2
  .have:=(h2 j a z.2).1;rw[z'.2,l] at this;cases this
  .have:=(h2 t a z'.2).1;rw[z.2,l] at this;cases this
  .rw[z.1,z'.1]
 .rcases z with z | z
  .exact⟨Q5 (h2 j a z.2).1,(h2 j a z.2).2⟩
  .refine⟨by rw[z.2];exact Jn,?_⟩
   cases q:B.R a with
   | false=>rfl
   | true=>obtain⟨o,J⟩:=k.r0 a q;rw[z.2,h0] at J;cases J
 .by_cases C:i=j
  .subst C
   rw[BF,AF rfl] at e;split at e
   .rename_i hl
    cases e;exact⟨some (.ref p),by rw[BF,AF rfl,AF (by rw[k.len];exact hl)],p,vs,rfl,.inr ⟨rfl,rfl⟩,hz,F,r⟩
   .cases e
  .rw[BF,AJ C] at e
   obtain⟨x,p1,p2⟩:=h4 j sl e;refine⟨x,by rw[BF,AJ C];exact p1,?_⟩;cases sl with
   | un=>trivial
   | fz d=>obtain⟨v,z1,z2⟩:=p2;exact⟨v,z1,z2.mono st.av⟩
   | pk d=>exact absurd e (k.np ac j d)
   | ow es =>
    obtain⟨b,us,z1,z2,G,T,I⟩:=p2;exact⟨b,us,z1,.inl ⟨BW C,z2⟩,G,s _ _ T,I.mono st.av⟩
   | gx g =>
    obtain⟨v,z1,z2⟩:=p2;exact⟨v,z1,z2.frame (λ_ z=>.inl ⟨BW C,z⟩) (λb x _ z=>s b x z) st.av⟩
theorem Zl(i:Nat)(hN:X.N.Nodup)(he:Wy false X e f)(hi:X.N[i]?=some x:=by rfl)(hx:KH X.env.scope x:=by ext)(hs:swapsWith e (some (.Name x au)) pos.line X.env=pure false:=by rfl)
  (hf:X.fn x=true\/X.env.scope.names.lookup x=some .local:=by ext):Af fr X (.Assign [.Name x au] e pos) (Zz i f):=(Co hN hi hx he hs hf).weak λD σ H M=>by
 obtain⟨env,B,A,k,ac,q⟩:=M;unfold Zz at q;split at q
 .rename_i d e
  exact⟨env,B,A,d,k,e,λv H' s r=>q A H' _ (F'.same s) ((k.mono s).put i r)⟩
 .exact q.elim
theorem Tx(i:Nat)(hN:X.N.Nodup)(he:KB X e fs)(hi:X.N[i]?=some x:=by rfl)(hx:KH X.env.scope x:=by ext)(hs:swapsWith e (some (.Name x au)) pos.line X.env=pure false:=by rfl)
  (hf:X.fn x=true\/X.env.scope.names.lookup x=some .local:=by ext):Af fr X (.Assign [.Name x au] e pos) (Qy i fs):=(Co hN hi hx he hs hf).weak λD σ H M=>by
 obtain⟨env,B,A,k,ac,q⟩:=M;unfold Qy at q;split at q
 .rename_i ds e
  refine⟨env,B,A,ds,k,e,λp vs H' hz s hn F r=>?_⟩;obtain⟨h1,h2⟩:=k.putO ac i hz s hn F r;exact q _ H' _ h1 h2
 .exact q.elim
variable{gg:Dat->Ev->Cc Ev}{tt:Ev->Cc Bool}
theorem bo(i:Nat)(hN:X.N.Nodup)(ao:IX)(fs:Z (Cc Nat))(N:Z Str)(F:X.env.scope=ao)(hc:X.calm=true)(hi:KR false X tg iter az)
  (hb:∀ (C:A2) (s:A4) (H:Hp) (fp:Z A2),KS is (Wl X sc N C s H fp) tg gg/\MC (Wl X sc N C s H fp) ay tt/\Wy false (Wl X sc N C s H fp) aA f)
  (c:∀ i∈is,fs[i]?=some none) (y:X.N[i]?=some x:=by rfl) (hx:KH X.env.scope x:=by ext) (S:CompOk ao sc X.N N fs:=by exact CompOk.of (by kernel_rfl!)) (hs:∀ x,foldedSetIterable iter X.env x=pure x:=by intro _;rfl) (ak:swapsWith (.ListComp aA [⟨tg,iter,ay,0⟩] sc pos) (some (.Name x au)) aC.line X.env=pure true:=by rfl)
  (hf:X.fn x=true\/X.env.scope.names.lookup x=some .local:=by ext) :
  Af fr X (.Assign [.Name x au] (.ListComp aA [⟨tg,iter,ay,0⟩] sc pos) aC) (Qy i (Wg az fs gg tt f)):=(G8 (g:=λv σ H Q=>∃ env R A d env',C' X.K R A H σ env/\Rp X.K (av H A) d v/\gg d env=some env'/\∀ σ',C' X.K R A H σ' env'->Hd is σ σ'->Q σ' H) (tt:=λσ H Q=>∃ env R A b,C' X.K R A H σ env/\tt env=some b/\∀ H',Zv H H'->Q b H') (te:=λσ H Q=>∃ env R A d,C' X.K R A H σ env/\f env=some d/\Qc false X.K A H d Q) hN y hx ao fs N F S hc hi hb hs ak hf).weak λD σ H M=>by
 obtain⟨env,B,A,k,ac,q⟩:=M;unfold Qy at q;split at q
 .rename_i ys e
  obtain⟨ds,e1,e2⟩:=Zi e;refine⟨env,B,A,ds,k,e1,λJ H1 hz s1 hJ=>Aa (Q:=λv H'=>D.nx (σ.set i (some v)) H') c (k.mono s1) hJ hz e2 λp vs H' l s hn F r=>?_⟩;obtain⟨h1,h2⟩:=k.putO ac i l (s1.trans s) (s1.free hn) F r;exact q _ H' _ h1 h2
 .exact q.elim
theorem Rc(i:Nat)(hN:X.N.Nodup)(ao:IX)(fs:Z (Cc Nat))(N:Z Str)(F:X.env.scope=ao)(hc:X.calm=true)(hi:KR false X tg iter az)
  (hb:∀ (C:A2) (s:A4) (H:Hp) (fp:Z A2),KS is (Wl X sc N C s H fp) tg gg/\MC (Wl X sc N C s H fp) ay tt/\Wy false (Wl X sc N C s H fp) aA f)
  (c:∀ i∈is,fs[i]?=some none) (y:X.N[i]?=some x:=by rfl) (hx:KH X.env.scope x:=by ext) (S:CompOk ao sc X.N N fs:=by exact CompOk.of (by kernel_rfl!)) (hs:∀ x,foldedSetIterable iter X.env x=pure x:=by intro _;rfl) (ak:swapsWith (.ListComp aA [⟨tg,iter,ay,0⟩] sc pos) (some (.Name x au)) aC.line X.env=pure true:=by rfl)
  (hf:X.fn x=true\/X.env.scope.names.lookup x=some .local:=by ext) :
  Af fr X (.Assign [.Name x au] (.ListComp aA [⟨tg,iter,ay,0⟩] sc pos) aC) (Zz i (dL (Wg az fs gg tt f))):=(G8 (g:=λv σ H Q=>∃ env R A d env',C' X.K R A H σ env/\Rp X.K (av H A) d v/\gg d env=some env'/\∀ σ',C' X.K R A H σ' env'->Hd is σ σ'->Q σ' H) (tt:=λσ H Q=>∃ env R A b,C' X.K R A H σ env/\tt env=some b/\∀ H',Zv H H'->Q b H') (te:=λσ H Q=>∃ env R A d,C' X.K R A H σ env/\f env=some d/\Qc false X.K A H d Q) hN y hx ao fs N F S hc hi hb hs ak hf).weak λD σ H M=>by
 obtain⟨env,B,A,k,ac,q⟩:=M;unfold Zz at q;split at q
 .rename_i d e
  obtain⟨ys,e',j⟩:=map_some e;subst j;obtain⟨ds,e1,e2⟩:=Zi e';have G:Qc false X.K A H (.lst ys) (λv H'=>D.nx (σ.set i (some v)) H'):=λv H' s r=>q A H' _ (F'.same s) ((k.mono s).put i r)
  exact⟨env,B,A,ds,k,e1,λJ H1 hz s1 hJ=>Aa (Q:=λv H'=>D.nx (σ.set i (some v)) H') c (k.mono s1) hJ hz e2 ((G.new k.mu).mono s1)⟩
 .exact q.elim
def Cz(f:Zzu)(g:Dat->Ev->Cc Ev):Ev->Fl:=λenv=>match (f env).bind λd=>g d env with
 | some env'=>.next env'
 | none=>.no
theorem SE{g:Dat->Ev->Cc Ev}(he:Wy false X e f)(S:KS is X tg g)(hs:swapsWithSole [tg] e pos.line X.env=pure false:=by rfl)(hw:swappedStores [tg] e X.env=pure none:=by rfl)(h1:(assignEach [tg] X.env).map (·.2)=[assign tg X.env]:=by rfl):Af fr X (.Assign [tg] e pos) (Cz f g):=(XY he S hs hw h1).weak λD σ H M=>by
 obtain⟨env,B,A,k,ac,q⟩:=M;unfold Cz at q;split at q
 .rename_i env' e
  obtain⟨d,e1,e2⟩:=Zi e;exact⟨env,B,A,d,k,e1,λv H' s r=>⟨env,B,A,d,env',k.mono s,r,e2,λσ' E _=>q A H' σ' (F'.same s) E⟩⟩
 .exact q.elim
def Xa(g:Dat->Ev->Cc Ev)(body:Ev->Fl):Z Dat->Ev->Fl
 | [],env=>.next env
 | x::xs,env=>match g x env with
  | none=>.no
  | some l=>match body l with
   | .next e=>Xa g body xs e
   | .cont e=>Xa g body xs e
   | .brk e=>.next e
   | .ret d=>.ret d
   | .exc e c fs=>.exc e c fs
   | .no=>.no
def Uv(az:Zzv)(g:Dat->Ev->Cc Ev)(body:Ev->Fl):Ev->Fl:=λenv=>match az env with
 | none=>.no
 | some ds=>Xa g body ds env
theorem Ve(F:PassesOwn (model X.prog X.w) X.A X.env X.xe)(hc:X.calm=true)(hi:KR true X tg iter az)(S:KS is X tg gg)(hb:KJ fr X body g)
  (hs:∀ x,foldedSetIterable iter X.env x=pure x:=by intro _;rfl):Af fr X (.For tg iter body [] pos) (Uv az gg g):=(iJ F hc hi S hb hs).weak λD σ H M=>by
 obtain⟨env,B,A,k,ac,q⟩:=M;unfold Uv at q;split at q
 .exact q.elim
 rename_i ds e;refine⟨env,B,A,ds,k,e,λJ H1 hz s1 hJ=>?_⟩;refine⟨λi m σ' H'=>m=ds.length - i/\i<=ds.length/\∃ A' env',F' A H1 A' H'/\C' X.K B A' H' σ' env'/\Aw fr X B A' H' D (Xa gg g (ds.drop i) env'),
  ⟨ds.length,by simp,DH _,A,env,F'.refl A H1,k.mono s1,by simpa using q.step (F'.same s1)⟩,?_⟩
 rintro i m σ' H' ⟨rfl,y,A',env',s',E,G⟩;obtain⟨af,n⟩:=hJ A' H' s' E.mu;by_cases ai:i<ds.length
 .obtain⟨go,yl⟩:=af i _ (show ds[i]?=some ds[i] by simp[ai])
  refine .inr ⟨go,λσ2 H2=>i+1<=ds.length/\∃ f a,F' A H1 f H2/\C' X.K B f H2 σ2 a/\Aw fr X B f H2 D (Xa gg g (ds.drop (i+1)) a),λσ2 H2 z=>⟨ds.length - (i+1),by lia,rfl,z⟩,λx H2 hy=>?_⟩;obtain⟨s2,rx⟩:=yl x H2 hy;rw[EB ai,Xa] at G;split at G
  .exact G.elim
  rename_i l e1;refine⟨env',B,A',ds[i],l,E.mono s2,rx,e1,λσ3 k3 _=>⟨l,B,A',k3,ac,?_⟩⟩;have p:F' A' H' A' H2:=F'.same s2;split at G
  .rename_i e2 T
   rw[T];exactλb H4 σ4 s4 v=>⟨ai,b,e2,s'.trans (p.trans s4),v,G.step (p.trans s4)⟩
  .rename_i e2 T
   rw[T];exactλb H4 σ4 s4 v=>⟨ai,b,e2,s'.trans (p.trans s4),v,G.step (p.trans s4)⟩
  .rename_i e2 T
   rw[T];exactλb H4 σ4 s4 v=>G b H4 σ4 (p.trans s4) v
  .rename_i d T
   rw[T];exact G
  .rename_i e2 c2 f2 T
   rw[T];exactλb H4 σ4 s4 v=>G b H4 σ4 (p.trans s4) v
  .exact G.elim
 .have e:i=ds.length:=by lia
  subst e;rw[List.drop_length,Xa] at G;exact .inl ⟨n,G A' H' σ' (F'.refl _ _) E⟩
def Ul(t:Ev->Cc Bool)(body:Ev->Fl):Nat->Ev->Fl
 | 0,_=>.no
 | n+1,env=>match t env with
  | none=>.no
  | some false=>.next env
  | some true=>match body env with
   | .next e=>Ul t body n e
   | .cont e=>Ul t body n e
   | .brk e=>.next e
   | .ret d=>.ret d
   | .exc e c fs=>.exc e c fs
   | .no=>.no
theorem Qr{body:Ev->Fl}:∀ {n:Nat} {env:Ev} (k:Nat),Ul t body n env≠.no->Ul t body (n+k) env=Ul t body n env
 | 0,env,k,h=>absurd rfl h
 | n+1,env,k,h=>by
  rw[show n+1+k=(n+k)+1 by lia];simp only[Ul] at h ⊢;split
  .rfl
  .rfl
  .rename_i e1
   simp only[e1] at h;split
   .rename_i e2 T;simp only[T] at h;exact Qr k h
   .rename_i e2 T;simp only[T] at h;exact Qr k h
   .rfl
   .rfl
   .rfl
   .rfl
open Classical in
def K2(t:Ev->Cc Bool)(body:Ev->Fl):Ev->Fl:=λenv=>if h:∃ n,Ul t body n env≠.no then Ul t body (Classical.choose h) env else .no
theorem ZS{body:Ev->Fl}(h:Ul t body n env≠.no):K2 t body env=Ul t body n env:=by
 unfold K2;have hx:∃ n,Ul t body n env≠.no:=⟨n,h⟩;rw[dif_pos hx];have hc:=Classical.choose_spec hx;have e1:=Qr n hc;have e2:=Qr (Classical.choose hx) h;rw[<- e1,<- e2,Nat.add_comm]
theorem dw(F:PassesOwn (model X.prog X.w) X.A X.env X.xe)(hc:Cb X c t)(hb:KJ fr X body g):Af fr X (.While c body [] pos) (K2 t g):=(gI F hc hb).weak λD σ H M=>by
 obtain⟨env,B,A,k,ac,q⟩:=M;unfold K2 at q;split at q
 .rename_i hx
  refine⟨λn σ' H'=>∃ A' env',C' X.K B A' H' σ' env'/\Aw fr X B A' H' D (Ul t g n env'),⟨_,A,env,k,q⟩,?_⟩;rintro n σ' H' ⟨A',env',E,G⟩;cases n with
  | zero=>exact G.elim
  | succ n =>
   rw[Ul] at G;split at G
   .exact G.elim
   .rename_i e1
    refine⟨env',B,A',false,E,e1,λH1 s1=>?_⟩;refine VB ?_;exact G A' H1 σ' (F'.same s1) (E.mono s1)
   .rename_i e1
    refine⟨env',B,A',true,E,e1,λH1 s1=>?_⟩;refine QE ?_;refine⟨λσ2 H2=>∃ f a,C' X.K B f H2 σ2 a/\Aw fr X B f H2 D (Ul t g n a),λσ2 H2 z=>⟨n,FP n,z⟩,env',B,A',E.mono s1,ac,?_⟩;have p:F' A' H' A' H1:=F'.same s1;split at G
    .rename_i e2 T
     rw[T];exactλb H4 σ4 s4 v=>⟨b,e2,v,G.step (p.trans s4)⟩
    .rename_i e2 T
     rw[T];exactλb H4 σ4 s4 v=>⟨b,e2,v,G.step (p.trans s4)⟩
    .rename_i e2 T
     rw[T];exactλb H4 σ4 s4 v=>G b H4 σ4 (p.trans s4) v
    .rename_i d T
     rw[T];exact G
    .rename_i e2 c2 f2 T
     rw[T];exactλb H4 σ4 s4 v=>G b H4 σ4 (p.trans s4) v
    .exact G.elim
 .exact q.elim
def NU(X:Cx)(id:String)(F:Z Dat->Z Dat->Cc (Z Dat)):Prop:=Ch X id (λv us H Q=>∃ A a vs ds as ds',Qe A H/\v=.ref a/\H a=some (.lst vs)/\Vc X.K (av H A) ds vs/\KD false X.K A H as us/\F ds as=some ds'/\∀ w f,ds'.length<=sizeLine->Vc X.K (av H A) ds' f->Q w (Wq H a (.lst f)))
def U6(i:Nat)(F:Z Dat->Z Dat->Cc (Z Dat))(fs:Zzv):Ev->Fl:=λenv=>match env[i]? with
 | some (.ow ds)=>match (fs env).bind λas=>F ds as with
  | some ds'=>.next (env.set i (.ow ds'))
  | none=>.no
 | _=>.no
theorem Vt(i:Nat){id:String}{F:Z Dat->Z Dat->Cc (Z Dat)}(slot:Slot "list" name id)(b:typeOf (.builtin id)=pure (.type "method_descriptor"))(hm:NU X id F)(Y:Bp false X (e::es) fs)
  (hN:X.N[i]?=some x:=by rfl) (hv:KX X.env.scope x:=by ext) (hd:Cg x:=by decide) (af:(x==("__classdict__" : Str))=false:=by decide)
  (ak:swapsWith (.Call (.Attribute (.Name x p) name aj) (e::es) [] al) none pos.line X.env=pure false:=by rfl)
  (g:attributeBase (.Name x p) name X.env (eval (.Name x p) X.env)=eval (.Name x p) X.env:=by rfl)
  (ag:((backTo al (starEach (e::es) X.env)).all (λx=>!x.1)&&(backToKw al (keywordEach [] X.env)).all (λx=>x.1.isSome)
   && decide ((e::es).length+([]:Z Keyword).length+(if([]:Z Keyword).isEmpty then 0 else 1)<30))=true:=by rfl)
  (u:(aj.endLine==al.line)=true:=by rfl) (hs:Z2 X.env e es:=by rfl) (E:dO al X.env es:=by rfl) :
  Af fr X (.Expr (.Call (.Attribute (.Name x p) name aj) (e::es) [] al) pos) (U6 i F fs):=(TK (RL EK slot b hm (W8 hN hv hd af) Y g ag u hs E) ak).weak λD σ H M=>by
 obtain⟨env,B,A,k,ac,q⟩:=M;unfold U6 at q;split at q
 .rename_i ds e
  split at q
  .rename_i ds' e2
   obtain⟨as,e3,e4⟩:=Zi e2;obtain⟨a,vs,h1,h2,h3,_⟩:=k.own ac e;refine⟨.ref a,h1,.inl ⟨rfl,vs,Dq.of h2⟩,env,B,A,as,k,e3,λus H2 s2 rs=>?_⟩;have k2:=k.mono s2;obtain⟨a',f,W,g2,g3,_,_,_,_,t,_⟩:=k2.own ac e;rw[h1] at W;cases W;refine⟨A,a,f,ds,as,ds',k2.mu,rfl,g2,g3,rs,e4,λw h hz r2=>?_⟩;obtain⟨z1,z2⟩:=t ds' h hz r2;exact q A _ σ ((F'.same s2).trans z1) z2
  .exact q.elim
 .exact q.elim
def Wf:Z Dat->Z Dat->Cc (Z Dat)
 | ds,[d]=>if ds.length<sizeLine then some (ds++[d]) else none
 | _,_=>none
theorem Vj:NU X "list.append" Wf:=Ch.weak (id:="list.append") P4 λv us H Q M=>by
 obtain⟨A,a,vs,ds,as,ds',mu,e1,h1,r1,r2,e2,q⟩:=M;unfold Wf at e2;split at e2
 .rename_i d
  split at e2
  .rename_i hl
   cases e2;obtain⟨w,l,e3,r3,e4⟩:=r2;refine⟨a,vs,w,e1,by rw[e3,show l=[] from e4],h1,by rw[Yh r1];exact hl,q _ _ (by simp;lia) (Vm r1 (Wu r3))⟩
  .cases e2
 .cases e2
end
inductive Rs where
 | ok (d:Dat) | exc (c:Str) (fs:List (Str×XD)) | no
def Mo(n:Nat)(ds:Z Dat):Ev:=ds.map .fz++List.replicate (n - ds.length) .un
def Wp(n p:Nat)(g:Ev->Fl):Z Dat->Rs:=λds=>if ds.length=p then(match g (Mo n ds) with
 | .ret d=>.ok d
 | .next _=>.ok .non
 | .exc _ c fs=>.exc c fs
 | _=>.no) else .no
def P'(K:E')(fr:Bool)(p:Nat)(F:Z Dat->Rs):Sp:=λvs H Q _=>vs.length=p/\∃ ds R d,Qe R H/\Vc K (av H R) ds vs/\F ds=.ok d/\∀ v H',Zv H H'->Rp K (av H' R) d v->(fr=true->LN K ⟨H,R,true⟩ H' d v)->Q v H'
structure JQ (P:Program) (w:World) (K:E') (mg:JG) (base:Heap) (k:Nat) (x:Str) (ps:List Str) (fr:Bool) (F:List Dat->Rs):Prop where
 cal:ML P w K mg base k x ps (P' K fr ps.length F)
 len:∀ ds d,F ds=.ok d->ds.length=ps.length
theorem NB.some{o:Cc HO}(h:NB o):∃ u,o=Option.some u:=by
 cases o with
 | none=>exact h.elim
 | some u=>exact⟨u,rfl⟩
theorem Nn(mu:Qe R H)(r:Vc K (av H R) ds vs)(hl:ds.length<=N.length):C' K ⟨H,R,true⟩ R H (IZ N vs) (Mo N.length ds):=by
 have hn:=Yh r;refine⟨Zv.refl H,λa h=>(mu a h).some,λ_ h=>h,λ_ h=>.inl h,mu,by simp[IZ,Mo];lia,λ_ i d=>?_,λ_ _=>False,λ_ _ _ h=>h.elim,λ_ _ h=>h.elim,λi s e=>?_⟩
 .unfold Mo
  rw[List.getElem?_append];split
  .rw[AQ]
   cases ds[i]?<;>simp
  .rw[GE]
   split<;>simp
 .unfold Mo at e
  unfold IZ;rw[List.getElem?_append] at e ⊢;simp only[AB] at e ⊢;rw[hn];split at e
  .rename_i hi
   rw[AF hi];rw[AQ] at e ⊢;cases hd:ds[i]? with
   | none=>rw[hd] at e;cases e
   | some d =>
    rw[hd] at e;cases e;obtain⟨v,h1,h2⟩:=M2 r hd;rw[h1];exact⟨some v,rfl,v,rfl,h2⟩
  .rename_i hi
   rw[AJ hi];rw[GE] at e ⊢;split at e
   .rename_i h2
    cases e;rw[AF h2];exact⟨none,rfl,trivial⟩
   .cases e
theorem Ni{p:Nat}{d:Dat}(F:p<=N.length)(mu:Qe R H)(r:Vc X.K (av H R) ds vs)(m:Wp N.length p g ds=.ok d)
  (q:∀ v H',Zv H H'->Rp X.K (av H' R) d v->(fr=true->LN X.K ⟨H,R,true⟩ H' d v)->Q v H') :
  tS fr X g (JF.mk (λ_ H'=>Q .non H') Q (λ_ _=>False) (λ_ _=>False)) (IZ N vs) H:=by
 unfold Wp at m;split at m
 .rename_i hl
  refine⟨Mo N.length ds,⟨H,R,true⟩,R,Nn mu r (by lia),rfl,?_⟩;split at m
  .rename_i d' e
   cases m;rw[e];exactλv H' s r n=>q v H' s r n
  .rename_i env e
   cases m;rw[e];exactλA' H' σ' s k=>q .non H' k.h0 d7 (λ_=>trivial)
  .cases m
  .cases m
 .cases m
section
variable{P:D1}{w:D2}{K:E'}{mg:JG}{base:Ff}
theorem B8{p:Nat}{d:Dat}(h:Wp n p g ds=.ok d):ds.length=p:=by
 unfold Wp at h;split at h
 .assumption
 .cases h
theorem de{P:Z α->Prop}(us:Z α)(hl:us.length=0)(h:P []):P us:=by cases us with | nil=>exact h | cons _ _=>cases hl
@[elab_as_elim] theorem JU{P:Z α->Prop}(us:Z α)(hl:us.length=1)(h:∀ a,P [a]):P us:=by
 cases us with
 | nil=>cases hl
 | cons a us=>exact de (P:=λus=>P (a::us)) us (FT hl) (h a)
@[elab_as_elim] theorem JM{P:Z α->Prop}(us:Z α)(hl:us.length=2)(h:∀ a b,P [a,b]):P us:=by
 cases us with
 | nil=>cases hl
 | cons a us=>exact JU (P:=λus=>P (a::us)) us (FT hl) (h a)
@[elab_as_elim] theorem K'{P:Z α->Prop}(us:Z α)(hl:us.length=3)(h:∀ a b c,P [a,b,c]):P us:=by
 cases us with
 | nil=>cases hl
 | cons a us=>exact JM (P:=λus=>P (a::us)) us (FT hl) (h a)
@[elab_as_elim] theorem NE{P:Z α->Prop}(us:Z α)(hl:us.length=4)(h:∀ a b c d,P [a,b,c,d]):P us:=by
 cases us with
 | nil=>cases hl
 | cons a us=>exact K' (P:=λus=>P (a::us)) us (FT hl) (h a)
@[elab_as_elim] theorem UP{P:Z α->Prop}(us:Z α)(hl:us.length=5)(h:∀ a b c d e,P [a,b,c,d,e]):P us:=by
 cases us with
 | nil=>cases hl
 | cons a us=>exact NE (P:=λus=>P (a::us)) us (FT hl) (h a)
@[elab_as_elim] theorem bE{P:Z α->Prop}(us:Z α)(hl:us.length=6)(h:∀ a b c d e f,P [a,b,c,d,e,f]):P us:=by
 cases us with
 | nil=>cases hl
 | cons a us=>exact UP (P:=λus=>P (a::us)) us (FT hl) (h a)
theorem We(D:OF K mg x st)(S:FnScope N ps (Z9 st))
  (b:dV x st ps)
  (hb:∀ (f:A2) (ai:A1) (A:B2) (outer:Z IY) (s:A4) (H:Hp) (E:XK),G' k (A.deeper (envOfC x (Z9 st) s.heap.objs.size f ai))->KJ fr (K5 A7 P w K mg base N x (Z9 st) f ai A outer s H E).nox (Wb st) g) :
  JQ P w K mg base (k+1) x ps fr (Wp N.length ps.length g):=by
 have ae:ps.length<=N.length:=by have:=EH List.length S.pre;rw[BY] at this;lia
 refine⟨cy D S b (λvs H Q E h=>h.1) λf ai A outer s H vs Q E hr ⟨hl,ds,R,d,mu,r,m,q⟩=>⟨_,hb f ai A outer s H E hr,?_⟩,λds d h=>B8 h⟩;exact Ni ae mu r m q
theorem JQ.mono{F:Z Dat->Rs}(C:JQ P w K mg base j x ps fr F)(h:j<=k):JQ P w K mg base k x ps fr F:=⟨C.cal.mono h,C.len⟩
def Bz(K:E'):Sp:=λvs H Q _=>∃ (a:A2) (ns:Z Int),vs=[.ref a]/\SL K H a (ns.map V.int)/\ns.length<=63/\∀ H',Q (.bl true) H'
theorem cO{f:A2}(F:KF K x x st f fd)(S:FnScope N ps (Z9 st))(b:ps.length=1)
  (hb:∀ (ai:A1) (A:B2) (outer:Z IY) (s:A4) (H:Hp) (E:XK),G' k (A.deeper (envOfC x (Z9 st) s.heap.objs.size f ai))->KJ false (K5 A7 P w K mg base N x (Z9 st) f ai A outer s H E).nox (Wb st) g)
  (c:∀ ns:Z Int,ns.length<=63->Wp N.length 1 g [.lst (ns.map .int)]=.ok (.bl true)):I' P w K mg base A7 (k+1) f fd ps (Bz K):=by
 have ae:ps.length<=N.length:=by have:=EH List.length S.pre;rw[BY] at this;lia
 refine dG F S (λvs H Q E ⟨a,ns,e,_⟩=>by rw[e,b];rfl) λai A outer s H vs Q E hr ⟨a,ns,e,hS,hl,q⟩=>⟨_,hb ai A outer s H E hr,?_⟩
 subst e;refine Ni (R:=no) (d:=.bl true) (by lia) (λa h=>by cases h) (ds:=[.lst (ns.map .int)]) ?_ (c ns hl) λv H' _ r _=>by rw[Ps r];exact q H'
 rw[hT];refine Wu (K6 ?_ hS (D6 ns));rw[AB];exact HB (Iw (by lia))
variable{X:Cx}{m:Bool}{fr:Bool}{F:Z Dat->Rs}{k:Nat}{x:Str}{ps:Z Str}{e:Cs}{es:Z Cs}{fs:Zzv}{p pos:Pos}
def ND:Rs->Cc Dat
 | .ok d=>some d
 | _=>none
theorem Ob{r:Rs}{d:Dat}(h:ND r=some d):r=.ok d:=by cases r<;>cases h;rfl
def Yj(F:Z Dat->Rs)(fs:Zzv):Ev->Cc Dat:=λenv=>(fs env).bind λds=>ND (F ds)
theorem VE(C:JQ X.prog X.w X.K X.mg X.base k x ps fr F)(hr:G' k X.A)(Y:Bp false X (e::es) fs)(S:Gl X x:=by rfl)
  (g:Cg x:=by decide) (he:Z2 X.env e es:=by rfl) (ae:dO pos X.env es:=by rfl) :
  Wy m X (.Call (.Name x p) (e::es) [] pos) (Yj F fs):=Wy.any ((RE C.cal hr Y S g he ae).weak λσ H Q M=>by
 obtain⟨env,R,A,d,k,q1,q2⟩:=M;obtain⟨ds,e1,e2⟩:=Zi q1;have e3:=Ob e2;refine⟨env,R,A,ds,k,e1,λvs H1 s1 rs=>⟨by rw[Yh rs.rps];exact C.len ds d e3,ds,A,d,k.mu.mono s1,rs.rps,e3,λv H' s r _=>q2 v H' (s1.trans s) r⟩⟩)
def O0:Rs->Cc (Z Dat)
 | .ok (.lst ds)=>some ds
 | _=>none
theorem bi{r:Rs}{d:Z Dat}(h:O0 r=some d):r=.ok (.lst d):=by
 unfold O0 at h;split at h
 .cases h;rfl
 .cases h
end
def MS(sq:Hp->Z V->Prop):It :=
 ⟨λi H=>∃ xs x,sq H xs/\xs[i]?=some x,
  λi H v H'=>∃ p x,v=.ref p/\H p=none/\(∀ xs,sq H xs->xs[i]?=some x)/\H'=Wq H p (.tup [.int i,x]),
  λi H=>∃ xs,sq H xs/\xs.length=i⟩
theorem D'.turnedT{T:A2}{xs:Z V}(I:D' X aa σ H s)(hf:∀ b∈ch,Ro X aa H b)
  (kk:∀ b o,b∉ch->s.heap.get? b=some o->h'.get? b=some o) (j:s.heap.objs.size<=T) (rv:Yl xs its) (hz:xs.length<=sizeLine) (ht:IsTup h' T its.toArray) :
  D' X aa σ (Wq H T (.tup xs)) { s with heap:=h',toks:=tk }:=by
 have hn:H T=none:=I.hok.fresh j;have f:∀ b u,H b=some u->b∉ch:=λb u e z=>by rw[(hf b z).1] at e;cases e
 refine I.call' (ch:=ch) rfl ⟨λb o q n _ hx=>kk b o hx q,λb o q n _ hx=>⟨o.slots,kk b o hx q⟩,λb o q n hx=>?_,λb o q hx=>⟨o,kk b o hx q⟩,λb ys q=>?_,λb o u q=>?_,λb ps q=>⟨#[],?_⟩⟩ (λb u e=>?_) I.bare λb hb=>⟨(hf b hb).2.2.2.1,(hf b hb).2.1,(hf b hb).2.2.2.2.1,(hf b hb).2.2.2.2.2⟩
 .rw[Zp (BZ (AV (BE q) j))];exact n
 .rw[Zp (Ym q hn)];exact q
 .rw[Zp (Ym q hn)];exact q
 .rw[Zp (Ym q hn),q];simp
 .by_cases hb:b=T
  .subst hb
   rw[Y5] at e;cases e;exact⟨hz,its,rv,ht⟩
  .rw[Zp hb] at e
   refine(I.hok b u e).stay (λc v hc q=>?_) (λc q=>?_) λc ys q=>?_
   .rcases hc with hc | hc
    .subst hc;exact kk c v (f c u e) q
    .exact kk c v (f c _ hc) q
   .rw[Zp (Ym q hn)];exact q
   .rw[Zp (Ym q hn)];exact q
theorem D'.turnedN(I:D' X aa σ H s)(hf:∀ b∈ch,Ro X aa H b)
  (kk:∀ b o,b∉ch->s.heap.get? b=some o->h'.get? b=some o):D' X aa σ H { s with heap:=h',toks:=tk }:=by
 have f:∀ b u,H b=some u->b∉ch:=λb u e z=>by rw[(hf b z).1] at e;cases e
 refine I.call' (ch:=ch) rfl ⟨λb o q n _ hx=>kk b o hx q,λb o q n _ hx=>⟨o.slots,kk b o hx q⟩,λb o q n hx=>n,λb o q hx=>⟨o,kk b o hx q⟩,λb ys q=>q,λb o u q=>q,λb ps q=>⟨#[],by rw[q];simp⟩⟩ (λb u e=>?_) I.bare λb hb=>⟨(hf b hb).2.2.2.1,(hf b hb).2.1,(hf b hb).2.2.2.2.1,(hf b hb).2.2.2.2.2⟩
 refine(I.hok b u e).stay (λc v hc q=>?_) (λc q=>q) λc ys q=>q
 rcases hc with hc | hc
 .subst hc;exact kk c v (f c u e) q
 .exact kk c v (f c _ hc) q
theorem Pa{P:D1}(a e it:A2)(y:Nat->Ff->Prop)(ak:Ff->Array A1->Prop)(sq:Hp->Z V->Prop)
  (hS:∀ h h' i,y i h->(∀ o,h.get? it=some o->h'.get? it=some o)->y i h')
  (hO:∀ h i,y i h->∃ o,h.get? it=some o/\o.cls≠.type "enumerate" /\ ∀ v,o.data≠.cell v)
  (hA:∀ h ae,ak h ae->∃ o,h.get? a=some o/\o.cls≠.type "enumerate" /\ ∀ h' i,y i h'->∀ o',h'.get? it=some o'->o'.cls≠o.cls)
  (R:∀ A:B2,A.handled=none->a≠it->∀ ae:Array A1,Draws P w A it [it,a] ae.size (λi v=>ae[i]?=some v) (λi h=>y i h/\ak h ae))
  (S:∀ (X:Cx) (aa:I3) (σ:St) (H:Hp) (s:A4) (xs:Z V),X.K=K->D' X aa σ H s->sq H xs->∃ its,Yl xs its/\ak s.heap its.toArray)
  (C:∀ (X:Cx) (aa:I3) (σ:St) (H:Hp) (s:A4) (xs ys:Z V),X.K=K->D' X aa σ H s->sq H xs->sq H ys->xs=ys) :
  Cw P w K (.Tuple es k pos) (MS sq) [e,it] e (λi h=>(∃ f,IsEnum h e it i f)/\y i h) where
 mem:=by simp
 obj:=λi h st b hb=>by
  rcases BN.mp hb with rfl | hb
  .obtain⟨⟨f,z⟩,_⟩:=st;exact⟨_,z,λv q=>by cases q⟩
  .rw[AK.mp hb];obtain⟨o,h1,_,h2⟩:=hO h i st.2;exact⟨o,h1,h2⟩
 keep:=λi h h' st kk=>by
  obtain⟨⟨f,z⟩,q⟩:=st;exact⟨⟨f,kk e (by simp) _ z⟩,hS h h' i q λo r=>kk it (by simp) o r⟩
 item:=by
  intro X F hw l hc i aa s σ H E I hf st af;subst F hw;obtain⟨xs,x,Y,hx⟩:=af;obtain⟨its,rv,B⟩:=S X aa σ H s xs l I Y;obtain⟨u,hu,g⟩:=rv.get hx;obtain⟨⟨f,hE⟩,m⟩:=st;obtain⟨oi,c,al,_⟩:=hO _ _ m;obtain⟨oa,d,am,D⟩:=hA _ _ B;have ag:a≠it:=by intro z;rw[z,c] at d;cases d;exact D _ _ m _ c rfl
  have G:e≠it:=by intro z;rw[<- z,hE] at c;cases c;exact al rfl
  have ao:e≠a:=by intro z;rw[<- z,hE] at d;cases d;exact am rfl
  have W:=WalksT.enumerateD (R X.A.in1 (I.ok.hd hc) ag its.toArray) e G (by simp[G,ao]) (by simp);have hi:i<its.toArray.size:=by rw[AO];exact(AE.mp hu).1
  refine W.item i s _ _ hi ⟨⟨f,hE⟩,m,B⟩ λT p h' tk ap j ah hM hk=>⟨.ref T,rfl,W.go es k pos i T _ _ _ hM λh2 ac aj=>?_⟩
  obtain⟨t,M,N,rfl⟩:=ap;have aq:M=u:=by
   have:its[i]?=some M:=by simpa using N
   rw[hu] at this;exact(BK this).symm
  subst aq;have n:IsTup h2 T #[.int i t,M]:=by
   obtain⟨o,J,r⟩:=ah;exact⟨o,aj T o (W.apart i T h' hM) J,r⟩
  have I2:=D'.turnedT (s:=s) (h':=h2) (tk:=tk) (ch:=[e,it]) (its:=[.int i t,M]) (xs:=[.int i,x]) I hf (λb o hb q=>aj b o hb (hk b o hb q)) j (.cons ⟨t,rfl⟩ (.cons g .nil)) (by show 2<=sizeLine;decide) n;refine⟨.ref T,Wq H T (.tup [.int i,x]),I2,rfl,⟨T,x,rfl,I.hok.fresh j,λys hy=>?_,rfl⟩,⟨ac.1,ac.2.1⟩,λb hb=>?_⟩
  .rw[C X aa σ H s ys xs l I hy Y];exact hx
  .rw[Zp ?_];exact(hf b hb).1
   intro z;have ai:b<s.heap.objs.size:=by
    rcases BN.mp hb with rfl | hb
    .exact BE hE
    .rw[AK.mp hb];exact BE c
   exact absurd (AV ai (by rw[z];exact j)) (ED _)
 done:=by
  intro X F hw l hc i aa s σ H E I hf st hs;subst F hw;obtain⟨xs,Y,hl⟩:=hs;obtain⟨its,rv,B⟩:=S X aa σ H s xs l I Y;obtain⟨⟨f,hE⟩,m⟩:=st;obtain⟨oi,c,al,_⟩:=hO _ _ m;obtain⟨oa,d,am,D⟩:=hA _ _ B;have ag:a≠it:=by intro z;rw[z,c] at d;cases d;exact D _ _ m _ c rfl
  have G:e≠it:=by intro z;rw[<- z,hE] at c;cases c;exact al rfl
  have ao:e≠a:=by intro z;rw[<- z,hE] at d;cases d;exact am rfl
  have W:=WalksT.enumerateD (R X.A.in1 (I.ok.hd hc) ag its.toArray) e G (by simp[G,ao]) (by simp);have hn:its.toArray.size=i:=by rw[AO,<- rv.length];exact hl
  refine W.done s _ _ (by rw[hn];exact⟨⟨f,hE⟩,m,B⟩) λh' tk hk=>⟨rfl,I.turnedN (ch:=[e,it]) hf λb o hb q=>hk b o hb q⟩
 self:=λA i s Q E st h=>by
  obtain⟨⟨f,z⟩,_⟩:=st;exact HM z h
section
variable{st:Bool}
theorem bD(a e it:A2):Cw X.prog X.w X.K (.Tuple es tk aB) (MS λH xs=>Dx X.K H a xs) [e,it] e (λi h=>(∃ f,IsEnum h e it i f)/\h.IsTupleIter it a i) :=
 Pa a e it (λi h=>h.IsTupleIter it a i) (λh ae=>h.IsTuple a ae) _ (λh h' i q kk=>let ⟨o,h1,r⟩:=q;⟨o,kk o h1,r⟩)
  (λh i q=>let ⟨o,h1,h2,h3⟩:=q;⟨o,h1,by rw[h2];decide,λv z=>by rw[h3] at z;cases z⟩)
  (λh ae q=>let ⟨o,h1,h2,_⟩:=q;⟨o,h1,by rw[h2];decide,λh' i r o' e'=>by obtain⟨o2,W,g2,_⟩:=r;rw[W] at e';cases e';rw[g2,h2];decide⟩)
  (λA M ag ae=>Draws.tupleD M it a ag ae)
  (λY aa σ H s xs l I h=>by rw[<- l] at h;obtain⟨its,r,p,_⟩:=I.tuple h;exact⟨its,r,p⟩)
  (λY aa σ H s xs ys l I h h'=>by rw[<- l] at h h';exact I.tuple_inj h h')
theorem d5(a e it:A2):Cw X.prog X.w X.K (.Tuple es tk aB) (MS λH xs=>Dq X.K H a xs) [e,it] e (λi h=>(∃ f,IsEnum h e it i f)/\h.IsListIter it a i) :=
 Pa a e it (λi h=>h.IsListIter it a i) (λh ae=>h.IsList a ae) _ (λh h' i q kk=>let ⟨o,h1,r⟩:=q;⟨o,kk o h1,r⟩)
  (λh i q=>let ⟨o,h1,h2,h3⟩:=q;⟨o,h1,by rw[h2];decide,λv z=>by rw[h3] at z;cases z⟩)
  (λh ae q=>let ⟨o,h1,h2,_⟩:=q;⟨o,h1,by rw[h2];decide,λh' i r o' e'=>by obtain⟨o2,W,g2,_⟩:=r;rw[W] at e';cases e';rw[g2,h2];decide⟩)
  (λA M ag ae=>Draws.list M it a ag ae)
  (λY aa σ H s xs l I h=>by rw[<- l] at h;obtain⟨its,r,p,_⟩:=I.list h;exact⟨its,r,p.isList⟩)
  (λY aa σ H s xs ys l I h h'=>by rw[<- l] at h h';exact I.list_inj h h')
def E2:Nat->Z Dat->Z Dat
 | _,[]=>[]
 | k,x::xs=>.tup [.int k,x]::E2 (k+1) xs
theorem Gz:∀ (xs:Z Dat) (k i:Nat),(E2 k xs)[i]?=(xs[i]?).map λx=>.tup [.int ((k+i:Nat):Int),x]
 | [],k,i=>by simp[E2]
 | x::xs,k,0=>by simp[E2]
 | x::xs,k,i+1=>by
  rw[E2,GH,GH,Gz xs (k+1) i,show k+1+i=k+(i+1) by lia]
theorem T6:∀ (xs:Z Dat) (k:Nat),(E2 k xs).length=xs.length
 | [],_=>rfl
 | x::xs,k=>by rw[E2,BJ,BJ,T6 xs]
def Ow(f:Zzu):Ev->Cc (Z Dat):=λenv=>(Va f env).map (E2 0)
theorem L9{sq:Hp->Z V->Prop}(h:∀ g H1,LM st A H g H1->sq H1 vs)(r:Vc K (av H A) ds vs):Ai st K A H (E2 0 ds) (MS sq):=λg H1 c mu=>by
 have h1:=h g H1 c;have r1:=r.mono c.step.av;refine⟨λi x e=>?_,⟨vs,h1,by rw[T6];exact Yh r⟩⟩;rw[Gz] at e;obtain⟨d,e1,e2⟩:=map_some e;subst e2;obtain⟨v,e3,e4⟩:=M2 r1 e1;refine⟨⟨vs,v,h1,e3⟩,λP H2 ⟨p,x,z1,z2,G,T⟩=>?_⟩;subst z1 T;have:=G vs h1;rw[e3] at this;cases this;refine⟨Zv.new z2,Nh (by show 2<=sizeLine;decide) (.inl (U1 Y5 (mu.new z2))) (Yr ?_ (Wu (e4.mono (V0 (Zv.new z2)))))⟩;rw[IM];exact W7
def iF(K:E')(ta:TA):TI:=λσ H R=>ta σ H λvs H1=>∃ a,vs=[.ref a]/\(∃ xs,Dq K H1 a xs)/\R (MS λH xs=>Dq K H a xs) H1
def YI(K:E')(ta:TA):TI:=λσ H R=>ta σ H λvs H1=>∃ a,vs=[.ref a]/\(∃ xs,Dx K H1 a xs)/\R (MS λH xs=>Dx K H a xs) H1
theorem XF(I:D' X aa σ H s):∀ b∈[s.heap.objs.size+1,s.heap.objs.size],Ro X aa H b:=λb hb=>by
 rcases BN.mp hb with rfl | hb
 .exact I.fpOk (FG _) (I.hok.fresh (FG _))
 .rw[AK.mp hb];exact I.fpOk (AT _) (I.hok.fresh (AT _))
theorem Bo(S:Gl X "enumerate")(hm:X.mg "enumerate" = none)(hv:bootBuiltins "enumerate" = some (.type "enumerate"))(Y:PA X [l] ta)(hs:starEach [l] X.env=[(false,eval l X.env)]:=by rfl):PI X (.Tuple es tk aB) (.Call (.Name "enumerate" p) [l] [] pos) (iF X.K ta):=by
 intro aa s σ H R I h;refine Call_ (S0 I S hm hv (DF (Vy (Y pos aa s σ H _ I h) λus s1 ⟨vs,H1,G,r1,q1⟩=>?_) hs rfl));obtain⟨a,e,⟨xs,B⟩,q⟩:=q1;subst e;obtain⟨u,rfl,g⟩:=Sh r1;cases g;obtain⟨its,rv,pl,hz⟩:=G.list B;refine call_enumerate_list pl.isList λh' h1 h2 h3 h4=>?_
 have I2:D' X aa σ H1 { s1 with heap:=h' }:=G.kept (t':=s1.toks) h4;refine HM (s:={ s1 with heap:=h' }) h1 ?_;exact⟨s1.heap.objs.size+1,[s1.heap.objs.size+1,s1.heap.objs.size],_,_,H1,rfl,I2,d5 a _ _,⟨⟨_,h1⟩,h2⟩,XF G,q⟩
theorem Bg(S:Gl X "enumerate")(hm:X.mg "enumerate" = none)(hv:bootBuiltins "enumerate" = some (.type "enumerate"))(Y:PA X [l] ta)(hs:starEach [l] X.env=[(false,eval l X.env)]:=by rfl):PI X (.Tuple es tk aB) (.Call (.Name "enumerate" p) [l] [] pos) (YI X.K ta):=by
 intro aa s σ H R I h;refine Call_ (S0 I S hm hv (DF (Vy (Y pos aa s σ H _ I h) λus s1 ⟨vs,H1,G,r1,q1⟩=>?_) hs rfl));obtain⟨a,e,⟨xs,B⟩,q⟩:=q1;subst e;obtain⟨u,rfl,g⟩:=Sh r1;cases g;obtain⟨its,rv,pl,hz⟩:=G.tuple B;refine D4 (show s1.heap.IsTuple a its.toArray from pl) λh' h1 h2 h3 h4=>?_
 have I2:D' X aa σ H1 { s1 with heap:=h' }:=G.kept (t':=s1.toks) h4;refine HM (s:={ s1 with heap:=h' }) h1 ?_;exact⟨s1.heap.objs.size+1,[s1.heap.objs.size+1,s1.heap.objs.size],_,_,H1,rfl,I2,bD a _ _,⟨⟨_,h1⟩,h2⟩,XF G,q⟩
theorem Fy(hm:X.mg "enumerate" = none)(h:Wy false X l f)(S:Gl X "enumerate" := by rfl)(hv:bootBuiltins "enumerate" = some (.type "enumerate"):=by ext)(hs:starEach [l] X.env=[(false,eval l X.env)]:=by rfl):KR st X (.Tuple es tk aB) (.Call (.Name "enumerate" p) [l] [] pos) (Ow f) :=
 ((Bo S hm hv (Vq h Q4 hs) hs).or (Bg S hm hv (Vq h Q4 hs) hs)).weak λσ H i M=>by
 obtain⟨env,R,A,ds,k,e,q⟩:=M;obtain⟨xs,e0,e1⟩:=map_some e;subst e1;unfold Va at e0;split at e0
 .rename_i ys e1
  cases e0;refine .inl ⟨env,R,A,.lst xs,k,e1,λv H1 s1 p1=>?_⟩;obtain⟨a,vs,e2,h1,r1⟩:=Ey (show Rp X.K (av H1 A) (.lst xs) v from p1);subst e2;exact⟨a,rfl,⟨vs,(Wn.sl h1).sq⟩,q _ H1 (by rw[T6];exact p1.pk.lenL) s1 (L9 (vs:=vs) (λg H2 c=>(Wn.sl (c.step.av.sl h1)).sq) r1)⟩
 .rename_i ys e1
  cases e0;refine .inr ⟨env,R,A,.tup xs,k,e1,λv H1 s1 p1=>?_⟩;obtain⟨a,vs,e2,h1,r1⟩:=Su (show Rp X.K (av H1 A) (.tup xs) v from p1);subst e2;exact⟨a,rfl,⟨vs,Wn.seqT h1⟩,q _ H1 (by rw[T6];exact p1.pk.lenT) s1 (L9 (vs:=vs) (λg H2 c=>Wn.seqT (c.step.av.seqT h1)) r1)⟩
 .cases e0
theorem YD(hm:X.mg "enumerate" = none)(h:Wy true X l f)(S:Gl X "enumerate" := by rfl)(hv:bootBuiltins "enumerate" = some (.type "enumerate"):=by ext)(hs:starEach [l] X.env=[(false,eval l X.env)]:=by rfl):KR false X (.Tuple es tk aB) (.Call (.Name "enumerate" p) [l] [] pos) (Ow f) :=
 ((Bo S hm hv (Vq h Q4 hs) hs).or (Bg S hm hv (Vq h Q4 hs) hs)).weak λσ H i M=>by
 obtain⟨env,R,A,ds,k,e,q⟩:=M;obtain⟨xs,e0,e1⟩:=map_some e;subst e1;unfold Va at e0;split at e0
 .rename_i ys e1
  cases e0;refine .inl ⟨env,R,A,.lst xs,k,e1,λv H1 s1 p1=>?_⟩;obtain⟨a,vs,e2,h1,r1⟩:=p1.pk.lst;subst e2;exact⟨a,rfl,⟨vs,h1.sq⟩,q _ H1 (by rw[T6];exact p1.pk.lenL) s1 (L9 (vs:=vs) (λg H2 c=>(c.2.sl h1).sq) r1)⟩
 .rename_i ys e1
  cases e0;refine .inr ⟨env,R,A,.tup xs,k,e1,λv H1 s1 p1=>?_⟩;obtain⟨a,vs,e2,h1,r1⟩:=p1.pk.tup;subst e2;exact⟨a,rfl,⟨vs,h1⟩,q _ H1 (by rw[T6];exact p1.pk.lenT) s1 (L9 (vs:=vs) (λg H2 c=>c.2.seqT h1) r1)⟩
 .cases e0
end
end L2
variable{R:L2.AS}{G:Z L2.Dat->Cc (Z (PySem.Str×L2.XD))}{f fa fo:L2.Zzu}{fs az:L2.Zzv}{x q:PySem.Str}{g:L2.Ev->L2.Fl}{t:PySem.Addr}{aL:Bool}{b₀:PySem.Stmt}{np np1 np2 aF aH:PySem.Pos}{vs:Z PySem.Value}{ds xs:Z L2.Dat}{B:L2.Bs}{env:L2.Ev}{dss:Z (Z L2.Dat)}{gg:L2.Dat->L2.Ev->Cc L2.Ev}{f1 f2:Z PySem.Addr}{P1 P2:Nat->PySem.Value->Prop}{S1 S2:Nat->PySem.Heap->Prop}{sl:Array (Cc PySem.Value)}{su1 su2:Z PySem.Stmt}{known:Z PySem.Str}{dc:PySem.Value}{e1 e2:PySem.Expr}{H0:L2.Hp}{Fg Fs:Z L2.Dat->L2.Rs}{j:Int}{u:L2.Ev->Cc Bool}
namespace PySem


namespace F
end F
section
variable{R:Result->A4->Prop}
variable{G:Array GenState->Array GenState->Prop}{P:Nat->A1->Prop}{St:Nat->A4->Prop}
end
section
variable{P:Nat->A1->Prop}{St:Nat->A4->Prop}
end
end PySem
variable{t:L2.Ev->Cc Bool}{env':L2.Ev}
namespace L2
open PySem PySem.Spec PyProof.Rows
theorem YX(h:Ff)(o:Obj):(h.push o).objs.size=h.objs.size+1:=by cases h;exact Array.size_push ..
theorem Yl.ofInts:∀ {ns:Z Int} {us:Z A1},us.length=ns.length->(∀ (i:Nat) (n:Int),ns[i]?=some n->∃ t,us[i]?=some (Value.int n t))->Yl (ns.map V.int) us
 | [],[],_,_=>.nil
 | [],_::_,h,_=>by simp at h
 | _::_,[],h,_=>by simp at h
 | n::ns,u::us,h,k=>by
  obtain⟨t,e⟩:=k 0 n rfl;have e':u=.int n t:=by simpa using e
  exact .cons ⟨t,e'⟩ (Yl.ofInts (by simpa using h) λi n e=>by simpa using k (i+1) n (by simpa using e))
def B1:Z Dat->Cc Dat
 | [.int i]=>some (.int i)
 | [.bl b]=>some (.int (if b then 1 else 0))
 | _=>none
theorem RS:Hr X (.type "int") B1:=bY.weak λvs H Q M=>by
 obtain⟨A,ds,d,mu,e,p,q⟩:=M;unfold B1 at e;split at e
 .obtain⟨v,e1,p1⟩:=p.one
  cases e;exact .inl ⟨_,by rw[e1,p1.int],q.here W7⟩
 .obtain⟨v,e1,p1⟩:=p.one
  cases e;exact .inr ⟨_,by rw[e1,p1.bl],q.here W7⟩
 .cases e
def RQ:Dat->Dat->Cc Dat
 | .str x,.int k=>if 1<=k/\k<=1000/\x.length<=1000 then some (.str (Txt.mul x k)) else none
 | _,_=>none
theorem Ba(x:Array α)(c:α):∀ (n:Nat) (j:Array α),c∈(List.replicate n x).foldl (·++·) j->c∈j\/c∈x
 | 0,j,h=>.inl h
 | n+1,j,h=>by
  rw[List.replicate_succ,List.foldl_cons] at h;rcases Ba x c n _ h with h | h
  .rcases Array.mem_append.mp h with h | h
   .exact .inl h
   .exact .inr h
  .exact .inr h
theorem ZU{k:Int}(h:PyData.strOk x=true):PyData.strOk (Txt.mul x k)=true:=by
 unfold Txt.mul;split
 .unfold PyData.strOk Str.empty;simp
 .split
  .exact h
  .unfold PyData.strOk at h ⊢
   rw[HG] at h ⊢;intro c hc;rcases Ba x.cps c _ _ hc with z | z
   .simp at z
   .exact h c z
theorem YE:Sk X (binaryOp .Mult) RQ:=λaa s σ H x y v u Q I rx m M=>by
 obtain⟨A,a,b,d,mu,e,p1,p2,q⟩:=M;unfold RQ at e;split at e
 .rename_i z k
  split at e
  .rename_i hz
   cases e;obtain⟨e1,k1⟩:=p1.str;have e2:=p2.int;subst e1 e2;obtain⟨t,rfl⟩:=rx;obtain⟨t',rfl⟩:=m;have hl:(Txt.mul z k).length<=1000*1000:=len_mul_leN hz.2.2 hz.2.1;refine SB.mul (mulOk_of 1000 1000 hz.2.2 hz.2.1 (by lia) (by decide) (by decide)) λt' E=>⟨.str (Txt.mul z k),H,I.tok _,⟨_,rfl⟩,q.here (Ll (JP.of (ZU k1.ok) (BI hl (by decide))))⟩
  .cases e
 .cases e
def Eu:Dat->Dat->Cc Dat
 | .int i,.int j=>UR (.int i) (.int j)
 | .str x,.int k=>RQ (.str x) (.int k)
 | _,_=>none
theorem Db:Sk X (binaryOp .Mult) Eu:=Sk.or iU YE λx y d e=>by
 unfold Eu at e;split at e
 .exact .inl e
 .exact .inr e
 .cases e
end L2
namespace L2
open PySem
section
variable{g:Array GenState}{d:Drawn}{t:Nat}{os:OsState}
variable{nm:Str}{C N:A2}{bs aI:Z A1}{sub:Z A1}{aJ:String}
end
end L2
variable{k1 k2:L2.Ev->L2.Fl}
namespace L2
open PySem PySem.Spec PyProof.Rows PySem.W
open PySem.Builtin PySem.Builtin.ObjectAttr
section
variable{K:Frag}{x C a b:A2}{R:Result->A4->Prop}{v:A1}
end
section
variable{g:Array GenState}{d:Drawn}{t:Nat}{os:OsState}{x C:A2}{v:A1}{oC:Obj}
end
open PySem.Builtin PySem.Builtin.ObjectAttr
section
variable{g:Array GenState}{d:Drawn}{t:Nat}{os:OsState}{x C:A2}{v:A1}{oC o:Obj}{K:Frag}
end
open PySem.Builtin PySem.Builtin.ObjectAttr
section
variable{g:Array GenState}{d:Drawn}{t:Nat}{os:OsState}{x C:A2}{o:Obj}{K:Frag}
end
end L2
variable{h:L2.Ev->L2.Fl}{cd:PySem.Value}
namespace L2
open PySem PySem.Spec PyProof.Rows
section
variable{F:Z Dat->Rs}
end
end L2
namespace L2
open PySem PySem.Spec PyProof.Rows PySem.W
section
variable{t:TA}{D:A2}
end
section
variable{K:Frag}
end
section
variable{b:Bool}
end
section
variable{e C T:A2}{c2:Cc A1}
end
section
variable{T n:Str}{sub:Str->Bool}{DT:A2}
end
end L2
namespace L2
open PySem
end L2
namespace L2
open PySem PySem.Spec PyProof.Rows
section
variable{R:Result->A4->Prop}{G:Array GenState->Array GenState->Prop}{Pv:Nat->A1->Prop}{St:Nat->A4->Prop}
end
end L2
variable{ah:Nat}
namespace PySem
namespace F
end F
end PySem
namespace L2
open PySem PySem.Spec PyProof.Rows
end L2
variable{tk:Z (Z Nat)}
namespace PySem.F
end PySem.F
namespace L2
open PySem PySem.Spec PyProof.Rows
end L2
namespace Sq
open PySem PyProof PyProof.Rows
section
variable{a₀:Array Keyed}{p:Array (Nat×Nat×Nat)}
end
section
variable{r:Int->Int->Prop}{a b aD:Z Keyed}{ia ib:Nat}
end
section
variable{a b:Array Keyed}{n0:Nat}
end
section
variable{a₀:Array Keyed}
end
end Sq
namespace L2
open PySem PySem.Spec PyProof.Rows
end L2
set_option maxHeartbeats 4000000
namespace L2
open PySem PySem.Spec PyProof.Rows
theorem E4:∀ {its:Z A1} {ns:Z Int},Yl (ns.map V.int) its->∃ xs:Z (Int×Tok),its=xs.map (λp=>Value.int p.1 p.2)/\xs.map (·.1)=ns
 | [],[],_=>⟨[],rfl,rfl⟩
 | [],_::_,r=>by have:=r.length;simp at this
 | _::_,[],r=>by have:=r.length;simp at this
 | v::its,n::ns,r=>by
  cases r with
  | cons h r' =>
   obtain⟨xs,e1,e2⟩:=E4 r';obtain⟨t,rfl⟩:=h;exact⟨(n,t)::xs,by rw[e1];rfl,by rw[BM,e2]⟩
def iH(K:E'):Z V->Hp->VK->Prop:=λxs H Q=>∃ (p:A2) (ns:Z Int),xs=[.ref p]/\Dq K H p (ns.map V.int)/\Q (.int ns.sum) H
theorem ZM(hc:X.calm=true):Uq X (.builtin "sum") (iH X.K):=by
 intro aa s σ H xs us Q I r h;obtain⟨p,ns,rfl,B,q⟩:=h;obtain⟨u,rfl,rx⟩:=Sh r;cases rx;obtain⟨its,r',pl,hz⟩:=I.list B;have hl:=pl.isList;obtain⟨ys,e1,e2⟩:=E4 r';have a:s.heap.IsList p (intItems ys.toArray):=by
  have:intItems ys.toArray=its.toArray:=by rw[e1];simp[intItems]
  rw[this];exact hl
 refine sum_intListG (I.ok.hd hc) a λh' tk t' hk=>?_
 have e:preSum (numAt ys.toArray) ys.toArray.size=ns.sum:=by
  rw[preSum_eq,BB (by simp)];show(List.map (·.1) ys).sum=_;rw[e2]
 rw[e];exact⟨.int _,H,I.kept (h':=h') (t':=tk) hk,⟨_,rfl⟩,q⟩
def NM:Z Dat->Cc Dat
 | [.lst xs]=>(Se xs).map λns=>.int ns.sum
 | _=>none
theorem b0(hc:X.calm=true):Hr X (.builtin "sum") NM:=(ZM hc).weak λvs H Q M=>by
 obtain⟨A,ds,d,mu,e,p,q⟩:=M;unfold NM at e;split at e
 .obtain⟨v,e1,p1⟩:=p.one
  obtain⟨l,us,e2,h1,r1⟩:=p1.lst;obtain⟨ns,hn,e⟩:=map_some e;subst e;rw[Sm hn] at r1;have eu:=Td r1;subst eu;exact⟨l,ns,by rw[e1,e2],h1.sq,q.here W7⟩
 .cases e
theorem cR{t b:A2}{u:Z A1}(ht:IsTup s.heap t vs.toArray)(hb:IsTup s.heap b u.toArray)(hv:vs=[])(h0:Q (.ref b) s):wpAny (model P w) A (binaryOp .Add (.ref t) (.ref b)) Q E s:=by
 obtain⟨⟨cls,dd,data,sl⟩,J,hc,n,hd⟩:=id ht;obtain⟨⟨f,c,data2,d⟩,W,M,n2,a⟩:=id hb;simp only at hc hd M a;subst hc hd M a;exact IW ⟨_,J,rfl⟩ ⟨_,W,rfl⟩ HV IP GM GF (FR _ _)
  (tuple_addW0 t b vs.toArray u.toArray n n2 dd c sl d (by simp[hv])) ⟨J,W,h0⟩
theorem Pk.tupR{A:AS}(h:Pk K A H (.tup ds) v):Rp K (av H A) (.tup ds) v:=by
 rcases h with h | ⟨a,vs,ds,e1,e2,e3,e4⟩ | ⟨_,_,_,e1,_⟩ | ⟨_,_,e1,_⟩
 .exact h
 .cases e1
 .cases e1
 .cases e1
def Nr:Dat->Dat->Cc Dat
 | .tup xs,.tup ys=>if xs.length+ys.length<=sizeLine then some (.tup (xs++ys)) else none
 | _,_=>none
theorem G6:Sk X (binaryOp .Add) Nr:=λaa s σ H x y v u Q I rx m M=>by
 obtain⟨A,a,b,d,mu,e,p1,p2,q⟩:=M;unfold Nr at e;split at e
 .rename_i xs ys
  split at e
  .rename_i hz
   cases e;obtain⟨l1,vs,e1,h1,r1⟩:=p1.tup;obtain⟨l2,us,e2,h2,r2⟩:=p2.tup;have z1:=Yh r1;have z2:=Yh r2;have w1:=p1.tupR;have w2:=p2.tupR;by_cases hx:xs=[]
   .subst hx e1 e2
    cases rx;cases m;obtain⟨its,y1,W,_⟩:=I.tuple h1;obtain⟨f,y2,g2,_⟩:=I.tuple h2;have hn:its=[]:=by
     have:=y1.length;rw[z1] at this;exact GG.mp this.symm
    refine cR W g2 hn ⟨.ref l2,H,I,rfl,?_⟩;exact q.here w2
   .refine ij aa s σ H x y v u Q I rx m ⟨l1,l2,vs,us,e1,e2,h1,h2,hG r1 (by simpa using hx),by lia,λhy=>?_,λhy=>?_⟩
    .have:ys=[]:=by subst hy;exact GG.mp z2.symm
     subst this;rw[DU] at q;rw[e1] at w1;exact q.here w1
    .exact q.tup mu (by rw[AH];exact hz) (Vm r1 r2)
  .cases e
 .cases e
end L2
variable{g:L2.Dat->L2.Ev->Cc L2.Ev}{z:α}{ys as:Z L2.Dat}
namespace L2
open PySem PySem.Spec PyProof.Rows PySem.W
section
variable{g:Ev->Fl}{T n tx:Str}{sub:Str->Bool}{sb:Str->Cc Bool}
end
section
variable{K:Frag}
end
theorem gO:Ch X "list.extend" (λx vs H Q=>∃ l b xs zs,x=.ref l/\vs=[.ref b]/\H l=some (.lst xs)/\SL X.K H b zs/\xs.length+zs.length<=sizeLine/\Q .non (Wq H l (.lst (xs++zs)))):=by
 intro aa s σ H x vs v us Q I rx rv h;obtain⟨l,b,xs,zs,rfl,rfl,c,i,hz,q⟩:=h;cases rx;obtain⟨u,rfl,g⟩:=rv.one;cases g;obtain⟨z,its,n,r,hl,e⟩:=I.lstM c;obtain⟨f,n2,r2,e2,am⟩:=i.get I;have aj:=r2.length;have hsz:its.toArray.size+f.toArray.size<=sizeLine:=by rw[AO,AO];lia
 have d:¬ (!its.toArray.isEmpty&&Builtin.List.listTooLong (its.toArray.size+f.toArray.size))=true:=by
  rw[Bk hsz,IH];exact BO
 refine HS DO ⟨_,e,rfl⟩ PySem.F.entry_list_extend (PySem.F.args_list_extend_2 _ _)
  (AutoSeq1.list_extend_list_list_0 l its.toArray n b f.toArray n2 d (by rw[AO];lia) (by lia)) ⟨e,e2,?_⟩
 refine⟨.non,_,I.lset (its':=its++f) c e (by simp) (r.append r2) ?_,rfl,q⟩;rw[AH];lia
def Kz:Z Dat->Z Dat->Cc (Z Dat)
 | ds,[.lst es]=>if ds.length+es.length<=sizeLine then some (ds++es) else none
 | _,_=>none
theorem bf:NU X "list.extend" Kz:=Ch.weak (id:="list.extend") gO λv us H Q M=>by
 obtain⟨A,a,vs,ds,as,ds',mu,e1,h1,r1,r2,e2,q⟩:=M;unfold Kz at e2;split at e2
 .rename_i es
  split at e2
  .rename_i hl
   cases e2;obtain⟨w,l,e3,r3,e4⟩:=r2;obtain⟨b,zs,e5,hS,r5⟩:=Ey r3;subst e5;have l1:=Yh r1;have l2:=Yh r5;refine⟨a,b,vs,zs,e1,by rw[e3,show l=[] from e4],h1,Wn.sl hS,by lia,q _ _ (by rw[AH];exact hl) (Vm r1 r5)⟩
  .cases e2
 .cases e2
section
variable{vs:Z Cs}{r:Ev->Str->Cc Str}
end
end L2
namespace L2
open PySem PySem.Spec PyProof.Rows PySem.W PySem.Builtin PySem.Builtin.Str
end L2
namespace L2
open PySem PySem.Spec PyProof.Rows PySem.W
section
variable{K:Frag}
end
section
variable{K:Frag}
end
section
variable{M:Model}
end
end L2
variable{s0:Nat}{rs:Z (Nat×Nat)}
namespace L2
open PySem PySem.Spec PyProof.Rows
def fN:V->Z V->Hp->VK->Prop:=λx vs H Q=>∃ l xs i y,x=.ref l/\vs=[.int i,y]/\H l=some (.lst xs)/\0<=i/\i<=xs.length/\xs.length<sizeLine/\Q .non (Wq H l (.lst (xs.take i.toNat++y::xs.drop i.toNat)))
theorem Pm:∀ {vs:Z V} {us:Z A1} (n:Nat),Yl vs us->Yl (vs.take n) (us.take n)
 | _,_,0,_=>by simp;exact .nil
 | [],us,n+1,h=>by cases h;exact .nil
 | v::vs,us,n+1,h=>by cases h with | cons a b=>exact .cons a (Pm n b)
theorem Py:∀ {vs:Z V} {us:Z A1} (n:Nat),Yl vs us->Yl (vs.drop n) (us.drop n)
 | _,_,0,h=>h
 | [],us,n+1,h=>by cases h;exact .nil
 | v::vs,us,n+1,h=>by cases h with | cons a b=>exact Py n b
theorem fP:WP X "list.insert" fN:=by
 intro aa s σ H x vs v us Q I rx rv h;obtain⟨l,xs,i,y,rfl,rfl,c,h0,h1,hz,q⟩:=h;cases rx;cases rv with
 | cons r1 r2 =>
  cases r2 with
  | cons g r3 =>
   cases r3;obtain⟨t,rfl⟩:=r1;rename_i u;obtain⟨z,its,n,r,hl,e⟩:=I.lstM c;have a:¬ (!Builtin.List.listFitsIndex i)=true:=by
    have:(sizeLine:Nat)<2^62:=by decide
    rw[fitsIndex_both (by lia) (by lia)]
    decide
   refine HS F.slot_list_insert ⟨_,e,rfl⟩ F.entry_list_insert (F.args_list_insert_3 _ _ _) (AutoSeq1.list_insert_list_int_val_1 l its.toArray n i t u a (by rw[AO];lia)) ⟨e,?_⟩;refine⟨.non,_,I.lset (its':=its.take i.toNat++u::its.drop i.toNat) c e ?_ ((Pm _ r).append (.cons g (Py _ r))) ?_,rfl,q⟩
   .apply Array.toList_inj.mp
    have hm:(if i<0 then(i+(its.toArray.size:Int)).toNat else min i.toNat its.toArray.size)=i.toNat:=by
     rw[AJ (by lia),AO,IE (by lia)]
    show((its.toArray.extract 0 (if i<0 then(i+(its.toArray.size:Int)).toNat else min i.toNat its.toArray.size)).push u++its.toArray.extract (if i<0 then(i+(its.toArray.size:Int)).toNat else min i.toNat its.toArray.size)).toList=_;rw[hm];simp[List.extract];exact BB (by rw[CS];lia)
   .rw[AH,BJ,BY,CS]
    lia
def Rw:Z Dat->Z Dat->Cc (Z Dat)
 | ds,[.int i,d]=>if 0<=i/\i<=ds.length/\ds.length<sizeLine then some (ds.take i.toNat++d::ds.drop i.toNat) else none
 | _,_=>none
theorem Lo:NU X "list.insert" Rw:=Ch.weak (id:="list.insert") fP λv us H Q M=>by
 obtain⟨A,a,vs,ds,as,ds',mu,e1,h1,r1,r2,e2,q⟩:=M;unfold Rw at e2;split at e2
 .rename_i i d
  split at e2
  .rename_i hl
   cases e2;obtain⟨w,l,e3,r3,e4⟩:=r2;obtain⟨w2,R,e5,r5,s⟩:=e4;have hw:w=.int i:=(Rm.pk r3).int;have D:=Yh r1;refine⟨a,vs,i,w2,e1,by rw[e3,e5,show R=[] from s,hw],h1,hl.1,by rw[D];exact hl.2.1,by rw[D];exact hl.2.2,q _ _ (by rw[AH,BJ,BY,CS];lia) (Vm (O4 _ r1) (Yr r5 (Nu _ r1)))⟩
  .cases e2
 .cases e2
def QD(c:Int):A1->Bool
 | .int z _=>z==c
 | _=>false
theorem Fj:∀ {ns:Z Int} {us:Z A1},Yl (ns.map V.int) us->∀ (j:Nat) (h:j<us.length) (h':j<ns.length),∃ t,us[j]=.int ns[j] t
 | [],us,r,j,h,h'=>by simp at h'
 | n::ns,us,r,j,h,h'=>by
  rw[BM] at r;cases r with
  | cons r1 r2 =>
   obtain⟨t,e⟩:=r1;subst e;cases j with
   | zero=>exact⟨t,rfl⟩
   | succ j=>exact Fj r2 j (by simpa using h) (by simpa using h')
theorem XV{us:Z A1}(r:Yl (ns.map V.int) us){y:A1}(h:y∈us):∃ z t,y=.int z t:=by
 obtain⟨j,C,rfl⟩:=List.getElem_of_mem h;have hl:=r.length;rw[AB] at hl;obtain⟨t,e⟩:=Fj r j C (by lia);exact⟨_,t,e⟩
theorem g6:Ch X "list.index" (λx vs H Q=>∃ (p:A2) (zs:Z Int) (c:Int),x=.ref p/\vs=[.int c]/\Dq X.K H p (zs.map V.int)/\c∈zs/\Q (.int ((zs.idxOf c:Nat):Int)) H):=by
 intro aa s σ H x vs v us Q I rx rs h;obtain⟨p,zs,c,rfl,rfl,B,hm,q⟩:=h;cases rx;obtain⟨R,rfl,g⟩:=Sh rs;obtain⟨u,rfl⟩:=g;obtain⟨its,r',pl,hz⟩:=I.list B;obtain⟨⟨cls,dd,data,sl⟩,J,hc,n,hd⟩:=pl.isList;simp only at hc hd;subst hc hd;have a:=r'.length;rw[AB] at a hz;have C:zs.idxOf c<zs.length:=List.idxOf_lt_length_iff.mpr hm;have S:sizeLine<2^63 - 1:=by decide
 refine HS GI ⟨_,J,rfl⟩ PySem.F.entry_list_index (PySem.F.args_list_index_2 _ _) (SeqAt.list_indexAt p _ n dd sl (.int c u) (QD c) (zs.idxOf c) (by simpa[<- a] using C) (by lia) ?_ ?_) ⟨J,λy hy=>?_,⟨.int _,H,I.tok _,⟨_,rfl⟩,q⟩⟩
 .obtain⟨t,e⟩:=Fj r' (zs.idxOf c) (by lia) C
  show QD c (its[zs.idxOf c]'(by lia))=true;rw[e];show(zs[zs.idxOf c]==c)=true;simpa using List.getElem_idxOf C
 .intro j hjs ai
  have aE:j<zs.length:=by lia
  obtain⟨t,e⟩:=Fj r' j (by lia) aE;show QD c (its[j]'(by lia))=false;rw[e];show(zs[j]==c)=false;have:=List.not_of_lt_findIdx (xs:=zs) (p:=(·==c)) (i:=j) (by simpa[List.idxOf] using ai);simpa using this
 .obtain⟨z,t,rfl⟩:=XV r' (by simpa using hy)
  exact SeqAt.EqAt.int_int z t c u
def N9:Dat->Z Dat->Cc Dat
 | .lst xs,[.int c]=>(Se xs).bind λzs=>if c∈zs then some (.int ((zs.idxOf c:Nat):Int)) else none
 | _,_=>none
theorem Bj:PP X "list.index" N9:=g6.weak λv vs H Q M=>by
 obtain⟨A,x,ds,d,mu,e,p,ps,q⟩:=M;unfold N9 at e;split at e
 .rename_i xs c
  obtain⟨l,us,e2,h1,r1⟩:=p.lst;obtain⟨F,e3,p1⟩:=ps.one;obtain⟨zs,hy,e⟩:=Zi e;split at e
  .rename_i hc
   cases e;rw[Sm hy] at r1;have eu:=Td r1;subst eu;exact⟨l,zs,c,e2,by rw[e3,p1.int],h1.sq,hc,q.here W7⟩
  .cases e
 .cases e
section
variable{fb:Zzu}
end
variable{ix:Cs}{z i1 i2 t:A2}{h:Ff}{xs:Array A1}
theorem C'.gx{A:AS}{g:GX}(k:C' K B A H σ env)(ac:B.st=true)(h:env[i]?=some (.gx g)) :
  ∃ (v:V) (o:A2->Prop),σ[i]?=some (some v)/\LD K A H o g v/\(∀ b,o b->A b=true/\B.H₀ b=none) /\
   ∀ (b:A2) (D:HO) (g':GX),o b->NB (some D)->LD K A (Wq H b D) o g' v->F' A H A (Wq H b D)/\C' K B A (Wq H b D) σ (env.set i (.gx g')):=by
 obtain⟨own,h1,h2,h4⟩:=k.sl;obtain⟨x,q1,v,e1,e2⟩:=h4 i _ h;subst e1;have au:∀ b,own i b->A b=true/\B.H₀ b=none:=λb ob=>by
  obtain⟨hA,c⟩:=h2 i b ob;refine⟨hA,?_⟩;rcases k.ar b hA with z | z
  .rw[z] at c;cases c
  .exact z
 refine⟨v,own i,q1,e2,au,λa D g' oa hO S=>?_⟩;obtain⟨hA,h0⟩:=au a oa;have m:Zv (av H A) (av (Wq H a D) A):=λb o e=>by
  obtain⟨z1,z2⟩:=Tc e;have hb:b≠a:=by intro z;rw[z,hA] at z1;cases z1
  exact U1 (by rw[Zp hb];exact z2) z1
 refine⟨⟨λb o hb n=>?_,λb hb=>.inl hb⟩,?_⟩
 .have hn:b≠a:=by intro z;rw[z,hA] at n;cases n
  rw[Zp hn];exact hb
 .refine⟨λb o hb=>?_,k.r0,k.ra,k.ar,λb hb=>?_,by rw[DB];exact k.len,λhs j d'=>O6 (k.np hs) (λ_ z=>by cases z) j d',own,h1,h2,λj s e=>?_⟩
  .have hn:b≠a:=Ym hb h0
   rw[Zp hn];exact k.h0 b o hb
  .by_cases hn:b=a
   .subst hn;rw[Y5];exact hO
   .rw[Zp hn];exact k.mu b hb
  .by_cases C:i=j
   .subst C
    rw[BF,AF rfl] at e;split at e
    .cases e
     exact⟨_,q1,v,rfl,S⟩
    .cases e
   .rw[BF,AJ C] at e
    obtain⟨x,p1,p2⟩:=h4 j s e;refine⟨x,p1,?_⟩;cases s with
    | un=>trivial
    | fz d=>obtain⟨v,z1,z2⟩:=p2;exact⟨v,z1,z2.mono m⟩
    | pk d=>exact absurd e (k.np ac j d)
    | ow es =>
     obtain⟨b,us,z1,z2,G,T,I⟩:=p2;have hn:b≠a:=λz=>C (h1 i j a oa (z▸z2))
     exact⟨b,us,z1,z2,G,by rw[Zp hn];exact T,I.mono m⟩
    | gx g2 =>
     obtain⟨w,z1,z2⟩:=p2;exact⟨w,z1,z2.frame (λ_ z=>z) (λb x ob z=>by
      have hn:b≠a:=λy=>C (h1 i j a oa (y▸ob))
      rw[Zp hn];exact z) m⟩
def Op(A:AS)(S:A2->Bool):AS:=λb=>A b||S b
theorem C'.putG{A:AS}(k:C' K B A H σ env)(ac:B.st=true)(i:Nat){g:GX}{S:A2->Bool}(s:Zv H H')(hn:∀ p,S p=true->H p=none)(hm:∀ p,S p=true->NB (H' p))(r:LD K (Op A S) H' (λb=>S b=true) g v) :
  F' A H (Op A S) H'/\C' K B (Op A S) H' (σ.set i (some v)) (env.set i (.gx g)):=by
 have c:∀ {b},Op A S b=true->A b=true\/S b=true:=λ{b} h=>by unfold Op at h;rw[DY] at h;exact h
 have f:∀ {b},A b=true->Op A S b=true:=λ{b} h=>by unfold Op;rw[h];rfl
 have m:∀ {b},S b=true->Op A S b=true:=λ{b} h=>by unfold Op;rw[h,Bool.or_true]
 have st:F' A H (Op A S) H':=⟨λa o h _=>s a o h,λa h=>(c h).imp id λz=>hn a z⟩;have l:∀ p,S p=true->A p=false:=λp F=>k.mu.new (hn p F)
 have h0:∀ p,S p=true->B.H₀ p=none:=λp F=>k.h0.free (hn p F)
 obtain⟨own,h1,h2,h4⟩:=k.sl;refine⟨st,k.h0.trans s,k.r0,λa h=>f (k.ra a h),λa h=>?_,λa h=>?_,by rw[DB,DB];exact k.len,λhs j d'=>O6 (k.np hs) (λ_ z=>by cases z) j d',
  λj a=>(j≠i/\own j a)\/(j=i/\S a=true),λj t a z z'=>?_,λj a z=>?_,λj sl e=>?_⟩
 .rcases c h with z | z
  .exact k.ar a z
  .exact .inr (h0 a z)
 .rcases c h with z | z
  .exact k.mu.mono s a z
  .exact hm a z
 .rcases z with z | z<;>rcases z' with z' | z'
  .exact h1 j t a z.2 z'.2
  .have:=(h2 j a z.2).1;rw[l a z'.2] at this;cases this
  .have:=(h2 t a z'.2).1;rw[l a z.2] at this;cases this
  .rw[z.1,z'.1]
 .rcases z with z | z
  .exact⟨f (h2 j a z.2).1,(h2 j a z.2).2⟩
  .refine⟨m z.2,?_⟩
   cases q:B.R a with
   | false=>rfl
   | true=>obtain⟨o,J⟩:=k.r0 a q;rw[h0 a z.2] at J;cases J
 .by_cases C:i=j
  .subst C
   rw[BF,AF rfl] at e;split at e
   .rename_i hl
    cases e;exact⟨some v,by rw[BF,AF rfl,AF (by rw[k.len];exact hl)],v,rfl,r.frame (λ_ z=>.inr ⟨rfl,z⟩) (λ_ _ _ z=>z) (Zv.refl _)⟩
   .cases e
  .rw[BF,AJ C] at e
   obtain⟨x,p1,p2⟩:=h4 j sl e;refine⟨x,by rw[BF,AJ C];exact p1,?_⟩;cases sl with
   | un=>trivial
   | fz d=>obtain⟨v,z1,z2⟩:=p2;exact⟨v,z1,z2.mono st.av⟩
   | pk d=>exact absurd e (k.np ac j d)
   | ow es =>
    obtain⟨b,us,z1,z2,G,T,I⟩:=p2;exact⟨b,us,z1,.inl ⟨BW C,z2⟩,G,s _ _ T,I.mono st.av⟩
   | gx g2 =>
    obtain⟨w,z1,z2⟩:=p2;exact⟨w,z1,z2.frame (λ_ z=>.inl ⟨BW C,z⟩) (λb x _ z=>s b x z) st.av⟩
def Ge(dss:Z (Z Dat))(k:Int):Cc (Z Dat):=if 0<=k then dss[k.toNat]? else none
def MJ(i:Nat)(fa:Zzu):Ev->Cc Dat:=λenv=>match env[i]?,fa env with
 | some (.gx (.nest dss)),some (.int k)=>(Ge dss k).map .lst
 | _,_=>none
theorem C'.nest{A:AS}(k:C' K B A H σ env)(h:env[i]?=some (.gx (.nest dss))) :
  ∃ (a:A2) (as:Z A2),σ[i]?=some (some (.ref a))/\H a=some (.lst (as.map V.ref))/\as.length=dss.length/\∀ (n:Nat) b ds,as[n]?=some b->dss[n]?=some ds->ds.length<=sizeLine/\∃ vs,H b=some (.lst vs)/\Vc K (av H A) ds vs:=by
 obtain⟨own,h1,h2,h4⟩:=k.sl;obtain⟨x,q1,v,e1,a,as,e2,e3,e4,e5,s,e7,e8,e9⟩:=h4 i _ h;subst e1 e2;exact⟨a,as,q1,e5,s,λn b ds z1 z2=>⟨(e9 n b ds z1 z2).2.1,(e9 n b ds z1 z2).2.2⟩⟩
theorem Kg{k:Int}(h:Ge dss k=some ds):0<=k/\dss[k.toNat]?=some ds/\k=((k.toNat:Nat):Int):=by
 unfold Ge at h;split at h
 .rename_i h0;exact⟨h0,h,(Int.toNat_of_nonneg h0).symm⟩
 .cases h
theorem SU(i:Nat)(Y:Wy true X ix fa)(ae:L4 ix)
  (hN:X.N[i]?=some x:=by rfl) (hv:KX X.env.scope x:=by ext) (hd:Cg x:=by decide) (af:(x==("__classdict__" : Str))=false:=by decide) :
  Wy true X (.Subscript (.Name x p) ix pos) (MJ i fa):=PE.weak (SC Xr (W8 hN hv hd af) Y ae) λσ H Q M=>by
 obtain⟨env,B,A,d,k,e,q⟩:=M;unfold MJ at e;split at e
 .rename_i dss n e1 e2
  obtain⟨ds,e3,e4⟩:=map_some e;subst e4;obtain⟨h0,e5,s⟩:=Kg e3;obtain⟨a,as,h1,h2,h3,h4⟩:=k.nest e1;refine⟨.ref a,h1,env,B,A,.int n,k,e2,λw H2 s2 r2=>?_⟩;have hw:w=.int n:=(Rm.pk r2).int;have ai:n.toNat<as.length:=by rw[h3];exact(AE.mp e5).1
  obtain⟨hz,vs,W,g2⟩:=h4 n.toNat _ ds (AL ai) e5;refine⟨a,as.map V.ref,n,.ref as[n.toNat],rfl,hw,Dq.of (s2 _ _ h2),?_,q _ _ s2 (.inr (.inl ⟨_,vs,ds,rfl,rfl,hz,s2 _ _ W,g2.mono (V0 s2)⟩))⟩;have aa:Pe (as.map V.ref) ((n.toNat:Nat):Int)=some (.ref as[n.toNat]):=Gn (by rw[AQ,AL ai];rfl)
  rwa [<- s] at aa
 .cases e
def Km(i:Nat)(fa:Zzu)(fs:Zzv):Ev->Fl:=λenv=>match env[i]?,fa env with
 | some (.gx (.nest dss)),some (.int k)=>match Ge dss k with
  | some ds=>match (fs env).bind λas=>Wf ds as with
   | some ds'=>.next (env.set i (.gx (.nest (dss.set k.toNat ds'))))
   | none=>.no
  | none=>.no
 | _,_=>.no
theorem Xc (i:Nat) (Y:Wy true X ix fa) (ae:L4 ix) (hb:Bp false X (e::es) fs)
  (hN:X.N[i]?=some x:=by rfl) (hv:KX X.env.scope x:=by ext) (hd:Cg x:=by decide) (af:(x==("__classdict__" : Str))=false:=by decide)
  (ak:swapsWith (.Call (.Attribute (.Subscript (.Name x p) ix p2) "append" aj) (e::es) [] al) none pos.line X.env=pure false:=by rfl)
  (g:attributeBase (.Subscript (.Name x p) ix p2) "append" X.env (eval (.Subscript (.Name x p) ix p2) X.env)=eval (.Subscript (.Name x p) ix p2) X.env:=by rfl)
  (ag:((backTo al (starEach (e::es) X.env)).all (λx=>!x.1)&&(backToKw al (keywordEach [] X.env)).all (λx=>x.1.isSome)
   && decide ((e::es).length+([]:Z Keyword).length+(if([]:Z Keyword).isEmpty then 0 else 1)<30))=true:=by rfl)
  (u:(aj.endLine==al.line)=true:=by rfl) (hs:Z2 X.env e es:=by rfl) (E:dO al X.env es:=by rfl) :
  Af fr X (.Expr (.Call (.Attribute (.Subscript (.Name x p) ix p2) "append" aj) (e::es) [] al) pos) (Km i fa fs):=(TK (RL EK AZ BA (id:="list.append") P4 (SC Xr (W8 hN hv hd af) Y ae) hb g ag u hs E) ak).weak λD σ H M=>by
 obtain⟨env,B,A,k,ac,q⟩:=M;unfold Km at q;split at q
 .rename_i dss n e1 e2
  split at q
  .rename_i ds e3
   split at q
   .rename_i ds' e4
    obtain⟨aq,e5,s⟩:=Zi e4;obtain⟨h0,e7,e8⟩:=Kg e3;obtain⟨a,as,h1,h2,h3,h4⟩:=k.nest e1;refine⟨.ref a,h1,env,B,A,.int n,k,e2,λw H2 s2 r2=>?_⟩;have hw:w=.int n:=(Rm.pk r2).int;have ai:n.toNat<as.length:=by rw[h3];exact(AE.mp e7).1
    obtain⟨hz,vs,W,g2⟩:=h4 n.toNat _ ds (AL ai) e7;refine⟨a,as.map V.ref,n,.ref as[n.toNat],rfl,hw,Dq.of (s2 _ _ h2),?_,.inl ⟨rfl,vs,Dq.of (s2 _ _ W)⟩,env,B,A,aq,k.mono s2,e5,λus H3 P rs=>?_⟩
    .have aa:Pe (as.map V.ref) ((n.toNat:Nat):Int)=some (.ref as[n.toNat]):=Gn (by rw[AQ,AL ai];rfl)
     rwa [<- e8] at aa
    have k3:=k.mono (s2.trans P);obtain⟨v,o,m1,m2,m3,m4⟩:=k3.gx ac e1;rw[h1] at m1;cases m1;obtain⟨a',f,z1,z2,G,T,I,z6,z7,z8⟩:=m2;cases z1;have ar:f.map V.ref=as.map V.ref:=by
     have:=(s2.trans P) _ _ h2;rw[T] at this;exact HO.lst.inj (BK this)
    have Q:f=as:=by
     have ao:∀ (l1 l2:Z A2),l1.map V.ref=l2.map V.ref->l1=l2:=λl1=>by
      induction l1 with
      | nil=>intro l2 hl;cases l2 with | nil=>rfl | cons=>cases hl
      | cons y l1 ih =>
       intro l2 hl;cases l2 with
       | nil=>cases hl
       | cons y2 l2=>simp at hl;rw[hl.1,ih l2 (by simpa using hl.2)]
     exact ao _ _ ar
    subst Q;obtain⟨ob,am,h,g3,t⟩:=z8 n.toNat _ ds (AL ai) e7;generalize r:f[n.toNat]=b at *;have ah:b∈f:=by rw[<- r];exact GK ai
    unfold Wf at s;split at s
    .rename_i d
     split at s
     .rename_i hl
      cases s;obtain⟨y,l,e9,r3,au⟩:=rs;have aw:us=[y]:=by rw[e9,show l=[] from au]
      refine⟨b,h,y,rfl,aw,g3,by rw[Yh t];exact hl,?_⟩;have hA:A b=true:=(m3 b ob).1;have m:Zv (av H3 A) (av (Wq H3 b (.lst (h++[y]))) A):=λc o2 ec=>by
       obtain⟨y1,y2⟩:=Tc ec;have hc:c≠b:=by intro z;rw[z,hA] at y1;cases y1
       exact U1 (by rw[Zp hc];exact y2) y1
      have ax:a≠b:=λz=>z7 (z▸ah)
      have S:LD X.K A (Wq H3 b (.lst (h++[y]))) o (.nest (dss.set n.toNat (ds++[d]))) (.ref a):=by
       refine⟨a,f,rfl,z2,by rw[DB];exact G,by rw[Zp ax];exact T,by rw[DB];exact I,z6,z7,λj c es q1 q2=>?_⟩;by_cases C:n.toNat=j
       .subst C
        rw[AL ai,r] at q1;cases q1;rw[BF,AF rfl,AF (by rw[<- h3];exact ai)] at q2;cases q2;exact⟨ob,by rw[AH,CA];lia,h++[y],Y5,Vm (t.mono m) (Wu (Rp.mono m r3))⟩
       .rw[BF,AJ C] at q2
        obtain⟨y1,y2,R,y3,y4⟩:=z8 j c es q1 q2;have ay:c≠b:=λz=>by
         obtain⟨F,J⟩:=AE.mp q1;have:=List.nodup_iff_pairwise_ne.mp z6;rw[FL] at this;rcases GP n.toNat j with ap | hge2
         .exact this n.toNat j ai F ap (by rw[r,J,z])
         .exact this j n.toNat F ai (by lia) (by rw[r,J,z])
        exact⟨y1,y2,R,by rw[Zp ay];exact y3,y4.mono m⟩
      obtain⟨w1,w2⟩:=m4 b (.lst (h++[y])) _ ob trivial S;exact q A _ σ (((F'.same s2).trans (F'.same P)).trans w1) w2
     .cases s
    .cases s
   .exact q.elim
  .exact q.elim
 .exact q.elim
def P8(i:Nat)(az:Zzv)(fs:Z (Cc Nat))(gg:Dat->Ev->Cc Ev):Ev->Fl:=λenv=>match az env with
 | some ds=>if ds.all (λd=>(gg d (Q9 fs env)).isSome)=true then .next (env.set i (.gx (.nest (List.replicate ds.length [])))) else .no
 | none=>.no
theorem il{J:It}{fs:Z (Cc Nat)}{Q:VK}{A:AS} 
  (c:∀ i∈is,fs[i]?=some none) (k:C' K B A H1 σ env) (hJ:Ai false K A H1 ds J) (hz:ds.length<=sizeLine) (hc:∀ d∈ds,∃ e',g d (Q9 fs env)=some e')
  (q:∀ (p:A2) (as:Z A2) (H':Hp),Zv H1 H'->H1 p=none->H' p=some (.lst (as.map V.ref))->as.length=ds.length->as.Nodup->p∉as->(∀ b∈as,H1 b=none/\H' b=some (.lst []))->Q (.ref p) H') :
  ∃ W:Nat->Nat->Z V->Hp->Prop,(∃ m,W 0 m [] H1)/\∀ i m zs H,W i m zs H ->
   (J.stop i H/\zs.length<=sizeLine/\∀ p,H p=none->Q (.ref p) (Wq H p (.lst zs))) \/
   (J.go i H/\zs.length<=sizeLine/\∃ N:Z V->Hp->Prop,(∀ ac H',N ac H'->∃ m',m'<m/\W (i+1) m' ac H')/\∀ x H',J.yld i H x H'->(∃ env R A d env',C' K R A H' (Uo fs σ) env/\Rp K (av H' A) d x/\g d env=some env'/\∀ σ',C' K R A H' σ' env'->Hd is (Uo fs σ) σ' ->
    (O' (Uo fs σ) σ'/\∃ env R A b,C' K R A H' σ' env/\Wh env=some b/\∀ H3,Zv H' H3->if b=true then(∀ p,H3 p=none->N (zs++[.ref p]) (Wq H3 p (.lst []))) else N zs H3))):=by
 refine⟨λi m zs H=>m=ds.length - i/\i<=ds.length/\Zv H1 H/\∃ as:Z A2,zs=as.map V.ref/\as.length=i/\as.Nodup/\∀ b∈as,H1 b=none/\H b=some (.lst []),
  ⟨ds.length,by simp,DH _,Zv.refl _,[],rfl,rfl,CV,λb hb=>nomatch hb⟩,?_⟩
 rintro i m zs H ⟨rfl,hi,s1,as,rfl,w,aa,has⟩;have s:(as.map V.ref).length<=sizeLine:=by rw[AB];lia
 obtain⟨af,n⟩:=hJ A H ⟨rfl,s1⟩ (k.mono s1).mu;by_cases ai:i<ds.length
 .have hx:ds[i]?=some ds[i]:=by simp[ai]
  obtain⟨go,yl⟩:=af i _ hx;obtain⟨l,b1⟩:=hc _ (GK ai);refine .inr ⟨go,s,λu H'=>i+1<=ds.length/\Zv H1 H'/\∃ as:Z A2,u=as.map V.ref/\as.length=i+1/\as.Nodup/\∀ b∈as,H1 b=none/\H' b=some (.lst []),
   λu H' h=>⟨ds.length - (i+1),by lia,rfl,h⟩,λx H' hy=>?_⟩
  obtain⟨s2,rx⟩:=yl x H' hy;refine⟨Q9 fs env,⟨H1,A,false⟩,A,ds[i],l,(k.inn fs).mono (s1.trans s2),rx,b1,λσ' E D=>⟨⟨D.1.symm,λj v ej=>?_⟩,l,⟨H1,A,false⟩,A,true,E,rfl,λH3 P=>?_⟩⟩
  .have C:j∉is:=λC=>by
    have:=c j C;unfold Uo at ej;rw[AQ,this] at ej;cases ej
   rw[D.2 j C];exact ej
  .rw[AF rfl]
   intro p F;have s4:Zv H1 H3:=(s1.trans s2).trans P;have f:p∉as:=λz=>by
    have:=(s2.trans P) _ _ (has p z).2;rw[F] at this;cases this
   refine⟨ai,λb o hb=>?_,as++[p],by rw[AU];rfl,by rw[AH,CA,w],FO.mpr ⟨aa,CC.mpr ⟨by simp,CV⟩,λa Y b hb=>by rw[AK.mp hb];intro z;exact f (z▸Y)⟩,λb hb=>?_⟩
   .have hn:b≠p:=λz=>by have:=s4 b o hb;rw[z,F] at this;cases this
    rw[Zp hn];exact s4 b o hb
   .rcases BH.mp hb with hb | hb
    .have hn:b≠p:=λz=>f (z▸hb)
     exact⟨(has b hb).1,by rw[Zp hn];exact(s2.trans P) _ _ (has b hb).2⟩
    .rw[AK.mp hb]
     exact⟨s4.free F,Y5⟩
 .have e:i=ds.length:=by lia
  subst e;refine .inl ⟨n,s,λp F=>q p as _ (λb o hb=>?_) (s1.free F) Y5 w aa (λz=>by have:=(has p z).2;rw[F] at this;cases this) λb hb=>⟨(has b hb).1,?_⟩⟩
  .have hn:b≠p:=λz=>by have:=s1 b o hb;rw[z,F] at this;cases this
   rw[Zp hn];exact s1 b o hb
  .have hn:b≠p:=λz=>by have:=(has b hb).2;rw[z,F] at this;cases this
   rw[Zp hn];exact(has b hb).2
theorem XG(i:Nat){a:Pos}(hN:X.N.Nodup)(ao:IX)(fs:Z (Cc Nat))(N:Z Str)(F:X.env.scope=ao)(hc:X.calm=true)(hi:KR false X tg iter az)
  (hb:∀ (C:A2) (s:A4) (H:Hp) (fp:Z A2),KS is (Wl X sc N C s H fp) tg gg/\MC (Wl X sc N C s H fp) [] Wh)
  (c:∀ i∈is,fs[i]?=some none) (y:X.N[i]?=some x:=by rfl) (hx:KH X.env.scope x:=by ext) (S:CompOk ao sc X.N N fs:=by exact CompOk.of (by kernel_rfl!)) (hs:∀ x,foldedSetIterable iter X.env x=pure x:=by intro _;rfl) (ak:swapsWith (.ListComp (.List [] a) [⟨tg,iter,[],0⟩] sc pos) (some (.Name x au)) aC.line X.env=pure true:=by rfl)
  (hf:X.fn x=true\/X.env.scope.names.lookup x=some .local:=by ext) :
  Af fr X (.Assign [.Name x au] (.ListComp (.List [] a) [⟨tg,iter,[],0⟩] sc pos) aC) (P8 i az fs gg):=(G8 (g:=λv σ H Q=>∃ env R A d env',C' X.K R A H σ env/\Rp X.K (av H A) d v/\gg d env=some env'/\∀ σ',C' X.K R A H σ' env'->Hd is σ σ'->Q σ' H) (tt:=λσ H Q=>∃ env R A b,C' X.K R A H σ env/\Wh env=some b/\∀ H',Zv H H'->Q b H') (te:=λσ H Q=>∀ p,H p=none->Q (.ref p) (Wq H p (.lst []))) hN y hx ao fs N F S hc hi (λC s H fp=>⟨(hb C s H fp).1,(hb C s H fp).2,(VP Q4).weak λσ H Q h=>⟨DH _,h⟩⟩) hs ak hf).weak λD σ H M=>by
 obtain⟨env,B,A,k,ac,q⟩:=M;unfold P8 at q;split at q
 .rename_i ds e
  split at q
  .rename_i u
   refine⟨env,B,A,ds,k,e,λJ H1 hz s1 hJ=>il (Q:=λv H'=>D.nx (σ.set i (some v)) H') c (k.mono s1) hJ hz (λd hd=>EI.mp (CD.mp u d hd)) λp as H' s2 hn aF w aa f has=>?_⟩;have h1:=k.putG ac i (g:=.nest (List.replicate ds.length [])) (v:=.ref p) (S:=λb=>decide (b=p)||decide (b∈as)) (s1.trans s2) (λb hb=>?_) (λb hb=>?_) ⟨p,as,rfl,by simp,by rw[EG];exact hz,aF,by rw[EG];exact w,aa,f,λn b es q1 q2=>?_⟩
   .exact q _ H' _ h1.1 h1.2
   .rw[DY,BC,BC] at hb
    rcases hb with z | z
    .rw[z];exact s1.free hn
    .exact s1.free (has b z).1
   .rw[DY,BC,BC] at hb
    rcases hb with z | z
    .rw[z,aF];trivial
    .rw[(has b z).2];trivial
   .have ah:b∈as:=AI q1
    have j:es=[]:=by
     have:=AI q2;exact(EN.mp this).2
    subst j;exact⟨by simp[ah],DH _,[],(has b ah).2,Qh⟩
  .exact q.elim
 .exact q.elim
structure NO (z TI TO i1 i2:Addr) (f1 f2:List Addr):Prop where
 TIz:TI≠z
 TOz:TO≠z
 i1z:i1≠z
 i2z:i2≠z
 TITO:TI≠TO
 TIi1:TI≠i1
 TIi2:TI≠i2
 TOi1:TO≠i1
 TOi2:TO≠i2
 i12:i1≠i2
 z1:z∉f1
 z2:z∉f2
 t1:TO∉f1
 t2:TO∉f2
 a1:i2∉f1
 a2:i1∉f2
section
variable{TI TO:A2}{a b:A1}
theorem fh(u:Draws prog w A i1 f1 n P1 S1)(C:Draws prog w A i2 f2 n P2 S2)(D:NO z TI TO i1 i2 f1 f2)(hz:IsZip s.heap z TI TO .none)(d:IsPair s.heap TI (.ref i1) (.ref i2))(f:IsPair s.heap TO a b)(q1:S1 i s.heap)(q2:S2 i s.heap)(hi:i<n)
  (g:∀ x y h' tk,P1 i x->P2 i y->IsZip h' z TI TO (rawInt s.heap.objs.size)->IsPair h' TO x y->IsPair h' s.heap.objs.size x y->S1 (i+1) h'->S2 (i+1) h'->(∀ c o,c≠z->c≠TO->c≠i1->c≠i2->s.heap.get? c=some o->h'.get? c=some o)->Q (.ref s.heap.objs.size) { s with heap:=h',toks:=tk }) :
  wpAny (model prog w) A (Builtin.«zip.__next__» ⟨[.ref z],[]⟩) (λM s'=>∃ v,M=.done (.ret v)/\Q v s') E s:=by
 show wpAny _ _ (field (.ref z) 2 >>= _) _ _ _;refine AA (BU hz rfl (x:=.bool false) rfl ?_);show wpAny _ _ (field (.ref z) 3 >>= _) _ _ _;refine AA (BU hz rfl (x:=.ref TI) rfl (AA (DR d rfl ?_)));show wpAny _ _ (Builtin.SmallTypes.ownedTupleIsFree (.ref z) >>= _) _ _ _;refine AA ?_;unfold Builtin.SmallTypes.ownedTupleIsFree;refine AA (BU hz rfl (x:=.none) rfl (AG ?_));simp only[GS];refine AA (HR (AA (BU hz rfl (x:=.ref TO) rfl (AA (ER hz (by simp) λW z1 p=>?_)))));replace z1:IsZip W z TI TO .ellipsis:=z1;refine AA ?_;simp only[List.zipIdx_cons,List.zipIdx_nil,HP,IU];refine AA (AA (IR ?_));show wpAny _ _ (Builtin.SmallTypes.nextOf (.ref i1) >>= _) _ _ _;have p1:S1 i W:=u.frame i _ _ q1 λc hc o e=>p.extBut _ _ (λy=>D.z1 (y▸hc)) e
 have p2:S2 i W:=C.frame i _ _ q2 λc hc o e=>p.extBut _ _ (λy=>D.z2 (y▸hc)) e
 refine AA (u.item i _ _ _ hi p1 λx g2 tk1 hx r1 J=>AG ?_);have t2:IsPair g2 TO a b:=J.extBut _ _ D.TOi1 (p.extBut _ _ D.TOz f);refine AA (DR t2 rfl (AA (wpAny_updateSeq_pair t2 λg3 X h=>?_)));replace X:IsPair g3 TO x b:=X;refine AA (wpAny_letGo (AG ?_));refine AA (AA (IR ?_));show wpAny _ _ (Builtin.SmallTypes.nextOf (.ref i2) >>= _) _ _ _;have p3:S2 i g3:=C.frame i _ _ (C.frame i _ _ p2 λc hc o e=>J.extBut _ _ (λy=>D.a2 (y▸hc)) e) λc hc o e=>h.extBut _ _ (λy=>D.t2 (y▸hc)) e
 refine AA (C.item i _ _ _ hi p3 λy t tk2 hy r2 m=>AG ?_);have G:IsPair t TO x b:=m.extBut _ _ D.TOi2 X;refine AA (DR G rfl (AA (wpAny_updateSeq_pair G λr F B=>?_)));replace F:IsPair r TO x y:=F;refine AA (wpAny_letGo (AG (AG (AA (DR F rfl (AA (wpAny_newTuple ?_)))))));have hsz:r.objs.size=s.heap.objs.size:=by rw[B.1,m.1,h.1,J.1,p.1]
 have I:IsZip r z TI TO .ellipsis:=B.extBut _ _ D.TOz.symm (m.extBut _ _ D.i2z.symm (h.extBut _ _ D.TOz.symm (J.extBut _ _ D.i1z.symm z1)));have k5:∀ c o,c≠z->c≠TO->c≠i1->c≠i2->s.heap.get? c=some o->r.get? c=some o:=λc o c1 c2 c3 k e=>B.extBut _ _ c2 (m.extBut _ _ k (h.extBut _ _ c2 (J.extBut _ _ c3 (p.extBut _ _ c1 e))))
 have p4:S1 (i+1) r:=u.frame _ _ _ (u.frame _ _ _ (u.frame _ _ _ r1 λc hc o e=>h.extBut _ _ (λq=>D.t1 (q▸hc)) e) λc hc o e=>m.extBut _ _ (λq=>D.a1 (q▸hc)) e) λc hc o e=>B.extBut _ _ (λq=>D.t1 (q▸hc)) e
 have p5:S2 (i+1) r:=C.frame _ _ _ r2 λc hc o e=>B.extBut _ _ (λq=>D.t2 (q▸hc)) e
 have H:z<r.objs.size:=BE I;show wpAny _ _ (Builtin.SmallTypes.ownedTupleHandOut (.ref z) (.ref r.objs.size) >>= _) _ _ _;refine AA ?_;unfold Builtin.SmallTypes.ownedTupleHandOut;have z6:IsZip (r.push { cls:=.type "tuple",data:=.seq #[x,y] }) z TI TO .ellipsis:=AD _ I;refine AA (ER z6 (by simp) λR z7 N=>?_);replace z7:IsZip R z TI TO (rawInt r.objs.size):=z7;refine ER z7 (by simp) λl z8 P=>?_
 replace z8:IsZip l z TI TO (rawInt r.objs.size):=z8;have up:∀ c o,c≠z->r.get? c=some o->l.get? c=some o:=λc o c1 e=>P.extBut _ _ c1 (N.extBut _ _ c1 (AD _ e))
 have j:IsPair l r.objs.size x y:=P.extBut _ _ (IK H) (N.extBut _ _ (IK H) (AW _ rfl));have p6:S1 (i+1) l:=u.frame _ _ _ p4 λc hc o e=>up c o (λq=>D.z1 (q▸hc)) e
 have p7:S2 (i+1) l:=C.frame _ _ _ p5 λc hc o e=>up c o (λq=>D.z2 (q▸hc)) e
 have S:=up _ _ D.TOz F;rw[hsz] at z8 j;refine AG ⟨_,rfl,?_⟩;show Q (.ref r.objs.size) _;rw[hsz];exact g x y l _ hx hy z8 S j p6 p7 λc o c1 c2 c3 k e=>up c o c1 (k5 c o c1 c2 c3 k e)
theorem gP(u:Draws prog w A i1 f1 n P1 S1)(D:NO z TI TO i1 i2 f1 f2){Q:Fin->A4->Prop}(hz:IsZip s.heap z TI TO .none)(d:IsPair s.heap TI (.ref i1) (.ref i2))(q1:S1 n s.heap)
  (hE:∀ h' e,(∀ c o,c≠z->c≠i1->s.heap.get? c=some o->h'.get? c=some o)->(∃ o,h'.get? e=some o/\o.cls=.type "StopIteration")->E (.ref e) { s with heap:=h' }) :
  wpAny (model prog w) A (Builtin.«zip.__next__» ⟨[.ref z],[]⟩) Q E s:=by
 show wpAny _ _ (field (.ref z) 2 >>= _) _ _ _;refine AA (BU hz rfl (x:=.bool false) rfl ?_);show wpAny _ _ (field (.ref z) 3 >>= _) _ _ _;refine AA (BU hz rfl (x:=.ref TI) rfl (AA (DR d rfl ?_)));show wpAny _ _ (Builtin.SmallTypes.ownedTupleIsFree (.ref z) >>= _) _ _ _;refine AA ?_;unfold Builtin.SmallTypes.ownedTupleIsFree;refine AA (BU hz rfl (x:=.none) rfl (AG ?_));simp only[GS];refine AA (HR (AA (BU hz rfl (x:=.ref TO) rfl (AA (ER hz (by simp) λW z1 p=>?_)))));replace z1:IsZip W z TI TO .ellipsis:=z1;refine AA ?_;simp only[List.zipIdx_cons,List.zipIdx_nil,HP,IU];refine AA (AA (IR ?_));show wpAny _ _ (Builtin.SmallTypes.nextOf (.ref i1) >>= _) _ _ _;have p1:S1 n W:=u.frame n _ _ q1 λc hc o e=>p.extBut _ _ (λy=>D.z1 (y▸hc)) e
 refine AA (u.done _ _ _ p1 λg2 e J he=>?_);obtain⟨f,a,b⟩:=he;have z2:IsZip g2 z TI TO .ellipsis:=J _ _ D.i1z.symm z1;have g:e≠z:=λx=>by subst x;rw[z2] at a;cases a;simp at b
 exact ER z2 (by simp) λg3 _ h=>hE g3 e (λc o c1 c3 x=>h.extBut _ _ c1 (J _ _ c3 (p.extBut _ _ c1 x))) ⟨f,h.extBut _ _ g a,b⟩
end
theorem TY{TI TO:A2}(u:Draws prog w A.in1 i1 f1 n P1 S1)(C:Draws prog w A.in1 i2 f2 n P2 S2)(D:NO z TI TO i1 i2 f1 f2)(m1:i1∈f1)(m2:i2∈f2) :
  WalksT prog w A z (z::TI::TO::(f1++f2)) [z,TO,i1,i2] n
   (λi p=>∃ x y,P1 i x/\P2 i y/\p=#[x,y])
   (λi h=>IsZip h z TI TO .none/\IsPair h TI (.ref i1) (.ref i2)/\(∃ a b,IsPair h TO a b)/\S1 i h/\S2 i h)
   (λi T h=>IsZip h z TI TO (rawInt T)/\IsPair h TI (.ref i1) (.ref i2)/\(∃ a b,IsPair h TO a b)/\S1 (i+1) h/\S2 (i+1) h/\T≠z/\T≠TO/\T≠i1/\T≠i2) where
 sub:=λc hc=>by
  simp at hc ⊢;rcases hc with rfl | rfl | rfl | rfl
  .simp
  .simp
  .exact .inr (.inr (.inr (.inl m1)))
  .exact .inr (.inr (.inr (.inr m2)))
 frame:=λi h h' st hk=>by
  obtain⟨hz,d,⟨a,b,f⟩,q1,q2⟩:=st;exact⟨hk z (by simp) _ hz,hk TI (by simp) _ d,⟨a,b,hk TO (by simp) _ f⟩,u.frame _ _ _ q1 λc hc o e=>hk c (by simp[hc]) o e,C.frame _ _ _ q2 λc hc o e=>hk c (by simp[hc]) o e⟩
 item:=λi s Q E hi st g=>by
  obtain⟨hz,d,⟨a,b,f⟩,q1,q2⟩:=st;have j:s.TypeIs (.ref z) "zip" := ⟨_,hz,rfl⟩;unfold pyNext;refine AA (IN (CM (name:=Str.ofString "__next__") j EY (DK EY j PySem.F.entry_zip_next (fh u C D hz d f q1 q2 hi λx y h' tk hx hy k1 k2 k3 v k5 hk=>?_) (PySem.F.args_zip_next_1 _))));have lt:∀ {c o},s.heap.get? c=some o->s.heap.objs.size≠c:=λe=>IK (BE e)
  obtain⟨o1,e1⟩:=u.live _ _ q1;obtain⟨o2,e2⟩:=C.live _ _ q2;exact AG (g s.heap.objs.size #[x,y] h' tk ⟨x,y,hx,hy,rfl⟩ (AT _) ⟨_,k3,rfl,_,rfl⟩ ⟨k1,hk _ _ D.TIz D.TITO D.TIi1 D.TIi2 d,⟨_,_,k2⟩,v,k5,lt hz,lt f,lt e1,lt e2⟩
   λc o hc e=>hk c o (λq=>hc (by simp[q])) (λq=>hc (by simp[q])) (λq=>hc (by simp[q])) (λq=>hc (by simp[q])) e)
 go:=λm k pos i T s Q E hm g=>by
  obtain⟨hz,d,⟨a,b,f⟩,q1,q2,_⟩:=hm;exact wpAny_letOwnedTupleGo_zip hz λh' l t=>g h' ⟨l,t.extBut _ _ D.TIz d,⟨a,b,t.extBut _ _ D.TOz f⟩,u.frame _ _ _ q1 λc hc o e=>t.extBut _ _ (λq=>D.z1 (q▸hc)) e,C.frame _ _ _ q2 λc hc o e=>t.extBut _ _ (λq=>D.z2 (q▸hc)) e⟩ λc o hc e=>t.extBut _ _ (λq=>hc (by simp[q])) e
 apart:=λi T h hm j=>by
  obtain⟨_,_,_,_,_,t1,t2,X,G⟩:=hm;simp at j;rcases j with q | q | q | q
  .exact t1 q
  .exact t2 q
  .exact X q
  .exact G q
 done:=λs Q E st g=>by
  obtain⟨hz,d,⟨a,b,f⟩,q1,q2⟩:=st;have j:s.TypeIs (.ref z) "zip" := ⟨_,hz,rfl⟩;unfold pyNext;refine AA (IN (CM (name:=Str.ofString "__next__") j EY (DK EY j PySem.F.entry_zip_next (gP u D hz d q1 λh' e hk he=>?_) (PySem.F.args_zip_next_1 _))));obtain⟨o,J,hc⟩:=he;refine AA (wpAny_isInstance (T:="StopIteration") (b:=true) ⟨o,J,hc⟩ isSubtype_stop (AG (g h' s.toks λc o hc e=>hk c o (λq=>hc (by simp[q])) (λq=>hc (by simp[q])) e)))
 self:=λi s Q E st g=>IA st.1 g
def QN(a b:Hp->Z V->Prop):It :=
 ⟨λi H=>∃ xs ys x y,a H xs/\b H ys/\xs.length=ys.length/\xs[i]?=some x/\ys[i]?=some y,
  λi H v H'=>∃ p x y,v=.ref p/\H p=none/\(∀ xs,a H xs->xs[i]?=some x)/\(∀ ys,b H ys->ys[i]?=some y)/\H'=Wq H p (.tup [x,y]),
  λi H=>∃ xs ys,a H xs/\b H ys/\xs.length=i/\ys.length=i⟩
abbrev PB(h:Ff)(l:A2):Ff:=h.push { cls:=.type "tuple_iterator",data:=.fields #[.ref l,.int 0 0] }
theorem Fo(q:h.IsTuple t xs)(o:Obj):(h.push o).IsTuple t xs:=by
 obtain⟨p,e,r⟩:=q;exact⟨p,AD _ e,r⟩
section
variable{st:Bool}{l1 l2:Cs}{tk:Nat}
def Ei:Z Dat->Z Dat->Z Dat
 | x::xs,y::ys=>.tup [x,y]::Ei xs ys
 | _,_=>[]
theorem X1:∀ (xs ys:Z Dat) (i:Nat) (x y:Dat),xs[i]?=some x->ys[i]?=some y->(Ei xs ys)[i]?=some (.tup [x,y])
 | x::xs,y::ys,0,_,_,h1,h2=>by simp at h1 h2;subst h1 h2;rfl
 | x::xs,y::ys,i+1,a,b,h1,h2=>by
  rw[Ei,GH];exact X1 xs ys i a b (by simpa using h1) (by simpa using h2)
 | [],_,i,_,_,h1,_=>by simp at h1
 | _::_,[],i,_,_,_,h2=>by simp at h2
theorem Iz:∀ (xs ys:Z Dat),xs.length=ys.length->(Ei xs ys).length=xs.length
 | [],[],_=>rfl
 | x::xs,y::ys,h=>by rw[Ei,BJ,BJ,Iz xs ys (by simpa using h)]
 | [],_::_,h=>by simp at h
 | _::_,[],h=>by simp at h
theorem d3{A:AS}{vs:Z V}{es:Z Dat}{a b:Hp->Z V->Prop}(hl:ds.length=es.length)(h:∀ g H1,LM st A H g H1->a H1 vs)(h':∀ g H1,LM st A H g H1->b H1 us)(r:Vc K (av H A) ds vs)(r':Vc K (av H A) es us):Ai st K A H (Ei ds es) (QN a b):=λg H1 c mu=>by
 have h1:=h g H1 c;have h2:=h' g H1 c;have r1:=r.mono c.step.av;have r2:=r'.mono c.step.av;have D:=Iz ds es hl;refine⟨λi x e=>?_,⟨vs,us,h1,h2,by rw[D];exact Yh r,by rw[D,hl];exact Yh r'⟩⟩;have hi:i<ds.length:=by rw[<- D];exact(AE.mp e).1
 have ar:i<es.length:=by lia
 have j:=AL hi;have d:=AL ar;rw[X1 ds es i _ _ j d] at e;cases e;obtain⟨v,e3,e4⟩:=M2 r1 j;obtain⟨u,e5,s⟩:=M2 r2 d;refine⟨⟨vs,us,v,u,h1,h2,by rw[Yh r,Yh r'];exact hl,e3,e5⟩,λP H2 ⟨p,x,y,z1,z2,G,T,I⟩=>?_⟩;subst z1 I;have q1:=G vs h1;have q2:=T us h2;rw[e3] at q1;rw[e5] at q2;cases q1;cases q2;exact⟨Zv.new z2,Nh (by show 2<=sizeLine;decide) (.inl (U1 Y5 (mu.new z2))) (Yr (e4.mono (V0 (Zv.new z2))) (Wu (s.mono (V0 (Zv.new z2)))))⟩
end
theorem C6{Q:Z A1->A4->Prop}(hl:s.heap.IsTuple l vs.toArray)
  (h:Q vs { s with heap:=(s.heap.push (seqObj "list" #[] 0)).update s.heap.objs.size (Obj.mapSeq (·++vs.toArray)) }) (hsz:vs.length<=sizeLine) :
  wpAny (model prog w) A (collect (.ref l)) Q E s:=by
 obtain⟨o,J,hc,n,hd⟩:=id hl;unfold collect;refine AA (IG (FK entry_proto_collect' ?_));show wpAny _ _ (do again (.builtin "list.__iadd__" ⟨[<- newList [],.ref l],[]⟩)) _ _ s;refine AA (wpAny_newList (AG ⟨Code.quiet_builtin _ (by ext),FK entry_list_iadd' ?_⟩));show wpAny _ _ (Builtin.List.listExtendWith (.ref s.heap.objs.size) (.ref l) (.ref s.heap.objs.size)) _ _ { s with heap:=s.heap.push (seqObj "list" #[] 0) };unfold Builtin.List.listExtendWith;have a:(s.heap.push (seqObj "list" #[] 0)).get? l=some o:=AD _ J;refine AA (HX (T:="tuple") ⟨o,a,hc⟩ ?_);have ht:(Value.type "tuple" == Value.type "tuple")=true:=by rfl
 rw[AF (by rw[ht];simp)];refine AA (listItems_at a hd ?_);refine AA (listItems_at (xs:=#[]) (n:=0) (AW _ rfl) rfl ?_);rw[AJ (by simp)];refine AA (listUpdate_at (xs:=#[]) (n:=0) (AW _ rfl) rfl ?_ (DH _) (by show(#[]++vs.toArray).size<=sizeLine+1;simp only[Array.size_append,AO,List.length_nil];lia));refine AG ?_;show wpAny (model prog w) A (do
   let o <- load s.heap.objs.size
   match o.data with
   | .seq xs _=>pure xs.toList
   | _=>unsupported "internal:collect") Q E { s with heap:=(s.heap.push (seqObj "list" #[] 0)).update s.heap.objs.size (Obj.mapSeq (·++vs.toArray)) }
 refine AA (wpAny_load (get?_update_seq (AW _ rfl) _) ?_);show wpAny _ _ (pure ((#[]:Array A1)++vs.toArray).toList) Q E _;rw[show((#[]:Array A1)++vs.toArray).toList=vs by simp];exact AG h
theorem Cn(hl:s.heap.IsTuple l vs.toArray)(B:IntsAre vs ns)(c:vs.length<64)
  (h:∀ (aD:Array A1) (a:Z Int),IntsAre aD.toList a->a.Perm ns->a.Pairwise (·<=·)->Q (.ref (s.heap.objs.size+1)) { s with heap:=sortedAll s.heap vs aD }) :
  wpAny (model prog w) A (call (.builtin "sorted") [.ref l]) Q E s:=by
 refine Calls.call_function_entry kind_sorted plain_sorted entry_sorted (args_sorted1 _) ?_;unfold Builtin.«sorted»;refine AA (m:=checkCount "sorted" 1 1 _) (AG ?_);refine AA (C6 hl ?_ (by rw[FI];lia));refine AA (wpAny_newList ?_);have hsz:((s.heap.push (seqObj "list" #[] 0)).update s.heap.objs.size (Obj.mapSeq (·++vs.toArray))).objs.size=s.heap.objs.size+1:=by
  rw[Heap.size_update,size_push']
 have J:(((s.heap.push (seqObj "list" #[] 0)).update s.heap.objs.size (Obj.mapSeq (·++vs.toArray))).push (seqObj "list" vs.toArray 0)).get? (s.heap.objs.size+1)=some (seqObj "list" vs.toArray 0):=by
  rw[<- hsz];exact AW _ rfl
 show wpAny _ _ _ _ _ { s with heap:=((s.heap.push (seqObj "list" #[] 0)).update s.heap.objs.size (Obj.mapSeq (·++vs.toArray))).push (seqObj "list" vs.toArray 0) };rw[hsz];refine AA (CZ (DK slot_list_sort ⟨_,J,rfl⟩ entry_list_sort (list_sort_tree J B c λaD a a1 a2 a3=>⟨_,rfl,?_⟩) (args_list_sort _)));exact AG ⟨_,rfl,h aD a a1 a2 a3⟩
def gv(K:E'):Z V->Hp->VK->Prop:=λxs H Q=>∃ p ns,xs=[.ref p]/\Dx K H p (ns.map V.int)/\ns.length<64 /\
 ∀ (a:Z Int) (l:A2),a.Perm ns->a.Pairwise (·<=·)->H l=none->Q (.ref l) (Wq H l (.lst (a.map V.int)))
theorem Fa:Uq X (.builtin "sorted") (gv X.K):=by
 intro aa s σ H xs us Q I r h;obtain⟨p,ns,rfl,B,c,q⟩:=h;obtain⟨u,rfl,rx⟩:=Sh r;cases rx;obtain⟨its,r',pl,hz⟩:=I.tuple B;have D:=r'.length;rw[AB] at D;refine Cn (show s.heap.IsTuple p its.toArray from pl) (Nd r') (by lia) λaD a h1 h2 h3=>?_
 obtain⟨e,he⟩:=sortedAll_at s.heap its aD;have hl:a.length=ns.length:=h2.length_eq;refine⟨.ref (s.heap.objs.size+1),Wq H (s.heap.objs.size+1) (.lst (a.map V.int)),I.laid (t':=s.toks) (λb o q=>sortedAll_old q) (FG _) ?_,rfl,q a _ h2 h3 (I.hok.fresh (FG _))⟩;refine⟨by rw[AB] at hz ⊢;lia,aD.toList,e,Ho h1,?_⟩;rw[he]
def Ma:Z Dat->Cc (Z Dat)
 | [.lst xs]=>(Se xs).bind λns=>if ns.length<64 then some ((Ic ns).map .int) else none
 | [.tup xs]=>(Se xs).bind λns=>if ns.length<64 then some ((Ic ns).map .int) else none
 | _=>none
theorem Dh:SI X (.builtin "sorted") Ma:=(F0.or Fa).weak λvs H Q M=>by
 obtain⟨A,ds,d,mu,e,p,q⟩:=M;unfold Ma at e;split at e
 .rename_i xs
  obtain⟨v,e1,p1⟩:=p.one;obtain⟨l,us,e2,h1,r1⟩:=p1.lst;obtain⟨ns,hn,e⟩:=Zi e;split at e
  .rename_i c
   cases e;rw[Sm hn] at r1;have eu:=Td r1;subst eu;refine .inl ⟨l,ns,by rw[e1,e2],h1.sq,c,λa l' F hs hl=>?_⟩;rw[Ms (F.trans (Qb ns).symm) hs (Hl ns)];have h0:(64:Nat)<=sizeLine:=by decide
   exact q.at (by rw[AB,(Qb ns).length_eq];lia) (D6 _) l' hl
  .cases e
 .rename_i xs
  obtain⟨v,e1,p1⟩:=p.one;obtain⟨l,us,e2,h1,r1⟩:=p1.tup;obtain⟨ns,hn,e⟩:=Zi e;split at e
  .rename_i c
   cases e;rw[Sm hn] at r1;have eu:=Td r1;subst eu;refine .inr ⟨l,ns,by rw[e1,e2],h1,c,λa l' F hs hl=>?_⟩;rw[Ms (F.trans (Qb ns).symm) hs (Hl ns)];have h0:(64:Nat)<=sizeLine:=by decide
   exact q.at (by rw[AB,(Qb ns).length_eq];lia) (D6 _) l' hl
  .cases e
 .cases e
open HT in
theorem Dw{sl:A2}(ht:IsTup s.heap t ae)(hs:s.heap.IsSliceOf sl vl vu .none)(pl:IsPart vl lo)(c:IsPart vu hi)
  (hw:(sIx ae.size 0 lo=0/\sIx ae.size ae.size hi=ae.size))
  (h:Q (.ref t) s)
  (hsz:ae.size<=sizeLine):wpAny (model prog w) A (getItem (.ref t) (.ref sl)) Q E s:=by
 obtain⟨os,b,d,y⟩:=id hs;have e:s.TypeIs (.ref sl) "slice" := ⟨os,b,d⟩;unfold getItem;try with_reducible refine CZ ?_
 first | refine AA (AG ?_) | skip
 refine AA (wpAny_sequenceKey ht.typeIs (by decide) ?_);refine AA (CM (name:=Str.ofString "__getitem__") ht.typeIs DL
  (DK DL ht.typeIs entry_tuple_getitem ?_ (args_tuple_getitem _ _)))
 show wpAny _ _ (Builtin.Tuple.tupleItemsOf (.ref t) >>= _) _ _ s;refine AA (tupleItemsOf_ ht ?_);refine AA (HX e ?_);rw[AF (by decide)];refine AA (R4 hs pl c ?_);have a:(((sIx ae.size 0 lo:Nat):Int)==0&&(1:Int)==1&&(sIx ae.size ae.size hi - sIx ae.size 0 lo)==ae.size)=true:=by
  rw[hw.1,hw.2];simp
 show wpAny _ _ (if(((sIx ae.size 0 lo:Nat):Int)==0&&(1:Int)==1&&(sIx ae.size ae.size hi - sIx ae.size 0 lo)==ae.size)=true then _ else _) _ _ s;rw[AF a];unfold Builtin.Tuple.tupleIsExact;refine AA (AA (HX ht.typeIs (AG ?_)));rw[AF (by decide)];exact AA (HR (AG ⟨_,rfl,AG h⟩))
def hh(K:E'):V->Cc Int->Cc Int->Hp->VK->Prop:=λx lo hi H Q=>∃ a xs,x=.ref a/\Dx K H a xs /\
 (HT.sIx xs.length 0 lo=0/\HT.sIx xs.length xs.length hi=xs.length)/\Q (.ref a) H
theorem gK:JW X (hh X.K):=by
 intro aa s σ H x v vl vu lo hi sl Q I rx hs pl c h;obtain⟨a,xs,rfl,hx,hw,q⟩:=h;cases rx;obtain⟨its,r,ht,hz⟩:=I.tuple hx;have D:its.toArray.size=xs.length:=by rw[AO];exact r.length.symm
 refine⟨"tuple",_,PyProof.Rows.slot_tuple_getitem.lookup,ht.typeIs,?_⟩;exact Dw ht hs pl c (by rw[D];exact hw) ⟨.ref a,H,I,rfl,q⟩ (by rw[D];exact hz)
def JS:Dat->Cc Int->Cc Int->Cc Dat
 | .lst xs,lo,hi=>some (.lst (Q7 xs lo hi))
 | .str z,lo,hi=>some (.str (Txt.slice z lo hi))
 | .tup xs,lo,hi=>some (.tup (Q7 xs lo hi))
 | _,_,_=>none
theorem E9:QQ X JS:=(ZG.or gK).weak λv lo hi H Q M=>by
 obtain⟨A,x,d,mu,e,p1,q⟩:=M;unfold JS at e;split at e
 .exact .inl ⟨A,.lst _,d,mu,e,p1,q⟩
 .exact .inl ⟨A,.str _,d,mu,e,p1,q⟩
 .rename_i xs
  by_cases hw:HT.sIx xs.length 0 lo=0/\HT.sIx xs.length xs.length hi=xs.length
  .obtain⟨l,vs,e1,h1,r1⟩:=p1.tup
   cases e;have ec:Q7 xs lo hi=xs:=by unfold Q7;rw[hw.1,hw.2];simp
   rw[ec] at q;exact .inr ⟨l,vs,e1,h1,by rw[Yh r1];exact hw,by rw[<- e1];exact q.here (by rcases p1 with h | ⟨_,_,_,e9,_⟩ | ⟨_,_,_,e9,_⟩ | ⟨_,_,e9,_⟩;exact h;cases e9;cases e9;cases e9)⟩
  .exact .inl ⟨A,.tup xs,d,mu,by show(if _ then none else _)=_;rw[AJ hw];exact e,p1,q⟩
 .cases e
theorem Rt(q:h.IsList t xs)(e:∀ o,h.get? t=some o->h'.get? t=some o):h'.IsList t xs:=by
 obtain⟨o,J,r⟩:=q;exact⟨o,e o J,r⟩
theorem Pn(ag:t≠it):∀ (n i:Nat) (s:A4) (Q:Z A1->A4->Prop),s.heap.IsListIter it t i->s.heap.IsList t ae->i+n<=ae.size ->
  (∀ h',h'.IsListIter it t (i+n)->SameBut it s.heap h'->Q ((ae.toList.drop i).take n) { s with heap:=h' })->wpAny (model prog w) A (draw (.ref it) n) Q E s
 | 0,i,s,Q,c,_,_,g=>by
  show wpAny _ _ (pure []) Q E s;exact AG (by simpa using g s.heap c (SameBut.refl ..))
 | n+1,i,s,Q,c,ht,aj,g=>by
  have ai:i<ae.size:=by lia
  show wpAny _ _ (pyNext (.ref it) >>= _) Q E s;refine AA (wpAny_pyNext_list_item c ht (x:=ae[i]) (by simp[ai]) λh₁ hit₁ hs₁=>?_);refine AA (CZ (Pn ag n (i+1) _ _ hit₁ (Rt ht λo e=>hs₁.extBut _ _ ag e) (by lia) λh₂ hit₂ hs₂=>AG ?_));have hd:ae.toList.drop i=ae[i]::ae.toList.drop (i+1):=by simp[EB,ai]
  have:=g h₂ (by rw[show i+(n+1)=i+1+n by lia];exact hit₂) (hs₁.trans hs₂);rw[hd,EW] at this;exact this
theorem Ij{Q:Z A1->A4->Prop}(M:A.handled=none)(ht:s.heap.IsList t ae)
  (g:∀ h',ExtBut s.heap.objs.size s.heap h'->Q ae.toList { s with heap:=h' }):wpAny (model prog w) A (unpackItems (.ref t) ae.size none) Q E s:=by
 have ai:t≠s.heap.objs.size:=by obtain⟨o,J,_⟩:=ht;exact BZ (BE J)
 unfold unpackItems;refine AA ?_
 .unfold notIterableAtAll
  refine AA (wpAny_specialOf ht.typeIs slot_list_iter.lookup ?_);refine AG ?_;simp only[HE,HW];refine AA (CZ (GJ ht ?_));refine AA (CZ (Pn ai ae.size 0 _ _ ⟨_,AW _ rfl,rfl,rfl⟩ (Rt ht λo e=>AD _ e) (by lia) λh₁ hit₁ hs₁=>?_));have u:List.take ae.size (List.drop 0 ae.toList)=ae.toList:=by
   rw[IS];exact BB (by simp)
  rw[u];rw[AJ (by simp)];have ht₁:Heap.IsList h₁ t ae:=Rt (Rt ht λo e=>AD _ e) λo e=>hs₁.extBut _ _ ai e
  refine AA (CZ (wpAny_pyNext_list_end M hit₁ ht₁ (by simp) λh₂ he₂=>?_));simp only[Option.isSome_none,HE,HW];refine AG (g h₂ λb o hb e=>he₂ b o hb (hs₁.extBut b o hb (AD _ e)))
theorem Hh{env:IY}{m:Z Cs}{S}{Q:Unit->A4->Prop}(M:A.handled=none)(ht:s.heap.IsList t ae)
  (hn:(assignEach m env).length=ae.size) (a:(assignEach m env).findIdx? (·.1)=none)
  (h:∀ h',ExtBut s.heap.objs.size s.heap h'->wpAny (model prog w) A (assignInOrder ((assignEach m env).map (·.2)) ae.toList) Q E { s with heap:=h' }) :
  wpAny (model prog w) A (assign (.Tuple m S pos) env (.ref t)) Q E s:=by
 rw[assign_Tuple];refine AA (HK ?_);unfold unpack;rw[hn,a];exact AA (CZ (Ij M ht h))
def gJ(K:E')(n:Nat)(t:KU):TG:=λv σ H Q=>∃ a xs,v=.ref a/\Dq K H a xs/\xs.length=n/\t xs σ H Q
theorem eB{t:KU}(hc:X.calm=true)(h:LB X es t)
  (hn:(assignEach es X.env).length=n:=by rfl) (ac:(assignEach es X.env).findIdx? (·.1)=none:=by rfl):PG X (.Tuple es k pos) (λv σ H Q=>WG X.K n t v σ H Q\/gJ X.K n t v σ H Q):=by
 intro aa s σ H v u Q I r hw;rcases hw with hw | hw
 .exact gj hc h hn ac aa s σ H v u Q I r hw
 obtain⟨a,xs,e1,B,hl,hw⟩:=hw;subst e1;cases r;obtain⟨its,rv,pl,hz⟩:=I.list B;refine Hh (I.ok.hd hc) pl.isList (by simp[hn,<- hl,rv.length]) ac λh' hx=>?_
 have G:D' X aa σ H { s with heap:=h' }:=I.kept (t':=s.toks) λb o e=>hx b o (BZ (BE e)) e
 exact h aa _ σ H xs _ Q G (by simpa using rv) hw
def Mc(n:Nat)(gs:Z Dat->Ev->Cc Ev):Dat->Ev->Cc Ev:=λd env=>match d with
 | .tup ds=>if ds.length=n then gs ds env else none
 | .lst ds=>if ds.length=n then gs ds env else none
 | _=>none
theorem J2{gs:Z Dat->Ev->Cc Ev}(hc:X.calm=true)(h:PR is X es gs)
  (hn:(assignEach es X.env).length=n:=by rfl) (ac:(assignEach es X.env).findIdx? (·.1)=none:=by rfl):KS is X (.Tuple es k pos) (Mc n gs):=(eB hc h hn ac).weak λv σ H Q M=>by
 obtain⟨env,R,A,d,env',k,r,e,q⟩:=M;unfold Mc at e;split at e
 .rename_i ds
  split at e
  .rename_i hl
   obtain⟨a,vs,y,h1,r1⟩:=Su r;exact .inl ⟨a,vs,y,Wn.seqT h1,by rw[Yh r1];exact hl,env,R,A,ds,env',k,r1,e,q⟩
  .cases e
 .rename_i ds
  split at e
  .rename_i hl
   obtain⟨a,vs,y,h1,r1⟩:=Ey r;exact .inr ⟨a,vs,y,(Wn.sl h1).sq,by rw[Yh r1];exact hl,env,R,A,ds,env',k,r1,e,q⟩
  .cases e
 .cases e
variable{k:Cs}
def MQ:Dat->Cc (Z U0)
 | .tup [.int a,.int b]=>some [.inl a,.inl b]
 | _=>none
theorem A9{A:AS}{d:Dat}{ks:Z U0}(e:MQ d=some ks)(r:Pk K A H d v):∃ p,v=.ref p/\H p=some (.tup (ks.map kV)):=by
 unfold MQ at e;split at e
 .rename_i a b
  cases e;obtain⟨p,vs,e1,h1,r1⟩:=r.tup;have y:vs=[.int a,.int b]:=Td (ns:=[a,b]) r1;subst y;rcases h1 with h1 | ⟨_,_,_,_,_,_,_,_,h2⟩
  .exact⟨p,e1,h1⟩
  .exact absurd BD (h2 a)
 .cases e
def Kj(kvs:Z (Z U0×Dat))(ks:Z U0):Bool:=(kvs.map (·.1)).any λx=>decide (x=ks)
theorem Br{us:Z (Z U0×V)}{k:Z U0}:(Rz us k).isSome=(us.map (·.1)).any λx=>decide (x=k):=by
 rw[any_map,<- Hq];congr 1
section
variable{g:Zzu}
def NT(neg:Bool)(i:Nat)(f:Zzu):Ev->Cc Dat:=λenv=>match env[i]?,f env with
 | some (.gx (.dict kvs)),some d=>(MQ d).map λks=>.bl (if neg then !Kj kvs ks else Kj kvs ks)
 | _,_=>none
theorem C'.dictA{A:AS}{kvs:Z (Z U0×Dat)}(k:C' K B A H σ env)(h:env[i]?=some (.gx (.dict kvs))) :
  ∃ (a:A2) (us:Z (Z U0×V)),σ[i]?=some (some (.ref a))/\H a=some (.dT us)/\us.map (·.1)=kvs.map (·.1):=by
 obtain⟨own,h1,h2,h4⟩:=k.sl;obtain⟨x,q1,v,e1,a,us,e2,e3,e4,e5,s,e7⟩:=h4 i _ h;subst e1 e2;exact⟨a,us,q1,e5,s⟩
def Nm(i:Nat)(fk fv:Zzu):Ev->Fl:=λenv=>match env[i]?,fv env,fk env with
 | some (.gx (.dict kvs)),some d,some y=>match MQ y with
  | some ks=>if Kj kvs ks=false/\kvs.length<sizeLine then .next (env.set i (.gx (.dict (kvs++[(ks,d)])))) else .no
  | none=>.no
 | _,_,_=>.no
theorem fE(i:Nat)(hu:X.A.units+1<cLine)(Y:Wy true X ix f)(hb:Wy false X e g)
  (hN:X.N[i]?=some x:=by rfl) (hv:KX X.env.scope x:=by ext) (hd:Cg x:=by decide) (af:(x==("__classdict__" : Str))=false:=by decide)
  (hs:swapsWith e (some (.Subscript (.Name x p) ix au)) pos.line X.env=pure false:=by rfl) :
  Af fr X (.Assign [.Subscript (.Name x p) ix au] e pos) (Nm i f g):=(TB hu (W8 hN hv hd af) Y hb hs).weak λD σ H M=>by
 obtain⟨env,B,A,k,ac,q⟩:=M;unfold Nm at q;split at q
 .rename_i kvs d y h1 h2 h3
  split at q
  .rename_i ks hk
   split at q
   .rename_i hc
    obtain⟨a,us,s1,s2,P⟩:=k.dictA h1;refine⟨env,B,A,d,k,h2,λv H1 h r1=>⟨.ref a,s1,env,B,A,y,k.mono h,h3,λu H2 n r2=>?_⟩⟩;obtain⟨b,e4,e5⟩:=A9 hk r2.pk;subst e4;have sm:=h.trans n;have k3:=k.mono sm;obtain⟨v0,o,m1,m2,m3,m4⟩:=k3.gx ac h1;rw[s1] at m1;cases m1;obtain⟨a',l,z1,z2,G,T,I,z6⟩:=m2;cases z1;have s:l=us:=by
     have:=sm _ _ s2;rw[T] at this;exact HO.dT.inj (BK this)
    subst s;have r:Rz l ks=none:=by
     have:=Br (us:=l) (k:=ks);rw[P] at this;have h9:Kj kvs ks=false:=hc.1;unfold Kj at h9;rw[h9] at this;cases w:Rz l ks with
     | none=>rfl
     | some _=>rw[w] at this;cases this
    have C:l.length=kvs.length:=by have:=EH List.length P;rwa [AB,AB] at this
    have j:Ep l ks v=l++[(ks,v)]:=gm v r;refine⟨a,Wq H2 a (.dT (l++[(ks,v)])),rfl,by rw[<- j];exact Bb.t (sm _ _ s2) e5 (by rw[C];exact hc.2),?_⟩;have hA:A a=true:=(m3 a z2).1;have m:Zv (av H2 A) (av (Wq H2 a (.dT (l++[(ks,v)]))) A):=λc o2 ec=>by
     obtain⟨y1,y2⟩:=Tc ec;have hc:c≠a:=by intro z;rw[z,hA] at y1;cases y1
     exact U1 (by rw[Zp hc];exact y2) y1
    have S:LD X.K A (Wq H2 a (.dT (l++[(ks,v)]))) o (.dict (kvs++[(ks,d)])) (.ref a):=by
     refine⟨a,l++[(ks,v)],rfl,z2,by rw[AH];exact hc.2,Y5,by rw[AU,AU,P];rfl,?_⟩;rw[AU,AU];exact Vm (z6.mono m) (Wu ((Rp.mono (V0 n) (show Rp X.K (av H1 A) d v from r1)).mono m))
    obtain⟨w1,w2⟩:=m4 a (.dT (l++[(ks,v)])) _ z2 trivial S;exact q A _ σ ((F'.same sm).trans w1) w2
   .exact q.elim
  .exact q.elim
 .exact q.elim
def gF(tk tv:TE):TE:=λσ H Q=>∀ p,H p=none->tk σ (Wq H p (.dT [])) λy H1=>tv σ H1 λx H2=>H2 p=some (.dT [])/\∃ ks b,y=.ref b/\H2 b=some (.tup (ks.map kV))/\Q (.ref p) (Wq H2 p (.dT [(ks,x)]))
theorem dH{env:IY}{K:Type}[DecidableEq K]{knd:HeapKind prog w K}{v:Cs} 
  (h:wpAny (model prog w) A (evalPairs (pairTrees [some k] [v] env pos)) (λvs s₁=>∃ b x ks,vs=[(.ref b,x)]/\knd.room A/\knd.is s₁.heap ks b/\s₁.heap.DictOfH knd s.heap.objs.size [] /\
   ∀ h',h'.DictOfH knd s.heap.objs.size (storedH [] ks b x)->SameBut s.heap.objs.size s₁.heap h'->Q (.ref s.heap.objs.size) { s₁ with heap:=h',toks:=s₁.toks+knd.draws ks }) E
   { s with heap:=s.heap.push { cls:=.type "dict",data:=.dict #[] } }) :
  wpAny (model prog w) A (eval (.Dict [some k] [v] pos) env) Q E s:=by
 rw[arm_eval_Dict,zip_pairTrees [some k] [v] env pos rfl rfl,dictDisplay_pairs (pairTrees [some k] [v] env pos) (by simp[pairTrees]) (by simp[pairTrees])];refine AA (HK (AA ?_));unfold subDict;refine AA (wpAny_alloc ?_);refine AA (CZ ?_);rw[AF (by simp[pairTrees])];refine AA (CJ h (λvs s₁ h₁=>?_) λ_ _ e=>e);obtain⟨b,x,ks,rfl,hr,hk,hm,B⟩:=h₁;refine CZ ?_;rw[HP];refine AA (AA (AA (wpAny_dictSet_heap hr hk hm (λh' a c=>AG ?_) (DH _))));show wpAny _ _ (forIn ([]:Z (A1×A1)) PUnit.unit _) _ _ _;rw[IU];exact AG (AG (AG (AG (B h' a c))))
theorem hp{v:Cs}{tk:TE}(hu:X.A.units+1<cLine)(hk:PE X k tk)(hv:PE X v tv):PE X (.Dict [some k] [v] pos) (gF tk tv):=by
 intro aa s σ H Q I q;have hn:=I.hok.fresh (AT s.heap.objs.size);have G:=I.laid (a:=s.heap.objs.size) (o:=.dT []) (h':=s.heap.push { cls:=.type "dict",data:=.dict #[] }) (t':=s.toks) (λ_ _ q=>AD _ q) (AT _) (gA s.heap I.big);refine dH (knd:=tupleKind (U4 X.prog X.w)) (pairTrees_cons_walk (Vy (hk aa _ σ _ _ G (q _ hn)) λu s1 ⟨y,H1,I2,m,q1⟩=>Vy (hv aa s1 σ H1 _ I2 q1) λJ s2 ⟨x,H2,t,rx,q2⟩=>pairTrees_nil_walk ?_));obtain⟨F,ks,b,C,T,q3⟩:=q2;subst C;cases (show u=Value.ref b from m);obtain⟨z,hd,xs,d,dd⟩:=TD t.hok F;cases d;refine⟨b,J,ks,rfl,(show X.A.units<cLine by lia),Nx t.hok T,dd,λh' f hs=>⟨.ref s.heap.objs.size,_,?_,rfl,q3⟩⟩;obtain⟨q,es,j,B,h2,h3,h4,_,h5⟩:=f;have r1:=(KT.put (H:=H2) (kvs:=[]) (xs:=[]) .nil ks T rx);refine Fx t (by rw[F];exact DN) hs ⟨q,B⟩ ⟨by show 1<=sizeLine;decide,hd,_,r1.keeps λc ys ec=>?_,q,es,j,B,h2,h3,h4,h5⟩;rw[Zp (XC ec F (λz=>nomatch z))];exact ec
def Bi(i:Nat)(fk fv:Zzu):Ev->Fl:=λenv=>match fk env,fv env with
 | some y,some (.bl d)=>match MQ y with
  | some ks=>.next (env.set i (.gx (.dict [(ks,.bl d)])))
  | none=>.no
 | _,_=>.no
theorem YB(i:Nat){l:Cs}{a:Pos}(hN:X.N.Nodup)(hi:X.N[i]?=some x)(hx:KH X.env.scope x)(hu:X.A.units+1<cLine)(Y:Wy true X l f)(hb:Wy false X e g)
  (hs:swapsWith (.Dict [some l] [e] a) (some (.Name x au)) pos.line X.env=pure false:=by rfl)
  (hf:X.fn x=true\/X.env.scope.names.lookup x=some .local:=by ext) :
  Af fr X (.Assign [.Name x au] (.Dict [some l] [e] a) pos) (Bi i f g):=(Co hN hi hx (hp hu Y hb) hs hf).weak λD σ H M=>by
 obtain⟨env,B,A,k,ac,q⟩:=M;unfold Bi at q;split at q
 .rename_i y d h1 h2
  split at q
  .rename_i ks hk
   intro p F;have j:Zv H (Wq H p (.dT [])):=Zv.new F;refine⟨env,B,A,y,k.mono j,h1,λu H1 h r1=>⟨env,B,A,.bl d,(k.mono j).mono h,h2,λv H2 n r2=>⟨n _ _ (h _ _ Y5),?_⟩⟩⟩;obtain⟨b,e4,e5⟩:=A9 hk r1.pk;refine⟨ks,b,e4,n _ _ e5,?_⟩;have m:Zv H (Wq H2 p (.dT [(ks,v)])):=λc o ec=>by
    rw[Zp (λz=>by rw[z,F] at ec;cases ec)];exact n _ _ (h _ _ (j _ _ ec))
   have h9:=k.putG ac i (g:=.dict [(ks,.bl d)]) (v:=.ref p) (S:=λb=>decide (b=p)) m (λb hb=>by rw[DC hb];exact F) (λb hb=>by rw[DC hb,Y5];trivial) ⟨p,[(ks,v)],rfl,by simp,by show 1<=sizeLine;decide,Y5,rfl,Wu ?_⟩
   .exact q _ _ _ h9.1 h9.2
   .rw[(show Rp X.K (av H2 A) (.bl d) v from r2) |> Ps];exact Qs
  .exact q.elim
 .exact q.elim
end
end L2
variable{l:Z Nat}{v B af m':Nat}{q:Nat×Nat}{R:L2.Dat->Prop}{lo:Int}{I:Nat×Nat->Prop}{qs:Z (Nat×Nat)}
namespace L2
open PySem PySem.Spec PyProof.Rows PySem.W
section
variable{g:Ev->Fl}{h₀:ExceptHandler}{hs:Z ExceptHandler}
variable{a b c:Cs}{f1 f2 f3:Zzu}{F1 F2:Dat->Dat->Cc Dat}{m1 m2 m3:Bool}
theorem eW(i:Nat)(hu:X.A.units+1<cLine)(he:Wy true X e f1)(hN:X.N[i]?=some x:=by rfl)(hv:KX X.env.scope x:=by ext)(hd:Cg x:=by decide)(af:(x==("__classdict__" : Str))=false:=by decide)
  (hm:behindInMarks .NotIn (.Name x p)=false:=by rfl):Cb X (.Compare e [.NotIn] [.Name x p] pos) (dB (NT true i f1)):=(UD (Pw hu he (W8 hN hv hd af)) hm).weak λσ H Q M=>by
 obtain⟨env,R,A,d,k,e1,q⟩:=M;have e1:=X7 e1;unfold NT at e1;split at e1
 .rename_i kvs j h1 h2
  obtain⟨ks,hk,e3⟩:=map_some e1;have e4:=Dat.bl.inj e3;subst e4;obtain⟨a,us,s1,s2,P⟩:=k.dictA h1;refine⟨env,R,A,j,k,h2,λy H1 sm r1=>⟨.ref a,s1,a,Rz us ks,rfl,?_,_,rfl,?_⟩⟩
  .obtain⟨b,e4,e5⟩:=A9 hk r1.pk
   subst e4;exact K0.t (sm _ _ s2) e5
  .rw[Br,P]
   exact q H1 sm
 .cases e1
end
end L2
namespace L2
open PySem PySem.Spec PyProof.Rows
section
variable{κ:Type}[DecidableEq κ]{kd:HeapKind prog w κ}
end
section
variable{F:Z Dat->Rs}
end
end L2
namespace L2
open PySem PySem.Spec PyProof.Rows PySem.W
section
variable{b:Bool}
end
section
variable{K:Frag}
end
section
variable{F:Z Dat->Rs}
end
section
variable{K:Frag}
end
section
variable{F:Z Dat->Rs}
end
section
variable{npos:Pos}
end
section
variable{g:Ev->Fl}{b1 b2:C2}{T1 T2:Str}
end
section
variable{g:Ev->Fl}{b1 b2:C2}{T1 T2:Str}{b1' b2':Str->Bool}
end
def DD(K:Frag)(n:Str)(st:C2):Prop:=∃ f oc od kV dc pm an cd ct sl,nsIn K mainGlobals n=some (some (.ref f))/\K.lookup f=some ⟨oc,od,.func (fnOf n n (U3 st) (Wb st) (Z9 st) .none kV dc pm an cd ct),sl⟩/\codeIn K cd n=true/\keepIn K (.ref f)=true
theorem cD{K:Frag}{n:Str}{f:A2}{kV:A1}(h1:nsIn K mainGlobals n=some (some (.ref f)))(h2:K.lookup f=some ⟨oc,od,.func (fnOf n n (U3 st) (Wb st) (Z9 st) .none kV dc pm an cd ct),sl⟩)(h3:codeIn K cd n=true)(h4:keepIn K (.ref f)=true):DD K n st:=⟨f,oc,od,kV,dc,pm,an,cd,ct,sl,h1,h2,h3,h4⟩
theorem hU{K:Frag}{h:Ff}(X:K.In h)(G:h.Ns mainGlobals mg){n:Str}(d:DD K n st):OF K mg n st:=by
 obtain⟨f,oc,od,kV,dc,pm,an,cd,ct,sl,h1,h2,h3,h4⟩:=d;exact⟨_,_,X6 (st:=st) h2 h3 h4,mg_of X G h1⟩
section
variable{K:Frag}{l:Z (Str×A2)}{T:Str}{D:A2}{b:Str->Bool}
end
section
variable{g:Ev->Fl}{T n:Str}{sub:Str->Bool}{DT:A2}
end
section
variable{F:Z Dat->Rs}
end
section
variable{g:Ev->Fl}{T n:Str}{sub:Str->Bool}
end
structure Bd where
 P:Program
 w:World
 K:E'
 mg:Str->Option Value
 base:Heap
abbrev Bd.F(b:Bd):=OF b.K b.mg
abbrev Bd.D(b:Bd):=JQ b.P b.w b.K b.mg b.base
end L2
variable{F G:Z L2.Dat->L2.Rs}{ps:Z Nat}{w m:Nat}
namespace L2
open PySem PySem.Spec PyProof.Rows
section
variable{ps:Z Str}{gs:Zzv}
end
theorem Pk.box{A:AS}{t:Tg}{v:V}(p:Pk K A H (.box t ds) v):Rp K (av H A) (.box t ds) v:=by
 rcases p with h | ⟨_,_,_,e,_⟩ | ⟨_,_,_,e,_⟩ | ⟨_,_,e,_⟩
 .exact h
 all_goals cases e
theorem Bm:∀ {ns:Z Str} {ds:Z Dat} {us:Z V} {f:Str} {d:Dat},Vc K H ds us->(ns.zip ds).lookup f=some d->∃ v,(ns.zip us).lookup f=some v/\Rp K H d v
 | [],ds,us,f,d,_,h=>by cases h
 | n::ns,[],us,f,d,_,h=>by cases h
 | n::ns,j::ds,us,f,d,r,h=>by
  obtain⟨v,l,rfl,r1,r2⟩:=Zw r;rw[GN,DI] at h ⊢;cases B:f==n with
  | true=>rw[B] at h;cases h;exact⟨v,rfl,r1⟩
  | false=>rw[B] at h;exact Bm r2 h
theorem VN:∀ {ns:Z Str} {us:Z α} {f:Str},ns.contains f=false->(ns.zip us).lookup f=none
 | [],us,f,_=>rfl
 | n::ns,[],f,_=>rfl
 | n::ns,u::us,f,h=>by
  rw[List.contains_cons,Bool.or_eq_false_iff] at h;rw[GN,DI,h.1];exact VN h.2
theorem Te.eq{C D:A2}(h:Te K c C)(g:Te K c D):C=D:=by
 unfold Te at h g;rw[h] at g;cases g;rfl
def TF(c f:Str):Dat->Cc Dat
 | .box (.obj g ns) ds=>if g=c then(ns.zip ds).lookup f else none
 | _=>none
def Sj(c f:Str)(g:Zzu):Ev->Cc Dat:=λenv=>(g env).bind (TF c f)
structure JD (K:E') (c f:Str):Prop where
 ex:∃ C,Te K c C/\JO K C/\En K C f
def MP(c m:Str):Dat->Bool
 | .box (.obj g ns) _=>g==c&&!ns.contains m
 | _=>false
structure KP (P:Program) (w:World) (K:E') (mg:JG) (base:Heap) (k:Nat) (c m:Str) (ps:List Str) (sp:Sp):Prop where
 ex:∃ C f fd,I' P w K mg base A7 k f fd ps sp/\Te K c C/\JO K C/\J' K C m f/\Sb K fd ps []
structure KL (P:Program) (w:World) (K:E') (mg:JG) (base:Heap) (k:Nat) (c m:Str) (ps:List Str) (fr:Bool) (F:List Dat->Rs):Prop where
 met:KP P w K mg base k c m ps (P' K fr ps.length F)
 len:∀ ds d,F ds=.ok d->ds.length=ps.length
structure JK (K:E') (c m q:Str) (st:Stmt):Prop where
 ex:∃ C f fd,KF K m q st f fd/\Te K c C/\JO K C/\J' K C m f
section
variable{w:D2}
theorem RX{q:Str}{ps:Z Str}(D:JK K c x q st)(S:FnScope N ps (Z9 st))
  (b:∀ (kV aw pm:A1) (an:Cc A2) (ai ct:A1) (us:Z A1),us.length=ps.length->bindArgs (PySem.W.fnOf x q (U3 st) (Wb st) (Z9 st) .none kV aw pm an ai ct) ⟨us,[]⟩=pure (ps.zip us))
  (len:∀ vs H Q E,sp vs H Q E->vs.length=ps.length)
  (hb:∀ (f:A2) (ai:A1) (A:B2) (outer:Z IY) (s:A4) (H:Hp) (vs:Z V) (Q:VK) (E:XK),G' k (A.deeper (envOfC q (Z9 st) s.heap.objs.size f ai))->sp vs H Q E ->
   ∃ t,Ku (K5 A7 P w K mg base N q (Z9 st) f ai A outer s H E).nox (Wb st) t/\t (JF.mk (λ_ H'=>Q .non H') Q (λ_ _=>False) (λ_ _=>False)) (IZ N vs) H):KP P w K mg base (k+1) c x ps sp:=by
 obtain⟨C,f,fd,F,h1,h2,h3⟩:=D.ex;exact⟨C,f,fd,F.ok S len λai A outer s H vs Q E hr h=>hb f ai A outer s H vs Q E hr h,h1,h2,h3,F.binds b⟩
theorem Pc{q:Str}{ps:Z Str}{g:Ev->Fl}(D:JK K c x q st)(S:FnScope N ps (Z9 st))
  (b:∀ (kV aw pm:A1) (an:Cc A2) (ai ct:A1) (us:Z A1),us.length=ps.length->bindArgs (PySem.W.fnOf x q (U3 st) (Wb st) (Z9 st) .none kV aw pm an ai ct) ⟨us,[]⟩=pure (ps.zip us))
  (hb:∀ (f:A2) (ai:A1) (A:B2) (outer:Z IY) (s:A4) (H:Hp) (E:XK),G' k (A.deeper (envOfC q (Z9 st) s.heap.objs.size f ai))->KJ fr (K5 A7 P w K mg base N q (Z9 st) f ai A outer s H E).nox (Wb st) g) :
  KL P w K mg base (k+1) c x ps fr (Wp N.length ps.length g):=by
 have ae:ps.length<=N.length:=by have:=EH List.length S.pre;rw[BY] at this;lia
 refine⟨RX D S b (λvs H Q E h=>h.1) λf ai A outer s H vs Q E hr ⟨hl,ds,R,d,mu,r,m,q⟩=>⟨_,hb f ai A outer s H E hr,?_⟩,λds d h=>B8 h⟩;exact Ni ae mu r m q
end
section
variable{m:Bool}{ps:Z Str}{o:Cs}{g:Zzu}{t:TA}{ta:TE}
theorem G9(h:Wy true X e g)(a:JD X.K c x)(hb:attributeBase e x X.env (eval e X.env)=eval e X.env:=by rfl):Wy m X (.Attribute e x pos) (Sj c x g):=Wy.any ((Fz h hb).weak λσ H Q M=>by
 obtain⟨env,R,A,d,k,q1,q2⟩:=M;obtain⟨j,e1,e2⟩:=Zi q1;refine⟨env,R,A,j,k,e1,λv H1 s1 r1=>?_⟩;unfold TF at e2;split at e2
 .split at e2
  .rename_i hc
   subst hc;obtain⟨b,us,rfl,⟨_,C,dx,h1,hc⟩,rs⟩:=Fq (Pk.box r1);obtain⟨v,l,r⟩:=Bm rs e2;obtain⟨I,t,cl,f⟩:=a.ex;cases hc.eq t;exact⟨b,C,dx,_,v,rfl,(Tc h1).2,cl,f,l,q2 v H1 s1 r⟩
  .cases e2
 .cases e2)
def NP(X:Cx)(fr:Bool)(c x:Str)(F:Z Dat->Rs)(fo:Zzu)(fs:Zzv):TE:=λσ H Q=>∃ env B A j ds d,C' X.K B A H σ env/\fo env=some j/\MP c x j=true/\fs env=some ds/\F (j::ds)=.ok d /\
 ∀ v H',Zv H H'->Rp X.K (av H' A) d v->(fr=true->LN X.K ⟨H,A,true⟩ H' d v)->Q v H'
theorem VD{C:KL X.prog X.w X.K X.mg X.base k c x ps fr F}{m:A2}(hC:Te X.K c m)(ht:∀ {σ H Q env B A ds},C' X.K B A H σ env->fs env=some ds->(∀ vs H',Zv H H'->Vc X.K (av H' A) ds vs->Q vs H')->t σ H Q){Q:VK}(M:NP X fr c x F fo fs σ H Q) :
  RC m x (P' X.K fr ps.length F) [] E0 (λσ H Q=>∃ env R A d,C' X.K R A H σ env/\fo env=some d/\Qc false X.K A H d Q) t σ H Q:=by
 obtain⟨env,B,A,j,ds,d,k,e1,e2,e3,e4,q⟩:=M;refine⟨env,B,A,j,k,e1,λv H1 s1 r1=>?_⟩;unfold MP at e2;split at e2
 .rename_i g ns l
  rw[BG,Bool.not_eq_true'] at e2;have hc:=eq_of_beq e2.1;subst hc;obtain⟨b,us,rfl,⟨hl,I,dx,h1,hc⟩,rs⟩:=Fq (show Rp X.K (av H1 A) _ v from r1);cases hC.eq hc;refine⟨b,dx,_,rfl,(Tc h1).2,VN e2.2,ht (k.mono s1) e3 λvs H2 s2 r2=>?_⟩;have rr:Vc X.K (av H2 A) (.box (.obj g ns) l::ds) (.ref b::vs):=Yr (Rp.mono (V0 s2) (show Rp X.K (av H1 A) _ _ from r1)) r2;rw[DU];exact⟨by rw[Yh rr];exact C.len _ d e4,_,A,d,k.mu.mono (s1.trans s2),rr,e4,λP H' s r n=>q P H' ((s1.trans s2).trans s) r λhf=>(n hf).mono (λ_ z=>(s1.trans s2).free z) λ_ z=>z⟩
 .cases e2
theorem OR(C:KL X.prog X.w X.K X.mg X.base k c x ps fr F)(hr:G' k X.A)(J:Wy false X o fo)(Y:Bp false X (e::es) fs)
  (ac:Z2 X.env e es:=by rfl) (ae:dO pos X.env es:=by rfl)
  (ht:eval (.Call (.Attribute o x aj) (e::es) [] pos) X.env=(do
   let d <- eval o X.env
   standAt aj.atName
   let (f,first) <- holding [d] (getMethod d x pl)
   callWith pos f first (backTo pos (starEach (e::es) X.env)) (backToKw pos (keywordEach [] X.env))):=by rfl):PE X (.Call (.Attribute o x aj) (e::es) [] pos) (NP X fr c x F fo fs):=by
 obtain⟨m,f,fd,i,h1,h2,h3,hb⟩:=C.met.ex;exact(VC (dvs:=[]) (ds:=[]) (E:=E0) J h2 h3 i hr hb .nil Lz Y ac ae ht).weak λσ H Q M=>VD (C:=C) h1 (λk e q=>⟨_,_,_,_,k,e,λvs H' s r=>q vs H' s r.rps⟩) M
theorem PU(C:KL X.prog X.w X.K X.mg X.base k c x ps fr F)(hr:G' k X.A)(J:Wy false X o fo)
  (ht:eval (.Call (.Attribute o x aj) [] [] pos) X.env=(do
   let d <- eval o X.env
   standAt aj.atName
   let (f,first) <- holding [d] (getMethod d x pl)
   callWith pos f first (backTo pos (starEach [] X.env)) (backToKw pos (keywordEach [] X.env))):=by rfl):PE X (.Call (.Attribute o x aj) [] [] pos) (NP X fr c x F fo Zb):=by
 obtain⟨m,f,fd,i,h1,h2,h3,hb⟩:=C.met.ex;refine(At (dvs:=[]) (ds:=[]) (E:=E0) J h2 h3 i hr hb .nil Lz ht).weak λσ H Q M=>VD (C:=C) h1 (λk e q=>?_) M
 cases e;exact q [] _ (Zv.refl _) Qh
def C9(c x:Str)(F:Z Dat->Rs)(fo:Zzu)(fs:Zzv):Ev->Cc Dat:=λenv=>(fo env).bind λd=>if MP c x d=true then(fs env).bind λds=>ND (F (d::ds)) else none
def Lv(c x:Str)(F:Z Dat->Rs)(fo:Zzu)(fs:Zzv):Ev->Cc (Z Dat):=λenv=>(fo env).bind λd=>if MP c x d=true then(fs env).bind λds=>O0 (F (d::ds)) else none
theorem PN(h:PE X e (NP X fr c x F fo fs)):Wy m X e (C9 c x F fo fs):=Wy.any (h.weak λσ H Q M=>by
 obtain⟨env,R,A,d,k,q1,q2⟩:=M;obtain⟨j,e1,e2⟩:=Zi q1;split at e2
 .rename_i J
  obtain⟨ds,e3,e4⟩:=Zi e2;exact⟨env,R,A,j,ds,d,k,e1,J,e3,Ob e4,λv H' s r _=>q2 v H' s r⟩
 .cases e2)
theorem OZ(h:PE X e (NP X true c x F fo fs)):KB X e (Lv c x F fo fs):=h.weak λσ H Q M=>by
 obtain⟨env,R,A,l,k,q1,q2⟩:=M;obtain⟨j,e1,e2⟩:=Zi q1;split at e2
 .rename_i J
  obtain⟨ds,e3,e4⟩:=Zi e2;refine⟨env,R,A,j,ds,_,k,e1,J,e3,bi e4,λv H' s r n=>?_⟩;obtain⟨i,f,z1,z2,G,T,I⟩:=n rfl;subst z1;exact q2 i f H' T s z2 G I
 .cases e2
def OB(f g:Zzu):Ev->Cc Bool:=λenv=>match f env,g env with
 | some (.int k),some (.box (.dic ks) _)=>some (!ks.contains k)
 | _,_=>none
def RT(f g:Zzu):Ev->Cc Dat:=λenv=>match f env,g env with
 | some (.box (.dic ks) ds),some (.int k)=>(ks.zip ds).lookup k
 | _,_=>none
theorem Nf:∀ {ks:Z Int} {ds:Z Dat} {us:Z V} {k:Int},Vc K H ds us->us.length=ks.length ->
  (Rz ((ks.map λk=>(Sum.inl k:U0)).zip us) (Sum.inl k)).isSome=ks.contains k/\∀ d,(ks.zip ds).lookup k=some d->∃ v,Rz ((ks.map λk=>(Sum.inl k:U0)).zip us) (Sum.inl k)=some v/\Rp K H d v
 | [],ds,us,k,_,_=>⟨rfl,λd h=>by cases h⟩
 | n::ks,[],us,k,r,hl=>by rw[Wx r] at hl;cases hl
 | n::ks,j::ds,us,k,r,hl=>by
  obtain⟨v,l,rfl,r1,r2⟩:=Zw r;obtain⟨i1,i2⟩:=Nf (k:=k) r2 (by simpa using hl);rw[BM,GN,List.contains_cons,GN];by_cases hk:n=k
  .subst hk
   rw[D9 rfl];refine⟨by simp,λd h=>?_⟩;rw[DI,CY] at h;cases h;exact⟨v,rfl,r1⟩
  .rw[Gh (λz=>hk (Sum.inl.inj z))]
   refine⟨by rw[i1,show(k==n)=false from beq_false_of_ne (BW hk)];rfl,λd h=>?_⟩;rw[DI,show(k==n)=false from beq_false_of_ne (BW hk)] at h;exact i2 d h
theorem UB(hu:X.A.units+1<cLine)(he:Wy true X e f)(J:Wy true X o g)(hm:behindInMarks .NotIn o=false:=by rfl):Cb X (.Compare e [.NotIn] [o] pos) (OB f g):=(UD (Pw hu he J) hm).weak λσ H Q M=>by
 obtain⟨env,R,A,d,k,e1,q⟩:=M;unfold OB at e1;split at e1
 .rename_i n ks ds h1 h2
  cases e1;refine⟨env,R,A,_,k,h1,λy H1 s1 r1=>⟨env,R,A,_,k.mono s1,h2,λv H2 s2 r2=>?_⟩⟩;obtain⟨a,us,e2,⟨z1,z2,G⟩,rs⟩:=Fq (Pk.box (Rm.pk r2));rw[(Rm.pk r1).int];refine⟨a,_,e2,K0.k (k:=.inl n) (Tc G).2,_,rfl,?_⟩;rw[(Nf rs z1).1];exact q H2 (s1.trans s2)
 .cases e1
theorem dz(hu:X.A.units+1<cLine)(J:Wy true X o f)(he:Wy true X e g)(hs:PY e):Wy m X (.Subscript o e pos) (RT f g):=Wy.any (PE.weak (XJ hu J he hs) λσ H Q M=>by
 obtain⟨env,R,A,d,k,e1,q⟩:=M;unfold RT at e1;split at e1
 .rename_i ks ds n h1 h2
  refine⟨env,R,A,_,k,h1,λv H1 s1 r1=>⟨env,R,A,_,k.mono s1,h2,λy H2 s2 r2=>?_⟩⟩;obtain⟨a,us,e2,⟨z1,z2,G⟩,rs⟩:=Fq (Rp.mono (V0 s2) (Pk.box (Rm.pk r1)));rw[(Rm.pk r2).int];obtain⟨P,hv,rv⟩:=(Nf rs z1).2 d e1;exact⟨a,P,e2,hv▸K0.k (k:=.inl n) (Tc G).2,q P H2 (s1.trans s2) rv⟩
 .cases e1)
theorem gS{b:Z C2}:KJ fr X b (λ_=>.no):=λaa s σ H D I ⟨env,B,A,k,ac,q⟩=>q.elim
end
variable{R:AS}{E:Zzu}{e3 o1 o3 o4:Cs}{x:A2}{p6 p7 p8 p9 pa pb pc:Pos}
abbrev ZF:Z Str:=["graph","gates","sides","known"]
abbrev ed:Z Str:=["graph","net","bench","pose"]
def Q8(g gs ss:Dat)(ks:Z Int)(b:Z Dat):Dat:=.box (.obj "Bench" ZF) [g,gs,ss,.box (.dic ks) b]
def OW(g ac gs ss a:Dat)(ks:Z Int)(b:Z Dat):Dat:=.box (.obj "Play" ed) [g,ac,Q8 g gs ss ks b,a]
theorem NY:2<=sizeLine:=by rw[FI];decide
def VW(k:A2)(H H':Hp):Prop:=∀ a o,H a=some o->a≠k->H' a=some o
structure KM (K:E') (R:AS) (H:Hp) (b k:Addr) (g gs ss:Dat):Prop where
 ex:∃ C dx c F l,H b=some (.ins C dx [("graph",c),("gates",F),("sides",l),("known",.ref k)])/\Te K "Bench" C/\Vc K (av H R) [g,gs,ss] [c,F,l]
 mu:Qe R H
 rb:R b=false
 rk:R k=false
 hk:H k=some (.dK [])
section
variable{b k:A2}{g gs ss:Dat}
theorem KM.ne(h:KM K R H b k g gs ss):b≠k:=λz=>by
 obtain⟨C,dx,c,F,l,h1,_⟩:=h.ex;have:=h.hk;rw[<- z,h1] at this;cases this
theorem KM.rp(h:KM K R H b k g gs ss):Rp K (av H R) (Q8 g gs ss [] []) (.ref b):=by
 obtain⟨C,dx,c,F,l,h1,h2,r⟩:=h.ex;obtain⟨v,r',e,r1,r⟩:=Zw r;cases e;obtain⟨v,r',e,r2,r⟩:=Zw r;cases e;obtain⟨v,r',e,r3,r⟩:=Zw r;cases e;exact Oa (us:=[c,F,l,.ref k]) ⟨rfl,C,dx,U1 h1 h.rb,h2⟩ (Yr r1 (Yr r2 (Yr r3 (Wu (Oa (us:=[]) ⟨rfl,DH _,U1 h.hk h.rk⟩ Qh)))))
theorem KM.mono(h:KM K R H b k g gs ss)(s:Zv H H'):KM K R H' b k g gs ss:=by
 obtain⟨C,dx,c,F,l,h1,h2,r⟩:=h.ex;exact⟨⟨C,dx,c,F,l,s _ _ h1,h2,r.mono (V0 s)⟩,h.mu.mono s,h.rb,h.rk,s _ _ h.hk⟩
end
def QX(K:E')(E:Zzu):Sp:=λvs H Q _=>∃ b k g gs ss code j R,vs=[.ref b,.int code]/\KM K R H b k g gs ss/\E [.fz (Q8 g gs ss [] []),.fz (.int code)]=some (.int j) /\
 ∀ H',VW k H H'->H' k=some (.dK [(.inl code,.int j)])->Q (.int j) H'
def RJ(K:E')(E:Zzu):Sp:=λvs H Q _=>∃ b k u st m code gs ss j R,vs=[.ref b]/\KM K R H b k (.tup [u,st,.int m,.int code]) gs ss/\E [.fz (Q8 (.tup [u,st,.int m,.int code]) gs ss [] []),.fz (.int code)]=some (.int j) /\
 ∀ t t1 H',VW k H H'->H' k=some (.dK [(.inl code,.int j)])->H t=none->H t1=none->H' t=some (.tup [.ref t1,.int j])->H' t1=some (.tup [.int m,.int code])->Q (.ref t) H'
def RY(K:E')(Fg Fs:Z Dat->Rs):Sp:=λvs H Q _=>∃ H0 x dx C c i g ac gs ss R,vs=[.ref x,c,i]/\H=Wq (Wq H0 dx (.own x)) x (.ins C dx [])/\Te K "Bench" C/\H0 x=none/\H0 dx=none/\dx≠x/\Qe R H0/\Vc K (av H0 R) [g,ac] [c,i]/\Fg [ac]=.ok gs/\Fs [ac]=.ok ss /\
 ∀ k H',Zv H0 H'->H0 k=none->KM K R H' x k g gs ss->(∃ F l,H' x=some (.ins C dx [("graph",c),("gates",F),("sides",l),("known",.ref k)])/\Vc K (av H' (ins R k)) [g,gs,ss] [c,F,l])->Q .non H'
def RO(K:E')(E:Zzu)(Fg Fs:Z Dat->Rs):Sp:=λvs H Q _=>∃ H0 x dx C c i u st m code ac gs ss j R,vs=[.ref x,c,i]/\H=Wq (Wq H0 dx (.own x)) x (.ins C dx [])/\Te K "Play" C/\H0 x=none/\H0 dx=none/\dx≠x/\Qe R H0/\Vc K (av H0 R) [.tup [u,st,.int m,.int code],ac] [c,i]/\Fg [ac]=.ok gs/\Fs [ac]=.ok ss /\
 E [.fz (Q8 (.tup [u,st,.int m,.int code]) gs ss [] []),.fz (.int code)]=some (.int j) /\
 ∀ H',Zv H0 H'->Rp K (av H' R) (OW (.tup [u,st,.int m,.int code]) ac gs ss (.tup [.tup [.int m,.int code],.int j]) [code] [.int j]) (.ref x)->Q .non H'
section
variable{c0 o o2 i i2 v:Cs}{p1 p3 p4 p5:Pos}
theorem bT(hu:X.A.units+1<cLine)(hN:X.N=(["self","code"]:Z Str))(Y:JD X.K "Bench" "known")(hc:Cb X c0 (OB (U 1) (Sj "Bench" "known" (U 0))))(J:PE X o (PQ X.K (Jx 0) "known"))(hi:PE X i (Jx 1))(hv:Wy false X v E)(W:PE X o2 (PQ X.K (Jx 0) "known"))(ar:PE X i2 (Jx 1))(hn:PY i2)
  (hs:swapsWith v (some (.Subscript o i p1)) p2.line X.env=pure false:=by rfl) {D:JF} {vs:Z V} {H:Hp} (h:QX X.K E vs H D.rt E0) :
  ∃ t,Ku X [.If c0 [.Assign [.Subscript o i p1] v p2] [] p3,.Return (some (.Subscript o2 i2 p4)) p5] t/\t D (IZ X.N vs) H:=by
 refine⟨_,Qu (VH hc (Dr (TB hu J hi hv hs)) VA) (Dr (Nj (XJ hu W ar hn))),?_⟩;obtain⟨b,k,g,gs,ss,code,j,R,rfl,B,hE,q⟩:=h;obtain⟨m,z1,z2,G⟩:=Y.ex;have ag:=B.ne;have kk:C' X.K ⟨H,R,true⟩ R H (IZ X.N [.ref b,.int code]) (Mo X.N.length [Q8 g gs ss [] [],.int code]):=Nn B.mu (Yr B.rp (Wu W7)) (by rw[hN];exact AT 2);rw[hN] at kk ⊢;have kk:C' X.K ⟨H,R,true⟩ R H [some (.ref b),some (.int code)] [.fz (Q8 g gs ss [] []),.fz (.int code)]:=kk;show OQ _ _ D [some (.ref b),some (.int code)] H;refine⟨_,_,_,true,kk,rfl,λH1 s1=>QE ?_⟩;refine⟨_,_,_,.int j,kk.mono s1,hE,λw H2 s2 r2=>?_⟩;have p:=B.mono (s1.trans s2);have e2:w=.int j:=(Rm.pk r2).int;subst e2;obtain⟨C,dx,c,F,l,h1,h2,r⟩:=p.ex;obtain rfl:=z1.eq h2;refine⟨.ref b,rfl,b,m,dx,_,.ref k,rfl,h1,z2,G,rfl,.int code,rfl,k,_,rfl,Bb.k (k:=.inl code) p.hk (by rw[FI];decide),?_⟩;have hb:Wq H2 k (.dK [(.inl code,.int j)]) b=some (.ins m dx [("graph",c),("gates",F),("sides",l),("known",.ref k)]):=by rw[Zp ag];exact h1
 refine⟨.ref b,rfl,b,m,dx,_,.ref k,rfl,hb,z2,G,rfl,.int code,rfl,k,.int j,rfl,?_,q _ (λa o e n=>?_) Y5⟩
 .have:=K0.k (H:=Wq H2 k (.dK [(.inl code,.int j)])) (a:=k) (k:=.inl code) Y5
  rwa [D9 rfl] at this
 .rw[Zp n]
  exact(s1.trans s2) a o e
theorem cz{S x2}(hN:X.N=(["self"]:Z Str))(M:KP X.prog X.w X.K X.mg X.base k "Bench" "levels_at" ["self","code"] (QX X.K E))(hr:G' k X.A)
  (h1:Wy false X e1 (L Yk (Sj "Bench" "graph" (U 0)) (dC (.int 2)))) (h2:Wy false X e2 (L Yk (Sj "Bench" "graph" (U 0)) (dC (.int 3)))) (h3:Wy false X e3 (L Yk (Sj "Bench" "graph" (U 0)) (dC (.int 3)))) (J:PE X o (Jx 0))
  (s1:starEach [e1,e2] X.env=(false,eval e1 X.env)::starEach [e2] X.env:=by rfl) (s2:starEach [e2] X.env=(false,eval e2 X.env)::starEach [] X.env:=by rfl)
  (P:starEach [.Tuple [e1,e2] S p1,.Call (.Attribute o "levels_at" aj) [e3] [] p2] X.env=(false,eval (.Tuple [e1,e2] S p1) X.env)::starEach [.Call (.Attribute o "levels_at" aj) [e3] [] p2] X.env:=by rfl)
  (s4:starEach [.Call (.Attribute o "levels_at" aj) [e3] [] p2] X.env=(false,eval (.Call (.Attribute o "levels_at" aj) [e3] [] p2) X.env)::starEach [] X.env:=by rfl)
  (ac:starEach [e3] X.env=(false,eval e3 X.env)::starEach [] X.env:=by rfl) (ae:(backTo p2 (starEach [] X.env)).any (·.1)=false:=by rfl)
  (ht:eval (.Call (.Attribute o "levels_at" aj) [e3] [] p2) X.env=(do
   let d <- eval o X.env
   standAt aj.atName
   let (f,first) <- holding [d] (getMethod d "levels_at" pl)
   callWith p2 f first (backTo p2 (starEach [e3] X.env)) (backToKw p2 (keywordEach [] X.env))):=by rfl)
  {D:JF} {vs:Z V} {H:Hp} (h:RJ X.K E vs H D.rt E0) :
  ∃ t,Ku X [.Return (some (.Tuple [.Tuple [e1,e2] S p1,.Call (.Attribute o "levels_at" aj) [e3] [] p2] x2 p3)) p4] t/\t D (IZ X.N vs) H:=by
 obtain⟨C,f,fd,i,z1,z2,G,hb⟩:=M.ex;refine⟨_,Dr (Nj (QR (Vq (QR (Vq h1 (Vq h2 Q4 s2) s1)) (Vq (VC (dvs:=[]) (ds:=[]) (E:=E0) J z2 G i hr hb .nil Lz (Vq h3 Q4 ac) ac ae ht) Q4 s4) P))),?_⟩;obtain⟨b,kd,u,st,m,code,gs,ss,j,R,rfl,B,hE,q⟩:=h;have kk:C' X.K ⟨H,R,true⟩ R H (IZ X.N [.ref b]) (Mo X.N.length [Q8 (.tup [u,st,.int m,.int code]) gs ss [] []]):=Nn B.mu (Wu B.rp) (by rw[hN];exact AT 1);rw[hN] at kk ⊢;have kk:C' X.K ⟨H,R,true⟩ R H [some (.ref b)] [.fz (Q8 (.tup [u,st,.int m,.int code]) gs ss [] [])]:=kk;show TM _ D [some (.ref b)] H;refine⟨_,_,_,.int m,kk,rfl,λw1 H1 q1 r1=>⟨_,_,_,.int code,kk.mono q1,rfl,λw2 H2 q2 r2=>⟨NY,λt1 aa=>?_⟩⟩⟩;rw[(Rm.pk r1).int,(Rm.pk r2).int];have sm:=(q1.trans q2).trans (Zv.new (o:=.tup [.int m,.int code]) aa);have p:=B.mono sm;obtain⟨I,dx,c,F,l,W,g2,r⟩:=p.ex;cases z1.eq g2;refine⟨.ref b,rfl,b,dx,_,rfl,W,rfl,_,_,_,.int code,kk.mono sm,rfl,λw3 H3 q3 r3=>?_⟩;rw[(Rm.pk r3).int];refine⟨b,kd,_,gs,ss,code,j,R,rfl,p.mono q3,hE,λH4 v e4=>⟨NY,λt ht=>?_⟩⟩;have s:H3 t1=some (.tup [.int m,.int code]):=q3 _ _ Y5;have n1:t1≠kd:=λz=>by have:=(p.mono q3).hk;rw[<- z,s] at this;cases this
 have x:=v t1 _ s n1;have Q:t1≠t:=λz=>by rw[<- z,x] at ht;cases ht
 have y:kd≠t:=λz=>by rw[<- z,e4] at ht;cases ht
 have g:∀ a o,H a=some o->a≠kd->H4 a=some o:=λa o e n=>v a o ((sm.trans q3) a o e) n
 refine q t t1 _ (λa o e n=>?_) (by rw[Zp y];exact e4) ?_ ((q1.trans q2).free aa) Y5 (by rw[Zp Q];exact x)
 .have:a≠t:=λz=>by rw[<- z,g a o e n] at ht;cases ht
  rw[Zp this];exact g a o e n
 .cases Y:H t with
  | none=>rfl
  | some o =>
   by_cases e:t=kd
   .exact absurd e.symm y
   .rw[g t o Y e] at ht;cases ht
theorem Uw{o:HO}(s:Zv H0 H)(hx:H0 x=none):Zv H0 (Wq H x o):=λa o' e=>by
 have:a≠x:=λz=>by rw[z,hx] at e;cases e
 rw[Zp this];exact s a o' e
theorem Kw{o:HO}:Zv (av H (ins R x)) (av (Wq H x o) (ins R x)):=λa o' e=>by
 obtain⟨h1,h2⟩:=Tc e;have:a≠x:=λz=>by rw[z,Jn] at h1;cases h1
 exact U1 (by rw[Zp this];exact h2) h1
theorem L6(s:Zv H0 H)(hx:H0 x=none):Zv (av H0 R) (av H (ins R x)):=λa o e=>by
 obtain⟨h1,h2⟩:=Tc e;have:a≠x:=λz=>by rw[z,hx] at h2;cases h2
 exact U1 (s a o h2) (RF h1 this)
theorem Xp{C:A2}{fs:Z (Str×V)}(mu:Qe R H0)(s:Zv H0 H)(h:H x=some (.ins C dx fs)):Qe (ins R x) H:=λa q=>(Gf q).elim (mu.mono s a) λz=>by rw[z,h];trivial
theorem f5{pd:Pos}(hN:X.N=(["self","graph","net"]:Z Str))(E:JQ X.prog X.w X.K X.mg X.base k "gates_in" ["net"] fr Fg)(M:JQ X.prog X.w X.K X.mg X.base k "sides_of" ["net"] aL Fs)(hr:G' k X.A)
  (a1:JD X.K "Bench" "graph") (a2:JD X.K "Bench" "gates") (a3:JD X.K "Bench" "sides") (a4:JD X.K "Bench" "known") (q1:PE X o1 (Jx 0)) (q2:PE X o2 (Jx 0)) (q3:PE X o3 (Jx 0)) (q4:PE X o4 (Jx 0)) (F:PE X e1 (Jx 1)) (l:PE X e2 (Jx 2)) (D:PE X e3 (Jx 2))
  (g2:Gl X "gates_in" := by rfl) (g3:Gl X "sides_of" := by rfl) (y2:starEach [e2] X.env=(false,eval e2 X.env)::starEach [] X.env:=by rfl) (y3:starEach [e3] X.env=(false,eval e3 X.env)::starEach [] X.env:=by rfl) (z2:(backTo p5 (starEach [] X.env)).any (·.1)=false:=by rfl) (G:(backTo p9 (starEach [] X.env)).any (·.1)=false:=by rfl)
  (w1:swapsWith e1 (some (.Attribute o1 "graph" p1)) p2.line X.env=pure false:=by rfl) (w2:swapsWith (.Call (.Name "gates_in" p4) [e2] [] p5) (some (.Attribute o2 "gates" p3)) p6.line X.env=pure false:=by rfl)
  (w3:swapsWith (.Call (.Name "sides_of" p8) [e3] [] p9) (some (.Attribute o3 "sides" p7)) pa.line X.env=pure false:=by rfl) (w4:swapsWith (.Dict [] [] pb) (some (.Attribute o4 "known" pc)) pd.line X.env=pure false:=by rfl)
  {Q:VK} {bk ct:St->Hp->Prop} {vs:Z V} {H:Hp} (h:RY X.K Fg Fs vs H Q E0) :
  ∃ t,Ku X [.Assign [.Attribute o1 "graph" p1] e1 p2,.Assign [.Attribute o2 "gates" p3] (.Call (.Name "gates_in" p4) [e2] [] p5) p6,.Assign [.Attribute o3 "sides" p7] (.Call (.Name "sides_of" p8) [e3] [] p9) pa,.Assign [.Attribute o4 "known" pc] (.Dict [] [] pb) pd] t/\t ⟨λ_ H'=>Q .non H',Q,bk,ct⟩ (IZ X.N vs) H:=by
 refine⟨_,Qu (D0 q1 F w1) (Qu (D0 q2 (RE E.cal hr (Vq l Q4 y2) g2 (by decide) y2 z2) w2) (Qu (D0 q3 (RE M.cal hr (Vq D Q4 y3) g3 (by decide) y3 G) w3) (Dr (D0 q4 iX w4)))),?_⟩;obtain⟨H0,x,dx,C,c,i,g,ac,gs,ss,R,rfl,rfl,hc,hx,v,ag,mu,r,eg,es,q⟩:=h;obtain⟨C1,c1,cl,b1⟩:=a1.ex;obtain rfl:=hc.eq c1;obtain⟨C1,c1,_,b2⟩:=a2.ex;obtain rfl:=hc.eq c1;obtain⟨C1,c1,_,I⟩:=a3.ex;obtain rfl:=hc.eq c1;obtain⟨C1,c1,_,b4⟩:=a4.ex;obtain rfl:=hc.eq c1;obtain⟨_,_,e,rg,r⟩:=Zw r;cases e;obtain⟨_,_,e,rn,r⟩:=Zw r;cases e;rw[hN];show OQ _ _ _ [some (.ref x),some c,some i] _;have sA:Zv H0 (Wq (Wq H0 dx (.own x)) x (.ins C dx [])):=Uw (Zv.new v) hx;refine⟨c,rfl,.ref x,rfl,x,C,dx,[],rfl,Y5,cl,b1,by decide,?_⟩;generalize s:Wq (Wq (Wq H0 dx (.own x)) x (.ins C dx [])) x (.ins C dx (Jb "graph" c []))=H1;have s1:Zv H0 H1:=s▸Uw sA hx;have S:H1 x=some (.ins C dx [("graph",c)]):=s▸Y5;refine⟨i,rfl,rfl,[ac],ins R x,gs,Xp mu s1 S,Wu (rn.mono (L6 s1 hx)),eg,λp H2 s2 r2 _=>⟨.ref x,rfl,x,C,dx,_,rfl,s2 _ _ S,cl,b2,by simp,?_⟩⟩;generalize j:Wq H2 x (.ins C dx (Jb "gates" p [("graph",c)]))=H3;have P:Zv H0 H3:=j▸Uw (s1.trans s2) hx;have n:H3 x=some (.ins C dx [("graph",c),("gates",p)]):=j▸Y5;have r3:Rp X.K (av H3 (ins R x)) gs p:=j▸r2.mono Kw;refine⟨i,rfl,rfl,[ac],ins R x,ss,Xp mu P n,Wu (rn.mono (L6 P hx)),es,λJ H4 s4 r4 _=>⟨.ref x,rfl,x,C,dx,_,rfl,s4 _ _ n,cl,I,by simp,?_⟩⟩;generalize d:Wq H4 x (.ins C dx (Jb "sides" J [("graph",c),("gates",p)]))=H5;have s5:Zv H0 H5:=d▸Uw (P.trans s4) hx;have u:H5 x=some (.ins C dx [("graph",c),("gates",p),("sides",J)]):=d▸Y5;have r5:Rp X.K (av H5 (ins R x)) gs p:=d▸(r3.mono (V0 s4)).mono Kw;have r6:Rp X.K (av H5 (ins R x)) ss J:=d▸r4.mono Kw;intro kd b;have B:kd≠x:=λz=>by rw[z,u] at b;cases b
 have k0:H0 kd=none:=s5.free b;refine⟨.ref x,rfl,x,C,dx,_,rfl,by rw[Zp (BW B)];exact u,cl,b4,by simp,?_⟩;generalize f:Wq (Wq H5 kd (.dK [])) x (.ins C dx (Jb "known" (.ref kd) [("graph",c),("gates",p),("sides",J)]))=H7;have s7:Zv H0 H7:=f▸Uw (s5.trans (Zv.new b)) hx;have y:H7 x=some (.ins C dx [("graph",c),("gates",p),("sides",J),("known",.ref kd)]):=f▸Y5;have T:H7 kd=some (.dK []):=by rw[<- f,Zp B];exact Y5
 have m:Zv (av H5 (ins R x)) (av H7 (ins R kd)):=λa o e=>by
  obtain⟨h1,h2⟩:=Tc e;have ax:a≠x:=λz=>by rw[z,Jn] at h1;cases h1
  have ak:a≠kd:=λz=>by rw[z,b] at h2;cases h2
  refine U1 (by rw[<- f,Zp ax,Zp ak];exact h2) (RF ?_ ak);cases z:R a with
  | false=>rfl
  | true=>rw[Q5 z] at h1;cases h1
 have rr:Vc X.K (av H7 (ins R kd)) [g,gs,ss] [c,p,J]:=Yr (rg.mono (L6 s7 k0)) (Yr (r5.mono m) (Wu (r6.mono m)));refine q kd H7 s7 k0 ⟨⟨C,dx,c,p,J,y,hc,rr.mono (Qm λa Y=>Q5 Y)⟩,mu.mono s7,mu.new hx,mu.new k0,T⟩ ⟨p,J,y,rr⟩
structure OC (P:Program) (w:World) (K:E') (mg:JG) (base:Heap) (k:Nat) (c:Str) (ps:List Str) (sp:Sp):Prop where
 ex:∃ C f fd,I' P w K mg base A7 k f fd ps sp/\Te K c C/\JO K C/\Mk K C f/\mg c=some (.ref C)/\Sb K fd ps []
theorem gc{ob p J:Cs}(hN:X.N=(["self","graph","net"]:Z Str))(MB:OC X.prog X.w X.K X.mg X.base k "Bench" ["self","graph","net"] (RY X.K Fg Fs))(MF:KP X.prog X.w X.K X.mg X.base k "Bench" "first" ["self"] (RJ X.K E))(hr:G' (k+1) X.A)(M:G' k X.A)
  (a1:JD X.K "Play" "graph") (a2:JD X.K "Play" "net") (a3:JD X.K "Play" "bench") (a4:JD X.K "Play" "pose") (q1:PE X o1 (Jx 0)) (q2:PE X o2 (Jx 0)) (q3:PE X o3 (Jx 0)) (q4:PE X o4 (Jx 0)) (F:PE X e1 (Jx 1)) (l:PE X e2 (Jx 2)) (D:PE X p (Jx 1)) (T:PE X J (Jx 2)) (y:PE X ob (PQ X.K (Jx 0) "bench"))
  (W:Gl X "Bench" := by rfl) (y1:starEach [p,J] X.env=(false,eval p X.env)::starEach [J] X.env:=by rfl) (y2:starEach [J] X.env=(false,eval J X.env)::starEach [] X.env:=by rfl) (z1:(backTo p7 (starEach [J] X.env)).any (·.1)=false:=by rfl)
  (ht:eval (.Call (.Attribute ob "first" p9) [] [] pa) X.env=(do
   let d <- eval ob X.env
   standAt p9.atName
   let (f,first) <- holding [d] (getMethod d "first" pl)
   callWith pa f first (backTo pa (starEach [] X.env)) (backToKw pa (keywordEach [] X.env))):=by rfl)
  (w1:swapsWith e1 (some (.Attribute o1 "graph" p1)) p2.line X.env=pure false:=by rfl) (w2:swapsWith e2 (some (.Attribute o2 "net" p3)) p4.line X.env=pure false:=by rfl)
  (w3:swapsWith (.Call (.Name "Bench" p6) [p,J] [] p7) (some (.Attribute o3 "bench" p5)) p8.line X.env=pure false:=by rfl) (w4:swapsWith (.Call (.Attribute ob "first" p9) [] [] pa) (some (.Attribute o4 "pose" pb)) pc.line X.env=pure false:=by rfl)
  {Q:VK} {bk ct:St->Hp->Prop} {vs:Z V} {H:Hp} (h:RO X.K E Fg Fs vs H Q E0) :
  ∃ t,Ku X [.Assign [.Attribute o1 "graph" p1] e1 p2,.Assign [.Attribute o2 "net" p3] e2 p4,.Assign [.Attribute o3 "bench" p5] (.Call (.Name "Bench" p6) [p,J] [] p7) p8,.Assign [.Attribute o4 "pose" pb] (.Call (.Attribute ob "first" p9) [] [] pa) pc] t/\t ⟨λ_ H'=>Q .non H',Q,bk,ct⟩ (IZ X.N vs) H:=by
 obtain⟨CB,fB,fdB,FB,cB,clB,am,mB,bB⟩:=MB.ex;obtain⟨CF,fF,fdF,FF,cF,ao,mF,bF⟩:=MF.ex;obtain rfl:=cB.eq cF;refine⟨_,Qu (D0 q1 F w1) (Qu (D0 q2 l w2) (Qu (D0 q3 (UU (dvs:=[]) (ds:=[]) (E:=E0) am FB hr W mB bB .nil Lz (Vq D (Vq T Q4 y2) y1) (by decide) y1 z1) w3) (Dr (D0 q4 (At (dvs:=[]) (ds:=[]) (E:=E0) y ao mF FF M bF .nil Lz ht) w4)))),?_⟩;obtain⟨H0,x,dx,C,c,i,u,st,m,code,ac,gs,ss,j,R,rfl,rfl,hc,hx,v,ag,mu,r,eg,es,hE,q⟩:=h;obtain⟨C1,c1,cl,b1⟩:=a1.ex;obtain rfl:=hc.eq c1;obtain⟨C1,c1,_,b2⟩:=a2.ex;obtain rfl:=hc.eq c1;obtain⟨C1,c1,_,I⟩:=a3.ex;obtain rfl:=hc.eq c1;obtain⟨C1,c1,_,b4⟩:=a4.ex;obtain rfl:=hc.eq c1;rw[hN];show OQ _ _ _ [some (.ref x),some c,some i] _;have sA:Zv H0 (Wq (Wq H0 dx (.own x)) x (.ins C dx [])):=Uw (Zv.new v) hx;refine⟨c,rfl,.ref x,rfl,x,C,dx,[],rfl,Y5,cl,b1,by decide,?_⟩;generalize s:Wq (Wq (Wq H0 dx (.own x)) x (.ins C dx [])) x (.ins C dx (Jb "graph" c []))=H1;have s1:Zv H0 H1:=s▸Uw sA hx;have S:H1 x=some (.ins C dx [("graph",c)]):=s▸Y5;refine⟨i,rfl,.ref x,rfl,x,C,dx,_,rfl,S,cl,b2,by simp,?_⟩;generalize ai:Wq H1 x (.ins C dx (Jb "net" i [("graph",c)]))=H2;have s2:Zv H0 H2:=ai▸Uw s1 hx;have x2:H2 x=some (.ins C dx [("graph",c),("net",i)]):=ai▸Y5;refine⟨c,rfl,i,rfl,λb db hb g ap=>?_⟩;have ah:b≠x:=λz=>by rw[z,x2] at hb;cases hb
 refine⟨H2,b,db,CB,c,i,_,ac,gs,ss,ins R x,rfl,rfl,cB,hb,g,ap,Xp mu s2 x2,r.mono (L6 s2 hx),eg,es,λkd H3 P hk B ⟨W,g2,xb,rr⟩=>⟨rfl,.ref x,rfl,x,C,dx,_,rfl,P _ _ x2,cl,I,by simp,?_⟩⟩;have ae:kd≠x:=λz=>by rw[z,x2] at hk;cases hk
 generalize n:Wq H3 x (.ins C dx (Jb "bench" (.ref b) [("graph",c),("net",i)]))=H4;have s4:Zv H0 H4:=n▸Uw (s2.trans P) hx;have x4:H4 x=some (.ins C dx [("graph",c),("net",i),("bench",.ref b)]):=n▸Y5;have af:H4 b=some (.ins CB db [("graph",c),("gates",W),("sides",g2),("known",.ref kd)]):=by rw[<- n,Zp ah];exact xb
 have B4:KM X.K (ins R x) H4 b kd (.tup [u,st,.int m,.int code]) gs ss:=⟨⟨CB,db,c,W,g2,af,cB,n▸(rr.mono (Qm λa Y=>Q5 Y)).mono Kw⟩,Xp mu s4 x4,B.rb,B.rk,by rw[<- n,Zp ae];exact B.hk⟩;refine⟨.ref x,rfl,x,C,dx,_,.ref b,rfl,x4,cl,I,rfl,b,db,_,rfl,af,rfl,b,kd,u,st,m,code,gs,ss,j,ins R x,rfl,B4,hE,λt t1 H5 kp aq ht aa e5 ar=>⟨.ref x,rfl,x,C,dx,_,rfl,kp x _ x4 (BW ae),cl,b4,by simp,?_⟩⟩;generalize G:Wq H5 x (.ins C dx (Jb "pose" (.ref t) [("graph",c),("net",i),("bench",.ref b)]))=H6;have au:t≠x:=λz=>by rw[z,x4] at ht;cases ht
 have aj:t1≠x:=λz=>by rw[z,x4] at aa;cases aa
 have al:H0 kd=none:=s2.free hk;have up:∀ a o,H4 a=some o->a≠x->a≠kd->H6 a=some o:=λa o e n1 n2=>by rw[<- G,Zp n1];exact kp a o e n2
 have s6:Zv H0 H6:=λa o e=>up a o (s4 a o e) (λz=>by rw[z,hx] at e;cases e) (λz=>by rw[z,al] at e;cases e)
 have x6:H6 x=some (.ins C dx [("graph",c),("net",i),("bench",.ref b),("pose",.ref t)]):=G▸Y5;have nR:∀ {a},H4 a=none->R a=false:=λh=>(mu.mono s4).new h
 have Rb:R b=false:=mu.new (s2.free hb);have aw:Zv (av H3 (ins (ins R x) kd)) (av H6 R):=λa o e=>by
  obtain⟨h1,h2⟩:=Tc e;have ak:a≠kd:=λz=>by rw[z,Jn] at h1;cases h1
  have ax:a≠x:=λz=>by rw[z,Q5 Jn] at h1;cases h1
  refine U1 (up a o (by rw[<- n,Zp ax];exact h2) ax ak) ?_;cases z:R a with
  | false=>rfl
  | true=>rw[Q5 (Q5 z)] at h1;cases h1
 obtain⟨_,_,e,c1,rr⟩:=Zw (rr.mono aw);cases e;obtain⟨_,_,e,c2,rr⟩:=Zw rr;cases e;obtain⟨_,_,e,c3,rr⟩:=Zw rr;cases e;obtain⟨_,_,e,rg,rn⟩:=Zw (r.mono (V0 s6));cases e;refine q H6 s6 (Oa (us:=[c,i,.ref b,.ref t]) ⟨rfl,C,dx,U1 x6 (mu.new hx),hc⟩ (Yr rg ?_));obtain⟨_,_,e,rn,_⟩:=Zw rn;cases e;refine Yr rn (Yr (Oa (us:=[c,W,g2,.ref kd]) ⟨rfl,CB,db,U1 (up b _ af ah B4.ne) Rb,cB⟩ (Yr c1 (Yr c2 (Yr c3 (Wu (Oa (us:=[.int j]) ⟨rfl,BI (by decide:1<=2) NY,U1 (by rw[<- G,Zp ae];exact aq) (mu.new al)⟩ (Wu W7))))))) (Wu ?_));exact Nh NY (.inl (U1 (by rw[<- G,Zp au];exact e5) (nR ht))) (Yr (Nh NY (.inl (U1 (by rw[<- G,Zp aj];exact ar) (nR aa))) (Yr W7 (Wu W7))) (Wu W7))
def MM(E:Zzu)(Fg Fs:Z Dat->Rs):Z Dat->Rs
 | [.tup [u,st,.int m,.int code],ac]=>(match Fg [ac],Fs [ac] with
  | .ok gs,.ok ss=>(match E [.fz (Q8 (.tup [u,st,.int m,.int code]) gs ss [] []),.fz (.int code)] with
   | some (.int j)=>.ok (OW (.tup [u,st,.int m,.int code]) ac gs ss (.tup [.tup [.int m,.int code],.int j]) [code] [.int j])
   | _=>.no)
  | _,_=>.no)
 | _=>.no
theorem bX{d:Dat}(h:MM E Fg Fs ds=.ok d):∃ u st m code ac gs ss j,ds=[.tup [u,st,.int m,.int code],ac]/\Fg [ac]=.ok gs/\Fs [ac]=.ok ss/\E [.fz (Q8 (.tup [u,st,.int m,.int code]) gs ss [] []),.fz (.int code)]=some (.int j)/\d=OW (.tup [u,st,.int m,.int code]) ac gs ss (.tup [.tup [.int m,.int code],.int j]) [code] [.int j]:=by
 unfold MM at h;split at h
 .rename_i u st m code ac
  split at h
  .rename_i gs ss h1 h2
   split at h
   .rename_i j h3
    cases h;exact⟨u,st,m,code,ac,gs,ss,j,rfl,h1,h2,h3,rfl⟩
   .cases h
  .cases h
 .cases h
theorem cM{m:Bool}(M:OC X.prog X.w X.K X.mg X.base k "Play" ["self","graph","net"] (RO X.K E Fg Fs))(hr:G' (k+1) X.A)(Y:Bp false X [e1,e2] fs)
  (S:Gl X "Play" := by rfl) (he:starEach [e1,e2] X.env=(false,eval e1 X.env)::starEach [e2] X.env:=by rfl) (ae:(backTo pos (starEach [e2] X.env)).any (·.1)=false:=by rfl):Wy m X (.Call (.Name "Play" p) [e1,e2] [] pos) (Yj (MM E Fg Fs) fs):=by
 obtain⟨C,f,fd,F,hc,cl,mk,hm,hb⟩:=M.ex;refine Wy.any ((UU (dvs:=[]) (ds:=[]) (E:=E0) mk F hr S hm hb .nil Lz Y (by decide) he ae).weak λσ H Q ⟨env,R,A,d,kk,q1,q2⟩=>?_);obtain⟨ds,z1,z2⟩:=Zi q1;obtain⟨u,st,m,code,ac,gs,ss,j,rfl,h1,h2,h3,rfl⟩:=bX (Ob z2);refine⟨env,R,A,_,kk,z1,λvs H1 s1 rs x dx hx v ag=>?_⟩;have rr:=rs.rps;obtain⟨c,_,rfl,r1,r2⟩:=Zw rr;obtain⟨i,_,rfl,r2,r3⟩:=Zw r2;rw[Wx r3];exact⟨H1,x,dx,C,c,i,u,st,m,code,ac,gs,ss,j,A,rfl,rfl,hc,hx,v,ag,kk.mu.mono s1,Yr r1 (Wu r2),h1,h2,h3,λH' s r=>⟨rfl,q2 (.ref x) H' (s1.trans s) r⟩⟩
end
structure LG (K:E') (mg:JG) (c q:Str) (st:Stmt):Prop where
 ex:∃ C f fd,KF K "__init__" q st f fd/\Te K c C/\JO K C/\Mk K C f/\mg c=some (.ref C)
theorem WL{w:D2}{q:Str}{ps:Z Str}(D:LG K mg c q st)(S:FnScope N ps (Z9 st))
  (b:∀ (kV aw pm:A1) (an:Cc A2) (ai ct:A1) (us:Z A1),us.length=ps.length->bindArgs (PySem.W.fnOf "__init__" q (U3 st) (Wb st) (Z9 st) .none kV aw pm an ai ct) ⟨us,[]⟩=pure (ps.zip us))
  (len:∀ vs H Q E,sp vs H Q E->vs.length=ps.length)
  (hb:∀ (f:A2) (ai:A1) (A:B2) (outer:Z IY) (s:A4) (H:Hp) (vs:Z V) (Q:VK) (E:XK),G' k (A.deeper (envOfC q (Z9 st) s.heap.objs.size f ai))->sp vs H Q E ->
   ∃ t,Ku (K5 A7 P w K mg base N q (Z9 st) f ai A outer s H E).nox (Wb st) t/\t (JF.mk (λ_ H'=>Q .non H') Q (λ_ _=>False) (λ_ _=>False)) (IZ N vs) H):OC P w K mg base (k+1) c ps sp:=by
 obtain⟨C,f,fd,F,h1,h2,h3,h4⟩:=D.ex;exact⟨C,f,fd,F.ok S len λai A outer s H vs Q E hr h=>hb f ai A outer s H vs Q E hr h,h1,h2,h3,h4,F.binds b⟩
end L2
variable{N:L2.Ev->Prop}{x:L2.Dat}{l':Z Nat}{sp:Nat}{gs:Z (Z (Nat×Nat))}
namespace L2
abbrev Bd.T(b:Bd):=KL b.P b.w b.K b.mg b.base
abbrev Bd.S(b:Bd):=KP b.P b.w b.K b.mg b.base
abbrev Bd.C(b:Bd):=OC b.P b.w b.K b.mg b.base
end L2
variable{T:String}
namespace L2
open PySem PySem.Spec PyProof.Rows
def MV(fs:Zzv):Ev->Cc (Z Dat):=λenv=>match fs env with
 | some [.int a,.int b]=>if 0<=a/\a<=1000/\0<=b/\b<=1000 then some (((List.range (b - a).toNat).map λ(i:Nat)=>a+(i:Int)).map .int) else none
 | _=>none
theorem C4{a b:Cs}{p1 p3 q1 q3:Pos}(m:Gl X "list")(u:X.mg "list" = none)(x:Gl X "range")(z:X.mg "range" = none)(Y:Bp true X [a,b] fs)(hc:X.calm=true:=by rfl)
  (B:bootBuiltins "list" = some (.type "list"):=by ext)
  (h:starEach [.Call (.Name "range" p3) [a,b] [] q3] X.env=[(false,eval (.Call (.Name "range" p3) [a,b] [] q3) X.env)]:=by rfl)
  (hs:starEach [a,b] X.env=[(false,eval a X.env),(false,eval b X.env)]:=by rfl) (l:starEach [b] X.env=[(false,eval b X.env)]:=by rfl) :
  KB X (.Call (.Name "list" p1) [.Call (.Name "range" p3) [a,b] [] q3] [] q1) (MV fs):=by
 intro aa s σ H Q I ⟨env,R,A,ds,k,e1,q⟩;unfold MV at e1;split at e1
 case h_2=>cases e1
 rename_i i j E;split at e1
 case isFalse=>cases e1
 rename_i hn;obtain⟨n0,n1,n2,e⟩:=hn;cases e1;refine Call_ (S0 I m u B (callWith_type1 ?_ h rfl));rw[h];refine Calls.spliced_cons ?_;refine Call_ (S0 I x z boot_range (callWith_type1 (Vy (Y q3 aa s σ H (λvs H1=>Zv H H1/\vs=[.int i,.int j]) I ⟨env,R,A,[.int i,.int j],k,E,λvs H1 s1 r1=>⟨s1,?_⟩⟩) λus s1 ⟨vs,H1,G,r1,sm,y⟩=>?_) (by rw[hs,l]) (by rw[l];rfl)))
 .obtain⟨v,_,rfl,p1,r1⟩:=r1
  obtain⟨w,_,rfl,p2,r1⟩:=r1;rw[show _=[] from r1,(Rm.pk p1).int,(Rm.pk p2).int]
 subst y;cases r1 with
 | cons r rr =>
 cases rr with
 | cons r' rr =>
 cases rr;obtain⟨t,rfl⟩:=r;obtain⟨t',rfl⟩:=r';refine call_range_2 ?_;refine Calls.spliced_nil ?_;have D:(j - i).toNat<=1000:=by lia
 refine call_list_range (n:=(j - i).toNat) (G.ok.hd hc) (IsRange.new ..) (small_one (by lia) (by lia) (by lia) (by lia)) (by rw[rangeSize_one];split<;>lia) (BI D (by decide)) λh' tk c g hk hl hi=>?_
 have kp:∀ b o,s1.heap.get? b=some o->h'.get? b=some o:=λb o T=>hk b o (AD _ T)
 have rv:Yl (((List.range (j - i).toNat).map λ(n:Nat)=>i+(n:Int)).map V.int) c.toList:=by
  refine Yl.ofInts (by rw[FJ,hi.1,AB,CQ]) λn k C=>?_
  rw[AQ] at C;obtain⟨p,e',rfl⟩:=map_some C;have ai:n<(j - i).toNat:=by have:=(AE.mp e').1;rwa [CQ] at this
  rw[EX ai] at e';cases e';have d:n<c.size:=by rw[hi.1];exact ai
  obtain⟨t,et⟩:=hi.2 n c[n] (by simp[d]);refine⟨t,?_⟩;rw[Array.getElem?_toList,Array.getElem?_eq_getElem d,et];congr 2
  lia
 have hsz:(((List.range (j - i).toNat).map λ(n:Nat)=>i+(n:Int)).map V.int).length<=sizeLine:=by rw[AB,AB,CQ];exact BI D (by decide)
 have f:s1.heap.objs.size<=(s1.heap.push { cls:=.type "range",data:=.fields #[.int i t,.int j t',.int 1 s1.toks] }).objs.size:=by rw[YX];exact FG _
 generalize hS:(s1.heap.push { cls:=.type "range",data:=.fields #[.int i t,.int j t',.int 1 s1.toks] }).objs.size=S at hl f;have I2:D' X aa σ (Wq H1 S (.lst (((List.range (j - i).toNat).map λ(n:Nat)=>i+(n:Int)).map V.int))) { s1 with heap:=h',toks:=tk }:=G.laid kp f (show V9 X.prog X.w _ h' _ (.lst _) from⟨hsz,c.toList,g,rv,by rw[Array.toArray_toList];exact hl⟩);exact⟨.ref S,_,I2,rfl,(q.mono sm).at (vs:=((List.range (j - i).toNat).map λ(n:Nat)=>i+(n:Int)).map V.int) (by rw[AB];rw[AB] at hsz;exact hsz) (D6 _) _ (G.hok.fresh f)⟩
end L2
namespace L2
open PySem PySem.Spec PyProof.Rows PySem.W
section
variable{K:Frag}{C f:A2}{m q:Str}{kV:A1}
def MO(K:Frag)(C:A2)(m q:Str)(st:C2):Prop:=∃ f fd,KF K m q st f fd/\J' K C m f
def CO(K:Frag)(C:A2)(q:Str)(st:C2):Prop:=∃ f fd,KF K "__init__" q st f fd/\Mk K C f
theorem gu(a:findIn K (.ref C) m=some (some (.ref f)))(i:isFn K (.ref f)=true)(l:K.lookup f=some ⟨oc,od,.func (fnOf m q (U3 st) (Wb st) (Z9 st) .none kV dc pm an cd ct),sl⟩)(h:codeIn K cd q=true)(k:keepIn K (.ref f)=true):MO K C m q st:=⟨f,_,X6 l h k,a,i,k⟩
theorem dq(a:findIn K (.ref C) "__init__" = some (some (.ref f)))(i:isFn K (.ref f)=true)(l:K.lookup f=some ⟨oc,od,.func (fnOf "__init__" q (U3 st) (Wb st) (Z9 st) .none kV dc pm an cd ct),sl⟩)(h:codeIn K cd q=true)(k:keepIn K (.ref f)=true)(mk:makesIn K C=true)(b:keepIn K (.ref C)=true):CO K C q st:=⟨f,_,X6 l h k,mk,a,i,b⟩
theorem MO.d(h:MO K C m q st)(y:Te K c C)(g:JO K C):JK K c m q st:=let ⟨f,fd,F,M⟩:=h;⟨C,f,fd,F,y,g,M⟩
theorem CO.d(h:CO K C q st)(y:Te K c C)(g:JO K C)(hm:mg c=some (.ref C)):LG K mg c q st:=let ⟨f,fd,F,M⟩:=h;⟨C,f,fd,F,y,g,M,hm⟩
end
theorem cK(l:A2)(its:Array A1)(n:Nat)(b:A2)(a:Array A1)(k:Nat)(dct:Cc A2)(sl:Array (Cc A1))(z0:¬ (!its.isEmpty&&Builtin.List.listTooLong (its.size+a.size))=true)(z1:its.size<=sizeLine)(z2:its.size+a.size<=sizeLine+1) :
  Meets (Builtin.«list.extend» ⟨[.ref l,.ref b],[]⟩) (λ_ R s=>s.heap.get? l=some { cls:=.type "list",dict:=none,data:=.seq its n,slots:=#[] }/\s.heap.get? b=some { cls:=.type "tuple",dict:=dct,data:=.seq a k,slots:=sl } /\
   R (.ok (.ret Value.none)) { s with heap:=s.heap.update l (Obj.mapSeq λx=>x++a),toks:=s.toks }) :=
 .of_wp λprog w A R s q=>by
  obtain⟨F,g,d,tk,os⟩:=s;obtain⟨c,e,q⟩:=q;have y1:=AutoSeq1.idx_int;have y2:=AutoSeq1.sub_tuple_tuple;have y3:=AutoSeq1.sub_list_list;have y4:=AutoSeq1.sub_tuple_list;have y5:=AutoSeq1.sub_list_tuple;have G:(its++a).size<=sizeLine+1:=by rw[Array.size_append];exact z2
  wp_walk using(wpAny_updateSeq c rfl (hz:=z1) (_hz':=G)),DG c,DG e
  exact⟨_,rfl,q⟩
theorem bp:Ch X "list.extend" (λx vs H Q=>∃ l b xs zs,x=.ref l/\vs=[.ref b]/\H l=some (.lst xs)/\Dx X.K H b zs/\xs.length+zs.length<=sizeLine/\Q .non (Wq H l (.lst (xs++zs)))):=by
 intro aa s σ H x vs v us Q I rx rv h;obtain⟨l,b,xs,zs,rfl,rfl,c,i,hz,q⟩:=h;cases rx;obtain⟨u,rfl,g⟩:=rv.one;cases g;obtain⟨z,its,n,r,hl,e⟩:=I.lstM c;obtain⟨f,r2,⟨⟨c2,dct,j,sl⟩,e2,M,n2,a⟩,am⟩:=I.tuple i;replace M:c2=.type "tuple" := M;replace a:j=.seq f.toArray n2:=a;subst M a;have aj:=r2.length;have hsz:its.toArray.size+f.toArray.size<=sizeLine:=by rw[AO,AO];lia
 have d:¬ (!its.toArray.isEmpty&&Builtin.List.listTooLong (its.toArray.size+f.toArray.size))=true:=by
  rw[Bk hsz,IH];exact BO
 refine HS DO ⟨_,e,rfl⟩ PySem.F.entry_list_extend (PySem.F.args_list_extend_2 _ _)
  (cK l its.toArray n b f.toArray n2 dct sl d (by rw[AO];lia) (by lia)) ⟨e,e2,?_⟩
 refine⟨.non,_,I.lset (its':=its++f) c e (by simp) (r.append r2) ?_,rfl,q⟩;rw[AH];lia
def Sv:Z Dat->Z Dat->Cc (Z Dat)
 | ds,[.tup es]=>if ds.length+es.length<=sizeLine then some (ds++es) else none
 | _,_=>none
theorem P0:NU X "list.extend" Sv:=Ch.weak (id:="list.extend") bp λv us H Q M=>by
 obtain⟨A,a,vs,ds,as,ds',mu,e1,h1,r1,r2,e2,q⟩:=M;unfold Sv at e2;split at e2
 .rename_i es
  split at e2
  .rename_i hl
   cases e2;obtain⟨w,l,e3,r3,e4⟩:=r2;obtain⟨b,zs,e5,hS,r5⟩:=Su r3;subst e5;have l1:=Yh r1;have l2:=Yh r5;refine⟨a,b,vs,zs,e1,by rw[e3,show l=[] from e4],h1,Wn.seqT hS,by lia,q _ _ (by rw[AH];exact hl) (Vm r1 r5)⟩
  .cases e2
 .cases e2
end L2
namespace L2
open PySem PySem.Spec PyProof.Rows
def TC(z TI TO i1 i2 a1 a2:A2)(i:Nat)(h:Ff):Prop:=IsZip h z TI TO .none/\IsPair h TI (.ref i1) (.ref i2)/\(∃ a b,IsPair h TO a b)/\h.IsListIter i1 a1 i/\h.IsTupleIter i2 a2 i
theorem bI{tk:Nat}(z TI TO i1 i2 a1 a2:A2)(D:NO z TI TO i1 i2 [i1,a1] [i2,a2])(n1:a1≠i1)(n2:a2≠i2) :
  Cw X.prog X.w X.K (.Tuple es tk aB) (QN (λH xs=>Dq X.K H a1 xs) λH xs=>Dx X.K H a2 xs) [z,TI,TO,i1,i2] z (TC z TI TO i1 i2 a1 a2) where
 mem:=by simp
 obj:=λi h st b hb=>by
  obtain⟨hz,d,⟨a,c,f⟩,⟨o1,e1,_,R⟩,⟨o2,e2,_,d2⟩⟩:=st;simp at hb;rcases hb with rfl | rfl | rfl | rfl | rfl
  .exact⟨_,hz,λv q=>by cases q⟩
  .exact⟨_,d,λv q=>by cases q⟩
  .exact⟨_,f,λv q=>by cases q⟩
  .exact⟨o1,e1,λv q=>by rw[R] at q;cases q⟩
  .exact⟨o2,e2,λv q=>by rw[d2] at q;cases q⟩
 keep:=λi h h' st kk=>by
  obtain⟨hz,d,⟨a,c,f⟩,⟨o1,e1,r1⟩,⟨o2,e2,r2⟩⟩:=st;exact⟨kk z (by simp) _ hz,kk TI (by simp) _ d,⟨a,c,kk TO (by simp) _ f⟩,⟨o1,kk i1 (by simp) _ e1,r1⟩,⟨o2,kk i2 (by simp) _ e2,r2⟩⟩
 item:=by
  intro Y F hw l hc i aa s σ H E I hf st af;rw[<- F,<- hw];obtain⟨xs,ys,x,y,q1,q2,hl,hx,hy⟩:=af;rw[<- l] at q1 q2;obtain⟨P,rx,G,_⟩:=I.list q1;obtain⟨ks,m,I2,_⟩:=I.tuple q2;obtain⟨u,hu,g⟩:=rx.get hx;obtain⟨v,hv,rv⟩:=m.get hy;have hsz:P.toArray.size=ks.toArray.size:=by rw[AO,AO,<- rx.length,<- m.length];exact hl
  have C:=Draws.tupleD (prog:=Y.prog) (w:=Y.w) (A:=Y.A.in1) (I.ok.hd hc) i2 a2 n2 ks.toArray;rw[<- hsz] at C;have W:=TY (Draws.list (prog:=Y.prog) (w:=Y.w) (A:=Y.A.in1) (I.ok.hd hc) i1 a1 n1 P.toArray) C D (by simp) (by simp);have hi:i<P.toArray.size:=by rw[AO];exact(AE.mp hu).1
  obtain⟨hz,d,f,s1,s2⟩:=st;obtain⟨oz,hoz⟩:∃ o,s.heap.get? z=some o:=⟨_,hz⟩;refine W.item i s _ _ hi ⟨hz,d,f,⟨s1,G.isList⟩,⟨s2,I2⟩⟩ λT p h' tk ap j ah hM hk=>⟨.ref T,rfl,W.go es _ aB i T _ _ _ hM λh2 ac aj=>?_⟩
  obtain⟨M,S,N,ae,rfl⟩:=ap;have aq:M=u:=by
   have:P[i]?=some M:=by simpa using N
   rw[hu] at this;exact(BK this).symm
  have ag:S=v:=by
   have:ks[i]?=some S:=by simpa using ae
   rw[hv] at this;exact(BK this).symm
  subst aq ag;have n:IsTup h2 T #[M,S]:=by
   obtain⟨o,J,r⟩:=ah;exact⟨o,aj T o (W.apart i T h' hM) J,r⟩
  have k:∀ b∈[z,TO,i1,i2],Ro Y aa H b:=λb hb=>hf b (by simp at hb ⊢;rcases hb with q | q | q | q<;>simp[q])
  have t:=D'.turnedT (s:=s) (h':=h2) (tk:=tk) (ch:=[z,TO,i1,i2]) (its:=[M,S]) (xs:=[x,y]) I k (λb o hb q=>aj b o hb (hk b o hb q)) j (.cons g (.cons rv .nil)) (by show 2<=sizeLine;decide) n;refine⟨.ref T,Wq H T (.tup [x,y]),t,rfl,⟨T,x,y,rfl,I.hok.fresh j,λzs B=>?_,λzs B=>?_,rfl⟩,⟨ac.1,ac.2.1,ac.2.2.1,ac.2.2.2.1.1,ac.2.2.2.2.1⟩,λb hb=>?_⟩
  .have e9:zs=xs:=I.list_inj (by rw[l];exact B) q1
   rw[e9];exact hx
  .have e9:zs=ys:=I.tuple_inj (by rw[l];exact B) q2
   rw[e9];exact hy
  .rw[Zp ?_];exact(hf b hb).1
   intro e;have ai:b<s.heap.objs.size:=by
    obtain⟨a,c,f⟩:=f;obtain⟨o1,e1,_⟩:=s1;obtain⟨o2,e2,_⟩:=s2;simp at hb;rcases hb with rfl | rfl | rfl | rfl | rfl
    .exact BE hz
    .exact BE d
    .exact BE f
    .exact BE e1
    .exact BE e2
   exact absurd (AV ai (by rw[e];exact j)) (ED _)
 done:=by
  intro Y F hw l hc i aa s σ H E I hf st hs;rw[<- F,<- hw];obtain⟨xs,ys,q1,q2,l1,l2⟩:=hs;rw[<- l] at q1 q2;obtain⟨P,rx,G,_⟩:=I.list q1;obtain⟨ks,m,I2,_⟩:=I.tuple q2;have hsz:P.toArray.size=ks.toArray.size:=by rw[AO,AO,<- rx.length,<- m.length,l1,l2]
  have C:=Draws.tupleD (prog:=Y.prog) (w:=Y.w) (A:=Y.A.in1) (I.ok.hd hc) i2 a2 n2 ks.toArray;rw[<- hsz] at C;have W:=TY (Draws.list (prog:=Y.prog) (w:=Y.w) (A:=Y.A.in1) (I.ok.hd hc) i1 a1 n1 P.toArray) C D (by simp) (by simp);have hn:P.toArray.size=i:=by rw[AO,<- rx.length];exact l1
  obtain⟨hz,d,f,s1,s2⟩:=st;have k:∀ b∈[z,TO,i1,i2],Ro Y aa H b:=λb hb=>hf b (by simp at hb ⊢;rcases hb with q | q | q | q<;>simp[q])
  exact W.done s _ _ (by rw[hn];exact⟨hz,d,f,⟨s1,G.isList⟩,⟨s2,I2⟩⟩) λh' tk hk=>⟨rfl,I.turnedN (ch:=[z,TO,i1,i2]) k λb o hb q=>hk b o hb q⟩
 self:=λA i s Q E st h=>IA st.1 h
abbrev LR(h:Ff)(l:A2):Ff:=h.push { cls:=.type "list_iterator",data:=.fields #[.ref l,.int 0 0] }
abbrev OD(h:Ff)(l m:A2):Ff:=(PB (LR h l) m).push { cls:=.type "tuple",data:=.seq #[.ref h.objs.size,.ref (LR h l).objs.size] }
abbrev OG(h:Ff)(l m:A2):Ff:=(OD h l m).push { cls:=.type "tuple",data:=.seq #[.none,.none] }
abbrev MU(h:Ff)(l m:A2):Ff:=(OG h l m).push { cls:=.type "zip",data:=.fields #[.none,.bool false,.bool false,.ref (PB (LR h l) m).objs.size,.ref (OD h l m).objs.size] }
theorem eX(l m:A2)(xs ys:Array A1) :
  Meets (Builtin.«zip.__new__» ⟨[.type "zip",.ref l,.ref m],[]⟩) (λ_ R s=>s.heap.IsList l xs/\s.heap.IsTuple m ys/\R (.ok (.ret (.ref (OG s.heap l m).objs.size))) { s with heap:=MU s.heap l m }) :=
 .of_wp λprog w A R s h=>by
  obtain⟨F,g,d,tk,os⟩:=s;obtain⟨hl,hm,h⟩:=h;have k:=PySem.sub_zip;have q1:Heap.IsList (Shared.heap ⟨F,g,d,tk,os⟩) l xs:=hl;have q2:Heap.IsTuple (Shared.heap ⟨F.push { cls:=.type "list_iterator",data:=.fields #[.ref l,.int 0 0] },g,d,tk,os⟩) m ys:=Fo hm _
  wp_walk using GJ q1,EQ q2
  exact⟨_,rfl,h⟩
theorem Z'{w:D2}{l m:A2}{xs ys:Array A1}(hl:s.heap.IsList l xs)(hm:s.heap.IsTuple m ys)
  (h:∀ h',TC (s.heap.objs.size+4) (s.heap.objs.size+2) (s.heap.objs.size+3) s.heap.objs.size (s.heap.objs.size+1) l m 0 h'->(∀ c o,s.heap.get? c=some o->h'.get? c=some o)->Q (.ref (s.heap.objs.size+4)) { s with heap:=h' }) :
  wpAny (model prog w) A (call (.type "zip") [.ref l,.ref m]) Q E s:=by
 refine callType_new PySem.F.called_zip (by decide) (PySem.F.typeCall_zip_2 _ _) (PySem.F.newCall_zip_2 _ _) (λobj=>PySem.F.args_object_init_3 obj _ _) PySem.F.entry_zip_new (eX l m xs ys) ⟨hl,hm,?_⟩;have e1:(LR s.heap l).objs.size=s.heap.objs.size+1:=EE ..;have e2:(PB (LR s.heap l) m).objs.size=s.heap.objs.size+2:=by rw[EE,e1]
 have e3:(OD s.heap l m).objs.size=s.heap.objs.size+3:=by rw[EE,e2]
 have e4:(OG s.heap l m).objs.size=s.heap.objs.size+4:=by rw[EE,e3]
 have r:(MU s.heap l m).get? (OG s.heap l m).objs.size=some _:=AW _ rfl;have t:(MU s.heap l m).get? (OD s.heap l m).objs.size=some _:=AD _ (AW _ rfl);have g3:(MU s.heap l m).get? (PB (LR s.heap l) m).objs.size=some _:=AD _ (AD _ (AW _ rfl));have g2:(MU s.heap l m).get? (LR s.heap l).objs.size=some _:=AD _ (AD _ (AD _ (AW _ rfl)));have W:(MU s.heap l m).get? s.heap.objs.size=some _:=AD _ (AD _ (AD _ (AD _ (AW _ rfl))));show _/\_;rw[e2,e3,e4] at r;rw[e1,e2] at g3;rw[e3] at t;rw[e1] at g2;rw[e4];exact⟨⟨_,r,rfl⟩,h _ ⟨r,g3,⟨_,_,t⟩,⟨_,W,rfl,rfl⟩,⟨_,g2,rfl,rfl⟩⟩ λc o x=>AD _ (AD _ (AD _ (AD _ (AD _ x))))⟩
section
variable{st m:Bool}{l1 l2:Cs}{tk:Nat}
def PK(fs:Zzv):Ev->Cc (Z Dat):=λenv=>match fs env with
 | some [.lst xs,.tup ys]=>if xs.length=ys.length then some (Ei xs ys) else none
 | _=>none
def ZR(K:E')(ta:TA):TI:=λσ H R=>ta σ H λvs H1=>∃ a b,vs=[.ref a,.ref b]/\(∃ xs,Dq K H1 a xs)/\(∃ ys,Dx K H1 b ys)/\R (QN (λH xs=>Dq K H a xs) λH xs=>Dx K H b xs) H1
theorem fI(S:Gl X "zip")(hm:X.mg "zip" = none)(hv:bootBuiltins "zip" = some (.type "zip"))(Y:PA X [l1,l2] ta)(hs:starEach [l1,l2] X.env=(false,eval l1 X.env)::starEach [l2] X.env:=by rfl)(ae:(backTo pos (starEach [l2] X.env)).any (·.1)=false:=by rfl):PI X (.Tuple es tk aB) (.Call (.Name "zip" p) [l1,l2] [] pos) (ZR X.K ta):=by
 intro aa s σ H R I h;refine Call_ (S0 I S hm hv (DF (Vy (Y pos aa s σ H _ I h) λus s1 ⟨vs,H1,G,r1,q1⟩=>?_) hs ae));obtain⟨a,b,e,⟨xs,B⟩,⟨ys,v⟩,q⟩:=q1;subst e;obtain⟨u,J,rfl,g,w⟩:=PV r1;cases g;cases w;obtain⟨its,rv,pl,hz⟩:=G.list B;obtain⟨f,rv2,l,am⟩:=G.tuple v;have m:a<s1.heap.objs.size:=by obtain⟨o,n,e,_⟩:=pl;exact BE e
 have t:b<s1.heap.objs.size:=by obtain⟨o,e,_⟩:=l;exact BE e
 refine Z' pl.isList l λh' ac h4=>?_
 have I2:D' X aa σ H1 { s1 with heap:=h' }:=G.kept (t':=s1.toks) h4;refine IA (s:={ s1 with heap:=h' }) ac.1 ?_;have hN:∀ k:Nat,Ro X aa H1 (s1.heap.objs.size+k):=λk=>G.fpOk (IB _ _) (G.hok.fresh (IB _ _))
 have ne:∀ i j:Nat,i≠j->s1.heap.objs.size+i≠s1.heap.objs.size+j:=λi j d e=>d (Nat.add_left_cancel e)
 have r:∀ c:A2,c<s1.heap.objs.size->∀ k:Nat,s1.heap.objs.size+k≠c:=λc hc k e=>absurd (DQ (IB _ k) (by rw[e];exact hc)) (ED _)
 have D:NO (s1.heap.objs.size+4) (s1.heap.objs.size+2) (s1.heap.objs.size+3) s1.heap.objs.size (s1.heap.objs.size+1) [s1.heap.objs.size,a] [s1.heap.objs.size+1,b] :=
   ⟨ne 2 4 (by decide),ne 3 4 (by decide),ne 0 4 (by decide),ne 1 4 (by decide),ne 2 3 (by decide),ne 2 0 (by decide),ne 2 1 (by decide),ne 3 0 (by decide),ne 3 1 (by decide),ne 0 1 (by decide),
    λq=>by rcases BN.mp q with e | e;exact ne 4 0 (by decide) e;exact r a m 4 (AK.mp e),
    λq=>by rcases BN.mp q with e | e;exact ne 4 1 (by decide) e;exact r b t 4 (AK.mp e),
    λq=>by rcases BN.mp q with e | e;exact ne 3 0 (by decide) e;exact r a m 3 (AK.mp e),
    λq=>by rcases BN.mp q with e | e;exact ne 3 1 (by decide) e;exact r b t 3 (AK.mp e),
    λq=>by rcases BN.mp q with e | e;exact ne 1 0 (by decide) e;exact r a m 1 (AK.mp e),
    λq=>by rcases BN.mp q with e | e;exact ne 0 1 (by decide) e;exact r b t 0 (AK.mp e)⟩
 refine⟨s1.heap.objs.size+4,[s1.heap.objs.size+4,s1.heap.objs.size+2,s1.heap.objs.size+3,s1.heap.objs.size,s1.heap.objs.size+1],_,_,H1,rfl,I2,bI _ _ _ _ _ a b D (λe=>r a m 0 e.symm) (λe=>r b t 1 e.symm),ac,λc hc=>?_,q⟩;simp at hc;rcases hc with rfl | rfl | rfl | rfl | rfl
 · exact hN 4
 · exact hN 2
 · exact hN 3
 · exact hN 0
 · exact hN 1
theorem iW(S:Gl X "zip")(hm:X.mg "zip" = none)(h:Bp true X [l1,l2] fs)(hv:bootBuiltins "zip" = some (.type "zip"):=by ext)(hs:starEach [l1,l2] X.env=(false,eval l1 X.env)::starEach [l2] X.env:=by rfl)(ae:(backTo pos (starEach [l2] X.env)).any (·.1)=false:=by rfl):KR false X (.Tuple es tk aB) (.Call (.Name "zip" p) [l1,l2] [] pos) (PK fs) :=
 (fI S hm hv h hs ae).weak λσ H i M=>by
 obtain⟨env,R,A,ds,k,e,q⟩:=M;unfold PK at e;split at e
 .rename_i xs ys e1
  split at e
  .rename_i hl
   cases e;refine⟨env,R,A,[.lst xs,.tup ys],k,e1,λvs H1 s1 rs=>?_⟩;obtain⟨F,r,e2,p1,e3⟩:=rs;obtain⟨l,r',e4,p2,e5⟩:=e3;obtain⟨a,us,s,h1,r1⟩:=(Rm.pk p1).lst;obtain⟨b,u,e7,h2,r2⟩:=(Rm.pk p2).tup;subst s e7;refine⟨a,b,by rw[e2,e4,show r'=[] from e5],⟨us,h1.sq⟩,⟨u,h2⟩,q _ H1 (by rw[Iz xs ys hl];exact(Rm.pk p1).lenL) s1 (d3 hl (λg H2 c=>(c.2.sl h1).sq) (λg H2 c=>c.2.seqT h2) r1 r2)⟩
  .cases e
 .cases e
end
def Um:=@SA false
def Zj:=@SZ true
def Z1:=@xv true
def Z3:=@XI true
def Ss:=@WI true
def Zq:=@SZ false
def Yf:=@XI false
def Z8:=@xv false
def Zf:=@VM false
def Zc:=@VM true
def Yv{X:Cx}:=@VE X true
def Ta:=@WO false
def Ya:=@KB.x true
def Y0{X:Cx}:=@VE X false
def Y8:=@WO true
def Zr:=@VQ false
def W1:=@WI false
def Qq:=@KB.x false
def Ur:=@Cy true
def Jo:=@VQ true
def T9:=@cw false
end L2
variable{y:L2.Dat}{es:Z L2.Dat}
namespace K61
open PySem PySem.Spec PyProof.Rows L2
abbrev SR:Z Str:=["_law_script","_law_first","_law_graph_here","_law_some","_law_want_here","_law_wire"]
abbrev WF:Z Str:=["_law_graph_here","_law_at","_law_kind","_law_up_here","_law_word_here"]
abbrev NI:Z Str:=["_law_wire","_law_rise","_law_takes","_law_fills","_law_at"]
abbrev UG:Z Str:=["_law_script","_law_first","_law_most","_law_arrows_here"]
abbrev UX:Z Str:=["_law_script","_law_first","_law_graph_here","_law_some"]
abbrev VF:Z Str:=["_law_script","_law_graph_here","_law_net","_law_other"]
abbrev XM:Z Str:=["_law_w","_law_word_here","_law_script","_law_first"]
abbrev UL:Z Str:=["_law_g","_law_levels","_law_code","_law_gates_here"]
abbrev VL:Z Str:=["_law_script","_law_first","_law_many","_law_size"]
abbrev SS:Z Str:=["_law_script","_law_first","_law_n","_law_many"]
abbrev LH:Z Str:=["_law_j","_law_least","_law_own","_law_cell"]
abbrev LJ:Z Str:=["_law_graph_here","_law_stand","_law_step"]
abbrev NV:Z Str:=["_law_graph_here","_law_stand","_law_wire"]
abbrev NQ:Z Str:=["_law_graph_here","_law_net","_law_play"]
abbrev LW:Z Str:=["_law_one","_law_level","_law_wire"]
abbrev KQ:Z Str:=["_law_graph_here","_law_net"]
abbrev MG:Z Str:=["_law_gate","_law_code"]
abbrev LA:Z Str:=["_law_gate","_law_wire"]
abbrev JZ:Z Str:=["self","graph","net"]
abbrev KA:Z Str:=["graph","step"]
abbrev KO:Z Str:=["_law_script"]
abbrev KN:Z Str:=["row","code"]
abbrev KC:Z Str:=["_law_net"]
def Pr:Ev->Fl:=(Wt (L Mz (L Yk (L Yk (L Yk (U 0) (dC (.int 0))) (U 1)) (dC (.int 1))) (dC (.str "made"))))
def Ds:Z Dat->Rs:=Wp 2 2 Pr
def Pi:Ev->Fl:=(Wt (L Yk (L Yk (L Yk (U 0) (dC (.int 1))) (U 1)) (dC (.int 0))))
def De:Z Dat->Rs:=Wp 2 2 Pi
def Nw:Ev->Fl:=(Wt (L Yk (L Yk (L Yk (U 0) (dC (.int 1))) (U 1)) (dC (.int 2))))
def Em:Z Dat->Rs:=Wp 2 2 Nw
def QI:Ev->Fl:=(Zd (Zz 1 (dC (.int 0)))
 (Zd (Uv (Va (U 0)) (Zt 2) (Zz 1 (L LL (U 1) (L Ry (dC (.int 1)) (U 2)))))
 (Wt (U 1))))
def Iy:Z Dat->Rs:=Wp 3 1 QI
def P3:Ev->Fl:=(Wt (L Mz (L Md (L Ir (U 0) (U 1)) (dC (.int 1))) (dC (.int 1))))
def R1:Z Dat->Rs:=Wp 2 2 P3
def WW:Ev->Fl:=(Wt (dL (Wg (U8 (O (TL "int" Ad (U 0)) Zb)) [none,some 0] (Zt 0) (dT (Yj R1 (O (U 1) (O (U 0) Zb)))) (U 0))))
def RM:Z Dat->Rs:=Wp 1 1 WW
def SJ:Ev->Fl:=(Wt (L Mz (L Md (U 1) (L Yk (U 0) (dC (.int 0)))) (L Yk (U 0) (dC (.int 1)))))
def Xt:Z Dat->Rs:=Wp 2 2 SJ
def WA:Ev->Fl:=(Wt (dF NR (O (dL (Wg (Va (U 0)) [none,some 1] (Zt 0) Wh (Yj Xt (O (U 0) (O (U 1) Zb))))) Zb)))
def Lf:Z Dat->Rs:=Wp 2 2 WA
def RZ:Ev->Fl:=(Zd (Zz 3 (Yj Iy (O (Yj Em (O (U 0) (O (U 2) Zb))) Zb)))
 (Wt (L Mz (L Md (L Yk (U 1) (dC (.int 0))) (U 3)) (U 3))))
def PF:Z Dat->Rs:=Wp 4 3 RZ
def N8:Ev->Fl:=(Wt (dL (Wg (U8 (O (dF Uh (O (L Yk (U 0) (dC (.int 1))) Zb)) Zb)) [none,some 0,some 1] (Zt 0) (dT (Yj PF (O (U 1) (O (U 2) (O (U 0) Zb))))) (U 0))))
def Ew:Z Dat->Rs:=Wp 2 2 N8
def Th:Ev->Fl:=(Zd (Sy (OB (U 1) (Sj "Bench" "known" (U 0))) (λ_=>.no) Tr)
 (Wt (RT (Sj "Bench" "known" (U 0)) (U 1))))
def To:Z Dat->Rs:=Wp 2 2 Th
def Q3:Ev->Fl:=(Zd (Zz 2 (Yj R1 (O (L Yk (L Yk (U 1) (dC (.int 0))) (dC (.int 1))) (O (L Yk (U 0) (dC (.int 0))) Zb))))
 (Zd (Zz 3 (SG (dT (U 2)) (L Yk (U 0) (dC (.int 2))) (L Yk (U 0) (dC (.int 1)))))
 (Zd (Zz 4 (SG (dT (U 2)) (L Yk (U 0) (dC (.int 1))) (L Yk (U 0) (dC (.int 2)))))
 (Wt (MI (L Ag (L Md (L Yk (U 1) (dC (.int 1))) (U 3)) (dC (.int 0))) (L Mz (L Md (L Yk (U 1) (dC (.int 1))) (U 4)) (dC (.int 0))))))))
def Ut:Z Dat->Rs:=Wp 5 2 Q3
def Uz:Ev->Fl:=(Zd (Zz 2 (Yj Ew (O (Sj "Bench" "graph" (U 0)) (O (U 1) Zb))))
 (Wt (dL (Wg (Va (U 2)) [none,some 0] (Zt 0) (Sf (dT (Yj Ds (O (Sj "Bench" "graph" (U 1)) (O (Yj De (O (Sj "Bench" "graph" (U 1)) (O (U 0) Zb))) Zb))))) (Yq (O (dC (.str "step")) (O (U 0) Zb)))))))
def Vo:Z Dat->Rs:=Wp 3 2 Uz
def Q6:Ev->Fl:=(Zd (Zz 2 (L Cu (L Yk (U 1) (dC (.int 1))) (C9 "Bench" "levels_at" To (U 0) (O (L Yk (L Yk (U 1) (dC (.int 0))) (dC (.int 1))) Zb))))
 (Zd (Zz 3 (dL (Wg (Va (Yj RM (O (U 2) Zb))) [none] (Zt 0) Wh (Yq (O (dC (.str "gate")) (O (U 0) Zb))))))
 (Zd (Zz 4 (dL (Wg (Va (Sj "Bench" "sides" (U 0))) [none,some 1] (Zt 0) (dT (Yj Ut (O (U 0) (O (U 1) Zb)))) (Yq (O (dC (.str "wire")) (O (L Yk (U 0) (dC (.int 0))) Zb))))))
 (Wt (dL (L LV (L Yi (dL (Lv "Bench" "given_moves" Vo (U 0) (O (L Yk (U 1) (dC (.int 0))) Zb))) (U 3)) (U 4)))))))
def Q1:Z Dat->Rs:=Wp 5 2 Q6
def Gc:Ev->Fl:=(Zd (Qy 1 (T7 Zb))
 (Zd (Uv (Va (U 0)) (Zt 2) (Zd (U6 1 Sv (O (L Yk (U 2) (dC (.int 1))) Zb))
 (U6 1 Sv (O (L Yk (U 2) (dC (.int 2))) Zb))))
 (Ec 1)))
def Qd:Z Dat->Rs:=Wp 3 1 Gc
def Eo:Ev->Fl:=(Zd (Qy 1 (T7 Zb))
 (Zd (Zz 2 (dC (.int 0)))
 (Zd (Uv (Va (U 0)) (Zt 3) (Zd (Zz 4 (L Yi (U 2) (dF Uh (O (L Yk (U 3) (dC (.int 1))) Zb))))
 (Zd (Zz 5 (L Yi (U 4) (dF Uh (O (L Yk (U 3) (dC (.int 2))) Zb))))
 (Zd (U6 1 Wf (O (Yq (O (L Yk (U 3) (dC (.int 0))) (O (Yj Iy (O (dL (MV (O (U 2) (O (U 4) Zb)))) Zb)) (O (Yj Iy (O (dL (MV (O (U 4) (O (U 5) Zb)))) Zb)) Zb)))) Zb))
 (Zz 2 (U 5))))))
 (Ec 1))))
def Tz:Z Dat->Rs:=Wp 6 1 Eo
def Pz:Ev->Cc Dat:=(Yj Iy (O (dL (Wg (Ow (Sj "Bench" "gates" (U 0))) [none,none,some 1] (Mc 2 (Y2 (Zt 0) (Y2 (Zt 1) T4))) (dT (Yj Lf (O (U 1) (O (U 2) Zb)))) (U 0))) Zb))
def RA:Z Dat->Rs:=MM Pz Qd Tz
def Ha:Ev->Fl:=(Wt (L Yk (Sj "Play" "pose" (U 0)) (dC (.int 0))))
def J7:Z Dat->Rs:=Wp 1 1 Ha
def Gw:Ev->Fl:=(Wt (Yj R1 (O (L Yk (Sj "Play" "pose" (U 0)) (dC (.int 1))) (O (U 1) Zb))))
def J5:Z Dat->Rs:=Wp 2 2 Gw
def Gg:Ev->Fl:=(Wt (dL (Lv "Bench" "moves_at" Q1 (Sj "Play" "bench" (U 0)) (O (Sj "Play" "pose" (U 0)) Zb))))
def Jf:Z Dat->Rs:=Wp 1 1 Gg
def Mu:Ev->Fl:=(Zd (Qy 1 (T7 Zb))
 (Zd (Uv (Va (U 0)) (Zt 2) (U6 1 Kz (O (dL (Wg (Va (U 2)) [none] (Zt 0) Wh (Yq (O (U 0) Zb)))) Zb)))
 (Wt (dF tupleD (O (dP 1) Zb)))))
def Ua:Z Dat->Rs:=Wp 3 1 Mu
def Xn:Ev->Fl:=(Wt (dF tupleD (O (dL (Wg (Va (U 0)) [none] (Zt 0) Wh (Yq (O (L Yk (U 0) (dC (.int 0))) (O (Yj Ua (O (L Yk (U 0) (dC (.int 1))) Zb)) (O (Yj Ua (O (L Yk (U 0) (dC (.int 2))) Zb)) Zb)))))) Zb)))
def Ac:Z Dat->Rs:=Wp 1 1 Xn
def Jl:Ev->Fl:=(Zd (Zz 2 (L Yi (L Eu (dC (.int 7919)) (U 1)) (dC (.int 12345))))
 (Zd (Sy (dB (L QO (U 1) (dF Uh (O (U 0) Zb)))) (Zz 2 (L Yi (U 2) (L Eu (L Yk (U 0) (U 1)) (dC (.int 6364136223846793005))))) Tr)
 (Wt (L V8 (L Eu (U 2) (dC (.int 48271))) (dC (.int 1000000000039))))))
def Wj:Z Dat->Rs:=Wp 3 2 Jl
def Jy:Ev->Fl:=(Zd (Zz 2 (dC (.str "abcdefghijklmnopqrstuvwxyz")))
 (Zd (Zz 3 (L Yi (dC (.int 2)) (L V8 (U 0) (dC (.int 7)))))
 (Zd (Zz 4 (L V8 (L Wc (U 0) (dC (.int 7))) (U 3)))
 (Zd (Zz 5 (dC (.str "")))
 (Zd (Uv (U8 (O (U 3) Zb)) (Zt 6) (Zd (Zz 7 (dC (.int 0)))
 (Zd (Sy (dB (L Mz (U 6) (U 4))) (Zz 7 (U 1)) Tr)
 (Zz 5 (L Yi (U 5) (L Yk (U 2) (L V8 (L Yi (L Yi (L Wc (U 0) (dC (.int 49))) (L Eu (dC (.int 5)) (U 6))) (L Eu (dC (.int 7)) (U 7))) (dC (.int 26)))))))))
 (Zd (Sy (dB (L LX (U 5) (dL (T7 (O (dC (.str "given")) (O (dC (.str "made")) (O (dC (.str "up")) (O (dC (.str "down")) (O (dC (.str "start")) Zb))))))))) (Zz 5 (L Yi (dS JS (U 5) (Jz (dC (.int 1))) Sl) (dC (.str "q")))) Tr)
 (Wt (U 5))))))))
def Vz:Z Dat->Rs:=Wp 8 2 Jy
def J8:Ev->Fl:=(Zd (Qy 3 (T7 Zb))
 (Zd (Uv (U8 (O (U 2) Zb)) (Zt 4) (Zd (Zz 5 (Yj Wj (O (U 0) (O (L Yi (U 1) (U 4)) Zb))))
 (Zd (Zz 6 (L V8 (U 5) (L Yi (dF Uh (O (dP 3) Zb)) (dC (.int 1)))))
 (Zd (U6 3 Rw (O (U 6) (O (U 4) Zb)))
 (Zd (Zz 7 (L V8 (L Wc (U 5) (dC (.int 64))) (L Oi (dF Uh (O (dP 3) Zb)) (U 6))))
 (U6 3 Rw (O (L Yi (L Yi (U 6) (dC (.int 1))) (U 7)) (O (U 4) Zb))))))))
 (Ec 3)))
def S5:Z Dat->Rs:=Wp 8 3 J8
def Qg:Ev->Fl:=(Zd (Qy 4 (T7 Zb))
 (Zd (Uv (U8 (O (U 2) Zb)) (Zt 5) (Zd (Zz 6 (Yj Wj (O (U 0) (O (L Yi (U 1) (U 5)) Zb))))
 (Zd (Zz 7 (L V8 (U 6) (U 3)))
 (Zd (Zz 8 (L V8 (L Wc (U 6) (dC (.int 64))) (U 3)))
 (Sy (Sc (dB (L Ag (U 7) (U 8))) (dB (L Ov (Yq (O (dF MW (O (U 7) (O (U 8) Zb))) (O (dF MK (O (U 7) (O (U 8) Zb))) Zb))) (dP 4)))) (U6 4 Wf (O (Yq (O (dF MW (O (U 7) (O (U 8) Zb))) (O (dF MK (O (U 7) (O (U 8) Zb))) Zb))) Zb)) Tr)))))
 (Ec 4)))
def Mt:Z Dat->Rs:=Wp 9 4 Qg
def J9:Ev->Fl:=(Zd (Zz 4 (Yj S5 (O (U 0) (O (U 1) (O (U 2) Zb)))))
 (Zd (Zz 5 (L Eu (dC (.int 2)) (U 2)))
 (Zd (Zz 6 (Yj Wj (O (U 0) (O (L Yi (U 1) (U 2)) Zb))))
 (Zd (Zz 7 (Yj Mt (O (U 0) (O (L Yi (L Yi (U 1) (U 2)) (dC (.int 1))) (O (U 3) (O (U 5) Zb))))))
 (Zd (Sy (dB (L Mz (L V8 (U 6) (dC (.int 3))) (dC (.int 0)))) (Zz 7 (L Yi (U 7) (dL (Wg (U8 (O (L Oi (U 5) (dC (.int 1))) Zb)) [none,some 7] (Zt 0) (dB (L Ov (Yq (O (U 0) (O (L Yi (U 0) (dC (.int 1))) Zb))) (U 1))) (Yq (O (U 0) (O (L Yi (U 0) (dC (.int 1))) Zb))))))) Tr)
 (Zd (Uv (U8 (O (U 2) Zb)) (Zt 8) (Zd (Zz 9 (dM "list" N9 (U 4) (O (U 8) Zb)))
 (Zd (Zz 10 (L Yi (L Yi (U 9) (dC (.int 1))) (dM "list" N9 (dS JS (U 4) (Jz (L Yi (U 9) (dC (.int 1)))) Sl) (O (U 8) Zb))))
 (Zz 7 (L Yi (dL (Wg (Va (U 7)) [none,some 9,some 10] (Zt 0) (dB (L Ag (U 0) (Yq (O (U 1) (O (U 2) Zb))))) (U 0))) (dL (T7 (O (Yq (O (U 9) (O (U 10) Zb))) Zb))))))))
 (Zd (P8 11 (Va (U 4)) [none] (Zt 0))
 (Zd (P8 12 (Va (U 4)) [none] (Zt 0))
 (Zd (Zz 13 (dC (.int 0)))
 (Zd (Zz 14 (L V8 (L Wc (U 6) (dC (.int 3))) (dC (.int 20))))
 (Zd (Uv (Va (U 7)) (Mc 2 (Y2 (Zt 15) (Y2 (Zt 16) T4))) (Zd (Km 12 (U 15) (O (U 14) Zb))
 (Zd (Km 11 (U 16) (O (U 14) Zb))
 (Zd (Km 12 (U 16) (O (L Yi (U 14) (dC (.int 1))) Zb))
 (Zd (Km 11 (U 15) (O (L Yi (U 14) (dC (.int 1))) Zb))
 (Zd (Zz 13 (L LL (U 13) (L Ry (dC (.int 1)) (L Yi (U 14) (dC (.int 1))))))
 (Zz 14 (L Yi (U 14) (dC (.int 2))))))))))
 (Zd (Zz 17 (L V8 (L Wc (U 6) (dC (.int 60))) (L Ry (dC (.int 1)) (U 2))))
 (Zd (Zz 18 (U 17))
 (Zd (Qy 19 (T7 Zb))
 (Zd (Uv (Ow (U 4)) (Mc 2 (Y2 (Zt 20) (Y2 (Zt 8) T4))) (Zd (U6 19 Wf (O (Yq (O (U 8) (O (L Mz (L Md (L Ir (U 18) (U 8)) (dC (.int 1))) (dC (.int 0))) (O (dF tupleD (O (dL (dF Ma (O (MJ 11 (U 20)) Zb))) Zb)) (O (dF tupleD (O (dL (dF Ma (O (MJ 12 (U 20)) Zb))) Zb)) Zb))))) Zb))
 (Zz 18 (L Cu (U 18) (L Ry (dC (.int 1)) (U 8))))))
 (Zd (Zz 21 (L V8 (L Wc (U 6) (dC (.int 2000))) (U 5)))
 (Zd (Qy 19 (L LV (dS JS (dP 19) (Jz (U 21)) Sl) (dS JS (dP 19) Sl (Jz (U 21)))))
 (Zd (Zz 22 (L Wc (U 6) (dC (.int 40000))))
 (Zd (Zz 23 (dL (Wg (U8 (O (U 2) Zb)) [none,some 22,some 0,some 1] (Zt 0) Wh (Yq (O (Yj Vz (O (U 1) (O (U 0) Zb))) (O (L Yk (dL (T7 (O (dC (.str "given")) (O (dC (.str "made")) Zb)))) (L V8 (L Wc (Yj Wj (O (U 2) (O (L Yi (U 3) (U 0)) Zb))) (dC (.int 4096))) (dC (.int 2)))) Zb))))))
 (Wt (Yq (O (dF tupleD (O (U 23) Zb)) (O (dF tupleD (O (dP 19) Zb)) (O (U 13) (O (U 17) Zb)))))))))))))))))))))))))
def S8:Z Dat->Rs:=Wp 24 4 J9
def G5:Ev->Fl:=(Zd (Zz 3 (L Yk (L Yk (L Yk (U 0) (dC (.int 1))) (U 2)) (dC (.int 2))))
 (Wt (L Mz (dF Uh (O (dL (Wg (Va (U 3)) [none,some 1] (Zt 0) (dB (L Mz (L Md (L Ir (L Yk (U 1) (dC (.int 0))) (U 0)) (dC (.int 1))) (dC (.int 1)))) (U 0))) Zb)) (dF Uh (O (U 3) Zb)))))
def Jk:Z Dat->Rs:=Wp 4 3 G5
def Mn:Ev->Fl:=(Zd (Cz (L Yk (L Yk (U 0) (dC (.int 1))) (U 2)) (Mc 4 (Y2 (Zt 3) (Y2 (Zt 4) (Y2 (Zt 5) (Y2 (Zt 6) T4))))))
 (Zd (Zz 7 (L Yk (U 1) (dC (.int 0))))
 (Zd (Uv (Va (U 5)) (Zt 8) (Zz 7 (L Cu (U 7) (L Ry (dC (.int 1)) (U 8)))))
 (Zd (Uv (Va (U 6)) (Zt 8) (Zz 7 (L LL (U 7) (L Ry (dC (.int 1)) (U 8)))))
 (Wt (Yq (O (U 7) (O (L Cu (L Yk (U 1) (dC (.int 1))) (L Ry (dC (.int 1)) (U 3))) Zb))))))))
def Mr:Z Dat->Rs:=Wp 9 3 Mn
def Qj:Ev->Fl:=(Zd (Qy 1 (T7 (O (Yq (O (L Yk (U 0) (dC (.int 2))) (O (L Yk (U 0) (dC (.int 3))) Zb))) Zb)))
 (Zd (Bi 2 (L Yk (dP 1) (dC (.int 0))) (dC (.bl true)))
 (Zd (Zz 3 (dC (.int 0)))
 (Zd (K2 (dB (L QO (U 3) (dF Uh (O (dP 1) Zb)))) (Zd (Uv (U8 (O (dF Uh (O (L Yk (U 0) (dC (.int 1))) Zb)) Zb)) (Zt 4) (Sy (dT (Yj Jk (O (U 0) (O (L Yk (dP 1) (U 3)) (O (U 4) Zb))))) (Zd (Zz 5 (Yj Mr (O (U 0) (O (L Yk (dP 1) (U 3)) (O (U 4) Zb)))))
 (Sy (dB (NT true 2 (U 5))) (Zd (Nm 2 (U 5) (dC (.bl true)))
 (U6 1 Wf (O (U 5) Zb))) Tr)) Tr))
 (Zz 3 (L Yi (U 3) (dC (.int 1))))))
 (Ec 1)))))
def Mf:Z Dat->Rs:=Wp 6 1 Qj
def M7:Ev->Fl:=(Zd (Uv (U8 (O (dF Uh (O (L Yk (U 0) (dC (.int 1))) Zb)) Zb)) (Zt 3) (Sy (Sc (dB (L Mz (L Yk (L Yk (L Yk (U 0) (dC (.int 1))) (U 3)) (dC (.int 0))) (U 2))) (dT (Yj Jk (O (U 0) (O (U 1) (O (U 3) Zb)))))) (Wt (L Yk (dL (T7 (O (dU LS (dC (.int 1))) (O (dC (.int 1)) Zb)))) (dF B1 (O (L Yk (L Yk (L Yk (U 0) (dC (.int 1))) (U 3)) (dC (.int 1))) Zb)))) Tr))
 (Wt (dC (.int 0))))
def Dc:Z Dat->Rs:=Wp 4 3 M7
def Qk:Ev->Fl:=(Zd (Zz 2 (Yj Wj (O (U 0) (O (U 1) Zb))))
 (Zd (Zz 3 (L Yi (dC (.int 2)) (L V8 (U 2) (dC (.int 2)))))
 (Zd (Zz 4 (L Yi (dC (.int 1)) (L V8 (L Wc (U 2) (dC (.int 2))) (dC (.int 2)))))
 (Zd (Zz 5 (L Yk (dL (T7 (O (U 3) (O (dC (.int 1)) Zb)))) (L V8 (L Wc (U 2) (dC (.int 4))) (dC (.int 2)))))
 (Zd (Zz 6 (dL (Wg (U8 (O (U 5) Zb)) [none,some 2] (Zt 0) Wh (Yq (O (Yj Vz (O (L Wc (U 1) (dC (.int 8))) (O (U 0) Zb))) (O (dC (.str "given")) Zb))))))
 (Zd (Zz 6 (L Yi (U 6) (dL (Wg (U8 (O (U 4) Zb)) [none,some 2,some 5] (Zt 0) Wh (Yq (O (Yj Vz (O (L Wc (U 1) (dC (.int 8))) (O (L Yi (U 2) (U 0)) Zb))) (O (dC (.str "made")) Zb)))))))
 (Zd (Qy 7 (T7 Zb))
 (Zd (Zz 8 (dC (.int 1)))
 (Zd (Uv (U8 (O (U 3) Zb)) (Zt 9) (Zd (Zz 10 (Yj Wj (O (U 0) (O (L Yi (L Yi (U 1) (dC (.int 1))) (U 9)) Zb))))
 (Zd (Zz 11 (dL (Wg (U8 (O (U 4) Zb)) [none,some 5,some 4,some 10] (Zt 0) Wh (L Yi (U 1) (L V8 (L Yi (U 3) (U 0)) (U 2))))))
 (Zd (Zz 12 (dL (Wg (U8 (O (U 4) Zb)) [none,some 5,some 4,some 10] (Zt 0) Wh (L Yi (U 1) (L V8 (L Yi (L Wc (U 3) (dC (.int 2))) (U 0)) (U 2))))))
 (Zd (Qy 13 (L LV (dL (Wg (Va (U 11)) [none] (Zt 0) Wh (Yq (O (U 0) (O (dC (.bl true)) Zb))))) (dL (Wg (Va (U 12)) [none] (Zt 0) Wh (Yq (O (U 0) (O (dC (.bl false)) Zb)))))))
 (Zd (U6 13 Rw (O (L V8 (L Wc (U 10) (dC (.int 4))) (L Yi (dF Uh (O (dP 13) Zb)) (dC (.int 1)))) (O (Yq (O (L V8 (U 9) (U 5)) (O (dC (.bl false)) Zb))) Zb)))
 (Zd (Zz 14 (dC (.int 0)))
 (Uv (Ow (L Yi (dL (T7 (O (Yq (O (L V8 (U 9) (U 5)) (O (dC (.bl true)) Zb))) Zb))) (dP 13))) (Mc 2 (Y2 (Zt 15) (Y2 (Zt 16) T4))) (Zd (Zz 17 (U 8))
 (Zd (Sy (dB (L Mz (U 15) (dF Uh (O (dP 13) Zb)))) (Zz 17 (dC (.int 0))) Tr)
 (Zd (U6 7 Wf (O (Yq (O (L Yk (U 16) (dC (.int 0))) (O (L Yk (U 16) (dC (.int 1))) (O (Yq (O (U 14) Zb)) (O (Yq (O (U 17) Zb)) Zb))))) Zb))
 (Zd (Zz 14 (U 17))
 (Zz 8 (L Yi (U 8) (dC (.int 1))))))))))))))))
 (Wt (Yq (O (dF tupleD (O (U 6) Zb)) (O (dF tupleD (O (dP 7) Zb)) (O (dC (.int 1)) (O (dC (.int 0)) Zb)))))))))))))))
def Mv:Z Dat->Rs:=Wp 18 2 Qk
def Re:Ev->Fl:=(Zd (Cz (U 0) (Mc 4 (Y2 (Zt 5) (Y2 (Zt 6) (Y2 (Zt 7) (Y2 (Zt 8) T4))))))
 (Zd (Zz 9 (L Md (U 8) (L Oi (L Ry (dC (.int 1)) (U 1)) (dC (.int 1)))))
 (Zd (Zz 8 (L LL (L LL (U 9) (L Ry (dF B1 (O (U 3) Zb)) (U 1))) (L Ry (L Ir (U 8) (U 1)) (L Yi (U 1) (dC (.int 1))))))
 (Zd (Zz 10 (dL (Wg (Va (U 6)) [none,none,none,none,some 1] (Mc 4 (Y2 (Zt 0) (Y2 (Zt 1) (Y2 (Zt 2) (Y2 (Zt 3) T4))))) Wh (Yq (O (L Yi (U 0) (dF B1 (O (L OY (U 0) (U 4)) Zb))) (O (U 1) (O (U 2) (O (U 3) Zb))))))))
 (Wt (Yq (O (L Nr (L Nr (dS JS (U 5) Sl (Jz (U 1))) (Yq (O (Yq (O (U 4) (O (U 2) Zb))) Zb))) (dS JS (U 5) (Jz (U 1)) Sl)) (O (dF tupleD (O (U 10) Zb)) (O (U 7) (O (U 8) Zb))))))))))
def Rh:Z Dat->Rs:=Wp 11 5 Re
def Tn:Ev->Fl:=(Zd (Zz 2 (L Yk (U 0) (dC (.int 2))))
 (Zd (Uv (Va (L Yk (U 0) (dC (.int 1)))) (Mc 4 (Y2 (Zt 3) (Y2 (Zt 4) (Y2 (Zt 5) (Y2 (Zt 6) T4))))) (Uv (Va (L Nr (U 5) (U 6))) (Zt 7) (Zz 2 (L LL (U 2) (L Ry (dC (.int 1)) (U 7))))))
 (Zd (Zz 7 (L Yk (dL (Wg (U8 (O (dC (.int 64)) Zb)) [none,some 2] (Zt 0) (dB (L Mz (L Md (L Ir (U 1) (U 0)) (dC (.int 1))) (dC (.int 0)))) (U 0))) (L V8 (U 1) (dC (.int 3)))))
 (Zd (Qy 8 (T7 Zb))
 (Zd (Uv (Ow (L Yk (U 0) (dC (.int 1)))) (Mc 2 (Y2 (Zt 9) (Y2 (Zt 10) T4))) (Zd (Cz (U 10) (Mc 4 (Y2 (Zt 3) (Y2 (Zt 4) (Y2 (Zt 5) (Y2 (Zt 6) T4))))))
 (Zd (Sy (dB (L Mz (L Md (L Ir (L Wc (U 1) (dC (.int 3))) (U 9)) (dC (.int 1))) (dC (.int 1)))) (Zd (Zz 5 (dF tupleD (O (dL (dF Ma (O (L Nr (U 5) (Yq (O (U 7) Zb))) Zb))) Zb)))
 (Zz 6 (dF tupleD (O (dL (dF Ma (O (L Nr (U 6) (Yq (O (U 7) Zb))) Zb))) Zb)))) Tr)
 (U6 8 Wf (O (Yq (O (U 3) (O (U 4) (O (U 5) (O (U 6) Zb))))) Zb)))))
 (Wt (Yq (O (L Yk (U 0) (dC (.int 0))) (O (dF tupleD (O (dP 8) Zb)) (O (L LL (L Yk (U 0) (dC (.int 2))) (L Ry (dC (.int 1)) (U 7))) (O (L Yk (U 0) (dC (.int 3))) Zb)))))))))))
def Jm:Z Dat->Rs:=Wp 11 2 Tn
def Uu:Ev->Fl:=(Zd (Zz 4 (Yj Wj (O (U 0) (O (U 1) Zb))))
 (Zd (Sy (dB (L Mz (L V8 (U 4) (dC (.int 3))) (dC (.int 0)))) (Zz 5 (Yj Mv (O (U 0) (O (L Yi (U 1) (dC (.int 1))) Zb)))) (Zz 5 (Yj S8 (O (U 0) (O (L Yi (U 1) (dC (.int 1))) (O (L Yi (dC (.int 1)) (L V8 (L Wc (U 4) (dC (.int 3))) (U 2))) (O (L V8 (L Wc (U 4) (dC (.int 30))) (L Yi (U 3) (dC (.int 1)))) Zb)))))))
 (Zd (Zz 6 (L Wc (U 4) (dC (.int 1000))))
 (Zd (Sy (dB (L Mz (L V8 (U 6) (dC (.int 4))) (dC (.int 0)))) (Zd (Zz 7 (L V8 (L Wc (U 6) (dC (.int 4))) (dF Uh (O (L Yk (U 5) (dC (.int 1))) Zb))))
 (Zz 5 (Yq (O (L Yk (U 5) (dC (.int 0))) (O (L Nr (dS JS (L Yk (U 5) (dC (.int 1))) Sl (Jz (U 7))) (dS JS (L Yk (U 5) (dC (.int 1))) (Jz (L Yi (U 7) (dC (.int 1)))) Sl)) (O (L Yk (U 5) (dC (.int 2))) (O (L Yk (U 5) (dC (.int 3))) Zb))))))) Tr)
 (Zd (Zz 8 (L Yk (dL (T7 (O (dC (.int 0)) (O (dC (.int 0)) (O (dC (.int 0)) (O (dC (.int 0)) (O (dC (.int 1)) (O (dC (.int 1)) (O (dC (.int 2)) (O (L Oi (dC (.int 10)) (dF Uh (O (L Yk (U 5) (dC (.int 0))) Zb))) Zb)))))))))) (L V8 (L Wc (U 6) (dC (.int 100))) (dC (.int 8)))))
 (Zd (Uv (U8 (O (U 8) Zb)) (Zt 9) (Zd (Zz 10 (L V8 (L Yi (L Wc (U 6) (dC (.int 800))) (L Eu (dC (.int 7)) (U 9))) (L Yi (dF Uh (O (L Yk (U 5) (dC (.int 0))) Zb)) (dC (.int 1)))))
 (Zd (Zz 11 (L Yk (dL (T7 (O (dC (.str "given")) (O (dC (.str "made")) Zb)))) (L V8 (L Yi (L Wc (U 6) (dC (.int 10000))) (U 9)) (dC (.int 2)))))
 (Zz 5 (Yj Rh (O (U 5) (O (U 10) (O (U 11) (O (L Mz (L V8 (L Yi (L Wc (U 6) (dC (.int 20000))) (L Wc (U 9) (dC (.int 2)))) (dC (.int 2))) (dC (.int 1))) (O (L Yk (dC (.str "abcdefghij")) (U 9)) Zb))))))))))
 (Zd (Sy (dB (L Mz (L V8 (L Wc (U 6) (dC (.int 30))) (dC (.int 3))) (dC (.int 0)))) (Zz 5 (Yj Jm (O (U 5) (O (L Wc (U 4) (dC (.int 17))) Zb)))) Tr)
 (Wt (U 5)))))))))
def Q0:Z Dat->Rs:=Wp 12 4 Uu
def Rv:Ev->Fl:=(Zd (Zz 1 (dL (T7 Zb)))
 (Zd (Uv (Va (U 0)) (Mc 3 (Y2 (Zt 2) (Y2 (Zt 3) (Y2 (Zt 4) T4)))) (Zz 1 (L Yi (L Yi (U 1) (dL (Wg (Va (U 3)) [none,some 2] (Zt 0) Wh (Yq (O (U 1) (O (dC (.int 1)) (O (U 0) Zb))))))) (dL (Wg (Va (U 4)) [none,some 2] (Zt 0) Wh (Yq (O (U 1) (O (dU LS (dC (.int 1))) (O (U 0) Zb)))))))))
 (Wt (U 1))))
def Jc:Z Dat->Rs:=Wp 5 1 Rv
def Pj:Ev->Fl:=(Wt (L NZ (dF Uh (O (dL (Wg (Va (U 0)) [none,some 1] (Zt 0) (dB (L Mz (L Md (U 1) (L Yk (U 0) (dC (.int 0)))) (L Yk (U 0) (dC (.int 1))))) (U 0))) Zb)) (dC (.int 0))))
def Ji:Z Dat->Rs:=Wp 2 2 Pj
def Mh:Ev->Fl:=(Zd (Zz 3 (Yj Jc (O (U 0) Zb)))
 (Zd (Qy 4 (Wg (U8 (O (dF Uh (O (U 3) Zb)) Zb)) [none,some 2,some 1,some 3] (Zt 0) (dB (L Ag (L Yk (U 1) (U 0)) (Yj Ji (O (L Yk (L Yk (U 3) (U 0)) (dC (.int 2))) (O (U 2) Zb))))) (Yq (O (dC (.str "gate")) (O (U 0) Zb)))))
 (Zd (Uv (Va (U 0)) (Mc 3 (Y2 (Zt 5) (Y2 (Zt 6) (Y2 (Zt 7) T4)))) (Zd (Zz 8 (dL (Wg (PK (O (U 3) (O (U 2) Zb))) [none,none,some 5] (Mc 2 (Y2 (Zt 0) (Y2 (Zt 1) T4))) (Sc (dT (U 1)) (dB (L Mz (L Yk (U 0) (dC (.int 0))) (U 2)))) (L Yk (U 0) (dC (.int 1))))))
 (Zd (Zz 9 (L Yk (dL (T7 (O (dC (.int 1)) (O (dU LS (dC (.int 1))) Zb)))) (L Md (L Ir (U 1) (U 5)) (dC (.int 1)))))
 (Sy (Sc (dB (L LX (U 9) (U 8))) (dB (L Ov (L Oi (dC (.int 0)) (U 9)) (U 8)))) (U6 4 Wf (O (Yq (O (dC (.str "wire")) (O (U 5) Zb))) Zb)) Tr))))
 (Ec 4))))
def Mi:Z Dat->Rs:=Wp 10 3 Mh
def Rl:Ev->Fl:=(Zd (Qy 3 (T7 Zb))
 (Zd (Uv (U8 (O (dF Uh (O (L Yk (U 0) (dC (.int 1))) Zb)) Zb)) (Zt 4) (Sy (Sc (dB (L Mz (L Yk (L Yk (L Yk (U 0) (dC (.int 0))) (L Yk (L Yk (L Yk (U 0) (dC (.int 1))) (U 4)) (dC (.int 0)))) (dC (.int 1))) (dC (.str "given")))) (dT (Yj Jk (O (U 0) (O (L Yk (U 2) (dC (.int 0))) (O (U 4) Zb)))))) (U6 3 Wf (O (Yq (O (dC (.str "step")) (O (U 4) Zb))) Zb)) Tr))
 (Wt (L Yi (dP 3) (Yj Mi (O (U 1) (O (L Yk (L Yk (U 2) (dC (.int 0))) (dC (.int 1))) (O (L Yk (U 2) (dC (.int 1))) Zb))))))))
def Je:Z Dat->Rs:=Wp 5 3 Rl
def Hj:Ev->Fl:=(Wt (Yq (O (Yq (O (L Yk (U 0) (dC (.int 2))) (O (L Yk (U 0) (dC (.int 3))) Zb))) (O (dF tupleD (O (dL (Wg (Va (Yj Jc (O (U 1) Zb))) [none,some 0] (Zt 0) Wh (Yj Ji (O (L Yk (U 0) (dC (.int 2))) (O (L Yk (U 1) (dC (.int 3))) Zb))))) Zb)) Zb))))
def R9:Z Dat->Rs:=Wp 2 2 Hj
def T8:Ev->Fl:=(Zd (Qy 6 (T7 Zb))
 (Zd (Zz 7 (L Oi (L Ry (dC (.int 1)) (dF Uh (O (L Yk (U 2) (dC (.int 0))) Zb))) (dC (.int 1))))
 (Zd (Zz 8 (Yj Wj (O (U 0) (O (U 1) Zb))))
 (Zd (Uv (Ow (U 3)) (Mc 2 (Y2 (Zt 9) (Y2 (Zt 10) T4))) (Zd (Zz 11 (L V8 (L Wc (Yj Wj (O (U 0) (O (L Yi (U 1) (L V8 (U 9) (dC (.int 12)))) Zb))) (L Yi (dC (.int 7)) (U 9))) (dC (.int 24))))
 (Sy (Fc (Sc (dB (L Mz (Yj Dc (O (U 2) (O (U 10) (O (U 5) Zb)))) (U 4))) (dB (L NZ (U 11) (dC (.int 0))))) (dB (L Mz (U 11) (dC (.int 5))))) (Zd (Zz 12 (U 7))
 (Zd (Sy (dB (L Mz (L V8 (U 8) (dC (.int 3))) (dC (.int 1)))) (Zz 12 (L Cu (U 7) (L Ry (dC (.int 1)) (L V8 (L Yi (L Wc (U 8) (dC (.int 3))) (U 9)) (dF Uh (O (L Yk (U 2) (dC (.int 0))) Zb)))))) Tr)
 (Sy (dB (L Ov (Yq (O (U 12) (O (L Md (L Yk (U 10) (dC (.int 1))) (U 12)) Zb))) (dP 6))) (U6 6 Wf (O (Yq (O (U 12) (O (L Md (L Yk (U 10) (dC (.int 1))) (U 12)) Zb))) Zb)) Tr))) Tr)))
 (Wt (dF tupleD (O (dP 6) Zb)))))))
def Qx:Z Dat->Rs:=Wp 13 6 T8
def Tq:Ev->Fl:=(Zd (Qy 4 (T7 Zb))
 (Zd (Uv (U8 (O (dF Uh (O (L Yk (U 2) (dC (.int 0))) Zb)) Zb)) (Zt 5) (Sy (dB (L Mz (L Yk (L Yk (L Yk (U 2) (dC (.int 0))) (U 5)) (dC (.int 1))) (dC (.str "made")))) (Zd (Qy 6 (T7 Zb))
 (Zd (Uv (Va (dL (T7 (O (dC (.int 1)) (O (dU LS (dC (.int 1))) Zb))))) (Zt 7) (Zd (Zz 8 (Yj Wj (O (U 0) (O (L Yi (U 1) (U 5)) Zb))))
 (Zd (Zz 9 (Yj Qx (O (U 0) (O (L Yi (L Yi (U 1) (L Eu (dC (.int 2)) (U 5))) (L Wc (L Oi (dC (.int 1)) (U 7)) (dC (.int 2)))) (O (U 2) (O (U 3) (O (U 7) (O (U 5) Zb))))))))
 (Zd (Zz 10 (Yq (O (U 9) Zb)))
 (Zd (Sy (dB (L Mz (L V8 (U 8) (dC (.int 5))) (dC (.int 3)))) (Zz 10 (Yq (O (dS JS (U 9) Sl (Jz (dC (.int 1)))) (O (dS JS (U 9) (Jz (dC (.int 1))) Sl) Zb)))) Tr)
 (Zd (Sy (dB (L Mz (L V8 (U 8) (dC (.int 17))) (dC (.int 4)))) (Zz 10 (Yq Zb)) Tr)
 (U6 6 Wf (O (U 10) Zb))))))))
 (U6 4 Wf (O (Yq (O (U 5) (O (L Yk (dP 6) (dC (.int 0))) (O (L Yk (dP 6) (dC (.int 1))) Zb)))) Zb)))) Tr))
 (Wt (dF tupleD (O (dP 4) Zb)))))
def Js:Z Dat->Rs:=Wp 11 4 Tq
def Rx:Ev->Fl:=(Zd (Qy 1 (T7 Zb))
 (Zd (Uv (Va (U 0)) (Mc 3 (Y2 (Zt 2) (Y2 (Zt 3) (Y2 (Zt 4) T4)))) (Zd (Qy 5 (T7 Zb))
 (Zd (Uv (Va (dL (T7 (O (U 3) (O (U 4) Zb))))) (Zt 6) (Zd (Zz 7 (dL (T7 Zb)))
 (Zd (Uv (Va (U 6)) (Zt 8) (Zz 7 (L Yi (U 7) (dL (Wg (Va (U 8)) [none] (Zt 0) Wh (Yq (O (U 0) Zb)))))))
 (U6 5 Wf (O (dF tupleD (O (U 7) Zb)) Zb)))))
 (U6 1 Wf (O (Yq (O (U 2) (O (L Yk (dP 5) (dC (.int 0))) (O (L Yk (dP 5) (dC (.int 1))) Zb)))) Zb)))))
 (Wt (dF tupleD (O (dP 1) Zb)))))
def S3:Z Dat->Rs:=Wp 9 1 Rx
def Ql:Ev->Fl:=(Zd (Zz 1 (dC (.int 0)))
 (Zd (Uv (Va (U 0)) (Mc 3 (Y2 (Zt 2) (Y2 (Zt 3) (Y2 (Zt 4) T4)))) (Zd (Zz 5 (dF NM (O (dL (Wg (Va (L Nr (U 3) (U 4))) [none] (Zt 0) Wh (dF Uh (O (U 0) Zb)))) Zb)))
 (Zd (Zz 1 (L Yi (U 1) (U 5)))
 (Sy (dB (L NZ (U 5) (dC (.int 8)))) (Wt (dC (.bl false))) Tr))))
 (Wt (L VO (U 1) (dC (.int 40))))))
def Qi:Z Dat->Rs:=Wp 6 1 Ql
def My:Ev->Fl:=(Zd (Zz 2 (Yj RA (O (U 0) (O (U 1) Zb))))
 (Zd (Zz 3 (Yj R9 (O (U 0) (O (U 1) Zb))))
 (Zd (Zz 4 (dL (Wg (U8 (O (dF Uh (O (L Yk (U 3) (dC (.int 1))) Zb)) Zb)) [none,some 2] (Zt 0) Wh (C9 "Play" "level" J5 (U 1) (O (U 0) Zb)))))
 (Zd (Sy (Fc (dB (L Ag (C9 "Play" "stand" J7 (U 2) Zb) (L Yk (U 3) (dC (.int 0))))) (Fc (Sf (dT (dI "tuple" (C9 "Play" "stand" J7 (U 2) Zb)))) (dB (L Ag (dF tupleD (O (U 4) Zb)) (L Yk (U 3) (dC (.int 1))))))) (Wt (dC (.bl false))) Tr)
 (Zd (Sy (dB (L NZ (dF Uh (O (dL (Wg (Va (U 4)) [none] (Zt 0) (Sf (dT (dI "bool" (U 0)))) (U 0))) Zb)) (dC (.int 0)))) (Wt (dC (.bl false))) Tr)
 (Zd (Qy 5 (Lv "Play" "moves" Jf (U 2) Zb))
 (Zd (Sy (Fc (Sf (dT (dI "list" (dP 5)))) (dB (L Ag (dP 5) (Yj Je (O (U 0) (O (U 1) (O (U 3) Zb))))))) (Wt (dC (.bl false))) Tr)
 (Zd (U6 5 Wf (O (Yq (O (dC (.str "step")) (O (dC (.int 0)) Zb))) Zb))
 (Wt (L Mz (dL (Lv "Play" "moves" Jf (U 2) Zb)) (Yj Je (O (U 0) (O (U 1) (O (U 3) Zb))))))))))))))
def Uc:Z Dat->Rs:=Wp 6 2 My
def OJ:Ev->Fl:=(Zd (Zz 1 (Yj Q0 (O (U 0) (O (dC (.int 0)) (O (dC (.int 3)) (O (dC (.int 3)) Zb))))))
 (Zd (Zz 2 (Yj Js (O (U 0) (O (dC (.int 12)) (O (U 1) (O (Yj Mf (O (U 1) Zb)) Zb))))))
 (Zd (Zz 3 (Yj Ac (O (U 2) Zb)))
 (Zd (Sy (dB (L Ag (U 3) (Yj S3 (O (U 2) Zb)))) (Wt (dC (.bl false))) Tr)
 (Zd (Sy (Sc (dT (Yj Qi (O (U 2) Zb))) (Sf (dT (Yj Uc (O (U 1) (O (U 3) Zb)))))) (Wt (dC (.bl false))) Tr)
 (Wt (MI (Yj Uc (O (U 1) (O (U 2) Zb))) (Yj Uc (O (U 1) (O (U 2) Zb))))))))))
def UM:Z Dat->Rs:=Wp 4 1 OJ
theorem Jj{N P:Z Str}(h1:sc.kind=.function:=by rfl)(h2:sc.isCoroutine=false:=by rfl)(h3:sc.isGenerator=false:=by rfl)(h4:N.Nodup:=by ext)(h5:N.take P.length=P:=by rfl)(h6:∀ x∈P,sc.names.lookup x=some .local\/sc.names.lookup x=some .cell:=by ext)(h7:∀ y∈sc.names,y.2≠.free:=by ext):FnScope N P sc:=⟨h1,h2,h3,h4,h5,h6,h7⟩
def Jh(i:Nat):C2:=PySem.Challenge.pw_calmwires_k61_moves.main.body.getD i (.Pass ⟨0,0,0,0⟩)
abbrev K8:C2:=Jh 2
theorem d4:FnScope ["graph","wire"] ["graph","wire"] (Z9 K8):=Jj
abbrev Ix:C2:=Jh 3
theorem g7:FnScope KA KA (Z9 Ix):=Jj
abbrev Ez:C2:=Jh 4
theorem B3:FnScope KA KA (Z9 Ez):=Jj
abbrev RU:C2:=Jh 5
theorem Kx:FnScope ["some","number","place"] ["some"] (Z9 RU):=Jj
abbrev Im:C2:=Jh 7
theorem c':FnScope ["number","place"] ["number","place"] (Z9 Im):=Jj
abbrev Fd:C2:=Jh 6
theorem hg:FnScope ["number"] ["number"] (Z9 Fd):=Jj
abbrev QY:C2:=Jh 9
theorem hD:FnScope KN KN (Z9 QY):=Jj
abbrev L7:C2:=Jh 10
theorem eR:FnScope ["gate","code"] ["gate","code"] (Z9 L7):=Jj
abbrev RP:C2:=Jh 12
theorem WQ:FnScope ["graph","stand","step","takes"] ["graph","stand","step"] (Z9 RP):=Jj
abbrev S6:C2:=Jh 13
theorem C5:FnScope ["graph","stand"] ["graph","stand"] (Z9 S6):=Jj
abbrev Vh:C2:=Jd (Jh 15) 2
theorem Jr:FnScope ["self","code"] ["self","code"] (Z9 Vh):=Jj
abbrev Qa:C2:=Jh 18
theorem Uf:FnScope ["side","pose","high","toward","away"] ["side","pose"] (Z9 Qa):=Jj
abbrev Vp:C2:=Jd (Jh 15) 4
theorem Qp:FnScope ["self","stand","here"] ["self","stand"] (Z9 Vp):=Jj
abbrev Vs:C2:=Jd (Jh 15) 3
theorem Ug:FnScope ["self","pose","late","gates","wires"] ["self","pose"] (Z9 Vs):=Jj
abbrev Es:C2:=Jh 16
theorem D5:FnScope ["net","gates","part"] ["net"] (Z9 Es):=Jj
abbrev Ex:C2:=Jh 17
theorem Up:FnScope ["net","sides","first","part","middle","end"] ["net"] (Z9 Ex):=Jj
abbrev Rg:C2:=Jd (Jh 20) 1
theorem Od:FnScope ["self"] ["self"] (Z9 Rg):=Jj
abbrev S4:C2:=Jd (Jh 20) 2
theorem Oy:FnScope ["self","g"] ["self","g"] (Z9 S4):=Jj
abbrev Ra:C2:=Jd (Jh 20) 3
theorem Oo:FnScope ["self"] ["self"] (Z9 Ra):=Jj
abbrev Qo:C2:=Jh 22
theorem Jp:FnScope ["gates","single","gate"] ["gates"] (Z9 Qo):=Jj
abbrev Lc:C2:=Jh 21
theorem ge:FnScope ["net"] ["net"] (Z9 Lc):=Jj
abbrev El:C2:=Jh 24
theorem Sr:FnScope ["_law_script","_law_k","_law_number"] ["_law_script","_law_k"] (Z9 El):=Jj
abbrev Da:C2:=Jh 25
theorem Wm:FnScope ["_law_cell","_law_k","_law_letters","_law_size","_law_at","_law_word_here","_law_j","_law_shift"] ["_law_cell","_law_k"] (Z9 Da):=Jj
abbrev Rn:C2:=Jh 26
theorem Ub:FnScope ["_law_script","_law_first","_law_n","_law_order_here","_law_w","_law_cell","_law_at","_law_far"] ["_law_script","_law_first","_law_n"] (Z9 Rn):=Jj
abbrev Me:C2:=Jh 27
theorem Vu:FnScope ["_law_script","_law_first","_law_many","_law_size","_law_pairs","_law_k","_law_cell","_law_i","_law_j"] VL (Z9 Me):=Jj
abbrev Vf:C2:=Jh 28
theorem Zm:FnScope ["_law_script","_law_first","_law_n","_law_many","_law_order_here","_law_size","_law_cell","_law_pairs","_law_w","_law_one","_law_two","_law_takes","_law_fills","_law_marks","_law_spots","_law_i","_law_j","_law_code","_law_seen","_law_steps","_law_d","_law_turn","_law_word_here","_law_wires"] SS (Z9 Vf):=Jj
abbrev S7:C2:=Jh 29
theorem Ke:FnScope ["_law_graph_here","_law_stand","_law_step","_law_takes"] LJ (Z9 S7):=Jj
abbrev Mx:C2:=Jh 30
theorem Yy:FnScope ["_law_graph_here","_law_stand","_law_step","_law_wire","_law_up_here","_law_takes","_law_fills","_law_marks","_law_spot"] LJ (Z9 Mx):=Jj
abbrev Mb:C2:=Jh 31
theorem V7:FnScope ["_law_graph_here","_law_some","_law_seen","_law_at","_law_step","_law_there"] ["_law_graph_here"] (Z9 Mb):=Jj
abbrev Sx:C2:=Jh 32
theorem Gu:FnScope ["_law_graph_here","_law_stand","_law_wire","_law_step"] NV (Z9 Sx):=Jj
abbrev Wo:C2:=Jh 33
theorem Zu:FnScope ["_law_script","_law_first","_law_head","_law_many","_law_own","_law_least","_law_wires","_law_steps","_law_spots","_law_k","_law_cell","_law_chain","_law_back","_law_both","_law_last","_law_at","_law_deed","_law_fill"] ["_law_script","_law_first"] (Z9 Wo):=Jj
abbrev J6:C2:=Jh 34
theorem V2:FnScope ["_law_graph_here","_law_at","_law_kind","_law_up_here","_law_word_here","_law_wires","_law_steps","_law_marks","_law_code","_law_low","_law_rows"] WF (Z9 J6):=Jj
abbrev Tl:C2:=Jh 35
theorem Zy:FnScope ["_law_graph_here","_law_cell","_law_there","_law_wire","_law_up_here","_law_takes","_law_fills","_law_spot","_law_steps","_law_k","_law_step"] ["_law_graph_here","_law_cell"] (Z9 Tl):=Jj
abbrev Q2:C2:=Jh 36
theorem Y4:FnScope ["_law_script","_law_first","_law_most","_law_arrows_here","_law_cell","_law_graph_here","_law_more","_law_gone_here","_law_many","_law_k","_law_at","_law_kind"] UG (Z9 Q2):=Jj
abbrev Ti:C2:=Jh 37
theorem Ud:FnScope ["_law_net","_law_some","_law_wire","_law_rises","_law_falls"] KC (Z9 Ti):=Jj
abbrev Di:C2:=Jh 38
theorem b':FnScope MG MG (Z9 Di):=Jj
abbrev T5:C2:=Jh 39
theorem Ws:FnScope ["_law_net","_law_code","_law_levels","_law_gates_here","_law_some","_law_wire","_law_rises","_law_falls","_law_ways","_law_mode"] ["_law_net","_law_code","_law_levels"] (Z9 T5):=Jj
abbrev Ru:C2:=Jh 40
theorem Mg:FnScope ["_law_graph_here","_law_net","_law_play","_law_some","_law_step"] NQ (Z9 Ru):=Jj
abbrev Jg:C2:=Jh 43
theorem Oe:FnScope KQ KQ (Z9 Jg):=Jj
abbrev Qw:C2:=Jh 44
theorem Yt:FnScope ["_law_script","_law_first","_law_graph_here","_law_some","_law_want_here","_law_wire","_law_rows","_law_full","_law_cell","_law_k","_law_stand","_law_bit","_law_care"] SR (Z9 Qw):=Jj
abbrev Ju:C2:=Jh 45
theorem Ys:FnScope ["_law_script","_law_first","_law_graph_here","_law_some","_law_net","_law_wire","_law_both","_law_want_here","_law_cell","_law_gate","_law_gates_here"] UX (Z9 Ju):=Jj
abbrev Ja:C2:=Jh 46
theorem W6:FnScope ["_law_net","_law_some","_law_wire","_law_rises","_law_falls","_law_both","_law_gates_here","_law_rows","_law_gate"] KC (Z9 Ja):=Jj
abbrev Qn:C2:=Jh 47
theorem V5:FnScope ["_law_net","_law_total","_law_wire","_law_rises","_law_falls","_law_many"] KC (Z9 Qn):=Jj
abbrev T0:C2:=Jh 48
theorem Uj:FnScope ["_law_graph_here","_law_net","_law_play","_law_due","_law_levels","_law_told"] KQ (Z9 T0):=Jj
abbrev E8:C2:=Jh 49
theorem Fu:FnScope VF KO (Z9 E8):=Jj
abbrev Mm:C2:=Jd (Jh 15) 1
theorem Ly:FnScope ["self"] ["self"] (Z9 Mm):=Jj
abbrev Qf:C2:=Jd (Jh 15) 0
theorem Hs:FnScope JZ JZ (Z9 Qf):=Jj
abbrev Qv:C2:=Jd (Jh 20) 0
theorem Iv:FnScope JZ JZ (Z9 Qv):=Jj
structure Txt (K:E') (mg:JG):Prop where
 b_any:mg "any" = none
 b_bool:mg "bool" = none
 b_enumerate:mg "enumerate" = none
 b_int:mg "int" = none
 b_isinstance:mg "isinstance" = none
 b_len:mg "len" = none
 b_list:mg "list" = none
 b_max:mg "max" = none
 b_min:mg "min" = none
 b_range:mg "range" = none
 b_sorted:mg "sorted" = none
 b_sum:mg "sum" = none
 b_tuple:mg "tuple" = none
 b_zip:mg "zip" = none
 a_Bench_gates:JD K "Bench" "gates"
 a_Bench_graph:JD K "Bench" "graph"
 a_Bench_known:JD K "Bench" "known"
 a_Bench_sides:JD K "Bench" "sides"
 a_Play_bench:JD K "Play" "bench"
 a_Play_graph:JD K "Play" "graph"
 a_Play_net:JD K "Play" "net"
 a_Play_pose:JD K "Play" "pose"
abbrev TX(b:Bd):=Txt b.K b.mg
abbrev X3(b:Bd):Prop:=b.D 1 "is_made" ["graph","wire"] false Ds
abbrev X0(b:Bd):Prop:=b.D 1 "wire_of" KA false De
abbrev Lu(b:Bd):Prop:=b.D 1 "takes_of" KA false Em
abbrev O3(b:Bd):Prop:=b.D 1 "bits" ["some"] false Iy
abbrev Dl(b:Bd):Prop:=b.D 1 "has_one" ["number","place"] false R1
abbrev SX(b:Bd):Prop:=b.D 2 "ones" ["number"] true RM
abbrev UW(b:Bd):Prop:=b.D 1 "fits" KN false Xt
abbrev Xb(b:Bd):Prop:=b.D 2 "is_up" ["gate","code"] false Lf
abbrev TJ(b:Bd):Prop:=b.D 2 "can" ["graph","stand","step"] false PF
abbrev N6(b:Bd):Prop:=b.D 3 "steps_at" ["graph","stand"] true Ew
abbrev M5(b:Bd):Prop:=b.T 3 "Bench" "levels_at" ["self","code"] false To
abbrev R7(b:Bd):Prop:=b.D 2 "is_wire_called" ["side","pose"] false Ut
abbrev Qz(b:Bd):Prop:=b.T 4 "Bench" "given_moves" ["self","stand"] true Vo
abbrev R3(b:Bd):Prop:=b.T 5 "Bench" "moves_at" ["self","pose"] true Q1
abbrev Np(b:Bd):Prop:=b.D 1 "gates_in" ["net"] true Qd
abbrev Nl(b:Bd):Prop:=b.D 2 "sides_of" ["net"] true Tz
abbrev Hx(b:Bd):Prop:=b.T 1 "Play" "stand" ["self"] false J7
abbrev Gj(b:Bd):Prop:=b.T 2 "Play" "level" ["self","g"] false J5
abbrev Gk(b:Bd):Prop:=b.T 6 "Play" "moves" ["self"] true Jf
abbrev Ej(b:Bd):Prop:=b.D 1 "gates_apart" ["gates"] false Ua
abbrev SN(b:Bd):Prop:=b.D 2 "apart" ["net"] false Ac
abbrev Uk(b:Bd):Prop:=b.D 1 "_law_mix" ["_law_script","_law_k"] false Wj
abbrev D7(b:Bd):Prop:=b.D 1 "_law_word" ["_law_cell","_law_k"] false Vz
abbrev Gv(b:Bd):Prop:=b.D 2 "_law_order" ["_law_script","_law_first","_law_n"] true S5
abbrev E6(b:Bd):Prop:=b.D 2 "_law_arrows" VL true Mt
abbrev Ht(b:Bd):Prop:=b.D 3 "_law_graph" SS false S8
abbrev Rj(b:Bd):Prop:=b.D 1 "_law_can" LJ false Jk
abbrev Eg(b:Bd):Prop:=b.D 1 "_law_behind" LJ false Mr
abbrev Ea(b:Bd):Prop:=b.D 2 "_law_stands" ["_law_graph_here"] true Mf
abbrev Kn(b:Bd):Prop:=b.D 2 "_law_want" NV false Dc
abbrev Eb(b:Bd):Prop:=b.D 2 "_law_choice" ["_law_script","_law_first"] false Mv
abbrev Gs(b:Bd):Prop:=b.D 1 "_law_wider" WF false Rh
abbrev Sn(b:Bd):Prop:=b.D 1 "_law_lookers" ["_law_graph_here","_law_cell"] false Jm
abbrev R5(b:Bd):Prop:=b.D 4 "_law_any_graph" UG false Q0
abbrev Sa(b:Bd):Prop:=b.D 1 "_law_gates" KC false Jc
abbrev Io(b:Bd):Prop:=b.D 1 "_law_up" MG false Ji
abbrev Ef(b:Bd):Prop:=b.D 2 "_law_called" ["_law_net","_law_code","_law_levels"] true Mi
abbrev Hb(b:Bd):Prop:=b.D 3 "_law_moves" NQ false Je
abbrev Gy(b:Bd):Prop:=b.D 2 "_law_begun" KQ false R9
abbrev Sg(b:Bd):Prop:=b.D 3 "_law_any_gate" SR false Qx
abbrev Sw(b:Bd):Prop:=b.D 4 "_law_any_net" UX false Js
abbrev Gq(b:Bd):Prop:=b.D 1 "_law_apart" KC false S3
abbrev E5(b:Bd):Prop:=b.D 1 "_law_within" KC false Qi
abbrev Ed(b:Bd):Prop:=b.D 8 "_law_begins" KQ false Uc
abbrev VZ(b:Bd):Prop:=b.S 3 "Bench" "levels_at" ["self","code"] (QX b.K Pz)
abbrev U'(b:Bd):Prop:=b.S 4 "Bench" "first" ["self"] (RJ b.K Pz)
abbrev SY(b:Bd):Prop:=b.C 4 "Bench" JZ (RY b.K Qd Tz)
abbrev WT(b:Bd):Prop:=b.C 6 "Play" JZ (RO b.K Pz Qd Tz)
section
variable{P:D1}{w:D2}{K:E'}{mg:JG}{base:Ff}{b:Bd}
local macro_rules|`(tactic|ext)=>`(tactic|first|exactλ_ _ _ _ _ _ us hl=>JM us hl λ_ _=>rfl|exactλ_ _ _ _ _ _ us hl=>JU us hl λ_=>rfl|exactλ_ _ _ _ _ _ us hl=>NE us hl λ_ _ _ _=>rfl|exactλ_ _ _ _ _ _ us hl=>UP us hl λ_ _ _ _ _=>rfl|exactλ_ _ _ _ _ _ us hl=>bE us hl λ_ _ _ _ _ _=>rfl)
theorem d6(c:b.F "is_made" K8)(T:TX b)   : X3 b :=
 We c d4 (by ext) (λ_ _ _ _ _ _ _ hr=>(by
  unfold Pr;exact(Zn (W2 (Um (Tv hr.units) (Zj Zx (Zj Zx (Zj Zx (Z1 0) (Z3)) (Z1 1)) (Z3)) (Ss) (Yd _))))))
theorem bV(c:b.F "wire_of" Ix)(T:TX b)   : X0 b :=
 We c g7 (by ext) (λ_ _ _ _ _ _ _ hr=>(by
  unfold Pi;exact(Zn (W2 (Zq Zx (Zj Zx (Zj Zx (Z1 0) (Z3)) (Z1 1)) (Z3))))))
theorem Ct(c:b.F "takes_of" Ez)(T:TX b)   : Lu b :=
 We c B3 (by ext) (λ_ _ _ _ _ _ _ hr=>(by
  unfold Nw;exact(Zn (W2 (Zq Zx (Zj Zx (Zj Zx (Z1 0) (Z3)) (Z1 1)) (Z3))))))
theorem gT(c:b.F "bits" RU)(T:TX b)   : O3 b :=
 We c Kx (by ext) (λ_ _ _ _ _ _ _ hr=>(by
  unfold QI;exact(Za (Zl 1 Kx.nd (Yf))
  (Za (Ve AR rfl (J1 (Z8 0)) (Zh 2 Kx.nd) (Zn (Zl 1 Kx.nd (Zf ME (Z1 1) (Zc M9 (Z3) (Z1 2))))))
  (Zn (W2 (Z8 1)))))))
theorem bh(c:b.F "has_one" Im)(T:TX b)   : Dl b :=
 We c c' (by ext) (λ_ _ _ _ _ _ _ hr=>(by
  unfold P3;exact(Zn (W2 (Um (Tv hr.units) (Zc M4 (Zc Nq (Z1 0) (Z1 1)) (Z3)) (Z3) (Yd _))))))
theorem iK(c:b.F "ones" Fd)(T:TX b) (a:Dl b):SX b :=
 We c hg (by ext) (λ_ _ _ _ _ _ _ hr=>(by
  unfold WW;refine(Zn (Lj ?c0))
  case c0=>exact Vl (Z9 Fd) [none,some 0] ["place","number"] rfl rfl (Yz T.b_range (Z0 (eZ (m:=true) PySem.F.plainAttrs_int PySem.F.slot_int_bit_length PySem.F.type_int_bit_length fC (Z1 0)) Z7)) (λ_ _ _ _=>⟨(Zh 0 (by ext)),(R0 (Dz (Yv a hr.mono (Z0 (Z8 1) (Z0 (Z8 0) Z7))))),(Z8 0)⟩) (by decide)))
theorem cc(c:b.F "fits" QY)(T:TX b)   : UW b :=
 We c hD (by ext) (λ_ _ _ _ _ _ _ hr=>(by
  unfold SJ;exact(Zn (W2 (Um (Tv hr.units) (Zc M4 (Z1 1) (Zj Zx (Z1 0) (Z3))) (Zj Zx (Z1 0) (Z3)) (Yd _))))))
theorem cp(c:b.F "is_up" L7)(T:TX b) (a:UW b):Xb b :=
 We c eR (by ext) (λ_ _ _ _ _ _ _ hr=>(by
  unfold WA;refine(Zn (W2 (Ta (di rfl) T.b_any (Z0 (Ya ?c0) Z7))))
  case c0=>exact Vl (Z9 L7) [none,some 1] KN rfl rfl (Vr (Z1 0)) (λ_ _ _ _=>⟨(Zh 0 (by ext)),Tb,(Y0 a hr.mono (Z0 (Z8 0) (Z0 (Z8 1) Z7)))⟩) (by decide)))
theorem dg(c:b.F "can" RP)(T:TX b) (a:O3 b)(d:Lu b):TJ b :=
 We c WQ (λ_ _ _ _ _ _ us hl=>K' us hl λ_ _ _=>rfl) (λ_ _ _ _ _ _ _ hr=>(by
  unfold RZ;exact(Za (Zl 3 WQ.nd (Y0 a hr.mono (Z0 (Y0 d hr.mono (Z0 (Z8 0) (Z0 (Z8 2) Z7))) Z7)))
  (Zn (W2 (Um (Tv hr.units) (Zc M4 (Zj Zx (Z1 1) (Z3)) (Z1 3)) (Z1 3) (Yd _)))))))
theorem gi(c:b.F "steps_at" S6)(T:TX b) (a:TJ b):N6 b :=
 We c C5 (by ext) (λ_ _ _ _ _ _ _ hr=>(by
  unfold N8;refine(Zn (Lj ?c0))
  case c0=>exact Vl (Z9 S6) [none,some 0,some 1] ["step","graph","stand"] rfl rfl (Yz T.b_range (Z0 (Y8 U9 T.b_len (Z0 (Zj Zx (Z1 0) (Z3)) Z7)) Z7)) (λ_ _ _ _=>⟨(Zh 0 (by ext)),(R0 (Dz (Yv a hr.mono (Z0 (Z8 1) (Z0 (Z8 2) (Z0 (Z8 0) Z7)))))),(Z8 0)⟩) (by decide)))
theorem Hf(c:JK b.K "Bench" "levels_at" "Bench.levels_at" Vh)(T:TX b) (a:O3 b)(d:Xb b):M5 b :=
 Pc c Jr (by ext) (λ_ _ _ _ _ _ _ hr=>(by
  unfold Th;exact(Za (Tu (UB (N7 hr) (Z1 1) (G9 (m:=true) (Z1 0) T.a_Bench_known)) gS Vx)
  (Zn (W2 (dz (m:=false) (N7 hr) (G9 (m:=true) (Z1 0) T.a_Bench_known) (Z1 1) (λ_ _=>rfl)))))))
theorem K4(c:b.F "is_wire_called" Qa)(T:TX b) (a:Dl b):R7 b :=
 We c Uf (by ext) (λ_ _ _ _ _ _ _ hr=>(by
  unfold Q3;exact(Za (Zl 2 Uf.nd (Y0 a hr.mono (Z0 (Zq Zx (Zj Zx (Z1 1) (Z3)) (Z3)) (Z0 (Zq Zx (Z1 0) (Z3)) Z7))))
  (Za (Zl 3 Uf.nd (UH (m:=false) (Dz (Z1 2)) (Zq Zx (Z1 0) (Z3)) (Zq Zx (Z1 0) (Z3))))
  (Za (Zl 4 Uf.nd (UH (m:=false) (Dz (Z1 2)) (Zq Zx (Z1 0) (Z3)) (Zq Zx (Z1 0) (Z3))))
  (Zn (W2 (UA (m:=false) (SA (m:=true) (An hr.units) (Zc M4 (Zj Zx (Z1 1) (Z3)) (Z1 3)) (Z3) (Yd _)) (XR (Um (Tv hr.units) (Zc M4 (Zj Zx (Z1 1) (Z3)) (Z1 4)) (Z3) (Yd _)))))))))))
theorem E1(c:JK b.K "Bench" "given_moves" "Bench.given_moves" Vp)(T:TX b) (a:N6 b)(d:X3 b)(e:X0 b):Qz b :=
 Pc c Qp (by ext) (λ_ _ _ _ _ _ _ hr=>(by
  unfold Uz;refine(Za (Zl 2 Qp.nd (Y0 a hr.mono (Z0 (G9 (m:=false) (Z1 0) T.a_Bench_graph) (Z0 (Z8 1) Z7))))
  (Zn (Lj ?c0)))
  case c0=>exact Vl (Z9 Vp) [none,some 0] ["step","self"] rfl rfl (Vr (Z1 2)) (λ_ _ _ _=>⟨(Zh 0 (by ext)),(R0 (M' (Dz (Yv d hr.mono (Z0 (G9 (m:=false) (Z1 1) T.a_Bench_graph) (Z0 (Y0 e hr.mono (Z0 (G9 (m:=false) (Z1 1) T.a_Bench_graph) (Z0 (Z8 0) Z7))) Z7)))))),(Zr (Z0 (W1) (Z0 (Z8 0) Z7)))⟩) (by decide)))
theorem Ih(c:JK b.K "Bench" "moves_at" "Bench.moves_at" Vs)(T:TX b) (d:M5 b)(f:SX b)(e:R7 b)(a:Qz b):R3 b :=
 Pc c Ug (by ext) (λ_ _ _ _ _ _ _ hr=>(by
  unfold Q6;exact(Za (Zl 2 Ug.nd (Zf Bv (Zj Zx (Z1 1) (Z3)) (PN (m:=true) (OR d hr.mono (Z8 0) (Z0 (Zq Zx (Zj Zx (Z1 1) (Z3)) (Z3)) Z7)))))
  (Za (Rc 3 Ug.nd (Z9 Vs) [none] ["g"] rfl rfl (Vr (Yv f hr.mono (Z0 (Z8 2) Z7))) (λ_ _ _ _=>⟨(Zh 0 (by ext)),Tb,(Zr (Z0 (W1) (Z0 (Z8 0) Z7)))⟩) (by decide))
  (Za (Rc 4 Ug.nd (Z9 Vs) [none,some 1] ["side","pose"] rfl rfl (Vr (G9 (m:=true) (Z1 0) T.a_Bench_sides)) (λ_ _ _ _=>⟨(Zh 0 (by ext)),(R0 (Dz (Yv e hr.mono (Z0 (Z8 0) (Z0 (Z8 1) Z7))))),(Zr (Z0 (W1) (Z0 (Zq Zx (Z1 0) (Z3)) Z7)))⟩) (by decide))
  (Zn (Lj (QL OP (Zc Y6 (Ya (OZ (OR a hr.mono (Z8 0) (Z0 (Zq Zx (Z1 1) (Z3)) Z7)))) (Z1 3)) (Z1 4)))))))))
theorem gD(c:b.F "gates_in" Es)(T:TX b)   : Np b :=
 We c D5 (by ext) (λ_ _ _ _ _ _ _ hr=>(by
  unfold Gc;exact(Za (Tx 1 D5.nd (Tt Z7))
  (Za (Ve AR rfl (J1 (Z8 0)) (Zh 2 D5.nd) (Za (Vt 1 DO FU P0 (Z0 (Zq Zx (Z1 2) (Z3)) Z7))
  (Zn (Vt 1 DO FU P0 (Z0 (Zq Zx (Z1 2) (Z3)) Z7)))))
  (Zn (K1 1))))))
theorem Ck(c:b.F "sides_of" Ex)(T:TX b) (a:O3 b):Nl b :=
 We c Up (by ext) (λ_ _ _ _ _ _ _ hr=>(by
  unfold Eo;exact(Za (Tx 1 Up.nd (Tt Z7))
  (Za (Zl 2 Up.nd (Yf))
  (Za (Ve AR rfl (J1 (Z8 0)) (Zh 3 Up.nd) (Za (Zl 4 Up.nd (Zf Y6 (Z1 2) (Y8 U9 T.b_len (Z0 (Zj Zx (Z1 3) (Z3)) Z7))))
  (Za (Zl 5 Up.nd (Zf Y6 (Z1 4) (Y8 U9 T.b_len (Z0 (Zj Zx (Z1 3) (Z3)) Z7))))
  (Za (Vt 1 AZ BA Vj (Z0 (Zr (Z0 (Zq Zx (Z1 3) (Z3)) (Z0 (Y0 a hr.mono (Z0 (Qq (C4 (by rfl) T.b_list (by rfl) T.b_range (Z0 (Z1 2) (Z0 (Z1 4) Z7)))) Z7)) (Z0 (Y0 a hr.mono (Z0 (Qq (C4 (by rfl) T.b_list (by rfl) T.b_range (Z0 (Z1 4) (Z0 (Z1 5) Z7)))) Z7)) Z7)))) Z7))
  (Zn (Zl 2 Up.nd (Z8 5)))))))
  (Zn (K1 1)))))))
theorem F7(c:JK b.K "Play" "stand" "Play.stand" Rg)(T:TX b)   : Hx b :=
 Pc c Od (by ext) (λ_ _ _ _ _ _ _ hr=>(by
  unfold Ha;exact(Zn (W2 (Zq Zx (G9 (m:=true) (Z1 0) T.a_Play_pose) (Z3))))))
theorem Fi(c:JK b.K "Play" "level" "Play.level" S4)(T:TX b) (a:Dl b):Gj b :=
 Pc c Oy (by ext) (λ_ _ _ _ _ _ _ hr=>(by
  unfold Gw;exact(Zn (W2 (Y0 a hr.mono (Z0 (Zq Zx (G9 (m:=true) (Z1 0) T.a_Play_pose) (Z3)) (Z0 (Z8 1) Z7)))))))
theorem Fm(c:JK b.K "Play" "moves" "Play.moves" Ra)(T:TX b) (a:R3 b):Gk b :=
 Pc c Oo (by ext) (λ_ _ _ _ _ _ _ hr=>(by
  unfold Gg;exact(Zn (Lj (OZ (OR a hr.mono (G9 (m:=false) (Z1 0) T.a_Play_bench) (Z0 (G9 (m:=false) (Z1 0) T.a_Play_pose) Z7)))))))
theorem On(c:b.F "gates_apart" Qo)(T:TX b)   : Ej b :=
 We c Jp (by ext) (λ_ _ _ _ _ _ _ hr=>(by
  unfold Mu;refine(Za (Tx 1 Jp.nd (Tt Z7))
  (Za (Ve AR rfl (J1 (Z8 0)) (Zh 2 Jp.nd) (Zn (Vt 1 DO FU bf (Z0 (Qq ?c0) Z7))))
  (Zn (W2 (Vn (m:=false) Vd T.b_tuple (Z0 (xo 1) Z7))))))
  case c0=>exact Vl (Z9 Qo) [none] ["row"] rfl rfl (Vr (Z1 2)) (λ_ _ _ _=>⟨(Zh 0 (by ext)),Tb,(Zr (Z0 (Z8 0) Z7))⟩) (by decide)))
theorem bH(c:b.F "apart" Lc)(T:TX b) (a:Ej b):SN b :=
 We c ge (by ext) (λ_ _ _ _ _ _ _ hr=>(by
  unfold Xn;refine(Zn (W2 (Vn (m:=false) Vd T.b_tuple (Z0 (Ya ?c0) Z7))))
  case c0=>exact Vl (Z9 Lc) [none] ["part"] rfl rfl (Vr (Z1 0)) (λ_ _ _ _=>⟨(Zh 0 (by ext)),Tb,(Zr (Z0 (Zq Zx (Z1 0) (Z3)) (Z0 (Y0 a hr.mono (Z0 (Zq Zx (Z1 0) (Z3)) Z7)) (Z0 (Y0 a hr.mono (Z0 (Zq Zx (Z1 0) (Z3)) Z7)) Z7))))⟩) (by decide)))
theorem Cp(c:b.F "_law_mix" El)(T:TX b)   : Uk b :=
 We c Sr (by ext) (λ_ _ _ _ _ _ _ hr=>(by
  unfold Jl;exact(Za (Zl 2 Sr.nd (Zf Y6 (Zc Db (Z3) (Z1 1)) (Z3)))
  (Za (Tu (Ue UQ (Z1 1) (Y8 U9 T.b_len (Z0 (Z1 0) Z7)) (Yd _)) (Zn (Zl 2 Sr.nd (Zf Y6 (Z1 2) (Zc Db (Zj Zx (Z1 0) (Z1 1)) (Z3))))) Vx)
  (Zn (W2 (Zf Wd (Zc Db (Z1 2) (Z3)) (Z3))))))))
theorem Az(c:b.F "_law_word" Da)(T:TX b)   : D7 b :=
 We c Wm (by ext) (λ_ _ _ _ _ _ _ hr=>(by
  unfold Jy;exact(Za (Zl 2 Wm.nd (W1))
  (Za (Zl 3 Wm.nd (Zf Y6 (Z3) (Zc Wd (Z1 0) (Z3))))
  (Za (Zl 4 Wm.nd (Zf Wd (Zc W4 (Z1 0) (Z3)) (Z1 3)))
  (Za (Zl 5 Wm.nd (W1))
  (Za (Ve AR rfl (Yz T.b_range (Z0 (Z1 3) Z7)) (Zh 6 Wm.nd) (Za (Zl 7 Wm.nd (Yf))
  (Za (Tu (Ue (Tv hr.units) (Z1 6) (Z1 4) (Yd _)) (Zn (Zl 7 Wm.nd (Z8 1))) Vx)
  (Zn (Zl 5 Wm.nd (Zf Y6 (Z1 5) (Zj Zx (Z1 2) (Zc Wd (Zc Y6 (Zc Y6 (Zc W4 (Z1 0) (Z3)) (Zc Db (Z3) (Z1 6))) (Zc Db (Z3) (Z1 7))) (Z3)))))))))
  (Za (Tu (Ue (US hr.units) (Z1 5) (Ya (Tt (Z0 (W1) (Z0 (W1) (Z0 (W1) (Z0 (W1) (Z0 (W1) Z7))))))) (by rfl)) (Zn (Zl 5 Wm.nd (Zf Y6 (Ur E9 (Z1 5) (Mj (Z3)) Mp) (Ss)))) Vx)
  (Zn (W2 (Z8 5)))))))))))
theorem A0(c:b.F "_law_order" Rn)(T:TX b) (a:Uk b):Gv b :=
 We c Ub (λ_ _ _ _ _ _ us hl=>K' us hl λ_ _ _=>rfl) (λ_ _ _ _ _ _ _ hr=>(by
  unfold J8;exact(Za (Tx 3 Ub.nd (Tt Z7))
  (Za (Ve AR rfl (Yz T.b_range (Z0 (Z1 2) Z7)) (Zh 4 Ub.nd) (Za (Zl 5 Ub.nd (Y0 a hr.mono (Z0 (Z8 0) (Z0 (Zf Y6 (Z1 1) (Z1 4)) Z7))))
  (Za (Zl 6 Ub.nd (Zf Wd (Z1 5) (Zc Y6 (Y8 U9 T.b_len (Z0 (xo 3) Z7)) (Z3))))
  (Za (Vt 3 FV FW Lo (Z0 (Z8 6) (Z0 (Z8 4) Z7)))
  (Za (Zl 7 Ub.nd (Zf Wd (Zc W4 (Z1 5) (Z3)) (Zc Lp (Y8 U9 T.b_len (Z0 (xo 3) Z7)) (Z1 6))))
  (Zn (Vt 3 FV FW Lo (Z0 (Zf Y6 (Zc Y6 (Z1 6) (Z3)) (Z1 7)) (Z0 (Z8 4) Z7)))))))))
  (Zn (K1 3))))))
theorem Oc(c:b.F "_law_arrows" Me)(T:TX b) (a:Uk b):E6 b :=
 We c Vu (by ext) (λ_ _ _ _ _ _ _ hr=>(by
  unfold Qg;exact(Za (Tx 4 Vu.nd (Tt Z7))
  (Za (Ve AR rfl (Yz T.b_range (Z0 (Z1 2) Z7)) (Zh 5 Vu.nd) (Za (Zl 6 Vu.nd (Y0 a hr.mono (Z0 (Z8 0) (Z0 (Zf Y6 (Z1 1) (Z1 5)) Z7))))
  (Za (Zl 7 Vu.nd (Zf Wd (Z1 6) (Z1 3)))
  (Za (Zl 8 Vu.nd (Zf Wd (Zc W4 (Z1 6) (Z3)) (Z1 3)))
  (Zn (Tu (Ah.pt (N1 (Ue (An hr.units) (Z1 7) (Z1 8) (Yd _)) (Et (Ue (OU hr.units) (Jo (Z0 (Ta (UT rfl) T.b_min (Z0 (Z1 7) (Z0 (Z1 8) Z7))) (Z0 (Ta (VJ rfl) T.b_max (Z0 (Z1 7) (Z0 (Z1 8) Z7))) Z7))) (xo 4) (by rfl))))) (Zn (Vt 4 AZ BA Vj (Z0 (Zr (Z0 (Ta (UT rfl) T.b_min (Z0 (Z1 7) (Z0 (Z1 8) Z7))) (Z0 (Ta (VJ rfl) T.b_max (Z0 (Z1 7) (Z0 (Z1 8) Z7))) Z7))) Z7))) Vx))))))
  (Zn (K1 4))))))
theorem Xe(c:b.F "_law_graph" Vf)(T:TX b) (f:Gv b)(a:Uk b)(e:E6 b)(d:D7 b):Ht b :=
 We c Zm (by ext) (λ_ _ _ _ _ _ _ hr=>(by
  unfold J9;refine(Za (Zl 4 Zm.nd (Y0 f hr.mono (Z0 (Z8 0) (Z0 (Z8 1) (Z0 (Z8 2) Z7)))))
  (Za (Zl 5 Zm.nd (Zf Db (Z3) (Z1 2)))
  (Za (Zl 6 Zm.nd (Y0 a hr.mono (Z0 (Z8 0) (Z0 (Zf Y6 (Z1 1) (Z1 2)) Z7))))
  (Za (Zl 7 Zm.nd (Y0 e hr.mono (Z0 (Z8 0) (Z0 (Zf Y6 (Zc Y6 (Z1 1) (Z1 2)) (Z3)) (Z0 (Z8 3) (Z0 (Z8 5) Z7))))))
  (Za (Tu (Ue (Tv hr.units) (Zc Wd (Z1 6) (Z3)) (Z3) (Yd _)) (Zn (Zl 7 Zm.nd (Zf Y6 (Z1 7) (Ya ?c0)))) Vx)
  (Za (Ve AR rfl (Yz T.b_range (Z0 (Z1 2) Z7)) (Zh 8 Zm.nd) (Za (Zl 9 Zm.nd (VT (m:=false) EK GI PySem.F.type_list_index Bj (Z1 4) (Z0 (Z1 8) Z7)))
  (Za (Zl 10 Zm.nd (Zf Y6 (Zc Y6 (Z1 9) (Z3)) (VT (m:=true) EK GI PySem.F.type_list_index Bj (Ur E9 (Z1 4) (Mj (Zc Y6 (Z1 9) (Z3))) Mp) (Z0 (Z1 8) Z7))))
  (Zn (Zl 7 Zm.nd (Zf Y6 (Ya ?c1) (Ya (Tt (Z0 (Zr (Z0 (Z8 9) (Z0 (Z8 10) Z7))) Z7)))))))))
  (Za (XG 11 Zm.nd (Z9 Vf) [none] ["_law_d"] rfl rfl (Vr (Z1 4)) (λ_ _ _ _=>⟨(Zh 0 (by ext)),Tb⟩) (by decide))
  (Za (XG 12 Zm.nd (Z9 Vf) [none] ["_law_d"] rfl rfl (Vr (Z1 4)) (λ_ _ _ _=>⟨(Zh 0 (by ext)),Tb⟩) (by decide))
  (Za (Zl 13 Zm.nd (Yf))
  (Za (Zl 14 Zm.nd (Zf Wd (Zc W4 (Z1 6) (Z3)) (Z3)))
  (Za (Ve AR rfl (J1 (Z8 7)) (J2 (n:=2) rfl (Y1 (Zh 15 Zm.nd) (Y1 (Zh 16 Zm.nd) Uy))) (Za (Xc 12 (Z1 15) (λ_ _=>rfl) (Z0 (Z8 14) Z7))
  (Za (Xc 11 (Z1 16) (λ_ _=>rfl) (Z0 (Z8 14) Z7))
  (Za (Xc 12 (Z1 16) (λ_ _=>rfl) (Z0 (Zf Y6 (Z1 14) (Z3)) Z7))
  (Za (Xc 11 (Z1 15) (λ_ _=>rfl) (Z0 (Zf Y6 (Z1 14) (Z3)) Z7))
  (Za (Zl 13 Zm.nd (Zf ME (Z1 13) (Zc M9 (Z3) (Zc Y6 (Z1 14) (Z3)))))
  (Zn (Zl 14 Zm.nd (Zf Y6 (Z1 14) (Z3))))))))))
  (Za (Zl 17 Zm.nd (Zf Wd (Zc W4 (Z1 6) (Z3)) (Zc M9 (Z3) (Z1 2))))
  (Za (Zl 18 Zm.nd (Z8 17))
  (Za (Tx 19 Zm.nd (Tt Z7))
  (Za (Ve AR rfl (Fy T.b_enumerate (Z8 4)) (J2 (n:=2) rfl (Y1 (Zh 20 Zm.nd) (Y1 (Zh 8 Zm.nd) Uy))) (Za (Vt 19 AZ BA Vj (Z0 (Zr (Z0 (Z8 8) (Z0 (Um (Tv hr.units) (Zc M4 (Zc Nq (Z1 18) (Z1 8)) (Z3)) (Z3) (Yd _)) (Z0 (Vn (m:=false) Vd T.b_tuple (Z0 (Ya (Fb Dh T.b_sorted (Z0 (SU 11 (Z1 20) (λ_ _=>rfl)) Z7))) Z7)) (Z0 (Vn (m:=false) Vd T.b_tuple (Z0 (Ya (Fb Dh T.b_sorted (Z0 (SU 12 (Z1 20) (λ_ _=>rfl)) Z7))) Z7)) Z7))))) Z7))
  (Zn (Zl 18 Zm.nd (Zf Bv (Z1 18) (Zc M9 (Z3) (Z1 8)))))))
  (Za (Zl 21 Zm.nd (Zf Wd (Zc W4 (Z1 6) (Z3)) (Z1 5)))
  (Za (Tx 19 Zm.nd (QL OP (Ur E9 (xo 19) (Mj (Z1 21)) Mp) (Ur E9 (xo 19) Mp (Mj (Z1 21)))))
  (Za (Zl 22 Zm.nd (Zf W4 (Z1 6) (Z3)))
  (Za (Rc 23 Zm.nd (Z9 Vf) [none,some 22,some 0,some 1] XM rfl rfl (Yz T.b_range (Z0 (Z1 2) Z7)) (λ_ _ _ _=>⟨(Zh 0 (by ext)),Tb,(Zr (Z0 (Y0 d hr.mono (Z0 (Z8 1) (Z0 (Z8 0) Z7))) (Z0 (Zq Zx (Ya (Tt (Z0 (W1) (Z0 (W1) Z7)))) (Zc Wd (Zc W4 (Yv a hr.mono (Z0 (Z8 2) (Z0 (Zf Y6 (Z1 3) (Z1 0)) Z7))) (Z3)) (Z3))) Z7)))⟩) (by decide))
  (Zn (W2 (Zr (Z0 (Vn (m:=false) Vd T.b_tuple (Z0 (Z1 23) Z7)) (Z0 (Vn (m:=false) Vd T.b_tuple (Z0 (xo 19) Z7)) (Z0 (Z8 13) (Z0 (Z8 17) Z7))))))))))))))))))))))))))
  case c0=>exact Vl (Z9 Vf) [none,some 7] ["_law_k","_law_pairs"] rfl rfl (Yz T.b_range (Z0 (Zc Lp (Z1 5) (Z3)) Z7)) (λ_ _ _ _=>⟨(Zh 0 (by ext)),(R0 (Ue (OU hr.units) (Jo (Z0 (Z8 0) (Z0 (Zf Y6 (Z1 0) (Z3)) Z7))) (Z1 1) (by rfl))),(Zr (Z0 (Z8 0) (Z0 (Zf Y6 (Z1 0) (Z3)) Z7)))⟩) (by decide)
  case c1=>exact Vl (Z9 Vf) [none,some 9,some 10] ["_law_pair","_law_one","_law_two"] rfl rfl (Vr (Z1 7)) (λ_ _ _ _=>⟨(Zh 0 (by ext)),(R0 (Ue (An hr.units) (Z1 0) (Jo (Z0 (Z8 1) (Z0 (Z8 2) Z7))) (Yd _))),(Z8 0)⟩) (by decide)))
theorem Ci(c:b.F "_law_can" S7)(T:TX b)   : Rj b :=
 We c Ke (λ_ _ _ _ _ _ us hl=>K' us hl λ_ _ _=>rfl) (λ_ _ _ _ _ _ _ hr=>(by
  unfold G5;refine(Za (Zl 3 Ke.nd (Zq Zx (Zj Zx (Zj Zx (Z1 0) (Z3)) (Z1 2)) (Z3)))
  (Zn (W2 (Um (Tv hr.units) (Y8 U9 T.b_len (Z0 (Ya ?c0) Z7)) (Y8 U9 T.b_len (Z0 (Z1 3) Z7)) (Yd _)))))
  case c0=>exact Vl (Z9 S7) [none,some 1] ["_law_spot","_law_stand"] rfl rfl (Vr (Z1 3)) (λ_ _ _ _=>⟨(Zh 0 (by ext)),(R0 (Ue (Tv hr.units) (Zc M4 (Zc Nq (Zj Zx (Z1 1) (Z3)) (Z1 0)) (Z3)) (Z3) (Yd _))),(Z8 0)⟩) (by decide)))
theorem Of(c:b.F "_law_behind" Mx)(T:TX b)   : Eg b :=
 We c Yy (λ_ _ _ _ _ _ us hl=>K' us hl λ_ _ _=>rfl) (λ_ _ _ _ _ _ _ hr=>(by
  unfold Mn;exact(Za (SE (Zq Zx (Zj Zx (Z1 0) (Z3)) (Z1 2)) (J2 (n:=4) rfl (Y1 (Zh 3 Yy.nd) (Y1 (Zh 4 Yy.nd) (Y1 (Zh 5 Yy.nd) (Y1 (Zh 6 Yy.nd) Uy))))))
  (Za (Zl 7 Yy.nd (Zq Zx (Z1 1) (Z3)))
  (Za (Ve AR rfl (J1 (Z8 5)) (Zh 8 Yy.nd) (Zn (Zl 7 Yy.nd (Zf Bv (Z1 7) (Zc M9 (Z3) (Z1 8))))))
  (Za (Ve AR rfl (J1 (Z8 6)) (Zh 8 Yy.nd) (Zn (Zl 7 Yy.nd (Zf ME (Z1 7) (Zc M9 (Z3) (Z1 8))))))
  (Zn (W2 (Zr (Z0 (Z8 7) (Z0 (Zf Bv (Zj Zx (Z1 1) (Z3)) (Zc M9 (Z3) (Z1 3))) Z7)))))))))))
theorem Ol(c:b.F "_law_stands" Mb)(T:TX b) (a:Rj b)(d:Eg b):Ea b :=
 We c V7 (by ext) (λ_ _ _ _ _ _ _ hr=>(by
  unfold Qj;exact(Za (Tx 1 V7.nd (Tt (Z0 (Zr (Z0 (Zq Zx (Z1 0) (Z3)) (Z0 (Zq Zx (Z1 0) (Z3)) Z7))) Z7)))
  (Za (YB 2 V7.nd rfl (AY rfl) (N7 hr) (Zj Zx (xo 1) (Z3)) (T9))
  (Za (Zl 3 V7.nd (Yf))
  (Za (dw AR (Ue UQ (Z1 3) (Y8 U9 T.b_len (Z0 (xo 1) Z7)) (Yd _)) (Za (Ve AR rfl (Yz T.b_range (Z0 (Y8 U9 T.b_len (Z0 (Zj Zx (Z1 0) (Z3)) Z7)) Z7)) (Zh 4 V7.nd) (Zn (Tu (Dz (Yv a hr.mono (Z0 (Z8 0) (Z0 (Zq Zx (xo 1) (Z1 3)) (Z0 (Z8 4) Z7))))) (Za (Zl 5 V7.nd (Y0 d hr.mono (Z0 (Z8 0) (Z0 (Zq Zx (xo 1) (Z1 3)) (Z0 (Z8 4) Z7)))))
  (Zn (Tu (eW 2 (N7 hr) (Z1 5)) (Za (fE 2 (N7 hr) (Z1 5) (T9))
  (Zn (Vt 1 AZ BA Vj (Z0 (Z8 5) Z7)))) Vx))) Vx)))
  (Zn (Zl 3 V7.nd (Zf Y6 (Z1 3) (Z3))))))
  (Zn (K1 1))))))))
theorem Be(c:b.F "_law_want" Sx)(T:TX b) (a:Rj b):Kn b :=
 We c Gu (λ_ _ _ _ _ _ us hl=>K' us hl λ_ _ _=>rfl) (λ_ _ _ _ _ _ _ hr=>(by
  unfold M7;exact(Za (Ve AR rfl (Yz T.b_range (Z0 (Y8 U9 T.b_len (Z0 (Zj Zx (Z1 0) (Z3)) Z7)) Z7)) (Zh 3 Gu.nd) (Zn (Tu (Ah.pt (N1 (Ue (Tv hr.units) (Zj Zx (Zj Zx (Zj Zx (Z1 0) (Z3)) (Z1 3)) (Z3)) (Z1 2) (Yd _)) (Et (Dz (Yv a hr.mono (Z0 (Z8 0) (Z0 (Z8 1) (Z0 (Z8 3) Z7)))))))) (Zn (W2 (Zq Zx (Ya (Tt (Z0 (PL (m:=false) OS (Z3)) (Z0 (Yf) Z7)))) (Vn (m:=true) RS T.b_int (Z0 (Zj Zx (Zj Zx (Zj Zx (Z1 0) (Z3)) (Z1 3)) (Z3)) Z7))))) Vx)))
  (Zn (W2 (Yf))))))
theorem Ot(c:b.F "_law_choice" Wo)(T:TX b) (a:Uk b)(d:D7 b):Eb b :=
 We c Zu (by ext) (λ_ _ _ _ _ _ _ hr=>(by
  unfold Qk;refine(Za (Zl 2 Zu.nd (Y0 a hr.mono (Z0 (Z8 0) (Z0 (Z8 1) Z7))))
  (Za (Zl 3 Zu.nd (Zf Y6 (Z3) (Zc Wd (Z1 2) (Z3))))
  (Za (Zl 4 Zu.nd (Zf Y6 (Z3) (Zc Wd (Zc W4 (Z1 2) (Z3)) (Z3))))
  (Za (Zl 5 Zu.nd (Zq Zx (Ya (Tt (Z0 (Z8 3) (Z0 (Yf) Z7)))) (Zc Wd (Zc W4 (Z1 2) (Z3)) (Z3))))
  (Za (Rc 6 Zu.nd (Z9 Wo) [none,some 2] ["_law_k","_law_head"] rfl rfl (Yz T.b_range (Z0 (Z1 5) Z7)) (λ_ _ _ _=>⟨(Zh 0 (by ext)),Tb,(Zr (Z0 (Y0 d hr.mono (Z0 (Zf W4 (Z1 1) (Z3)) (Z0 (Z8 0) Z7))) (Z0 (W1) Z7)))⟩) (by decide))
  (Za (Zl 6 Zu.nd (Zf Y6 (Z1 6) (Ya ?c0)))
  (Za (Tx 7 Zu.nd (Tt Z7))
  (Za (Zl 8 Zu.nd (Yf))
  (Za (Ve AR rfl (Yz T.b_range (Z0 (Z1 3) Z7)) (Zh 9 Zu.nd) (Za (Zl 10 Zu.nd (Y0 a hr.mono (Z0 (Z8 0) (Z0 (Zf Y6 (Zc Y6 (Z1 1) (Z3)) (Z1 9)) Z7))))
  (Za (Rc 11 Zu.nd (Z9 Wo) [none,some 5,some 4,some 10] LH rfl rfl (Yz T.b_range (Z0 (Z1 4) Z7)) (λ_ _ _ _=>⟨(Zh 0 (by ext)),Tb,(Zf Y6 (Z1 1) (Zc Wd (Zc Y6 (Z1 3) (Z1 0)) (Z1 2)))⟩) (by decide))
  (Za (Rc 12 Zu.nd (Z9 Wo) [none,some 5,some 4,some 10] LH rfl rfl (Yz T.b_range (Z0 (Z1 4) Z7)) (λ_ _ _ _=>⟨(Zh 0 (by ext)),Tb,(Zf Y6 (Z1 1) (Zc Wd (Zc Y6 (Zc W4 (Z1 3) (Z3)) (Z1 0)) (Z1 2)))⟩) (by decide))
  (Za (Tx 13 Zu.nd (QL OP (Ya ?c1) (Ya ?c2)))
  (Za (Vt 13 FV FW Lo (Z0 (Zf Wd (Zc W4 (Z1 10) (Z3)) (Zc Y6 (Y8 U9 T.b_len (Z0 (xo 13) Z7)) (Z3))) (Z0 (Zr (Z0 (Zf Wd (Z1 9) (Z1 5)) (Z0 (T9) Z7))) Z7)))
  (Za (Zl 14 Zu.nd (Yf))
  (Zn (Ve AR rfl (Fy T.b_enumerate (Zf Y6 (Ya (Tt (Z0 (Zr (Z0 (Zf Wd (Z1 9) (Z1 5)) (Z0 (T9) Z7))) Z7))) (xo 13))) (J2 (n:=2) rfl (Y1 (Zh 15 Zu.nd) (Y1 (Zh 16 Zu.nd) Uy))) (Za (Zl 17 Zu.nd (Z8 8))
  (Za (Tu (Ue (Tv hr.units) (Z1 15) (Y8 U9 T.b_len (Z0 (xo 13) Z7)) (Yd _)) (Zn (Zl 17 Zu.nd (Yf))) Vx)
  (Za (Vt 7 AZ BA Vj (Z0 (Zr (Z0 (Zq Zx (Z1 16) (Z3)) (Z0 (Zq Zx (Z1 16) (Z3)) (Z0 (Zr (Z0 (Z8 14) Z7)) (Z0 (Zr (Z0 (Z8 17) Z7)) Z7))))) Z7))
  (Za (Zl 14 Zu.nd (Z8 17))
  (Zn (Zl 8 Zu.nd (Zf Y6 (Z1 8) (Z3)))))))))))))))))
  (Zn (W2 (Zr (Z0 (Vn (m:=false) Vd T.b_tuple (Z0 (Z1 6) Z7)) (Z0 (Vn (m:=false) Vd T.b_tuple (Z0 (xo 7) Z7)) (Z0 (Yf) (Z0 (Yf) Z7))))))))))))))))
  case c0=>exact Vl (Z9 Wo) [none,some 2,some 5] ["_law_k","_law_head","_law_least"] rfl rfl (Yz T.b_range (Z0 (Z1 4) Z7)) (λ_ _ _ _=>⟨(Zh 0 (by ext)),Tb,(Zr (Z0 (Y0 d hr.mono (Z0 (Zf W4 (Z1 1) (Z3)) (Z0 (Zf Y6 (Z1 2) (Z1 0)) Z7))) (Z0 (W1) Z7)))⟩) (by decide)
  case c1=>exact Vl (Z9 Wo) [none] ["_law_wire"] rfl rfl (Vr (Z1 11)) (λ_ _ _ _=>⟨(Zh 0 (by ext)),Tb,(Zr (Z0 (Z8 0) (Z0 (T9) Z7)))⟩) (by decide)
  case c2=>exact Vl (Z9 Wo) [none] ["_law_wire"] rfl rfl (Vr (Z1 12)) (λ_ _ _ _=>⟨(Zh 0 (by ext)),Tb,(Zr (Z0 (Z8 0) (Z0 (T9) Z7)))⟩) (by decide)))
theorem Xu(c:b.F "_law_wider" J6)(T:TX b)   : Gs b :=
 We c V2 (by ext) (λ_ _ _ _ _ _ _ hr=>(by
  unfold Re;exact(Za (SE (Z8 0) (J2 (n:=4) rfl (Y1 (Zh 5 V2.nd) (Y1 (Zh 6 V2.nd) (Y1 (Zh 7 V2.nd) (Y1 (Zh 8 V2.nd) Uy))))))
  (Za (Zl 9 V2.nd (Zf M4 (Z1 8) (Zc Lp (Zc M9 (Z3) (Z1 1)) (Z3))))
  (Za (Zl 8 V2.nd (Zf ME (Zc ME (Z1 9) (Zc M9 (Vn (m:=true) RS T.b_int (Z0 (Z1 3) Z7)) (Z1 1))) (Zc M9 (Zc Nq (Z1 8) (Z1 1)) (Zc Y6 (Z1 1) (Z3)))))
  (Za (Rc 10 V2.nd (Z9 J6) [none,none,none,none,some 1] NI rfl rfl (Vr (Z1 6)) (λ_ _ _ _=>⟨(J2 (n:=4) rfl (Y1 (Zh 0 (by ext)) (Y1 (Zh 1 (by ext)) (Y1 (Zh 2 (by ext)) (Y1 (Zh 3 (by ext)) Uy))))),Tb,(Zr (Z0 (Zf Y6 (Z1 0) (Vn (m:=true) RS T.b_int (Z0 (SA (m:=true) iC (Z1 0) (Z1 4) (Yd _)) Z7))) (Z0 (Z8 1) (Z0 (Z8 2) (Z0 (Z8 3) Z7)))))⟩) (by decide))
  (Zn (W2 (Zr (Z0 (Zf G6 (Zc G6 (Ur E9 (Z1 5) Mp (Mj (Z1 1))) (Jo (Z0 (Zr (Z0 (Z8 4) (Z0 (Z8 2) Z7))) Z7))) (Ur E9 (Z1 5) (Mj (Z1 1)) Mp)) (Z0 (Vn (m:=false) Vd T.b_tuple (Z0 (Z1 10) Z7)) (Z0 (Z8 7) (Z0 (Z8 8) Z7)))))))))))))
theorem Ny(c:b.F "_law_lookers" Tl)(T:TX b)   : Sn b :=
 We c Zy (by ext) (λ_ _ _ _ _ _ _ hr=>(by
  unfold Tn;refine(Za (Zl 2 Zy.nd (Zq Zx (Z1 0) (Z3)))
  (Za (Ve AR rfl (J1 (Zq Zx (Z1 0) (Z3))) (J2 (n:=4) rfl (Y1 (Zh 3 Zy.nd) (Y1 (Zh 4 Zy.nd) (Y1 (Zh 5 Zy.nd) (Y1 (Zh 6 Zy.nd) Uy))))) (Zn (Ve AR rfl (J1 (Zf G6 (Z1 5) (Z1 6))) (Zh 7 Zy.nd) (Zn (Zl 2 Zy.nd (Zf ME (Z1 2) (Zc M9 (Z3) (Z1 7))))))))
  (Za (Zl 7 Zy.nd (Zq Zx (Ya ?c0) (Zc Wd (Z1 1) (Z3))))
  (Za (Tx 8 Zy.nd (Tt Z7))
  (Za (Ve AR rfl (Fy T.b_enumerate (Zq Zx (Z1 0) (Z3))) (J2 (n:=2) rfl (Y1 (Zh 9 Zy.nd) (Y1 (Zh 10 Zy.nd) Uy))) (Za (SE (Z8 10) (J2 (n:=4) rfl (Y1 (Zh 3 Zy.nd) (Y1 (Zh 4 Zy.nd) (Y1 (Zh 5 Zy.nd) (Y1 (Zh 6 Zy.nd) Uy))))))
  (Za (Tu (Ue (Tv hr.units) (Zc M4 (Zc Nq (Zc W4 (Z1 1) (Z3)) (Z1 9)) (Z3)) (Z3) (Yd _)) (Za (Zl 5 Zy.nd (Vn (m:=false) Vd T.b_tuple (Z0 (Ya (Fb Dh T.b_sorted (Z0 (Zc G6 (Z1 5) (Jo (Z0 (Z8 7) Z7))) Z7))) Z7)))
  (Zn (Zl 6 Zy.nd (Vn (m:=false) Vd T.b_tuple (Z0 (Ya (Fb Dh T.b_sorted (Z0 (Zc G6 (Z1 6) (Jo (Z0 (Z8 7) Z7))) Z7))) Z7))))) Vx)
  (Zn (Vt 8 AZ BA Vj (Z0 (Zr (Z0 (Z8 3) (Z0 (Z8 4) (Z0 (Z8 5) (Z0 (Z8 6) Z7))))) Z7))))))
  (Zn (W2 (Zr (Z0 (Zq Zx (Z1 0) (Z3)) (Z0 (Vn (m:=false) Vd T.b_tuple (Z0 (xo 8) Z7)) (Z0 (Zf ME (Zj Zx (Z1 0) (Z3)) (Zc M9 (Z3) (Z1 7))) (Z0 (Zq Zx (Z1 0) (Z3)) Z7))))))))))))
  case c0=>exact Vl (Z9 Tl) [none,some 2] ["_law_p","_law_there"] rfl rfl (Yz T.b_range (Z0 (Z3) Z7)) (λ_ _ _ _=>⟨(Zh 0 (by ext)),(R0 (Ue (Tv hr.units) (Zc M4 (Zc Nq (Z1 1) (Z1 0)) (Z3)) (Z3) (Yd _))),(Z8 0)⟩) (by decide)))
theorem Is(c:b.F "_law_any_graph" Q2)(T:TX b) (a:Uk b)(e:Eb b)(f:Ht b)(g:Gs b)(d:Sn b):R5 b :=
 We c Y4 (by ext) (λ_ _ _ _ _ _ _ hr=>(by
  unfold Uu;refine(Za (Zl 4 Y4.nd (Y0 a hr.mono (Z0 (Z8 0) (Z0 (Z8 1) Z7))))
  (Za (Tu (Ue (Tv hr.units) (Zc Wd (Z1 4) (Z3)) (Z3) (Yd _)) (Zn (Zl 5 Y4.nd (Y0 e hr.mono (Z0 (Z8 0) (Z0 (Zf Y6 (Z1 1) (Z3)) Z7))))) (Zn (Zl 5 Y4.nd (Y0 f hr.mono (Z0 (Z8 0) (Z0 (Zf Y6 (Z1 1) (Z3)) (Z0 (Zf Y6 (Z3) (Zc Wd (Zc W4 (Z1 4) (Z3)) (Z1 2))) (Z0 (Zf Wd (Zc W4 (Z1 4) (Z3)) (Zc Y6 (Z1 3) (Z3))) Z7))))))))
  (Za (Zl 6 Y4.nd (Zf W4 (Z1 4) (Z3)))
  (Za (Tu (Ue (Tv hr.units) (Zc Wd (Z1 6) (Z3)) (Z3) (Yd _)) (Za (Zl 7 Y4.nd (Zf Wd (Zc W4 (Z1 6) (Z3)) (Y8 U9 T.b_len (Z0 (Zj Zx (Z1 5) (Z3)) Z7))))
  (Zn (Zl 5 Y4.nd (Zr (Z0 (Zq Zx (Z1 5) (Z3)) (Z0 (Zf G6 (Ur E9 (Zj Zx (Z1 5) (Z3)) Mp (Mj (Z1 7))) (Ur E9 (Zj Zx (Z1 5) (Z3)) (Mj (Zc Y6 (Z1 7) (Z3))) Mp)) (Z0 (Zq Zx (Z1 5) (Z3)) (Z0 (Zq Zx (Z1 5) (Z3)) Z7)))))))) Vx)
  (Za ?c0
  (Za (Ve AR rfl (Yz T.b_range (Z0 (Z1 8) Z7)) (Zh 9 Y4.nd) (Za (Zl 10 Y4.nd (Zf Wd (Zc Y6 (Zc W4 (Z1 6) (Z3)) (Zc Db (Z3) (Z1 9))) (Zc Y6 (Y8 U9 T.b_len (Z0 (Zj Zx (Z1 5) (Z3)) Z7)) (Z3))))
  (Za (Zl 11 Y4.nd (Zq Zx (Ya (Tt (Z0 (W1) (Z0 (W1) Z7)))) (Zc Wd (Zc Y6 (Zc W4 (Z1 6) (Z3)) (Z1 9)) (Z3))))
  (Zn (Zl 5 Y4.nd (Y0 g hr.mono (Z0 (Z8 5) (Z0 (Z8 10) (Z0 (Z8 11) (Z0 (Um (Tv hr.units) (Zc Wd (Zc Y6 (Zc W4 (Z1 6) (Z3)) (Zc W4 (Z1 9) (Z3))) (Z3)) (Z3) (Yd _)) (Z0 (Zq Zx (Ss) (Z1 9)) Z7)))))))))))
  (Za (Tu (Ue (Tv hr.units) (Zc Wd (Zc W4 (Z1 6) (Z3)) (Z3)) (Z3) (Yd _)) (Zn (Zl 5 Y4.nd (Y0 d hr.mono (Z0 (Z8 5) (Z0 (Zf W4 (Z1 4) (Z3)) Z7))))) Vx)
  (Zn (W2 (Z8 5))))))))))
  case c0=>exact(by
   refine Zl (x:="_law_many") 8 ?a1 ?a2 ?a3 ?a4 ?a5 ?a6
   case a1=>exact Y4.nd
   case a3=>rfl
   case a4=>exact(AY rfl)
   case a5=>kernel_rfl!
   case a6=>first | exact .inl rfl | exact .inr rfl
   case a2 =>
    exact(Zq Zx (Ya (Tt (by
     refine Z0 ?q0 ?r0 ?h0
     case h0=>show _=_;kernel_rfl!
     case q0=>exact(Yf)
     refine Z0 ?q1 ?r1 ?h1
     case h1=>show _=_;kernel_rfl!
     case q1=>exact(Yf)
     refine Z0 ?q2 ?r2 ?h2
     case h2=>show _=_;kernel_rfl!
     case q2=>exact(Yf)
     refine Z0 ?q3 ?r3 ?h3
     case h3=>show _=_;kernel_rfl!
     case q3=>exact(Yf)
     refine Z0 ?q4 ?r4 ?h4
     case h4=>show _=_;kernel_rfl!
     case q4=>exact(Yf)
     refine Z0 ?q5 ?r5 ?h5
     case h5=>show _=_;kernel_rfl!
     case q5=>exact(Yf)
     refine Z0 ?q6 ?r6 ?h6
     case h6=>show _=_;kernel_rfl!
     case q6=>exact(Yf)
     refine Z0 ?q7 ?r7 ?h7
     case h7=>show _=_;kernel_rfl!
     case q7=>exact(Zf Lp (Z3) (Y8 U9 T.b_len (Z0 (Zj Zx (Z1 5) (Z3)) Z7)))
     exact Z7))) (Zc Wd (Zc W4 (Z1 6) (Z3)) (Z3))))))
theorem Xz(c:b.F "_law_gates" Ti)(T:TX b)   : Sa b :=
 We c Ud (by ext) (λ_ _ _ _ _ _ _ hr=>(by
  unfold Rv;refine(Za (Zl 1 Ud.nd (Qq (Tt Z7)))
  (Za (Ve AR rfl (J1 (Z8 0)) (J2 (n:=3) rfl (Y1 (Zh 2 Ud.nd) (Y1 (Zh 3 Ud.nd) (Y1 (Zh 4 Ud.nd) Uy)))) (Zn (Zl 1 Ud.nd (Zf Y6 (Zc Y6 (Z1 1) (Ya ?c0)) (Ya ?c1)))))
  (Zn (W2 (Z8 1)))))
  case c0=>exact Vl (Z9 Ti) [none,some 2] LA rfl rfl (Vr (Z1 3)) (λ_ _ _ _=>⟨(Zh 0 (by ext)),Tb,(Zr (Z0 (Z8 1) (Z0 (Yf) (Z0 (Z8 0) Z7))))⟩) (by decide)
  case c1=>exact Vl (Z9 Ti) [none,some 2] LA rfl rfl (Vr (Z1 4)) (λ_ _ _ _=>⟨(Zh 0 (by ext)),Tb,(Zr (Z0 (Z8 1) (Z0 (PL (m:=false) OS (Z3)) (Z0 (Z8 0) Z7))))⟩) (by decide)))
theorem iG(c:b.F "_law_up" Di)(T:TX b)   : Io b :=
 We c b' (by ext) (λ_ _ _ _ _ _ _ hr=>(by
  unfold Pj;refine(Zn (W2 (Um PD (Y8 U9 T.b_len (Z0 (Ya ?c0) Z7)) (Z3) (Yd _))))
  case c0=>exact Vl (Z9 Di) [none,some 1] ["_law_row","_law_code"] rfl rfl (Vr (Z1 0)) (λ_ _ _ _=>⟨(Zh 0 (by ext)),(R0 (Ue (Tv hr.units) (Zc M4 (Z1 1) (Zj Zx (Z1 0) (Z3))) (Zj Zx (Z1 0) (Z3)) (Yd _))),(Z8 0)⟩) (by decide)))
theorem Ox(c:b.F "_law_called" T5)(T:TX b) (a:Sa b)(d:Io b):Ef b :=
 We c Ws (λ_ _ _ _ _ _ us hl=>K' us hl λ_ _ _=>rfl) (λ_ _ _ _ _ _ _ hr=>(by
  unfold Mh;exact(Za (Zl 3 Ws.nd (Y0 a hr.mono (Z0 (Z8 0) Z7)))
  (Za (bo 4 Ws.nd (Z9 T5) [none,some 2,some 1,some 3] UL rfl rfl (Yz T.b_range (Z0 (Y8 U9 T.b_len (Z0 (Z1 3) Z7)) Z7)) (λ_ _ _ _=>⟨(Zh 0 (by ext)),(R0 (Ue (An hr.units) (Zj Zx (Z1 1) (Z1 0)) (Yv d hr.mono (Z0 (Zq Zx (Zj Zx (Z1 3) (Z1 0)) (Z3)) (Z0 (Z8 2) Z7))) (Yd _))),(Zr (Z0 (W1) (Z0 (Z8 0) Z7)))⟩) (by decide))
  (Za (Ve AR rfl (J1 (Z8 0)) (J2 (n:=3) rfl (Y1 (Zh 5 Ws.nd) (Y1 (Zh 6 Ws.nd) (Y1 (Zh 7 Ws.nd) Uy)))) (Za (Rc 8 Ws.nd (Z9 T5) [none,none,some 5] LW rfl rfl (iW (by rfl) T.b_zip (Z0 (Z1 3) (Z0 (Z1 2) Z7))) (λ_ _ _ _=>⟨(J2 (n:=2) rfl (Y1 (Zh 0 (by ext)) (Y1 (Zh 1 (by ext)) Uy))),(R0 (Ah.pt (N1 (Dz (Z1 1)) (Et (Ue (Tv hr.units) (Zj Zx (Z1 0) (Z3)) (Z1 2) (Yd _)))))),(Zq Zx (Z1 0) (Z3))⟩) (by decide))
  (Za (Zl 9 Ws.nd (Zq Zx (Ya (Tt (Z0 (Yf) (Z0 (PL (m:=false) OS (Z3)) Z7)))) (Zc M4 (Zc Nq (Z1 1) (Z1 5)) (Z3))))
  (Zn (Tu (Ah.pt (N1 (Ue (US hr.units) (Z1 9) (Z1 8) (by rfl)) (Et (Ue (OU hr.units) (Zc Lp (Z3) (Z1 9)) (Z1 8) (by rfl))))) (Zn (Vt 4 AZ BA Vj (Z0 (Zr (Z0 (W1) (Z0 (Z8 5) Z7))) Z7))) Vx)))))
  (Zn (K1 4)))))))
theorem Xs(c:b.F "_law_moves" Ru)(T:TX b) (d:Ef b)(a:Rj b):Hb b :=
 We c Mg (λ_ _ _ _ _ _ us hl=>K' us hl λ_ _ _=>rfl) (λ_ _ _ _ _ _ _ hr=>(by
  unfold Rl;exact(Za (Tx 3 Mg.nd (Tt Z7))
  (Za (Ve AR rfl (Yz T.b_range (Z0 (Y8 U9 T.b_len (Z0 (Zj Zx (Z1 0) (Z3)) Z7)) Z7)) (Zh 4 Mg.nd) (Zn (Tu (Ah.pt (N1 (Ue (Tv hr.units) (Zj Zx (Zj Zx (Zj Zx (Z1 0) (Z3)) (Zj Zx (Zj Zx (Zj Zx (Z1 0) (Z3)) (Z1 4)) (Z3))) (Z3)) (Ss) (Yd _)) (Et (Dz (Yv a hr.mono (Z0 (Z8 0) (Z0 (Zq Zx (Z1 2) (Z3)) (Z0 (Z8 4) Z7)))))))) (Zn (Vt 3 AZ BA Vj (Z0 (Zr (Z0 (W1) (Z0 (Z8 4) Z7))) Z7))) Vx)))
  (Zn (W2 (Zf Y6 (xo 3) (Yv d hr.mono (Z0 (Z8 1) (Z0 (Zq Zx (Zj Zx (Z1 2) (Z3)) (Z3)) (Z0 (Zq Zx (Z1 2) (Z3)) Z7)))))))))))
theorem Xf(c:b.F "_law_begun" Jg)(T:TX b) (d:Io b)(a:Sa b):Gy b :=
 We c Oe (by ext) (λ_ _ _ _ _ _ _ hr=>(by
  unfold Hj;refine(Zn (W2 (Zr (Z0 (Zr (Z0 (Zq Zx (Z1 0) (Z3)) (Z0 (Zq Zx (Z1 0) (Z3)) Z7))) (Z0 (Vn (m:=false) Vd T.b_tuple (Z0 (Ya ?c0) Z7)) Z7)))))
  case c0=>exact Vl (Z9 Jg) [none,some 0] ["_law_one","_law_graph_here"] rfl rfl (Vr (Yv a hr.mono (Z0 (Z8 1) Z7))) (λ_ _ _ _=>⟨(Zh 0 (by ext)),Tb,(Y0 d hr.mono (Z0 (Zq Zx (Z1 0) (Z3)) (Z0 (Zq Zx (Z1 1) (Z3)) Z7)))⟩) (by decide)))
theorem Kv(c:b.F "_law_any_gate" Qw)(T:TX b) (a:Uk b)(d:Kn b):Sg b :=
 We c Yt (by ext) (λ_ _ _ _ _ _ _ hr=>(by
  unfold T8;exact(Za (Tx 6 Yt.nd (Tt Z7))
  (Za (Zl 7 Yt.nd (Zf Lp (Zc M9 (Z3) (Y8 U9 T.b_len (Z0 (Zj Zx (Z1 2) (Z3)) Z7))) (Z3)))
  (Za (Zl 8 Yt.nd (Y0 a hr.mono (Z0 (Z8 0) (Z0 (Z8 1) Z7))))
  (Za (Ve AR rfl (Fy T.b_enumerate (Z8 3)) (J2 (n:=2) rfl (Y1 (Zh 9 Yt.nd) (Y1 (Zh 10 Yt.nd) Uy))) (Za (Zl 11 Yt.nd (Zf Wd (Zc W4 (Yv a hr.mono (Z0 (Z8 0) (Z0 (Zf Y6 (Z1 1) (Zc Wd (Z1 9) (Z3))) Z7))) (Zc Y6 (Z3) (Z1 9))) (Z3)))
  (Zn (Tu (Ah.pt (PJ (Ah.pt (N1 (Ue (Tv hr.units) (Yv d hr.mono (Z0 (Z8 2) (Z0 (Z8 10) (Z0 (Z8 5) Z7)))) (Z1 4) (Yd _)) (Et (Ue PD (Z1 11) (Z3) (Yd _))))) (QT (Ue (Tv hr.units) (Z1 11) (Z3) (Yd _))))) (Za (Zl 12 Yt.nd (Z8 7))
  (Za (Tu (Ue (Tv hr.units) (Zc Wd (Z1 8) (Z3)) (Z3) (Yd _)) (Zn (Zl 12 Yt.nd (Zf Bv (Z1 7) (Zc M9 (Z3) (Zc Wd (Zc Y6 (Zc W4 (Z1 8) (Z3)) (Z1 9)) (Y8 U9 T.b_len (Z0 (Zj Zx (Z1 2) (Z3)) Z7))))))) Vx)
  (Zn (Tu (Ue (OU hr.units) (Jo (Z0 (Z8 12) (Z0 (Zf M4 (Zj Zx (Z1 10) (Z3)) (Z1 12)) Z7))) (xo 6) (by rfl)) (Zn (Vt 6 AZ BA Vj (Z0 (Zr (Z0 (Z8 12) (Z0 (Zf M4 (Zj Zx (Z1 10) (Z3)) (Z1 12)) Z7))) Z7))) Vx)))) Vx))))
  (Zn (W2 (Vn (m:=false) Vd T.b_tuple (Z0 (xo 6) Z7))))))))))
theorem Nc(c:b.F "_law_any_net" Ju)(T:TX b) (a:Uk b)(d:Sg b):Sw b :=
 We c Ys (by ext) (λ_ _ _ _ _ _ _ hr=>(by
  unfold Tq;exact(Za (Tx 4 Ys.nd (Tt Z7))
  (Za (Ve AR rfl (Yz T.b_range (Z0 (Y8 U9 T.b_len (Z0 (Zj Zx (Z1 2) (Z3)) Z7)) Z7)) (Zh 5 Ys.nd) (Zn (Tu (Ue (Tv hr.units) (Zj Zx (Zj Zx (Zj Zx (Z1 2) (Z3)) (Z1 5)) (Z3)) (Ss) (Yd _)) (Za (Tx 6 Ys.nd (Tt Z7))
  (Za (Ve AR rfl (J1 (Qq (Tt (Z0 (Yf) (Z0 (PL (m:=false) OS (Z3)) Z7))))) (Zh 7 Ys.nd) (Za (Zl 8 Ys.nd (Y0 a hr.mono (Z0 (Z8 0) (Z0 (Zf Y6 (Z1 1) (Z1 5)) Z7))))
  (Za (Zl 9 Ys.nd (Y0 d hr.mono (Z0 (Z8 0) (Z0 (Zf Y6 (Zc Y6 (Z1 1) (Zc Db (Z3) (Z1 5))) (Zc W4 (Zc Lp (Z3) (Z1 7)) (Z3))) (Z0 (Z8 2) (Z0 (Z8 3) (Z0 (Z8 7) (Z0 (Z8 5) Z7))))))))
  (Za (Zl 10 Ys.nd (Zr (Z0 (Z8 9) Z7)))
  (Za (Tu (Ue (Tv hr.units) (Zc Wd (Z1 8) (Z3)) (Z3) (Yd _)) (Zn (Zl 10 Ys.nd (Zr (Z0 (Cy (m:=false) E9 (Z1 9) Mp (Mj (Z3))) (Z0 (Cy (m:=false) E9 (Z1 9) (Mj (Z3)) Mp) Z7))))) Vx)
  (Za (Tu (Ue (Tv hr.units) (Zc Wd (Z1 8) (Z3)) (Z3) (Yd _)) (Zn (Zl 10 Ys.nd (Zr Z7))) Vx)
  (Zn (Vt 6 AZ BA Vj (Z0 (Z8 10) Z7)))))))))
  (Zn (Vt 4 AZ BA Vj (Z0 (Zr (Z0 (Z8 5) (Z0 (Zq Zx (xo 6) (Z3)) (Z0 (Zq Zx (xo 6) (Z3)) Z7)))) Z7))))) Vx)))
  (Zn (W2 (Vn (m:=false) Vd T.b_tuple (Z0 (xo 4) Z7))))))))
theorem Fp(c:b.F "_law_apart" Ja)(T:TX b)   : Gq b :=
 We c W6 (by ext) (λ_ _ _ _ _ _ _ hr=>(by
  unfold Rx;refine(Za (Tx 1 W6.nd (Tt Z7))
  (Za (Ve AR rfl (J1 (Z8 0)) (J2 (n:=3) rfl (Y1 (Zh 2 W6.nd) (Y1 (Zh 3 W6.nd) (Y1 (Zh 4 W6.nd) Uy)))) (Za (Tx 5 W6.nd (Tt Z7))
  (Za (Ve AR rfl (J1 (Qq (Tt (Z0 (Z8 3) (Z0 (Z8 4) Z7))))) (Zh 6 W6.nd) (Za (Zl 7 W6.nd (Qq (Tt Z7)))
  (Za (Ve AR rfl (J1 (Z8 6)) (Zh 8 W6.nd) (Zn (Zl 7 W6.nd (Zf Y6 (Z1 7) (Ya ?c0)))))
  (Zn (Vt 5 AZ BA Vj (Z0 (Vn (m:=false) Vd T.b_tuple (Z0 (Z1 7) Z7)) Z7))))))
  (Zn (Vt 1 AZ BA Vj (Z0 (Zr (Z0 (Z8 2) (Z0 (Zq Zx (xo 5) (Z3)) (Z0 (Zq Zx (xo 5) (Z3)) Z7)))) Z7))))))
  (Zn (W2 (Vn (m:=false) Vd T.b_tuple (Z0 (xo 1) Z7))))))
  case c0=>exact Vl (Z9 Ja) [none] ["_law_row"] rfl rfl (Vr (Z1 8)) (λ_ _ _ _=>⟨(Zh 0 (by ext)),Tb,(Zr (Z0 (Z8 0) Z7))⟩) (by decide)))
theorem Oh(c:b.F "_law_within" Qn)(T:TX b)   : E5 b :=
 We c V5 (by ext) (λ_ _ _ _ _ _ _ hr=>(by
  unfold Ql;refine(Za (Zl 1 V5.nd (Yf))
  (Za (Ve AR rfl (J1 (Z8 0)) (J2 (n:=3) rfl (Y1 (Zh 2 V5.nd) (Y1 (Zh 3 V5.nd) (Y1 (Zh 4 V5.nd) Uy)))) (Za (Zl 5 V5.nd (Ta (b0 rfl) T.b_sum (Z0 (Ya ?c0) Z7)))
  (Za (Zl 1 V5.nd (Zf Y6 (Z1 1) (Z1 5)))
  (Zn (Tu (Ue PD (Z1 5) (Z3) (Yd _)) (Zn (W2 (T9))) Vx)))))
  (Zn (W2 (Um eE (Z1 1) (Z3) (Yd _))))))
  case c0=>exact Vl (Z9 Qn) [none] ["_law_gate"] rfl rfl (Vr (Zc G6 (Z1 3) (Z1 4))) (λ_ _ _ _=>⟨(Zh 0 (by ext)),Tb,(Ta U9 T.b_len (Z0 (Z1 0) Z7))⟩) (by decide)))
theorem Og(c:b.F "_law_begins" T0)(T:TX b) (h:WT b)(f:Gy b)(a:Gk b)(g:Gj b)(d:Hb b)(e:Hx b):Ed b :=
 We c Uj (by ext) (λ_ _ _ _ _ _ _ hr=>(by
  unfold My;refine(Za (Zl 2 Uj.nd (cM (m:=false) h hr.mono (Z0 (Z8 0) (Z0 (Z8 1) Z7))))
  (Za (Zl 3 Uj.nd (Y0 f hr.mono (Z0 (Z8 0) (Z0 (Z8 1) Z7))))
  (Za (Rc 4 Uj.nd (Z9 T0) [none,some 2] ["_law_g","_law_play"] rfl rfl (Yz T.b_range (Z0 (Y8 U9 T.b_len (Z0 (Zj Zx (Z1 3) (Z3)) Z7)) Z7)) (λ_ _ _ _=>⟨(Zh 0 (by ext)),Tb,(PN (m:=false) (OR g hr.mono (Z8 1) (Z0 (Z8 0) Z7)))⟩) (by decide))
  (Za (Tu (Ah.pt (PJ (Ue (An hr.units) (PN (m:=true) (PU e hr.mono (Z8 2))) (Zj Zx (Z1 3) (Z3)) (Yd _)) (PJ (M' (Dz (QK (m:=true) (T:="tuple") (PN (m:=true) (PU e hr.mono (Z8 2))) (by rfl) T.b_isinstance (by ext) (by rfl) T.b_tuple (by ext)))) (QT (Ue (An hr.units) (Vn (m:=true) Vd T.b_tuple (Z0 (Z1 4) Z7)) (Zj Zx (Z1 3) (Z3)) (Yd _)))))) (Zn (W2 (T9))) Vx)
  (Za (Tu (Ue PD (Y8 U9 T.b_len (Z0 (Ya ?c0) Z7)) (Z3) (Yd _)) (Zn (W2 (T9))) Vx)
  (Za (Tx 5 Uj.nd (OZ (PU a hr.mono (Z8 2))))
  (Za (Tu (Ah.pt (PJ (M' (Dz (QK (m:=true) (T:="list") (xo 5) (by rfl) T.b_isinstance (by ext) (by rfl) T.b_list (by ext)))) (QT (Ue (An hr.units) (xo 5) (Yv d hr.mono (Z0 (Z8 0) (Z0 (Z8 1) (Z0 (Z8 3) Z7)))) (Yd _))))) (Zn (W2 (T9))) Vx)
  (Za (Vt 5 AZ BA Vj (Z0 (Zr (Z0 (W1) (Z0 (Yf) Z7))) Z7))
  (Zn (W2 (Um (Tv hr.units) (Ya (OZ (PU a hr.mono (Z8 2)))) (Yv d hr.mono (Z0 (Z8 0) (Z0 (Z8 1) (Z0 (Z8 3) Z7)))) (Yd _))))))))))))
  case c0=>exact Vl (Z9 T0) [none] ["_law_level"] rfl rfl (Vr (Z1 4)) (λ_ _ _ _=>⟨(Zh 0 (by ext)),(R0 (M' (Dz (QK (m:=true) (T:="bool") (Z1 0) (by rfl) T.b_isinstance (by ext) (by rfl) T.b_bool (by ext))))),(Z8 0)⟩) (by decide)))
theorem bU{f:A2}(c:KF b.K "law" "law" E8 f fd)(T:TX b) (d:R5 b)(e:Sw b)(k:SN b)(h:Ea b)(j:Gq b)(i:E5 b)(a:Ed b)(hl:∀ ns:Z Int,ns.length<=63->UM [.lst (ns.map .int)]=.ok (.bl true)):I' b.P b.w b.K b.mg b.base A7 9 f fd KO (Bz b.K) :=
 cO (N:=VF) (ps:=KO) (st:=E8) (g:=OJ) c Fu rfl (λ_ _ _ _ _ _ hr=>(by
  unfold OJ;exact(Za (Zl 1 Fu.nd (Y0 d hr.mono (Z0 (Z8 0) (Z0 (Yf) (Z0 (Yf) (Z0 (Yf) Z7))))))
  (Za (Zl 2 Fu.nd (Y0 e hr.mono (Z0 (Z8 0) (Z0 (Yf) (Z0 (Z8 1) (Z0 (Y0 h hr.mono (Z0 (Z8 1) Z7)) Z7))))))
  (Za (Zl 3 Fu.nd (Y0 k hr.mono (Z0 (Z8 2) Z7)))
  (Za (Tu (Ue (An hr.units) (Z1 3) (Yv j hr.mono (Z0 (Z8 2) Z7)) (Yd _)) (Zn (W2 (T9))) Vx)
  (Za (Tu (Ah.pt (N1 (Dz (Yv i hr.mono (Z0 (Z8 2) Z7))) (Et (M' (Dz (Yv a hr.mono (Z0 (Z8 1) (Z0 (Z8 3) Z7)))))))) (Zn (W2 (T9))) Vx)
  (Zn (W2 (UA (m:=false) (Yv a hr.mono (Z0 (Z8 1) (Z0 (Z8 2) Z7))) (XR (Y0 a hr.mono (Z0 (Z8 1) (Z0 (Z8 2) Z7)))))))))))))) hl
theorem f7(c:JK b.K "Bench" "levels_at" "Bench.levels_at" Vh)(T:TX b)(a:O3 b)(d:Xb b):VZ b :=
 RX c Jr (by ext) (λ_ _ _ _ ⟨_,_,_,_,_,_,_,_,e,_⟩=>by rw[e];rfl) (λ_ _ _ _ _ _ _ _ _ hr h=>by
  exact bT (N7 hr) rfl T.a_Bench_known (UB (N7 hr) (Z1 1) (G9 (m:=true) (Z1 0) T.a_Bench_known)) (Fz (W8 rfl (by ext)) rfl) (W8 rfl (by ext)) (by
   refine(Y0 a hr.mono (Z0 (Qq ?c0) Z7))
   case c0=>exact Vl (Z9 Vh) [none,none,some 1] ["g","gate","code"] rfl rfl (YD T.b_enumerate (G9 (m:=true) (Z1 0) T.a_Bench_gates)) (λ_ _ _ _=>⟨(J2 (n:=2) rfl (Y1 (Zh 0 (by ext)) (Y1 (Zh 1 (by ext)) Uy))),(R0 (Dz (Yv d hr.mono (Z0 (Z8 1) (Z0 (Z8 2) Z7))))),(Z8 0)⟩) (by decide)) (Fz (W8 rfl (by ext)) rfl) (W8 rfl (by ext)) (λ_ _=>rfl) (by rfl) h)
theorem bC(c:JK b.K "Bench" "first" "Bench.first" Mm)(T:TX b)(C:VZ b):U' b :=
 RX c Ly (by ext) (λ_ _ _ _ ⟨_,_,_,_,_,_,_,_,_,_,e,_⟩=>by rw[e];rfl) (λ_ _ _ _ _ _ _ _ _ hr h=>by
  exact cz rfl C hr.mono (Zq Zx (G9 (m:=true) (Z1 0) T.a_Bench_graph) (Z3)) (Zq Zx (G9 (m:=true) (Z1 0) T.a_Bench_graph) (Z3)) (Zq Zx (G9 (m:=true) (Z1 0) T.a_Bench_graph) (Z3)) (W8 rfl (by ext)) (h:=h))
theorem cg(c:LG b.K b.mg "Bench" "Bench.__init__" Qf)(T:TX b)(a:Np b)(d:Nl b):SY b :=
 WL c Hs (λ_ _ _ _ _ _ us hl=>K' us hl λ_ _ _=>rfl) (λ_ _ _ _ ⟨_,_,_,_,_,_,_,_,_,_,_,e,_⟩=>by rw[e];rfl) (λ_ _ _ _ _ _ _ _ _ hr h=>by
  exact f5 (k:=3) rfl (a.mono (by lia)) (d.mono (by lia)) hr T.a_Bench_graph T.a_Bench_gates T.a_Bench_sides T.a_Bench_known (W8 rfl (by ext)) (W8 rfl (by ext)) (W8 rfl (by ext)) (W8 rfl (by ext)) (W8 rfl (by ext)) (W8 rfl (by ext)) (W8 rfl (by ext)) (h:=h))
theorem bt(c:LG b.K b.mg "Play" "Play.__init__" Qv)(T:TX b)(C1:SY b)(a:U' b):WT b :=
 WL c Iv (λ_ _ _ _ _ _ us hl=>K' us hl λ_ _ _=>rfl) (λ_ _ _ _ ⟨_,_,_,_,_,_,_,_,_,_,_,_,_,_,_,e,_⟩=>by rw[e];rfl) (λ_ _ _ _ _ _ _ _ _ hr h=>by
  exact gc (k:=4) rfl C1 a hr hr.mono T.a_Play_graph T.a_Play_net T.a_Play_bench T.a_Play_pose (W8 rfl (by ext)) (W8 rfl (by ext)) (W8 rfl (by ext)) (W8 rfl (by ext)) (W8 rfl (by ext)) (W8 rfl (by ext)) (W8 rfl (by ext)) (W8 rfl (by ext)) (Fz (W8 rfl (by ext)) rfl) (h:=h))
end
end K61
namespace L2
open PySem PySem.Spec PyProof.Rows
def Gd(r:Fl)(N:Ev->Prop)(R:Dat->Prop):Prop:=match r with
 | .next e=>N e
 | .ret d=>R d
 | _=>False
structure Go (r:Fl) (N:Ev->Prop) (R:Dat->Prop):Prop where
 of:Gd r N R
section
variable{g:Ev->Fl}{d:Dat}
theorem Go.mono{N':Ev->Prop}{i:Dat->Prop}{r:Fl}(q:Go r N R)(hN:∀ e,N e->N' e)(c:∀ d,R d->i d):Go r N' i:=by
 cases r with
 | next e=>exact⟨hN e q.of⟩
 | ret d=>exact⟨c d q.of⟩
 | _=>exact q.of.elim
theorem Wk(q:N env):Go (Tr env) N R:=⟨q⟩
theorem Z6(q:Go (g env) (λe=>Go (h e) N R) R):Go (Zd g h env) N R:=by
 unfold Zd;cases e:g env with
 | next e'=>rw[e] at q;exact q.of
 | ret d=>rw[e] at q;exact⟨q.of⟩
 | _=>rw[e] at q;exact q.of.elim
theorem Ze(e:f env=some d)(q:N (env.set i (.fz d))):Go (Zz i f env) N R:=by unfold Zz;rw[e];exact⟨q⟩
theorem U2(e:fs env=some ds)(q:N (env.set i (.ow ds))):Go (Qy i fs env) N R:=by unfold Qy;rw[e];exact⟨q⟩
theorem Yg(e:f env=some d)(q:R d):Go (Wt f env) N R:=by unfold Wt;rw[e];exact⟨q⟩
theorem Du(e:env[i]?=some (.ow ds))(q:R (.lst ds)):Go (Ec i env) N R:=by unfold Ec;rw[e];exact⟨q⟩
theorem dm(e:t env=some true)(q:Go (g env) N R):Go (Sy t g h env) N R:=by unfold Sy;rw[e];exact q
theorem Ga(e:t env=some false)(q:Go (h env) N R):Go (Sy t g h env) N R:=by unfold Sy;rw[e];exact q
theorem Ux{b:Bool}(e:t env=some b)(q1:b=true->Go (g env) N R)(q2:b=false->Go (h env) N R):Go (Sy t g h env) N R:=by
 cases b with
 | true=>exact dm e (q1 rfl)
 | false=>exact Ga e (q2 rfl)
theorem Ce(e:f env=some d)(e2:gg d env=some env')(q:N env'):Go (Cz f gg env) N R:=by
 unfold Cz;rw[e];dsimp only[Option.bind];rw[e2];exact⟨q⟩
theorem Wv{F:Z Dat->Z Dat->Cc (Z Dat)}{ds':Z Dat}(e:env[i]?=some (.ow ds))(e2:fs env=some as)(e3:F ds as=some ds')(q:N (env.set i (.ow ds'))):Go (U6 i F fs env) N R:=by
 unfold U6;rw[e];dsimp only;rw[e2];dsimp only[Option.bind];rw[e3];exact⟨q⟩
theorem TV(P:Nat->Ev->Prop):∀ (ds:Z Dat) (k:Nat) (env:Ev),P k env->(∀ i d e,ds[i]?=some d->P (k+i) e->∃ e1,gg d e=some e1/\Go (g e1) (P (k+i+1)) R)->(∀ e,P (k+ds.length) e->N e)->Go (Xa gg g ds env) N R
 | [],k,env,h0,_,hN=>⟨hN env h0⟩
 | d::ds,k,env,h0,hs,hN=>by
  obtain⟨e1,a1,a2⟩:=hs 0 d env rfl h0;rw[Xa,a1];dsimp only;cases e:g e1 with
  | next e' =>
   rw[e] at a2;exact TV P ds (k+1) e' a2.of (λi d e hi F=>by
    have:=hs (i+1) d e (by simpa using hi) (by rw[show k+(i+1)=k+1+i by lia];exact F);rw[show k+1+i+1=k+(i+1)+1 by lia];exact this) (λe F=>hN e (by rw[BJ,show k+(ds.length+1)=k+1+ds.length by lia];exact F))
  | ret d'=>rw[e] at a2;exact⟨a2.of⟩
  | _=>rw[e] at a2;exact a2.of.elim
theorem W3(P:Nat->Ev->Prop)(e:az env=some ds)(h0:P 0 env)(hs:∀ i d e,ds[i]?=some d->P i e->∃ e1,gg d e=some e1/\Go (g e1) (P (i+1)) R)(hN:∀ e,P ds.length e->N e):Go (Uv az gg g env) N R:=by
 unfold Uv;rw[e];exact TV P ds 0 env h0 (λi d e hi F=>by simpa using hs i d e hi (by simpa using F)) (λe F=>hN e (by simpa using F))
theorem Go.ne{r:Fl}(q:Go r N R):r≠.no:=λz=>by rw[z] at q;exact q.of
theorem bM(W:Nat->Ev->Prop)(h0:W n env)(hs:∀ n e,W n e->(t e=some false/\N e)\/(t e=some true/\Go (g e) (λe'=>∃ m,m<n/\W m e') R)):Go (K2 t g env) N R:=by
 have D:∀ n e,W n e->Go (Ul t g (n+1) e) N R:=by
  intro n;induction n using Nat.strongRecOn with
  | _ n ih =>
   intro e hw;rcases hs n e hw with⟨a,b⟩ | ⟨a,b⟩
   .rw[Ul,a];exact⟨b⟩
   .rw[Ul,a]
    dsimp only;cases eg:g e with
    | next e' =>
     rw[eg] at b;obtain⟨m,hm,c⟩:=b.of;have q:=ih m hm e' c;dsimp only;have:=Qr (n - (m+1)) q.ne;rw[show m+1+(n - (m+1))=n by lia] at this;rw[this];exact q
    | ret d=>rw[eg] at b;exact⟨b.of⟩
    | _=>rw[eg] at b;exact b.of.elim
 have q:=D n env h0;rw[ZS q.ne];exact q
theorem Yb{p:Nat}(F:ds.length=p)(q:Go (g (Mo n ds)) (λ_=>R .non) R):∃ d,Wp n p g ds=.ok d/\R d:=by
 unfold Wp;rw[AF F];cases e:g (Mo n ds) with
 | next e'=>rw[e] at q;exact⟨_,rfl,q.of⟩
 | ret d=>rw[e] at q;exact⟨_,rfl,q.of⟩
 | _=>rw[e] at q;exact q.of.elim
end
theorem Ts{d:Dat}(h:(rng lo n)[i]?=some d):i<n/\d=.int (lo+i):=by
 unfold rng at h;rw[AQ] at h;by_cases hi:i<n
 .rw[EX hi] at h
  exact⟨hi,(BK h).symm⟩
 .rw[DP (by simpa using hi)] at h
  cases h
theorem W0(h:fs env=some [.int n])(hn:n<=100000):U8 fs env=some (rng 0 n):=by
 unfold U8;rw[h];dsimp only;rw[AF ⟨by lia,by lia,by rw[FI];simp;lia⟩,BS]
theorem Ld{i:Int}(h:LY i j):Eu (.int i) (.int j)=some (.int (i*j)):=AF h
theorem UO{i:Int}(h:0<j):V8 (.int i) (.int j)=some (.int (i % j)):=AF h
theorem gU{i:Int}(h:NW i j):Wc (.int i) (.int j)=some (.int (i / j)):=AF h
theorem Z5{F:Dat->Dat->Cc α}{g:Zzu}(h1:f env=some x)(h2:g env=some y)(h3:F x y=some z):L F f g env=some z:=by unfold L;rw[h1,h2];exact h3
theorem Yn{F:Z Dat->Cc α}(h1:fs env=some xs)(h3:F xs=some z):dF F fs env=some z:=by unfold dF;rw[h1];exact h3
theorem Z4(h1:f env=some x)(h2:fs env=some xs):O f fs env=some (x::xs):=by unfold O;rw[h1,h2];rfl
theorem Zo{d:Dat}(h1:fs env=some xs)(h2:F xs=.ok d):Yj F fs env=some d:=by unfold Yj;rw[h1];show ND (F xs)=_;rw[h2];rfl
theorem Wa{b:Bool}(h:f env=some (.bl b)):dB f env=some b:=by unfold dB;rw[h]
theorem ZV(z:Str)(u:Z Str):(u.map Dat.str).any (λy=>R8 y (.str z))=decide (z∈u):=by
 induction u with
 | nil=>simp
 | cons w u ih =>
  rw[BM,FN,ih];have:R8 (.str w) (.str z)=(w==z):=by unfold R8;rfl
  rw[this];by_cases e:w=z
  .subst e;simp
  .have e':(w==z)=false:=by simpa using e
   have e2:¬ z=w:=λq=>e q.symm
   rw[e'];simp[e2]
theorem XS(n:Nat)(z:Str):pd n (.str z)=true:=by cases n<;>rfl
theorem ff(u:Z Str):(u.map Dat.str).all (pd 20)=true:=by
 induction u with
 | nil=>rfl
 | cons w u ih=>rw[BM,List.all_cons,ih,XS];rfl
theorem b3(z:Str)(u:Z Str):LC (.str z) (.lst (u.map .str))=some (decide (z∈u)):=by
 unfold LC;dsimp only;rw[ff,XS,Bool.and_self,AF rfl,ZV]
theorem eO(z:Str)(u:Z Str):LX (.str z) (.lst (u.map .str))=some (.bl (decide (z∈u))):=by unfold LX;rw[b3];rfl
theorem cU{a b:Bool}(h1:t env=some a)(h2:a=false->u env=some b):Fc t u env=some (a||b):=by
 unfold Fc;rw[h1];cases a with
 | true=>rfl
 | false=>exact h2 rfl
theorem M1{a b:Bool}(h1:t env=some a)(h2:a=true->u env=some b):Sc t u env=some (a&&b):=by
 unfold Sc;rw[h1];cases a with
 | false=>rfl
 | true=>exact h2 rfl
theorem Ee{F:Dat->Cc Int->Cc Int->Cc Dat}{l h:Ev->Cc (Cc Int)}{z:Dat}{a b:Cc Int}(h1:f env=some x)(h2:l env=some a)(h3:h env=some b)(h4:F x a b=some z):dS F f l h env=some z:=by
 unfold dS;rw[h1,h2,h3];exact h4
theorem T3{i:Int}(h:f env=some (.int i)):Jz f env=some (some i):=by unfold Jz;rw[h]
theorem L1{j:Nat}(h:xs[j]?=some x):Yk (.lst xs) (.int j)=some x:=Gn h
theorem Xd{j:Nat}(h:xs[j]?=some x):Yk (.tup xs) (.int j)=some x:=Gn h
theorem gn(x y:Dat)(h0:0<=j)(h1:j<2):Yk (.lst [x,y]) (.int j)=some (if j=1 then y else x):=by
 rcases(show j=0\/j=1 by lia) with rfl | rfl<;>rfl
theorem Y3(h:fs env=some xs)(hl:xs.length<=1000):Yq fs env=some (.tup xs):=by unfold Yq;rw[h];exact AF hl
theorem Wi{d:Dat}(h:ds.length<=1000):Wf ds [d]=some (ds++[d]):=AF (DQ h (by decide))
abbrev Tf(ns:Z Int):Dat:=.lst (ns.map .int)
abbrev M8:Str:="abcdefghijklmnopqrstuvwxyz"
theorem Ae:cl M8=List.range' 97 26:=by ext
theorem cH(h0:0<=j)(h1:j<26):Pe (cl M8) j=some (97+j.toNat):=by
 obtain⟨n,rfl⟩:∃ n:Nat,j=n:=⟨j.toNat,(Int.toNat_of_nonneg h0).symm⟩;refine Gn ?_;rw[Ae,List.getElem?_range' (by lia)];simp
theorem ic(h0:0<=j)(h1:j<26):Yk (.str M8) (.int j)=some (.str ⟨#[97+j.toNat]⟩):=by
 show(Pe (cl M8) j).map _=_;rw[cH h0 h1];rfl
theorem XT{x y:Str}(h:x.length+y.length<=1000):Yi (.str x) (.str y)=some (.str (x++y)):=AF (BI h (by decide))
theorem QM{d:Dat}{t:String}{b:Bool}(h:f env=some d)(ht:QH d=some t)(hk:PH t T=some b):dI T f env=some (.bl b):=by
 unfold dI;rw[h];show(OA T d).map _=_;unfold OA;rw[ht];show Option.map _ (PH t T)=_;rw[hk];rfl
theorem M0{b:Bool}(h:f env=some (.bl b)):dT f env=some b:=by unfold dT;rw[h];rfl
theorem dY{g:Zzu}{d:Dat}(h:f env=some (.bl true))(h2:g env=some d):MI f g env=some d:=by unfold MI;rw[Wa h];exact h2
theorem Gp{b:Bool}(h:t env=some b):Sf t env=some (!b):=by unfold Sf;rw[h];rfl
theorem V3{r:Rs}{j:Dat}(h:∃ d,r=.ok d/\d=j):r=.ok j:=by obtain⟨d,e,rfl⟩:=h;exact e
theorem Yu{g:Zzv}(h:g env=some ds):dL g env=some (.lst ds):=by unfold dL;rw[h];rfl
theorem Y9{fs:Z (Cc Nat)}(h1:az env=some xs)(h2:Q9 fs env=env')(h3:Wr g t f env' xs=some ys):Wg az fs g t f env=some ys:=by
 unfold Wg;rw[h1,h2];exact h3
theorem W9(h:f env=some (.tup xs)):Va f env=some xs:=by unfold Va;rw[h]
theorem Ww(D:α->Dat)(y:α->Dat):∀ (xs:Z α),(∀ x∈xs,∃ e1,g (D x) env=some e1/\t e1=some true/\f e1=some (y x))->Wr g t f env (xs.map D)=some (xs.map y)
 | [],_=>rfl
 | x::xs,h=>by
  obtain⟨e1,a1,a2,a3⟩:=h x BD;have ih:=Ww D y xs λz hz=>h z (AX _ hz)
  rw[BM,Wr,a1];dsimp only[Option.bind];rw[a2];dsimp only;rw[AF rfl,a3];dsimp only;rw[ih];rfl
theorem Po(a b:Nat):Builtin.bitOr (a:Int) (b:Int)=((a ||| b:Nat):Int):=by
 unfold Builtin.bitOr Builtin.bitAnd Builtin.bitNot;have h1:decide (0<=-(a:Int) - 1)=false:=by simp;lia
 have h2:decide (0<=-(b:Int) - 1)=false:=by simp;lia
 rw[h1,h2];dsimp only;rw[show(-(-(a:Int) - 1) - 1).toNat=a by lia,show(-(-(b:Int) - 1) - 1).toNat=b by lia];lia
theorem G4(a b:Nat):Builtin.bitAnd (a:Int) (b:Int)=((a &&& b:Nat):Int):=by
 unfold Builtin.bitAnd;rw[show decide (0<=(a:Int))=true by simp,show decide (0<=(b:Int))=true by simp];simp
def I1(ps:Z Nat):Nat:=ps.foldl (λa p=>a ||| 2^p) 0
theorem ga(ps:Z Nat):∀ (a j:Nat),(ps.foldl (λa p=>a ||| 2^p) a).testBit j=(a.testBit j||decide (j∈ps)):=by
 induction ps with
 | nil=>intro a j;simp
 | cons p ps ih =>
  intro a j;rw[List.foldl_cons,ih,DV,BX];by_cases h:j=p
  .subst h;simp
  .have h':¬ p=j:=λe=>h e.symm
   simp[h,h']
theorem Jv(ps:Z Nat)(j:Nat):(I1 ps).testBit j=decide (j∈ps):=by unfold I1;rw[ga];simp
theorem XZ(ps:Z Nat):(ps.map λp:Nat=>(p:Int)).map Dat.int=ps.map λp:Nat=>Dat.int (p:Int):=by rw[BV];rfl
abbrev Zk(ps:Z Nat):Z Dat:=(ps.map λp:Nat=>(p:Int)).map Dat.int
theorem Ks(p:Nat)(F:p<=1000):Ry (.int 1) (.int (p:Int))=some (.int ((2^p:Nat):Int)):=by
 have:Ry (.int 1) (.int (p:Int))=some (.int (1*2^((p:Int)).toNat)):=AF ⟨by lia,by lia,by decide⟩;rw[this,BS,Int.one_mul];congr 2
theorem VI(n:Nat)(i:Int):pd n (.int i)=true:=by cases n<;>rfl
theorem iI(a b:Nat):Builtin.bitXor (a:Int) (b:Int)=((a ^^^ b:Nat):Int):=by
 unfold Builtin.bitXor;rw[Po,G4];have D:∀ (x y:Nat),x ||| y=(x ^^^ y)+(x &&& y):=by
  intro x;induction x using Nat.strongRecOn with
  | _ x ih =>
   intro y;by_cases hx:x=0
   .subst hx;simp
   .have h:=ih (x / 2) (by lia) (y / 2)
    have e1:x ||| y=2*(x / 2 ||| y / 2)+(x ||| y) % 2:=by rw[<- Nat.or_div_two];lia
    have e2:x ^^^ y=2*(x / 2 ^^^ y / 2)+(x ^^^ y) % 2:=by rw[<- Nat.xor_div_two];lia
    have e3:x &&& y=2*(x / 2 &&& y / 2)+(x &&& y) % 2:=by rw[<- Nat.and_div_two];lia
    have e4:(x ||| y) % 2=(x ^^^ y) % 2+(x &&& y) % 2:=by
     have t1:∀ z:Nat,z % 2=(z.testBit 0).toNat:=λz=>by rw[Nat.testBit_zero];by_cases q:z % 2=1<;>simp[q];lia
     rw[t1,t1,t1,DV,GL,FH];cases x.testBit 0<;>cases y.testBit 0<;>rfl
    lia
 have:=D a b;lia
theorem MA(n j:Nat):Ir (.int (n:Int)) (.int (j:Int))=some (.int ((n / 2^j:Nat):Int)):=by
 have:Ir (.int (n:Int)) (.int (j:Int))=some (.int ((n:Int) / 2^((j:Int)).toNat)):=by unfold Ir P9;dsimp only;rw[AF (by lia)]
 rw[this,BS];congr 2
theorem Pq(n j:Nat):Md (.int ((n / 2^j:Nat):Int)) (.int 1)=some (.int (if n.testBit j then 1 else 0)):=by
 show some (Dat.int (Builtin.bitAnd ((n / 2^j:Nat):Int) ((1:Nat):Int)))=_;rw[G4,Nat.and_one_is_mod,Nat.testBit_eq_decide_div_mod_eq];generalize n / 2^j=q;congr 2
 rcases(show q % 2=0\/q % 2=1 by lia) with h | h<;>simp[h]
theorem A5(a b:Nat):Md (.int (a:Int)) (.int (b:Int))=some (.int ((a &&& b:Nat):Int)):=by
 show some (Dat.int (Builtin.bitAnd _ _))=_;rw[G4]
theorem LQ(a b:Nat):LL (.int (a:Int)) (.int (b:Int))=some (.int ((a ||| b:Nat):Int)):=by
 show some (Dat.int (Builtin.bitOr _ _))=_;rw[Po]
theorem NA(a b:Nat):Cu (.int (a:Int)) (.int (b:Int))=some (.int ((a ^^^ b:Nat):Int)):=by
 show some (Dat.int (Builtin.bitXor _ _))=_;rw[iI]
theorem Xh(b:Bool):Mz (.int (if b then 1 else 0)) (.int 1)=some (.bl b):=by cases b<;>rfl
theorem Xj(a b:Nat):Mz (.int (a:Int)) (.int (b:Int))=some (.bl (a==b)):=by
 show some (Dat.bl ((a:Int)==(b:Int)))=_;congr 2
 rw[BR,CP,CP];lia
theorem g8(i j:Int):Mz (.int i) (.int j)=some (.bl (i==j)):=rfl
theorem iE(i j:Int):Ag (.int i) (.int j)=some (.bl (!(i==j))):=rfl
theorem hL(bs:Z Bool):NR [.lst (bs.map .bl)]=some (.bl (bs.any id)):=by unfold NR;dsimp only;rw[hF];rfl
theorem da(ns:Z Int):NM [.lst (ns.map .int)]=some (.int ns.sum):=by unfold NM;dsimp only;rw[Ip];rfl
theorem L5(h:fs env=some xs)(hl:xs.length<=1000):T7 fs env=some xs:=by unfold T7;rw[h];exact AF (BI hl (by decide))
theorem Us(ps:Z Nat):Zk ps=ps.map λp:Nat=>Dat.int (p:Int):=XZ ps
theorem He(D:α->Dat)(P:α->Prop):∀ (xs:Z Dat),(∀ x∈xs,∃ (e1:Ev) (y:α),g x env=some e1/\f e1=some (D y)/\P y)->∃ ys:Z α,Wr g Wh f env xs=some (ys.map D)/\ys.length=xs.length/\∀ y∈ys,P y
 | [],_=>⟨[],rfl,rfl,λ_ h=>nomatch h⟩
 | x::xs,h=>by
  obtain⟨e1,y,a1,a2,a3⟩:=h x BD;obtain⟨ys,b1,b2,I⟩:=He D P xs λz hz=>h z (AX _ hz)
  refine⟨y::ys,?_,by rw[BJ,BJ,b2],λz hz=>?_⟩
  .rw[Wr,a1]
   dsimp only[Option.bind,Wh];rw[AF rfl,a2];dsimp only;rw[b1];rfl
  .rcases BN.mp hz with e | e
   .exact e▸a3
   .exact I z e
theorem Xx{d:Dat}(h:d∈rng lo n):∃ i:Nat,i<n/\d=.int (lo+i):=by
 obtain⟨i,hi,e⟩:=List.getElem_of_mem h;have:=Ts (lo:=lo) (n:=n) (i:=i) (d:=d) (by rw[AL hi,e]);exact⟨i,this.1,this.2⟩
theorem Dd{d:Dat}(h:(Zk ps)[i]?=some d):∃ p:Nat,ps[i]?=some p/\d=.int (p:Int):=by
 rw[AQ,AQ] at h;obtain⟨y,hy,rfl⟩:=map_some h;obtain⟨p,B,rfl⟩:=map_some hy;exact⟨p,B,rfl⟩
theorem f6:(m &&& I1 ps)=I1 ps↔∀ p∈ps,m.testBit p=true:=by
 constructor
 .intro h p F
  have:(m &&& I1 ps).testBit p=true:=by rw[h,Jv];simpa using F
  rw[FH] at this;exact(EC.mp this).1
 .intro h
  apply CH;intro j;rw[FH,Jv];by_cases C:j∈ps
  .simp[C,h j C]
  .simp[C]
structure St3 where
 w:Nat
 up:Bool
 takes:List Nat
 fills:List Nat
def St3.d(s:St3):Dat:=.tup [.int (s.w:Int),.bl s.up,.tup (Zk s.takes),.tup (Zk s.fills)]
structure G3 where
 wires:List (Str×Bool)
 steps:List St3
 marks:Nat
 code:Nat
def Jw(w:Str×Bool):Dat:=.tup [.str w.1,.str (if w.2 then "made" else "given")]
def G3.d(G:G3):Dat:=.tup [.tup (G.wires.map Jw),.tup (G.steps.map St3.d),.int (G.marks:Int),.int (G.code:Int)]
theorem Ui(r m:Nat)(h:0<m):V8 (.int (r:Int)) (.int (m:Int))=some (.int ((r % m:Nat):Int)):=by
 rw[UO (by lia)];rfl
theorem Vg(r m:Nat)(h:0<m)(h2:m<1073741824):Wc (.int (r:Int)) (.int (m:Int))=some (.int ((r / m:Nat):Int)):=by
 rw[gU ⟨by lia,by lia⟩];rfl
theorem Bq(r m:Nat)(h:r<18446744073709551616):Eu (.int (r:Int)) (.int (m:Int))=some (.int ((r*m:Nat):Int)):=by
 rw[Ld (.inl ⟨by lia,by lia⟩)];rfl
theorem Wz(r m:Nat):Yi (.int (r:Int)) (.int (m:Int))=some (.int ((r+m:Nat):Int)):=rfl
def H9(s:St3)(m:Nat):Bool:=(m &&& I1 s.takes)==I1 s.takes
theorem Qt{s:St3} :H9 s m=true↔∀ p∈s.takes,m.testBit p=true:=by
 unfold H9;rw[CP];exact f6
theorem g1(ps:Z Nat):∃ qs:Z Nat,(Ic (ps.map λp:Nat=>(p:Int))).map Dat.int=Zk qs/\qs.Perm ps:=by
 refine⟨(Ic (ps.map λp:Nat=>(p:Int))).map Int.toNat,?_,?_⟩
 .show _=(((Ic (ps.map λp:Nat=>(p:Int))).map Int.toNat).map λp:Nat=>(p:Int)).map Dat.int
  congr 1
  rw[BV];conv=>lhs;rw[<- List.map_id (Ic _)]
  apply List.map_congr_left;intro x hx;have:=(Qb _).mem_iff.mp hx;obtain⟨p,_,rfl⟩:=CL.mp this;simp
 .have h:=(Qb (ps.map λp:Nat=>(p:Int))).map Int.toNat
  rw[BV] at h;have e:(Int.toNat ∘ λp:Nat=>(p:Int))=id:=by funext p;simp
  rw[e,List.map_id] at h;exact h
theorem Kd(ps:Z Nat)(h:ps.length<64):∃ qs:Z Nat,SH [.lst (Zk ps)]=some (Zk qs)/\qs.Perm ps:=by
 obtain⟨qs,e,F⟩:=g1 ps;refine⟨qs,?_,F⟩;unfold SH;dsimp only;rw[Ip];show(if(ps.map λp:Nat=>(p:Int)).length<64 then _ else _)=_;rw[AF (by rw[AB];exact h),e]
theorem Nt(x y:Str):(x++y).length=x.length+y.length:=WK x y
theorem WR{fs:Z (Cc Nat)}{h:Nat}(e:az env=some ds)(q:N (env.set i (.gx (.nest (List.replicate ds.length []))))):Go (P8 i az fs (Zt h) env) N R:=by
 unfold P8;rw[e];dsimp only;rw[AF (show(ds.all λd=>(Zt h d (Q9 fs env)).isSome)=true from CD.mpr λd _=>rfl)];exact⟨q⟩
def Kr(tk:Z (Z Nat))(k x:Nat):Z (Z Nat):=tk.set k (tk.getD k []++[x])
theorem Jq(tk:Z (Z Nat))(k x:Nat):(Kr tk k x).length=tk.length:=by unfold Kr;rw[DB]
structure JX (ah B:Nat) (tk:List (List Nat)):Prop where
 len:∀ l∈tk,l.length<=ah
 lt:∀ l∈tk,∀ p∈l,p<B
theorem JX.mono{L' B':Nat}(h:JX ah B tk)(h1:ah<=L')(h2:B<=B'):JX L' B' tk:=⟨λl q=>BI (h.len l q) h1,λl q p z=>AV (h.lt l q p z) h2⟩
theorem JX.app(h:JX ah B tk)(k x:Nat)(hx:x<B):JX (ah+1) B (Kr tk k x):=by
 have S:(tk.getD k []).length<=ah/\∀ p∈tk.getD k [],p<B:=by
  cases e:tk[k]? with
  | none=>simp[List.getD,e]
  | some l=>have hm:=AI e;simp only[List.getD,e,HY];exact⟨h.len l hm,h.lt l hm⟩
 constructor
 .intro l hl
  rcases FM hl with q | q
  .exact HL (h.len l q)
  .rw[q,AH];show _+1<=_;lia
 .intro l hl p F
  rcases FM hl with q | q
  .exact h.lt l q p F
  .rw[q] at F
   rcases BH.mp F with z | z
   .exact S.2 p z
   .rw[AK.mp z];exact hx
theorem JX.nil(n:Nat):JX 0 0 (List.replicate n []):=⟨λl h=>by rw[(EN.mp h).2];exact AT _,λl h p F=>by rw[(EN.mp h).2] at F;cases F⟩
theorem hK(n:Nat):(List.replicate n ([]:Z Dat))=(List.replicate n ([]:Z Nat)).map Zk:=by rw[List.map_replicate];rfl
theorem Le{x:Nat}(e:env[i]?=some (.gx (.nest (tk.map Zk))))(h:JX ah B tk)(f:ah<=1000)(hk:k<tk.length)(e1:fa env=some (.int (k:Int)))(e2:fs env=some [.int (x:Int)])(q:N (env.set i (.gx (.nest ((Kr tk k x).map Zk))))):Go (Km i fa fs env) N R:=by
 unfold Km;rw[e,e1];dsimp only;have aa:Ge (tk.map Zk) (k:Int)=some (Zk tk[k]):=by
  unfold Ge;rw[AF (by lia),BS];simp[hk]
 rw[aa,e2];dsimp only;have hl:=h.len _ (GK hk);rw[show(some [Dat.int (x:Int)]).bind (λas=>Wf (Zk tk[k]) as)=some (Zk (tk[k]++[x])) by
  show Wf (Zk tk[k]) [Dat.int (x:Int)]=_;rw[Wi (by rw[AB,AB];lia)];simp[Zk]]
 dsimp only;have:(tk.map Zk).set ((k:Int)).toNat (Zk (tk[k]++[x]))=(Kr tk k x).map Zk:=by
  unfold Kr;rw[BS,List.map_set];congr 2
  simp[List.getD,hk]
 rw[this];exact⟨q⟩
theorem VS(e:env[i]?=some (.gx (.nest (tk.map Zk))))(e1:fa env=some (.int (k:Int)))(hk:tk[k]?=some l):MJ i fa env=some (.lst (Zk l)):=by
 unfold MJ;rw[e,e1];dsimp only;unfold Ge;rw[AF (by lia),BS,AQ,hk];rfl
theorem Oz(D E:α->Dat):∀ (xs:Z α),(∀ x∈xs,∃ e1 b,g (D x) env=some e1/\t e1=some b/\f e1=some (E x))->∃ ys:Z α,ys.Sublist xs/\Wr g t f env (xs.map D)=some (ys.map E)
 | [],_=>⟨[],.slnil,rfl⟩
 | x::xs,h=>by
  obtain⟨ys,h1,h2⟩:=Oz D E xs λz hz=>h z (AX _ hz)
  obtain⟨e1,b,a1,a2,a3⟩:=h x BD;cases b with
  | true=>exact⟨x::ys,h1.cons₂ x,by rw[BM,Wr,a1];show(t e1).bind _=_;rw[a2];show(f e1).bind _=_;rw[a3,h2];rfl⟩
  | false=>exact⟨ys,h1.cons x,by rw[BM,Wr,a1];show(t e1).bind _=_;rw[a2];exact h2⟩
theorem NJ(r m:Nat)(h:m<=r):Oi (.int (r:Int)) (.int (m:Int))=some (.int ((r - m:Nat):Int)):=by
 show some (Dat.int ((r:Int) - (m:Int)))=_;rw[Int.ofNat_sub h]
theorem X2(ps:Z Nat):Uh [.lst (Zk ps)]=some (.int ((ps.length:Nat):Int)):=by
 show some (Dat.int ((Zk ps).length:Int))=_;rw[AB,AB]
theorem Kq(ps:Z Nat)(a w:Nat)(h:a<=ps.length)(hl:ps.length<=1000):Rw (Zk ps) [.int (a:Int),.int (w:Int)]=some (Zk (ps.take a++w::ps.drop a)):=by
 show(if _ then some _ else none)=_;rw[AF ⟨by lia,by rw[AB,AB];lia,by rw[AB,AB];exact DQ hl (by decide)⟩,BS];simp[Zk,map_take,map_drop]
theorem Jt(ps:Z α)(a:Nat)(w:α):(ps.take a++w::ps.drop a).length=ps.length+1:=by
 rw[AH,BJ,BY,CS];lia
theorem B6(ps:Z α)(a:Nat)(w:α):(ps.take a++w::ps.drop a).Perm (w::ps):=by
 have h:(ps.take a++w::ps.drop a).Perm (w::(ps.take a++ps.drop a)):=List.perm_middle;rw[GT] at h;exact h
theorem Hv(ps:Z Nat)(a w v:Nat):(ps.take a++w::ps.drop a).count v=ps.count v+(if w=v then 1 else 0):=by
 rw[(B6 ps a w).count_eq,List.count_cons];by_cases h:w=v<;>simp[h]
theorem Gm(xs:Z α)(t:Nat)(h:t<=xs.length):Q7 xs (some (t:Int)) none=xs.drop t:=by
 unfold Q7;rw[HT.sIx_nat,HT.sIx_none,IE h,BB (by rw[CS];exact AT _)]
theorem Hc(xs:Z α)(t:Nat)(h:t<=xs.length):Q7 xs none (some (t:Int))=xs.take t:=by
 unfold Q7;rw[HT.sIx_nat,HT.sIx_none,IE h,IS,Nat.sub_zero]
theorem Tk(f:α->β)(xs:Z α)(a b:Cc Int):Q7 (xs.map f) a b=(Q7 xs a b).map f:=by
 unfold Q7;rw[AB,map_take,map_drop]
theorem cn(ps:Z Nat)(c:Nat):(ps.map λp:Nat=>(p:Int)).idxOf (c:Int)=ps.idxOf c:=by
 induction ps with
 | nil=>rfl
 | cons p ps ih =>
  rw[BM,EO,EO,ih];by_cases h:p=c
  .subst h;rw[show((p:Int)==(p:Int))=true from CY _,show(p==p)=true from CY _]
  .rw[show((p:Int)==(c:Int))=false from BP.mpr (by lia),show(p==c)=false from BP.mpr h]
theorem Lw(ps:Z Nat)(c:Nat)(h:c∈ps):N9 (.lst (Zk ps)) [.int (c:Int)]=some (.int ((ps.idxOf c:Nat):Int)):=by
 show((Se (Zk ps)).bind λzs=>if(c:Int)∈zs then some (Dat.int ((zs.idxOf (c:Int):Nat):Int)) else none)=_;rw[Ip];show(if _ then some _ else none)=_;rw[AF (GC h),cn]
theorem M6(h:xs.length+ys.length<=1000):Yi (.lst xs) (.lst ys)=some (.lst (xs++ys)):=AF (BI h (by decide))
theorem Fv(h:xs.length+ys.length<=1000):LV (.lst xs) (.lst ys)=some (xs++ys):=AF (BI h (by decide))
theorem Dp(h:xs.length+ys.length<=1000):Nr (.tup xs) (.tup ys)=some (.tup (xs++ys)):=AF (BI h (by decide))
def Zg(p:Nat×Nat):Dat:=.tup [.int (p.1:Int),.int (p.2:Int)]
theorem Lh(p:Nat×Nat):pd 20 (Zg p)=true:=rfl
theorem Ig(p:Nat×Nat)(qs:Z (Nat×Nat)):∃ b,Ov (Zg p) (.lst (qs.map Zg))=some (.bl b):=by
 refine⟨!((qs.map Zg).any λy=>R8 y (Zg p)),?_⟩;unfold Ov LC;dsimp only;rw[AF]
 .rfl
 .rw[Lh,FE]
  exact CD.mpr λx hx=>by obtain⟨q,_,rfl⟩:=CL.mp hx;exact Lh q
theorem gB(a b:Nat):MW [.int (a:Int),.int (b:Int)]=some (.int ((min a b:Nat):Int)):=by
 show some (Dat.int (if(b:Int)<(a:Int) then(b:Int) else(a:Int)))=_;congr 2
 split<;>lia
theorem ZN(a b:Nat):MK [.int (a:Int),.int (b:Int)]=some (.int ((max a b:Nat):Int)):=by
 show some (Dat.int (if(b:Int) > (a:Int) then(b:Int) else(a:Int)))=_;congr 2
 split<;>lia
theorem RH(a b:Nat):Ag (.int (a:Int)) (.int (b:Int))=some (.bl (!(a==b))):=by
 rw[iE];congr 3
 rw[BR];simp;lia
theorem Hn(ps:Z Nat)(h:ps.length<64):∃ qs:Z Nat,Ma [.lst (Zk ps)]=some (Zk qs)/\qs.Perm ps:=Kd ps h
theorem Ko(ps:Z Nat)(h:ps.length<64):∃ qs:Z Nat,Ma [.tup (Zk ps)]=some (Zk qs)/\qs.Perm ps:=Kd ps h
theorem Rq(n:Nat):rng 0 n=(List.range n).map λk:Nat=>Dat.int (k:Int):=by
 unfold rng;congr 1
 funext k
 rw[CK]
theorem Dt{d:Dat}(h:(E2 0 xs)[i]?=some d):∃ x,xs[i]?=some x/\d=.tup [.int (i:Int),x]:=by
 rw[Gz] at h;cases e:xs[i]? with
 | none=>rw[e] at h;cases h
 | some x=>rw[e] at h;cases h;exact⟨x,rfl,by rw[IM]⟩
theorem WS{F:Dat->Z Dat->Cc α}(h1:f env=some x)(ht:Ap T x=true)(h2:fs env=some as)(h3:F x as=some z):dM T F f fs env=some z:=by
 unfold dM;rw[h1];show(if _ then _ else _)=_;rw[AF ht,h2];exact h3
theorem Dg(h:f env=some (.lst xs)):Va f env=some xs:=by unfold Va;rw[h]
theorem Na(h:f env=some (.lst xs)):Ow f env=some (E2 0 xs):=by unfold Ow;rw[Dg h];rfl
theorem YS(ds:Z Dat)(a:Nat)(d:Dat)(h:a<=ds.length)(hl:ds.length<=1000):Rw ds [.int (a:Int),d]=some (ds.take a++d::ds.drop a):=by
 show(if _ then some _ else none)=_;rw[AF ⟨by lia,by lia,DQ hl (by decide)⟩,BS]
theorem V6(D E:α->Dat)(p:α->Bool):∀ (xs:Z α),(∀ x∈xs,∃ e1,g (D x) env=some e1/\t e1=some (p x)/\f e1=some (E x))->Wr g t f env (xs.map D)=some ((xs.filter p).map E)
 | [],_=>rfl
 | x::xs,h=>by
  have ih:=V6 D E p xs λz hz=>h z (AX _ hz)
  obtain⟨e1,a1,a2,a3⟩:=h x BD;rw[BM,Wr,a1];show(t e1).bind _=_;rw[a2];cases F:p x with
  | true=>show(f e1).bind _=_;rw[a3,ih,EL F];rfl
  | false=>rw[EM (by rw[F];decide)];exact ih
theorem dE(h:xs.length+ys.length<=100000):Yi (.lst xs) (.lst ys)=some (.lst (xs++ys)):=AF (BI h (by decide))
theorem A6(xs:Z Dat)(a b:Cc Int):JS (.lst xs) a b=some (.lst (Q7 xs a b)):=rfl
theorem Do(xs:Z Dat)(a b:Cc Int):JS (.tup xs) a b=some (.tup (Q7 xs a b)):=rfl
theorem cE(z:Str)(a b:Cc Int):JS (.str z) a b=some (.str (Txt.slice z a b)):=rfl
def Rk(s:St3)(p:Nat×Nat):Nat×Nat:=((p.1 ^^^ (p.1 &&& I1 s.takes)) ||| I1 s.fills,p.2 ^^^ 2^s.w)
theorem Kc(s:St3)(p:Nat×Nat)(j:Nat):(Rk s p).1.testBit j=((p.1.testBit j&&!decide (j∈s.takes))||decide (j∈s.fills)):=by
 unfold Rk;dsimp only;rw[DV,GL,FH,Jv,Jv];cases p.1.testBit j<;>cases decide (j∈s.takes)<;>rfl
theorem YJ(s:St3)(p:Nat×Nat)(j:Nat):(Rk s p).2.testBit j=(p.2.testBit j ^^ decide (s.w=j)):=by
 unfold Rk;dsimp only;rw[GL,BX]
structure JL (G:G3) (I:Nat×Nat->Prop):Prop where
 ini:I (G.marks,G.code)
 lev:∀ p s,I p->s∈G.steps->H9 s p.1=true->p.2.testBit s.w≠s.up
 room:∀ p s,I p->s∈G.steps->H9 s p.1=true->∀ q∈s.fills,p.1.testBit q=true->q∈s.takes
 nxt:∀ p s,I p->s∈G.steps->H9 s p.1=true->I (Rk s p)
 few:∀ l:List (Nat×Nat),l.Nodup->(∀ p∈l,I p)->l.length<=400
end L2
variable{f g:Nat×Nat->Nat}{G:L2.G3}{ah:Nat->Nat}{z:Nat}{s:L2.St3}{ss:Z L2.St3}
namespace L2
theorem Hy[BEq α][LawfulBEq α]:∀ (l m:Z α),l.Nodup->(∀ x∈l,x∈m)->l.length<=m.length
 | [],_,_,_=>DH _
 | x::l,m,hn,hs=>by
  obtain⟨h1,h2⟩:=CC.mp hn;have hx:=hs x BD;have:=Hy l (m.erase x) h2 λy hy=>by
   refine(List.mem_erase_of_ne ?_).mpr (hs y (AX _ hy));rintro rfl;exact h1 hy
  rw[List.length_erase_of_mem hx] at this;have:=List.length_pos_of_mem hx;show l.length+1<=_;lia
theorem WX(R:Nat->α->Prop)(c:∀ k a b,R k a->R k b->a=b)(N:Nat):∀ l:Z α,l.Nodup->(∀ p∈l,∃ k,k<N/\R k p)->l.length<=N:=by
 intro l hn hl;have:∃ ks:Z Nat,ks.length=l.length/\ks.Nodup/\∀ k∈ks,k<N/\∃ p∈l,R k p:=by
  revert hn hl;induction l with
  | nil=>intro _ _;exact⟨[],rfl,CV,by simp⟩
  | cons p l ih =>
   intro hn hl;obtain⟨h1,h2⟩:=CC.mp hn;obtain⟨ks,a1,a2,a3⟩:=ih h2 λq B=>hl q (AX _ B)
   obtain⟨k,hk,hr⟩:=hl p BD;refine⟨k::ks,by simp[a1],CC.mpr ⟨λhm=>?_,a2⟩,λE d=>?_⟩
   .obtain⟨_,i,g,M⟩:=a3 k hm
    exact h1 (c k p i hr M▸g)
   .rcases BN.mp d with rfl | h
    .exact⟨hk,p,BD,hr⟩
    .obtain⟨b1,i,b2,I⟩:=a3 E h
     exact⟨b1,i,AX _ b2,I⟩
 obtain⟨ks,a1,a2,a3⟩:=this;have:=Hy ks (List.range N) a2 λk hk=>CI.mpr (a3 k hk).1
 rw[CQ] at this;lia
def Hm(s0:Nat)(rs:Z (Nat×Nat))(f g:Nat×Nat->Nat)(d:Nat)(l:Z Nat):Prop:=∀ q,q∈l↔∃ t p,rs[t]?=some p/\((q=s0+2*t/\f p=d)\/(q=s0+2*t+1/\g p=d))
structure QV (G:G3) (s0:Nat) (one two:Nat->Nat) (rs:List (Nat×Nat)) (n d:Nat) (s:St3):Prop where
 w:s.w<n
 dl:d<2*n
 tk:Hm s0 rs (·.2) (·.1) d s.takes
 fl:Hm s0 rs (·.1) (·.2) d s.fills
 lev:(d=one s.w/\s.up=!G.code.testBit s.w)\/(d=two s.w/\s.up=G.code.testBit s.w)
structure RG (G:G3) (n s0:Nat) (one two:Nat->Nat) (rs:List (Nat×Nat)):Prop where
 ne:∀ q∈rs,q.1≠q.2
 ring:∀ w,w<n->(one w,two w)∈rs
 inj:∀ w v,w<n->v<n->(one w=one v\/two w=two v\/one w=two v)->w=v/\one w≠two v
 mks:∀ q,G.marks.testBit q=true↔∃ t,t<rs.length/\q=s0+2*t+1
 st:∀ s∈G.steps,∃ d,QV G s0 one two rs n d s
structure RI (G:G3) (n s0:Nat) (one two:Nat->Nat) (rs:List (Nat×Nat)) (k:Nat) (p:Nat×Nat):Prop where
 a:∀ t q,rs[t]?=some q->p.1.testBit (s0+2*t)=(k.testBit q.1 ^^ k.testBit q.2)
 b:∀ t q,rs[t]?=some q->p.1.testBit (s0+2*t+1)=!(k.testBit q.1 ^^ k.testBit q.2)
 o:∀ j,(∀ t,t<rs.length->j≠s0+2*t/\j≠s0+2*t+1)->p.1.testBit j=false
 c:∀ w,p.2.testBit w=(G.code.testBit w ^^ (decide (w<n)&&(k.testBit (one w) ^^ k.testBit (two w))))
theorem Hm.a{d:Nat}(h:Hm s0 rs f g d l){t:Nat}(e:rs[t]?=some q):s0+2*t∈l↔f q=d:=by
 rw[h];constructor
 .rintro⟨t',p,e',⟨h1,h2⟩ | ⟨h1,_⟩⟩
  .have:t'=t:=by lia
   subst this;rw[e] at e';cases e';exact h2
  .lia
 .exactλh2=>⟨t,q,e,.inl ⟨rfl,h2⟩⟩
theorem Hm.b{d:Nat}(h:Hm s0 rs f g d l){t:Nat}(e:rs[t]?=some q):s0+2*t+1∈l↔g q=d:=by
 rw[h];constructor
 .rintro⟨t',p,e',⟨h1,_⟩ | ⟨h1,h2⟩⟩
  .lia
  .have:t'=t:=by lia
   subst this;rw[e] at e';cases e';exact h2
 .exactλh2=>⟨t,q,e,.inr ⟨rfl,h2⟩⟩
theorem Hm.o{d:Nat}(h:Hm s0 rs f g d l){j:Nat}(e:∀ t,t<rs.length->j≠s0+2*t/\j≠s0+2*t+1):j∉l:=by
 intro C;obtain⟨t,p,et,h1⟩:=(h j).mp C;have:=e t (AE.mp et).1;rcases h1 with h1 | h1
 .exact this.1 h1.1
 .exact this.2 h1.1
theorem Vv(k d j:Nat):(k ^^^ 2^d).testBit j=(k.testBit j ^^ decide (d=j)):=by
 rw[GL,BX]
theorem fZ{one two:Nat->Nat}(h:RG G n s0 one two rs)(hn:n<=4):JL G λp=>∃ k,k<2^(2*n)/\RI G n s0 one two rs k p where
 ini:=by
  refine⟨0,ET _,?_,?_,?_,?_⟩
  .intro t q e
   simp only[GR,Bool.xor_false];rw[HN];intro M;obtain⟨t',_,e'⟩:=(h.mks _).mp M;lia
  .intro t q e
   simp only[GR,Bool.xor_false,Bool.not_false];exact(h.mks _).mpr ⟨t,(AE.mp e).1,rfl⟩
  .intro j C
   rw[HN];intro M;obtain⟨t',f,e'⟩:=(h.mks _).mp M;exact(C t' f).2 e'
  .intro w;simp
 lev:=by
  rintro p s ⟨k,hk,hi⟩ hs hc;obtain⟨d,hd⟩:=h.st s hs;obtain⟨t,ht⟩:=DW (h.ring s.w hd.w);rw[hi.c,AM hd.w,FE];have hc:=Qt.mp hc;rcases hd.lev with⟨e1,e2⟩ | ⟨e1,e2⟩
  .have:=hc _ ((hd.tk.b ht).mpr e1.symm)
   rw[hi.b t _ ht] at this;have hx:(k.testBit (one s.w) ^^ k.testBit (two s.w))=false:=by simpa using this
   rw[hx,e2];cases G.code.testBit s.w<;>simp
  .have:=hc _ ((hd.tk.a ht).mpr e1.symm)
   rw[hi.a t _ ht] at this;have hx:(k.testBit (one s.w) ^^ k.testBit (two s.w))=true:=this;rw[hx,e2];cases G.code.testBit s.w<;>simp
 room:=by
  rintro p s ⟨k,hk,hi⟩ hs hc q B hb;obtain⟨d,hd⟩:=h.st s hs;have hc:=Qt.mp hc;obtain⟨t,r,et,M⟩:=(hd.fl q).mp B;exfalso;rcases M with⟨rfl,e1⟩ | ⟨rfl,e1⟩
  .have:=hc _ ((hd.tk.b et).mpr e1)
   rw[hi.b t _ et] at this;rw[hi.a t _ et] at hb;rw[hb] at this;cases this
  .have:=hc _ ((hd.tk.a et).mpr e1)
   rw[hi.a t _ et] at this;rw[hi.b t _ et,this] at hb;cases hb
 nxt:=by
  rintro p s ⟨k,hk,hi⟩ hs hc;obtain⟨d,hd⟩:=h.st s hs;have hc:=Qt.mp hc;have ai:k ^^^ 2^d<2^(2*n):=Nat.xor_lt_two_pow hk (FD (by lia) hd.dl);refine⟨k ^^^ 2^d,ai,?_,?_,?_,?_⟩
  .intro t q e
   have ag:=h.ne q (AI e);have Y:=hi.a t q e;have hb:=hi.b t q e;have h1:=hd.tk.a e;have h2:=hd.fl.a e;have h3:=hd.tk.b e;rw[Kc,Vv,Vv];by_cases e1:q.2=d
   .have:=hc _ (h1.mpr e1)
    have e2:¬ q.1=d:=λe2=>ag (e2.trans e1.symm)
    rw[AM (h1.mpr e1),AC (mt h2.mp e2),AM e1.symm,AC (BW e2)];rw[Y] at this;revert this;cases k.testBit q.1<;>cases k.testBit q.2<;>simp
   .by_cases e2:q.1=d
    .have:=hc _ (h3.mpr e2)
     rw[AC (mt h1.mp e1),AM (h2.mpr e2),AC (BW e1),AM e2.symm];rw[hb] at this;revert this;cases k.testBit q.1<;>cases k.testBit q.2<;>simp
    .rw[AC (mt h1.mp e1),AC (mt h2.mp e2),AC (BW e1),AC (BW e2),Y]
     simp
  .intro t q e
   have ag:=h.ne q (AI e);have Y:=hi.a t q e;have hb:=hi.b t q e;have h1:=hd.tk.b e;have h2:=hd.fl.b e;have h3:=hd.tk.a e;rw[Kc,Vv,Vv];by_cases e1:q.1=d
   .have:=hc _ (h1.mpr e1)
    have e2:¬ q.2=d:=λe2=>ag (e1.trans e2.symm)
    rw[AM (h1.mpr e1),AC (mt h2.mp e2),AM e1.symm,AC (BW e2)];rw[hb] at this;revert this;cases k.testBit q.1<;>cases k.testBit q.2<;>simp
   .by_cases e2:q.2=d
    .have:=hc _ (h3.mpr e2)
     rw[AC (mt h1.mp e1),AM (h2.mpr e2),AC (BW e1),AM e2.symm];rw[Y] at this;revert this;cases k.testBit q.1<;>cases k.testBit q.2<;>simp
    .rw[AC (mt h1.mp e1),AC (mt h2.mp e2),AC (BW e1),AC (BW e2),hb]
     simp
  .intro j C
   rw[Kc,hi.o j C,AC (hd.fl.o C)];simp
  .intro w
   rw[YJ,hi.c,Vv,Vv];by_cases hw:w<n
   .rw [AM hw,FE,FE]
    have D:decide (s.w=w)=(decide (d=one w) ^^ decide (d=two w)):=by
     by_cases ew:s.w=w
     .subst ew
      have ag:=(h.inj s.w s.w hd.w hd.w (.inl rfl)).2;rcases hd.lev with⟨e1,_⟩ | ⟨e1,_⟩
      .rw[AM rfl,AM e1,AC (λe2=>ag (e1.symm.trans e2))];rfl
      .rw[AM rfl,AM e1,AC (λe2=>ag (e2.symm.trans e1))];rfl
     .have n1:¬ d=one w:=by
       intro e0;rcases hd.lev with⟨e1,_⟩ | ⟨e1,_⟩
       .exact ew (h.inj s.w w hd.w hw (.inl (e1.symm.trans e0))).1
       .exact ew (h.inj w s.w hw hd.w (.inr (.inr (e0.symm.trans e1)))).1.symm
      have n2:¬ d=two w:=by
       intro e0;rcases hd.lev with⟨e1,_⟩ | ⟨e1,_⟩
       .exact ew (h.inj s.w w hd.w hw (.inr (.inr (e1.symm.trans e0)))).1
       .exact ew (h.inj s.w w hd.w hw (.inr (.inl (e1.symm.trans e0)))).1
      rw[AC ew,AC n1,AC n2];rfl
    rw[D];cases G.code.testBit w<;>cases k.testBit (one w)<;>cases k.testBit (two w)<;>cases decide (d=one w)<;>cases decide (d=two w)<;>rfl
   .have:s.w≠w:=λe=>hw (e▸hd.w)
    rw[AC hw,AC this];simp
 few:=by
  intro l hl F;have aj:2^(2*n)<=256:=BI (CW (by lia) (show 2*n<=8 by lia)) (by decide);have:=WX (λk p=>RI G n s0 one two rs k p) (λk p q h1 h2=>?_) (2^(2*n)) l hl F
  .lia
  .refine GQ (CH λj=>?_) (CH λj=>by rw[h1.c,h2.c])
   by_cases C:∀ t,t<rs.length->j≠s0+2*t/\j≠s0+2*t+1
   .rw[h1.o j C,h2.o j C]
   .simp only[Classical.not_forall] at C
    obtain⟨t,ht,C⟩:=C;have e:rs[t]?=some rs[t]:=AL ht;by_cases e1:j=s0+2*t
    .rw[e1,h1.a t _ e,h2.a t _ e]
    .have e2:j=s0+2*t+1:=Classical.byContradiction λe2=>C ⟨e1,e2⟩
     rw[e2,h1.b t _ e,h2.b t _ e]
structure LI (G:G3) (b:Nat) (ah:Nat->Nat):Prop where
 bl:b<64
 ma:G.marks=2^b
 cd:G.code=ah b
 st:∀ s∈G.steps,∃ x y,x<64/\y<64/\x≠y/\s.takes=[x]/\s.fills=[y]/\ah y=ah x ^^^ 2^s.w/\(ah x).testBit s.w≠s.up
theorem fK{b:Nat}(h:LI G b ah):JL G λp=>∃ k,k<64/\p=(2^k,ah k):=by
 have D:∀ (p:Nat×Nat) (s:St3),(∃ k,k<64/\p=(2^k,ah k))->s∈G.steps->H9 s p.1=true->∃ x y,x<64/\y<64/\x≠y/\s.takes=[x]/\s.fills=[y]/\ah y=ah x ^^^ 2^s.w/\(ah x).testBit s.w≠s.up/\p=(2^x,ah x):=by
  rintro p s ⟨k,hk,rfl⟩ hs hc;obtain⟨x,y,h1,h2,h3,h4,h5,h6,h7⟩:=h.st s hs;have:=Qt.mp hc x (by rw[h4];simp);have e:k=x:=by
   have:(2^k).testBit x=true:=this;rw[BX] at this;simpa using this
  subst e;exact⟨k,y,h1,h2,h3,h4,h5,h6,h7,rfl⟩
 refine⟨⟨b,h.bl,by rw[h.ma,h.cd]⟩,?_,?_,?_,?_⟩
 .intro p s hi hs hc
  obtain⟨x,y,h1,h2,h3,h4,h5,h6,h7,rfl⟩:=D p s hi hs hc;exact h7
 .intro p s hi hs hc q B hb
  obtain⟨x,y,h1,h2,h3,h4,h5,h6,h7,rfl⟩:=D p s hi hs hc;rw[h5] at B;rw[AK.mp B,BX] at hb;exact absurd (by simpa using hb) h3
 .intro p s hi hs hc
  obtain⟨x,y,h1,h2,h3,h4,h5,h6,h7,rfl⟩:=D p s hi hs hc;refine⟨y,h2,GQ (CH λj=>?_) h6.symm⟩;rw[Kc,h4,h5];show((2^x).testBit j&&!decide (j∈[x])||decide (j∈[y]))=(2^y).testBit j;rw[BX,BX];by_cases e1:x=j
  .subst e1;simp[eq_comm]
  .by_cases e2:y=j<;>simp[e1,e2,eq_comm]
 .intro l hl F
  have:=WX (λk p=>p=(2^k,ah k)) (λk p q h1 h2=>h1.trans h2.symm) 64 l hl F;lia
structure JV (G W:G3) (z:Nat):Prop where
 len:W.steps.length=G.steps.length
 ma:W.marks=G.marks ||| 2^z
 mz:G.marks.testBit z=false
 cd:W.code=G.code
 st:∀ s'∈W.steps,∃ s∈G.steps,∃ b:Bool,s'.w=s.w/\s'.up=s.up/\z∉s.takes/\z∉s.fills/\(∀ q,q∈s'.takes↔q∈s.takes\/(b=true/\q=z))/\(∀ q,q∈s'.fills↔q∈s.fills\/(b=true/\q=z))
theorem gH{W:G3}(h:JV G W z)(hc:JL G I):JL W λp=>∃ m,m.testBit z=false/\p.1=m ||| 2^z/\I (m,p.2):=by
 have k:∀ m j:Nat,(m ||| 2^z).testBit j=(m.testBit j||decide (z=j)):=λm j=>by rw[DV,BX]
 have D:∀ (m:Nat) (s' s:St3) (b:Bool),z∉s.takes->(∀ q,q∈s'.takes↔q∈s.takes\/(b=true/\q=z))->H9 s' (m ||| 2^z)=true->H9 s m=true:=by
  intro m s' s b hz ht hc;refine Qt.mpr λq B=>?_
  have:=Qt.mp hc q ((ht q).mpr (.inl B));rw[k] at this;have ag:z≠q:=by rintro rfl;exact hz B
  rw[AC ag,IQ] at this;exact this
 refine⟨⟨G.marks,h.mz,h.ma,by rw[h.cd];exact hc.ini⟩,?_,?_,?_,?_⟩
 .rintro p s' ⟨m,hm,e,hi⟩ t f
  obtain⟨s,hs,b,w,u,a,c,ht,hf⟩:=h.st s' t;rw[e] at f;have:=hc.lev (m,p.2) s hi hs (D m s' s b a ht f);rw[w,u];exact this
 .rintro p s' ⟨m,hm,e,hi⟩ t f q B hb
  obtain⟨s,hs,b,w,u,a,c,ht,hf⟩:=h.st s' t;rw[e] at f hb;rcases(hf q).mp B with h1 | ⟨h1,h2⟩
  .have ag:z≠q:=by rintro rfl;exact c h1
   rw[k,AC ag,IQ] at hb;exact(ht q).mpr (.inl (hc.room (m,p.2) s hi hs (D m s' s b a ht f) q h1 hb))
  .exact(ht q).mpr (.inr ⟨h1,h2⟩)
 .rintro p s' ⟨m,hm,e,hi⟩ t f
  obtain⟨s,hs,b,w,u,a,c,ht,hf⟩:=h.st s' t;rw[e] at f;have hn:=hc.nxt (m,p.2) s hi hs (D m s' s b a ht f);refine⟨(Rk s (m,p.2)).1,?_,CH λj=>?_,?_⟩
  .rw[Kc,hm,AC c];rfl
  .rw[k,Kc,Kc,e,k]
   by_cases ej:z=j
   .subst ej
    rw[AM rfl];cases b
    .have n1:z∉s'.takes:=λx=>by rcases(ht z).mp x with y | y;exact a y;exact absurd y.1 (by simp)
     rw[AC n1];simp
    .rw[AM ((hf z).mpr (.inr ⟨rfl,rfl⟩))];simp
   .have t1:decide (j∈s'.takes)=decide (j∈s.takes):=by
     rw[BR,BC,BC,ht j];exact⟨λx=>x.elim id λy=>absurd y.2.symm ej,.inl⟩
    have t2:decide (j∈s'.fills)=decide (j∈s.fills):=by
     rw[BR,BC,BC,hf j];exact⟨λx=>x.elim id λy=>absurd y.2.symm ej,.inl⟩
    rw[t1,t2,AC ej];simp
  .have:(Rk s' p).2=(Rk s (m,p.2)).2:=by unfold Rk;rw[w]
   rw[this];exact hn
 .intro l hl F
  have:=hc.few (l.map λp=>(p.1 ^^^ 2^z,p.2)) ?_ ?_
  .rwa [AB] at this
  .refine List.pairwise_map.mpr (hl.imp ?_)
   intro p q ag e;apply ag;have e1:=EH Prod.fst e;have e2:=EH Prod.snd e;refine GQ (CH λj=>?_) e2;have:(p.1 ^^^ 2^z).testBit j=(q.1 ^^^ 2^z).testBit j:=by rw[show p.1 ^^^ 2^z=q.1 ^^^ 2^z from e1]
   rw[Vv,Vv] at this;simpa using this
  .intro p g
   obtain⟨q,B,rfl⟩:=CL.mp g;obtain⟨m,hm,e,hi⟩:=F q B;have:q.1 ^^^ 2^z=m:=CH λj=>by
    rw[Vv,e,k];by_cases ej:z=j
    .subst ej;rw[hm];simp
    .simp[ej]
   show I (q.1 ^^^ 2^z,q.2);rw[this];exact hi
end L2
variable{a:Nat}
namespace L2
def J4(ps:Z Nat)(w:Nat):Nat:=ps.idxOf w
def J3(ps:Z Nat)(w:Nat):Nat:=ps.idxOf w+1+(ps.drop (ps.idxOf w+1)).idxOf w
theorem SW:∀ {ps:Z Nat} {d:Nat},ps[d]?=some w->ps.count w=1->(ps.take d).count w=0/\d=ps.idxOf w
 | [],_,h,_=>by cases h
 | p::ps,0,h,_=>by
  cases h;exact⟨rfl,by rw[EO];simp⟩
 | p::ps,d+1,h,hc=>by
  have h':ps[d]?=some w:=h;by_cases e:p=w
  .subst e
   rw[HA] at hc;have:ps.count p=0:=by lia
   exact absurd (AI h') (List.count_eq_zero.mp this)
  .rw[EZ e] at hc
   obtain⟨h1,h2⟩:=SW h' hc;rw[EW,EZ e,EO,show(p==w)=false from BP.mpr e];exact⟨h1,by simp[h2]⟩
theorem TN:∀ {ps:Z Nat} {d:Nat},ps[d]?=some w->ps.count w=2->((ps.take d).count w=0/\d=J4 ps w)\/((ps.take d).count w=1/\d=J3 ps w)
 | [],_,h,_=>by cases h
 | p::ps,0,h,_=>by
  cases h;exact .inl ⟨rfl,by unfold J4;rw[EO];simp⟩
 | p::ps,d+1,h,hc=>by
  have h':ps[d]?=some w:=h;by_cases e:p=w
  .subst e
   rw[HA] at hc;obtain⟨h1,h2⟩:=SW h' (by lia);refine .inr ⟨by rw[EW,HA,h1],?_⟩;unfold J3;rw[EO,CY];show d+1=0+1+ps.idxOf p;lia
  .rw[EZ e] at hc
   have e1:(p::ps).idxOf w=ps.idxOf w+1:=by rw[EO,show(p==w)=false from BP.mpr e];rfl
   rw[EW,EZ e];unfold J4 J3;rw[e1];rcases TN h' hc with⟨h1,h2⟩ | ⟨h1,h2⟩
   .exact .inl ⟨h1,by unfold J4 at h2;lia⟩
   .refine .inr ⟨h1,?_⟩
    unfold J3 at h2;show d+1=ps.idxOf w+1+1+(ps.drop (ps.idxOf w+1)).idxOf w;lia
theorem QA:∀ {ps:Z Nat},ps.count v=2->v∈ps.drop (ps.idxOf v+1)
 | [],h=>by cases h
 | p::ps,h=>by
  rw[List.count_cons] at h;rw[EO];by_cases e:p=v
  .subst e
   rw[show(p==p)=true from CY _] at h ⊢;show p∈ps;refine HH.mp ?_;simp at h;lia
  .rw[show(p==v)=false from BP.mpr e] at h ⊢
   show v∈ps.drop (ps.idxOf v+1);exact QA (by simpa using h)
theorem TQ(h:w∈ps):ps[ps.idxOf w]?=some w:=by
 have hl:=FA h;rw[AL hl,List.getElem_idxOf hl]
theorem VX(h:ps.count w=2):ps[J4 ps w]?=some w:=TQ (HH.mp (by lia))
theorem WH(h:ps.count w=2):ps[J3 ps w]?=some w:=by
 have:=TQ (QA h);rw[List.getElem?_drop] at this;exact this
theorem cr(ps:Z Nat)(w:Nat):J4 ps w<J3 ps w:=by unfold J4 J3;lia
structure LK (n:Nat) (ps:List Nat):Prop where
 len:ps.length=2*n
 cnt:∀ v,ps.count v=if v<n then 2 else 0
theorem LK.mem(h:LK n ps) :v∈ps↔v<n:=by
 rw[<- HH,h.cnt];split<;>lia
theorem LK.two(h:LK n ps)(hv:v<n):ps.count v=2:=by rw[h.cnt,AF hv]
theorem LK.inj{n:Nat}{ps:Z Nat}(h:LK n ps)(w v:Nat)(hw:w<n)(hv:v<n)(e:J4 ps w=J4 ps v\/J3 ps w=J3 ps v\/J4 ps w=J3 ps v):w=v/\J4 ps w≠J3 ps v:=by
 have a1:=VX (h.two hw);have a2:=WH (h.two hw);have b1:=VX (h.two hv);have b2:=WH (h.two hv);have a:w=v:=by
  rcases e with e | e | e
  .rw[e,b1] at a1;exact(BK a1).symm
  .rw[e,b2] at a2;exact(BK a2).symm
  .rw[e,b2] at a1;exact(BK a1).symm
 subst a;exact⟨rfl,by have:=cr ps w;lia⟩
theorem X'(tk:Z (Z Nat))(k x d:Nat)(hk:k<tk.length):(Kr tk k x).getD d []=if d=k then tk.getD d []++[x] else tk.getD d []:=by
 unfold Kr;by_cases e:d=k
 .subst e
  simp[List.getD,BF,hk]
 .have e':¬ k=d:=λz=>e z.symm
  simp[List.getD,BF,e,e']
theorem Bw(tk:Z (Z Nat))(k x d q:Nat)(hk:k<tk.length):q∈(Kr tk k x).getD d []↔q∈tk.getD d []\/(d=k/\q=x):=by
 rw[X' tk k x d hk];by_cases e:d=k
 .rw[AF e];simp[e]
 .rw[AJ e];simp[e]
def NS(s0:Nat)(rs:Z (Nat×Nat))(f g:Nat×Nat->Nat)(tk:Z (Z Nat)):Prop:=∀ d,Hm s0 rs f g d (tk.getD d [])
theorem NS.nil(s0 m:Nat)(f g:Nat×Nat->Nat):NS s0 [] f g (List.replicate m []):=λd q=>by
 have:(List.replicate m ([]:Z Nat)).getD d []=[]:=by
  simp only[List.getD];cases e:(List.replicate m ([]:Z Nat))[d]? with
  | none=>rfl
  | some l=>have:=AI e;rw[(EN.mp this).2];rfl
 rw[this];simp
theorem NS.app(h:NS s0 rs f g tk)(p:Nat×Nat)(hf:f p<tk.length)(S:g p<tk.length):NS s0 (rs++[p]) f g (Kr (Kr tk (f p) (s0+2*rs.length)) (g p) (s0+2*rs.length+1)):=λd q=>by
 rw[Bw _ _ _ _ _ (by rw[Jq];exact S),Bw _ _ _ _ _ hf,h d q];constructor
 .rintro((⟨t,r,e,h1⟩ | ⟨h1,h2⟩) | ⟨h1,h2⟩)
  .exact⟨t,r,by rw[CN (AE.mp e).1];exact e,h1⟩
  .exact⟨rs.length,p,by simp,.inl ⟨h2,h1.symm⟩⟩
  .exact⟨rs.length,p,by simp,.inr ⟨h2,h1.symm⟩⟩
 .rintro⟨t,r,e,h1⟩
  rcases GP t rs.length with hl | hl
  .rw[CN hl] at e
   exact .inl (.inl ⟨t,r,e,h1⟩)
  .rw[DJ hl] at e
   have e0:t - rs.length=0:=by
    rcases FX (t - rs.length) with z | z
    .exact z
    .rw[HI,AJ (by lia)] at e;cases e
   rw[e0] at e;cases e;have et:t=rs.length:=by lia
   subst et;rcases h1 with⟨h1,h2⟩ | ⟨h1,h2⟩
   .exact .inl (.inr ⟨h2.symm,h1⟩)
   .exact .inr ⟨h2.symm,h1⟩
theorem F8{ah:Nat}(hb:JX ah B tk)(h:∀ l∈tk,l.Nodup)(k x:Nat)(hx:B<=x):∀ l∈Kr tk k x,l.Nodup:=by
 intro l hl;rcases FM hl with q | q
 .exact h l q
 .rw[q]
  cases e:tk[k]? with
  | none=>simp[List.getD,e]
  | some l' =>
   have hm:=AI e;simp only[List.getD,e,HY];refine FO.mpr ⟨h l' hm,CC.mpr ⟨by simp,CV⟩,λa Y b c=>?_⟩;have:=hb.lt l' hm a Y;rw[AK.mp c];lia
theorem Hm.perm{d:Nat}(h:Hm s0 rs f g d l)(e:l'.Perm l):Hm s0 rs f g d l':=λq=>by rw[e.mem_iff];exact h q
structure SB (B n:Nat) (s:St3):Prop where
 w:s.w<n
 t:∀ p∈s.takes,p<B
 f:∀ p∈s.fills,p<B
 tn:s.takes.Nodup
 fn:s.fills.Nodup
theorem A3(h:l.Nodup)(hb:∀ p∈l,p<B):l.length<=B:=by
 have:=Hy l (List.range B) h λx hx=>CI.mpr (hb x hx)
 rwa [CQ] at this
structure Gb (B:Nat) (G:G3):Prop where
 w2:G.wires.length<=10
 s1:1<=G.steps.length
 s2:G.steps.length<=24
 st:∀ s∈G.steps,SB B G.wires.length s
 mks:G.marks<2^B
end L2
variable{f:L2.Zzu}{ps:Z (Nat×Nat)}
namespace L2
open PySem PySem.Spec PyProof.Rows
section
variable{g:Ev->Fl}{fk fv:Zzu}{d:Dat}
def O9(p:Nat×Nat):Z U0:=[.inl (p.1:Int),.inl (p.2:Int)]
theorem ZC{p:Nat×Nat}:O9 p=O9 q↔p=q:=by
 constructor
 .intro h
  unfold O9 at h;simp only[List.cons.injEq,Sum.inl.injEq,and_true] at h;exact GQ (by lia) (by lia)
 .rintro rfl;rfl
theorem K3(p:Nat×Nat):MQ (Zg p)=some (O9 p):=rfl
def Gx(ps:Z (Nat×Nat)):Z (Z U0×Dat):=ps.map λp=>(O9 p,.bl true)
theorem O5(ps:Z (Nat×Nat))(q:Nat×Nat):Kj (Gx ps) (O9 q)=decide (q∈ps):=by
 unfold Kj Gx;rw[BV,BR,ES,BC];constructor
 .rintro⟨x,hx,e⟩
  obtain⟨p,F,rfl⟩:=CL.mp hx;have:O9 p=O9 q:=DC e;rw[<- ZC.mp this];exact F
 .intro h
  exact⟨O9 q,CL.mpr ⟨q,h,rfl⟩,AM rfl⟩
theorem ev(e:env[i]?=some (.gx (.dict (Gx ps))))(e2:fv env=some (.bl true))(e3:fk env=some (Zg q))(B:q∉ps)(hl:ps.length<=1000)(n:N (env.set i (.gx (.dict (Gx (ps++[q])))))):Go (Nm i fk fv env) N R:=by
 unfold Nm;rw[e,e2,e3];dsimp only;rw[K3];dsimp only;rw[AF ⟨by rw[O5,AC B],by unfold Gx;rw[AB];exact DQ hl (by decide)⟩];have:Gx ps++[(O9 q,Dat.bl true)]=Gx (ps++[q]):=by unfold Gx;rw[AU];rfl
 rw[this];exact⟨n⟩
theorem ZO(e:fk env=some (Zg q))(e2:fv env=some (.bl true))(n:N (env.set i (.gx (.dict (Gx [q]))))):Go (Bi i fk fv env) N R:=by
 unfold Bi;rw[e,e2];dsimp only;rw[K3];exact⟨n⟩
end
theorem Ie:∀ xs:Z Dat,(∀ x∈xs,R8 x x=true)->B5 xs xs=true
 | [],_=>by unfold B5;rfl
 | x::xs,h=>by unfold B5;rw[h x BD,Ie xs λy hy=>h y (AX _ hy)];rfl
theorem cC(h:∀ x∈xs,R8 x x=true/\pd 19 x=true):pd 20 (.lst xs)=true/\R8 (.lst xs) (.lst xs)=true:=by
 constructor
 .show xs.all (pd 19)=true
  exact CD.mpr λx hx=>(h x hx).2
 .unfold R8;exact Ie xs λx hx=>(h x hx).1
theorem iB{d:Dat}(h:pd 20 d=true/\R8 d d=true):Mz d d=some (.bl true):=by unfold Mz;rw[h.1,h.2];rfl
theorem Hi{d:Dat}(h:pd 20 d=true/\R8 d d=true):Ag d d=some (.bl false):=by unfold Ag;rw[h.1,h.2];rfl
theorem Bt(i:Int):R8 (.int i) (.int i)=true:=by unfold R8;exact CY i
def Ik(G:G3)(m k:Nat):Bool:=match G.steps[k]? with
 | some s=>H9 s m
 | none=>false
def RN(G:G3)(m:Nat):Z Nat:=(List.range G.steps.length).filter (Ik G m)
section
variable{C:Ev->Prop}{E:Str->Z (Str×XD)->Prop}{g:Ev->Fl}{d:Dat}
variable{e' e3:Ev}{sub:Str->Bool}{fl:Z (Str×XD)}
end
end L2
namespace L2
open PySem
def SK(G:G3)(s:St3):Bool:=match G.wires[s.w]? with
 | some u=>u.2
 | none=>false
def Au(G:G3)(g:Nat):G3:=⟨G.wires,G.steps.take g++G.steps.drop (g+1),G.marks,G.code⟩
theorem Ia{g:Nat}(h:s∈(Au G g).steps):s∈G.steps:=by
 rcases BH.mp h with h | h
 .exact GZ h
 .exact List.mem_of_mem_drop h
theorem cY(h:JL G I)(g:Nat):JL (Au G g) I where
 ini:=h.ini
 lev:=λp s hi hs=>h.lev p s hi (Ia hs)
 room:=λp s hi hs=>h.room p s hi (Ia hs)
 nxt:=λp s hi hs=>h.nxt p s hi (Ia hs)
 few:=h.few
def KZ(o w:Nat):Nat:=if o<=w then w+1 else w
def Iu(c o:Nat)(u:Bool):Nat:=(c % 2^o) ||| ((if u then 1 else 0)*2^o) ||| (c / 2^o*2^(o+1))
theorem Ky(c o:Nat)(u:Bool)(j:Nat):(Iu c o u).testBit j=if j<o then c.testBit j else if j=o then u else c.testBit (j - 1):=by
 unfold Iu;rw[DV,DV,Nat.testBit_mod_two_pow,Nat.testBit_mul_two_pow,Nat.testBit_mul_two_pow,Nat.testBit_div_two_pow];by_cases h1:j<o
 .rw[AF h1,AM h1,AC (show ¬ o<=j by lia),AC (show ¬ o+1<=j by lia)];simp
 .rw[AJ h1,AC h1]
  by_cases h2:j=o
  .subst h2
   rw[AF rfl,AM (AT _),AC (show ¬ j+1<=j by lia)];cases u<;>simp
  .rw[AJ h2,AM (show o<=j by lia),AM (show o+1<=j by lia)]
   have e1:o+(j - (o+1))=j - 1:=by lia
   have e0:(if u=true then 1 else 0:Nat).testBit (j - o)=false:=by
    have:j - o≠0:=by lia
    cases u
    .simp
    .rw[AF rfl,show(1:Nat)=2^0 from rfl,BX];simp;lia
   rw[e0,Nat.add_comm,e1];simp
theorem fx(c o w:Nat)(u:Bool):Iu (c ^^^ 2^w) o u=Iu c o u ^^^ 2^KZ o w:=CH λj=>by
 rw[Ky,Vv c,Vv c,Vv (Iu c o u),Ky];unfold KZ;by_cases h1:j<o
 .rw[AF h1,AF h1]
  by_cases h2:o<=w
  .rw[AF h2,AC (show ¬ w=j by lia),AC (show ¬ w+1=j by lia)]
  .rw[AJ h2]
 .rw[AJ h1,AJ h1]
  by_cases h3:j=o
  .rw[AF h3,AF h3]
   by_cases h2:o<=w
   .rw[AF h2,AC (show ¬ w+1=j by lia)];simp
   .rw[AJ h2,AC (show ¬ w=j by lia)];simp
  .rw[AJ h3,AJ h3]
   by_cases h2:o<=w
   .rw[AF h2]
    congr 1
    by_cases e:w=j - 1
    .rw[AM e,AM (show w+1=j by lia)]
    .rw[AC e,AC (show ¬ w+1=j by lia)]
   .rw[AJ h2,AC (show ¬ w=j - 1 by lia),AC (show ¬ w=j by lia)]
theorem iO(c o w:Nat)(u:Bool):(Iu c o u).testBit (KZ o w)=c.testBit w:=by
 rw[Ky];unfold KZ;by_cases h:o<=w
 .rw[AF h,AJ (by lia),AJ (by lia)];congr 1
 .rw[AJ h,AF (by lia)]
def MR(o:Nat)(s:St3):St3:=⟨KZ o s.w,s.up,s.takes,s.fills⟩
def NK(G:G3)(o:Nat)(x:Str×Bool)(u:Bool):G3:=⟨G.wires.take o++x::G.wires.drop o,G.steps.map (MR o),G.marks,Iu G.code o u⟩
theorem cJ(h:JL G I)(o:Nat)(x:Str×Bool)(u:Bool):JL (NK G o x u) λp=>∃ c,I (p.1,c)/\p.2=Iu c o u where
 ini:=⟨G.code,h.ini,rfl⟩
 lev:=by
  rintro p s ⟨c,hi,e⟩ hs hc;obtain⟨r,hr,rfl⟩:=CL.mp hs;rw[e];show(Iu c o u).testBit (KZ o r.w)≠r.up;rw[iO];exact h.lev (p.1,c) r hi hr hc
 room:=by
  rintro p s ⟨c,hi,e⟩ hs hc;obtain⟨r,hr,rfl⟩:=CL.mp hs;exact h.room (p.1,c) r hi hr hc
 nxt:=by
  rintro p s ⟨c,hi,e⟩ hs hc;obtain⟨r,hr,rfl⟩:=CL.mp hs;refine⟨c ^^^ 2^r.w,h.nxt (p.1,c) r hi hr hc,?_⟩;show p.2 ^^^ 2^KZ o r.w=_;rw[e,fx]
 few:=by
  intro l hl F;obtain⟨l',e1,e2,e3⟩:∃ l':Z (Nat×Nat),l'.length=l.length/\l'.Nodup/\∀ q∈l',I q/\(q.1,Iu q.2 o u)∈l:=by
   clear h;induction l with
   | nil=>exact⟨[],rfl,CV,by simp⟩
   | cons p l ih =>
    obtain⟨h1,h2⟩:=CC.mp hl;obtain⟨l',a1,a2,a3⟩:=ih h2 λq B=>F q (AX _ B)
    obtain⟨c,hi,e⟩:=F p BD;refine⟨(p.1,c)::l',by simp[a1],CC.mpr ⟨λhm=>?_,a2⟩,λq B=>?_⟩
    .have:=(a3 _ hm).2
     rw[<- e] at this;exact h1 this
    .rcases BN.mp B with rfl | B
     .exact⟨hi,by rw[<- e];exact BD⟩
     .exact⟨(a3 q B).1,AX _ (a3 q B).2⟩
  have:=h.few l' e2 λq B=>(e3 q B).1
  lia
variable{l:Z (Nat×Bool)}
def Eh(l:Z (Nat×Bool)):Nat:=l.foldl (λc q=>c ^^^ 2^q.1) 0
theorem g9(l:Z (Nat×Bool))(q:Nat×Bool):Eh (l++[q])=Eh l ^^^ 2^q.1:=by unfold Eh;rw[List.foldl_append];rfl
def Dj(n:Nat)(l:Z (Nat×Bool)):Bool:=((List.range l.length).all λi=>match l[i]? with
 | some q=>!((Eh (l.take i)).testBit q.1==q.2)&&decide (q.1<n)
 | none=>true)&&Eh l==0
def Vb(af own r:Nat):Z Nat:=(List.range own).map λj=>af+(r+j) % own
def N5(af own r:Nat):Z (Nat×Bool):=((Vb af own r).map λw=>(w,true))++((Vb af own (r / 2)).map λw=>(w,false))
def Q'(k pos:Nat)(l:Z (Nat×Bool)):Z (Nat×Bool):=(k,true)::(l.take pos++(k,false)::l.drop pos)
theorem Ph(af own r:Nat)(h1:1<=own)(h2:own<=2):Vb af own r=Vb af own (r % 2):=by
 unfold Vb;refine List.map_congr_left λj _=>?_
 rcases(show own=1\/own=2 by lia) with rfl | rfl<;>lia
def XX(af own a b:Nat):Z (Nat×Bool):=((Vb af own a).map λw=>(w,true))++((Vb af own b).map λw=>(w,false))
theorem dr(h:Dj n l=true){q:Nat×Bool}(e:l[i]?=some q):(Eh (l.take i)).testBit q.1≠q.2/\q.1<n:=by
 unfold Dj at h;have h1:=CD.mp (EC.mp h).1 i (CI.mpr (AE.mp e).1);rw[e] at h1;dsimp only at h1;obtain⟨a,b⟩:=EC.mp h1;exact⟨by simpa using a,DC b⟩
theorem C3(h:Dj n l=true):Eh l=0:=by
 unfold Dj at h;exact CP.mp (EC.mp h).2
structure CG (af n sp:Nat) (ah:Nat->Nat) (ss:List St3):Prop where
 l0:ah 0=0
 st:∀ s∈ss,∃ x y,x<sp/\y<sp/\x≠y/\s.takes=[x]/\s.fills=[y]/\ah y=ah x ^^^ 2^s.w/\(ah x).testBit s.w≠s.up/\s.w<n/\(x=0->s.w<af)
 sh:∀ (i j:Nat) (si sj:St3),i≠j->ss[i]?=some si->ss[j]?=some sj->∀ x,si.takes=[x]->sj.takes=[x]->x=0
theorem XU{l:Z α}{a b:α}(h:(l++[a])[i]?=some b):(i<l.length/\l[i]?=some b)\/(i=l.length/\b=a):=by
 rcases GP i l.length with hl | hl
 .rw[CN hl] at h;exact .inl ⟨hl,h⟩
 .rw[DJ hl] at h
  rcases FX (i - l.length) with z | z
  .rw[z] at h;cases h;exact .inr ⟨by lia,rfl⟩
  .rw[HI,AJ (by lia)] at h;cases h
theorem CG.add{L':Nat->Nat}(h:CG af n sp ah ss){b fill:Nat}{up:Bool}(hl:b<sp)(hf:fill<sp+1)(ag:b≠fill)(fr:∀ s∈ss,s.takes=[b]->b=0)(hw:w<n)(S:b=0->w<af)(ay:L' 0=0)(f:∀ p,p<sp->L' p=ah p)(h1:L' fill=ah b ^^^ 2^w)(h2:(ah b).testBit w≠up):CG af n (sp+1) L' (ss++[⟨w,up,[b],[fill]⟩]) where
 l0:=ay
 st:=λs hs=>by
  rcases BH.mp hs with a | a
  .obtain⟨x,y,b1,b2,I,b4,c,e,g,k,l⟩:=h.st s a
   exact⟨x,y,by lia,by lia,I,b4,c,by rw[f x b1,f y b2];exact e,by rw[f x b1];exact g,k,l⟩
  .rw[AK.mp a]
   exact⟨b,fill,by lia,hf,ag,rfl,rfl,by rw[h1,f b hl],by rw[f b hl];exact h2,hw,S⟩
 sh:=λi j si sj d hi C x e1 e2=>by
  rcases XU hi with⟨a1,a2⟩ | ⟨a1,a2⟩<;>rcases XU C with⟨b1,b2⟩ | ⟨b1,b2⟩
  .exact h.sh i j si sj d a2 b2 x e1 e2
  .subst b2
   have ex:b=x:=by simpa using e2
   subst ex;exact fr si (AI a2) e1
  .subst a2
   have ex:b=x:=by simpa using e1
   subst ex;exact fr sj (AI b2) e2
  .lia
theorem CG.one(h:CG af n sp ah G.steps)(hs:sp<=64)(hm:G.marks=1)(hc:G.code=0):LI G 0 ah where
 bl:=by lia
 ma:=hm
 cd:=by rw[hc,h.l0]
 st:=λs t=>by
  obtain⟨x,y,b1,b2,I,b4,c,e,g,_⟩:=h.st s t;exact⟨x,y,by lia,by lia,I,b4,c,e,g⟩
end L2
namespace K61
open PySem PySem.Spec PyProof.Rows L2
theorem Ml(ns:Z Int)(k:Nat)(hk:k<=100000):∃ r:Nat,Wj [Tf ns,.int (k:Int)]=.ok (.int (r:Int))/\r<1000000000039:=by
 have:=Yb (n:=3) (p:=2) (ds:=[Tf ns,.int (k:Int)]) (g:=Jl) (R:=λd=>∃ r:Nat,d=.int (r:Int)/\r<1000000000039) rfl ?_
 .obtain⟨d,e,r,rfl,h⟩:=this
  exact⟨r,e,h⟩
 show Go (Jl [.fz (Tf ns),.fz (.int (k:Int)),.un]) _ _;unfold Jl;have M:∀ z:Int,Go (Wt (L V8 (L Eu (U 2) (dC (.int 48271))) (dC (.int 1000000000039))) [.fz (Tf ns),.fz (.int (k:Int)),.fz (.int z)]) (λ_=>False) (λd=>∃ r:Nat,d=.int (r:Int)/\r<1000000000039):=λz=>by
  refine Yg (d:=.int (z*48271 % 1000000000039)) (Z5 (Z5 rfl rfl (Ld (.inr (by lia)))) rfl (UO (by lia))) ⟨(z*48271 % 1000000000039).toNat,?_,?_⟩
  .congr 1;lia
  .lia
 refine Z6 (Ze (d:=.int (7919*(k:Int)+12345)) (Z5 (Z5 rfl rfl (Ld (.inl (by lia)))) rfl rfl) ?_);refine Z6 (Ux (b:=decide ((k:Int)<((ns.map Dat.int).length:Int))) rfl (λhb=>?_) (λhb=>?_))
 .have a:k<ns.length:=by have:=DC hb;rw[AB] at this;lia
  have l:Yk (Tf ns) (.int (k:Int))=some (.int ns[k]):=L1 (by simp[a]);refine Ze (d:=.int (7919*(k:Int)+12345+ns[k]*6364136223846793005)) (Z5 rfl (Z5 (Z5 rfl rfl l) rfl (Ld (.inr (by lia)))) rfl) ?_;exact(M _).mono (λ_ h=>h.elim) λ_ h=>h
 .refine Wk ?_
  exact(M _).mono (λ_ h=>h.elim) λ_ h=>h
theorem Fn(c k:Nat):∃ z:Str,Vz [.int (c:Int),.int (k:Int)]=.ok (.str z):=by
 have:=Yb (n:=8) (p:=2) (ds:=[.int (c:Int),.int (k:Int)]) (g:=Jy) (R:=λd=>∃ z:Str,d=.str z) rfl ?_
 .obtain⟨d,e,z,rfl⟩:=this
  exact⟨z,e⟩
 unfold Jy;obtain⟨n,hn,aL⟩:∃ n:Nat,2+c % 7=n/\n<=8:=⟨_,rfl,by lia⟩;refine Z6 (Ze (d:=.str M8) rfl ?_);refine Z6 (Ze (d:=.int (n:Int)) (by rw[<- hn];exact Z5 rfl (Z5 rfl rfl (Ui c 7 (by lia))) (Wz 2 _)) ?_);refine Z6 (Ze (Z5 (Z5 rfl rfl (Vg c 7 (by lia) (by lia))) rfl (Ui (c / 7) n (by lia))) ?_);refine Z6 (Ze (d:=.str "") rfl ?_);generalize c / 7 % n=o;refine Z6 (W3 (ds:=rng 0 n) (λi e=>∃ (z:Str) (m E:JB),e=[.fz (.int (c:Int)),.fz (.int (k:Int)),.fz (.str M8),.fz (.int (n:Int)),.fz (.int (o:Int)),.fz (.str z),m,E]/\z.length=i) (W0 (Z4 rfl rfl) (by lia)) ⟨"",.un,.un,rfl,by decide⟩ ?_ ?_)
 .rintro i d e hi ⟨z,m,E,rfl,hz⟩
  obtain⟨Q,rfl⟩:=Ts hi;rw[CK];refine⟨_,rfl,?_⟩;refine Z6 (Ze (d:=.int ((0:Nat):Int)) rfl ?_);have M:∀ q:Nat,Go (Zz 5 (L Yi (U 5) (L Yk (U 2) (L V8 (L Yi (L Yi (L Wc (U 0) (dC (.int 49))) (L Eu (dC (.int 5)) (U 6))) (L Eu (dC (.int 7)) (U 7))) (dC (.int 26))))) [.fz (.int (c:Int)),.fz (.int (k:Int)),.fz (.str M8),.fz (.int (n:Int)),.fz (.int (o:Int)),.fz (.str z),.fz (.int (i:Int)),.fz (.int (q:Int))]) (λe=>∃ (z:Str) (m E:JB),e=[.fz (.int (c:Int)),.fz (.int (k:Int)),.fz (.str M8),.fz (.int (n:Int)),.fz (.int (o:Int)),.fz (.str z),m,E]/\z.length=i+1) (λd=>∃ z:Str,d=.str z):=λq=>by
   have hx:=ic (j:=(((c / 49+5*i+7*q) % 26:Nat):Int)) (by lia) (by lia);refine Ze (Z5 rfl (Z5 rfl (Z5 (Z5 (Z5 (Z5 rfl rfl (Vg c 49 (by lia) (by lia))) (Z5 rfl rfl (Bq 5 i (by lia))) (Wz _ _)) (Z5 rfl rfl (Bq 7 q (by lia))) (Wz _ _)) rfl (Ui _ 26 (by lia))) hx) (XT (by show z.length+1<=_;lia))) ?_;exact⟨_,_,_,rfl,by rw[Nt];show _+1=_;lia⟩
  refine Z6 (Ux (Wa (Z5 rfl rfl (Xj i o))) (λhb=>?_) (λhb=>?_))
  .exact Ze rfl (M k)
  .exact Wk (M 0)
 .rintro e ⟨z,m,E,rfl,hz⟩
  rw[Tp] at hz;refine Z6 (Ux (b:=decide (z∈(["given","made","up","down","start"]:Z Str))) (Wa (Z5 rfl rfl (eO z ["given","made","up","down","start"]))) (λhb=>?_) (λhb=>?_))
  .refine Ze (Z5 (Ee rfl (T3 rfl) rfl (cE z _ _)) rfl (XT ?_)) (Yg rfl ⟨_,rfl⟩)
   have:=FS z (some 1) none;show(Txt.slice z (some 1) none).length+1<=_;lia
  .exact Wk (Yg rfl ⟨_,rfl⟩)
theorem eL(ns:Z Int)(first n:Nat)(hf:first<=1000)(hn:n<=10):∃ ps:Z Nat,S5 [Tf ns,.int (first:Int),.int (n:Int)]=.ok (.lst (Zk ps))/\LK n ps:=by
 have:=Yb (n:=8) (p:=3) (ds:=[Tf ns,.int (first:Int),.int (n:Int)]) (g:=J8) (R:=λd=>∃ ps:Z Nat,d=.lst (Zk ps)/\LK n ps) rfl ?_
 .obtain⟨d,e,z,rfl,h⟩:=this
  exact⟨z,e,h⟩
 unfold J8;refine Z6 (U2 (ds:=Zk []) rfl ?_);refine Z6 (W3 (ds:=rng 0 n) (λi e=>∃ (ps:Z Nat) (T y m E:JB),e=[.fz (Tf ns),.fz (.int (first:Int)),.fz (.int (n:Int)),.ow (Zk ps),T,y,m,E]/\LK i ps) (W0 (Z4 rfl rfl) (by lia)) ⟨[],.un,.un,.un,.un,rfl,rfl,λv=>by simp⟩ ?_ ?_)
 .rintro i d e hi ⟨ps,T,y,m,E,rfl,J⟩
  obtain⟨Q,rfl⟩:=Ts hi;rw[CK];refine⟨_,rfl,?_⟩;obtain⟨c,ec,lc⟩:=Ml ns (first+i) (by lia);have hl:=J.len;refine Z6 (Ze (Zo (xs:=[Tf ns,.int ((first+i:Nat):Int)]) (Z4 rfl (Z4 (Z5 rfl rfl (Wz _ _)) rfl)) ec) ?_);refine Z6 (Ze (Z5 rfl (Z5 (Yn (Z4 rfl rfl) (X2 ps)) rfl (Wz _ 1)) (Ui c (ps.length+1) (by lia))) ?_);have Y:c % (ps.length+1)<=ps.length:=by have:=EA c (show 0<ps.length+1 by lia);lia
  generalize c % (ps.length+1)=a at Y;refine Z6 (Wv (ds:=Zk ps) (as:=[.int (a:Int),.int (i:Int)]) rfl rfl (Kq ps a i Y (by lia)) ?_);have ac:=Jt ps a i;have al:=Hv ps a i;generalize ps.take a++i::ps.drop a=qs at ac al;refine Z6 (Ze (Z5 (Z5 rfl rfl (Vg c 64 (by lia) (by lia))) (Z5 (Yn (Z4 rfl rfl) (X2 qs)) rfl (NJ _ a (by lia))) (Ui (c / 64) (qs.length - a) (by lia))) ?_);have hb:c / 64 % (qs.length - a)<qs.length - a:=EA _ (by lia);generalize c / 64 % (qs.length - a)=b at hb;refine Wv (ds:=Zk qs) (as:=[.int ((a+1+b:Nat):Int),.int (i:Int)]) rfl (Z4 (Z5 (Z5 rfl rfl (Wz a 1)) rfl (Wz _ b)) (Z4 rfl rfl)) (Kq qs (a+1+b) i (by lia) (by lia)) ?_;have aj:=Jt qs (a+1+b) i;have M:=Hv qs (a+1+b) i;refine⟨_,_,_,_,_,rfl,by lia,λv=>?_⟩;rw[M,al,J.cnt];by_cases h1:i=v
  .subst h1;rw[AJ (by lia),AF rfl,AF (by lia)]
  .rw[AJ h1]
   by_cases h2:v<i
   .rw[AF h2,AF (by lia)]
   .rw[AJ h2,AJ (by lia)]
 .rintro e ⟨ps,T,y,m,E,rfl,J⟩
  rw[Tp] at J;exact Du rfl ⟨ps,rfl,J⟩
structure JJ (n m:Nat) (qs:List (Nat×Nat)):Prop where
 len:qs.length<=m
 lt:∀ q∈qs,q.1<q.2/\q.2<n
theorem JJ.app(h:JJ n m qs)(h':JJ n m' rs):JJ n (m+m') (qs++rs):=⟨by rw[AH];have:=h.len;have:=h'.len;lia,λq B=>(BH.mp B).elim (h.lt q) (h'.lt q)⟩
theorem JJ.sub(h:JJ n m qs)(s:rs.Sublist qs):JJ n m rs:=⟨BI s.length_le h.len,λq B=>h.lt q (s.subset B)⟩
theorem JJ.one(h1:q.1<q.2)(h2:q.2<n):JJ n 1 [q]:=⟨AT _,λp F=>by rw[AK.mp F];exact⟨h1,h2⟩⟩
theorem JJ.mono(h:JJ n m qs)(hm:m<=m'):JJ n m' qs:=⟨BI h.len hm,h.lt⟩
theorem JJ.nil(n m:Nat):JJ n m []:=⟨DH _,λq B=>by cases B⟩
theorem ck(ns:Z Int)(first af size:Nat)(hf:first<=1000)(hm:af<=100)(hs:0<size):∃ qs:Z (Nat×Nat),Mt [Tf ns,.int (first:Int),.int (af:Int),.int (size:Int)]=.ok (.lst (qs.map Zg))/\JJ size af qs:=by
 have:=Yb (n:=9) (p:=4) (ds:=[Tf ns,.int (first:Int),.int (af:Int),.int (size:Int)]) (g:=Qg) (R:=λd=>∃ qs:Z (Nat×Nat),d=.lst (qs.map Zg)/\JJ size af qs) rfl ?_
 .obtain⟨d,e,z,rfl,h⟩:=this
  exact⟨z,e,h⟩
 unfold Qg;refine Z6 (U2 (ds:=([]:Z (Nat×Nat)).map Zg) rfl ?_);refine Z6 (W3 (ds:=rng 0 af) (λi e=>∃ (qs:Z (Nat×Nat)) (y m E o:JB),e=[.fz (Tf ns),.fz (.int (first:Int)),.fz (.int (af:Int)),.fz (.int (size:Int)),.ow (qs.map Zg),y,m,E,o]/\JJ size i qs) (W0 (Z4 rfl rfl) (by lia)) ⟨[],.un,.un,.un,.un,rfl,JJ.nil _ _⟩ ?_ ?_)
 .rintro i d e hi ⟨qs,y,m,E,o,rfl,B⟩
  obtain⟨Q,rfl⟩:=Ts hi;rw[CK];refine⟨_,rfl,?_⟩;obtain⟨c,ec,lc⟩:=Ml ns (first+i) (by lia);refine Z6 (Ze (Zo (xs:=[Tf ns,.int ((first+i:Nat):Int)]) (Z4 rfl (Z4 (Z5 rfl rfl (Wz _ _)) rfl)) ec) ?_);refine Z6 (Ze (Z5 rfl rfl (Ui c size hs)) ?_);refine Z6 (Ze (Z5 (Z5 rfl rfl (Vg c 64 (by lia) (by lia))) rfl (Ui _ size hs)) ?_);have Y:c % size<size:=EA _ hs;have hb:c / 64 % size<size:=EA _ hs;generalize c % size=a at Y;generalize c / 64 % size=b at hb;obtain⟨z,hz⟩:=Ig (min a b,max a b) qs;have et:∀ env:Ev,env[7]?=some (.fz (.int (a:Int)))->env[8]?=some (.fz (.int (b:Int)))->Yq (O (dF MW (O (U 7) (O (U 8) Zb))) (O (dF MK (O (U 7) (O (U 8) Zb))) Zb)) env=some (Zg (min a b,max a b)):=λenv h7 w=>by
   have e7:U 7 env=some (.int (a:Int)):=by unfold U;rw[h7]
   have e8:U 8 env=some (.int (b:Int)):=by unfold U;rw[w]
   exact Y3 (Z4 (Yn (Z4 e7 (Z4 e8 rfl)) (gB a b)) (Z4 (Yn (Z4 e7 (Z4 e8 rfl)) (ZN a b)) rfl)) (by simp)
  refine Ux (M1 (Wa (Z5 rfl rfl (RH a b))) λ_=>Wa (Z5 (et _ rfl rfl) rfl hz)) (λhb=>?_) (λ_=>Wk ⟨qs,_,_,_,_,rfl,B.mono (by lia)⟩);have ag:a≠b:=by
   have:=(EC.mp hb).1;simpa using this
  refine Wv (ds:=qs.map Zg) (as:=[Zg (min a b,max a b)]) (ds':=(qs++[(min a b,max a b)]).map Zg) rfl (Z4 (et _ rfl rfl) rfl) (by rw[Wi (by rw[AB];have:=B.len;lia),AU];rfl) ⟨_,_,_,_,_,rfl,B.app (JJ.one (by show min a b<max a b;lia) (by show max a b<_;lia))⟩
 .rintro e ⟨qs,y,m,E,o,rfl,B⟩
  rw[Tp] at B;exact Du rfl ⟨qs,rfl,B⟩
end K61
set_option maxHeartbeats 1000000
namespace K61
open PySem PySem.Spec PyProof.Rows L2
theorem cq(p q:Nat×Nat):R8 (Zg p) (Zg q)=decide (p=q):=by
 show(((p.1:Int)==(q.1:Int))&&(((p.2:Int)==(q.2:Int))&&true))=_;rw[BR];simp only[BG,CP,BC,and_true];constructor
 .rintro⟨h1,h2⟩;exact GQ (by lia) (by lia)
 .rintro rfl;exact⟨rfl,rfl⟩
theorem bK(p q:Nat×Nat):Ag (Zg p) (Zg q)=some (.bl (!decide (p=q))):=by
 unfold Ag;rw[Lh,Lh,cq];rfl
theorem hI(ps:Z Nat)(t:Nat)(h:t<=ps.length):Q7 (Zk ps) (some (t:Int)) none=Zk (ps.drop t):=by
 unfold Zk;rw[Tk,Tk,Gm ps t h]
theorem WV(b:Bool):Mz (.int (if b then 1 else 0)) (.int 0)=some (.bl (!b)):=by cases b<;>rfl
theorem R'{b:Nat}(h1:a<2^k)(h2:b<2^k):a ||| b<2^k:=Nat.or_lt_two_pow h1 h2
structure DS (s0:Nat) (rs:List (Nat×Nat)) (ps:List Nat) (code d:Nat) (s:St3):Prop where
 w:ps[d]?=some s.w
 tk:Hm s0 rs (·.2) (·.1) d s.takes
 fl:Hm s0 rs (·.1) (·.2) d s.fills
 up:s.up=!(code.testBit s.w ^^ decide ((ps.take d).count s.w % 2=1))
theorem d8(ns:Z Int)(first n af:Nat)(hf:first<=900)(aL:1<=n)(ai:n<=4)(hm:af<=5):∃ (G:G3) (s0:Nat) (ps:Z Nat) (rs:Z (Nat×Nat)),S8 [Tf ns,.int (first:Int),.int (n:Int),.int (af:Int)]=.ok G.d/\RG G n s0 (J4 ps) (J3 ps) rs/\Gb 54 G/\G.wires.length=n/\2<=G.steps.length/\G.code<2^n:=by
 have:=Yb (n:=24) (p:=4) (ds:=[Tf ns,.int (first:Int),.int (n:Int),.int (af:Int)]) (g:=J9) (R:=λd=>∃ (G:G3) (s0:Nat) (ps:Z Nat) (rs:Z (Nat×Nat)),d=G.d/\RG G n s0 (J4 ps) (J3 ps) rs/\Gb 54 G/\G.wires.length=n/\2<=G.steps.length/\G.code<2^n) rfl ?_
 .obtain⟨d,e,z,s0,ps,rs,rfl,h⟩:=this
  exact⟨z,s0,ps,rs,e,h⟩
 unfold J9;obtain⟨ps,eo,J⟩:=eL ns first n (by lia) (by lia);have ae:=J.len;refine Z6 (Ze (Zo (xs:=[Tf ns,.int (first:Int),.int (n:Int)]) rfl eo) ?_);refine Z6 (Ze (Z5 rfl rfl (Bq 2 n (by lia))) ?_);obtain⟨m,aM⟩:∃ m:Nat,2*n=m:=⟨_,rfl⟩;rw[aM] at ae ⊢;obtain⟨c,ec,lc⟩:=Ml ns (first+n) (by lia);refine Z6 (Ze (Zo (xs:=[Tf ns,.int ((first+n:Nat):Int)]) (Z4 rfl (Z4 (Z5 rfl rfl (Wz _ _)) rfl)) ec) ?_);obtain⟨qs,eq,B⟩:=ck ns (first+n+1) af m (by lia) (by lia) (by lia);refine Z6 (Ze (Zo (xs:=[Tf ns,.int ((first+n+1:Nat):Int),.int (af:Int),.int (m:Int)]) (Z4 rfl (Z4 (Z5 (Z5 rfl rfl (Wz _ _)) rfl (Wz _ 1)) rfl)) eq) ?_);refine Z6 (Go.mono (N:=λe=>∃ rs:Z (Nat×Nat),e=[.fz (Tf ns),.fz (.int (first:Int)),.fz (.int (n:Int)),.fz (.int (af:Int)),.fz (.lst (Zk ps)),.fz (.int (m:Int)),.fz (.int (c:Int)),.fz (.lst (rs.map Zg)),.un,.un,.un,.un,.un,.un,.un,.un,.un,.un,.un,.un,.un,.un,.un,.un]/\JJ m 12 rs) ?_ ?_ (λ_ h=>h))
 .refine Ux (Wa (Z5 (Z5 rfl rfl (Ui c 3 (by lia))) rfl (Xj _ 0))) (λ_=>?_) (λ_=>Wk ⟨qs,rfl,B.mono (by lia)⟩)
  obtain⟨ks,hs,hc⟩:=Oz (g:=Zt 0) (t:=dB (L Ov (Yq (O (U 0) (O (L Yi (U 0) (dC (.int 1))) Zb))) (U 1))) (f:=Yq (O (U 0) (O (L Yi (U 0) (dC (.int 1))) Zb))) (env:=[.un,.fz (.lst (qs.map Zg))]) (λk:Nat=>Dat.int (k:Int)) (λk:Nat=>Zg (k,k+1)) (List.range (m - 1)) λk _=>by
   obtain⟨b,hb⟩:=Ig (k,k+1) qs;have et:Yq (O (U 0) (O (L Yi (U 0) (dC (.int 1))) Zb)) [.fz (.int (k:Int)),.fz (.lst (qs.map Zg))]=some (Zg (k,k+1)):=Y3 (Z4 rfl (Z4 (Z5 rfl rfl (Wz k 1)) rfl)) (by simp);exact⟨_,b,rfl,Wa (Z5 et rfl hb),et⟩
  rw[<- Rq] at hc;have F:JJ m 7 (ks.map λk=>(k,k+1)):=⟨by have:=hs.length_le;rw[CQ] at this;rw[AB];lia,λq B=>by
   obtain⟨k,hk,rfl⟩:=CL.mp B;have:=CI.mp (hs.subset hk);exact⟨by show k<k+1;lia,by show k+1<m;lia⟩⟩
  have ac:=B.len;have aj:=F.len;rw[AB] at aj;refine Ze (Z5 rfl (Yu (Y9 (xs:=rng 0 (m - 1)) (W0 (Z4 (Z5 rfl rfl (NJ m 1 (by lia))) rfl) (by lia)) rfl hc)) (M6 (by rw[AB,AB];lia))) ⟨qs++ks.map λk=>(k,k+1),by rw[AU,BV];rfl,(B.app F).mono (by lia)⟩
 rintro e ⟨rs,rfl,hr⟩;clear eq B qs;refine Z6 (W3 (ds:=rng 0 n) (λi e=>∃ (rs:Z (Nat×Nat)) (o H A:JB),e=[.fz (Tf ns),.fz (.int (first:Int)),.fz (.int (n:Int)),.fz (.int (af:Int)),.fz (.lst (Zk ps)),.fz (.int (m:Int)),.fz (.int (c:Int)),.fz (.lst (rs.map Zg)),o,H,A,.un,.un,.un,.un,.un,.un,.un,.un,.un,.un,.un,.un,.un]/\JJ m (12+i) rs/\∀ w,w<i->(J4 ps w,J3 ps w)∈rs) (W0 (Z4 rfl rfl) (by lia)) ⟨rs,.un,.un,.un,rfl,hr,λw hw=>absurd hw (by lia)⟩ ?_ ?_)
 .rintro i d e hi ⟨rs,o,H,A,rfl,hr,ar⟩
  obtain⟨Q,rfl⟩:=Ts hi;rw[CK];refine⟨_,rfl,?_⟩;have a:i∈ps:=J.mem.mpr Q;have aF:ps.idxOf i<ps.length:=FA a;have h2:=QA (J.two Q);have ak:J3 ps i=ps.idxOf i+1+(ps.drop (ps.idxOf i+1)).idxOf i:=rfl;have az:J4 ps i=ps.idxOf i:=rfl;refine Z6 (Ze (WS rfl rfl rfl (Lw ps i a)) ?_);generalize ps.idxOf i=one at aF h2 ak az;have aA:(ps.drop (one+1)).idxOf i<(ps.drop (one+1)).length:=FA h2;rw[CS] at aA;refine Z6 (Ze (Z5 (Z5 rfl rfl (Wz one 1)) (WS (x:=.lst (Zk (ps.drop (one+1)))) (Ee rfl (T3 (Z5 rfl rfl (Wz one 1))) rfl (by rw[A6,hI ps _ (by lia)])) rfl rfl (Lw _ i h2)) (Wz _ _)) ?_);generalize (ps.drop (one+1)).idxOf i=x2 at aA ak;have hc:=V6 (g:=Zt 0) (t:=dB (L Ag (U 0) (Yq (O (U 1) (O (U 2) Zb))))) (f:=U 0) (env:=[.un,.fz (.int (one:Int)),.fz (.int ((one+1+x2:Nat):Int))]) Zg Zg (λq=>!decide (q=(one,one+1+x2))) rs λq _ =>
   ⟨_,rfl,Wa (Z5 rfl (Y3 rfl (by simp)) (bK q (one,one+1+x2))),rfl⟩
  have hs:(rs.filter λq=>!decide (q=(one,one+1+x2))).Sublist rs:=List.filter_sublist;have hl:=hs.length_le;have aj:=hr.len;refine Ze (Z5 (Yu (Y9 (xs:=rs.map Zg) rfl rfl hc)) (Yu (L5 (xs:=[Zg (one,one+1+x2)]) (Z4 (Y3 rfl (by simp)) rfl) (by simp))) (M6 (by rw[AB];show _+1<=_;lia))) ⟨(rs.filter λq=>!decide (q=(one,one+1+x2)))++[(one,one+1+x2)],_,_,_,by rw[AU];rfl,?_,?_⟩
  .exact((hr.sub hs).app (JJ.one (by show one<one+1+x2;lia) (by show one+1+x2<m;lia))).mono (by lia)
  .intro w hw
   by_cases e:(J4 ps w,J3 ps w)=(one,one+1+x2)
   .rw[e];exact BQ _ (AK.mpr rfl)
   .have X:w<i:=by
     rcases GP w i with h | h
     .exact h
     .have:w=i:=by lia
      subst this;exact absurd (GQ az ak) e
    exact FC _ (DA.mpr ⟨ar w X,by rw[AC e];rfl⟩)
 rintro e ⟨rs,o,H,A,rfl,hr,ar⟩;rw[Tp] at hr ar;refine Z6 (WR (ds:=Zk ps) rfl ?_);refine Z6 (WR (ds:=Zk ps) rfl ?_);rw[AB,AB,ae,hK];refine Z6 (Ze (d:=.int ((0:Nat):Int)) rfl ?_);refine Z6 (Ze (Z5 (Z5 rfl rfl (Vg c 3 (by lia) (by lia))) rfl (Ui _ 20 (by lia))) ?_);have aN:c / 3 % 20<20:=EA _ (by lia);generalize c / 3 % 20=s0 at aN;refine Z6 (W3 (ds:=rs.map Zg) (λi e=>∃ (tk fl:Z (Z Nat)) (mk:Nat) (E I:JB),e=[.fz (Tf ns),.fz (.int (first:Int)),.fz (.int (n:Int)),.fz (.int (af:Int)),.fz (.lst (Zk ps)),.fz (.int (m:Int)),.fz (.int (c:Int)),.fz (.lst (rs.map Zg)),o,H,A,.gx (.nest (tk.map Zk)),.gx (.nest (fl.map Zk)),.fz (.int (mk:Int)),.fz (.int ((s0+2*i:Nat):Int)),E,I,.un,.un,.un,.un,.un,.un,.un]/\tk.length=m/\fl.length=m/\JX (2*i) (s0+2*i) tk/\JX (2*i) (s0+2*i) fl/\mk<2^(s0+2*i)/\(∀ l∈tk,l.Nodup)/\(∀ l∈fl,l.Nodup)/\NS s0 (rs.take i) (·.2) (·.1) tk/\NS s0 (rs.take i) (·.1) (·.2) fl/\∀ q,mk.testBit q=true↔∃ t,t<i/\q=s0+2*t+1) rfl ⟨_,_,0,.un,.un,rfl,EG,EG,(JX.nil m).mono (by lia) (by lia),(JX.nil m).mono (by lia) (by lia),ET _,λl h=>by rw[(EN.mp h).2];exact CV,λl h=>by rw[(EN.mp h).2];exact CV,by rw[IT];exact NS.nil _ _ _ _,by rw[IT];exact NS.nil _ _ _ _,λq=>by simp⟩ ?_ ?_)
 .rintro i d e hi ⟨tk,fl,mk,E,I,rfl,aG,P,ht,M,ag,aC,aD,al,ao,au⟩
  rw[AQ] at hi;obtain⟨q,B,rfl⟩:=map_some hi;have ah:=(AE.mp B).1;have hql:=hr.lt q (AI B);have aw:=hr.len;refine⟨_,rfl,?_⟩;have aa:=ht.mono (AT _) (show s0+2*i<=s0+2*i+2 by lia);have aH:=M.mono (AT _) (show s0+2*i<=s0+2*i+2 by lia);refine Z6 (Le rfl aH (by lia) (k:=q.1) (by lia) rfl rfl ?_);refine Z6 (Le rfl aa (by lia) (k:=q.2) (by lia) rfl rfl ?_);have aI:=aa.app q.2 (s0+2*i) (by lia);have aJ:=aH.app q.1 (s0+2*i) (by lia);refine Z6 (Le (x:=s0+2*i+1) rfl aJ (by lia) (k:=q.2) (by rw[Jq];lia) rfl rfl ?_);refine Z6 (Le (x:=s0+2*i+1) rfl aI (by lia) (k:=q.1) (by rw[Jq];lia) rfl rfl ?_);have aO:=aI.app q.1 (s0+2*i+1) (by lia);have aP:=aJ.app q.2 (s0+2*i+1) (by lia);have aQ:=(ht.mono (AT _) (show s0+2*i<=s0+2*i+1 by lia)).app q.2 (s0+2*i) (by lia);have aR:=(M.mono (AT _) (show s0+2*i<=s0+2*i+1 by lia)).app q.1 (s0+2*i) (by lia);have aK:(rs.take i).length=i:=by rw[BY];lia
  have aB:rs.take (i+1)=rs.take i++[q]:=by rw[DE,B];rfl
  refine Z6 (Ze (Z5 rfl (Z5 rfl (Z5 rfl rfl (Wz _ 1)) (Ks (s0+2*i+1) (by lia))) (LQ mk _)) ?_);refine Ze (Z5 rfl rfl (Wz _ 2)) ⟨_,_,_,_,_,rfl,by rw[Jq,Jq,aG],by rw[Jq,Jq,P],aO.mono (by lia) (by lia),aP.mono (by lia) (by lia),?_,?_,?_,?_,?_,?_⟩
  .exact R' (AV ag (CW (by lia) (by lia))) (FD (by lia) (by lia))
  .exact F8 aQ (F8 ht aC _ _ (AT _)) _ _ (AT _)
  .exact F8 aR (F8 M aD _ _ (AT _)) _ _ (AT _)
  .have:=al.app q (by show q.2<_;lia) (by show q.1<_;lia)
   rw[aK] at this;rw[aB];exact this
  .have:=ao.app q (by show q.1<_;lia) (by show q.2<_;lia)
   rw[aK] at this;rw[aB];exact this
  .intro j
   rw[DV,DY,au,BX,BC];constructor
   .rintro(⟨t,h1,h2⟩ | h1)
    .exact⟨t,by lia,h2⟩
    .exact⟨i,by lia,h1.symm⟩
   .rintro⟨t,h1,h2⟩
    rcases GP t i with h | h
    .exact .inl ⟨t,h,h2⟩
    .have:t=i:=by lia
     subst this;exact .inr h2.symm
 rintro e ⟨tk,fl,mk,E,I,rfl,aG,P,ht,M,ag,aC,aD,al,ao,au⟩;rw[AB] at ht M ag al ao au ⊢;rw[BB (AT _)] at al ao;have aw:=hr.len;have ht:=ht.mono (L':=32) (B':=54) (by lia) (by lia);have M:=M.mono (L':=32) (B':=54) (by lia) (by lia);have ag:mk<2^54:=AV ag (CW (by lia) (by lia));refine Z6 (Ze (Z5 (Z5 rfl rfl (Vg c 60 (by lia) (by lia))) (Z5 rfl rfl (Ks n (by lia))) (Ui _ (2^n) (ET _))) ?_);have ap:c / 60 % 2^n<2^n:=EA _ (ET _);generalize c / 60 % 2^n=code at ap;refine Z6 (Ze rfl ?_);refine Z6 (U2 (ds:=([]:Z St3).map St3.d) rfl ?_);generalize (s0+2*rs.length)=s9;refine Z6 (W3 (ds:=E2 0 (Zk ps)) (λi e=>∃ (ss:Z St3) (seen:Nat) (o aE:JB),e=[.fz (Tf ns),.fz (.int (first:Int)),.fz (.int (n:Int)),.fz (.int (af:Int)),.fz (.lst (Zk ps)),.fz (.int (m:Int)),.fz (.int (c:Int)),.fz (.lst (rs.map Zg)),o,H,A,.gx (.nest (tk.map Zk)),.gx (.nest (fl.map Zk)),.fz (.int (mk:Int)),.fz (.int (s9:Int)),E,I,.fz (.int (code:Int)),.fz (.int (seen:Int)),.ow (ss.map St3.d),aE,.un,.un,.un]/\ss.length=i/\(∀ v,seen.testBit v=(code.testBit v ^^ decide ((ps.take i).count v % 2=1)))/\(∀ j s,ss[j]?=some s->DS s0 rs ps code j s)/\∀ s∈ss,SB 54 n s) rfl ⟨[],code,o,.un,rfl,rfl,λv=>by simp,λj s h=>(by simp at h),by simp⟩ ?_ ?_)
 .rintro i d e hi ⟨ss,seen,o,aE,rfl,S,aq,y,ax⟩
  obtain⟨x,hx,rfl⟩:=Dt hi;obtain⟨w,hw,rfl⟩:=Dd hx;have ah:=(AE.mp hw).1;have ay:w<n:=J.mem.mp (AI hw);refine⟨_,rfl,?_⟩;have e1:tk[i]?=some tk[i]:=AL (by lia);have e2:fl[i]?=some fl[i]:=AL (by lia);have n1:=al i;have n2:=ao i;rw[show tk.getD i []=tk[i] by rw[List.getD,e1];rfl] at n1;rw[show fl.getD i []=fl[i] by rw[List.getD,e2];rfl] at n2;generalize am:tk[i]=tl at e1 n1;generalize hfl':fl[i]=aS at e2 n2;have t1:=ht.len _ (AI e1);have t2:=ht.lt _ (AI e1);have f1:=M.len _ (AI e2);have f2:=M.lt _ (AI e2);obtain⟨ta,ea,pa⟩:=Hn tl (by lia);obtain⟨fa,T,pb⟩:=Hn aS (by lia);refine Z6 (Wv (ds:=ss.map St3.d) (as:=[(⟨w,!(seen.testBit w),ta,fa⟩:St3).d]) (ds':=(ss++[(⟨w,!(seen.testBit w),ta,fa⟩:St3)]).map St3.d) rfl (Z4 (Y3 (Z4 rfl (Z4 (Z5 (Z5 (Z5 rfl rfl (MA seen w)) rfl (Pq seen w)) rfl (WV _)) (Z4 (Yn (Z4 (Yu (Yn (Z4 (VS rfl rfl e1) rfl) ea)) rfl) rfl) (Z4 (Yn (Z4 (Yu (Yn (Z4 (VS rfl rfl e2) rfl) T)) rfl) rfl) rfl)))) (by simp)) rfl) ?_ ?_)
  .rw[Wi (by rw[AB];lia),AU];rfl
  .refine Ze (Z5 rfl (Z5 rfl rfl (Ks w (by lia))) (NA seen _)) ⟨_,_,_,_,rfl,by rw[AH,CA,S],?_,?_,λs hs=>?_⟩
   .intro v
    rw[Vv,aq,DE,hw];show(code.testBit v ^^ decide ((ps.take i).count v % 2=1) ^^ decide (w=v))=(code.testBit v ^^ decide ((ps.take i++[w]).count v % 2=1));rw[List.count_append,List.count_singleton];by_cases ew:w=v
    .subst ew
     rw[show(w==w)=true from CY _,AM rfl,AF rfl];by_cases F:(ps.take i).count w % 2=1
     .rw[AM F,AC (by lia)];cases code.testBit w<;>rfl
     .rw[AC F,AM (by lia)];cases code.testBit w<;>rfl
    .rw[show(w==v)=false from BP.mpr ew,AC ew];simp
   .intro j s C
    rcases GP j ss.length with hl | hl
    .rw[CN hl] at C
     exact y j s C
    .rw[DJ hl] at C
     have e0:j - ss.length=0:=by
      rcases FX (j - ss.length) with z | z
      .exact z
      .rw[HI,AJ (by lia)] at C;cases C
     rw[e0] at C;cases C;have ej:j=i:=by lia
     subst ej;exact⟨hw,n1.perm pa,n2.perm pb,by show(!(seen.testBit w))=_;rw[aq]⟩
   rcases BH.mp hs with h | h
   .exact ax s h
   .rw[AK.mp h]
    exact⟨ay,λp F=>t2 p (pa.mem_iff.mp F),λp F=>f2 p (pb.mem_iff.mp F),pa.nodup_iff.mpr (aC _ (AI e1)),pb.nodup_iff.mpr (aD _ (AI e2))⟩
 rintro e ⟨ss,seen,o,aE,rfl,S,aq,y,ax⟩;rw[T6,AB,AB] at S;refine Z6 (Ze (Z5 (Z5 rfl rfl (Vg c 2000 (by lia) (by lia))) rfl (Ui _ m (by lia))) ?_);have aT:c / 2000 % m<m:=EA _ (by lia);generalize c / 2000 % m=t at aT;refine Z6 (U2 (ds:=(ss.drop t++ss.take t).map St3.d) (by
  refine Z5 (Ee rfl (T3 rfl) rfl (A6 _ _ _)) (Ee rfl rfl (T3 rfl) (A6 _ _ _)) ?_;rw[Tk,Tk,Gm ss t (by lia),Hc ss t (by lia),Fv (by rw[AB,AB,CS,BY];lia),AU]) ?_)
 refine Z6 (Ze (Z5 rfl rfl (Vg c 40000 (by lia) (by lia))) ?_);obtain⟨u,ew,wl,_⟩:=He (g:=Zt 0) (f:=Yq (O (Yj Vz (O (U 1) (O (U 0) Zb))) (O (L Yk (dL (T7 (O (dC (.str "given")) (O (dC (.str "made")) Zb)))) (L V8 (L Wc (Yj Wj (O (U 2) (O (L Yi (U 3) (U 0)) Zb))) (dC (.int 4096))) (dC (.int 2)))) Zb))) (env:=[.un,.fz (.int ((c / 40000:Nat):Int)),.fz (Tf ns),.fz (.int (first:Int))]) Jw (λ_=>True) (rng 0 n) λx hx=>by
  obtain⟨i,hi,rfl⟩:=Xx hx;rw[CK];obtain⟨z,ez⟩:=Fn (c / 40000) i;obtain⟨r,er,_⟩:=Ml ns (first+i) (by lia);have p1:=gn (.str "given") (.str "made") (j:=((r / 4096 % 2:Nat):Int)) (by lia) (by lia);refine⟨[.fz (.int (i:Int)),.fz (.int ((c / 40000:Nat):Int)),.fz (Tf ns),.fz (.int (first:Int))],(z,decide (((r / 4096 % 2:Nat):Int)=1)),rfl,?_,trivial⟩;refine Eq.trans (Y3 (Z4 (Zo (xs:=[.int ((c / 40000:Nat):Int),.int (i:Int)]) rfl ez) (Z4 (Z5 (x:=.lst [.str "given",.str "made"]) rfl (Z5 (Z5 (Zo (xs:=[Tf ns,.int ((first+i:Nat):Int)]) (Z4 rfl (Z4 (Z5 rfl rfl (Wz _ _)) rfl)) er) rfl (Vg r 4096 (by lia) (by lia))) rfl (Ui _ 2 (by lia))) p1) rfl)) (by simp)) ?_;show some (Dat.tup [.str z,if((r / 4096 % 2:Nat):Int)=1 then .str "made" else .str "given"])=some (Dat.tup [.str z,.str (if decide (((r / 4096 % 2:Nat):Int)=1)=true then "made" else "given")]);by_cases hb:((r / 4096 % 2:Nat):Int)=1
  .rw[AF hb,AM hb];rfl
  .rw[AJ hb,AC hb];rfl
 rw[Tp] at wl;refine Z6 (Ze (d:=.lst (u.map Jw)) (Yu (Y9 (xs:=rng 0 n) (W0 (Z4 rfl rfl) (by lia)) rfl ew)) ?_);have W:(ss.drop t++ss.take t).Perm ss:=by
  have:=List.perm_append_comm (l₁:=ss.drop t) (l₂:=ss.take t);rw[GT] at this;exact this
 have D:=W.length_eq;refine Yg (Y3 (Z4 (Yn (Z4 rfl rfl) rfl) (Z4 (Yn (Z4 rfl rfl) rfl) rfl)) (by simp)) ⟨⟨u,ss.drop t++ss.take t,mk,code⟩,s0,ps,rs,rfl,?_,?_,wl,by show 2<=(ss.drop t++ss.take t).length;lia,ap⟩
 .exact {
   ne:=λq B=>by have:=(hr.lt q B).1;lia
   ring:=ar
   inj:=λw v hw hv h=>J.inj w v hw hv h
   mks:=au
   st:=λs hs=>by
    obtain⟨d,hd⟩:=DW (W.mem_iff.mp hs);have q:=y d s hd;have ay:=(ax s (W.mem_iff.mp hs)).w;have Y:=(AE.mp hd).1;refine⟨d,ay,by lia,q.tk,q.fl,?_⟩;have hu:=q.up;rcases TN q.w (J.two ay) with⟨h1,h2⟩ | ⟨h1,h2⟩
    .exact .inl ⟨h2,by rw[hu,h1];show(!(code.testBit s.w ^^ decide (0 % 2=1)))=(!code.testBit s.w);simp⟩
    .exact .inr ⟨h2,by rw[hu,h1];show(!(code.testBit s.w ^^ decide (1 % 2=1)))=code.testBit s.w;simp⟩ }
 .exact { w2:=by show u.length<=10;lia,s1:=by show 1<=(ss.drop t++ss.take t).length;lia,s2:=by show(ss.drop t++ss.take t).length<=24;lia,st:=λs hs=>by show SB 54 u.length s;rw[wl];exact ax s (W.mem_iff.mp hs),mks:=ag }
variable{x:Str}
def Tw(p:Nat×Bool):Dat:=.tup [.int (p.1:Int),.bl p.2]
theorem CG.sb(h:CG af n sp ah ss)(hs:sp<=54)(hm:s∈ss):SB 54 n s:=by
 obtain⟨x,y,b1,b2,I,b4,c,e,g,k,l⟩:=h.st s hm;exact⟨k,λp F=>by rw[b4] at F;rw[AK.mp F];lia,λp F=>by rw[c] at F;rw[AK.mp F];lia,by rw[b4];exact CC.mpr ⟨by simp,CV⟩,by rw[c];exact CC.mpr ⟨by simp,CV⟩⟩
theorem fJ:([1,2,3].all λaf=>[1,2].all λown=>(List.range af).all λk=>(List.range 2).all λa=>(List.range 2).all λb=>(List.range (2*own+1)).all λpos=>Dj (af+own) (Q' k pos (XX af own a b)))=true:=by ext
theorem bW{own r pos:Nat}(m1:1<=af)(m2:af<=3)(o1:1<=own)(o2:own<=2)(hk:k<af)(F:pos<=2*own):Dj (af+own) (Q' k pos (N5 af own r))=true:=by
 have h:=fJ;simp only[CD] at h;have:=h af (by rcases(show af=1\/af=2\/af=3 by lia) with rfl | rfl | rfl<;>simp) own (by rcases(show own=1\/own=2 by lia) with rfl | rfl<;>simp) k (CI.mpr hk) (r % 2) (CI.mpr (by lia)) (r / 2 % 2) (CI.mpr (by lia)) pos (CI.mpr (by lia));unfold N5;rw[Ph af own r o1 o2,Ph af own (r / 2) o1 o2];exact this
theorem hZ(ns:Z Int)(first:Nat)(hf:first<=900):∃ (G:G3) (ah:Nat->Nat),Mv [Tf ns,.int (first:Int)]=.ok G.d/\LI G 0 ah/\Gb 54 G/\1<=G.wires.length/\G.wires.length<=5/\2<=G.steps.length/\G.code=0:=by
 have:=Yb (n:=18) (p:=2) (ds:=[Tf ns,.int (first:Int)]) (g:=Qk) (R:=λd=>∃ (G:G3) (ah:Nat->Nat),d=G.d/\LI G 0 ah/\Gb 54 G/\1<=G.wires.length/\G.wires.length<=5/\2<=G.steps.length/\G.code=0) rfl ?_
 .obtain⟨d,e,z,ah,rfl,h⟩:=this
  exact⟨z,ah,e,h⟩
 unfold Qk;obtain⟨c,ec,lc⟩:=Ml ns first (by lia);refine Z6 (Ze (Zo (xs:=[Tf ns,.int (first:Int)]) rfl ec) ?_);obtain⟨af,aF,aG,az⟩:∃ n:Nat,2+c % 2=n/\2<=n/\n<=3:=⟨_,rfl,by lia,by lia⟩;obtain⟨own,aH,aT,W⟩:∃ n:Nat,1+c / 2 % 2=n/\1<=n/\n<=2:=⟨_,rfl,by lia,by lia⟩;refine Z6 (Ze (d:=.int (af:Int)) (by rw[<- aF];exact Z5 rfl (Z5 rfl rfl (Ui c 2 (by lia))) (Wz 2 _)) ?_);refine Z6 (Ze (d:=.int (own:Int)) (by rw[<- aH];exact Z5 rfl (Z5 (Z5 rfl rfl (Vg c 2 (by lia) (by lia))) rfl (Ui _ 2 (by lia))) (Wz 1 _)) ?_);obtain⟨a,aj,aw,aI⟩:∃ n:Nat,Yk (.lst [.int (af:Int),.int 1]) (.int ((c / 4 % 2:Nat):Int))=some (.int (n:Int))/\1<=n/\n<=3:=by
  rcases(show c / 4 % 2=0\/c / 4 % 2=1 by lia) with z | z<;>rw[z]
  .exact⟨af,rfl,by lia,az⟩
  .exact⟨1,rfl,by lia,by lia⟩
 refine Z6 (Ze (d:=.int (a:Int)) (Z5 (x:=.lst [.int (af:Int),.int 1]) rfl (Z5 (Z5 rfl rfl (Vg c 4 (by lia) (by lia))) rfl (Ui _ 2 (by lia))) aj) ?_);clear aj aH aF;obtain⟨u,ew,wl,_⟩:=He (g:=Zt 0) (f:=Yq (O (Yj Vz (O (L Wc (U 1) (dC (.int 8))) (O (U 0) Zb))) (O (dC (.str "given")) Zb))) (env:=[.un,.fz (.int (c:Int))]) Jw (λ_=>True) (rng 0 a) λx hx=>by
  obtain⟨i,hi,rfl⟩:=Xx hx;rw[CK];obtain⟨z,ez⟩:=Fn (c / 8) i;exact⟨[.fz (.int (i:Int)),.fz (.int (c:Int))],(z,false),rfl,Y3 (Z4 (Zo (xs:=[.int ((c / 8:Nat):Int),.int (i:Int)]) (Z4 (Z5 rfl rfl (Vg c 8 (by lia) (by lia))) rfl) ez) rfl) (by simp),trivial⟩
 rw[Tp] at wl;refine Z6 (Ze (d:=.lst (u.map Jw)) (Yu (Y9 (xs:=rng 0 a) (W0 (Z4 rfl rfl) (by lia)) rfl ew)) ?_);obtain⟨us,eu,ul,_⟩:=He (g:=Zt 0) (f:=Yq (O (Yj Vz (O (L Wc (U 1) (dC (.int 8))) (O (L Yi (U 2) (U 0)) Zb))) (O (dC (.str "made")) Zb))) (env:=[.un,.fz (.int (c:Int)),.fz (.int (a:Int))]) Jw (λ_=>True) (rng 0 own) λx hx=>by
  obtain⟨i,hi,rfl⟩:=Xx hx;rw[CK];obtain⟨z,ez⟩:=Fn (c / 8) (a+i);exact⟨[.fz (.int (i:Int)),.fz (.int (c:Int)),.fz (.int (a:Int))],(z,true),rfl,Y3 (Z4 (Zo (xs:=[.int ((c / 8:Nat):Int),.int ((a+i:Nat):Int)]) (Z4 (Z5 rfl rfl (Vg c 8 (by lia) (by lia))) (Z4 (Z5 rfl rfl (Wz _ _)) rfl)) ez) rfl) (by simp),trivial⟩
 rw[Tp] at ul;refine Z6 (Ze (d:=.lst ((u++us).map Jw)) (by
  rw[AU];exact Z5 rfl (Yu (Y9 (xs:=rng 0 own) (W0 (Z4 rfl rfl) (by lia)) rfl eu)) (M6 (by rw[AB,AB];lia))) ?_)
 have T:(u++us).length=a+own:=by rw[AH];lia
 generalize u++us=wires at T;refine Z6 (U2 (ds:=([]:Z St3).map St3.d) rfl ?_);refine Z6 (Ze (d:=.int ((1:Nat):Int)) rfl ?_);refine Z6 (W3 (ds:=rng 0 af) (λi e=>∃ (ss:Z St3) (sp:Nat) (ah:Nat->Nat) (o H A J D aA v E I:JB),e=[.fz (Tf ns),.fz (.int (first:Int)),.fz (.int (c:Int)),.fz (.int (af:Int)),.fz (.int (own:Int)),.fz (.int (a:Int)),.fz (.lst (wires.map Jw)),.ow (ss.map St3.d),.fz (.int (sp:Int)),o,H,A,J,D,aA,v,E,I]/\ss.length=i*(2+2*own)/\1<=sp/\sp<=1+6*i/\CG (a+own) (a+own) sp ah ss) (W0 (Z4 rfl rfl) (by lia)) ⟨[],1,λ_=>0,.un,.un,.un,.un,.un,.un,.un,.un,.un,rfl,by simp,by lia,by lia,⟨rfl,λs hs=>(nomatch hs),λi j si sj _ hi=>(by simp at hi)⟩⟩ ?_ ?_)
 .rintro i d e hi ⟨ss,sp,ah,o,H,A,J,D,aA,v,E,I,rfl,S,aJ,X,m⟩
  obtain⟨Q,rfl⟩:=Ts hi;rw[CK];refine⟨_,rfl,?_⟩;obtain⟨kw,aK⟩:∃ kw:Nat,i % a=kw:=⟨_,rfl⟩;have ao:V8 (.int (i:Int)) (.int (a:Int))=some (.int (kw:Int)):=by rw[Ui i a (by lia),aK]
  obtain⟨r,er,_⟩:=Ml ns (first+1+i) (by lia);refine Z6 (Ze (Zo (xs:=[Tf ns,.int ((first+1+i:Nat):Int)]) (Z4 rfl (Z4 (Z5 (Z5 rfl rfl (Wz _ 1)) rfl (Wz _ _)) rfl)) er) ?_);have t:Wr (Zt 0) Wh (L Yi (U 1) (L V8 (L Yi (U 3) (U 0)) (U 2))) [.un,.fz (.int (a:Int)),.fz (.int (own:Int)),.fz (.int (r:Int))] (rng 0 own)=some (Zk (Vb a own r)):=by
   rw[Rq,Ww (λj:Nat=>Dat.int (j:Int)) (λj:Nat=>Dat.int ((a+(r+j) % own:Nat):Int)) (List.range own) λj _=>⟨[.fz (.int (j:Int)),.fz (.int (a:Int)),.fz (.int (own:Int)),.fz (.int (r:Int))],rfl,rfl,Z5 rfl (Z5 (Z5 rfl rfl (Wz _ _)) rfl (Ui _ own (by lia))) (Wz _ _)⟩];unfold Vb;rw[Us,BV];rfl
  have aU:Wr (Zt 0) Wh (L Yi (U 1) (L V8 (L Yi (L Wc (U 3) (dC (.int 2))) (U 0)) (U 2))) [.un,.fz (.int (a:Int)),.fz (.int (own:Int)),.fz (.int (r:Int))] (rng 0 own)=some (Zk (Vb a own (r / 2))):=by
   rw[Rq,Ww (λj:Nat=>Dat.int (j:Int)) (λj:Nat=>Dat.int ((a+(r / 2+j) % own:Nat):Int)) (List.range own) λj _=>⟨[.fz (.int (j:Int)),.fz (.int (a:Int)),.fz (.int (own:Int)),.fz (.int (r:Int))],rfl,rfl,Z5 rfl (Z5 (Z5 (Z5 rfl rfl (Vg r 2 (by lia) (by lia))) rfl (Wz _ _)) rfl (Ui _ own (by lia))) (Wz _ _)⟩];unfold Vb;rw[Us,BV];rfl
  refine Z6 (Ze (Yu (Y9 (xs:=rng 0 own) (W0 (Z4 rfl rfl) (by lia)) rfl t)) ?_);refine Z6 (Ze (Yu (Y9 (xs:=rng 0 own) (W0 (Z4 rfl rfl) (by lia)) rfl aU)) ?_);have al:Wr (Zt 0) Wh (Yq (O (U 0) (O (dC (.bl true)) Zb))) [.un] (Zk (Vb a own r))=some (((Vb a own r).map λw=>(w,true)).map Tw):=by
   rw[Us,Ww (λw:Nat=>Dat.int (w:Int)) (λw:Nat=>Tw (w,true)) (Vb a own r) λw _=>⟨[.fz (.int (w:Int))],rfl,rfl,Y3 rfl (by simp)⟩,BV];rfl
  have M:Wr (Zt 0) Wh (Yq (O (U 0) (O (dC (.bl false)) Zb))) [.un] (Zk (Vb a own (r / 2)))=some (((Vb a own (r / 2)).map λw=>(w,false)).map Tw):=by
   rw[Us,Ww (λw:Nat=>Dat.int (w:Int)) (λw:Nat=>Tw (w,false)) (Vb a own (r / 2)) λw _=>⟨[.fz (.int (w:Int))],rfl,rfl,Y3 rfl (by simp)⟩,BV];rfl
  have ac:∀ q,(Vb a own q).length=own:=λq=>by unfold Vb;rw[AB,CQ]
  refine Z6 (U2 (ds:=(N5 a own r).map Tw) (by
   unfold N5;rw[AU];exact Z5 (Yu (Y9 (xs:=Zk (Vb a own r)) rfl rfl al)) (Yu (Y9 (xs:=Zk (Vb a own (r / 2))) rfl rfl M)) (Fv (by simp only[AB,ac];lia))) ?_)
  have au:(N5 a own r).length=2*own:=by unfold N5;rw[AH,AB,AB,ac,ac];lia
  have aL:=λpos F=>bW (k:=kw) (r:=r) (pos:=pos) aw aI aT W (by rw[<- aK];exact EA _ aw) F
  generalize N5 a own r=l at au aL;generalize Vb a own r=ap;generalize Vb a own (r / 2)=ag;have aa:r / 4 % (l.length+1)<=l.length:=by have:=EA (r / 4) (show 0<l.length+1 by lia);lia
  refine Z6 (Wv (ds:=l.map Tw) (as:=[.int ((r / 4 % (l.length+1):Nat):Int),Tw (kw,false)]) (ds':=(l.take (r / 4 % (l.length+1))++(kw,false)::l.drop (r / 4 % (l.length+1))).map Tw) rfl (Z4 (Z5 (Z5 rfl rfl (Vg r 4 (by lia) (by lia))) (Z5 (y:=.int 1) (z:=.int ((l.length+1:Nat):Int)) (Yn (xs:=[.lst (l.map Tw)]) (z:=.int ((l.length:Nat):Int)) rfl (by show some (Dat.int ((l.map Tw).length:Int))=_;rw[AB])) rfl (Wz _ 1)) (Ui _ (l.length+1) (by lia))) (Z4 (Y3 (Z4 (Z5 rfl rfl ao) rfl) (by simp)) rfl)) (by rw[YS _ _ _ (by rw[AB];exact aa) (by rw[AB];lia),AU,map_take,BM,map_drop]) ?_);have hok:=aL (r / 4 % (l.length+1)) (by lia);have ak:=Jt l (r / 4 % (l.length+1)) (kw,false);unfold Q' at hok;generalize l.take (r / 4 % (l.length+1))++(kw,false)::l.drop (r / 4 % (l.length+1))=bs at hok ak;refine Z6 (Ze (d:=.int ((0:Nat):Int)) rfl ?_);have aB:((kw,true)::bs).length=2+2*own:=by rw[BJ];lia
  refine W3 (ds:=E2 0 (((kw,true)::bs).map Tw)) (λj e=>∃ (new:Z St3) (b:Nat) (ah:Nat->Nat) (v E I:JB),e=[.fz (Tf ns),.fz (.int (first:Int)),.fz (.int (c:Int)),.fz (.int (af:Int)),.fz (.int (own:Int)),.fz (.int (a:Int)),.fz (.lst (wires.map Jw)),.ow ((ss++new).map St3.d),.fz (.int ((sp+j:Nat):Int)),.fz (.int (i:Int)),.fz (.int (r:Int)),.fz (.lst (Zk ap)),.fz (.lst (Zk ag)),.ow (bs.map Tw),.fz (.int (b:Int)),v,E,I]/\new.length=j/\b<sp+j/\CG (a+own) (a+own) (sp+j) ah (ss++new)/\ah b=Eh (((kw,true)::bs).take j)/\(j=0->b=0)/\(0<j->j<2+2*own->b≠0/\∀ s∈ss++new,s.takes≠[b])) (Na (Z5 (x:=.lst [Tw (kw,true)]) (y:=.lst (bs.map Tw)) (Yu (L5 (Z4 (Y3 (Z4 (Z5 rfl rfl ao) rfl) (by simp)) rfl) (by simp))) rfl (M6 (by rw[AB];show 1+_<=_;lia)))) ⟨[],0,ah,_,_,_,by rw[DU];rfl,rfl,by lia,by rw[DU];exact m,m.l0,λ_=>rfl,λh=>absurd h (by lia)⟩ ?_ ?_
  .rintro j d e C ⟨new,b,ah,v,E,I,rfl,ae,aM,m,aC,aN,aD⟩
   obtain⟨x,hx,rfl⟩:=Dt C;rw[AQ] at hx;obtain⟨q,B,rfl⟩:=map_some hx;obtain⟨aO,aP⟩:=dr hok B;have Y:=(AE.mp B).1;rw[aB] at Y;rw[<- aC] at aO;have am:((kw,true)::bs).take (j+1)=((kw,true)::bs).take j++[q]:=by rw[DE,B];rfl
   have aQ:Eh (((kw,true)::bs).take (j+1))=ah b ^^^ 2^q.1:=by rw[am,g9,aC]
   have aV:∀ s∈ss++new,s.takes=[b]->b=0:=λs hs e=>by
    rcases FX j with z | z
    .exact aN z
    .exact absurd e ((aD z Y).2 s hs)
   refine⟨_,rfl,?_⟩;refine Z6 (Ze rfl ?_);refine Z6 (Go.mono (N:=λe=>∃ (fill:Nat) (L':Nat->Nat),fill<sp+j+1/\b≠fill/\L' 0=0/\(∀ p,p<sp+j->L' p=ah p)/\L' fill=ah b ^^^ 2^q.1/\(j+1<2+2*own->fill=sp+j)/\e=[.fz (Tf ns),.fz (.int (first:Int)),.fz (.int (c:Int)),.fz (.int (af:Int)),.fz (.int (own:Int)),.fz (.int (a:Int)),.fz (.lst (wires.map Jw)),.ow ((ss++new).map St3.d),.fz (.int ((sp+j:Nat):Int)),.fz (.int (i:Int)),.fz (.int (r:Int)),.fz (.lst (Zk ap)),.fz (.lst (Zk ag)),.ow (bs.map Tw),.fz (.int (b:Int)),.fz (.int (j:Int)),.fz (Tw q),.fz (.int (fill:Int))]) ?_ ?_ (λ_ h=>h))
   .refine Ux (Wa (Z5 rfl (Yn (xs:=[.lst (bs.map Tw)]) (z:=.int ((bs.length:Nat):Int)) rfl (by show some (Dat.int ((bs.map Tw).length:Int))=_;rw[AB])) (Xj _ _))) (λhb=>?_) (λhb=>Wk ?_)
    .have aE:j=bs.length:=by simpa using hb
     have aR:Eh (((kw,true)::bs).take (j+1))=0:=by rw[BB (by rw[aB];lia)];exact C3 hok
     exact Ze (d:=.int ((0:Nat):Int)) rfl ⟨0,ah,by lia,(aD (by lia) Y).1,m.l0,λp _=>rfl,by rw[m.l0,<- aQ,aR],λh=>absurd h (by lia),rfl⟩
    .refine⟨sp+j,λp=>if p=sp+j then ah b ^^^ 2^q.1 else ah p,by lia,by lia,?_,λp F=>AJ (by lia),AF rfl,λ_=>rfl,rfl⟩
     show(if 0=sp+j then _ else ah 0)=0;rw[AJ (by lia)];exact m.l0
   rintro e ⟨fill,L',P,aq,ay,aW,aS,aX,rfl⟩;refine Z6 (Wv (ds:=(ss++new).map St3.d) (as:=[(⟨q.1,q.2,[b],[fill]⟩:St3).d]) (ds':=(ss++(new++[(⟨q.1,q.2,[b],[fill]⟩:St3)])).map St3.d) rfl (Z4 (Y3 (Z4 rfl (Z4 rfl (Z4 (Y3 rfl (by simp)) (Z4 (Y3 rfl (by simp)) rfl)))) (by simp)) rfl) (by
    have ar:i*(2+2*own)<=18:=BI (II (show i<=3 by lia) (show 2+2*own<=6 by lia)) (by lia);rw[Wi (by rw[AB,AH];lia),<- DM,AU (l₁:=ss++new)];rfl) ?_)
   refine Z6 (Ze rfl ?_);have ax:=m.add (up:=q.2) aM P aq aV aP (λ_=>aP) ay aW aS aO;rw[DM] at ax;refine Ze (Z5 rfl rfl (Wz _ 1)) ⟨new++[(⟨q.1,q.2,[b],[fill]⟩:St3)],fill,L',_,_,_,rfl,by rw[AH,CA,ae],P,ax,by rw[aS,aQ],λh=>absurd h (by lia),λ_ ai=>?_⟩;have ef:=aX ai;refine⟨by lia,λs hs e=>?_⟩;rw[<- DM] at hs;rcases BH.mp hs with h | h
   .obtain⟨x,y,b1,_,_,b4,_⟩:=m.st s h
    rw[b4] at e;have:x=fill:=by simpa using e
    lia
   .rw[AK.mp h] at e
    have:b=fill:=by simpa using e
    exact aq this
  .rintro e ⟨new,b,ah,v,E,I,rfl,ae,aM,m,aC,aN,aD⟩
   rw[T6,AB] at ae m ⊢;rw[aB] at ae m ⊢;refine⟨ss++new,sp+(2+2*own),ah,_,_,_,_,_,_,_,_,_,rfl,?_,by lia,by lia,m⟩;rw[AH,S,ae];exact(Nat.succ_mul i (2+2*own)).symm
 .rintro e ⟨ss,sp,ah,o,H,A,J,D,aA,v,E,I,rfl,S,aJ,X,m⟩
  rw[Tp] at S X;have b1:af*(2+2*own)<=18:=BI (II az (show 2+2*own<=6 by lia)) (by lia);have b2:8<=af*(2+2*own):=BI (by lia) (II aG (show 4<=2+2*own by lia));have aY:CG (a+own) (a+own) sp ah (⟨wires,ss,1,0⟩:G3).steps:=m;refine Yg (Y3 (Z4 (Yn (Z4 rfl rfl) rfl) (Z4 (Yn (Z4 rfl rfl) rfl) rfl)) (by simp)) ⟨⟨wires,ss,1,0⟩,ah,rfl,aY.one (by lia) rfl rfl,?_,by show 1<=wires.length;lia,by show wires.length<=5;lia,by show 2<=ss.length;lia,rfl⟩;exact { w2:=by show wires.length<=10;lia,s1:=by show 1<=ss.length;lia,s2:=by show ss.length<=24;lia,st:=λs hs=>by show SB 54 wires.length s;rw[T];exact CG.sb m (by lia) hs,mks:=by show 1<2^54;decide }
theorem As(a b:Z Nat):Zk a++Zk b=Zk (a++b):=by unfold Zk;rw[AU,AU]
theorem Lb(f:α->Dat)(xs:Z α):Uh [.lst (xs.map f)]=some (.int ((xs.length:Nat):Int)):=by
 show some (Dat.int ((xs.map f).length:Int))=_;rw[AB]
theorem U7(f:α->Dat)(xs:Z α):Uh [.tup (xs.map f)]=some (.int ((xs.length:Nat):Int)):=by
 show some (Dat.int ((xs.map f).length:Int))=_;rw[AB]
theorem hV(a b:Nat):OY (.int (a:Int)) (.int (b:Int))=some (.bl (decide (b<=a))):=by
 show some (Dat.bl (decide ((b:Int)<=(a:Int))))=_;by_cases h:b<=a
 .rw[AM h,AM (by lia)]
 .rw[AC h,AC (by lia)]
theorem QU(b:Bool):B1 [.bl b]=some (.int ((if b then 1 else 0:Nat):Int)):=by cases b<;>rfl
theorem UE(a p:Nat)(Y:a<18446744073709551616)(F:p<=1000):Ry (.int (a:Int)) (.int (p:Int))=some (.int ((a*2^p:Nat):Int)):=by
 have:Ry (.int (a:Int)) (.int (p:Int))=some (.int ((a:Int)*2^((p:Int)).toNat)):=AF ⟨by lia,by lia,by rw[Int.natAbs_natCast];exact Y⟩;rw[this,BS];congr 2
theorem bN{c:Nat}(h:c<2^n)(hn:n<=10):c<1024:=AV h (CW (by lia) hn)
theorem gC{c o:Nat}(u:Bool)(h:c<2^n)(Y:o<=n):Iu c o u<2^(n+1):=Nat.lt_pow_two_of_testBit _ λj C=>by
 rw[Ky,AJ (by lia),AJ (by lia)];exact Nat.testBit_lt_two_pow (AV h (CW (by lia) (by lia)))
structure GA (G:G3):Prop where
 calm:∃ I,JL G I
 gb:Gb 54 G
 w1:1<=G.wires.length
 cd:G.code<2^G.wires.length
theorem bd(h:GA G)(o:Nat)(x:Str×Bool)(u:Bool)(Y:o<=G.wires.length)(hw:G.wires.length<10):GA (NK G o x u):=by
 obtain⟨I,B⟩:=h.calm;have hl:(NK G o x u).wires.length=G.wires.length+1:=by show(G.wires.take o++x::G.wires.drop o).length=_;exact Jt G.wires o x
 refine⟨⟨_,cJ B o x u⟩,⟨by lia,by show 1<=(G.steps.map _).length;rw[AB];exact h.gb.s1,by show(G.steps.map _).length<=24;rw[AB];exact h.gb.s2,λs hs=>?_,h.gb.mks⟩,by lia,by rw[hl];exact gC u h.cd Y⟩;obtain⟨r,hr,rfl⟩:=CL.mp hs;have hb:=h.gb.st r hr;refine⟨?_,hb.t,hb.f,hb.tn,hb.fn⟩;rw[hl];show KZ o r.w<_;have:=hb.w;unfold KZ;split<;>lia
theorem iY(G:G3)(h:GA G)(o:Nat)(Y:o<=G.wires.length)(hw:G.wires.length<10)(b u:Bool)(z:Str):Rh [G.d,.int (o:Int),.str (if b then "made" else "given"),.bl u,.str z]=.ok (NK G o (z,b) u).d:=by
 refine V3 (Yb rfl ?_);unfold Re;have hc10:=bN h.cd (by lia);have l:=h.gb.s2;refine Z6 (Ce (d:=G.d) (env':=[.fz G.d,.fz (.int (o:Int)),.fz (.str (if b then "made" else "given")),.fz (.bl u),.fz (.str z),.fz (.tup (G.wires.map Jw)),.fz (.tup (G.steps.map St3.d)),.fz (.int (G.marks:Int)),.fz (.int (G.code:Int)),.un,.un]) rfl rfl ?_);refine Z6 (Ze (d:=.int ((G.code % 2^o:Nat):Int)) (Z5 rfl (Z5 (Z5 rfl rfl (Ks o (by lia))) rfl (NJ (2^o) 1 (ET _))) ((A5 _ _).trans (by rw[Nat.and_two_pow_sub_one_eq_mod]))) ?_);have hdiv:G.code / 2^o<=G.code:=Nat.div_le_self _ _;refine Z6 (Ze (d:=.int ((Iu G.code o u:Nat):Int)) (Z5 (Z5 rfl (Z5 (Yn (Z4 rfl rfl) (QU u)) rfl (UE _ o (by split<;>lia) (by lia))) (LQ _ _)) (Z5 (Z5 rfl rfl (MA G.code o)) (Z5 rfl rfl (Wz o 1)) (UE _ (o+1) (by lia) (by lia))) (LQ _ _)) ?_);have hc:Wr (Mc 4 (Y2 (Zt 0) (Y2 (Zt 1) (Y2 (Zt 2) (Y2 (Zt 3) T4))))) Wh (Yq (O (L Yi (U 0) (dF B1 (O (L OY (U 0) (U 4)) Zb))) (O (U 1) (O (U 2) (O (U 3) Zb))))) [.un,.un,.un,.un,.fz (.int (o:Int))] (G.steps.map St3.d)=some (G.steps.map λs=>(MR o s).d) :=
  Ww St3.d (λs=>(MR o s).d) G.steps λs _=>⟨[.fz (.int (s.w:Int)),.fz (.bl s.up),.fz (.tup (Zk s.takes)),.fz (.tup (Zk s.fills)),.fz (.int (o:Int))],rfl,rfl,Y3 (Z4 (Z5 rfl (Yn (Z4 (Z5 rfl rfl (hV s.w o)) rfl) (QU _)) ((Wz _ _).trans (by
   congr 3
   unfold MR KZ;by_cases M:o<=s.w
   .rw[AM M,AF rfl,AF M]
   .rw[AC M,AJ (by decide),AJ M];rfl))) rfl) (by simp)⟩
 refine Z6 (Ze (d:=.lst (G.steps.map λs=>(MR o s).d)) (Yu (Y9 (xs:=G.steps.map St3.d) (W9 rfl) rfl hc)) ?_);refine Yg (d:=(NK G o (z,b) u).d) (Y3 (xs:=[.tup ((G.wires.take o++(z,b)::G.wires.drop o).map Jw),.tup ((G.steps.map (MR o)).map St3.d),.int (G.marks:Int),.int ((Iu G.code o u:Nat):Int)]) (Z4 (Z5 (Z5 (Ee rfl rfl (T3 rfl) (Do _ _ _)) (Y3 (xs:=[Jw (z,b)]) (Z4 (Y3 rfl (by simp)) rfl) (by simp)) (Dp (by rw[Tk,AB,Hc G.wires o Y,BY];show _+1<=_;lia))) (Ee rfl (T3 rfl) rfl (Do _ _ _)) (by
  rw[Tk,Tk,Hc G.wires o Y,Gm G.wires o Y,Dp (by rw[AH,AB,AB,BY,CS];show _+1+_<=_;lia),AU,DM];rfl)) (Z4 (Yn (Z4 rfl rfl) (by rw[BV];rfl)) rfl)) (by simp)) rfl
theorem XE(hb:∀ p∈l,p<B)(i:B<=64)(hz:z<64)(hn:l.Nodup)(d:z∉l)(e:l'.Perm (l++[z])):(∀ p∈l',p<64)/\l'.Nodup/\∀ q,q∈l'↔q∈l\/(true=true/\q=z):=by
 refine⟨λp F=>?_,?_,λq=>?_⟩
 .rcases BH.mp (e.mem_iff.mp F) with h | h
  .have:=hb p h;lia
  .rw[AK.mp h];exact hz
 .refine e.nodup_iff.mpr (FO.mpr ⟨hn,CC.mpr ⟨by simp,CV⟩,λa Y b c=>?_⟩)
  rw[AK.mp c];rintro rfl;exact d Y
 .rw[e.mem_iff];simp
def QJ(G:G3)(z:Nat)(s':St3):Prop:=(∃ s∈G.steps,∃ b:Bool,s'.w=s.w/\s'.up=s.up/\z∉s.takes/\z∉s.fills/\(∀ q,q∈s'.takes↔q∈s.takes\/(b=true/\q=z))/\(∀ q,q∈s'.fills↔q∈s.fills\/(b=true/\q=z)))/\SB 64 G.wires.length s'
theorem iQ(G:G3)(v:Gb 54 G)(c:Nat):∃ (W:G3) (z:Nat),Jm [G.d,.int (c:Int)]=.ok W.d/\JV G W z/\Gb 64 W/\W.wires=G.wires:=by
 have:=Yb (n:=11) (p:=2) (ds:=[G.d,.int (c:Int)]) (g:=Tn) (R:=λd=>∃ (W:G3) (z:Nat),d=W.d/\JV G W z/\Gb 64 W/\W.wires=G.wires) rfl ?_
 .obtain⟨d,e,z,b,rfl,h⟩:=this
  exact⟨z,b,e,h⟩
 unfold Tn;refine Z6 (Ze (d:=.int (G.marks:Int)) (Z5 rfl rfl rfl) ?_);refine Z6 (W3 (ds:=G.steps.map St3.d) (λi e=>∃ (th:Nat) (D T y m E:JB),e=[.fz G.d,.fz (.int (c:Int)),.fz (.int (th:Int)),D,T,y,m,E,.un,.un,.un]/\th<2^54/\(∀ j,G.marks.testBit j=true->th.testBit j=true)/\∀ s∈G.steps.take i,∀ j,j∈s.takes\/j∈s.fills->th.testBit j=true) (W9 (Z5 rfl rfl rfl)) ⟨G.marks,.un,.un,.un,.un,.un,rfl,v.mks,λj h=>h,λs hs=>by simp at hs⟩ ?_ ?_)
 .rintro i d e hi ⟨th,D,T,y,m,E,rfl,h1,h2,h3⟩
  rw[AQ] at hi;obtain⟨s,hs,rfl⟩:=map_some hi;have o:=v.st s (AI hs);have ai:s.takes.length<=54:=A3 o.tn o.t;have aq:s.fills.length<=54:=A3 o.fn o.f;have u:∀ p∈s.takes++s.fills,p<54:=λp F=>(BH.mp F).elim (o.t p) (o.f p)
  refine⟨[.fz G.d,.fz (.int (c:Int)),.fz (.int (th:Int)),.fz (.int (s.w:Int)),.fz (.bl s.up),.fz (.tup (Zk s.takes)),.fz (.tup (Zk s.fills)),E,.un,.un,.un],rfl,?_⟩;refine W3 (ds:=Zk (s.takes++s.fills)) (λj e=>∃ (t2:Nat) (E:JB),e=[.fz G.d,.fz (.int (c:Int)),.fz (.int (t2:Int)),.fz (.int (s.w:Int)),.fz (.bl s.up),.fz (.tup (Zk s.takes)),.fz (.tup (Zk s.fills)),E,.un,.un,.un]/\t2<2^54/\(∀ j,th.testBit j=true->t2.testBit j=true)/\∀ p∈(s.takes++s.fills).take j,t2.testBit p=true) (W9 (Z5 rfl rfl (by rw[Dp (by unfold Zk;simp only[AB];lia),As]))) ⟨th,E,rfl,h1,λ_ h=>h,λp F=>by simp at F⟩ ?_ ?_
  .rintro j d e C ⟨t2,E,rfl,a1,a2,a3⟩
   obtain⟨p,B,rfl⟩:=Dd C;have F:=u p (AI B);refine⟨_,rfl,?_⟩;refine Ze (Z5 rfl (Z5 rfl rfl (Ks p (by lia))) (LQ _ _)) ⟨_,_,rfl,R' a1 (FD (by lia) F),λj h=>by rw[DV,a2 j h];rfl,λq J=>?_⟩;rw[DE,B] at J;rw[DV,BX];rcases BH.mp J with h | h
   .rw[a3 q h];rfl
   .have:q=p:=AK.mp h
    rw[this];simp
  .rintro e ⟨t2,E,rfl,a1,a2,a3⟩
   rw[show(Zk (s.takes++s.fills)).length=(s.takes++s.fills).length by unfold Zk;simp only[AB],BB (AT _)] at a3;refine⟨t2,_,_,_,_,_,rfl,a1,λj h=>a2 j (h2 j h),λr hr j C=>?_⟩;rw[DE,hs] at hr;rcases BH.mp hr with h | h
   .exact a2 j (h3 r h j C)
   .have:r=s:=AK.mp h
    subst this;exact a3 j (BH.mpr C)
 rintro e ⟨th,D,T,y,m,E,rfl,h1,h2,h3⟩;rw[AB,BB (AT _)] at h3;have hc:=V6 (g:=Zt 0) (t:=dB (L Mz (L Md (L Ir (U 1) (U 0)) (dC (.int 1))) (dC (.int 0)))) (f:=U 0) (env:=[.un,.fz (.int (th:Int))]) (λk:Nat=>Dat.int (k:Int)) (λk:Nat=>Dat.int (k:Int)) (λp=>!th.testBit p) (List.range 64) λp _=>⟨[.fz (.int (p:Int)),.fz (.int (th:Int))],rfl,Wa (Z5 (Z5 (Z5 rfl rfl (MA th p)) rfl (Pq th p)) rfl (WV _)),rfl⟩
 rw[<- Rq] at hc;have P:3<=((List.range 64).filter λp=>!th.testBit p).length:=by
  refine Hy [54,55,56] _ (by decide) λp F=>DA.mpr ⟨CI.mpr ?_,?_⟩
  .have:p=54\/p=55\/p=56:=by simpa using F
   lia
  .have:p=54\/p=55\/p=56:=by simpa using F
   rw[Nat.testBit_lt_two_pow (AV h1 (CW (by lia) (by lia)))];rfl
 have Y:c % 3<((List.range 64).filter λp=>!th.testBit p).length:=by lia
 have hz:=GK Y;have ez:((List.range 64).filter λp=>!th.testBit p)[c % 3]?=some _:=AL Y;generalize ((List.range 64).filter λp=>!th.testBit p)[c % 3]=z at hz ez;obtain⟨aa,am⟩:=DA.mp hz;have I:z<64:=CI.mp aa;have N:th.testBit z=false:=by simpa using am
 have ac:∀ s∈G.steps,z∉s.takes/\z∉s.fills:=λs hs=>⟨λh=>absurd (h3 s hs z (.inl h)) (by rw[N];decide),λh=>absurd (h3 s hs z (.inr h)) (by rw[N];decide)⟩
 have ae:G.marks.testBit z=false:=by
  cases h:G.marks.testBit z with
  | false=>rfl
  | true=>rw[h2 z h] at N;cases N
 refine Z6 (Ze (d:=.int (z:Int)) (Z5 (Yu (Y9 (xs:=rng 0 64) (W0 (Z4 rfl rfl) (by lia)) rfl hc)) (Z5 rfl rfl (Ui c 3 (by lia))) (L1 (by rw[AQ,ez];rfl))) ?_);refine Z6 (U2 (ds:=([]:Z St3).map St3.d) rfl ?_);refine Z6 (W3 (ds:=E2 0 (G.steps.map St3.d)) (λi e=>∃ (ss:Z St3) (D T y m H A:JB),e=[.fz G.d,.fz (.int (c:Int)),.fz (.int (th:Int)),D,T,y,m,.fz (.int (z:Int)),.ow (ss.map St3.d),H,A]/\ss.length=i/\∀ s∈ss,QJ G z s) (by unfold Ow;rw[W9 (xs:=G.steps.map St3.d) (Z5 rfl rfl rfl)];rfl) ⟨[],D,T,y,m,.un,.un,rfl,rfl,λs h=>(by cases h)⟩ ?_ ?_)
 .rintro i d e hi ⟨ss,D,T,y,m,H,A,rfl,S,Q⟩
  obtain⟨x,hx,rfl⟩:=Dt hi;rw[AQ] at hx;obtain⟨s,hs,rfl⟩:=map_some hx;have a:=AI hs;have o:=v.st s a;have ah:=(AE.mp hs).1;have hs24:=v.s2;obtain⟨n1,n2⟩:=ac s a;have ai:s.takes.length<=54:=A3 o.tn o.t;have aq:s.fills.length<=54:=A3 o.fn o.f;refine⟨[.fz G.d,.fz (.int (c:Int)),.fz (.int (th:Int)),D,T,y,m,.fz (.int (z:Int)),.ow (ss.map St3.d),.fz (.int (i:Int)),.fz s.d],rfl,?_⟩;refine Z6 (Ce (d:=s.d) (env':=[.fz G.d,.fz (.int (c:Int)),.fz (.int (th:Int)),.fz (.int (s.w:Int)),.fz (.bl s.up),.fz (.tup (Zk s.takes)),.fz (.tup (Zk s.fills)),.fz (.int (z:Int)),.ow (ss.map St3.d),.fz (.int (i:Int)),.fz s.d]) rfl rfl ?_);have M:∀ (t f:Z Nat),QJ G z ⟨s.w,s.up,t,f⟩->Go (U6 8 Wf (O (Yq (O (U 3) (O (U 4) (O (U 5) (O (U 6) Zb))))) Zb) [.fz G.d,.fz (.int (c:Int)),.fz (.int (th:Int)),.fz (.int (s.w:Int)),.fz (.bl s.up),.fz (.tup (Zk t)),.fz (.tup (Zk f)),.fz (.int (z:Int)),.ow (ss.map St3.d),.fz (.int (i:Int)),.fz s.d]) (λe=>∃ (ss:Z St3) (D T y m H A:JB),e=[.fz G.d,.fz (.int (c:Int)),.fz (.int (th:Int)),D,T,y,m,.fz (.int (z:Int)),.ow (ss.map St3.d),H,A]/\ss.length=i+1/\∀ s∈ss,QJ G z s) (λd=>∃ (W:G3) (z:Nat),d=W.d/\JV G W z/\Gb 64 W/\W.wires=G.wires):=λt f hl=>by
   refine Wv (ds:=ss.map St3.d) (as:=[(⟨s.w,s.up,t,f⟩:St3).d]) (ds':=(ss++[(⟨s.w,s.up,t,f⟩:St3)]).map St3.d) rfl (Z4 (Y3 rfl (by simp)) rfl) (by rw[Wi (by rw[AB];lia),AU];rfl) ⟨_,_,_,_,_,_,_,rfl,by rw[AH,CA,S],λr hr=>?_⟩;rcases BH.mp hr with h | h
   .exact Q r h
   .rw[AK.mp h];exact hl
  refine Z6 (Ux (Wa (Z5 (Z5 (Z5 (Z5 rfl rfl (Vg c 3 (by lia) (by lia))) rfl (MA _ i)) rfl (Pq _ i)) rfl (Xh _))) (λ_=>?_) (λ_=>Wk ?_))
  .obtain⟨t,et,pt⟩:=Ko (s.takes++[z]) (by rw[AH,CA];lia)
   obtain⟨f,ef,pf⟩:=Ko (s.fills++[z]) (by rw[AH,CA];lia);have a1:∀ l:Z Nat,l.length<=54->Nr (.tup (Zk l)) (.tup [.int (z:Int)])=some (.tup (Zk (l++[z]))):=λl hl=>by
    rw[Dp (by unfold Zk;rw[AB,AB];show _+1<=_;lia),<- As];rfl
   refine Z6 (Ze (d:=.tup (Zk t)) (Yn (Z4 (Yu (Yn (Z4 (Z5 rfl (Y3 (Z4 rfl rfl) (by simp)) (a1 _ ai)) rfl) et)) rfl) rfl) ?_);refine Ze (d:=.tup (Zk f)) (Yn (Z4 (Yu (Yn (Z4 (Z5 rfl (Y3 (Z4 rfl rfl) (by simp)) (a1 _ aq)) rfl) ef)) rfl) rfl) ?_;obtain⟨t1,t2,X⟩:=XE o.t (by lia) I o.tn n1 pt;obtain⟨f1,f2,f3⟩:=XE o.f (by lia) I o.fn n2 pf;exact M t f ⟨⟨s,a,true,rfl,rfl,n1,n2,X,f3⟩,⟨o.w,t1,f1,t2,f2⟩⟩
  .exact M s.takes s.fills ⟨⟨s,a,false,rfl,rfl,n1,n2,λq=>by simp,λq=>by simp⟩,⟨o.w,λp F=>by have:=o.t p F;lia,λp F=>by have:=o.f p F;lia,o.tn,o.fn⟩⟩
 rintro e ⟨ss,D,T,y,m,H,A,rfl,S,Q⟩;rw[T6,AB] at S;have:=v.s1;have:=v.s2;have:=v.w2;refine Yg (Y3 (Z4 (Z5 rfl rfl rfl) (Z4 (Yn (Z4 rfl rfl) rfl) (Z4 (Z5 (Z5 rfl rfl rfl) (Z5 rfl rfl (Ks z (by lia))) (LQ G.marks _)) (Z4 (Z5 rfl rfl rfl) rfl)))) (by simp)) ⟨⟨G.wires,ss,G.marks ||| 2^z,G.code⟩,z,rfl,⟨S,rfl,ae,rfl,λs hs=>(Q s hs).1⟩,?_,rfl⟩;exact { w2:=v.w2,s1:=by show 1<=ss.length;lia,s2:=by show ss.length<=24;lia,st:=λs hs=>(Q s hs).2,mks:=R' (AV v.mks (CW (by lia) (by lia))) (FD (by lia) I) }
theorem bS:∀ k:Nat,k<10->∃ z:Str,Yk (.str "abcdefghij") (.int (k:Int))=some (.str z)
 | 0,_=>⟨_,rfl⟩ | 1,_=>⟨_,rfl⟩ | 2,_=>⟨_,rfl⟩ | 3,_=>⟨_,rfl⟩ | 4,_=>⟨_,rfl⟩ | 5,_=>⟨_,rfl⟩ | 6,_=>⟨_,rfl⟩ | 7,_=>⟨_,rfl⟩ | 8,_=>⟨_,rfl⟩ | 9,_=>⟨_,rfl⟩
theorem ek(n j:Nat)(C:j<8)(hn:n<=5):∃ m:Nat,Yk (.lst [.int 0,.int 0,.int 0,.int 0,.int 1,.int 1,.int 2,.int ((10 - n:Nat):Int)]) (.int (j:Int))=some (.int (m:Int))/\n+m<=10:=by
 rcases(show j=0\/j=1\/j=2\/j=3\/j=4\/j=5\/j=6\/j=7 by lia) with rfl | rfl | rfl | rfl | rfl | rfl | rfl | rfl
 .exact⟨0,rfl,by lia⟩
 .exact⟨0,rfl,by lia⟩
 .exact⟨0,rfl,by lia⟩
 .exact⟨0,rfl,by lia⟩
 .exact⟨1,rfl,by lia⟩
 .exact⟨1,rfl,by lia⟩
 .exact⟨2,rfl,by lia⟩
 .exact⟨10 - n,rfl,by lia⟩
theorem gq(j:Nat)(C:j<2):∃ b:Bool,Yk (.lst [.str "given",.str "made"]) (.int (j:Int))=some (.str (if b then "made" else "given")):=by
 rcases(show j=0\/j=1 by lia) with rfl | rfl
 .exact⟨false,rfl⟩
 .exact⟨true,rfl⟩
structure GB (G:G3):Prop where
 calm:∃ I,JL G I
 gb:Gb 64 G
 w1:1<=G.wires.length
theorem GA.b(h:GA G):GB G:=⟨h.calm,⟨h.gb.w2,h.gb.s1,h.gb.s2,λs hs=>⟨(h.gb.st s hs).w,λp F=>by have:=(h.gb.st s hs).t p F;lia,λp F=>by have:=(h.gb.st s hs).f p F;lia,(h.gb.st s hs).tn,(h.gb.st s hs).fn⟩,AV h.gb.mks (CW (by lia) (by lia))⟩,h.w1⟩
theorem cb(ns:Z Int)(first j f:Nat)(hf:first<=800)(aG:1<=j)(az:j<=4)(Y:f<=5):∃ G:G3,Q0 [Tf ns,.int (first:Int),.int (j:Int),.int (f:Int)]=.ok G.d/\GB G:=by
 have:=Yb (n:=12) (p:=4) (ds:=[Tf ns,.int (first:Int),.int (j:Int),.int (f:Int)]) (g:=Uu) (R:=λd=>∃ G:G3,d=G.d/\GB G) rfl ?_
 .obtain⟨d,e,z,rfl,h⟩:=this
  exact⟨z,e,h⟩
 unfold Uu;obtain⟨c,ec,lc⟩:=Ml ns first (by lia);refine Z6 (Ze (Zo (xs:=[Tf ns,.int (first:Int)]) rfl ec) ?_);refine Z6 (Go.mono (N:=λe=>∃ G:G3,e=[.fz (Tf ns),.fz (.int (first:Int)),.fz (.int (j:Int)),.fz (.int (f:Int)),.fz (.int (c:Int)),.fz G.d,.un,.un,.un,.un,.un,.un]/\GA G/\G.wires.length<=5/\2<=G.steps.length) ?_ ?_ (λ_ h=>h))
 .refine Ux (Wa (Z5 (Z5 rfl rfl (Ui c 3 (by lia))) rfl (Xj _ 0))) (λ_=>?_) (λ_=>?_)
  .obtain⟨G,ah,e,h1,h2,h4,h5,h6,h7⟩:=hZ ns (first+1) (by lia)
   exact Ze (Zo (xs:=[Tf ns,.int ((first+1:Nat):Int)]) (Z4 rfl (Z4 (Z5 rfl rfl (Wz _ 1)) rfl)) e) ⟨G,rfl,⟨⟨_,fK h1⟩,h2,h4,by rw[h7];exact ET _⟩,h5,h6⟩
  .have hmm:c / 3 % j<j:=EA _ (by lia)
   have har:c / 30 % (f+1)<f+1:=EA _ (by lia);obtain⟨G,s0,ps,rs,e,h1,h2,h4,h5,h6⟩:=d8 ns (first+1) (1+c / 3 % j) (c / 30 % (f+1)) (by lia) (by lia) (by lia) (by lia);exact Ze (Zo (xs:=[Tf ns,.int ((first+1:Nat):Int),.int ((1+c / 3 % j:Nat):Int),.int ((c / 30 % (f+1):Nat):Int)]) (Z4 rfl (Z4 (Z5 rfl rfl (Wz _ 1)) (Z4 (Z5 rfl (Z5 (Z5 rfl rfl (Vg c 3 (by lia) (by lia))) rfl (Ui _ j (by lia))) (Wz 1 _)) (Z4 (Z5 (Z5 rfl rfl (Vg c 30 (by lia) (by lia))) (Z5 rfl rfl (Wz f 1)) (Ui _ (f+1) (by lia))) rfl)))) e) ⟨G,rfl,⟨⟨_,fZ h1 (by lia)⟩,h2,by lia,by rw[h4];exact h6⟩,by lia,h5⟩
 rintro e ⟨G,rfl,v,k,l⟩;refine Z6 (Ze (Z5 rfl rfl (Vg c 1000 (by lia) (by lia))) ?_);generalize c / 1000=a;refine Z6 (Go.mono (N:=λe=>∃ (G:G3) (E:JB),e=[.fz (Tf ns),.fz (.int (first:Int)),.fz (.int (j:Int)),.fz (.int (f:Int)),.fz (.int (c:Int)),.fz G.d,.fz (.int (a:Int)),E,.un,.un,.un,.un]/\GA G/\G.wires.length<=5) ?_ ?_ (λ_ h=>h))
 .refine Ux (Wa (Z5 (Z5 rfl rfl (Ui a 4 (by lia))) rfl (Xj _ 0))) (λ_=>?_) (λ_=>Wk ⟨G,.un,rfl,v,k⟩)
  have D:dF Uh (O (L Yk (U 5) (dC (.int 1))) Zb) [.fz (Tf ns),.fz (.int (first:Int)),.fz (.int (j:Int)),.fz (.int (f:Int)),.fz (.int (c:Int)),.fz G.d,.fz (.int (a:Int)),.un,.un,.un,.un,.un]=some (.int ((G.steps.length:Nat):Int)):=Yn (Z4 (Z5 rfl rfl rfl) rfl) (U7 St3.d G.steps);refine Z6 (Ze (Z5 (Z5 rfl rfl (Vg a 4 (by lia) (by lia))) D (Ui _ G.steps.length (by lia))) ?_);have S:a / 4 % G.steps.length<G.steps.length:=EA _ (by lia);generalize a / 4 % G.steps.length=g at S;have h24:=v.gb.s2;refine Ze (d:=(Au G g).d) (Y3 (xs:=[.tup (G.wires.map Jw),.tup ((G.steps.take g++G.steps.drop (g+1)).map St3.d),.int (G.marks:Int),.int (G.code:Int)]) (Z4 (Z5 rfl rfl rfl) (Z4 (Z5 (Ee (Z5 rfl rfl rfl) rfl (T3 rfl) (Do _ _ _)) (Ee (Z5 rfl rfl rfl) (T3 (Z5 rfl rfl (Wz g 1))) rfl (Do _ _ _)) (by
   rw[Tk,Tk,Hc G.steps g (by lia),Gm G.steps (g+1) (by lia),Dp (by rw[AB,AB,BY,CS];lia),AU])) (Z4 (Z5 rfl rfl rfl) (Z4 (Z5 rfl rfl rfl) rfl)))) (by simp)) ⟨Au G g,_,rfl,?_,k⟩
  obtain⟨I,B⟩:=v.calm;have hl:(Au G g).steps.length=G.steps.length - 1:=by show(G.steps.take g++G.steps.drop (g+1)).length=_;rw[AH,BY,CS];lia
  exact⟨⟨I,cY B g⟩,⟨v.gb.w2,by lia,by lia,λs hs=>v.gb.st s (Ia hs),v.gb.mks⟩,v.w1,v.cd⟩
 clear l k v G;rintro e ⟨G,E,rfl,v,k⟩;have T:∀ (G:G3) (e:Ev),e[5]?=some (.fz G.d)->dF Uh (O (L Yk (U 5) (dC (.int 0))) Zb) e=some (.int ((G.wires.length:Nat):Int)):=λG e he=>Yn (Z4 (x:=.tup (G.wires.map Jw)) (Z5 (x:=G.d) (by unfold U;rw[he]) rfl rfl) rfl) (U7 Jw G.wires)
 obtain⟨m,em,hm⟩:=ek G.wires.length (a / 100 % 8) (EA _ (by lia)) k;refine Z6 (Ze (d:=.int (m:Int)) (Z5 (Yu (L5 (Z4 rfl (Z4 rfl (Z4 rfl (Z4 rfl (Z4 rfl (Z4 rfl (Z4 rfl (Z4 (Z5 rfl (T G _ rfl) (NJ 10 G.wires.length (by lia))) rfl)))))))) (by simp))) (Z5 (Z5 rfl rfl (Vg a 100 (by lia) (by lia))) rfl (Ui _ 8 (by lia))) em) ?_);obtain⟨n0,r⟩:∃ n0:Nat,G.wires.length=n0:=⟨_,rfl⟩;rw[r] at hm;have hg1:=v.w1;refine Z6 (W3 (ds:=rng 0 m) (λi e=>∃ (G:G3) (H A J:JB),e=[.fz (Tf ns),.fz (.int (first:Int)),.fz (.int (j:Int)),.fz (.int (f:Int)),.fz (.int (c:Int)),.fz G.d,.fz (.int (a:Int)),E,.fz (.int (m:Int)),H,A,J]/\GA G/\G.wires.length=n0+i) (W0 (Z4 rfl rfl) (by lia)) ⟨G,.un,.un,.un,rfl,v,r⟩ ?_ ?_)
 .rintro i d e hi ⟨G,H,A,J,rfl,v,q⟩
  obtain⟨Q,rfl⟩:=Ts hi;rw[CK];refine⟨_,rfl,?_⟩;refine Z6 (Ze (Z5 (Z5 (Z5 rfl rfl (Vg a 800 (by lia) (by lia))) (Z5 rfl rfl (Bq 7 i (by lia))) (Wz _ _)) (Z5 (T G _ rfl) rfl (Wz _ 1)) (Ui _ (G.wires.length+1) (by lia))) ?_);have aa:(a / 800+7*i) % (G.wires.length+1)<G.wires.length+1:=EA _ (by lia);generalize (a / 800+7*i) % (G.wires.length+1)=o at aa;obtain⟨b,hb⟩:=gq ((a / 10000+i) % 2) (EA _ (by lia));refine Z6 (Ze (Z5 (x:=.lst [.str "given",.str "made"]) rfl (Z5 (Z5 (Z5 rfl rfl (Vg a 10000 (by lia) (by lia))) rfl (Wz _ i)) rfl (Ui _ 2 (by lia))) hb) ?_);obtain⟨z,hz⟩:=bS i (by lia);refine Ze (Zo (xs:=[G.d,.int (o:Int),.str (if b then "made" else "given"),.bl ((a / 20000+i / 2) % 2==1),.str z]) (Z4 rfl (Z4 rfl (Z4 rfl (Z4 (Z5 (Z5 (Z5 (Z5 rfl rfl (Vg a 20000 (by lia) (by lia))) (Z5 rfl rfl (Vg i 2 (by lia) (by lia))) (Wz _ _)) rfl (Ui _ 2 (by lia))) rfl (Xj _ 1)) (Z4 (Z5 rfl rfl hz) rfl))))) (iY G v o (by lia) (by lia) b _ z)) ⟨_,_,_,_,rfl,bd v o (z,b) _ (by lia) (by lia),?_⟩;show(G.wires.take o++(z,b)::G.wires.drop o).length=_;rw[Jt];lia
 .rintro e ⟨G,H,A,J,rfl,v,q⟩
  refine Z6 (Go.mono (N:=λe=>∃ G:G3,e[5]?=some (.fz G.d)/\GB G) ?_ ?_ (λ_ h=>h))
  .refine Ux (Wa (Z5 (Z5 (Z5 rfl rfl (Vg a 30 (by lia) (by lia))) rfl (Ui _ 3 (by lia))) rfl (Xj _ 0))) (λ_=>?_) (λ_=>Wk ⟨G,rfl,v.b⟩)
   obtain⟨W,z,e,h1,h2,h3⟩:=iQ G v.gb (c / 17);obtain⟨I,B⟩:=v.calm;exact Ze (Zo (xs:=[G.d,.int ((c / 17:Nat):Int)]) (Z4 rfl (Z4 (Z5 rfl rfl (Vg c 17 (by lia) (by lia))) rfl)) e) ⟨W,rfl,⟨_,gH h1 B⟩,h2,by rw[h3];exact v.w1⟩
  .rintro e ⟨G,he,v⟩
   exact Yg (by unfold U;rw[he]) ⟨G,rfl,v⟩
theorem b9(l:Z Nat)(p:Nat->Bool):((l.filter p).length==l.length)=l.all p:=by
 rw[BR,CP,List.length_filter_eq_length_iff,CD]
theorem eC(s:St3)(m:Nat):(s.takes.all λp=>m.testBit p)=H9 s m:=by rw[BR,Qt,CD]
theorem Ri(h:G.steps[k]?=some s):Yk (.tup (G.steps.map St3.d)) (.int (k:Int))=some s.d:=Xd (by rw[AQ,h];rfl)
theorem Ek(G:G3)(p:Nat×Nat)(k:Nat)(s:St3)(h:G.steps[k]?=some s):Jk [G.d,Zg p,.int (k:Int)]=.ok (.bl (H9 s p.1)):=by
 refine V3 (Yb rfl ?_);unfold G5;refine Z6 (Ze (d:=.tup (Zk s.takes)) (Z5 (Z5 (Z5 rfl rfl rfl) rfl (Ri h)) rfl rfl) ?_);have hc:=V6 (g:=Zt 0) (t:=dB (L Mz (L Md (L Ir (L Yk (U 1) (dC (.int 0))) (U 0)) (dC (.int 1))) (dC (.int 1)))) (f:=U 0) (env:=[.un,.fz (Zg p)]) (λk:Nat=>Dat.int (k:Int)) (λk:Nat=>Dat.int (k:Int)) (λq=>p.1.testBit q) s.takes λq _=>⟨[.fz (.int (q:Int)),.fz (Zg p)],rfl,Wa (Z5 (Z5 (Z5 (Z5 rfl rfl rfl) rfl (MA p.1 q)) rfl (Pq p.1 q)) rfl (Xh _)),rfl⟩
 rw[<- Us] at hc;refine Yg (Z5 (Yn (Z4 (Yu (Y9 (xs:=Zk s.takes) (W9 rfl) rfl hc)) rfl) (Lb _ _)) (Yn (Z4 rfl rfl) (by rw[Us];exact U7 _ _)) (Xj _ _)) ?_;rw[b9,eC]
theorem Ou(G:G3)(v:Gb 64 G)(p:Nat×Nat)(k:Nat)(s:St3)(h:G.steps[k]?=some s)(hc:H9 s p.1=true):Mr [G.d,Zg p,.int (k:Int)]=.ok (Zg (Rk s p)):=by
 have hs:=v.st s (AI h);have r:=v.w2;have l:=hs.w;have ht:=Qt.mp hc;refine V3 (Yb rfl ?_);unfold Mn;refine Z6 (Ce (d:=s.d) (env':=[.fz G.d,.fz (Zg p),.fz (.int (k:Int)),.fz (.int (s.w:Int)),.fz (.bl s.up),.fz (.tup (Zk s.takes)),.fz (.tup (Zk s.fills)),.un,.un]) (Z5 (Z5 rfl rfl rfl) rfl (Ri h)) rfl ?_);refine Z6 (Ze (d:=.int (p.1:Int)) (Z5 rfl rfl rfl) ?_);refine Z6 (W3 (ds:=Zk s.takes) (λi e=>∃ (m:Nat) (o:JB),e=[.fz G.d,.fz (Zg p),.fz (.int (k:Int)),.fz (.int (s.w:Int)),.fz (.bl s.up),.fz (.tup (Zk s.takes)),.fz (.tup (Zk s.fills)),.fz (.int (m:Int)),o]/\∀ j,m.testBit j=(p.1.testBit j&&!decide (j∈s.takes.take i))) (W9 rfl) ⟨p.1,.un,rfl,λj=>by simp⟩ ?_ ?_)
 .rintro i d e hi ⟨m,o,rfl,hm⟩
  obtain⟨q,B,rfl⟩:=Dd hi;have a:=AI B;have:=hs.t q a;refine⟨_,rfl,?_⟩;refine Ze (Z5 rfl (Z5 rfl rfl (Ks q (by lia))) (NA _ _)) ⟨_,_,rfl,λj=>?_⟩;rw[GL,BX,hm,DE,B];have hn:q∉s.takes.take i:=λhx=>by
   obtain⟨x,hx⟩:=DW hx;rw[List.getElem?_take] at hx;split at hx
   .rename_i ai
    obtain⟨l1,W⟩:=AE.mp hx;obtain⟨l2,g2⟩:=AE.mp B;exact FL.mp hs.tn x i l1 l2 ai (W.trans g2.symm)
   .cases hx
  by_cases e:q=j
  .subst e
   rw[ht q a,AC hn,AM rfl];simp
  .rw[AC e]
   have:decide (j∈s.takes.take i++(some q).toList)=decide (j∈s.takes.take i):=by
    congr 1
    simp only[BH,Option.toList,AK,eq_iff_iff];exact⟨λh=>h.elim id λz=>absurd z.symm e,.inl⟩
   rw[this];simp
 rintro e ⟨m,o,rfl,hm⟩;rw[show(Zk s.takes).length=s.takes.length by unfold Zk;simp only[AB],BB (AT _)] at hm;refine Z6 (W3 (ds:=Zk s.fills) (λi e=>∃ (m:Nat) (o:JB),e=[.fz G.d,.fz (Zg p),.fz (.int (k:Int)),.fz (.int (s.w:Int)),.fz (.bl s.up),.fz (.tup (Zk s.takes)),.fz (.tup (Zk s.fills)),.fz (.int (m:Int)),o]/\∀ j,m.testBit j=((p.1.testBit j&&!decide (j∈s.takes))||decide (j∈s.fills.take i))) (W9 rfl) ⟨m,o,rfl,λj=>by rw[hm];simp⟩ ?_ ?_)
 .rintro i d e hi ⟨m,o,rfl,hm⟩
  obtain⟨q,B,rfl⟩:=Dd hi;have:=hs.f q (AI B);refine⟨_,rfl,?_⟩;refine Ze (Z5 rfl (Z5 rfl rfl (Ks q (by lia))) (LQ _ _)) ⟨_,_,rfl,λj=>?_⟩;rw[DV,BX,hm,DE,B,Bool.or_assoc];congr 1
  rw[BR];simp only[DY,BC,BH,Option.toList,AK];exact or_congr_right ⟨λh=>h.symm,λh=>h.symm⟩
 .rintro e ⟨m',v8',rfl,b⟩
  rw[show(Zk s.fills).length=s.fills.length by unfold Zk;simp only[AB],BB (AT _)] at b;have em:m'=(Rk s p).1:=CH λj=>by rw[b,Kc]
  exact Yg (Y3 (xs:=[.int ((Rk s p).1:Int),.int ((Rk s p).2:Int)]) (Z4 (by rw[em];rfl) (Z4 (Z5 (Z5 rfl rfl rfl) (Z5 rfl rfl (Ks s.w (by lia))) (NA p.2 _)) rfl)) (by simp)) rfl
theorem c5(e:env[i]?=some (.gx (.dict (Gx ps))))(e2:f env=some (Zg q)):NT true i f env=some (.bl (!decide (q∈ps))):=by
 unfold NT;rw[e,e2];dsimp only;rw[K3];show some (Dat.bl (!Kj (Gx ps) (O9 q)))=_;rw[O5]
theorem eh(G:G3)(S:GB G):∃ ps:Z (Nat×Nat),Mf [G.d]=.ok (.lst (ps.map Zg))/\ps.length<=400:=by
 have v:=S.gb;obtain⟨I,B⟩:=S.calm;have:=Yb (n:=6) (p:=1) (ds:=[G.d]) (g:=Qj) (R:=λd=>∃ ps:Z (Nat×Nat),d=.lst (ps.map Zg)/\ps.length<=400) rfl ?_
 .obtain⟨d,e,ps,rfl,h⟩:=this
  exact⟨ps,e,h⟩
 unfold Qj;refine Z6 (U2 (ds:=[(G.marks,G.code)].map Zg) (L5 (Z4 (Y3 (Z4 (Z5 rfl rfl rfl) (Z4 (Z5 rfl rfl rfl) rfl)) (by simp)) rfl) (by simp)) ?_);refine Z6 (ZO (q:=(G.marks,G.code)) (Z5 rfl rfl rfl) rfl ?_);refine Z6 (Ze (d:=.int ((0:Nat):Int)) rfl ?_);refine Z6 (bM (λm e=>∃ (ps:Z (Nat×Nat)) (o:Nat) (T y:JB),e=[.fz G.d,.ow (ps.map Zg),.gx (.dict (Gx ps)),.fz (.int (o:Int)),T,y]/\ps.Nodup/\(∀ p∈ps,I p)/\m+o=400/\o<=ps.length) (n:=400) ⟨[(G.marks,G.code)],0,.un,.un,rfl,CC.mpr ⟨by simp,CV⟩,λp F=>by rw[AK.mp F];exact B.ini,rfl,by simp⟩ ?_);rintro m e ⟨ps,o,T,y,rfl,aa,x,hm,w⟩;have aj:=B.few ps aa x;have D:dF Uh (O (dP 1) Zb) [.fz G.d,.ow (ps.map Zg),.gx (.dict (Gx ps)),.fz (.int (o:Int)),T,y]=some (.int (ps.length:Int)):=Yn (Z4 rfl rfl) (Lb Zg ps);rcases GP o ps.length with hl | hl
 .right
  obtain⟨r,hr⟩:∃ r,ps[o]?=some r:=⟨_,AL hl⟩;refine⟨Wa (Z5 rfl D (by show some (Dat.bl (decide ((o:Int)<(ps.length:Int))))=_;rw[AM (by lia)])),?_⟩;refine Z6 (W3 (ds:=rng 0 G.steps.length) (λi e=>∃ (qs:Z (Nat×Nat)) (T y:JB),e=[.fz G.d,.ow (qs.map Zg),.gx (.dict (Gx qs)),.fz (.int (o:Int)),T,y]/\qs.Nodup/\(∀ p∈qs,I p)/\ps <+: qs) (W0 (Z4 (Yn (Z4 (Z5 rfl rfl rfl) rfl) (U7 St3.d G.steps)) rfl) (by have:=v.s2;lia)) ⟨ps,T,y,rfl,aa,x,List.prefix_rfl⟩ ?_ ?_)
  .rintro i d e hi ⟨qs,T,y,rfl,j,k,c⟩
   obtain⟨Q,rfl⟩:=Ts hi;rw[CK];obtain⟨s,hs⟩:∃ s,G.steps[i]?=some s:=⟨_,AL Q⟩;have A:=AI hs;have M:qs[o]?=some r:=by obtain⟨t,ht⟩:=c;rw[<- ht,CN hl];exact hr
   have hleq:=B.few qs j k;have C:=x r (AI hr);have l:Yk (.lst (qs.map Zg)) (.int (o:Int))=some (Zg r):=L1 (by rw[AQ,M];rfl);refine⟨_,rfl,?_⟩;refine Ux (M0 (Zo (xs:=[G.d,Zg r,.int (i:Int)]) (Z4 rfl (Z4 (Z5 rfl rfl l) rfl)) (Ek G r i s hs))) (λf=>?_) (λ_=>Wk ⟨qs,_,_,rfl,j,k,c⟩);refine Z6 (Ze (Zo (xs:=[G.d,Zg r,.int (i:Int)]) (Z4 rfl (Z4 (Z5 rfl rfl l) rfl)) (Ou G v r i s hs f)) ?_);refine Ux (Wa (c5 (ps:=qs) (q:=Rk s r) rfl rfl)) (λhb=>?_) (λ_=>Wk ⟨qs,_,_,rfl,j,k,c⟩);have u:Rk s r∉qs:=by simpa using hb
   refine Z6 (ev (ps:=qs) (q:=Rk s r) rfl rfl rfl u (by lia) ?_);refine Wv (ds:=qs.map Zg) (as:=[Zg (Rk s r)]) (ds':=(qs++[Rk s r]).map Zg) rfl rfl (by rw[Wi (by rw[AB];lia),AU];rfl) ⟨qs++[Rk s r],_,_,rfl,?_,λp F=>?_,c.trans (List.prefix_append _ _)⟩
   .refine FO.mpr ⟨j,CC.mpr ⟨by simp,CV⟩,λa Y b hb=>?_⟩
    rw[AK.mp hb];rintro rfl;exact u Y
   .rcases BH.mp F with z | z
    .exact k p z
    .rw[AK.mp z];exact B.nxt r s C A f
  .rintro e ⟨qs,T,y,rfl,j,k,c⟩
   have ae:=c.length_le;exact Ze (Z5 rfl rfl (Wz _ 1)) ⟨m - 1,by lia,qs,o+1,_,_,rfl,j,k,by lia,by lia⟩
 .left
  exact⟨Wa (Z5 rfl D (by show some (Dat.bl (decide ((o:Int)<(ps.length:Int))))=_;rw[AC (by lia)])),Du rfl ⟨ps,rfl,aj⟩⟩
theorem ZD(G:G3)(v:Gb 64 G)(p:Nat×Nat)(w:Nat):∃ z:Int,Dc [G.d,Zg p,.int (w:Int)]=.ok (.int z):=by
 have:=Yb (n:=4) (p:=3) (ds:=[G.d,Zg p,.int (w:Int)]) (g:=M7) (R:=λd=>∃ z:Int,d=.int z) rfl ?_
 .obtain⟨d,e,z,rfl⟩:=this
  exact⟨z,e⟩
 unfold M7;refine Z6 (W3 (ds:=rng 0 G.steps.length) (λi e=>∃ D:JB,e=[.fz G.d,.fz (Zg p),.fz (.int (w:Int)),D]) (W0 (Z4 (Yn (Z4 (Z5 rfl rfl rfl) rfl) (U7 St3.d G.steps)) rfl) (by have:=v.s2;lia)) ⟨_,rfl⟩ ?_ ?_)
 .rintro i d e hi ⟨D,rfl⟩
  obtain⟨Q,rfl⟩:=Ts hi;rw[CK];obtain⟨s,hs⟩:∃ s,G.steps[i]?=some s:=⟨_,AL Q⟩;refine⟨_,rfl,?_⟩;refine Ux (M1 (Wa (Z5 (Z5 (Z5 (Z5 rfl rfl rfl) rfl (Ri hs)) rfl rfl) rfl (Xj s.w w))) λ_=>M0 (Zo (xs:=[G.d,Zg p,.int (i:Int)]) rfl (Ek G p i s hs))) (λ_=>?_) (λ_=>Wk ⟨_,rfl⟩);have hx:dF B1 (O (L Yk (L Yk (L Yk (U 0) (dC (.int 1))) (U 3)) (dC (.int 1))) Zb) [.fz G.d,.fz (Zg p),.fz (.int (w:Int)),.fz (.int (i:Int))]=some (.int ((if s.up then 1 else 0:Nat):Int)):=Yn (Z4 (x:=.bl s.up) (Z5 (Z5 (Z5 rfl rfl rfl) rfl (Ri hs)) rfl rfl) rfl) (QU s.up);cases hu:s.up with
  | true=>rw[hu] at hx;exact Yg (d:=.int 1) (Z5 (x:=.lst [.int (-1),.int 1]) rfl hx rfl) ⟨_,rfl⟩
  | false=>rw[hu] at hx;exact Yg (d:=.int (-1)) (Z5 (x:=.lst [.int (-1),.int 1]) rfl hx rfl) ⟨_,rfl⟩
 .rintro e ⟨D,rfl⟩
  exact Yg rfl ⟨0,rfl⟩
def Yo(g:Z (Nat×Nat)):Dat:=.tup (g.map Zg)
def Y7(gs:Z (Z (Nat×Nat))):Dat:=.tup (gs.map Yo)
structure Pt where
 w:Nat
 r:List (List (Nat×Nat))
 f:List (List (Nat×Nat))
def Pt.d(p:Pt):Dat:=.tup [.int (p.w:Int),Y7 p.r,Y7 p.f]
def V4(ac:Z Pt):Dat:=.tup (ac.map Pt.d)
theorem Am(ns:Z Int)(first:Nat)(hf:first<=900)(G:G3)(S:GB G)(ps:Z (Nat×Nat))(F:ps.length<=400)(z:Int)(w:Nat):∃ rs:Z (Nat×Nat),Qx [Tf ns,.int (first:Int),G.d,.lst (ps.map Zg),.int z,.int (w:Int)]=.ok (Yo rs)/\rs.length<=400:=by
 have:=Yb (n:=13) (p:=6) (ds:=[Tf ns,.int (first:Int),G.d,.lst (ps.map Zg),.int z,.int (w:Int)]) (g:=T8) (R:=λd=>∃ rs:Z (Nat×Nat),d=Yo rs/\rs.length<=400) rfl ?_
 .obtain⟨d,e,rs,rfl,h⟩:=this
  exact⟨rs,e,h⟩
 have v:=S.gb;have r:=v.w2;have l:=S.w1;unfold T8;have T:∀ e:Ev,e[2]?=some (.fz G.d)->dF Uh (O (L Yk (U 2) (dC (.int 0))) Zb) e=some (.int ((G.wires.length:Nat):Int)):=λe he=>Yn (Z4 (x:=.tup (G.wires.map Jw)) (Z5 (x:=G.d) (by unfold U;rw[he]) rfl rfl) rfl) (U7 Jw G.wires)
 refine Z6 (U2 (ds:=([]:Z (Nat×Nat)).map Zg) rfl ?_);refine Z6 (Ze (Z5 (Z5 rfl (T _ rfl) (Ks _ (by lia))) rfl (NJ (2^G.wires.length) 1 (ET _))) ?_);generalize 2^G.wires.length - 1=f;obtain⟨c,ec,_⟩:=Ml ns first (by lia);refine Z6 (Ze (Zo (xs:=[Tf ns,.int (first:Int)]) rfl ec) ?_);refine Z6 (W3 (ds:=E2 0 (ps.map Zg)) (λi e=>∃ (rs:Z (Nat×Nat)) (H A J D:JB),e=[.fz (Tf ns),.fz (.int (first:Int)),.fz G.d,.fz (.lst (ps.map Zg)),.fz (.int z),.fz (.int (w:Int)),.ow (rs.map Zg),.fz (.int (f:Int)),.fz (.int (c:Int)),H,A,J,D]/\rs.length<=i) (Na rfl) ⟨[],.un,.un,.un,.un,rfl,by simp⟩ ?_ ?_)
 .rintro i d e hi ⟨rs,H,A,J,D,rfl,aw⟩
  obtain⟨x,hx,rfl⟩:=Dt hi;rw[AQ] at hx;obtain⟨p,aF,rfl⟩:=map_some hx;have ah:=(AE.mp aF).1;refine⟨[.fz (Tf ns),.fz (.int (first:Int)),.fz G.d,.fz (.lst (ps.map Zg)),.fz (.int z),.fz (.int (w:Int)),.ow (rs.map Zg),.fz (.int (f:Int)),.fz (.int (c:Int)),.fz (.int (i:Int)),.fz (Zg p),J,D],rfl,?_⟩;obtain⟨m,em,_⟩:=Ml ns (first+i % 12) (by lia);refine Z6 (Ze (Z5 (Z5 (Zo (xs:=[Tf ns,.int ((first+i % 12:Nat):Int)]) (Z4 rfl (Z4 (Z5 rfl (Z5 rfl rfl (Ui i 12 (by lia))) (Wz _ _)) rfl)) em) (Z5 rfl rfl (Wz 7 i)) (Vg m (7+i) (by lia) (by lia))) rfl (Ui _ 24 (by lia))) ?_);generalize m / (7+i) % 24=k;obtain⟨y,C⟩:=ZD G v p w;refine Ux (cU (M1 (Wa (Z5 (Zo (xs:=[G.d,Zg p,.int (w:Int)]) rfl C) rfl (g8 y z))) λ_=>Wa (Z5 rfl rfl rfl)) λ_=>Wa (Z5 rfl rfl (Xj k 5))) (λ_=>?_) (λ_=>Wk ⟨rs,_,_,_,_,rfl,by lia⟩);refine Z6 (Ze rfl ?_);refine Z6 (Go.mono (N:=λe=>∃ a:Nat,e=[.fz (Tf ns),.fz (.int (first:Int)),.fz G.d,.fz (.lst (ps.map Zg)),.fz (.int z),.fz (.int (w:Int)),.ow (rs.map Zg),.fz (.int (f:Int)),.fz (.int (c:Int)),.fz (.int (i:Int)),.fz (Zg p),.fz (.int (k:Int)),.fz (.int (a:Int))]) ?_ ?_ (λ_ h=>h))
  .refine Ux (Wa (Z5 (Z5 rfl rfl (Ui c 3 (by lia))) rfl (Xj _ 1))) (λ_=>?_) (λ_=>Wk ⟨f,rfl⟩)
   have ao:(c / 3+i) % G.wires.length<G.wires.length:=EA _ (by lia);exact Ze (Z5 rfl (Z5 rfl (Z5 (Z5 (Z5 rfl rfl (Vg c 3 (by lia) (by lia))) rfl (Wz _ _)) (T _ rfl) (Ui _ _ (by lia))) (Ks _ (by lia))) (NA f _)) ⟨_,rfl⟩
  .rintro e ⟨a,rfl⟩
   have B:Yq (O (U 12) (O (L Md (L Yk (U 10) (dC (.int 1))) (U 12)) Zb)) [.fz (Tf ns),.fz (.int (first:Int)),.fz G.d,.fz (.lst (ps.map Zg)),.fz (.int z),.fz (.int (w:Int)),.ow (rs.map Zg),.fz (.int (f:Int)),.fz (.int (c:Int)),.fz (.int (i:Int)),.fz (Zg p),.fz (.int (k:Int)),.fz (.int (a:Int))]=some (Zg (a,p.2 &&& a)):=Y3 (Z4 rfl (Z4 (Z5 (Z5 rfl rfl rfl) rfl (A5 p.2 a)) rfl)) (by simp);obtain⟨b,hb⟩:=Ig (a,p.2 &&& a) rs;refine Ux (Wa (Z5 B rfl hb)) (λ_=>?_) (λ_=>Wk ⟨rs,_,_,_,_,rfl,by lia⟩);exact Wv (ds:=rs.map Zg) (as:=[Zg (a,p.2 &&& a)]) (ds':=(rs++[(a,p.2 &&& a)]).map Zg) rfl (Z4 B rfl) (by rw[Wi (by rw[AB];lia),AU];rfl) ⟨_,_,_,_,_,rfl,by rw[AH,CA];lia⟩
 .rintro e ⟨rs,H,A,J,D,rfl,aw⟩
  rw[T6,AB] at aw;exact Yg (Yn (Z4 rfl rfl) rfl) ⟨rs,rfl,by lia⟩
structure Sz (p:Pt):Prop where
 r:p.r.length<=2
 f:p.f.length<=2
 gr:∀ g∈p.r,g.length<=400
 gf:∀ g∈p.f,g.length<=400
variable{ac:Z Pt}{p:Pt}{d:Dat}
theorem X5(u:Str×Bool):Mz (.str (if u.2 then "made" else "given")) (.str "made")=some (.bl u.2):=by cases u.2<;>rfl
theorem ZJ(u:Str×Bool):Mz (.str (if u.2 then "made" else "given")) (.str "given")=some (.bl (!u.2)):=by cases u.2<;>rfl
theorem Xi{u:Str×Bool}(h:G.wires[k]?=some u):Yk (.tup (G.wires.map Jw)) (.int (k:Int))=some (Jw u):=Xd (by rw[AQ,h];rfl)
theorem cI(ns:Z Int)(first:Nat)(hf:first<=800)(G:G3)(S:GB G)(ps:Z (Nat×Nat))(F:ps.length<=400):∃ ac:Z Pt,Js [Tf ns,.int (first:Int),G.d,.lst (ps.map Zg)]=.ok (V4 ac)/\(ac.map Pt.w).Nodup/\ac.length<=10/\(∀ p∈ac,p.w<10)/\∀ p∈ac,Sz p:=by
 have v:=S.gb;have r:=v.w2;have:=Yb (n:=11) (p:=4) (ds:=[Tf ns,.int (first:Int),G.d,.lst (ps.map Zg)]) (g:=Tq) (R:=λd=>∃ ac:Z Pt,d=V4 ac/\(ac.map Pt.w).Nodup/\ac.length<=10/\(∀ p∈ac,p.w<10)/\∀ p∈ac,Sz p) rfl ?_
 .obtain⟨d,e,ac,rfl,h⟩:=this
  exact⟨ac,e,h⟩
 unfold Tq;refine Z6 (U2 (ds:=([]:Z Pt).map Pt.d) rfl ?_);refine Z6 (W3 (ds:=rng 0 G.wires.length) (λi e=>∃ (ac:Z Pt) (y m E o H A:JB),e=[.fz (Tf ns),.fz (.int (first:Int)),.fz G.d,.fz (.lst (ps.map Zg)),.ow (ac.map Pt.d),y,m,E,o,H,A]/\(ac.map Pt.w).Nodup/\ac.length<=i/\(∀ p∈ac,p.w<i)/\∀ p∈ac,Sz p) (W0 (Z4 (Yn (Z4 (Z5 rfl rfl rfl) rfl) (U7 Jw G.wires)) rfl) (by lia)) ⟨[],.un,.un,.un,.un,.un,.un,rfl,CV,by simp,λp h=>(by cases h),λp h=>(by cases h)⟩ ?_ ?_)
 .rintro i d e hi ⟨ac,y,m,E,o,H,A,rfl,aa,ae,X,hsz⟩
  obtain⟨Q,rfl⟩:=Ts hi;rw[CK];obtain⟨u,hu⟩:∃ u,G.wires[i]?=some u:=⟨_,AL Q⟩;refine⟨_,rfl,?_⟩;refine Ux (Wa (Z5 (Z5 (Z5 (Z5 rfl rfl rfl) rfl (Xi hu)) rfl rfl) rfl (X5 u))) (λ_=>?_) (λ_=>Wk ⟨ac,_,_,_,_,_,_,rfl,aa,by lia,λp h=>by have:=X p h;lia,hsz⟩);refine Z6 (U2 (ds:=([]:Z (Z (Z (Nat×Nat)))).map Y7) rfl ?_);refine Z6 (W3 (ds:=[.int 1,.int (-1)]) (λj e=>∃ (bs:Z (Z (Z (Nat×Nat)))) (E o H A:JB),e=[.fz (Tf ns),.fz (.int (first:Int)),.fz G.d,.fz (.lst (ps.map Zg)),.ow (ac.map Pt.d),.fz (.int (i:Int)),.ow (bs.map Y7),E,o,H,A]/\bs.length=j/\∀ b∈bs,b.length<=2/\∀ g∈b,g.length<=400) rfl ⟨[],_,_,_,_,rfl,rfl,λb h=>(by cases h)⟩ ?_ ?_)
  .rintro j d e C ⟨bs,E,o,H,A,rfl,ak,f⟩
   obtain⟨z,t,rfl,ht,et⟩:∃ (z:Int) (t:Nat),d=.int z/\t<=1/\(Oi (.int 1) (.int z)).bind (λx=>Wc x (.int 2))=some (.int (t:Int)):=by
    match j,C with
    | 0,h=>cases h;exact⟨1,0,rfl,by lia,rfl⟩
    | 1,h=>cases h;exact⟨-1,1,rfl,by lia,rfl⟩
   have hj2:j<2:=(AE.mp C).1;refine⟨_,rfl,?_⟩;obtain⟨c,ec,_⟩:=Ml ns (first+i) (by lia);refine Z6 (Ze (Zo (xs:=[Tf ns,.int ((first+i:Nat):Int)]) (Z4 rfl (Z4 (Z5 rfl rfl (Wz _ _)) rfl)) ec) ?_);obtain⟨rs,er,l⟩:=Am ns (first+2*i+t) (by lia) G S ps F z i;refine Z6 (Ze (Zo (xs:=[Tf ns,.int ((first+2*i+t:Nat):Int),G.d,.lst (ps.map Zg),.int z,.int (i:Int)]) (Z4 rfl (Z4 (Z5 (Z5 rfl (Z5 rfl rfl (Bq 2 i (by lia))) (Wz _ _)) (Z5 (Z5 rfl rfl rfl) rfl et) (Wz _ _)) rfl)) er) ?_);refine Z6 (Ze (d:=Y7 [rs]) rfl ?_);refine Z6 (Go.mono (N:=λe=>∃ b:Z (Z (Nat×Nat)),e=[.fz (Tf ns),.fz (.int (first:Int)),.fz G.d,.fz (.lst (ps.map Zg)),.ow (ac.map Pt.d),.fz (.int (i:Int)),.ow (bs.map Y7),.fz (.int z),.fz (.int (c:Int)),.fz (Yo rs),.fz (Y7 b)]/\b.length<=2/\∀ g∈b,g.length<=400) ?_ ?_ (λ_ h=>h))
   .refine Ux (Wa (Z5 (Z5 rfl rfl (Ui c 5 (by lia))) rfl (Xj _ 3))) (λ_=>?_) (λ_=>Wk ⟨[rs],rfl,by simp,λg h=>by rw[AK.mp h];exact l⟩)
    refine Ze (d:=Y7 [Q7 rs none (some 1),Q7 rs (some 1) none]) (Y3 (xs:=[Yo (Q7 rs none (some 1)),Yo (Q7 rs (some 1) none)]) (Z4 (Ee rfl rfl (T3 rfl) (by unfold Yo;rw[Do,Tk])) (Z4 (Ee rfl (T3 rfl) rfl (by unfold Yo;rw[Do,Tk])) rfl)) (by simp)) ⟨_,rfl,by simp,λg h=>?_⟩;rcases BN.mp h with rfl | h
    .exact Hg l
    .rw[AK.mp h];exact Hg l
   rintro e ⟨b,rfl,q,k⟩;refine Z6 (Go.mono (N:=λe=>∃ b:Z (Z (Nat×Nat)),e=[.fz (Tf ns),.fz (.int (first:Int)),.fz G.d,.fz (.lst (ps.map Zg)),.ow (ac.map Pt.d),.fz (.int (i:Int)),.ow (bs.map Y7),.fz (.int z),.fz (.int (c:Int)),.fz (Yo rs),.fz (Y7 b)]/\b.length<=2/\∀ g∈b,g.length<=400) ?_ ?_ (λ_ h=>h))
   .refine Ux (Wa (Z5 (Z5 rfl rfl (Ui c 17 (by lia))) rfl (Xj _ 4))) (λ_=>Ze (d:=Y7 []) rfl ⟨[],rfl,by simp,λg h=>(by cases h)⟩) (λ_=>Wk ⟨b,rfl,q,k⟩)
   rintro e ⟨b,rfl,q,k⟩;refine Wv (ds:=bs.map Y7) (as:=[Y7 b]) (ds':=(bs++[b]).map Y7) rfl rfl (by rw[Wi (by rw[AB];lia),AU];rfl) ⟨bs++[b],_,_,_,_,rfl,by rw[AH,CA,ak],λx hx=>?_⟩;rcases BH.mp hx with h | h
   .exact f x h
   .rw[AK.mp h];exact⟨q,k⟩
  .rintro e ⟨bs,E,o,H,A,rfl,ak,f⟩
   match bs,ak with
   | [s,b1],_ =>
   obtain⟨s0,g0⟩:=f s (by simp);obtain⟨s1,W⟩:=f b1 (by simp);refine Wv (ds:=ac.map Pt.d) (as:=[(⟨i,s,b1⟩:Pt).d]) (ds':=(ac++[(⟨i,s,b1⟩:Pt)]).map Pt.d) rfl (Z4 (Y3 rfl (by simp)) rfl) (by rw[Wi (by rw[AB];lia),AU];rfl) ⟨ac++[⟨i,s,b1⟩],_,_,_,_,_,_,rfl,?_,by rw[AH,CA];lia,λp h=>?_,λp h=>?_⟩
   .rw[AU]
    refine FO.mpr ⟨aa,CC.mpr ⟨by simp,CV⟩,λa Y b hb=>?_⟩;obtain⟨p,F,rfl⟩:=CL.mp Y;have:=X p F;have:b=i:=AK.mp hb;lia
   .rcases BH.mp h with h | h
    .have:=X p h;lia
    .rw[AK.mp h];exact FP i
   .rcases BH.mp h with h | h
    .exact hsz p h
    .rw[AK.mp h];exact⟨s0,s1,g0,W⟩
 .rintro e ⟨ac,y,m,E,o,H,A,rfl,aa,ae,X,hsz⟩
  rw[Tp] at ae X;exact Yg (Yn (Z4 rfl rfl) rfl) ⟨ac,rfl,aa,by lia,λp h=>by have:=X p h;lia,hsz⟩
def V1(gs:Z (Z (Nat×Nat))):Z (Z (Nat×Nat)):=gs.flatMap λg=>g.map λr=>[r]
def Tj(p:Pt):Pt:=⟨p.w,V1 p.r,V1 p.f⟩
theorem Kk(g:Z (Nat×Nat)):Wr (Zt 0) Wh (Yq (O (U 0) Zb)) [.un] (g.map Zg)=some ((g.map λr=>[r]).map Yo):=by
 rw[Ww Zg (λr=>Yo [r]) g λr _=>⟨[.fz (Zg r)],rfl,rfl,Y3 rfl (by simp)⟩,BV];rfl
theorem gG(h:ds.length+es.length<=100000):Kz ds [.lst es]=some (ds++es):=AF (BI h (by decide))
theorem Nz(h:ds.length+es.length<=100000):Sv ds [.tup es]=some (ds++es):=AF (BI h (by decide))
theorem Dk(f:α->Z β)(l:Z α){a:α}(h:l[i]?=some a):(l.take (i+1)).flatMap f=(l.take i).flatMap f++f a:=by
 rw[DE,h,GD];simp
theorem N0(f:α->Z β)(B:Nat):∀ l:Z α,(∀ a∈l,(f a).length<=B)->(l.flatMap f).length<=l.length*B
 | [],_=>by simp
 | a::l,h=>by
  rw[GV,AH,BJ,Nat.succ_mul];have:=N0 f B l λx hx=>h x (AX _ hx)
  have:=h a BD;lia
theorem Hz(l:Z α)(i n:Nat)(h:l.length<=n):(l.take i).length<=n:=by rw[BY];lia
theorem Aq(h2:gs.length<=2)(h4:∀ g∈gs,g.length<=400)(i:Nat):(V1 (gs.take i)).length<=800:=by
 have:=N0 (λg:Z (Nat×Nat)=>g.map λr=>[r]) 400 (gs.take i) λg S=>by rw[AB];exact h4 g (GZ S)
 have:=Nat.mul_le_mul_right 400 (Hz gs i 2 h2);unfold V1;lia
theorem D3(h2:gs.length<=2)(h4:∀ g∈gs,g.length<=400):Ua [Y7 gs]=.ok (Y7 (V1 gs)):=by
 refine V3 (Yb rfl ?_);unfold Mu;refine Z6 (U2 (ds:=([]:Z (Z (Nat×Nat))).map Yo) rfl ?_);refine Z6 (W3 (ds:=gs.map Yo) (λi e=>∃ l:JB,e=[.fz (Y7 gs),.ow ((V1 (gs.take i)).map Yo),l]) (W9 rfl) ⟨.un,rfl⟩ ?_ ?_)
 .rintro i d e hi ⟨l,rfl⟩
  rw[AQ] at hi;obtain⟨g,S,rfl⟩:=map_some hi;have q:=h4 g (AI S);have:=Aq h2 h4 i;refine⟨_,rfl,?_⟩;refine Wv (as:=[.lst ((g.map λr=>[r]).map Yo)]) (ds':=(V1 (gs.take (i+1))).map Yo) rfl (Z4 (Yu (Y9 (xs:=g.map Zg) (W9 rfl) rfl (Kk g))) rfl) (by rw[gG (by simp only[AB];lia),<- AU];unfold V1;rw[Dk _ gs S]) ⟨_,rfl⟩
 .rintro e ⟨l,rfl⟩
  rw[AB,BB (AT _)];exact Yg (Yn (Z4 rfl rfl) rfl) rfl
theorem b5(h:∀ p∈ac,Sz p):Ac [V4 ac]=.ok (V4 (ac.map Tj)):=by
 refine V3 (Yb rfl ?_);unfold Xn;have hc:Wr (Zt 0) Wh (Yq (O (L Yk (U 0) (dC (.int 0))) (O (Yj Ua (O (L Yk (U 0) (dC (.int 1))) Zb)) (O (Yj Ua (O (L Yk (U 0) (dC (.int 2))) Zb)) Zb)))) [.un] (ac.map Pt.d)=some ((ac.map Tj).map Pt.d):=by
  rw[Ww Pt.d (λp=>(Tj p).d) ac λp F=>⟨[.fz p.d],rfl,rfl,Y3 (Z4 (Z5 rfl rfl rfl) (Z4 (Zo (xs:=[Y7 p.r]) (Z4 (Z5 rfl rfl rfl) rfl) (D3 (h p F).r (h p F).gr)) (Z4 (Zo (xs:=[Y7 p.f]) (Z4 (Z5 rfl rfl rfl) rfl) (D3 (h p F).f (h p F).gf)) rfl))) (by simp)⟩,BV];rfl
 exact Yg (Yn (Z4 (Yu (Y9 (xs:=ac.map Pt.d) (W9 rfl) rfl hc)) rfl) rfl) rfl
theorem Fe(hn:ac.length<=10)(h:∀ p∈ac,Sz p):S3 [V4 ac]=.ok (V4 (ac.map Tj)):=by
 refine V3 (Yb rfl ?_);unfold Rx;refine Z6 (U2 (ds:=([]:Z Pt).map Pt.d) rfl ?_);refine Z6 (W3 (ds:=ac.map Pt.d) (λi e=>∃ l D T y m E o:JB,e=[.fz (V4 ac),.ow (((ac.take i).map Tj).map Pt.d),l,D,T,y,m,E,o]) (W9 rfl) ⟨.un,.un,.un,.un,.un,.un,.un,rfl⟩ ?_ ?_)
 .rintro i d e hi ⟨l,D,T,y,m,E,o,rfl⟩
  rw[AQ] at hi;obtain⟨p,F,rfl⟩:=map_some hi;have hsz:=h p (AI F);have ah:=(AE.mp F).1;refine⟨[.fz (V4 ac),.ow (((ac.take i).map Tj).map Pt.d),.fz (.int (p.w:Int)),.fz (Y7 p.r),.fz (Y7 p.f),y,m,E,o],rfl,?_⟩;refine Z6 (U2 (ds:=([]:Z (Z (Z (Nat×Nat)))).map Y7) rfl ?_);refine Z6 (W3 (ds:=[p.r,p.f].map Y7) (λj e=>∃ m E o:JB,e=[.fz (V4 ac),.ow (((ac.take i).map Tj).map Pt.d),.fz (.int (p.w:Int)),.fz (Y7 p.r),.fz (Y7 p.f),.ow ((([p.r,p.f].take j).map V1).map Y7),m,E,o]) rfl ⟨m,E,o,rfl⟩ ?_ ?_)
  .rintro j d e C ⟨m,E,o,rfl⟩
   rw[AQ] at C;obtain⟨gs,S,rfl⟩:=map_some C;have a:gs.length<=2/\∀ g∈gs,g.length<=400:=by
    rcases BN.mp (AI S) with z | z
    .rw[z];exact⟨hsz.r,hsz.gr⟩
    .rw[AK.mp z];exact⟨hsz.f,hsz.gf⟩
   have Y:=(AE.mp S).1;refine⟨_,rfl,?_⟩;refine Z6 (Ze (d:=.lst (([]:Z (Z (Nat×Nat))).map Yo)) rfl ?_);refine Z6 (W3 (ds:=gs.map Yo) (λk e=>∃ o:JB,e=[.fz (V4 ac),.ow (((ac.take i).map Tj).map Pt.d),.fz (.int (p.w:Int)),.fz (Y7 p.r),.fz (Y7 p.f),.ow ((([p.r,p.f].take j).map V1).map Y7),.fz (Y7 gs),.fz (.lst ((V1 (gs.take k)).map Yo)),o]) (W9 rfl) ⟨o,rfl⟩ ?_ ?_)
   .rintro k d e hk ⟨o,rfl⟩
    rw[AQ] at hk;obtain⟨g,b,rfl⟩:=map_some hk;have q:=a.2 g (AI b);have:=Aq a.1 a.2 k;refine⟨_,rfl,?_⟩;exact Ze (d:=.lst ((V1 (gs.take (k+1))).map Yo)) (Z5 rfl (Yu (Y9 (xs:=g.map Zg) (W9 rfl) rfl (Kk g))) (by rw[dE (by simp only[AB];lia),<- AU];unfold V1;rw[Dk _ gs b])) ⟨_,rfl⟩
   .rintro e ⟨o,rfl⟩
    rw[AB,BB (AT _)];refine Wv (as:=[Y7 (V1 gs)]) (ds':=(([p.r,p.f].take (j+1)).map V1).map Y7) rfl (Z4 (Yn (Z4 rfl rfl) rfl) rfl) (by rw[Wi (by rw[AB,AB];have:=Hz [p.r,p.f] j 2 (by simp);lia),DE,S,AU,AU];rfl) ⟨_,_,_,rfl⟩
  .rintro e ⟨m,E,o,rfl⟩
   refine Wv (as:=[(Tj p).d]) (ds':=((ac.take (i+1)).map Tj).map Pt.d) rfl (Z4 (Y3 rfl (by simp)) rfl) (by rw[Wi (by simp only[AB,BY];lia),DE,F,AU,AU];rfl) ⟨_,_,_,_,_,_,_,rfl⟩
 .rintro e ⟨l,D,T,y,m,E,o,rfl⟩
  rw[AB,BB (AT _)];exact Yg (Yn (Z4 rfl rfl) rfl) rfl
theorem F5(h:∀ x∈xs,pd n x=true/\R8 x x=true):pd (n+1) (.tup xs)=true/\R8 (.tup xs) (.tup xs)=true:=⟨CD.mpr λx hx=>(h x hx).1,Ie xs λx hx=>(h x hx).2⟩
theorem Xw{D:α->Dat}{l:Z α}(h:∀ a∈l,pd n (D a)=true/\R8 (D a) (D a)=true):pd (n+1) (.tup (l.map D))=true/\R8 (.tup (l.map D)) (.tup (l.map D))=true:=F5 λx hx=>by
 obtain⟨a,Y,rfl⟩:=CL.mp hx;exact h a Y
theorem Xk(n:Nat)(i:Int):pd n (.int i)=true/\R8 (.int i) (.int i)=true:=⟨by cases n<;>rfl,Bt i⟩
theorem WC(n:Nat)(p:Nat×Nat):pd (n+1) (Zg p)=true/\R8 (Zg p) (Zg p)=true:=F5 λx hx=>by
 rcases BN.mp hx with rfl | hx
 .exact Xk n _
 .rw[AK.mp hx];exact Xk n _
theorem Ay(gs:Z (Z (Nat×Nat))):pd 18 (Y7 gs)=true/\R8 (Y7 gs) (Y7 gs)=true:=Xw λg _=>Xw λr _=>WC 15 r
theorem fR(ac:Z Pt):pd 20 (V4 ac)=true/\R8 (V4 ac) (V4 ac)=true:=Xw λp _=>F5 λx hx=>by
 rcases BN.mp hx with rfl | hx
 .exact Xk 18 _
 rcases BN.mp hx with rfl | hx
 .exact Ay p.r
 .rw[AK.mp hx];exact Ay p.f
def JE(p:Pt):Nat:=((p.r++p.f).map List.length).sum
theorem Ca(f:α->Nat):∀ l:Z α,(l.map λa=>((f a:Nat):Int)).sum=(((l.map f).sum:Nat):Int)
 | []=>rfl
 | a::l=>by simp only[BM,sum_cons];rw[Ca f l];lia
theorem ZH(hn:ac.length<=10)(h:∀ p∈ac,Sz p):∃ b,Qi [V4 ac]=.ok (.bl b)/\(b=true->(ac.map JE).sum<=40):=by
 have:=Yb (n:=6) (p:=1) (ds:=[V4 ac]) (g:=Ql) (R:=λd=>∃ b,d=.bl b/\(b=true->(ac.map JE).sum<=40)) rfl ?_
 .obtain⟨d,e,b,rfl,h⟩:=this
  exact⟨b,e,h⟩
 unfold Ql;refine Z6 (Ze (d:=.int ((0:Nat):Int)) rfl ?_);refine Z6 (W3 (ds:=ac.map Pt.d) (λi e=>∃ l D T y:JB,e=[.fz (V4 ac),.fz (.int ((((ac.take i).map JE).sum:Nat):Int)),l,D,T,y]) (W9 rfl) ⟨.un,.un,.un,.un,rfl⟩ ?_ ?_)
 .rintro i d e hi ⟨l,D,T,y,rfl⟩
  rw[AQ] at hi;obtain⟨p,F,rfl⟩:=map_some hi;have hsz:=h p (AI F);have:=hsz.r;have:=hsz.f;refine⟨[.fz (V4 ac),.fz (.int ((((ac.take i).map JE).sum:Nat):Int)),.fz (.int (p.w:Int)),.fz (Y7 p.r),.fz (Y7 p.f),y],rfl,?_⟩;have hc:Wr (Zt 0) Wh (dF Uh (O (U 0) Zb)) [.un] ((p.r++p.f).map Yo)=some (((p.r++p.f).map λg=>((g.length:Nat):Int)).map Dat.int):=by
   rw[Ww Yo (λg=>Dat.int ((g.length:Nat):Int)) (p.r++p.f) λg _=>⟨[.fz (Yo g)],rfl,rfl,Yn (Z4 rfl rfl) (U7 Zg g)⟩,BV];rfl
  refine Z6 (Ze (d:=.int ((JE p:Nat):Int)) (Yn (Z4 (Yu (Y9 (xs:=(p.r++p.f).map Yo) (W9 (Z5 rfl rfl (by unfold Y7;rw[Dp (by simp only[AB];lia),AU]))) rfl hc)) rfl) (by rw[da,Ca];rfl)) ?_);refine Z6 (Ze (d:=.int ((((ac.take (i+1)).map JE).sum:Nat):Int)) (Z5 rfl rfl ((Wz _ _).trans (by rw[DE,F,AU,List.sum_append];simp))) ?_);exact Ux (b:=decide ((8:Int)<((JE p:Nat):Int))) (Wa (Z5 rfl rfl rfl)) (λ_=>Yg rfl ⟨false,rfl,λh=>(by cases h)⟩) (λ_=>Wk ⟨_,_,_,_,rfl⟩)
 .rintro e ⟨l,D,T,y,rfl⟩
  rw[AB,BB (AT _)];exact Yg (d:=.bl (decide ((((ac.map JE).sum:Nat):Int)<=40))) (Z5 rfl rfl rfl) ⟨_,rfl,λh=>by have:=DC h;lia⟩
def Zs(ac:Z Pt):Z (Z (Nat×Nat)):=ac.flatMap λp=>p.r++p.f
def Si(c:Nat)(g:Z (Nat×Nat)):Bool:=g.any λr=>(c &&& r.1)==r.2
structure JC (ac:List Pt):Prop where
 nd:(ac.map Pt.w).Nodup
 n:ac.length<=10
 w:∀ p∈ac,p.w<10
 g:(Zs ac).length<=40
theorem f4(r:Nat×Nat)(c:Nat):Xt [Zg r,.int (c:Int)]=.ok (.bl ((c &&& r.1)==r.2)):=by
 refine V3 (Yb rfl ?_);exact Yg (Z5 (Z5 rfl (Z5 rfl rfl rfl) (A5 c r.1)) (Z5 rfl rfl rfl) (Xj _ _)) rfl
theorem YZ(g:Z (Nat×Nat))(c:Nat):Lf [Yo g,.int (c:Int)]=.ok (.bl (Si c g)):=by
 refine V3 (Yb rfl ?_);have hc:Wr (Zt 0) Wh (Yj Xt (O (U 0) (O (U 1) Zb))) [.un,.fz (.int (c:Int))] (g.map Zg)=some ((g.map λr=>(c &&& r.1)==r.2).map Dat.bl):=by
  rw[Ww Zg (λr=>.bl ((c &&& r.1)==r.2)) g λr _=>⟨[.fz (Zg r),.fz (.int (c:Int))],rfl,rfl,Zo (xs:=[Zg r,.int (c:Int)]) rfl (f4 r c)⟩,BV];rfl
 refine Yg (Yn (Z4 (Yu (Y9 (xs:=g.map Zg) (W9 rfl) rfl hc)) rfl) (hL _)) ?_;unfold Si;rw[any_map];rfl
theorem P6(g:Z (Nat×Nat))(c:Nat):Ji [Yo g,.int (c:Int)]=.ok (.bl (Si c g)):=by
 refine V3 (Yb rfl ?_);have hc:=V6 (g:=Zt 0) (t:=dB (L Mz (L Md (U 1) (L Yk (U 0) (dC (.int 0)))) (L Yk (U 0) (dC (.int 1))))) (f:=U 0) (env:=[.un,.fz (.int (c:Int))]) Zg Zg (λr=>(c &&& r.1)==r.2) g λr _=>⟨[.fz (Zg r),.fz (.int (c:Int))],rfl,Wa (Z5 (Z5 rfl (Z5 rfl rfl rfl) (A5 c r.1)) (Z5 rfl rfl rfl) (Xj _ _)),rfl⟩
 refine Yg (d:=.bl (decide ((0:Int)<(((g.filter λr=>(c &&& r.1)==r.2).length:Nat):Int)))) (Z5 (Yn (Z4 (Yu (Y9 (xs:=g.map Zg) (W9 rfl) rfl hc)) rfl) (Lb Zg _)) rfl rfl) ?_;congr 1
 unfold Si;rw[BR,BC,ES];constructor
 .intro h
  obtain⟨r,hr⟩:=List.exists_mem_of_length_pos (l:=g.filter λr=>(c &&& r.1)==r.2) (by lia);obtain⟨h1,h2⟩:=DA.mp hr;exact⟨r,h1,h2⟩
 .rintro⟨r,h1,h2⟩
  have:=List.length_pos_of_mem (l:=g.filter λr=>(c &&& r.1)==r.2) (DA.mpr ⟨h1,h2⟩);lia
theorem Xo(h:ac[i]?=some p):Zs (ac.take (i+1))=Zs (ac.take i)++(p.r++p.f):=Dk _ ac h
theorem ZA(ac:Z Pt)(i:Nat):(Zs (ac.take i)).length<=(Zs ac).length:=by
 have:Zs ac=Zs (ac.take i)++Zs (ac.drop i):=by unfold Zs;rw[<- GD,GT]
 rw[this,AH];lia
theorem F9(h:ac[i]?=some p):(Zs (ac.take i)).length+p.r.length+p.f.length<=(Zs ac).length:=by
 have:=ZA ac (i+1);rw[Xo h] at this;simp only[AH] at this;lia
theorem B7(h:JC ac):Qd [V4 ac]=.ok (.lst ((Zs ac).map Yo)):=by
 refine V3 (Yb rfl ?_);unfold Gc;refine Z6 (U2 (ds:=([]:Z (Z (Nat×Nat))).map Yo) rfl ?_);refine Z6 (W3 (ds:=ac.map Pt.d) (λi e=>∃ l:JB,e=[.fz (V4 ac),.ow ((Zs (ac.take i)).map Yo),l]) (W9 rfl) ⟨.un,rfl⟩ ?_ ?_)
 .rintro i d e hi ⟨l,rfl⟩
  rw[AQ] at hi;obtain⟨p,F,rfl⟩:=map_some hi;have aj:=F9 F;have:=h.g;refine⟨_,rfl,?_⟩;refine Z6 (Wv (as:=[Y7 p.r]) (ds':=(Zs (ac.take i)++p.r).map Yo) rfl (Z4 (Z5 rfl rfl rfl) rfl) (by unfold Y7;rw[Nz (by simp only[AB];lia),<- AU]) ?_);exact Wv (ds:=(Zs (ac.take i)++p.r).map Yo) (as:=[Y7 p.f]) (ds':=(Zs (ac.take (i+1))).map Yo) rfl (Z4 (Z5 rfl rfl rfl) rfl) (by unfold Y7;rw[Nz (by simp only[AB,AH];lia),<- AU,Xo F,DM]) ⟨_,rfl⟩
 .rintro e ⟨l,rfl⟩
  rw[AB,BB (AT _)];exact Du rfl rfl
def rg(a n:Nat):Z Nat:=(List.range n).map λj=>a+j
def Ki(a:Nat)(p:Pt):Dat:=.tup [.int (p.w:Int),.int (I1 (rg a p.r.length):Int),.int (I1 (rg (a+p.r.length) p.f.length):Int)]
def Vw:Nat->Z Pt->Z Dat
 | _,[]=>[]
 | a,p::l=>Ki a p::Vw (a+(p.r++p.f).length) l
theorem Nb(p:Pt):∀ (a:Nat) (l:Z Pt),Vw a (l++[p])=Vw a l++[Ki (a+(Zs l).length) p]
 | a,[]=>rfl
 | a,q::l=>by
  rw[List.cons_append,Vw,Vw,Nb p _ l,List.cons_append];congr 4
  show _=a+((q.r++q.f)++Zs l).length;rw[AH (as:=q.r++q.f)];lia
theorem Pp:∀ (a:Nat) (l:Z Pt),(Vw a l).length=l.length
 | a,[]=>rfl
 | a,q::l=>by rw[Vw,BJ,BJ,Pp _ l]
theorem La(ps:Z Nat)(F:∀ p∈ps,p<=1000)(d:Dat)(hd:d=.lst (Zk ps)\/d=.tup (Zk ps)):Iy [d]=.ok (.int (I1 ps:Int)):=by
 refine V3 (Yb rfl ?_);unfold QI;refine Z6 (Ze (d:=.int 0) rfl ?_);refine Z6 (W3 (ds:=Zk ps) (λi e=>∃ (z:Int) (v:JB),e=[.fz d,.fz (.int z),v]/\z=(((ps.take i).foldl (λa p=>a ||| 2^p) 0:Nat):Int)) (by rcases hd with rfl | rfl<;>rfl) ⟨0,.un,rfl,rfl⟩ ?_ ?_)
 .rintro i x e hi ⟨z,v,rfl,rfl⟩
  obtain⟨p,B,rfl⟩:=Dd hi;have ak:=F p (AI B);refine⟨_,rfl,?_⟩;refine Ze (d:=.int ((((ps.take (i+1)).foldl (λa p=>a ||| 2^p) 0:Nat)):Int)) (Z5 rfl (Z5 rfl rfl (Ks p ak)) ?_) ⟨_,_,rfl,rfl⟩;rw[LQ,DE,B,List.foldl_append];rfl
 .rintro e ⟨z,v,rfl,rfl⟩
  refine Yg rfl ?_;rw[AB,AB,BB (AT _)];rfl
theorem WD{b:Nat}(h:fs env=some [.int (a:Int),.int ((a+b:Nat):Int)])(hb:a+b<=1000):MV fs env=some (Zk (rg a b)):=by
 unfold MV;rw[h];dsimp only;rw[AF ⟨by lia,by lia,by lia,by lia⟩];unfold rg Zk;rw[show(((a+b:Nat):Int) - (a:Int)).toNat=b by lia,BV,BV,BV];congr 1
theorem Xv:k∈rg a n↔a<=k/\k<a+n:=by
 unfold rg;rw[CL];constructor
 .rintro⟨j,C,rfl⟩
  have:=CI.mp C;lia
 .rintro⟨h1,h2⟩
  exact⟨k - a,CI.mpr (by lia),by lia⟩
theorem Bl(h:JC ac):Tz [V4 ac]=.ok (.lst (Vw 0 ac)):=by
 refine V3 (Yb rfl ?_);unfold Eo;refine Z6 (U2 (ds:=[]) rfl ?_);refine Z6 (Ze (d:=.int ((0:Nat):Int)) rfl ?_);refine Z6 (W3 (ds:=ac.map Pt.d) (λi e=>∃ D T y:JB,e=[.fz (V4 ac),.ow (Vw 0 (ac.take i)),.fz (.int (((Zs (ac.take i)).length:Nat):Int)),D,T,y]) (W9 rfl) ⟨.un,.un,.un,rfl⟩ ?_ ?_)
 .rintro i d e hi ⟨D,T,y,rfl⟩
  rw[AQ] at hi;obtain⟨p,F,rfl⟩:=map_some hi;have aj:=F9 F;have ah:=(AE.mp F).1;have j:=h.g;have hn:=h.n;have aq:Vw 0 (ac.take (i+1))=Vw 0 (ac.take i)++[Ki (Zs (ac.take i)).length p]:=by rw[DE,F];show Vw 0 (ac.take i++[p])=_;rw[Nb,IM]
  have q:(Zs (ac.take (i+1))).length=(Zs (ac.take i)).length+p.r.length+p.f.length:=by rw[Xo F];simp only[AH];lia
  rw[aq,q];generalize (Zs (ac.take i)).length=a at aj;have c:∀ gs:Z (Z (Nat×Nat)),Uh [Y7 gs]=some (.int ((gs.length:Nat):Int)):=λgs=>U7 Yo gs
  refine⟨_,rfl,?_⟩;refine Z6 (Ze (d:=.int ((a+p.r.length:Nat):Int)) (Z5 rfl (Yn (Z4 (Z5 rfl rfl rfl) rfl) (c p.r)) (Wz _ _)) ?_);refine Z6 (Ze (d:=.int ((a+p.r.length+p.f.length:Nat):Int)) (Z5 rfl (Yn (Z4 (Z5 rfl rfl rfl) rfl) (c p.f)) (Wz _ _)) ?_);have S:(Vw 0 (ac.take i)).length<=10:=by rw[Pp];exact Hz ac i 10 hn
  refine Z6 (Wv (ds:=Vw 0 (ac.take i)) (as:=[Ki a p]) (ds':=Vw 0 (ac.take i)++[Ki a p]) rfl (Z4 (Y3 (Z4 (Z5 rfl rfl rfl) (Z4 (Zo (Z4 (Yu (WD (a:=a) (b:=p.r.length) rfl (by lia))) rfl) (La (rg a p.r.length) (λk hk=>by have:=Xv.mp hk;lia) _ (.inl rfl))) (Z4 (Zo (Z4 (Yu (WD (a:=a+p.r.length) (b:=p.f.length) rfl (by lia))) rfl) (La (rg (a+p.r.length) p.f.length) (λk hk=>by have:=Xv.mp hk;lia) _ (.inl rfl))) rfl))) (by simp)) rfl) (Wi (by lia)) ?_);exact Ze rfl ⟨_,_,_,rfl⟩
 .rintro e ⟨D,T,y,rfl⟩
  rw[AB,BB (AT _)];exact Du rfl rfl
theorem gW(gs:Z (Z (Nat×Nat))):E2 0 (gs.map Yo)=(List.range gs.length).map λi:Nat=>.tup [.int (i:Int),Yo (gs.getD i [])]:=List.ext_getElem? λi=>by
 rw[Gz,AQ,AQ];by_cases h:i<gs.length
 .rw[EX h,AL h,IM]
  simp[List.getD,h]
 .rw[DP (by lia),DP (by rw[CQ];lia)];rfl
def JA(gs:Z (Z (Nat×Nat)))(c:Nat):Nat:=I1 ((List.range gs.length).filter λi=>Si c (gs.getD i []))
theorem UZ(gs:Z (Z (Nat×Nat)))(c i:Nat):(JA gs c).testBit i=(decide (i<gs.length)&&Si c (gs.getD i [])):=by
 unfold JA;rw[Jv,BR];simp only[BC,DA,CI,BG]
theorem gQ(gs:Z (Z (Nat×Nat)))(hl:gs.length<=40)(c:Nat)(g ss:Dat)(ks:Z Int)(b:Z Dat):Pz [.fz (Q8 g (.lst (gs.map Yo)) ss ks b),.fz (.int (c:Int))]=some (.int (JA gs c:Int)):=by
 have hc:=V6 (g:=Mc 2 (Y2 (Zt 0) (Y2 (Zt 1) T4))) (t:=dT (Yj Lf (O (U 1) (O (U 2) Zb)))) (f:=U 0) (env:=[.un,.un,.fz (.int (c:Int))]) (λi:Nat=>.tup [.int (i:Int),Yo (gs.getD i [])]) (λi:Nat=>Dat.int (i:Int)) (λi=>Si c (gs.getD i [])) (List.range gs.length) λi _=>⟨[.fz (.int (i:Int)),.fz (Yo (gs.getD i [])),.fz (.int (c:Int))],rfl,M0 (Zo (xs:=[Yo (gs.getD i []),.int (c:Int)]) rfl (YZ _ c)),rfl⟩
 rw[<- gW,<- Us] at hc;exact Zo (Z4 (Yu (Y9 (Na rfl) rfl hc)) rfl) (La _ (λp F=>by have:=CI.mp (DA.mp F).1;lia) _ (.inl rfl))
def LU(G:G3)(ac:Z Pt):Dat:=Q8 G.d (.lst ((Zs ac).map Yo)) (.lst (Vw 0 ac)) [(G.code:Int)] [.int (JA (Zs ac) G.code:Int)]
def OE(G:G3)(ac:Z Pt):Dat:=.tup [Zg (G.marks,G.code),.int (JA (Zs ac) G.code:Int)]
def MN(G:G3)(ac:Z Pt):Dat:=OW G.d (V4 ac) (.lst ((Zs ac).map Yo)) (.lst (Vw 0 ac)) (OE G ac) [(G.code:Int)] [.int (JA (Zs ac) G.code:Int)]
theorem bA(G:G3)(h:JC ac):RA [G.d,V4 ac]=.ok (MN G ac):=by
 unfold RA;show MM Pz Qd Tz [.tup [.tup (G.wires.map Jw),.tup (G.steps.map St3.d),.int (G.marks:Int),.int (G.code:Int)],V4 ac]=_;unfold MM;dsimp only;rw[B7 h,Bl h];dsimp only;rw[gQ _ h.g];rfl
theorem L0{z:Dat}(h1:fo env=some d)(h2:fs env=some ds)(h3:F (d::ds)=.ok z)(J:MP c x d=true:=by rfl):C9 c x F fo fs env=some z:=by
 unfold C9;rw[h1];show(if _ then _ else _)=_;rw[AF J,h2];show ND _=_;rw[h3];rfl
theorem Hu{zs:Z Dat}(h1:fo env=some d)(h2:fs env=some ds)(h3:F (d::ds)=.ok (.lst zs))(J:MP c x d=true:=by rfl):Lv c x F fo fs env=some zs:=by
 unfold Lv;rw[h1];show(if _ then _ else _)=_;rw[AF J,h2];show O0 _=_;rw[h3];rfl
theorem UJ(n p:Nat):R1 [.int (n:Int),.int (p:Int)]=.ok (.bl (n.testBit p)):=by
 refine V3 (Yb rfl ?_);exact Yg (Z5 (Z5 (Z5 rfl rfl (MA n p)) rfl (Pq n p)) rfl (Xh _)) rfl
theorem gY(G:G3)(ac:Z Pt):To [LU G ac,.int (G.code:Int)]=.ok (.int (JA (Zs ac) G.code:Int)):=by
 refine V3 (Yb rfl ?_);unfold Th;refine Z6 (Ga (by show some (!([(G.code:Int)].contains (G.code:Int)))=_;simp) (Wk ?_));refine Yg (d:=.int (JA (Zs ac) G.code:Int)) ?_ rfl;show(([(G.code:Int)].zip [Dat.int (JA (Zs ac) G.code:Int)]).lookup (G.code:Int))=_;simp
theorem aZ(G:G3)(k:Nat)(s:St3)(h:G.steps[k]?=some s):Em [G.d,.int (k:Int)]=.ok (.tup (Zk s.takes)):=by
 refine V3 (Yb rfl ?_);exact Yg (Z5 (Z5 (Z5 rfl rfl rfl) rfl (Ri h)) rfl rfl) rfl
theorem hX(G:G3)(k:Nat)(s:St3)(h:G.steps[k]?=some s):De [G.d,.int (k:Int)]=.ok (.int (s.w:Int)):=by
 refine V3 (Yb rfl ?_);exact Yg (Z5 (Z5 (Z5 rfl rfl rfl) rfl (Ri h)) rfl rfl) rfl
theorem g5(G:G3)(w:Nat)(u:Str×Bool)(h:G.wires[w]?=some u):Ds [G.d,.int (w:Int)]=.ok (.bl u.2):=by
 refine V3 (Yb rfl ?_);exact Yg (Z5 (Z5 (Z5 (Z5 rfl rfl rfl) rfl (Xi h)) rfl rfl) rfl (X5 u)) rfl
theorem d0(G:G3)(v:Gb 64 G)(p:Nat×Nat)(k:Nat)(s:St3)(h:G.steps[k]?=some s):PF [G.d,Zg p,.int (k:Int)]=.ok (.bl (H9 s p.1)):=by
 refine V3 (Yb rfl ?_);unfold RZ;have hs:=v.st s (AI h);refine Z6 (Ze (Zo (Z4 (Zo (xs:=[G.d,.int (k:Int)]) rfl (aZ G k s h)) rfl) (La s.takes (λp F=>by have:=hs.t p F;lia) _ (.inr rfl))) ?_);exact Yg (Z5 (Z5 (Z5 rfl rfl rfl) rfl (A5 p.1 _)) rfl (Xj _ _)) rfl
theorem T'(h:G.steps[k]?=some s):Ik G m k=H9 s m:=by unfold Ik;rw[h]
theorem Av(G:G3)(v:Gb 64 G)(p:Nat×Nat):Ew [G.d,Zg p]=.ok (.lst (Zk (RN G p.1))):=by
 refine V3 (Yb rfl ?_);have l:=v.s2;have hc:=V6 (g:=Zt 0) (t:=dT (Yj PF (O (U 1) (O (U 2) (O (U 0) Zb))))) (f:=U 0) (env:=[.un,.fz G.d,.fz (Zg p)]) (λk:Nat=>Dat.int (k:Int)) (λk:Nat=>Dat.int (k:Int)) (Ik G p.1) (List.range G.steps.length) λk hk=>by
  obtain⟨s,e⟩:∃ s,G.steps[k]?=some s:=⟨_,AL (CI.mp hk)⟩;refine⟨[.fz (.int (k:Int)),.fz G.d,.fz (Zg p)],rfl,?_,rfl⟩;rw[T' e];exact M0 (Zo (xs:=[G.d,Zg p,.int (k:Int)]) rfl (d0 G v p k _ e))
 rw[<- Rq] at hc;refine Yg (Yu (Y9 (xs:=rng 0 G.steps.length) (W0 (Z4 (Yn (Z4 (Z5 rfl rfl rfl) rfl) (U7 St3.d G.steps)) rfl) (by lia)) rfl hc)) ?_;rw[Us];rfl
def No(z:Str)(k:Nat):Dat:=.tup [.str z,.int (k:Int)]
def Sd(G:G3)(k:Nat):Bool:=match G.steps[k]? with
 | some s=>SK G s
 | none=>false
theorem XA(v:Gb 64 G)(h:G.steps[k]?=some s):∃ u,G.wires[s.w]?=some u/\Sd G k=u.2:=by
 have hw:=(v.st s (AI h)).w;refine⟨_,AL hw,?_⟩;unfold Sd SK;rw[h];dsimp only;rw[AL hw]
def G1(G:G3)(m:Nat):Z Nat:=(List.range G.steps.length).filter λk=>!Sd G k&&Ik G m k
theorem bQ(G:G3)(v:Gb 64 G)(ac:Z Pt)(p:Nat×Nat):Vo [LU G ac,Zg p]=.ok (.lst ((G1 G p.1).map (No "step"))):=by
 refine V3 (Yb rfl ?_);unfold Uz;refine Z6 (Ze (Zo (xs:=[G.d,Zg p]) (Z4 rfl rfl) (Av G v p)) ?_);have hc:=V6 (g:=Zt 0) (t:=Sf (dT (Yj Ds (O (Sj "Bench" "graph" (U 1)) (O (Yj De (O (Sj "Bench" "graph" (U 1)) (O (U 0) Zb))) Zb))))) (f:=Yq (O (dC (.str "step")) (O (U 0) Zb))) (env:=[.un,.fz (LU G ac)]) (λk:Nat=>Dat.int (k:Int)) (No "step") (λk=>!Sd G k) (RN G p.1) λk hk=>by
  obtain⟨s,e⟩:∃ s,G.steps[k]?=some s:=⟨_,AL (CI.mp (DA.mp hk).1)⟩;obtain⟨u,hu,hm⟩:=XA v e;rw[hm];exact⟨[.fz (.int (k:Int)),.fz (LU G ac)],rfl,Gp (M0 (Zo (xs:=[G.d,.int (s.w:Int)]) (Z4 rfl (Z4 (Zo (xs:=[G.d,.int (k:Int)]) rfl (hX G k _ e)) rfl)) (g5 G _ u hu))),Y3 rfl (by simp)⟩
 rw[<- Us] at hc;refine Yg (Yu (Y9 (Dg rfl) rfl hc)) ?_;unfold G1 RN;rw[List.filter_filter]
def Vi(c:Nat)(p:Pt):Bool:=if c.testBit p.w then p.f.any (Si c)&&!p.r.any (Si c) else p.r.any (Si c)&&!p.f.any (Si c)
theorem WM(pre a post:Z (Z (Nat×Nat)))(c:Nat):((JA (pre++(a++post)) c &&& I1 (rg pre.length a.length))==0)=!a.any (Si c):=by
 have D:∀ j,j<a.length->∀ g,a[j]?=some g->(JA (pre++(a++post)) c).testBit (pre.length+j)=Si c g:=λj C g S=>by
  rw[UZ,AM (by simp only[AH];lia),FE];congr 1
  rw[List.getD,DJ (by lia),show pre.length+j - pre.length=j by lia,CN C,S];rfl
 cases hm:a.any (Si c) with
 | true =>
  obtain⟨g,S,hu⟩:=ES.mp hm;obtain⟨j,C⟩:=DW S;have Y:=(AE.mp C).1;refine BP.mpr λz=>?_
  have:=EH (λx=>x.testBit (pre.length+j)) z;simp only[FH,GR] at this;rw[D j Y g C,hu,Jv,AM (Xv.mpr ⟨by lia,by lia⟩)] at this;cases this
 | false =>
  refine CP.mpr (CH λk=>?_);rw[FH,GR,Jv];by_cases hk:k∈rg pre.length a.length
  .have d:=Xv.mp hk
   have C:k - pre.length<a.length:=by lia
   rw[show k=pre.length+(k - pre.length) by lia,D _ C _ (AL C),List.any_eq_false.mp hm _ (GK C) |> HN.mpr];rfl
  .rw[AC hk,IH]
theorem fS(pre post:Z (Z (Nat×Nat)))(p:Pt)(q:Nat×Nat):Ut [Ki pre.length p,.tup [Zg q,.int (JA (pre++((p.r++p.f)++post)) q.2:Int)]]=.ok (.bl (Vi q.2 p)):=by
 have hr:=WM pre p.r (p.f++post) q.2;have hf:=WM (pre++p.r) p.f post q.2;rw[DM,AH] at hf;rw[DM p.r];refine V3 (Yb rfl ?_);unfold Q3;refine Z6 (Ze (Zo (xs:=[.int (q.2:Int),.int (p.w:Int)]) rfl (UJ q.2 p.w)) ?_);have c:∀ (f g:Zzu) (env:Ev) (a b:Bool),f env=some (.bl a)->g env=some (.bl b)->MI f g env=some (.bl (a&&b)):=λf g env a b h1 h2=>by
  unfold MI dB;rw[h1];cases a
  .rfl
  .exact h2
 unfold Vi;cases ht:q.2.testBit p.w with
 | true =>
  refine Z6 (Ze (d:=.int (I1 (rg (pre.length+p.r.length) p.f.length):Int)) rfl ?_);refine Z6 (Ze (d:=.int (I1 (rg pre.length p.r.length):Int)) rfl ?_);refine Yg (c _ _ _ _ _ (Z5 (Z5 (Z5 rfl rfl rfl) rfl (A5 _ _)) rfl (RH _ 0)) (Z5 (Z5 (Z5 rfl rfl rfl) rfl (A5 _ _)) rfl (Xj _ 0))) ?_;rw[hf,hr,Bool.not_not];rfl
 | false =>
  refine Z6 (Ze (d:=.int (I1 (rg pre.length p.r.length):Int)) rfl ?_);refine Z6 (Ze (d:=.int (I1 (rg (pre.length+p.r.length) p.f.length):Int)) rfl ?_);refine Yg (c _ _ _ _ _ (Z5 (Z5 (Z5 rfl rfl rfl) rfl (A5 _ _)) rfl (RH _ 0)) (Z5 (Z5 (Z5 rfl rfl rfl) rfl (A5 _ _)) rfl (Xj _ 0))) ?_;rw[hf,hr,Bool.not_not];rfl
theorem fe{g:Dat->Ev->Cc Ev}{e1:Ev}{b:Bool}(h1:g d env=some e1)(h2:t e1=some b)(h3:f e1=some y):Wr g t f env (d::ds)=(Wr g t f env ds).map λr=>if b then y::r else r:=by
 rw[Wr,h1];show(t e1).bind _=_;rw[h2];cases b with
 | true=>show(f e1).bind _=_;rw[h3];rfl
 | false=>show Wr g t f env ds=_;cases Wr g t f env ds<;>rfl
theorem N3(ac:Z Pt)(q:Nat×Nat):∀ (pre l:Z Pt),ac=pre++l->Wr (Zt 0) (dT (Yj Ut (O (U 0) (O (U 1) Zb)))) (Yq (O (dC (.str "wire")) (O (L Yk (U 0) (dC (.int 0))) Zb))) [.un,.fz (.tup [Zg q,.int (JA (Zs ac) q.2:Int)])] (Vw (Zs pre).length l)=some ((l.filter (Vi q.2)).map λp=>No "wire" p.w)
 | pre,[],_=>rfl
 | pre,p::l,h=>by
  have ih:=N3 ac q (pre++[p]) l (by rw[h];simp);have S:Zs (pre++[p])=Zs pre++(p.r++p.f):=by unfold Zs;rw[GD];simp
  have hn:Zs ac=Zs pre++((p.r++p.f)++Zs l):=by rw[h];unfold Zs;rw[GD,GV]
  rw[S,AH] at ih;have a:=fS (Zs pre) (Zs l) p q;rw[<- hn] at a;rw[Vw,fe (e1:=[.fz (Ki (Zs pre).length p),.fz (.tup [Zg q,.int (JA (Zs ac) q.2:Int)])]) rfl (M0 (Zo (xs:=[Ki (Zs pre).length p,.tup [Zg q,.int (JA (Zs ac) q.2:Int)]]) rfl a)) (Y3 (xs:=[.str "wire",.int (p.w:Int)]) rfl (by simp)),ih];cases F:Vi q.2 p with
  | true=>rw[EL F];rfl
  | false=>rw[EM (by rw[F];decide)];rfl
theorem fi:RM [.int ((0:Nat):Int)]=.ok (.lst []):=by
 refine V3 (Yb rfl ?_);exact Yg (Yu (Y9 (xs:=[]) rfl rfl rfl)) rfl
def Mq(G:G3)(ac:Z Pt):Z Dat:=(G1 G G.marks).map (No "step")++((ac.filter (Vi G.code)).map λp=>No "wire" p.w)
theorem Lr(v:Gb 64 G)(m:Nat):(G1 G m).length<=24:=by
 unfold G1;have:=GU (λk=>!Sd G k&&Ik G m k) (List.range G.steps.length);rw[CQ] at this;have:=v.s2;lia
theorem L3(h:ac.length<=10)(f:Pt->Bool):(ac.filter f).length<=10:=by
 have:=GU f ac;lia
theorem B9(G:G3)(v:Gb 64 G)(h:JC ac):Q1 [LU G ac,OE G ac]=.ok (.lst (Mq G ac)):=by
 refine V3 (Yb rfl ?_);unfold Q6;refine Z6 (Ze (d:=.int ((0:Nat):Int)) (Z5 (Z5 rfl rfl rfl) (L0 (ds:=[.int (G.code:Int)]) rfl rfl (gY G ac)) ((NA _ _).trans (by rw[Nat.xor_self]))) ?_);refine Z6 (Ze (d:=.lst []) (Yu (Y9 (xs:=[]) (Dg (Zo (xs:=[.int ((0:Nat):Int)]) rfl fi)) rfl rfl)) ?_);have hc:=N3 ac (G.marks,G.code) [] ac rfl;refine Z6 (Ze (d:=.lst ((ac.filter (Vi G.code)).map λp:Pt=>No "wire" p.w)) (Yu (Y9 (env':=[.un,.fz (OE G ac)]) (xs:=Vw 0 ac) (Dg rfl) rfl hc)) ?_);have h1:=Lr v G.marks;have h2:=L3 h.n (Vi G.code);have a:Vo [LU G ac,Zg (G.marks,G.code)]=.ok (.lst ((G1 G G.marks).map (No "step"))):=bQ G v ac (G.marks,G.code);refine Yg (d:=.lst (Mq G ac)) (Yu (Z5 (x:=.lst ((G1 G G.marks).map (No "step"))) (Z5 (Yu (Hu (ds:=[Zg (G.marks,G.code)]) rfl rfl a)) rfl (by rw[M6 (by rw[AB];show _+0<=_;lia),DU])) rfl (Fv (by rw[AB,AB];lia)))) rfl
theorem cQ(G:G3)(v:Gb 64 G)(h:JC ac):Jf [MN G ac]=.ok (.lst (Mq G ac)):=by
 refine V3 (Yb rfl ?_);exact Yg (Yu (Hu (d:=LU G ac) (ds:=[OE G ac]) rfl rfl (B9 G v h))) rfl
theorem Al(G:G3)(ac:Z Pt):J7 [MN G ac]=.ok (Zg (G.marks,G.code)):=by
 refine V3 (Yb rfl ?_);exact Yg (Z5 rfl rfl rfl) rfl
theorem fY(G:G3)(ac:Z Pt)(g:Nat):J5 [MN G ac,.int (g:Int)]=.ok (.bl ((JA (Zs ac) G.code).testBit g)):=by
 refine V3 (Yb rfl ?_);exact Yg (Zo (xs:=[.int (JA (Zs ac) G.code:Int),.int (g:Int)]) (Z4 (Z5 rfl rfl rfl) rfl) (UJ _ g)) rfl
abbrev Lg:=Nat×Int×Z (Nat×Nat)
def Pl(x:Lg):Dat:=.tup [.int (x.1:Int),.int x.2.1,Yo x.2.2]
def RK(p:Pt):Z Lg:=p.r.map (λg=>(p.w,1,g))++p.f.map (λg=>(p.w,-1,g))
def Ka(ac:Z Pt):Z Lg:=ac.flatMap RK
theorem I0(ac:Z Pt):(Ka ac).map (λx=>x.2.2)=Zs ac:=by
 unfold Ka Zs;rw[List.map_flatMap];congr 1
 funext p
 unfold RK;rw[AU,BV,BV];have:∀ l:Z (Z (Nat×Nat)),l.map ((λx:Lg=>x.2.2) ∘ λg=>(p.w,(1:Int),g))=l:=λl=>List.map_id' l
 have h2:∀ l:Z (Z (Nat×Nat)),l.map ((λx:Lg=>x.2.2) ∘ λg=>(p.w,(-1:Int),g))=l:=λl=>List.map_id' l
 rw[this,h2]
theorem VR(ac:Z Pt):(Ka ac).length=(Zs ac).length:=by rw[<- I0,AB]
theorem Hk(h:JC ac):Jc [V4 ac]=.ok (.lst ((Ka ac).map Pl)):=by
 refine V3 (Yb rfl ?_);unfold Rv;refine Z6 (Ze (d:=.lst (([]:Z Lg).map Pl)) rfl ?_);refine Z6 (W3 (ds:=ac.map Pt.d) (λi e=>∃ l D T:JB,e=[.fz (V4 ac),.fz (.lst ((Ka (ac.take i)).map Pl)),l,D,T]) (W9 rfl) ⟨.un,.un,.un,rfl⟩ ?_ ?_)
 .rintro i d e hi ⟨l,D,T,rfl⟩
  rw[AQ] at hi;obtain⟨p,F,rfl⟩:=map_some hi;have aj:=F9 F;have j:=h.g;have q:=VR (ac.take i);refine⟨[.fz (V4 ac),.fz (.lst ((Ka (ac.take i)).map Pl)),.fz (.int (p.w:Int)),.fz (Y7 p.r),.fz (Y7 p.f)],rfl,?_⟩;have al:=Ww (g:=Zt 0) (t:=Wh) (f:=Yq (O (U 1) (O (dC (.int 1)) (O (U 0) Zb)))) (env:=[.un,.fz (.int (p.w:Int))]) Yo (λg=>Pl (p.w,1,g)) p.r λg _=>⟨[.fz (Yo g),.fz (.int (p.w:Int))],rfl,rfl,Y3 rfl (by simp)⟩
  have M:=Ww (g:=Zt 0) (t:=Wh) (f:=Yq (O (U 1) (O (dU LS (dC (.int 1))) (O (U 0) Zb)))) (env:=[.un,.fz (.int (p.w:Int))]) Yo (λg=>Pl (p.w,-1,g)) p.f λg _=>⟨[.fz (Yo g),.fz (.int (p.w:Int))],rfl,rfl,Y3 rfl (by simp)⟩
  refine Ze (d:=.lst ((Ka (ac.take (i+1))).map Pl)) (Z5 (Z5 rfl (Yu (Y9 (xs:=p.r.map Yo) (W9 rfl) rfl al)) (M6 (by simp only[AB];lia))) (Yu (Y9 (xs:=p.f.map Yo) (W9 rfl) rfl M)) ((M6 (by simp only[AB,AH];lia)).trans ?_)) ⟨_,_,_,rfl⟩;unfold Ka;rw[Dk _ ac F,AU,DM];unfold RK;rw[AU,BV,BV];rfl
 .rintro e ⟨l,D,T,rfl⟩
  rw[AB,BB (AT _)];exact Yg rfl rfl
def U5(ac:Z Pt)(c:Nat):Z Bool:=(Zs ac).map (Si c)
theorem YR(G:G3)(h:JC ac):R9 [G.d,V4 ac]=.ok (.tup [Zg (G.marks,G.code),.tup ((U5 ac G.code).map Dat.bl)]):=by
 refine V3 (Yb rfl ?_);have hc:=Ww (g:=Zt 0) (t:=Wh) (f:=Yj Ji (O (L Yk (U 0) (dC (.int 2))) (O (L Yk (U 1) (dC (.int 3))) Zb))) (env:=[.un,.fz G.d]) Pl (λx=>Dat.bl (Si G.code x.2.2)) (Ka ac) λx _=>⟨[.fz (Pl x),.fz G.d],rfl,rfl,Zo (xs:=[Yo x.2.2,.int (G.code:Int)]) (Z4 (Z5 rfl rfl rfl) (Z4 (Z5 rfl rfl rfl) rfl)) (P6 _ _)⟩
 have e:(Ka ac).map (λx=>Dat.bl (Si G.code x.2.2))=(U5 ac G.code).map Dat.bl:=by
  unfold U5;rw[<- I0,BV,BV];rfl
 rw[e] at hc;exact Yg (Y3 (Z4 (Y3 (Z4 (Z5 rfl rfl rfl) (Z4 (Z5 rfl rfl rfl) rfl)) (by simp)) (Z4 (Yn (Z4 (Yu (Y9 (Dg (Zo (xs:=[V4 ac]) rfl (Hk h))) rfl hc)) rfl) rfl) rfl)) (by simp)) rfl
theorem UV(f g:α->Dat):∀ l:Z α,Ei (l.map f) (l.map g)=l.map λx=>.tup [f x,g x]
 | []=>rfl
 | x::l=>by rw[BM,BM,Ei,UV f g l];rfl
theorem C7(m:Int)(zs:Z Int):LC (.int m) (.lst (zs.map Dat.int))=some (decide (m∈zs)):=by
 unfold LC;dsimp only;rw[show(zs.map Dat.int).all (pd 20)=true from CD.mpr λx hx=>by obtain⟨i,_,rfl⟩:=CL.mp hx;exact VI 20 i,VI,Bool.and_self,AF rfl];congr 1
 rw[BR,ES,BC];constructor
 .rintro⟨x,hx,he⟩
  obtain⟨i,hi,rfl⟩:=CL.mp hx;have:(i==m)=true:=by unfold R8 at he;exact he
  exact eq_of_beq this▸hi
 .intro h
  exact⟨.int m,GC h,Bt m⟩
theorem gX(hn:(ac.map Pt.w).Nodup)(F:p∈ac)(c:Nat)(m:Int):(m∈((Ka ac).filter λx=>Si c x.2.2&&(x.1==p.w)).map λx=>x.2.1)↔(m=1/\p.r.any (Si c)=true)\/(m = -1/\p.f.any (Si c)=true):=by
 rw[CL];constructor
 · rintro⟨x,hx,rfl⟩
   obtain⟨h1,h2⟩:=DA.mp hx;rw[BG,CP] at h2;obtain⟨q,B,a⟩:=IC.mp h1;have hw:x.1=q.w:=by
     rcases BH.mp a with z | z<;>(obtain⟨g,_,rfl⟩:=CL.mp z;rfl)
   have e:q=p:=by
     obtain⟨i,hi⟩:=DW B;obtain⟨j,C⟩:=DW F;obtain⟨l1,W⟩:=AE.mp hi;obtain⟨l2,g2⟩:=AE.mp C;have d:=FL.mp hn;have b:(ac.map Pt.w)[i]'(by rw[AB];exact l1)=(ac.map Pt.w)[j]'(by rw[AB];exact l2):=by
       rw[List.getElem_map,List.getElem_map,W,g2,<- hw];exact h2.2
     rcases Nat.lt_trichotomy i j with z | z | z
     · exact absurd b (d i j _ _ z)
     · subst z;rw[<- W,<- g2]
     · exact absurd b.symm (d j i _ _ z)
   subst e;rcases BH.mp a with z | z<;>obtain⟨g,S,rfl⟩:=CL.mp z
   · exact .inl ⟨rfl,ES.mpr ⟨g,S,h2.1⟩⟩
   · exact .inr ⟨rfl,ES.mpr ⟨g,S,h2.1⟩⟩
 · rintro(⟨rfl,h⟩ | ⟨rfl,h⟩)<;>obtain⟨g,S,hu⟩:=ES.mp h
   · exact⟨(p.w,1,g),DA.mpr ⟨IC.mpr ⟨p,F,FC _ (GC S)⟩,by show(Si c g&&(p.w==p.w))=true;rw[hu];simp⟩,rfl⟩
   · exact⟨(p.w,-1,g),DA.mpr ⟨IC.mpr ⟨p,F,BQ _ (GC S)⟩,by show(Si c g&&(p.w==p.w))=true;rw[hu];simp⟩,rfl⟩
theorem Os(h:JC ac)(c:Nat):Mi [V4 ac,.int (c:Int),.tup ((U5 ac c).map Dat.bl)]=.ok (.lst ((ac.filter (Vi c)).map λp=>No "wire" p.w)):=by
 refine V3 (Yb rfl ?_);unfold Mh;refine Z6 (Ze (Zo (xs:=[V4 ac]) rfl (Hk h)) ?_);have j:=h.g;have q:=VR ac;have hc:=V6 (g:=Zt 0) (t:=dB (L Ag (L Yk (U 1) (U 0)) (Yj Ji (O (L Yk (L Yk (U 3) (U 0)) (dC (.int 2))) (O (U 2) Zb))))) (f:=Yq (O (dC (.str "gate")) (O (U 0) Zb))) (env:=[.un,.fz (.tup ((U5 ac c).map Dat.bl)),.fz (.int (c:Int)),.fz (.lst ((Ka ac).map Pl))]) (λk:Nat=>Dat.int (k:Int)) (No "gate") (λ_=>false) (List.range (Ka ac).length) λk hk=>by
  obtain⟨x,hx⟩:∃ x,(Ka ac)[k]?=some x:=⟨_,AL (CI.mp hk)⟩;refine⟨[.fz (.int (k:Int)),.fz (.tup ((U5 ac c).map Dat.bl)),.fz (.int (c:Int)),.fz (.lst ((Ka ac).map Pl))],rfl,Wa (Z5 (x:=.bl (Si c x.2.2)) (Z5 rfl rfl (Xd ?_)) (Zo (xs:=[Yo x.2.2,.int (c:Int)]) (Z4 (Z5 (x:=Pl x) (Z5 rfl rfl (L1 (by rw[AQ,hx];rfl))) rfl rfl) rfl) (P6 _ c)) (by cases Si c x.2.2<;>rfl)),Y3 rfl (by simp)⟩;unfold U5;rw[<- I0,BV,BV,AQ,hx];rfl
 rw[<- Rq,show((List.range (Ka ac).length).filter λ_=>false)=[] from List.filter_eq_nil_iff.mpr λ_ _ z=>(by cases z)] at hc;refine Z6 (U2 (ds:=[]) (Y9 (xs:=rng 0 (Ka ac).length) (W0 (Z4 (Yn (Z4 rfl rfl) (Lb Pl _)) rfl) (by lia)) rfl hc) ?_);refine Z6 (W3 (ds:=ac.map Pt.d) (λi e=>∃ y m E o H:JB,e=[.fz (V4 ac),.fz (.int (c:Int)),.fz (.tup ((U5 ac c).map Dat.bl)),.fz (.lst ((Ka ac).map Pl)),.ow (((ac.take i).filter (Vi c)).map λp=>No "wire" p.w),y,m,E,o,H]) (W9 rfl) ⟨.un,.un,.un,.un,.un,rfl⟩ ?_ ?_)
 .rintro i d e hi ⟨y,m,E,o,H,rfl⟩
  rw[AQ] at hi;obtain⟨p,F,rfl⟩:=map_some hi;have s:=AI F;refine⟨[.fz (V4 ac),.fz (.int (c:Int)),.fz (.tup ((U5 ac c).map Dat.bl)),.fz (.lst ((Ka ac).map Pl)),.ow (((ac.take i).filter (Vi c)).map λp=>No "wire" p.w),.fz (.int (p.w:Int)),.fz (Y7 p.r),.fz (Y7 p.f),o,H],rfl,?_⟩;have hz:=V6 (g:=Mc 2 (Y2 (Zt 0) (Y2 (Zt 1) T4))) (t:=Sc (dT (U 1)) (dB (L Mz (L Yk (U 0) (dC (.int 0))) (U 2)))) (f:=L Yk (U 0) (dC (.int 1))) (env:=[.un,.un,.fz (.int (p.w:Int))]) (λx:Lg=>.tup [Pl x,.bl (Si c x.2.2)]) (λx=>Dat.int x.2.1) (λx=>Si c x.2.2&&(x.1==p.w)) (Ka ac) λx _=>⟨[.fz (Pl x),.fz (.bl (Si c x.2.2)),.fz (.int (p.w:Int))],rfl,M1 (M0 rfl) λ_=>Wa (Z5 (Z5 rfl rfl rfl) rfl (Xj x.1 p.w)),rfl⟩
  have e1:(U5 ac c).map Dat.bl=(Ka ac).map λx=>Dat.bl (Si c x.2.2):=by
   unfold U5;rw[<- I0,BV,BV];rfl
  rw[<- UV Pl (λx=>Dat.bl (Si c x.2.2)),<- e1] at hz;have e2:((Ka ac).filter λx=>Si c x.2.2&&(x.1==p.w)).map (λx=>Dat.int x.2.1)=(((Ka ac).filter λx=>Si c x.2.2&&(x.1==p.w)).map λx=>x.2.1).map Dat.int:=by rw[BV];rfl
  rw[e2] at hz;have hm:=gX h.nd s c;generalize ((Ka ac).filter λx=>Si c x.2.2&&(x.1==p.w)).map (λx=>x.2.1)=a at hz hm;refine Z6 (Ze (d:=.lst (a.map Dat.int)) (Yu (Y9 (xs:=Ei ((Ka ac).map Pl) ((U5 ac c).map Dat.bl)) (by unfold PK;rw[Z4 (x:=.lst ((Ka ac).map Pl)) rfl (Z4 (x:=.tup ((U5 ac c).map Dat.bl)) rfl rfl)];dsimp only;rw[AF (by unfold U5;rw[AB,AB,AB];exact q)]) rfl hz)) ?_);obtain⟨l,ao,u⟩:∃ l:Int,Yk (.lst [.int 1,.int (-1)]) (.int (if c.testBit p.w then 1 else 0))=some (.int l)/\((decide (l∈a))&&!decide (0 - l∈a))=Vi c p:=by
   unfold Vi;cases c.testBit p.w with
   | true =>
    refine⟨-1,rfl,?_⟩;rw[show decide ((-1:Int)∈a)=p.f.any (Si c) by rw[BR,BC,hm];simp,show decide ((0:Int) - -1∈a)=p.r.any (Si c) by rw[BR,BC,hm];simp];rfl
   | false =>
    refine⟨1,rfl,?_⟩;rw[show decide ((1:Int)∈a)=p.r.any (Si c) by rw[BR,BC,hm];simp,show decide ((0:Int) - 1∈a)=p.f.any (Si c) by rw[BR,BC,hm];simp];rfl
  refine Z6 (Ze (d:=.int l) (Z5 (x:=.lst [.int 1,.int (-1)]) rfl (Z5 (Z5 rfl rfl (MA c p.w)) rfl (Pq c p.w)) ao) ?_);have ah:=(AE.mp F).1;have hn:=h.n;have ht:ac.take (i+1)=ac.take i++[p]:=by rw[DE,F];rfl
  refine Ux (b:=Vi c p) (by rw[<- u];exact M1 (Wa (Z5 rfl rfl (by unfold LX;rw[C7];rfl))) λ_=>Wa (Z5 (Z5 rfl rfl rfl) rfl (by unfold Ov;rw[C7];rfl))) (λhb=>?_) (λhb=>Wk ⟨.fz (.int (p.w:Int)),.fz (Y7 p.r),.fz (Y7 p.f),.fz (.lst (a.map Dat.int)),.fz (.int l),by rw[ht,GO,EM (by rw[hb];decide),HQ,DU]<;>rfl⟩);refine Wv (as:=[No "wire" p.w]) (ds':=((ac.take (i+1)).filter (Vi c)).map λp=>No "wire" p.w) rfl (Z4 (Y3 rfl (by simp)) rfl) (by rw[Wi (by rw[AB];have:=L3 (Hz ac i 10 hn) (Vi c);lia),ht,GO,EL hb,HQ,AU];rfl) ⟨_,_,_,_,_,rfl⟩
 .rintro e ⟨y,m,E,o,H,rfl⟩
  rw[AB,BB (AT _)];exact Du rfl rfl
theorem Xy(G:G3)(v:Gb 64 G)(h:JC ac):Je [G.d,V4 ac,.tup [Zg (G.marks,G.code),.tup ((U5 ac G.code).map Dat.bl)]]=.ok (.lst (Mq G ac)):=by
 refine V3 (Yb rfl ?_);unfold Rl;have l:=v.s2;have h1:=Lr v G.marks;have h2:=L3 h.n (Vi G.code);refine Z6 (U2 (ds:=([]:Z Nat).map (No "step")) rfl ?_);refine Z6 (W3 (ds:=rng 0 G.steps.length) (λi e=>∃ T:JB,e=[.fz G.d,.fz (V4 ac),.fz (.tup [Zg (G.marks,G.code),.tup ((U5 ac G.code).map Dat.bl)]),.ow (((List.range i).filter λk=>!Sd G k&&Ik G G.marks k).map (No "step")),T]) (W0 (Z4 (Yn (Z4 (Z5 rfl rfl rfl) rfl) (U7 St3.d G.steps)) rfl) (by lia)) ⟨.un,rfl⟩ ?_ ?_)
 .rintro i d e hi ⟨T,rfl⟩
  obtain⟨Q,rfl⟩:=Ts hi;rw[CK];obtain⟨s,hs⟩:∃ s,G.steps[i]?=some s:=⟨_,AL Q⟩;obtain⟨u,hu,hm⟩:=XA v hs;refine⟨_,rfl,?_⟩;have q:((List.range i).filter λk=>!Sd G k&&Ik G G.marks k).length<=24:=by
   have:=GU (λk=>!Sd G k&&Ik G G.marks k) (List.range i);rw[CQ] at this;lia
  refine Ux (b:=!Sd G i&&Ik G G.marks i) (by rw[hm,T' hs];exact M1 (Wa (Z5 (Z5 (Z5 (Z5 rfl rfl rfl) (Z5 (Z5 (Z5 rfl rfl rfl) rfl (Ri hs)) rfl rfl) (Xi hu)) rfl rfl) rfl (ZJ u))) λ_=>M0 (Zo (xs:=[G.d,Zg (G.marks,G.code),.int (i:Int)]) (Z4 rfl (Z4 (Z5 rfl rfl rfl) rfl)) (Ek G (G.marks,G.code) i s hs))) (λhb=>?_) (λhb=>Wk ⟨.fz (.int (i:Int)),by rw[List.range_succ,GO,EM (by rw[hb];decide),HQ,DU]<;>rfl⟩);refine Wv (as:=[No "step" i]) (ds':=((List.range (i+1)).filter λk=>!Sd G k&&Ik G G.marks k).map (No "step")) rfl (Z4 (Y3 rfl (by simp)) rfl) (by rw[Wi (by rw[AB];lia),List.range_succ,GO,EL (p:=λk=>!Sd G k&&Ik G G.marks k) hb,HQ,AU];rfl) ⟨_,rfl⟩
 .rintro e ⟨T,rfl⟩
  rw[Tp];exact Yg (Z5 rfl (Zo (xs:=[V4 ac,.int (G.code:Int),.tup ((U5 ac G.code).map Dat.bl)]) (Z4 rfl (Z4 (Z5 (Z5 rfl rfl rfl) rfl rfl) (Z4 (Z5 rfl rfl rfl) rfl))) (Os h G.code)) (M6 (by rw[AB,AB];have:((List.range G.steps.length).filter λk=>!Sd G k&&Ik G G.marks k).length<=24:=h1;lia))) rfl
theorem eK(ac:Z Pt)(c:Nat):(List.range (Zs ac).length).map (λg=>(JA (Zs ac) c).testBit g)=U5 ac c:=List.ext_getElem? λi=>by
 unfold U5;rw[AQ,AQ];by_cases h:i<(Zs ac).length
 .rw[EX h,AL h]
  show some ((JA (Zs ac) c).testBit i)=some (Si c (Zs ac)[i]);rw[UZ,AM h,FE,List.getD,AL h];rfl
 .rw[DP (by rw[CQ];lia),DP (by lia)];rfl
theorem SD(h1:t env=some false)(h2:u env=some false):Fc t u env=some false:=by unfold Fc;rw[h1];exact h2
theorem b6(G:G3)(ac:Z Pt):pd 20 (.lst (Mq G ac))=true/\R8 (.lst (Mq G ac)) (.lst (Mq G ac))=true:=cC λx hx=>by
 have D:∀ (z:Str) (k:Nat),R8 (No z k) (No z k)=true/\pd 19 (No z k)=true:=λz k=>(F5 (n:=18) λx hx=>by
  rcases BN.mp hx with rfl | hx
  .exact⟨rfl,by unfold R8;exact CY z⟩
  .rw[AK.mp hx];exact Xk 18 _).symm
 rcases BH.mp hx with h | h
 .obtain⟨k,_,rfl⟩:=CL.mp h;exact D _ _
 .obtain⟨p,_,rfl⟩:=CL.mp h;exact D _ _
theorem P7(G:G3)(v:Gb 64 G)(h:JC ac):Uc [G.d,V4 ac]=.ok (.bl true):=by
 refine V3 (Yb rfl ?_);unfold My;have j:=h.g;have ak:(U5 ac G.code).length=(Zs ac).length:=by unfold U5;rw[AB]
 refine Z6 (Ze (Zo (xs:=[G.d,V4 ac]) rfl (bA G h)) ?_);refine Z6 (Ze (Zo (xs:=[G.d,V4 ac]) rfl (YR G h)) ?_);have hc:=Ww (g:=Zt 0) (t:=Wh) (f:=C9 "Play" "level" J5 (U 1) (O (U 0) Zb)) (env:=[.un,.fz (MN G ac)]) (λk:Nat=>Dat.int (k:Int)) (λk=>Dat.bl ((JA (Zs ac) G.code).testBit k)) (List.range (Zs ac).length) λk _=>⟨[.fz (.int (k:Int)),.fz (MN G ac)],rfl,rfl,L0 (ds:=[.int (k:Int)]) rfl rfl (fY G ac k)⟩
 have e1:(List.range (Zs ac).length).map (λk=>Dat.bl ((JA (Zs ac) G.code).testBit k))=(U5 ac G.code).map Dat.bl:=by rw[<- eK,BV];rfl
 rw[e1,<- Rq] at hc;refine Z6 (Ze (d:=.lst ((U5 ac G.code).map Dat.bl)) (Yu (Y9 (xs:=rng 0 (Zs ac).length) (W0 (Z4 (Yn (Z4 (Z5 rfl rfl rfl) rfl) (by rw[U7,ak])) rfl) (by lia)) rfl hc)) ?_);refine Z6 (Ga (SD (Wa (Z5 (L0 (ds:=[]) rfl rfl (Al G ac)) (Z5 rfl rfl rfl) (Hi (WC 19 _)))) (SD (Gp (b:=true) (M0 (QM (t:="tuple") (L0 (ds:=[]) rfl rfl (Al G ac)) rfl (by ext)))) (Wa (Z5 (Yn (Z4 rfl rfl) rfl) (Z5 rfl rfl rfl) (Hi (Xw (n:=19) λb _=>⟨rfl,by unfold R8;cases b<;>rfl⟩)))))) (Wk ?_));have hz:=V6 (g:=Zt 0) (t:=Sf (dT (dI "bool" (U 0)))) (f:=U 0) (env:=[.un]) Dat.bl Dat.bl (λ_=>false) (U5 ac G.code) λb _=>⟨[.fz (.bl b)],rfl,Gp (b:=true) (M0 (QM (t:="bool") rfl rfl (by ext))),rfl⟩
 rw[show((U5 ac G.code).filter λ_=>false)=[] from List.filter_eq_nil_iff.mpr λ_ _ z=>(by cases z)] at hz;refine Z6 (Ga (Wa (Z5 (Yn (Z4 (Yu (Y9 (Dg rfl) rfl hz)) rfl) rfl) rfl rfl)) (Wk ?_));have h1:=Lr v G.marks;have h2:=L3 h.n (Vi G.code);have l:(Mq G ac).length<=34:=by unfold Mq;rw[AH,AB,AB];lia
 have c:=Xy G v h;have e:=b6 G ac;have i:=cQ G v h;generalize Mq G ac=a at l c e i;refine Z6 (U2 (ds:=a) (Hu (ds:=[]) rfl rfl i) ?_);refine Z6 (Ga (SD (Gp (b:=true) (M0 (QM (t:="list") (d:=.lst a) rfl rfl (by decide +kernel)))) (Wa (Z5 rfl (Zo rfl c) (Hi e)))) (Wk ?_));refine Z6 (Wv (as:=[No "step" 0]) (ds':=a++[No "step" 0]) rfl rfl (Wi (by lia)) ?_);exact Yg (Z5 (Yu (Hu (ds:=[]) rfl rfl i)) (Zo rfl c) (iB e)) rfl
theorem N4:∀ gs:Z (Z (Nat×Nat)),(V1 gs).length=(gs.map List.length).sum
 | []=>rfl
 | g::gs=>by
  have:=N4 gs;unfold V1 at this ⊢;rw[GV,AH,this,AB,BM,sum_cons]
theorem C8:∀ ac:Z Pt,(Zs (ac.map Tj)).length=(ac.map JE).sum
 | []=>rfl
 | p::ac=>by
  have:=C8 ac;unfold Zs at this ⊢;rw[BM,GV,AH,this,BM,sum_cons,AH];show(V1 p.r).length+(V1 p.f).length+_=_;rw[N4,N4];unfold JE;rw[AU,List.sum_append]
theorem iD(ns:Z Int)(hl:ns.length<=63):UM [.lst (ns.map .int)]=.ok (.bl true):=by
 refine V3 (Yb rfl ?_);unfold OJ;obtain⟨G,e1,S⟩:=cb ns 0 3 3 (by lia) (by lia) (by lia) (by lia);refine Z6 (Ze (Zo (xs:=[Tf ns,.int ((0:Nat):Int),.int ((3:Nat):Int),.int ((3:Nat):Int)]) rfl e1) ?_);obtain⟨ps,e2,F⟩:=eh G S;obtain⟨ac,e3,n1,n2,e,a⟩:=cI ns 12 (by lia) G S ps F;refine Z6 (Ze (Zo (xs:=[Tf ns,.int ((12:Nat):Int),G.d,.lst (ps.map Zg)]) (Z4 rfl (Z4 rfl (Z4 rfl (Z4 (Zo (xs:=[G.d]) rfl e2) rfl)))) e3) ?_);have hok:JC ac:=⟨n1,n2,e,by
  have:=N0 (λp:Pt=>p.r++p.f) 4 ac λp F=>by rw[AH];have:=(a p F).r;have:=(a p F).f;lia
  unfold Zs;lia⟩
 refine Z6 (Ze (Zo (xs:=[V4 ac]) rfl (b5 a)) ?_);refine Z6 (Ga (Wa (Z5 rfl (Zo (xs:=[V4 ac]) rfl (Fe n2 a)) (Hi (fR _)))) (Wk ?_));obtain⟨b,e4,hb⟩:=ZH n2 a;have k:=P7 G S.gb hok;have c:Sc (dT (Yj Qi (O (U 2) Zb))) (Sf (dT (Yj Uc (O (U 1) (O (U 3) Zb))))) [.fz (Tf ns),.fz G.d,.fz (V4 ac),.fz (V4 (ac.map Tj))]=some false:=by
  cases b with
  | false=>exact(M1 (b:=false) (M0 (Zo (xs:=[V4 ac]) rfl e4)) λz=>(by cases z))
  | true =>
   have g:JC (ac.map Tj):=⟨by rw[BV];exact n1,by rw[AB];exact n2,λp F=>by obtain⟨q,B,rfl⟩:=CL.mp F;exact e q B,by rw[C8];exact hb rfl⟩;exact(M1 (b:=false) (M0 (Zo (xs:=[V4 ac]) rfl e4)) λ_=>Gp (b:=true) (M0 (Zo (xs:=[G.d,V4 (ac.map Tj)]) rfl (P7 G S.gb g))))
 refine Z6 (Ga c (Wk ?_));exact Yg (dY (Zo (xs:=[G.d,V4 ac]) rfl k) (Zo (xs:=[G.d,V4 ac]) rfl k)) rfl
end K61
set_option maxHeartbeats 4000000
namespace K61
open PySem PySem.Spec PyProof.Rows L2
abbrev BL:Z Str:=["any","bool","enumerate","int","isinstance","len","list","max","min","range","sorted","sum","tuple","zip"]
open PySem.W (mg_of mg_none_of) in
theorem Zhu{p:D1}{w:D2}{h:Ff}{fa:A2}(X:K.In h)(G:h.Ns mainGlobals mg)(o:mg "law" = some (.ref fa))
  {c e:A2}
  {f:A2} {od an:Cc A2} {sl:Array (Cc A1)} {oc kV dc pm cd ct:A1}
  (yO0:PySem.W.nsIn K mainGlobals "Bench" = some (some (.ref c))) (gO0:JO K c) (oO0:CO K c "Bench.__init__" Qf)
  (yO1:PySem.W.nsIn K mainGlobals "Play" = some (some (.ref e))) (gO1:JO K e) (oO1:CO K e "Play.__init__" Qv)
  (tO0gates:PySem.W.findIn K (.ref c) "gates" = some none)
  (tO0graph:PySem.W.findIn K (.ref c) "graph" = some none)
  (tO0known:PySem.W.findIn K (.ref c) "known" = some none)
  (tO0sides:PySem.W.findIn K (.ref c) "sides" = some none)
  (tO1bench:PySem.W.findIn K (.ref e) "bench" = some none)
  (tO1graph:PySem.W.findIn K (.ref e) "graph" = some none)
  (tO1net:PySem.W.findIn K (.ref e) "net" = some none)
  (tO1pose:PySem.W.findIn K (.ref e) "pose" = some none)
  (mf:MO K c "first" "Bench.first" Mm)
  (a0:DD K "bits" RU)
  (a1:DD K "fits" QY)
  (a2:DD K "is_up" L7)
  (a3:MO K c "levels_at" "Bench.levels_at" Vh)
  (a4:DD K "_law_mix" El)
  (a5:DD K "_law_word" Da)
  (a6:DD K "_law_choice" Wo)
  (a7:DD K "_law_order" Rn)
  (a8:DD K "_law_arrows" Me)
  (a9:DD K "_law_graph" Vf)
  (a10:DD K "_law_wider" J6)
  (a11:DD K "_law_lookers" Tl)
  (a12:DD K "_law_any_graph" Q2)
  (a13:DD K "_law_can" S7)
  (a14:DD K "_law_want" Sx)
  (a15:DD K "_law_any_gate" Qw)
  (a16:DD K "_law_any_net" Ju)
  (a17:DD K "gates_apart" Qo)
  (a18:DD K "apart" Lc)
  (a19:DD K "_law_behind" Mx)
  (a20:DD K "_law_stands" Mb)
  (a21:DD K "_law_apart" Ja)
  (a22:DD K "_law_within" Qn)
  (a23:DD K "gates_in" Es)
  (a24:DD K "sides_of" Ex)
  (a25:DD K "_law_up" Di)
  (a26:DD K "_law_gates" Ti)
  (a27:DD K "_law_begun" Jg)
  (a28:DD K "has_one" Im)
  (a29:DD K "ones" Fd)
  (a30:DD K "is_wire_called" Qa)
  (a31:DD K "takes_of" Ez)
  (a32:DD K "can" RP)
  (a33:DD K "steps_at" S6)
  (a34:DD K "is_made" K8)
  (a35:DD K "wire_of" Ix)
  (a36:MO K c "given_moves" "Bench.given_moves" Vp)
  (a37:MO K c "moves_at" "Bench.moves_at" Vs)
  (a38:MO K e "moves" "Play.moves" Ra)
  (a39:MO K e "level" "Play.level" S4)
  (a40:DD K "_law_called" T5)
  (a41:DD K "_law_moves" Ru)
  (a42:MO K e "stand" "Play.stand" Rg)
  (a43:DD K "_law_begins" T0)
  (l0:PySem.W.nsIn K mainGlobals "law" = some (some (.ref f))) (l1:K.lookup f=some ⟨oc,od,.func (PySem.W.fnOf "law" "law" (U3 E8) (Wb E8) (Z9 E8) .none kV dc pm an cd ct),sl⟩) (l2:PySem.W.codeIn K cd "law" = true) (l3:PySem.W.keepIn K (.ref f)=true)
  (z:∀ x∈BL,PySem.W.nsIn K mainGlobals x=some none) :
  ∃ fd:Df,(∀ (s:A4) (v:A1),BindsTo s fd ⟨[v],[]⟩ [("_law_script",v)])/\∀ base:Ff,K.In base->base.Ns mainGlobals mg->I' p w K mg base A7 9 fa fd KO (Bz K):=by
 cases o.symm.trans (mg_of X G l0);have M (x) (hx:x∈BL:=by ext):=mg_none_of X G (z x hx);have T:Txt K mg:={ b_any:=M "any",b_bool:=M "bool",b_enumerate:=M "enumerate",b_int:=M "int",b_isinstance:=M "isinstance",b_len:=M "len",b_list:=M "list",b_max:=M "max",b_min:=M "min",b_range:=M "range",b_sorted:=M "sorted",b_sum:=M "sum",b_tuple:=M "tuple",b_zip:=M "zip",a_Bench_gates:=⟨_,yO0,gO0,tO0gates⟩,a_Bench_graph:=⟨_,yO0,gO0,tO0graph⟩,a_Bench_known:=⟨_,yO0,gO0,tO0known⟩,a_Bench_sides:=⟨_,yO0,gO0,tO0sides⟩,a_Play_bench:=⟨_,yO1,gO1,tO1bench⟩,a_Play_graph:=⟨_,yO1,gO1,tO1graph⟩,a_Play_net:=⟨_,yO1,gO1,tO1net⟩,a_Play_pose:=⟨_,yO1,gO1,tO1pose⟩ };have d {n st} (a:DD K n st):=hU X G a;refine⟨PySem.W.fnOf "law" "law" (U3 E8) (Wb E8) (Z9 E8) .none kV dc pm an cd ct,λs v=>.of_eq rfl,λb _ _=>?_⟩;have c0:=@gT ⟨p,w,K,mg,b⟩ (d a0) T;have c1:=@cc ⟨p,w,K,mg,b⟩ (d a1) T;have c2:=@cp ⟨p,w,K,mg,b⟩ (d a2) T c1;have c3:=@Hf ⟨p,w,K,mg,b⟩ (a3.d yO0 gO0) T c0 c2;have k:=@Cp ⟨p,w,K,mg,b⟩ (d a4) T;have m:=@Az ⟨p,w,K,mg,b⟩ (d a5) T;have c6:=@Ot ⟨p,w,K,mg,b⟩ (d a6) T k m;have c7:=@A0 ⟨p,w,K,mg,b⟩ (d a7) T k;have c8:=@Oc ⟨p,w,K,mg,b⟩ (d a8) T k;have c9:=@Xe ⟨p,w,K,mg,b⟩ (d a9) T c7 k c8 m;have q:=@Xu ⟨p,w,K,mg,b⟩ (d a10) T;have r:=@Ny ⟨p,w,K,mg,b⟩ (d a11) T;have t:=@Is ⟨p,w,K,mg,b⟩ (d a12) T k c6 c9 q r;have g:=@Ci ⟨p,w,K,mg,b⟩ (d a13) T;have u:=@Be ⟨p,w,K,mg,b⟩ (d a14) T g;have y:=@Kv ⟨p,w,K,mg,b⟩ (d a15) T k u;have A:=@Nc ⟨p,w,K,mg,b⟩ (d a16) T k y;have B:=@On ⟨p,w,K,mg,b⟩ (d a17) T;have C:=@bH ⟨p,w,K,mg,b⟩ (d a18) T B;have D:=@Of ⟨p,w,K,mg,b⟩ (d a19) T;have E:=@Ol ⟨p,w,K,mg,b⟩ (d a20) T g D;have F:=@Fp ⟨p,w,K,mg,b⟩ (d a21) T;have H:=@Oh ⟨p,w,K,mg,b⟩ (d a22) T;have I:=@gD ⟨p,w,K,mg,b⟩ (d a23) T;have J:=@Ck ⟨p,w,K,mg,b⟩ (d a24) T c0;have j:=@iG ⟨p,w,K,mg,b⟩ (d a25) T;have l:=@Xz ⟨p,w,K,mg,b⟩ (d a26) T;have N:=@Xf ⟨p,w,K,mg,b⟩ (d a27) T j l;have i:=@bh ⟨p,w,K,mg,b⟩ (d a28) T;have P:=@iK ⟨p,w,K,mg,b⟩ (d a29) T i;have Q:=@K4 ⟨p,w,K,mg,b⟩ (d a30) T i;have R:=@Ct ⟨p,w,K,mg,b⟩ (d a31) T;have S:=@dg ⟨p,w,K,mg,b⟩ (d a32) T c0 R;have Y:=@gi ⟨p,w,K,mg,b⟩ (d a33) T S;have aa:=@d6 ⟨p,w,K,mg,b⟩ (d a34) T;have ac:=@bV ⟨p,w,K,mg,b⟩ (d a35) T;have ae:=@E1 ⟨p,w,K,mg,b⟩ (a36.d yO0 gO0) T Y aa ac;have af:=@Ih ⟨p,w,K,mg,b⟩ (a37.d yO0 gO0) T c3 P Q ae;have ag:=@Fm ⟨p,w,K,mg,b⟩ (a38.d yO1 gO1) T af;have ah:=@Fi ⟨p,w,K,mg,b⟩ (a39.d yO1 gO1) T i;have ai:=@Ox ⟨p,w,K,mg,b⟩ (d a40) T l j;have aj:=@Xs ⟨p,w,K,mg,b⟩ (d a41) T ai g;have ak:=@F7 ⟨p,w,K,mg,b⟩ (a42.d yO1 gO1) T;have cL:=@f7 ⟨p,w,K,mg,b⟩ (a3.d yO0 gO0) T c0 c2;have cF:=@bC ⟨p,w,K,mg,b⟩ (mf.d yO0 gO0) T cL;have cB:=@cg ⟨p,w,K,mg,b⟩ (oO0.d yO0 gO0 (mg_of X G yO0)) T I J;have cP:=@bt ⟨p,w,K,mg,b⟩ (oO1.d yO1 gO1 (mg_of X G yO1)) T cB cF;have al:=@Og ⟨p,w,K,mg,b⟩ (d a43) T cP N ag ah aj ak;exact bU (b:=⟨p,w,K,mg,b⟩) (X6 (st:=E8) l1 l2 l3) T t A C E F H al iD
theorem Ziv{l:PySem.W.OpenLaw}{q:D1}{d:DefRec}{K:Params->E'}(hn:l.most=some 63)(A:d.params.defaults=[])
  (t:∀ (w:D2) (h:Ff),YP w h->(K w.params).In h)
  (F:∀ (w:D2) (mg:JG) (fa:A2) (h:Ff),(K w.params).In h->h.Ns mainGlobals mg->mg d.name=some (.ref fa) ->
   ∃ fd:Df,(∀ (s:A4) (u:A1),BindsTo s fd ⟨[u],[]⟩ [("_law_script",u)])/\∀ base:Ff,(K w.params).In base->base.Ns mainGlobals mg->I' l.prog w (K w.params) mg base A7 9 fa fd KO (Bz (K w.params))) :
  PySem.W.WalkO q loose XP YP l.row.toRowW d [] (λf vs=>PySem.call f vs) :=
 L2.Zgf (n:=63) (k:=9) (x:="_law_script") (CX:=λ_=>A7) (sp:=λw=>Bz (K w.params)) hn (by decide) A ⟨rfl,by decide,by decide,rfl⟩ t F (λ_ _ a ns hl _ hS=>⟨a,ns,rfl,hS,hl,λ_=>rfl⟩) λ_ _ _ _ _ z=>z
end K61
open PySem PySem.W PyProof.Rows L2
set_option maxRecDepth 100000 in
set_option maxHeartbeats 0 in
theorem PySem.Challenge.cw_calmwires_k61_moves_holds : PySem.Challenge.rw_calmwires_k61_moves.Holds := by
 refine theTop ?_
 k_fill;refine K61.Ziv (l:=PySem.Challenge.rw_calmwires_k61_moves) rfl rfl (λw h Y=>PySem.W.kIn_of Y) ?F
 case F =>
  intro w mg fa h p G I;apply K61.Zhu p G I
  case a0|a1|a2|a4|a5|a6|a7|a8|a9|a10|a11|a12|a13|a14|a15|a16|a17|a18|a19|a20|a21|a22|a23|a24|a25|a26|a27|a28|a29|a30|a31|a32|a33|a34|a35|a40|a41|a43=>refine' cD ?A ?B ?C ?D;case A|B|C|D=>k_is
  case yO0|yO1=>k_is
  case mf|a3|a36|a37|a38|a39|a42=>refine' gu ?A ?B ?C ?D ?E;case A|B|C|D|E=>k_is
  case oO0|oO1=>refine' dq ?A ?B ?C ?D ?E ?F ?G;case A|B|C|D|E|F|G=>k_is
  case gO0|gO1=>refine' ⟨?A,?B,?C,?D⟩;case A|B|C|D=>k_is
  case tO0gates|tO0graph|tO0known|tO0sides|tO1bench|tO1graph|tO1net|tO1pose|l0|l1|l2|l3=>k_is
  case z =>
   refine' List.forall_mem_cons.mpr ⟨?_,?_⟩
   k_is
   repeat' first | refine' List.forall_mem_cons.mpr ⟨?_,?_⟩ | exactλ_ h=>nomatch h
   all_goals k_is
