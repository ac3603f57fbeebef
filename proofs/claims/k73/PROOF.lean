import PyProof.Rows.All
import Wide.All
import Wide.FinOn
import KE.KRevIter
import KE.KIntText
import KE.KLam
import KE.KSortKey
import KE.RegKIsAll
import KE.RegKTryMore
import KE.KDictOf
import KE.KFromBytes
import PySem.Challenge.RW_calmwires_k73_the_wire_left_out
set_option Elab.async false
set_option linter.all false
namespace L2
open PySem PySem.W
noncomputable def pT (l:List Obj):BT->Nat->Option BT:=
 @List.rec Obj (λ_=>BT->Nat->Option BT) (λt _=>some t) (λo _ ih t n=>bif ((t.ins n o).get n).isSome then ih (t.ins n o) (n+1) else none) l
theorem pTo (life:Life):∀ {l:List Obj}{t t' : BT}{n:Nat},pT l t n=some t'->absHeap t' (n+l.length) life=⟨(absHeap t n life).objs++l.toArray,life⟩
 | [],t,t',n,h=>by
  cases h
  show absHeap t n life = _
  simp
  rfl
 | o::r,t,t',n,h=>by
  have h' : (bif ((t.ins n o).get n).isSome then pT r (t.ins n o) (n+1) else none)=some t':=h
  cases e:((t.ins n o).get n).isSome with
  | false=>rw[e] at h';cases h'
  | true=>
   rw[e] at h'
   have i:=pTo life (l:=r) h'
   rw[absHeap_ins e] at i
   rw[show n+(o::r).length=n+1+r.length by simp only [List.length_cons];omega,i]
   show Heap.mk ((absHeap t n life).objs.push o++r.toArray) life = _
   congr 1
   apply Array.toList_inj.mp
   simp
noncomputable def pn (s:Shared):Option SharedT:=(pT s.heap.objs.toList .nil 0).map fun t=>⟨t,s.heap.objs.size,s.heap.life,s.gens,s.drawn,s.toks,s.os⟩
theorem po {s:Shared}{S:SharedT}(h:pn s=some S):S.abs=s:=by
 obtain⟨t,e,rfl⟩:=Option.map_eq_some_iff.mp h
 have i:=pTo s.heap.life e
 obtain⟨⟨objs,life⟩,gens,drawn,toks,os⟩:=s
 show Shared.mk (absHeap t objs.size life) gens drawn toks os = _
 have j:absHeap t objs.size life=⟨objs,life⟩:=by
  rw[Nat.zero_add] at i
  have k:(absHeap BT.nil 0 life).objs=#[]:=rfl
  simp only [k] at i
  rw[show objs.size=objs.toList.length from rfl,i]
  simp
 rw[j]
noncomputable def goT (st:SharedT->Thread->Option (SharedT × Thread)) (ok:Thread->Bool) (n:Nat):SharedT->Thread->Option SharedT:=
 @Nat.rec (λ_=>SharedT->Thread->Option SharedT) (λ_ _=>none) (λ_ ih s t=>bif through t then some s else bif ok t then (st s t).bind fun z=>ih z.1 z.2 else none) n
theorem gTo {tb:String->Option Builtin}{p:Program}{w:World}{m:Nat}{a:Option Value}:∀ {n:Nat}{s s' : SharedT}{t:Thread},goT (stepT (denote tb) p w) (stepOk m a) n s t=some s'->topRun tb p w m a n s.abs t=some s'.abs
 | 0,_,_,_,h=>nomatch h
 | n+1,s,s',t,h=>by
  have h' : (bif through t then some s else bif stepOk m a t then (stepT (denote tb) p w s t).bind fun z=>goT (stepT (denote tb) p w) (stepOk m a) n z.1 z.2 else none)=some s':=h
  unfold topRun
  cases e:through t with
  | true=>rw[e] at h';cases h';rfl
  | false =>
   rw[e] at h'
   cases e2:stepOk m a t with
   | false=>rw[e2] at h';cases h'
   | true=>
    rw[e2] at h'
    obtain⟨⟨s2,t2⟩,e3,e4⟩:=Option.bind_eq_some_iff.mp h'
    rw[stepT_spec e3]
    exact gTo e4
noncomputable def aT (tb:String->Option Builtin) (p:Program) (w:World) (N:Nat) (z:Shared):Option Shared:=
 bif z.heap.isNs mainGlobals&&z.gens.size == 0 then
  (pn z).bind fun S=>(goT (stepT (denote tb) p w) (stepOk z.heap.objs.size (z.heap.nsMap mainGlobals "__annotations__")) N S (topStub p)).bind fun y =>
   bif staticsOk (importedModules p.main.body) z.heap y.abs.heap&&namesBound p y.abs.heap&&gensDone y.abs&&laidKept z.heap y.abs.heap then some y.abs else none
 else none
theorem aTo {tb:String->Option Builtin}{p:Program}{w:World}{N:Nat}{z y:Shared}(h:aT tb p w N z=some y):topFrom tb p w N z=some y:=by
 unfold aT at h
 unfold topFrom
 cases e:(z.heap.isNs mainGlobals&&z.gens.size == 0) with
 | false=>rw[e] at h;cases h
 | true=>
  rw[e] at h
  obtain⟨S,e1,h⟩:=Option.bind_eq_some_iff.mp h
  obtain⟨Y,e2,h⟩:=Option.bind_eq_some_iff.mp h
  have r:=gTo e2
  rw[po e1] at r
  dsimp only
  rw[r]
  cases e3:(staticsOk (importedModules p.main.body) z.heap Y.abs.heap&&namesBound p Y.abs.heap&&gensDone Y.abs&&laidKept z.heap Y.abs.heap) with
  | false=>rw[e3] at h;cases h
  | true=>
   rw[e3] at h
   cases h
   show (match staticsOk (importedModules p.main.body) z.heap Y.abs.heap&&namesBound p Y.abs.heap&&gensDone Y.abs&&laidKept z.heap Y.abs.heap with | true=>_ | false=>_) = _
   rw[e3]
theorem l2 {p q:Program}{loose:List PySem.Str}{Xt:Shared->Bool}{α:Type}{Yf:Shared->α}{Ya:World->α}{N:Nat}{g0:Bool}
  (h1:∀ w,((fencedOpening treeTable p w N).bind (aT treeTable p w N)).map (λs=>openSeen q loose (importedModules p.main.body) Xt g0 s)=some (openGood q loose))
  (h2:∀ w,((fencedOpening treeTable p w N).bind (aT treeTable p w N)).map Yf=some (Ya w)):LeftO p q loose Xt Yf Ya N g0:=λw=>by
 obtain⟨s,e,e2⟩:=Option.map_eq_some_iff.mp (h1 w)
 have h3:=h2 w
 rw[e] at h3
 obtain⟨z,e3,e4⟩:=Option.bind_eq_some_iff.mp e
 unfold openEnds
 rw[e3]
 show (topFrom treeTable p w N z).map _ = _
 rw[aTo e4]
 show some (openSeen q loose (importedModules p.main.body) Xt g0 s,Yf s) = _
 rw[e2,show Yf s=Ya w from Option.some.inj h3]
theorem l1 {p q:Program}{loose:List PySem.Str}{Xt:Shared->Bool}{α:Type}{Yf:Shared->α}{Ya:World->α}{N:Nat}{g0:Bool}
  (h:∀ w,((fencedOpening treeTable p w N).bind (aT treeTable p w N)).map (λs=>(openSeen q loose (importedModules p.main.body) Xt g0 s,Yf s))=some (openGood q loose,Ya w)):LeftO p q loose Xt Yf Ya N g0:=
 l2 (λw=>by
  obtain⟨s,e,e2⟩:=Option.map_eq_some_iff.mp (h w)
  rw[e]
  exact congrArg some (Prod.mk.inj e2).1) (λw=>by
  obtain⟨s,e,e2⟩:=Option.map_eq_some_iff.mp (h w)
  rw[e]
  exact congrArg some (Prod.mk.inj e2).2)
end L2
section
open PySem PySem.W PyProof.Rows PySem.W.Fast
lay_quick PySem.Challenge.pw_calmwires_k73_the_wire_left_out
local macro_rules | `(tactic| refine $f:ident $as*) => do if (f.getId.toString.splitOn "holds_open").length > 1 then `(tactic| (refine' $f $as*; case' $(Lean.mkIdent `hl):ident => (refine' L2.l1 (fun w => ?_); unfold fencedOpening L2.aT; rw [show PySem.Challenge.rw_calmwires_k73_the_wire_left_out.row.prog = _ from te1181882263496341077,te10156331382660048174,te11892475500146522536,te6613529449190102663,te10274390034422433532,te14289696077712309145,te14364793385576792824,te1435165496053646825,te8920871248978507458,te4187177175401517315]; kernel_rfl!))) else Lean.Macro.throwUnsupported
set_option maxRecDepth 100000 in
set_option maxHeartbeats 0 in
open_top theTop for PySem.Challenge.rw_calmwires_k73_the_wire_left_out
end
open List (map_nil all_cons map_set filter_sublist)
open PySem.W (methodObj codeRec_of kla_obj kla_fn CodeHd tabIn tabObj)
open Nat (strongRecOn)
open PySem.Heap (ExtBut SameBut)
noncomputable section
set_option genSizeOf false
set_option bootstrap.genMatcherCode false
set_option maxRecDepth 100000
noncomputable abbrev C2(x:PySem.Str):Prop:=(x==("__debug__" : PySem.Str))=false
noncomputable abbrev Z0(n:PySem.Env)(e:PySem.Expr)(l:List PySem.Expr):Prop:=PySem.starEach (e::l) n=(false,PySem.eval e n)::PySem.starEach l n
noncomputable abbrev Z1(p:PySem.Pos)(n:PySem.Env)(l:List PySem.Expr):Prop:=(PySem.backTo p (PySem.starEach l n)).any (·.1)=false
local macro_rules|`(tactic|ext)=>`(tactic|first|exact .inl rfl|exact .inr rfl|exact .inr (.inl rfl)|exact .inr (.inr rfl)|assumption|decide +kernel|exact of_decide_eq_true (by kernel_rfl!))
noncomputable abbrev A1:=PySem.Value
noncomputable abbrev A2:=PySem.Addr
noncomputable abbrev A4:=PySem.Shared
noncomputable abbrev C0:=PySem.Around
noncomputable abbrev C1:=@Option
noncomputable abbrev Z:=@List
noncomputable abbrev C3:=PySem.Expr
noncomputable abbrev Df:=PySem.Stmt
noncomputable abbrev D1:=PySem.FuncData
noncomputable abbrev Fn:=PySem.Program
noncomputable abbrev Gf:=PySem.World
noncomputable abbrev H3:=PySem.Heap
noncomputable abbrev IA:=PySem.Scope
noncomputable abbrev I0:=PySem.Env
noncomputable def AA:=@PySem.wpAny_bind
noncomputable def AB:=@decide_eq_false
noncomputable def AC:=@List.getElem?_eq_some_iff
noncomputable def AD:=@List.mem_of_getElem?
noncomputable def AE:=@PySem.Heap.get?_push_of_some
noncomputable def AF:=@List.length_map
noncomputable def AG:=@decide_eq_true
noncomputable def AH:=@if_pos
noncomputable def AI:=@PySem.wpAny_pure
noncomputable def AJ:=@List.mem_singleton
noncomputable def AK:=@List.getElem?_eq_getElem
noncomputable def AL:=@List.getElem?_map
noncomputable def AM:=@if_neg
noncomputable def AN:=@List.length_append
noncomputable def AO:=@Nat.lt_of_lt_of_le
noncomputable def AQ:=@PySem.Heap.lt_size
noncomputable def AR:=@Ne.symm
noncomputable def AT:=@of_decide_eq_true
noncomputable def AU:=@Nat.le_refl
noncomputable def AV:=@List.size_toArray
noncomputable def AW:=@Bool.and_eq_true
noncomputable def AX:=@List.mem_cons_self
noncomputable def AY:=@PySem.Heap.get?_push_size
noncomputable def AZ:=@List.getElem?_set
noncomputable def BA:=@Nat.le_trans
noncomputable def BB:=@List.mem_cons_of_mem
noncomputable def BC:=@Option.some.inj
noncomputable def BD:=@List.mem_append_right
noncomputable def BE:=@PySem.Heap.get?_update_other
noncomputable def BF:=@PySem.wpAny_mono
noncomputable def BG:=@PySem.mem_of_lookup
noncomputable def BH:=@List.getElem?_append_left
noncomputable def BI:=@PySem.PassesOwn.never
noncomputable def BJ:=@List.length_cons
noncomputable def BK:=@List.mem_cons
noncomputable def BM:=@Nat.eq_of_testBit_eq
noncomputable def BN:=@List.length_set
noncomputable def BO:=@List.mem_append
noncomputable def BP:=@List.map_append
noncomputable def BQ:=@PySem.wpAny_holding
noncomputable def BR:=@Nat.ne_of_lt
noncomputable def BS:=@Int.toNat_natCast
noncomputable def BU:=@decide_eq_true_eq
noncomputable def BV:=@List.getElem?_append_right
noncomputable def BW:=@PySem.wpAny_field
noncomputable def BX:=@List.length_singleton
noncomputable def BY:=@Nat.pow_le_pow_right
noncomputable def BZ:=@List.mem_append_left
noncomputable def CA:=@PySem.Heap.get?_update_self
noncomputable def CB:=@PySem.wpAny_loadPart_at
noncomputable def CC:=@List.mem_range
noncomputable def CF:=@List.map_cons
noncomputable def CH:=@PySem.sizeLine_eq
noncomputable def CI:=@List.take_of_length_le
noncomputable def CJ:=@PySem.wpAny_newObj_type
noncomputable def CK:=@Or.inr
noncomputable def CL:=@List.getElem?_of_mem
noncomputable def CM:=@PySem.F.slot_list_append
noncomputable def CN:=@PySem.F.type_list_append
noncomputable def CO:=@beq_eq_false_iff_ne
noncomputable def CP:=@List.length_take
noncomputable def CQ:=@List.length_drop
noncomputable def CS:=@List.eraseIdx_eq_take_drop_succ
noncomputable def CT:=@List.nodup_cons
noncomputable def CU:=@Bool.false_ne_true
noncomputable def CV:=@PySem.wpAny_Call_Name_kw
noncomputable def CW:=@List.all_eq_true
noncomputable def CY:=@PySem.wpAny_standAt
noncomputable def CZ:=@Nat.zero_le
noncomputable def DA:=@Nat.eq_zero_or_pos
noncomputable def DB:=@Option.isSome_iff_exists
noncomputable def DC:=@Int.zero_add
noncomputable def DE:=@List.mem_filter
noncomputable def DF:=@Nat.lt_irrefl
noncomputable def DG:=@Nat.testBit_two_pow
noncomputable def DH:=@Or.inl
noncomputable def DI:=@beq_iff_eq
noncomputable def DJ:=@List.mem_map
noncomputable def DK:=@List.length_range
noncomputable def DL:=@Nat.testBit_lt_two_pow
noncomputable def DM:=@Nat.testBit_and
noncomputable def DN:=@List.drop_eq_getElem_cons
noncomputable def DO:=@Nat.le_succ
noncomputable def DP:=@Nat.testBit_or
noncomputable def DQ:=@Bool.and_eq_true_iff
noncomputable def DR:=@PySem.wpAny_callSpecial?_slot
noncomputable def DU:=@PySem.F.plainAttrs_list
noncomputable def DV:=@Nat.lt_or_ge
noncomputable def DW:=@Array.getElem?_eq_some_iff
noncomputable def DX:=@PySem.F.excBase_ValueError
noncomputable def DY:=@congrArg
noncomputable def DZ:=@List.nodup_nil
noncomputable def EB:=@PySem.wpAny_setField
noncomputable def EC:=@PySem.Obj.data_mapFields
noncomputable def ED:=@List.mem_or_eq_of_mem_set
noncomputable def EE:=@PyProof.Rows.slot_tuple_getitem
noncomputable def EF:=@List.lookup_cons
noncomputable def EG:=@PySem.wpAny_loadPart'
noncomputable def EH:=@Bool.eq_iff_iff
noncomputable def EI:=@List.length_replicate
noncomputable def EJ:=@Nat.le_of_lt
noncomputable def EK:=@PySem.wpAny_call_entry
noncomputable def EL:=@beq_self_eq_true
noncomputable def EM:=@List.idxOf_cons
noncomputable def EN:=@List.getElem?_replicate
noncomputable def EO:=@List.length_eq_zero_iff
noncomputable def EQ:=@Nat.not_lt
noncomputable def ER:=@PySem.Heap.size_push
noncomputable def ES:=@PyProof.Rows.callWith_type1
noncomputable def ET:=@PySem.wpAny_passesOwn
noncomputable def EU:=@Bool.or_eq_true
noncomputable def EV:=@PySem.F.slot_tuple_iterator_next
noncomputable def EW:=@PySem.wpAny_truthy_bool
noncomputable def EX:=@List.getElem?_eq_none_iff
noncomputable def EY:=@List.filterMap_cons
noncomputable def EZ:=@List.map_map
noncomputable def FA:=@Nat.lt_of_le_of_lt
noncomputable def FB:=@List.getElem?_eq_none
noncomputable def FC:=@List.take_append_drop
noncomputable def FD:=@PySem.codeAny_mono
noncomputable def FE:=@Array.length_toList
noncomputable def FF:=@PySem.wpAny_getItem_str_slice
noncomputable def FG:=@PySem.F.slot_list_index
noncomputable def FH:=@List.mem_replicate
noncomputable def FI:=@Bool.true_and
noncomputable def FJ:=@List.append_nil
noncomputable def FK:=@PySem.wpAny_call
noncomputable def FL:=@Bool.false_eq_true
noncomputable def FM:=@PySem.Heap.size_update
noncomputable def FN:=@List.take_succ_cons
noncomputable def FO:=@List.getElem?_range
noncomputable def FP:=@Bool.or_true
noncomputable def FQ:=@PySem.Heap.SameBut.update
noncomputable def FR:=@PySem.Obj.isFreed_of_fields
noncomputable def FS:=@Bool.xor_false
noncomputable def FT:=@List.count_cons_of_ne
noncomputable def FU:=@List.countP_eq_length_filter
noncomputable def FV:=@List.idxOf_lt_length_of_mem
noncomputable def FW:=@Prod.ext
noncomputable def FX:=@List.getElem?_cons
noncomputable def FY:=@Nat.mod_lt
noncomputable def FZ:=@Bool.or_false
noncomputable def GA:=@PySem.strLen_append
noncomputable def GB:=@List.getElem_mem
noncomputable def GC:=@Nat.testBit_xor
noncomputable def GD:=@PySem.codeAny_builtin
noncomputable def GE:=@List.pairwise_iff_getElem
noncomputable def GF:=@PyProof.Rows.get?_update_seq
noncomputable def GG:=@Nat.lt_pow_two_of_testBit
noncomputable def GH:=@Classical.byContradiction
noncomputable def GI:=@List.nodup_append
noncomputable def GJ:=@List.take_succ
noncomputable def GK:=@Nat.lt_succ_self
noncomputable def GL:=@PySem.wpAny_typeOf
noncomputable def GM:=@PySem.wpAny_pyIter_tuple
noncomputable def GN:=@PySem.W.callWith_K
noncomputable def GO:=@PySem.F.args_tuple_add_2
noncomputable def GP:=@PySem.Txt.slice_le
noncomputable def GQ:=@Nat.succ.inj
noncomputable def GR:=@PySem.F.slot_list_insert
noncomputable def GS:=@PySem.F.type_list_insert
noncomputable def GT:=@List.find?_cons
noncomputable def GU:=@List.mem_map_of_mem
noncomputable def GV:=@PySem.F.entry_tuple_add
noncomputable def GW:=@List.filter_cons_of_neg
noncomputable def GY:=@PySem.F.type_list_index
noncomputable def GZ:=@Option.some.injEq
noncomputable def HA:=@Nat.le_succ_of_le
noncomputable def HB:=@Bool.not_eq_true'
noncomputable def HC:=@Nat.two_pow_pos
noncomputable def HD:=@PySem.F.slot_tuple_add
noncomputable def HE:=@List.pairwise_cons
noncomputable def HF:=@List.count_pos_iff
noncomputable def HG:=@PyProof.Rows.listUpdate_at
noncomputable def HH:=@if_false
noncomputable def HI:=@Nat.succ_le_succ
noncomputable def HJ:=@Nat.not_lt_of_le
noncomputable def HK:=@Nat.zero_testBit
noncomputable def HL:=@LawfulBEq.eq_of_beq
noncomputable def HM:=@PySem.codeAny_handlers_test
noncomputable def HN:=@List.reverse_cons
noncomputable def HP:=@List.append_assoc
noncomputable def HQ:=@List.ext_getElem?
noncomputable def HR:=@PySem.Heap.get?_none_of_le
noncomputable def HS:=@List.getElem?_set_ne
noncomputable def HU:=@PySem.wpAny_execs_nil
noncomputable def HV:=@PySem.Around.frames_deeper
noncomputable def HW:=@Option.map_some
noncomputable def HX:=@PySem.post_val_or_str
noncomputable def HY:=@List.getElem?_append
noncomputable def HZ:=@Nat.pow_lt_pow_right
noncomputable def IB:=@List.count_cons_self
noncomputable def IC:=@PySem.wpAny_isSubtype_exc
noncomputable def ID:=@List.length_reverse
noncomputable def IE:=@PySem.Heap.get?_update_ne
noncomputable def IF:=@PySem.wpAny_handleBy_cons
noncomputable def IG:=@List.any_cons
noncomputable def IH:=@List.filter_sublist
noncomputable def II:=@PySem.W.cellsFrom_some
noncomputable def IJ:=@PySem.wpAny_seqItems
noncomputable def IK:=@PySem.Code.quiet_builtin
noncomputable def IL:=@List.filterMap_map
noncomputable def IM:=@Array.all_eq_true'
noncomputable def IN:=@List.Perm.cons_inv
noncomputable def IP:=@List.getElem?_drop
noncomputable def IQ:=@List.getElem?_take
noncomputable def IR:=@List.filter_append
noncomputable def IS:=@PySem.wpAny_attempt
noncomputable def IT:=@PySem.Paired.length
noncomputable def IU:=@PySem.wpAny_newList
noncomputable def IV:=@PySem.wpAny_pyIter_list
noncomputable def IW:=@PySem.wpAny_pyIter_enum
noncomputable def IX:=@List.foldl_append
noncomputable def IY:=@List.count_append
noncomputable def IZ:=@List.of_mem_zip
noncomputable def JA:=@Nat.mul_le_mul
noncomputable def JB:=@PySem.wpAny_rule
noncomputable def JC:=@True.intro
noncomputable def JD:=@if_true
noncomputable def JE:=@PySem.wpAny_isInstance
noncomputable def JF:=@PySem.noFill_tuple_add
noncomputable def JG:=@Option.getD_some
noncomputable def JH:=@PyProof.Rows.listItems_at
noncomputable def JI:=@List.any_eq_true
noncomputable def JJ:=@Nat.not_le_of_lt
noncomputable def JK:=@List.forIn_cons
noncomputable def JL:=@List.length_nil
noncomputable def JM:=@PySem.wpAny_specialOf
noncomputable def JN:=@Nat.min_eq_left
noncomputable def JO:=@List.count_cons
noncomputable def JP:=@PySem.wpAny_of_eq
noncomputable def JQ:=@PySem.seqIndex_of
noncomputable def JR:=@PySem.wpAny_runValue
noncomputable def JS:=@Bool.false_and
noncomputable def JT:=@PySem.arm_exec_Raise
noncomputable def JU:=@List.map_take
noncomputable def JV:=@List.map_drop
noncomputable def JW:=@Nat.le_of_eq
noncomputable def JX:=@PySem.call_meets
noncomputable def JZ:=@PySem.wpAny_handled
noncomputable def KA:=@PySem.seq_tuple_add
noncomputable def KB:=@Bool.and_true
noncomputable def KC:=@Bool.and_self
noncomputable def KD:=@List.drop_zero
noncomputable def KF:=@List.take_zero
noncomputable def KG:=@Nat.ne_of_gt
noncomputable def KH:=@PySem.concat_meets
noncomputable def KI:=@PySem.seqIndex_neg
noncomputable def KJ:=@Nat.zero_add
noncomputable abbrev KN:=PySem.Value->PySem.Shared->Prop
noncomputable abbrev J1:=PySem.W.Frag
noncomputable abbrev KL:=Z (PySem.Addr×PySem.Obj)
noncomputable abbrev KP:=PySem.Str->C1 PySem.Value
variable{prog P:PySem.Program}{w:PySem.World}{A:PySem.Around}{E:KN}{h h' base:PySem.Heap}{g:Z PySem.Value->Z PySem.Value->Z PySem.Value}{nm:C1 PySem.Str}{q name m ah:PySem.Str}{C it l f dx:PySem.Addr}{bm aj its us ds its':Z PySem.Value}{hdct ab:Bool}{sn ps ks:Z PySem.Str}{col:C1 Bool}{dd an od:C1 PySem.Addr}{k0 k1 k2 k3 k5:C1 PySem.Value}{B:Prop}{newId T:String}{mN mA mg:KP}{Q:Unit->PySem.Shared->Prop}{env:PySem.Env}{s s' s1:PySem.Shared}{e tg iter ao:PySem.Expr}{vs ve ac:Array PySem.Value}{α:Type}{i t' j tk:Nat}{u cd ap pm ai ct oc vl vu:PySem.Value}{aM ex ex' ch fp:Z PySem.Addr}{aa:KL}{pos al p aB au aD ak:PySem.Pos}{op:PySem.CmpOp}{xs:Z α}{K:J1}{es:Z PySem.Expr}{body:Z PySem.Stmt}{lo hi:C1 Int}{kw:Z (PySem.Str×PySem.Value)}{outer:Z PySem.Env}{fd:PySem.FuncData}{sc scope psc:PySem.Scope}{cells:Z (PySem.Str×PySem.Addr)}
namespace L2
open PySem
section
variable{g:Array GenState}{d:Drawn}{t:Nat}{os:OsState}
variable{nm:Str}{N:A2}{bs aE:Z A1}{sub:Z A1}{B Bn aK aF aN:String}{aO:Z A1}
theorem N1(k:ExcBaseFacts Bn newId aN aO)(a:aE.contains (.type Bn)=true)(F:ExcBaseFacts B aK aF aE)(T:OwnTail h aE bm){fI:A2}{l:Obj}{Q:Fin->A4->Prop}
   (R:h.get? C=some (excClassObj nm q C N bs bm hdct sn sub ab col dd k0 k1 k2 k3 k5 newId)) (hn:h.Ns N mN) (hi:mN "__init__" = some (.ref fI))
   (f:h.get? fI=some l) (m:l.cls=.type "function")
   (hq:∀ h' e,h.objs.size<=e->Heap.MadeExcOf h h' e (.ref C) aj ->
     wpAny (model prog w) A (call (.ref fI) (.ref e::aj)) (λr s'=>r=.none/\Q (.done (.ret (.ref e))) s') E ⟨h',g,d,t,os⟩) (hrest:aj.length<=sizeLine:=by size_fits) :
   wpAny (model prog w) A (Builtin.«type.__call__» ⟨.ref C::aj,[]⟩) Q E ⟨h,g,d,t,os⟩:=by
 repeat (first | with_reducible refine CB R ?_ | with_reducible refine wpAny_madeBy_exc R ?_ | wp_step)
 refine codeAny_call_builtin_code (IK _ k.quiet) (wpAny_check_new_subU k a T R ?_);refine codeAny_exc_new_subU k a F T R ?_ hrest;show wpAny _ _ _ _ _ _;have hC₁:=AE { cls:=.ref C,data:=.fields #[.ref h.objs.size,.none,.none,.none,.bool false,.none] }
   (AE { cls:=.type "tuple",data:=.seq aj.toArray } R)
 have hfI₁:=AE { cls:=.ref C,data:=.fields #[.ref h.objs.size,.none,.none,.none,.bool false,.none] }
   (AE { cls:=.type "tuple",data:=.seq aj.toArray } f)
 have hn₁:((h.push { cls:=.type "tuple",data:=.seq aj.toArray }).push { cls:=.ref C,data:=.fields #[.ref h.objs.size,.none,.none,.none,.bool false,.none] }).Ns N mN :=
   let ⟨o,es,ep,e,r⟩:=hn;⟨o,es,ep,AE _ (AE _ e),r⟩
 have c:((h.push { cls:=.type "tuple",data:=.seq aj.toArray }).push
     { cls:=.ref C,data:=.fields #[.ref h.objs.size,.none,.none,.none,.bool false,.none] }).get? (h.objs.size+1)=some
     { cls:=.ref C,data:=.fields #[.ref h.objs.size,.none,.none,.none,.bool false,.none] }:=by heap_get
 have i:(Value.ref C::bm).contains (.ref C)=true:=by simp
 have T₁:=T.keeps (h':=(h.push { cls:=.type "tuple",data:=.seq aj.toArray }).push { cls:=.ref C,data:=.fields #[.ref h.objs.size,.none,.none,.none,.bool false,.none] })
   λb o e=>AE _ (AE _ e)
 unfold isInstance;repeat (first | with_reducible refine CB c ?_ | (with_reducible refine IC hC₁ ?_;rw[i]) | wp_step)
 show wpAny _ _ (typeLookup (.ref C) _) _ _ _;refine wpAny_typeLookup_tail hC₁ hn₁ T₁ F.mroIs F.init.lookup ?_;rw[hi];refine BQ (AA ?_);unfold bindSpecial;refine AA (GL (T:="function") ⟨_,hfI₁,m⟩ ?_);rw[AH (by decide)];refine AI (AA (BF (hq _ (h.objs.size+1) (DO _) ⟨λb o hb=>AE _ (AE _ hb),HR (DO _),h.objs.size,c,HR (AU _),?_⟩) (λr s' hr=>?_) λ_ _ x=>x))
 · exact AE _ (Heap.get?_push_at rfl rfl)
 · obtain⟨rfl,j⟩:=hr
   wp_walk
   exact j
theorem Os(k:ExcBaseFacts Bn newId aN aO)(a:aE.contains (.type Bn)=true)(F:ExcBaseFacts B aK aF aE)(T:OwnTail h aE bm){fI:A2}{l:Obj}{Q:KN}
  (R:h.get? C=some (excClassObj nm q C N bs bm hdct sn sub ab col dd k0 k1 k2 k3 k5 newId)) (hn:h.Ns N mN) (hi:mN "__init__" = some (.ref fI))
  (f:h.get? fI=some l) (m:l.cls=.type "function")
  (hq:∀ h' e,h.objs.size<=e->Heap.MadeExcOf h h' e (.ref C) aj ->
   wpAny (model prog w) (A.under (.builtin "type.__call__" ⟨.ref C::aj,[]⟩)) (call (.ref fI) (.ref e::aj)) (λr s'=>r=.none/\Q (.ref e) s') E ⟨h',g,d,t,os⟩) (hrest:aj.length<=sizeLine:=by size_fits) :
  wpAny (model prog w) A (call (.ref C) aj) Q E ⟨h,g,d,t,os⟩:=by
 have f1:=tc_lookup;have f2:=tc_bind (.ref C);have hT:(⟨h,g,d,t,os⟩:A4).TypeIs (.ref C) "type" := ⟨_,R,rfl⟩;refine FK (codeAny_of_tree ?_);show wpAny _ _ (callAny (.ref C) _) _ _ _;repeat (any_goals (first | assumption | with_reducible refine CB R ?_ | wp_step))
 refine⟨rfl,?_⟩;refine codeAny_call_builtin_at (IK _ (by ext)) entry_typeCall (wpAny_check_type_call_sub R (N1 (hrest:=hrest) k a F T R hn hi f m λh' e i hm=>?_));exact hq h' e i hm
end
section
variable{M:Model}
variable{nm:Str}{N:A2}{bs:Z A1}{sub:Z A1}
theorem L7{x:Sem A1}{Q:Flow->A4->Prop}(u:bm.contains (.type "BaseException")=true)(hh:A.handled=none)
   (h:wpAny M A x (λv s₁=>∃ e a dct,v=.ref e/\s₁.heap.get? C=some (excClassObj nm q C N bs bm hdct sn sub ab col dd k0 k1 k2 k3 k5 newId) /\
     s₁.heap.get? e=some { cls:=.ref C,dict:=dct,data:=.fields #[a,.none,.none,.none,.bool false,.none] }/\E (.ref e) s₁) E s) :
   wpAny M A (raiseStmt env (some x) none) Q E s:=by
 have p:(Value.ref C::bm).contains (.type "BaseException")=true:=by rw[List.contains_cons,u,FP]
 unfold raiseStmt;refine AA (BF h (λv s₁ h₁=>?_) λ_ _ x=>x);obtain⟨e,a,dct,rfl,R,he,n⟩:=h₁;obtain⟨hp,g,d,tk,os⟩:=s₁;repeat (first | with_reducible refine CB he ?_ | with_reducible refine CB R ?_ | (with_reducible refine IC R ?_;rw[p]) | wp_step)
 exact wpAny_raiseNew_none hh n
end
theorem M4:entryFor table "proto.unchain" = some Builtin.«proto.unchain» := entryFor_of_fast (by kernel_rfl)
noncomputable def ChX(h:H3)(e:A2):Prop:=∃ oe ve,h.get? e=some oe/\oe.data=.fields ve/\(ve[2]?=some .none\/∃ e2 o2 v2,ve[2]?=some (.ref e2)/\h.get? e2=some o2/\o2.data=.fields v2/\v2[2]?=some .none)
theorem ChX.at{e:A2}(c:ChX h e)(k:∀ a o v x,h.get? a=some o->o.data=.fields v->v[2]?=some x->h'.get? a=some o):ChX h' e:=by
 obtain⟨o,v,a1,a2,a3⟩:=c;refine⟨o,v,?_,a2,a3.imp id λzz=>by obtain⟨e2,o2,v2,b1,b2,b3,b4⟩:=zz;exact⟨e2,o2,v2,b1,k _ _ _ _ b2 b3 b4,b3,b4⟩⟩;rcases a3 with z | ⟨_,_,_,z,_⟩
 .exact k _ _ _ _ a1 a2 z
 .exact k _ _ _ _ a1 a2 z
theorem Hv{e h:A2}{o:Obj}{Q:KN}(ho:s.heap.get? h=some o)(hd:o.data=.fields vs)(hc:vs[2]?=some .none)(hq:Q .none s) :
  wpAny (model prog w) A (runValue (.builtin "proto.unchain" ⟨[.ref e,.ref h,.ref h,.bool false],[]⟩)) Q E s:=by
 refine JR (GD M4 ?_);unfold Builtin.«proto.unchain»;refine AA (BW ho hd hc ?_);exact AI hq
theorem At{e h:A2}{oe oh:Obj}{vh:Array A1}{Q:α->A4->Prop}(hh:A.handled=some (.ref h))(ne:h≠e)(he:s.heap.get? e=some oe)(p:oe.data=.fields ve)(h2:2<ve.size)
  (ho:s.heap.get? h=some oh) (c:oh.data=.fields vh) (hc:vh[2]?=some .none) (n:E (.ref e) { s with heap:=s.heap.update e (Obj.mapFields (·.setIfInBounds 2 (.ref h))) }):wpAny (model prog w) A (raiseNew (.ref e):Sem α) Q E s:=by
 unfold raiseNew;refine AA (JZ ?_);rw[hh];have ae:(Value.ref h != Value.ref e)=true:=by
  simp only[bne_iff_ne,ne_eq];intro z;cases z;exact ne rfl
 dsimp only;rw[AH ae];refine AA (BQ (Hv ho c hc ?_));show wpAny _ _ (setField (.ref e) 2 (.ref h) >>= _) _ _ _;refine AA (BF (EB (x:=.ref h) he p h2 (Q:=λ_ s'=>s'={ s with heap:=s.heap.update e (Obj.mapFields (·.setIfInBounds 2 (.ref h))) }) rfl) (λ_ s' z=>?_) λ_ _ x=>x);rw[z];exact wpAny_throw n
theorem iY{e h:A2}{Q:KN}(hc:ChX s.heap h)(hn:∀ o v e2 o2 v2,s.heap.get? h=some o->o.data=.fields v->v[2]?=some (.ref e2)->s.heap.get? e2=some o2->o2.data=.fields v2->e2≠e)(hq:Q .none s) :
  wpAny (model prog w) A (runValue (.builtin "proto.unchain" ⟨[.ref e,.ref h,.ref h,.bool false],[]⟩)) Q E s:=by
 obtain⟨oe,ve,h1,h2,h3 | ⟨e2,o2,v2,h3,h4,F,S⟩⟩:=hc
 .exact Hv h1 h2 h3 hq
 have n1:(Value.ref e2==Value.ref e)=false:=by
  have:=hn oe ve e2 o2 v2 h1 h2 h3 h4 F;simpa using this
 have n2:(Value.ref e2==Value.ref h)=false:=by
  have:e2≠h:=λz=>by
   subst z;rw[h1] at h4;cases h4;rw[h2] at F;cases F;rw[h3] at S;cases S
  simpa using this
 refine JR (GD M4 ?_);unfold Builtin.«proto.unchain»;refine AA (BW h1 h2 h3 ?_);rw[AM (show ¬ ((Value.ref e2==Value.none)=true) from by simp),AM (by rw[n1];simp),AM (by rw[n2];simp)];refine AA (AI ?_);refine AI ⟨plainId_quiet (by ext) _,GD M4 ?_⟩;unfold Builtin.«proto.unchain»;refine AA (BW h4 F S ?_);exact AI hq
theorem Z0r{e h:A2}{oe:Obj}{Q:α->A4->Prop}{h0:H3}(hh:A.handled=some (.ref h))(he:s.heap.get? e=some oe)(p:oe.data=.fields ve)(h2:2<ve.size)(hc:ChX h0 h)(hk:∀ a o v x,h0.get? a=some o->o.data=.fields v->v[2]?=some x->s.heap.get? a=some o/\a≠e)
  (n:E (.ref e) { s with heap:=s.heap.update e (Obj.mapFields (·.setIfInBounds 2 (.ref h))) }):wpAny (model prog w) A (raiseNew (.ref e):Sem α) Q E s:=by
 have F:ChX s.heap h:=hc.at λa o v x a1 a2 a3=>(hk a o v x a1 a2 a3).1
 obtain⟨o',t,a1,a2,a3⟩:=hc;obtain⟨b1,ne⟩:s.heap.get? h=some o'/\h≠e:=by
  rcases a3 with z | ⟨_,_,_,z,_⟩
  .exact hk _ _ _ _ a1 a2 z
  .exact hk _ _ _ _ a1 a2 z
 unfold raiseNew;refine AA (JZ ?_);rw[hh];have ae:(Value.ref h != Value.ref e)=true:=by
  simp only[bne_iff_ne,ne_eq];intro z;cases z;exact ne rfl
 dsimp only;rw[AH ae];refine AA (BQ (iY F (λo v e2 o2 v2 c1 c2 q c4 r=>?_) ?_))
 .rw[b1] at c1;cases c1
  rw[a2] at c2;cases c2;rcases a3 with a3 | ⟨e3,o3,v3,T,d2,g,b⟩
  .rw[q] at a3;cases a3
  .rw[q] at T;cases T
   exact(hk _ _ _ _ d2 g b).2
 show wpAny _ _ (setField (.ref e) 2 (.ref h) >>= _) _ _ _;refine AA (BF (EB (x:=.ref h) he p h2 (Q:=λ_ s'=>s'={ s with heap:=s.heap.update e (Obj.mapFields (·.setIfInBounds 2 (.ref h))) }) rfl) (λ_ s' z=>?_) λ_ _ x=>x);rw[z];exact wpAny_throw n
theorem Po{h:A2}{Q:C1 A1->A4->Prop}(hh:A.handled=some (.ref h))(S:ChX s.heap h)
   (c:s.heap.IsListIter it l i) (hl:s.heap.IsList l ac) (hx:ac[i]?=none)
   (j:∀ h',ExtBut it s.heap h'->Q none { s with heap:=h' }):wpAny (model prog w) A (pyNext (.ref it)) Q E s:=by
 obtain⟨o,ho,hc,hd⟩:=id c;obtain⟨g,d,_,k,u⟩:=hl;unfold pyNext;refine AA (IS (DR (name:=Str.ofString "__next__") c.typeIs slot_listiter_next
   (EK slot_listiter_next c.typeIs entry_listiter_next ?_ (args_listiter_next _))))
 show wpAny _ _ (field (.ref it) 0 >>= _) _ _ s;refine AA (BW ho hd (x:=.ref l) rfl ?_);show wpAny _ _ (if(Value.ref l==Value.none)=true then _ else _) _ _ s;rw[AM (show ¬ ((Value.ref l==Value.none)=true) from CU)];show wpAny _ _ (field (.ref it) 1 >>= _) _ _ s;refine AA (BW ho hd (x:=.int i 0) rfl ?_);show wpAny _ _ (seqItems? (.ref l) >>= _) _ _ s;refine AA (IJ d u ?_);simp only[BS,hx];refine AA (JB (AA (EB ho hd (by simp) ?_)));show wpAny _ _ (newExc (.type "StopIteration") [] >>= _) _ _ _;refine AA ?_;simp only[newExc,newTuple];refine AA (CJ ?_ (by size_fits));refine AA (m:=firstArgMember _ _) (JP (a:=Value.none) (by first | rfl | (simp only[firstArgMember];rfl)) ?_);refine CJ ?_ (by size_fits);have sz:∀ {f:Obj->Obj},(s.heap.update it f).objs.size=s.heap.objs.size:=λ{f}=>by simp[Heap.update]
 have ah:∀ {f:Obj->Obj} {o1:Obj} {b:A2} {ob:Obj},s.heap.get? b=some ob->b≠((s.heap.update it f).push o1).objs.size:=λ{f o1 b ob} q z=>by
   have:=AQ q;rw[z,ER,sz] at this;exact absurd this (EQ.mpr (DO _))
 refine Z0r (A:=A.in1) (h:=h) (h0:=s.heap) hh (AY _ rfl) rfl (by simp;lia) S (λa o' v x a1 a2 a3=>⟨?_,ah a1⟩) ?_
 · have ae:it≠a:=λz=>by
     subst z;rw[ho] at a1;cases a1;rw[hd] at a2;cases a2;simp at a3
   exact AE _ (AE _ ((BE _ _ ae).trans a1))
 refine AA (JE (T:="StopIteration") (b:=true) ⟨_,CA _ (AY _ rfl) rfl,rfl⟩ isSubtype_stop ?_);refine AI (j _ λb ob hb eo=>?_);exact(BE _ _ (ah eo).symm).trans (AE _ (AE _ ((BE _ _ (AR hb)).trans eo)))
theorem dk{nm:Str}{N h:A2}{bs:Z A1}{sub:Z A1}{x o:Sem A1}{Q:Flow->A4->Prop}(u:bm.contains (.type "BaseException")=true)(hh:A.handled=some (.ref h))
   (hx:wpAny (model prog w) A x (λv s₁=>∃ e a dct,v=.ref e/\s₁.heap.get? C=some (excClassObj nm q C N bs bm hdct sn sub ab col dd k0 k1 k2 k3 k5 newId) /\
     s₁.heap.get? e=some { cls:=.ref C,dict:=dct,data:=.fields #[a,.none,.none,.none,.bool false,.none] }/\h≠e/\(∃ oh vh,s₁.heap.get? h=some oh/\oh.data=.fields vh/\vh[2]?=some .none) /\
     wpAny (model prog w) A o (λt s₂=>t=.none/\s₂.heap=s₁.heap/\∀ h',(∀ b,b≠e->h'.get? b=s₁.heap.get? b)->h'.get? e=some { cls:=.ref C,dict:=dct,data:=.fields #[a,.none,.ref h,.none,.bool true,.none] }->h'.objs.size=s₁.heap.objs.size->E (.ref e) { s₂ with heap:=h' }) E s₁) E s) :
   wpAny (model prog w) A (raiseStmt env (some x) (some o)) Q E s:=by
 have p:(Value.ref C::bm).contains (.type "BaseException")=true:=by rw[List.contains_cons,u,FP]
 unfold raiseStmt;refine AA (BF hx (λv s₁ h₁=>?_) λ_ _ x=>x);obtain⟨e,a,dct,rfl,R,he,ae,⟨oh,vh,ho,c,hc⟩,hz⟩:=h₁;refine AA (BQ (BF hz (λt s₂ h₂=>?_) λ_ _ x=>x));obtain⟨rfl,k,n⟩:=h₂;obtain⟨hp,g,d,tk,os⟩:=s₂;have i:hp=s₁.heap:=k;subst i;repeat (first | with_reducible refine CB he ?_ | with_reducible refine CB R ?_ | (with_reducible refine IC R ?_;rw[p]) | wp_step)
 have j:e≠C:=by
   intro z;subst z;rw[he] at R;injection R with R
   have:=DY Obj.data R;simp[excClassObj] at this
 have l:((s₁.heap.update e (Obj.mapFields λx=>x.setIfInBounds 3 Value.none)).update e (Obj.mapFields λx=>x.setIfInBounds 4 (Value.bool true))).get? C=some (excClassObj nm q C N bs bm hdct sn sub ab col dd k0 k1 k2 k3 k5 newId):=by
   rw[BE _ _ j,BE _ _ j];exact R
 have f:((s₁.heap.update e (Obj.mapFields λx=>x.setIfInBounds 3 Value.none)).update e (Obj.mapFields λx=>x.setIfInBounds 4 (Value.bool true))).get? e=some { cls:=.ref C,dict:=dct,data:=.fields #[a,.none,.none,.none,.bool true,.none] } :=
   CA _ (CA _ he rfl) rfl
 have m:((s₁.heap.update e (Obj.mapFields λx=>x.setIfInBounds 3 Value.none)).update e (Obj.mapFields λx=>x.setIfInBounds 4 (Value.bool true))).get? h=some oh:=by
   rw[BE _ _ (AR ae),BE _ _ (AR ae)];exact ho
 repeat (first | with_reducible refine CB l ?_ | with_reducible refine CB f ?_ | wp_step)
 refine At hh ae f rfl (by show 2<6;decide) m c hc ?_;refine n _ (λb hb=>?_) (CA _ f rfl) ?_
 · show(((s₁.heap.update e _).update e _).update e _).get? b=_
   rw[BE _ _ (AR hb),BE _ _ (AR hb),BE _ _ (AR hb)]
 · show(((s₁.heap.update e _).update e _).update e _).objs.size=_
   simp[Heap.update]
end L2
variable{aj:Z PySem.Expr}{tn:Nat->PySem.Heap->Prop}
namespace L2
open PySem PySem.Spec PyProof.Rows
noncomputable abbrev Vn:=Sum Int Str
noncomputable def Xe:Vn->A1->Bool
 | .inl k,v=>Value.isInt k v
 | .inr x,v=>Value.isStrOf x v
noncomputable def kT(w:Gf):Vn->Int
 | .inl k=>hashInt k
 | .inr x=>hashStr w x
theorem Wv:∀ {k:Vn} {v:A1},Xe k v=true->(∃ i t,k=Sum.inl i/\v=Value.int i t)\/(∃ x t,k=Sum.inr x/\v=Value.str x t)
 | .inl i,v,h=>by
  obtain⟨t,e⟩:=Value.isInt_shape (k:=i) (v:=v) h;exact .inl ⟨i,t,rfl,e⟩
 | .inr x,v,h=>by
  obtain⟨t,e⟩:=Value.isStrOf_shape (x:=x) (v:=v) h;exact .inr ⟨x,t,rfl,e⟩
theorem jM(i:Int)(t:Tok):Xe (.inl i) (.int i t)=true:=by simp[Xe,Value.isInt]
theorem mP(x:Str)(t:Tok):Xe (.inr x) (.str x t)=true:=by simp[Xe,Value.isStrOf]
theorem cP(a b:Int):decide ((Sum.inl a:Vn)=Sum.inl b)=(a==b):=by
 by_cases e:a=b
 .subst e;simp
 .have h:¬ (Sum.inl a:Vn)=Sum.inl b:=λq=>e (Sum.inl.inj q)
  rw[AB h];exact(CO.mpr e).symm
theorem e7(a b:Str):decide ((Sum.inr a:Vn)=Sum.inr b)=decide (a=b):=by
 by_cases e:a=b
 .subst e;simp
 .have h:¬ (Sum.inr a:Vn)=Sum.inr b:=λq=>e (Sum.inr.inj q)
  rw[AB h,AB e]
theorem dh(a:Int)(b:Str):decide ((Sum.inl a:Vn)=Sum.inr b)=false:=AB (λq=>nomatch q)
theorem kr(a:Str)(b:Int):decide ((Sum.inr a:Vn)=Sum.inl b)=false:=AB (λq=>nomatch q)
noncomputable def Vf(prog:Fn)(w:Gf):PySem.KeyKind prog w Vn where
 is:=Xe
 hash:=kT w
 inj:=λv a b ha hb=>by
  rcases Wv ha with⟨i,t,rfl,rfl⟩ | ⟨x,t,rfl,rfl⟩
  .rcases Wv hb with⟨j,u,rfl,e⟩ | ⟨y,u,rfl,e⟩
   .injection e with e1 _;rw[e1]
   .exact nomatch e
  .rcases Wv hb with⟨j,u,rfl,e⟩ | ⟨y,u,rfl,e⟩
   .exact nomatch e
   .injection e with e1 _;rw[e1]
 byValue:=λk v h=>by
  rcases Wv h with⟨i,t,rfl,rfl⟩ | ⟨x,t,rfl,rfl⟩<;>rfl
 pyHash:=λhv h=>by
  rcases Wv hv with⟨i,t,rfl,rfl⟩ | ⟨x,t,rfl,rfl⟩
  .exact wpAny_pyHash_int h
  .exact wpAny_pyHash_str h
 eqBool:=λC hv h=>by
  rcases Wv C with⟨i,t,rfl,rfl⟩ | ⟨x,t,rfl,rfl⟩
  .rcases Wv hv with⟨j,u,rfl,rfl⟩ | ⟨y,u,rfl,rfl⟩
   .rw[cP] at h;exact wpAny_eqBool_int h
   .rw[dh] at h;exact SeqAt.EqAt.int_str i t y u _ _ _ _ h
  .rcases Wv hv with⟨j,u,rfl,rfl⟩ | ⟨y,u,rfl,rfl⟩
   .rw[kr] at h;exact SeqAt.EqAt.str_int x t j u _ _ _ _ h
   .rw[e7] at h;exact wpAny_eqBool_str h
 «strs» :=λk x t v h=>by
  rcases Wv h with⟨i,u,rfl,e⟩ | ⟨y,u,rfl,e⟩
  .exact nomatch e
  .injection e with e1 _
   subst e1;cases v<;>rfl
theorem gM(prog:Fn)(w:Gf)(i:Int)(t:Tok):(Vf prog w).is (.inl i) (.int i t)=true:=jM i t
theorem kO(prog:Fn)(w:Gf)(x:Str)(t:Tok):(Vf prog w).is (.inr x) (.str x t)=true:=mP x t
inductive V where
 | non | bl (b:Bool) | int (i:Int) | str (x:Str) | byt (b:Array UInt8) | flt (b:UInt64) | ref (a:Addr) | ty (n:String)
 deriving DecidableEq
noncomputable def Yr:V->A1->Prop
 | .non,u=>u=Value.none
 | .bl b,u=>u=Value.bool b
 | .int i,u=>∃ t,u=Value.int i t
 | .str x,u=>∃ t,u=Value.str x t
 | .byt b,u=>∃ t,u=Value.bytes b t
 | .flt b,u=>∃ t,u=Value.float b t
 | .ref a,u=>u=Value.ref a
 | .ty n,u=>u=Value.type n
noncomputable abbrev Y5:Z V->Z A1->Prop:=Paired Yr
theorem Y5.length{xs:Z V}{us:Z A1}(r:Y5 xs us):xs.length=us.length:=IT r
theorem Y5.get:∀ {xs:Z V} {us:Z A1} {i:Nat} {x:V},Y5 xs us->xs[i]?=some x->∃ u,us[i]?=some u/\Yr x u
 | _,_,_,_,.nil,e=>by simp at e
 | _,_,0,_,.cons r _,e=>by simp at e;subst e;exact⟨_,rfl,r⟩
 | _,_,i+1,x,.cons _ t,e=>by
  obtain⟨u,h1,h2⟩:=Y5.get (i:=i) (x:=x) t (by simpa using e);exact⟨u,by simpa using h1,h2⟩
theorem Y5.set{x:V}(r:Yr x u):∀ {xs:Z V} {us:Z A1} (i:Nat),Y5 xs us->Y5 (xs.set i x) (us.set i u)
 | _,_,_,.nil=>.nil
 | _,_,0,.cons _ t=>.cons r t
 | _,_,i+1,.cons q t=>.cons q (Y5.set r i t)
theorem Y5.append:∀ {xs ys:Z V} {us ws:Z A1},Y5 xs us->Y5 ys ws->Y5 (xs++ys) (us++ws)
 | _,_,_,_,.nil,s=>s
 | _,_,_,_,.cons r t,s=>.cons r (Y5.append t s)
theorem Y5.take:∀ {xs:Z V} {us:Z A1} (n:Nat),Y5 xs us->Y5 (xs.take n) (us.take n)
 | _,_,0,_=>.nil
 | _,_,_+1,.nil=>.nil
 | _,_,n+1,.cons r t=>.cons r (Y5.take n t)
theorem Y5.drop:∀ {xs:Z V} {us:Z A1} (n:Nat),Y5 xs us->Y5 (xs.drop n) (us.drop n)
 | _,_,0,r=>r
 | _,_,_+1,.nil=>.nil
 | _,_,n+1,.cons _ t=>Y5.drop n t
noncomputable def Om:C1 V->C1 A1->Prop
 | some v,some u=>Yr v u
 | none,none=>True
 | _,_=>False
noncomputable def KV{κ:Type}:Z (κ×V)->Z (κ×A1)->Prop:=Paired λ(p:κ×V) (q:κ×A1)=>p.1=q.1/\Yr p.2 q.2
noncomputable def kV:Vn->V
 | .inl i=>.int i
 | .inr x=>.str x
inductive HO where
 | lst (xs:List V)
 | tup (xs:List V)
 | dK (kvs:List (Vn×V)) | dT (kvs:List (List Vn×V))
 | set (S:Int->Bool) (n:Nat)
 | ins (C dx:Addr) (fs:List (Str×V))
 | own (x:Addr)
 | xd (fs:List (Str×V))
 | met (f x:Addr)
 | rng (lo hi:Int)
 | frz (o:Obj) (u:HO)
 | tbl (ps:Array Value)
 | ext (φ:Heap->Prop)
noncomputable abbrev Hp:=A2->C1 HO
noncomputable def W5(H:Hp)(a:A2)(o:HO):Hp:=λb=>if b=a then some o else H b
theorem Zp{H:Hp}{a:A2}{o:HO}:W5 H a o a=some o:=by unfold W5;rw[AH rfl]
theorem Zh{H:Hp}{a b:A2}{o:HO}(h:b≠a):W5 H a o b=H b:=by unfold W5;rw[AM h]
theorem cG{H:Hp}{a b:A2}{o u:HO}(h:H a=some o)(h':H b=some u)(d:o≠u):a≠b:=by
 intro e;subst e;rw[h] at h';exact d (BC h')
variable{H H':Hp}{l:C3}
theorem Y3{a b:A2}{o:HO}(h:H a=some o)(h':H b=none):a≠b:=by
 intro e;subst e;rw[h] at h';cases h'
section
variable(P:Fn)(w:Gf)
noncomputable def We(H:Hp)(h:H3)(a:A2):HO->Prop
 | .lst xs=>xs.length<=sizeLine/\∃ (its:Z A1) (n:Nat),Y5 xs its/\h.get? a=some { cls:=.type "list",data:=.seq its.toArray n }
 | .tup xs=>xs.length<=sizeLine/\∃ its:Z A1,Y5 xs its/\IsTup h a its.toArray
 | .dK kvs=>kvs.length<=sizeLine/\(a==sysModules)=false/\∃ vs,KV kvs vs/\h.DictOf (Vf P w) a vs
 | .dT kvs=>kvs.length<=sizeLine/\(a==sysModules)=false/\∃ xs:Z (Z Vn×A2×A1),
  Paired (λ(p:Z Vn×V) (q:Z Vn×A2×A1)=>p.1=q.1/\H q.2.1=some (.tup (p.1.map kV))/\Yr p.2 q.2.2) kvs xs /\
  ∃ o es ep,h.get? a=some o/\o.ExactDict/\o.data=.dict es ep/\es.toList=xs.map (entryOfKey (tupleKind (Vf P w)))/\(xs.map (·.1)).Nodup
 | .set S n=>h.SetOf (intKind P w) a S n
 | .ins C dx fs=>H dx=some (.own a)/\fs.length<=1000/\dx≠a/\h.get? a=some (PySem.W.instObj C dx) /\
  ∃ mA,h.Ns1 dx mA/\(∀ f,Om (fs.lookup f) (mA f))/\PySem.Within mA (fs.map (·.1))
 | .own _=>∃ o,h.get? a=some o
 | .xd fs=>∃ mA,h.Ns1 a mA/\∀ f,Om (fs.lookup f) (mA f)
 | .rng lo hi=>∃ t u v,h.get? a=some { cls:=.type "range",data:=.fields #[.int lo t,.int hi u,.int 1 v] }
 | .frz o u=>h.get? a=some o/\We H h a u
 | .tbl ps=>h.get? a=some { cls:=.none,data:=.fields ps }
 | .met f x=>h.get? a=some (methodObj (.ref f) (.ref x))
 | .ext φ=>φ h/\(∃ o,h.get? a=some o)/\∀ h1 h2:H3,φ h1->(∀ o,h1.get? a=some o->h2.get? a=some o)->φ h2
noncomputable def Mx(H:Hp)(h:H3):Prop:=∀ a o,H a=some o->We P w H h a o
end
section
variable{a:A2}{o:HO}
theorem We.lt(x:We P w H h a o):a<h.objs.size:=by
 cases o with
 | lst xs=>obtain⟨_,_,_,_,e⟩:=x;exact AQ e
 | tup xs=>obtain⟨_,_,_,p⟩:=x;exact p.lt
 | dK kvs=>obtain⟨_,_,_,_,o,_,_,e,_⟩:=x;exact AQ e
 | dT kvs=>obtain⟨_,_,_,_,o,_,_,e,_⟩:=x;exact AQ e
 | set S n=>obtain⟨o,_,_,_,e,_⟩:=x;exact AQ e
 | ins C dx fs=>obtain⟨_,_,_,e,_⟩:=x;exact AQ e
 | own y=>obtain⟨_,e⟩:=x;exact AQ e
 | xd fs=>obtain⟨_,⟨_,_,_,e,_⟩,_⟩:=x;exact AQ e
 | rng lo hi=>obtain⟨_,_,_,e⟩:=x;exact AQ e
 | frz ob u=>obtain⟨e,_⟩:=x;exact AQ e
 | tbl ps=>exact AQ (show h.get? a=some _ from x)
 | met f y=>exact AQ (show h.get? a=some _ from x)
 | ext φ=>obtain⟨_,⟨_,e⟩,_⟩:=x;exact AQ e
theorem Paired.mapP{β:Type}{F G:α->β->Prop}:∀ {l₁:Z α} {l₂:Z β},Paired F l₁ l₂->(∀ a b,F a b->G a b)->Paired G l₁ l₂
 | _,_,.nil,_=>.nil
 | _,_,.cons r t,f=>.cons (f _ _ r) (Paired.mapP t f)
theorem We.stay(x:We P w H h a o)(k:∀ b u,(b=a\/H b=some (.own a))->h.get? b=some u->h'.get? b=some u)
  (ho:∀ b,H b=some (.own a)->H' b=some (.own a)) (ht:∀ b xs,H b=some (.tup xs)->H' b=some (.tup xs)):We P w H' h' a o:=by
 induction o with
 | lst xs=>obtain⟨z,its,n,r,e⟩:=x;exact⟨z,its,n,r,k _ _ (.inl rfl) e⟩
 | tup xs=>obtain⟨z,its,r,ob,e,c⟩:=x;exact⟨z,its,r,ob,k _ _ (.inl rfl) e,c⟩
 | dK kvs=>obtain⟨z,y,vs,r,ob,es,ep,e,c⟩:=x;exact⟨z,y,vs,r,ob,es,ep,k _ _ (.inl rfl) e,c⟩
 | dT kvs =>
  obtain⟨z,y,xs,r,ob,es,ep,e,c⟩:=x;exact⟨z,y,xs,Paired.mapP r λp q z=>⟨z.1,ht _ _ z.2.1,z.2.2⟩,ob,es,ep,k _ _ (.inl rfl) e,c⟩
 | set S n=>obtain⟨ob,es,ep,t,e,c⟩:=x;exact⟨ob,es,ep,t,k _ _ (.inl rfl) e,c⟩
 | ins C dx fs =>
  obtain⟨d,z,ne,e,mA,⟨od,es,ep,e2,c⟩,r⟩:=x;exact⟨ho _ d,z,ne,k _ _ (.inl rfl) e,mA,⟨od,es,ep,k _ _ (.inr d) e2,c⟩,r⟩
 | own y=>obtain⟨ob,e⟩:=x;exact⟨ob,k _ _ (.inl rfl) e⟩
 | xd fs=>obtain⟨mA,⟨od,es,ep,e,c⟩,r⟩:=x;exact⟨mA,⟨od,es,ep,k _ _ (.inl rfl) e,c⟩,r⟩
 | rng lo hi=>obtain⟨t,u,v,e⟩:=x;exact⟨t,u,v,k _ _ (.inl rfl) e⟩
 | frz ob u ih=>obtain⟨e,q⟩:=x;exact⟨k _ _ (.inl rfl) e,ih q⟩
 | tbl ps =>
  have e:h.get? a=some { cls:=.none,data:=.fields ps }:=x;show h'.get? a=some { cls:=.none,data:=.fields ps };exact k a _ (.inl rfl) e
 | met f y =>
  have e:h.get? a=some (methodObj (.ref f) (.ref y)):=x;show h'.get? a=some (methodObj (.ref f) (.ref y));exact k a _ (.inl rfl) e
 | ext φ=>obtain⟨p,⟨o,e⟩,st⟩:=x;exact⟨st _ _ p λo q=>k _ _ (.inl rfl) q,⟨o,k _ _ (.inl rfl) e⟩,st⟩
theorem Mx.lt(x:Mx P w H h)(e:H a=some o):a<h.objs.size:=(x a o e).lt
theorem Mx.fresh(x:Mx P w H h)(e:h.objs.size<=a):H a=none:=by
 cases q:H a with
 | none=>rfl
 | some u=>exact absurd (AO (x.lt q) e) (DF _)
theorem Mx.kept(x:Mx P w H h)(k:∀ b u,h.get? b=some u->h'.get? b=some u):Mx P w H h':=λa o e =>
 (x a o e).stay (λb u _ q=>k b u q) (λ_ q=>q) λ_ _ q=>q
theorem Mx.laid(x:Mx P w H h)(k:∀ b u,h.get? b=some u->h'.get? b=some u)(hp:h.objs.size<=a)(new:We P w (W5 H a o) h' a o):Mx P w (W5 H a o) h':=λb u e=>by
 have hn:=x.fresh hp;by_cases hb:b=a
 .subst hb;rw[Zp] at e;cases e;exact new
 .rw[Zh hb] at e
  exact(x b u e).stay (λc v _ q=>k c v q) (λc q=>by rw[Zh (Y3 q hn)];exact q) λc xs q=>by rw[Zh (Y3 q hn)];exact q
end
noncomputable def Rd(H:Hp)(a:A2)(u:HO):Prop:=H a=some u\/∃ o,H a=some (.frz o u)
theorem Rd.of{a:A2}{u:HO}(h:H a=some u):Rd H a u:=.inl h
theorem Rd.ok{a:A2}{u:HO}(r:Rd H a u)(x:Mx P w H h):We P w H h a u:=by
 rcases r with r | ⟨o,r⟩
 .exact x a u r
 .obtain⟨_,q⟩:=x a _ r
  exact q
noncomputable def PP:C1 HO->Prop
 | some (.lst _)=>True
 | some (.dK _)=>True
 | some (.dT _)=>True
 | some (.set _ _)=>True
 | some (.ins _ _ _)=>True
 | some (.ext _)=>True
 | _=>False
section
variable{x e:A2}{o':HO}
theorem Mx.write(ok:Mx P w H h)(mu:PP (H x))(he:e=x\/H e=some (.own x))(k:∀ b u,b≠e->h.get? b=some u->h'.get? b=some u)(a:∃ u,h'.get? e=some u)
  (new:We P w (W5 H x o') h' x o'):Mx P w (W5 H x o') h':=λb u q=>by
 have d:∀ c y,H c=some (.own y)->c≠x:=λc y r z=>by subst z;rw[r] at mu;exact mu
 have g:∀ c xs,H c=some (.tup xs)->c≠x:=λc xs r z=>by subst z;rw[r] at mu;exact mu
 by_cases hb:b=x
 .subst hb;rw[Zp] at q;cases q;exact new
 .rw[Zh hb] at q
  by_cases f:b=e
  .have q':H b=some (.own x):=by
    rcases he with z | z
    .exact absurd (f.trans z) hb
    .rw[f];exact z
   rw[q] at q';cases q';obtain⟨v,hv⟩:=a;exact⟨v,by rw[f];exact hv⟩
  .refine(ok b u q).stay (λc v hc r=>k c v ?_ r) (λc r=>by rw[Zh (d c b r)];exact r) λc xs r=>by rw[Zh (g c xs r)];exact r
   rcases hc with rfl | hc
   .exact f
   .rintro rfl
    rcases he with z | z
    .exact d c b hc z
    .rw[hc] at z;cases z;exact hb rfl
end
structure Un (fs ex:List Addr) (H H':Hp) (h h':Heap):Prop where
 keep:∀ b o,h.get? b=some o->H b=none->b∉fs->b∉ex->h'.get? b=some o
 slot:∀ b o,h.get? b=some o->H b=none->b∈fs->b∉ex->∃ sl,h'.get? b=some { o with slots:=sl }
 free:∀ b o,h.get? b=some o->H b=none->b∉ex->H' b=none
 there:∀ b o,h.get? b=some o->b∉ex->∃ o',h'.get? b=some o'
 tups:∀ b xs,H b=some (.tup xs)->H' b=some (.tup xs)
 frzs:∀ b o u,H b=some (.frz o u)->H' b=some (.frz o u)
 tbls:∀ b ps,H b=some (.tbl ps)->∃ f,H' b=some (.tbl (ps++f))
section
variable{fs:Z A2}{H1 H2:Hp}{h1 h2:H3}{a x e:A2}{o:HO}
theorem Un.any(u:Un fs ex H H1 h h1){b:A2}{ob:Obj}(q:h.get? b=some ob)(n:H b=none)(hx:b∉ex):∃ sl,h1.get? b=some { ob with slots:=sl }:=by
 by_cases hb:b∈fs
 .exact u.slot b ob q n hb hx
 .exact⟨ob.slots,u.keep b ob q n hb hx⟩
theorem Un.kept(k:∀ b u,h.get? b=some u->h'.get? b=some u):Un fs ex H H h h' :=
 ⟨λb ob q _ _ _=>k b ob q,λb ob q _ _ _=>⟨ob.slots,k b ob q⟩,λ_ _ _ n _=>n,λb ob q _=>⟨ob,k b ob q⟩,λ_ _ q=>q,λ_ _ _ q=>q,λ_ ps q=>⟨#[],by rw[q];simp⟩⟩
theorem Un.refl:Un fs ex H H h h:=Un.kept λ_ _ q=>q
theorem Un.laid(k:∀ b u,h.get? b=some u->h'.get? b=some u)(hp:h.objs.size<=a)(hn:H a=none):Un fs ex H (W5 H a o) h h' where
 keep:=λb u q _ _ _=>k b u q
 slot:=λb u q _ _ _=>⟨u.slots,k b u q⟩
 free:=λb u q n _=>by rw[Zh (BR (AO (AQ q) hp))];exact n
 there:=λb u q _=>⟨u,k b u q⟩
 tups:=λb xs q=>by rw[Zh (Y3 q hn)];exact q
 frzs:=λb u xs q=>by rw[Zh (Y3 q hn)];exact q
 tbls:=λb ps q=>⟨#[],by rw[Zh (Y3 q hn),q];simp⟩
theorem Un.write(mu:PP (H x))(he:e=x\/H e=some (.own x))(k:∀ b u,b≠e->h.get? b=some u->h'.get? b=some u)(a:∃ u,h'.get? e=some u):Un fs ex H (W5 H x o) h h':=by
 have hx:∀ b,H b=none->b≠x:=λb n z=>by subst z;rw[n] at mu;exact mu
 have hb:∀ b,H b=none->b≠e:=λb n z=>by
  subst z;rcases he with r | r
  .exact hx b n r
  .rw[n] at r;cases r
 have hm:∀ b u,H b=some u->¬ PP (some u)->b≠x:=λb u q nm z=>by subst z;rw[q] at mu;exact nm mu
 refine⟨λb u q n _ _=>k b u (hb b n) q,λb u q n _ _=>⟨u.slots,k b u (hb b n) q⟩,λb u q n _=>by rw[Zh (hx b n)];exact n,λb u q _=>?_,
  λb xs q=>by rw[Zh (hm b _ q λz=>z)];exact q,λb u xs q=>by rw[Zh (hm b _ q λz=>z)];exact q,λb ps q=>⟨#[],by rw[Zh (hm b _ q λz=>z),q];simp⟩⟩
 by_cases f:b=e
 .subst f;exact a
 .exact⟨u,k b u f q⟩
end
variable{xs:Z V}{f:A1->A1->Sem A1}{g:Int->Int->Int}
noncomputable def QT(h:H3)(H:Hp):Z A2:=(List.range h.objs.size).filter λa=>(H a).isSome
noncomputable def Pt(h:H3)(H:Hp):H3:=PySem.W.hideAll h (QT h H)
theorem kg(h:H3)(H:Hp):(Pt h H).objs.size=h.objs.size:=PySem.W.hideAll_size _ _
theorem lm{b:A2}{o:Obj}(e:h.get? b=some o)(n:H b=none):(Pt h H).get? b=some o :=
 PySem.W.hideAll_get _ e λhm=>by
  have q:(H b).isSome=true:=(DE.mp hm).2;rw[n] at q;simp at q
theorem kZ{b:A2}{o:Obj}(e:(Pt h H).get? b=some o):h.get? b=some o/\H b=none:=by
 have e':h.get? b=some o:=PySem.W.of_hideAll (QT h H) e;refine⟨e',?_⟩;cases q:H b with
 | none=>rfl
 | some x =>
  have hm:b∈QT h H:=DE.mpr ⟨CC.mpr (AQ e'),by simp[q]⟩;have z:(Pt h H).get? b=none:=PySem.W.hideAll_none (QT h H) hm;rw[z] at e;cases e
structure Mod (K:J1) (mg:KP) (base:Heap):Prop where
 kin:K.In base
 glob:base.Ns mainGlobals mg
 blt:∃ C,base.Ns builtinsNs C/\∀ x:Str,x≠"__name__" -> C x=bootBuiltins x
 nolimit:base.NoLimit
structure Cx where
 prog:Program
 w:World
 K:J1
 mg:Str->Option Value
 base:Heap
 A:Around
 N:List Str
 s₀:Shared
 H₀:Hp
 env:Env
 outer:List Env
 stack:List Env
 ex:List Addr
 fn:Str->Bool
 calm:Bool
 pn:List (Addr×Obj)
 xe:Value->Shared->Prop
 pl:Bool:=false
noncomputable def Dt(l:Z I0):Z A2:=l.filterMap (·.frame)
noncomputable abbrev Cx.fs(X:Cx):Z A2:=Dt X.outer
noncomputable def LU(sc:IA)(x:Str):Prop:=sc.names.lookup x=some .local\/sc.names.lookup x=some .cell\/sc.names.lookup x=some .free
noncomputable def LL(sc:IA)(x:Str):Prop:=sc.names.lookup x=some .local\/sc.names.lookup x=some .cell
noncomputable def hF(env:I0)(h:H3)(m:KP)(x:Str)(u:A1):Prop :=
 (env.kindOf x=some .local/\m x=some u)\/((env.kindOf x=some .cell\/env.kindOf x=some .free)/\∃ c,env.cells.lookup x=some c/\h.IsCell c (some u))
structure Cx.Ok (X:Cx):Prop where
 mod:Mod X.K X.mg X.base
 kind:X.env.scope.kind=.function
 glob:X.env.globals=mainGlobals
 blt:X.env.builtins=builtinsNs
 above:X.s₀.heap.objs.size<=X.env.locals
 inj:∀ x y c,X.env.cells.lookup x=some c->X.env.cells.lookup y=some c->x=y
 has:∀ x,(X.env.kindOf x=some .cell\/X.env.kindOf x=some .free)->∃ c,X.env.cells.lookup x=some c
 cab:∀ x c,X.fn x=true->X.env.cells.lookup x=some c->X.s₀.heap.objs.size<=c
 hd:X.calm=true->X.A.handled=none
 frames:X.A.frames=some X.stack
 stk:X.stack=X.outer\/(X.stack=X.env::X.outer/\X.env.frame=some X.env.locals)
 exf:∀ b∈X.ex,b≠X.env.locals/\∀ x c,X.env.cells.lookup x=some c->c≠b
 bs:∀ b o,X.base.get? b=some o->X.s₀.heap.get? b=some o/\X.H₀ b=none
 bsz:X.base.objs.size<=X.s₀.heap.objs.size
 noex:∀ b o,X.base.get? b=some o->b∉X.ex
 exfs:∀ b∈X.ex,b∉X.fs
 funs:X.s₀.heap.FunFrames X.base X.outer
 frf:∀ b∈X.fs,X.H₀ b=none
variable{fs:Z (Str×V)}
structure F' (X:Cx) (aa:KL) (σ:List (Option V)) (H:Hp) (s:Shared):Prop where
 ok:X.Ok
 os:s.os=X.s₀.os
 bare:AllBare s.gens
 base:Un X.fs X.ex X.H₀ H X.s₀.heap s.heap
 loc:∃ m,s.heap.Ns X.env.locals m/\∀ (i:Nat) (x:Str) (v:V),X.N[i]?=some x->σ[i]?=some (some v)->LU X.env.scope x->∃ u,Yr v u/\hF X.env s.heap m x u
 cell:∀ x c,X.env.cells.lookup x=some c->∃ v,s.heap.IsCell c v
 free:H X.env.locals=none
 freeC:∀ x c,X.env.cells.lookup x=some c->H c=none
 pin:∀ p∈X.pn++aa,s.heap.get? p.1=some p.2/\H p.1=none/\p.1≠X.env.locals/\p.1∉X.fs/\∀ v,p.2.data≠.cell v
 hok:Mx X.prog X.w H s.heap
 len:σ.length=X.N.length
section
variable{X:Cx}{σ:Z (C1 V)}
theorem Cx.Ok.nofr(ok:X.Ok){b:A2}{o:Obj}(e:X.base.get? b=some o):b∉X.fs:=λhb=>by
 have:=(ok.funs.mem hb).1;rw[e] at this;cases this
theorem F'.bs(I:F' X aa σ H s):∀ b o,X.base.get? b=some o->s.heap.get? b=some o/\H b=none:=λb o e =>
 ⟨I.base.keep b o (I.ok.bs b o e).1 (I.ok.bs b o e).2 (I.ok.nofr e) (I.ok.noex b o e),I.base.free b o (I.ok.bs b o e).1 (I.ok.bs b o e).2 (I.ok.noex b o e)⟩
theorem F'.bk(I:F' X aa σ H s):∀ b o,X.base.get? b=some o->s.heap.get? b=some o:=λb o e=>(I.bs b o e).1
theorem F'.mod(I:F' X aa σ H s):Mod X.K X.mg X.base:=I.ok.mod
theorem F'.kIn(I:F' X aa σ H s):X.K.In s.heap:=I.ok.mod.kin.keeps I.bk
theorem F'.nolimit(I:F' X aa σ H s):s.heap.NoLimit:=I.ok.mod.nolimit.keeps I.bk
theorem F'.lt(I:F' X aa σ H s):X.env.locals<s.heap.objs.size:=let ⟨_,hn,_⟩:=I.loc;hn.lt
theorem F'.sz(I:F' X aa σ H s):X.s₀.heap.objs.size<=s.heap.objs.size:=BA I.ok.above (EJ I.lt)
theorem F'.nofs(I:F' X aa σ H s){a:A2}(h:s.heap.objs.size<=a):a∉X.fs:=λhb=>by
 obtain⟨_,o,ho,_⟩:=I.ok.funs.mem hb;exact absurd (AO (AQ ho) (BA I.sz h)) (DF _)
theorem F'.cne(I:F' X aa σ H s):∀ x c,X.env.cells.lookup x=some c->c≠X.env.locals:=λx c e z=>by
 obtain⟨v,o,ho,hd⟩:=I.cell x c e;obtain⟨m,⟨o',es,ep,f,Q,_⟩,_⟩:=I.loc;rw[z,f] at ho;cases ho;rw[Q] at hd;cases hd
theorem F'.funs(I:F' X aa σ H s):s.heap.FunFrames X.base X.outer:=by
 have all:∀ (l:Z I0),(∀ b∈Dt l,b∈X.fs)->X.s₀.heap.FunFrames X.base l->s.heap.FunFrames X.base l:=by
  intro l;induction l with
  | nil=>intro _ _;trivial
  | cons env r ih =>
   intro hs hl;obtain⟨hk,⟨Lq_,o,hf,hn,ho,hd⟩,hr⟩:=hl;have t:Lq_∈X.fs:=hs Lq_ (by unfold Dt;rw[EY,hf];exact AX);obtain⟨sl,e⟩:=I.base.slot Lq_ o ho (I.ok.frf Lq_ t) t λz=>I.ok.exfs Lq_ z t
   exact⟨hk,⟨Lq_,_,hf,hn,e,hd⟩,ih (λb hb=>hs b (by unfold Dt;rw[EY,hf];exact BB _ hb)) hr⟩
 exact all X.outer (λ_ hb=>hb) I.ok.funs
theorem F'.stack(I:F' X aa σ H s):s.heap.FunFrames X.base X.stack:=by
 rcases I.ok.stk with e | ⟨e,hf⟩
 .rw[e];exact I.funs
 .rw[e]
  obtain⟨m,hn,_⟩:=I.loc;refine .cons (by rw[I.ok.kind];decide) hf hn ?_ I.funs;exact HR (BA I.ok.bsz I.ok.above)
theorem F'.stkSub(I:F' X aa σ H s):∀ b∈Dt X.stack,b∈X.env.locals::X.fs:=λb hb=>by
 rcases I.ok.stk with e | ⟨e,hf⟩
 .rw[e] at hb;exact BB _ hb
 .rw[e] at hb
  unfold Dt at hb;rw[EY,hf] at hb;exact hb
theorem F'.stkFree(I:F' X aa σ H s):∀ b∈Dt X.stack,H b=none:=λb hb=>by
 rcases BK.mp (I.stkSub b hb) with e | hb
 .rw[e];exact I.free
 .obtain⟨_,o,ho,_⟩:=I.ok.funs.mem hb
  exact I.base.free b o ho (I.ok.frf b hb) λz=>I.ok.exfs b z hb
theorem F'.step{g':Array GenState}{d':Drawn}(I:F' X aa σ H s)
  (S:∀ b∈ch,(b∈X.ex\/X.s₀.heap.objs.size<=b)/\b≠X.env.locals/\(∀ x c,X.env.cells.lookup x=some c->c≠b)/\∀ p∈X.pn++aa,p.1≠b)
  (keep:∀ b o,b≠X.env.locals->b∉X.fs->b∉ch->s.heap.get? b=some o->H b=none->h'.get? b=some o)
  (slot:∀ b o,b≠X.env.locals->b∈X.fs->b∉ch->s.heap.get? b=some o->H b=none->∃ sl,h'.get? b=some { o with slots:=sl }) (free:∀ b o,b∉ch->s.heap.get? b=some o->H b=none->H' b=none)
  (there:∀ b o,b∉ch->s.heap.get? b=some o->∃ o',h'.get? b=some o')
  (tups:∀ b xs,H b=some (.tup xs)->H' b=some (.tup xs)) (frzs:∀ b o u,H b=some (.frz o u)->H' b=some (.frz o u)) (tbls:∀ b ps,H b=some (.tbl ps)->∃ f,H' b=some (.tbl (ps++f)))
  (ns:∀ m,s.heap.Ns X.env.locals m->h'.Ns X.env.locals m) (hok:Mx X.prog X.w H' h') (hg:AllBare g') :
  F' X aa σ H' { s with heap:=h',gens:=g',drawn:=d',toks:=t' }:=by
 have t:∀ b o,X.s₀.heap.get? b=some o->b≠X.env.locals:=λb o e=>BR (AO (AQ e) I.ok.above)
 have h:∀ b o,X.s₀.heap.get? b=some o->b∉X.ex->b∉ch:=λb o e hx hb=>by
  rcases(S b hb).1 with z | z
  .exact hx z
  .exact absurd (AO (AQ e) z) (DF _)
 have g:∀ x c,X.env.cells.lookup x=some c->∀ v,s.heap.IsCell c v->h'.IsCell c v:=λx c e v M=>by
  obtain⟨o,ho,hd⟩:=M;have a:c∉ch:=λz=>(S c z).2.2.1 x c e rfl
  by_cases hc:c∈X.fs
  .obtain⟨sl,q⟩:=slot c o (I.cne x c e) hc a ho (I.freeC x c e)
   exact⟨_,q,hd⟩
  .exact⟨o,keep c o (I.cne x c e) hc a ho (I.freeC x c e),hd⟩
 refine⟨I.ok,I.os,hg,⟨λb o e n hb hx=>?_,λb o e n hb hx=>?_,λb o e n hx=>?_,λb o e hx=>?_,λb xs e=>tups b xs (I.base.tups b xs e),λb o xs e=>frzs b o xs (I.base.frzs b o xs e),λb ps e=>?_⟩,?_,λx c e=>?_,?_,λx c e=>?_,λp hp=>?_,hok,I.len⟩
 .exact keep b o (t b o e) hb (h b o e hx) (I.base.keep b o e n hb hx) (I.base.free b o e n hx)
 .obtain⟨sl,e1⟩:=I.base.slot b o e n hb hx
  obtain⟨j,e2⟩:=slot b _ (t b o e) hb (h b o e hx) e1 (I.base.free b o e n hx);exact⟨j,e2⟩
 .obtain⟨o',e1⟩:=I.base.there b o e hx
  exact free b o' (h b o e hx) e1 (I.base.free b o e n hx)
 .obtain⟨o',e1⟩:=I.base.there b o e hx
  exact there b o' (h b o e hx) e1
 .obtain⟨m1,e1⟩:=I.base.tbls b ps e
  obtain⟨m2,e2⟩:=tbls b _ e1;exact⟨m1++m2,by rw[e2,Array.append_assoc]⟩
 .obtain⟨m,hn,hl⟩:=I.loc
  refine⟨m,ns m hn,λi x v e1 e2 e3=>?_⟩;obtain⟨u,r,l⟩:=hl i x v e1 e2 e3;refine⟨u,r,?_⟩;rcases l with l | ⟨k,c,e,z⟩
  .exact .inl l
  .exact .inr ⟨k,c,e,g x c e _ z⟩
 .obtain⟨v,z⟩:=I.cell x c e
  exact⟨v,g x c e v z⟩
 .obtain⟨m,⟨o,_,_,ho,_⟩,_⟩:=I.loc
  exact free _ o (λz=>(S _ z).2.1 rfl) ho I.free
 .obtain⟨v,o,ho,hd⟩:=I.cell x c e
  exact free c o (λz=>(S c z).2.2.1 x c e rfl) ho (I.freeC x c e)
 .obtain⟨e,n,ne,C,d⟩:=I.pin p hp
  have a:p.1∉ch:=λz=>(S p.1 z).2.2.2 p hp rfl
  exact⟨keep p.1 p.2 ne C a e n,free p.1 p.2 a e n,ne,C,d⟩
theorem F'.un(I:F' X aa σ H s)(u:Un X.fs [] H H' s.heap h')(hok:Mx X.prog X.w H' h'):F' X aa σ H' { s with heap:=h',toks:=t' }:=by
 obtain⟨m,⟨o,es,ep,ho,r⟩,_⟩:=id I.loc;obtain⟨sl,t⟩:=u.any ho I.free (by simp);exact I.step (g':=s.gens) (d':=s.drawn) (ch:=[]) (λ_ z=>nomatch z) (λb o _ hb _ e n=>u.keep b o e n hb (by simp)) (λb o _ hb _ e n=>u.slot b o e n hb (by simp)) (λb o _ e n=>u.free b o e n (by simp)) (λb o _ e=>u.there b o e (by simp)) u.tups u.frzs u.tbls (λm' hm=>by
  obtain⟨o',a,d,f,r'⟩:=hm;rw[ho] at f;cases f;exact⟨_,a,d,t,r'⟩) hok I.bare
theorem F'.call{g':Array GenState}{d':Drawn}(I:F' X aa σ H s)(u:Un (Dt X.stack) ch H H' s.heap h')(hok:Mx X.prog X.w H' h')(hg:AllBare g')
  (S:∀ b∈ch,(b∈X.ex\/X.s₀.heap.objs.size<=b)/\b≠X.env.locals/\(∀ x c,X.env.cells.lookup x=some c->c≠b)/\∀ p∈X.pn++aa,p.1≠b) :
  F' X aa σ H' { s with heap:=h',gens:=g',drawn:=d',toks:=t' }:=by
 obtain⟨m,⟨o,es,ep,ho,r⟩,_⟩:=id I.loc;obtain⟨sl,t⟩:=u.any ho I.free λz=>(S _ z).2.1 rfl
 exact I.step (ch:=ch) S (λb o t hb hc e n=>u.keep b o e n (λz=>(BK.mp (I.stkSub b z)).elim t hb) hc) (λb o _ _ hc e n=>u.any e n hc) (λb o hc e n=>u.free b o e n hc) (λb o hc e=>u.there b o e hc) u.tups u.frzs u.tbls (λm' hm=>by
  obtain⟨o',a,d,f,r'⟩:=hm;rw[ho] at f;cases f;exact⟨_,a,d,t,r'⟩) hok hg
theorem F'.turned(I:F' X aa σ H s)(k:∀ b o,b≠it->s.heap.get? b=some o->h'.get? b=some o)(hn:H it=none)(t:it≠X.env.locals)
  (h1:it∈X.ex\/X.s₀.heap.objs.size<=it) (h2:∀ x c,X.env.cells.lookup x=some c->c≠it) (h3:∀ p∈X.pn++aa,p.1≠it):F' X aa σ H { s with heap:=h',toks:=t' }:=by
 have a:∀ b u,H b=some u->b≠it:=λb u e z=>by rw[z,hn] at e;cases e
 refine I.step (g':=s.gens) (d':=s.drawn) (ch:=[it]) (λb hb=>?_) (λb o _ _ hc e _=>k b o (λz=>hc (by simp[z])) e) (λb o _ _ hc e _=>⟨o.slots,k b o (λz=>hc (by simp[z])) e⟩) (λ_ _ _ _ n=>n)
  (λb o hc e=>⟨o,k b o (λz=>hc (by simp[z])) e⟩) (λ_ _ e=>e) (λ_ _ _ e=>e) (λb ps e=>⟨#[],by rw[e];simp⟩) (λm hm=>?_) (λb u e=>?_) I.bare
 .have e:b=it:=by simpa using hb
  subst e;exact⟨h1,t,h2,h3⟩
 .obtain⟨o,es,ep,ho,r⟩:=hm
  exact⟨o,es,ep,k _ o (AR t) ho,r⟩
 .refine(I.hok b u e).stay (λc v hc q=>k c v ?_ q) (λ_ q=>q) λ_ _ q=>q
  rcases hc with z | z
  .rw[z];exact a b u e
  .exact a c _ z
theorem F'.tok(I:F' X aa σ H s)(t:Nat):F' X aa σ H { s with toks:=t }:=I.un (h':=s.heap) (t':=t) Un.refl I.hok
theorem F'.kept(I:F' X aa σ H s)(k:∀ b u,s.heap.get? b=some u->h'.get? b=some u):F' X aa σ H { s with heap:=h',toks:=t' }:=I.un (Un.kept k) (I.hok.kept k)
theorem F'.laid{a:A2}{o:HO}(I:F' X aa σ H s)(k:∀ b u,s.heap.get? b=some u->h'.get? b=some u)(hp:s.heap.objs.size<=a)(new:We X.prog X.w (W5 H a o) h' a o) :
 F' X aa σ (W5 H a o) { s with heap:=h',toks:=t' }:=I.un (Un.laid k hp (I.hok.fresh hp)) (I.hok.laid k hp new)
theorem F'.write{x e:A2}{o:HO}(I:F' X aa σ H s)(mu:PP (H x))(he:e=x\/H e=some (.own x))(k:∀ b u,b≠e->s.heap.get? b=some u->h'.get? b=some u)(a:∃ u,h'.get? e=some u)
 (new:We X.prog X.w (W5 H x o) h' x o):F' X aa σ (W5 H x o) { s with heap:=h',toks:=t' }:=I.un (Un.write mu he k a) (I.hok.write mu he k a new)
theorem F'.weak{σ':Z (C1 V)}(I:F' X aa σ H s)(hl:σ'.length=σ.length)(w:∀ (i:Nat) v,σ'[i]?=some (some v)->σ[i]?=some (some v)):F' X aa σ' H s :=
 ⟨I.ok,I.os,I.bare,I.base,let ⟨m,hn,a⟩:=I.loc;⟨m,hn,λi x v e1 e2 e3=>a i x v e1 (w i v e2) e3⟩,I.cell,I.free,I.freeC,I.pin,I.hok,hl.trans I.len⟩
theorem F'.pins_of{pins':KL}(I:F' X aa σ H s)(h:∀ p∈pins',s.heap.get? p.1=some p.2/\H p.1=none/\p.1≠X.env.locals/\p.1∉X.fs/\∀ v,p.2.data≠.cell v):F' X pins' σ H s :=
 ⟨I.ok,I.os,I.bare,I.base,I.loc,I.cell,I.free,I.freeC,λp hp=>(BO.mp hp).elim (λz=>I.pin p (BZ _ z)) (h p),I.hok,I.len⟩
theorem YB{N:Z Str}(hN:N.Nodup){x:Str}(a:N[i]?=some x)(b:N[j]?=some x):i=j:=by
 obtain⟨h1,e1⟩:=AC.mp a;obtain⟨h2,e2⟩:=AC.mp b;exact(List.getElem_inj hN).mp (e1.trans e2.symm)
theorem F3{M:Model}{x:Str}{v:V}(I:F' X aa σ H s)(hN:X.N.Nodup)(hi:X.N[i]?=some x)(hx:LL X.env.scope x)(r:Yr v u)
   (h:∀ s',F' X aa (σ.set i (some v)) H s'->(∃ a,SameBut a s.heap s'.heap/\(a=X.env.locals\/X.env.cells.lookup x=some a))->Q () s') (hf:X.fn x=true\/X.env.scope.names.lookup x=some .local:=by ext):wpAny M A (storeName X.env x u) Q E s:=by
 obtain⟨m,hn,hl⟩:=id I.loc;have B:(X.env.scope.kind==.class||(X.env.scope.kind==.module&&X.env.locals != X.env.globals))=false:=by rw[I.ok.kind];rfl
 have hiσ:i<σ.length:=by rw[I.len];exact(AC.mp hi).1
 have cne:=I.cne;have f:∀ {a:A2} {h':H3},(∃ o,s.heap.get? a=some o/\H a=none)->SameBut a s.heap h'->Mx X.prog X.w H h':=λ{a h'} ha hs b ob e=>by
   obtain⟨_,_,J⟩:=ha;refine(I.hok b ob e).stay (λc l hc q=>(hs.2 c ?_).trans q) (λ_ q=>q) λ_ _ q=>q
   rintro rfl;rcases hc with rfl | hc
   · rw[J] at e;cases e
   · rw[J] at hc;cases hc
 rcases hx with hk | hk
 · refine wpAny_storeName_local hk hn (λh' G hs=>?_) B
   obtain⟨W,_,_,P,_⟩:=id hn;refine h _ ⟨I.ok,I.os,I.bare,⟨λb o e n hb hx=>?_,λb o e n hb hx=>?_,I.base.free,λb o e hx=>?_,I.base.tups,I.base.frzs,I.base.tbls⟩,⟨_,G,λj y t e1 e2 e3=>?_⟩,λy c e=>?_,I.free,I.freeC,λp hp=>?_,f ⟨W,P,I.free⟩ hs,by simpa using I.len⟩ ⟨_,hs,.inl rfl⟩
   · exact(hs.2 b (BR (AO (AQ e) I.ok.above))).trans (I.base.keep b o e n hb hx)
   · obtain⟨sl,e1⟩:=I.base.slot b o e n hb hx
     exact⟨sl,(hs.2 b (BR (AO (AQ e) I.ok.above))).trans e1⟩
   · obtain⟨o',e1⟩:=I.base.there b o e hx
     exact⟨o',(hs.2 b (BR (AO (AQ e) I.ok.above))).trans e1⟩
   · by_cases hj:j=i
     · subst hj
       rw[hi] at e1;cases e1;rw[List.getElem?_set_self hiσ] at e2;cases e2;exact⟨u,r,.inl ⟨hk,by simp⟩⟩
     · rw[HS (AR hj)] at e2
       obtain⟨R,r',q⟩:=hl j y t e1 e2 e3;refine⟨R,r',?_⟩;rcases q with⟨k,e⟩ | ⟨k,c,e,z⟩
       · refine .inl ⟨k,?_⟩
         have:y≠x:=λe=>hj (YB hN e1 (e▸hi))
         simp[this,e]
       · exact .inr ⟨k,c,e,z.sameBut hs (cne y c e)⟩
   · obtain⟨l,z⟩:=I.cell y c e
     exact⟨l,z.sameBut hs (cne y c e)⟩
   · obtain⟨e,n,ne,C,d⟩:=I.pin p hp
     exact⟨(hs.2 p.1 ne).trans e,n,ne,C,d⟩
 · have ai:X.fn x=true:=by
     rcases hf with z | z
     · exact z
     · rw[z] at hk;cases hk
   obtain⟨c,hc⟩:=I.ok.has x (.inl hk);obtain⟨l,z⟩:=I.cell x c hc;refine wpAny_storeName_cell I.ok.kind hk hc z (λh' F hs=>?_);obtain⟨oc,S,T⟩:=id z;refine h { s with heap:=h' } ⟨I.ok,I.os,I.bare,⟨λb o e n hb hx=>?_,λb o e n hb hx=>?_,I.base.free,λb o e hx=>?_,I.base.tups,I.base.frzs,I.base.tbls⟩,⟨m,hn.sameBut hs (AR (cne x c hc)),λj y t e1 e2 e3=>?_⟩,λy g e=>?_,I.free,I.freeC,λp hp=>?_,f ⟨oc,S,I.freeC x c hc⟩ hs,by simpa using I.len⟩ ⟨c,hs,.inr hc⟩
   · exact(hs.2 b (BR (AO (AQ e) (I.ok.cab x c ai hc)))).trans (I.base.keep b o e n hb hx)
   · obtain⟨sl,e1⟩:=I.base.slot b o e n hb hx
     exact⟨sl,(hs.2 b (BR (AO (AQ e) (I.ok.cab x c ai hc)))).trans e1⟩
   · obtain⟨o',e1⟩:=I.base.there b o e hx
     exact⟨o',(hs.2 b (BR (AO (AQ e) (I.ok.cab x c ai hc)))).trans e1⟩
   · by_cases hj:j=i
     · subst hj
       rw[hi] at e1;cases e1;rw[List.getElem?_set_self hiσ] at e2;cases e2;exact⟨u,r,.inr ⟨.inl hk,c,hc,F⟩⟩
     · rw[HS (AR hj)] at e2
       obtain⟨R,r',q⟩:=hl j y t e1 e2 e3;refine⟨R,r',?_⟩;rcases q with q | ⟨k,g,e,D⟩
       · exact .inl q
       · refine .inr ⟨k,g,e,D.sameBut hs ?_⟩
         rintro rfl;exact hj (YB hN e1 (I.ok.inj _ _ _ e hc▸hi))
   · by_cases af:g=c
     · subst af;exact⟨_,F⟩
     · obtain⟨w2,z2⟩:=I.cell y g e
       exact⟨w2,z2.sameBut hs af⟩
   · obtain⟨e,n,ne,C,d⟩:=I.pin p hp
     refine⟨(hs.2 p.1 ?_).trans e,n,ne,C,d⟩;intro q;rw[q,S] at e;have q':oc=p.2:=BC e;exact d l (by rw[<- q'];exact T)
theorem Oz{M:Model}{x:Str}{v:V}(I:F' X aa σ H s)(hN:X.N.Nodup)(hi:X.N[i]?=some x)(hx:LL X.env.scope x)(r:Yr v u)
  (h:∀ s',F' X aa (σ.set i (some v)) H s'->Q () s') (hf:X.fn x=true\/X.env.scope.names.lookup x=some .local:=by ext):wpAny M A (storeName X.env x u) Q E s :=
 F3 I hN hi hx r (λs' G _=>h s' G) hf
theorem F'.call'(I:F' X aa σ H s)(ho:s'.os=s.os)(u:Un (Dt X.stack) ch H H' s.heap s'.heap)(hok:Mx X.prog X.w H' s'.heap)(hg:AllBare s'.gens)
  (S:∀ b∈ch,(b∈X.ex\/X.s₀.heap.objs.size<=b)/\b≠X.env.locals/\(∀ x c,X.env.cells.lookup x=some c->c≠b)/\∀ p∈X.pn++aa,p.1≠b):F' X aa σ H' s':=by
 obtain⟨h',g',d',t',o'⟩:=s';have e:o'=s.os:=ho;subst e;exact I.call (g':=g') (t':=t') (d':=d') u hok hg S
end
noncomputable abbrev XK:=A1->C1 A2->Hp->Prop
noncomputable abbrev St:=Z (C1 V)
noncomputable abbrev VK:=V->Hp->Prop
noncomputable abbrev TE:=St->Hp->VK->Prop
noncomputable abbrev TT:=St->Hp->(Bool->Hp->Prop)->Prop
noncomputable abbrev TA:=St->Hp->(Z V->Hp->Prop)->Prop
structure KR where
 nx:St->Hp->Prop
 rt:VK
 bk:St->Hp->Prop:=λ_ _=>False
 ct:St->Hp->Prop:=λ_ _=>False
noncomputable abbrev TS:=KR->St->Hp->Prop
inductive EP (X:Cx) (aa:KL) (σ:St) (Q:VK) (u:Value) (s':Shared):Prop
 | mk (v:V) (H':Hp) (a0:F' X aa σ H' s') (a1:Yr v u) (a2:Q v H')
inductive TP (X:Cx) (aa:KL) (σ:St) (Q:Bool->Hp->Prop) (b:Bool) (s':Shared):Prop
 | mk (H':Hp) (a0:F' X aa σ H' s') (a1:Q b H')
inductive AP (X:Cx) (aa:KL) (σ:St) (Q:List V->Hp->Prop) (us:List Value) (s':Shared):Prop
 | mk (vs:List V) (H':Hp) (a0:F' X aa σ H' s') (a1:Y5 vs us) (a2:Q vs H')
noncomputable def SP(X:Cx)(aa:KL)(D:KR)(f:Flow)(s':A4):Prop :=
 match f with
 | .next=>∃ σ' H',F' X aa σ' H' s'/\D.nx σ' H'
 | .brk=>∃ σ' H',F' X aa σ' H' s'/\D.bk σ' H'
 | .cont=>∃ σ' H',F' X aa σ' H' s'/\D.ct σ' H'
 | .ret u=>∃ v σ' H',F' X aa σ' H' s'/\Yr v u/\D.rt v H'
noncomputable def PE(X:Cx)(e:C3)(t:TE):Prop :=
 ∀ (aa:KL) (s:A4) (σ:St) (H:Hp) (Q:VK),F' X aa σ H s->t σ H Q->wpAny (model X.prog X.w) X.A (eval e X.env) (EP X aa σ Q) X.xe s
noncomputable def PT(X:Cx)(e:C3)(t:TT):Prop :=
 ∀ (aa:KL) (s:A4) (σ:St) (H:Hp) (Q:Bool->Hp->Prop),F' X aa σ H s->t σ H Q->wpAny (model X.prog X.w) X.A (isTrue e X.env (eval e X.env)) (TP X aa σ Q) X.xe s
noncomputable def PW(X:Cx)(e:C3)(t:TT):Prop :=
 ∀ (c:Sem A1) (aa:KL) (s:A4) (σ:St) (H:Hp) (Q:Bool->Hp->Prop),F' X aa σ H s->t σ H Q->wpAny (model X.prog X.w) X.A (isTrue e X.env c) (TP X aa σ Q) X.xe s
theorem PW.pt{X:Cx}{t:TT}(h:PW X e t):PT X e t:=h _
noncomputable def PA(X:Cx)(es:Z C3)(t:TA):Prop :=
 ∀ (pos:Pos) (aa:KL) (s:A4) (σ:St) (H:Hp) (Q:Z V->Hp->Prop),F' X aa σ H s->t σ H Q->wpAny (model X.prog X.w) X.A (spliced (backTo pos (starEach es X.env))) (AP X aa σ Q) X.xe s
noncomputable def PS(X:Cx)(st:Df)(t:TS):Prop :=
 ∀ (aa:KL) (s:A4) (σ:St) (H:Hp) (D:KR),F' X aa σ H s->t D σ H->wpAny (model X.prog X.w) X.A (exec st X.env) (SP X aa D) X.xe s
noncomputable def Dq(X:Cx)(st:Z Df)(t:TS):Prop :=
 ∀ (aa:KL) (s:A4) (σ:St) (H:Hp) (D:KR),F' X aa σ H s->t D σ H->wpAny (model X.prog X.w) X.A (execs st X.env) (SP X aa D) X.xe s
theorem Ws{t:Sem α}{Q y:α->A4->Prop}{M:Model}(h:wpAny M A t Q E s)(j:∀ a s,Q a s->y a s):wpAny M A t y E s:=BF h j λ_ _ x=>x
section
variable{X:Cx}
noncomputable def Im(i:Nat):TE:=λσ H Q=>∃ v,σ[i]?=some (some v)/\Q v H
noncomputable def tC(v:V):TE:=λ_ H Q=>Q v H
theorem Jm{x:Str}(hN:X.N[i]?=some x)(hv:LU X.env.scope x)(hd:C2 x:=by decide)(ae:(x==("__classdict__" : Str))=false:=by decide):PE X (.Name x pos) (Im i):=by
 intro aa s σ H Q I h;obtain⟨v,e,h⟩:=h;obtain⟨m,hn,hl⟩:=I.loc;obtain⟨u,r,l⟩:=hl i x v hN e hv;have B:EP X aa σ Q u s:=⟨v,H,I,r,h⟩;rcases l with⟨hk,hm⟩ | ⟨hk,c,hc,a⟩
 .exact wpAny_Name (wpAny_loadName_local I.ok.kind hk hn hm B) hd
 .rcases hk with hk | hk
  .exact wpAny_Name (wpAny_loadName_cell I.ok.kind hk hc a B) hd
  .exact wpAny_Name (wpAny_loadName_free I.ok.kind hk hc a B ae) hd
theorem gF{i j pos}:PE X (.Constant (.int i) j pos) (tC (.int i)):=λ_ _ _ H _ I h=>wpAny_Constant_int ⟨.int i,H,I.tok _,⟨_,rfl⟩,h⟩
theorem mV{b j pos}:PE X (.Constant (.bool b) j pos) (tC (.bl b)):=λ_ _ _ H _ I h=>Constant_bool ⟨.bl b,H,I,rfl,h⟩
theorem lC{j pos}:PE X (.Constant .none j pos) (tC .non):=λ_ _ _ H _ I h=>Constant_none ⟨.non,H,I,rfl,h⟩
theorem YI{x j pos}:PE X (.Constant (.str x) j pos) (tC (.str x)):=λ_ _ _ H _ I h=>Calls.Constant_str ⟨.str x,H,I.tok _,⟨_,rfl⟩,h⟩
noncomputable def Gl(X:Cx)(x:Str):Prop:=X.env.kindOf x=some .globalImplicit
theorem Uk{σ:St}{x:Str}{Q:KN}(I:F' X aa σ H s)(hg:Gl X x)(hm:X.mg x=some u)(h:Q u s)
  (hd:C2 x:=by decide):wpAny (model X.prog X.w) X.A (eval (.Name x pos) X.env) Q E s :=
 Calls.Name_function_global I.ok.kind hg (Calls.loadGlobal_global (by rw[I.ok.glob];exact I.mod.glob.keeps I.bk) hm h) hd
theorem Sm{σ:St}{x:Str}{Q:KN}(I:F' X aa σ H s)(hg:Gl X x)(hm:X.mg x=none)(hv:bootBuiltins x=some u)(h:Q u s)
  (hn:x≠"__name__" := by decide) (hd:C2 x:=by decide):wpAny (model X.prog X.w) X.A (eval (.Name x pos) X.env) Q E s:=by
 obtain⟨C,h1,h2⟩:=I.mod.blt;exact Calls.Name_function_global I.ok.kind hg (Calls.loadGlobal_builtin (by rw[I.ok.glob];exact I.mod.glob.keeps I.bk) hm (by rw[I.ok.blt];exact h1.keeps I.bk) ((h2 x hn).trans hv) h) hd
theorem dY{x:Str}{v:V}(hg:Gl X x)(hm:X.mg x=some u)(r:Yr v u)(hd:C2 x:=by decide):PE X (.Name x pos) (tC v) :=
 λ_ _ _ H _ I h=>Uk I hg hm ⟨v,H,I,r,h⟩ hd
variable{a b:C3}{ta tb:TE}
noncomputable def PC(X:Cx)(op:CmpOp)(a b:C3)(t:TE):Prop :=
 ∀ (aa:KL) (s:A4) (σ:St) (H:Hp) (Q:VK),F' X aa σ H s->t σ H Q ->
  wpAny (model X.prog X.w) X.A (eval a X.env) (λv s₁=>wpAny (model X.prog X.w) X.A (eval b X.env) (λu s₂=>wpAny (model X.prog X.w) X.A (compareOp op v u) (EP X aa σ Q) X.xe s₂) X.xe s₁) X.xe s
noncomputable def tB(t:TE):TT:=λσ H Q=>t σ H λx H1=>∃ c,x=.bl c/\Q c H1
theorem kv{t:TE}(h:PC X op a b t)(h1:behindInMarks op b=false:=by first | exact nobehind _ (by decide) (by decide) | rfl):PT X (.Compare a [op] [b] pos) (tB t):=by
 intro aa s σ H Q I J;refine wpAny_isTrue_Compare1 (Ws (h aa s σ H _ I J) λv s1 h1=>Ws h1 λu s2 h2=>Ws h2 λc P zz=>?_) h1;obtain⟨x,H1,I1,r1,Y⟩:=zz;obtain⟨d,rfl,q⟩:=Y;cases r1;exact EW ⟨H1,I1,q⟩
variable{tA aJ:TT}
noncomputable def j8(t u:TT):TT:=λσ H Q=>t σ H λc H1=>if c=true then u σ H1 Q else Q false H1
noncomputable def kR(t u:TT):TT:=λσ H Q=>t σ H λc H1=>if c=true then Q true H1 else u σ H1 Q
noncomputable def fw(t:TT):TT:=λσ H Q=>t σ H λc H1=>Q (!c) H1
theorem fX(ha:PT X a tA):PW X (.BoolOp .And [a] pos) tA:=by
 intro d aa s σ H Q I h;refine isTrue_and (Ws (ha aa s σ H Q I h) λc s1 e=>?_);cases c with
 | true=>exact isTrue_and_nil e
 | false=>exact e
theorem lA(ha:PT X a tA):PW X (.BoolOp .Or [a] pos) tA:=by
 intro d aa s σ H Q I h;refine isTrue_or (Ws (ha aa s σ H Q I h) λc s1 e=>?_);cases c with
 | false=>exact isTrue_or_nil e
 | true=>exact e
theorem d8(ha:PT X a tA)(hb:PW X (.BoolOp .And (b::aj) pos) aJ):PW X (.BoolOp .And (a::b::aj) pos) (j8 tA aJ):=by
 intro d aa s σ H Q I h;refine isTrue_and (Ws (ha aa s σ H _ I h) λc s1 ⟨H1,I1,Y⟩=>?_);cases c with
 | true=>exact hb d aa s1 σ H1 Q I1 Y
 | false=>exact⟨H1,I1,Y⟩
theorem f7(ha:PT X a tA)(hb:PW X (.BoolOp .Or (b::aj) pos) aJ):PW X (.BoolOp .Or (a::b::aj) pos) (kR tA aJ):=by
 intro d aa s σ H Q I h;refine isTrue_or (Ws (ha aa s σ H _ I h) λc s1 ⟨H1,I1,Y⟩=>?_);cases c with
 | true=>exact⟨H1,I1,Y⟩
 | false=>exact hb d aa s1 σ H1 Q I1 Y
theorem fq(ha:PT X a tA):PT X (.UnaryOp .Not a pos) (fw tA):=by
 intro aa s σ H Q I h;exact isTrue_not (Ws (ha aa s σ H (λc H1=>Q (!c) H1) I h) λ_ _ ⟨H1,i,q⟩=>⟨H1,i,q⟩)
noncomputable def iC(ta tb:TE):TE:=λσ H Q=>ta σ H λx H1=>∃ c,x=.bl c/\if c=true then Q (.bl true) H1 else tb σ H1 Q
noncomputable def jD(ta:TE):TE:=λσ H Q=>ta σ H λx H1=>∃ c,x=.bl c/\Q (.bl (!c)) H1
theorem dG{op}{t:TE}(h:PE X a t):PE X (.BoolOp op [a] pos) t:=λaa s σ H Q I J=>BoolOp_one (h aa s σ H Q I J)
theorem kA(ha:PE X a ta)(hb:PE X (.BoolOp .Or (b::aj) pos) tb):PE X (.BoolOp .Or (a::b::aj) pos) (iC ta tb):=by
 intro aa s σ H Q I h;refine BoolOp_or (Ws (ha aa s σ H _ I h) λv s1 zz=>?_);obtain⟨x,H1,I1,r1,Y⟩:=zz;obtain⟨c,rfl,Y⟩:=Y;cases r1;refine EW ?_;cases c with
 | false=>exact hb aa s1 σ H1 Q I1 Y
 | true=>exact⟨.bl true,H1,I1,rfl,Y⟩
theorem gU(ha:PE X a ta):PE X (.UnaryOp .Not a pos) (jD ta):=by
 intro aa s σ H Q I h;refine UnaryOp_ (Ws (ha aa s σ H _ I h) λv s1 zz=>?_);obtain⟨x,H1,I1,r1,Y⟩:=zz;obtain⟨c,rfl,Y⟩:=Y;cases r1;exact not_of (EW ⟨.bl (!c),H1,I1,rfl,Y⟩)
end
variable{σ:St}{te tl ta:TE}{tc:TT}{tb:TS}
noncomputable def Dc(K:J1)(H:Hp)(a:A2)(xs:Z V):Prop :=
 Rd H a (.lst xs) \/
  ∃ (o:Obj) (its:Array A1) (n:Nat),K.lookup a=some o/\o.cls=.type "list" /\ o.dict=none/\o.data=.seq its n/\its.size<=sizeLine/\Y5 xs its.toList
noncomputable def Dr(K:J1)(H:Hp)(a:A2)(xs:Z V):Prop :=
 H a=some (.tup xs) \/
  ∃ (o:Obj) (its:Array A1) (n:Nat),K.lookup a=some o/\o.cls=.type "tuple" /\ o.data=.seq its n/\its.size<=sizeLine/\Y5 xs its.toList/\∀ i:Int,V.int i∉xs
noncomputable def mG:A1->C1 V
 | .none=>some .non
 | .bool b=>some (.bl b)
 | .int i _=>some (.int i)
 | .str x _=>some (.str x)
 | .bytes b _=>some (.byt b)
 | .float b _=>some (.flt b)
 | .ref a=>some (.ref a)
 | .type n=>some (.ty n)
 | _=>none
theorem Yr.abs{x:V}(r:Yr x u):mG u=some x:=by
 cases x with
 | non=>cases r;rfl
 | bl _=>cases r;rfl
 | int _=>obtain⟨t,rfl⟩:=r;rfl
 | str _=>obtain⟨t,rfl⟩:=r;rfl
 | byt _=>obtain⟨t,rfl⟩:=r;rfl
 | flt _=>obtain⟨t,rfl⟩:=r;rfl
 | ref _=>cases r;rfl
 | ty _=>cases r;rfl
theorem Yr.inj{x y:V}{u:A1}(r:Yr x u)(q:Yr y u):x=y:=BC (r.abs.symm.trans q.abs)
theorem Y5.inj:∀ {xs ys:Z V} {us:Z A1},Y5 xs us->Y5 ys us->xs=ys
 | _,_,_,.nil,.nil=>rfl
 | _,_,_,.cons r t,.cons r' t'=>by rw[r.inj r',Y5.inj t t']
section
variable{X:Cx}{a:A2}{ys:Z V}
theorem Dc.of(h:H a=some (.lst xs)):Dc K H a xs:=.inl (.inl h)
theorem F'.list(I:F' X aa σ H s)(h:Dc X.K H a xs):∃ its:Z A1,Y5 xs its/\PlainL s.heap a its.toArray/\xs.length<=sizeLine:=by
 rcases h with h | ⟨o,its,n,hk,hc,hd,hs,hz,r⟩
 .obtain⟨z,its,n,r,e⟩:=h.ok I.hok
  exact⟨its,r,⟨_,n,e,rfl,rfl,rfl⟩,z⟩
 .refine⟨its.toList,r,⟨o,n,I.kIn a o hk,hc,hd,by simpa using hs⟩,?_⟩
  have e:=r.length;simp only[FE] at e;lia
theorem F'.tuple(I:F' X aa σ H s)(h:Dr X.K H a xs):∃ its:Z A1,Y5 xs its/\IsTup s.heap a its.toArray/\xs.length<=sizeLine:=by
 rcases h with h | ⟨o,its,n,hk,hc,hs,hz,r,_⟩
 .obtain⟨z,its,r,p⟩:=(Rd.of h).ok I.hok
  exact⟨its,r,p,z⟩
 .refine⟨its.toList,r,⟨o,I.kIn a o hk,hc,n,by simpa using hs⟩,?_⟩
  have e:=r.length;simp only[FE] at e;lia
theorem F'.list_inj(I:F' X aa σ H s)(h:Dc X.K H a xs)(h':Dc X.K H a ys):xs=ys:=by
 obtain⟨its,r,⟨o,n,e,_,_,d⟩,_⟩:=I.list h;obtain⟨its',r',⟨o',g,e',_,_,d'⟩,_⟩:=I.list h';rw[e] at e';cases e';rw[d] at d';injection d' with T _
 have:its=its':=by simpa using DY Array.toList T
 subst this;exact r.inj r'
theorem F'.tuple_inj(I:F' X aa σ H s)(h:Dr X.K H a xs)(h':Dr X.K H a ys):xs=ys:=by
 obtain⟨its,r,⟨o,e,_,n,d⟩,_⟩:=I.tuple h;obtain⟨its',r',⟨o',e',_,g,d'⟩,_⟩:=I.tuple h';rw[e] at e';cases e';rw[d] at d';injection d' with T _
 have:its=its':=by simpa using DY Array.toList T
 subst this;exact r.inj r'
end
noncomputable abbrev Cx.wish(X:Cx)(E:KN):Cx:={ X with xe:=E }
noncomputable abbrev Cx.nox(X:Cx):Cx:=X.wish λ_ _=>False
theorem Cx.Ok.wish{X:Cx}(ok:X.Ok)(E:KN):(X.wish E).Ok :=
 ⟨ok.mod,ok.kind,ok.glob,ok.blt,ok.above,ok.inj,ok.has,ok.cab,ok.hd,ok.frames,ok.stk,ok.exf,ok.bs,ok.bsz,ok.noex,ok.exfs,ok.funs,ok.frf⟩
theorem Cx.Ok.unwish{X:Cx}(ok:(X.wish E).Ok):X.Ok :=
 ⟨ok.mod,ok.kind,ok.glob,ok.blt,ok.above,ok.inj,ok.has,ok.cab,ok.hd,ok.frames,ok.stk,ok.exf,ok.bs,ok.bsz,ok.noex,ok.exfs,ok.funs,ok.frf⟩
section
variable{X:Cx}
theorem F'.wish(I:F' X aa σ H s)(E:KN):F' (X.wish E) aa σ H s:=⟨I.ok.wish E,I.os,I.bare,I.base,I.loc,I.cell,I.free,I.freeC,I.pin,I.hok,I.len⟩
theorem F'.unwish(I:F' (X.wish E) aa σ H s):F' X aa σ H s:=⟨I.ok.unwish,I.os,I.bare,I.base,I.loc,I.cell,I.free,I.freeC,I.pin,I.hok,I.len⟩
theorem SP.unwish{D:KR}{f:Flow}(h:SP (X.wish E) aa D f s'):SP X aa D f s':=by
 cases f with
 | next=>obtain⟨σ',H',I,q⟩:=h;exact⟨σ',H',I.unwish,q⟩
 | brk=>obtain⟨σ',H',I,q⟩:=h;exact⟨σ',H',I.unwish,q⟩
 | cont=>obtain⟨σ',H',I,q⟩:=h;exact⟨σ',H',I.unwish,q⟩
 | ret u=>obtain⟨v,σ',H',I,r,q⟩:=h;exact⟨v,σ',H',I.unwish,r,q⟩
theorem Dq.nox{st:Z Df}{t:TS}(h:Dq X.nox st t):Dq X st t:=λaa s σ H D I J =>
 BF (h aa s σ H D (I.wish _) J) (λ_ _ q=>q.unwish) λ_ _ z=>False.elim z
end
section
variable{X:Cx}{st:Df}{aj:Z Df}{t u:TS}
noncomputable def mv:TS:=λD σ H=>D.nx σ H
noncomputable def NW(t u:TS):TS:=λD σ H=>t { D with nx:=u D } σ H
theorem cR:Dq X [] mv:=λ_ _ σ H _ I h=>HU ⟨σ,H,I,h⟩
theorem Mo(h1:PS X st t)(h2:Dq X aj u):Dq X (st::aj) (NW t u):=by
 intro aa s σ H D I h;refine wpAny_execs_cons (Ws (h1 aa s σ H { D with nx:=u D } I h) λf s1 q=>?_);cases f with
 | next =>
  obtain⟨σ',H',G,q⟩:=q;exact h2 aa s1 σ' H' D G q
 | ret v=>exact q
 | brk=>exact q
 | cont=>exact q
theorem Gp(h1:PS X st t):Dq X [st] t:=by
 intro aa s σ H D I h;refine wpAny_execs_cons (Ws (h1 aa s σ H D I h) λf s1 q=>?_);cases f with
 | next=>exact HU q
 | ret v=>exact q
 | brk=>exact q
 | cont=>exact q
noncomputable def eU:TS:=λD σ H=>D.ct σ H
theorem d0:PS X (.Continue pos) eU:=λ_ _ σ H _ I h=>wpAny_Continue ⟨σ,H,I,h⟩
theorem F'.quiet(I:F' X aa σ H s):interactive X.env=false:=by simp[interactive,I.ok.kind]
noncomputable def RJ(te:TE):TS:=λD σ H=>te σ H λ_ H1=>D.nx σ H1
theorem Jr(he:PE X e te)(hs:swapsWith e none pos.line X.env=pure false:=by rfl):PS X (.Expr e pos) (RJ te):=by
 intro aa s σ H D I h;exact wpAny_Expr_any (Ws (he aa s σ H _ I h) λv s1 ⟨x,H1,I1,r1,Y⟩=>⟨σ,H1,I1,Y⟩) I.quiet hs
noncomputable def gq(te:TE):TS:=λD σ H=>te σ H D.rt
theorem Aa(he:PE X e te):PS X (.Return (some e) pos) (gq te):=by
 intro aa s σ H D I h;exact wpAny_Return_some (Ws (he aa s σ H _ I h) λv s1 ⟨x,H1,I1,r1,Y⟩=>⟨x,σ,H1,I1,r1,Y⟩)
noncomputable def cu(c:TT)(t u:TS):TS:=λD σ H=>c σ H λb H1=>if b=true then t D σ H1 else u D σ H1
theorem jZ{c:C3}{a b:Z Df}(hc:PT X c tc)(ha:Dq X a t)(hb:Dq X b u):PS X (.If c a b pos) (cu tc t u):=by
 intro aa s σ H D I h;refine wpAny_If (Ws (hc aa s σ H _ I h) λd s1 ⟨H1,I1,Y⟩=>?_);cases d with
 | true=>exact ha aa s1 σ H1 D I1 Y
 | false=>exact hb aa s1 σ H1 D I1 Y
end
noncomputable abbrev TG:=V->St->Hp->(St->Hp->Prop)->Prop
noncomputable abbrev MP:=Z V->St->Hp->(St->Hp->Prop)->Prop
noncomputable def PG(X:Cx)(a:C3)(t:TG):Prop :=
 ∀ (aa:KL) (s:A4) (σ:St) (H:Hp) (v:V) (u:A1) (Q:St->Hp->Prop),F' X aa σ H s->Yr v u->t v σ H Q ->
  wpAny (model X.prog X.w) X.A (assign a X.env u) (λ_ s'=>∃ σ' H',F' X aa σ' H' s'/\Q σ' H') X.xe s
noncomputable def NC(X:Cx)(ts:Z C3)(t:MP):Prop :=
 ∀ (aa:KL) (s:A4) (σ:St) (H:Hp) (vs:Z V) (us:Z A1) (Q:St->Hp->Prop),F' X aa σ H s->Y5 vs us->t vs σ H Q ->
  wpAny (model X.prog X.w) X.A (assignInOrder ((assignEach ts X.env).map (·.2)) us) (λ_ s'=>∃ σ' H',F' X aa σ' H' s'/\Q σ' H') X.xe s
noncomputable abbrev UK:=V->V->V->Hp->(Hp->Prop)->Prop
noncomputable def WF(X:Cx)(t:UK):Prop :=
 ∀ (aa:KL) (s:A4) (σ:St) (H:Hp) (o i v:V) (E b u:A1) (Q:Hp->Prop),F' X aa σ H s->Yr o E->Yr i b->Yr v u->t o i v H Q ->
  wpAny (model X.prog X.w) X.A (setItem E b u) (λ_ s'=>∃ H',F' X aa σ H' s'/\Q H') X.xe s
noncomputable abbrev RQ:=V->V->Hp->VK->Prop
noncomputable def WN(X:Cx)(op:Operator)(t:RQ):Prop :=
 ∀ (aa:KL) (s:A4) (σ:St) (H:Hp) (x y:V) (v u:A1) (Q:VK),F' X aa σ H s->Yr x v->Yr y u->t x y H Q ->
  wpAny (model X.prog X.w) X.A (inplaceOp op v u) (EP X aa σ Q) X.xe s
section
variable{X:Cx}
noncomputable def RV(i:Nat):TG:=λv σ H Q=>Q (σ.set i (some v)) H
theorem lw{x:Str}(hN:X.N.Nodup)(hi:X.N[i]?=some x)(hx:LL X.env.scope x)(hf:X.fn x=true\/X.env.scope.names.lookup x=some .local:=by ext):PG X (.Name x pos) (RV i):=by
 intro aa s σ H v u Q I r h;exact wpAny_assign_Name (Oz I hN hi hx r (λs' G=>⟨_,H,G,h⟩) hf)
noncomputable def ku:MP:=λvs σ H Q=>vs=[]/\Q σ H
noncomputable def hI(t:TG)(u:MP):MP:=λvs σ H Q=>∃ v r,vs=v::r/\t v σ H λσ' H'=>u r σ' H' Q
theorem iV:NC X [] ku:=by
 intro aa s σ H vs us Q I r h;obtain⟨e,h⟩:=h;subst e;cases r;exact assignInOrder_nil ⟨σ,H,I,h⟩
theorem kq{t:TG}{u:MP}(h1:PG X e t)(h2:NC X es u)
  (hs:(assignEach (e::es) X.env).map (·.2)=assign e X.env::(assignEach es X.env).map (·.2):=by rfl):NC X (e::es) (hI t u):=by
 intro aa s σ H vs us Q I r h;obtain⟨v,a,e1,h⟩:=h;subst e1;cases r with
 | cons r S =>
  rw[hs];refine assignInOrder_cons (Ws (h1 aa s σ H _ _ _ I r h) λ_ s1 ⟨σ1,H1,I1,Y⟩=>?_);exact h2 aa s1 σ1 H1 _ _ Q I1 S Y
noncomputable def bN(K:J1)(n:Nat)(t:MP):TG:=λv σ H Q=>∃ a xs,v=.ref a/\Dr K H a xs/\xs.length=n/\t xs σ H Q
theorem j2{k:Nat}{t:MP}{n:Nat}(hc:X.calm=true)(h:NC X es t)
  (hn:(assignEach es X.env).length=n:=by rfl) (l:(assignEach es X.env).findIdx? (·.1)=none:=by rfl):PG X (.Tuple es k pos) (bN X.K n t):=by
 intro aa s σ H v u Q I r J;obtain⟨a,xs,e1,hq,hl,J⟩:=J;subst e1;cases r;obtain⟨its,rv,ht,hz⟩:=I.tuple hq;refine assign_Tuple_tuple (I.ok.hd hc) ht (by simp[hn,<- hl,rv.length]) l λh' hx=>?_
 have I1:F' X aa σ H { s with heap:=h' }:=I.kept (t':=s.toks) λb o e=>hx b o (BR (AQ e)) e
 exact h aa _ σ H xs _ Q I1 (by simpa using rv) J
noncomputable def di(to d:TE)(t:UK):TG:=λv σ H Q=>to σ H λo H1=>d σ H1 λi H2=>t o i v H2 λG=>Q σ G
theorem kG{o i:C3}{to d:TE}{t:UK}(ho:PE X o to)(hi:PE X i d)(hs:WF X t)
  (ha:∀ v,assign (.Subscript o i pos) X.env v=(do
   let E <- holding [v] (eval o X.env)
   let b <- holding [v,E] (eval i X.env)
   standAt pos
   holding [v,E,b] (setItem E b v)
   release [v,E,b] []):=by intro _;rfl):PG X (.Subscript o i pos) (di to d t):=by
 intro aa s σ H v u Q I r h;rw[ha];refine AA (BQ (Ws (ho aa s σ H _ I h) λE s1 zz=>?_));obtain⟨x,H1,I1,r1,Y⟩:=zz;refine AA (BQ (Ws (hi aa s1 σ H1 _ I1 Y) λb s2 zz=>?_));obtain⟨y,H2,I2,r2,q2⟩:=zz;refine AA (CY (AA (BQ (Ws (hs aa s2 σ H2 x y v E b u _ I2 r1 r2 r q2) λ_ P ⟨G,j,J⟩=>?_))));exact wpAny_release ⟨σ,G,j,J⟩
noncomputable def SK(te:TE)(g:TG):TS:=λD σ H=>te σ H λx H1=>g x σ H1 D.nx
theorem VC{g:TG}(he:PE X e te)(hg:PG X tg g)(hs:swapsWithSole [tg] e pos.line X.env=pure false:=by rfl)(J:swappedStores [tg] e X.env=pure none:=by rfl)
  (h1:(assignEach [tg] X.env).map (·.2)=[assign tg X.env]:=by rfl):PS X (.Assign [tg] e pos) (SK te g):=by
 intro aa s σ H D I h;refine wpAny_Assign_stores (Ws (he aa s σ H _ I h) λv s1 zz=>?_) hs J;obtain⟨x,H1,I1,r1,Y⟩:=zz;rw[h1];exact Ws (hg aa s1 σ H1 x v _ I1 r1 Y) λ_ s2 q=>q
theorem Nu{x:Str}(hN:X.N.Nodup)(hi:X.N[i]?=some x)(hx:LL X.env.scope x)(he:PE X e te)(hs:swapsWith e (some (.Name x al)) pos.line X.env=pure false:=by rfl)(hf:X.fn x=true\/X.env.scope.names.lookup x=some .local:=by ext) :
  PS X (.Assign [.Name x al] e pos) (SK te (RV i)):=by
 intro aa s σ H D I h;refine wpAny_Assign_Name (Ws (he aa s σ H _ I h) λv s1 zz=>?_) hs;obtain⟨y,H1,I1,r1,Y⟩:=zz;exact Oz I1 hN hi hx r1 (λs2 I2=>⟨_,H1,I2,Y⟩) hf
noncomputable def mF(i:Nat)(te:TE)(d:RQ):TS:=λD σ H=>∃ x,σ[i]?=some (some x)/\te σ H λy H1=>d x y H1 λz H2=>D.nx (σ.set i (some z)) H2
theorem cw{x:Str}{op:Operator}{d:RQ}(hN:X.N.Nodup)(hi:X.N[i]?=some x)(hx:LL X.env.scope x)(he:PE X e te)(ho:WN X op d)(hf:X.fn x=true\/X.env.scope.names.lookup x=some .local:=by ext) :
  PS X (.AugAssign (.Name x al) op e pos) (mF i te d):=by
 intro aa s σ H D I h;obtain⟨v,e1,h⟩:=h;obtain⟨m,hn,hl⟩:=I.loc;have b:LU X.env.scope x:=by rcases hx with k | k;exact .inl k;exact .inr (.inl k)
 obtain⟨u,r,l⟩:=hl i x v hi e1 b;refine wpAny_AugAssign_Name ?_;have go:wpAny (model X.prog X.w) X.A (eval e X.env) (λw s₂=>wpAny (model X.prog X.w) X.A (inplaceOp op u w) (λr s₃=>wpAny (model X.prog X.w) X.A (storeName X.env x r) (λ_=>SP X aa D .next) X.xe s₃) X.xe s₂) X.xe s:=by
  refine Ws (he aa s σ H _ I h) λw s1 zz=>?_;obtain⟨y,H1,I1,r1,Y⟩:=zz
  refine Ws (ho aa s1 σ H1 v y u w _ I1 r r1 Y) λz s2 zz=>?_;obtain⟨zv,H2,I2,r2,q2⟩:=zz
  exact Oz I2 hN hi hx r2 (λP j=>⟨_,H2,j,q2⟩) hf
 rcases l with⟨hk,hm⟩ | ⟨hk,c,hc,a⟩
 .exact wpAny_loadName_local I.ok.kind hk hn hm go
 .rcases hk with hk | hk
  .exact wpAny_loadName_cell I.ok.kind hk hc a go
  .rcases hx with k | k
   .have:X.env.scope.names.lookup x=some .free:=hk
    rw[k] at this;cases this
   .have:X.env.scope.names.lookup x=some .free:=hk
    rw[k] at this;cases this
noncomputable def dX(f:Int->Int->Int):RQ:=λx y H Q=>∃ i j,x=.int i/\y=.int j/\Q (.int (f i j)) H
theorem eE:WN X .Add (dX λi j=>i+j):=by
 intro aa s σ H x y v u Q I r1 r2 h;obtain⟨i,j,e1,e2,q⟩:=h;subst e1;subst e2;obtain⟨t,rfl⟩:=r1;obtain⟨t',rfl⟩:=r2;exact iadd_int ⟨.int _,H,I.tok _,⟨_,rfl⟩,q⟩
noncomputable def ja(c:TT)(tb:TS):TS:=λD σ H=>∃ W:Nat->St->Hp->Prop,(∃ m,W m σ H)/\∀ m σ H,W m σ H ->
 c σ H λb H1=>if b=true then ∃ N:St->Hp->Prop,(∀ σ' H',N σ' H'->∃ m',m'<m/\W m' σ' H')/\tb { D with nx:=N,ct:=N,bk:=D.nx } σ H1 else D.nx σ H1
theorem kQ{c:C3}(hp:PassesOwn (model X.prog X.w) X.A X.env X.xe)(hc:PT X c tc)(hb:Dq X body tb):PS X (.While c body [] pos) (ja tc tb):=by
 intro aa s σ H D I h;obtain⟨W,⟨m0,w0⟩,B⟩:=h;refine wpAny_While (codeAny_whileLoop (λn s'=>∃ σ' H',F' X aa σ' H' s'/\W n σ' H') ?_ m0 ⟨σ,H,I,w0⟩);rintro n s1 ⟨σ1,H1,I1,w1⟩;refine ET hp (Ws (hc aa s1 σ1 H1 _ I1 (B n σ1 H1 w1)) λb s2 ⟨H2,I2,q2⟩=>?_);cases b with
 | true =>
  obtain⟨N,hN,q2⟩:=q2;rw[AH rfl];refine ET hp (Ws (hb aa s2 σ1 H2 _ I2 q2) λf P J=>?_);cases f with
  | next =>
   obtain⟨σ3,G,j,R⟩:=J;obtain⟨m',hm,a⟩:=hN σ3 G R;exact⟨m',hm,σ3,G,j,a⟩
  | cont =>
   obtain⟨σ3,G,j,R⟩:=J;obtain⟨m',hm,a⟩:=hN σ3 G R;exact⟨m',hm,σ3,G,j,a⟩
  | brk=>exact J
  | ret v=>exact J
 | false =>
  rw[AM CU];exact HU ⟨σ1,H2,I2,q2⟩
end
structure It where
 go:Nat->Hp->Prop
 yld:Nat->Hp->V->Hp->Prop
 stop:Nat->Hp->Prop
noncomputable def Sx(X:Cx)(aa:KL)(H:Hp)(b:A2):Prop :=
 H b=none/\b≠X.env.locals/\b∉X.fs/\(b∈X.ex\/X.s₀.heap.objs.size<=b)/\(∀ x c,X.env.cells.lookup x=some c->c≠b)/\∀ p∈X.pn++aa,p.1≠b
theorem F'.fpOk{X:Cx}{b:A2}(I:F' X aa σ H s)(hb:s.heap.objs.size<=b)(hn:H' b=none):Sx X aa H' b:=by
 refine⟨hn,KG (AO I.lt hb),I.nofs hb,.inr (BA I.sz hb),λx c e z=>?_,λp hp z=>?_⟩
 .obtain⟨v,q⟩:=I.cell x c e
  exact absurd (AO q.lt (by rw[z];exact hb)) (DF _)
 .exact absurd (AO (AQ (I.pin p hp).1) (by rw[z];exact hb)) (DF _)
noncomputable def HdS(A:C0)(h:H3):Prop:=A.handled=none\/∃ e,A.handled=some (.ref e)/\ChX h e
noncomputable def MT(X:Cx):Prop:=∀ aa σ H s,F' X aa σ H s->HdS X.A s.heap
theorem MT.calm{X:Cx}(h:X.calm=true):MT X:=λ_ _ _ _ I=>.inl (I.ok.hd h)
noncomputable def Cm:Bool->Cx->Prop
 | false,X=>X.calm=true
 | true,X=>MT X
structure LI (b:Bool) (P:Program) (w:World) (K:J1) (tg:Expr) (J:It) (fp:List Addr) (it:Addr) (tn:Nat->Heap->Prop):Prop where
 mem:it∈fp
 obj:∀ i h,tn i h->∀ b∈fp,∃ o,h.get? b=some o/\∀ v,o.data≠.cell v
 keep:∀ i h h',tn i h->(∀ b∈fp,∀ o,h.get? b=some o->h'.get? b=some o)->tn i h'
 item:∀ (X:Cx),X.prog=P->X.w=w->X.K=K->Cm b X->∀ (i:Nat) (aa:KL) (s:Shared) (σ:St) (H:Hp) (E:KN),F' X aa σ H s->(∀ b∈fp,Sx X aa H b)->tn i s.heap->J.go i H ->
  wpAny (model P w) X.A (pyNext (.ref it)) (λr s1=>∃ u,r=some u /\
   wpAny (model P w) X.A (letOwnedTupleGo tg (.ref it) u) (λ_ s2=>∃ x H',F' X aa σ H' s2/\Yr x u/\J.yld i H x H'/\tn (i+1) s2.heap/\∀ b∈fp,H' b=none) E s1) E s
 done:∀ (X:Cx),X.prog=P->X.w=w->X.K=K->Cm b X->∀ (i:Nat) (aa:KL) (s:Shared) (σ:St) (H:Hp) (E:KN),F' X aa σ H s->(∀ b∈fp,Sx X aa H b)->tn i s.heap->J.stop i H ->
  wpAny (model P w) X.A (pyNext (.ref it)) (λr s1=>r=none/\F' X aa σ H s1) E s
 self:∀ (A:Around) (i:Nat) (s:Shared) (Q:KN) (E:KN),tn i s.heap->Q (.ref it) s->wpAny (model P w) A (pyIter (.ref it)) Q E s
noncomputable abbrev OF:=LI false
theorem LI.weak{J:It}(T:LI true P w K tg J fp it tn):OF P w K tg J fp it tn :=
 ⟨T.mem,T.obj,T.keep,λX h1 h2 h3 hc=>T.item X h1 h2 h3 (MT.calm hc),λX h1 h2 h3 hc=>T.done X h1 h2 h3 (MT.calm hc),T.self⟩
noncomputable abbrev TI:=St->Hp->(It->Hp->Prop)->Prop
noncomputable def XS(b:Bool)(X:Cx)(aa:KL)(σ:St)(tg:C3)(R:It->Hp->Prop)(c:A1)(s2:A4):Prop :=
 ∃ (it:A2) (fp:Z A2) (tn:Nat->H3->Prop) (J:It) (H':Hp),c=.ref it/\F' X aa σ H' s2/\LI b X.prog X.w X.K tg J fp it tn/\tn 0 s2.heap/\(∀ b∈fp,Sx X aa H' b)/\R J H'
noncomputable abbrev l9:=XS false
noncomputable def MQ(b:Bool)(X:Cx)(tg iter:C3)(wi:TI):Prop :=
 ∀ (aa:KL) (s:A4) (σ:St) (H:Hp) (R:It->Hp->Prop),F' X aa σ H s->wi σ H R ->
  wpAny (model X.prog X.w) X.A (eval iter X.env) (λv s1=>wpAny (model X.prog X.w) X.A (pyIter v) (XS b X aa σ tg R) X.xe s1) X.xe s
noncomputable abbrev PI:=MQ false
theorem MQ.weak{X:Cx}{wi:TI}(h:MQ true X tg iter wi):PI X tg iter wi:=λaa s σ H R I q=>BF (h aa s σ H R I q) (λv s1 z=>BF z (λu s2 zz=>by obtain⟨it,fp,tn,J,H',a,b,c,d⟩:=zz;exact⟨it,fp,tn,J,H',a,b,c.weak,d⟩) λ_ _ z=>z) λ_ _ z=>z
theorem RT{M:Model}{o:Obj}{n:String}(ho:s.heap.get? it=some o)(hc:o.cls=.type n)(hd:o.data=.fields vs)
   (hn:["enumerate","zip","dict_itemiterator","dict_reverseitemiterator","odict_iterator","itertools.zip_longest","itertools.pairwise"].contains n=false) (j:Q () s):wpAny M A (letOwnedTupleGo tg (.ref it) u) Q E s:=by
 unfold letOwnedTupleGo;cases tg<;>first
   | exact AI j
   | (cases u<;>first
       | exact AI j
       | (refine AA (wpAny_load ho ?_)
          rw[hc,hd];show wpAny M A (if(["enumerate","zip","dict_itemiterator","dict_reverseitemiterator","odict_iterator","itertools.zip_longest","itertools.pairwise"].contains n&&vs[0]?==some (rawInt _))=true then _ else _) Q E s;rw[AM (by intro h;rw[hn,JS] at h;cases h)];exact AI j))
noncomputable def UR(K:J1)(a:A2):It :=
 ⟨λi H=>∃ xs x,Dc K H a xs/\xs[i]?=some x,λi H x H'=>H'=H/\∀ xs,Dc K H a xs->xs[i]?=some x,λi H=>∃ xs,Dc K H a xs/\xs.length<=i⟩
noncomputable def TL(K:J1)(a:A2):It :=
 ⟨λi H=>∃ xs x,Dr K H a xs/\xs[i]?=some x,λi H x H'=>H'=H/\∀ xs,Dr K H a xs->xs[i]?=some x,λi H=>∃ xs,Dr K H a xs/\xs.length<=i⟩
noncomputable def SC(lo:Int)(n:Nat):It:=⟨λi _=>i<n,λi H x H'=>H'=H/\x=.int (lo+i),λi _=>n<=i⟩
theorem lX(a it:A2):LI true P w K tg (UR K a) [it] it (λi h=>h.IsListIter it a i) where
 mem:=by simp
 obj:=λi h st b hb=>by
  have e:b=it:=by simpa using hb
  subst e;obtain⟨o,e,c,d⟩:=st;exact⟨o,e,λv z=>by rw[d] at z;cases z⟩
 keep:=λi h h' st k=>st.at λo e=>k it (by simp) o e
 item:=by
  intro X m J hK hc i aa s σ H E I hf st hg;subst m J hK;obtain⟨xs,x,hq,hx⟩:=hg;obtain⟨its,rv,p,hz⟩:=I.list hq;obtain⟨u,C,M⟩:=rv.get hx;obtain⟨f0,f1,f2,f3,l,g⟩:=hf it (by simp);refine wpAny_pyNext_list_item st p.isList (x:=u) (by simpa using C) λh' j sb=>?_
  have I1:F' X aa σ H { s with heap:=h' }:=I.turned (t':=s.toks) (λb o hb e=>(sb.2 b hb).trans e) f0 f1 f3 l g;obtain⟨o,e,c,d⟩:=id j;exact⟨u,rfl,RT (s:={ s with heap:=h' }) e c d (by decide) ⟨x,H,I1,M,⟨rfl,λys hy=>by rw[I.list_inj hy hq];exact hx⟩,j,λb hb=>(hf b hb).1⟩⟩
 done:=by
  intro X m J hK hc i aa s σ H E I hf st hg;subst m J hK;obtain⟨xs,hq,hx⟩:=hg;obtain⟨its,rv,p,hz⟩:=I.list hq;obtain⟨f0,f1,f2,f3,l,g⟩:=hf it (by simp);have hl:=rv.length;rcases hc _ _ _ _ I with hh | ⟨e,hh,S⟩
  .exact wpAny_pyNext_list_end hh st p.isList (by simp;lia) λh' eb=>⟨rfl,I.turned (t':=s.toks) (λb o hb e=>eb b o hb e) f0 f1 f3 l g⟩
  .exact Po hh S st p.isList (by simp;lia) λh' eb=>⟨rfl,I.turned (t':=s.toks) (λb o hb e=>eb b o hb e) f0 f1 f3 l g⟩
 self:=λ_ _ _ _ _ st h=>wpAny_pyIter_listiter st h
variable{Q:VK}{vs:Z V}
theorem iN(a it:A2):OF P w K tg (TL K a) [it] it (λi h=>h.IsTupleIter it a i) where
 mem:=by simp
 obj:=λi h st b hb=>by
  have e:b=it:=by simpa using hb
  subst e;obtain⟨o,e,c,d⟩:=st;exact⟨o,e,λv z=>by rw[d] at z;cases z⟩
 keep:=λi h h' st k=>st.at λo e=>k it (by simp) o e
 item:=by
  intro X m J hK hc i aa s σ H E I hf st hg;subst m J hK;obtain⟨xs,x,hq,hx⟩:=hg;obtain⟨its,rv,p,hz⟩:=I.tuple hq;obtain⟨u,C,M⟩:=rv.get hx;obtain⟨f0,f1,f2,f3,l,g⟩:=hf it (by simp);refine wpAny_pyNext_tuple_item st (show s.heap.IsTuple a its.toArray from p) (x:=u) (by simpa using C) λh' j sb=>?_
  have I1:F' X aa σ H { s with heap:=h' }:=I.turned (t':=s.toks) (λb o hb e=>(sb.2 b hb).trans e) f0 f1 f3 l g;obtain⟨o,e,c,d⟩:=id j;exact⟨u,rfl,RT (s:={ s with heap:=h' }) e c d (by decide) ⟨x,H,I1,M,⟨rfl,λys hy=>by rw[I.tuple_inj hy hq];exact hx⟩,j,λb hb=>(hf b hb).1⟩⟩
 done:=by
  intro X m J hK hc i aa s σ H E I hf st hg;subst m J hK;obtain⟨xs,hq,hx⟩:=hg;obtain⟨its,rv,p,hz⟩:=I.tuple hq;obtain⟨f0,f1,f2,f3,l,g⟩:=hf it (by simp);have hl:=rv.length;exact wpAny_pyNext_tuple_end (I.ok.hd hc) st (show s.heap.IsTuple a its.toArray from p) (by simp;lia) λh' eb=>⟨rfl,I.turned (t':=s.toks) (λb o hb e=>eb b o hb e) f0 f1 f3 l g⟩
 self:=λ_ _ _ _ _ st h=>wpAny_pyIter_tupleiter st h
theorem fW(it:A2)(lo:Int)(n:Nat):OF P w K tg (SC lo n) [it] it (λi h=>IsRangeIter h it (lo+(i:Nat)*1) ((n:Int) - (i:Nat)) 1) where
 mem:=by simp
 obj:=λi h st b hb=>by
  have e:b=it:=by simpa using hb
  subst e;exact⟨_,st,λv z=>by
   have D:Data.fields _=Data.cell v:=z;cases D⟩
 keep:=λi h h' st k=>k it (by simp) _ st
 item:=by
  intro X m J hK hc i aa s σ H E I hf st hg;subst m J hK;obtain⟨f0,f1,f2,f3,l,g⟩:=hf it (by simp);have W:=Walks.range (prog:=X.prog) (w:=X.w) (I.ok.hd hc) it lo 1 n;refine W.item i s _ _ hg st λv h' tk hv j kk=>?_
  obtain⟨t,rfl⟩:=hv;have I1:F' X aa σ H { s with heap:=h',toks:=tk }:=I.turned (λb o hb e=>kk b o (by simpa using hb) e) f0 f1 f3 l g;refine⟨_,rfl,RT (s:={ s with heap:=h',toks:=tk }) (n:="range_iterator") j rfl rfl (by decide) ⟨.int (lo+i),H,I1,⟨t,?_⟩,⟨rfl,rfl⟩,j,λb hb=>(hf b hb).1⟩⟩;rw[Int.mul_one]
 done:=by
  intro X m J hK hc i aa s σ H E I hf st hg;subst m J hK;obtain⟨f0,f1,f2,f3,l,g⟩:=hf it (by simp);exact wpAny_pyNext_range_end (I.ok.hd hc) st (by have:n<=i:=hg;lia) λh' eb=>⟨rfl,I.turned (t':=s.toks) (λb o hb e=>eb b o hb e) f0 f1 f3 l g⟩
 self:=λ_ _ _ _ _ st h=>wpAny_pyIter_rangeiter st h
section
variable{X:Cx}
noncomputable def VO(K:J1)(tl:TE):TI:=λσ H R=>tl σ H λx H1=>∃ a,x=.ref a/\(∃ xs,Dc K H1 a xs)/\R (UR K a) H1
noncomputable def cH(K:J1)(tl:TE):TI:=λσ H R=>tl σ H λx H1=>∃ a,x=.ref a/\(∃ xs,Dr K H1 a xs)/\R (TL K a) H1
theorem lx(hl:PE X l tl):MQ true X tg l (VO X.K tl):=by
 intro aa s σ H R I h;refine Ws (hl aa s σ H _ I h) λv s1 zz=>?_;obtain⟨x,H1,I1,r1,Y⟩:=zz
 obtain⟨a,e,⟨xs,hq⟩,q⟩:=Y;subst e;cases r1;obtain⟨its,rv,p,hz⟩:=I1.list hq;refine IV p.isList ?_;refine⟨s1.heap.objs.size,[s1.heap.objs.size],_,_,H1,rfl,I1.kept (t':=s1.toks) λb o e=>AE _ e,lX a _,⟨_,AY _ rfl,rfl,rfl⟩,λb hb=>?_,q⟩;have e:b=s1.heap.objs.size:=by simpa using hb
 subst e;exact I1.fpOk (AU _) (I1.hok.fresh (AU _))
theorem eM(hl:PE X l tl):PI X tg l (VO X.K tl):=(lx hl).weak
theorem hU(hl:PE X l tl):PI X tg l (cH X.K tl):=by
 intro aa s σ H R I h;refine Ws (hl aa s σ H _ I h) λv s1 zz=>?_;obtain⟨x,H1,I1,r1,Y⟩:=zz
 obtain⟨a,e,⟨xs,hq⟩,q⟩:=Y;subst e;cases r1;obtain⟨its,rv,p,hz⟩:=I1.tuple hq;refine GM (show s1.heap.IsTuple a its.toArray from p) ?_;refine⟨s1.heap.objs.size,[s1.heap.objs.size],_,_,H1,rfl,I1.kept (t':=s1.toks) λb o e=>AE _ e,iN a _,⟨_,AY _ rfl,rfl,rfl⟩,λb hb=>?_,q⟩;have e:b=s1.heap.objs.size:=by simpa using hb
 subst e;exact I1.fpOk (AU _) (I1.hok.fresh (AU _))
theorem ge{R:It->Hp->Prop}{lo hi:Int}{t u v:Tok}(I:F' X aa σ H s)(h1 : -(2^62)<=lo)(h2:lo<2^62)(h3 : -(2^62)<=hi)(h4:hi<2^62)
  (q:R (SC lo (hi - lo).toNat) H):wpAny (model X.prog X.w) X.A (pyIter (.ref s.heap.objs.size)) (l9 X aa σ tg R) E { s with heap:=s.heap.push { cls:=.type "range",data:=.fields #[.int lo t,.int hi u,.int 1 v] },toks:=tk }:=by
 refine wpAny_pyIter_range (IsRange.new ..) (small_one h1 h2 h3 h4) ?_;have I1:F' X aa σ H { s with heap:=s.heap.push { cls:=.type "range",data:=.fields #[.int lo t,.int hi u,.int 1 v] },toks:=tk }:=I.kept λb o e=>AE _ e
 refine⟨(s.heap.push { cls:=.type "range",data:=.fields #[.int lo t,.int hi u,.int 1 v] }).objs.size,[(s.heap.push { cls:=.type "range",data:=.fields #[.int lo t,.int hi u,.int 1 v] }).objs.size],_,_,H,rfl,
  I1.kept (t':=tk) λb o e=>AE _ e,fW _ lo (hi - lo).toNat,?_,λb hb=>?_,q⟩
 .have e1:lo+((0:Nat):Int)*1=lo:=by simp
  have e2:(((hi - lo).toNat:Nat):Int) - ((0:Nat):Int)=Builtin.Range.rangeSize lo hi 1:=by rw[rangeSize_one];split<;>lia
  show IsRangeIter _ _ (lo+((0:Nat):Int)*1) ((((hi - lo).toNat:Nat):Int) - ((0:Nat):Int)) 1;rw[e1,e2];exact AY _ rfl
 .have e:b=(s.heap.push { cls:=.type "range",data:=.fields #[.int lo t,.int hi u,.int 1 v] }).objs.size:=by simpa using hb
  subst e;exact I1.fpOk (AU _) (I1.hok.fresh (AU _))
noncomputable def gO(ta:TA):TI:=λσ H R=>ta σ H λvs H1=>∃ j:Int,vs=[.int j]/\-(2^62)<=j/\j<2^62/\R (SC 0 j.toNat) H1
theorem iw{a:C3}{ta:TA}(hg:Gl X "range")(hm:X.mg "range" = none)(ha:PA X [a] ta)(hs:starEach [a] X.env=[(false,eval a X.env)]:=by rfl):PI X tg (.Call (.Name "range" p) [a] [] pos) (gO ta):=by
 intro aa s σ H R I h;refine Call_ (Sm I hg hm boot_range (ES (Ws (ha pos aa s σ H _ I h) λus s1 zz=>?_) hs rfl));obtain⟨vs,H1,I1,r1,Y⟩:=zz;obtain⟨j,e,Y,q2,q⟩:=Y;subst e;cases r1 with
 | cons r S =>
  cases S;obtain⟨t,rfl⟩:=r;exact call_range_1 (ge I1 (by lia) (by lia) Y q2 (by simpa using q))
noncomputable def eR(wi:TI)(g:TG)(tb:TS):TS:=λD σ H=>wi σ H λJ H1=>∃ W:Nat->Nat->St->Hp->Prop,(∃ m,W 0 m σ H1)/\∀ i m σ H,W i m σ H ->
 (J.stop i H/\D.nx σ H)\/(J.go i H/\∃ N:St->Hp->Prop,(∀ σ' H',N σ' H'->∃ m',m'<m/\W (i+1) m' σ' H')/\∀ x H',J.yld i H x H'->g x σ H' λσ2 H2=>tb { D with nx:=N,ct:=N,bk:=D.nx } σ2 H2)
noncomputable def O5(fp:Z A2)(h:H3):Z (A2×Obj):=fp.filterMap λb=>(h.get? b).map λo=>(b,o)
theorem Rf{b:A2}{o:Obj}(hb:b∈fp)(e:h.get? b=some o):(b,o)∈O5 fp h:=List.mem_filterMap.mpr ⟨b,hb,by rw[e];rfl⟩
theorem jU{p:A2×Obj}(hp:p∈O5 fp h):p.1∈fp/\h.get? p.1=some p.2:=by
 obtain⟨b,hb,e⟩:=List.mem_filterMap.mp hp;cases q:h.get? b with
 | none=>rw[q] at e;cases e
 | some o =>
  rw[q] at e;have e':(b,o)=p:=BC e;subst e';exact⟨hb,q⟩
theorem F'.pinned(I:F' X aa σ H s)(hf:∀ b∈fp,Sx X aa H b)(ho:∀ b∈fp,∃ o,s.heap.get? b=some o/\∀ v,o.data≠.cell v):F' X (aa++O5 fp s.heap) σ H s :=
 I.pins_of λp hp=>(BO.mp hp).elim (λz=>I.pin p (BD _ z)) λz=>by
  obtain⟨hb,e⟩:=jU z;obtain⟨f0,f1,f2,_⟩:=hf p.1 hb;obtain⟨o,e',d⟩:=ho p.1 hb;rw[e] at e';cases e';exact⟨e,f0,f1,f2,d⟩
theorem F'.unpinned{pl:KL}(I:F' X (aa++pl) σ H s):F' X aa σ H s:=I.pins_of λp hp=>I.pin p (BD _ (BZ _ hp))
theorem lH{wi:TI}{g:TG}(hp:PassesOwn (model X.prog X.w) X.A X.env X.xe)(hc:X.calm=true)(hi:PI X tg iter wi)(hg:PG X tg g)(hb:Dq X body tb)
  (hs:∀ x,foldedSetIterable iter X.env x=pure x:=by intro _;rfl):PS X (.For tg iter body [] pos) (eR wi g tb):=by
 intro aa s σ H D I h;refine wpAny_For (Ws (hi aa s σ H _ I h) λv s1 h1=>Ws h1 λc s2 h2=>?_) hs;obtain⟨it,fp,tn,J,H2,e,I2,T,F,f2,W,⟨m0,w0⟩,B⟩:=h2;subst e
 -- what stays true of l iterator's objects through l ak
 have ac:∀ {H':Hp},(∀ b∈fp,H' b=none)->∀ b∈fp,Sx X aa H' b:=λhn b hb=>⟨hn b hb,(f2 b hb).2⟩
 refine codeAny_forLoop_any (λn s'=>∃ i σ' H',F' X aa σ' H' s'/\tn i s'.heap/\(∀ b∈fp,H' b=none)/\W i n σ' H') ?_ m0 ⟨0,σ,H2,I2,F,λb hb=>(f2 b hb).1,w0⟩;rintro n P ⟨i,σ3,G,j,k,p,a⟩;rcases B i n σ3 G a with⟨stop,qn⟩ | ⟨go,N,hN,step⟩
 .refine ET hp (Ws (T.done X rfl rfl rfl hc i aa P σ3 G X.xe j (ac p) k stop) λr s4 ⟨hr,I4⟩=>?_)
  subst hr;exact HU ⟨σ3,G,I4,qn⟩
 .refine ET hp (Ws (T.item X rfl rfl rfl hc i aa P σ3 G X.xe j (ac p) k go) λr s4 ⟨u,hr,h4⟩=>?_)
  subst hr;refine ET hp (Ws h4 λ_ s5 zz=>?_);obtain⟨x,H5,I5,r5,y5,ai,ap⟩:=zz;have ar:=I5.pinned (ac ap) (T.obj _ _ ai);refine ET hp (Ws (hg _ s5 σ3 H5 x u _ ar r5 (step x H5 y5)) λ_ s6 ⟨σ6,H6,I6,q6⟩=>?_);refine ET hp (Ws (hb _ s6 σ6 H6 _ I6 q6) λf s7 q7=>?_);have again:∀ {σ7:St} {H7:Hp},F' X (aa++O5 fp s5.heap) σ7 H7 s7->N σ7 H7->∃ m,m<n/\∃ i σ' H',F' X aa σ' H' s7/\tn i s7.heap/\(∀ b∈fp,H' b=none)/\W i m σ' H':=λ{σ7 H7} I7 q=>by
   obtain⟨m',hm,w7⟩:=hN σ7 H7 q;refine⟨m',hm,i+1,σ7,H7,I7.unpinned,T.keep _ _ _ ai λb hb o e=>(I7.pin (b,o) (BD _ (BD _ (Rf hb e)))).1,λb hb=>?_,w7⟩;obtain⟨o,e,d⟩:=T.obj _ _ ai b hb;exact(I7.pin (b,o) (BD _ (BD _ (Rf hb e)))).2.1
  cases f with
  | next=>obtain⟨σ7,H7,I7,q⟩:=q7;exact again I7 q
  | cont=>obtain⟨σ7,H7,I7,q⟩:=q7;exact again I7 q
  | brk=>obtain⟨σ7,H7,I7,q7⟩:=q7;exact⟨σ7,H7,I7.unpinned,q7⟩
  | ret v=>obtain⟨t,σ7,H7,I7,y,q7⟩:=q7;exact⟨t,σ7,H7,I7.unpinned,y,q7⟩
end
noncomputable abbrev R2:=V->V->Hp->VK->Prop
noncomputable def Dx(X:Cx)(f:A1->A1->Sem A1)(r:R2):Prop :=
 ∀ (aa:KL) (s:A4) (σ:St) (H:Hp) (x y:V) (v u:A1) (Q:VK),F' X aa σ H s->Yr x v->Yr y u->r x y H Q ->
  wpAny (model X.prog X.w) X.A (f v u) (EP X aa σ Q) X.xe s
noncomputable def NI(X:Cx)(f:A1->Sem A1)(r:V->Hp->VK->Prop):Prop :=
 ∀ (aa:KL) (s:A4) (σ:St) (H:Hp) (x:V) (v:A1) (Q:VK),F' X aa σ H s->Yr x v->r x H Q ->
  wpAny (model X.prog X.w) X.A (f v) (EP X aa σ Q) X.xe s
noncomputable def U4(X:Cx)(f:A1)(r:Z V->Hp->VK->Prop):Prop :=
 ∀ (aa:KL) (s:A4) (σ:St) (H:Hp) (xs:Z V) (us:Z A1) (Q:VK),F' X aa σ H s->Y5 xs us->r xs H Q ->
  wpAny (model X.prog X.w) X.A (call f us) (EP X aa σ Q) X.xe s
noncomputable def gt(X:Cx)(r:V->Hp->(Bool->Hp->Prop)->Prop):Prop :=
 ∀ (aa:KL) (s:A4) (σ:St) (H:Hp) (x:V) (v:A1) (Q:Bool->Hp->Prop),F' X aa σ H s->Yr x v->r x H Q ->
  wpAny (model X.prog X.w) X.A (truthy v) (TP X aa σ Q) X.xe s
noncomputable def OW(r:R2)(ta tb:TE):TE:=λσ H Q=>ta σ H λx H1=>tb σ H1 λy H2=>r x y H2 Q
noncomputable def eT(r:V->Hp->VK->Prop)(ta:TE):TE:=λσ H Q=>ta σ H λx H1=>r x H1 Q
noncomputable def rI(C:Int->Int->Prop)(g:Int->Int->V):R2:=λx y H Q=>∃ i j,x=.int i/\y=.int j/\C i j/\Q (g i j) H
noncomputable def MG(g:Int->Int->V):R2:=λx y H Q=>∃ i j,x=.int i/\y=.int j/\Q (g i j) H
noncomputable def rU(g:Int->V):V->Hp->VK->Prop:=λx H Q=>∃ i,x=.int i/\Q (g i) H
section
variable{X:Cx}{a b c:C3}{tb tc:TE}
theorem VL(ha:PE X a ta)(hb:PE X b tb){R:V->V->Hp->Prop}(I:F' X aa σ H s)
  (h:ta σ H λx H1=>tb σ H1 λy H2=>R x y H2) {Q:KN} {f:A1->A1->Sem A1}
  (hf:∀ v u s2 x y H2,F' X aa σ H2 s2->Yr x v->Yr y u->R x y H2->wpAny (model X.prog X.w) X.A (f v u) Q X.xe s2) :
  wpAny (model X.prog X.w) X.A (eval a X.env) (λv s₁=>wpAny (model X.prog X.w) X.A (eval b X.env) (λu s₂=>wpAny (model X.prog X.w) X.A (f v u) Q X.xe s₂) X.xe s₁) X.xe s:=by
 refine Ws (ha aa s σ H _ I h) λv s1 zz=>?_;obtain⟨x,H1,I1,r1,Y⟩:=zz
 refine Ws (hb aa s1 σ H1 _ I1 Y) λu s2 zz=>?_;obtain⟨y,H2,I2,r2,q2⟩:=zz
 exact hf v u s2 x y H2 I2 r1 r2 q2
theorem Z'{op:Operator}{r:R2}(ho:Dx X (binaryOp op) r)(ha:PE X a ta)(hb:PE X b tb):PE X (.BinOp a op b pos) (OW r ta tb):=by
 intro aa s σ H Q I h;exact wpAny_BinOp (VL ha hb I h λv u s2 x y H2 I2 S m q=>ho aa s2 σ H2 x y v u Q I2 S m q)
theorem dH{op:UnaryOp}{r:V->Hp->VK->Prop}(ho:NI X (unaryOp op) r)(ha:PE X a ta):PE X (.UnaryOp op a pos) (eT r ta):=by
 intro aa s σ H Q I h;exact UnaryOp_ (Ws (ha aa s σ H _ I h) λv s1 ⟨x,H1,I1,r1,Y⟩=>ho aa s1 σ H1 x v Q I1 r1 Y)
theorem QH{C:Int->Int->Prop} 
  (rule:∀ (i j:Int) (t u:Tok) (s:A4) (Q:KN) (E:KN),C i j->Q (.int (g i j) s.toks) { s with toks:=s.toks+1 }->wpAny (model X.prog X.w) X.A (f (.int i t) (.int j u)) Q E s) :
  Dx X f (rI C λi j=>.int (g i j)):=by
 intro aa s σ H x y v u Q I S m h;obtain⟨i,j,rfl,rfl,hc,q⟩:=h;obtain⟨t,rfl⟩:=S;obtain⟨t',rfl⟩:=m;exact rule i j t t' s _ _ hc ⟨.int (g i j),H,I.tok _,⟨_,rfl⟩,q⟩
theorem QK
  (rule:∀ (i j:Int) (t u:Tok) (s:A4) (Q:KN) (E:KN),Q (.int (g i j) s.toks) { s with toks:=s.toks+1 }->wpAny (model X.prog X.w) X.A (f (.int i t) (.int j u)) Q E s) :
  Dx X f (MG λi j=>.int (g i j)):=by
 intro aa s σ H x y v u Q I S m h;obtain⟨i,j,rfl,rfl,q⟩:=h;obtain⟨t,rfl⟩:=S;obtain⟨t',rfl⟩:=m;exact rule i j t t' s _ _ ⟨.int (g i j),H,I.tok _,⟨_,rfl⟩,q⟩
theorem UW{g:Int->Int->Bool}
  (rule:∀ (i j:Int) (t u:Tok) (s:A4) (Q:KN) (E:KN),Q (.bool (g i j)) s->wpAny (model X.prog X.w) X.A (f (.int i t) (.int j u)) Q E s) :
  Dx X f (MG λi j=>.bl (g i j)):=by
 intro aa s σ H x y v u Q I S m h;obtain⟨i,j,rfl,rfl,q⟩:=h;obtain⟨t,rfl⟩:=S;obtain⟨t',rfl⟩:=m;exact rule i j t t' s _ _ ⟨.bl (g i j),H,I,rfl,q⟩
noncomputable def QJ(i j:Int):Prop:=0<j/\j<1073741824
noncomputable def SG(i j:Int):Prop:=0<=j/\j<=1000000/\i.natAbs<2^64
noncomputable def NY(i j:Int):Prop:=(-(2^64)<i/\i<2^64)\/(-(2^64)<j/\j<2^64)
theorem NY.ok{i j:Int}(h:NY i j):IntMulOk i j:=by
 rcases h with⟨h1,h2⟩ | ⟨h1,h2⟩
 .exact .of_left (intBits_le_64 h1 h2)
 .exact .of_right (intBits_le_64 h1 h2)
theorem cq(k:Nat):(0:Int)<=2^k:=by
 rw[two_pow_cast];exact Int.natCast_nonneg _
theorem ce:Dx X (binaryOp .Add) (MG λi j=>.int (i+j)):=QK λ_ _ _ _ _ _ _ q=>add_int q
theorem gE:Dx X (binaryOp .Sub) (MG λi j=>.int (i - j)):=QK λ_ _ _ _ _ _ _ q=>sub_int q
theorem iz:Dx X (binaryOp .Mult) (rI NY λi j=>.int (i*j)):=QH λ_ _ _ _ _ _ _ hc q=>mul_int q hc.ok
theorem fN:Dx X (binaryOp .FloorDiv) (rI QJ λi j=>.int (i / j)):=QH λi j _ _ _ _ _ hc q=>by
 have h1:(0:Int)<j:=hc.1;have h2:j<1073741824:=hc.2;exact floordiv_int (by lia) (by rw[Int.fdiv_eq_ediv_of_nonneg i (by lia)];exact q) (.inl (PyProof.noPylong_small (by lia)))
theorem fO:Dx X (binaryOp .Mod) (rI (λ_ j=>0<j) λi j=>.int (i % j)):=QH λi j _ _ _ _ _ hc q=>by
 have h1:(0:Int)<j:=hc;exact mod_int' (by lia) (by rw[Int.fmod_eq_emod_of_nonneg i (by lia)];exact q)
theorem ml:Dx X (binaryOp .LShift) (rI SG λi j=>.int (i*2^j.toNat)):=QH λ_ _ _ _ _ _ _ hc q=>lshift_int_small hc.1 hc.2.1 hc.2.2 q
theorem dv:Dx X (binaryOp .RShift) (rI (λ_ j=>0<=j) λi j=>.int (i / 2^j.toNat)):=QH λi j _ _ _ _ _ hc q =>
 rshift_int hc (by rw[Int.fdiv_eq_ediv_of_nonneg i (cq _)];exact q)
theorem lB:Dx X (binaryOp .BitAnd) (MG λi j=>.int (Builtin.bitAnd i j)):=QK λ_ _ _ _ _ _ _ q=>and_int q
theorem jj:Dx X (binaryOp .BitOr) (MG λi j=>.int (Builtin.bitOr i j)):=QK λ_ _ _ _ _ _ _ q=>or_int q
theorem hV:Dx X (binaryOp .BitXor) (MG λi j=>.int (Builtin.bitXor i j)):=QK λ_ _ _ _ _ _ _ q=>xor_int q
theorem gp{f:A1->Sem A1}{g:Int->Int}
  (rule:∀ (i:Int) (t:Tok) (s:A4) (Q:KN) (E:KN),Q (.int (g i) s.toks) { s with toks:=s.toks+1 }->wpAny (model X.prog X.w) X.A (f (.int i t)) Q E s) :
  NI X f (rU λi=>.int (g i)):=by
 intro aa s σ H x v Q I S h;obtain⟨i,rfl,q⟩:=h;obtain⟨t,rfl⟩:=S;exact rule i t s _ _ ⟨.int (g i),H,I.tok _,⟨_,rfl⟩,q⟩
theorem hB:NI X (unaryOp .Invert) (rU λi=>.int (Builtin.bitNot i)):=gp λ_ _ _ _ _ q=>invert_int q
theorem ZN{k k':Bool}(I:F' X aa σ H s)(q:Q (.bl k) H)(e:k=k'):EP X aa σ Q (.bool k') s:=by
 subst e;exact⟨.bl k,H,I,rfl,q⟩
theorem fM:Dx X (compareOp .Lt) (MG λi j=>.bl (decide (i<j))):=UW λ_ _ _ _ _ _ _ q=>lt_int q
theorem fQ:Dx X (compareOp .Gt) (MG λi j=>.bl (decide (j<i))):=UW λ_ _ _ _ _ _ _ q=>gt_int q
theorem jN:Dx X (compareOp .GtE) (MG λi j=>.bl (decide (j<=i))):=UW λ_ _ _ _ _ _ _ q=>ge_int q
theorem ej:Dx X (compareOp .In) (λx y H Q=>∃ i j,x=.str i/\y=.str j/\Q (.bl (!(Builtin.Str.occurrences j i 0 j.length 1).isEmpty)) H):=by
 intro aa s σ H x y v u Q I S m h;obtain⟨i,j,rfl,rfl,q⟩:=h;obtain⟨t,rfl⟩:=S;obtain⟨t',rfl⟩:=m;exact in_str (ZN I q rfl)
theorem jL:Dx X (compareOp .IsNot) (λx y H Q=>y=.non/\Q (.bl (!decide (x=.non))) H):=by
 intro aa s σ H x y v u Q I S m h;obtain⟨rfl,q⟩:=h;cases m;refine isnot_none_gen (ZN I q ?_);cases x<;>first
   | (cases S;rfl)
   | (obtain⟨t,rfl⟩:=S;rfl)
theorem Yg(b:C3)(h:op≠.In:=by decide)(h2:op≠.NotIn:=by decide):behindInMarks op b=false:=by
 have e1:(op==CmpOp.In)=false:=by cases op<;>first | rfl | exact absurd rfl h
 have e2:(op==CmpOp.NotIn)=false:=by cases op<;>first | rfl | exact absurd rfl h2
 cases b<;>simp[behindInMarks,e1,e2]
theorem i7{r:R2}(ho:Dx X (compareOp op) r)(ha:PE X a ta)(hb:PE X b tb)(hm:behindInMarks op b=false):PE X (.Compare a [op] [b] pos) (OW r ta tb):=by
 intro aa s σ H Q I h;exact wpAny_Compare1 (VL ha hb I h λv u s2 x y H2 I2 S m q=>ho aa s2 σ H2 x y v u Q I2 S m q) hm
noncomputable def jQ(t:TE):TT:=λσ H Q=>t σ H λx H'=>∃ k,x=.bl k/\Q k H'
theorem ji{r:R2}(ho:Dx X (compareOp op) r)(ha:PE X a ta)(hb:PE X b tb)(hm:behindInMarks op b=false):PT X (.Compare a [op] [b] pos) (jQ (OW r ta tb)):=by
 intro aa s σ H Q I h;refine wpAny_isTrue_Compare1 (Ws (ha aa s σ H _ I h) λv s1 ⟨x,H1,I1,r1,Y⟩=>Ws (hb aa s1 σ H1 _ I1 Y) λu s2 ⟨y,H2,I2,r2,q2⟩ =>
  Ws (ho aa s2 σ H2 x y v u _ I2 r1 r2 q2) λc P ⟨z,G,j,f,k,e,J⟩=>?_) hm
 subst e;cases f;exact EW ⟨G,j,J⟩
noncomputable def WG(K:J1)(x:V)(H:Hp)(k:Bool):Prop :=
 match x with
 | .non=>k=false
 | .bl b=>k=b
 | .int i=>k=(i != 0)
 | .str y=>y.length<=sizeLine/\k=((y.length:Int) != 0)
 | .byt y=>y.size<=sizeLine/\k=((y.size:Int) != 0)
 | .ref p=>(∃ xs,Dc K H p xs/\k=!xs.isEmpty)\/(∃ xs,Dr K H p xs/\k=!xs.isEmpty)\/∃ kvs,H p=some (.dK kvs)/\k=!kvs.isEmpty
 | _=>False
theorem eH{κ:Type}{kvs:Z (κ×V)}{vs:Z (κ×A1)}(r:KV kvs vs):(!vs.isEmpty)=!kvs.isEmpty:=by
 cases r<;>rfl
theorem Pi(r:Y5 xs its):(!its.toArray.isEmpty)=!xs.isEmpty:=by
 cases r<;>simp
theorem G6:(sizeLine:Nat)<2^63:=by rw[CH];decide
theorem jG:gt X (λx H Q=>∃ k,WG X.K x H k/\Q k H):=by
 intro aa s σ H x v Q I S h;obtain⟨k,e,q⟩:=h;have hl:=G6;have hs:sizeLine=16777216:=CH;cases x with
 | non =>
  cases S;have e':k=false:=e;subst e';exact truthy_none ⟨H,I,q⟩
 | bl b =>
  cases S;have e':k=b:=e;subst e';exact EW ⟨H,I,q⟩
 | int i =>
  obtain⟨t,rfl⟩:=S;have e':k=(i != 0):=e;subst e';exact PySem.P.truthy_int ⟨H,I,q⟩
 | str y =>
  obtain⟨t,rfl⟩:=S;obtain⟨hy,e'⟩:y.length<=sizeLine/\k=((y.length:Int) != 0):=e;subst e';exact PySem.P.truthy_str (by lia) ⟨H,I.tok _,q⟩
 | byt y =>
  obtain⟨t,rfl⟩:=S;obtain⟨hy,e'⟩:y.size<=sizeLine/\k=((y.size:Int) != 0):=e;subst e';exact PySem.W.truthy_bytes (by lia) ⟨H,I.tok _,q⟩
 | ref p =>
  cases S;have e':(∃ xs,Dc X.K H p xs/\k=!xs.isEmpty)\/(∃ xs,Dr X.K H p xs/\k=!xs.isEmpty)\/∃ kvs,H p=some (.dK kvs)/\k=!kvs.isEmpty:=e;rcases e' with⟨xs,hx,e'⟩ | ⟨xs,hx,e'⟩ | ⟨kvs,hx,e'⟩
  .subst e'
   obtain⟨its,r,pl,hz⟩:=I.list hx;have ac:=r.length;exact wpAny_truthy_list pl.isList (by simp only[AV];lia) ⟨H,I.tok _,by rw[Pi r];exact q⟩
  .subst e'
   obtain⟨its,r,pl,hz⟩:=I.tuple hx;have ac:=r.length;exact truthy_tuple pl (by simp only[AV];lia) ⟨H,I.tok _,by rw[Pi r];exact q⟩
  .subst e'
   obtain⟨hz,hS,vs,r,m⟩:kvs.length<=sizeLine/\(p==sysModules)=false/\∃ vs,KV kvs vs/\s.heap.DictOf (Vf X.prog X.w) p vs:=I.hok p _ hx;have ac:kvs.length=vs.length:=IT r;exact wpAny_truthy_dict hS m (by lia) ⟨H,I.tok _,by rw[eH r];exact q⟩
 | _=>exact(show False from e).elim
theorem ki(ha:PE X a ta)(he:∀ c,isTrue a X.env c=(do let v <- c;standAt a.pos;holding [v] (truthy v))) :
  PT X a (λσ H Q=>ta σ H λx H'=>∃ k,WG X.K x H' k/\Q k H'):=by
 intro aa s σ H Q I h;exact isTrue_plain (Ws (ha aa s σ H _ I h) λv s1 ⟨x,H1,I1,r1,Y⟩=>jG aa s1 σ H1 x v Q I1 r1 Y) (he _)
theorem fm:Dx X (binaryOp .Add) (λx y H Q=>∃ i j,x=.str i/\y=.str j/\i.length+j.length<=sizeLine/\Q (.str (i++j)) H):=by
 intro aa s σ H x y v u Q I S m h;obtain⟨i,j,rfl,rfl,hz,q⟩:=h;obtain⟨t,rfl⟩:=S;obtain⟨t',rfl⟩:=m;exact add_str (λt' tk=>⟨.str (i++j),H,I.tok _,⟨_,rfl⟩,q⟩) hz
theorem Ji{x:V}(r:Y5 [x] us):∃ u,us=[u]/\Yr x u:=by
 cases r with
 | cons r1 r2=>cases r2;exact⟨_,rfl,r1⟩
theorem QV{x y:V}(r:Y5 [x,y] us):∃ u l,us=[u,l]/\Yr x u/\Yr y l:=by
 cases r with
 | cons r1 r2 =>
  cases r2 with
  | cons f t=>cases t;exact⟨_,_,rfl,r1,f⟩
theorem iA(hc:X.calm=true):U4 X (.builtin "max") (λxs H Q=>∃ i j,xs=[.int i,.int j]/\Q (.int (if j > i then j else i)) H):=by
 intro aa s σ H xs us Q I r h;obtain⟨i,j,rfl,q⟩:=h;obtain⟨u,l,rfl,⟨t,rfl⟩,⟨t',rfl⟩⟩:=QV r;refine max_two_ints (I.ok.hd hc) λh' tk k=>⟨_,H,I.kept k,?_,q⟩
 by_cases hj:j > i
 .rw[AH hj,AH hj];exact⟨_,rfl⟩
 .rw[AM hj,AM hj];exact⟨_,rfl⟩
theorem mq(hc:X.calm=true):U4 X (.builtin "min") (λxs H Q=>∃ i j,xs=[.int i,.int j]/\Q (.int (if j<i then j else i)) H):=by
 intro aa s σ H xs us Q I r h;obtain⟨i,j,rfl,q⟩:=h;obtain⟨u,l,rfl,⟨t,rfl⟩,⟨t',rfl⟩⟩:=QV r;refine min_two_ints (I.ok.hd hc) λh' tk k=>⟨_,H,I.kept k,?_,q⟩
 by_cases hj:j<i
 .rw[AH hj,AH hj];exact⟨_,rfl⟩
 .rw[AM hj,AM hj];exact⟨_,rfl⟩
theorem io:U4 X (.type "int") (λxs H Q=>(∃ i,xs=[.int i]/\Q (.int i) H)\/∃ k,xs=[.bl k]/\Q (.int (if k then 1 else 0)) H):=by
 intro aa s σ H xs us Q I r h;rcases h with⟨i,rfl,q⟩ | ⟨k,rfl,q⟩
 .obtain⟨u,rfl,t,rfl⟩:=Ji r
  exact call_int_int ⟨.int i,H,I,⟨_,rfl⟩,q⟩
 .obtain⟨u,rfl,r1⟩:=Ji r
  cases r1;exact call_int_bool ⟨.int (if k then 1 else 0),H,I.tok _,⟨_,rfl⟩,q⟩
end
section
variable{x f:A2}{v:A1}
end
section
variable{a:A2}{aM:Z (Str×V)}
end
section
variable{X:Cx}{a:A2}{f:Str}{v:V}
end
section
variable{X:Cx}{o:C3}{f:Str}{tv:TE}
end
section
variable{X:Cx}{Q:KN}{c:A1}{b:Bool}
end
variable{f:A2}{E:XK}
structure I' (k:Nat) (A:Around):Prop where
 hd:A.handled=none
 dp:A.depth+3*k+5<recursionLimit
 un:A.units+16*k+200<cLine
 gd:A.guards=some []
theorem I'.mono{k:Nat}(r:I' k A)(h:j<=k:=by lia):I' j A:=⟨r.hd,by have:=r.dp;lia,by have:=r.un;lia,r.gd⟩
theorem I'.deeper{k:Nat}(r:I' (k+1) A)(env:I0):I' k (A.deeper env) :=
 ⟨r.hd,by have:=r.dp;show A.depth+1+3*k+5<_;lia,by have:=r.un;show A.units+3+16*k+200<_;lia,r.gd⟩
theorem I'.in1{k:Nat}(r:I' (k+1) A):I' k A.in1 :=
 ⟨r.hd,by have:=r.dp;show A.depth+3*k+5<_;lia,by have:=r.un;show A.units+1+16*k+200<_;lia,r.gd⟩
theorem O2:(A.under (.builtin "type.__call__" ⟨.ref C::us,kw⟩)).depth=A.depth+1:=by
 first | rfl | simp[Around.under,Code.weight,Code.isCreation,Code.isGuard,Code.isCaller,Code.frames,Code.isFrame,guardIds]
theorem P5:(A.under (.builtin "type.__call__" ⟨.ref C::us,kw⟩)).units=A.units+1:=by
 first | rfl | simp[Around.under,Code.cUnits,Code.frames,Code.isFrame]
theorem I'.make{k:Nat}(r:I' (k+1) A)(C:A2)(us:Z A1)(kw:Z (Str×A1)):I' k (A.under (.builtin "type.__call__" ⟨.ref C::us,kw⟩)) :=
 ⟨r.hd,by have:=r.dp;rw[O2];lia,by have:=r.un;rw[P5];lia,r.gd⟩
theorem I'.depth{k:Nat}(r:I' k A):A.depth<recursionLimit:=by have:=r.dp;lia
theorem I'.units{k:Nat}(r:I' k A):A.units+64<cLine:=by have:=r.un;lia
noncomputable def OD:TA:=λ_ H Q=>Q [] H
noncomputable def E8(ta:TE)(tr:TA):TA:=λσ H Q=>ta σ H λx H1=>tr σ H1 λxs H2=>Q (x::xs) H2
section
variable{X:Cx}{t:TA}
theorem Ux:PA X [] OD:=λ_ _ _ _ H Q I h=>Calls.spliced_nil ⟨[],H,I,.nil,h⟩
theorem Wy(ha:PE X e te)(hr:PA X es t)(hs:Z0 X.env e es:=by rfl):PA X (e::es) (E8 te t):=by
 intro pos aa s σ H Q I h;rw[hs];show wpAny _ _ (spliced ((false,eval e X.env)::backTo pos (starEach es X.env))) _ _ s;refine Calls.spliced_cons (Ws (ha aa s σ H _ I h) λu s1 zz=>?_);obtain⟨x,H1,I1,r1,Y⟩:=zz;exact Ws (hr pos aa s1 σ H1 _ I1 Y) λus s2 ⟨xs,H2,I2,r2,q2⟩=>⟨x::xs,H2,I2,.cons r1 r2,q2⟩
noncomputable def mh(t:TA):TE:=λσ H Q=>t σ H λxs H1=>xs.length<=sizeLine/\∀ p,H1 p=none->Q (.ref p) (W5 H1 p (.tup xs))
noncomputable def lg(t:TA):TE:=λσ H Q=>t σ H λxs H1=>xs.length<=sizeLine/\∀ p,H1 p=none->Q (.ref p) (W5 H1 p (.lst xs))
theorem dE{x1}(h:PA X es t):PE X (.Tuple es x1 pos) (mh t):=by
 intro aa s σ H Q I hq;refine wpAny_Tuple_spliced (Ws (h pos aa s σ H _ I hq) λus s1 ⟨xs,H1,I1,r,z,q⟩=>⟨by rw[<- r.length];exact z,?_⟩);have hf:H1 s1.heap.objs.size=none:=I1.hok.fresh (AU _);refine⟨.ref s1.heap.objs.size,W5 H1 s1.heap.objs.size (.tup xs),I1.laid (t':=s1.toks) (λb u e=>AE _ e) (AU _) ?_,rfl,q _ hf⟩;exact⟨z,us,r,⟨_,AY _ rfl,rfl,_,rfl⟩⟩
theorem YS(h:PA X es t):PE X (.List es pos) (lg t):=by
 intro aa s σ H Q I hq;refine wpAny_List_spliced (Ws (h pos aa s σ H _ I hq) λus s1 ⟨xs,H1,I1,r,z,q⟩=>⟨by rw[<- r.length];exact z,?_⟩);have hf:H1 s1.heap.objs.size=none:=I1.hok.fresh (AU _);refine⟨.ref s1.heap.objs.size,W5 H1 s1.heap.objs.size (.lst xs),I1.laid (t':=s1.toks) (λb u e=>AE _ e) (AU _) ?_,rfl,q _ hf⟩;exact⟨z,us,0,r,AY _ rfl⟩
end
noncomputable abbrev Sp:=Z V->Hp->VK->XK->Prop
noncomputable abbrev Xp:=Z I0->Hp->A4->XK->A1->A4->Prop
structure LJ (P:Program) (w:World) (K:J1) (mg:KP) (base:Heap) (A:Around) (outer:List Env) (s:Shared) (H:Hp):Prop where
 frames:A.frames=some outer
 mod:Mod K mg base
 bs:∀ b o,base.get? b=some o->s.heap.get? b=some o/\H b=none
 bsz:base.objs.size<=s.heap.objs.size
 funs:s.heap.FunFrames base outer
 frf:∀ b∈Dt outer,H b=none
 hok:Mx P w H s.heap
 bare:AllBare s.gens
noncomputable def CE(outer:Z I0)(P:Fn)(w:Gf)(H:Hp)(s:A4)(Q:VK)(u:A1)(s':A4):Prop :=
 ∃ v H',s'.os=s.os/\AllBare s'.gens/\Un (Dt outer) [] H H' s.heap s'.heap/\Mx P w H' s'.heap/\Yr v u/\Q v H'
noncomputable def CR(CX:Xp)(outer:Z I0)(P:Fn)(w:Gf)(H:Hp)(s:A4)(Q:VK)(E:XK)(r:Result)(s':A4):Prop :=
 match r with
 | .ok (.ret u)=>CE outer P w H s Q u s'
 | .ok _=>False
 | .error e=>CX outer H s E e s'
structure KO (P:Program) (w:World) (K:J1) (mg:KP) (base:Heap) (CX:Xp) (k:Nat) (f:Addr) (fd:FuncData) (ps:List Str) (sp:Sp):Prop where
 len:∀ vs H Q E,sp vs H Q E->vs.length=ps.length
 run:∀ (A:Around) (outer:List Env) (s:Shared) (H:Hp) (args:Args) (us:List Value) (vs:List V) (Q:VK) (E:XK),I' k A->LJ P w K mg base A outer s H->BindsTo s fd args (ps.zip us)->Y5 vs us->sp vs H Q E ->
  codeAny (model P w) A (.call (.ref f) args) (CR CX outer P w H s Q E) s
theorem LJ.make(e:LJ P w K mg base A outer s H)(C:A2)(us:Z A1)(kw:Z (Str×A1)) :
 LJ P w K mg base (A.under (.builtin "type.__call__" ⟨.ref C::us,kw⟩)) outer s H:=⟨by first | exact e.frames | (simpa[Around.under,Code.envs,Code.isFrame,pushEnvs] using e.frames),e.mod,e.bs,e.bsz,e.funs,e.frf,e.hok,e.bare⟩
section
variable{X:Cx}
theorem F'.env0(I:F' X aa σ H s):LJ X.prog X.w X.K X.mg X.base X.A X.stack s H :=
 ⟨I.ok.frames,I.ok.mod,I.bs,BA I.ok.bsz I.sz,I.stack,I.stkFree,I.hok,I.bare⟩
theorem F'.after(I:F' X aa σ H s)(h:CE X.stack X.prog X.w H s Q u s'):EP X aa σ Q u s':=by
 obtain⟨v,H',os,bare,un,hok,r,q⟩:=h;obtain⟨hh,g,d,t,a⟩:=s';obtain rfl:a=s.os:=os;exact⟨v,H',I.call (h':=hh) (g':=g) (d':=d) (t':=t) (ch:=[]) un hok bare (λb z=>absurd z (by simp)),r,q⟩
end
variable{CX:Xp}{sp:Sp}
noncomputable def QU(sp:Sp)(dvs:Z V)(E:XK)(t:TA):TE:=λσ H Q=>t σ H λvs H1=>sp (vs++dvs) H1 Q E
noncomputable def Jy(K:J1)(fd:D1)(ps:Z Str)(ds:Z A1):Prop :=
 ∀ (s:A4) (us:Z A1),K.In s.heap->(us++ds).length=ps.length->BindsTo s fd ⟨us,[]⟩ (ps.zip (us++ds))
theorem Jy.all(h:∀ us:Z A1,us.length=ps.length->bindArgs fd ⟨us,[]⟩=pure (ps.zip us)):Jy K fd ps []:=λs us _ hl=>by
 rw[FJ] at hl ⊢;exact .of_eq (h us hl)
noncomputable def O3(CX:Xp)(X:Cx)(E:XK):Prop:=∀ (aa:KL) (σ:St) (H:Hp) (s:A4) (e:A1) (s':A4),F' X aa σ H s->CX X.stack H s E e s'->X.xe e s'
section
variable{X:Cx}{k:Nat}{dvs:Z V}{x:Str}{o:C3}{t:TA}
theorem c5(F:KO X.prog X.w X.K X.mg X.base CX k f fd ps sp)(hr:I' k X.A)(hb:Jy X.K fd ps ds)(hd:Y5 dvs ds)(hx:O3 CX X E)
  (I:F' X aa σ H s) (r:Y5 vs us) (h:sp (vs++dvs) H Q E):wpAny (model X.prog X.w) X.A (call (.ref f) us) (EP X aa σ Q) X.xe s:=by
 have r2:Y5 (vs++dvs) (us++ds):=r.append hd;have hl:(us++ds).length=ps.length:=by rw[<- r2.length];exact F.len _ _ _ _ h
 refine FK (FD (F.run X.A X.stack s H ⟨us,[]⟩ (us++ds) (vs++dvs) Q E hr I.env0 (hb s us I.kIn hl) r2 h) λr s' hq=>?_);cases r with
 | error e=>exact hx aa σ H s e s' I hq
 | ok fl =>
  cases fl with
  | ret u=>exact I.after hq
  | next=>exact False.elim hq
  | brk=>exact False.elim hq
  | cont=>exact False.elim hq
theorem gB(F:KO X.prog X.w X.K X.mg X.base CX k f fd ps sp)(hr:I' k X.A)(hg:Gl X x)(hm:X.mg x=some (.ref f))(hk:PySem.W.keepIn X.K (.ref f)=true)(hb:Jy X.K fd ps ds)(hd:Y5 dvs ds)(hx:O3 CX X E)
  (ha:PA X (e::es) t) (g:C2 x:=by decide) (he:Z0 X.env e es:=by rfl) (ag:Z1 pos X.env es:=by rfl) :
  PE X (.Call (.Name x p) (e::es) [] pos) (QU sp dvs E t):=by
 intro aa s σ H Q I h;refine CV (Uk I hg hm ?_ g);refine GN (h₀:=X.base) I.ok.mod.kin hk (Ws (ha pos aa s σ H _ I h) λus s1 ⟨vs,H1,I1,r,q⟩=>⟨I1.kIn,?_⟩) he ag;exact c5 F hr hb hd hx I1 r q
end
noncomputable def PK(X:Cx)(aG:Z Keyword)(t:TA):Prop :=
 ∀ (pos:Pos) (aa:KL) (s:A4) (σ:St) (H:Hp) (Q:Z V->Hp->Prop),F' X aa σ H s->t σ H Q->wpAny (model X.prog X.w) X.A (evalAll ((backToKw pos (keywordEach aG X.env)).map (·.2))) (AP X aa σ Q) X.xe s
section
variable{X:Cx}{k:Nat}{x:Str}{o:C3}{aG:Z Keyword}{t tk:TA}
theorem gR:PK X [] OD:=λ_ _ _ _ H Q I h=>wpAny_evalAll_nil ⟨[],H,I,.nil,h⟩
theorem jm(ha:PE X e te)(hr:PK X aG t):PK X (⟨nm,e,aD⟩::aG) (E8 te t):=by
 intro pos aa s σ H Q I h;show wpAny _ _ (evalAll ((do let v <- eval e X.env;standAt pos;pure v)::(backToKw pos (keywordEach aG X.env)).map (·.2))) _ _ s;refine wpAny_evalAll_cons (AA (Ws (ha aa s σ H _ I h) λu s1 ⟨x,H1,I1,r1,Y⟩=>AA (CY (AI ?_))));exact Ws (hr pos aa s1 σ H1 _ I1 Y) λus s2 ⟨xs,H2,I2,r2,q2⟩=>⟨x::xs,H2,I2,.cons r1 r2,q2⟩
variable{g:Z A1->Z A1->Z A1}{gV:Z V->Z V->Z V}
end
structure FnScope (N P:List Str) (sc:Scope):Prop where
 kind:sc.kind=.function
 co:sc.isCoroutine=false
 gen:sc.isGenerator=false
 nd:N.Nodup
 pre:N.take P.length=P
 par:∀ x∈P,sc.names.lookup x=some .local\/sc.names.lookup x=some .cell
 nofree:∀ y∈sc.names,y.2≠.free
theorem Xx{kindOf:Str->C1 NameKind}{x:Str}:∀ {binds:Z (Str×A1)} {m:KP},(∀ v,(x,v)∉binds)->bindL kindOf binds m x=m x
 | [],_,_=>rfl
 | (n,v)::r,m,h=>by
   unfold bindL;rw[Xx λw J=>h w (BB _ J)];split
   · have:x≠n:=by rintro rfl;exact h v AX
     simp[this]
   · rfl
theorem Xa{kindOf:Str->C1 NameKind}{x:Str}:∀ {binds:Z (Str×A1)} {m:KP},(∀ v,(x,v)∉binds)->bindC kindOf binds m x=m x
 | [],_,_=>rfl
 | (n,v)::r,m,h=>by
   unfold bindC;rw[Xa λw J=>h w (BB _ J)];split
   · rfl
   · have:x≠n:=by rintro rfl;exact h v AX
     simp[this]
theorem Kz{kindOf:Str->C1 NameKind}{x:Str}{v:A1}:∀ {P:Z Str} {vs:Z A1} {i:Nat} {m:KP},P.Nodup->P[i]?=some x->vs[i]?=some v->kindOf x=some .local ->
  bindL kindOf (P.zip vs) m x=some v
 | [],_,_,_,_,h,_,_=>by simp at h
 | _::_,[],_,_,_,_,h,_=>by simp at h
 | p::P,w::vs,0,m,nd,h1,h2,hk=>by
  simp at h1 h2;subst h1;subst h2;show bindL kindOf ((p,w)::P.zip vs) m p=_;unfold bindL;rw[Xx λv hv=>(CT.mp nd).1 (IZ hv).1,AH hk];simp
 | p::P,w::vs,i+1,m,nd,h1,h2,hk=>by
  show bindL kindOf ((p,w)::P.zip vs) m x=_;unfold bindL;exact Kz (i:=i) (CT.mp nd).2 (by simpa using h1) (by simpa using h2) hk
theorem L4{kindOf:Str->C1 NameKind}{x:Str}{v:A1}:∀ {P:Z Str} {vs:Z A1} {i:Nat} {m:KP},P.Nodup->P[i]?=some x->vs[i]?=some v->kindOf x≠some .local ->
  bindC kindOf (P.zip vs) m x=some v
 | [],_,_,_,_,h,_,_=>by simp at h
 | _::_,[],_,_,_,_,h,_=>by simp at h
 | p::P,w::vs,0,m,nd,h1,h2,hk=>by
  simp at h1 h2;subst h1;subst h2;show bindC kindOf ((p,w)::P.zip vs) m p=_;unfold bindC;rw[Xa λv hv=>(CT.mp nd).1 (IZ hv).1,AM hk];simp
 | p::P,w::vs,i+1,m,nd,h1,h2,hk=>by
  show bindC kindOf ((p,w)::P.zip vs) m x=_;unfold bindC;exact L4 (i:=i) (CT.mp nd).2 (by simpa using h1) (by simpa using h2) hk
noncomputable def J'(N:Z Str)(vs:Z V):St:=vs.map some++List.replicate (N.length - vs.length) none
noncomputable def Qf(CX:Xp)(P:Fn)(w:Gf)(K:J1)(mg:KP)(base:H3)(N:Z Str)(ah:Str)(scope:IA)(f:A2)(cd:A1)(A:C0)(outer:Z I0)(s:A4)(H:Hp)(E:XK):Cx where
 prog:=P
 w:=w
 K:=K
 mg:=mg
 base:=base
 A:=A.deeper (envOfC ah scope s.heap.objs.size f cd)
 N:=N
 s₀:=s
 H₀:=H
 env:=envOfC ah scope s.heap.objs.size f cd
 outer:=outer
 stack:=envOfC ah scope s.heap.objs.size f cd::outer
 ex:=[]
 calm:=true
 fn:=λ_=>true
 pn:=[]
 xe:=λe s'=>wpAny (model P w) (A.deeper (envOfC ah scope s.heap.objs.size f cd)) (leaving (envOfC ah scope s.heap.objs.size f cd) e) (λ_ b=>CX outer H s E e b) (λe' b=>CX outer H s E e' b) s'
theorem Hz{n:Nat}{x:Str}(h:sc.names.lookup x=some .cell):∃ c,(cellsFrom n sc.names []).lookup x=some c:=by
 have q:=II sc.names n [] (.inl h);exact DB.mp q
theorem iK{N:Z Str} 
  (S:FnScope N ps scope) (hd:A.handled=none) (e0:LJ P w K mg base A outer s H) (hl:vs.length=ps.length) (r:Y5 vs us)
  (x:InCallC s s.heap.objs.size (bindL (envOfC ah scope s.heap.objs.size f cd).kindOf (ps.zip us) λ_=>none) (cellsFrom (s.heap.objs.size+1) scope.names []) (bindC (envOfC ah scope s.heap.objs.size f cd).kindOf (ps.zip us) λ_=>none) s1) :
  F' (Qf CX P w K mg base N ah scope f cd A outer s H E) [] (J' N vs) H s1:=by
 have ag:ps.length<=N.length:=by have:=DY List.length S.pre;rw[CP] at this;lia
 obtain⟨h1,tk,rfl,hk⟩:=x.done;have t:∀ b:A2,b∉(Qf CX P w K mg base N ah scope f cd A outer s H E).ex:=λb z=>absurd (show b∈([]:Z A2) from z) (by simp)
 refine⟨⟨e0.mod,S.kind,rfl,rfl,AU _,λy z c h1 h2=>?_,λy hy=>?_,λy c _ h=>?_,λ_=>hd,HV e0.frames,.inr ⟨rfl,rfl⟩,λb z=>absurd z (t b),e0.bs,e0.bsz,λb _ _=>t b,λb z=>absurd z (t b),e0.funs,e0.frf⟩,
  rfl,e0.bare,Un.kept hk,⟨_,x.toInCall.ns,λi y v h1 h2 h3=>?_⟩,λy c h=>⟨_,x.cell y c h⟩,e0.hok.fresh (AU _),λy c h=>?_,λp hp=>absurd (show p∈([]:KL) from hp) (by simp),e0.hok.kept hk,?_⟩
 .exact name_of_addr x.apart (BG h1) (BG h2)
 .have hy:scope.names.lookup y=some .cell\/scope.names.lookup y=some .free:=hy
  rcases hy with hy | hy
  .exact Hz hy
  .exact absurd rfl (S.nofree _ (BG hy))
 .exact EJ (x.above y c (BG h))
 .have hi:i<vs.length:=by
   unfold J' at h2;by_cases hi:i<vs.length
   .exact hi
   .rw[BV (by simpa using hi)] at h2
    rw[EN] at h2;split at h2<;>cases h2
  have ha:vs[i]?=some v:=by
   unfold J' at h2;rw[BH (by simpa using hi),AL] at h2;cases e:vs[i]? with
   | none=>rw[e] at h2;cases h2
   | some a=>rw[e] at h2;cases h2;rfl
  obtain⟨u,C,rv⟩:=r.get ha;have hp:ps[i]?=some y:=by
   rw[<- S.pre,List.getElem?_take_of_lt (by lia)];exact h1
  have d:ps.Nodup:=by rw[<- S.pre];exact S.nd.sublist (List.take_sublist _ _)
  refine⟨u,rv,?_⟩;rcases S.par y (AD hp) with k | k
  .exact .inl ⟨k,Kz d hp C k⟩
  .obtain⟨c,e⟩:=Hz (n:=s.heap.objs.size+1) k
   refine .inr ⟨.inl k,c,e,?_⟩;have q:=x.cell y c e;rw[L4 d hp C (by show scope.names.lookup y≠_;rw[k];decide)] at q;exact q
 .exact e0.hok.fresh (EJ (x.above y c (BG h)))
 .unfold J'
  show _=N.length;rw[AN,AF,EI];lia
theorem VB{k:Nat}{params:Arguments}{U kV:A1} 
  {j:Array (C1 A1)} {N ps:Z Str} {sp:Sp} (lk:K.lookup f=some ⟨oc,od,.func (PySem.W.fnOf name ah params body scope U kV ap pm an ai ct),j⟩) (ae:PySem.W.codeIn K ai ah=true) (S:FnScope N ps scope)
  (len:∀ vs H Q E,sp vs H Q E->vs.length=ps.length)
  (a:∀ (A:C0) (outer:Z I0) (s:A4) (H:Hp) (vs:Z V) (Q:VK) (E:XK),I' k (A.deeper (envOfC ah scope s.heap.objs.size f ai))->sp vs H Q E ->
   ∃ t,Dq (Qf CX P w K mg base N ah scope f ai A outer s H E) body t/\t { nx:=λ_ H'=>Q .non H',rt:=Q } (J' N vs) H) :
  KO P w K mg base CX (k+1) f (PySem.W.fnOf name ah params body scope U kV ap pm an ai ct) ps sp:=by
 refine⟨len,λA outer s H args us vs Q E hr e0 hb r Y=>?_⟩;have hl:=len _ _ _ _ Y;have p:K.In s.heap:=e0.mod.kin.keeps λb o e=>(e0.bs b o e).1
 have d:s.heap.NoLimit:=e0.mod.nolimit.keeps λb o e=>(e0.bs b o e).1
 have c:∀ y∈ps.zip us,scope.names.lookup y.1=some .local\/(scope.names.lookup y.1=some .cell/\((cellsFrom (s.heap.objs.size+1) scope.names []).lookup y.1).isSome=true):=λ⟨n,v⟩ hy=>by
  rcases S.par n (IZ hy).1 with q | q
  .exact .inl q
  .exact .inr ⟨q,II _ _ _ (.inl q)⟩
 refine codeAny_call_function hr.depth (p _ _ lk) rfl S.co S.gen rfl (codeRec_of p ae) (hb _ _ _ _ ?_);refine wpAny_newFunctionEnv_cells S.kind c λenv he s1 x=>?_
 subst he;refine⟨d.keeps x.toInCall.keep,codeAny_func ?_⟩;obtain⟨t,ht,hq⟩:=a A outer s H vs Q E (hr.deeper _) Y;have I:F' (Qf CX P w K mg base N ah scope f ai A outer s H E) [] (J' N vs) H s1:=iK S hr.hd e0 hl r x;refine BF (ht [] s1 (J' N vs) H _ I hq) (λfl s' hs=>?_) λe s' hs=>hs
 have B:∀ {σ':St} {H':Hp} {v:V} {u:A1},F' (Qf CX P w K mg base N ah scope f ai A outer s H E) [] σ' H' s'->Yr v u->Q v H'->CE outer P w H s Q u s' :=
  λ{σ' H' v u} J rv q=>⟨v,H',J.os,J.bare,J.base,J.hok,rv,q⟩
 cases fl with
 | ret u =>
  obtain⟨v,σ',H',J,rv,q⟩:=hs;exact B J rv q
 | next =>
  obtain⟨σ',H',J,q⟩:=hs;exact B (v:=V.non) (u:=Value.none) J rfl q
 | brk =>
  obtain⟨_,_,_,q⟩:=hs;exact False.elim q
 | cont =>
  obtain⟨_,_,_,q⟩:=hs;exact False.elim q
section
variable{X:Cx}{x:Str}{t:TA}{id:String}{r:Z V->Hp->VK->Prop}
noncomputable def R'(r:Z V->Hp->VK->Prop)(t:TA):TE:=λσ H Q=>t σ H λvs H1=>r vs H1 Q
theorem XJ(hc:U4 X (.builtin id) r)(hg:Gl X x)(hm:X.mg x=none)(hv:bootBuiltins x=some (.builtin id))(ha:PA X (e::es) t)(hn:x≠"__name__" := by decide)(g:C2 x:=by decide)
  (he:Z0 X.env e es:=by rfl) (ag:Z1 pos X.env es:=by rfl):PE X (.Call (.Name x p) (e::es) [] pos) (R' r t):=by
 intro aa s σ H Q I h;refine CV (Sm I hg hm hv ?_ hn g);exact PyProof.Rows.callWith_builtin1 (Ws (ha pos aa s σ H _ I h) λus s1 ⟨vs,H1,I1,r1,Y⟩=>hc aa s1 σ H1 vs us Q I1 r1 Y) he ag
theorem Mp(hc:U4 X (.type T) r)(hg:Gl X x)(hm:X.mg x=none)(hv:bootBuiltins x=some (.type T))(ha:PA X (e::es) t)(hn:x≠"__name__" := by decide)(g:C2 x:=by decide)
  (he:Z0 X.env e es:=by rfl) (ag:Z1 pos X.env es:=by rfl):PE X (.Call (.Name x p) (e::es) [] pos) (R' r t):=by
 intro aa s σ H Q I h;refine CV (Sm I hg hm hv ?_ hn g);exact ES (Ws (ha pos aa s σ H _ I h) λus s1 ⟨vs,H1,I1,r1,Y⟩=>hc aa s1 σ H1 vs us Q I1 r1 Y) he ag
end
end L2
variable{vs ys dvs:Z L2.V}{Q:KN}{ns:Z Int}{te tl ta tb to tv td ty:L2.TE}{r r':L2.V->C1 Int->C1 Int->L2.Hp->L2.VK->Prop}{xs:Z (Z L2.Vn×PySem.Addr×PySem.Value)}{σ:L2.St}{H H1 H2 H':L2.Hp}{p:PySem.Addr}{sp:L2.Sp}{fs:Z (C1 Nat)}{tc tt:L2.TT}{CX:L2.Xp}{m bb:Bool}{y:L2.V}{kvs:Z (Z L2.Vn×L2.V)}{aw:PySem.Expr}{aq:Z PySem.Expr}{wi:L2.TI}{dct:C1 PySem.Addr}
namespace HT
open PySem PyProof.Rows
section
open PySem.SeqAt

open PySem.MeetsSeq PySem.MeetsSeq2 PySem.MeetsSeq3
end
theorem cat_tup{t b:A2}{vs ws:Z A1}(ht:IsTup s.heap t vs.toArray)(hb:IsTup s.heap b ws.toArray)(hv:vs≠[])
  (h1:ws=[]->Q (.ref t) s) (h2:ws≠[]->Q (.ref s.heap.objs.size) { s with heap:=s.heap.push { cls:=.type "tuple",data:=.seq (vs++ws).toArray } })
  (hsz:vs.length+ws.length<=sizeLine):wpAny (model prog w) A (binaryOp .Add (.ref t) (.ref b)) Q E s:=by
 obtain⟨⟨cls,dd,data,sl⟩,ho,hc,n,hd⟩:=id ht;obtain⟨⟨c,a,data2,x⟩,aa,M,n2,g⟩:=id hb;simp only at hc hd M g;subst hc hd M g;have e:vs.toArray++ws.toArray=(vs++ws).toArray:=by simp
 by_cases J:ws=[]
 .exact KH ⟨_,ho,rfl⟩ ⟨_,aa,rfl⟩ JF KA HD GV (GO _ _)
   (tuple_addW1 t b vs.toArray ws.toArray n n2 dd a sl x (by simpa using hv) (by simp[J])) ⟨ho,aa,h1 J⟩
 .refine KH ⟨_,ho,rfl⟩ ⟨_,aa,rfl⟩ JF KA HD GV (GO _ _)
   (tuple_addW2 t b vs.toArray ws.toArray n n2 dd a sl x (by simpa using hv) (by simpa using J) (by rw[AV,AV];exact hsz)) ⟨ho,aa,?_⟩
  rw[e];exact h2 J
noncomputable def sIx(n d:Nat):C1 Int->Nat
 | none=>d
 | some v=>if v<0 then(v+(n:Int)).toNat else min v.toNat n
theorem sIx_none(n d:Nat):sIx n d none=d:=rfl
theorem sIx_nat(n d k:Nat):sIx n d (some (k:Int))=min k n:=by
 show(if(k:Int)<0 then((k:Int)+(n:Int)).toNat else min (k:Int).toNat n)=min k n;rw[AM (by lia),BS]
theorem sIx_le(n d:Nat)(hd:d<=n)(o:C1 Int):sIx n d o<=n:=by
 cases o with
 | none=>exact hd
 | some v =>
  show(if v<0 then(v+(n:Int)).toNat else min v.toNat n)<=n;by_cases hv:v<0
  .rw[AH hv];lia
  .rw[AM hv];exact Nat.min_le_right _ _
theorem clip_eq(v:Int)(n d:Nat):(if v<0 then max (v+(n:Int)) 0 else min v (n:Int))=((sIx n d (some v):Nat):Int):=by
 show(if v<0 then max (v+(n:Int)) 0 else min v (n:Int))=(((if v<0 then(v+(n:Int)).toNat else min v.toNat n):Nat):Int);by_cases hv:v<0
 .simp only[AH hv];lia
 .simp only[AM hv];lia
theorem cX(lo hi:C1 Int)(n:Nat):Builtin.Slice.sliceAdjust lo hi 1 (n:Int)=(((sIx n 0 lo:Nat):Int),((sIx n n hi:Nat):Int)):=by
 have h1:¬ ((1:Int)<0):=by lia
 unfold Builtin.Slice.sliceAdjust;simp only[h1,HH];refine FW ?_ ?_
 .cases lo with
  | none=>rfl
  | some v=>exact clip_eq v n 0
 .cases hi with
  | none=>rfl
  | some v=>exact clip_eq v n n
theorem cS(i j:Nat):Builtin.Slice.slicePlaces (i:Int) (j:Int) 1=j - i:=by
 unfold Builtin.Slice.slicePlaces;have h1:(1:Int) > 0:=by lia
 simp only[h1,JD,Int.ediv_one];split<;>lia
theorem O4{v:A1}{o:C1 Int}{Q:C1 Int->A4->Prop}(p:IsPart v o)(h:Q o s):wpAny (model prog w) A (Builtin.Slice.slicePartIndex v) Q E s:=by
 cases p with
 | none=>exact slicePart_none h
 | int i t=>exact slicePart_int h
theorem Mq{sl:A2}{n:Nat}{Q:Int×Int×Nat->A4->Prop}(hs:s.heap.IsSliceOf sl vl vu .none)(pl:IsPart vl lo)(c:IsPart vu hi)
   (h:Q (((sIx n 0 lo:Nat):Int),1,sIx n n hi - sIx n 0 lo) s):wpAny (model prog w) A (Builtin.Slice.sliceApplied (.ref sl) (pure (n:Int))) Q E s:=by
 obtain⟨os,d,e,a⟩:=id hs;unfold Builtin.Slice.sliceApplied Builtin.Slice.sliceFields;refine AA (AA (BW d a (x:=vl) rfl (AA (BW d a (x:=vu) rfl (AA (BW d a (x:=.none) rfl (AI ?_)))))));refine AA (slicePart_none ?_);show wpAny _ _ (if((1:Int)==0)=true then _ else _) _ _ s;rw[AM (by decide)];refine AA (O4 pl (AA (O4 c (AA (AI ?_)))));show wpAny _ _ (match Builtin.Slice.sliceAdjust lo hi 1 (n:Int) with | (lo,hi)=>pure (lo,(1:Int),Builtin.Slice.slicePlaces lo hi 1)) _ _ s;rw[cX lo hi n];show wpAny _ _ (pure (((sIx n 0 lo:Nat):Int),(1:Int),Builtin.Slice.slicePlaces ((sIx n 0 lo:Nat):Int) ((sIx n n hi:Nat):Int) 1)) _ _ s;rw[cS];exact AI h
theorem mm(xs:Array A1)(i k:Nat):((List.range k).filterMap λ(m:Nat)=>xs[((i:Int)+(m:Int)*1).toNat]?).toArray=((xs.toList.drop i).take k).toArray:=by
 have e:(λ(m:Nat)=>xs[((i:Int)+(m:Int)*1).toNat]?)=λm=>xs[i+m]?:=by
  funext m
  have:((i:Int)+(m:Int)*1).toNat=i+m:=by lia
  rw[this]
 rw[e];have:=pick_run xs i k;rw[IL] at this;have e2:((λx=>xs[x]?) ∘ λx=>i+x)=λm=>xs[i+m]?:=rfl
 rw[e2] at this;rw[this]
theorem getItem_tuple_cut{t sl:A2}(ht:IsTup s.heap t ac)(hs:s.heap.IsSliceOf sl vl vu .none)(pl:IsPart vl lo)(c:IsPart vu hi)
   (J:¬ (sIx ac.size 0 lo=0/\sIx ac.size ac.size hi=ac.size))
   (h:Q (.ref s.heap.objs.size) { s with heap:=s.heap.push { cls:=.type "tuple",data:=.seq ((ac.toList.drop (sIx ac.size 0 lo)).take (sIx ac.size ac.size hi - sIx ac.size 0 lo)).toArray } })
   (hsz:ac.size<=sizeLine):wpAny (model prog w) A (getItem (.ref t) (.ref sl)) Q E s:=by
 have b:sizeOk (.seq ((ac.toList.drop (sIx ac.size 0 lo)).take (sIx ac.size ac.size hi - sIx ac.size 0 lo)).toArray):=by
   show((ac.toList.drop (sIx ac.size 0 lo)).take (sIx ac.size ac.size hi - sIx ac.size 0 lo)).toArray.size<=sizeLine;rw[AV,CP,CQ,FE];lia
 have hj:sIx ac.size ac.size hi<=ac.size:=sIx_le _ _ (AU _) hi;obtain⟨os,d,e,a⟩:=id hs;have f:s.TypeIs (.ref sl) "slice" := ⟨os,d,e⟩;unfold getItem;try with_reducible refine BQ ?_
 first | refine AA (AI ?_) | skip
 refine AA (wpAny_sequenceKey ht.typeIs (by decide) ?_);refine AA (DR (name:=Str.ofString "__getitem__") ht.typeIs EE
   (EK EE ht.typeIs entry_tuple_getitem ?_ (args_tuple_getitem _ _)))
 show wpAny _ _ (Builtin.Tuple.tupleItemsOf (.ref t) >>= _) _ _ s;refine AA (tupleItemsOf_ ht ?_);refine AA (GL f ?_);rw[AH (by decide)];refine AA (Mq hs pl c ?_);have n:¬ ((((sIx ac.size 0 lo:Nat):Int)==0&&(1:Int)==1&&(sIx ac.size ac.size hi - sIx ac.size 0 lo)==ac.size)=true):=by
   intro q;rw[AW,AW] at q;have Y:((sIx ac.size 0 lo:Nat):Int)=0:=HL q.1.1;have q2:sIx ac.size ac.size hi - sIx ac.size 0 lo=ac.size:=HL q.2;exact J ⟨by lia,by lia⟩
 show wpAny _ _ (if(((sIx ac.size 0 lo:Nat):Int)==0&&(1:Int)==1&&(sIx ac.size ac.size hi - sIx ac.size 0 lo)==ac.size)=true then _ else _) _ _ s;rw[AM n,mm];first
   | exact AA (m:=Builtin.Tuple.tupleExact _) (CJ (AI ⟨_,rfl,AI h⟩) b)
   | exact AA (m:=Builtin.Tuple.tupleExact _) (CJ (AA (AI (AI ⟨_,rfl,AI h⟩))) b)
   | exact AA (AA (m:=Builtin.Tuple.tupleExact _) (CJ (AI (AI ⟨_,rfl,AI h⟩)) b))
   | exact AA (AA (m:=Builtin.Tuple.tupleExact _) (CJ (AI ⟨_,rfl,AI h⟩) b))
end HT
namespace L2
open PySem PySem.Spec PyProof.Rows
noncomputable abbrev TO:=St->Hp->(C1 Int->Hp->Prop)->Prop
noncomputable def PO(X:Cx)(e:C1 C3)(t:TO):Prop :=
 ∀ (aa:KL) (s:A4) (σ:St) (H:Hp) (Q:C1 Int->Hp->Prop),F' X aa σ H s->t σ H Q ->
  wpAny (model X.prog X.w) X.A (evalPart e X.env) (λu s'=>∃ o H',F' X aa σ H' s'/\IsPart u o/\Q o H') X.xe s
noncomputable def eV:TO:=λ_ H Q=>Q none H
noncomputable def jy(t:TE):TO:=λσ H Q=>t σ H λx H1=>∃ i,x=.int i/\Q (some i) H1
theorem P7:∀ {us:Z A1},Y5 (ns.map V.int) us->IntsAre us ns:=by
 induction ns with
 | nil=>intro us r;rw[map_nil] at r;cases r;exact .nil
 | cons n ns ih =>
  intro us r;rw[CF] at r;cases r with
  | cons r1 r2 =>
   obtain⟨t,e⟩:=r1;subst e;exact .cons n t (ih r2)
section
variable{X:Cx}{lo hi:C1 C3}{tl th:TO}{p2:Pos}
theorem l8:PO X none eV:=by
 intro aa s σ H Q I h;rw[evalPart_none];exact AI ⟨none,H,I,.none,h⟩
theorem ig(h:PE X e te):PO X (some e) (jy te):=by
 intro aa s σ H Q I J;rw[evalPart_some];refine Ws (h aa s σ H _ I J) λu s1 zz=>?_;obtain⟨x,H1,I1,r1,Y⟩:=zz
 obtain⟨i,rfl,q⟩:=Y;obtain⟨t,rfl⟩:=r1;exact⟨some i,H1,I1,.int i t,q⟩
noncomputable def LR(X:Cx)(r:V->C1 Int->C1 Int->Hp->VK->Prop):Prop :=
 ∀ (aa:KL) (s:A4) (σ:St) (H:Hp) (x:V) (v vl vu:A1) (lo hi:C1 Int) (sl:A2) (Q:VK),F' X aa σ H s->Yr x v->s.heap.IsSliceOf sl vl vu .none->IsPart vl lo->IsPart vu hi->r x lo hi H Q ->
  ∃ T id,typeLookup (.type T) "__getitem__" = pure (some (.builtin id))/\s.TypeIs v T/\wpAny (model X.prog X.w) X.A (getItem v (.ref sl)) (EP X aa σ Q) X.xe s
theorem LR.or(h:LR X r)(h':LR X r'):LR X (λx lo hi H Q=>r x lo hi H Q\/r' x lo hi H Q):=by
 intro aa s σ H x v vl vu lo hi sl Q I S hs pl c q;rcases q with q | q
 .exact h aa s σ H x v vl vu lo hi sl Q I S hs pl c q
 .exact h' aa s σ H x v vl vu lo hi sl Q I S hs pl c q
noncomputable def lK(r:V->C1 Int->C1 Int->Hp->VK->Prop)(te:TE)(tl th:TO):TE:=λσ H Q=>te σ H λx H1=>tl σ H1 λl H2=>th σ H2 λu G=>r x l u G Q
theorem jt(hr:LR X r)(he:PE X e te)(hl:PO X lo tl)(C:PO X hi th):PE X (.Subscript e (.Slice lo hi none p2) pos) (lK r te tl th):=by
 intro aa s σ H Q I h;refine Subscript_ (Ws (he aa s σ H _ I h) λv s1 zz=>?_);obtain⟨x,H1,I1,r1,Y⟩:=zz;refine wpAny_Slice (Ws (hl aa s1 σ H1 _ I1 Y) λvl s2 ⟨l,H2,I2,pl,q2⟩=>Ws (C aa s2 σ H2 _ I2 q2) λvu P zz=>?_);obtain⟨u,G,j,c,J⟩:=zz;rw[evalPart_none];refine AI ?_;have I4:F' X aa σ G { P with heap:=P.heap.push { cls:=.type "slice",data:=.fields #[vl,vu,.none] } }:=j.kept (t':=P.toks) λb ob q=>AE _ q
 obtain⟨T,id,hT,ht,hg⟩:=hr aa { P with heap:=P.heap.push { cls:=.type "slice",data:=.fields #[vl,vu,.none] } } σ G x v vl vu l u P.heap.objs.size Q I4 r1 (Heap.IsSliceOf.new ..) pl c J;show wpAny (model X.prog X.w) X.A (subscriptTail e (.Slice lo hi none p2) v (.ref P.heap.objs.size)) (EP X aa σ Q) X.xe { P with heap:=P.heap.push { cls:=.type "slice",data:=.fields #[vl,vu,.none] } };exact tail_any (ops:=[.ref P.heap.objs.size,v]) ht hT hg (by with_unfolding_all rfl)
noncomputable def C7(xs:Z V)(lo hi:C1 Int):Z V:=(xs.drop (HT.sIx xs.length 0 lo)).take (HT.sIx xs.length xs.length hi - HT.sIx xs.length 0 lo)
theorem La(xs:Z V)(lo hi:C1 Int):(C7 xs lo hi).length<=xs.length:=by
 unfold C7;rw[CP,CQ];lia
noncomputable def WE(K:J1):V->C1 Int->C1 Int->Hp->VK->Prop:=λx lo hi H Q=>∃ a xs,x=.ref a/\Dr K H a xs /\
 ¬ (HT.sIx xs.length 0 lo=0/\HT.sIx xs.length xs.length hi=xs.length)/\∀ p,H p=none->Q (.ref p) (W5 H p (.tup (C7 xs lo hi)))
theorem kj:LR X (WE X.K):=by
 intro aa s σ H x v vl vu lo hi sl Q I S hs pl c h;obtain⟨a,xs,rfl,hx,J,q⟩:=h;cases S;obtain⟨its,r,ht,hz⟩:=I.tuple hx;have ac:its.toArray.size=xs.length:=by rw[AV];exact r.length.symm
 refine⟨"tuple",_,PyProof.Rows.slot_tuple_getitem.lookup,ht.typeIs,?_⟩;refine HT.getItem_tuple_cut ht hs pl c (by rw[ac];exact J) ?_ (by rw[ac];exact hz);rw[ac];refine⟨.ref s.heap.objs.size,_,I.laid (t':=s.toks) (o:=.tup (C7 xs lo hi)) (λb ob q=>AE _ q) (AU _) ?_,rfl,q _ (I.hok.fresh (AU _))⟩;exact⟨BA (La xs lo hi) hz,_,(r.drop (HT.sIx xs.length 0 lo)).take (HT.sIx xs.length xs.length hi - HT.sIx xs.length 0 lo),IsTup.new _ _⟩
noncomputable def iH(K:J1):R2:=λx y H Q=>∃ a b xs ys,x=.ref a/\y=.ref b/\Dr K H a xs/\Dr K H b ys/\xs≠[]/\xs.length+ys.length<=sizeLine /\
 (ys=[]->Q (.ref a) H)/\(ys≠[]->∀ p,H p=none->Q (.ref p) (W5 H p (.tup (xs++ys))))
theorem Y5.nil_iff{xs:Z V}(r:Y5 xs us):us=[]↔xs=[]:=by
 cases r with
 | nil=>simp
 | cons _ _=>simp
theorem fG:Dx X (binaryOp .Add) (iH X.K):=by
 intro aa s σ H x y v u Q I S m h;obtain⟨a,b,xs,ys,rfl,rfl,ha,hb,hx,hz,Y,q2⟩:=h;cases S;cases m;obtain⟨its,r1,p1,_⟩:=I.tuple ha;obtain⟨c,r2,p2,_⟩:=I.tuple hb;refine HT.cat_tup p1 p2 (λz=>hx (r1.nil_iff.mp z)) (λz=>⟨.ref a,H,I,rfl,Y (r2.nil_iff.mp z)⟩) (λz=>?_) (by rw[<- r1.length,<- r2.length];exact hz);refine⟨.ref s.heap.objs.size,_,I.laid (t':=s.toks) (o:=.tup (xs++ys)) (λb ob q=>AE _ q) (AU _) ?_,rfl,q2 (λw=>z (r2.nil_iff.mpr w)) _ (I.hok.fresh (AU _))⟩;exact⟨by rw[AN];exact hz,_,r1.append r2,IsTup.new _ _⟩
end
noncomputable def NN(n:Nat)(i:Int):C1 Nat:=if 0<=i then(if i<n then some i.toNat else none) else if -(n:Int)<=i then some (i+n).toNat else none
noncomputable def Fh(xs:Z α)(i:Int):C1 α:=(NN xs.length i).bind λj=>xs[j]?
theorem YT{n:Nat}{i:Int}(h:NN n i=some j):seqIndex? i n=some j/\j<n/\-(n:Int)<=i/\i<n:=by
 unfold NN at h;by_cases h0:0<=i
 .rw[AH h0] at h
  by_cases h1:i<n
  .rw[AH h1] at h
   have e:i.toNat=j:=BC h;exact⟨by rw[JQ h0 h1,e],by lia,by lia,h1⟩
  .rw[AM h1] at h;cases h
 .rw[AM h0] at h
  by_cases h1 : -(n:Int)<=i
  .rw[AH h1] at h
   have e:(i+n).toNat=j:=BC h;exact⟨by rw[KI (by lia) h1,e],by lia,h1,by lia⟩
  .rw[AM h1] at h;cases h
variable{xs:Z V}
theorem A7{xs:Z α}{i:Int}{v:α}(h:Fh xs i=some v):∃ j,seqIndex? i xs.length=some j/\xs[j]?=some v/\j<xs.length/\-(xs.length:Int)<=i/\i<xs.length:=by
 unfold Fh at h;cases e:NN xs.length i with
 | none=>rw[e] at h;cases h
 | some j =>
  rw[e] at h;obtain⟨h1,h2,h3,h4⟩:=YT e;exact⟨j,h1,h,h2,h3,h4⟩
theorem Iw{xs:Z α}{v:α}(h:xs[j]?=some v):Fh xs (j:Int)=some v:=by
 have hj:j<xs.length:=(AC.mp h).1;have e:NN xs.length (j:Int)=some j:=by
  unfold NN;rw[AH (by lia),AH (by lia)];simp
 unfold Fh;rw[e];exact h
noncomputable def Nr(b:C3):Prop:=∀ o i,subscripted b false o i=operate [o,i] (getItem o i)
noncomputable def LV(X:Cx)(r:R2):Prop :=
 ∀ (ao slice:C3) (aa:KL) (s:A4) (σ:St) (H:Hp) (x y:V) (v u:A1) (Q:VK),F' X aa σ H s->Yr x v->Yr y u->r x y H Q ->
  subscripted slice false v u=operate [v,u] (getItem v u)->wpAny (model X.prog X.w) X.A (subscriptTail ao slice v u) (EP X aa σ Q) X.xe s
noncomputable def MZ(X:Cx)(id:String)(r:V->Z V->Hp->VK->Prop):Prop :=
 ∀ (aa:KL) (s:A4) (σ:St) (H:Hp) (x:V) (xs:Z V) (v:A1) (us:Z A1) (Q:VK),F' X aa σ H s->Yr x v->Y5 xs us->r x xs H Q ->
  wpAny (model X.prog X.w) X.A (call (.builtin id) (v::us)) (EP X aa σ Q) X.xe s
section
variable{X:Cx}{a b:C3}
theorem LV.or{r r':R2}(h:LV X r)(h':LV X r'):LV X (λx y H Q=>r x y H Q\/r' x y H Q):=by
 intro ao slice aa s σ H x y v u Q I S m q hs;rcases q with q | q
 .exact h ao slice aa s σ H x y v u Q I S m q hs
 .exact h' ao slice aa s σ H x y v u Q I S m q hs
theorem UH{r:R2}(hr:LV X r)(ha:PE X a ta)(hb:PE X b tb)(hs:Nr b):PE X (.Subscript a b pos) (OW r ta tb):=by
 intro aa s σ H Q I h;exact Subscript_ (VL ha hb I h λv u s2 x y H2 I2 S m q=>hr a b aa s2 σ H2 x y v u Q I2 S m q (hs _ _))
noncomputable def bC(K:J1):R2:=λx y H Q=>∃ p xs i v,x=.ref p/\y=.int i/\Dc K H p xs/\Fh xs i=some v/\Q v H
noncomputable def XB(K:J1):R2:=λx y H Q=>∃ p xs i v,x=.ref p/\y=.int i/\Dr K H p xs/\Fh xs i=some v/\Q v H
noncomputable def bT:R2:=λx y H Q=>∃ z i c,x=.str z/\y=.int i/\z.length<=sizeLine/\Fh z.cps.toList i=some c/\Q (.str ⟨#[c]⟩) H
theorem Bv:LV X (bC X.K):=by
 intro ao slice aa s σ H x y v u Q I S m h hs;obtain⟨p,xs,i,z,rfl,rfl,hq,he,q⟩:=h;cases S;obtain⟨t,rfl⟩:=m;obtain⟨its,r,pl,hz⟩:=I.list hq;obtain⟨j,h1,h2,h3,h4,F⟩:=A7 he;obtain⟨w,W,b⟩:=r.get h2;have hl:=r.length;have hn:=G6;have B:EP X aa σ Q w s:=⟨z,H,I,b,q⟩;by_cases h0:0<=i
 .have hj:i.toNat=j:=by
   rw[JQ h0 F] at h1;exact BC h1
  exact item_listR pl.isList h0 (by lia) (by rw[hj];simpa using W) B hs
 .have hj:(i+(its.toArray.size:Int)).toNat=j:=by
   rw[KI (by lia) h4] at h1;rw[AV,<- hl];exact BC h1
  exact subscriptTail_builtinR (x:=w) pl.isList.typeIs slot_list_getitem.lookup
   (wpAny_getItem_list_neg (Q:=λr s'=>r=w/\EP X aa σ Q r s') pl.isList (by lia) (by rw[AV]<;>lia) (by lia) (by rw[hj];simpa using W) ⟨rfl,B⟩) hs
theorem cY:LV X (XB X.K):=by
 intro ao slice aa s σ H x y v u Q I S m h hs;obtain⟨p,xs,i,z,rfl,rfl,hq,he,q⟩:=h;cases S;obtain⟨t,rfl⟩:=m;obtain⟨its,r,pl,hz⟩:=I.tuple hq;obtain⟨j,h1,h2,h3,h4,F⟩:=A7 he;obtain⟨w,W,b⟩:=r.get h2;have hl:=r.length;have hn:=G6;have B:EP X aa σ Q w s:=⟨z,H,I,b,q⟩;exact subscriptTail_builtinR (x:=w) pl.typeIs slot_tuple_getitem.lookup
  (getItem_tuple (j:=j) (Q:=λr s'=>r=w/\EP X aa σ Q r s') pl (by lia) (by lia) (by rw[AV,<- hl];exact h1) (by simpa using W) ⟨rfl,B⟩) hs
theorem mL:LV X bT:=by
 intro ao slice aa s σ H x y v u Q I S m h hs;obtain⟨z,i,c,rfl,rfl,hz,he,q⟩:=h;obtain⟨t,rfl⟩:=S;obtain⟨t',rfl⟩:=m;obtain⟨j,h1,h2,h3,h4,F⟩:=A7 he;have hl:z.cps.toList.length=z.length:=by simp[Str.length]
 rw[hl] at h1 h4 F;have hn:=G6;exact tail_any (typeIs_str s z t) slot_str_getitem.lookup (getItem_str (c:=c) (by
  have e1:decide (i < -(2^63:Int))=false:=AB (by lia);have e2:decide (i≥2^63)=false:=AB (by lia);rw[e1,e2,FZ]) (by rw[h1];simpa using h2) ⟨.str ⟨#[c]⟩,H,I.tok _,⟨_,rfl⟩,q⟩) hs
noncomputable def eK(K:J1):R2:=λx y H Q=>bC K x y H Q\/XB K x y H Q\/bT x y H Q
theorem i8:LV X (eK X.K):=Bv.or (cY.or mL)
theorem hw(its:Z A1)(n j:Nat)(u:A1):Obj.mapSeq (·.setIfInBounds j u) { cls:=.type "list",data:=.seq its.toArray n }={ cls:=.type "list",data:=.seq (its.set j u).toArray n }:=by
 simp[Obj.mapSeq]
theorem F'.lst(I:F' X aa σ H s)(h:H p=some (.lst xs)) :
  ∃ (its:Z A1) (n:Nat),Y5 xs its/\s.heap.get? p=some { cls:=.type "list",data:=.seq its.toArray n }/\xs.length<=sizeLine:=by
 obtain⟨z,its,n,r,e⟩:=I.hok p _ h;exact⟨its,n,r,e,z⟩
theorem F'.lstUpd{n g:Nat}{f:Obj->Obj}(I:F' X aa σ H s)(h:H p=some (.lst xs))
  (ho:s.heap.get? p=some { cls:=.type "list",data:=.seq its.toArray n }) (hf:f { cls:=.type "list",data:=.seq its.toArray n }={ cls:=.type "list",data:=.seq its'.toArray g }) (r:Y5 ys its') (hz:ys.length<=sizeLine) (t:Nat) :
  F' X aa σ (W5 H p (.lst ys)) { s with heap:=s.heap.update p f,toks:=t }:=by
 have e:(s.heap.update p f).get? p=some { cls:=.type "list",data:=.seq its'.toArray g }:=by
  rw[CA f ho (by rw[hf]<;>rfl),hf]
 refine I.write (x:=p) (e:=p) (by rw[h];trivial) (.inl rfl) (λb u hb q=>(BE _ _ (AR hb)).trans q) ⟨_,e⟩ ?_;exact⟨hz,its',g,r,e⟩
noncomputable def eF:V->V->V->Hp->(Hp->Prop)->Prop:=λo i v H Q=>∃ p xs k j,o=.ref p/\i=.int k/\H p=some (.lst xs)/\NN xs.length k=some j/\Q (W5 H p (.lst (xs.set j v)))
theorem hD:WF X eF:=by
 intro aa s σ H o i v E b u Q I a ri rv h;obtain⟨p,xs,k,j,rfl,rfl,hp,hj,q⟩:=h;cases a;obtain⟨t,rfl⟩:=ri;obtain⟨its,n,r,ho,hz⟩:=I.lst hp;obtain⟨h1,h2,h3,h4⟩:=YT hj;have hl:=r.length;have hn:=G6;have G:F' X aa σ (W5 H p (.lst (xs.set j v))) { s with heap:=s.heap.update p (Obj.mapSeq (·.setIfInBounds j u)) } :=
  I.lstUpd hp ho (hw its n j u) (r.set rv j) (by rw[BN];exact hz) s.toks
 by_cases h0:0<=k
 .have hk:k.toNat=j:=by
   rw[JQ h0 h4] at h1;exact BC h1
  exact PySem.W.ki_setAt ho h0 (by lia) (by rw[AV,<- hl];exact h4) (by rw[hk];exact⟨_,G,q⟩)
 .have hk:(k+(its.toArray.size:Int)).toNat=j:=by
   rw[KI (by lia) h3] at h1;rw[AV,<- hl];exact BC h1
  exact PySem.W.ki_setBack ho (by lia) (by rw[AV,<- hl];exact h3) (by lia) (by rw[hk];exact⟨_,G,q⟩)
theorem Aq(lo hi:C1 Int)(n:Nat):(sliceBounds lo hi none n).1=((HT.sIx n 0 lo:Nat):Int)/\(sliceBounds lo hi none n).2.1=((HT.sIx n n hi:Nat):Int)/\(sliceBounds lo hi none n).2.2=1:=by
 refine⟨?_,?_,rfl⟩
 .cases lo with
  | none=>simp[sliceBounds,HT.sIx]
  | some i =>
   simp only[sliceBounds,HT.sIx,Option.getD_none,show(1:Int) > 0 by decide,JD];by_cases h:i<0
   .simp only[h,JD]<;>lia
   .simp only[h,HH]<;>lia
 .cases hi with
  | none=>simp[sliceBounds,HT.sIx]
  | some i =>
   simp only[sliceBounds,HT.sIx,Option.getD_none,show(1:Int) > 0 by decide,JD];by_cases h:i<0
   .simp only[h,JD]<;>lia
   .simp only[h,HH]<;>lia
theorem Pz(its:Z A1)(lo hi:C1 Int):slicePick its.toArray lo hi none=((its.drop (HT.sIx its.length 0 lo)).take (HT.sIx its.length its.length hi - HT.sIx its.length 0 lo)).toArray:=by
 obtain⟨h1,h2,h3⟩:=Aq lo hi its.toArray.size;unfold slicePick;rw[h1,h2,h3];simp only[sliceRange_one,pick_run,AV]<;>rfl
noncomputable def XM(K:J1):V->C1 Int->C1 Int->Hp->VK->Prop:=λx lo hi H Q=>∃ a xs,x=.ref a/\Dc K H a xs/\∀ p,H p=none->Q (.ref p) (W5 H p (.lst (C7 xs lo hi)))
theorem lZ:LR X (XM X.K):=by
 intro aa s σ H x v vl vu lo hi sl Q I S hs pl c h;obtain⟨a,xs,rfl,hx,q⟩:=h;cases S;obtain⟨its,r,ht,hz⟩:=I.list hx;have ac:=r.length;refine⟨"list",_,slot_list_getitem.lookup,ht.isList.typeIs,?_⟩;refine wpAny_getItem_list_slice ht.isList hs pl c .none (by simp) ?_ (by rw[AV]<;>lia);rw[Pz,<- ac];refine⟨.ref s.heap.objs.size,_,I.laid (t':=s.toks) (o:=.lst (C7 xs lo hi)) (λb ob q=>AE _ q) (AU _) ?_,rfl,q _ (I.hok.fresh (AU _))⟩;exact⟨BA (La xs lo hi) hz,_,0,(r.drop (HT.sIx xs.length 0 lo)).take (HT.sIx xs.length xs.length hi - HT.sIx xs.length 0 lo),AY _ rfl⟩
theorem Ak:Dx X (compareOp .NotIn) (λx y H Q=>∃ i j,x=.str i/\y=.str j/\Q (.bl (!(!(Builtin.Str.occurrences j i 0 j.length 1).isEmpty))) H):=by
 intro aa s σ H x y v u Q I S m h;obtain⟨i,j,rfl,rfl,q⟩:=h;obtain⟨t,rfl⟩:=S;obtain⟨t',rfl⟩:=m;exact notIn_str ⟨.bl _,H,I,rfl,q⟩
theorem Bj:U4 X (.builtin "len") (λxs H Q=>∃ p ys,xs=[.ref p]/\(Dc X.K H p ys\/Dr X.K H p ys)/\Q (.int ys.length) H):=by
 intro aa s σ H xs us Q I r h;obtain⟨p,ys,rfl,hq,q⟩:=h;obtain⟨u,rfl,S⟩:=Ji r;cases S;have hn:=G6;rcases hq with hq | hq
 .obtain⟨its,r',pl,hz⟩:=I.list hq
  have ac:=r'.length;exact Calls.call_len_list pl.isList (by simp only[AV]<;>lia) ⟨.int ys.length,H,I.tok _,⟨s.toks+1,by rw[AV,ac]⟩,q⟩
 .obtain⟨its,r',pl,hz⟩:=I.tuple hq
  have ac:=r'.length;exact len_tuple pl (by simp only[AV]<;>lia) ⟨.int ys.length,H,I.tok _,⟨s.toks+1,by rw[AV,ac]⟩,q⟩
theorem Ah:U4 X (.builtin "len") (λxs H Q=>∃ z,xs=[.str z]/\z.length<=sizeLine/\Q (.int z.length) H):=by
 intro aa s σ H xs us Q I r h;obtain⟨z,rfl,hz,q⟩:=h;obtain⟨u,rfl,t,rfl⟩:=Ji r;have hn:=G6;exact len_str (by lia) ⟨.int z.length,H,I.tok _,⟨_,rfl⟩,q⟩
theorem U4.or{f:A1}{r r':Z V->Hp->VK->Prop}(h:U4 X f r)(h':U4 X f r'):U4 X f (λxs H Q=>r xs H Q\/r' xs H Q):=by
 intro aa s σ H xs us Q I rs q;rcases q with q | q
 .exact h aa s σ H xs us Q I rs q
 .exact h' aa s σ H xs us Q I rs q
theorem Hu:U4 X (.type "list") (λxs H Q=>∃ p ys,xs=[.ref p]/\(Dc X.K H p ys\/Dr X.K H p ys)/\∀ l,H l=none->Q (.ref l) (W5 H l (.lst ys))):=by
 intro aa s σ H xs us Q I r h;obtain⟨p,ys,rfl,hq,q⟩:=h;obtain⟨u,rfl,S⟩:=Ji r;cases S;have B:∀ (its:Z A1),Y5 ys its->ys.length<=sizeLine->∀ (h':H3) (g:Nat),(∀ b o',s.heap.get? b=some o'->h'.get? b=some o') ->
   h'.get? s.heap.objs.size=some { cls:=.type "list",dict:=none,data:=.seq its.toArray g,slots:=#[] }->EP X aa σ Q (.ref s.heap.objs.size) { s with heap:=h' }:=λits r' hz h' g kp e =>
  ⟨.ref s.heap.objs.size,_,I.laid (t':=s.toks) kp (AU _) (show We X.prog X.w _ h' _ (.lst ys) from⟨hz,its,g,r',e⟩),rfl,q _ (I.hok.fresh (AU _))⟩
 rcases hq with hq | hq
 .obtain⟨its,r',pl,hz⟩:=I.list hq
  have ac:=r'.length;obtain⟨o,ho,hc,n,hd⟩:=pl.isList;exact call_list_seq p (.inl rfl) ho hc hd (λh' g kp e=>B its r' hz h' g kp e) (by simp only[AV]<;>lia)
 .obtain⟨its,r',pl,hz⟩:=I.tuple hq
  have ac:=r'.length;obtain⟨o,ho,hc,n,hd⟩:=pl;exact call_list_seq p (.inr rfl) ho hc hd (λh' g kp e=>B its r' hz h' g kp e) (by simp only[AV]<;>lia)
theorem Pu:U4 X (.type "tuple") (λxs H Q=>∃ p ys,xs=[.ref p]/\((Dc X.K H p ys/\∀ l,H l=none->Q (.ref l) (W5 H l (.tup ys)))\/(Dr X.K H p ys/\Q (.ref p) H))):=by
 intro aa s σ H xs us Q I r h;obtain⟨p,ys,rfl,h⟩:=h;obtain⟨u,rfl,S⟩:=Ji r;cases S;rcases h with⟨hq,q⟩ | ⟨hq,q⟩
 .obtain⟨its,r',pl,hz⟩:=I.list hq
  have ac:=r'.length;refine call_tuple_list pl.isList (λh' kp=>?_) (by simp only[AV]<;>lia);have I1:F' X aa σ H { s with heap:=h' }:=I.kept (t':=s.toks) kp;have I2:F' X aa σ (W5 H h'.objs.size (.tup ys)) { s with heap:=h'.push { cls:=.type "tuple",data:=.seq its.toArray } } :=
   I1.laid (t':=s.toks) (λb o e=>AE _ e) (AU _) (show We X.prog X.w _ _ _ (.tup ys) from⟨hz,its,r',IsTup.new _ _⟩)
  exact⟨.ref h'.objs.size,_,I2,rfl,q _ (I1.hok.fresh (AU _))⟩
 .obtain⟨its,r',pl,hz⟩:=I.tuple hq
  exact call_tuple_same pl ⟨.ref p,H,I,rfl,q⟩
noncomputable def VJ(K:J1)(T:String)(x:V)(H:Hp):Prop:=match x with
 | .str _=>T="str"
 | .int _=>T="int"
 | .ref p=>(T="list" /\ ∃ xs,Dc K H p xs)\/(T="tuple" /\ ∃ o,K.lookup p=some o/\o.cls=.type "tuple" /\ o.dict=none) \/
  (T="dict" /\ ((∃ kvs,H p=some (.dK kvs))\/∃ kvs,H p=some (.dT kvs)))\/(T="set" /\ ∃ S n,H p=some (.set S n))
 | _=>False
theorem c7{x:V}{v:A1}(I:F' X aa σ H s)(r:Yr x v)(ty:VJ X.K T x H) :
  s.TypeIs v T/\∀ a,v=.ref a->∃ ob,s.heap.get? a=some ob/\ob.dict=none:=by
 cases x with
 | str z =>
  obtain⟨t,rfl⟩:=r;cases (show T="str" from ty);exact⟨typeIs_str s z t,λ_ e=>nomatch e⟩
 | int i =>
  obtain⟨t,rfl⟩:=r;cases (show T="int" from ty);exact⟨typeIs_int s i t,λ_ e=>nomatch e⟩
 | ref p =>
  cases r;rcases ty with⟨rfl,xs,hq⟩ | ⟨rfl,o,hk,hc,hd⟩ | ⟨rfl,hk⟩ | ⟨rfl,S,n,hk⟩
  .obtain⟨its,_,pl,_⟩:=I.list hq
   refine⟨pl.isList.typeIs,λa e=>?_⟩;cases e;obtain⟨o,n,e,c,hd,_⟩:=pl;exact⟨o,e,hd⟩
  .refine⟨⟨o,I.kIn p o hk,hc⟩,λa e=>?_⟩
   cases e;exact⟨o,I.kIn _ o hk,hd⟩
  .have z:∃ o,s.heap.get? p=some o/\o.ExactDict:=by
    rcases hk with⟨kvs,hk⟩ | ⟨kvs,hk⟩
    .obtain⟨_,_,_,_,o,_,_,e,ex,_⟩:=I.hok p _ hk
     exact⟨o,e,ex⟩
    .obtain⟨_,_,_,_,o,_,_,e,ex,_⟩:=I.hok p _ hk
     exact⟨o,e,ex⟩
   obtain⟨o,e,ex⟩:=z;refine⟨⟨o,e,ex.1⟩,λa e2=>?_⟩;cases e2;exact⟨o,e,ex.2.1⟩
  .obtain⟨o,_,_,_,e,ex,_⟩:=I.hok p _ hk
   refine⟨⟨o,e,ex.1⟩,λa e2=>?_⟩;cases e2;exact⟨o,e,ex.2.1⟩
 | _=>exact False.elim ty
noncomputable def lp(K:J1)(T:String)(r:V->Z V->Hp->VK->Prop)(to:TE)(t:TA):TE:=λσ H Q=>to σ H λx H1=>VJ K T x H1/\t σ H1 λxs H2=>r x xs H2 Q
variable{o:C3}{t:TA}{id:String}{r:V->Z V->Hp->VK->Prop}
theorem QX(pa:PlainAttrs T)(slot:Slot T name id)(n:typeOf (.builtin id)=pure (.type "method_descriptor"))(hm:MZ X id r)(ho:PE X o to)(ha:PA X (e::es) t)
   (u:attributeBase o name X.env (eval o X.env)=eval o X.env:=by rfl)
   (S:((backTo ak (starEach (e::es) X.env)).all (λx=>!x.1)&&(backToKw ak (keywordEach [] X.env)).all (λx=>x.1.isSome)
     && decide ((e::es).length+([]:Z Keyword).length+(if([]:Z Keyword).isEmpty then 0 else 1)<30))=true:=by rfl)
   (E:(au.endLine==ak.line)=true:=by rfl) (hs:Z0 X.env e es:=by rfl) (C:Z1 ak X.env es:=by rfl) :
   PE X (.Call (.Attribute o name au) (e::es) [] ak) (lp X.K T r to t):=by
 intro aa s σ H Q I h;refine wpAny_Call_method_late u S E rfl (Ws (ho aa s σ H _ I h) λv s1 zz=>?_);obtain⟨x,H1,I1,r1,ty,Y⟩:=zz;obtain⟨h1,h2⟩:=c7 I1 r1 ty;refine⟨T,id,pa,slot,n,h1,h2,?_⟩;have hA:=ha ak aa s1 σ H1 _ I1 Y;rw[hs] at hA ⊢;refine Calls.callWith_builtin (by show(false||(backTo ak (starEach es X.env)).any (·.1))=false;rw[C]<;>rfl) (Calls.evalArgs_plain ?_);exact Ws hA λus s2 ⟨vs,H2,I2,r2,q2⟩=>hm aa s2 σ H2 x vs v us Q I2 r1 r2 q2
end
noncomputable def SM(X:Cx)(id:String)(r:V->Z V->Hp->VK->Prop):Prop :=
 ∀ (aa:KL) (s:A4) (σ:St) (H:Hp) (x:V) (xs:Z V) (v:A1) (us:Z A1) (Q:VK),F' X aa σ H s->Yr x v->Y5 xs us->r x xs H Q ->
  wpAny (model X.prog X.w) X.A (call (.builtin id) (v::us)) (EP X aa σ Q) X.xe s
theorem Y5.one:∀ {x:V} {us:Z A1},Y5 [x] us->∃ u,us=[u]/\Yr x u
 | _,_,.cons r .nil=>⟨_,rfl,r⟩
theorem Y5.eraseIdx:∀ {xs:Z V} {us:Z A1} (i:Nat),Y5 xs us->Y5 (xs.eraseIdx i) (us.eraseIdx i)
 | _,_,_,.nil=>.nil
 | _,_,0,.cons _ t=>t
 | _,_,i+1,.cons r t=>.cons r (Y5.eraseIdx i t)
theorem Xh:∀ (l:Z α) (i:Nat),(l.eraseIdx i).length<=l.length
 | [],_=>AU _
 | _::_,0=>DO _
 | _::r,i+1=>HI (Xh r i)
section
variable{X:Cx}{b:A2}{zs:Z V}
theorem F'.lset{n:Nat}{f:Array A1->Array A1}(I:F' X aa σ H s)(a:H l=some (.lst xs))
  (e:s.heap.get? l=some { cls:=.type "list",data:=.seq its.toArray n }) (hf:f its.toArray=its'.toArray) (hv:Y5 ys its') (hz:ys.length<=sizeLine) :
  F' X aa σ (W5 H l (.lst ys)) { s with heap:=s.heap.update l (Obj.mapSeq f),toks:=t' }:=by
 have q:=PySem.IsL.update e f;rw[hf] at q;refine I.write (x:=l) (e:=l) (by rw[a];exact trivial) (.inl rfl) (λb' u hb C=>(BE s.heap (Obj.mapSeq f) (AR hb)).trans C) ⟨_,q⟩ ?_;exact⟨hz,its',_,hv,q⟩
theorem F'.lnew(I:F' X aa σ H s)(hv:Y5 ys its)(hz:ys.length<=sizeLine) :
  F' X aa σ (W5 H s.heap.objs.size (.lst ys)) { s with heap:=s.heap.push { cls:=.type "list",data:=.seq its.toArray },toks:=t' } :=
 I.laid (λ_ _ q=>AE _ q) (AU _) ⟨hz,its,0,hv,AY _ rfl⟩
theorem F'.fresh(I:F' X aa σ H s):H s.heap.objs.size=none:=I.hok.fresh (AU _)
theorem F'.lstM(I:F' X aa σ H s)(a:H l=some (.lst xs)):xs.length<=sizeLine/\∃ (its:Z A1) (n:Nat),Y5 xs its/\xs.length=its.length/\s.heap.get? l=some { cls:=.type "list",data:=.seq its.toArray n }:=by
 obtain⟨z,its,n,r,e⟩:=I.hok l _ a;exact⟨z,its,n,r,r.length,e⟩
end
section
variable{X:Cx}
noncomputable def kf:V->Z V->Hp->VK->Prop:=λx vs H Q=>∃ l xs y,x=.ref l/\vs=[y]/\H l=some (.lst xs)/\xs.length<sizeLine/\Q .non (W5 H l (.lst (xs++[y])))
theorem Fc:SM X "list.append" kf:=by
 intro aa s σ H x vs v us Q I S rv h;obtain⟨l,xs,y,rfl,rfl,a,hz,q⟩:=h;cases S;obtain⟨u,rfl,M⟩:=rv.one;obtain⟨z,its,n,r,hl,e⟩:=I.lstM a;refine JX F.slot_list_append ⟨_,e,rfl⟩ F.entry_list_append (F.args_list_append_2 _ _) (PySem.list_append l its.toArray n u (by rw[AV];lia)) ⟨e,?_⟩;refine⟨.non,_,I.lset (its':=its++[u]) a e (by simp) (r.append (.cons M .nil)) ?_,rfl,q⟩;rw[AN,BX];lia
noncomputable def jc:V->Z V->Hp->VK->Prop:=λx vs H Q=>∃ l xs i k y,x=.ref l/\vs=[.int i]/\H l=some (.lst xs)/\-(2^63)<=i/\i<2^63/\seqIndex? i xs.length=some k/\xs[k]?=some y/\Q y (W5 H l (.lst (xs.eraseIdx k)))
theorem lV:SM X "list.pop" jc:=by
 intro aa s σ H x vs v us Q I S rv h;obtain⟨l,xs,i,k,y,rfl,rfl,a,h1,h2,hk,hy,q⟩:=h;cases S;obtain⟨u,rfl,M⟩:=rv.one;obtain⟨t,rfl⟩:=M;obtain⟨z,its,n,r,hl,e⟩:=I.lstM a;obtain⟨w,J,b⟩:=r.get hy;refine JX F.slot_list_pop ⟨_,e,rfl⟩ F.entry_list_pop (F.args_list_pop_2 _ _)
  (MeetsSeq.list_pop_at l its.toArray n i t k w (fitsIndex_both h1 h2) (by rw[AV,<- hl];exact hk) (by rw[<- Array.getElem?_toList];exact J) (by rw[AV];lia)) ⟨e,?_⟩
 refine⟨y,_,I.lset (its':=its.eraseIdx k) a e ?_ (r.eraseIdx k) ?_,b,q⟩
 .show its.toArray.eraseIdxIfInBounds k=(its.eraseIdx k).toArray
  rw[List.eraseIdxIfInBounds_toArray]
 .have:=Xh xs k
  lia
end
section
variable{X:Cx}
end
end L2
variable{t':L2.TT}{is:Z Nat}
namespace Att
open PySem PySem.W PySem.Calls PyProof.Rows
theorem N0{P:Params} :∀ (ns:Z Int) (vs:Z A1),WellAll P h vs (ns.map WData.int)->IntsAre vs ns:=by
 intro ns;induction ns with
 | nil =>
  intro vs w;rw[map_nil] at w;cases w;exact .nil
 | cons n ns ih =>
  intro vs w;rw[CF] at w;cases w with
  | cons a b =>
   cases a;exact .cons _ _ (ih _ b)
theorem cn{l:OpenLaw}{n:Nat}(hn:l.most=some n){P:Params}{args:Z WData}{p:Z A1}
   (j:l.row.toRowW.claim.pre args=true) (D:WellAll P h p args) :
   ∃ a vs ns,p=[Value.ref a]/\args=[WData.list (ns.map WData.int)]/\h.get? a=some { cls:=.type "list",data:=.seq vs.toArray }/\IntsAre vs ns/\ns.length<=n:=by
 have m:WShape.hasAll [] args [.list .int]=true:=(pre_splitW j).1;have hc:l.pre.holds [] { args:=args }=true:=(pre_splitW j).2;obtain⟨d,r,rfl,h1,h2⟩:=hasAllW_cons m;obtain rfl:=hasAllW_nil h2;obtain⟨xs,rfl,h3⟩:=hasW_list h1;obtain⟨ns,rfl⟩:=items_int h3;have ac:ns.length<=n:=by
   unfold OpenLaw.pre at hc;have h4:(WTm.not (.lt (.lit (.int (n:Int))) (.len (.arg 0)))).holds [] { args:=[.list (ns.map .int)] }=true:=by
     have h4:=(holds_andW hc).1;rw[hn] at h4;exact h4
   have F:=condW_of h4 (w_not (w_lt w_lit (w_len_list (w_arg rfl))));rw[AF] at F;refine Nat.le_of_not_lt λq=>?_
   have q':(n:Int)<((ns.length:Nat):Int):=by lia
   first
     | (rw[AG q'] at F;exact absurd F (by decide))
     | (simp at F;lia)
 cases D with
 | cons w1 w2 =>
   cases w2;cases w1 with
   | list ho f=>exact⟨_,_,ns,rfl,rfl,ho,N0 ns _ f,ac⟩
theorem iB(l:OpenLaw)(args:Z WData):l.row.toRowW.claim.post args (.bool true) args=true :=
 postW_of (r:=l.row.toRowW) (X:=(true==true))
  (show WShape.has [] (.bool true) .bool=true by first | rfl | decide | simp[WShape.has,WShape.arms,WShape.armsAll])
  (show(WTm.eq .res (.lit (.bool true))).value [] { args:=args,res:=some (.bool true),after:=args }=some (.bool (true==true)) from w_eq_bool (w_res rfl) w_lit) rfl
theorem attach_call{l:OpenLaw}{n:Nat}{q:Fn}{loose:Z Str}{E:(Str->C1 A1)->H3->Prop}{B:Gf->H3->Prop}{d:DefRec}
  (hn:l.most=some n) (v:d.params.defaults=[])
  (call:∀ (w:Gf) (s₀ s₁:A4) (mg C:KP) (fa:A2) (o:Obj) (pm cd ap:A1) (a:A2) (vs:Z A1) (ns:Z Int),
   Ground q loose [] E w s₀ mg C s₁.heap->B w s₁.heap ->
   s₁.heap.get? fa=some o->o.data=.func (docDef d.name d.params d.body d.scope pm cd ap)->s₁.heap.CodeRec cd d.name->mg d.name=some (.ref fa) ->
   s₁.heap.get? a=some { cls:=.type "list",data:=.seq vs.toArray }->IntsAre vs ns->ns.length<=n->s₁.gens=#[] ->
   codeAny (model l.prog w) callerA (.call (.ref fa) ⟨[.ref a],[]⟩) (λr s'=>r=.ok (.ret (.bool true))/\OldK s₁.heap s'.heap/\s'.os=s₁.os/\AllBare s'.gens) s₁) :
  WalkO q loose E B l.row.toRowW d [] (λf vs=>PySem.call f vs):=by
 intro w s₀ s₁ mg C G Y fa o pm cd ap U kV ho hd ae y M hg args p as j hlay hrd D i;obtain rfl:U=.none:=Dflts.none y v;obtain rfl:kV=.none:=Dflts.noKw y;obtain⟨a,vs,ns,rfl,rfl,A,c,ac⟩:=cn hn j D;refine enter_call (FD (call w s₀ s₁ mg C fa o pm cd ap a vs ns G Y ho (fd_plain hd) ae M A c ac hg) λr s' hq=>?_);obtain⟨rfl,h2,h3,h4⟩:=hq;exact⟨.inl ⟨.bool true,.bool true,[],rfl,λ_=>rfl,.bool true,iB l _,λ_=>⟨List.Pairwise.nil,λ_ hm=>(nomatch hm)⟩⟩,h2,h3,h4⟩
section
variable{K:Frag}
end
end Att
namespace L2
open PySem PySem.Spec PyProof.Rows
theorem F6:∀ {vs:Z A1} {ns:Z Int},IntsAre vs ns->Y5 (ns.map V.int) vs
 | _,_,.nil=>.nil
 | _,_,.cons n t h=>.cons ⟨t,rfl⟩ (F6 h)
noncomputable def SL(K:J1)(H:Hp)(a:A2)(xs:Z V):Prop :=
 Rd H a (.lst xs)\/∃ (its:Z A1) (n:Nat),K.lookup a=some { cls:=.type "list",data:=.seq its.toArray n }/\xs.length<=sizeLine/\Y5 xs its
noncomputable def Nq(s:Df)(j:Nat):Df:=match s with
 | .ClassDef _ _ _ body _ _ _ _ _ _ _=>body.getD j (.Pass ⟨0,0,0,0⟩)
 | _=>.Pass ⟨0,0,0,0⟩
noncomputable def Vs(s:Df):Arguments:=match s with
 | .FunctionDef _ a _ _ _ _ _ _ _ _=>a
 | _=>{ posonlyargs:=[],args:=[],vararg:=none,kwonlyargs:=[],kw_defaults:=[],kwarg:=none,defaults:=[] }
noncomputable def Yn(s:Df):Z Df:=match s with
 | .FunctionDef _ _ b _ _ _ _ _ _ _=>b
 | _=>[]
noncomputable def Z9(s:Df):IA:=match s with
 | .FunctionDef _ _ _ _ _ _ sc _ _ _=>sc
 | _=>{ kind:=.function,names:=[],isGenerator:=false,isCoroutine:=false }
noncomputable abbrev Ec:Xp:=λ_ _ _ _ _ _=>False
noncomputable abbrev E0:XK:=λ_ _ _=>False
theorem ZV{X:Cx}:O3 Ec X E0:=λ_ _ _ _ _ _ _ h=>h.elim
structure LM (K:J1) (x ah:Str) (st:Stmt) (f:Addr) (fd:FuncData):Prop where
 ex:∃ (oc:Value) (od:Option Addr) (kV ap pm:Value) (an:Option Addr) (ai ct:Value) (j:Array (Option Value)),
  fd=PySem.W.fnOf x ah (Vs st) (Yn st) (Z9 st) .none kV ap pm an ai ct/\K.lookup f=some ⟨oc,od,.func fd,j⟩/\PySem.W.codeIn K ai ah=true
 kp:PySem.W.keepIn K (.ref f)=true
theorem LM.ok{x:Str}{st:Df}{N:Z Str}{k:Nat}(F:LM K x ah st f fd)(S:FnScope N ps (Z9 st))(len:∀ vs H Q E,sp vs H Q E->vs.length=ps.length)
  (a:∀ (ai:A1) (A:C0) (outer:Z I0) (s:A4) (H:Hp) (vs:Z V) (Q:VK) (E:XK),I' k (A.deeper (envOfC ah (Z9 st) s.heap.objs.size f ai))->sp vs H Q E ->
   ∃ t,Dq (Qf Ec P w K mg base N ah (Z9 st) f ai A outer s H E).nox (Yn st) t/\t { nx:=λ_ H'=>Q .non H',rt:=Q } (J' N vs) H):KO P w K mg base Ec (k+1) f fd ps sp:=by
 obtain⟨oc,od,kV,ap,pm,an,ai,ct,j,rfl,lk,ae⟩:=F.ex;refine VB lk ae S len λA outer s H vs Q E hr Y=>?_
 obtain⟨t,h,q⟩:=a ai A outer s H vs Q E hr Y;exact⟨t,h.nox,q⟩
theorem LM.binds{x:Str}{st:Df}(F:LM K x ah st f fd)
  (h:∀ (kV ap pm:A1) (an:C1 A2) (ai ct:A1) (us:Z A1),us.length=ps.length->bindArgs (PySem.W.fnOf x ah (Vs st) (Yn st) (Z9 st) .none kV ap pm an ai ct) ⟨us,[]⟩=pure (ps.zip us)):Jy K fd ps []:=by
 obtain⟨oc,od,kV,ap,pm,an,ai,ct,j,rfl,lk,ae⟩:=F.ex;exact .all (h kV ap pm an ai ct)
theorem UC{x:Str}{st:Df}{j:Array (C1 A1)}{kV:A1}(l:K.lookup f=some ⟨oc,od,.func (PySem.W.fnOf x ah (Vs st) (Yn st) (Z9 st) .none kV ap pm an ai ct),j⟩)
 (c:PySem.W.codeIn K ai ah=true) (k:PySem.W.keepIn K (.ref f)=true):LM K x ah st f (PySem.W.fnOf x ah (Vs st) (Yn st) (Z9 st) .none kV ap pm an ai ct):=⟨⟨oc,od,kV,ap,pm,an,ai,ct,j,rfl,l,c⟩,k⟩
theorem SS{k:Nat}(hr:I' k A):A.units+1<cLine:=FA (Nat.add_le_add_left (by decide:1<=64) _) hr.units
theorem Tq{n:Nat}(h:n<=1000):n<sizeLine:=FA h (by decide)
section
variable{X:Cx}
theorem pv(i:Nat){x:Str}(hN:X.N[i]?=some x:=by rfl)(hv:LU X.env.scope x:=by ext)(hd:C2 x:=by decide)
 (ae:(x==("__classdict__" : Str))=false:=by decide):PE X (.Name x pos) (Im i):=Jm hN hv hd ae
end
theorem YE{A:Prop}(h:B):if false=true then A else B:=by
 rw[AM CU];exact h
theorem WD{A:Prop}(h:A):if true=true then A else B:=by
 rw[AH rfl];exact h
noncomputable def Zr(H H':Hp):Prop:=∀ b o,H b=some o->H' b=some o
theorem Zr.refl(H:Hp):Zr H H:=λ_ _ h=>h
theorem Zr.trans(a:Zr H H1)(b:Zr H1 H2):Zr H H2:=λc o h=>b c o (a c o h)
theorem Zr.free(e:Zr H H')(h:H' l=Option.none):H l=Option.none:=by
 cases q:H l with
 | none=>rfl
 | some o =>
  rw[e l o q] at h;cases h
theorem iu{R:Result->A4->Prop}{aw a iter:C3}{aq:Z C3}{scope:IA}{pos:Pos}{it l:A1}{env:I0}(I:Nat->A4->Prop)
  (B:∀ n s,I n s->wpAny (model prog w) A (pyNext it) (λr s₁=>match r with
   | none=>R (.ok .next) s₁
   | some v=>wpAny (model prog w) A (letOwnedTupleGo a it v) (λ_ s₁'=>wpAny (model prog w) A (assign a env v) (λ_ s₂ =>
    wpAny (model prog w) A (forIn aq true λc r=>if r=true then do let ok <- isTrue c env (eval c env);pure (ForInStep.yield ok) else pure (ForInStep.yield r)) (λok s₃ =>
     if ok=true then wpAny (model prog w) A (eval aw env) (λx s₄ =>
      wpAny (model prog w) A (call (.builtin "list.append") [l,x]) (λ_ s₅=>∃ m,m<n/\I m s₅) (λ_ _=>False) s₄) (λ_ _=>False) s₃
     else ∃ m,m<n/\I m s₃) (λ_ _=>False) s₂) (λ_ _=>False) s₁') (λ_ _=>False) s₁) (λ_ _=>False) s)
  (n:Nat) (h:I n s) :
  codeAny (model prog w) A (.compLoop (.ListComp aw [⟨a,iter,aq,0⟩] scope pos) 0 it l env) R s:=by
 refine codeAny_loop rfl I (λn s N=>?_) n h;show wpAny _ A ((compTurn (.ListComp aw [⟨a,iter,aq,0⟩] scope pos) 0 it l env).onRaise (λx=>do noteFrame x env;theTreesLotGoes x)) _ _ s;refine wpAny_noted ?_;rw[compTurn_list];refine AA (CY (AA (BF (B n s N) (λr s₁ h₁=>?_) λ_ _ h'=>h'.elim)));cases r with
 | none=>exact AI h₁
 | some v =>
  refine AA (BF h₁ (λ_ s₁' h₁'=>?_) λ_ _ h'=>h'.elim);refine AA (BF h₁' (λ_ s₂ h₂=>AA (BF h₂ (λok s₃ h₃=>?_) λ_ _ h'=>h'.elim)) λ_ _ h'=>h'.elim);cases ok with
  | false=>exact AI ⟨rfl,h₃⟩
  | true =>
   exact AA (AA (BF h₃ (λx s₄ h₄=>AA (BF h₄ (λ_ s₅ h₅=>AI (AI ⟨rfl,h₅⟩)) λ_ _ h'=>h'.elim)) λ_ _ h'=>h'.elim))
variable{m:Str}{p:Pos}
noncomputable def R8(cells:Z (Str×A2)):Z (Str×NameKind)->Z (Str×A2)->Z (Str×A2)
 | [],l=>l
 | (n,k)::r,l=>R8 cells r (if k==.free then(n,(cells.lookup n).getD 0)::l else l)
theorem Gg(h:∀ y∈sc.names,y.2=.free->∃ c,env.cells.lookup y.1=some c):closureFor sc env=pure (R8 env.cells sc.names []):=by
 unfold closureFor;generalize ([]:Z (Str×A2))=l;generalize hl:sc.names=names at h;clear hl;induction names generalizing l with
 | nil=>rfl
 | cons y r ih =>
  obtain⟨n,k⟩:=y;have a:=λl=>ih l λy hy=>h y (BB _ hy)
  dsimp only at a ⊢;rw[JK];by_cases hk:k=.free
  .subst hk
   obtain⟨c,hc⟩:=h (n,.free) AX rfl;simp only[cellOf,hc,EL,JD,pure_bind,R8,JG];exact a _
  .have hb:(k==NameKind.free)=false:=by simpa using hk
   simp only[hb,FL,HH,pure_bind,R8];exact a _
theorem Lj:∀ (names:Z (Str×NameKind)) (l:Z (Str×A2)),(∀ y∈names,y.2=.free->∃ c,cells.lookup y.1=some c)->(∀ x c,l.lookup x=some c->cells.lookup x=some c) ->
   ∀ x c,(R8 cells names l).lookup x=some c->cells.lookup x=some c
 | [],_,_,ha,x,c,e=>ha x c e
 | (n,k)::r,l,h,ha,x,c,e=>by
   unfold R8 at e;refine Lj r _ (λy hy=>h y (BB _ hy)) (λd g e'=>?_) x c e;split at e'
   · rename_i hk
     have f:k=.free:=by simpa using hk
     obtain⟨c0,a⟩:=h (n,k) AX f;simp only at a;rw[EF] at e';split at e'
     · rename_i hx
       have ap:d=n:=by simpa using hx
       subst ap;rw[a] at e';simp at e';rw[a,e']
     · exact ha d g e'
   · exact ha d g e'
theorem Si:∀ (names:Z (Str×NameKind)) (l:Z (Str×A2)) (x:Str),((x,NameKind.free)∈names\/(l.lookup x).isSome=true)->((R8 cells names l).lookup x).isSome=true
 | [],l,x,h=>by
   rcases h with h | h
   · simp at h
   · exact h
 | (n,k)::r,l,x,h=>by
   unfold R8;refine Si r _ x ?_;rcases h with h | h
   · rcases BK.mp h with e | h
     · cases e
       right;simp
     · exact .inl h
   · right
     split
     · rw[EF]
       split
       · rfl
       · exact h
     · exact h
noncomputable def Wc(X:Cx)(sc:IA)(N:Z Str)(C:A2)(s:A4)(H:Hp)(fp:Z A2):Cx :=
 { X with N:=N,s₀:=s,H₀:=H,env:=compEnvC sc (R8 X.env.cells sc.names []) C X.env,outer:=X.stack,ex:=fp,fn:=λ_=>false,pn:=[],xe:=λ_ _=>False }
noncomputable def ZJ(psc sc:IA)(a N:Z Str)(fs:Z (C1 Nat)):Bool :=
 N.length==fs.length&&(N.zip fs).all (λp=>match p.2 with | none=>true | some j=>a[j]?==some p.1&&sc.names.lookup p.1==some .free) &&
 sc.names.all (λy=>y.2 != .cell&&(y.2 != .free||(psc.names.lookup y.1==some .cell||psc.names.lookup y.1==some .free))&&(y.2 != .local||sc.names.lookup y.1==some .local))&&sc.kind==.function
structure CompOk (psc sc:Scope) (a N:List Str) (fs:List (Option Nat)):Prop where
 len:N.length=fs.length
 frees:∀ (i j:Nat),fs[i]?=some (some j)->∃ x,N[i]?=some x/\a[j]?=some x/\sc.names.lookup x=some .free
 nocell:∀ y∈sc.names,y.2≠.cell
 par:∀ y∈sc.names,y.2=.free->psc.names.lookup y.1=some .cell\/psc.names.lookup y.1=some .free
 loc:∀ y∈sc.names,y.2=.local->sc.names.lookup y.1=some .local
 kind:sc.kind=.function
theorem CompOk.of{a N:Z Str}(h:ZJ psc sc a N fs=true):CompOk psc sc a N fs:=by
 unfold ZJ at h;simp only[AW,DI,CW,bne_iff_ne,ne_eq,EU] at h;obtain⟨⟨⟨h1,h2⟩,h3⟩,h4⟩:=h;refine⟨h1,λi j e=>?_,λy hy=>(h3 y hy).1.1,λy hy e=>?_,λy hy e=>?_,h4⟩
 .have hi:i<fs.length:=(AC.mp e).1
  have hN:i<N.length:=by lia
  have hz:(N.zip fs)[i]?=some (N[i],some j):=by
   rw[List.getElem?_zip_eq_some];exact⟨by simp[hN],e⟩
  have:=h2 _ (AD hz);simp only[AW,DI] at this;exact⟨N[i],by simp[hN],this.1,this.2⟩
 .rcases(h3 y hy).1.2 with z | z
  .exact absurd e z
  .exact z
 .rcases(h3 y hy).2 with z | z
  .exact absurd e z
  .exact z
variable{fs:Z (Str×V)}
theorem E4{x:Str}{k:NameKind}(j:∀ y∈sc.names,y.2≠.cell)(h:(relabel sc env).names.lookup x=some k)(hk:k=.cell\/k=.free):(x,NameKind.free)∈sc.names:=by
 have hm:=BG h;unfold relabel at hm;simp only[DJ] at hm;obtain⟨⟨n,k'⟩,hy,e⟩:=hm;dsimp only at e;split at e
 .rename_i hc
  simp only[AW,DI] at hc;cases e;rw[hc.1.1] at hy;exact hy
 .cases e
  rcases hk with z | z
  .exact absurd z (j _ hy)
  .rw[z] at hy;exact hy
theorem Fx{x:Str}(h:sc.names.lookup x=some .free):(relabel sc env).names.lookup x=some .cell\/(relabel sc env).names.lookup x=some .free:=by
 unfold relabel;dsimp only;generalize sc.names=names at h;induction names with
 | nil=>simp at h
 | cons y r ih =>
  obtain⟨n,k⟩:=y;rw[EF] at h;rw[CF];split at h
  .rename_i hx
   cases h;have:x=n:=by simpa using hx
   subst this;dsimp only;split
   .left;rw[EF];simp
   .right;rw[EF];simp
  .rename_i hx
   dsimp only;split
   .rw[EF,hx];exact ih h
   .rw[EF,hx];exact ih h
section
variable(P:Fn)(w:Gf)
end
section
variable{a:A2}{o:HO}
end
section
variable{x e:A2}{o':HO}
end
section
variable{fs:Z A2}{h1 h2:H3}{a x e:A2}{o:HO}
end
section
variable{X:Cx}{σ:Z (C1 V)}
end
section
variable{X:Cx}
variable{a b:C3}
variable{tA aJ:TT}
end
section
variable{X:Cx}{a:A2}{xs:Z V}
end
section
variable{X:Cx}
end
section
variable{X:Cx}{st:Df}{aj:Z Df}{t u:TS}
end
section
variable{X:Cx}
end
section
variable{X:Cx}
end
section
variable{X:Cx}{a b c:C3}{tc:TE}
end
section
variable{x:A2}{v:A1}
end
section
variable{a:A2}{aM:Z (Str×V)}
end
section
variable{X:Cx}{a:A2}{f:Str}{v:V}
end
section
variable{X:Cx}{o:C3}{f:Str}
end
section
variable{X:Cx}{c:A1}{b:Bool}
end
section
variable{X:Cx}{t:TA}
end
section
variable{X:Cx}
end
section
variable{X:Cx}{k:Nat}{E:XK}{x:Str}{o:C3}{t:TA}
end
section
variable{X:Cx}{k:Nat}{E:XK}{x:Str}{o:C3}{aG:Z Keyword}{t tk:TA}
variable{gV:Z V->Z V->Z V}
end
section
variable{X:Cx}{x:Str}{t:TA}{id:String}{r:Z V->Hp->VK->Prop}
end
section
variable{κ:Type}[DecidableEq κ]
noncomputable def Du(kvs:Z (κ×V))(k:κ):C1 V:=(kvs.find? λa=>decide (a.1=k)).map (·.2)
noncomputable def Ig(kvs:Z (κ×V))(k:κ)(v:V):Z (κ×V) :=
 if(kvs.any λa=>decide (a.1=k))=true then kvs.map (λa=>if a.1=k then(a.1,v) else a) else kvs++[(k,v)]
theorem Oo{p:κ×V}{r:Z (κ×V)}{k:κ}(e:p.1=k):Du (p::r) k=some p.2:=by simp[Du,GT,e]
theorem Pl{p:κ×V}{r:Z (κ×V)}{k:κ}(e:¬ p.1=k):Du (p::r) k=Du r k:=by simp[Du,GT,e]
theorem Ip(k:κ):∀ kvs:Z (κ×V),(kvs.any λa=>decide (a.1=k))=(Du kvs k).isSome
 | []=>rfl
 | p::r=>by
  rw[IG];by_cases e:p.1=k
  .simp only[Oo e,AG e,Bool.true_or,Option.isSome_some]
  .rw[Pl e,AB e,Bool.false_or];exact Ip k r
theorem L6(kvs:Z (κ×V))(k:κ)(v:V):(Ig kvs k v).length<=kvs.length+1:=by
 unfold Ig;split
 .rw[AF];lia
 .rw[AN,BJ,JL];lia
theorem en{kvs:Z (κ×V)}{k:κ}(v:V)(h:Du kvs k=none):Ig kvs k v=kvs++[(k,v)]:=by
 unfold Ig;rw[Ip,h];exact AM (by decide)
theorem Om.isSome_eq{o:C1 V}{u:C1 A1}(r:Om o u):o.isSome=u.isSome:=by
 cases o with
 | none=>cases u with
  | none=>rfl
  | some _=>exact(show False from r).elim
 | some _=>cases u with
  | none=>exact(show False from r).elim
  | some _=>rfl
theorem KV.val{kvs:Z (κ×V)}{vs:Z (κ×A1)}(r:KV kvs vs)(k:κ):Om (Du kvs k) (valueAt vs k):=by
 unfold KV at r;induction r with
 | nil=>exact JC
 | @cons p q ps qs h t ih =>
  obtain⟨h1,h2⟩:=h;by_cases e:p.1=k
  .have e':q.1=k:=h1.symm.trans e
   have b:valueAt (q::qs) k=some q.2:=by simp[valueAt,GT,e']
   rw[Oo e,b];exact h2
  .have e':¬ q.1=k:=λz=>e (h1.trans z)
   have b:valueAt (q::qs) k=valueAt qs k:=by simp[valueAt,GT,e']
   rw[Pl e,b];exact ih
theorem KV.any{kvs:Z (κ×V)}{vs:Z (κ×A1)}(r:KV kvs vs)(k:κ):(kvs.any λa=>decide (a.1=k))=vs.any λa=>decide (a.1=k):=by
 unfold KV at r;induction r with
 | nil=>rfl
 | cons h t ih=>rw[IG,IG,ih,h.1]
theorem KV.repl{kvs:Z (κ×V)}{vs:Z (κ×A1)}(r:KV kvs vs)(k:κ)(m:Yr y u) :
  KV (kvs.map λa=>if a.1=k then(a.1,y) else a) (vs.map λa=>if a.1=k then(a.1,u) else a):=by
 unfold KV at r ⊢;induction r with
 | nil=>exact .nil
 | @cons p q ps qs h t ih =>
  rw[CF,CF];refine .cons ?_ ih;obtain⟨h1,h2⟩:=h;by_cases e:p.1=k
  .rw[AH e,AH (h1.symm.trans e)];exact⟨h1,m⟩
  .rw[AM e,AM (λz=>e (h1.trans z))];exact⟨h1,h2⟩
theorem KV.put{kvs:Z (κ×V)}{vs:Z (κ×A1)}(r:KV kvs vs)(k:κ)(m:Yr y u):KV (Ig kvs k y) (stored vs k u):=by
 unfold Ig stored;rw[r.any k];by_cases e:(vs.any λa=>decide (a.1=k))=true
 .rw[AH e,AH e];exact r.repl k m
 .rw[AM e,AM e];exact Paired.snoc r ⟨rfl,m⟩
theorem KV.length{kvs:Z (κ×V)}{vs:Z (κ×A1)}(r:KV kvs vs):kvs.length=vs.length:=IT r
end
variable{r:A1}
theorem TU{k:Vn}(r:Yr (kV k) u):(Vf P w).is k u=true:=by
 cases k with
 | inl i=>obtain⟨t,e⟩:=(show ∃ t,u=Value.int i t from r);subst e;exact gM P w i t
 | inr x=>obtain⟨t,e⟩:=(show ∃ t,u=Value.str x t from r);subst e;exact kO P w x t
theorem Xq:∀ {ks:Z Vn} {us:Z A1},Y5 (ks.map kV) us->ItemsAre (Vf P w) ks us
 | [],_,r=>by rw[map_nil] at r;cases r;exact .nil
 | k::ks,_,r=>by
  rw[CF] at r;cases r with
  | cons h t=>exact .cons (TU h) (Xq t)
noncomputable abbrev KT(H:Hp):Z (Z Vn×V)->Z (Z Vn×A2×A1)->Prop:=Paired λp q=>p.1=q.1/\H q.2.1=some (.tup (p.1.map kV))/\Yr p.2 q.2.2
theorem KT.val(r:KT H kvs xs)(k:Z Vn):Om (Du kvs k) ((atKey xs k).map (·.2)):=by
 induction r with
 | nil=>exact JC
 | @cons p q ps qs h t ih =>
  obtain⟨h1,_,h2⟩:=h;by_cases e:p.1=k
  .have e':q.1=k:=h1.symm.trans e
   have b:atKey (q::qs) k=some q.2:=by simp[atKey,GT,e']
   rw[Oo e,b];exact h2
  .have e':¬ q.1=k:=λz=>e (h1.trans z)
   have b:atKey (q::qs) k=atKey qs k:=by simp[atKey,GT,e']
   rw[Pl e,b];exact ih
theorem KT.repl(r:KT H kvs xs)(k:Z Vn)(m:Yr y u) :
  KT H (kvs.map λa=>if a.1=k then(a.1,y) else a) (xs.map (putAt k u)):=by
 induction r with
 | nil=>exact .nil
 | @cons p q ps qs h t ih =>
  rw[CF,CF];refine .cons ?_ ih;obtain⟨h1,h2,h3⟩:=h;unfold putAt;by_cases e:p.1=k
  .rw[AH e,AH (h1.symm.trans e)];exact⟨h1,h2,m⟩
  .rw[AM e,AM (λz=>e (h1.trans z))];exact⟨h1,h2,h3⟩
theorem KT.put(r:KT H kvs xs)(k:Z Vn){b:A2}(hb:H b=some (.tup (k.map kV)))(m:Yr y u) :
  KT H (Ig kvs k y) (storedH xs k b u):=by
 have e:(kvs.any λa=>decide (a.1=k))=(atKey xs k).isSome:=by
  rw[Ip,(r.val k).isSome_eq,Option.isSome_map]
 unfold Ig storedH;rw[e];by_cases q:(atKey xs k).isSome=true
 .rw[AH q,AH q];exact r.repl k m
 .rw[AM q,AM q];exact Paired.snoc r ⟨rfl,hb,m⟩
theorem KT.keeps(r:KT H kvs xs)(ht:∀ b ys,H b=some (.tup ys)->H' b=some (.tup ys)):KT H' kvs xs :=
 Paired.mapP r λ_ _ z=>⟨z.1,ht _ _ z.2.1,z.2.2⟩
section
variable{a:A2}
theorem bd{u:HO}(ok:Mx P w H h)(e:Rd H a u):We P w H h a u:=e.ok ok
theorem WK{kvs:Z (Vn×V)}(ok:Mx P w H h)(e:Rd H a (.dK kvs)):kvs.length<=sizeLine/\(a==sysModules)=false/\∃ vs,KV kvs vs/\h.DictOf (Vf P w) a vs :=
 show We P w H h a (.dK kvs) from bd ok e
theorem fj{kvs:Z (Vn×V)}(ok:Mx P w H h)(e:H a=some (.dK kvs)):kvs.length<=sizeLine/\(a==sysModules)=false/\∃ vs,KV kvs vs/\h.DictOf (Vf P w) a vs:=WK ok (.inl e)
theorem Bp{ks:Z Vn}(ok:Mx P w H h)(e:H a=some (.tup (ks.map kV))):(tupleKind (Vf P w)).is h ks a:=by
 obtain⟨_,its,r,o,h1,h2,n,h3⟩:=(show We P w H h a (.tup (ks.map kV)) from ok a _ e);exact⟨o,its.toArray,n,h1,h2,h3,by simpa using Xq r⟩
theorem WO(ok:Mx P w H h)(e:Rd H a (.dT kvs)):kvs.length<=sizeLine/\(a==sysModules)=false /\
  ∃ xs,KT H kvs xs/\h.DictOfH (tupleKind (Vf P w)) a xs:=by
 obtain⟨z,y,xs,r,o,es,ep,h1,h2,h3,h4,F⟩:=(show We P w H h a (.dT kvs) from bd ok e);refine⟨z,y,xs,r,o,es,ep,h1,h2,h3,h4,λx hx=>?_,F⟩;have all:∀ {l:Z (Z Vn×V)} {m:Z (Z Vn×A2×A1)},KT H l m->∀ x∈m,(tupleKind (Vf P w)).is h x.1 x.2.1:=by
  intro l m q;induction q with
  | nil=>intro x hx;exact nomatch hx
  | @cons p q ps qs hq t ih =>
   intro x hx;rcases BK.mp hx with e | hx
   .subst e
    exact Bp ok (by rw[<- hq.1];exact hq.2.1)
   .exact ih x hx
 exact all r x hx
theorem VU(ok:Mx P w H h)(e:H a=some (.dT kvs)):kvs.length<=sizeLine/\(a==sysModules)=false /\
 ∃ xs,KT H kvs xs/\h.DictOfH (tupleKind (Vf P w)) a xs:=WO ok (.inl e)
end
noncomputable def QC(H:Hp)(a:A2)(y:V)(r:C1 V):Prop :=
 (∃ kvs k,Rd H a (.dK kvs)/\y=kV k/\r=Du kvs k)\/∃ kvs k b,Rd H a (.dT kvs)/\y=.ref b/\H b=some (.tup (k.map kV))/\r=Du kvs k
noncomputable def PH(H:Hp)(a:A2)(y v:V)(H':Hp):Prop :=
 (∃ kvs k,H a=some (.dK kvs)/\y=kV k/\kvs.length<sizeLine/\H'=W5 H a (.dK (Ig kvs k v))) \/
 ∃ kvs k b,H a=some (.dT kvs)/\y=.ref b/\H b=some (.tup (k.map kV))/\kvs.length<sizeLine/\H'=W5 H a (.dT (Ig kvs k v))
theorem QC.t{a b:A2}{k:Z Vn}(e:H a=some (.dT kvs))(eb:H b=some (.tup (k.map kV))):QC H a (.ref b) (Du kvs k):=.inr ⟨kvs,k,b,.inl e,rfl,eb,rfl⟩
theorem PH.t{a b:A2}{k:Z Vn}{v:V}(e:H a=some (.dT kvs))(eb:H b=some (.tup (k.map kV)))(hl:kvs.length<sizeLine) :
 PH H a (.ref b) v (W5 H a (.dT (Ig kvs k v))):=.inr ⟨kvs,k,b,e,rfl,eb,hl,rfl⟩
section
variable{X:Cx}{a:A2}{v:V}{o:C1 V}
theorem F'.big(I:F' X aa σ H s):sysModules<s.heap.objs.size:=by
 have h:mainGlobals<s.heap.objs.size:=(I.mod.glob.keeps I.bk).lt;exact Nat.lt_trans (by decide) h
theorem fT(C:A.units+1<cLine)(I:F' X aa σ H s)(g:QC H a y o)(m:Yr y u)(h:∀ s',F' X aa σ H s'->Q (.bool o.isSome) s') :
  wpAny (model X.prog X.w) A (compareOp .In u (.ref a)) Q E s:=by
 rcases g with⟨kvs,k,e,M,l⟩ | ⟨kvs,k,b,e,M,eb,l⟩
 .subst M
  obtain⟨z,hd,vs,rel,dd⟩:=WK I.hok e;refine wpAny_in_of (TU m) hd dd.mapOf ?_;rw[<- (rel.val k).isSome_eq,<- l];exact h _ (I.tok _)
 .subst M
  cases (show u=Value.ref b from m);obtain⟨z,hd,xs,rel,dd⟩:=WO I.hok e;refine wpAny_in_heap (tupleKind_room_in1 C) (Bp I.hok eb) hd dd ?_;have q:=(rel.val k).isSome_eq;rw[Option.isSome_map] at q;rw[<- q,<- l];exact h _ (I.tok _)
theorem Fo{t':Nat}{ob:HO}(I:F' X aa σ H s)(mu:PP (H a))(hs:SameBut a s.heap h')(he:∃ q,h'.get? a=some q)(new:We X.prog X.w (W5 H a ob) h' a ob) :
  F' X aa σ (W5 H a ob) { s with heap:=h',toks:=t' } :=
 I.write (x:=a) (e:=a) mu (.inl rfl) (λb q hb z=>(hs.2 b hb).trans z) he new
theorem ei{kvs:Z (Vn×V)}{vs:Z (Vn×A1)}(z:kvs.length<=sizeLine)(hd:(a==sysModules)=false)(rel:KV kvs vs)(dd:h'.DictOf (Vf P w) a vs) :
 We P w H' h' a (.dK kvs):=⟨z,hd,vs,rel,dd⟩
theorem jW{Q:Unit->A4->Prop}(C:A.units+1<cLine)(I:F' X aa σ H s)(g:PH H a y v H')(m:Yr y u)(rv:Yr v r)(h:∀ s',F' X aa σ H' s'->Q () s') :
  wpAny (model X.prog X.w) A (setItem (.ref a) u r) Q E s:=by
 rcases g with⟨kvs,k,e,M,l,D⟩ | ⟨kvs,k,b,e,M,eb,l,D⟩
 .subst M D
  obtain⟨z,hd,vs,rel,dd⟩:=fj I.hok e;have hz:vs.length<=sizeLine:=by rw[<- rel.length];exact z
  have hl:(Ig kvs k v).length<=sizeLine:=by have:=L6 kvs k v;lia
  refine wpAny_setItem_pairs (hsz:=hz) (TU m) dd λh' W hs=>h _ ?_
  have he:∃ q,h'.get? a=some q:=let ⟨q,_,_,hq,_⟩:=W;⟨q,hq⟩
  exact Fo I (by rw[e];exact JC) hs he (ei hl hd (rel.put k rv) W)
 .subst M D
  cases (show u=Value.ref b from m);obtain⟨z,hd,xs,rel,dd⟩:=VU I.hok e;have hz:xs.length<=sizeLine:=by rw[<- IT rel];exact z
  have hl:(Ig kvs k v).length<=sizeLine:=by have:=L6 kvs k v;lia
  refine wpAny_setItem_heap (hsz:=hz) (tupleKind_room_in1 C) (Bp I.hok eb) dd λh' W hs=>h _ ?_
  obtain⟨q,es,ep,hq,h2,h3,h4,_,F⟩:=W;refine Fo I (by rw[e];exact JC) hs ⟨q,hq⟩ ⟨hl,hd,_,(rel.put k eb rv).keeps λc ys ec=>?_,q,es,ep,hq,h2,h3,h4,F⟩;rw[Zh (cG ec e (λz=>nomatch z))];exact ec
end
section
variable{X:Cx}{a:A2}{kvs:Z (Vn×V)}{k:Vn}
end
noncomputable def f8(ty td:TE):TE:=λσ H Q=>ty σ H λy H1=>td σ H1 λx H2=>∃ a o,x=.ref a/\QC H2 a y o/\Q (.bl o.isSome) H2
noncomputable def jH(td ty tv:TE):TS:=λD σ H=>tv σ H λv H1=>td σ H1 λx H2=>ty σ H2 λy G=>∃ a H4,x=.ref a/\PH G a y v H4/\D.nx σ H4
section
variable{X:Cx}{o i:C3}
theorem kC(C:X.A.units+1<cLine)(hi:PE X i ty)(ho:PE X o td):PC X .In i o (f8 ty td):=by
 intro aa s σ H Q I h;refine Ws (hi aa s σ H _ I h) λb s1 ⟨y,H1,I1,m,Y⟩=>Ws (ho aa s1 σ H1 _ I1 Y) λu s2 zz=>?_;obtain⟨x,H2,I2,S,a,E,ex,g,q2⟩:=zz
 subst ex;obtain rfl:u=Value.ref a:=S;exact fT C I2 g m λP j=>⟨.bl E.isSome,H2,j,rfl,q2⟩
theorem jb(C:X.A.units+1<cLine)(ho:PE X o td)(hi:PE X i ty)(hv:PE X ao tv)(hs:swapsWith ao (some (.Subscript o i al)) pos.line X.env=pure false) :
  PS X (.Assign [.Subscript o i al] ao pos) (jH td ty tv):=by
 intro aa s σ H D I h;refine wpAny_Assign_Subscript (Ws (hv aa s σ H _ I h) λr s1 ⟨v,H1,I1,rv,Y⟩=>Ws (ho aa s1 σ H1 _ I1 Y) λu s2 ⟨x,H2,I2,S,q2⟩=>Ws (hi aa s2 σ H2 _ I2 q2) λb P zz=>?_) hs;obtain⟨y,G,j,m,a,H4,ex,g,J⟩:=zz;subst ex;obtain rfl:u=Value.ref a:=S;exact jW C j g m rv λs4 I4=>⟨σ,H4,I4,J⟩
end
theorem jo(h:H3)(hb:sysModules<h.objs.size):We P w H (h.push { cls:=.type "dict",data:=.dict #[] }) h.objs.size (.dT []) :=
 ⟨CZ _,CO.mpr (AR (BR hb)),[],.nil,_,#[],0,AY _ rfl,⟨rfl,rfl,rfl⟩,rfl,rfl,DZ⟩
section
variable{X:Cx}
end
section
variable{X:Cx}{a:A2}{d:V}{o:C1 V}
end
section
variable{X:Cx}{o f:C3}{tx:TE}
end
section
variable{X:Cx}{a:A2}{kvs:Z (Vn×V)}
end
section
variable{X:Cx}{a:A2}
end
end L2
variable{f:PySem.Value->PySem.Value->PySem.Sem PySem.Value}{t:L2.TA}{Q:Unit->PySem.Shared->Prop}{g:Int->Int->L2.V}{ax:PySem.Pos}{xs:Z L2.V}{Lq_:PySem.Addr}{oe:PySem.Obj}{cls:PySem.Value×C1 PySem.Value}{H0:L2.Hp}{fr:Bool}
namespace Att
open PySem PySem.W PySem.Calls PyProof.Rows
section
variable{K:Frag}
end
end Att
namespace L2
open PySem PySem.Spec PyProof.Rows
section
variable{X:Cx}
end
section
variable{κ:Type}[DecidableEq κ]
end
structure J3 (k:Nat) (A:Around):Prop where
 dp:A.depth+3*k+5<recursionLimit
 un:A.units+16*k+200<cLine
 gd:A.guards=some []
theorem J3.mono{k:Nat}(r:J3 k A)(h:j<=k:=by lia):J3 j A:=⟨by have:=r.dp;lia,by have:=r.un;lia,r.gd⟩
theorem J3.deeper{k:Nat}(r:J3 (k+1) A)(env:I0):J3 k (A.deeper env) :=
 ⟨by have:=r.dp;show A.depth+1+3*k+5<_;lia,by have:=r.un;show A.units+3+16*k+200<_;lia,r.gd⟩
theorem J3.depth{k:Nat}(r:J3 k A):A.depth<recursionLimit:=by have:=r.dp;lia
noncomputable def OI(H:Hp)(c:C1 A1):Prop:=c=some .none\/∃ e2 o2 v2,c=some (.ref e2)/\H e2=some (.frz o2 (.own 0))/\o2.data=.fields v2/\v2[2]?=some .none
theorem OI.mono{c:C1 A1}(h:OI H c)(s:Zr H H'):OI H' c:=h.imp id λzz=>by obtain⟨e2,o2,v2,h1,h2,h3⟩:=zz;exact⟨e2,o2,v2,h1,s _ _ h2,h3⟩
noncomputable def PB(A:C0)(fs:Z A2)(H:Hp)(h:H3):Prop:=A.handled=none\/∃ e oe ve,A.handled=some (.ref e)/\h.get? e=some oe/\oe.data=.fields ve/\OI H ve[2]?/\((H e=none/\e∉fs)\/∃ u,H e=some (.frz oe u))
noncomputable def gX(A:C0)(fs:Z A2)(H:Hp)(h:H3):Prop:=A.handled=none\/∃ e oe ve,A.handled=some (.ref e)/\h.get? e=some oe/\oe.data=.fields ve/\ve[2]?=some .none/\H e=none/\e∉fs
noncomputable def QA(X:Cx):Prop:=∀ aa σ H s,F' X aa σ H s->PB X.A (Dt X.stack) H s.heap
noncomputable def O'(X:Cx):Prop:=∀ aa σ H s,F' X aa σ H s->gX X.A (Dt X.stack) H s.heap
noncomputable def LY(X:Cx):Prop:=PB X.A X.fs X.H₀ X.s₀.heap/\X.ex=[]
theorem O'.c{X:Cx}(h:O' X):QA X:=λ_ _ _ _ I=>(h _ _ _ _ I).imp id λzz=>by obtain⟨e,oe,ve,h1,h2,h3,h4,F⟩:=zz;exact⟨e,oe,ve,h1,h2,h3,.inl h4,.inl F⟩
theorem bG{fs:Z A2}(k:PB A fs H h)(hx:∀ e o,h.get? e=some o->H e=none->A.handled=some (.ref e)->e∉ex)(u:Un fs ex H H' h h')(ok:Mx P w H' h'):HdS A h' :=
 k.imp id λzz=>by obtain⟨e,oe,ve,h1,h2,h3,h4,F⟩:=zz;exact⟨e,h1,oe,ve,F.elim (λ⟨W,z2⟩=>u.keep e oe h2 W z2 (hx e oe h2 W h1)) (λ⟨v,z⟩=>(show We P w H' h' e (.frz oe v) from ok e _ (u.frzs e oe v z)).1),h3,h4.imp id λzz=>by obtain⟨e2,o2,v2,y1,y2,y3⟩:=zz;exact⟨e2,o2,v2,y1,(show We P w H' h' e2 (.frz o2 (.own 0)) from ok e2 _ (u.frzs e2 o2 _ y2)).1,y3⟩⟩
theorem LY.n{X:Cx}(k:LY X):MT X:=λ_ _ _ _ I=>bG k.1 (λe o _ _ _=>by rw[k.2];simp) I.base I.hok
theorem I'.n{k:Nat}(r:I' k A):J3 k A:=⟨r.dp,r.un,r.gd⟩
structure KS (P:Program) (w:World) (K:J1) (mg:KP) (base:Heap) (CX:Xp) (k:Nat) (f:Addr) (fd:FuncData) (ps:List Str) (sp:Sp):Prop where
 len:∀ vs H Q E,sp vs H Q E->vs.length=ps.length
 run:∀ (A:Around) (outer:List Env) (s:Shared) (H:Hp) (args:Args) (us:List Value) (vs:List V) (Q:VK) (E:XK),J3 k A->PB A (Dt outer) H s.heap->LJ P w K mg base A outer s H->BindsTo s fd args (ps.zip us)->Y5 vs us->sp vs H Q E ->
  codeAny (model P w) A (.call (.ref f) args) (CR CX outer P w H s Q E) s
section
variable{X:Cx}{k:Nat}{f:A2}{E:XK}{x m:Str}{p:Pos}{o:C3}
theorem ir{Q:VK}(F:KS X.prog X.w X.K X.mg X.base CX k f fd ps sp)(hr:J3 k X.A)(hk:QA X)(hb:Jy X.K fd ps ds)(hd:Y5 dvs ds)(hx:O3 CX X E)
  (I:F' X aa σ H s) (r:Y5 vs us) (h:sp (vs++dvs) H Q E):wpAny (model X.prog X.w) X.A (call (.ref f) us) (EP X aa σ Q) X.xe s:=by
 have r2:Y5 (vs++dvs) (us++ds):=r.append hd;have hl:(us++ds).length=ps.length:=by rw[<- r2.length];exact F.len _ _ _ _ h
 refine FK (FD (F.run X.A X.stack s H ⟨us,[]⟩ (us++ds) (vs++dvs) Q E hr (hk _ _ _ _ I) I.env0 (hb s us I.kIn hl) r2 h) λr s' hq=>?_);cases r with
 | error e=>exact hx aa σ H s e s' I hq
 | ok fl =>
  cases fl with
  | ret u=>exact I.after hq
  | next=>exact False.elim hq
  | brk=>exact False.elim hq
  | cont=>exact False.elim hq
theorem i3(F:KS X.prog X.w X.K X.mg X.base CX k f fd ps sp)(hr:J3 k X.A)(hh:QA X)(hg:Gl X x)(hm:X.mg x=some (.ref f))(hk:PySem.W.keepIn X.K (.ref f)=true)(hb:Jy X.K fd ps ds)(hd:Y5 dvs ds)(hx:O3 CX X E)
  (ha:PA X (e::es) t) (g:C2 x:=by decide) (he:Z0 X.env e es:=by rfl) (ag:Z1 pos X.env es:=by rfl) :
  PE X (.Call (.Name x p) (e::es) [] pos) (QU sp dvs E t):=by
 intro aa s σ H Q I h;refine CV (Uk I hg hm ?_ g);refine GN (h₀:=X.base) I.ok.mod.kin hk (Ws (ha pos aa s σ H _ I h) λus s1 ⟨vs,H1,I1,r,q⟩=>⟨I1.kIn,?_⟩) he ag;exact ir F hr hh hb hd hx I1 r q
end
noncomputable def D6(CX:Xp)(P:Fn)(w:Gf)(K:J1)(mg:KP)(base:H3)(N:Z Str)(ah:Str)(scope:IA)(f:A2)(cd:A1)(A:C0)(outer:Z I0)(s:A4)(H:Hp)(E:XK):Cx where
 prog:=P
 w:=w
 K:=K
 mg:=mg
 base:=base
 A:=A.deeper (envOfC ah scope s.heap.objs.size f cd)
 N:=N
 s₀:=s
 H₀:=H
 env:=envOfC ah scope s.heap.objs.size f cd
 outer:=outer
 stack:=envOfC ah scope s.heap.objs.size f cd::outer
 ex:=[]
 calm:=false
 fn:=λ_=>true
 pn:=[]
 xe:=λe s'=>wpAny (model P w) (A.deeper (envOfC ah scope s.heap.objs.size f cd)) (leaving (envOfC ah scope s.heap.objs.size f cd) e) (λ_ b=>CX outer H s E e b) (λe' b=>CX outer H s E e' b) s'
variable{f:A2}{Y:Cx}{g:TG}{Q:VK}
theorem mH{N:Z Str}{E:XK} 
  (S:FnScope N ps scope) (e0:LJ P w K mg base A outer s H) (hl:vs.length=ps.length) (r:Y5 vs us)
  (x:InCallC s s.heap.objs.size (bindL (envOfC ah scope s.heap.objs.size f cd).kindOf (ps.zip us) λ_=>none) (cellsFrom (s.heap.objs.size+1) scope.names []) (bindC (envOfC ah scope s.heap.objs.size f cd).kindOf (ps.zip us) λ_=>none) s1) :
  F' (D6 CX P w K mg base N ah scope f cd A outer s H E) [] (J' N vs) H s1:=by
 have ag:ps.length<=N.length:=by have:=DY List.length S.pre;rw[CP] at this;lia
 obtain⟨h1,tk,rfl,hk⟩:=x.done;have t:∀ b:A2,b∉(D6 CX P w K mg base N ah scope f cd A outer s H E).ex:=λb z=>absurd (show b∈([]:Z A2) from z) (by simp)
 refine⟨⟨e0.mod,S.kind,rfl,rfl,AU _,λy z c h1 h2=>?_,λy hy=>?_,λy c _ h=>?_,(λz=>nomatch z),HV e0.frames,.inr ⟨rfl,rfl⟩,λb z=>absurd z (t b),e0.bs,e0.bsz,λb _ _=>t b,λb z=>absurd z (t b),e0.funs,e0.frf⟩,
  rfl,e0.bare,Un.kept hk,⟨_,x.toInCall.ns,λi y v h1 h2 h3=>?_⟩,λy c h=>⟨_,x.cell y c h⟩,e0.hok.fresh (AU _),λy c h=>?_,λp hp=>absurd (show p∈([]:KL) from hp) (by simp),e0.hok.kept hk,?_⟩
 .exact name_of_addr x.apart (BG h1) (BG h2)
 .have hy:scope.names.lookup y=some .cell\/scope.names.lookup y=some .free:=hy
  rcases hy with hy | hy
  .exact Hz hy
  .exact absurd rfl (S.nofree _ (BG hy))
 .exact EJ (x.above y c (BG h))
 .have hi:i<vs.length:=by
   unfold J' at h2;by_cases hi:i<vs.length
   .exact hi
   .rw[BV (by simpa using hi)] at h2
    rw[EN] at h2;split at h2<;>cases h2
  have ha:vs[i]?=some v:=by
   unfold J' at h2;rw[BH (by simpa using hi),AL] at h2;cases e:vs[i]? with
   | none=>rw[e] at h2;cases h2
   | some a=>rw[e] at h2;cases h2;rfl
  obtain⟨u,C,rv⟩:=r.get ha;have hp:ps[i]?=some y:=by
   rw[<- S.pre,List.getElem?_take_of_lt (by lia)];exact h1
  have d:ps.Nodup:=by rw[<- S.pre];exact S.nd.sublist (List.take_sublist _ _)
  refine⟨u,rv,?_⟩;rcases S.par y (AD hp) with k | k
  .exact .inl ⟨k,Kz d hp C k⟩
  .obtain⟨c,e⟩:=Hz (n:=s.heap.objs.size+1) k
   refine .inr ⟨.inl k,c,e,?_⟩;have q:=x.cell y c e;rw[L4 d hp C (by show scope.names.lookup y≠_;rw[k];decide)] at q;exact q
 .exact e0.hok.fresh (EJ (x.above y c (BG h)))
 .unfold J'
  show _=N.length;rw[AN,AF,EI];lia
theorem hQ{k:Nat}{params:Arguments}{U kV:A1} 
  {j:Array (C1 A1)} {N ps:Z Str} {sp:Sp} (lk:K.lookup f=some ⟨oc,od,.func (PySem.W.fnOf name ah params body scope U kV ap pm an ai ct),j⟩) (ae:PySem.W.codeIn K ai ah=true) (S:FnScope N ps scope)
  (len:∀ vs H Q E,sp vs H Q E->vs.length=ps.length)
  (a:∀ (A:C0) (outer:Z I0) (s:A4) (H:Hp) (vs:Z V) (Q:VK) (E:XK),J3 k (A.deeper (envOfC ah scope s.heap.objs.size f ai))->PB A (Dt outer) H s.heap->sp vs H Q E ->
   ∃ t,Dq (D6 CX P w K mg base N ah scope f ai A outer s H E) body t/\t { nx:=λ_ H'=>Q .non H',rt:=Q } (J' N vs) H) :
  KS P w K mg base CX (k+1) f (PySem.W.fnOf name ah params body scope U kV ap pm an ai ct) ps sp:=by
 refine⟨len,λA outer s H args us vs Q E hr hk e0 hb r Y=>?_⟩;have hl:=len _ _ _ _ Y;have p:K.In s.heap:=e0.mod.kin.keeps λb o e=>(e0.bs b o e).1
 have d:s.heap.NoLimit:=e0.mod.nolimit.keeps λb o e=>(e0.bs b o e).1
 have c:∀ y∈ps.zip us,scope.names.lookup y.1=some .local\/(scope.names.lookup y.1=some .cell/\((cellsFrom (s.heap.objs.size+1) scope.names []).lookup y.1).isSome=true):=λ⟨n,v⟩ hy=>by
  rcases S.par n (IZ hy).1 with q | q
  .exact .inl q
  .exact .inr ⟨q,II _ _ _ (.inl q)⟩
 refine codeAny_call_function hr.depth (p _ _ lk) rfl S.co S.gen rfl (codeRec_of p ae) (hb _ _ _ _ ?_);refine wpAny_newFunctionEnv_cells S.kind c λenv he s1 x=>?_
 subst he;refine⟨d.keeps x.toInCall.keep,codeAny_func ?_⟩;obtain⟨t,ht,hq⟩:=a A outer s H vs Q E (hr.deeper _) hk Y;have I:F' (D6 CX P w K mg base N ah scope f ai A outer s H E) [] (J' N vs) H s1:=mH S e0 hl r x;refine BF (ht [] s1 (J' N vs) H _ I hq) (λfl s' hs=>?_) λe s' hs=>hs
 have B:∀ {σ':St} {H':Hp} {v:V} {u:A1},F' (D6 CX P w K mg base N ah scope f ai A outer s H E) [] σ' H' s'->Yr v u->Q v H'->CE outer P w H s Q u s' :=
  λ{σ' H' v u} J rv q=>⟨v,H',J.os,J.bare,J.base,J.hok,rv,q⟩
 cases fl with
 | ret u =>
  obtain⟨v,σ',H',J,rv,q⟩:=hs;exact B J rv q
 | next =>
  obtain⟨σ',H',J,q⟩:=hs;exact B (v:=V.non) (u:=Value.none) J rfl q
 | brk =>
  obtain⟨_,_,_,q⟩:=hs;exact False.elim q
 | cont =>
  obtain⟨_,_,_,q⟩:=hs;exact False.elim q
theorem KS.x{P:Fn}{w:Gf}{K:J1}{mg:KP}{base:H3}{CX:Xp}{k:Nat}{f:A2}{fd:D1}{ps:Z Str}{sp:Sp}(F:KS P w K mg base CX k f fd ps sp):KO P w K mg base CX k f fd ps sp :=
 ⟨F.len,λA outer s H args us vs Q E hr e0 hb r Y=>F.run A outer s H args us vs Q E hr.n (.inl hr.hd) e0 hb r Y⟩
section
variable{X:Cx}{N:Z Str}
theorem Rr(I:F' X aa σ H s)(hp:X.env.scope=psc)(S:CompOk psc sc X.N N fs):∀ y∈sc.names,y.2=.free->∃ c,X.env.cells.lookup y.1=some c:=λy hy e=>by
 refine I.ok.has y.1 ?_;have:=S.par y hy e;rw[<- hp] at this;exact this
theorem U5(I:F' X aa σ H s)(hp:X.env.scope=psc)(S:CompOk psc sc X.N N fs):∀ x c,(R8 X.env.cells sc.names []).lookup x=some c->X.env.cells.lookup x=some c :=
 Lj sc.names [] (Rr I hp S) λx c e=>by simp at e
theorem iL(I:F' X aa σ H s)(hp:X.env.scope=psc)(S:CompOk psc sc X.N N fs)(hf:∀ b∈fp,Sx X aa H b)(P:∀ b∈fp,b<s.heap.objs.size)(R:s.heap.objs.size<=C):(Wc X sc N C s H fp).Ok where
 mod:=I.ok.mod
 kind:=S.kind
 glob:=I.ok.glob
 blt:=I.ok.blt
 above:=R
 inj:=λx y c h1 h2=>I.ok.inj x y c (U5 I hp S x c h1) (U5 I hp S y c h2)
 has:=λx hx=>by
  have hm:(x,NameKind.free)∈sc.names:=by
   rcases hx with hx | hx
   .exact E4 S.nocell hx (.inl rfl)
   .exact E4 S.nocell hx (.inr rfl)
  exact DB.mp (Si sc.names [] x (.inl hm))
 cab:=λx c h _=>by cases h
 hd:=I.ok.hd
 frames:=I.ok.frames
 stk:=.inl rfl
 exf:=λb hb=>⟨BR (AO (P b hb) R),λx c e=>(hf b hb).2.2.2.2.1 x c (U5 I hp S x c e)⟩
 bs:=I.bs
 bsz:=BA I.ok.bsz I.sz
 noex:=λb o e hb=>by
  rcases(hf b hb).2.2.2.1 with z | z
  .exact I.ok.noex b o e z
  .exact absurd (AO (AQ e) (BA I.ok.bsz z)) (DF _)
 exfs:=λb hb hs=>by
  rcases BK.mp (I.stkSub b hs) with z | z
  .exact(hf b hb).2.1 z
  .exact(hf b hb).2.2.1 z
 funs:=I.stack
 frf:=I.stkFree
noncomputable def Ww(fs:Z (C1 Nat))(σ:St):St:=fs.map λo=>match o with | none=>none | some j=>(σ[j]?).getD none
theorem kH{h₁:H3}{D:A2}{T:Obj}{m₁:KP}(I:F' X aa σ H s)(hp:X.env.scope=psc)(S:CompOk psc sc X.N N fs)(hf:∀ b∈fp,Sx X aa H b)(P:∀ b∈fp,b<s.heap.objs.size)(R:s.heap.objs.size<=C)
  (old:∀ b o,s.heap.get? b=some o->h₁.get? b=some o) (hn:h₁.Ns C m₁) (y:h₁.get? D=some T) (h:s.heap.objs.size<=D) (aj:D≠C) (t:∀ v,T.data≠.cell v) :
  F' (Wc X sc N C s H fp) [(D,T)] (Ww fs σ) H { s with heap:=h₁,toks:=tk }:=by
 refine⟨iL I hp S hf P R,rfl,I.bare,Un.kept old,⟨m₁,hn,λi x v e1 e2 e3=>?_⟩,λx c e=>?_,I.hok.fresh R,λx c e=>I.freeC x c (U5 I hp S x c e),λp M=>?_,I.hok.kept old,?_⟩
 .unfold Ww at e2
  rw[AL] at e2;cases n:fs[i]? with
  | none=>rw[n] at e2;cases e2
  | some o =>
   rw[n] at e2;cases o with
   | none=>simp at e2
   | some j =>
    simp only[HW,GZ] at e2;obtain⟨d,ex,E,G⟩:=S.frees i j n;have:d=x:=by
     have q:N[i]?=some x:=e1;rw[ex] at q;exact BC q
    subst this;have ev:σ[j]?=some (some v):=by
     cases q:σ[j]? with
     | none=>rw[q] at e2;simp at e2
     | some z=>rw[q] at e2;simp at e2;rw[e2]
    have kk:X.env.scope.names.lookup d=some .cell\/X.env.scope.names.lookup d=some .free:=by
     rw[hp];exact S.par (d,.free) (BG G) rfl
    obtain⟨m,hm,hl⟩:=I.loc;obtain⟨u,r,l⟩:=hl j d v E ev (by
     rcases kk with k | k
     .exact .inr (.inl k)
     .exact .inr (.inr k))
    refine⟨u,r,.inr ⟨Fx G,?_⟩⟩;rcases l with⟨k,_⟩ | ⟨_,c,hc,a⟩
    .have k':X.env.scope.names.lookup d=some .local:=k
     rcases kk with z | z<;>rw[z] at k'<;>cases k'
    .obtain⟨g,F⟩:=DB.mp (Si (cells:=X.env.cells) sc.names [] d (.inl (BG G)))
     have:=U5 I hp S d g F;rw[hc] at this;cases this;obtain⟨oc,ho,hd⟩:=a;exact⟨c,F,oc,old _ _ ho,hd⟩
 .obtain⟨v,oc,ho,hd⟩:=I.cell x c (U5 I hp S x c e)
  exact⟨v,oc,old _ _ ho,hd⟩
 .have f:p=(D,T):=by
   rcases BO.mp M with z | z
   .exact absurd (show p∈([]:KL) from z) (by simp)
   .simpa using z
  subst f;refine⟨y,I.hok.fresh h,aj,λhs=>?_,t⟩;have hb:D∈X.env.locals::X.fs:=I.stkSub D hs;rcases BK.mp hb with z | z
  .exact absurd (AO I.lt (by rw[<- z];exact h)) (DF _)
  .exact I.nofs h z
 .show(Ww fs σ).length=N.length
  unfold Ww;rw[AF,S.len]
theorem Mx.adopt{D:A2}{n:Nat}(ok:Mx P w H h)(y:H D=none)(ho:h.get? D=some { cls:=.type "list",data:=.seq its.toArray n })(r:Y5 ys its)(hz:ys.length<=sizeLine) :
  Mx P w (W5 H D (.lst ys)) h:=λb u e=>by
 by_cases hb:b=D
 .subst hb
  rw[Zp] at e;cases e;exact⟨hz,its,n,r,ho⟩
 .rw[Zh hb] at e
  refine(ok b u e).stay (λc v _ q=>q) (λc q=>?_) λc xs q=>?_
  .rw[Zh (Y3 q y)];exact q
  .rw[Zh (Y3 q y)];exact q
theorem Un.adopt{fs:Z A2}{D:A2}{o:HO}(u:Un fs ex H H' h h')(y:h.objs.size<=D)(hn:H' D=none):Un fs ex H (W5 H' D o) h h' where
 keep:=u.keep
 slot:=u.slot
 free:=λb ob q n hx=>by rw[Zh (BR (AO (AQ q) y))];exact u.free b ob q n hx
 there:=u.there
 tups:=λb xs q=>by rw[Zh (Y3 (u.tups b xs q) hn)];exact u.tups b xs q
 frzs:=λb ob x q=>by rw[Zh (Y3 (u.frzs b ob x q) hn)];exact u.frzs b ob x q
 tbls:=λb ps q=>by
  obtain⟨f,e⟩:=u.tbls b ps q;exact⟨f,by rw[Zh (Y3 e hn)];exact e⟩
noncomputable def ND(Y:Cx)(aq:Z C3)(tt:TT):Prop :=
 ∀ (aa:KL) (s:A4) (σ:St) (H:Hp) (Q:Bool->Hp->Prop),F' Y aa σ H s->tt σ H Q ->
  wpAny (model Y.prog Y.w) Y.A (forIn aq true λc r=>if r=true then do let ok <- isTrue c Y.env (eval c Y.env);pure (ForInStep.yield ok) else pure (ForInStep.yield r)) (TP Y aa σ Q) Y.xe s
noncomputable def fE:TT:=λ_ H Q=>Q true H
theorem lr:ND Y [] fE:=λ_ _ _ H _ I h=>wpAny_tests_nil ⟨H,I,h⟩
theorem jp{c:C3}(h:PT Y c tc):ND Y [c] tc:=λaa s σ H Q I q=>wpAny_tests_one (h aa s σ H Q I q)
noncomputable def RD(σ σ2:St):Prop:=σ.length=σ2.length/\∀ (i:Nat) v,σ[i]?=some (some v)->σ2[i]?=some (some v)
noncomputable def ZZ(wi:TI)(fs:Z (C1 Nat))(g:TG)(tt:TT)(te:TE):TE:=λσ H Q=>wi σ H λJ H1=>∃ W:Nat->Nat->Z V->Hp->Prop,(∃ m,W 0 m [] H1)/\∀ i m ys H,W i m ys H ->
 (J.stop i H/\ys.length<=sizeLine/\∀ p,H p=none->Q (.ref p) (W5 H p (.lst ys))) \/
 (J.go i H/\ys.length<=sizeLine/\∃ N:Z V->Hp->Prop,(∀ F H',N F H'->∃ m',m'<m/\W (i+1) m' F H')/\∀ x H',J.yld i H x H'->g x (Ww fs σ) H' λσ2 H2=>RD (Ww fs σ) σ2 /\
  tt σ2 H2 λb G=>if b=true then te σ2 G λv H4=>N (ys++[v]) H4 else N ys G)
theorem LY.k(k:LY X)(I:F' X aa σ H s):PB X.A (Dt X.stack) H s.heap:=k.1.imp id λM=>by
 obtain⟨e,oe,ve,h1,h2,h3,h4,F⟩:=M;have d:OI H ve[2]?:=h4.imp id λzz=>by obtain⟨e2,o2,v2,a,b,c⟩:=zz;exact⟨e2,o2,v2,a,I.base.frzs _ _ _ b,c⟩
 have hx:e∉X.ex:=by rw[k.2];simp
 rcases F with⟨W,z2⟩ | ⟨u,z⟩
 .refine⟨e,oe,ve,h1,I.base.keep e oe h2 W z2 hx,h3,d,.inl ⟨I.base.free e oe h2 W hx,λz=>?_⟩⟩
  rcases BK.mp (I.stkSub e z) with y | y
  .exact absurd (AQ h2) (by rw[y];exact EQ.mpr I.ok.above)
  .exact z2 y
 .have D:=I.base.frzs e oe u z
  exact⟨e,oe,ve,h1,(show We X.prog X.w H s.heap e (.frz oe u) from I.hok e _ D).1,h3,d,.inr ⟨u,D⟩⟩
theorem LY.comp(k:LY X)(I:F' X aa σ H s)(hf:∀ b∈fp,Sx X aa H b):MT (Wc X sc N C s H fp):=λpins' σ' H' s' G=>bG (k.k I) (λe o q n hh hm=>by
 have hh:X.A.handled=some (.ref e):=hh;have hm:e∈fp:=hm;rcases k.1 with z | ⟨e',oe,ve,h1,h2,_⟩
 .rw[z] at hh;cases hh
 .rw[h1] at hh;cases hh
  rcases(hf _ hm).2.2.2.1 with y | y
  .rw[k.2] at y;simp at y
  .exact absurd (AQ h2) (EQ.mpr y)) G.base G.hok
theorem XN{J:It}{RR:A1->A2->Result->A4->Prop}
  (hp:X.env.scope=psc) (S:CompOk psc sc X.N N fs) (hc:X.calm=true\/(bb=true/\LY X))
  (hb:∀ (C:A2) (s:A4) (H:Hp) (fp:Z A2),PG (Wc X sc N C s H fp) tg g/\ND (Wc X sc N C s H fp) aq tt/\PE (Wc X sc N C s H fp) aw te)
  (I:F' X aa σ H s) (T:LI bb X.prog X.w X.K tg J fp it tn) (st:tn 0 s.heap) (hf:∀ b∈fp,Sx X aa H b) {Q:VK}
  (hW:∃ W:Nat->Nat->Z V->Hp->Prop,(∃ m,W 0 m [] H)/\∀ i m ys H,W i m ys H ->
   (J.stop i H/\ys.length<=sizeLine/\∀ p,H p=none->Q (.ref p) (W5 H p (.lst ys))) \/
   (J.go i H/\ys.length<=sizeLine/\∃ N:Z V->Hp->Prop,(∀ F H',N F H'->∃ m',m'<m/\W (i+1) m' F H')/\∀ x H',J.yld i H x H'->g x (Ww fs σ) H' λσ2 H2=>RD (Ww fs σ) σ2 /\
    tt σ2 H2 λb G=>if b=true then te σ2 G λv H4=>N (ys++[v]) H4 else N ys G))
  (aF:∀ (D C:A2) (s':A4) (H':Hp),(∃ m,s'.heap.Ns C m)->F' X aa σ H' s'->Sx X aa H' C->Q (.ref D) H'->RR (.ref D) C (.ok .next) s') :
  wpAny (model X.prog X.w) X.A (newList []) (λl s₃=>wpAny (model X.prog X.w) X.A (newFunctionEnv sc X.env.globals (R8 X.env.cells sc.names []) [] X.env.qual none .none (some X.env)) (λam s₄ =>
   codeAny (model X.prog X.w) X.A (.compStart (.ListComp aw [⟨tg,iter,aq,0⟩] sc pos) 0 (.ref it) l { am with scope:=relabel sc X.env }) (RR l am.locals) s₄) E s₃) E s:=by
 refine CJ (wpAny_newFunctionEnv S.nocell (by intro y hy;simp at hy) (λh₁ hns₁ hsb₁=>?_) S.kind);dsimp only at hns₁ hsb₁ ⊢;generalize au:s.heap.push { cls:=.type "list",dict:=none,data:=.seq ([]:Z A1).toArray }=G2 at hns₁ hsb₁ ⊢;have R:G2.objs.size=s.heap.objs.size+1:=by rw[<- au,ER]
 have aj:s.heap.objs.size≠G2.objs.size:=by rw[R];exact BR (GK _)
 have ao:s.heap.objs.size<=G2.objs.size:=by rw[R];exact DO _
 have f:∀ b,b<s.heap.objs.size->b≠G2.objs.size/\b≠s.heap.objs.size:=λb hb=>⟨by rw[R];exact BR (Nat.lt_succ_of_lt hb),BR hb⟩
 have P:∀ b∈fp,b<s.heap.objs.size:=λb hb=>by
  obtain⟨o,e,_⟩:=T.obj _ _ st b hb;exact AQ e
 have old:∀ b o,s.heap.get? b=some o->h₁.get? b=some o:=λb o e=>hsb₁.extBut b o (f b (AQ e)).1 (AE _ (au▸AE _ e))
 have M:h₁.get? s.heap.objs.size=some { cls:=.type "list",data:=.seq ([]:Z A1).toArray 0 }:=hsb₁.extBut _ _ aj (AE _ (au▸AY _ rfl));have h:tn 0 h₁:=T.keep _ _ _ st λb _ o e=>old b o e
 obtain⟨W,⟨m0,w0⟩,B⟩:=hW;obtain⟨pg,ay,pe⟩:=hb G2.objs.size s H fp;generalize t:Wc X sc N G2.objs.size s H fp=Y at pg ay pe;have Ye:Y.env=compEnvC sc (R8 X.env.cells sc.names []) G2.objs.size X.env:=by rw[<- t];rfl
 have YA:Y.A=X.A:=by rw[<- t];rfl
 have Yp:Y.prog=X.prog:=by rw[<- t];rfl
 have Yw:Y.w=X.w:=by rw[<- t];rfl
 have YK:Y.K=X.K:=by rw[<- t];rfl
 have Yx:Y.xe=λ_ _=>False:=by rw[<- t];rfl
 have Yc:Cm bb Y:=by
  rw[<- t];rcases hc with hc | ⟨hb,hq⟩
  .cases bb with
   | false=>exact hc
   | true=>exact MT.calm hc
  .subst hb
   exact hq.comp I hf
 have ax:∀ x c,X.env.cells.lookup x=some c->c<s.heap.objs.size:=λx c e=>by
  obtain⟨v,q⟩:=I.cell x c e;exact q.lt
 have ak:∀ s₃:A4,s₃={ s with heap:=h₁,toks:=s.toks+([]:Z (Str×A1)).length } ->
   codeAny (model X.prog X.w) X.A (.compLoop (.ListComp aw [⟨tg,iter,aq,0⟩] sc pos) 0 (.ref it) (.ref s.heap.objs.size) (compEnvC sc (R8 X.env.cells sc.names []) G2.objs.size X.env)) (RR (.ref s.heap.objs.size) G2.objs.size) s₃:=by
  rintro s₃ rfl;refine iu (λn s'=>∃ (i:Nat) (H':Hp) (ys:Z V) (its:Z A1) (k:Nat),Y5 ys its/\F' Y [(s.heap.objs.size,{ cls:=.type "list",data:=.seq its.toArray k })] (Ww fs σ) H' s'/\tn i s'.heap/\(∀ b∈fp,H' b=none)/\W i n ys H') ?_ m0
   ⟨0,H,[],[],0,.nil,t▸kH (D:=s.heap.objs.size) I hp S hf P ao old hns₁ M (AU _) aj (λv z=>by cases z),h,λb hb=>(hf b hb).1,w0⟩
  rintro n s1 ⟨i,H1,ys,its,k,rv,I1,j,az,w1⟩;have ac:∀ {H':Hp} {pl:KL},(∀ b∈fp,H' b=none)->(∀ p∈pl,p.1=s.heap.objs.size)->∀ b∈fp,Sx Y pl H' b:=λ{H' pl} hn ag b hb=>by
   rw[<- t];refine⟨hn b hb,(f b (P b hb)).1,λz=>?_,.inl hb,λx c e=>(hf b hb).2.2.2.2.1 x c (U5 I hp S x c e),λp af=>?_⟩
   .rcases BK.mp (I.stkSub b z) with z | z
    .exact(hf b hb).2.1 z
    .exact(hf b hb).2.2.1 z
   .have aA:p∈pl:=by
     rcases BO.mp af with z | z
     .exact absurd (show p∈([]:KL) from z) (by simp)
     .exact z
    rw[ag p aA];exact AR (f b (P b hb)).2
  have one:∀ {o:Obj} (p:A2×Obj),p∈([(s.heap.objs.size,o)]:KL)->p.1=s.heap.objs.size:=λ{o} p af=>by
   have:p=_:=AJ.mp af;rw[this]
  rcases B i n ys H1 w1 with⟨stop,hz,qn⟩ | ⟨go,hz,N',hN,step⟩
  .have:=T.done Y Yp Yw YK Yc i _ s1 _ H1 (λ_ _=>False) I1 (ac az one) j stop
   rw[YA] at this;refine Ws this λr s4 ⟨hr,I4⟩=>?_
   subst hr;have Ib:=I4.base;have a:=I4.pin (s.heap.objs.size,_) (BD _ AX);obtain⟨mC,aB,_⟩:=I4.loc;have e1:Y.fs=Dt X.stack:=by rw[<- t];rfl
   have e2:Y.ex=fp:=by rw[<- t];rfl
   have e3:Y.H₀=H:=by rw[<- t];rfl
   have e4:Y.s₀=s:=by rw[<- t];rfl
   have e5:Y.env.locals=G2.objs.size:=by rw[<- t];rfl
   rw[e1,e2,e3,e4] at Ib;rw[e5] at aB;have aC:Mx X.prog X.w H1 s4.heap:=by
    have:=I4.hok;rw[Yp,Yw] at this;exact this
   have freeC:H1 G2.objs.size=none:=by have:=I4.free;rw[e5] at this;exact this
   have al:W5 H1 s.heap.objs.size (.lst ys) G2.objs.size=none:=by rw[Zh (AR aj)];exact freeC
   have aG:s4.os=s.os:=by have:=I4.os;rw[e4] at this;exact this
   refine aF _ _ s4 (W5 H1 s.heap.objs.size (.lst ys)) ⟨mC,aB⟩ ?_ (I.fpOk ao al) (qn _ a.2.1);exact I.call' (s':=s4) (ch:=fp) aG (Ib.adopt (AU _) a.2.1) (aC.adopt a.2.1 a.1 rv hz) I4.bare λb hb=>⟨(hf b hb).2.2.2.1,(hf b hb).2.1,(hf b hb).2.2.2.2.1,(hf b hb).2.2.2.2.2⟩
  .have:=T.item Y Yp Yw YK Yc i _ s1 _ H1 (λ_ _=>False) I1 (ac az one) j go
   rw[YA] at this;refine Ws this λr s4 ⟨u,hr,h4⟩=>?_
   subst hr;refine Ws h4 λ_ s5 zz=>?_;obtain⟨x,H5,I5,r5,y5,ai,ap⟩:=zz
   have ar:=I5.pinned (ac ap one) (T.obj _ _ ai);have a1:=pg _ s5 _ H5 x u _ ar r5 (step x H5 y5);rw[YA,Yp,Yw,Yx,Ye] at a1;refine Ws a1 λ_ s6 zz=>?_;obtain⟨σ6,H6,I6,ext,q6⟩:=zz
   have a2:=ay _ s6 σ6 H6 _ I6 q6;rw[YA,Yp,Yw,Yx,Ye] at a2;refine Ws a2 λb s7 ⟨H7,I7,q7⟩=>?_
   have ae:∀ {H8:Hp} {s8:A4},F' Y ([(s.heap.objs.size,({ cls:=.type "list",data:=.seq its.toArray k }:Obj))]++O5 fp s5.heap) σ6 H8 s8->F' Y [(s.heap.objs.size,{ cls:=.type "list",data:=.seq its.toArray k })] (Ww fs σ) H8 s8/\tn (i+1) s8.heap/\∀ b∈fp,H8 b=none:=λ{H8 s8} I8 =>
    ⟨I8.unpinned.weak ext.1 ext.2,T.keep _ _ _ ai λb hb o e=>(I8.pin (b,o) (BD _ (BD _ (Rf hb e)))).1,λb hb=>by
     obtain⟨o,e,d⟩:=T.obj _ _ ai b hb;exact(I8.pin (b,o) (BD _ (BD _ (Rf hb e)))).2.1⟩
   cases b with
   | false =>
    rw[AM CU] at q7 ⊢;obtain⟨m',hm,w7⟩:=hN _ _ q7;obtain⟨aH,aI,aJ⟩:=ae I7;exact⟨m',hm,i+1,H7,ys,its,k,rv,aH,aI,aJ,w7⟩
   | true =>
    rw[AH rfl] at q7 ⊢;have a3:=pe _ s7 σ6 H7 _ I7 q7;rw[YA,Yp,Yw,Yx,Ye] at a3;refine Ws a3 λy s8 zz=>?_;obtain⟨v,H8,I8,r8,q8⟩:=zz
    obtain⟨m',hm,w8⟩:=hN _ _ q8;obtain⟨aD,aK,aL⟩:=ae I8;have a:=aD.pin (s.heap.objs.size,_) (BD _ AX);refine append_at (hsz:=by show its.toArray.size<=sizeLine;rw[AV,<- rv.length];exact hz) a.1 λh9 aE aM=>?_
    have e5:Y.env.locals=G2.objs.size:=by rw[<- t];rfl
    have I9:F' Y [] (Ww fs σ) H8 { s8 with heap:=h9 }:=by
     have J0:F' Y [] (Ww fs σ) H8 s8:=aD.pins_of λp hp=>absurd hp (by simp)
     refine J0.turned (t':=s8.toks) (it:=s.heap.objs.size) (λb o hb e=>aE.extBut b o hb e) a.2.1 (by rw[e5];exact aj) (.inr ?_) (λx c e=>?_) λp hp=>?_
     .rw[<- t];exact AU _
     .rw[<- t] at e
      exact BR (ax x c (U5 I hp S x c e))
     .rw[<- t] at hp
      exact absurd (show p∈([]:KL) from hp) (by simp)
    refine⟨m',hm,i+1,H8,ys++[v],its++[y],k+1,rv.append (.cons r8 .nil),I9.pins_of λp hp=>?_,T.keep _ _ _ aK λb hb o e=>aE.extBut b o (f b (P b hb)).2 e,aL,w8⟩;have:p=_:=AJ.mp hp;subst this;refine⟨?_,a.2.1,a.2.2.1,a.2.2.2.1,λv z=>by cases z⟩;have e9:its.toArray.push y=(its++[y]).toArray:=by simp
    rw[<- e9];exact aM
 exact codeAny_compStart_list (ak _ rfl) (T.self _ 0 _ _ _ h (ak _ rfl))
theorem F'.letGo{H':Hp}(I:F' X aa σ H s)(f:Sx X aa H C)(hs:SameBut C s.heap h'):F' X aa σ H { s with heap:=h' }:=by
 obtain⟨f0,f1,f2,f3,l,g⟩:=f;exact I.turned (t':=s.toks) (λb o hb e=>hs.extBut b o hb e) f0 f1 f3 l g
theorem dD(psc:IA)(fs:Z (C1 Nat))(N:Z Str)(hp:X.env.scope=psc)(S:CompOk psc sc X.N N fs)(hc:X.calm=true\/(bb=true/\LY X))(hi:MQ bb X tg iter wi)
  (hb:∀ (C:A2) (s:A4) (H:Hp) (fp:Z A2),PG (Wc X sc N C s H fp) tg g/\ND (Wc X sc N C s H fp) aq tt/\PE (Wc X sc N C s H fp) aw te)
  (hs:∀ x,foldedSetIterable iter X.env x=pure x:=by intro _;rfl):PE X (.ListComp aw [⟨tg,iter,aq,0⟩] sc pos) (ZZ wi fs g tt te):=by
 intro aa s σ H Q I h;rw[eval_ListComp];refine wpAny_comprehension_free (use:=none) rfl hs (Gg (Rr I hp S)) S.kind S.loc (Ws (hi aa s σ H _ I h) λxv s₁ h₁=>Ws h₁ λc s₂ h₂=>?_);obtain⟨it,fp,tn,J,H2,e,I2,T,F,f2,hW⟩:=h₂;subst e;refine XN (RR:=λl C=>compPost (model X.prog X.w) X.A X.xe none (EP X aa σ Q) l C) hp S hc hb I2 T F f2 hW ?_;intro D C s' H' ⟨m,hm⟩ G f q;exact⟨m,hm,λh' d=>⟨.ref D,H',G.letGo (H':=H') f d,rfl,q⟩⟩
theorem Ea{x:Str}(hN:X.N.Nodup)(aj:X.N[i]?=some x)(hx:LL X.env.scope x)(psc:IA)(fs:Z (C1 Nat))(N:Z Str)(hp:X.env.scope=psc)(S:CompOk psc sc X.N N fs)(hc:X.calm=true)(hi:PI X tg iter wi)
  (hb:∀ (C:A2) (s:A4) (H:Hp) (fp:Z A2),PG (Wc X sc N C s H fp) tg g/\ND (Wc X sc N C s H fp) aq tt/\PE (Wc X sc N C s H fp) aw te)
  (hs:∀ x,foldedSetIterable iter X.env x=pure x:=by intro _;rfl) (am:swapsWith (.ListComp aw [⟨tg,iter,aq,0⟩] sc pos) (some (.Name x al)) ax.line X.env=pure true:=by rfl)
  (hf:X.fn x=true\/X.env.scope.names.lookup x=some .local:=by ext) :
  PS X (.Assign [.Name x al] (.ListComp aw [⟨tg,iter,aq,0⟩] sc pos) ax) (SK (ZZ wi fs g tt te) (RV i)):=by
 intro aa s σ H D I h;rw[exec_Assign_Name_used _ _ _ _ am];refine AA (CY (AA ?_));show wpAny _ X.A (do let _ <- comprehension (.ListComp aw [⟨tg,iter,aq,0⟩] sc pos) sc X.env _ (newList []) false (eval iter X.env) (some (assign (.Name x al) X.env))) _ _ s;refine AA (BF (wpAny_comprehension_free (use:=some (assign (.Name x al) X.env)) (Q:=λ_ s'=>SP X aa D .next s') rfl hs (Gg (Rr I hp S)) S.kind S.loc
  (Ws (hi aa s σ H _ I h) λxv s₁ h₁=>Ws h₁ λc s₂ h₂=>?_)) (λ_ s' hq=>AI (AI hq)) λ_ _ e=>e)
 obtain⟨it,fp,tn,J,H2,e,I2,T,F,f2,hW⟩:=h₂;subst e;refine XN (Q:=λv H'=>RV i v σ H' D.nx) (RR:=λl C=>compPost (model X.prog X.w) X.A X.xe (some (assign (.Name x al) X.env)) (λ_ s'=>SP X aa D .next s') l C) hp S (.inl hc) hb I2 T F f2 hW ?_;intro Lq_ C s' H' ⟨m,hm⟩ G f q;refine wpAny_assign_Name (F3 G hN aj hx (show Yr (V.ref Lq_) (Value.ref Lq_) from rfl) (λb j ⟨a,E,ha⟩=>?_) hf);have k:C≠a:=by
  rintro rfl;rcases ha with z | z
  .exact f.2.1 z
  .exact f.2.2.2.2.1 x _ z rfl
 refine⟨m,hm.sameBut E k,λh' d=>⟨_,H',j.letGo (H':=H') f d,q⟩⟩
end
section
variable{t u:TS}{a b c:St->Hp->Prop}{r:VK}{td:TT}
end
section
variable{X:Cx}
noncomputable def dz(K:J1):Z V->Hp->VK->Prop:=λxs H Q=>(∃ p ys,xs=[.ref p]/\(Dc K H p ys\/Dr K H p ys)/\(ys.length<=sizeLine->Q (.int ys.length) H))\/∃ z,xs=[.str z]/\z.length<=sizeLine/\Q (.int z.length) H
theorem lS:U4 X (.builtin "len") (dz X.K):=by
 intro aa s σ H xs us Q I r h;rcases h with⟨p,ys,e,hq,q⟩ | h
 .refine Bj aa s σ H xs us Q I r ⟨p,ys,e,hq,q ?_⟩
  rcases hq with hq | hq
  .exact(I.list hq).choose_spec.2.2
  .exact(I.tuple hq).choose_spec.2.2
 .exact Ah aa s σ H xs us Q I r h
theorem PI.or{w1 w2:TI}(h1:PI X tg iter w1)(h2:PI X tg iter w2):PI X tg iter (λσ H R=>w1 σ H R\/w2 σ H R):=by
 intro aa s σ H R I h;rcases h with h | h
 .exact h1 aa s σ H R I h
 .exact h2 aa s σ H R I h
noncomputable def hu(K:J1)(tl:TE):TI:=λσ H R=>VO K tl σ H R\/cH K tl σ H R
theorem X'{l:C3}(hl:PE X l tl):PI X tg l (hu X.K tl):=(eM hl).or (hU hl)
end
section
variable{ta:TA}{tb:TS}{D:KR}{a b c:St->Hp->Prop}{r:VK}
end
variable{k:Nat}
structure NU (K:J1) (mg:KP) (x:Str) (st:Stmt):Prop where
 ex:∃ f fd,LM K x x st f fd/\mg x=some (.ref f)
structure UM (P:Program) (w:World) (K:J1) (mg:KP) (base:Heap) (k:Nat) (x:Str) (ps:List Str) (sp:Sp):Prop where
 ex:∃ f fd,KO P w K mg base Ec k f fd ps sp/\mg x=some (.ref f)/\PySem.W.keepIn K (.ref f)=true/\Jy K fd ps []
noncomputable def YL(sp:Sp)(t:TA):TE:=λσ H Q=>t σ H λvs H1=>sp vs H1 Q E0
theorem lM{X:Cx}{x:Str}{p:Pos}(C:UM X.prog X.w X.K X.mg X.base k x ps sp)(hr:I' k X.A)(ha:PA X (e::es) t)(hg:Gl X x:=by rfl)
  (g:C2 x:=by decide) (he:Z0 X.env e es:=by rfl) (ag:Z1 pos X.env es:=by rfl) :
  PE X (.Call (.Name x p) (e::es) [] pos) (YL sp t):=by
 obtain⟨f,fd,F,hm,hk,hb⟩:=C.ex;have:=gB (dvs:=[]) (ds:=[]) (E:=E0) F hr hg hm hk hb .nil ZV ha g he ag (p:=p);intro aa s σ H Q I h;refine this aa s σ H Q I ?_;unfold QU;simp only[FJ];exact h
noncomputable abbrev dV(x:PySem.Str)(st:PySem.Stmt)(ps:List PySem.Str):Prop:=∀ (kV ap pm:A1) (an:C1 A2) (ai ct:A1) (us:Z A1),us.length=ps.length->bindArgs (PySem.W.fnOf x x (Vs st) (Yn st) (Z9 st) .none kV ap pm an ai ct) ⟨us,[]⟩=pure (ps.zip us)
theorem lG{x:Str}{st:Df}{N:Z Str}(D:NU K mg x st)(S:FnScope N ps (Z9 st))
  (j:dV x st ps)
  (len:∀ vs H Q E,sp vs H Q E->vs.length=ps.length)
  (a:∀ (f:A2) (ai:A1) (A:C0) (outer:Z I0) (s:A4) (H:Hp) (vs:Z V) (Q:VK) (E:XK),I' k (A.deeper (envOfC x (Z9 st) s.heap.objs.size f ai))->sp vs H Q E ->
   ∃ t,Dq (Qf Ec P w K mg base N x (Z9 st) f ai A outer s H E).nox (Yn st) t/\t (KR.mk (λ_ H'=>Q .non H') Q (λ_ _=>False) (λ_ _=>False)) (J' N vs) H):UM P w K mg base (k+1) x ps sp:=by
 obtain⟨f,fd,F,hm⟩:=D.ex;exact⟨f,fd,F.ok S len (λai A outer s H vs Q E hr h=>a f ai A outer s H vs Q E hr h),hm,F.kp,F.binds j⟩
theorem Zr.new{o:HO}(h:H l=none):Zr H (W5 H l o):=λb u e=>by rw[Zh (Y3 e h)];exact e
theorem Zr.seqT{a:A2}(e:Zr H H')(h:Dr K H a xs):Dr K H' a xs:=by
 rcases h with h | h
 .exact .inl (e _ _ h)
 .exact .inr h
section
variable{X:Cx}
noncomputable def ZI:V->C1 Int->C1 Int->Hp->VK->Prop:=λx lo hi H Q=>∃ z,x=.str z/\z.length<=sizeLine/\Q (.str (Txt.slice z lo hi)) H
theorem hE:LR X ZI:=by
 intro aa s σ H x v vl vu lo hi sl Q I S hs pl c h;obtain⟨z,rfl,hz,q⟩:=h;obtain⟨t,rfl⟩:=S;have B:∀ t' k,EP X aa σ Q (.str (Txt.slice z lo hi) t') { s with toks:=k }:=λt' k=>⟨.str (Txt.slice z lo hi),H,I.tok _,⟨_,rfl⟩,q⟩
 refine⟨"str",_,F.slot_str_getitem.lookup,typeIs_str _ _ _,?_⟩;cases pl with
 | none =>
  cases c with
  | none=>exact FF (l:=none) (u:=none) (st:=none) hs rfl (HX ⟨BA (GP z _ _) hz,B⟩)
  | int j a=>exact FF (l:=none) (u:=some (j,a)) (st:=none) hs rfl (HX ⟨BA (GP z _ _) hz,B⟩)
 | int i d =>
  cases c with
  | none=>exact FF (l:=some (i,d)) (u:=none) (st:=none) hs rfl (HX ⟨BA (GP z _ _) hz,B⟩)
  | int j a=>exact FF (l:=some (i,d)) (u:=some (j,a)) (st:=none) hs rfl (HX ⟨BA (GP z _ _) hz,B⟩)
noncomputable def ie(K:J1):V->C1 Int->C1 Int->Hp->VK->Prop:=λx lo hi H Q=>XM K x lo hi H Q\/WE K x lo hi H Q\/ZI x lo hi H Q
theorem jR:LR X (ie X.K):=lZ.or (kj.or hE)
theorem Hl:∀ {us:Z A1},IntsAre us ns->Y5 (ns.map V.int) us:=by
 intro us h;induction h with
 | nil=>exact .nil
 | cons n t h ih=>exact .cons ⟨t,rfl⟩ ih
noncomputable def j4(K:J1):Z V->Hp->VK->Prop:=λxs H Q=>∃ p ns,xs=[.ref p]/\Dc K H p (ns.map V.int)/\ns.length<64 /\
 ∀ (c:Z Int) (l:A2),c.Perm ns->c.Pairwise (·<=·)->H l=none->Q (.ref l) (W5 H l (.lst (c.map V.int)))
theorem B0:U4 X (.builtin "sorted") (j4 X.K):=by
 intro aa s σ H xs us Q I r h;obtain⟨p,ns,rfl,hq,a,q⟩:=h;obtain⟨u,rfl,S⟩:=Ji r;cases S;obtain⟨its,r',pl,hz⟩:=I.list hq;have ac:=r'.length;rw[AF] at ac;refine sorted_ints pl.isList (P7 r') (by lia) λay c h1 h2 h3=>?_
 obtain⟨e,he⟩:=sortedAll_at s.heap its ay;have hl:c.length=ns.length:=h2.length_eq;refine⟨.ref (s.heap.objs.size+1),W5 H (s.heap.objs.size+1) (.lst (c.map V.int)),I.laid (t':=s.toks) (λb o q=>sortedAll_old q) (DO _) ?_,rfl,q c _ h2 h3 (I.hok.fresh (DO _))⟩;refine⟨by rw[AF] at hz ⊢;lia,ay.toList,e,Hl h1,?_⟩;rw[he]
theorem ey{bs:Z Bool}(r:Y5 (bs.map V.bl) its):TruthOf X.prog X.w A (λi v=>its.toArray[i]?=some v) (λi=>bs.getD i false):=by
 intro i v s Q E hv h;have a:its[i]?=some v:=by simpa using hv
 have hi:i<its.length:=(AC.mp a).1;have hl:=r.length;rw[AF] at hl;have hb:(bs.map V.bl)[i]?=some (V.bl (bs[i]'(by lia))):=by simp[show i<bs.length by lia]
 obtain⟨u,C,M⟩:=r.get hb;rw[a] at C;cases C;cases M;have:bs.getD i false=bs[i]'(by lia):=by simp[List.getD,show i<bs.length by lia]
 have h':Q (bs.getD i false) s:=h;rw[this] at h';exact EW h'
theorem eC(bs:Z Bool):(List.range bs.length).all (λi=>bs.getD i false)=bs.all id:=by
 induction bs with
 | nil=>rfl
 | cons b bs ih =>
  rw[BJ,List.range_succ_eq_map,all_cons,List.all_map,all_cons];have:(λi=>(b::bs).getD i false) ∘ Nat.succ=λi=>bs.getD i false:=by funext i;rfl
  rw[this,ih];rfl
noncomputable def mr(K:J1):Z V->Hp->VK->Prop:=λxs H Q=>∃ (p:A2) (bs:Z Bool),xs=[.ref p]/\Dc K H p (bs.map V.bl)/\Q (.bl (bs.all id)) H
theorem c3(hc:X.calm=true):U4 X (.builtin "all") (mr X.K):=by
 intro aa s σ H xs us Q I r h;obtain⟨p,bs,rfl,hq,q⟩:=h;obtain⟨u,rfl,S⟩:=Ji r;cases S;obtain⟨its,r',pl,hz⟩:=I.list hq;have hl:=pl.isList;have ai:p<s.heap.objs.size:=by obtain⟨o,e,_⟩:=hl;exact AQ e
 have ac:=r'.length;rw[AF] at ac;refine call_all_walk (IV hl ⟨s.heap.objs.size,_,_,_,_,_,λi=>bs.getD i false,rfl,Walks.list (A:=X.A.in1) (I.ok.hd hc) s.heap.objs.size p (BR ai) its.toArray,⟨⟨_,AY _ rfl,rfl,rfl⟩,hl.push _⟩,ey r',λh' tk hk=>?_⟩);have e:(List.range its.toArray.size).all (λi=>bs.getD i false)=bs.all id:=by rw[AV,<- ac];exact eC bs
 rw[e];exact⟨.bl _,H,I.kept (h':=h') (t':=tk) (λb o e=>hk b o (by simpa using BR (AQ e)) (AE _ e)),rfl,q⟩
noncomputable def SE(z:Str):It:=⟨λi _=>i<z.length,λi H x H'=>H'=H/\∃ c,z.cps[i]?=some c/\x=.str ⟨#[c]⟩,λi _=>i=z.length⟩
theorem bB(it:A2)(z:Str)(t:Tok)(ty:String)(n:["enumerate","zip","dict_itemiterator","dict_reverseitemiterator","odict_iterator","itertools.zip_longest","itertools.pairwise"].contains ty=false)
  (W:∀ A':C0,A'.handled=none->Walks P w A' it [it] [it] z.cps.size (SignAt z) (λi h=>h.IsStrIter it ty z t i))
  (S:∀ (A:C0) (i:Nat) (s:A4) (Q:KN) (E:KN),s.heap.IsStrIter it ty z t i->Q (.ref it) s->wpAny (model P w) A (pyIter (.ref it)) Q E s):OF P w K tg (SE z) [it] it (λi h=>h.IsStrIter it ty z t i) where
 mem:=by simp
 obj:=λi h st b hb=>by
  have e:b=it:=by simpa using hb
  subst e;obtain⟨o,e,c,d⟩:=st;exact⟨o,e,λv z=>by rw[d] at z;cases z⟩
 keep:=λi h h' st k=>by
  obtain⟨o,e,r⟩:=st;exact⟨o,k it (by simp) o e,r⟩
 item:=by
  intro X m J hK hc i aa s σ H E I hf st hg;subst m J hK;obtain⟨f0,f1,f2,f3,l,g⟩:=hf it (by simp);refine(W X.A (I.ok.hd hc)).item i s _ _ (show i<z.cps.size from hg) st λv h' tk hv j kk=>?_
  obtain⟨c,u,a,rfl⟩:=hv;have I1:F' X aa σ H { s with heap:=h',toks:=tk }:=I.turned (λb o hb e=>kk b o (by simpa using hb) e) f0 f1 f3 l g;obtain⟨o,e,C,d⟩:=id j;exact⟨_,rfl,RT (s:={ s with heap:=h',toks:=tk }) e C d n ⟨.str ⟨#[c]⟩,H,I1,⟨u,rfl⟩,⟨rfl,c,a,rfl⟩,j,λb hb=>(hf b hb).1⟩⟩
 done:=by
  intro X m J hK hc i aa s σ H E I hf st hg;subst m J hK;obtain⟨f0,f1,f2,f3,l,g⟩:=hf it (by simp);have e:i=z.cps.size:=hg;subst e;exact(W X.A (I.ok.hd hc)).done s _ _ st λh' tk kk=>⟨rfl,I.turned (λb o hb e=>kk b o (by simpa using hb) e) f0 f1 f3 l g⟩
 self:=λA i s Q E st h=>S A i s Q E st h
noncomputable def hX(tl:TE):TI:=λσ H R=>tl σ H λx H1=>∃ z,x=.str z/\R (SE z) H1
theorem kJ{l:C3}(hl:PE X l tl):PI X tg l (hX tl):=by
 intro aa s σ H R I h;refine Ws (hl aa s σ H _ I h) λv s1 zz=>?_;obtain⟨x,H1,I1,r1,z,e,q⟩:=zz
 subst e;obtain⟨t,rfl⟩:=r1;have I2:∀ o:Obj,F' X aa σ H1 { s1 with heap:=s1.heap.push o }:=λo=>I1.kept (t':=s1.toks) λb ob e=>AE _ e
 have fr:∀ b∈[s1.heap.objs.size],Sx X aa H1 b:=λb hb=>by
  have e:b=s1.heap.objs.size:=by simpa using hb
  subst e;exact I1.fpOk (AU _) (I1.hok.fresh (AU _))
 cases ha:z.cps.all (· < 128)
 .exact wpAny_pyIter_wide ha ⟨_,_,_,SE z,H1,rfl,I2 _,bB _ z t "str_iterator" (by decide) (λA' hA=>Walks.strWide hA _ z t) (λA i s Q E st h=>wpAny_pyIter_striter_wide st h),⟨_,AY _ rfl,rfl,rfl⟩,fr,q⟩
 .exact wpAny_pyIter_ascii ha ⟨_,_,_,SE z,H1,rfl,I2 _,bB _ z t "str_ascii_iterator" (by decide) (λA' hA=>Walks.strAscii hA _ z t) (λA i s Q E st h=>wpAny_pyIter_striter_ascii st h),⟨_,AY _ rfl,rfl,rfl⟩,fr,q⟩
noncomputable abbrev TJ:=St->Hp->Str->VK->Prop
noncomputable def PJ(X:Cx)(vs:Z C3)(t:TJ):Prop :=
 ∀ (aa:KL) (s:A4) (σ:St) (H:Hp) (l:Str) (Q:VK),F' X aa σ H s->l.length<=sizeLine->t σ H l Q->wpAny (model X.prog X.w) X.A (joinParts l (evalEach vs X.env)) (EP X aa σ Q) X.xe s
noncomputable def XC:TJ:=λ_ H l Q=>Q (.str l) H
noncomputable def WZ(c:Str)(r:TJ):TJ:=λσ H l Q=>(l++c).length<=sizeLine/\r σ H (l++c) Q
theorem SV:PJ X [] XC:=λaa s σ H l Q I hz h=>joinParts_nil ⟨.str l,H,I.tok _,⟨_,rfl⟩,h⟩ hz
theorem O9{c:Str}{vs:Z C3}{r:TJ}(hr:PJ X vs r):PJ X (.Constant (.str c) j pos::vs) (WZ c r):=by
 intro aa s σ H l Q I hz h;refine joinParts_cons (Calls.Constant_str ?_);exact⟨h.1,hr aa _ σ H (l++c) Q (I.tok _) h.1 h.2⟩
noncomputable def B1(r:TJ):TE:=λσ H Q=>r σ H Str.empty Q
theorem K7{v1 v2:C3}{r:TJ}(h:PJ X (v1::v2::aj) r):PE X (.JoinedStr (v1::v2::aj) pos) (B1 r):=by
 intro aa s σ H Q I hq;exact JoinedStr_many (h aa s σ H Str.empty Q I (by decide) hq)
end
noncomputable abbrev cl(z:Str):Z Nat:=z.cps.toList
theorem Mg(z:Str):(cl z).length=z.length:=by simp[cl,Str.length]
theorem TW(x y:Str):cl (x++y)=cl x++cl y:=by
 show(x.cps++y.cps).toList=_;simp[cl]
theorem jf{x y:Str}(h:cl x=cl y):x=y:=by
 cases x;cases y;simp only[cl] at h;congr
 exact Array.ext' h
noncomputable def Tv(xs:Z α)(lo hi:C1 Int):Z α:=(xs.drop (HT.sIx xs.length 0 lo)).take (HT.sIx xs.length xs.length hi - HT.sIx xs.length 0 lo)
theorem jF(xs:Z Nat)(i k:Nat):((List.range k).map λ(m:Nat)=>((i:Int)+1*(m:Int)).toNat).filterMap (xs[·]?)=(xs.drop i).take k:=by
 rw[IL];induction k generalizing i with
 | zero=>simp
 | succ k ih =>
  rw[List.range_succ_eq_map,EY,IL];have e0:((λx=>xs[x]?) ∘ λm:Nat=>((i:Int)+1*(m:Int)).toNat) 0=xs[i]?:=by simp[Function.comp]
  rw[e0];have e1:(((λx=>xs[x]?) ∘ λm:Nat=>((i:Int)+1*(m:Int)).toNat) ∘ Nat.succ)=((λx=>xs[x]?) ∘ λm:Nat=>(((i+1:Nat):Int)+1*(m:Int)).toNat):=by
   funext m
   simp only[Function.comp,Nat.succ_eq_add_one];congr 1
   lia
  rw[e1,ih];cases h:xs[i]? with
  | none =>
   have hl:xs.length<=i:=EX.mp h;simp[List.drop_eq_nil_of_le hl,List.drop_eq_nil_of_le (HA hl)]
  | some c =>
   obtain⟨hi,hc⟩:=AC.mp h;rw[DN hi,FN,hc]
theorem b9(lo hi:C1 Int)(n:Nat):Builtin.Str.strSliceIndices lo hi 1 n=(List.range (HT.sIx n n hi - HT.sIx n 0 lo)).map λ(m:Nat)=>(((HT.sIx n 0 lo:Nat):Int)+1*(m:Int)).toNat:=by
 have c:∀ (v:C1 Int) (d:Nat),(match v with | none=>(d:Int) | some i=>(let i:=if i<0 then i+(n:Int) else i;if(1:Int) > 0 then max 0 (min i (n:Int)) else max (-1) (min i ((n:Int) - 1))))=((HT.sIx n d v:Nat):Int):=by
  intro v d;cases v with
  | none=>rfl
  | some i =>
   rw[<- HT.clip_eq i n d];dsimp only;rw[AH (by decide)];by_cases hi:i<0
   .rw[AH hi,AH hi];lia
   .rw[AM hi,AM hi];lia
 have ah:∀ (x y:Int) (a b:Nat),x=a->y=b->sliceRange x y 1=(List.range (b - a)).map λ(m:Nat)=>((a:Int)+1*(m:Int)).toNat:=by
  rintro x y a b rfl rfl;unfold sliceRange;dsimp only;rw[AH (by decide)];congr 1
  congr 1
  by_cases h:(a:Int)<(b:Int)
  .rw[AH h];lia
  .rw[AM h];lia
 unfold Builtin.Str.strSliceIndices;dsimp only;have e1:=c lo 0;have e2:=c hi n;dsimp only at e1 e2;simp only[show(1:Int) > 0 by decide,JD] at e1 e2 ⊢;exact ah _ _ _ _ e1 e2
theorem gy(z:Str)(lo hi:C1 Int):cl (Txt.slice z lo hi)=Tv (cl z) lo hi:=by
 have hn:(cl z).length=z.length:=Mg z;unfold Txt.slice Tv;rw[hn];have B:=HT.sIx_le z.length z.length (AU _) hi;split
 .rename_i h
  rw[b9,AF,DK] at h;have h':HT.sIx z.length z.length hi - HT.sIx z.length 0 lo=z.length:=by simpa using h
  have h0:HT.sIx z.length 0 lo=0\/z.length=0:=by lia
  rcases h0 with h0 | h0
  .rw[h',h0,KD,CI (by lia)]
  .have:cl z=[]:=EO.mp (by lia)
   rw[this];simp
 .show(((Builtin.Str.strSliceIndices lo hi 1 z.length).filterMap (z.cps[·]?)).toArray).toList=_
  rw[b9];have e:(λx:Nat=>z.cps[x]?)=λx=>(cl z)[x]?:=by funext x;simp[cl]
  rw[e];exact jF _ _ _
section
variable{X:Cx}(K:J1)
noncomputable def VA(K:J1):Z V->Hp->VK->Prop:=λxs H Q=>∃ p ys,xs=[.ref p]/\(Dc K H p ys\/Dr K H p ys)/\∀ l,H l=none->Q (.ref l) (W5 H l (.lst ys))
theorem Ey(h:X.K=K:=by rfl):U4 X (.type "list") (VA K):=by subst h;exact Hu
variable{o:C3}{id:String}{r:V->Z V->Hp->VK->Prop}
end
end L2
variable{P:Z α->Prop}{k:Nat}{ta:L2.TA}{wr:Z PySem.Addr}{cd:PySem.ClassData}
namespace PySem

theorem Mk{ac}{x:A1}{Q:KN}(c:s.heap.IsTupleIter it l i)
  (hl:s.heap.IsTuple l ac) (hx:ac[i]?=some x)
  (j:∀ h',h'.IsTupleIter it l (i+1)->SameBut it s.heap h'->Q x { s with heap:=h' }) :
  wpAny (model prog w) A (Builtin.SmallTypes.nextOf (.ref it)) Q E s:=by
 obtain⟨o,ho,hc,hd⟩:=id c;obtain⟨g,d,_,k,u⟩:=hl;unfold Builtin.SmallTypes.nextOf;refine AA (DR (name:=Str.ofString "__next__") c.typeIs EV
  (EK EV c.typeIs F.entry_tuple_iterator_next ?_ (F.args_tuple_iterator_next_1 _)))
 show wpAny _ _ (field (.ref it) 0 >>= _) _ _ s;refine AA (BW ho hd (x:=.ref l) rfl ?_);show wpAny _ _ (if(Value.ref l==Value.none)=true then _ else _) _ _ s;rw[AM (show ¬ ((Value.ref l==Value.none)=true) from CU)];show wpAny _ _ (field (.ref it) 1 >>= _) _ _ s;refine AA (BW ho hd (x:=.int i 0) rfl ?_);show wpAny _ _ (seqItems? (.ref l) >>= _) _ _ s;refine AA (IJ d u ?_);simp only[BS,hx];refine AA (EB ho hd (by simp) (AI ⟨x,rfl,AI (j _ ?_ (FQ ..))⟩));exact⟨_,CA _ ho (FR (EC hd _)),(Obj.cls_mapFields ..).trans hc,by
  rw[EC hd];simp[rawInt]⟩
theorem Rq{ac}{Q:KN}(hh:A.handled=none)
   (c:s.heap.IsTupleIter it l i) (hl:s.heap.IsTuple l ac) (hx:ac[i]?=none)
   (n:∀ h' e,ExtBut it s.heap h'->(∃ o,h'.get? e=some o/\o.cls=.type "StopIteration")->E (.ref e) { s with heap:=h' }) :
   wpAny (model prog w) A (Builtin.SmallTypes.nextOf (.ref it)) Q E s:=by
 obtain⟨o,ho,hc,hd⟩:=id c;obtain⟨g,d,_,k,u⟩:=hl;unfold Builtin.SmallTypes.nextOf;refine AA (DR (name:=Str.ofString "__next__") c.typeIs EV
   (EK EV c.typeIs F.entry_tuple_iterator_next ?_ (F.args_tuple_iterator_next_1 _)))
 show wpAny _ _ (field (.ref it) 0 >>= _) _ _ s;refine AA (BW ho hd (x:=.ref l) rfl ?_);show wpAny _ _ (if(Value.ref l==Value.none)=true then _ else _) _ _ s;rw[AM (show ¬ ((Value.ref l==Value.none)=true) from CU)];show wpAny _ _ (field (.ref it) 1 >>= _) _ _ s;refine AA (BW ho hd (x:=.int i 0) rfl ?_);show wpAny _ _ (seqItems? (.ref l) >>= _) _ _ s;refine AA (IJ d u ?_);simp only[BS,hx];refine AA (JB (AA (EB ho hd (by simp) ?_)));show wpAny _ _ (newExc (.type "StopIteration") [] >>= _) _ _ _;refine AA ?_;simp only[newExc,newTuple];refine AA (CJ ?_ (by size_fits));refine AA (m:=firstArgMember _ _) (JP (a:=Value.none) (by first | rfl | (simp only[firstArgMember];rfl)) ?_);refine CJ ?_ (by size_fits);simp only[raiseNew];refine AA (JZ ?_);first | rw[show A.in1.handled=none from hh] | rw[hh]
 refine AA (AI (wpAny_throw ?_));exact n _ _ (((FQ ..).extBut.push _).push _) ⟨_,AY _ rfl,rfl⟩
theorem Draws.tupleD(hh:A.handled=none)(it l:A2)(ae:l≠it)(ac:Array A1) :
  Draws prog w A it [it,l] ac.size (λi v=>ac[i]?=some v) (λi h=>h.IsTupleIter it l i/\h.IsTuple l ac) where
 live:=λ_ _ st=>let ⟨o,ho,_⟩:=st.1;⟨o,ho⟩
 frame:=λ_ _ _ st hk=>⟨st.1.at λo e=>hk it (by simp) o e,let ⟨o,ho,r⟩:=st.2;⟨o,hk l (by simp) o ho,r⟩⟩
 item:=λi s Q E hi st j=>by
  refine Mk st.1 st.2 (x:=ac[i]) (by simp[hi]) λh' a d=>?_
  exact j _ h' s.toks (by simp[hi]) ⟨a,st.2.extBut d.extBut ae⟩ d
 done:=λs Q E st n=>Rq hh st.1 st.2 (by simp) n
theorem Sn(l:A2)(ac:Array A1)(n:Nat)(dct:C1 A2)(sl:Array (C1 A1)) :
  Meets (Builtin.«enumerate.__new__» ⟨[.type "enumerate",.ref l],[]⟩) (λ_ R s=>s.heap.get? l=some { cls:=.type "tuple",dict:=dct,data:=.seq ac n,slots:=sl } /\
   R (.ok (.ret (.ref (s.heap.push { cls:=.type "tuple_iterator",data:=.fields #[.ref l,.int 0 0] }).objs.size)))
    { s with heap:=(s.heap.push { cls:=.type "tuple_iterator",data:=.fields #[.ref l,.int 0 0] }).push { cls:=.type "enumerate",data:=.fields #[.none,.bool false,.ref s.heap.objs.size,rawInt 0,.none,.none] } }) :=
 .of_wp λprog w A R s h=>by
  obtain⟨hp,g,d,tk,os⟩:=s;obtain⟨hl,h⟩:=h;have hsub:=sub_enumerate;have t:Heap.IsTuple (Shared.heap ⟨hp,g,d,tk,os⟩) l ac:=⟨_,hl,rfl,n,rfl⟩
  wp_walk using EG hl
  refine wpAny_stack_any λst=>AI ?_
  split
  .rename_i c _ _ _ _ _
   cases (c==Value.type "enumerate")
   .wp_walk using EG hl,GM t
    exact⟨_,rfl,h⟩
   .wp_walk using EG hl,GM t
    exact⟨_,rfl,h⟩
  .wp_walk using EG hl,GM t
   exact⟨_,rfl,h⟩
theorem S7{Q:KN}(t:s.heap.IsTuple l ac)
  (h:∀ h',IsEnum h' (s.heap.objs.size+1) s.heap.objs.size 0 .none->h'.IsTupleIter s.heap.objs.size l 0->h'.objs.size=s.heap.objs.size+2 ->
   (∀ b o,s.heap.get? b=some o->h'.get? b=some o)->Q (.ref (s.heap.objs.size+1)) { s with heap:=h' }) :
  wpAny (model prog w) A (call (.type "enumerate") [.ref l]) Q E s:=by
 obtain⟨⟨c,dct,a,sl⟩,hl,hc,n,hd⟩:=t;replace hc:c=.type "tuple" := hc;replace hd:a=.seq ac n:=hd;subst hc hd;refine callType_new F.called_enumerate (by decide) (F.typeCall_enumerate_1 _) (F.newCall_enumerate_1 _) (λobj=>F.args_object_init_2 obj _) F.entry_enumerate_new
  (Sn l ac n dct sl) ⟨hl,?_⟩
 have hz:(s.heap.push { cls:=.type "tuple_iterator",data:=.fields #[.ref l,.int 0 0] }).objs.size=s.heap.objs.size+1:=ER ..;show _/\_;rw[hz];have he:IsEnum ((s.heap.push { cls:=.type "tuple_iterator",data:=.fields #[.ref l,.int 0 0] }).push
   { cls:=.type "enumerate",data:=.fields #[.none,.bool false,.ref s.heap.objs.size,rawInt 0,.none,.none] }) (s.heap.objs.size+1) s.heap.objs.size 0 .none:=by
  have:=AY (s.heap.push { cls:=.type "tuple_iterator",data:=.fields #[.ref l,.int 0 0] })
   (o:={ cls:=.type "enumerate",data:=.fields #[.none,.bool false,.ref s.heap.objs.size,rawInt 0,.none,.none] }) rfl
  rw[hz] at this;exact this
 refine⟨⟨_,he,rfl⟩,h _ he ⟨_,AE _ (AY _ rfl),rfl,rfl⟩ (by rw[ER,hz]) λb o x=>AE _ (AE _ x)⟩
end PySem
variable{t:Nat}{l:Z PySem.Env}
namespace L2
open PySem PySem.Spec PyProof.Rows
inductive XD where
 | int (i:Int) | nums (is:List Int)
inductive Tg where
 | obj (c:Str) (ns:List Str) | dic (ks:List Int) | dip (ks:List (List Int)) | mem (f:Int->Option Int)
inductive Dat where
 | non | bl (b:Bool) | int (i:Int) | str (x:Str) | tup (xs:List Dat) | lst (xs:List Dat) | dct (kvs:List (List Vn×Int)) | exc (c:Str) (fs:List (Str×XD)) | box (t:Tg) (xs:List Dat)
noncomputable def Vq(K:J1)(c:Str)(C:A2):Prop:=PySem.W.nsIn K mainGlobals c=some (some (.ref C))
noncomputable def RM(e C:A2)(dct:C1 A2)(h:H3):Prop:=∃ o,h.get? e=some o/\o.cls=.ref C/\o.dict=dct/\∀ c,o.data≠.cls c
noncomputable def Q'(K:J1)(H:Hp):XD->V->Prop
 | .int i,v=>v=.int i
 | .nums is,v=>∃ a,v=.ref a/\SL K H a (is.map V.int)/\is.length<=sizeLine
noncomputable def Fw(K:J1)(H:Hp):C1 A2->Z (Str×XD)->Prop
 | none,fs=>fs=[]
 | some dx,fs=>∃ j,H dx=some (.xd j)/\∀ f,(fs.lookup f=none/\j.lookup f=none)\/∃ d v,fs.lookup f=some d/\j.lookup f=some v/\Q' K H d v
noncomputable def RY(H:Hp)(e C:A2)(dct:C1 A2):Prop:=H e=some (.ext (RM e C dct))\/∃ o,H e=some (.frz o (.ext (RM e C dct)))
theorem RY.mono{e:A2}(h:RY H e C dct)(s:Zr H H'):RY H' e C dct:=h.imp (s _ _) λ⟨o,z⟩=>⟨o,s _ _ z⟩
noncomputable def OT(K:J1)(H:Hp)(c:Str)(fs:Z (Str×XD))(v:V):Prop:=∃ e C dct,v=.ref e/\RY H e C dct/\Vq K c C/\Fw K H dct fs
noncomputable def OY(kvs:Z (Z Vn×Int)):Z (Z Vn×V):=kvs.map λp=>(p.1,V.int p.2)
structure LG (x:Str):Prop where
 ok:PyData.strOk x=true
 le:x.length<=sizeLine
instance (x:Str):Decidable (LG x):=decidable_of_iff (PyData.strOk x=true/\x.length<=sizeLine) ⟨λh=>⟨h.1,h.2⟩,λh=>⟨h.ok,h.le⟩⟩
theorem LG.of{x:Str}(h:PyData.strOk x=true)(h':x.length<=sizeLine):LG x:=⟨h,h'⟩
noncomputable def j3(kvs:Z (Int×Int)):Z (Vn×V):=kvs.map λp=>(Sum.inl p.1,V.int p.2)
noncomputable def kx(f:Int->C1 Int)(a:A2)(h:H3):Prop:=∃ kvs:Z (Int×Int),(∀ P w H,We P w H h a (.dK (j3 kvs)))/\(kvs.map (·.1)).Nodup/\∀ p∈kvs,f p.1=some p.2
noncomputable def QG(K:J1)(H:Hp):Tg->A2->Z V->Prop
 | .obj c ns,a,us=>us.length=ns.length/\∃ C dx,H a=some (.ins C dx (ns.zip us))/\Vq K c C
 | .dic ks,a,us=>us.length=ks.length/\us.length<=sizeLine/\H a=some (.dK ((ks.map (λk=>(Sum.inl k:Vn))).zip us))
 | .dip ks,a,us=>us.length=ks.length/\us.length<=sizeLine/\∃ o,H a=some (.frz o (.dT ((ks.map λk=>k.map (Sum.inl:Int->Vn)).zip us)))
 | .mem f,a,us=>us=[]/\H a=some (.ext (kx f a))
mutual
def Rp(K:J1)(H:Hp):Dat->V->Prop
 | .non,v=>v=.non
 | .bl b,v=>v=.bl b
 | .int i,v=>v=.int i
 | .str x,v=>v=.str x/\LG x
 | .tup ds,v=>ds.length<=sizeLine/\∃ a vs,v=.ref a/\Dr K H a vs/\Wj K H ds vs
 | .lst ds,v=>ds.length<=sizeLine/\∃ a vs,v=.ref a/\SL K H a vs/\Wj K H ds vs
 | .dct kvs,v=>kvs.length<=sizeLine/\∃ a,v=.ref a/\H a=some (.dT (OY kvs))
 | .exc c fs,v=>OT K H c fs v
 | .box t ds,v=>∃ a us,v=.ref a/\QG K H t a us/\Wj K H ds us
def Wj(K:J1)(H:Hp):Z Dat->Z V->Prop
 | [],vs=>vs=[]
 | d::ds,vs=>∃ v r,vs=v::r/\Rp K H d v/\Wj K H ds r
end
noncomputable abbrev AS:=A2->Bool
noncomputable def av(H:Hp)(A:AS):Hp:=λa=>if A a=true then none else H a
theorem V7{A:AS}{a:A2}{o:HO}(h:H a=some o)(hA:A a=false):av H A a=some o:=by unfold av;rw[hA];exact h
theorem Qs{A:AS}{a:A2}{o:HO}(h:av H A a=some o):A a=false/\H a=some o:=by
 unfold av at h;split at h
 .cases h
 .rename_i q;exact⟨by simpa using q,h⟩
theorem Wg{A:AS}:Zr (av H A) H:=λb o e=>(Qs e).2
theorem Wp{A:AS}(h:Zr H H'):Zr (av H A) (av H' A):=λb o e=>V7 (h b o (Qs e).2) (Qs e).1
theorem Q6{A B:AS}(h:∀ a,B a=true->A a=true):Zr (av H A) (av H B):=λb o e=>by
 obtain⟨h1,h2⟩:=Qs e;refine V7 h2 ?_;cases q:B b with
 | false=>rfl
 | true=>rw[h b q] at h1;cases h1
variable{fs:Z (Str×XD)}{t:Tg}{ds:Z Dat}{A A':AS}{Q:VK}{G:Int->Int->Dat}
noncomputable def no:AS:=λ_=>false
theorem SJ:av H no=H:=by funext a;simp[av,no]
theorem Zr.sl{a:A2}(e:Zr H H')(h:SL K H a xs):SL K H' a xs:=by
 rcases h with(h | ⟨o,h⟩) | h
 .exact .inl (.inl (e _ _ h))
 .exact .inl (.inr ⟨o,e _ _ h⟩)
 .exact .inr h
theorem SL.sq{a:A2}(h:SL K H a xs):Dc K H a xs:=by
 rcases h with h | ⟨its,n,h1,h2,h3⟩
 .exact .inl h
 .refine .inr ⟨_,its.toArray,n,h1,rfl,rfl,rfl,?_,by simpa using h3⟩
  have:=h3.length;simp only[AV];lia
theorem SL.get{X:Cx}{a:A2}(h:SL X.K H a xs)(I:F' X aa σ H s) :
  ∃ (its:Z A1) (n:Nat),Y5 xs its/\s.heap.get? a=some { cls:=.type "list",data:=.seq its.toArray n }/\xs.length<=sizeLine:=by
 rcases h with h | ⟨its,n,h1,h2,h3⟩
 .obtain⟨z,its,n,r,e⟩:=h.ok I.hok
  exact⟨its,n,r,e,z⟩
 .exact⟨its,n,h3,I.kIn _ _ h1,h2⟩
theorem Q'.mono(e:Zr H H'){d:XD}{v:V}(h:Q' K H d v):Q' K H' d v:=by
 cases d with
 | int i=>exact h
 | nums is=>obtain⟨a,e1,e2,e3⟩:=h;exact⟨a,e1,e.sl e2,e3⟩
theorem Fw.mono(e:Zr H H')(h:Fw K H dct fs):Fw K H' dct fs:=by
 cases dct with
 | none=>exact h
 | some dx =>
  obtain⟨j,e1,e2⟩:=h;exact⟨j,e _ _ e1,λf=>(e2 f).imp id λ⟨d,v,a,b,c⟩=>⟨d,v,a,b,c.mono e⟩⟩
theorem OT.mono(e:Zr H H'){c:Str}{v:V}(h:OT K H c fs v):OT K H' c fs v:=by
 obtain⟨x,C,dct,e1,e2,e3,e4⟩:=h;exact⟨x,C,dct,e1,e2.mono e,e3,e4.mono e⟩
theorem QG.mono(e:Zr H H'){a:A2}{us:Z V}(h:QG K H t a us):QG K H' t a us:=by
 cases t with
 | obj c ns=>obtain⟨h1,C,dx,h2,h3⟩:=h;exact⟨h1,C,dx,e _ _ h2,h3⟩
 | dic ks=>exact⟨h.1,h.2.1,e _ _ h.2.2⟩
 | dip ks=>obtain⟨h1,h2,o,h3⟩:=h;exact⟨h1,h2,o,e _ _ h3⟩
 | mem f=>exact⟨h.1,e _ _ h.2⟩
mutual
theorem Rp.mono(e:Zr H H'):∀ {d:Dat} {v:V},Rp K H d v->Rp K H' d v
 | .non,v,h=>by unfold Rp at h ⊢;exact h
 | .bl b,v,h=>by unfold Rp at h ⊢;exact h
 | .int i,v,h=>by unfold Rp at h ⊢;exact h
 | .str x,v,h=>by unfold Rp at h ⊢;exact h
 | .dct _,v,h=>by unfold Rp at h ⊢;obtain⟨hz,a,e1,e2⟩:=h;exact⟨hz,a,e1,e _ _ e2⟩
 | .exc _ _,v,h=>by unfold Rp at h ⊢;exact OT.mono e h
 | .box t ds,v,h=>by unfold Rp at h ⊢;obtain⟨a,us,e1,e2,e3⟩:=h;exact⟨a,us,e1,e2.mono e,Wj.mono e e3⟩
 | .tup ds,v,h=>by
  unfold Rp at h ⊢;obtain⟨hz,a,vs,e1,e2,e3⟩:=h;exact⟨hz,a,vs,e1,e.seqT e2,Wj.mono e e3⟩
 | .lst ds,v,h=>by
  unfold Rp at h ⊢;obtain⟨hz,a,vs,e1,e2,e3⟩:=h;exact⟨hz,a,vs,e1,e.sl e2,Wj.mono e e3⟩
theorem Wj.mono(e:Zr H H'):∀ {ds:Z Dat} {vs:Z V},Wj K H ds vs->Wj K H' ds vs
 | [],vs,h=>by unfold Wj at h ⊢;exact h
 | d::ds,vs,h=>by
  unfold Wj at h ⊢;obtain⟨v,r,e1,e2,e3⟩:=h;exact⟨v,r,e1,Rp.mono e e2,Wj.mono e e3⟩
end
theorem Vt:Wj K H [] []:=by unfold Wj;rfl
theorem Wx{d:Dat}{v:V}(h:Rp K H d v)(t:Wj K H ds vs):Wj K H (d::ds) (v::vs):=by unfold Wj;exact⟨v,vs,rfl,h,t⟩
theorem Ym(h:Wj K H [] vs):vs=[]:=by unfold Wj at h;exact h
theorem Y0{d:Dat}(h:Wj K H (d::ds) vs):∃ v r,vs=v::r/\Rp K H d v/\Wj K H ds r:=by unfold Wj at h;exact h
theorem Y6:∀ {ds:Z Dat} {vs:Z V},Wj K H ds vs->vs.length=ds.length
 | [],vs,h=>by rw[Ym h];rfl
 | d::ds,vs,h=>by
  obtain⟨v,r,e1,e2,e3⟩:=Y0 h;rw[e1,BJ,BJ,Y6 e3]
theorem Ms:∀ {ds:Z Dat} {vs:Z V} {i:Nat} {d:Dat},Wj K H ds vs->ds[i]?=some d->∃ v,vs[i]?=some v/\Rp K H d v
 | [],vs,i,d,h,e=>by simp at e
 | d'::ds,vs,0,d,h,e=>by
  obtain⟨v,r,e1,e2,e3⟩:=Y0 h;simp at e;subst e;exact⟨v,by rw[e1];rfl,e2⟩
 | d'::ds,vs,i+1,d,h,e=>by
  obtain⟨v,r,e1,e2,e3⟩:=Y0 h;obtain⟨t,h1,h2⟩:=Ms (i:=i) e3 (by simpa using e);exact⟨t,by rw[e1];simpa using h1,h2⟩
theorem V3:∀ {ds es:Z Dat} {vs us:Z V},Wj K H ds vs->Wj K H es us->Wj K H (ds++es) (vs++us)
 | [],es,vs,us,h,k=>by rw[Ym h];exact k
 | d::ds,es,vs,us,h,k=>by
  obtain⟨v,r,e1,e2,e3⟩:=Y0 h;subst e1;exact Wx e2 (V3 e3 k)
theorem Ho:∀ (n:Nat) {ds:Z Dat} {vs:Z V},Wj K H ds vs->Wj K H (ds.take n) (vs.take n)
 | 0,_,_,_=>by simp only[KF];exact Vt
 | n+1,[],vs,h=>by rw[Ym h];simp only[List.take_nil];exact Vt
 | n+1,d::ds,vs,h=>by
  obtain⟨v,r,e1,e2,e3⟩:=Y0 h;subst e1;exact Wx e2 (Ho n e3)
theorem H9:∀ (n:Nat) {ds:Z Dat} {vs:Z V},Wj K H ds vs->Wj K H (ds.drop n) (vs.drop n)
 | 0,_,_,h=>h
 | n+1,[],vs,h=>by rw[Ym h];simp only[List.drop_nil];exact Vt
 | n+1,d::ds,vs,h=>by
  obtain⟨v,r,e1,e2,e3⟩:=Y0 h;subst e1;exact H9 n e3
theorem Q1{d:Dat}{v:V}(h:Rp K H d v):Wj K H [d] [v]:=Wx h Vt
theorem XT:∀ {ds:Z Dat} {vs:Z V} {d:Dat} {v:V} (i:Nat),Wj K H ds vs->Rp K H d v->Wj K H (ds.set i d) (vs.set i v)
 | [],vs,d,v,i,h,_=>by rw[Ym h];simp only[List.set_nil];exact Vt
 | d'::ds,vs,d,v,0,h,k=>by
  obtain⟨t,r,e1,e2,e3⟩:=Y0 h;subst e1;exact Wx k e3
 | d'::ds,vs,d,v,i+1,h,k=>by
  obtain⟨t,r,e1,e2,e3⟩:=Y0 h;subst e1;exact Wx e2 (XT i e3 k)
theorem jJ:∀ {vs:Z V},Wj K H ds vs->Wj K H ds.reverse vs.reverse:=by
 induction ds with
 | nil=>intro vs h;rw[Ym h];exact Vt
 | cons d ds ih =>
  intro vs h;obtain⟨v,r,e1,e2,e3⟩:=Y0 h;subst e1;rw[HN,HN];exact V3 (ih e3) (Q1 e2)
theorem Ih:∀ (ns:Z Int),Wj K H (ns.map Dat.int) (ns.map V.int)
 | []=>Vt
 | n::ns=>Wx (by unfold Rp;rfl) (Ih ns)
theorem Pg:Rp K H .non .non:=by unfold Rp;rfl
theorem Tf{b:Bool}:Rp K H (.bl b) (.bl b):=by unfold Rp;rfl
theorem W9{i:Int}:Rp K H (.int i) (.int i):=by unfold Rp;rfl
theorem Rb{x:Str}(h:LG x):Rp K H (.str x) (.str x):=by unfold Rp;exact⟨rfl,h⟩
theorem B7{a:A2}(hz:ds.length<=sizeLine)(h:Dr K H a vs)(r:Wj K H ds vs):Rp K H (.tup ds) (.ref a):=by unfold Rp;exact⟨hz,a,vs,rfl,h,r⟩
theorem Kb{a:A2}(hz:ds.length<=sizeLine)(h:SL K H a vs)(r:Wj K H ds vs):Rp K H (.lst ds) (.ref a):=by unfold Rp;exact⟨hz,a,vs,rfl,h,r⟩
theorem Ag{v:V}(h:Rp K H .non v):v=.non:=by unfold Rp at h;exact h
theorem Oq{b:Bool}{v:V}(h:Rp K H (.bl b) v):v=.bl b:=by unfold Rp at h;exact h
theorem M5{i:Int}{v:V}(h:Rp K H (.int i) v):v=.int i:=by unfold Rp at h;exact h
theorem B6{x:Str}{v:V}(h:Rp K H (.str x) v):v=.str x/\LG x:=by unfold Rp at h;exact h
theorem Ss{v:V}(h:Rp K H (.tup ds) v):∃ a vs,v=.ref a/\Dr K H a vs/\Wj K H ds vs:=by unfold Rp at h;exact h.2
theorem ZF{v:V}(h:Rp K H (.tup ds) v):ds.length<=sizeLine:=by unfold Rp at h;exact h.1
theorem fY{v:V}(h:Rp K H (.lst ds) v):ds.length<=sizeLine:=by unfold Rp at h;exact h.1
theorem Su{v:V}(h:Rp K H (.lst ds) v):∃ a vs,v=.ref a/\SL K H a vs/\Wj K H ds vs:=by unfold Rp at h;exact h.2
theorem gr{kvs:Z (Z Vn×Int)}{v:V}(h:Rp K H (.dct kvs) v):kvs.length<=sizeLine/\∃ a,v=.ref a/\H a=some (.dT (OY kvs)):=by unfold Rp at h;exact h
theorem fB{v:V}(h:Rp K H (.box t ds) v):∃ a us,v=.ref a/\QG K H t a us/\Wj K H ds us:=by unfold Rp at h;exact h
theorem k9{c:Str}{ds:Z (Str×XD)}{v:V}(h:Rp K H (.exc c ds) v):OT K H c ds v:=by unfold Rp at h;exact h
variable{xs:Z Dat}{t:TT}
noncomputable def XO(K:J1)(H:Hp)(c f:Str)(ns:Z Int)(v:V):Prop:=∃ (e C dx:A2) (j:Z (Str×V)) (a:A2),v=.ref e/\H e=some (.ext (RM e C (some dx)))/\Vq K c C/\H dx=some (.xd j)/\(∀ g,g≠f->j.lookup g=none)/\j.lookup f=some (.ref a)/\H a=some (.lst (ns.map V.int))/\ns.length<=sizeLine
theorem XO.mono{c f:Str}{v:V}(h:XO K H c f ns v)(e:Zr H H'):XO K H' c f ns v:=by
 obtain⟨x,C,dx,j,a,h1,h2,h3,h4,F,S,m,r⟩:=h;exact⟨x,C,dx,j,a,h1,e _ _ h2,h3,e _ _ h4,F,S,e _ _ m,r⟩
theorem XO.rp{c f:Str}{v:V}(h:XO K H c f ns v):Rp K H (.exc c [(f,.nums ns)]) v:=by
 obtain⟨x,C,dx,j,a,h1,h2,h3,h4,F,S,m,r⟩:=h;unfold Rp;refine⟨x,C,some dx,h1,.inl h2,h3,j,h4,λg=>?_⟩;by_cases hg:g=f
 .subst hg;exact .inr ⟨.nums ns,.ref a,by simp[List.lookup],S,a,rfl,.inl (.inl m),r⟩
 .exact .inl ⟨by simp only[List.lookup];rw[show(g==f)=false from by simpa using hg],F g hg⟩
noncomputable def Pk(K:J1)(A:AS)(H:Hp)(d:Dat)(v:V):Prop :=
 Rp K (av H A) d v\/(∃ a vs ds,d=.lst ds/\v=.ref a/\ds.length<=sizeLine/\H a=some (.lst vs)/\Wj K (av H A) ds vs)\/(∃ c f ns,d=.exc c [(f,.nums ns)]/\XO K H c f ns v)\/∃ kvs a,d=.dct kvs/\v=.ref a/\kvs.length<=sizeLine/\H a=some (.dT (OY kvs))
section
variable{d:Dat}{v:V}
theorem Pk.mono(e:Zr H H')(h:Pk K A H d v):Pk K A H' d v:=by
 rcases h with h | ⟨a,vs,ds,e1,e2,hz,e3,e4⟩ | ⟨c,f,ns,e1,e2⟩ | ⟨kvs,a,e1,e2,e3,e4⟩
 .exact .inl (h.mono (Wp e))
 .exact .inr (.inl ⟨a,vs,ds,e1,e2,hz,e _ _ e3,e4.mono (Wp e)⟩)
 .exact .inr (.inr (.inl ⟨c,f,ns,e1,e2.mono e⟩))
 .exact .inr (.inr (.inr ⟨kvs,a,e1,e2,e3,e _ _ e4⟩))
theorem Pk.rp(h:Pk K A H d v):Rp K H d v:=by
 rcases h with h | ⟨a,vs,ds,e1,e2,hz,e3,e4⟩ | ⟨c,f,ns,e1,e2⟩ | ⟨kvs,a,e1,e2,e3,e4⟩
 .exact h.mono Wg
 .subst e1 e2;exact Kb hz (.inl (.inl e3)) (e4.mono Wg)
 .subst e1;exact e2.rp
 .subst e1;unfold Rp;exact⟨e3,a,e2,e4⟩
theorem Pk.lenL(h:Pk K A H (.lst ds) v):ds.length<=sizeLine:=fY h.rp
theorem Pk.lenT(h:Pk K A H (.tup ds) v):ds.length<=sizeLine:=ZF h.rp
theorem Pk.non(h:Pk K A H .non v):v=.non:=Ag h.rp
theorem Pk.bl{b:Bool}(h:Pk K A H (.bl b) v):v=.bl b:=Oq h.rp
theorem Pk.int{i:Int}(h:Pk K A H (.int i) v):v=.int i:=M5 h.rp
theorem Pk.str{x:Str}(h:Pk K A H (.str x) v):v=.str x/\LG x:=B6 h.rp
theorem Pk.tup(h:Pk K A H (.tup ds) v):∃ a vs,v=.ref a/\Dr K H a vs/\Wj K (av H A) ds vs:=by
 rcases h with h | ⟨a,vs,ds,e1,e2,e3,e4⟩ | ⟨c,f,ns,e1,e2⟩ | ⟨kvs,a,e1,e2,e3,e4⟩
 .obtain⟨a,vs,e1,e2,e3⟩:=Ss h
  exact⟨a,vs,e1,Wg.seqT e2,e3⟩
 .cases e1
 .cases e1
 .cases e1
theorem Pk.lst(h:Pk K A H (.lst ds) v):∃ a vs,v=.ref a/\SL K H a vs/\Wj K (av H A) ds vs:=by
 rcases h with h | ⟨a,vs,ds',e1,e2,hz,e3,e4⟩ | ⟨c,f,ns,e1,e2⟩ | ⟨kvs,a,e1,e2,e3,e4⟩
 .obtain⟨a,vs,e1,e2,e3⟩:=Su h
  exact⟨a,vs,e1,Wg.sl e2,e3⟩
 .cases e1;exact⟨a,vs,e2,.inl (.inl e3),e4⟩
 .cases e1
 .cases e1
end
mutual
def Gm:Dat->Dat->Bool
 | .non,.non=>true
 | .bl a,.bl b=>a==b
 | .bl a,.int j=>(if a then 1 else 0)==j
 | .int i,.bl b=>i==(if b then 1 else 0)
 | .int i,.int j=>i==j
 | .str x,.str y=>x==y
 | .lst xs,.lst ys=>NK xs ys
 | .tup xs,.tup ys=>NK xs ys
 | _,_=>false
def NK:Z Dat->Z Dat->Bool
 | [],[]=>true
 | x::xs,y::ys=>Gm x y&&NK xs ys
 | _,_=>false
end
noncomputable def pd:Nat->Dat->Bool
 | 0,.lst _=>false
 | 0,.tup _=>false
 | n+1,.lst xs=>xs.all (pd n)
 | n+1,.tup xs=>xs.all (pd n)
 | _,.dct _=>false
 | _,.exc _ _=>false
 | _,.box _ _=>false
 | _,.non=>true
 | _,.bl _=>true
 | _,.int _=>true
 | _,.str _=>true
mutual
def MS:Dat->PyData
 | .non=>.none
 | .bl b=>.bool b
 | .int i=>.int i
 | .str x=>.str x
 | .tup xs=>.tuple (Ob xs)
 | .lst xs=>.list (Ob xs)
 | .dct _=>.none
 | .exc _ _=>.none
 | .box _ _=>.none
def Ob:Z Dat->Z PyData
 | []=>[]
 | x::xs=>MS x::Ob xs
end
theorem B4{n:Nat}(h:pd n (.lst xs)=true):∃ m,n=m+1/\∀ x∈xs,pd m x=true:=by
 cases n with
 | zero=>cases h
 | succ n=>exact⟨n,rfl,by simpa[pd] using h⟩
theorem B3{n:Nat}(h:pd n (.tup xs)=true):∃ m,n=m+1/\∀ x∈xs,pd m x=true:=by
 cases n with
 | zero=>cases h
 | succ n=>exact⟨n,rfl,by simpa[pd] using h⟩
theorem Bh{n:Nat}{xs}(h:pd n (.dct xs)=true):False:=by cases n<;>cases h
theorem Am{n:Nat}{c xs}(h:pd n (.box c xs)=true):False:=by cases n<;>cases h
theorem Ad{n:Nat}{c xs}(h:pd n (.exc c xs)=true):False:=by cases n<;>cases h
mutual
theorem Da:∀ {n m:Nat} (x y:Dat),pd n x=true->pd m y=true->PyData.eqv (MS x) (MS y)=Gm x y
 | n,m,.dct _,y,h,_=>(Bh h).elim
 | n,m,.exc _ _,y,h,_=>(Ad h).elim
 | n,m,x,.dct _,_,h=>(Bh h).elim
 | n,m,x,.exc _ _,_,h=>(Ad h).elim
 | n,m,.box _ _,y,h,_=>(Am h).elim
 | n,m,x,.box _ _,_,h=>(Am h).elim
 | n,m,.non,.non,_,_=>rfl
 | n,m,.non,.bl _,_,_=>rfl
 | n,m,.non,.int _,_,_=>rfl
 | n,m,.non,.str _,_,_=>rfl
 | n,m,.non,.tup _,_,_=>rfl
 | n,m,.non,.lst _,_,_=>rfl
 | n,m,.bl _,.non,_,_=>rfl
 | n,m,.bl _,.bl _,_,_=>rfl
 | n,m,.bl _,.int _,_,_=>rfl
 | n,m,.bl _,.str _,_,_=>rfl
 | n,m,.bl _,.tup _,_,_=>rfl
 | n,m,.bl _,.lst _,_,_=>rfl
 | n,m,.int _,.non,_,_=>rfl
 | n,m,.int _,.bl _,_,_=>rfl
 | n,m,.int _,.int _,_,_=>rfl
 | n,m,.int _,.str _,_,_=>rfl
 | n,m,.int _,.tup _,_,_=>rfl
 | n,m,.int _,.lst _,_,_=>rfl
 | n,m,.str _,.non,_,_=>rfl
 | n,m,.str _,.bl _,_,_=>rfl
 | n,m,.str _,.int _,_,_=>rfl
 | n,m,.str _,.str _,_,_=>rfl
 | n,m,.str _,.tup _,_,_=>rfl
 | n,m,.str _,.lst _,_,_=>rfl
 | n,m,.lst _,.non,_,_=>rfl
 | n,m,.lst _,.bl _,_,_=>rfl
 | n,m,.lst _,.int _,_,_=>rfl
 | n,m,.lst _,.str _,_,_=>rfl
 | n,m,.lst _,.tup _,_,_=>rfl
 | n,m,.lst xs,.lst ys,h,k=>by
  obtain⟨g,_,hx⟩:=B4 h;obtain⟨m',_,hy⟩:=B4 k;simp only[MS,PyData.eqv,Gm];exact Oe xs ys hx hy
 | n,m,.tup _,.non,_,_=>rfl
 | n,m,.tup _,.bl _,_,_=>rfl
 | n,m,.tup _,.int _,_,_=>rfl
 | n,m,.tup _,.str _,_,_=>rfl
 | n,m,.tup _,.lst _,_,_=>rfl
 | n,m,.tup xs,.tup ys,h,k=>by
  obtain⟨g,_,hx⟩:=B3 h;obtain⟨m',_,hy⟩:=B3 k;simp only[MS,PyData.eqv,Gm];exact Oe xs ys hx hy
theorem Oe:∀ {n m:Nat} (xs ys:Z Dat),(∀ x∈xs,pd n x=true)->(∀ y∈ys,pd m y=true)->PyData.eqvAll (Ob xs) (Ob ys)=NK xs ys
 | n,m,[],[],_,_=>rfl
 | n,m,[],_::_,_,_=>rfl
 | n,m,_::_,[],_,_=>rfl
 | n,m,x::xs,y::ys,hx,hy=>by
  simp only[Ob,PyData.eqvAll,NK];rw[Da (n:=n) (m:=m) x y (hx x AX) (hy y AX),Oe (n:=n) (m:=m) xs ys (λz hz=>hx z (BB _ hz)) (λz hz=>hy z (BB _ hz))]
end
mutual
theorem D8:∀ (n:Nat) (x:Dat),pd n x=true->(MS x).depth<=n
 | n,.dct _,h=>(Bh h).elim
 | n,.exc _ _,h=>(Ad h).elim
 | n,.box _ _,h=>(Am h).elim
 | n,.non,_=>CZ _
 | n,.bl _,_=>CZ _
 | n,.int _,_=>CZ _
 | n,.str _,_=>CZ _
 | n,.lst xs,h=>by
  obtain⟨m,e,hx⟩:=B4 h;subst e;simp only[MS,PyData.depth];exact HI (Es m xs hx)
 | n,.tup xs,h=>by
  obtain⟨m,e,hx⟩:=B3 h;subst e;simp only[MS,PyData.depth];exact HI (Es m xs hx)
theorem Es:∀ (n:Nat) (xs:Z Dat),(∀ x∈xs,pd n x=true)->PyData.depthAll (Ob xs)<=n
 | n,[],_=>CZ _
 | n,x::xs,h=>by
  simp only[Ob,PyData.depthAll];exact Nat.max_le.mpr ⟨D8 n x (h x AX),Es n xs λz hz=>h z (BB _ hz)⟩
end
section
variable{X:Cx}
mutual
theorem Rp.reads(I:F' X aa σ H s):∀ {n:Nat} (d:Dat) (v:V) (u:A1),pd n d=true->Rp X.K H d v->Yr v u->∃ as,Reads s.heap u (MS d) as/\(MS d).canLay0=true
 | n,.dct _,v,u,h,_,_=>(Bh h).elim
 | n,.exc _ _,v,u,h,_,_=>(Ad h).elim
 | n,.box _ _,v,u,h,_,_=>(Am h).elim
 | n,.non,v,u,_,i,r=>by cases Ag i;cases r;exact⟨_,.none,rfl⟩
 | n,.bl b,v,u,_,i,r=>by cases Oq i;cases r;exact⟨_,.bool b,rfl⟩
 | n,.int k,v,u,_,i,r=>by cases M5 i;obtain⟨t,rfl⟩:=r;exact⟨_,.int k t,rfl⟩
 | n,.str x,v,u,_,i,r=>by
  obtain⟨e,hs⟩:=B6 i;subst e;obtain⟨t,rfl⟩:=r;exact⟨_,.str x t,hs.ok⟩
 | n,.tup ds,v,u,h,i,r=>by
  obtain⟨m,_,hx⟩:=B3 h;obtain⟨a,vs,e1,e2,e3⟩:=Ss i;subst e1;cases r;obtain⟨its,rv,⟨o,ho,hc,k,hd⟩,_⟩:=I.tuple e2;obtain⟨as,ra,hl⟩:=Wj.reads I ds vs its hx e3 rv;exact⟨_,.tuple ho hc hd (by simpa using ra),hl⟩
 | n,.lst ds,v,u,h,i,r=>by
  obtain⟨m,_,hx⟩:=B4 h;obtain⟨a,vs,e1,e2,e3⟩:=Su i;subst e1;cases r;obtain⟨its,rv,⟨o,k,ho,hc,_,hd⟩,_⟩:=I.list e2.sq;obtain⟨as,ra,hl⟩:=Wj.reads I ds vs its hx e3 rv;exact⟨_,.list ho hc hd (by simpa using ra),hl⟩
theorem Wj.reads(I:F' X aa σ H s):∀ {n:Nat} (ds:Z Dat) (vs:Z V) (us:Z A1),(∀ x∈ds,pd n x=true)->Wj X.K H ds vs->Y5 vs us->∃ as,ReadsAll s.heap us (Ob ds) as/\PyData.canLayAll0 (Ob ds)=true
 | n,[],vs,us,_,i,r=>by
  rw[Ym i] at r;cases r;exact⟨_,.nil,rfl⟩
 | n,d::ds,vs,us,h,i,r=>by
  obtain⟨v,S,e1,e2,e3⟩:=Y0 i;subst e1;cases r with
  | cons r1 r2 =>
   obtain⟨as,h1,l1⟩:=Rp.reads I d v _ (h d AX) e2 r1;obtain⟨bs,h2,l2⟩:=Wj.reads I ds S _ (λz hz=>h z (BB _ hz)) e3 r2;exact⟨_,.cons h1 h2,by simp only[Ob,PyData.canLayAll0,l1,l2];rfl⟩
end
theorem Rp.eqAt(I:F' X aa σ H s){A:C0}{n m:Nat}{d e:Dat}{v w:V}{R:A1}(hd:pd n d=true)(he:pd m e=true)(hn:n<=60)(C:A.units+60<cLine)(r1:Rp X.K H d v)(r2:Rp X.K H e w)(Y:Yr v u)(q2:Yr w R) :
  SeqAt.EqAt A s u R (Gm d e):=by
 obtain⟨as,a1,a2⟩:=Rp.reads I d v u hd r1 Y;obtain⟨bs,b1,b2⟩:=Rp.reads I e w R he r2 q2;rw[<- Da d e hd he];have:=D8 n d hd;exact SeqAt.eqAt_reads _ _ A s u R as bs a1 b1 a2 b2 (by lia)
end
variable{xs:Z α}{z:Str}
noncomputable def QD:C1 HO->Prop
 | some (.lst _)=>True
 | some (.dK _)=>True
 | some (.dT _)=>True
 | some (.ins _ _ _)=>True
 | some (.tbl _)=>True
 | _=>False
noncomputable def Td(A:AS)(H:Hp):Prop:=∀ a,A a=true->QD (H a)
theorem Td.new(m:Td A H)(h:H p=none):A p=false:=by
 cases q:A p with
 | false=>rfl
 | true=>have:=m p q;rw[h] at this;exact this.elim
theorem Td.mono(m:Td A H)(e:Zr H H'):Td A H':=λa h=>by
 have:=m a h;cases q:H a with
 | none=>rw[q] at this;exact this.elim
 | some o=>rw[q] at this;rw[e a o q];exact this
noncomputable def ins(A:AS)(p:A2):AS:=λa=>A a||a==p
theorem Pd:ins A p p=true:=by simp[ins]
theorem G9{a:A2}(h:A a=true):ins A p a=true:=by simp[ins,h]
theorem Kt{a:A2}(h:ins A p a=true):A a=true\/a=p:=by simpa[ins] using h
theorem iQ{a:A2}(h:A a=false)(hn:a≠p):ins A p a=false:=by simp[ins,h,hn]
structure I3 (A:AS) (H:Hp) (A':AS) (H':Hp):Prop where
 keep:∀ a o,H a=some o->A a=false->H' a=some o
 sub:∀ a,A' a=true->A a=true\/H a=none
theorem I3.refl(A:AS)(H:Hp):I3 A H A H:=⟨λ_ _ h _=>h,λ_ h=>.inl h⟩
theorem I3.same(e:Zr H H'):I3 A H A H':=⟨λa o h _=>e a o h,λ_ h=>.inl h⟩
theorem I3.trans{j f:AS}(a:I3 A H j H1)(b:I3 j H1 f H2):I3 A H f H2 where
 keep:=λc o h hA=>b.keep c o (a.keep c o h hA) (by
  cases q:j c with
  | false=>rfl
  | true =>
   rcases a.sub c q with z | z
   .rw[z] at hA;cases hA
   .rw[z] at h;cases h)
 sub:=λc h=>by
  rcases b.sub c h with z | z
  .exact a.sub c z
  .cases d:A c with
   | true=>exact .inl rfl
   | false =>
    cases q:H c with
    | none=>exact .inr rfl
    | some o=>rw[a.keep c o q d] at z;cases z
theorem I3.av(s:I3 A H A' H'):Zr (av H A) (av H' A'):=λb o e=>by
 obtain⟨h1,h2⟩:=Qs e;refine V7 (s.keep b o h2 h1) ?_;cases q:A' b with
 | false=>rfl
 | true =>
  rcases s.sub b q with z | z
  .rw[z] at h1;cases h1
  .rw[z] at h2;cases h2
inductive GX where
 | nest (dss:List (List Dat)) | dict (kvs:List (List Vn×Dat)) | err (c f:Str) (ns:List Int) | dik (kvs:List (Int×Dat)) | pair (c:Str) (ds:List Dat) | inst (c:Str) (ns:List Str) (ds:List Dat) | here (a:Addr) (d:Dat)
noncomputable def M'(K:J1)(A:AS)(H:Hp)(o:A2->Prop):GX->V->Prop
 | .nest dss,v=>∃ (a:A2) (as:Z A2),v=.ref a/\o a/\dss.length<=sizeLine/\H a=some (.lst (as.map V.ref))/\as.length=dss.length/\as.Nodup/\a∉as/\∀ (n:Nat) b ds,as[n]?=some b->dss[n]?=some ds->o b/\ds.length<=sizeLine/\∃ vs,H b=some (.lst vs)/\Wj K (av H A) ds vs
 | .dict kvs,v=>∃ (a:A2) (us:Z (Z Vn×V)),v=.ref a/\o a/\kvs.length<=sizeLine/\H a=some (.dT us)/\us.map (·.1)=kvs.map (·.1)/\Wj K (av H A) (kvs.map (·.2)) (us.map (·.2))
 | .err c f ns,v=>∃ (e C dx:A2) (j:Z (Str×V)) (a:A2),v=.ref e/\av H A e=some (.ext (RM e C (some dx)))/\Vq K c C/\av H A dx=some (.xd j)/\(∀ g,g≠f->j.lookup g=none)/\j.lookup f=some (.ref a)/\o a/\H a=some (.lst (ns.map V.int))/\ns.length<=sizeLine
 | .dik kvs,v=>∃ (a:A2) (us:Z (Vn×V)),v=.ref a/\o a/\kvs.length<=sizeLine/\H a=some (.dK us)/\us.map (·.1)=kvs.map (λp=>(Sum.inl p.1:Vn))/\Wj K (av H A) (kvs.map (·.2)) (us.map (·.2))
 | .pair c ds,v=>∃ (t a:A2) (us:Z V),v=.ref t/\av H A t=some (.tup [.str c,.ref a])/\LG c/\o a/\ds.length<=sizeLine/\H a=some (.lst us)/\Wj K (av H A) ds us
 | .inst c ns ds,v=>∃ (x C dx:A2) (us:Z V),v=.ref x/\o x/\us.length=ns.length/\H x=some (.ins C dx (ns.zip us))/\Vq K c C/\Wj K (av H A) ds us
 | .here a d,v=>v=.ref a/\Rp K (av H A) d v
theorem M'.frame{o o':A2->Prop}{g:GX}{v:V}(h:M' K A H o g v)(ho:∀ b,o b->o' b)(hf:∀ b x,o b->H b=some x->H' b=some x)(ha:Zr (av H A) (av H' A')):M' K A' H' o' g v:=by
 cases g with
 | nest dss =>
  obtain⟨a,as,e1,e2,e3,e4,e5,T,s,e8⟩:=h;refine⟨a,as,e1,ho a e2,e3,hf _ _ e2 e4,e5,T,s,λn b ds Y q2=>?_⟩;obtain⟨f1,f2,vs,f3,l⟩:=e8 n b ds Y q2;exact⟨ho b f1,f2,vs,hf _ _ f1 f3,l.mono ha⟩
 | dict kvs =>
  obtain⟨a,us,e1,e2,e3,e4,e5,T⟩:=h;exact⟨a,us,e1,ho a e2,e3,hf _ _ e2 e4,e5,T.mono ha⟩
 | err c f ns =>
  obtain⟨x,C,dx,j,a,h1,h2,h3,h4,F,S,m,r,h9⟩:=h;exact⟨x,C,dx,j,a,h1,ha _ _ h2,h3,ha _ _ h4,F,S,ho a m,hf _ _ m r,h9⟩
 | dik kvs =>
  obtain⟨a,us,e1,e2,e3,e4,e5,T⟩:=h;exact⟨a,us,e1,ho a e2,e3,hf _ _ e2 e4,e5,T.mono ha⟩
 | pair c ds =>
  obtain⟨t,a,us,e1,e2,e3,e4,e5,T,s⟩:=h;exact⟨t,a,us,e1,ha _ _ e2,e3,ho a e4,e5,hf _ _ e4 T,s.mono ha⟩
 | inst c ns ds =>
  obtain⟨x,C,dx,us,e1,e2,e3,e4,e5,T⟩:=h;exact⟨x,C,dx,us,e1,ho x e2,e3,hf _ _ e2 e4,e5,T.mono ha⟩
 | here a d=>exact⟨h.1,h.2.mono ha⟩
noncomputable def UO(K:J1)(c:A2):C1 A2:=match K.lookup c with
 | some ⟨_,_,.fields vs,_⟩=>(match (vs[11]?:C1 A1) with
  | some (.ref P)=>some P
  | _=>none)
 | _=>none
noncomputable def Nb(K:J1)(P:A2):Prop:=∃ f o fd c,PySem.W.nsIn K mainGlobals "law" = some (some (.ref f))/\K.lookup f=some o/\o.data=.func fd/\fd.code=.ref c/\UO K c=some P
inductive KQ where
 | un | fz (d:Dat) | pk (d:Dat) | ow (ds:List Dat) | gx (g:GX) | tb
noncomputable abbrev Ev:=Z KQ
noncomputable abbrev Zzu:=Ev->C1 Dat
noncomputable abbrev Zzv:=Ev->C1 (Z Dat)
noncomputable def Bc(K:J1)(A:AS)(H:Hp)(o:A2->Prop):KQ->C1 V->Prop
 | .un,_=>True
 | .fz d,x=>∃ v,x=some v/\Rp K (av H A) d v
 | .pk d,x=>∃ v,x=some v/\Pk K A H d v
 | .ow ds,x=>∃ a vs,x=some (.ref a)/\o a/\ds.length<=sizeLine/\H a=some (.lst vs)/\Wj K (av H A) ds vs
 | .gx g,x=>∃ v,x=some v/\M' K A H o g v
 | .tb,_=>∃ P,Nb K P/\o P/\H P=some (.tbl #[])
structure Bs where
 H₀:Hp
 R:AS
 st:Bool
structure C' (K:J1) (B:Bs) (A:AS) (H:Hp) (σ:St) (env:Ev):Prop where
 h0:Zr B.H₀ H
 r0:∀ a,B.R a=true->∃ o,B.H₀ a=some o
 ra:∀ a,B.R a=true->A a=true
 ar:∀ a,A a=true->B.R a=true\/B.H₀ a=none
 mu:Td A H
 len:σ.length=env.length
 np:B.st=true->∀ (i:Nat) d,env[i]?≠some (.pk d)
 sl:∃ own:Nat->Addr->Prop,(∀ i j a,own i a->own j a->i=j)/\(∀ i a,own i a->A a=true/\B.R a=false) /\
  ∀ (i:Nat) s,env[i]?=some s->∃ x,σ[i]?=some x/\Bc K A H (own i) s x
theorem Bc.mono(e:Zr H H'){o:A2->Prop}{s:KQ}{x:C1 V}(h:Bc K A H o s x):Bc K A H' o s x:=by
 cases s with
 | un=>trivial
 | fz d=>obtain⟨v,e1,e2⟩:=h;exact⟨v,e1,e2.mono (Wp e)⟩
 | pk d=>obtain⟨v,e1,e2⟩:=h;exact⟨v,e1,e2.mono e⟩
 | ow ds=>obtain⟨a,vs,e1,e2,hz,e3,e4⟩:=h;exact⟨a,vs,e1,e2,hz,e _ _ e3,e4.mono (Wp e)⟩
 | gx g=>obtain⟨v,e1,e2⟩:=h;exact⟨v,e1,e2.frame (λ_ z=>z) (λb x _ q=>e b x q) (Wp e)⟩
 | tb=>obtain⟨P,u,W,z2⟩:=h;exact⟨P,u,W,e _ _ z2⟩
theorem C'.mono{B:Bs}{env:Ev}(k:C' K B A H σ env)(e:Zr H H'):C' K B A H' σ env:=by
 obtain⟨own,h1,h2,h4⟩:=k.sl;exact⟨k.h0.trans e,k.r0,k.ra,k.ar,k.mu.mono e,k.len,k.np,own,h1,h2,λi s q=>let ⟨x,q2,J⟩:=h4 i s q;⟨x,q2,J.mono e⟩⟩
noncomputable def Rm(m:Bool)(K:J1)(A:AS)(H:Hp)(d:Dat)(v:V):Prop:=match m with
 | true=>Pk K A H d v
 | false=>Rp K (av H A) d v
variable{env:Ev}
theorem Rm.any{d:Dat}{v:V}(h:Rp K (av H A) d v):Rm m K A H d v:=by
 cases m with
 | true=>exact .inl h
 | false=>exact h
theorem Rm.pk{d:Dat}{v:V}(h:Rm m K A H d v):Pk K A H d v:=by
 cases m with
 | true=>exact h
 | false=>exact .inl h
theorem Rm.mono(e:Zr H H'){d:Dat}{v:V}(h:Rm m K A H d v):Rm m K A H' d v:=by
 cases m with
 | true=>exact Pk.mono e h
 | false=>exact Rp.mono (Wp e) h
noncomputable def Cb(m:Bool)(K:J1)(A:AS)(H:Hp):Z Dat->Z V->Prop
 | [],vs=>vs=[]
 | d::ds,vs=>∃ v r,vs=v::r/\Rm m K A H d v/\Cb m K A H ds r
theorem Cb.rps:∀ {ds:Z Dat} {vs:Z V},Cb false K A H ds vs->Wj K (av H A) ds vs
 | [],vs,h=>by rw[show vs=[] from h];exact Vt
 | _::_,_,⟨v,r,e1,e2,e3⟩=>by rw[e1];exact Wx e2 (Cb.rps e3)
theorem Cb.full:∀ {ds:Z Dat} {vs:Z V},Cb m K A H ds vs->Wj K H ds vs
 | [],vs,h=>by rw[show vs=[] from h];exact Vt
 | _::_,_,⟨v,r,e1,e2,e3⟩=>by rw[e1];exact Wx e2.pk.rp (Cb.full e3)
theorem Cb.one{d:Dat}(h:Cb m K A H [d] vs):∃ v,vs=[v]/\Pk K A H d v:=by
 obtain⟨v,r,e1,e2,e3⟩:=h;exact⟨v,by rw[e1,show r=[] from e3],e2.pk⟩
theorem Cb.two{d d':Dat}(h:Cb m K A H [d,d'] vs):∃ v t,vs=[v,t]/\Pk K A H d v/\Pk K A H d' t:=by
 obtain⟨v,r,e1,e2,t,r',e3,e4,e5⟩:=h;exact⟨v,t,by rw[e1,e3,show r'=[] from e5],e2.pk,e4.pk⟩
noncomputable def Qa(m:Bool)(K:J1)(A:AS)(H:Hp)(d:Dat)(Q:VK):Prop:=∀ v H',Zr H H'->Rm m K A H' d v->Q v H'
noncomputable def X5(K:J1)(A:AS)(H:Hp)(ds:Z Dat)(Q:VK):Prop:=∀ p vs H',ds.length<=sizeLine->Zr H H'->H p=none->H' p=some (.lst vs)->Wj K (av H' (ins A p)) ds vs->Q (.ref p) H'
section
variable{d:Dat}
theorem Qa.mono(h:Qa m K A H d Q)(e:Zr H H'):Qa m K A H' d Q:=λv H2 e2 r=>h v H2 (e.trans e2) r
theorem X5.mono(h:X5 K A H ds Q)(e:Zr H H'):X5 K A H' ds Q:=λp vs H2 hz e2 hn hp r=>h p vs H2 hz (e.trans e2) (e.free hn) hp r
theorem Qa.any(h:Qa m K A H d Q):Qa false K A H d Q:=λv H' e r=>h v H' e (Rm.any r)
theorem Qa.here{v:V}(h:Qa m K A H d Q)(r:Rp K (av H A) d v):Q v H:=h v H (Zr.refl H) (Rm.any r)
theorem Qa.new(h:Qa m K A H (.lst ds) Q)(mu:Td A H):X5 K A H ds Q:=λp vs H' hz e hn hp r=>by
 refine h _ H' e (Rm.any (Kb hz (.inl (.inl (V7 hp (mu.new hn)))) (r.mono (Q6 λa q=>G9 q))))
theorem X5.at(h:X5 K A H ds Q)(hz:ds.length<=sizeLine)(r:Wj K (av H A) ds vs):∀ p,H p=none->Q (.ref p) (W5 H p (.lst vs)):=λp hp=>by
 refine h p vs _ hz (Zr.new hp) hp Zp (r.mono λb o e=>?_);obtain⟨h1,h2⟩:=Qs e;have hb:b≠p:=Y3 h2 hp;exact V7 (by rw[Zh hb];exact h2) (iQ h1 hb)
theorem Qa.tup(h:Qa m K A H (.tup ds) Q)(mu:Td A H)(hz:ds.length<=sizeLine)(r:Wj K (av H A) ds vs):∀ p,H p=none->Q (.ref p) (W5 H p (.tup vs)):=λp hp=>by
 refine h _ _ (Zr.new hp) (Rm.any (B7 hz (.inl ((V7 Zp (mu.new hp)))) (r.mono (Wp (Zr.new hp)))))
end
inductive Tx9(m:Bool)(K:PySem.W.Frag)(f:Zzu)(σ:St)(H:Hp)(Q:VK):Prop
 |mk(env:Ev)(R:Bs)(A:AS)(d:Dat)(k:C' K R A H σ env)(e:f env=some d)(q:Qa m K A H d Q)
def Wn(m:Bool)(X:Cx)(e:C3)(f:Zzu):Prop:=PE X e (Tx9 m X.K f)
noncomputable def LZ(X:Cx)(e:C3)(f:Zzv):Prop:=PE X e λσ H Q=>∃ env R A ds,C' X.K R A H σ env/\f env=some ds/\X5 X.K A H ds Q
noncomputable def Ps(m:Bool)(X:Cx)(es:Z C3)(f:Zzv):Prop:=PA X es λσ H Q=>∃ env R A ds,C' X.K R A H σ env/\f env=some ds/\∀ vs H',Zr H H'->Cb m X.K A H' ds vs->Q vs H'
noncomputable def MB(X:Cx)(e:C3)(f:Ev->C1 Bool):Prop:=PT X e λσ H Q=>∃ env R A b,C' X.K R A H σ env/\f env=some b/\∀ H',Zr H H'->Q b H'
noncomputable def Cz(X:Cx)(e:C3)(f:Ev->C1 Bool):Prop:=PW X e λσ H Q=>∃ env R A b,C' X.K R A H σ env/\f env=some b/\∀ H',Zr H H'->Q b H'
theorem PE.weak{X:Cx}{t t':TE}(h:PE X e t)(w:∀ σ H Q,t' σ H Q->t σ H Q):PE X e t':=λaa s σ H Q I q=>h aa s σ H Q I (w σ H Q q)
theorem PT.weak{X:Cx}(h:PT X e t)(w:∀ σ H Q,t' σ H Q->t σ H Q):PT X e t':=λaa s σ H Q I q=>h aa s σ H Q I (w σ H Q q)
theorem PW.weak{X:Cx}(h:PW X e t)(w:∀ σ H Q,t' σ H Q->t σ H Q):PW X e t':=λd aa s σ H Q I q=>h d aa s σ H Q I (w σ H Q q)
theorem PA.weak{X:Cx}{e:Z C3}{t t':TA}(h:PA X e t)(w:∀ σ H Q,t' σ H Q->t σ H Q):PA X e t':=λpos aa s σ H Q I q=>h pos aa s σ H Q I (w σ H Q q)
theorem PS.weak{X:Cx}{e:Df}{t t':TS}(h:PS X e t)(w:∀ D σ H,t' D σ H->t D σ H):PS X e t':=λaa s σ H D I q=>h aa s σ H D I (w D σ H q)
theorem Dq.weak{X:Cx}{e:Z Df}{t t':TS}(h:Dq X e t)(w:∀ D σ H,t' D σ H->t D σ H):Dq X e t':=λaa s σ H D I q=>h aa s σ H D I (w D σ H q)
section
variable{m:Bool}{X:Cx}{e:C3}{f:Zzu}
theorem Wn.any(h:Wn false X e f):Wn m X e f:=h.weak λ_ _ _ zz=>by obtain⟨env,R,A,d,k,Y,q2⟩:=zz;exact⟨env,R,A,d,k,Y,q2.any⟩
noncomputable def dL(g:Zzv):Ev->C1 Dat:=λenv=>(g env).map .lst
theorem LZ.x{g:Zzv}(h:LZ X e g):Wn m X e (dL g):=h.weak λ_ _ _ M=>by
 obtain⟨env,R,A,d,k,Y,q2⟩:=M;unfold dL at Y;cases q:g env with
 | none=>rw[q] at Y;cases Y
 | some ds =>
  rw[q] at Y;cases Y;exact⟨env,R,A,ds,k,q,q2.new k.mu⟩
theorem bind_some{β:Type}{a:C1 α}{g:α->C1 β}{b:β}(h:a.bind g=some b):∃ x,a=some x/\g x=some b:=by
 cases a with
 | none=>cases h
 | some x=>exact⟨x,rfl,h⟩
noncomputable def U(i:Nat):Ev->C1 Dat:=λenv=>match env[i]? with
 | some (.fz d)=>some d
 | _=>none
noncomputable def Ap:Z (Z Vn×Dat)->C1 (Z (Z Vn×Int))
 | []=>some []
 | (k,.int n)::r=>(Ap r).map ((k,n)::·)
 | _=>none
theorem V':∀ {kvs:Z (Z Vn×Dat)} {b:Z (Z Vn×Int)},Ap kvs=some b->b.length=kvs.length
 | [],b,h=>by cases h;rfl
 | (k,.int n)::r,b,h=>by
   rw[Ap] at h;cases e:Ap r with
   | none=>rw[e] at h;cases h
   | some r'=>rw[e] at h;cases h;rw[BJ,BJ,V' e]
 | (k,.non)::r,b,h=>by cases h
 | (k,.bl _)::r,b,h=>by cases h
 | (k,.str _)::r,b,h=>by cases h
 | (k,.tup _)::r,b,h=>by cases h
 | (k,.lst _)::r,b,h=>by cases h
 | (k,.dct _)::r,b,h=>by cases h
 | (k,.exc _ _)::r,b,h=>by cases h
 | (k,.box _ _)::r,b,h=>by cases h
theorem XH:∀ {kvs:Z (Z Vn×Dat)} {b:Z (Z Vn×Int)} {us:Z (Z Vn×V)},Ap kvs=some b->us.map (·.1)=kvs.map (·.1)->Wj K H (kvs.map (·.2)) (us.map (·.2))->us=OY b
 | [],b,us,h,e1,_=>by
   cases h;cases us with
   | nil=>rfl
   | cons u us=>cases e1
 | (k,.int n)::r,b,us,h,e1,e2=>by
   rw[Ap] at h;cases e:Ap r with
   | none=>rw[e] at h;cases h
   | some r' =>
     rw[e] at h;cases h;cases us with
     | nil=>cases e1
     | cons u us =>
       obtain⟨v,a,W,z2,z3⟩:=Y0 e2;rw[CF] at W;injection W with W z4
       rw[CF,CF] at e1;injection e1 with e1 e3
       have ih:=XH e e3 (z4▸z3);have hv:u.2=.int n:=by rw[W];exact M5 z2
       rw[ih];show u::OY r'=(k,V.int n)::OY r';rw[show u=(k,V.int n) from FW e1 hv]
 | (k,.non)::r,b,us,h,_,_=>by cases h
 | (k,.bl _)::r,b,us,h,_,_=>by cases h
 | (k,.str _)::r,b,us,h,_,_=>by cases h
 | (k,.tup _)::r,b,us,h,_,_=>by cases h
 | (k,.lst _)::r,b,us,h,_,_=>by cases h
 | (k,.dct _)::r,b,us,h,_,_=>by cases h
 | (k,.exc _ _)::r,b,us,h,_,_=>by cases h
 | (k,.box _ _)::r,b,us,h,_,_=>by cases h
noncomputable def dP(i:Nat):Ev->C1 Dat:=λenv=>match env[i]? with
 | some (.fz d)=>some d
 | some (.pk d)=>some d
 | some (.ow ds)=>some (.lst ds)
 | some (.gx (.err c f ns))=>some (.exc c [(f,.nums ns)])
 | some (.gx (.dict kvs))=>(Ap kvs).map .dct
 | _=>none
theorem C'.fz{R:Bs}{d:Dat}(k:C' X.K R A H σ env)(h:env[i]?=some (.fz d)):∃ v,σ[i]?=some (some v)/\Rp X.K (av H A) d v:=by
 obtain⟨own,h1,h2,h4⟩:=k.sl;obtain⟨x,q2,v,e1,e2⟩:=h4 i _ h;subst e1;exact⟨v,q2,e2⟩
theorem C'.look{R:Bs}{d:Dat}(k:C' X.K R A H σ env)(h:dP i env=some d):∃ v,σ[i]?=some (some v)/\Pk X.K A H d v:=by
 obtain⟨own,h1,h2,h4⟩:=k.sl;unfold dP at h;split at h
 .rename_i z e
  cases h;obtain⟨x,q2,v,e1,e2⟩:=h4 i _ e;subst e1;exact⟨v,q2,.inl e2⟩
 .rename_i z e
  cases h;obtain⟨x,q2,v,e1,e2⟩:=h4 i _ e;subst e1;exact⟨v,q2,e2⟩
 .rename_i z e
  cases h;obtain⟨x,q2,a,vs,e1,e2,hz,e3,e4⟩:=h4 i _ e;subst e1;exact⟨.ref a,q2,.inr (.inl ⟨a,vs,z,rfl,rfl,hz,e3,e4⟩)⟩
 .rename_i c f ns e
  cases h;obtain⟨x,q2,v,e1,y,C,dx,j,a,h1,h2,h3,h4,F,S,m,r,h9⟩:=h4 i _ e;subst e1;exact⟨v,q2,.inr (.inr (.inl ⟨c,f,ns,rfl,y,C,dx,j,a,h1,(Qs h2).2,h3,(Qs h4).2,F,S,r,h9⟩))⟩
 .rename_i kvs e
  obtain⟨x,q2,v,e1,a,us,g1,g2,g3,g4,g5,g6⟩:=h4 i _ e;subst e1;cases G:Ap kvs with
  | none=>rw[G] at h;cases h
  | some b =>
   rw[G] at h;cases h;exact⟨v,q2,.inr (.inr (.inr ⟨b,a,rfl,g1,by rw[V' G];exact g3,by rw[g4,XH G g5 g6]⟩))⟩
 .cases h
theorem xv(i:Nat){x:Str}{pos:Pos}(hN:X.N[i]?=some x:=by rfl)(hv:LU X.env.scope x:=by ext)(hd:C2 x:=by decide)
  (ae:(x==("__classdict__" : Str))=false:=by decide):Wn m X (.Name x pos) (U i):=Wn.any ((Jm hN hv hd ae).weak λσ H Q M=>by
 obtain⟨env,R,A,d,k,Y,q2⟩:=M;unfold U at Y;split at Y
 .rename_i z e
  cases Y;obtain⟨v,h1,h2⟩:=k.fz e;exact⟨v,h1,q2.here h2⟩
 .cases Y)
theorem xo(i:Nat){x:Str}(hN:X.N[i]?=some x:=by rfl)(hv:LU X.env.scope x:=by ext)(hd:C2 x:=by decide)
  (ae:(x==("__classdict__" : Str))=false:=by decide):Wn true X (.Name x pos) (dP i):=(Jm hN hv hd ae).weak λσ H Q M=>by
 obtain⟨env,R,A,d,k,Y,q2⟩:=M;obtain⟨v,h1,h2⟩:=k.look Y;exact⟨v,h1,q2 v H (Zr.refl H) h2⟩
noncomputable def dC(d:Dat):Ev->C1 Dat:=λ_=>some d
noncomputable abbrev Φ(n:Nat):KQ:=.fz (.int (n:Int))
noncomputable abbrev Ψ(n:Nat):Dat:=.int (n:Int)
noncomputable abbrev Θ(n:Int):=dC (.int n)
theorem YX{i:Int}{j pos}:Wn m X (.Constant (.int i) j pos) (dC (.int i)):=Wn.any (gF.weak λ_ _ _ zz=>by obtain⟨_,_,_,_,_,Y,q2⟩:=zz;cases Y;exact q2.here W9)
theorem cy{b:Bool}{j pos}:Wn m X (.Constant (.bool b) j pos) (dC (.bl b)):=Wn.any (mV.weak λ_ _ _ zz=>by obtain⟨_,_,_,_,_,Y,q2⟩:=zz;cases Y;exact q2.here Tf)
theorem VR{j pos}:Wn m X (.Constant .none j pos) (dC .non):=Wn.any (lC.weak λ_ _ _ zz=>by obtain⟨_,_,_,_,_,Y,q2⟩:=zz;cases Y;exact q2.here Pg)
theorem QL{x:Str}{j pos}(h:LG x:=by ext):Wn m X (.Constant (.str x) j pos) (dC (.str x)):=Wn.any (YI.weak λ_ _ _ zz=>by obtain⟨_,_,_,_,_,Y,q2⟩:=zz;cases Y;exact q2.here (Rb h))
theorem j6{x:Str}{v:V}{d:Dat}(hg:Gl X x)(hm:X.mg x=some u)(r:Yr v u)(hr:∀ H,Rp X.K H d v)(hd:C2 x:=by decide):Wn m X (.Name x pos) (dC d) :=
 Wn.any ((dY hg hm r hd).weak λ_ _ _ zz=>by obtain⟨_,_,_,_,_,Y,q2⟩:=zz;cases Y;exact q2.here (hr _))
end
variable{g:Dat->Ev->C1 Ev}{t:Ev->C1 Bool}{B:Bs}
noncomputable def rD(K:J1)(F:Dat->Dat->C1 Dat):R2:=λv u H Q=>∃ A x y d,Td A H/\F x y=some d/\Pk K A H x v/\Pk K A H y u/\Qa false K A H d Q
noncomputable def rN(K:J1)(F:Dat->Dat->C1 (Z Dat)):R2:=λv u H Q=>∃ A x y ds,Td A H/\F x y=some ds/\Pk K A H x v/\Pk K A H y u/\X5 K A H ds Q
noncomputable def S6(X:Cx)(f:A1->A1->Sem A1)(F:Dat->Dat->C1 Dat):Prop:=Dx X f (rD X.K F)
noncomputable def QS(X:Cx)(f:A1->A1->Sem A1)(F:Dat->Dat->C1 (Z Dat)):Prop:=Dx X f (rN X.K F)
theorem Dx.weak{X:Cx}{r r':R2}(h:Dx X f r)(w:∀ x y H Q,r' x y H Q->r x y H Q):Dx X f r':=λaa s σ H x y v u Q I S m q=>h aa s σ H x y v u Q I S m (w _ _ _ _ q)
theorem QS.d{X:Cx}{F:Dat->Dat->C1 (Z Dat)}(h:QS X f F):S6 X f (λx y=>(F x y).map .lst):=Dx.weak h λv u H Q M=>by
 obtain⟨A,x,y,d,mu,e,p1,p2,q⟩:=M;dsimp only at e;cases z:F x y with
 | none=>rw[z] at e;cases e
 | some ds=>rw[z] at e;cases e;exact⟨A,x,y,ds,mu,z,p1,p2,q.new mu⟩
noncomputable def dO(F:Dat->Dat->C1 α)(f g:Zzu):Ev->C1 α:=λenv=>(f env).bind λx=>(g env).bind λy=>F x y
section
variable{m m1 m2:Bool}{X:Cx}{a b:C3}{f g:Zzu}{F:Dat->Dat->C1 Dat}{G:Dat->Dat->C1 (Z Dat)}{pos:Pos}
theorem two{r:R2}{R:Bs}{x y:Dat}(k:C' X.K R A H σ env)(e1:f env=some x)(e2:g env=some y)
  (h:∀ v u H2,Zr H H2->Pk X.K A H2 x v->Pk X.K A H2 y u->Td A H2->r v u H2 Q) :
  OW r (Tx9 m1 X.K f) (Tx9 m2 X.K g) σ H Q :=
 ⟨env,R,A,x,k,e1,λv H1 s1 p1=>⟨env,R,A,y,k.mono s1,e2,λu H2 s2 p2=>h v u H2 (s1.trans s2) (p1.pk.mono s2) p2.pk (k.mu.mono (s1.trans s2))⟩⟩
theorem Gx{F:Dat->Dat->C1 α}{d:α}(h:dO F f g env=some d):∃ x y,f env=some x/\g env=some y/\F x y=some d:=by
 obtain⟨x,e1,h⟩:=bind_some h;obtain⟨y,e2,h⟩:=bind_some h;exact⟨x,y,e1,e2,h⟩
theorem YU{op:Operator}(ho:S6 X (binaryOp op) F)(ha:Wn m1 X a f)(hb:Wn m2 X b g):Wn m X (.BinOp a op b pos) (dO F f g):=Wn.any ((Z' ho ha hb).weak λσ H Q M=>by
 obtain⟨env,R,A,d,k,Y,q2⟩:=M;obtain⟨x,y,e1,e2,e3⟩:=Gx Y;exact two k e1 e2 λv u H2 s p1 p2 mu=>⟨A,x,y,d,mu,e3,p1,p2,q2.mono s⟩)
theorem RS{op:Operator}(ho:QS X (binaryOp op) G)(ha:Wn m1 X a f)(hb:Wn m2 X b g):LZ X (.BinOp a op b pos) (dO G f g):=(Z' ho ha hb).weak λσ H Q M=>by
 obtain⟨env,R,A,d,k,Y,q2⟩:=M;obtain⟨x,y,e1,e2,e3⟩:=Gx Y;exact two k e1 e2 λv u H2 s p1 p2 mu=>⟨A,x,y,d,mu,e3,p1,p2,q2.mono s⟩
theorem iF{op:CmpOp}(ho:S6 X (compareOp op) F)(ha:Wn m1 X a f)(hb:Wn m2 X b g)(hm:behindInMarks op b=false):Wn m X (.Compare a [op] [b] pos) (dO F f g):=Wn.any ((i7 ho ha hb hm).weak λσ H Q M=>by
 obtain⟨env,R,A,d,k,Y,q2⟩:=M;obtain⟨x,y,e1,e2,e3⟩:=Gx Y;exact two k e1 e2 λv u H2 s p1 p2 mu=>⟨A,x,y,d,mu,e3,p1,p2,q2.mono s⟩)
noncomputable def dB(f:Zzu):Ev->C1 Bool:=λenv=>match f env with
 | some (.bl b)=>some b
 | _=>none
theorem No{b:Bool}(h:dB f env=some b):f env=some (.bl b):=by
 unfold dB at h;split at h
 .rename_i z e;cases h;exact e
 .cases h
theorem Vd(ho:S6 X (compareOp op) F)(ha:Wn m1 X a f)(hb:Wn m2 X b g)(hm:behindInMarks op b=false):MB X (.Compare a [op] [b] pos) (dB (dO F f g)):=(ji ho ha hb hm).weak λσ H Q M=>by
 obtain⟨env,R,A,d,k,Y,q2⟩:=M;obtain⟨x,y,e1,e2,e3⟩:=Gx (No Y);show OW (rD X.K F) _ _ σ H (λx H'=>∃ k,x=.bl k/\Q k H');exact two k e1 e2 λv u H2 s p1 p2 mu=>⟨A,x,y,.bl d,mu,e3,p1,p2,λv H' s' r=>⟨d,r.pk.bl,q2 H' (s.trans s')⟩⟩
theorem cE(ho:LV X (rD X.K F))(ha:Wn m1 X a f)(hb:Wn m2 X b g)(hs:Nr b:=by exactλ_ _=>rfl):Wn m X (.Subscript a b pos) (dO F f g):=Wn.any ((UH ho ha hb hs).weak λσ H Q M=>by
 obtain⟨env,R,A,d,k,Y,q2⟩:=M;obtain⟨x,y,e1,e2,e3⟩:=Gx Y;exact two k e1 e2 λv u H2 s p1 p2 mu=>⟨A,x,y,d,mu,e3,p1,p2,q2.mono s⟩)
end
section
variable{m1 m2:Bool}{X:Cx}{a b c:C3}{f g h:Zzu}{u:Ev->C1 Bool}
noncomputable def Ii(t u:Ev->C1 Bool):Ev->C1 Bool:=λenv=>(t env).bind λb=>if b=true then u env else some false
noncomputable def Py(t u:Ev->C1 Bool):Ev->C1 Bool:=λenv=>(t env).bind λb=>if b=true then some true else u env
noncomputable def Jf(t:Ev->C1 Bool):Ev->C1 Bool:=λenv=>(t env).map (!·)
theorem Pb(ha:MB X a t):Cz X (.BoolOp .And [a] pos) t:=fX ha
theorem RB(ha:MB X a t):Cz X (.BoolOp .Or [a] pos) t:=lA ha
theorem Xg(ha:MB X a t)(hb:Cz X (.BoolOp .And (b::aj) pos) u):Cz X (.BoolOp .And (a::b::aj) pos) (Ii t u):=(d8 ha hb).weak λσ H Q M=>by
 obtain⟨env,R,A,d,k,Y,q2⟩:=M;obtain⟨x,e1,e2⟩:=bind_some Y;refine⟨env,R,A,x,k,e1,λH1 s1=>?_⟩;cases x with
 | true =>
  rw[AH rfl] at e2 ⊢;exact⟨env,R,A,d,k.mono s1,e2,λH2 s2=>q2 H2 (s1.trans s2)⟩
 | false =>
  rw[AM CU] at e2 ⊢;cases e2;exact q2 H1 s1
theorem NZ(ha:MB X a t)(hb:Cz X (.BoolOp .Or (b::aj) pos) u):Cz X (.BoolOp .Or (a::b::aj) pos) (Py t u):=(f7 ha hb).weak λσ H Q M=>by
 obtain⟨env,R,A,d,k,Y,q2⟩:=M;obtain⟨x,e1,e2⟩:=bind_some Y;refine⟨env,R,A,x,k,e1,λH1 s1=>?_⟩;cases x with
 | true =>
  rw[AH rfl] at e2 ⊢;cases e2;exact q2 H1 s1
 | false =>
  rw[AM CU] at e2 ⊢;exact⟨env,R,A,d,k.mono s1,e2,λH2 s2=>q2 H2 (s1.trans s2)⟩
theorem Cz.pt(h:Cz X e t):MB X e t:=PW.pt h
theorem Cn(ha:MB X a t):MB X (.UnaryOp .Not a pos) (Jf t):=(fq ha).weak λσ H Q M=>by
 obtain⟨env,R,A,d,k,Y,q2⟩:=M;unfold Jf at Y;cases e:t env with
 | none=>rw[e] at Y;cases Y
 | some x =>
  rw[e] at Y;cases Y;exact⟨env,R,A,x,k,e,λH1 s1=>q2 H1 s1⟩
noncomputable def QR(f g:Zzu):Ev->C1 Dat:=λenv=>(dB f env).bind λb=>if b=true then some (.bl true) else g env
noncomputable def OM(f:Zzu):Ev->C1 Dat:=λenv=>(dB f env).map λb=>.bl (!b)
theorem jY{op}(ha:Wn m X a f):Wn m X (.BoolOp op [a] pos) f:=dG ha
theorem cc(ha:Wn m1 X a f)(hb:Wn false X (.BoolOp .Or (b::aj) pos) g):Wn m X (.BoolOp .Or (a::b::aj) pos) (QR f g):=Wn.any ((kA ha hb).weak λσ H Q M=>by
 obtain⟨env,R,A,d,k,Y,q2⟩:=M;obtain⟨x,e1,e2⟩:=bind_some Y;refine⟨env,R,A,.bl x,k,No e1,λv H1 s1 p1=>⟨x,p1.pk.bl,?_⟩⟩;cases x with
 | true =>
  rw[AH rfl] at e2 ⊢;cases e2;exact(q2.mono s1).here Tf
 | false =>
  rw[AM CU] at e2 ⊢;exact⟨env,R,A,d,k.mono s1,e2,q2.mono s1⟩)
theorem lT(ha:Wn m1 X a f):Wn m X (.UnaryOp .Not a pos) (OM f):=Wn.any ((gU ha).weak λσ H Q M=>by
 obtain⟨env,R,A,d,k,Y,q2⟩:=M;unfold OM at Y;cases e:dB f env with
 | none=>rw[e] at Y;cases Y
 | some x =>
  rw[e] at Y;cases Y;exact⟨env,R,A,.bl x,k,No e,λv H1 s1 p1=>⟨x,p1.pk.bl,(q2.mono s1).here Tf⟩⟩)
noncomputable def dm:Dat->C1 Bool
 | .non=>some false
 | .bl b=>some b
 | .int i=>some (i != 0)
 | .str y=>some ((y.length:Int) != 0)
 | .lst xs=>some (!xs.isEmpty)
 | .tup xs=>some (!xs.isEmpty)
 | _=>none
noncomputable def dT(f:Zzu):Ev->C1 Bool:=λenv=>(f env).bind dm
theorem L5(r:Wj K H ds vs):vs.isEmpty=ds.isEmpty:=by
 cases ds with
 | nil=>rw[Ym r];rfl
 | cons d ds=>obtain⟨v,r',e,_⟩:=Y0 r;rw[e];rfl
theorem Hk(ha:Wn true X a f)(he:∀ c,isTrue a X.env c=(do let v <- c;standAt a.pos;holding [v] (truthy v)):=by intro _;rfl):MB X a (dT f):=(ki ha he).weak λσ H Q M=>by
 obtain⟨env,R,A,b,k,Y,q2⟩:=M;obtain⟨x,e1,e2⟩:=bind_some Y;refine⟨env,R,A,x,k,e1,λv H1 s1 p1=>⟨b,?_,q2 H1 s1⟩⟩;have p:Pk X.K A H1 x v:=p1;cases x with
 | non=>cases e2;rw[p.non];rfl
 | bl b'=>cases e2;rw[p.bl];rfl
 | int i=>cases e2;rw[p.int];rfl
 | str y=>cases e2;obtain⟨e,h⟩:=p.str;rw[e];exact⟨h.le,rfl⟩
 | lst xs=>cases e2;obtain⟨a',vs,e,h1,h2⟩:=p.lst;rw[e];exact .inl ⟨vs,h1.sq,by rw[L5 h2]⟩
 | tup xs=>cases e2;obtain⟨a',vs,e,h1,h2⟩:=p.tup;rw[e];exact .inr (.inl ⟨vs,h1,by rw[L5 h2]⟩)
 | dct _=>cases e2
 | exc _ _=>cases e2
 | box _ _=>cases e2
end
section
variable{m:Bool}{X:Cx}{e:C3}{es:Z C3}{f:Zzu}{fs:Zzv}{pos:Pos}
noncomputable def Zb:Ev->C1 (Z Dat):=λ_=>some []
noncomputable def O(f:Zzu)(fs:Zzv):Ev->C1 (Z Dat):=λenv=>(f env).bind λd=>(fs env).map λds=>d::ds
theorem Z8:Ps m X [] Zb:=Ux.weak λσ H Q zz=>by obtain⟨env,R,A,ds,k,Y,q2⟩:=zz;cases Y;exact q2 [] H (Zr.refl H) rfl
theorem L(ha:Wn m X e f)(hr:Ps m X es fs)(hs:Z0 X.env e es:=by rfl):Ps m X (e::es) (O f fs):=(Wy ha hr hs).weak λσ H Q M=>by
 obtain⟨env,R,A,ds,k,Y,q2⟩:=M;obtain⟨d,e1,e2⟩:=bind_some Y;cases e3:fs env with
 | none=>rw[e3] at e2;cases e2
 | some r =>
  rw[e3] at e2;cases e2;exact⟨env,R,A,d,k,e1,λv H1 s1 p1=>⟨env,R,A,r,k.mono s1,e3,λvs H2 s2 p2=>q2 (v::vs) H2 (s1.trans s2) ⟨v,vs,rfl,p1.mono s2,p2⟩⟩⟩
noncomputable def W6(fs:Zzv):Ev->C1 Dat:=λenv=>(fs env).bind λds=>if ds.length<=1000 then some (.tup ds) else none
noncomputable def Ud(fs:Zzv):Ev->C1 (Z Dat):=λenv=>(fs env).bind λds=>if ds.length<=1000 then some ds else none
theorem XZ{x1}(h:Ps false X es fs):Wn m X (.Tuple es x1 pos) (W6 fs):=Wn.any ((dE h).weak λσ H Q M=>by
 obtain⟨env,R,A,d,k,Y,q2⟩:=M;obtain⟨ds,e1,e2⟩:=bind_some Y;split at e2
 .rename_i hz
  cases e2;have n:ds.length<=sizeLine:=EJ (Tq hz);refine⟨env,R,A,ds,k,e1,λvs H1 s1 p1=>⟨?_,(q2.mono s1).tup (k.mu.mono s1) n p1.rps⟩⟩;rw[Y6 p1.rps];exact n
 .cases e2)
theorem Qn(h:Ps false X es fs):LZ X (.List es pos) (Ud fs):=(YS h).weak λσ H Q M=>by
 obtain⟨env,R,A,d,k,Y,q2⟩:=M;obtain⟨ds,e1,e2⟩:=bind_some Y;split at e2
 .rename_i hz
  cases e2;have n:d.length<=sizeLine:=EJ (Tq hz);refine⟨env,R,A,d,k,e1,λvs H1 s1 p1=>⟨?_,(q2.mono s1).at n p1.rps⟩⟩;rw[Y6 p1.rps];exact n
 .cases e2
noncomputable def Lo(X:Cx)(f:A1)(F:Z Dat->C1 Dat):Prop:=U4 X f (λvs H Q=>∃ A ds d,Td A H/\F ds=some d/\Cb true X.K A H ds vs/\Qa false X.K A H d Q)
noncomputable def QZ(X:Cx)(f:A1)(F:Z Dat->C1 (Z Dat)):Prop:=U4 X f (λvs H Q=>∃ A ds d,Td A H/\F ds=some d/\Cb true X.K A H ds vs/\X5 X.K A H d Q)
theorem U4.weak{f:A1}{r r':Z V->Hp->VK->Prop}(h:U4 X f r)(w:∀ xs H Q,r' xs H Q->r xs H Q):U4 X f r':=λaa s σ H xs us Q I rv q=>h aa s σ H xs us Q I rv (w _ _ _ q)
noncomputable def dF(F:Z Dat->C1 α)(fs:Zzv):Ev->C1 α:=λenv=>(fs env).bind F
variable{x:Str}{p:Pos}{id T:String}{F:Z Dat->C1 Dat}{G:Z Dat->C1 (Z Dat)}
theorem YR(hc:Lo X (.builtin id) F)(hm:X.mg x=none)(ha:Ps true X (e::es) fs)(hg:Gl X x:=by rfl)(hv:bootBuiltins x=some (.builtin id):=by ext)(hn:x≠"__name__" := by decide)(g:C2 x:=by decide)
  (he:Z0 X.env e es:=by rfl) (ag:Z1 pos X.env es:=by rfl):Wn m X (.Call (.Name x p) (e::es) [] pos) (dF F fs) :=
 Wn.any ((XJ hc hg hm hv ha hn g he ag).weak λσ H Q M=>by
  obtain⟨env,R,A,d,k,Y,q2⟩:=M;obtain⟨ds,e1,e2⟩:=bind_some Y;exact⟨env,R,A,ds,k,e1,λvs H1 s1 p1=>⟨A,ds,d,k.mu.mono s1,e2,p1,q2.mono s1⟩⟩)
theorem Ql(hc:Lo X (.type T) F)(hm:X.mg x=none)(ha:Ps true X (e::es) fs)(hg:Gl X x:=by rfl)(hv:bootBuiltins x=some (.type T):=by ext)(hn:x≠"__name__" := by decide)(g:C2 x:=by decide)
  (he:Z0 X.env e es:=by rfl) (ag:Z1 pos X.env es:=by rfl):Wn m X (.Call (.Name x p) (e::es) [] pos) (dF F fs) :=
 Wn.any ((Mp hc hg hm hv ha hn g he ag).weak λσ H Q M=>by
  obtain⟨env,R,A,d,k,Y,q2⟩:=M;obtain⟨ds,e1,e2⟩:=bind_some Y;exact⟨env,R,A,ds,k,e1,λvs H1 s1 p1=>⟨A,ds,d,k.mu.mono s1,e2,p1,q2.mono s1⟩⟩)
theorem Aw(hc:QZ X (.builtin id) G)(hm:X.mg x=none)(ha:Ps true X (e::es) fs)(hg:Gl X x:=by rfl)(hv:bootBuiltins x=some (.builtin id):=by ext)(hn:x≠"__name__" := by decide)(g:C2 x:=by decide)
  (he:Z0 X.env e es:=by rfl) (ag:Z1 pos X.env es:=by rfl):LZ X (.Call (.Name x p) (e::es) [] pos) (dF G fs) :=
 (XJ hc hg hm hv ha hn g he ag).weak λσ H Q M=>by
  obtain⟨env,R,A,d,k,Y,q2⟩:=M;obtain⟨ds,e1,e2⟩:=bind_some Y;exact⟨env,R,A,ds,k,e1,λvs H1 s1 p1=>⟨A,ds,d,k.mu.mono s1,e2,p1,q2.mono s1⟩⟩
theorem WU(hc:QZ X (.type T) G)(hm:X.mg x=none)(ha:Ps true X (e::es) fs)(hg:Gl X x:=by rfl)(hv:bootBuiltins x=some (.type T):=by ext)(hn:x≠"__name__" := by decide)(g:C2 x:=by decide)
  (he:Z0 X.env e es:=by rfl) (ag:Z1 pos X.env es:=by rfl):LZ X (.Call (.Name x p) (e::es) [] pos) (dF G fs) :=
 (Mp hc hg hm hv ha hn g he ag).weak λσ H Q M=>by
  obtain⟨env,R,A,d,k,Y,q2⟩:=M;obtain⟨ds,e1,e2⟩:=bind_some Y;exact⟨env,R,A,ds,k,e1,λvs H1 s1 p1=>⟨A,ds,d,k.mu.mono s1,e2,p1,q2.mono s1⟩⟩
end
section
variable{m m1:Bool}{X:Cx}{o e:C3}{es:Z C3}{f:Zzu}{fs:Zzv}{pos au ak:Pos}{name:Str}{T id:String}{α:Type}
noncomputable def OK(T:String):Dat->Bool
 | .str _=>T=="str"
 | .int _=>T=="int"
 | .lst _=>T=="list"
 | _=>false
theorem ij{d:Dat}{v:V}(h:OK T d=true)(p:Pk K A H d v):VJ K T v H:=by
 cases d with
 | str x=>rw[p.str.1];show T="str";simpa[OK] using h
 | int x=>rw[p.int];show T="int";simpa[OK] using h
 | lst x=>obtain⟨a,vs,e,h1,h2⟩:=p.lst;rw[e];exact .inl ⟨by simpa[OK] using h,vs,h1.sq⟩
 | _=>cases h
noncomputable def bE(X:Cx)(id:String)(F:Dat->Z Dat->C1 Dat):Prop:=MZ X id (λv vs H Q=>∃ A x ds d,Td A H/\F x ds=some d/\Pk X.K A H x v/\Cb true X.K A H ds vs/\Qa false X.K A H d Q)
noncomputable def dM(T:String)(F:Dat->Z Dat->C1 α)(f:Zzu)(fs:Zzv):Ev->C1 α:=λenv=>(f env).bind λx=>if OK T x=true then(fs env).bind λds=>F x ds else none
theorem hR{F:Dat->Z Dat->C1 α}{d:α}(h:dM T F f fs env=some d):∃ x ds,f env=some x/\OK T x=true/\fs env=some ds/\F x ds=some d:=by
 obtain⟨x,e1,h⟩:=bind_some h;split at h
 .rename_i ht
  obtain⟨ds,e2,h⟩:=bind_some h;exact⟨x,ds,e1,ht,e2,h⟩
 .cases h
theorem MZ.weak{r r':V->Z V->Hp->VK->Prop}(h:MZ X id r)(w:∀ x xs H Q,r' x xs H Q->r x xs H Q):MZ X id r':=λaa s σ H x xs v us Q I S rv q=>h aa s σ H x xs v us Q I S rv (w _ _ _ _ q)
variable{F:Dat->Z Dat->C1 Dat}{G:Dat->Z Dat->C1 (Z Dat)}
theorem SI(pa:PlainAttrs T)(slot:Slot T name id)(n:typeOf (.builtin id)=pure (.type "method_descriptor"))(hm:bE X id F)(ho:Wn m1 X o f)(ha:Ps true X (e::es) fs)
  (u:attributeBase o name X.env (eval o X.env)=eval o X.env:=by rfl)
  (S:((backTo ak (starEach (e::es) X.env)).all (λx=>!x.1)&&(backToKw ak (keywordEach [] X.env)).all (λx=>x.1.isSome)
   && decide ((e::es).length+([]:Z Keyword).length+(if([]:Z Keyword).isEmpty then 0 else 1)<30))=true:=by rfl)
  (E:(au.endLine==ak.line)=true:=by rfl) (hs:Z0 X.env e es:=by rfl) (C:Z1 ak X.env es:=by rfl) :
  Wn m X (.Call (.Attribute o name au) (e::es) [] ak) (dM T F f fs):=Wn.any ((QX pa slot n hm ho ha u S E hs C).weak λσ H Q M=>by
 obtain⟨env,R,A,d,k,Y,q2⟩:=M;obtain⟨x,ds,e1,ht,e2,e3⟩:=hR Y;exact⟨env,R,A,x,k,e1,λv H1 s1 p1=>⟨ij ht p1.pk,env,R,A,ds,k.mono s1,e2,λvs H2 s2 p2=>⟨A,x,ds,d,k.mu.mono (s1.trans s2),e3,p1.pk.mono s2,p2,q2.mono (s1.trans s2)⟩⟩⟩)
noncomputable def QO(X:Cx)(e:C1 C3)(f:Ev->C1 (C1 Int)):Prop:=PO X e λσ H Q=>∃ env R A i,C' X.K R A H σ env/\f env=some i/\∀ H',Zr H H'->Q i H'
noncomputable def E2:Ev->C1 (C1 Int):=λ_=>some none
noncomputable def U1(f:Zzu):Ev->C1 (C1 Int):=λenv=>match f env with
 | some (.int i)=>some (some i)
 | _=>none
theorem PO.weak{e:C1 C3}{t t':TO}(h:PO X e t)(w:∀ σ H Q,t' σ H Q->t σ H Q):PO X e t':=λaa s σ H Q I q=>h aa s σ H Q I (w σ H Q q)
theorem Sh:QO X none E2:=l8.weak λσ H Q zz=>by obtain⟨env,R,A,i,k,Y,q2⟩:=zz;cases Y;exact q2 H (Zr.refl H)
theorem Qo(h:Wn m X e f):QO X (some e) (U1 f):=(ig h).weak λσ H Q M=>by
 obtain⟨env,R,A,i,k,Y,q2⟩:=M;unfold U1 at Y;split at Y
 .rename_i n e1
  cases Y;exact⟨env,R,A,_,k,e1,λv H1 s1 p1=>⟨n,p1.pk.int,q2 H1 s1⟩⟩
 .cases Y
noncomputable def UF(X:Cx)(F:Dat->C1 Int->C1 Int->C1 Dat):Prop:=LR X (λv lo hi H Q=>∃ A x d,Td A H/\F x lo hi=some d/\Pk X.K A H x v/\Qa false X.K A H d Q)
noncomputable def dS(F:Dat->C1 Int->C1 Int->C1 α)(f:Zzu)(g h:Ev->C1 (C1 Int)):Ev->C1 α:=λenv=>(f env).bind λx=>(g env).bind λl=>(h env).bind λu=>F x l u
variable{lo hi:C1 C3}{gl gh:Ev->C1 (C1 Int)}{p2:Pos}
theorem dr{F:Dat->C1 Int->C1 Int->C1 α}{d:α}(h:dS F f gl gh env=some d):∃ x l u,f env=some x/\gl env=some l/\gh env=some u/\F x l u=some d:=by
 obtain⟨x,e1,h⟩:=bind_some h;obtain⟨l,e2,h⟩:=bind_some h;obtain⟨u,e3,h⟩:=bind_some h;exact⟨x,l,u,e1,e2,e3,h⟩
theorem WV{F:Dat->C1 Int->C1 Int->C1 Dat}(hr:UF X F)(he:Wn m1 X e f)(hl:QO X lo gl)(C:QO X hi gh):Wn m X (.Subscript e (.Slice lo hi none p2) pos) (dS F f gl gh):=Wn.any ((jt hr he hl C).weak λσ H Q M=>by
 obtain⟨env,R,A,d,k,Y,q2⟩:=M;obtain⟨x,l,u,e1,e2,e3,e4⟩:=dr Y;exact⟨env,R,A,x,k,e1,λv H1 s1 p1=>⟨env,R,A,l,k.mono s1,e2,λH2 s2=>⟨env,R,A,u,k.mono (s1.trans s2),e3,λG P=>⟨A,x,d,k.mu.mono ((s1.trans s2).trans P),e4,p1.pk.mono (s2.trans P),q2.mono ((s1.trans s2).trans P)⟩⟩⟩⟩)
noncomputable def bh(X:Cx)(g:A1->Sem A1)(F:Dat->C1 Dat):Prop:=NI X g (λv H Q=>∃ A x d,Td A H/\F x=some d/\Pk X.K A H x v/\Qa false X.K A H d Q)
noncomputable def dU(F:Dat->C1 Dat)(f:Zzu):Ev->C1 Dat:=λenv=>(f env).bind F
theorem bY{op:UnaryOp}{F:Dat->C1 Dat}(ho:bh X (unaryOp op) F)(ha:Wn m1 X e f):Wn m X (.UnaryOp op e pos) (dU F f):=Wn.any ((dH ho ha).weak λσ H Q M=>by
 obtain⟨env,R,A,d,k,Y,q2⟩:=M;obtain⟨x,e1,e2⟩:=bind_some Y;exact⟨env,R,A,x,k,e1,λv H1 s1 p1=>⟨A,x,d,k.mu.mono s1,e2,p1.pk,q2.mono s1⟩⟩)
end
section
variable{X:Cx}
noncomputable def Be(C:Int->Int->Prop)[∀ i j,Decidable (C i j)](g:Int->Int->Dat):Dat->Dat->C1 Dat
 | .int i,.int j=>if C i j then some (g i j) else none
 | _,_=>none
theorem Pc{C:Int->Int->Prop}[∀ i j,Decidable (C i j)]{g:Int->Int->V}(h:Dx X f (rI C g))(hg:∀ K H i j,Rp K H (G i j) (g i j)):S6 X f (Be C G):=h.weak λv u H Q M=>by
 obtain⟨A,x,y,d,mu,e,p1,p2,q⟩:=M;unfold Be at e;split at e
 .rename_i i j
  split at e
  .rename_i hc
   cases e;exact⟨i,j,p1.int,p2.int,hc,q.here (hg _ _ _ _)⟩
  .cases e
 .cases e
theorem Ls{g:Int->Int->V}(h:Dx X f (MG g))(hg:∀ K H i j,Rp K H (G i j) (g i j)):S6 X f (Be (λ_ _=>True) G):=h.weak λv u H Q M=>by
 obtain⟨A,x,y,d,mu,e,p1,p2,q⟩:=M;unfold Be at e;split at e
 .rename_i i j
  rw[AH trivial] at e;cases e;exact⟨i,j,p1.int,p2.int,q.here (hg _ _ _ _)⟩
 .cases e
instance:∀ i j,Decidable (NY i j):=λi j=>by unfold NY;infer_instance
instance:∀ i j,Decidable (QJ i j):=λi j=>by unfold QJ;infer_instance
instance:∀ i j,Decidable (SG i j):=λi j=>by unfold SG;infer_instance
noncomputable def Aj:=Be (λ_ _=>True) λi j=>.int (i - j)
noncomputable def V0:=Be QJ λi j=>.int (i / j)
noncomputable def Vc:=Be (λ_ j=>0<j) λi j=>.int (i % j)
noncomputable def Ds:=Be SG λi j=>.int (i*2^j.toNat)
noncomputable def Ph:=Be (λ_ j=>0<=j) λi j=>.int (i / 2^j.toNat)
noncomputable def M9:=Be (λ_ _=>True) λi j=>.int (Builtin.bitAnd i j)
noncomputable def MF:=Be (λ_ _=>True) λi j=>.int (Builtin.bitOr i j)
noncomputable def Pw:=Be (λ_ _=>True) λi j=>.int (Builtin.bitXor i j)
noncomputable def PD:=Be (λ_ _=>True) λi j=>.bl (decide (i<j))
noncomputable def PR:=Be (λ_ _=>True) λi j=>.bl (decide (j<i))
noncomputable def VD:=Be (λ_ _=>True) λi j=>.bl (decide (j<=i))
theorem SA:S6 X (binaryOp .Sub) Aj:=Ls gE λ_ _ _ _=>W9
theorem Wt:S6 X (binaryOp .FloorDiv) V0:=Pc fN λ_ _ _ _=>W9
theorem Wr:S6 X (binaryOp .Mod) Vc:=Pc fO λ_ _ _ _=>W9
theorem Dz:S6 X (binaryOp .LShift) Ds:=Pc ml λ_ _ _ _=>W9
theorem PL:S6 X (binaryOp .RShift) Ph:=Pc dv λ_ _ _ _=>W9
theorem Mi:S6 X (binaryOp .BitAnd) M9:=Ls lB λ_ _ _ _=>W9
theorem X7:S6 X (binaryOp .BitOr) MF:=Ls jj λ_ _ _ _=>W9
theorem Xf:S6 X (binaryOp .BitXor) Pw:=Ls hV λ_ _ _ _=>W9
theorem RH:S6 X (compareOp .Lt) PD:=Ls fM λ_ _ _ _=>Tf
theorem VI:S6 X (compareOp .Gt) PR:=Ls fQ λ_ _ _ _=>Tf
theorem YJ:S6 X (compareOp .GtE) VD:=Ls jN λ_ _ _ _=>Tf
theorem S6.or{F G E:Dat->Dat->C1 Dat}(h:S6 X f F)(h':S6 X f G)(he:∀ x y d,E x y=some d->F x y=some d\/G x y=some d):S6 X f E:=λaa s σ H x y v u Q I S m M=>by
 obtain⟨A,a,b,d,mu,e,p1,p2,q⟩:=M;rcases he _ _ _ e with e | e
 .exact h aa s σ H x y v u Q I S m ⟨A,a,b,d,mu,e,p1,p2,q⟩
 .exact h' aa s σ H x y v u Q I S m ⟨A,a,b,d,mu,e,p1,p2,q⟩
noncomputable def QN:Dat->C1 Dat
 | .int i=>some (.int (Builtin.bitNot i))
 | _=>none
theorem NI.weak{f:A1->Sem A1}{r r':V->Hp->VK->Prop}(h:NI X f r)(w:∀ x H Q,r' x H Q->r x H Q):NI X f r':=λaa s σ H x v Q I S q=>h aa s σ H x v Q I S (w _ _ _ q)
theorem VW:bh X (unaryOp .Invert) QN:=NI.weak hB λv H Q M=>by
 obtain⟨A,x,d,mu,e,p,q⟩:=M;unfold QN at e;split at e
 .cases e;exact⟨_,p.int,q.here W9⟩
 .cases e
theorem Op{x:Str}(h:∀ c∈cl x,c<0x110000):PyData.strOk x=true:=by
 unfold PyData.strOk;rw[IM];intro c hc;exact AG (h c (by simpa[cl] using hc))
theorem Hh{x:Str}(h:PyData.strOk x=true):∀ c∈cl x,c<0x110000:=by
 unfold PyData.strOk at h;rw[IM] at h;intro c hc;exact AT (h c (by simpa[cl] using hc))
theorem lD{x y:Str}(h:PyData.strOk x=true)(k:PyData.strOk y=true):PyData.strOk (x++y)=true:=Op λc hc=>by
 rw[TW] at hc;rcases BO.mp hc with z | z
 .exact Hh h c z
 .exact Hh k c z
theorem VZ(x y:Str):(x++y).length=x.length+y.length:=by rw[<- Mg,TW,AN,Mg,Mg]
noncomputable def TM:Dat->Dat->C1 Dat
 | .str x,.str y=>if x.length+y.length<=sizeLine then some (.str (x++y)) else none
 | _,_=>none
theorem iT:S6 X (binaryOp .Add) TM:=fm.weak λv u H Q M=>by
 obtain⟨A,x,y,d,mu,e,p1,p2,q⟩:=M;unfold TM at e;split at e
 .rename_i i j
  split at e
  .rename_i hz
   cases e;obtain⟨e1,k1⟩:=p1.str;obtain⟨e2,k2⟩:=p2.str;exact⟨i,j,e1,e2,hz,q.here (Rb (LG.of (lD k1.ok k2.ok) (by rw[VZ];exact hz)))⟩
  .cases e
 .cases e
noncomputable def N3:Dat->Dat->C1 (Z Dat)
 | .lst xs,.lst ys=>if xs.length+ys.length<=sizeLine then some (xs++ys) else none
 | _,_=>none
theorem Ci:QS X (binaryOp .Add) N3:=λaa s σ H x y v u Q I S m M=>by
 obtain⟨A,a,b,d,mu,e,p1,p2,q⟩:=M;unfold N3 at e;split at e
 .rename_i xs ys
  split at e
  .rename_i hz
   cases e;obtain⟨l1,vs,e1,h1,r1⟩:=p1.lst;obtain⟨l2,us,e2,h2,r2⟩:=p2.lst;subst e1 e2;cases S;cases m;obtain⟨its,n,w1,g1,_⟩:=h1.get I;obtain⟨c,n2,w2,g2,_⟩:=h2.get I;have W:=w1.length;have z2:=w2.length;have z3:=Y6 r1;have z4:=Y6 r2;refine PySem.P.add_list g1 g2 ?_ (by rw[AV,AV];lia);have ea:its.toArray++c.toArray=(its++c).toArray:=by simp
   rw[ea];exact⟨.ref _,_,I.lnew (t':=s.toks) (w1.append w2) (by rw[AN];lia),rfl,q.at (by rw[AN];exact hz) (V3 r1 r2) _ I.fresh⟩
  .cases e
 .cases e
theorem lF(r:Wj K H ds vs)(h:ds.length≠0):vs≠[]:=by
 intro e;subst e;have:=Y6 r;simp at this;lia
noncomputable def Yu:Dat->Dat->C1 Dat
 | .int i,.int j=>some (.int (i+j))
 | .str x,.str y=>if x.length+y.length<=sizeLine then some (.str (x++y)) else none
 | .lst xs,.lst ys=>if xs.length+ys.length<=sizeLine then some (.lst (xs++ys)) else none
 | _,_=>none
theorem iD:S6 X (binaryOp .Add) (Be (λ_ _=>True) λi j=>.int (i+j)):=Ls ce λ_ _ _ _=>W9
theorem Yi:S6 X (binaryOp .Add) Yu:=by
 have h1:=S6.or (E:=λx y=>match x,y with | .int i,.int j=>some (.int (i+j)) | .str x,.str y=>if x.length+y.length<=sizeLine then some (.str (x++y)) else none | _,_=>none) (iD (X:=X)) iT (λx y d e=>by
  split at e
  .left;simp[Be];exact by simpa using e
  .right;simp only[TM];exact e
  .cases e)
 refine S6.or h1 Ci.d λx y d e=>?_
 unfold Yu at e;split at e
 .left;exact e
 .left;exact e
 .right
  rename_i xs ys;simp only[N3];split at e
  .rename_i hz;cases e;rw[AH hz];rfl
  .cases e
 .cases e
noncomputable def bD:=Be NY λi j=>.int (i*j)
theorem lq:S6 X (binaryOp .Mult) bD:=Pc iz λ_ _ _ _=>W9
noncomputable def S5:Dat->Dat->C1 Dat:=λx y=>if(pd 20 x&&pd 20 y)=true then some (.bl (Gm x y)) else none
noncomputable def Cd:Dat->Dat->C1 Dat:=λx y=>if(pd 20 x&&pd 20 y)=true then some (.bl (!Gm x y)) else none
theorem Ml(C:X.A.units+64<cLine):S6 X (compareOp .Eq) S5:=λaa s σ H x y v u Q I S m M=>by
 obtain⟨A,a,b,d,mu,e,p1,p2,q⟩:=M;unfold S5 at e;split at e
 .rename_i hp
  rw[AW] at hp;cases e;obtain⟨as,a1,a2⟩:=Rp.reads I a x v hp.1 p1.rp S;obtain⟨bs,b1,b2⟩:=Rp.reads I b y u hp.2 p2.rp m;have:=D8 20 a hp.1;refine SeqAt.compareEq_reads a1 b1 a2 b2 (by lia) ⟨.bl _,H,I,rfl,?_⟩;rw[Da a b hp.1 hp.2];exact q.here Tf
 .cases e
theorem OL(C:X.A.units+64<cLine):S6 X (compareOp .NotEq) Cd:=λaa s σ H x y v u Q I S m M=>by
 obtain⟨A,a,b,d,mu,e,p1,p2,q⟩:=M;unfold Cd at e;split at e
 .rename_i hp
  rw[AW] at hp;cases e;obtain⟨as,a1,a2⟩:=Rp.reads I a x v hp.1 p1.rp S;obtain⟨bs,b1,b2⟩:=Rp.reads I b y u hp.2 p2.rp m;have:=D8 20 a hp.1;refine SeqAt.compareNe_reads a1 b1 a2 b2 (by lia) ⟨.bl _,H,I,rfl,?_⟩;rw[Da a b hp.1 hp.2];exact q.here Tf
 .cases e
noncomputable def YO:Dat->Bool
 | .non=>true
 | _=>false
theorem i4{d:Dat}{v:V}(r:Rp K H d v):decide (v=V.non)=YO d:=by
 cases d with
 | non=>rw[Ag r];rfl
 | bl b=>rw[Oq r];rfl
 | int b=>rw[M5 r];rfl
 | str b=>rw[(B6 r).1];rfl
 | tup b=>obtain⟨a,_,e,_⟩:=Ss r;rw[e];rfl
 | lst b=>obtain⟨a,_,e,_⟩:=Su r;rw[e];rfl
 | dct _=>obtain⟨_,a,e,_⟩:=gr r;rw[e];rfl
 | exc _ _=>obtain⟨_,_,_,e,_⟩:=k9 r;subst e;rfl
 | box _ _=>obtain⟨_,_,e,_⟩:=fB r;subst e;rfl
noncomputable def UN:Dat->Dat->C1 Dat
 | x,.non=>some (.bl (!YO x))
 | _,_=>none
theorem lU:S6 X (compareOp .IsNot) UN:=jL.weak λv u H Q M=>by
 obtain⟨A,x,y,d,mu,e,p1,p2,q⟩:=M;unfold UN at e;split at e
 .cases e
  exact⟨p2.non,by rw[i4 p1.rp];exact q.here Tf⟩
 .cases e
noncomputable def RU:Str->Str->Bool:=λi j=>!(Builtin.Str.occurrences j i 0 j.length 1).isEmpty
noncomputable def MK:Dat->Dat->C1 Bool
 | x,.lst ys=>if(pd 20 x&&ys.all (pd 20))=true then some (ys.any λy=>Gm y x) else none
 | x,.tup ys=>if(pd 20 x&&ys.all (pd 20))=true then some (ys.any λy=>Gm y x) else none
 | .str i,.str j=>some (RU i j)
 | _,_=>none
noncomputable def Bz:Dat->Dat->C1 Dat:=λx y=>(MK x y).map .bl
noncomputable def Eb:Dat->Dat->C1 Dat:=λx y=>(MK x y).map λb=>.bl (!b)
theorem Rl(I:F' X aa σ H s)(C:X.A.units+64<cLine){a:Dat}{x:V}{v:A1}(ha:pd 20 a=true)(S:Rp X.K H a x)(qx:Yr x v) :
  ∃ e:A1->Bool,∀ {ys:Z Dat} {vs:Z V} {us:Z A1},Wj X.K H ys vs->Y5 vs us->(∀ y∈ys,pd 20 y=true)->(∀ u∈us,SeqAt.EqAt X.A.in1 s u v (e u))/\us.any e=ys.any λy=>Gm y a:=by
 classical
 have b:X.A.in1.units+60<cLine:=by show X.A.units+1+60<cLine;lia
 have ah:∀ {y:Dat} {w:V} {u:A1},Rp X.K H y w->Yr w u->pd 20 y=true->SeqAt.EqAt X.A.in1 s u v (Gm y a):=λ{y w u} r q h=>Rp.eqAt I h ha (by decide) b r S q qx
 let e:A1->Bool:=λu=>decide (∃ (y:Dat) (w:V),Rp X.K H y w/\Yr w u/\pd 20 y=true/\Gm y a=true)
 have he:∀ {y:Dat} {w:V} {u:A1},Rp X.K H y w->Yr w u->pd 20 y=true->e u=Gm y a:=λ{y w u} r q h=>by
  cases z:Gm y a with
  | true=>exact AG ⟨y,w,r,q,h,z⟩
  | false =>
   refine AB ?_;rintro⟨f,l,r',q',h',D⟩;have:=q.inj q';subst this;obtain⟨as,a1,a2⟩:=Rp.reads I y w u h r q;obtain⟨bs,b1,b2⟩:=Rp.reads I f w u h' r' q;have d:=SeqAt.Reads.unique _ _ _ _ _ a2 a1 b1;rw[<- Da y a h ha,d,Da f a h' ha,D] at z;cases z
 refine⟨e,λ{ys}=>?_⟩;induction ys with
 | nil=>intro vs us r q _;rw[Ym r] at q;cases q;exact⟨λu C=>(by cases C),rfl⟩
 | cons y ys ih =>
  intro vs us r q hp;obtain⟨w,c,e1,r1,r2⟩:=Y0 r;subst e1;cases q with
  | cons Y q2 =>
   rename_i u us;obtain⟨h1,h2⟩:=ih r2 q2 λz hz=>hp z (BB _ hz)
   have hy:=hp y AX;refine⟨λR b=>?_,?_⟩
   .rcases BK.mp b with z | z
    .subst z;rw[he r1 Y hy];exact ah r1 Y hy
    .exact h1 R z
   .rw[IG,IG,h2,he r1 Y hy]
theorem OA(C:X.A.units+64<cLine):S6 X (compareOp .In) Bz:=λaa s σ H x y v u Q I S m M=>by
 obtain⟨A,a,b,d,mu,e,p1,p2,q⟩:=M;unfold Bz at e;unfold MK at e;split at e
 .rename_i ys
  split at e
  .rename_i hp
   rw[AW,CW] at hp;cases e;obtain⟨l,vs,e1,h1,r1⟩:=p2.lst;subst e1;cases m;obtain⟨its,w1,pl,_⟩:=I.list h1.sq;obtain⟨f,hf⟩:=Rl I C hp.1 p1.rp S;obtain⟨k1,k2⟩:=hf (r1.mono Wg) w1 hp.2;refine SeqAt.in_listAt f pl.isList (λw J=>k1 w (by simpa using J)) ⟨.bl _,H,I,rfl,?_⟩;rw[show its.toArray.any f=its.any f by simp,k2];exact q.here Tf
  .cases e
 .rename_i ys
  split at e
  .rename_i hp
   rw[AW,CW] at hp;cases e;obtain⟨l,vs,e1,h1,r1⟩:=p2.tup;subst e1;cases m;obtain⟨its,w1,pl,_⟩:=I.tuple h1;obtain⟨f,hf⟩:=Rl I C hp.1 p1.rp S;obtain⟨k1,k2⟩:=hf (r1.mono Wg) w1 hp.2;refine SeqAt.in_tupleAt f pl (λw J=>k1 w (by simpa using J)) ⟨.bl _,H,I,rfl,?_⟩;rw[show its.toArray.any f=its.any f by simp,k2];exact q.here Tf
  .cases e
 .rename_i i j
  cases e;obtain⟨e1,k1⟩:=p1.str;obtain⟨e2,k2⟩:=p2.str;exact ej aa s σ H x y v u Q I S m ⟨i,j,e1,e2,q.here Tf⟩
 .cases e
theorem F4(C:X.A.units+64<cLine):S6 X (compareOp .NotIn) Eb:=λaa s σ H x y v u Q I S m M=>by
 obtain⟨A,a,b,d,mu,e,p1,p2,q⟩:=M;unfold Eb at e;unfold MK at e;split at e
 .rename_i ys
  split at e
  .rename_i hp
   rw[AW,CW] at hp;cases e;obtain⟨l,vs,e1,h1,r1⟩:=p2.lst;subst e1;cases m;obtain⟨its,w1,pl,_⟩:=I.list h1.sq;obtain⟨f,hf⟩:=Rl I C hp.1 p1.rp S;obtain⟨k1,k2⟩:=hf (r1.mono Wg) w1 hp.2;refine SeqAt.notIn_listAt f pl.isList (λw J=>k1 w (by simpa using J)) ⟨.bl _,H,I,rfl,?_⟩;rw[show its.toArray.any f=its.any f by simp,k2];exact q.here Tf
  .cases e
 .rename_i ys
  split at e
  .rename_i hp
   rw[AW,CW] at hp;cases e;obtain⟨l,vs,e1,h1,r1⟩:=p2.tup;subst e1;cases m;obtain⟨its,w1,pl,_⟩:=I.tuple h1;obtain⟨f,hf⟩:=Rl I C hp.1 p1.rp S;obtain⟨k1,k2⟩:=hf (r1.mono Wg) w1 hp.2;refine SeqAt.notIn_tupleAt f pl (λw J=>k1 w (by simpa using J)) ⟨.bl _,H,I,rfl,?_⟩;rw[show its.toArray.any f=its.any f by simp,k2];exact q.here Tf
  .cases e
 .rename_i i j
  cases e;obtain⟨e1,k1⟩:=p1.str;obtain⟨e2,k2⟩:=p2.str;exact Ak aa s σ H x y v u Q I S m ⟨i,j,e1,e2,q.here Tf⟩
 .cases e
noncomputable def Yd:Dat->Dat->C1 Dat
 | .lst xs,.int i=>Fh xs i
 | .tup xs,.int i=>Fh xs i
 | .str z,.int i=>(Fh (cl z) i).map λc=>.str ⟨#[c]⟩
 | _,_=>none
theorem YC{i:Int}{d:Dat}(r:Wj K H ds vs)(h:Fh ds i=some d):∃ v,Fh vs i=some v/\Rp K H d v:=by
 unfold Fh at h ⊢;rw[Y6 r];obtain⟨j,e1,e2⟩:=bind_some h;obtain⟨v,h1,h2⟩:=Ms r e2;exact⟨v,by rw[e1];exact h1,h2⟩
theorem mR{i:Int}{x:α}(h:Fh xs i=some x):x∈xs:=by
 unfold Fh at h;obtain⟨j,e1,e2⟩:=bind_some h;exact AD e2
theorem ZQ{c:Nat}(h:LG z)(hc:c∈cl z):LG ⟨#[c]⟩:=LG.of (Op λg F=>by
 have:g=c:=by simpa[cl] using F
 rw[this];exact Hh h.ok c hc) (by rw[<- Mg];simp[cl];decide)
theorem LV.weak{r r':R2}(h:LV X r)(w:∀ x y H Q,r' x y H Q->r x y H Q):LV X r':=λao slice aa s σ H x y v u Q I S m q hs=>h ao slice aa s σ H x y v u Q I S m (w _ _ _ _ q) hs
theorem Zv:LV X (rD X.K Yd):=i8.weak λv u H Q M=>by
 obtain⟨A,x,y,d,mu,e,p1,p2,q⟩:=M;unfold Yd at e;split at e
 .rename_i xs i
  obtain⟨l,vs,e1,h1,r1⟩:=p1.lst;obtain⟨w,h2,r2⟩:=YC r1 e;exact .inl ⟨l,vs,i,w,e1,p2.int,h1.sq,h2,q.here r2⟩
 .rename_i xs i
  obtain⟨l,vs,e1,h1,r1⟩:=p1.tup;obtain⟨w,h2,r2⟩:=YC r1 e;exact .inr (.inl ⟨l,vs,i,w,e1,p2.int,h1,h2,q.here r2⟩)
 .rename_i z i
  obtain⟨e1,k1⟩:=p1.str;cases hc:Fh (cl z) i with
  | none=>rw[hc] at e;cases e
  | some c =>
   rw[hc] at e;cases e;exact .inr (.inr ⟨z,i,c,e1,p2.int,k1.le,hc,q.here (Rb (ZQ k1 (mR hc)))⟩)
 .cases e
theorem YV(lo hi:C1 Int)(r:Wj K H ds vs):Wj K H (Tv ds lo hi) (C7 vs lo hi):=by
 unfold Tv C7;rw[Y6 r];exact Ho _ (H9 _ r)
theorem ky{x:α}(h:x∈Tv xs lo hi):x∈xs:=List.mem_of_mem_drop (List.mem_of_mem_take h)
theorem cD{n:Nat}(h:xs.length<=n):(Tv xs lo hi).length<=n:=by unfold Tv;rw[CP,CQ];lia
theorem LR.weak(h:LR X r)(w:∀ x lo hi H Q,r' x lo hi H Q->r x lo hi H Q):LR X r':=λaa s σ H x v vl vu lo hi sl Q I S hs pl c q=>h aa s σ H x v vl vu lo hi sl Q I S hs pl c (w _ _ _ _ _ q)
noncomputable def ZP:Dat->C1 Int->C1 Int->C1 Dat
 | .lst xs,lo,hi=>some (.lst (Tv xs lo hi))
 | .str z,lo,hi=>some (.str (Txt.slice z lo hi))
 | .tup xs,lo,hi=>if HT.sIx xs.length 0 lo=0/\HT.sIx xs.length xs.length hi=xs.length then none else some (.tup (Tv xs lo hi))
 | _,_,_=>none
theorem lO(h:LG z):LG (Txt.slice z lo hi):=LG.of (Op λc hc=>by
 rw[gy] at hc;exact Hh h.ok c (ky hc)) (BA (GP z _ _) h.le)
theorem mJ:UF X ZP:=jR.weak λv lo hi H Q M=>by
 obtain⟨A,x,d,mu,e,p1,q⟩:=M;unfold ZP at e;split at e
 .rename_i xs
  cases e;obtain⟨l,vs,e1,h1,r1⟩:=p1.lst;exact .inl ⟨l,vs,e1,h1.sq,(q.new mu).at (cD p1.lenL) (YV lo hi r1)⟩
 .rename_i z
  cases e;obtain⟨e1,k1⟩:=p1.str;exact .inr (.inr ⟨z,e1,k1.le,q.here (Rb (lO k1))⟩)
 .rename_i xs
  split at e
  .cases e
  .rename_i hn
   cases e;obtain⟨l,vs,e1,h1,r1⟩:=p1.tup;exact .inr (.inl ⟨l,vs,e1,h1,by rw[Y6 r1];exact hn,q.tup mu (cD p1.lenT) (YV lo hi r1)⟩)
 .cases e
end
section
variable{X:Cx}{m:Bool}
noncomputable def Vp:Z Dat->C1 Dat
 | [.lst xs]=>some (.int xs.length)
 | [.tup xs]=>some (.int xs.length)
 | [.str z]=>some (.int z.length)
 | _=>none
theorem Va:Lo X (.builtin "len") Vp:=lS.weak λvs H Q M=>by
 obtain⟨A,ds,d,mu,e,p,q⟩:=M;unfold Vp at e;split at e
 .obtain⟨v,e1,p1⟩:=p.one
  obtain⟨l,us,e2,h1,r1⟩:=p1.lst;cases e;exact .inl ⟨l,us,by rw[e1,e2],.inl h1.sq,λ_=>by rw[Y6 r1];exact q.here W9⟩
 .obtain⟨v,e1,p1⟩:=p.one
  obtain⟨l,us,e2,h1,r1⟩:=p1.tup;cases e;exact .inl ⟨l,us,by rw[e1,e2],.inr h1,λ_=>by rw[Y6 r1];exact q.here W9⟩
 .obtain⟨v,e1,p1⟩:=p.one
  obtain⟨e2,h1⟩:=p1.str;cases e;exact .inr ⟨_,by rw[e1,e2],h1.le,q.here W9⟩
 .cases e
noncomputable def RX:Z Dat->C1 (Z Dat)
 | [.lst xs]=>some xs
 | [.tup xs]=>some xs
 | _=>none
theorem cK:QZ X (.type "list") RX:=Hu.weak λvs H Q M=>by
 obtain⟨A,ds,d,mu,e,p,q⟩:=M;unfold RX at e;split at e
 .obtain⟨v,e1,p1⟩:=p.one
  obtain⟨l,us,e2,h1,r1⟩:=p1.lst;cases e;exact⟨l,us,by rw[e1,e2],.inl h1.sq,q.at p1.lenL r1⟩
 .obtain⟨v,e1,p1⟩:=p.one
  obtain⟨l,us,e2,h1,r1⟩:=p1.tup;cases e;exact⟨l,us,by rw[e1,e2],.inr h1,q.at p1.lenT r1⟩
 .cases e
noncomputable def tupleD:Z Dat->C1 Dat
 | [.lst xs]=>some (.tup xs)
 | [.tup xs]=>some (.tup xs)
 | _=>none
theorem Uy:Lo X (.type "tuple") tupleD:=Pu.weak λvs H Q M=>by
 obtain⟨A,ds,d,mu,e,p,q⟩:=M;unfold tupleD at e;split at e
 .obtain⟨v,e1,p1⟩:=p.one
  obtain⟨l,us,e2,h1,r1⟩:=p1.lst;cases e;exact⟨l,us,by rw[e1,e2],.inl ⟨h1.sq,q.tup mu p1.lenL r1⟩⟩
 .obtain⟨v,e1,p1⟩:=p.one
  rcases p1 with p1 | ⟨_,_,_,z,_⟩ | ⟨_,_,_,z,_⟩ | ⟨_,_,z,_⟩
  .obtain⟨l,us,e2,h1,r1⟩:=Ss p1
   cases e;exact⟨l,us,by rw[e1,e2],.inr ⟨Wg.seqT h1,by rw[<- e2];exact q.here p1⟩⟩
  .cases z
  .cases z
  .cases z
 .cases e
noncomputable def Js:Z Dat->C1 (Z Int)
 | []=>some []
 | .int i::r=>(Js r).map (i::·)
 | _=>none
noncomputable def NR:Z Dat->C1 (Z Bool)
 | []=>some []
 | .bl i::r=>(NR r).map (i::·)
 | _=>none
theorem K8(ns:Z Int):Js (ns.map .int)=some ns:=by
 induction ns with
 | nil=>rfl
 | cons n ns ih=>rw[CF,Js,ih];rfl
theorem kl(ns:Z Bool):NR (ns.map .bl)=some ns:=by
 induction ns with
 | nil=>rfl
 | cons n ns ih=>rw[CF,NR,ih];rfl
theorem Mh:∀ {ds:Z Dat} {ns:Z Int},Js ds=some ns->ds=ns.map .int
 | [],_,h=>by cases h;rfl
 | d::ds,ns,h=>by
  cases d<;>try cases h
  rename_i i;rw[Js] at h;cases e:Js ds with
  | none=>rw[e] at h;cases h
  | some r=>rw[e] at h;cases h;rw[Mh e];rfl
theorem ZO:∀ {ds:Z Dat} {ns:Z Bool},NR ds=some ns->ds=ns.map .bl
 | [],_,h=>by cases h;rfl
 | d::ds,ns,h=>by
  cases d<;>try cases h
  rename_i i;rw[NR] at h;cases e:NR ds with
  | none=>rw[e] at h;cases h
  | some r=>rw[e] at h;cases h;rw[ZO e];rfl
theorem U0:∀ {ns:Z Int} {vs:Z V},Wj K H (ns.map .int) vs->vs=ns.map .int
 | [],vs,h=>Ym h
 | n::ns,vs,h=>by obtain⟨v,r,e,h1,h2⟩:=Y0 h;rw[e,M5 h1,U0 h2];rfl
theorem Nv:∀ {ns:Z Bool} {vs:Z V},Wj K H (ns.map .bl) vs->vs=ns.map .bl
 | [],vs,h=>Ym h
 | n::ns,vs,h=>by obtain⟨v,r,e,h1,h2⟩:=Y0 h;rw[e,Oq h1,Nv h2];rfl
noncomputable def Gs(ns:Z Int):Z Int:=ns.mergeSort (λa b=>decide (a<=b))
theorem Tl(ns:Z Int):(Gs ns).Perm ns:=List.mergeSort_perm ns _
theorem Ht(ns:Z Int):(Gs ns).Pairwise (·<=·):=by
 have:=List.pairwise_mergeSort (le:=λa b:Int=>decide (a<=b)) (by intro a b c h1 h2;simp only[BU] at *;lia) (by intro a b;simp only[EU,BU];lia) ns;exact this.imp λh=>AT h
theorem Mc:∀ {xs ys:Z Int},xs.Perm ys->xs.Pairwise (·<=·)->ys.Pairwise (·<=·)->xs=ys
 | [],ys,p,_,_=>by rw[List.nil_perm.mp p]
 | x::xs,[],p,_,_=>by have:=p.length_eq;simp at this
 | x::xs,y::ys,p,h1,h2=>by
  have hx:=HE.mp h1;have hy:=HE.mp h2;have e:x=y:=by
   have m1:x∈y::ys:=p.mem_iff.mp AX;have m2:y∈x::xs:=p.mem_iff.mpr AX;rcases BK.mp m1 with z | z
   .exact z
   .rcases BK.mp m2 with w | w
    .exact w.symm
    .have a1:=hx.1 y w
     have a2:=hy.1 x z;lia
  subst e;rw[Mc (IN p) hx.2 hy.2]
noncomputable def WT:Z Dat->C1 (Z Dat)
 | [.lst xs]=>(Js xs).bind λns=>if ns.length<64 then some ((Gs ns).map .int) else none
 | _=>none
noncomputable def PY:Z Dat->C1 Dat
 | [.lst xs]=>(NR xs).map λbs=>.bl (bs.all id)
 | _=>none
theorem map_some{α β:Type}{a:C1 α}{g:α->β}{b:β}(h:a.map g=some b):∃ x,a=some x/\g x=b:=by
 cases a with
 | none=>cases h
 | some x=>cases h;exact⟨x,rfl,rfl⟩
theorem dQ(hc:X.calm=true):Lo X (.builtin "all") PY:=(c3 hc).weak λvs H Q M=>by
 obtain⟨A,ds,d,mu,e,p,q⟩:=M;unfold PY at e;split at e
 .obtain⟨v,e1,p1⟩:=p.one
  obtain⟨l,us,e2,h1,r1⟩:=p1.lst;obtain⟨bs,hb,e⟩:=map_some e;subst e;rw[ZO hb] at r1;have eu:=Nv r1;subst eu;exact⟨l,bs,by rw[e1,e2],h1.sq,q.here Tf⟩
 .cases e
noncomputable def ON:Z Dat->C1 Dat
 | [.int i,.int j]=>some (.int (if j > i then j else i))
 | _=>none
noncomputable def PF:Z Dat->C1 Dat
 | [.int i,.int j]=>some (.int (if j<i then j else i))
 | _=>none
theorem WA(hc:X.calm=true):Lo X (.builtin "max") ON:=(iA hc).weak λvs H Q M=>by
 obtain⟨A,ds,d,mu,e,p,q⟩:=M;unfold ON at e;split at e
 .obtain⟨v,w,e1,p1,p2⟩:=p.two
  cases e;exact⟨_,_,by rw[e1,p1.int,p2.int],q.here W9⟩
 .cases e
theorem WW(hc:X.calm=true):Lo X (.builtin "min") PF:=(mq hc).weak λvs H Q M=>by
 obtain⟨A,ds,d,mu,e,p,q⟩:=M;unfold PF at e;split at e
 .obtain⟨v,w,e1,p1,p2⟩:=p.two
  cases e;exact⟨_,_,by rw[e1,p1.int,p2.int],q.here W9⟩
 .cases e
end
variable{f:Zzu}{lo:Int}{e T:A2}{Q:Unit->A4->Prop}{src:Zzv}{B':Bs}
noncomputable def OS(st:Bool)(A:AS)(H:Hp)(j:AS)(H1:Hp):Prop:=match st with
 | true=>I3 A H j H1
 | false=>j=A/\Zr H H1
theorem OS.step{st:Bool}{j:AS}(h:OS st A H j H1):I3 A H j H1:=by
 cases st with
 | true=>exact h
 | false=>obtain⟨rfl,h⟩:=h;exact I3.same h
noncomputable def NQ(st:Bool)(K:J1)(A:AS)(H:Hp)(ds:Z Dat)(J:It):Prop:=∀ j H1,OS st A H j H1->Td j H1 ->
 (∀ (i:Nat) x,ds[i]?=some x->J.go i H1/\∀ v H2,J.yld i H1 v H2->Zr H1 H2/\Rp K (av H2 j) x v)/\J.stop ds.length H1
noncomputable def br(bb st:Bool)(X:Cx)(tg iter:C3)(src:Zzv):Prop:=MQ bb X tg iter λσ H n=>∃ env R A ds,C' X.K R A H σ env/\src env=some ds /\
 ∀ J H',ds.length<=sizeLine->Zr H H'->NQ st X.K A H' ds J->n J H'
noncomputable abbrev MH:=br false
theorem MQ.mono{X:Cx}{t t':TI}(h:MQ bb X tg iter t)(w:∀ σ H Q,t' σ H Q->t σ H Q):MQ bb X tg iter t':=λaa s σ H Q I q=>h aa s σ H Q I (w σ H Q q)
theorem PI.weak{X:Cx}{t t':TI}(h:PI X tg iter t)(w:∀ σ H Q,t' σ H Q->t σ H Q):PI X tg iter t':=MQ.mono h w
section
variable{st:Bool}{X:Cx}{l:C3}{fs:Zzv}
noncomputable def Tc(f:Zzu):Ev->C1 (Z Dat):=λenv=>match f env with
 | some (.lst xs)=>some xs
 | some (.tup xs)=>some xs
 | _=>none
theorem XU{a:A2}(h:∀ j H1,OS st A H j H1->Dc K H1 a vs)(r:Wj K (av H A) ds vs):NQ st K A H ds (UR K a):=λj H1 b _=>by
 have h1:=h j H1 b;have r1:=r.mono b.step.av;refine⟨λi x e=>?_,⟨vs,h1,JW (Y6 r)⟩⟩;obtain⟨v,e1,e2⟩:=Ms r1 e;refine⟨⟨vs,v,h1,e1⟩,λt H2 ⟨e3,e4⟩=>?_⟩;subst e3;have:=e4 vs h1;rw[e1] at this;cases this;exact⟨Zr.refl _,e2⟩
theorem ZW{a:A2}(h:∀ j H1,OS st A H j H1->Dr K H1 a vs)(r:Wj K (av H A) ds vs):NQ st K A H ds (TL K a):=λj H1 b _=>by
 have h1:=h j H1 b;have r1:=r.mono b.step.av;refine⟨λi x e=>?_,⟨vs,h1,JW (Y6 r)⟩⟩;obtain⟨v,e1,e2⟩:=Ms r1 e;refine⟨⟨vs,v,h1,e1⟩,λt H2 ⟨e3,e4⟩=>?_⟩;subst e3;have:=e4 vs h1;rw[e1] at this;cases this;exact⟨Zr.refl _,e2⟩
theorem Il(h:Wn false X l f):MH st X tg l (Tc f):=(X' h).weak λσ H n M=>by
 obtain⟨env,R,A,ds,k,e,q⟩:=M;unfold Tc at e;split at e
 .rename_i xs e1
  cases e;refine .inl ⟨env,R,A,.lst ds,k,e1,λv H1 s1 p1=>?_⟩;obtain⟨a,vs,e2,h1,r1⟩:=Su (show Rp X.K (av H1 A) (.lst ds) v from p1);subst e2;exact⟨a,rfl,⟨vs,(Wg.sl h1).sq⟩,q _ H1 p1.pk.lenL s1 (XU (vs:=vs) (λj H2 b=>(Wg.sl (b.step.av.sl h1)).sq) r1)⟩
 .rename_i xs e1
  cases e;refine .inr ⟨env,R,A,.tup ds,k,e1,λv H1 s1 p1=>?_⟩;obtain⟨a,vs,e2,h1,r1⟩:=Ss (show Rp X.K (av H1 A) (.tup ds) v from p1);subst e2;exact⟨a,rfl,⟨vs,Wg.seqT h1⟩,q _ H1 p1.pk.lenT s1 (ZW (vs:=vs) (λj H2 b=>Wg.seqT (b.step.av.seqT h1)) r1)⟩
 .cases e
theorem S9(h:Wn true X l f):MH false X tg l (Tc f):=(X' h).weak λσ H n M=>by
 obtain⟨env,R,A,ds,k,e,q⟩:=M;unfold Tc at e;split at e
 .rename_i xs e1
  cases e;refine .inl ⟨env,R,A,.lst ds,k,e1,λv H1 s1 p1=>?_⟩;obtain⟨a,vs,e2,h1,r1⟩:=p1.pk.lst;subst e2;exact⟨a,rfl,⟨vs,h1.sq⟩,q _ H1 p1.pk.lenL s1 (XU (vs:=vs) (λj H2 b=>(b.2.sl h1).sq) r1)⟩
 .rename_i xs e1
  cases e;refine .inr ⟨env,R,A,.tup ds,k,e1,λv H1 s1 p1=>?_⟩;obtain⟨a,vs,e2,h1,r1⟩:=p1.pk.tup;subst e2;exact⟨a,rfl,⟨vs,h1⟩,q _ H1 p1.pk.lenT s1 (ZW (vs:=vs) (λj H2 b=>b.2.seqT h1) r1)⟩
 .cases e
noncomputable def rng(lo:Int)(n:Nat):Z Dat:=(List.range n).map λ(k:Nat)=>.int (lo+k)
theorem U7{n:Nat}:(rng lo n).length=n:=by simp[rng]
theorem kM{n:Nat}:NQ st K A H (rng lo n) (SC lo n):=λj H1 b _=>by
 refine⟨λi x e=>?_,by show n<=(rng lo n).length;simp[rng]⟩;unfold rng at e;rw[AL] at e;by_cases hi:i<n
 .rw[FO hi] at e
  cases e;exact⟨hi,λv H2 ⟨e1,e2⟩=>by subst e1 e2;exact⟨Zr.refl _,W9⟩⟩
 .rw[FB (by simpa using hi)] at e
  cases e
noncomputable def Vl(fs:Zzv):Ev->C1 (Z Dat):=λenv=>match fs env with
 | some [.int j]=>if -(2^62)<=j/\j<2^62/\j.toNat<=sizeLine then some (rng 0 j.toNat) else none
 | _=>none
theorem Ys{a:C3}{p:Pos}(hm:X.mg "range" = none)(ha:Ps true X [a] fs)(hg:Gl X "range" := by rfl)(hs:starEach [a] X.env=[(false,eval a X.env)]:=by rfl):MH st X tg (.Call (.Name "range" p) [a] [] pos) (Vl fs):=(iw hg hm ha hs).weak λσ H n M=>by
 obtain⟨env,R,A,ds,k,e,q⟩:=M;unfold Vl at e;split at e
 .rename_i j e1
  split at e
  .rename_i hj
   cases e;refine⟨env,R,A,_,k,e1,λvs H1 s1 p1=>?_⟩;obtain⟨v,e2,p2⟩:=p1.one;exact⟨j,by rw[e2,p2.int],hj.1,hj.2.1,q _ H1 (by rw[U7];exact hj.2.2) s1 kM⟩
  .cases e
 .cases e
noncomputable def UU(f:Zzu):Ev->C1 (Z Dat):=λenv=>match f env with
 | some (.str z)=>some ((cl z).map λc=>.str ⟨#[c]⟩)
 | _=>none
theorem iy(h:Wn m X l f):MH st X tg l (UU f):=(kJ h).weak λσ H n M=>by
 obtain⟨env,R,A,ds,k,e,q⟩:=M;unfold UU at e;split at e
 .rename_i z e1
  cases e;refine⟨env,R,A,_,k,e1,λv H1 s1 p1=>?_⟩;obtain⟨e2,hk⟩:=p1.pk.str;refine⟨z,e2,q _ H1 (by rw[AF,Mg];exact hk.le) s1 λj H2 b _=>⟨λi x ex=>?_,by show _=_;rw[AF,Mg]⟩⟩;rw[AL] at ex;cases hc:(cl z)[i]? with
  | none=>rw[hc] at ex;cases ex
  | some c =>
   rw[hc] at ex;cases ex;have hi:i<z.length:=by rw[<- Mg];exact(AC.mp hc).1
   refine⟨hi,λt G ⟨e3,g,e4,e5⟩=>?_⟩;subst e3 e5;have:g=c:=by
    have h':(cl z)[i]?=some g:=by simpa[cl] using e4
    rw[hc] at h';exact(BC h').symm
   subst this;exact⟨Zr.refl _,Rb (ZQ hk (AD hc))⟩
 .cases e
end
noncomputable def Gq(is:Z Nat)(σ σ':St):Prop:=σ'.length=σ.length/\∀ j,j∉is->σ'[j]?=σ[j]?
noncomputable def MN(is:Z Nat)(X:Cx)(tg:C3)(g:Dat->Ev->C1 Ev):Prop:=PG X tg λv σ H Q=>∃ env R A d env',C' X.K R A H σ env/\Rp X.K (av H A) d v/\g d env=some env'/\∀ σ',C' X.K R A H σ' env'->Gq is σ σ'->Q σ' H
noncomputable def QP(is:Z Nat)(X:Cx)(a:Z C3)(g:Z Dat->Ev->C1 Ev):Prop:=NC X a λvs σ H Q=>∃ env R A ds env',C' X.K R A H σ env/\Wj X.K (av H A) ds vs/\g ds env=some env'/\∀ σ',C' X.K R A H σ' env'->Gq is σ σ'->Q σ' H
theorem C'.put(k:C' K B A H σ env)(i:Nat){d:Dat}{v:V}(r:Rp K (av H A) d v):C' K B A H (σ.set i (some v)) (env.set i (.fz d)):=by
 obtain⟨own,h1,h2,h4⟩:=k.sl;refine⟨k.h0,k.r0,k.ra,k.ar,k.mu,by rw[BN,BN];exact k.len,λhs j d'=>?_,λj a=>j≠i/\own j a,λj t a q q'=>h1 j t a q.2 q'.2,λj a q=>h2 j a q.2,λj s e=>?_⟩
 .rw[AZ]
  split
  .split
   .intro z;cases z
   .intro z;cases z
  .exact k.np hs j d'
 by_cases hj:i=j
 .subst hj
  rw[AZ] at e;rw[AH rfl] at e;split at e
  .rename_i hl
   cases e;refine⟨some v,?_,v,rfl,r⟩;rw[AZ,AH rfl,AH (by rw[k.len];exact hl)]
  .cases e
 .rw[AZ,AM hj] at e
  obtain⟨x,Y,q2⟩:=h4 j s e;refine⟨x,by rw[AZ,AM hj];exact Y,?_⟩;cases s with
  | un=>trivial
  | fz d=>exact q2
  | pk d=>exact q2
  | ow ds=>obtain⟨a,vs,e1,e2,e3⟩:=q2;exact⟨a,vs,e1,⟨AR hj,e2⟩,e3⟩
  | gx g=>obtain⟨v,e1,e2⟩:=q2;exact⟨v,e1,e2.frame (λ_ z=>⟨AR hj,z⟩) (λ_ _ _ z=>z) (Zr.refl _)⟩
  | tb=>obtain⟨P,u,W,z2⟩:=q2;exact⟨P,u,⟨AR hj,W⟩,z2⟩
theorem PG.weak{X:Cx}{e:C3}{t t':TG}(h:PG X e t)(w:∀ v σ H Q,t' v σ H Q->t v σ H Q):PG X e t':=λaa s σ H v u Q I r q=>h aa s σ H v u Q I r (w _ _ _ _ q)
theorem NC.weak{X:Cx}{e:Z C3}{t t':MP}(h:NC X e t)(w:∀ v σ H Q,t' v σ H Q->t v σ H Q):NC X e t':=λaa s σ H v u Q I r q=>h aa s σ H v u Q I r (w _ _ _ _ q)
section
variable{X:Cx}
noncomputable def Y8(i:Nat):Dat->Ev->C1 Ev:=λd env=>some (env.set i (.fz d))
theorem jI{v:C1 V}:Gq [i] σ (σ.set i v):=⟨by rw[BN],λj hj=>by rw[AZ,AM (by intro e;exact hj (by simp[e]))]⟩
theorem Zs(i:Nat){x:Str}(hN:X.N.Nodup)(hi:X.N[i]?=some x:=by rfl)(hx:LL X.env.scope x:=by ext)(hf:X.fn x=true\/X.env.scope.names.lookup x=some .local:=by ext):MN [i] X (.Name x pos) (Y8 i):=(lw hN hi hx hf).weak λv σ H Q M=>by
 obtain⟨env,R,A,d,env',k,r,e,q⟩:=M;cases e;exact q _ (k.put i r) jI
noncomputable def Jx:Z Dat->Ev->C1 Ev:=λds env=>match ds with
 | []=>some env
 | _=>none
noncomputable def W1(g:Dat->Ev->C1 Ev)(gs:Z Dat->Ev->C1 Ev):Z Dat->Ev->C1 Ev:=λds env=>match ds with
 | d::ds=>(g d env).bind λenv'=>gs ds env'
 | _=>none
theorem Je:QP [] X [] Jx:=iV.weak λvs σ H Q M=>by
 obtain⟨env,R,A,ds,env',k,r,e,q⟩:=M;unfold Jx at e;split at e
 .cases e
  exact⟨Ym r,q σ k ⟨rfl,λ_ _=>rfl⟩⟩
 .cases e
theorem Yo{e:C3}{a:Z Nat}{gs:Z Dat->Ev->C1 Ev}(h1:MN is X e g)(h2:QP a X es gs)
  (hs:(assignEach (e::es) X.env).map (·.2)=assign e X.env::(assignEach es X.env).map (·.2):=by rfl):QP (is++a) X (e::es) (W1 g gs):=(kq h1 h2 hs).weak λvs σ H Q M=>by
 obtain⟨env,R,A,ds,env',k,r,e,q⟩:=M;unfold W1 at e;split at e
 .rename_i d ds'
  obtain⟨n,e1,e2⟩:=bind_some e;obtain⟨v,us,ev,r1,r2⟩:=Y0 r;refine⟨v,us,ev,env,R,A,d,n,k,r1,e1,λσ1 k1 a1=>⟨n,R,A,ds',env',k1,r2,e2,λσ2 k2 a2=>q σ2 k2 ⟨by rw[a2.1,a1.1],λj hj=>?_⟩⟩⟩;rw[BO,not_or] at hj;rw[a2.2 j hj.2,a1.2 j hj.1]
 .cases e
end
noncomputable def Vb(fs:Z (C1 Nat))(env:Ev):Ev:=fs.map λo=>match o with
 | none=>.un
 | some j=>match env[j]? with
  | some (.fz d)=>.fz d
  | some (.pk d)=>.pk d
  | some (.ow ds)=>.pk (.lst ds)
  | _=>.un
theorem C'.inn(k:C' K B A H σ env)(fs:Z (C1 Nat)):C' K ⟨H,A,false⟩ A H (Ww fs σ) (Vb fs env):=by
 obtain⟨own,h1,h2,h4⟩:=k.sl;refine⟨Zr.refl H,λa h=>?_,λ_ h=>h,λ_ h=>.inl h,k.mu,by simp[Ww,Vb],λz=>(by cases z),λ_ _=>False,λ_ _ _ h=>h.elim,λ_ _ h=>h.elim,λi s e=>?_⟩
 .have:=k.mu a h
  cases q:H a with
  | none=>rw[q] at this;exact this.elim
  | some o=>exact⟨o,q⟩
 .unfold Vb at e
  rw[AL] at e;unfold Ww;rw[AL];cases hf:fs[i]? with
  | none=>rw[hf] at e;cases e
  | some o =>
   rw[hf] at e;cases o with
   | none=>cases e;exact⟨_,rfl,trivial⟩
   | some j =>
    simp only[HW,GZ] at e ⊢;refine⟨_,rfl,?_⟩;split at e
    .rename_i d hd
     obtain⟨x,Y,q2⟩:=h4 j _ hd;subst e;rw[Y];exact q2
    .rename_i d hd
     obtain⟨x,Y,q2⟩:=h4 j _ hd;subst e;rw[Y];exact q2
    .rename_i ds hd
     obtain⟨x,Y,a,vs,e1,_,hz,e3,e4⟩:=h4 j _ hd;subst e;rw[Y];exact⟨.ref a,e1,.inr (.inl ⟨a,vs,ds,rfl,rfl,hz,e3,e4⟩)⟩
    .subst e;trivial
noncomputable def V2(g:Dat->Ev->C1 Ev)(t:Ev->C1 Bool)(f:Zzu)(env:Ev):Z Dat->C1 (Z Dat)
 | []=>some []
 | x::xs=>(g x env).bind λn=>(t n).bind λb=>if b=true then(f n).bind λy=>(V2 g t f env xs).map (y::·) else V2 g t f env xs
noncomputable def Vk(src:Zzv)(fs:Z (C1 Nat))(g:Dat->Ev->C1 Ev)(t:Ev->C1 Bool)(f:Zzu):Ev->C1 (Z Dat):=λenv=>(src env).bind λds=>V2 g t f (Vb fs env) ds
theorem K3:∀ {xs ys:Z Dat},V2 g t f env xs=some ys->ys.length<=xs.length
 | [],ys,h=>by cases h;exact AU _
 | x::xs,ys,h=>by
  rw[V2] at h;obtain⟨n,e1,h⟩:=bind_some h;obtain⟨b,e2,h⟩:=bind_some h;split at h
  .obtain⟨y,e3,h⟩:=bind_some h
   obtain⟨zs,e4,h⟩:=map_some h;subst h;exact HI (K3 e4)
  .exact HA (K3 h)
noncomputable def OJ(X:Cx)(aq:Z C3)(t:Ev->C1 Bool):Prop:=ND X aq λσ H Q=>∃ env R A b,C' X.K R A H σ env/\t env=some b/\∀ H',Zr H H'->Q b H'
noncomputable def Ug:Ev->C1 Bool:=λ_=>some true
theorem ND.weak{X:Cx}{e:Z C3}{t:TT}(h:ND X e t)(w:∀ σ H Q,t' σ H Q->t σ H Q):ND X e t':=λaa s σ H Q I q=>h aa s σ H Q I (w σ H Q q)
theorem Rx{X:Cx}:OJ X [] Ug:=(lr (Y:=X)).weak λσ H Q zz=>by obtain⟨env,R,A,b,k,e,q⟩:=zz;cases e;exact q H (Zr.refl H)
theorem Gz{X:Cx}{c:C3}(h:MB X c t):OJ X [c] t:=jp h
section
variable{X:Cx}
theorem Ao{J:It}{fs:Z (C1 Nat)}{Q:VK}{ys:Z Dat}
  (c:∀ i∈is,fs[i]?=some none) (k:C' K B A H1 σ env) (u:NQ false K A H1 ds J) (hz:ds.length<=sizeLine) (hc:V2 g t f (Vb fs env) ds=some ys) (q:X5 K A H1 ys Q) :
  ∃ W:Nat->Nat->Z V->Hp->Prop,(∃ m,W 0 m [] H1)/\∀ i m zs H,W i m zs H ->
   (J.stop i H/\zs.length<=sizeLine/\∀ p,H p=none->Q (.ref p) (W5 H p (.lst zs))) \/
   (J.go i H/\zs.length<=sizeLine/\∃ N:Z V->Hp->Prop,(∀ F H',N F H'->∃ m',m'<m/\W (i+1) m' F H')/\∀ x H',J.yld i H x H'->(∃ env R A d env',C' K R A H' (Ww fs σ) env/\Rp K (av H' A) d x/\g d env=some env'/\∀ σ',C' K R A H' σ' env'->Gq is (Ww fs σ) σ' ->
    (RD (Ww fs σ) σ'/\∃ env R A b,C' K R A H' σ' env/\t env=some b/\∀ G,Zr H' G->if b=true then Tx9 false K f σ' G (λv H4=>N (zs++[v]) H4) else N zs G))):=by
 have hl:=K3 hc;refine⟨λi m zs H=>m=ds.length - i/\i<=ds.length/\Zr H1 H/\∃ us aj,V2 g t f (Vb fs env) (ds.drop i)=some aj/\us++aj=ys/\Wj K (av H A) us zs,
  ⟨ds.length,by simp,CZ _,Zr.refl _,[],ys,by simpa using hc,rfl,Vt⟩,?_⟩
 rintro i m zs H ⟨rfl,hi,s1,us,aj,e1,e2,r⟩;have l:zs.length<=sizeLine:=by
  rw[Y6 r];have:us.length<=ys.length:=by rw[<- e2,AN];lia
  lia
 obtain⟨Y,s⟩:=u A H ⟨rfl,s1⟩ (k.mono s1).mu;by_cases ai:i<ds.length
 .have hx:ds[i]?=some ds[i]:=by simp[ai]
  obtain⟨go,C⟩:=Y i _ hx;rw[DN ai,V2] at e1;obtain⟨n,b1,e1⟩:=bind_some e1;obtain⟨b,b2,e1⟩:=bind_some e1;refine .inr ⟨go,l,λw H'=>i+1<=ds.length/\Zr H1 H'/\∃ us aj,V2 g t f (Vb fs env) (ds.drop (i+1))=some aj/\us++aj=ys/\Wj K (av H' A) us w,
   λw H' h=>⟨ds.length - (i+1),by lia,rfl,h⟩,λx H' hy=>?_⟩
  obtain⟨s2,S⟩:=C x H' hy;refine⟨Vb fs env,⟨H1,A,false⟩,A,ds[i],n,(k.inn fs).mono (s1.trans s2),S,b1,λσ' k' D=>⟨⟨D.1.symm,λj v E=>?_⟩,n,⟨H1,A,false⟩,A,b,k',b2,λG P=>?_⟩⟩
  .have hj:j∉is:=λhj=>by
    have:=c j hj;unfold Ww at E;rw[AL,this] at E;cases E
   rw[D.2 j hj];exact E
  .cases b with
   | true =>
    rw[AH rfl] at e1 ⊢;obtain⟨y,b3,e1⟩:=bind_some e1;obtain⟨a,b4,e1⟩:=map_some e1;subst e1;refine⟨n,⟨H1,A,false⟩,A,y,k'.mono P,b3,λv H4 s4 rv=>⟨ai,((s1.trans s2).trans P).trans s4,us++[y],a,b4,by rw[HP];exact e2,V3 (r.mono (Wp ((s2.trans P).trans s4))) (Q1 rv)⟩⟩
   | false =>
    rw[AM CU] at e1 ⊢;exact⟨ai,(s1.trans s2).trans P,us,aj,e1,e2,r.mono (Wp (s2.trans P))⟩
 .have e:i=ds.length:=by lia
  subst e;rw[List.drop_length,V2] at e1;cases e1;rw[FJ] at e2;subst e2;exact .inl ⟨s,l,(q.mono s1).at (by lia) r⟩
theorem mD(psc:IA)(fs:Z (C1 Nat))(N:Z Str)(hp:X.env.scope=psc)(hc:X.calm=true\/(bb=true/\LY X))(hi:br bb false X tg iter src)
  (hb:∀ (C:A2) (s:A4) (H:Hp) (fp:Z A2),MN is (Wc X sc N C s H fp) tg g/\OJ (Wc X sc N C s H fp) aq t/\Wn false (Wc X sc N C s H fp) aw f)
  (c:∀ i∈is,fs[i]?=some none) (hs:∀ x,foldedSetIterable iter X.env x=pure x:=by intro _;rfl) (S:CompOk psc sc X.N N fs:=by exact CompOk.of (by kernel_rfl!)):LZ X (.ListComp aw [⟨tg,iter,aq,0⟩] sc pos) (Vk src fs g t f):=by
 refine PE.weak (dD (g:=λv σ H Q=>∃ env R A d env',C' X.K R A H σ env/\Rp X.K (av H A) d v/\g d env=some env'/\∀ σ',C' X.K R A H σ' env'->Gq is σ σ'->Q σ' H) (tt:=λσ H Q=>∃ env R A b,C' X.K R A H σ env/\t env=some b/\∀ H',Zr H H'->Q b H') (te:=Tx9 false X.K f) psc fs N hp S hc hi hb hs) λσ H Q zz=>?_;obtain⟨env,R,A,ys,k,e,q⟩:=zz
 obtain⟨ds,e1,e2⟩:=bind_some e;exact⟨env,R,A,ds,k,e1,λJ H1 hz s1 u=>Ao c (k.mono s1) u hz e2 (q.mono s1)⟩
theorem Tp(psc:IA)(fs:Z (C1 Nat))(N:Z Str)(hp:X.env.scope=psc)(hc:X.calm=true)(hi:MH false X tg iter src)
 (hb:∀ (C:A2) (s:A4) (H:Hp) (fp:Z A2),MN is (Wc X sc N C s H fp) tg g/\OJ (Wc X sc N C s H fp) aq t/\Wn false (Wc X sc N C s H fp) aw f)
 (c:∀ i∈is,fs[i]?=some none) (hs:∀ x,foldedSetIterable iter X.env x=pure x:=by intro _;rfl) (S:CompOk psc sc X.N N fs:=by exact CompOk.of (by kernel_rfl!)):LZ X (.ListComp aw [⟨tg,iter,aq,0⟩] sc pos) (Vk src fs g t f):=mD psc fs N hp (.inl hc) hi hb c hs S
end
noncomputable def L9(h base:H3)(e T:A2)(cls:A1×C1 A1)(dct:C1 A2)(fl:A1):Prop :=
 ∃ oe vs N ts,h.get? e=some oe/\(oe.cls,vs[2]?)=cls/\oe.dict=dct/\oe.data=.fields vs/\vs[1]?=some (.ref T)/\base.get? T=none/\T≠e/\h.get? T=some N/\N.data=.fields ts/\ts[3]?=some fl
noncomputable def X0(l:Z I0)(ch:Z A2)(h h':H3):Prop:=∀ b o,h.get? b=some o->b∉ch->(b∉Dt l->h'.get? b=some o)/\∃ sl,h'.get? b=some { o with slots:=sl }
theorem X0.of{h1:H3}(a:∀ b o,h.get? b=some o->b∉ch->h1.get? b=some o):X0 l ch h h1:=λc o q hc=>⟨λ_=>a c o q hc,o.slots,a c o q hc⟩
theorem O6(f:Array A1->Array A1)(o:Obj):(Obj.mapFields f o).dict=o.dict:=by
 unfold Obj.mapFields;split<;>rfl
section
variable{M:Model}{A:C0}
theorem bj{env:I0}{vs:Array A1}{head:A1}{j:Bool} 
   (aj:A.frames=some (env::outer)) (hl:s.heap.FunFrames base (env::outer)) (hf:env.frame=some Lq_)
   (he:s.heap.get? e=some oe) (d:base.StaysIn s.heap) (r:base.get? e=none) (hd:oe.data=.fields vs) (hsz:1<vs.size)
   (h:∀ h' T,s.heap.objs.size<=T->base.StaysIn h'->h'.FunFrames base (env::outer)->L9 h' base e T (oe.cls,vs[2]?) oe.dict (rawInt Lq_)->X0 (env::outer) [e] s.heap h'->s.heap.objs.size<=h'.objs.size->Q () { s with heap:=h' }) :
   wpAny M A (do let a <- frameOf env;let pl <- entryPlaceOf Lq_ j;let b <- EntryCells.newEntry head a .none (rawInt Lq_) .none pl;setField (.ref e) 1 b) Q E s:=by
 have m:e∉(env::outer).filterMap (·.frame):=λhm=>by
   obtain⟨_,o,ho,t⟩:=hl.mem hm;rw[he] at ho;injection ho with ho;subst ho;exact t vs hd
 refine AA (wpAny_frameOf_fun aj hl hf λh₁ hs₁=>?_);refine AA (wpAny_entryPlaceOf λpl ag=>?_);unfold EntryCells.newEntry newFields;refine AA (CJ ?_ (ag.sizeOk5 _ _ _ _ _));have he₁:h₁.get? e=some oe:=(hs₁.2.1 e m).trans he;have kb₁:base.StaysIn h₁:=λb o c=>(hs₁.2.1 b λhm=>by rw[(hl.mem hm).1] at c;cases c).trans (d b o c)
 have he₂:=AE (h:=h₁) { cls:=.type "traceback",dict:=none,data:=.fields ([head,.ref Lq_,.none,rawInt Lq_,.none]++(if pl.isEmpty then List.replicate 6 Value.none else pl)).toArray } he₁;have k:s.heap.objs.size<=h₁.objs.size:=JW hs₁.1.symm;have i:h₁.objs.size≠e:=KG (AQ he₁);have hd₃:=EC hd (·.setIfInBounds 1 (Value.ref h₁.objs.size));have he₃:=CA (Obj.mapFields (·.setIfInBounds 1 (Value.ref h₁.objs.size))) he₂ (FR hd₃);have hT₃:=(BE (h₁.push { cls:=.type "traceback",dict:=none,data:=.fields ([head,.ref Lq_,.none,rawInt Lq_,.none]++(if pl.isEmpty then List.replicate 6 Value.none else pl)).toArray })
   (Obj.mapFields (·.setIfInBounds 1 (Value.ref h₁.objs.size))) (AR i)).trans (AY h₁ rfl)
 have keep:∀ b o,b≠e->h₁.get? b=some o ->
     ((h₁.push { cls:=.type "traceback",dict:=none,data:=.fields ([head,.ref Lq_,.none,rawInt Lq_,.none]++(if pl.isEmpty then List.replicate 6 Value.none else pl)).toArray }).update e (Obj.mapFields (·.setIfInBounds 1 (Value.ref h₁.objs.size)))).get? b=some o :=
   λb o f hb=>by
     rw[BE _ _ (AR f)];exact AE _ hb
 refine EB he₂ hd hsz (h _ h₁.objs.size k ?_ ?_ ?_ ?_ ?_)
 · exactλb o c=>keep b o (λq=>by rw[q,r] at c;cases c) (kb₁ b o c)
 · refine hl.of_keeps λb o hb t=>?_
   obtain⟨sl,hs⟩:=hs₁.2.2 b o hb;have f:b≠e:=λq=>by rw[q,he] at hb;injection hb with hb;subst hb;exact t vs hd
   exact⟨_,keep b _ f hs,rfl⟩
 · exact⟨_,_,_,_,he₃,by rw[Obj.cls_mapFields];simp[Array.getElem?_setIfInBounds],O6 _ _,hd₃,by simp[hsz],kb₁.fresh,i,hT₃,rfl,by first | (simp;done) | (rcases ag with rfl | ⟨_,_,_,_,_,_,_,rfl⟩<;>simp)⟩
 · intro b o hb f
   have l:b≠e:=λz=>f (by simp[z])
   obtain⟨sl,hs⟩:=hs₁.2.2 b o hb;exact⟨λg=>keep b o l ((hs₁.2.1 b g).trans hb),sl,keep b _ l hs⟩
 · rw[FM,ER];exact HA k
theorem Cj{fl:A1} 
  (d:base.StaysIn s.heap) (hl:s.heap.FunFrames base l) (ht:L9 s.heap base e T cls dct fl)
  (h:∀ h',base.StaysIn h'->h'.FunFrames base l->L9 h' base e T cls dct .none->(∀ b o,s.heap.get? b=some o->b∉[T]->h'.get? b=some o)->h'.objs.size=s.heap.objs.size->Q () { s with heap:=h' }) :
  wpAny M A (setFlight (.ref e) none) Q E s:=by
 obtain⟨oe,vs,N,ts,he,B,hdct,hd,h1,j,i,hT,g,h3⟩:=ht;have k:3<ts.size:=(DW.mp h3).1;have other:∀ b,b≠T->(s.heap.update T (Obj.mapFields (·.setIfInBounds 3 ((none:C1 A2).elim Value.none λf=>rawInt f)))).get? b=s.heap.get? b :=
  λb hb=>BE _ _ (AR hb)
 have a:∀ b o,s.heap.get? b=some o->(∀ vs,o.data≠.fields vs)->b≠T:=λb o hb t q=>by
  rw[q,hT] at hb;injection hb with hb;subst hb;exact t ts g
 unfold setFlight;refine AA (BW he hd h1 ?_);rw[AH (show(Value.ref T != Value.none)=true from by simp)];refine EB hT g k (h _ (λb o c=>(other b λq=>by rw[q,j] at c;cases c).trans (d b o c))
  (hl.of_keeps λb o hb t=>⟨o,(other b (a b o hb t)).trans hb,rfl⟩) ?_ (λb o hb t=>(other b (λz=>t (by simp[z]))).trans hb) (FM ..))
 exact⟨oe,vs,_,_,(other e (AR i)).trans he,B,hdct,hd,h1,j,i,CA _ hT (FR (EC g _)),EC g _,by simp[k]⟩
theorem UA{env:I0} 
  (aj:A.frames=some (env::outer)) (hl:s.heap.FunFrames base (env::outer)) (hf:env.frame=some Lq_) (ht:L9 s.heap base e T cls dct .none) (d:base.StaysIn s.heap) (r:base.get? e=none)
  (h:∀ h' T',s.heap.objs.size<=T'->base.StaysIn h'->h'.FunFrames base (env::outer)->L9 h' base e T' cls dct (rawInt Lq_)->X0 (env::outer) [e,T] s.heap h'->s.heap.objs.size<=h'.objs.size->Q () { s with heap:=h' }):wpAny M A (noteFrame (.ref e) env) Q E s:=by
 obtain⟨oe,vs,N,ts,he,B,hdct,hd,h1,j,i,hT,g,h3⟩:=ht;subst B hdct;unfold noteFrame;simp only[hf];refine AA (BW he hd h1 ?_);rw[AH (show(Value.ref T != Value.none)=true from by simp)];refine AA (BW hT g h3 ?_);rw[AM (show ¬ ((Value.none==rawInt Lq_)=true) from by simp[rawInt])];refine AA (EB hT g (DW.mp h3).1 ?_);have other:∀ b,b≠T->(s.heap.update T (Obj.mapFields (·.setIfInBounds 3 Value.none))).get? b=s.heap.get? b:=λb hb=>BE _ _ (AR hb)
 have a:∀ b o,s.heap.get? b=some o->(∀ vs,o.data≠.fields vs)->b≠T:=λb o hb t q=>by
  rw[q,hT] at hb;injection hb with hb;subst hb;exact t ts g
 have hsz:(s.heap.update T (Obj.mapFields (·.setIfInBounds 3 Value.none))).objs.size=s.heap.objs.size:=FM ..;refine bj (s:={ s with heap:=s.heap.update T (Obj.mapFields (·.setIfInBounds 3 Value.none)) }) aj (hl.of_keeps λb o hb t=>⟨o,(other b (a b o hb t)).trans hb,rfl⟩) hf ((other e (AR i)).trans he)
  (λb o c=>(other b λq=>by rw[q,j] at c;cases c).trans (d b o c)) r hd (DW.mp h1).1
  λh' T' J x1 Y x3 y R=>h h' T' (by rw[<- hsz];exact J) x1 Y x3 (λb o hb hc=>?_) (by rw[<- hsz];exact R)
 have f:b≠T:=λz=>hc (by simp[z])
 exact y b o ((other b f).trans hb) (λz=>hc (by simp at z;simp[z]))
theorem Sc{env:I0}{vs:Array A1} 
  (aj:A.frames=some (env::outer)) (hl:s.heap.FunFrames base (env::outer)) (hf:env.frame=some Lq_)
  (he:s.heap.get? e=some oe) (d:base.StaysIn s.heap) (r:base.get? e=none) (hd:oe.data=.fields vs) (h1:vs[1]?=some .none)
  (h:∀ h' T',s.heap.objs.size<=T'->base.StaysIn h'->h'.FunFrames base (env::outer)->L9 h' base e T' (oe.cls,vs[2]?) oe.dict (rawInt Lq_)->X0 (env::outer) [e] s.heap h'->s.heap.objs.size<=h'.objs.size->Q () { s with heap:=h' }):wpAny M A (noteFrame (.ref e) env) Q E s:=by
 unfold noteFrame;simp only[hf];refine AA (BW he hd h1 ?_);rw[AM (by decide)];exact bj aj hl hf he d r hd (DW.mp h1).1 h
theorem Bk{env:I0}{vs:Array A1} 
  (aj:A.frames=some (env::outer)) (hl:s.heap.FunFrames base (env::outer)) (hf:env.frame=some Lq_)
  (he:s.heap.get? e=some oe) (d:base.StaysIn s.heap) (r:base.get? e=none) (hd:oe.data=.fields vs) (h1:vs[1]?=some .none)
  (h:∀ h' T',s.heap.objs.size<=T'->base.StaysIn h'->h'.FunFrames base (env::outer)->L9 h' base e T' (oe.cls,vs[2]?) oe.dict .none->X0 (env::outer) [e] s.heap h'->Q () { s with heap:=h' }):wpAny M A (leaving env (.ref e)) Q E s:=by
 unfold leaving;refine AA (Sc aj hl hf he d r hd h1 λh' T' J x1 Y x3 y R=>?_);refine Cj (s:={ s with heap:=h' }) x1 Y x3 λh2 y1 y2 y3 F y5=>h h2 T' J y1 y2 y3 (λb o hb hc=>?_)
 obtain⟨k1,sl,k2⟩:=y b o hb hc;have f:b∉[T']:=λz=>by
  have e1:b=T':=by simpa using z
  have e2:=AQ hb;rw[e1] at e2;exact absurd (AO e2 J) (DF _)
 exact⟨λg=>F b o (k1 g) f,sl,F b _ k2 f⟩
theorem cf{env:I0} 
  (aj:A.frames=some (env::outer)) (hl:s.heap.FunFrames base (env::outer)) (hf:env.frame=some Lq_) (ht:L9 s.heap base e T cls dct .none) (d:base.StaysIn s.heap) (r:base.get? e=none)
  (h:∀ h' T',s.heap.objs.size<=T'->base.StaysIn h'->h'.FunFrames base (env::outer)->L9 h' base e T' cls dct .none->X0 (env::outer) [e,T] s.heap h'->Q () { s with heap:=h' }):wpAny M A (leaving env (.ref e)) Q E s:=by
 unfold leaving;refine AA (UA aj hl hf ht d r λh' T' J x1 Y x3 y R=>?_);refine Cj (s:={ s with heap:=h' }) x1 Y x3 λh2 y1 y2 y3 F y5=>h h2 T' J y1 y2 y3 (λb o hb hc=>?_)
 obtain⟨k1,sl,k2⟩:=y b o hb hc;have f:b∉[T']:=λz=>by
  have e1:b=T':=by simpa using z
  have e2:=AQ hb;rw[e1] at e2;exact absurd (AO e2 J) (DF _)
 exact⟨λg=>F b o (k1 g) f,sl,F b _ k2 f⟩
end
variable{e:C3}{p:Pos}
inductive Fl where
 | next (env:Ev) | ret (d:Dat) | brk (env:Ev) | cont (env:Ev) | exc (env:Ev) (c:Str) (fs:List (Str×XD)) | no
noncomputable def PZ(K:J1)(B:Bs)(H':Hp)(ds:Z Dat)(v:V):Prop:=∃ p vs,v=.ref p/\B.H₀ p=none/\H' p=some (.lst vs)/\ds.length<=sizeLine/\Wj K (av H' (ins B.R p)) ds vs
noncomputable def NE(K:J1)(B:Bs)(H':Hp):Dat->V->Prop
 | .lst ds,v=>PZ K B H' ds v
 | .tup [.str c,.lst ds],v=>c="rows" -> ∃ t w,v=.ref t/\H' t=some (.tup [.str c,w])/\PZ K B H' ds w
 | _,_=>True
theorem PZ.mono{v:V}(h:PZ K B H' ds v)(h0:∀ p,B.H₀ p=none->B'.H₀ p=none)(hr:∀ a,B'.R a=true->B.R a=true):PZ K B' H' ds v:=by
 obtain⟨p,vs,a1,a2,a3,a4,a5⟩:=h;exact⟨p,vs,a1,h0 p a2,a3,a4,a5.mono (Q6 λb hb=>(Kt hb).elim (λz=>G9 (hr b z)) λz=>by rw[z];exact Pd)⟩
theorem NE.mono{d:Dat}{v:V}(h:NE K B H' d v)(h0:∀ p,B.H₀ p=none->B'.H₀ p=none)(hr:∀ a,B'.R a=true->B.R a=true):NE K B' H' d v:=by
 unfold NE at h ⊢;split at h
 .exact h.mono h0 hr
 .exactλz=>let ⟨t,w,e1,e2,e3⟩:=h z;⟨t,w,e1,e2,e3.mono h0 hr⟩
 .trivial
noncomputable def OR(pl:Bool)(H:Hp)(c:C1 A1):Prop:=c=some .none\/(pl=false/\OI H c)
noncomputable def Hd(X:Cx)(H:Hp)(c:C1 A1):Prop:=c=some .none\/(X.pl=false/\(OI H c\/∃ e2,c=some (.ref e2)/\X.A.handled=some (.ref e2)))
theorem Hd.v{X:Cx}{c:C1 A1}(h:Hd X H c)(hn:X.A.handled=none):OR X.pl H c:=h.imp id λ⟨p,z⟩=>⟨p,z.elim id λ⟨e2,_,y⟩=>by rw[hn] at y;cases y⟩
theorem OR.x{X:Cx}{pl:Bool}{H:Hp}{c:C1 A1}(h:OR pl H c)(hp:X.pl=true->pl=true):Hd X H c:=by
 refine h.imp id λ⟨p,z⟩=>⟨?_,.inl z⟩
 cases q:X.pl with
 | false=>rfl
 | true=>rw[hp q] at p;exact nomatch p
theorem Hd.no{X:Cx}{c:C1 A1}(h:Hd X H c)(hp:X.pl=true):c=some .none:=h.elim id λ⟨z,_⟩=>by rw[hp] at z;cases z
noncomputable def YN:Fl->Fl
 | .exc _ _ _=>.no
 | r=>r
structure QI (X:Cx) (aa:KL) (H:Hp) (h:Heap) (e C:Addr) (dct:Option Addr):Prop where
 lo:X.s₀.heap.objs.size<=e
 un:H e=none
 ob:(∃ o vs,h.get? e=some o/\o.cls=.ref C/\o.dict=dct/\o.data=.fields vs/\vs[1]?=some .none/\Hd X H vs[2]?)\/∃ T c2,X.s₀.heap.objs.size<=T/\H T=none/\(∀ p∈X.pn++aa,p.1≠T)/\L9 h X.base e T (.ref C,c2) dct .none/\Hd X H c2
 pe:∀ p∈X.pn++aa,p.1≠e
noncomputable def X3(H0 H:Hp)(dct:C1 A2):Prop:=∀ dx,dct=some dx->H0 dx=none/\∀ j f a,H dx=some (.xd j)->j.lookup f=some (.ref a)->H0 a=none/\∃ xs,H a=some (.lst xs)
theorem X3.mono(h:X3 H1 H dct)(m:∀ b,H1 b=none->H0 b=none):X3 H0 H dct:=λdx e=>⟨m _ (h dx e).1,λj f a q l=>((h dx e).2 j f a q l).imp (m _) id⟩
theorem bg{j:Z (Str×V)}(h1:H0 dx=none)(h2:H dx=some (.xd j))(h3:∀ f a,(f,V.ref a)∈j->H0 a=none/\∃ xs,H a=some (.lst xs)):X3 H0 H (some dx):=λdx' e=>by
 cases e;refine⟨h1,λfvs' f a q l=>?_⟩;rw[h2] at q;cases q;exact h3 f a (BG l)
theorem gG:X3 H0 H none:=λdx e=>by cases e
theorem Zr.none(s:Zr H H'){b:A2}(h:H' b=none):H b=none:=by
 cases q:H b with
 | none=>rfl
 | some o=>rw[s b o q] at h;cases h
noncomputable def XW(X:Cx)(H0:Hp)(A:AS)(H:Hp)(σ:St)(c:Str)(fs:Z (Str×XD)):Prop :=
 ∀ (aa:KL) (s:A4) (e C:A2) (dct:C1 A2),F' X aa σ H s->Vq X.K c C->QI X aa H s.heap e C dct->Fw X.K (av H A) dct fs->X3 H0 H dct->X.xe (.ref e) s
noncomputable def Iz(fr:Bool)(X:Cx)(B:Bs)(A:AS)(H:Hp)(D:KR):Fl->Prop
 | .next env'=>∀ A' H' σ',I3 A H A' H'->C' X.K B A' H' σ' env'->D.nx σ' H'
 | .brk env'=>∀ A' H' σ',I3 A H A' H'->C' X.K B A' H' σ' env'->D.bk σ' H'
 | .cont env'=>∀ A' H' σ',I3 A H A' H'->C' X.K B A' H' σ' env'->D.ct σ' H'
 | .ret d=>∀ v H',Zr B.H₀ H'->Rp X.K (av H' B.R) d v->(fr=true->NE X.K B H' d v)->D.rt v H'
 | .exc env' c fs=>∀ A' H' σ',I3 A H A' H'->C' X.K B A' H' σ' env'->XW X B.H₀ A' H' σ' c fs
 | .no=>False
inductive tS(fr:Bool)(X:Cx)(g:Ev->Fl)(D:KR)(σ:St)(H:Hp):Prop
 |mk(env:Ev)(B:Bs)(A:AS)(k:C' X.K B A H σ env)(l:B.st=true)(q:Iz fr X B A H D (g env))
noncomputable def Dl(fr:Bool)(X:Cx)(st:Df)(g:Ev->Fl):Prop:=PS X st (tS fr X g)
noncomputable def Xc(fr:Bool)(X:Cx)(st:Z Df)(g:Ev->Fl):Prop:=Dq X st (tS fr X g)
theorem Iz.step{X:Cx}{D:KR}{r:Fl}(h:Iz fr X B A H D r)(s:I3 A H A' H'):Iz fr X B A' H' D r:=by
 cases r with
 | next e=>exactλf H2 σ2 s2 k=>h f H2 σ2 (s.trans s2) k
 | brk e=>exactλf H2 σ2 s2 k=>h f H2 σ2 (s.trans s2) k
 | cont e=>exactλf H2 σ2 s2 k=>h f H2 σ2 (s.trans s2) k
 | ret d=>exact h
 | exc e c fs=>exactλf H2 σ2 s2 k=>h f H2 σ2 (s.trans s2) k
 | no=>exact h
section
variable{X:Cx}{st:Df}{aj a b:Z Df}{c:C3}{g h:Ev->Fl}{fs:Zzv}
noncomputable def Vo:Ev->Fl:=λenv=>.next env
noncomputable def Zd(g h:Ev->Fl):Ev->Fl:=λenv=>match g env with
 | .next env'=>h env'
 | r=>r
theorem Wq:Xc fr X [] Vo:=cR.weak λD σ H ⟨env,B,A,k,l,q⟩=>q A H σ (I3.refl A H) k
theorem Za(h1:Dl fr X st g)(h2:Xc fr X aj h):Xc fr X (st::aj) (Zd g h):=(Mo h1 h2).weak λD σ H M=>by
 obtain⟨env,B,A,k,l,q⟩:=M;refine⟨env,B,A,k,l,?_⟩;unfold Zd at q;split at q
 .rename_i env' e
  rw[e];exactλA' H' σ' s k'=>⟨env',B,A',k',l,q.step s⟩
 .rename_i r hn
  cases e:g env with
  | next env'=>exact absurd e (hn env')
  | brk e'=>rw[e] at q;exact q
  | cont e'=>rw[e] at q;exact q
  | ret d=>rw[e] at q;exact q
  | exc e' c fs=>rw[e] at q;exact q
  | no=>rw[e] at q;exact q
theorem Zl(h1:Dl fr X st g):Xc fr X [st] g:=Gp h1
theorem ci:Dl fr X (.Continue pos) (λenv=>.cont env):=d0.weak λD σ H ⟨env,B,A,k,l,q⟩=>q A H σ (I3.refl A H) k
noncomputable def Jv(t:Ev->C1 Bool)(g h:Ev->Fl):Ev->Fl:=λenv=>match t env with
 | some true=>g env
 | some false=>h env
 | none=>.no
theorem Ur(hc:MB X c t)(ha:Xc fr X a g)(hb:Xc fr X b h):Dl fr X (.If c a b pos) (Jv t g h):=(jZ hc ha hb).weak λD σ H M=>by
 obtain⟨env,B,A,k,l,q⟩:=M;unfold Jv at q;split at q
 .rename_i e
  refine⟨env,B,A,true,k,e,λH' s=>?_⟩;exact WD ⟨env,B,A,k.mono s,l,q.step (I3.same s)⟩
 .rename_i e
  refine⟨env,B,A,false,k,e,λH' s=>?_⟩;exact YE ⟨env,B,A,k.mono s,l,q.step (I3.same s)⟩
 .exact q.elim
noncomputable def F7(f:Zzu):Ev->Fl:=λenv=>match f env with
 | some _=>.next env
 | none=>.no
theorem XQ(he:Wn m X e f)(hs:swapsWith e none pos.line X.env=pure false:=by rfl):Dl fr X (.Expr e pos) (F7 f):=(Jr he hs).weak λD σ H M=>by
 obtain⟨env,B,A,k,l,q⟩:=M;unfold F7 at q;split at q
 .rename_i d e
  exact⟨env,B,A,d,k,e,λv H' s _=>q A H' σ (I3.same s) (k.mono s)⟩
 .exact q.elim
noncomputable def W3(f:Zzu):Ev->Fl:=λenv=>match f env with
 | some d=>.ret d
 | none=>.no
theorem Fp{d:Dat}{v:V}(k:C' X.K B A H σ env)(s:Zr H H')(r:Rp X.K (av H' A) d v):Zr B.H₀ H'/\Rp X.K (av H' B.R) d v:=⟨k.h0.trans s,r.mono (Q6 k.ra)⟩
theorem Yy(he:Wn false X e f):Dl false X (.Return (some e) pos) (W3 f):=(Aa he).weak λD σ H M=>by
 obtain⟨env,B,A,k,l,q⟩:=M;unfold W3 at q;split at q
 .rename_i d e
  exact⟨env,B,A,d,k,e,λv H' s r=>q v H' (Fp k s r).1 (Fp k s r).2 (λz=>by cases z)⟩
 .exact q.elim
theorem lY{p:A2}(k:C' X.K B A H σ env)(hz:ds.length<=sizeLine)(s:Zr H H')(hn:H p=none)(hp:H' p=some (.lst vs))(r:Wj X.K (av H' (ins A p)) ds vs):B.H₀ p=none/\B.R p=false/\Wj X.K (av H' (ins B.R p)) ds vs:=by
 have h0:B.H₀ p=none:=k.h0.free hn;refine⟨h0,?_,r.mono (Q6 λa ha=>?_)⟩
 .cases q:B.R p with
  | false=>rfl
  | true=>obtain⟨o,ho⟩:=k.r0 p q;rw[h0] at ho;cases ho
 .rcases Kt ha with z | z
  .exact G9 (k.ra a z)
  .subst z;exact Pd
theorem Kj(he:LZ X e fs):Dl fr X (.Return (some e) pos) (W3 (dL fs)):=(Aa he).weak λD σ H M=>by
 obtain⟨env,B,A,k,l,q⟩:=M;unfold W3 at q;split at q
 .rename_i d e
  obtain⟨ds,e1,e2⟩:=map_some e;subst e2;refine⟨env,B,A,ds,k,e1,λp vs H' hz s hn hp r=>?_⟩;obtain⟨h1,h2,h3⟩:=lY k hz s hn hp r;refine q (.ref p) H' (k.h0.trans s) (Kb hz (.inl (.inl (V7 hp h2))) (h3.mono (Q6 λa ha=>G9 ha))) λ_=>⟨p,vs,rfl,h1,hp,hz,h3⟩
 .exact q.elim
theorem Ej{s:KQ}(h:∀ (j:Nat) d,env[j]?≠some (.pk d))(hs:∀ d,s≠.pk d):∀ (j:Nat) d,(env.set i s)[j]?≠some (.pk d):=λj d=>by
 rw[AZ];split
 .split
  .intro z;exact hs d (BC z)
  .intro z;cases z
 .exact h j d
theorem C'.own(k:C' K B A H σ env)(l:B.st=true)(h:env[i]?=some (.ow ds)) :
  ∃ a vs,σ[i]?=some (some (.ref a))/\H a=some (.lst vs)/\Wj K (av H A) ds vs/\ds.length<=sizeLine/\A a=true/\B.R a=false/\B.H₀ a=none /\
   (∀ ds' c,ds'.length<=sizeLine->Wj K (av H A) ds' c->I3 A H A (W5 H a (.lst c))/\C' K B A (W5 H a (.lst c)) σ (env.set i (.ow ds'))) /\
   I3 A H (λb=>A b&&b != a) H/\C' K B (λb=>A b&&b != a) H σ (env.set i (.fz (.lst ds))):=by
 obtain⟨own,h1,h2,h4⟩:=k.sl;obtain⟨x,Y,a,vs,e1,e2,hz,e3,e4⟩:=h4 i _ h;subst e1;obtain⟨hA,Q⟩:=h2 i a e2;have h0:B.H₀ a=none:=by
  rcases k.ar a hA with z | z
  .rw[z] at Q;cases Q
  .exact z
 have m:∀ c,Zr (av H A) (av (W5 H a (.lst c)) A):=λc b o e=>by
  obtain⟨W,z2⟩:=Qs e;have hb:b≠a:=by intro z;rw[z,hA] at W;cases W
  exact V7 (by rw[Zh hb];exact z2) W
 refine⟨a,vs,Y,e3,e4,hz,hA,Q,h0,λds' c n r'=>⟨⟨λb o hb f=>?_,λb hb=>.inl hb⟩,?_⟩,⟨λb o hb _=>hb,λb hb=>.inl ?_⟩,?_⟩
 .have hn:b≠a:=by intro z;rw[z,hA] at f;cases f
  rw[Zh hn];exact hb
 .refine⟨λb o hb=>?_,k.r0,k.ra,k.ar,λb hb=>?_,by rw[BN];exact k.len,λhs j d'=>Ej (k.np hs) (λ_ z=>by cases z) j d',own,h1,h2,λj s e=>?_⟩
  .have hn:b≠a:=Y3 hb h0
   rw[Zh hn];exact k.h0 b o hb
  .by_cases hn:b=a
   .subst hn;rw[Zp];trivial
   .rw[Zh hn];exact k.mu b hb
  .by_cases hj:i=j
   .subst hj
    rw[AZ,AH rfl] at e;split at e
    .cases e
     exact⟨_,Y,a,c,rfl,e2,n,Zp,r'.mono (m c)⟩
    .cases e
   .rw[AZ,AM hj] at e
    obtain⟨x,p1,p2⟩:=h4 j s e;refine⟨x,p1,?_⟩;cases s with
    | un=>trivial
    | fz d=>obtain⟨v,W,z2⟩:=p2;exact⟨v,W,z2.mono (m c)⟩
    | pk d =>
     exact absurd e (k.np l j d)
    | ow es =>
     obtain⟨b,us,W,z2,z3,z4,z5⟩:=p2;have hn:b≠a:=λz=>hj (h1 i j a e2 (z▸z2))
     exact⟨b,us,W,z2,z3,by rw[Zh hn];exact z4,z5.mono (m c)⟩
    | gx g =>
     obtain⟨v,W,z2⟩:=p2;exact⟨v,W,z2.frame (λ_ z=>z) (λb x ob z=>by
      have hn:b≠a:=λw=>hj (h1 i j a e2 (w▸ob))
      rw[Zh hn];exact z) (m c)⟩
    | tb =>
      obtain⟨P,u,W,z2⟩:=p2;have hn:P≠a:=λw=>hj (h1 i j a e2 (w▸W))
      exact⟨P,u,W,by rw[Zh hn];exact z2⟩
 .rw[AW] at hb;exact hb.1
 .have less:Zr (av H A) (av H λb=>A b&&b != a):=Q6 λb hb=>by rw[AW] at hb;exact hb.1
  refine⟨k.h0,k.r0,λb hb=>?_,λb hb=>?_,λb hb=>?_,by rw[BN];exact k.len,λhs j d'=>Ej (k.np hs) (λ_ z=>by cases z) j d',λj b=>j≠i/\own j b,λj t b z D=>h1 j t b z.2 D.2,λj b z=>?_,λj s e=>?_⟩
  .have hn:b≠a:=by intro z;rw[z,Q] at hb;cases hb
   simp[k.ra b hb,hn]
  .rw[AW] at hb;exact k.ar b hb.1
  .rw[AW] at hb;exact k.mu b hb.1
  .have hn:b≠a:=λw=>z.1 (h1 j i a (w▸z.2) e2)
   simp[(h2 j b z.2).1,(h2 j b z.2).2,hn]
  .by_cases hj:i=j
   .subst hj
    rw[AZ,AH rfl] at e;split at e
    .cases e
     exact⟨_,Y,.ref a,rfl,Kb hz (.inl (.inl (V7 e3 (by simp)))) (e4.mono less)⟩
    .cases e
   .rw[AZ,AM hj] at e
    obtain⟨x,p1,p2⟩:=h4 j s e;refine⟨x,p1,?_⟩;cases s with
    | un=>trivial
    | fz d=>obtain⟨v,W,z2⟩:=p2;exact⟨v,W,z2.mono less⟩
    | pk d =>
     obtain⟨v,W,z2⟩:=p2;refine⟨v,W,?_⟩;rcases z2 with z2 | ⟨b,us,es,y1,y2,y3,F,y5⟩ | z2
     .exact .inl (z2.mono less)
     .exact .inr (.inl ⟨b,us,es,y1,y2,y3,F,y5.mono less⟩)
     .exact .inr (.inr z2)
    | ow es =>
     obtain⟨b,us,W,z2,z3,z4,z5⟩:=p2;exact⟨b,us,W,⟨AR hj,z2⟩,z3,z4,z5.mono less⟩
    | gx g =>
     obtain⟨v,W,z2⟩:=p2;exact⟨v,W,z2.frame (λ_ z=>⟨AR hj,z⟩) (λ_ _ _ z=>z) less⟩
    | tb=>obtain⟨P,u,W,z2⟩:=p2;exact⟨P,u,⟨AR hj,W⟩,z2⟩
noncomputable def Lf(i:Nat):Ev->Fl:=λenv=>match env[i]? with
 | some (.ow ds)=>.ret (.lst ds)
 | _=>.no
theorem B8(i:Nat){x:Str}(hN:X.N[i]?=some x:=by rfl)(hv:LU X.env.scope x:=by ext)(hd:C2 x:=by decide)
  (ae:(x==("__classdict__" : Str))=false:=by decide):Dl fr X (.Return (some (.Name x p)) pos) (Lf i):=(Aa (Jm hN hv hd ae)).weak λD σ H M=>by
 obtain⟨env,B,A,k,l,q⟩:=M;unfold Lf at q;split at q
 .rename_i ds e
  obtain⟨a,vs,h1,h2,h3,hz,hA,Q,h0,_⟩:=k.own l e;have less:∀ b,ins B.R a b=true->A b=true:=λb hb=>by
   rcases Kt hb with z | z
   .exact k.ra b z
   .rw[z];exact hA
  have r:=h3.mono (Q6 (H:=H) less);refine⟨.ref a,h1,q (.ref a) H k.h0 (Kb hz (.inl (.inl (V7 h2 Q))) (r.mono (Q6 λb hb=>G9 hb))) λ_=>⟨a,vs,rfl,h0,h2,hz,r⟩⟩
 .exact q.elim
noncomputable def Zw(i:Nat)(f:Zzu):Ev->Fl:=λenv=>match f env with
 | some d=>.next (env.set i (.fz d))
 | none=>.no
noncomputable def Rj(i:Nat)(f:Zzv):Ev->Fl:=λenv=>match f env with
 | some ds=>.next (env.set i (.ow ds))
 | none=>.no
theorem C'.putO(k:C' K B A H σ env)(l:B.st=true)(i:Nat){p:A2}(hz:ds.length<=sizeLine)(s:Zr H H')(hn:H p=none)(hp:H' p=some (.lst vs))(r:Wj K (av H' (ins A p)) ds vs) :
  I3 A H (ins A p) H'/\C' K B (ins A p) H' (σ.set i (some (.ref p))) (env.set i (.ow ds)):=by
 have st:I3 A H (ins A p) H':=⟨λa o h _=>s a o h,λa h=>by
  rcases Kt h with z | z
  .exact .inl z
  .rw[z];exact .inr hn⟩
 have m:A p=false:=k.mu.new hn;have h0:B.H₀ p=none:=k.h0.free hn;obtain⟨own,h1,h2,h4⟩:=k.sl;refine⟨st,k.h0.trans s,k.r0,λa h=>G9 (k.ra a h),λa h=>?_,λa h=>?_,by rw[BN,BN];exact k.len,λhs j d'=>Ej (k.np hs) (λ_ z=>by cases z) j d',
  λj a=>(j≠i/\own j a)\/(j=i/\a=p),λj t a z D=>?_,λj a z=>?_,λj sl e=>?_⟩
 .rcases Kt h with z | z
  .exact k.ar a z
  .rw[z];exact .inr h0
 .rcases Kt h with z | z
  .exact k.mu.mono s a z
  .rw[z,hp];trivial
 .rcases z with z | z<;>rcases D with D | D
  .exact h1 j t a z.2 D.2
  .have:=(h2 j a z.2).1;rw[D.2,m] at this;cases this
  .have:=(h2 t a D.2).1;rw[z.2,m] at this;cases this
  .rw[z.1,D.1]
 .rcases z with z | z
  .exact⟨G9 (h2 j a z.2).1,(h2 j a z.2).2⟩
  .refine⟨by rw[z.2];exact Pd,?_⟩
   cases q:B.R a with
   | false=>rfl
   | true=>obtain⟨o,ho⟩:=k.r0 a q;rw[z.2,h0] at ho;cases ho
 .by_cases hj:i=j
  .subst hj
   rw[AZ,AH rfl] at e;split at e
   .rename_i hl
    cases e;exact⟨some (.ref p),by rw[AZ,AH rfl,AH (by rw[k.len];exact hl)],p,vs,rfl,.inr ⟨rfl,rfl⟩,hz,hp,r⟩
   .cases e
  .rw[AZ,AM hj] at e
   obtain⟨x,p1,p2⟩:=h4 j sl e;refine⟨x,by rw[AZ,AM hj];exact p1,?_⟩;cases sl with
   | un=>trivial
   | fz d=>obtain⟨v,W,z2⟩:=p2;exact⟨v,W,z2.mono st.av⟩
   | pk d=>exact absurd e (k.np l j d)
   | ow es =>
    obtain⟨b,us,W,z2,z3,z4,z5⟩:=p2;exact⟨b,us,W,.inl ⟨AR hj,z2⟩,z3,s _ _ z4,z5.mono st.av⟩
   | gx g =>
    obtain⟨v,W,z2⟩:=p2;exact⟨v,W,z2.frame (λ_ z=>.inl ⟨AR hj,z⟩) (λb x _ z=>s b x z) st.av⟩
   | tb=>obtain⟨P,u,W,z2⟩:=p2;exact⟨P,u,.inl ⟨AR hj,W⟩,s _ _ z2⟩
theorem Zm(i:Nat){x:Str}(hN:X.N.Nodup)(he:Wn false X e f)(hi:X.N[i]?=some x:=by rfl)(hx:LL X.env.scope x:=by ext)(hs:swapsWith e (some (.Name x al)) pos.line X.env=pure false:=by rfl)
  (hf:X.fn x=true\/X.env.scope.names.lookup x=some .local:=by ext):Dl fr X (.Assign [.Name x al] e pos) (Zw i f):=(Nu hN hi hx he hs hf).weak λD σ H M=>by
 obtain⟨env,B,A,k,l,q⟩:=M;unfold Zw at q;split at q
 .rename_i d e
  exact⟨env,B,A,d,k,e,λv H' s r=>q A H' _ (I3.same s) ((k.mono s).put i r)⟩
 .exact q.elim
theorem Rz(i:Nat){x:Str}(hN:X.N.Nodup)(he:LZ X e fs)(hi:X.N[i]?=some x:=by rfl)(hx:LL X.env.scope x:=by ext)(hs:swapsWith e (some (.Name x al)) pos.line X.env=pure false:=by rfl)
  (hf:X.fn x=true\/X.env.scope.names.lookup x=some .local:=by ext):Dl fr X (.Assign [.Name x al] e pos) (Rj i fs):=(Nu hN hi hx he hs hf).weak λD σ H M=>by
 obtain⟨env,B,A,k,l,q⟩:=M;unfold Rj at q;split at q
 .rename_i ds e
  refine⟨env,B,A,ds,k,e,λp vs H' hz s hn hp r=>?_⟩;obtain⟨h1,h2⟩:=k.putO l i hz s hn hp r;exact q _ H' _ h1 h2
 .exact q.elim
variable{gg:Dat->Ev->C1 Ev}{tt:Ev->C1 Bool}
theorem jS(i:Nat){x:Str}(hN:X.N.Nodup)(psc:IA)(fs:Z (C1 Nat))(N:Z Str)(hp:X.env.scope=psc)(hc:X.calm=true)(hi:MH false X tg iter src)
  (hb:∀ (C:A2) (s:A4) (H:Hp) (fp:Z A2),MN is (Wc X sc N C s H fp) tg gg/\OJ (Wc X sc N C s H fp) aq tt/\Wn false (Wc X sc N C s H fp) aw f)
  (c:∀ i∈is,fs[i]?=some none) (aj:X.N[i]?=some x:=by rfl) (hx:LL X.env.scope x:=by ext) (S:CompOk psc sc X.N N fs:=by exact CompOk.of (by kernel_rfl!)) (hs:∀ x,foldedSetIterable iter X.env x=pure x:=by intro _;rfl) (am:swapsWith (.ListComp aw [⟨tg,iter,aq,0⟩] sc pos) (some (.Name x al)) ax.line X.env=pure true:=by rfl)
  (hf:X.fn x=true\/X.env.scope.names.lookup x=some .local:=by ext) :
  Dl fr X (.Assign [.Name x al] (.ListComp aw [⟨tg,iter,aq,0⟩] sc pos) ax) (Rj i (Vk src fs gg tt f)):=(Ea (g:=λv σ H Q=>∃ env R A d env',C' X.K R A H σ env/\Rp X.K (av H A) d v/\gg d env=some env'/\∀ σ',C' X.K R A H σ' env'->Gq is σ σ'->Q σ' H) (tt:=λσ H Q=>∃ env R A b,C' X.K R A H σ env/\tt env=some b/\∀ H',Zr H H'->Q b H') (te:=Tx9 false X.K f) hN aj hx psc fs N hp S hc hi hb hs am hf).weak λD σ H M=>by
 obtain⟨env,B,A,k,l,q⟩:=M;unfold Rj at q;split at q
 .rename_i ys e
  obtain⟨ds,e1,e2⟩:=bind_some e;refine⟨env,B,A,ds,k,e1,λJ H1 hz s1 u=>Ao (Q:=λv H'=>D.nx (σ.set i (some v)) H') c (k.mono s1) u hz e2 λp vs H' n s hn hp r=>?_⟩;obtain⟨h1,h2⟩:=k.putO l i n (s1.trans s) (s1.free hn) hp r;exact q _ H' _ h1 h2
 .exact q.elim
theorem Ol(i:Nat){x:Str}(hN:X.N.Nodup)(psc:IA)(fs:Z (C1 Nat))(N:Z Str)(hp:X.env.scope=psc)(hc:X.calm=true)(hi:MH false X tg iter src)
  (hb:∀ (C:A2) (s:A4) (H:Hp) (fp:Z A2),MN is (Wc X sc N C s H fp) tg gg/\OJ (Wc X sc N C s H fp) aq tt/\Wn false (Wc X sc N C s H fp) aw f)
  (c:∀ i∈is,fs[i]?=some none) (aj:X.N[i]?=some x:=by rfl) (hx:LL X.env.scope x:=by ext) (S:CompOk psc sc X.N N fs:=by exact CompOk.of (by kernel_rfl!)) (hs:∀ x,foldedSetIterable iter X.env x=pure x:=by intro _;rfl) (am:swapsWith (.ListComp aw [⟨tg,iter,aq,0⟩] sc pos) (some (.Name x al)) ax.line X.env=pure true:=by rfl)
  (hf:X.fn x=true\/X.env.scope.names.lookup x=some .local:=by ext) :
  Dl fr X (.Assign [.Name x al] (.ListComp aw [⟨tg,iter,aq,0⟩] sc pos) ax) (Zw i (dL (Vk src fs gg tt f))):=(Ea (g:=λv σ H Q=>∃ env R A d env',C' X.K R A H σ env/\Rp X.K (av H A) d v/\gg d env=some env'/\∀ σ',C' X.K R A H σ' env'->Gq is σ σ'->Q σ' H) (tt:=λσ H Q=>∃ env R A b,C' X.K R A H σ env/\tt env=some b/\∀ H',Zr H H'->Q b H') (te:=Tx9 false X.K f) hN aj hx psc fs N hp S hc hi hb hs am hf).weak λD σ H M=>by
 obtain⟨env,B,A,k,l,q⟩:=M;unfold Zw at q;split at q
 .rename_i d e
  obtain⟨ys,e',p⟩:=map_some e;subst p;obtain⟨ds,e1,e2⟩:=bind_some e';have q':Qa false X.K A H (.lst ys) (λv H'=>D.nx (σ.set i (some v)) H'):=λv H' s r=>q A H' _ (I3.same s) ((k.mono s).put i r)
  exact⟨env,B,A,ds,k,e1,λJ H1 hz s1 u=>Ao (Q:=λv H'=>D.nx (σ.set i (some v)) H') c (k.mono s1) u hz e2 ((q'.new k.mu).mono s1)⟩
 .exact q.elim
noncomputable def OO(f:Zzu)(g:Dat->Ev->C1 Ev):Ev->Fl:=λenv=>match (f env).bind λd=>g d env with
 | some env'=>.next env'
 | none=>.no
theorem bp{g:Dat->Ev->C1 Ev}(he:Wn false X e f)(hg:MN is X tg g)(hs:swapsWithSole [tg] e pos.line X.env=pure false:=by rfl)(J:swappedStores [tg] e X.env=pure none:=by rfl)(h1:(assignEach [tg] X.env).map (·.2)=[assign tg X.env]:=by rfl):Dl fr X (.Assign [tg] e pos) (OO f g):=(VC he hg hs J h1).weak λD σ H M=>by
 obtain⟨env,B,A,k,l,q⟩:=M;unfold OO at q;split at q
 .rename_i env' e
  obtain⟨d,e1,e2⟩:=bind_some e;exact⟨env,B,A,d,k,e1,λv H' s r=>⟨env,B,A,d,env',k.mono s,r,e2,λσ' k' _=>q A H' σ' (I3.same s) k'⟩⟩
 .exact q.elim
noncomputable def N6(g:Dat->Ev->C1 Ev)(body:Ev->Fl):Z Dat->Ev->Fl
 | [],env=>.next env
 | x::xs,env=>match g x env with
  | none=>.no
  | some n=>match body n with
   | .next e=>N6 g body xs e
   | .cont e=>N6 g body xs e
   | .brk e=>.next e
   | .ret d=>.ret d
   | .exc e c fs=>.exc e c fs
   | .no=>.no
noncomputable def T4(src:Zzv)(g:Dat->Ev->C1 Ev)(body:Ev->Fl):Ev->Fl:=λenv=>match src env with
 | none=>.no
 | some ds=>N6 g body ds env
theorem Vw(hp:PassesOwn (model X.prog X.w) X.A X.env X.xe)(hc:X.calm=true)(hi:MH true X tg iter src)(hg:MN is X tg gg)(hb:Xc fr X body g)
  (hs:∀ x,foldedSetIterable iter X.env x=pure x:=by intro _;rfl):Dl fr X (.For tg iter body [] pos) (T4 src gg g):=(lH hp hc hi hg hb hs).weak λD σ H M=>by
 obtain⟨env,B,A,k,l,q⟩:=M;unfold T4 at q;split at q
 .exact q.elim
 rename_i ds e;refine⟨env,B,A,ds,k,e,λJ H1 hz s1 u=>?_⟩;refine⟨λi m σ' H'=>m=ds.length - i/\i<=ds.length/\∃ A' env',I3 A H1 A' H'/\C' X.K B A' H' σ' env'/\Iz fr X B A' H' D (N6 gg g (ds.drop i) env'),
  ⟨ds.length,by simp,CZ _,A,env,I3.refl A H1,k.mono s1,by simpa using q.step (I3.same s1)⟩,?_⟩
 rintro i m σ' H' ⟨rfl,aj,A',env',s',k',q'⟩;obtain⟨Y,s⟩:=u A' H' s' k'.mu;by_cases ai:i<ds.length
 .obtain⟨go,C⟩:=Y i _ (show ds[i]?=some ds[i] by simp[ai])
  refine .inr ⟨go,λσ2 H2=>i+1<=ds.length/\∃ f a,I3 A H1 f H2/\C' X.K B f H2 σ2 a/\Iz fr X B f H2 D (N6 gg g (ds.drop (i+1)) a),λσ2 H2 z=>⟨ds.length - (i+1),by lia,rfl,z⟩,λx H2 hy=>?_⟩;obtain⟨s2,S⟩:=C x H2 hy;rw[DN ai,N6] at q';split at q'
  .exact q'.elim
  rename_i n e1;refine⟨env',B,A',ds[i],n,k'.mono s2,S,e1,λσ3 k3 _=>⟨n,B,A',k3,l,?_⟩⟩;have F:I3 A' H' A' H2:=I3.same s2;split at q'
  .rename_i e2 eb
   rw[eb];exactλb H4 σ4 s4 W=>⟨ai,b,e2,s'.trans (F.trans s4),W,q'.step (F.trans s4)⟩
  .rename_i e2 eb
   rw[eb];exactλb H4 σ4 s4 W=>⟨ai,b,e2,s'.trans (F.trans s4),W,q'.step (F.trans s4)⟩
  .rename_i e2 eb
   rw[eb];exactλb H4 σ4 s4 W=>q' b H4 σ4 (F.trans s4) W
  .rename_i d eb
   rw[eb];exact q'
  .rename_i e2 c2 f2 eb
   rw[eb];exactλb H4 σ4 s4 W=>q' b H4 σ4 (F.trans s4) W
  .exact q'.elim
 .have e:i=ds.length:=by lia
  subst e;rw[List.drop_length,N6] at q';exact .inl ⟨s,q' A' H' σ' (I3.refl _ _) k'⟩
noncomputable def V9(t:Ev->C1 Bool)(body:Ev->Fl):Nat->Ev->Fl
 | 0,_=>.no
 | n+1,env=>match t env with
  | none=>.no
  | some false=>.next env
  | some true=>match body env with
   | .next e=>V9 t body n e
   | .cont e=>V9 t body n e
   | .brk e=>.next e
   | .ret d=>.ret d
   | .exc e c fs=>.exc e c fs
   | .no=>.no
theorem Uu{body:Ev->Fl}:∀ {n:Nat} {env:Ev} (k:Nat),V9 t body n env≠.no->V9 t body (n+k) env=V9 t body n env
 | 0,env,k,h=>absurd rfl h
 | n+1,env,k,h=>by
  rw[show n+1+k=(n+k)+1 by lia];simp only[V9] at h ⊢;split
  .rfl
  .rfl
  .rename_i e1
   simp only[e1] at h;split
   .rename_i e2 eb;simp only[eb] at h;exact Uu k h
   .rename_i e2 eb;simp only[eb] at h;exact Uu k h
   .rfl
   .rfl
   .rfl
   .rfl
open Classical in
noncomputable def Sj(t:Ev->C1 Bool)(body:Ev->Fl):Ev->Fl:=λenv=>if h:∃ n,V9 t body n env≠.no then V9 t body (Classical.choose h) env else .no
theorem F5{body:Ev->Fl}{n:Nat}(h:V9 t body n env≠.no):Sj t body env=V9 t body n env:=by
 unfold Sj;have hx:∃ n,V9 t body n env≠.no:=⟨n,h⟩;rw[dif_pos hx];have hc:=Classical.choose_spec hx;have e1:=Uu n hc;have e2:=Uu (Classical.choose hx) h;rw[<- e1,<- e2,Nat.add_comm]
theorem bx(hp:PassesOwn (model X.prog X.w) X.A X.env X.xe)(hc:MB X c t)(hb:Xc fr X body g):Dl fr X (.While c body [] pos) (Sj t g):=(kQ hp hc hb).weak λD σ H M=>by
 obtain⟨env,B,A,k,l,q⟩:=M;unfold Sj at q;split at q
 .rename_i hx
  refine⟨λn σ' H'=>∃ A' env',C' X.K B A' H' σ' env'/\Iz fr X B A' H' D (V9 t g n env'),⟨_,A,env,k,q⟩,?_⟩;rintro n σ' H' ⟨A',env',k',q'⟩;cases n with
  | zero=>exact q'.elim
  | succ n =>
   rw[V9] at q';split at q'
   .exact q'.elim
   .rename_i e1
    refine⟨env',B,A',false,k',e1,λH1 s1=>?_⟩;refine YE ?_;exact q' A' H1 σ' (I3.same s1) (k'.mono s1)
   .rename_i e1
    refine⟨env',B,A',true,k',e1,λH1 s1=>?_⟩;refine WD ?_;refine⟨λσ2 H2=>∃ f a,C' X.K B f H2 σ2 a/\Iz fr X B f H2 D (V9 t g n a),λσ2 H2 z=>⟨n,GK n,z⟩,env',B,A',k'.mono s1,l,?_⟩;have F:I3 A' H' A' H1:=I3.same s1;split at q'
    .rename_i e2 eb
     rw[eb];exactλb H4 σ4 s4 W=>⟨b,e2,W,q'.step (F.trans s4)⟩
    .rename_i e2 eb
     rw[eb];exactλb H4 σ4 s4 W=>⟨b,e2,W,q'.step (F.trans s4)⟩
    .rename_i e2 eb
     rw[eb];exactλb H4 σ4 s4 W=>q' b H4 σ4 (F.trans s4) W
    .rename_i d eb
     rw[eb];exact q'
    .rename_i e2 c2 f2 eb
     rw[eb];exactλb H4 σ4 s4 W=>q' b H4 σ4 (F.trans s4) W
    .exact q'.elim
 .exact q.elim
noncomputable def S'(X:Cx)(id:String)(F:Z Dat->Z Dat->C1 (Z Dat)):Prop:=MZ X id (λv us H Q=>∃ A a vs ds as ds',Td A H/\v=.ref a/\H a=some (.lst vs)/\Wj X.K (av H A) ds vs/\Cb false X.K A H as us/\F ds as=some ds'/\∀ w c,ds'.length<=sizeLine->Wj X.K (av H A) ds' c->Q w (W5 H a (.lst c)))
noncomputable def J5(i:Nat)(F:Z Dat->Z Dat->C1 (Z Dat))(fs:Zzv):Ev->Fl:=λenv=>match env[i]? with
 | some (.ow ds)=>match (fs env).bind λas=>F ds as with
  | some ds'=>.next (env.set i (.ow ds'))
  | none=>.no
 | _=>.no
theorem Mf(i:Nat){x:Str}{id:String}{F:Z Dat->Z Dat->C1 (Z Dat)}(slot:Slot "list" name id)(n:typeOf (.builtin id)=pure (.type "method_descriptor"))(hm:S' X id F)(ha:Ps false X (e::es) fs)
  (hN:X.N[i]?=some x:=by rfl) (hv:LU X.env.scope x:=by ext) (hd:C2 x:=by decide) (ae:(x==("__classdict__" : Str))=false:=by decide)
  (am:swapsWith (.Call (.Attribute (.Name x p) name au) (e::es) [] ak) none pos.line X.env=pure false:=by rfl)
  (u:attributeBase (.Name x p) name X.env (eval (.Name x p) X.env)=eval (.Name x p) X.env:=by rfl)
  (S:((backTo ak (starEach (e::es) X.env)).all (λx=>!x.1)&&(backToKw ak (keywordEach [] X.env)).all (λx=>x.1.isSome)
   && decide ((e::es).length+([]:Z Keyword).length+(if([]:Z Keyword).isEmpty then 0 else 1)<30))=true:=by rfl)
  (E:(au.endLine==ak.line)=true:=by rfl) (hs:Z0 X.env e es:=by rfl) (C:Z1 ak X.env es:=by rfl) :
  Dl fr X (.Expr (.Call (.Attribute (.Name x p) name au) (e::es) [] ak) pos) (J5 i F fs):=(Jr (QX DU slot n hm (Jm hN hv hd ae) ha u S E hs C) am).weak λD σ H M=>by
 obtain⟨env,B,A,k,l,q⟩:=M;unfold J5 at q;split at q
 .rename_i ds e
  split at q
  .rename_i ds' e2
   obtain⟨as,e3,e4⟩:=bind_some e2;obtain⟨a,vs,h1,h2,h3,_⟩:=k.own l e;refine⟨.ref a,h1,.inl ⟨rfl,vs,Dc.of h2⟩,env,B,A,as,k,e3,λus H2 s2 rs=>?_⟩;have k2:=k.mono s2;obtain⟨a',c,g1,g2,g3,_,_,_,_,g4,_⟩:=k2.own l e;rw[h1] at g1;cases g1;refine⟨A,a,c,ds,as,ds',k2.mu,rfl,g2,g3,rs,e4,λw g hz r2=>?_⟩;obtain⟨W,z2⟩:=g4 ds' g hz r2;exact q A _ σ ((I3.same s2).trans W) z2
  .exact q.elim
 .exact q.elim
noncomputable def Vh:Z Dat->Z Dat->C1 (Z Dat)
 | ds,[d]=>if ds.length<sizeLine then some (ds++[d]) else none
 | _,_=>none
theorem Jn:S' X "list.append" Vh:=MZ.weak (id:="list.append") Fc λv us H Q M=>by
 obtain⟨A,a,vs,ds,as,ds',mu,e1,h1,r1,r2,e2,q⟩:=M;unfold Vh at e2;split at e2
 .rename_i d
  split at e2
  .rename_i hl
   cases e2;obtain⟨w,h,e3,f,e4⟩:=r2;refine⟨a,vs,w,e1,by rw[e3,show h=[] from e4],h1,by rw[Y6 r1];exact hl,q _ _ (by simp;lia) (V3 r1 (Q1 f))⟩
  .cases e2
 .cases e2
end
variable{g:Ev->Fl}
inductive Rs where
 | ok (d:Dat) | exc (c:Str) (fs:List (Str×XD)) | no
noncomputable def Vv(n:Nat)(ds:Z Dat):Ev:=ds.map .fz++List.replicate (n - ds.length) .un
noncomputable def W2(n p:Nat)(g:Ev->Fl):Z Dat->Rs:=λds=>if ds.length=p then(match g (Vv n ds) with
 | .ret d=>.ok d
 | .next _=>.ok .non
 | .exc _ c fs=>.exc c fs
 | _=>.no) else .no
noncomputable def TB(K:J1)(fr:Bool)(p:Nat)(F:Z Dat->Rs):Sp:=λvs H Q _=>vs.length=p/\∃ ds R d,Td R H/\Wj K (av H R) ds vs/\F ds=.ok d/\∀ v H',Zr H H'->Rp K (av H' R) d v->(fr=true->NE K ⟨H,R,true⟩ H' d v)->Q v H'
structure NG (P:Program) (w:World) (K:J1) (mg:KP) (base:Heap) (k:Nat) (x:Str) (ps:List Str) (fr:Bool) (F:List Dat->Rs):Prop where
 cal:UM P w K mg base k x ps (TB K fr ps.length F)
 len:∀ ds d,F ds=.ok d->ds.length=ps.length
theorem QD.some{o:C1 HO}(h:QD o):∃ u,o=Option.some u:=by
 cases o with
 | none=>exact h.elim
 | some u=>exact⟨u,rfl⟩
theorem Iu{R:AS}{N:Z Str}(mu:Td R H)(r:Wj K (av H R) ds vs)(hl:ds.length<=N.length):C' K ⟨H,R,true⟩ R H (J' N vs) (Vv N.length ds):=by
 have hn:=Y6 r;refine⟨Zr.refl H,λa h=>(mu a h).some,λ_ h=>h,λ_ h=>.inl h,mu,by simp[J',Vv];lia,λ_ i d=>?_,λ_ _=>False,λ_ _ _ h=>h.elim,λ_ _ h=>h.elim,λi s e=>?_⟩
 .unfold Vv
  rw[HY];split
  .rw[AL]
   cases ds[i]?<;>simp
  .rw[EN]
   split<;>simp
 .unfold Vv at e
  unfold J';rw[HY] at e ⊢;simp only[AF] at e ⊢;rw[hn];split at e
  .rename_i hi
   rw[AH hi];rw[AL] at e ⊢;cases hd:ds[i]? with
   | none=>rw[hd] at e;cases e
   | some d =>
    rw[hd] at e;cases e;obtain⟨v,h1,h2⟩:=Ms r hd;rw[h1];exact⟨some v,rfl,v,rfl,h2⟩
  .rename_i hi
   rw[AM hi];rw[EN] at e ⊢;split at e
   .rename_i h2
    cases e;rw[AH h2];exact⟨none,rfl,trivial⟩
   .cases e
theorem WR{X:Cx}{N:Z Str}{p:Nat}{d:Dat}{R:AS}{Q:VK}(hp:p<=N.length)(mu:Td R H)(r:Wj X.K (av H R) ds vs)(m:W2 N.length p g ds=.ok d)
  (q:∀ v H',Zr H H'->Rp X.K (av H' R) d v->(fr=true->NE X.K ⟨H,R,true⟩ H' d v)->Q v H') :
  tS fr X g (KR.mk (λ_ H'=>Q .non H') Q (λ_ _=>False) (λ_ _=>False)) (J' N vs) H:=by
 unfold W2 at m;split at m
 .rename_i hl
  refine⟨Vv N.length ds,⟨H,R,true⟩,R,Iu mu r (by lia),rfl,?_⟩;split at m
  .rename_i d' e
   cases m;rw[e];exactλv H' s r n=>q v H' s r n
  .rename_i env e
   cases m;rw[e];exactλA' H' σ' s k=>q .non H' k.h0 Pg (λ_=>trivial)
  .cases m
  .cases m
 .cases m
section
variable{P:Fn}{w:Gf}{K:J1}{mg:KP}{base:H3}
theorem bt{n p:Nat}{d:Dat}(h:W2 n p g ds=.ok d):ds.length=p:=by
 unfold W2 at h;split at h
 .assumption
 .cases h
theorem iW{P:Z α->Prop}(us:Z α)(hl:us.length=0)(h:P []):P us:=by cases us with | nil=>exact h | cons _ _=>cases hl
@[elab_as_elim] theorem MO{P:Z α->Prop}(us:Z α)(hl:us.length=1)(h:∀ a,P [a]):P us:=by
 cases us with
 | nil=>cases hl
 | cons a us=>exact iW (P:=λus=>P (a::us)) us (GQ hl) (h a)
@[elab_as_elim] theorem LA{P:Z α->Prop}(us:Z α)(hl:us.length=2)(h:∀ a b,P [a,b]):P us:=by
 cases us with
 | nil=>cases hl
 | cons a us=>exact MO (P:=λus=>P (a::us)) us (GQ hl) (h a)
@[elab_as_elim] theorem MV{P:Z α->Prop}(us:Z α)(hl:us.length=3)(h:∀ a b c,P [a,b,c]):P us:=by
 cases us with
 | nil=>cases hl
 | cons a us=>exact LA (P:=λus=>P (a::us)) us (GQ hl) (h a)
@[elab_as_elim] theorem OB{P:Z α->Prop}(us:Z α)(hl:us.length=4)(h:∀ a b c d,P [a,b,c,d]):P us:=by
 cases us with
 | nil=>cases hl
 | cons a us=>exact MV (P:=λus=>P (a::us)) us (GQ hl) (h a)
@[elab_as_elim] theorem fP{P:Z α->Prop}(us:Z α)(hl:us.length=5)(h:∀ a b c d e,P [a,b,c,d,e]):P us:=by
 cases us with
 | nil=>cases hl
 | cons a us=>exact OB (P:=λus=>P (a::us)) us (GQ hl) (h a)
@[elab_as_elim] theorem mw{P:Z α->Prop}(us:Z α)(hl:us.length=6)(h:∀ a b c d e f,P [a,b,c,d,e,f]):P us:=by
 cases us with
 | nil=>cases hl
 | cons a us=>exact fP (P:=λus=>P (a::us)) us (GQ hl) (h a)
theorem Wa{x:Str}{st:Df}{N:Z Str}(D:NU K mg x st)(S:FnScope N ps (Z9 st))
  (j:dV x st ps)
  (hb:∀ (f:A2) (ai:A1) (A:C0) (outer:Z I0) (s:A4) (H:Hp) (E:XK),I' k (A.deeper (envOfC x (Z9 st) s.heap.objs.size f ai))->Xc fr (Qf Ec P w K mg base N x (Z9 st) f ai A outer s H E).nox (Yn st) g) :
  NG P w K mg base (k+1) x ps fr (W2 N.length ps.length g):=by
 have ag:ps.length<=N.length:=by have:=DY List.length S.pre;rw[CP] at this;lia
 refine⟨lG D S j (λvs H Q E h=>h.1) λf ai A outer s H vs Q E hr zz=>⟨_,hb f ai A outer s H E hr,?_⟩,λds d h=>bt h⟩;obtain⟨hl,ds,R,d,mu,r,m,q⟩:=zz;exact WR ag mu r m q
variable{X:Cx}{m:Bool}{fr:Bool}{F:Z Dat->Rs}{k:Nat}{x:Str}{ps:Z Str}{e:C3}{es:Z C3}{fs:Zzv}{p pos:Pos}
noncomputable def TF:Rs->C1 Dat
 | .ok d=>some d
 | _=>none
theorem Cs{r:Rs}{d:Dat}(h:TF r=some d):r=.ok d:=by cases r<;>cases h;rfl
noncomputable def Zx(F:Z Dat->Rs)(fs:Zzv):Ev->C1 Dat:=λenv=>(fs env).bind λds=>TF (F ds)
theorem WL(C:NG X.prog X.w X.K X.mg X.base k x ps fr F)(hr:I' k X.A)(ha:Ps false X (e::es) fs)(hg:Gl X x:=by rfl)
  (g:C2 x:=by decide) (he:Z0 X.env e es:=by rfl) (ag:Z1 pos X.env es:=by rfl) :
  Wn m X (.Call (.Name x p) (e::es) [] pos) (Zx F fs):=Wn.any ((lM C.cal hr ha hg g he ag).weak λσ H Q M=>by
 obtain⟨env,R,A,d,k,Y,q2⟩:=M;obtain⟨ds,e1,e2⟩:=bind_some Y;have e3:=Cs e2;refine⟨env,R,A,ds,k,e1,λvs H1 s1 rs=>⟨by rw[Y6 rs.rps];exact C.len ds d e3,ds,A,d,k.mu.mono s1,rs.rps,e3,λv H' s r _=>q2 v H' (s1.trans s) r⟩⟩)
mutual
def P':Dat->Bool
 | .lst _=>false
 | .dct _=>false
 | .exc _ _=>false
 | .box _ _=>false
 | .tup xs=>Al xs
 | .non=>true
 | .bl _=>true
 | .int _=>true
 | .str _=>true
def Al:Z Dat->Bool
 | []=>true
 | x::xs=>P' x&&Al xs
end
theorem j7{a:A2}(mu:Td A H)(h:Dr K H a vs):Dr K (av H A) a vs:=by
 rcases h with h | h
 .left
  have hA:A a=false:=by
   cases q:A a with
   | false=>rfl
   | true =>
    have:=mu a q;rw[h] at this;exact this.elim
  exact V7 h hA
 .exact .inr h
mutual
theorem Rp.pure(mu:Td A H):∀ {d:Dat} {v:V},P' d=true->Rp K H d v->Rp K (av H A) d v
 | .non,v,_,r=>by rw[Ag r];exact Pg
 | .bl b,v,_,r=>by rw[Oq r];exact Tf
 | .int b,v,_,r=>by rw[M5 r];exact W9
 | .str b,v,_,r=>by obtain⟨e,h⟩:=B6 r;rw[e];exact Rb h
 | .lst _,v,h,_=>by cases h
 | .dct _,v,h,_=>by cases h
 | .exc _ _,v,h,_=>by cases h
 | .box _ _,v,h,_=>by cases h
 | .tup xs,v,h,r=>by
  obtain⟨a,vs,e,h1,h2⟩:=Ss r;subst e;exact B7 (ZF r) (j7 mu h1) (Wj.pure mu (by simpa[P'] using h) h2)
theorem Wj.pure(mu:Td A H):∀ {ds:Z Dat} {vs:Z V},Al ds=true->Wj K H ds vs->Wj K (av H A) ds vs
 | [],vs,_,r=>by rw[Ym r];exact Vt
 | d::ds,vs,h,r=>by
  obtain⟨v,us,e,r1,r2⟩:=Y0 r;subst e;rw[Al,AW] at h;exact Wx (Rp.pure mu h.1 r1) (Wj.pure mu h.2 r2)
end
end
section
variable{X:Cx}{m:Bool}
structure NF (K:J1) (mg:KP) (x:Str) (d:Dat):Prop where
 ex:∃ v u,mg x=some u/\Yr v u/\∀ H,Rp K H d v
theorem NF.x{x:Str}{d:Dat}{p:Pos}(G:NF X.K X.mg x d)(hg:Gl X x)(hd:C2 x:=by decide):Wn m X (.Name x p) (dC d):=by
 obtain⟨v,u,h1,h2,h3⟩:=G.ex;exact j6 hg h1 h2 h3 hd
end
noncomputable def OV(sq:Hp->Z V->Prop):It :=
 ⟨λi H=>∃ xs x,sq H xs/\xs[i]?=some x,
  λi H v H'=>∃ p x,v=.ref p/\H p=none/\(∀ xs,sq H xs->xs[i]?=some x)/\H'=W5 H p (.tup [.int i,x]),
  λi H=>∃ xs,sq H xs/\xs.length=i⟩
theorem F'.turnedT{X:Cx}{xs:Z V}(I:F' X aa σ H s)(hf:∀ b∈ch,Sx X aa H b)
  (kk:∀ b o,b∉ch->s.heap.get? b=some o->h'.get? b=some o) (hT:s.heap.objs.size<=T) (rv:Y5 xs its) (hz:xs.length<=sizeLine) (ht:IsTup h' T its.toArray) :
  F' X aa σ (W5 H T (.tup xs)) { s with heap:=h',toks:=tk }:=by
 have hn:H T=none:=I.hok.fresh hT;have a:∀ b u,H b=some u->b∉ch:=λb u e z=>by rw[(hf b z).1] at e;cases e
 refine I.call' (ch:=ch) rfl ⟨λb o q n _ hx=>kk b o hx q,λb o q n _ hx=>⟨o.slots,kk b o hx q⟩,λb o q n hx=>?_,λb o q hx=>⟨o,kk b o hx q⟩,λb ys q=>?_,λb o u q=>?_,λb ps q=>⟨#[],?_⟩⟩ (λb u e=>?_) I.bare λb hb=>⟨(hf b hb).2.2.2.1,(hf b hb).2.1,(hf b hb).2.2.2.2.1,(hf b hb).2.2.2.2.2⟩
 .rw[Zh (BR (AO (AQ q) hT))];exact n
 .rw[Zh (Y3 q hn)];exact q
 .rw[Zh (Y3 q hn)];exact q
 .rw[Zh (Y3 q hn),q];simp
 .by_cases hb:b=T
  .subst hb
   rw[Zp] at e;cases e;exact⟨hz,its,rv,ht⟩
  .rw[Zh hb] at e
   refine(I.hok b u e).stay (λc v hc q=>?_) (λc q=>?_) λc ys q=>?_
   .rcases hc with hc | hc
    .subst hc;exact kk c v (a c u e) q
    .exact kk c v (a c _ hc) q
   .rw[Zh (Y3 q hn)];exact q
   .rw[Zh (Y3 q hn)];exact q
theorem F'.turnedN{X:Cx}(I:F' X aa σ H s)(hf:∀ b∈ch,Sx X aa H b)
  (kk:∀ b o,b∉ch->s.heap.get? b=some o->h'.get? b=some o):F' X aa σ H { s with heap:=h',toks:=tk }:=by
 have a:∀ b u,H b=some u->b∉ch:=λb u e z=>by rw[(hf b z).1] at e;cases e
 refine I.call' (ch:=ch) rfl ⟨λb o q n _ hx=>kk b o hx q,λb o q n _ hx=>⟨o.slots,kk b o hx q⟩,λb o q n hx=>n,λb o q hx=>⟨o,kk b o hx q⟩,λb ys q=>q,λb o u q=>q,λb ps q=>⟨#[],by rw[q];simp⟩⟩ (λb u e=>?_) I.bare λb hb=>⟨(hf b hb).2.2.2.1,(hf b hb).2.1,(hf b hb).2.2.2.2.1,(hf b hb).2.2.2.2.2⟩
 refine(I.hok b u e).stay (λc v hc q=>?_) (λc q=>q) λc ys q=>q
 rcases hc with hc | hc
 .subst hc;exact kk c v (a c u e) q
 .exact kk c v (a c _ hc) q
theorem Xn{P:Fn}(a e it:A2)(j:Nat->H3->Prop)(G:H3->Array A1->Prop)(sq:Hp->Z V->Prop)
  (hS:∀ h h' i,j i h->(∀ o,h.get? it=some o->h'.get? it=some o)->j i h')
  (S:∀ h i,j i h->∃ o,h.get? it=some o/\o.cls≠.type "enumerate" /\ ∀ v,o.data≠.cell v)
  (hA:∀ h ac,G h ac->∃ o,h.get? a=some o/\o.cls≠.type "enumerate" /\ ∀ h' i,j i h'->∀ o',h'.get? it=some o'->o'.cls≠o.cls)
  (y:∀ A:C0,A.handled=none->a≠it->∀ ac:Array A1,Draws P w A it [it,a] ac.size (λi v=>ac[i]?=some v) (λi h=>j i h/\G h ac))
  (hg:∀ (X:Cx) (aa:KL) (σ:St) (H:Hp) (s:A4) (xs:Z V),X.K=K->F' X aa σ H s->sq H xs->∃ its,Y5 xs its/\G s.heap its.toArray)
  (hj:∀ (X:Cx) (aa:KL) (σ:St) (H:Hp) (s:A4) (xs ys:Z V),X.K=K->F' X aa σ H s->sq H xs->sq H ys->xs=ys) :
  OF P w K (.Tuple es k pos) (OV sq) [e,it] e (λi h=>(∃ old,IsEnum h e it i old)/\j i h) where
 mem:=by simp
 obj:=λi h st b hb=>by
  rcases BK.mp hb with rfl | hb
  .obtain⟨⟨old,z⟩,_⟩:=st;exact⟨_,z,λv q=>by cases q⟩
  .rw[AJ.mp hb];obtain⟨o,h1,_,h2⟩:=S h i st.2;exact⟨o,h1,h2⟩
 keep:=λi h h' st kk=>by
  obtain⟨⟨old,z⟩,q⟩:=st;exact⟨⟨old,kk e (by simp) _ z⟩,hS h h' i q λo r=>kk it (by simp) o r⟩
 item:=by
  intro X m J hK hc i aa s σ H E I hf st Y;subst m J;obtain⟨xs,x,F,hx⟩:=Y;obtain⟨its,rv,N⟩:=hg X aa σ H s xs hK I F;obtain⟨u,C,M⟩:=rv.get hx;obtain⟨⟨old,n⟩,g⟩:=st;obtain⟨oi,c,R,_⟩:=S _ _ g;obtain⟨oa,f,B,af⟩:=hA _ _ N;have ae:a≠it:=by intro z;rw[z,c] at f;cases f;exact af _ _ g _ c rfl
  have D:e≠it:=by intro z;rw[<- z,n] at c;cases c;exact R rfl
  have ag:e≠a:=by intro z;rw[<- z,n] at f;cases f;exact B rfl
  have W:=WalksT.enumerateD (y X.A.in1 (I.ok.hd hc) ae its.toArray) e D (by simp[D,ag]) (by simp);have hi:i<its.toArray.size:=by rw[AV];exact(AC.mp C).1
  refine W.item i s _ _ hi ⟨⟨old,n⟩,g,N⟩ λT p h' tk al hT aj hM hk=>⟨.ref T,rfl,W.go es k pos i T _ _ _ hM λh2 l ak=>?_⟩
  obtain⟨t,d,ap,rfl⟩:=al;have am:d=u:=by
   have:its[i]?=some d:=by simpa using ap
   rw[C] at this;exact(BC this).symm
  subst am;have ah:IsTup h2 T #[.int i t,d]:=by
   obtain⟨o,ho,r⟩:=aj;exact⟨o,ak T o (W.apart i T h' hM) ho,r⟩
  have I2:=F'.turnedT (s:=s) (h':=h2) (tk:=tk) (ch:=[e,it]) (its:=[.int i t,d]) (xs:=[.int i,x]) I hf (λb o hb q=>ak b o hb (hk b o hb q)) hT (.cons ⟨t,rfl⟩ (.cons M .nil)) (by show 2<=sizeLine;decide) ah;refine⟨.ref T,W5 H T (.tup [.int i,x]),I2,rfl,⟨T,x,rfl,I.hok.fresh hT,λys hy=>?_,rfl⟩,⟨l.1,l.2.1⟩,λb hb=>?_⟩
  .rw[hj X aa σ H s ys xs hK I hy F];exact hx
  .rw[Zh ?_];exact(hf b hb).1
   intro z;have ai:b<s.heap.objs.size:=by
    rcases BK.mp hb with rfl | hb
    .exact AQ n
    .rw[AJ.mp hb];exact AQ c
   exact absurd (AO ai (by rw[z];exact hT)) (DF _)
 done:=by
  intro X m J hK hc i aa s σ H E I hf st hs;subst m J;obtain⟨xs,F,hl⟩:=hs;obtain⟨its,rv,N⟩:=hg X aa σ H s xs hK I F;obtain⟨⟨old,n⟩,g⟩:=st;obtain⟨oi,c,R,_⟩:=S _ _ g;obtain⟨oa,f,B,af⟩:=hA _ _ N;have ae:a≠it:=by intro z;rw[z,c] at f;cases f;exact af _ _ g _ c rfl
  have D:e≠it:=by intro z;rw[<- z,n] at c;cases c;exact R rfl
  have ag:e≠a:=by intro z;rw[<- z,n] at f;cases f;exact B rfl
  have W:=WalksT.enumerateD (y X.A.in1 (I.ok.hd hc) ae its.toArray) e D (by simp[D,ag]) (by simp);have hn:its.toArray.size=i:=by rw[AV,<- rv.length];exact hl
  refine W.done s _ _ (by rw[hn];exact⟨⟨old,n⟩,g,N⟩) λh' tk hk=>⟨rfl,I.turnedN (ch:=[e,it]) hf λb o hb q=>hk b o hb q⟩
 self:=λA i s Q E st h=>by
  obtain⟨⟨old,z⟩,_⟩:=st;exact IW z h
section
variable{st:Bool}{X:Cx}{l:C3}
theorem eX(a e it:A2):OF X.prog X.w X.K (.Tuple es tk aB) (OV λH xs=>Dr X.K H a xs) [e,it] e (λi h=>(∃ old,IsEnum h e it i old)/\h.IsTupleIter it a i) :=
 Xn a e it (λi h=>h.IsTupleIter it a i) (λh ac=>h.IsTuple a ac) _ (λh h' i q kk=>let ⟨o,h1,r⟩:=q;⟨o,kk o h1,r⟩)
  (λh i q=>let ⟨o,h1,h2,h3⟩:=q;⟨o,h1,by rw[h2];decide,λv z=>by rw[h3] at z;cases z⟩)
  (λh ac q=>let ⟨o,h1,h2,_⟩:=q;⟨o,h1,by rw[h2];decide,λh' i r o' e'=>by obtain⟨o2,g1,g2,_⟩:=r;rw[g1] at e';cases e';rw[g2,h2];decide⟩)
  (λA hh ae ac=>Draws.tupleD hh it a ae ac)
  (λY aa σ H s xs hK I h=>by rw[<- hK] at h;obtain⟨its,r,p,_⟩:=I.tuple h;exact⟨its,r,p⟩)
  (λY aa σ H s xs ys hK I h h'=>by rw[<- hK] at h h';exact I.tuple_inj h h')
theorem kc(a e it:A2):OF X.prog X.w X.K (.Tuple es tk aB) (OV λH xs=>Dc X.K H a xs) [e,it] e (λi h=>(∃ old,IsEnum h e it i old)/\h.IsListIter it a i) :=
 Xn a e it (λi h=>h.IsListIter it a i) (λh ac=>h.IsList a ac) _ (λh h' i q kk=>let ⟨o,h1,r⟩:=q;⟨o,kk o h1,r⟩)
  (λh i q=>let ⟨o,h1,h2,h3⟩:=q;⟨o,h1,by rw[h2];decide,λv z=>by rw[h3] at z;cases z⟩)
  (λh ac q=>let ⟨o,h1,h2,_⟩:=q;⟨o,h1,by rw[h2];decide,λh' i r o' e'=>by obtain⟨o2,g1,g2,_⟩:=r;rw[g1] at e';cases e';rw[g2,h2];decide⟩)
  (λA hh ae ac=>Draws.list hh it a ae ac)
  (λY aa σ H s xs hK I h=>by rw[<- hK] at h;obtain⟨its,r,p,_⟩:=I.list h;exact⟨its,r,p.isList⟩)
  (λY aa σ H s xs ys hK I h h'=>by rw[<- hK] at h h';exact I.list_inj h h')
noncomputable def Ra:Nat->Z Dat->Z Dat
 | _,[]=>[]
 | k,x::xs=>.tup [.int k,x]::Ra (k+1) xs
theorem Hs:∀ (xs:Z Dat) (k i:Nat),(Ra k xs)[i]?=(xs[i]?).map λx=>.tup [.int ((k+i:Nat):Int),x]
 | [],k,i=>by simp[Ra]
 | x::xs,k,0=>by simp[Ra]
 | x::xs,k,i+1=>by
  rw[Ra,List.getElem?_cons_succ,List.getElem?_cons_succ,Hs xs (k+1) i,show k+1+i=k+(i+1) by lia]
theorem T6:∀ (xs:Z Dat) (k:Nat),(Ra k xs).length=xs.length
 | [],_=>rfl
 | x::xs,k=>by rw[Ra,BJ,BJ,T6 xs]
noncomputable def N4(f:Zzu):Ev->C1 (Z Dat):=λenv=>(Tc f env).map (Ra 0)
theorem Ng{sq:Hp->Z V->Prop}(h:∀ j H1,OS st A H j H1->sq H1 vs)(r:Wj K (av H A) ds vs):NQ st K A H (Ra 0 ds) (OV sq):=λj H1 b mu=>by
 have h1:=h j H1 b;have r1:=r.mono b.step.av;refine⟨λi x e=>?_,⟨vs,h1,by rw[T6];exact Y6 r⟩⟩;rw[Hs] at e;obtain⟨d,e1,e2⟩:=map_some e;subst e2;obtain⟨v,e3,e4⟩:=Ms r1 e1;refine⟨⟨vs,v,h1,e3⟩,λt H2 zz=>?_⟩;obtain⟨p,x,W,z2,z3,z4⟩:=zz;subst W z4;have:=z3 vs h1;rw[e3] at this;cases this;refine⟨Zr.new z2,B7 (by show 2<=sizeLine;decide) (.inl (V7 Zp (mu.new z2))) (Wx ?_ (Q1 (e4.mono (Wp (Zr.new z2)))))⟩;rw[KJ];exact W9
noncomputable def gN(K:J1)(ta:TA):TI:=λσ H R=>ta σ H λvs H1=>∃ a,vs=[.ref a]/\(∃ xs,Dc K H1 a xs)/\R (OV λH xs=>Dc K H a xs) H1
noncomputable def kt(K:J1)(ta:TA):TI:=λσ H R=>ta σ H λvs H1=>∃ a,vs=[.ref a]/\(∃ xs,Dr K H1 a xs)/\R (OV λH xs=>Dr K H a xs) H1
theorem WS(I:F' X aa σ H s):∀ b∈[s.heap.objs.size+1,s.heap.objs.size],Sx X aa H b:=λb hb=>by
 rcases BK.mp hb with rfl | hb
 .exact I.fpOk (DO _) (I.hok.fresh (DO _))
 .rw[AJ.mp hb];exact I.fpOk (AU _) (I.hok.fresh (AU _))
theorem Cg(hg:Gl X "enumerate")(hm:X.mg "enumerate" = none)(hv:bootBuiltins "enumerate" = some (.type "enumerate"))(ha:PA X [l] ta)(hs:starEach [l] X.env=[(false,eval l X.env)]:=by rfl):PI X (.Tuple es tk aB) (.Call (.Name "enumerate" p) [l] [] pos) (gN X.K ta):=by
 intro aa s σ H R I h;refine Call_ (Sm I hg hm hv (ES (Ws (ha pos aa s σ H _ I h) λus s1 zz=>?_) hs rfl));obtain⟨vs,H1,I1,r1,Y⟩:=zz;obtain⟨a,e,⟨xs,hq⟩,q⟩:=Y;subst e;obtain⟨u,rfl,M⟩:=Ji r1;cases M;obtain⟨its,rv,pl,hz⟩:=I1.list hq;refine call_enumerate_list pl.isList λh' h1 h2 h3 h4=>?_
 have I2:F' X aa σ H1 { s1 with heap:=h' }:=I1.kept (t':=s1.toks) h4;refine IW (s:={ s1 with heap:=h' }) h1 ?_;exact⟨s1.heap.objs.size+1,[s1.heap.objs.size+1,s1.heap.objs.size],_,_,H1,rfl,I2,kc a _ _,⟨⟨_,h1⟩,h2⟩,WS I1,q⟩
theorem bw(hg:Gl X "enumerate")(hm:X.mg "enumerate" = none)(hv:bootBuiltins "enumerate" = some (.type "enumerate"))(ha:PA X [l] ta)(hs:starEach [l] X.env=[(false,eval l X.env)]:=by rfl):PI X (.Tuple es tk aB) (.Call (.Name "enumerate" p) [l] [] pos) (kt X.K ta):=by
 intro aa s σ H R I h;refine Call_ (Sm I hg hm hv (ES (Ws (ha pos aa s σ H _ I h) λus s1 zz=>?_) hs rfl));obtain⟨vs,H1,I1,r1,Y⟩:=zz;obtain⟨a,e,⟨xs,hq⟩,q⟩:=Y;subst e;obtain⟨u,rfl,M⟩:=Ji r1;cases M;obtain⟨its,rv,pl,hz⟩:=I1.tuple hq;refine S7 (show s1.heap.IsTuple a its.toArray from pl) λh' h1 h2 h3 h4=>?_
 have I2:F' X aa σ H1 { s1 with heap:=h' }:=I1.kept (t':=s1.toks) h4;refine IW (s:={ s1 with heap:=h' }) h1 ?_;exact⟨s1.heap.objs.size+1,[s1.heap.objs.size+1,s1.heap.objs.size],_,_,H1,rfl,I2,eX a _ _,⟨⟨_,h1⟩,h2⟩,WS I1,q⟩
theorem Bw(hm:X.mg "enumerate" = none)(h:Wn false X l f)(hg:Gl X "enumerate" := by rfl)(hv:bootBuiltins "enumerate" = some (.type "enumerate"):=by ext)(hs:starEach [l] X.env=[(false,eval l X.env)]:=by rfl):MH st X (.Tuple es tk aB) (.Call (.Name "enumerate" p) [l] [] pos) (N4 f) :=
 ((Cg hg hm hv (Wy h Ux hs) hs).or (bw hg hm hv (Wy h Ux hs) hs)).weak λσ H n M=>by
 obtain⟨env,R,A,ds,k,e,q⟩:=M;obtain⟨xs,e0,e1⟩:=map_some e;subst e1;unfold Tc at e0;split at e0
 .rename_i ys e1
  cases e0;refine .inl ⟨env,R,A,.lst xs,k,e1,λv H1 s1 p1=>?_⟩;obtain⟨a,vs,e2,h1,r1⟩:=Su (show Rp X.K (av H1 A) (.lst xs) v from p1);subst e2;exact⟨a,rfl,⟨vs,(Wg.sl h1).sq⟩,q _ H1 (by rw[T6];exact p1.pk.lenL) s1 (Ng (vs:=vs) (λj H2 b=>(Wg.sl (b.step.av.sl h1)).sq) r1)⟩
 .rename_i ys e1
  cases e0;refine .inr ⟨env,R,A,.tup xs,k,e1,λv H1 s1 p1=>?_⟩;obtain⟨a,vs,e2,h1,r1⟩:=Ss (show Rp X.K (av H1 A) (.tup xs) v from p1);subst e2;exact⟨a,rfl,⟨vs,Wg.seqT h1⟩,q _ H1 (by rw[T6];exact p1.pk.lenT) s1 (Ng (vs:=vs) (λj H2 b=>Wg.seqT (b.step.av.seqT h1)) r1)⟩
 .cases e0
theorem mZ(hm:X.mg "enumerate" = none)(h:Wn true X l f)(hg:Gl X "enumerate" := by rfl)(hv:bootBuiltins "enumerate" = some (.type "enumerate"):=by ext)(hs:starEach [l] X.env=[(false,eval l X.env)]:=by rfl):MH false X (.Tuple es tk aB) (.Call (.Name "enumerate" p) [l] [] pos) (N4 f) :=
 ((Cg hg hm hv (Wy h Ux hs) hs).or (bw hg hm hv (Wy h Ux hs) hs)).weak λσ H n M=>by
 obtain⟨env,R,A,ds,k,e,q⟩:=M;obtain⟨xs,e0,e1⟩:=map_some e;subst e1;unfold Tc at e0;split at e0
 .rename_i ys e1
  cases e0;refine .inl ⟨env,R,A,.lst xs,k,e1,λv H1 s1 p1=>?_⟩;obtain⟨a,vs,e2,h1,r1⟩:=p1.pk.lst;subst e2;exact⟨a,rfl,⟨vs,h1.sq⟩,q _ H1 (by rw[T6];exact p1.pk.lenL) s1 (Ng (vs:=vs) (λj H2 b=>(b.2.sl h1).sq) r1)⟩
 .rename_i ys e1
  cases e0;refine .inr ⟨env,R,A,.tup xs,k,e1,λv H1 s1 p1=>?_⟩;obtain⟨a,vs,e2,h1,r1⟩:=p1.pk.tup;subst e2;exact⟨a,rfl,⟨vs,h1⟩,q _ H1 (by rw[T6];exact p1.pk.lenT) s1 (Ng (vs:=vs) (λj H2 b=>b.2.seqT h1) r1)⟩
 .cases e0
end
end L2
variable{I T f t fI T' aA:PySem.Addr}{G:Z L2.Dat->C1 (Z (PySem.Str×L2.XD))}{P:PySem.Program}{fs:L2.Zzv}{p2 p np hpos aP aS aH aU:PySem.Pos}{g:L2.Ev->L2.Fl}{v dc u1 u2:PySem.Value}{pl aL:Bool}{ds:Z L2.Dat}{r:L2.TJ}{ta:L2.TE}{fl:Z (PySem.Str×L2.XD)}{B:L2.Bs}{pins' pn:KL}{h2:PySem.Heap}{c2:C1 PySem.Value}{b₀:PySem.Stmt}{β:Type}{A':PySem.Around}{E':KN}{ix:PySem.Expr}{dss:Z (Z L2.Dat)}{aI aQ:Z PySem.Stmt}{σ1:L2.St}{az:Z PySem.Str}
namespace PySem


namespace F
theorem nolen_lr:typeLookup (.type "list_reverseiterator") "__len__" = pure none:=by rw[typeLookup_type,builtinLookup_eq_fast];kernel_rfl
theorem hint_lr:typeLookup (.type "list_reverseiterator") "__length_hint__" = pure (some (.builtin "list_reverseiterator.__length_hint__")):=by rw[typeLookup_type,builtinLookup_eq_fast];kernel_rfl
end F
section
variable{R:Result->A4->Prop}
variable{G:Array GenState->Array GenState->Prop}{n:Nat}{P:Nat->A1->Prop}{St:Nat->A4->Prop}
noncomputable def Ax(prog:Fn)(w:Gf)(A:C0)(I:A2)(St:Nat->A4->Prop):Prop:=∀ (s:A4) (Q:Bool->A4->Prop) (E:KN),St 0 s->(∀ tk,s.toks<=tk->Q false { s with toks:=tk })->wpAny (model prog w) A (Builtin.List.listLengthHint (.ref I)) Q E s
theorem Nc{T:String}(W:WalksS prog w A.in1 I fp wr G n P St)(hT:∀ i s,St i s->s.TypeIs (.ref I) T)(k:T="range_iterator" \/ T="list_reverseiterator")(hh:Ax prog w A.in1 I St)(S:A2)(res:A1)(c₀:Nat)(l:St 0 s)(m:S∉fp)(N:I∈fp)
  (hS:s.heap.get? S=some { cls:=.type "list",data:=.seq #[] c₀ })
  (Q:∀ s' c g,Moved (S::wr) G s s'->s'.heap.get? S=some { cls:=.type "list",dict:=none,data:=.seq c g,slots:=#[] }->ItemsOf P c n->R (.ok (.ret res)) s') (hn:n<=sizeLine) :
  wpAny (model prog w) A.in1 (Builtin.List.listExtendWith (.ref S) (.ref I) res)
   (λB s'=>match B with | .done f=>R (.ok f) s' | .again g=>g.quiet=true/\codeAny (model prog w) A g R s') (λe s'=>R (.error e) s') s:=by
 have a:S≠I:=λe=>m (e▸N)
 unfold Builtin.List.listExtendWith;refine AA (GL (hT 0 _ l) ?_);have h1:Builtin.List.listSameRef (.ref S) (.ref I)=false:=by simp[Builtin.List.listSameRef,a]
 have h2:(Value.type T==Value.type "list")=false:=by rcases k with rfl | rfl<;>decide
 have h3:(Value.type T==Value.type "tuple")=false:=by rcases k with rfl | rfl<;>decide
 simp only[h1,h2,h3,FZ,FL,HH];refine AA (W.self 0 _ _ _ l ?_);refine AA (BQ (hh s _ _ l λtk ar=>?_));rw[AM (by rcases k with rfl | rfl<;>decide)];have hst₂:=W.frame 0 _ _ tk l ar λb _ o e=>e
 refine AI ⟨plainId_quiet F.plain_extend_loop _,codeAny_extend_loopS W hn _ m _ n 0 _ _ _ rfl (CZ _) hst₂ hS (ItemsOf.nil P) λs' c g hm d M=>?_⟩;exact Q s' c g (Moved.trans W.gtrans ((Moved.refl W.grefl).then_heap ar λb o hb e=>e) hm) d M
theorem Ei{T:String}(W:WalksS prog w A.in1 I fp wr G n P St)(hT:∀ i s,St i s->s.TypeIs (.ref I) T)(k:T="range_iterator" \/ T="list_reverseiterator")(hh:Ax prog w A.in1 I St)(S:A2)(l:St 0 s)(m:S∉fp)(N:I∈fp)
  (hS:s.heap.get? S=some { cls:=.type "list",data:=.seq #[] })
  (Q:∀ s' c g,Moved (S::wr) G s s'->s'.heap.get? S=some { cls:=.type "list",dict:=none,data:=.seq c g,slots:=#[] }->ItemsOf P c n->R (.ok (.ret .none)) s') (hn:n<=sizeLine) :
  wpAny (model prog w) A.in1 (Builtin.«list.__init__» ⟨[.ref S,.ref I],[]⟩)
   (λB s'=>match B with | .done f=>R (.ok f) s' | .again g=>g.quiet=true/\codeAny (model prog w) A g R s') (λe s'=>R (.error e) s') s:=by
 show wpAny _ A.in1 (do let old <- Builtin.List.listItems (.ref S);Builtin.List.listUpdate (.ref S) (λ_=>#[]);letGo old.toList.reverse;Builtin.List.listExtendWith (.ref S) (.ref I) .none) _ _ s;refine AA ?_;unfold Builtin.List.listItems;refine AA (IJ hS rfl (AI ?_));show wpAny _ A.in1 (updateSeq S (λ_=>#[]) >>= λ_=>letGo (#[]:Array A1).toList.reverse >>= λ_=>Builtin.List.listExtendWith (.ref S) (.ref I) .none) _ _ s;refine AA (wpAny_updateSeq hS rfl ?_);have hS₂:=CA (Obj.mapSeq (λ_=>(#[]:Array A1))) hS rfl;have a:∀ b o,b≠S->s.heap.get? b=some o->(s.heap.update S (Obj.mapSeq (λ_=>(#[]:Array A1)))).get? b=some o :=
  λb o hb e=>(BE _ _ (AR hb)).trans e
 refine AA (wpAny_letGo ?_);refine Nc (hn:=hn) W hT k hh S .none _ (W.frame 0 s _ s.toks l (AU _) λb hb o e=>a b o (λh=>m (h▸hb)) e) m N hS₂ λs' c g hm d M=>?_
 exact Q s' c g (Moved.trans W.gtrans ((Moved.refl W.grefl).then_heap (AU _) λb o hb e=>a b o (λh=>hb (h▸AX)) e) hm) d M
end
section
variable{n:Nat}{P:Nat->A1->Prop}{St:Nat->A4->Prop}
theorem Fq{T:String}{Q:KN}(W:WalksS prog w A.in1.in1 I fp wr (λa b=>b=a) n P St)(hT:∀ i s,St i s->s.TypeIs (.ref I) T)(k:T="range_iterator" \/ T="list_reverseiterator")(hh:Ax prog w A.in1.in1 I St)(l:St 0 s)(f:∀ b∈fp,b<s.heap.objs.size)(N:I∈fp)
  (j:∀ h' tk c g,(∀ b o,b∉wr->s.heap.get? b=some o->h'.get? b=some o)->h'.get? s.heap.objs.size=some { cls:=.type "list",dict:=none,data:=.seq c g,slots:=#[] }->ItemsOf P c n->Q (.ref s.heap.objs.size) { s with heap:=h',toks:=tk }) (hn:n<=sizeLine) :
  wpAny (model prog w) A (call (.type "list") [.ref I]) Q E s:=by
 have m:s.heap.objs.size∉fp:=λhm=>DF _ (f _ hm)
 refine callType_codes (Q₁:=λobj s₁=>obj=.ref s.heap.objs.size/\s₁={ s with heap:=s.heap.push { cls:=.type "list",data:=.seq #[] } }) F.called_list (F.typeCall_list_1 _) F.entry_list_init
  (code_list_new _ ⟨rfl,rfl⟩) λobj s₁ h₁=>?_
 obtain⟨rfl,rfl⟩:=h₁;have hS:(s.heap.push { cls:=.type "list",data:=.seq #[] }).get? s.heap.objs.size=some { cls:=.type "list",data:=.seq #[] }:=AY _ rfl;refine⟨⟨_,hS,rfl⟩,F.args_list_init_2 _ _,Ei (hn:=hn) W hT k hh _ (W.frame 0 s _ s.toks l (AU _) λb _ o e=>AE _ e) m N hS λs' c g hm d M=>?_⟩;refine⟨rfl,?_⟩;rw[Moved.eq_with hm];refine j s'.heap s'.toks c g (λb o hb e=>hm.heap b o (λD=>?_) (AE _ e)) d M;rcases BK.mp D with e' | D
 .exact absurd (AQ e) (by rw[e'];exact DF _)
 .exact hb D
end
theorem iX(it:A2)(St:Nat->A4->Prop)(hT:∀ s,St 0 s->s.TypeIs (.ref it) "list_reverseiterator"):Ax prog w A it St:=λs Q E l j=>by
 unfold Builtin.List.listLengthHint;refine AA (JM (hT s l) F.nolen_lr ?_);show wpAny _ _ (specialOf (Value.ref it) (Str.ofString "__length_hint__") >>= _) _ _ _;refine AA (JM (hT s l) F.hint_lr ?_)
 (generalize a:("list_reverseiterator.__length_hint__" : String)=c;(fail_if_success (clear a c));wp_delta;rw[show splitId c=some ("list_reverseiterator","__length_hint__") from by subst a;decide +kernel];subst a)
 refine AA (JE (b:=true) (hT s l) (by rw[isSubtype_type];kernel_rfl) ?_);exact AI (j s.toks (AU _))
theorem S0{l h:A2}{Q:C1 A1->A4->Prop}(hh:A.handled=some (.ref h))(S:L2.ChX s.heap h)(c:s.heap.IsRevIter it l (-1))
   (j:∀ h',ExtBut it s.heap h'->Q none { s with heap:=h' }):wpAny (model prog w) A (pyNext (.ref it)) Q E s:=by
 obtain⟨o,ho,hc,hd⟩:=id c;unfold pyNext;refine AA (IS (DR (name:=Str.ofString "__next__") c.typeIs F.slot_lri_next
   (EK F.slot_lri_next c.typeIs F.entry_lri_next ?_ (F.args_lri_next_1 _))))
 unfold Builtin.«list_reverseiterator.__next__»;refine AA (JP (a:=(Value.ref it,[])) rfl ?_);try dsimp only
 refine AA (BW ho hd (x:=rawInt (-1)) rfl ?_);show wpAny _ _ (if(-1:Int)<0 then _ else _) _ _ s;rw[AH (by decide)];refine AA (JB ?_);first
 | show wpAny _ _ (newExc (.type "StopIteration") [] >>= _) _ _ _
 | (refine AA ?_;show wpAny _ _ (newExc (.type "StopIteration") [] >>= _) _ _ _)
 refine AA ?_;simp only[newExc,newTuple];refine AA (CJ ?_ (by size_fits));refine AA (m:=firstArgMember _ _) (JP (a:=Value.none) (by first | rfl | (simp only[firstArgMember];rfl)) ?_);refine CJ ?_ (by size_fits);refine L2.Z0r (A:=A.in1) (h:=h) (h0:=s.heap) hh (AY _ rfl) rfl (by simp;lia) S (λa o' v x a1 a2 a3=>⟨AE _ (AE _ a1),λz=>?_⟩) ?_
 · have ai:=AQ a1
   rw[z] at ai;exact absurd ai (EQ.mpr (by first | (rw[ER];exact DO _) | (show _<=(Heap.push _ _).objs.size;rw[ER];exact DO _)))
 refine AA (JE (T:="StopIteration") (b:=true) ⟨_,CA _ (AY _ rfl) rfl,rfl⟩ isSubtype_stop ?_);refine AI (j _ λb ob hb eo=>?_);have y:=AQ eo;refine(BE _ _ ?_).trans (AE _ (AE _ eo));intro z;rw[<- z] at y;exact absurd y (EQ.mpr (by first | (rw[ER];exact DO _) | (show _<=(Heap.push _ _).objs.size;rw[ER];exact DO _)))
noncomputable def YG(A:C0)(hs:KL):Prop:=A.handled=none\/∃ e,A.handled=some (.ref e)/\∀ h:H3,(∀ p∈hs,h.get? p.1=some p.2)->L2.ChX h e
theorem jT(k:L2.HdS A h):∃ hs:Z (A2×Obj),YG A hs/\∀ p∈hs,h.get? p.1=some p.2/\∃ v x,p.2.data=.fields v/\v[2]?=some x:=by
 rcases k with z | ⟨e,z,oe,ve,h1,h2,h3 | ⟨e2,o2,v2,h3,h4,F,S⟩⟩
 .exact⟨[],.inl z,λp hp=>by cases hp⟩
 .exact⟨[(e,oe)],.inr ⟨e,z,λh' k=>⟨oe,ve,k _ (AJ.mpr rfl),h2,.inl h3⟩⟩,λp hp=>by rw[AJ.mp hp];exact⟨h1,ve,_,h2,h3⟩⟩
 .refine⟨[(e,oe),(e2,o2)],.inr ⟨e,z,λh' k=>⟨oe,ve,k (e,oe) (by simp),h2,.inr ⟨e2,o2,v2,h3,k (e2,o2) (by simp),F,S⟩⟩⟩,λp hp=>?_⟩
  rcases BK.mp hp with rfl | hp
  .exact⟨h1,ve,_,h2,h3⟩
  .rw[AJ.mp hp];exact⟨h4,v2,_,F,S⟩
theorem Walks.listRevH(hs:KL)(hh:YG A hs)(I l:A2)(ae:l≠I)(hn:∀ p∈hs,p.1≠I)(ac:Array A1) :
  Walks prog w A I (I::l::hs.map (·.1)) [I] ac.size (λi v=>ac[ac.size - 1 - i]?=some v) (λi h=>i<=ac.size/\h.IsRevIter I l ((ac.size:Int) - 1 - (i:Int))/\h.IsList l ac/\∀ p∈hs,h.get? p.1=some p.2) where
 sub:=λb hb=>by simp at hb;simp[hb]
 frame:=λ_ _ _ x hk=>⟨x.1,x.2.1.at λo e=>hk I (by simp) o e,x.2.2.1.at λo e=>hk l (by simp) o e,λp hp=>hk p.1 (BB _ (BB _ (GU hp))) p.2 (x.2.2.2 p hp)⟩
 item:=λi s Q E hi x j=>by
  have e:(ac.size:Int) - 1 - (i:Int)=((ac.size - 1 - i:Nat):Int):=by lia
  have c:=x.2.1;rw[e] at c;have hx:ac[ac.size - 1 - i]?=some (ac[ac.size - 1 - i]'(by lia)):=Array.getElem?_eq_getElem (by lia);refine wpAny_pyNext_rev_item c x.2.2.1 hx λh' a d=>?_
  have e2:((ac.size - 1 - i:Nat):Int) - 1=(ac.size:Int) - 1 - ((i+1:Nat):Int):=by lia
  rw[e2] at a;exact j _ h' s.toks hx ⟨hi,a,x.2.2.1.at λo eo=>(d.2 l ae).trans eo,λp hp=>(d.2 p.1 (hn p hp)).trans (x.2.2.2 p hp)⟩ λb o hb eo=>d.extBut b o (λh=>hb (by simp[h])) eo
 done:=λs Q E x j=>by
  have e:(ac.size:Int) - 1 - (ac.size:Int) = -1:=by lia
  have c:=x.2.1;rw[e] at c;rcases hh with hh | ⟨e,hh,hc⟩
  .exact wpAny_pyNext_rev_end hh c λh' k=>j h' s.toks λb o hb eo=>k b o (λh=>hb (by simp[h])) eo
  .exact S0 hh (hc _ x.2.2.2) c λh' k=>j h' s.toks λb o hb eo=>k b o (λh=>hb (by simp[h])) eo
 self:=λ_ _ _ _ x j=>wpAny_pyIter_revIter x.2.1 j
end PySem
variable{env env':L2.Ev}{src:L2.Zzv}{gg:L2.Dat->L2.Ev->C1 L2.Ev}{xs:Z L2.Dat}
namespace L2
open PySem PySem.Spec PyProof.Rows
section
variable{X:Cx}{f:Zzu}
theorem Dm(h:H3)(o:Obj):(h.push o).objs.size=h.objs.size+1:=by cases h;exact Array.size_push ..
noncomputable def QF(fs:Zzv):Ev->C1 (Z Dat):=λenv=>match fs env with
 | some [.lst xs]=>some xs.reverse
 | _=>none
theorem Y5.rev:∀ {xs:Z V} {us:Z A1},Y5 xs us->Y5 xs.reverse us.reverse
 | [],[],_=>.nil
 | x::xs,u::us,.cons h r=>by rw[HN,HN];exact(Y5.rev r).append (.cons h .nil)
theorem mY{p1 Y q2:Pos}(z:Gl X "list")(B:X.mg "list" = none)(C:Gl X "reversed")(D:X.mg "reversed" = none)(ha:Ps true X [e] fs)(hc:MT X:=by first | exact MT.calm rfl | (exact LY.n ‹_›) | assumption)
   (E:bootBuiltins "list" = some (.type "list"):=by ext) (F:bootBuiltins "reversed" = some (.type "reversed"):=by ext)
   (h:starEach [.Call (.Name "reversed" p2) [e] [] q2] X.env=[(false,eval (.Call (.Name "reversed" p2) [e] [] q2) X.env)]:=by rfl)
   (G:starEach [e] X.env=[(false,eval e X.env)]:=by rfl) :
   LZ X (.Call (.Name "list" p1) [.Call (.Name "reversed" p2) [e] [] q2] [] Y) (QF fs):=by
 intro aa s σ H Q I ⟨env,R,A,ds,k,e1,q⟩;unfold QF at e1;split at e1
 case h_2=>cases e1
 rename_i xs J;cases e1;refine Call_ (Sm I z B E (callWith_type1 ?_ h rfl));rw[h];refine Calls.spliced_cons ?_;refine Call_ (Sm I C D F (callWith_type1 (Ws (ha q2 aa s σ H (λvs H1=>∃ v,Zr H H1/\vs=[v]/\Pk X.K A H1 (.lst xs) v) I ⟨env,R,A,[.lst xs],k,J,λvs H1 s1 r1=>?_⟩) λus s1 ⟨vs,H1,I1,r1,v,sm,ev,pv⟩=>?_) G rfl))
 · obtain⟨v,e3,p1⟩:=r1.one
   exact⟨v,s1,e3,p1⟩
 subst ev;obtain⟨a,ys,ea,h1,r2⟩:=pv.lst;subst ea;obtain⟨u,rfl,M⟩:=Ji r1;cases M;obtain⟨its,j,pl,hz⟩:=I1.list h1.sq;refine call_reversed_list pl.isList ?_;refine Calls.spliced_nil ?_;have ai:=I1.hok;obtain⟨oa,f,_⟩:=id pl.isList;have ae:a≠s1.heap.objs.size:=BR (AQ f);obtain⟨hs,m,r⟩:=jT (show HdS X.A.in1.in1 s1.heap from hc _ _ _ _ I1);have d:∀ p∈hs,s1.heap.get? p.1=some p.2:=λp hp=>(r p hp).1
 have aw:∀ p∈hs,p.1≠s1.heap.objs.size:=λp hp=>BR (AQ (d p hp))
 have W:=(Walks.listRevH (prog:=X.prog) (w:=X.w) (A:=X.A.in1.in1) hs m s1.heap.objs.size a ae aw its.toArray).toS;have ac:=j.length;refine Fq W (T:="list_reverseiterator") (λi s st=>st.2.1.typeIs) (.inr rfl) (iX _ _ λs st=>st.2.1.typeIs) ⟨CZ _,?_,pl.isList.at λo eo=>AE _ eo,λp hp=>AE _ (d p hp)⟩ ?_ (by simp) ?_ ?_
 · refine⟨_,AY _ rfl,rfl,?_⟩
   simp[revObj]
 · intro b hb
   rcases BK.mp hb with rfl | hb
   · rw[Dm];exact GK _
   · rcases BK.mp hb with rfl | hb
     · exact AO (AQ f) (by rw[Dm];lia)
     · obtain⟨p,hp,rfl⟩:=DJ.mp hb
       exact AO (AQ (d p hp)) (by rw[Dm];lia)
 · intro h' tk c g hk hl hi
   have kp:∀ b o,s1.heap.get? b=some o->h'.get? b=some o:=λb o eb=>hk b o (λhm=>by
     have ai:=AQ eb;rw[AJ.mp hm] at ai;exact DF _ ai) (AE _ eb)
   have t:c.toList=its.reverse:=by
     apply HQ;intro i;by_cases aj:i<its.length
     · have x:i<c.size:=by rw[hi.1];simpa using aj
       have:=hi.2 i c[i] (by simp[x]);rw[Array.getElem?_toList,Array.getElem?_eq_getElem x,List.getElem?_reverse aj];simpa using this.symm
     · rw[FB (l:=c.toList) (by rw[FE,hi.1];simpa using aj),FB (l:=its.reverse) (by rw[ID];exact Nat.le_of_not_lt aj)]
   generalize hS:({ heap:=s1.heap.push (revObj a ((its.toArray.size:Int) - 1)),gens:=s1.gens,drawn:=s1.drawn,toks:=s1.toks,os:=s1.os }:A4).heap.objs.size=S at hl ⊢;have y:s1.heap.objs.size<=S:=by
     rw[<- hS];show _<=(Heap.push _ _).objs.size;rw[Dm];exact DO _
   have I2:F' X aa σ (W5 H1 S (.lst ys.reverse)) { s1 with heap:=h',toks:=tk }:=I1.laid kp y (show We X.prog X.w _ h' _ (.lst ys.reverse) from⟨by rw[ID];exact hz,c.toList,g,by rw[t];exact j.rev,by rw[Array.toArray_toList];exact hl⟩);exact⟨.ref S,_,I2,rfl,(q.mono sm).at (vs:=ys.reverse) (by rw[ID,<- Y6 r2];exact hz) (jJ r2) _ (I1.hok.fresh y)⟩
 · rw[AV,<- ac];exact hz
noncomputable def PX:Z Dat->C1 Dat
 | [.int i]=>some (.int i)
 | [.bl b]=>some (.int (if b then 1 else 0))
 | _=>none
theorem mb:Lo X (.type "int") PX:=io.weak λvs H Q M=>by
 obtain⟨A,ds,d,mu,e,p,q⟩:=M;unfold PX at e;split at e
 .obtain⟨v,e1,p1⟩:=p.one
  cases e;exact .inl ⟨_,by rw[e1,p1.int],q.here W9⟩
 .obtain⟨v,e1,p1⟩:=p.one
  cases e;exact .inr ⟨_,by rw[e1,p1.bl],q.here W9⟩
 .cases e
noncomputable def SU:Dat->Dat->C1 Dat
 | .str x,.int k=>if 1<=k/\k<=1000/\x.length<=1000 then some (.str (Txt.mul x k)) else none
 | _,_=>none
theorem VS(x:Array α)(c:α):∀ (n:Nat) (l:Array α),c∈(List.replicate n x).foldl (·++·) l->c∈l\/c∈x
 | 0,l,h=>.inl h
 | n+1,l,h=>by
  rw[List.replicate_succ,List.foldl_cons] at h;rcases VS x c n _ h with h | h
  .rcases Array.mem_append.mp h with h | h
   .exact .inl h
   .exact .inr h
  .exact .inr h
theorem kE{x:Str}{k:Int}(h:PyData.strOk x=true):PyData.strOk (Txt.mul x k)=true:=by
 unfold Txt.mul;split
 .unfold PyData.strOk Str.empty;simp
 .split
  .exact h
  .unfold PyData.strOk at h ⊢
   rw[IM] at h ⊢;intro c hc;rcases VS x.cps c _ _ hc with z | z
   .simp at z
   .exact h c z
theorem i0:S6 X (binaryOp .Mult) SU:=λaa s σ H x y v u Q I S m M=>by
 obtain⟨A,a,b,d,mu,e,p1,p2,q⟩:=M;unfold SU at e;split at e
 .rename_i z k
  split at e
  .rename_i hz
   cases e;obtain⟨e1,k1⟩:=p1.str;have e2:=p2.int;subst e1 e2;obtain⟨t,rfl⟩:=S;obtain⟨t',rfl⟩:=m;have hl:(Txt.mul z k).length<=1000*1000:=len_mul_leN hz.2.2 hz.2.1;refine SB.mul (mulOk_of 1000 1000 hz.2.2 hz.2.1 (by lia) (by decide) (by decide)) λt' k'=>⟨.str (Txt.mul z k),H,I.tok _,⟨_,rfl⟩,q.here (Rb (LG.of (kE k1.ok) (BA hl (by decide))))⟩
  .cases e
 .cases e
noncomputable def Ha:Dat->Dat->C1 Dat
 | .int i,.int j=>bD (.int i) (.int j)
 | .str x,.int k=>SU (.str x) (.int k)
 | _,_=>none
theorem Gi:S6 X (binaryOp .Mult) Ha:=S6.or lq i0 λx y d e=>by
 unfold Ha at e;split at e
 .exact .inl e
 .exact .inr e
 .cases e
end
end L2
variable{t:L2.Ev->C1 Bool}{f:L2.Zzu}{y:PySem.Str}{j:Int}
namespace L2
open PySem
section
variable{g:Array GenState}{d:Drawn}{t:Nat}{os:OsState}
variable{nm:Str}{N:A2}{bs aE:Z A1}{sub:Z A1}{aK:String}
theorem Px(T:OwnTail h [.type "ValueError",.type "Exception",.type "BaseException",.type "object"] bm){e t0:A2}{x:A1}{Q:KN}
  (R:h.get? C=some (excClassObj nm q C N bs bm hdct sn sub ab col dd k0 k1 k2 k3 k5 newId)) (he:h.get? e=some { cls:=.ref C,dict:=dct,data:=.fields #[.ref t0,.none,.none,.none,.bool false,.none] })
  (hq:∀ h',h'.get? e=some { cls:=.ref C,dict:=dct,data:=.fields #[.ref h.objs.size,.none,.none,.none,.bool false,.none] }->(∀ b o,b≠e->h.get? b=some o->h'.get? b=some o)->h.objs.size<=h'.objs.size->Q .none ⟨h',g,d,t,os⟩) :
  wpAny (model prog w) A (call (.builtin "ValueError.__init__") [.ref e,x]) Q E ⟨h,g,d,t,os⟩:=by
 have F:=DX;refine FK (codeAny_call_builtin F.init.plain F.initEntry (wpAny_check_init_subU F T R he rfl ?_));have a:=AE { cls:=.type "tuple",data:=.seq #[x] } he
 wp_walk
 refine hq _ ?_ ?_ ?_
 .rw[CA _ a rfl]
  rfl
 .intro b o hb c
  rw[BE _ _ (AR hb)];exact AE _ c
 .rw[Heap.size_after_update,ER];exact DO _
end
end L2
variable{k1 k2:Int}
namespace L2
open PySem PySem.Spec PyProof.Rows PySem.W
open PySem.Builtin PySem.Builtin.ObjectAttr
noncomputable def Jw:Z A1:=[.type "ValueError",.type "Exception",.type "BaseException",.type "object"]
section
variable{K:Frag}{x a b:A2}{R:Result->A4->Prop}
theorem bM{i:Obj}{od:C1 Obj}{tk:Tok}(X:K.In s.heap)(I:InstAt s.heap x i C od)(hc:clsIn K C=some cd)(hm:cd.mro=.ref a::.ref b::Jw)(ha:findIn K (.ref C) name=some none)
  (h:wpAny (model prog w) A.in1 (storeInOwnDict (.ref x) (.ref C) (.str name tk) name v false)
   (λB s'=>match B with | .done f=>R (.ok f) s' | .again g=>g.quiet=true/\codeAny (model prog w) A g R s') (λe s'=>R (.error e) s') s) :
  codeAny (model prog w) A (.call (.builtin "object.__setattr__") ⟨[.ref x,.str name tk,v],[]⟩) R s:=by
 have c:=PySem.F.store_object;have sub:Looks (model prog w) s.heap (isInstance (.ref x) (.type "object")) true:=I.type.andThen (looks_mroIn X (by unfold mroIn;rw[hc,Option.bind_some,hm];rfl));refine codeAny_call_builtin c.slot.plain c.entry (@check_slot (model prog w) _ _ s "object.__setattr__" "object" "__setattr__" (.ref x) [.str name tk,v] [] _ c.kind c.split sub (c.args (.ref x) (.str name tk) v) ?_);have d:Looks (model prog w) s.heap (mroOf (.ref C)) cd.mro:=(looks_clsIn X hc).andThen .now;rw[osa_eq,refuse_eq];refine AA (AA (I.type.here (AA (d.here ?_))));rw[hm,refuseLoop_ref,refuseLoop_ref,show Jw=[.type "ValueError",.type "Exception",.type "BaseException",.type "object"] from rfl,PySem.F.store_ValueError.passes];refine AI (AA (I.type.here (AA ((looks_findIn X ha).here (AA ?_)))));exact AI h
end
section
variable{g:Array GenState}{d:Drawn}{t:Nat}{os:OsState}{x:A2}{oC:Obj}
theorem lj{o:Obj}{tk:Tok}{Q:Fin->A4->Prop}(hx:h.get? x=some o)(hc:o.cls=.ref C)(m:∀ c,o.data≠.cls c)(J:o.dict=none)(R:h.get? C=some oC)(ae:oC.data=.cls cd)(Y:cd.hasDict=true)
   (hq:∀ h' k,h'.get? x=some { cls:=o.cls,dict:=some h.objs.size,data:=o.data,slots:=o.slots }->h'.Ns1 h.objs.size (λy=>if y=name then some v else none)->(∀ b ob,b≠x->h.get? b=some ob->h'.get? b=some ob)->h.objs.size<h'.objs.size->Q (.done (.ret .none)) ⟨h',g,d,k,os⟩) :
   wpAny (model prog w) A (storeInOwnDict (.ref x) (.ref C) (.str name tk) name v false) Q E ⟨h,g,d,t,os⟩:=by
 unfold storeInOwnDict;repeat (first | (with_reducible refine CB hx ?_;rw[hc]) | with_reducible refine CB R ?_ | wp_step)
 rw[ae];refine AI ?_;rw[Y,AM (by decide),J];show wpAny _ _ (if(!true||!typeHasDict (Value.ref C))=true then pure none else _) _ _ _;rw[AM (by simp[typeHasDict])];have hx₁:(h.push { cls:=.type "dict",data:=.dict #[] }).get? x=some o:=AE _ hx;have ax:x≠h.objs.size:=BR (AQ hx);split
 · rename_i c i
   exact absurd i (m c)
 · refine AA (wpAny_alloc' ?_)
   refine AA (wpAny_update' hx₁ ?_);refine AI ?_;have p:((h.push { cls:=.type "dict",data:=.dict #[] }).update x λo=>{ cls:=o.cls,dict:=some h.objs.size,data:=o.data,slots:=o.slots }).get? h.objs.size
       = some { cls:=.type "dict",data:=.dict #[] } :=
     (IE _ _ _ _ ax.symm).trans (Heap.get?_push_at rfl rfl)
   have aa:((h.push { cls:=.type "dict",data:=.dict #[] }).update x λo=>{ cls:=o.cls,dict:=some h.objs.size,data:=o.data,slots:=o.slots }).Ns h.objs.size (λ_=>none) :=
     ⟨_,#[],_,p,rfl,λe he=>absurd he (by simp),λ_=>rfl⟩
   show wpAny _ _ (storeInDict h.objs.size (.str name tk) name v) _ _ _;unfold storeInDict newKeyGuard;refine AA (AI (AA (wpAny_nsSet1 (Heap.Ns1.of_empty aa) λh' G hs=>?_)));obtain⟨T,q,r,a,f,l⟩:=G.count (Within.cons name v Within.nil);refine AA (wpAny_lookBehind a (by rw[f];exact pastItsLine_dict (BA l (by rw[BJ,JL,CH];lia))) ?_)
   wp_walk
   have ap:h'.get? x=some { cls:=o.cls,dict:=some h.objs.size,data:=o.data,slots:=o.slots }:=by
     refine(hs.2 x ax).trans (CA _ hx₁ ?_);have aj:=(Heap.get?_some_iff.mp hx).2;obtain⟨oc,od,s,j⟩:=o;cases s<;>first | rfl | exact aj
   refine hq h' _ ap G (λb ob n hb=>?_) ?_
   · exact(hs.2 b (BR (AQ hb))).trans ((IE _ _ _ _ n).trans (AE _ hb))
   · have h1:=hs.1
     rw[Heap.size_after_update,ER] at h1;lia
theorem kL{o:Obj}{ns:Z Str}{tk:Tok}{Q:Fin->A4->Prop}(hx:h.get? x=some o)(hc:o.cls=.ref C)(m:o.dict=some dx)(af:h.Ns1 dx mA)(J:Within mA ns)(hsz:ns.length<=1000)(R:h.get? C=some oC)(ae:oC.data=.cls cd)(Y:cd.hasDict=true)
   (hq:∀ h' k,h'.Ns1 dx (λy=>if y=name then some v else mA y)->(∀ b ob,b≠dx->h.get? b=some ob->h'.get? b=some ob)->h.objs.size<=h'.objs.size->Q (.done (.ret .none)) ⟨h',g,d,k,os⟩) :
   wpAny (model prog w) A (storeInOwnDict (.ref x) (.ref C) (.str name tk) name v false) Q E ⟨h,g,d,t,os⟩:=by
 unfold storeInOwnDict;repeat (first | (with_reducible refine CB hx ?_;rw[hc]) | with_reducible refine CB R ?_ | wp_step)
 rw[ae];refine AI ?_;rw[Y,AM (by decide),m];refine AI ?_;show wpAny _ _ (storeInDict dx (.str name tk) name v) _ _ _;unfold storeInDict newKeyGuard;refine AA (AI (AA (wpAny_nsSet1 af λh' G hs=>?_)));obtain⟨T,q,r,a,f,l⟩:=G.count (Within.cons name v J);refine AA (wpAny_lookBehind a (by rw[f];exact pastItsLine_dict (BA l (by rw[BJ,CH];lia))) ?_)
 wp_walk
 exact hq h' _ G (λb ob n hb=>(hs.2 b n).trans hb) (by have h1:h'.objs.size=h.objs.size:=hs.1;lia)
end
open PySem.Builtin PySem.Builtin.ObjectAttr
section
variable{g:Array GenState}{d:Drawn}{t:Nat}{os:OsState}{x:A2}{oC o:Obj}{K:Frag}
end
open PySem.Builtin PySem.Builtin.ObjectAttr
section
variable{g:Array GenState}{d:Drawn}{t:Nat}{os:OsState}{x:A2}{o:Obj}{K:Frag}
structure KW (K:Frag) (C:Addr):Prop where
 cd:∃ cd,clsIn K C=some cd/\cd.hasDict=true/\∃ a b,cd.mro=.ref a::.ref b::Jw
 cl:findIn K (.ref C) "__class__" = some (some (.builtin "object.__class__"))
 ga:findIn K (.ref C) "__getattribute__" = some (some (.builtin "BaseException.__getattribute__"))
 gh:findIn K (.ref C) "__getattr__" = some none
 sa:findIn K (.ref C) "__setattr__" = some (some (.builtin "object.__setattr__"))
theorem KW.ld(c:KW K C)(X:K.In h):∃ oC cd,h.get? C=some oC/\oC.data=.cls cd/\cd.hasDict=true:=by
 obtain⟨cd,hc,hd,_⟩:=c.cd;unfold clsIn at hc;split at hc
 .rename_i g d' F j ho
  cases hc;exact⟨_,_,X _ _ ho,rfl,hd⟩
 .cases hc
end
end L2
variable{cd:PySem.Value}{fb:L2.Zzu}
namespace L2
open PySem PySem.Spec PyProof.Rows
theorem Hm(ok:Mx P w H h)(k:X0 l ch h h')(hc:∀ b∈ch,H b=none)(hf:∀ b∈Dt l,H b=none):Mx P w H h':=λa o e=>by
 have ah:∀ b u,H b≠none->h.get? b=some u->h'.get? b=some u:=λb u n q=>(k b u q λz=>n (hc b z)).1 λz=>n (hf b z)
 exact(ok a o e).stay (λb u z q=>ah b u (by rcases z with z | z<;>simp_all) q) (λ_ q=>q) λ_ _ q=>q
theorem UL(k:X0 l ch h h')(hc:∀ b∈ch,H b=none):Un (Dt l) ch H H h h' where
 keep:=λb o q n hf hx=>(k b o q hx).1 hf
 slot:=λb o q n hf hx=>(k b o q hx).2
 free:=λb o q n hx=>n
 there:=λb o q hx=>by obtain⟨sl,z⟩:=(k b o q hx).2;exact⟨_,z⟩
 tups:=λb xs q=>q
 frzs:=λb o u q=>q
 tbls:=λb ps q=>⟨#[],by simpa using q⟩
noncomputable def LQ(P:Fn)(w:Gf)(base:H3)(pl:Bool:=false):Xp:=λouter H s E ev s'=>∃ e C dct T H' c2,ev=.ref e/\s'.os=s.os/\AllBare s'.gens/\Un (Dt outer) [] H H' s.heap s'.heap/\Mx P w H' s'.heap /\
 s.heap.objs.size<=e/\s.heap.objs.size<=T/\H' e=none/\H' T=none/\L9 s'.heap base e T (.ref C,c2) dct .none/\OR pl H' c2/\X3 H H' dct/\E (.ref C) dct H'
theorem F'.noBase{X:Cx}(I:F' X aa σ H s){e:A2}(h:X.s₀.heap.objs.size<=e):X.base.get? e=none:=by
 cases q:X.base.get? e with
 | none=>rfl
 | some o=>exact absurd (AQ (I.ok.bs e o q).1) (EQ.mpr h)
theorem P9{Y:Cx}{N:Z Str}{f:A2}{E:XK}{e:A2} 
  (I:F' (Qf (LQ P w base pl) P w K mg base N ah scope f cd A outer s H E) aa σ H' s') (x:QI Y aa H' s'.heap e C dct) (t:Y={ Qf (LQ P w base pl) P w K mg base N ah scope f cd A outer s H E with pl:=pl }) (ac:X3 H H' dct) (q:E (.ref C) dct H') :
  (Qf (LQ P w base pl) P w K mg base N ah scope f cd A outer s H E).xe (.ref e) s':=by
 subst t;have aj:(A.deeper (envOfC ah scope s.heap.objs.size f cd)).frames=some (envOfC ah scope s.heap.objs.size f cd::outer):=I.ok.frames;have hl:s'.heap.FunFrames base (envOfC ah scope s.heap.objs.size f cd::outer):=I.stack;have d:base.StaysIn s'.heap:=I.bk;have lo:s.heap.objs.size<=e:=x.lo;have r:base.get? e=none:=I.noBase x.lo;have bs:Un (Dt outer) [] H H' s.heap s'.heap:=I.base;have J:∀ b∈Dt (envOfC ah scope s.heap.objs.size f cd::outer),H' b=none:=I.stkFree;have B:∀ (h':H3) (T':A2) (c2:C1 A1) (ch:Z A2),OR pl H' c2->(∀ b∈ch,H' b=none/\s.heap.objs.size<=b)->s.heap.objs.size<=T'->H' T'=none->L9 h' base e T' (.ref C,c2) dct .none->X0 (envOfC ah scope s.heap.objs.size f cd::outer) ch s'.heap h' ->
   LQ P w base pl outer H s E (.ref e) { s' with heap:=h' }:=λh' T' c2 ch M S hT m ht kp=>by
  have a:∀ {b:A2} {o:Obj},s.heap.get? b=some o->b∉ch:=λ{b o} q z=>absurd (AQ q) (EQ.mpr (S b z).2)
  have c:∀ {b:A2} {o:Obj},s.heap.get? b=some o->b∉Dt outer->b∉Dt (envOfC ah scope s.heap.objs.size f cd::outer):=λ{b o} q n z=>by
   rcases BK.mp (I.stkSub b z) with e1 | e1
   .have:b=s.heap.objs.size:=e1
    exact absurd (AQ q) (by rw[this];exact DF _)
   .exact n e1
  refine⟨e,C,dct,T',H',c2,rfl,I.os,I.bare,⟨?_,?_,?_,?_,bs.tups,bs.frzs,bs.tbls⟩,Hm I.hok kp (λb z=>(S b z).1) J,lo,hT,x.un,m,ht,M,ac,q⟩
  .exactλb o q n hf hx=>(kp b o (bs.keep b o q n hf hx) (a q)).1 (c q hf)
  .intro b o q n hf hx
   obtain⟨sl,z⟩:=bs.slot b o q n hf hx;obtain⟨j,D⟩:=(kp b _ z (a q)).2;exact⟨j,D⟩
  .exactλb o q n hx=>bs.free b o q n hx
  .intro b o q hx
   obtain⟨o',z⟩:=bs.there b o q hx;obtain⟨sl,D⟩:=(kp b o' z (a q)).2;exact⟨_,D⟩
 have sz:s.heap.objs.size<=s'.heap.objs.size:=I.sz;rcases x.ob with⟨o,vs,he,hc,hd,ak,h1,hp⟩ | ⟨T,c2,hT,m,_,ht,hp⟩
 .refine Bk aj hl rfl he d r ak h1 λh' T' u W z2 z3 z4=>?_
  rw[hc,hd] at z3;exact B h' T' _ [e] (hp.v (I.ok.hd rfl)) (λb hb=>by rw[AJ.mp hb];exact⟨x.un,lo⟩) (BA sz u) (I.hok.fresh u) z3 z4
 .refine cf aj hl rfl ht d r λh' T' u W z2 z3 z4=>?_
  refine B h' T' _ [e,T] (hp.v (I.ok.hd rfl)) (λb hb=>?_) (BA sz u) (I.hok.fresh u) z3 z4;rcases BK.mp hb with e1 | e1
  .rw[e1];exact⟨x.un,lo⟩
  .rw[AJ.mp e1];exact⟨m,hT⟩
noncomputable def RO(K:J1)(fr:Bool)(R:AS)(H:Hp)(Q:VK)(E:XK):Rs->Prop
 | .ok d=>∀ v H',Zr H H'->Rp K (av H' R) d v->(fr=true->NE K ⟨H,R,true⟩ H' d v)->Q v H'
 | .exc c fs=>∀ C dct H',Zr H H'->Vq K c C->Fw K (av H' R) dct fs->E (.ref C) dct H'
 | .no=>False
noncomputable def cr(K:J1)(fr:Bool)(p:Nat)(F:Z Dat->Rs):Sp:=λvs H Q E=>vs.length=p/\∃ ds R,Td R H/\Wj K (av H R) ds vs/\RO K fr R H Q E (F ds)
structure ME (P:Program) (w:World) (K:J1) (mg:KP) (base:Heap) (k:Nat) (x:Str) (ps:List Str) (fr:Bool) (F:List Dat->Rs) (pl:Bool:=false):Prop where
 ex:∃ f fd,KO P w K mg base (LQ P w base pl) k f fd ps (cr K fr ps.length F)/\mg x=some (.ref f)/\PySem.W.keepIn K (.ref f)=true/\Jy K fd ps []
 len:∀ ds,F ds≠.no->ds.length=ps.length
theorem LM.okX{x:Str}{st:Df}{f:A2}{N:Z Str}(F:LM K x ah st f fd)(S:FnScope N ps (Z9 st))(len:∀ vs H Q E,sp vs H Q E->vs.length=ps.length)
  (a:∀ (ai:A1) (A:C0) (outer:Z I0) (s:A4) (H:Hp) (vs:Z V) (Q:VK) (E:XK),I' k (A.deeper (envOfC ah (Z9 st) s.heap.objs.size f ai))->sp vs H Q E ->
   ∃ t,Dq (Qf CX P w K mg base N ah (Z9 st) f ai A outer s H E) (Yn st) t/\t { nx:=λ_ H'=>Q .non H',rt:=Q } (J' N vs) H):KO P w K mg base CX (k+1) f fd ps sp:=by
 obtain⟨oc,od,kV,ap,pm,an,ai,ct,j,rfl,lk,ae⟩:=F.ex;exact VB lk ae S len λA outer s H vs Q E hr Y=>a ai A outer s H vs Q E hr Y
theorem F0{n p:Nat}(h:W2 n p g ds≠.no):ds.length=p:=by
 unfold W2 at h;split at h
 .assumption
 .exact absurd rfl h
section
variable{X:Cx}{F:Z Dat->Rs}{x:Str}
noncomputable def PU(X:Cx)(fr:Bool)(F:Z Dat->Rs)(fs:Zzv):TE:=λσ H Q=>∃ env B A ds,C' X.K B A H σ env/\fs env=some ds/\match F ds with
 | .ok d=>∀ v H',Zr H H'->Rp X.K (av H' A) d v->Q v H'
 | .exc c fl=>∀ A' H' σ',I3 A H A' H'->C' X.K B A' H' σ' env->σ'=σ->XW X B.H₀ A' H' σ' c fl
 | .no=>False
noncomputable def f9(X:Cx)(fr pl:Bool)(F:Z Dat->Rs)(fs:Zzv):TE:=λσ H Q=>∃ env B A ds,C' X.K B A H σ env/\fs env=some ds/\match F ds with
 | .ok d=>∀ v H',Zr H H'->Rp X.K (av H' A) d v->(fr=true->NE X.K ⟨H,A,true⟩ H' d v)->Q v H'
 | .exc c fl=>(X.pl=true->pl=true)/\∀ A' H' σ',I3 A H A' H'->C' X.K B A' H' σ' env->σ'=σ->XW X B.H₀ A' H' σ' c fl
 | .no=>False
theorem ms(C:ME X.prog X.w X.K X.mg X.base k x ps fr F pl)(hr:I' k X.A)(ha:Ps false X (e::es) fs)(hg:Gl X x:=by rfl)
  (g:C2 x:=by decide) (he:Z0 X.env e es:=by rfl) (ag:Z1 pos X.env es:=by rfl) :
  PE X (.Call (.Name x p) (e::es) [] pos) (f9 X fr pl F fs):=by
 obtain⟨f,fd,Ff,hm,hk,hb⟩:=C.ex;intro aa s σ H Q I ⟨env,B,A,ds,kk,e1,q⟩;refine CV (Uk I hg hm ?_ g);refine GN (h₀:=X.base) I.ok.mod.kin hk (Ws (ha pos aa s σ H (λvs H1=>Zr H H1/\Wj X.K (av H1 A) ds vs) I ⟨env,B,A,ds,kk,e1,λvs H1 s1 rs=>⟨s1,rs.rps⟩⟩) λus s1 ⟨vs,H1,I1,r,sm,rs⟩=>⟨I1.kIn,?_⟩) he ag;have ae:F ds≠.no:=λz=>by rw[z] at q;exact q
 have hl:us.length=ps.length:=by rw[<- r.length,Y6 rs];exact C.len ds ae
 let E:XK:=λcls dct H'=>∃ c fl C,F ds=.exc c fl/\cls=.ref C/\Vq X.K c C/\Zr H1 H'/\Fw X.K (av H' A) dct fl
 refine FK (FD (Ff.run X.A X.stack s1 H1 ⟨us,[]⟩ us vs Q E hr I1.env0 (by simpa using hb s1 us I1.kIn (by simpa using hl)) r ⟨by rw[Y6 rs];exact C.len ds ae,ds,A,kk.mu.mono sm,rs,?_⟩) λS s' hq=>?_)
 .unfold RO
  split
  .rename_i d hd
   rw[hd] at q;exactλv H' s2 r2 n=>q v H' (sm.trans s2) r2 λz=>(n z).mono (λ_ y=>sm.free y) λ_ y=>y
  .rename_i c fl hd
   exactλC dct H' s2 hc hf=>⟨c,fl,C,hd,rfl,hc,s2,hf⟩
  .rename_i hd
   exact ae hd
 .cases S with
  | error ev =>
   obtain⟨ex,C,dct,T,H',c2,rfl,ho,l,un,hok,h1,h2,h3,h4,ht,M,ac,c,fl,i,m,D,hc,j,hf⟩:=hq;cases D;rw[m] at q;obtain⟨hp,q⟩:=q;have I2:F' X aa σ H' s':=I1.call' (ch:=[]) ho un hok l (λb z=>absurd z (by simp));have sz:X.s₀.heap.objs.size<=s1.heap.objs.size:=I1.sz;have np:∀ {a:A2},s1.heap.objs.size<=a->∀ p∈X.pn++aa,p.1≠a:=λ{a} ha p hp z=>by
    have:=(I1.pin p hp).1;rw[z] at this;exact absurd (AQ this) (EQ.mpr ha)
   exact q A H' σ (I3.same (sm.trans j)) (kk.mono (sm.trans j)) rfl aa s' ex C dct I2 hc ⟨BA sz h1,h3,.inr ⟨T,c2,BA sz h2,h4,np h2,ht,M.x hp⟩,np h1⟩ hf (ac.mono λb z=>kk.h0.none (sm.none z))
  | ok fl =>
   cases fl with
   | ret u=>exact I1.after hq
   | next=>exact False.elim hq
   | brk=>exact False.elim hq
   | cont=>exact False.elim hq
theorem SQ(C:ME X.prog X.w X.K X.mg X.base k x ps fr F pl)(hr:I' k X.A)(ha:Ps false X (e::es) fs)(hg:Gl X x:=by rfl)
  (g:C2 x:=by decide) (he:Z0 X.env e es:=by rfl) (ag:Z1 pos X.env es:=by rfl) (hp:X.pl=true->pl=true:=by first | exactλ_=>rfl | exactλz=>nomatch z) :
  PE X (.Call (.Name x p) (e::es) [] pos) (PU X fr F fs):=(ms C hr ha hg g he ag).weak λσ H Q M=>by
 obtain⟨env,B,A,ds,k,e1,q⟩:=M;refine⟨env,B,A,ds,k,e1,?_⟩;split at q
 .exactλv H' s r _=>q v H' s r
 .exact⟨hp,q⟩
 .exact q
noncomputable def Lr(i:Nat)(F:Z Dat->Rs)(fs:Zzv):Ev->Fl:=λenv=>match fs env with
 | none=>.no
 | some ds=>match F ds with
  | .ok d=>.next (env.set i (.fz d))
  | .exc c fl=>.exc env c fl
  | .no=>.no
theorem ZB(i:Nat)(hN:X.N.Nodup)(he:PE X e (PU X aL F fs))(hi:X.N[i]?=some x:=by rfl)(hx:LL X.env.scope x:=by ext)(hs:swapsWith e (some (.Name x al)) pos.line X.env=pure false:=by rfl)
  (hf:X.fn x=true\/X.env.scope.names.lookup x=some .local:=by ext):Dl fr X (.Assign [.Name x al] e pos) (Lr i F fs):=(Nu hN hi hx he hs hf).weak λD σ H M=>by
 obtain⟨env,B,A,k,l,q⟩:=M;unfold Lr at q;split at q
 .exact q.elim
 rename_i ds e1;refine⟨env,B,A,ds,k,e1,?_⟩;split at q
 .rename_i d hd
  exactλv H' s r=>q A H' _ (I3.same s) ((k.mono s).put i r)
 .rename_i c fl hd
  exactλA' H' σ' s k' _=>q A' H' σ' s k'
 .exact q.elim
noncomputable def QE(F:Z Dat->Rs)(fs:Zzv):Ev->Fl:=λenv=>match fs env with
 | none=>.no
 | some ds=>match F ds with
  | .ok d=>.ret d
  | .exc c fl=>.exc env c fl
  | .no=>.no
theorem j0(he:PE X e (PU X aL F fs)):Dl false X (.Return (some e) pos) (QE F fs):=(Aa he).weak λD σ H M=>by
 obtain⟨env,B,A,k,l,q⟩:=M;unfold QE at q;split at q
 .exact q.elim
 rename_i ds e1;refine⟨env,B,A,ds,k,e1,?_⟩;split at q
 .rename_i d hd
  exactλv H' s r=>q v H' (Fp k s r).1 (Fp k s r).2 (λz=>by cases z)
 .rename_i c fl hd
  exactλA' H' σ' s k' _=>q A' H' σ' s k'
 .exact q.elim
end
variable{vs:Z C3}
theorem cW:∀ i:Fin 1000,(Str.ofString (toString (i.val:Int))).length<=3:=by ext
theorem Lg{i:Int}(h0:0<=i)(h1:i<1000):(Str.ofString (toString i)).length<=3:=by
 have:=cW ⟨i.toNat,by lia⟩;have e:((i.toNat:Nat):Int)=i:=by lia
 rw[e] at this;exact this
theorem Lk:∀ (ts:Z Str) (k:Nat) (l:Str),(textFrom k l ts).length<=l.length+piled ts
 | [],k,l=>by rw[piled_nil];exact AU _
 | t::ts,k,l=>by
  have h:=Lk ts (k+1) (l++(if k > 0 then ", " else "" : String)++t);rw[piled_cons];have e:(l++(if k > 0 then ", " else "" : String)++t).length<=l.length+2+t.length:=by
   rw[GA,GA];have:(Str.ofString (if k > 0 then ", " else "")).length<=2:=by split<;>decide
   lia
  show(textFrom (k+1) (l++(if k > 0 then ", " else "" : String)++t) ts).length<=_;lia
noncomputable def K5(ns:Z Int):Prop:=ns.length<=500/\∀ n∈ns,0<=n/\n<1000
theorem Cc(h:K5 ns):(PyData.shown (.list (ns.map PyData.int))).length<=3000:=by
 have ah:∀ ns:Z Int,(∀ n∈ns,0<=n/\n<1000)->piled (PyData.shownAll (ns.map PyData.int))<=5*ns.length:=by
  intro ns;induction ns with
  | nil=>intro _;simp[PyData.shownAll,piled_nil]
  | cons n ns ih =>
   intro hn;have h1:=ih λm hm=>hn m (BB _ hm)
   have h2:=hn n AX;rw[CF,PyData.shownAll,piled_cons,BJ];have:(PyData.shown (.int n)).length<=3:=by rw[PyData.shown];exact Lg h2.1 h2.2
   lia
 have hk:=ah ns h.2;have F:=h.1;rw[PyData.shown];show(textFrom 0 "[" _++"]").length<=_;rw[GA];have:=Lk (PyData.shownAll (ns.map PyData.int)) 0 "[";have e1:(Str.ofString "[").length=1:=by decide
 have e2:(Str.ofString "]").length=1:=by decide
 lia
theorem Sa:∀ {ns:Z Int},(∀ n∈ns,0<=n/\n<1000)->PyData.showableAll (ns.map PyData.int)=true
 | [],_=>by simp[PyData.showableAll]
 | n::ns,h=>by
  have h2:=h n AX;rw[CF,PyData.showableAll,Sa λm hm=>h m (BB _ hm),KB,PyData.showable];have h3:n.natAbs<2^1920:=AO (show n.natAbs<2^10 by lia) (BY (by decide) (by decide));by_cases h0:n.natAbs=0
  .rw[h0];decide
  .exact AG ((Nat.log2_lt h0).mpr h3)
theorem Ll:∀ (ns:Z Int),PyData.hasDictAll (ns.map PyData.int)=false
 | []=>by simp[PyData.hasDictAll]
 | n::ns=>by rw[CF,PyData.hasDictAll,Ll ns,PyData.hasDict];rfl
theorem Of:∀ (ns:Z Int),PyData.depthAll (ns.map PyData.int)=0
 | []=>by simp[PyData.depthAll]
 | n::ns=>by rw[CF,PyData.depthAll,Of ns,PyData.depth];rfl
theorem Ny:∀ {ns:Z Int} {its:Z A1},Y5 (ns.map V.int) its->ReadsAll h its (ns.map PyData.int) []
 | [],[],_=>.nil
 | [],_::_,r=>by have:=r.length;simp at this
 | _::_,[],r=>by have:=r.length;simp at this
 | n::ns,v::its,r=>by
  cases r with
  | cons h1 r' =>
   obtain⟨t,rfl⟩:=h1;exact .cons (as:=[]) (bs:=[]) (.int n t) (Ny r')
section
variable{X:Cx}
noncomputable def UG(K:J1)(te:TE)(r:TJ):TJ:=λσ H l Q=>te σ H λx H1=>((∃ i:Int,x=.int i/\0<=i/\i<1000)\/∃ a ns,x=.ref a/\SL K H1 a (ns.map V.int)/\K5 ns)/\l.length<=100000/\∀ y:Str,y.length<=3000->r σ H1 (l++y) Q
theorem Av(hr:J3 k X.A)(he:PE X e te)(b:PJ X vs r):PJ X (.FormattedValue e (-1) none pos::vs) (UG X.K te r):=by
 intro aa s σ H l Q I hz h;refine joinParts_cons (FormattedValue_plain (Ws (he aa s σ H _ I h) λv s1 zz=>?_));obtain⟨x,H1,I1,r1,hx,M,q⟩:=zz;have B:∀ y:Str,y.length<=3000->(l++y).length<=sizeLine:=λy hy=>by rw[GA,CH];lia
 rcases hx with⟨i,rfl,h0,h1⟩ | ⟨a,ns,rfl,hS,c⟩
 .obtain⟨t,rfl⟩:=r1
  have hy:(Str.ofString (toString i)).length<=3000:=BA (Lg h0 h1) (by decide);refine formatField_int_small ?_ ⟨B _ hy,b aa _ σ H1 _ Q (I1.tok _) (B _ hy) (q _ hy)⟩;by_cases d:i.natAbs=0
  .rw[d];decide
  .exact(Nat.log2_lt d).mpr (AO (show i.natAbs<2^10 by lia) (BY (by decide) (by decide)))
 .cases r1
  obtain⟨its,n,w1,g1,_⟩:=hS.get I1;have hy:=Cc c;have rd:Reads s1.heap (.ref a) (.list (ns.map PyData.int)) [a]:=.list g1 rfl rfl (by simpa using Ny w1);refine formatField_of_reads (h₀:=s1.heap) rd (by rw[PyData.showable];exact Sa c.2) (PyData.noDict_hsm (by rw[PyData.hasDict];exact Ll ns)) hr.gd (by rw[PyData.depth,Of];have:=hr.un;lia) (λ_ _ q=>q) (λh' u tk hk=>?_) (BA hy (by decide));exact⟨B _ hy,b aa _ σ H1 _ Q (I1.kept hk) (B _ hy) (q _ hy)⟩
theorem TK(hr:I' k X.A)(he:PE X e te)(b:PJ X vs r):PJ X (.FormattedValue e (-1) none pos::vs) (UG X.K te r):=Av hr.n he b
end
end L2
variable{I:Nat×Nat->Prop}{z:α}{tk:Z (Z Nat)}{ys as:Z L2.Dat}
namespace L2
open PySem PySem.Spec PyProof.Rows PySem.W
theorem fF{K:Frag}{N:A2}{n:Str}(X:K.In h)(G:h.Ns N mg)(e:nsIn K N n=some (some v)):mg n=some v:=by
 obtain⟨o,es,ep,ho,hd,_,hf⟩:=G;unfold nsIn at e;split at e
 .rename_i c d a g sl q
  have:=X _ _ q;rw[ho] at this;cases this;cases hd;split at e
  .rename_i J he
   cases e;rw[<- hf];unfold nsFind findBy;rw[<- Array.find?_toList,he];rfl
  .split at e<;>cases e
 .cases e
noncomputable def Ri(K:Frag)(C fI D:A2):Bool:=match K.lookup C with
 | some ⟨.type "type",_,.cls cd,sl⟩=>(match cd.mro,sl.toList with
  | .ref i::bm,[_,_,_,_,some (.builtin n),_]=>i==C&&n=="ValueError.__new__" && !cd.hasDel&&cd.hasDict&&bm==.ref D::Jw&&tailIn K Jw bm&&nsOkIn K cd.ns&&nsIn K cd.ns "__init__" == some (some (.ref fI))
  | _,_=>false)
 | _=>false
theorem Nx{K:Frag}{D:A2}(X:K.In h)(q:Ri K C fI D=true):∃ nm qn N bs sn sub ab col dd k0 k1 k2 k3 k5 mN,
  h.get? C=some (excClassObj nm qn C N bs (.ref D::Jw) true sn sub ab col dd k0 k1 k2 k3 k5 "ValueError.__new__")/\h.Ns N mN/\mN "__init__" = some (.ref fI)/\OwnTail h Jw (.ref D::Jw):=by
 unfold Ri at q;split at q
 .rename_i dd cd sl ho
  split at q
  .rename_i i bm k0 k1 k2 k3 n k5 hm hs
   simp only[AW,DI,HB] at q;obtain⟨⟨⟨⟨⟨⟨⟨rfl,rfl⟩,b⟩,a⟩,rfl⟩,ht⟩,hok⟩,c⟩:=q;obtain⟨nm,bs,mro,ns,qn,hd,sn,sub,ab,col,del⟩:=cd;dsimp only at hm b hok c a;subst hm b a;have T:sl=#[k0,k1,k2,k3,some (.builtin "ValueError.__new__"),k5]:=by
    obtain⟨l⟩:=sl;simp only at hs;rw[hs]
   subst T;have G:h.Ns ns (h.nsMap ns):=.of_isNs (isNs_of_in X hok);exact⟨nm,qn,ns,bs,sn,sub,ab,col,dd,k0,k1,k2,k3,k5,_,X _ _ ho,G,fF X G c,tail_of_in X ht⟩
  .cases q
 .cases q
noncomputable def Ez(e C:A2)(dct:C1 A2)(h:H3):Prop:=∃ t:A2,h.get? e=some { cls:=.ref C,dict:=dct,data:=.fields #[.ref t,.none,.none,.none,.bool false,.none] }
theorem jC{a:A2}{o:HO}(h:H a=some o):W5 H a o=H:=by
 funext b;unfold W5;split
 .rename_i e;rw[e,h]
 .rfl
theorem Bg{e:A2}(x:Ez e C dct h):We P w H h e (.ext (Ez e C dct)):=by
 obtain⟨t,ht⟩:=x;exact⟨⟨t,ht⟩,⟨_,ht⟩,λh1 h2 ⟨t,q⟩ k=>⟨t,k _ q⟩⟩
structure LF (K:Frag) (mg:KP) (D:Addr):Prop where
 mg:mg "CalmError" = some (.ref D)
 ga:specialIn K (.ref D) "__getattribute__" = some (some (.builtin "type.__getattribute__"))
 rd:readsIn K D (.type "type")=true
 fi:findCls K (.ref D) (.type "type") "__init__" = some (.val (.builtin "ValueError.__init__"))
section
variable{X:Cx}{t:TA}{D:A2}
noncomputable def QQ(K:Frag)(t:TA):TE:=λσ H Q=>t σ H λvs H1=>∃ e C dct v fI D,vs=[.ref e,v]/\H1 e=some (.ext (Ez e C dct))/\Ri K C fI D=true/\Q .non H1
theorem Nt{pl:Sem Bool}(B:LF X.K X.mg D)(ha:PA X (e::es) t)(hg:Gl X "CalmError" := by rfl)(he:Z0 X.env e es:=by rfl)(ag:Z1 pos X.env es:=by rfl)
  (ht:eval (.Call (.Attribute (.Name "CalmError" p) "__init__" au) (e::es) [] pos) X.env=(do
   let E <- eval (.Name "CalmError" p) X.env
   standAt au.atName
   let (f,first) <- holding [E] (getMethod E "__init__" pl)
   callWith pos f first (backTo pos (starEach (e::es) X.env)) (backToKw pos (keywordEach [] X.env))):=by rfl) :
  PE X (.Call (.Attribute (.Name "CalmError" p) "__init__" au) (e::es) [] pos) (QQ X.K t):=by
 intro aa s σ H Q I h;refine methodCall_KW (pl:=pl) (Uk I hg B.mg ?_ (by decide)) ht;refine method_cls I.kIn B.ga (cls_value I.kIn B.rd B.fi rfl ?_);refine PyProof.Rows.callWith_builtin1 (Ws (ha pos aa _ σ H _ (I.tok _) h) λus s1 zz=>?_) he ag;obtain⟨vs,H1,I1,r,ex,C,dct,v,fI,D',ev,hx,hc,q⟩:=zz;subst ev;obtain⟨u,l,rfl,r1,r2⟩:=QV r;cases r1;obtain⟨nm,qn,N,bs,sn,sub,ab,col,dd,k0,k1,k2,k3,k5,mN,R,hN,hi,T⟩:=Nx I1.kIn hc;obtain⟨⟨t0,P⟩,_,_⟩:=(show We X.prog X.w H1 s1.heap ex (.ext (Ez ex C dct)) from I1.hok ex _ hx);obtain⟨hh,g,d,tk,os⟩:=s1;refine Px T R P λh' k hk hsz=>⟨.non,H1,?_,rfl,q⟩
 have:=I1.write (h':=h') (x:=ex) (e:=ex) (o:=.ext (Ez ex C dct)) (t':=tk) (by rw[hx];trivial) (.inl rfl) (λb u hb q=>hk b u hb q) ⟨_,k⟩ (Bg ⟨_,k⟩);rw[jC hx] at this;exact this
noncomputable def TR(K:Frag)(ta tv:TE)(f:Str):TS:=λD σ H=>tv σ H λy H1=>ta σ H1 λx H2=>∃ a C dct fI D',x=.ref a/\H2 a=some (.ext (Ez a C dct))/\Ri K C fI D'=true/\KW K C/\findIn K (.ref C) f=some none /\
 match dct with
 | none=>∀ dx,H2 dx=none->dx≠a->D.nx σ (W5 (W5 H2 a (.ext (Ez a C (some dx)))) dx (.xd [(f,y)]))
 | some dx=>False
theorem Fz{o:C3}{f:Str}(ha:PE X o ta)(hv:PE X ao tv)(hs:swapsWith ao (some (.Attribute o f al)) pos.line X.env=pure false:=by rfl):PS X (.Assign [.Attribute o f al] ao pos) (TR X.K ta tv f):=by
 intro aa s σ H D I h;refine plainObj_wpAny_Assign_Attribute (Ws (hv aa s σ H _ I h) λu s1 ⟨y,H1,I1,m,q⟩=>Ws (ha aa s1 σ H1 _ I1 q) λE s2 zz=>?_) hs;obtain⟨x,H2,I2,S,a,C,dct,fI,D',ex,ea,hc,xc,hf,q2⟩:=zz;subst ex;obtain rfl:E=Value.ref a:=S;cases dct with
 | some dx=>exact q2.elim
 | none =>
  obtain⟨⟨t0,P⟩,_,_⟩:=(show We X.prog X.w H2 s2.heap a (.ext (Ez a C none)) from I2.hok a _ ea);obtain⟨cd,ae,Y,a',b',hm⟩:=xc.cd;obtain⟨oC,F,R,i,r⟩:=xc.ld I2.kIn;have N:InstAt s2.heap a { cls:=.ref C,dict:=none,data:=.fields #[.ref t0,.none,.none,.none,.bool false,.none] } C none:=⟨P,rfl,rfl,trivial⟩;refine set_plain I2.kIn N xc.sa ?_;refine bM (s:={ s2 with toks:=s2.toks+1 }) I2.kIn N ae hm hf ?_;obtain⟨hh,g,d,tk,os⟩:=s2;refine lj P rfl (λc z=>by cases z) rfl R i r λh' k ap af hk hsz=>?_
  have ai:a<hh.objs.size:=AQ P;have aj:H2 hh.objs.size=none:=I2.hok.fresh (AU _);have ak:hh.objs.size≠a:=KG ai;have j:∀ b,b≠a->b≠hh.objs.size->W5 (W5 H2 a (.ext (Ez a C (some hh.objs.size)))) hh.objs.size (.xd [(f,y)]) b=H2 b:=λb h1 h2=>by rw[Zh h2,Zh h1]
  have l:∀ {b:A2} {o:HO},H2 b=some o->b≠hh.objs.size:=λ{b o} q z=>by rw[z,aj] at q;cases q
  have un:Un X.fs [] H2 (W5 (W5 H2 a (.ext (Ez a C (some hh.objs.size)))) hh.objs.size (.xd [(f,y)])) hh h':=by
   refine⟨λb o q n _ _=>hk b o (λz=>by rw[z,ea] at n;cases n) q,λb o q n _ _=>⟨o.slots,hk b o (λz=>by rw[z,ea] at n;cases n) q⟩,λb o q n _=>?_,λb o q _=>?_,λb xs q=>?_,λb o u q=>?_,λb ps q=>?_⟩
   .rw[j b (λz=>by rw[z,ea] at n;cases n) (λz=>by rw[z] at q;exact absurd (AQ q) (DF _))];exact n
   .by_cases z:b=a
    .subst z;exact⟨_,ap⟩
    .exact⟨_,hk b o z q⟩
   .rw[j b (λz=>by rw[z,ea] at q;cases q) (l q)];exact q
   .rw[j b (λz=>by rw[z,ea] at q;cases q) (l q)];exact q
   .exact⟨#[],by rw[j b (λz=>by rw[z,ea] at q;cases q) (l q)];simpa using q⟩
  have hok:Mx X.prog X.w (W5 (W5 H2 a (.ext (Ez a C (some hh.objs.size)))) hh.objs.size (.xd [(f,y)])) h':=by
   intro b o q;by_cases z2:b=hh.objs.size
   .subst z2
    rw[Zp] at q;cases q;refine⟨_,af,λg=>?_⟩;show Om (List.lookup g [(f,y)]) (if g=f then some u else none);by_cases e:g=f
    .subst e;simp[List.lookup,Om];exact m
    .have e':(g==f)=false:=by simpa using e
     simp[List.lookup,e',e,Om]
   .by_cases W:b=a
    .subst W
     rw[Zh z2,Zp] at q;cases q;exact Bg ⟨t0,ap⟩
    .rw[j b W z2] at q
     refine(I2.hok b o q).stay (λc v z w=>hk c v (λM=>?_) w) (λc w=>?_) λc xs w=>?_
     .rcases z with z | z
      .exact W (z.symm.trans M)
      .rw[M,ea] at z;cases z
     .rw[j c (λM=>by rw[M,ea] at w;cases w) (l w)];exact w
     .rw[j c (λM=>by rw[M,ea] at w;cases w) (l w)];exact w
  exact⟨σ,_,I2.un (h':=h') (t':=k) un hok,q2 _ aj ak⟩
end
noncomputable def MX(K:Frag)(C:A2)(p:Nat)(G:Z Dat->C1 (Z (Str×XD))):Sp:=λvs H Q _=>∃ e ws ds R fl,vs=.ref e::ws/\ws.length=p/\H e=some (.ext (Ez e C none))/\Td R H/\R e=false/\Wj K (av H R) ds ws/\G ds=some fl /\
 ∀ H' dct,(∀ c o,c≠e->H c=some o->H' c=some o)->H' e=some (.ext (Ez e C dct))->Fw K (av H' R) dct fl->X3 H H' dct->Q .non H'
structure KY (P:Program) (w:World) (K:Frag) (mg:KP) (base:Heap) (k:Nat) (c:Str) (p:Nat) (G:List Dat->Option (List (Str×XD))):Prop where
 ex:∃ C fI D fd ps,Vq K c C/\mg c=some (.ref C)/\keepIn K (.ref C)=true/\Ri K C fI D=true/\KW K C/\isFn K (.ref fI)=true/\KO P w K mg base Ec k fI fd ps (MX K C p G)/\Jy K fd ps []
 len:∀ ds fl,G ds=some fl->ds.length=p
 few:p<=10
theorem Fw.of_ne{K:Frag}{e:A2}{fs:Z (Str×XD)}{g:H3->Prop}(he:H e=some (.ext g))(k:∀ c o,c≠e->H c=some o->H' c=some o)(h:Fw K H dct fs):Fw K H' dct fs:=by
 have ne:∀ {c:A2} {o:HO},H c=some o->(∀ g,o≠.ext g)->H' c=some o:=λ{c o} q n=>k c o (λz=>by rw[z,he] at q;exact n _ (BC q).symm) q
 cases dct with
 | none=>exact h
 | some dx =>
  obtain⟨j,e1,e2⟩:=h;refine⟨j,ne e1 (λ_ z=>by cases z),λf=>(e2 f).imp id λ⟨d,v,a,b,c⟩=>⟨d,v,a,b,?_⟩⟩;cases d with
  | int i=>exact c
  | nums is =>
   obtain⟨a,W,z2,z3⟩:=c;refine⟨a,W,?_,z3⟩;rcases z2 with(z | ⟨o,z⟩) | z
   .exact .inl (.inl (ne z (λ_ w=>by cases w)))
   .exact .inl (.inr ⟨o,ne z (λ_ w=>by cases w)⟩)
   .exact .inr z
noncomputable def LX(H:Hp)(a:A2):Hp:=λb=>if b=a then none else H b
theorem D7{a b:A2}(h:b≠a):LX H a b=H b:=by unfold LX;rw[AM h]
theorem Hr{a:A2}:LX H a a=none:=by unfold LX;rw[AH rfl]
theorem Gw{a b:A2}(h:H b=none):LX H a b=none:=by unfold LX;split<;>first | rfl | exact h
theorem F'.drop{X:Cx}{a:A2}{g:H3->Prop}(I:F' X aa σ H s)(ha:H a=some (.ext g)):F' X aa σ (LX H a) s:=by
 have ne:∀ {b:A2} {o:HO},H b=some o->(∀ g,o≠.ext g)->LX H a b=some o:=λ{b o} q n=>by rw[D7 (λz=>by rw[z,ha] at q;exact n _ (BC q).symm)];exact q
 refine⟨I.ok,I.os,I.bare,⟨I.base.keep,I.base.slot,λb o q n hx=>Gw (I.base.free b o q n hx),I.base.there,λb xs q=>ne (I.base.tups b xs q) (λ_ z=>by cases z),λb o u q=>ne (I.base.frzs b o u q) (λ_ z=>by cases z),λb ps q=>?_⟩,I.loc,I.cell,Gw I.free,λx c e=>Gw (I.freeC x c e),λp hp=>?_,λb o q=>?_,I.len⟩
 .obtain⟨f,z⟩:=I.base.tbls b ps q
  exact⟨f,ne z (λ_ z=>by cases z)⟩
 .obtain⟨h1,h2,h3⟩:=I.pin p hp
  exact⟨h1,Gw h2,h3⟩
 .have hb:b≠a:=λz=>by rw[z,Hr] at q;cases q
  rw[D7 hb] at q;exact(I.hok b o q).stay (λ_ _ _ w=>w) (λc w=>ne w (λ_ z=>by cases z)) λc xs w=>ne w (λ_ z=>by cases z)
theorem WQ{ex:A2}{o:HO}(h:X3 (W5 H ex o) H' dct)(hx:∃ g,H' ex=some (.ext g))(s:Zr H0 H):X3 H0 (LX H' ex) dct:=λdx e=>by
 have m:∀ b,W5 H ex o b=none->H0 b=none:=λb z=>by
  have hb:b≠ex:=λw=>by rw[w,Zp] at z;cases z
  rw[Zh hb] at z;exact s.none z
 refine⟨m _ (h dx e).1,λj f a q l=>?_⟩;have q':H' dx=some (.xd j):=by
  have hb:dx≠ex:=λw=>by rw[w,Hr] at q;cases q
  rw[D7 hb] at q;exact q
 obtain⟨y1,xs,y2⟩:=(h dx e).2 j f a q' l;refine⟨m _ y1,xs,?_⟩;have ha:a≠ex:=λw=>by
  obtain⟨g,hg⟩:=hx;rw[w,hg] at y2;cases y2
 rw[D7 ha];exact y2
theorem Sy{a:A2}{o:HO}(h:H a=none):Zr H (W5 H a o):=λb u e=>by rw[Zh (λz=>by rw[z,h] at e;cases e)];exact e
section
variable{X:Cx}{n:Nat}{c:Str}
noncomputable def U9(c:Str)(G:Z Dat->C1 (Z (Str×XD)))(fs:Zzv):Ev->Fl:=λenv=>match (fs env).bind G with
 | none=>.no
 | some fl=>.exc env c fl
theorem Xr{A:AS}(M:KY X.prog X.w X.K X.mg X.base k c n G)(hr:I' (k+1) X.A)
  (I:F' X aa σ H s) (kk:C' X.K B A H σ env) (r:Y5 vs us) (rs:Wj X.K (av H A) ds vs) (hG:G ds=some fl) {C fI D:A2} (af:Vq X.K c C) (hx:Ri X.K C fI D=true) {fd:D1} {ps:Z Str} (ai:isFn X.K (.ref fI)=true) (F:KO X.prog X.w X.K X.mg X.base Ec k fI fd ps (MX X.K C n G)) (hb:Jy X.K fd ps [])
  (q:∀ H' σ',σ'=σ->Zr H H'->C' X.K B A H' σ env->XW X B.H₀ A H' σ c fl) :
  wpAny (model X.prog X.w) X.A (call (.ref C) us) (λv s'=>∃ ex t dct,v=.ref ex/\(∃ o,s'.heap.get? C=some o)/\s'.heap.get? ex=some { cls:=.ref C,dict:=dct,data:=.fields #[.ref t,.none,.none,.none,.bool false,.none] }/\X.K.In s'.heap/\X.xe (.ref ex) s') X.xe s:=by
 obtain⟨nm,qn,N,bs,sn,sub,ab,col,dd,k0,k1,k2,k3,k5,mN,R,hN,hi,T⟩:=Nx I.kIn hx;have f:∃ l,s.heap.get? fI=some l/\l.cls=.type "function" := by
  have:=DI.mp ai;obtain⟨l,h1,h2⟩:=Option.map_eq_some_iff.mp this;exact⟨l,I.kIn _ _ h1,h2⟩
 obtain⟨l,f,m⟩:=f;have ac:us.length<=sizeLine:=by
  have h1:=r.length;have h2:=Y6 rs;have h3:=M.len ds fl hG;have h4:=M.few;exact EJ (Tq (by lia))
 obtain⟨hh,g,d,tk,os⟩:=s;refine Os (hrest:=ac) DX (by decide) DX T R hN hi f m λh' ex i hm=>?_
 obtain⟨t0,P,_,_⟩:=hm.there;have aj:H ex=none:=I.hok.fresh i;have I2:F' X aa σ (W5 H ex (.ext (Ez ex C none))) ⟨h',g,d,tk,os⟩:=I.laid (h':=h') (t':=tk) (a:=ex) (o:=.ext (Ez ex C none)) hm.keeps i (Bg ⟨t0,P⟩);have h:A ex=false:=by
  cases z:A ex with
  | false=>rfl
  | true=>obtain⟨o,ho⟩:=(kk.mu ex z).some;rw[aj] at ho;cases ho
 have J:Zr H (W5 H ex (.ext (Ez ex C none))):=Sy aj;let y:VK:=λv H'=>v=.non/\∃ dct,(∀ c o,c≠ex->W5 H ex (.ext (Ez ex C none)) c=some o->H' c=some o)/\H' ex=some (.ext (Ez ex C dct))/\Fw X.K (av H' A) dct fl/\X3 (W5 H ex (.ext (Ez ex C none))) H' dct
 have Y:MX X.K C n G (.ref ex::vs) (W5 H ex (.ext (Ez ex C none))) y E0:=⟨ex,vs,ds,A,fl,rfl,by rw[Y6 rs];exact M.len ds fl hG,Zp,kk.mu.mono J,h,rs.mono (Wp J),hG,λH' dct h1 h2 h3 h4=>⟨rfl,dct,h1,h2,h3,h4⟩⟩;have ao:(Value.ref ex::us).length=ps.length:=by
  have e1:=F.len _ _ _ _ Y;have e2:=r.length;rw[BJ] at e1 ⊢;lia
 refine FK (FD (F.run _ X.stack ⟨h',g,d,tk,os⟩ _ ⟨Value.ref ex::us,[]⟩ (Value.ref ex::us) (V.ref ex::vs) y E0 (hr.make C us []) (I2.env0.make C us []) (by simpa using hb _ (Value.ref ex::us) I2.kIn (by simpa using ao)) (.cons rfl r) Y) λS s' hq=>?_);cases S with
 | error e=>exact False.elim hq
 | ok ax =>
  cases ax with
  | ret u =>
   obtain⟨v,H',j,rv,ev,dct,h1,h2,h3,h4⟩:=I2.after hq;subst ev;have eu:u=.none:=rv;subst eu;refine⟨rfl,?_⟩;obtain⟨⟨t1,ap⟩,_,_⟩:=(show We X.prog X.w H' s'.heap ex (.ext (Ez ex C dct)) from j.hok ex _ h2);have I4:=j.drop h2;have sm:Zr H (LX H' ex):=λb o q=>by
    have hb:b≠ex:=λz=>by rw[z,aj] at q;cases q
    rw[D7 hb];exact h1 b o hb (by rw[Zh hb];exact q)
   have x:X.s₀.heap.objs.size<=ex:=BA I.sz i;obtain⟨nm',qn',N',bs',sn',sub',ab',col',W,k0',ag,ak,k3',k5',mN',E,_,_,_⟩:=Nx j.kIn hx;refine⟨ex,t1,dct,rfl,⟨_,E⟩,ap,j.kIn,?_⟩;refine q (LX H' ex) σ rfl sm (kk.mono sm) aa s' ex C dct I4 af ⟨x,Hr,.inl ⟨_,_,ap,rfl,rfl,rfl,rfl,.inl rfl⟩,λp hp z=>?_⟩ ?_ (WQ h4 ⟨_,h2⟩ kk.h0)
   .have:=(I.pin p hp).1
    rw[z] at this;exact absurd (AQ this) (EQ.mpr i)
   .exact h3.of_ne (e:=ex) (V7 h2 h) λc o hc q=>V7 (by rw[D7 hc];exact(Qs q).2) (Qs q).1
  | next=>exact False.elim hq
  | brk=>exact False.elim hq
  | cont=>exact False.elim hq
theorem Ft(M:KY X.prog X.w X.K X.mg X.base k c n G)(hr:I' (k+1) X.A)(hc:X.calm=true)(ha:Ps false X (e::es) fs)(hg:Gl X c:=by rfl)(g:C2 c:=by decide)
  (he:Z0 X.env e es:=by rfl) (ag:Z1 ak X.env es:=by rfl):Dl fr X (.Raise (some (.Call (.Name c p) (e::es) [] ak)) none pos) (U9 c G fs):=by
 intro aa s σ H D I ⟨env,B,A,kk,l,q⟩;obtain⟨C,fI,D',fd,ps,af,hm,a,hx,xc,ai,F,hb⟩:=M.ex;unfold U9 at q;split at q
 .exact q.elim
 rename_i fl P;obtain⟨ds,e1,hG⟩:=bind_some P;obtain⟨nm,qn,N,bs,sn,sub,ab,col,dd,k0,k1,k2,k3,k5,mN,R,hN,hi,T⟩:=Nx I.kIn hx;have ah:wpAny (model X.prog X.w) X.A (eval (.Call (.Name c p) (e::es) [] ak) X.env) (λv s'=>∃ ex t dct,v=.ref ex/\(∃ o,s'.heap.get? C=some o)/\s'.heap.get? ex=some { cls:=.ref C,dict:=dct,data:=.fields #[.ref t,.none,.none,.none,.bool false,.none] }/\X.K.In s'.heap/\X.xe (.ref ex) s') X.xe s:=by
  refine CV (Uk I hg hm ?_ g);refine callWith_K (h₀:=X.base) I.ok.mod.kin a (Ws (ha ak aa s σ H (λvs H1=>Zr H H1/\Wj X.K (av H1 A) ds vs) I ⟨env,B,A,ds,kk,e1,λvs H1 s1 rs=>⟨s1,rs.rps⟩⟩) λus s1 ⟨vs,H1,I1,r,sm,rs⟩=>⟨I1.kIn,?_⟩) he ag;exact Xr M hr I1 (kk.mono sm) r rs hG af hx ai F hb λH' σ' _ j k2=>q A H' σ (I3.same (sm.trans j)) k2
 rw[JT];refine AA (CY (L7 (C:=C) (nm:=nm) (q:=qn) (N:=N) (bs:=bs) (bm:=.ref D'::Jw) (hdct:=true) (sn:=sn) (sub:=sub) (ab:=ab) (col:=col) (dd:=dd) (k0:=k0) (k1:=k1) (k2:=k2) (k3:=k3) (k5:=k5) (newId:="ValueError.__new__") (by simp[Jw]) (I.ok.hd hc) (AA (BF ah (λv s₃ h₃=>AA (CY (AI ?_))) λ_ _ x=>x))));obtain⟨ex,t,dct,rfl,_,hex,hK,b⟩:=h₃;obtain⟨o,lk⟩:∃ o,X.K.lookup C=some o:=by
  unfold Ri at hx;split at hx
  .rename_i ho;exact⟨_,ho⟩
  .cases hx
 have e2:=(I.kIn _ _ lk).symm.trans R;cases e2;exact⟨ex,.ref t,dct,rfl,hK _ _ lk,hex,b⟩
end
noncomputable def R6(ns:Z Int):Bool:=decide (ns.length<=500)&&ns.all λn=>decide (0<=n)&&decide (n<1000)
theorem F9(h:R6 ns=true):K5 ns:=by
 unfold R6 at h;rw[AW,CW] at h;refine⟨AT h.1,λn hn=>?_⟩;have:=h.2 n hn;rw[AW] at this;exact⟨AT this.1,AT this.2⟩
noncomputable def gW(f:Str):Z Dat->C1 (Z (Str×XD))
 | [.lst xs]=>(Js xs).bind λns=>if R6 ns=true then some [(f,.nums ns)] else none
 | _=>none
noncomputable def NV(n:Nat)(σ:St)(H:Hp)(r:TJ):Prop:=∀ (l:Str) (Q:VK),l.length<=n->(∀ z,Q (.str z) H)->r σ H l Q
theorem Bi{n:Nat} :NV n σ H XC:=λl Q _ q=>q l
theorem Hx{n:Nat}{c:Str}(hr:NV (n+c.length) σ H r)(h:n+c.length<=100000):NV n σ H (WZ c r):=λl Q ha q=>by
 have e:(l++c).length=l.length+c.length:=GA _ _;exact⟨by rw[e,CH];lia,hr _ Q (by rw[e];lia) q⟩
theorem Hf{n:Nat}{K:Frag}{v:V}(hr:NV (n+3000) σ H r)(h:n<=90000)(hv:σ[i]?=some (some v))(hs:(∃ i:Int,v=.int i/\0<=i/\i<1000)\/∃ a ns,v=.ref a/\SL K H a (ns.map V.int)/\K5 ns):NV n σ H (UG K (Im i) r):=λl Q ha q =>
 ⟨v,hv,hs,by lia,λy hy=>hr _ Q (by rw[GA];lia) q⟩
section
variable{K:Frag}
end
section
variable{X:Cx}
theorem F'.track{a:A2}{o:HO}(I:F' X aa σ H s)(ha:H a=none)(lo:X.s₀.heap.objs.size<=a)(hl:a≠X.env.locals)(hc:∀ x c,X.env.cells.lookup x=some c->c≠a)(hp:∀ p∈X.pn++aa,p.1≠a)(ok:We X.prog X.w (W5 H a o) s.heap a o):F' X aa σ (W5 H a o) s:=by
 have sm:Zr H (W5 H a o):=Sy ha;refine⟨I.ok,I.os,I.bare,⟨I.base.keep,I.base.slot,λb ob q n hx=>?_,I.base.there,λb xs q=>sm _ _ (I.base.tups b xs q),λb o u q=>sm _ _ (I.base.frzs b o u q),λb ps q=>?_⟩,I.loc,I.cell,?_,λx c e=>?_,λp h=>?_,λb u q=>?_,I.len⟩
 .rw[Zh (λz=>by rw[z] at q;exact absurd (AQ q) (EQ.mpr lo))]
  exact I.base.free b ob q n hx
 .obtain⟨f,z⟩:=I.base.tbls b ps q
  exact⟨f,sm _ _ z⟩
 .rw[Zh (AR hl)];exact I.free
 .rw[Zh (hc x c e)];exact I.freeC x c e
 .obtain⟨h1,h2,h3⟩:=I.pin p h
  exact⟨h1,by rw[Zh (hp p h)];exact h2,h3⟩
 .by_cases z:b=a
  .subst z;rw[Zp] at q;cases q;exact ok
  .rw[Zh z] at q
   exact(I.hok b u q).stay (λ_ _ _ w=>w) (λc w=>sm _ _ w) λc xs w=>sm _ _ w
noncomputable abbrev Cx.inTry(X:Cx)(pn:KL)(E:KN):Cx:={ X with pn:=pn,xe:=E }
noncomputable abbrev Cx.inH(X:Cx)(pn:KL)(e:A2):Cx:={ X with A:=X.A.mark (some (.ref e)),calm:=false,pn:=pn,xe:=λ_ _=>False }
theorem F'.toTry(I:F' X aa σ H s):F' (X.inTry (X.pn++aa) E) [] σ H s :=
 ⟨⟨I.ok.mod,I.ok.kind,I.ok.glob,I.ok.blt,I.ok.above,I.ok.inj,I.ok.has,I.ok.cab,I.ok.hd,I.ok.frames,I.ok.stk,I.ok.exf,I.ok.bs,I.ok.bsz,I.ok.noex,I.ok.exfs,I.ok.funs,I.ok.frf⟩,I.os,I.bare,I.base,I.loc,I.cell,I.free,I.freeC,λp hp=>I.pin p (by simpa using hp),I.hok,I.len⟩
theorem F'.ofTry(ok:X.Ok)(I:F' (X.inTry (X.pn++aa) E) pins' σ H s):F' X aa σ H s :=
 ⟨ok,I.os,I.bare,I.base,I.loc,I.cell,I.free,I.freeC,λp hp=>I.pin p (BZ _ hp),I.hok,I.len⟩
theorem F'.toH{e:A2}(I:F' X aa σ H s):F' (X.inH (X.pn++aa) e) [] σ H s :=
 ⟨⟨I.ok.mod,I.ok.kind,I.ok.glob,I.ok.blt,I.ok.above,I.ok.inj,I.ok.has,I.ok.cab,(λz=>nomatch z),I.ok.frames,I.ok.stk,I.ok.exf,I.ok.bs,I.ok.bsz,I.ok.noex,I.ok.exfs,I.ok.funs,I.ok.frf⟩,I.os,I.bare,I.base,I.loc,I.cell,I.free,I.freeC,λp hp=>I.pin p (by simpa using hp),I.hok,I.len⟩
end
noncomputable def NL(g:Ev->Fl)(k:Ev->Str->Z (Str×XD)->Fl):Ev->Fl:=λenv=>match g env with
 | .exc env' c fl=>k env' c fl
 | r=>r
noncomputable abbrev Cx.pls(X:Cx)(b:Bool):Cx:={ X with pl:=b }
section
variable{X:Cx}{b:Bool}
theorem F'.pls(I:F' X aa σ H s):F' (X.pls b) aa σ H s :=
 ⟨⟨I.ok.mod,I.ok.kind,I.ok.glob,I.ok.blt,I.ok.above,I.ok.inj,I.ok.has,I.ok.cab,I.ok.hd,I.ok.frames,I.ok.stk,I.ok.exf,I.ok.bs,I.ok.bsz,I.ok.noex,I.ok.exfs,I.ok.funs,I.ok.frf⟩,I.os,I.bare,I.base,I.loc,I.cell,I.free,I.freeC,I.pin,I.hok,I.len⟩
theorem F'.unpls(I:F' (X.pls b) aa σ H s):F' X aa σ H s :=
 ⟨⟨I.ok.mod,I.ok.kind,I.ok.glob,I.ok.blt,I.ok.above,I.ok.inj,I.ok.has,I.ok.cab,I.ok.hd,I.ok.frames,I.ok.stk,I.ok.exf,I.ok.bs,I.ok.bsz,I.ok.noex,I.ok.exfs,I.ok.funs,I.ok.frf⟩,I.os,I.bare,I.base,I.loc,I.cell,I.free,I.freeC,I.pin,I.hok,I.len⟩
end
theorem He(k:X0 l ch h h')(hT:h.objs.size<=T')(y:∀ b o,h'.get? b=some o->b∉[T']->h2.get? b=some o):X0 l ch h h2:=λb o hb hc=>by
 obtain⟨k1,sl,k2⟩:=k b o hb hc;have f:b∉[T']:=λz=>by
  have e1:b=T':=by simpa using z
  rw[e1] at hb;exact absurd (AQ hb) (EQ.mpr hT)
 exact⟨λhl=>y b o (k1 hl) f,sl,y b _ k2 f⟩
structure Ld (X:Cx) (aa:KL) (σ:St) (H:Hp) (s:Shared) (e C T:Addr) (dct:Option Addr) (c2:Option Value):Prop where
 J:F' X aa σ H s
 sb:X.base.StaysIn s.heap
 ff:s.heap.FunFrames X.base (X.env::X.outer)
 tr:L9 s.heap X.base e T (.ref C,c2) dct .none
 lo:X.s₀.heap.objs.size<=e
 un:H e=none
 pe:∀ p∈X.pn++aa,p.1≠e
 tl:X.s₀.heap.objs.size<=T
 tn:H T=none
 tp:∀ p∈X.pn++aa,p.1≠T
section
variable{X:Cx}{e:A2}
theorem F'.nloc(J:F' X aa σ H s){a:A2}{o:Obj}{vs:Array A1}(ho:s.heap.get? a=some o)(hd:o.data=.fields vs):a≠X.env.locals/\∀ y c,X.env.cells.lookup y=some c->c≠a:=by
 refine⟨λz=>?_,λy c hc z=>?_⟩
 .obtain⟨m,⟨o',es,ep,f,Q,_⟩,_⟩:=J.loc
  rw[z,f] at ho;cases ho;rw[hd] at Q;cases Q
 .obtain⟨v,o',f,Q⟩:=J.cell y c hc
  rw[z,ho] at f;cases f;rw[hd] at Q;cases Q
theorem F'.kpx(J:F' X aa σ H s)(i:X.stack=X.env::X.outer)(kp:X0 (X.env::X.outer) ch s.heap h2)(S:∀ b∈ch,H b=none/\X.s₀.heap.objs.size<=b/\(∃ o vs,s.heap.get? b=some o/\o.data=.fields vs)/\∀ p∈X.pn++aa,p.1≠b):F' X aa σ H { s with heap:=h2 } :=
 J.call' (s':={ s with heap:=h2 }) (ch:=ch) rfl (by rw[i];exact UL kp λb hb=>(S b hb).1) (Hm J.hok kp (λb hb=>(S b hb).1) (by rw[<- i];exact J.stkFree)) J.bare λb hb=>by
  obtain⟨_,h1,⟨o,vs,h2,h3⟩,h4⟩:=S b hb;have:=J.nloc h2 h3;exact⟨.inr h1,this.1,this.2,h4⟩
theorem Ld.land{M:Model}(Lq_:Ld X aa σ H s e C T dct c2)(i:X.stack=X.env::X.outer)(k:∀ s',Ld X aa σ H s' e C T dct c2->Q () s'):wpAny M A (setFlight (.ref e) none) Q E s :=
 Cj Lq_.sb Lq_.ff Lq_.tr λh3 y1 y2 y3 F y5=>k _ ⟨Lq_.J.kpx i (ch:=[T]) (.of λb o hb hc=>F b o hb hc) λb hb=>by
  obtain⟨oe,ve,N,ts,g1,g2,g3,g4,g5,g6,g7,g8,g9,ae⟩:=Lq_.tr;rw[AJ.mp hb];exact⟨Lq_.tn,Lq_.tl,⟨_,_,g8,g9⟩,Lq_.tp⟩,y1,y2,y3,Lq_.lo,Lq_.un,Lq_.pe,Lq_.tl,Lq_.tn,Lq_.tp⟩
theorem bW{b:Bool}{k:Ev->Str->Z (Str×XD)->Fl}{h₀:ExceptHandler}{hs:Z ExceptHandler}(hb:∀ pn E,Xc fr ((X.inTry pn E).pls b) body g)
  (hh:∀ aa (D:KR) B A H env' c fl j H1 σ1 s1 e C T dct c2,I3 A H j H1->C' X.K B j H1 σ1 env'->B.st=true->Vq X.K c C->Fw X.K (av H1 j) dct fl->Ld X aa σ1 H1 s1 e C T dct c2->Hd (X.pls b) H1 c2->Iz fr X B A H D (k env' c fl)->wpAny (model X.prog X.w) X.A (handleBy (.ref e) X.env (h₀::hs)) (SP X aa D) X.xe s1)
  (i:X.stack=X.env::X.outer/\X.env.frame=some X.env.locals):Dl fr X (.Try body (h₀::hs) [] [] pos) (NL g k):=by
 intro aa s σ H D I ⟨env,B,A,kk,l,q⟩;refine wpAny_Try_except (BF (hb (X.pn++aa) _ [] s σ H D I.toTry.pls ⟨env,B,A,kk,l,?_⟩) (λf s₁ hs=>?_) (λe s₁ hx=>hx))
 .unfold NL at q
  cases eg:g env with
  | next e'=>rw[eg] at q;exact q
  | brk e'=>rw[eg] at q;exact q
  | cont e'=>rw[eg] at q;exact q
  | ret d=>rw[eg] at q;exact q
  | no=>rw[eg] at q;exact q
  | exc env' c fl =>
   rw[eg] at q;intro j H1 σ1 h k1 pins' s1 e C dct I1 af x Q ac;have n:F' X aa σ1 H1 s1:=I1.unpls.ofTry I.ok;have aj:X.A.frames=some (X.env::X.outer):=by rw[<- i.1];exact n.ok.frames
   have hl:s1.heap.FunFrames X.base (X.env::X.outer):=by rw[<- i.1];exact n.stack
   have r:X.base.get? e=none:=n.noBase x.lo;have M:∀ {a:A2},(∀ p∈(X.pn++aa)++pins',p.1≠a)->∀ p∈X.pn++aa,p.1≠a:=λ{a} z p hp=>z p (BZ _ hp)
   have after:∀ (h2:H3) (T':A2) (c2:C1 A1) (ch:Z A2),Hd (X.pls b) H1 c2->s1.heap.objs.size<=T'->X.base.StaysIn h2->h2.FunFrames X.base (X.env::X.outer)->L9 h2 X.base e T' (.ref C,c2) dct .none->X0 (X.env::X.outer) ch s1.heap h2->(∀ b∈ch,H1 b=none/\X.s₀.heap.objs.size<=b/\(∃ o vs,s1.heap.get? b=some o/\o.data=.fields vs)/\∀ p∈X.pn++aa,p.1≠b)->wpAny (model X.prog X.w) X.A (handleBy (.ref e) X.env (h₀::hs)) (SP X aa D) X.xe { s1 with heap:=h2 }:=λh2 T' c2 ch t P W ah ai kp S =>
    hh aa D B A H env' c fl j H1 σ1 _ e C T' dct c2 h k1 l af Q ⟨n.kpx i.1 kp S,W,ah,ai,x.lo,x.un,M x.pe,BA n.sz P,n.hok.fresh P,λp hp z=>by
     have:=(n.pin p hp).1;rw[z] at this;exact absurd (AQ this) (EQ.mpr P)⟩ t q
   show wpAny _ _ _ _ _ _;rcases x.ob with⟨o,vs,he,hc,hd,ak,h1,ag⟩ | ⟨T0,c2,hT,m,al,ht,ag⟩
   .refine Sc aj hl i.2 he n.bk r ak h1 λh' T' J x1 Y x3 y R=>?_
    refine Cj (s:={ s1 with heap:=h' }) x1 Y x3 λh2 y1 y2 y3 F y5=>?_
    rw[hc,hd] at y3;refine after h2 T' _ [e] ag J y1 y2 y3 (He y J F) λb hb=>?_
    rw[AJ.mp hb];exact⟨x.un,x.lo,⟨_,_,he,ak⟩,M x.pe⟩
   .refine UA aj hl i.2 ht n.bk r λh' T' J x1 Y x3 y R=>?_
    refine Cj (s:={ s1 with heap:=h' }) x1 Y x3 λh2 y1 y2 y3 F y5=>?_
    refine after h2 T' _ [e,T0] ag J y1 y2 y3 (He y J F) λb hb=>?_
    obtain⟨oe,ve,N,ts,g1,g2,g3,g4,g5,g6,g7,g8,g9,ae⟩:=id ht;rcases BK.mp hb with z | z
    .rw[z];exact⟨x.un,x.lo,⟨_,_,g1,g4⟩,M x.pe⟩
    .rw[AJ.mp z];exact⟨m,hT,⟨_,_,g8,g9⟩,M al⟩
 .cases f with
  | next=>obtain⟨σ',H',G,q'⟩:=hs;exact AI ⟨σ',H',G.unpls.ofTry I.ok,q'⟩
  | brk=>obtain⟨σ',H',G,q'⟩:=hs;exact⟨σ',H',G.unpls.ofTry I.ok,q'⟩
  | cont=>obtain⟨σ',H',G,q'⟩:=hs;exact⟨σ',H',G.unpls.ofTry I.ok,q'⟩
  | ret u=>obtain⟨v,σ',H',G,r',q'⟩:=hs;exact⟨v,σ',H',G.unpls.ofTry I.ok,r',q'⟩
end
section
variable{X:Cx}{h:Ev->Fl}{suite:Z Df}{T n:Str}{sub:Str->Bool}{DT:A2}
end
section
variable{X:Cx}
end
end L2
variable{ia s0:Nat}{v o2:PySem.Expr}{h g1 g2:L2.Ev->L2.Fl}{sl:Array (C1 PySem.Value)}{fo:L2.Zzu}{p1 p3 p4 p5:PySem.Pos}{rs:Z (Nat×Nat)}{nm:PySem.Str}{Fm:Z L2.Dat->L2.Rs}
namespace L2
open PySem
end L2
namespace L2
open PySem PySem.Spec PyProof.Rows
section
variable{R:Result->A4->Prop}{I:A2}{G:Array GenState->Array GenState->Prop}{n:Nat}{Pv:Nat->A1->Prop}{St:Nat->A4->Prop}
end
end L2
namespace PySem
namespace F
end F
end PySem
namespace L2
open PySem PySem.Spec PyProof.Rows
end L2
namespace PySem.F
end PySem.F
namespace L2
open PySem PySem.Spec PyProof.Rows
end L2
namespace Sq
open PySem PyProof PyProof.Rows
section
variable{a₀:Array Keyed}{p:Array (Nat×Nat×Nat)}
end
section
variable{r:Int->Int->Prop}{a b ay:Z Keyed}{ib:Nat}
end
section
variable{a b:Array Keyed}{n0:Nat}
end
section
variable{a₀:Array Keyed}
end
end Sq
variable{aC:PySem.Pos}
namespace L2
open PySem PySem.Spec PyProof.Rows
section
variable{X:Cx}
end
end L2
set_option maxHeartbeats 4000000
namespace L2
open PySem PySem.Spec PyProof.Rows
section
variable{X:Cx}
theorem cQ{t b:A2}{vs ws:Z A1}{Q:KN}(ht:IsTup s.heap t vs.toArray)(hb:IsTup s.heap b ws.toArray)(hv:vs=[])(h0:Q (.ref b) s):wpAny (model P w) A (binaryOp .Add (.ref t) (.ref b)) Q E s:=by
 obtain⟨⟨cls,dd,data,sl⟩,ho,hc,n,hd⟩:=id ht;obtain⟨⟨c,a,data2,x⟩,aa,M,n2,g⟩:=id hb;simp only at hc hd M g;subst hc hd M g;exact KH ⟨_,ho,rfl⟩ ⟨_,aa,rfl⟩ JF KA HD GV (GO _ _)
  (tuple_addW0 t b vs.toArray ws.toArray n n2 dd a sl x (by simp[hv])) ⟨ho,aa,h0⟩
theorem Pk.tupR{A:AS}{v:V}(h:Pk K A H (.tup ds) v):Rp K (av H A) (.tup ds) v:=by
 rcases h with h | ⟨a,vs,ds,e1,e2,e3,e4⟩ | ⟨_,_,_,e1,_⟩ | ⟨_,_,e1,_⟩
 .exact h
 .cases e1
 .cases e1
 .cases e1
noncomputable def A0:Dat->Dat->C1 Dat
 | .tup xs,.tup ys=>if xs.length+ys.length<=sizeLine then some (.tup (xs++ys)) else none
 | _,_=>none
theorem Ai:S6 X (binaryOp .Add) A0:=λaa s σ H x y v u Q I S m M=>by
 obtain⟨A,a,b,d,mu,e,p1,p2,q⟩:=M;unfold A0 at e;split at e
 .rename_i xs ys
  split at e
  .rename_i hz
   cases e;obtain⟨l1,vs,e1,h1,r1⟩:=p1.tup;obtain⟨l2,us,e2,h2,r2⟩:=p2.tup;have W:=Y6 r1;have z2:=Y6 r2;have w1:=p1.tupR;have w2:=p2.tupR;by_cases hx:xs=[]
   .subst hx e1 e2
    cases S;cases m;obtain⟨its,y1,g1,_⟩:=I.tuple h1;obtain⟨c,y2,g2,_⟩:=I.tuple h2;have hn:its=[]:=by
     have:=y1.length;rw[W] at this;exact EO.mp this.symm
    refine cQ g1 g2 hn ⟨.ref l2,H,I,rfl,?_⟩;exact q.here w2
   .refine fG aa s σ H x y v u Q I S m ⟨l1,l2,vs,us,e1,e2,h1,h2,lF r1 (by simpa using hx),by lia,λhy=>?_,λhy=>?_⟩
    .have:ys=[]:=by subst hy;exact EO.mp z2.symm
     subst this;rw[FJ] at q;rw[e1] at w1;exact q.here w1
    .exact q.tup mu (by rw[AN];exact hz) (V3 r1 r2)
  .cases e
 .cases e
end
end L2
namespace L2
open PySem PySem.Spec PyProof.Rows PySem.W
section
variable{X:Cx}{suite:Z Df}{T n tx:Str}{sub:Str->Bool}{sb:Str->C1 Bool}
end
section
variable{K:Frag}
end
section
variable{X:Cx}
end
section
variable{X:Cx}{vs:Z C3}{r:Ev->Str->C1 Str}
end
end L2
namespace L2
open PySem PySem.Spec PyProof.Rows PySem.W PySem.Builtin PySem.Builtin.Str
section
variable{X:Cx}
end
end L2
namespace L2
open PySem PySem.Spec PyProof.Rows PySem.W
noncomputable def UI:Ev->Fl:=λ_=>.no
theorem WB{X:Cx}{st:Df}:Dl fr X st UI:=λaa s σ H D I ⟨env,B,A,k,l,q⟩=>q.elim
section
variable{X:Cx}{n:Nat}{c:Str}
theorem ee(M:KY X.prog X.w X.K X.mg X.base k c n G)(hr:I' (k+1) X.A)(hc:X.calm=true)(hg:Gl X c:=by rfl)(g:C2 c:=by decide)
  : Dl fr X (.Raise (some (.Call (.Name c p) [] [] ak)) none pos) (U9 c G Zb):=by
 intro aa s σ H D I ⟨env,B,A,kk,l,q⟩;obtain⟨C,fI,D',fd,ps,af,hm,a,hx,xc,ai,F,hb⟩:=M.ex;unfold U9 at q;split at q
 .exact q.elim
 rename_i fl P;obtain⟨ds,e1,hG⟩:=bind_some P;obtain⟨nm,qn,N,bs,sn,sub,ab,col,dd,k0,k1,k2,k3,k5,mN,R,hN,hi,T⟩:=Nx I.kIn hx;have ah:wpAny (model X.prog X.w) X.A (eval (.Call (.Name c p) [] [] ak) X.env) (λv s'=>∃ ex t dct,v=.ref ex/\(∃ o,s'.heap.get? C=some o)/\s'.heap.get? ex=some { cls:=.ref C,dict:=dct,data:=.fields #[.ref t,.none,.none,.none,.bool false,.none] }/\X.K.In s'.heap/\X.xe (.ref ex) s') X.xe s:=by
  refine CV (Uk I hg hm ?_ g);refine callWith_K0 I.kIn a ?_;cases e1;exact Xr M hr I kk .nil Vt hG af hx ai F hb λH' σ' _ j k2=>q A H' σ (I3.same j) k2
 rw[JT];refine AA (CY (L7 (C:=C) (nm:=nm) (q:=qn) (N:=N) (bs:=bs) (bm:=.ref D'::Jw) (hdct:=true) (sn:=sn) (sub:=sub) (ab:=ab) (col:=col) (dd:=dd) (k0:=k0) (k1:=k1) (k2:=k2) (k3:=k3) (k5:=k5) (newId:="ValueError.__new__") (by simp[Jw]) (I.ok.hd hc) (AA (BF ah (λv s₃ h₃=>AA (CY (AI ?_))) λ_ _ x=>x))));obtain⟨ex,t,dct,rfl,_,hex,hK,b⟩:=h₃;obtain⟨o,lk⟩:∃ o,X.K.lookup C=some o:=by
  unfold Ri at hx;split at hx
  .rename_i ho;exact⟨_,ho⟩
  .cases hx
 have e2:=(I.kIn _ _ lk).symm.trans R;cases e2;exact⟨ex,.ref t,dct,rfl,hK _ _ lk,hex,b⟩
end
noncomputable def gZ:Z Dat->C1 (Z (Str×XD))
 | []=>some []
 | _=>none
theorem bQ:∀ ds fl,gZ ds=some fl->ds.length=0:=λds fl h=>by
 unfold gZ at h;split at h
 .rfl
 .cases h
section
variable{K:Frag}
theorem cT{st:Df}{D:A2}{z:Str}(F:LM K "__init__" ah st fI fd)(S:FnScope ["self"] ["self"] (Z9 st))(hx:Ri K C aA D=true)
  (hb:∀ (ai:A1) (A:C0) (outer:Z I0) (s:A4) (H:Hp) (E:XK),I' k (A.deeper (envOfC ah (Z9 st) s.heap.objs.size fI ai)) ->
   Dq (Qf Ec P w K mg base ["self"] ah (Z9 st) fI ai A outer s H E).nox (Yn st) (RJ (QQ K (E8 (Im 0) (E8 (tC (.str z)) OD))))) :
  KO P w K mg base Ec (k+1) fI fd ["self"] (MX K C 0 gZ):=by
 refine F.ok S (λvs H Q E zz=>by obtain⟨e,ws,ds,R,fl,ev,hl,_⟩:=zz;rw[ev,BJ,hl];rfl) λai A outer s H vs Q E hr zz=>⟨_,hb ai A outer s H E hr,?_⟩;obtain⟨e,ws,ds,R,fl,ev,hl,he,mu,re,rs,hG,q⟩:=zz
 subst ev;have W:ws=[]:=EO.mp hl;subst W;have p:ds=[]:=EO.mp (bQ ds fl hG);subst p;cases hG;exact⟨.ref e,rfl,e,C,none,.str z,aA,D,rfl,he,hx,q H none (λ_ _ _ h=>h) he rfl gG⟩
end
section
variable{X:Cx}
noncomputable def UP(K:Frag)(ta tv:TE)(f:Str):TS:=λD σ H=>tv σ H λy H1=>ta σ H1 λx H2=>∃ a C dx j fI D',x=.ref a/\H2 a=some (.ext (Ez a C (some dx)))/\H2 dx=some (.xd j)/\j.length<=100/\j.lookup f=none/\Ri K C fI D'=true/\KW K C/\findIn K (.ref C) f=some none /\
 D.nx σ (W5 H2 dx (.xd (j++[(f,y)])))
theorem Lb(f g:Str)(y:β):∀ (l:Z (Str×β)),(l++[(f,y)]).lookup g=match l.lookup g with | some v=>some v | none=>if g=f then some y else none
 | []=>by
   by_cases e:g=f
   · subst e;simp[List.lookup]
   · have e':(g==f)=false:=by simpa using e
     simp[List.lookup,e',e]
 | (h,z)::l=>by
   rw[List.cons_append,EF,EF];cases hh:(g==h) with
   | true=>rfl
   | false=>exact Lb f g y l
theorem P6{z:Str}{v:β}:∀ {l:Z (Str×β)},l.lookup z=some v->z∈l.map (·.1)
 | [],h=>by simp at h
 | (k,w)::l,h=>by
   rw[EF] at h;cases hh:(z==k) with
   | true=>rw[DI.mp hh];simp
   | false=>rw[hh] at h;exact BB _ (P6 h)
theorem XV{o:C3}{f:Str}(ha:PE X o ta)(hv:PE X ao tv)(hs:swapsWith ao (some (.Attribute o f al)) pos.line X.env=pure false:=by rfl):PS X (.Assign [.Attribute o f al] ao pos) (UP X.K ta tv f):=by
 intro aa s σ H D I h;refine plainObj_wpAny_Assign_Attribute (Ws (hv aa s σ H _ I h) λu s1 ⟨y,H1,I1,m,q⟩=>Ws (ha aa s1 σ H1 _ I1 q) λE s2 zz=>?_) hs;obtain⟨x,H2,I2,S,a,C,dx,j,fI,D',ex,ea,p,B,t,hc,xc,hf,q2⟩:=zz;subst ex;obtain rfl:E=Value.ref a:=S;obtain⟨⟨t0,P⟩,_,_⟩:=(show We X.prog X.w H2 s2.heap a (.ext (Ez a C (some dx))) from I2.hok a _ ea);obtain⟨mA,af,A⟩:=(show We X.prog X.w H2 s2.heap dx (.xd j) from I2.hok dx _ p);obtain⟨cd,ae,Y,a',b',hm⟩:=xc.cd;obtain⟨oC,F,R,i,r⟩:=xc.ld I2.kIn;have Q:=af;obtain⟨od,es,ep,T,hcod⟩:=af;have N:InstAt s2.heap a { cls:=.ref C,dict:=some dx,data:=.fields #[.ref t0,.none,.none,.none,.bool false,.none] } C (some od):=⟨P,rfl,rfl,T⟩;refine set_plain I2.kIn N xc.sa ?_;refine bM (s:={ s2 with toks:=s2.toks+1 }) I2.kIn N ae hm hf ?_;obtain⟨hh,g,d,tk,os⟩:=s2;have J:Within mA (j.map (·.1)):=λz hz=>by
  have:=A z;cases e:j.lookup z with
  | none =>
   rw[e] at this;cases e2:mA z with
   | none=>exact absurd e2 hz
   | some v=>rw[e2] at this;exact this.elim
  | some v=>exact P6 e
 refine kL P rfl rfl Q J (by rw[AF];lia) R i r λh' k G hk hsz=>?_
 have nd:∀ {b:A2} {o:HO},H2 b=some o->(∀ l,o≠.xd l)->b≠dx:=λ{b o} q n z=>by rw[z,p] at q;cases q;exact n _ rfl
 have n0:∀ {b:A2},H2 b=none->b≠dx:=λ{b} q z=>by rw[z,p] at q;cases q
 have un:Un X.fs [] H2 (W5 H2 dx (.xd (j++[(f,y)]))) hh h':=by
  refine⟨λb o q n _ _=>hk b o (n0 n) q,λb o q n _ _=>⟨o.slots,hk b o (n0 n) q⟩,λb o q n _=>by rw[Zh (n0 n)];exact n,λb o q _=>?_,λb xs q=>by rw[Zh (nd q (λ_ z=>by cases z))];exact q,λb o u q=>by rw[Zh (nd q (λ_ z=>by cases z))];exact q,λb ps q=>⟨#[],by rw[Zh (nd q (λ_ z=>by cases z))];simpa using q⟩⟩;by_cases z:b=dx
  .subst z
   obtain⟨od2,_,_,h2,_⟩:=G;exact⟨_,h2⟩
  .exact⟨_,hk b o z q⟩
 have hok:Mx X.prog X.w (W5 H2 dx (.xd (j++[(f,y)]))) h':=by
  intro b o q;by_cases z2:b=dx
  .subst z2
   rw[Zp] at q;cases q;refine⟨_,G,λg=>?_⟩;show Om (List.lookup g (j++[(f,y)])) (if g=f then some u else mA g);rw[Lb];by_cases e:g=f
   .subst e
    rw[t];simp[Om];exact m
   .have:=A g
    cases e3:j.lookup g with
    | none=>rw[e3] at this;simpa[e] using this
    | some v=>rw[e3] at this;simpa[e] using this
  .rw[Zh z2] at q
   refine(I2.hok b o q).stay (λc v z w=>hk c v (λM=>?_) w) (λc w=>?_) λc xs w=>?_
   .rcases z with z | z
    .exact z2 (z.symm.trans M)
    .rw[M,p] at z;cases z
   .rw[Zh (λM=>by rw[M,p] at w;cases w)];exact w
   .rw[Zh (λM=>by rw[M,p] at w;cases w)];exact w
 exact⟨σ,_,I2.un (h':=h') (t':=k) un hok,q2⟩
end
variable{f1 f2 f3:Str}{E:XK}{env:I0}{e:A2}
noncomputable def L1(i:Int):Bool:=decide (0<=i)&&decide (i<1000)
theorem Fe{i:Int}(h:L1 i=true):0<=i/\i<1000:=by
 unfold L1 at h;rw[AW] at h;exact⟨AT h.1,AT h.2⟩
noncomputable def gC(f1 f2 f3:Str):Z Dat->C1 (Z (Str×XD))
 | [.lst xs,.int i,.int j]=>(Js xs).bind λns=>if(R6 ns&&L1 i&&L1 j)=true then some [(f1,.nums ns),(f2,.int i),(f3,.int j)] else none
 | _=>none
section
variable{K:Frag}
theorem ll{x1 Y x3:Str}{st:Df}{D:A2}(F:LM K "__init__" ah st fI fd)(S:FnScope ["self",x1,Y,x3] ["self",x1,Y,x3] (Z9 st))(hx:Ri K C aA D=true)(xc:KW K C)(h1:findIn K (.ref C) f1=some none)(h2:findIn K (.ref C) f2=some none)(h3:findIn K (.ref C) f3=some none)
  (W:f1≠f2) (aa:f1≠f3) (ac:f2≠f3)
  (hb:∀ (ai:A1) (A:C0) (outer:Z I0) (s:A4) (H:Hp) (E:XK),I' k (A.deeper (envOfC ah (Z9 st) s.heap.objs.size fI ai)) ->
   Dq (Qf Ec P w K mg base ["self",x1,Y,x3] ah (Z9 st) fI ai A outer s H E).nox (Yn st) (NW (RJ (QQ K (E8 (Im 0) (E8 (B1 r) OD)))) (NW (TR K (Im 0) (R' (VA K) (E8 (Im 1) OD)) f1) (NW (UP K (Im 0) (Im 2) f2) (UP K (Im 0) (Im 3) f3)))))
  (hj:∀ (H:Hp) (e a:A2) (ns:Z Int) (i j:Int),SL K H a (ns.map V.int)->K5 ns->0<=i->i<1000->0<=j->j<1000->NV 0 [some (.ref e),some (.ref a),some (.int i),some (.int j)] H r) :
  KO P w K mg base Ec (k+1) fI fd ["self",x1,Y,x3] (MX K C 3 (gC f1 f2 f3)):=by
 refine F.ok S (λvs H Q E zz=>by obtain⟨e,ws,ds,R,fl,ev,hl,_⟩:=zz;rw[ev,BJ,hl];rfl) λai A outer s H vs Q E hr zz=>⟨_,hb ai A outer s H E hr,?_⟩;obtain⟨e,ws,ds,R,fl,ev,hl,he,mu,re,rs,hG,q⟩:=zz
 subst ev;unfold gC at hG;split at hG
 .rename_i xs i j
  obtain⟨ns,hn,hG⟩:=bind_some hG;split at hG
  .rename_i hs
   cases hG;rw[AW,AW] at hs;obtain⟨⟨hs,hi⟩,X⟩:=hs;have hs:=F9 hs;obtain⟨x,I⟩:=Fe hi;obtain⟨aB,ag⟩:=Fe X;obtain⟨v,r',e1,r1,r2⟩:=Y0 rs;obtain⟨v2,r'',e2,f,t⟩:=Y0 r2;obtain⟨v3,r''',e3,r5,r6⟩:=Y0 t;have e4:=Ym r6;have e5:=M5 f;have T:=M5 r5;subst e1 e2 e3 e4 e5 T;obtain⟨a,us,e3,hS,M⟩:=Su r1;rw[Mh hn] at M;have e4:=U0 M;subst e3 e4;have d:SL K H a (ns.map V.int):=Wg.sl hS;show NW _ _ _ [some (.ref e),some (.ref a),some (.int i),some (.int j)] H;refine⟨.ref e,rfl,?_⟩;refine hj H e a ns i j d hs x I aB ag Str.empty _ (by decide) λz=>?_
   refine⟨e,C,none,.str z,aA,D,rfl,he,hx,?_⟩;refine⟨.ref a,rfl,a,ns.map V.int,rfl,.inl d.sq,λl n=>?_⟩;have B:l≠e:=λz=>by rw[z,he] at n;cases n
   refine⟨.ref e,rfl,e,C,none,aA,D,rfl,by rw[Zh (AR B)];exact he,hx,xc,h1,λdx m p=>?_⟩;have u:dx≠l:=λz=>by rw[z,Zp] at m;cases m
   have J:H dx=none:=by rw[Zh u] at m;exact m
   have N:∀ {b:A2},H b=none->R b=false:=λ{b} z=>by
    cases y:R b with
    | false=>rfl
    | true=>obtain⟨o,ho⟩:=(mu b y).some;rw[z] at ho;cases ho
   have u2:∀ (G:Hp) (o o':HO),W5 (W5 G dx o) dx o'=W5 G dx o':=λG o o'=>by funext b;unfold W5;split<;>rfl
   have a1:(f2==f1)=false:=by simpa using AR W
   have a2:(f3==f1)=false:=by simpa using AR aa
   have a3:(f3==f2)=false:=by simpa using AR ac
   have ae:List.lookup f2 [(f1,V.ref l)]=none:=by simp[List.lookup,a1]
   have af:List.lookup f3 [(f1,V.ref l),(f2,V.int i)]=none:=by simp[List.lookup,a2,a3]
   refine⟨.int i,rfl,.ref e,rfl,e,C,dx,[(f1,.ref l)],aA,D,rfl,by rw[Zh (AR p),Zp],Zp,by simp,ae,hx,xc,h2,?_⟩;refine⟨.int j,rfl,.ref e,rfl,e,C,dx,[(f1,.ref l),(f2,.int i)],aA,D,rfl,by rw[Zh (AR p),Zh (AR p),Zp],Zp,by simp,af,hx,xc,h3,?_⟩;rw[u2,u2];refine q _ (some dx) (λc o hc h=>?_) ?_ ?_ (bg J Zp λg a hm=>by simp at hm;obtain⟨_,rfl⟩:=hm;exact⟨n,_,by rw[Zh (AR u),Zh B,Zp]⟩)
   .have c1:c≠dx:=λz=>by rw[z,J] at h;cases h
    have c2:c≠l:=λz=>by rw[z,n] at h;cases h
    rw[Zh c1,Zh hc,Zh c2];exact h
   .rw[Zh (AR p),Zp]
   .refine⟨[(f1,.ref l),(f2,.int i),(f3,.int j)],V7 Zp (N J),λg=>?_⟩
    by_cases g1:g=f1
    .subst g1
     refine .inr ⟨.nums ns,.ref l,by simp[List.lookup],by simp[List.lookup],l,rfl,.inl (.inl (V7 ?_ (N n))),?_⟩
     .rw[Zh (AR u),Zh B,Zp]
     .exact EJ (Tq (by have:=hs.1;lia))
    have b1:(g==f1)=false:=by simpa using g1
    by_cases g2:g=f2
    .subst g2
     exact .inr ⟨.int i,.int i,by simp[List.lookup,b1],by simp[List.lookup,b1],rfl⟩
    have b2:(g==f2)=false:=by simpa using g2
    by_cases g3:g=f3
    .subst g3
     exact .inr ⟨.int j,.int j,by simp[List.lookup,b1,b2],by simp[List.lookup,b1,b2],rfl⟩
    have b3:(g==f3)=false:=by simpa using g3
    exact .inl ⟨by simp[List.lookup,b1,b2,b3],by simp[List.lookup,b1,b2,b3]⟩
  .cases hG
 .cases hG
end
theorem b7{f:Str}:∀ ds fl,gW f ds=some fl->ds.length=1:=λds fl h=>by
 unfold gW at h;split at h
 .rfl
 .cases h
theorem k4:∀ ds fl,gC f1 f2 f3 ds=some fl->ds.length=3:=λds fl h=>by
 unfold gC at h;split at h
 .rfl
 .cases h
theorem ed{D:A2}(q:Ri K C fI D=true)(cl:PySem.W.findIn K (.ref C) "__class__" = some (some (.builtin "object.__class__")))(ga:PySem.W.findIn K (.ref C) "__getattribute__" = some (some (.builtin "BaseException.__getattribute__")))(gh:PySem.W.findIn K (.ref C) "__getattr__" = some none)(sa:PySem.W.findIn K (.ref C) "__setattr__" = some (some (.builtin "object.__setattr__"))):KW K C:=by
 refine⟨?_,cl,ga,gh,sa⟩;unfold Ri at q;split at q
 .rename_i dd cd sl ho
  split at q
  .rename_i i bm k0 k1 k2 k3 n k5 hm hs
   simp only[AW,DI,HB] at q;obtain⟨⟨⟨⟨⟨⟨⟨e1,_⟩,_⟩,a⟩,e2⟩,_⟩,_⟩,_⟩:=q;exact⟨cd,by unfold PySem.W.clsIn;rw[ho],a,i,D,by rw[hm,e2]⟩
  .cases q
 .cases q
section
variable{M:Model}{E:KN}
theorem Xt(hf:env.frame=some Lq_)(ht:L9 s.heap base e T cls dct (rawInt Lq_))(h:Q () s):wpAny M A (noteFrame (.ref e) env) Q E s:=by
 obtain⟨oe,vs,N,ts,he,B,hdct,hd,h1,j,i,hT,g,h3⟩:=ht;unfold noteFrame;simp only[hf];refine AA (BW he hd h1 ?_);rw[AH (show(Value.ref T != Value.none)=true from by simp)];refine AA (BW hT g h3 ?_);rw[AH (show((rawInt Lq_==rawInt Lq_)=true) from by simp)];exact AI h
theorem SH{fl:A1}{fr:C1 A2} 
  (d:base.StaysIn s.heap) (hl:s.heap.FunFrames base l) (ht:L9 s.heap base e T cls dct fl)
  (h:∀ h',base.StaysIn h'->h'.FunFrames base l->L9 h' base e T cls dct (fr.elim Value.none λf=>rawInt f)->(∀ b o,s.heap.get? b=some o->b∉[T]->h'.get? b=some o)->h'.objs.size=s.heap.objs.size->Q () { s with heap:=h' }) :
  wpAny M A (setFlight (.ref e) fr) Q E s:=by
 obtain⟨oe,vs,N,ts,he,B,hdct,hd,h1,j,i,hT,g,h3⟩:=ht;have k:3<ts.size:=(DW.mp h3).1;have other:∀ b,b≠T->(s.heap.update T (Obj.mapFields (·.setIfInBounds 3 (fr.elim Value.none λf=>rawInt f)))).get? b=s.heap.get? b :=
  λb hb=>BE _ _ (AR hb)
 have a:∀ b o,s.heap.get? b=some o->(∀ vs,o.data≠.fields vs)->b≠T:=λb o hb t q=>by
  rw[q,hT] at hb;injection hb with hb;subst hb;exact t ts g
 unfold setFlight;refine AA (BW he hd h1 ?_);rw[AH (show(Value.ref T != Value.none)=true from by simp)];refine EB hT g k (h _ (λb o c=>(other b λq=>by rw[q,j] at c;cases c).trans (d b o c))
  (hl.of_keeps λb o hb t=>⟨o,(other b (a b o hb t)).trans hb,rfl⟩) ?_ (λb o hb t=>(other b (λz=>t (by simp[z]))).trans hb) (FM ..))
 exact⟨oe,vs,_,_,(other e (AR i)).trans he,B,hdct,hd,h1,j,i,CA _ hT (FR (EC g _)),EC g _,by simp[k]⟩
theorem jr(hf:env.frame=some Lq_)
  (d:base.StaysIn s.heap) (hl:s.heap.FunFrames base l) (ht:L9 s.heap base e T cls dct (rawInt Lq_))
  (h:∀ h',base.StaysIn h'->h'.FunFrames base l->L9 h' base e T cls dct .none->X0 l [T] s.heap h'->Q () { s with heap:=h' }):wpAny M A (leaving env (.ref e)) Q E s:=by
 unfold leaving;refine AA (Xt hf ht ?_);exact SH (fr:=none) d hl ht λh' y1 y2 y3 F y5=>h h' y1 y2 y3 (X0.of λb o hb hc=>F b o hb hc)
theorem cv(hf:env.frame=some Lq_)
  (d:base.StaysIn s.heap) (hl:s.heap.FunFrames base l) (ht:L9 s.heap base e T cls dct (rawInt Lq_))
  (h:∀ h',base.StaysIn h'->h'.FunFrames base l->L9 h' base e T cls dct (rawInt Lq_)->X0 l [T] s.heap h'->E' (.ref e) { s with heap:=h' }):notedBy M A' env (cameBackBy M A env E') (.ref e) s:=by
 refine Xt (A:=A') (E:=cameBackBy M A env E') hf ht ?_;obtain⟨oe,vs,N,ts,he,B,hdct,hd,h1,j,i,hT,g,h3⟩:=id ht;refine AA (BW he hd h1 ?_);rw[AM (show ¬ (Value.ref T==Value.none)=true from by simp)];rw[hf];exact SH (fr:=some Lq_) d hl ht λh' y1 y2 y3 F y5=>h h' y1 y2 y3 (X0.of λb o hb hc=>F b o hb hc)
theorem YW(hf:env.frame=some Lq_)
  (d:base.StaysIn s.heap) (hl:s.heap.FunFrames base l) (ht:L9 s.heap base e T cls dct (rawInt Lq_))
  (h:∀ h',base.StaysIn h'->h'.FunFrames base l->L9 h' base e T cls dct (rawInt Lq_)->(∀ b o,s.heap.get? b=some o->b∉[T]->h'.get? b=some o)->E' (.ref e) { s with heap:=h' }):cameBackBy M A env E' (.ref e) s:=by
 obtain⟨oe,vs,N,ts,he,B,hdct,hd,h1,j,i,hT,g,h3⟩:=id ht;refine AA (BW he hd h1 ?_);rw[AM (show ¬ (Value.ref T==Value.none)=true from by simp)];rw[hf];exact SH (fr:=some Lq_) d hl ht λh' y1 y2 y3 F y5=>h h' y1 y2 y3 F
end
noncomputable def Ca(X:Cx)(E:XK):A1->A4->Prop:=λv s=>∃ (e C:A2) (dct:C1 A2) (aa:KL) (σ:St) (H:Hp),v=.ref e/\F' X aa σ H s/\X.s₀.heap.objs.size<=e/\H e=none/\(∀ p∈X.pn++aa,p.1≠e) /\
 ((∃ o vs,s.heap.get? e=some o/\o.cls=.ref C/\o.dict=dct/\o.data=.fields vs/\vs[1]?=some .none/\Hd X H vs[2]?)\/∃ T fl c2,X.s₀.heap.objs.size<=T/\H T=none/\(∀ p∈X.pn++aa,p.1≠T)/\L9 s.heap X.base e T (.ref C,c2) dct fl/\(fl=.none\/fl=rawInt X.env.locals)/\Hd X H c2)/\X3 X.H₀ H dct/\E (.ref C) dct H
theorem QI.lie{X:Cx}(I:F' X aa σ H s)(x:QI X aa H s.heap e C dct)(ac:X3 X.H₀ H dct)(q:E (.ref C) dct H):Ca X E (.ref e) s :=
 ⟨e,C,dct,aa,σ,H,rfl,I,x.lo,x.un,x.pe,x.ob.imp id λzz=>by obtain⟨T,c2,h1,h2,h3,h4,F⟩:=zz;exact⟨T,.none,c2,h1,h2,h3,h4,.inl rfl,F⟩,ac,q⟩
theorem bf{X:Cx}(hA:A'.frames=X.A.frames)(i:X.stack=X.env::X.outer/\X.env.frame=some X.env.locals):PassesOwnAt (model X.prog X.w) A' X.A X.env (Ca X E):=by
 rintro ev s1 ⟨e,C,dct,aa,σ,H,rfl,n,lo,un,pe,ob,ac,q⟩;have aj:A'.frames=some (X.env::X.outer):=by rw[hA,<- i.1];exact n.ok.frames
 have hl:s1.heap.FunFrames X.base (X.env::X.outer):=by rw[<- i.1];exact n.stack
 have d:X.base.StaysIn s1.heap:=n.bk;have r:X.base.get? e=none:=n.noBase lo;have J:∀ b∈Dt (X.env::X.outer),H b=none:=by rw[<- i.1];exact n.stkFree
 have nloc:∀ {a:A2} {o:Obj} {vs:Array A1},s1.heap.get? a=some o->o.data=.fields vs->a≠X.env.locals/\∀ y c,X.env.cells.lookup y=some c->c≠a:=λ{a o vs} ho hd=>by
  refine⟨λz=>?_,λy c hc z=>?_⟩
  .obtain⟨m,⟨o',es,ep,f,Q,_⟩,_⟩:=n.loc
   rw[z,f] at ho;cases ho;rw[hd] at Q;cases Q
  .obtain⟨v,o',f,Q⟩:=n.cell y c hc
   rw[z,ho] at f;cases f;rw[hd] at Q;cases Q
 have after:∀ (h2:H3) (T':A2) (c2:C1 A1) (ch:Z A2),Hd X H c2->(X.s₀.heap.objs.size<=T'/\H T'=none/\∀ p∈X.pn++aa,p.1≠T')->L9 h2 X.base e T' (.ref C,c2) dct (rawInt X.env.locals)->X0 (X.env::X.outer) ch s1.heap h2->(∀ b∈ch,H b=none/\X.s₀.heap.objs.size<=b/\b≠X.env.locals/\(∀ y c,X.env.cells.lookup y=some c->c≠b)/\∀ p∈X.pn++aa,p.1≠b)->Ca X E (.ref e) { s1 with heap:=h2 }:=λh2 T' c2 ch t hT tr kp S=>by
  have J2:F' X aa σ H { s1 with heap:=h2 }:=n.call' (s':={ s1 with heap:=h2 }) (ch:=ch) rfl (by rw[i.1];exact UL kp λb hb=>(S b hb).1) (Hm n.hok kp (λb hb=>(S b hb).1) J) n.bare λb hb=>⟨.inr (S b hb).2.1,(S b hb).2.2.1,(S b hb).2.2.2.1,(S b hb).2.2.2.2⟩
  exact⟨e,C,dct,aa,σ,H,rfl,J2,lo,un,pe,.inr ⟨T',_,c2,hT.1,hT.2.1,hT.2.2,tr,.inr rfl,t⟩,ac,q⟩
 have fresh:∀ {T':A2},s1.heap.objs.size<=T'->X.s₀.heap.objs.size<=T'/\H T'=none/\∀ p∈X.pn++aa,p.1≠T':=λ{T'} h=>⟨BA n.sz h,n.hok.fresh h,λp hp z=>by
  have:=(n.pin p hp).1;rw[z] at this;exact absurd (AQ this) (EQ.mpr h)⟩
 rcases ob with⟨o,vs,he,hc,hd,ak,h1,t⟩ | ⟨T,fl,c2,g,j,k,ht,P,t⟩
 .have G:=nloc he ak
  refine Sc (E:=cameBackBy (model X.prog X.w) X.A X.env (Ca X E)) aj hl i.2 he d r ak h1 λh' T' u W z2 z3 z4 z5=>?_
  rw[hc,hd] at z3;exact YW (s:={ s1 with heap:=h' }) i.2 W z2 z3 λh2 y1 y2 y3 F=>after h2 T' _ [e] t (fresh u) y3 (He z4 u F) λb hb=>by rw[AJ.mp hb];exact⟨un,lo,G.1,G.2,pe⟩
 .obtain⟨oe,ve,N,ts,g1,g2,g3,g4,g5,g6,g7,g8,g9,ae⟩:=id ht
  have G:=nloc g1 g4;have l:=nloc g8 g9;rcases P with P | P
  .subst P
   refine UA (E:=cameBackBy (model X.prog X.w) X.A X.env (Ca X E)) aj hl i.2 ht d r λh' T' u W z2 z3 z4 z5=>?_
   refine YW (s:={ s1 with heap:=h' }) i.2 W z2 z3 λh2 y1 y2 y3 F=>after h2 T' _ [e,T] t (fresh u) y3 (He z4 u F) λb hb=>?_
   rcases BK.mp hb with e1 | e1
   .rw[e1];exact⟨un,lo,G.1,G.2,pe⟩
   .rw[AJ.mp e1];exact⟨j,g,l.1,l.2,k⟩
  .subst P
   exact cv i.2 d hl ht λh2 y1 y2 y3 kp=>after h2 T _ [T] t ⟨g,j,k⟩ y3 kp λb hb=>by rw[AJ.mp hb];exact⟨j,g,l.1,l.2,k⟩
theorem kX{X:Cx}(i:X.stack=X.env::X.outer/\X.env.frame=some X.env.locals):PassesOwn (model X.prog X.w) X.A X.env (Ca X E):=λe s h=>bf rfl i e s h
end L2
variable{l:Z (PySem.Str×PySem.Addr)}{c0:PySem.Addr}{Lq_:Nat}
namespace L2
open PySem PySem.Spec PyProof.Rows
theorem jx{N:Z Str}{f:A2}{E:XK}{e:A2} 
  (I:F' (Qf (LQ P w base) P w K mg base N ah scope f cd A outer s H E) aa σ H' s') (lo:s.heap.objs.size<=e) (un:H' e=none) (hT:s.heap.objs.size<=T) (m:H' T=none) (ht:L9 s'.heap base e T (.ref C,c2) dct (rawInt s.heap.objs.size)) (t:OR false H' c2) (ac:X3 H H' dct) (q:E (.ref C) dct H') :
  (Qf (LQ P w base) P w K mg base N ah scope f cd A outer s H E).xe (.ref e) s':=by
 have hl:s'.heap.FunFrames base (envOfC ah scope s.heap.objs.size f cd::outer):=I.stack;have d:base.StaysIn s'.heap:=I.bk;have bs:Un (Dt outer) [] H H' s.heap s'.heap:=I.base;have J:∀ b∈Dt (envOfC ah scope s.heap.objs.size f cd::outer),H' b=none:=I.stkFree;refine jr (env:=envOfC ah scope s.heap.objs.size f cd) rfl d hl ht λh' W z2 z3 kp=>?_
 have S:∀ b∈[T],H' b=none/\s.heap.objs.size<=b:=λb hb=>by rw[AJ.mp hb];exact⟨m,hT⟩
 have a:∀ {b:A2} {o:Obj},s.heap.get? b=some o->b∉[T]:=λ{b o} q z=>absurd (AQ q) (EQ.mpr (S b z).2)
 have c:∀ {b:A2} {o:Obj},s.heap.get? b=some o->b∉Dt outer->b∉Dt (envOfC ah scope s.heap.objs.size f cd::outer):=λ{b o} q n z=>by
  rcases BK.mp (I.stkSub b z) with e1 | e1
  .have:b=s.heap.objs.size:=e1
   exact absurd (AQ q) (by rw[this];exact DF _)
  .exact n e1
 refine⟨e,C,dct,T,H',c2,rfl,I.os,I.bare,⟨?_,?_,?_,?_,bs.tups,bs.frzs,bs.tbls⟩,Hm I.hok kp (λb z=>(S b z).1) J,lo,hT,un,m,z3,t,ac,q⟩
 .exactλb o q n hf hx=>(kp b o (bs.keep b o q n hf hx) (a q)).1 (c q hf)
 .intro b o q n hf hx
  obtain⟨sl,z⟩:=bs.slot b o q n hf hx;obtain⟨j,D⟩:=(kp b _ z (a q)).2;exact⟨j,D⟩
 .exactλb o q n hx=>bs.free b o q n hx
 .intro b o q hx
  obtain⟨o',z⟩:=bs.there b o q hx;obtain⟨sl,D⟩:=(kp b o' z (a q)).2;exact⟨_,D⟩
theorem lR{N:Z Str}{f:A2}{E:XK}{v:A1} 
  (h:Ca (Qf (LQ P w base) P w K mg base N ah scope f cd A outer s H E) E v s'):(Qf (LQ P w base) P w K mg base N ah scope f cd A outer s H E).xe v s':=by
 obtain⟨e,C,dct,aa,σ,H',rfl,J,lo,un,pe,ob,ac,q⟩:=h;rcases ob with⟨o,vs,a1,a2,a3,a4,a5,t⟩ | ⟨T,fl,c2,h1,h2,h3,h4,F | F,t⟩
 .exact P9 J ⟨lo,un,.inl ⟨o,vs,a1,a2,a3,a4,a5,t⟩,pe⟩ rfl ac q
 .subst F
  exact P9 J ⟨lo,un,.inr ⟨T,c2,h1,h2,h3,h4,t⟩,pe⟩ rfl ac q
 .subst F
  exact jx J lo un h1 h2 h4 (t.v (J.ok.hd rfl)) ac q
theorem Dq.wishE{X:Cx}{st:Z Df}{t:TS}(h:Dq (X.wish E) st t)(he:∀ v s,E v s->X.xe v s):Dq X st t:=λaa s σ H D I J =>
 BF (h aa s σ H D (I.wish _) J) (λ_ _ q=>q.unwish) he
noncomputable abbrev NH(P:Fn)(w:Gf)(K:J1)(mg:KP)(base:H3)(N:Z Str)(ah:Str)(scope:IA)(f:A2)(cd:A1)(A:C0)(outer:Z I0)(s:A4)(H:Hp)(E:XK):Cx :=
 (Qf (LQ P w base) P w K mg base N ah scope f cd A outer s H E).wish (Ca (Qf (LQ P w base) P w K mg base N ah scope f cd A outer s H E) E)
theorem hZ{N:Z Str}{f:A2}{E:XK}{p:Nat}{R:AS}{Q:VK}(hp:p<=N.length)(mu:Td R H)(r:Wj K (av H R) ds vs)
  (q:RO K fr R H Q E (W2 N.length p g ds)) :
  tS fr (NH P w K mg base N ah scope f cd A outer s H E) g (KR.mk (λ_ H'=>Q .non H') Q (λ_ _=>False) (λ_ _=>False)) (J' N vs) H:=by
 unfold W2 at q;split at q
 .rename_i hl
  refine⟨Vv N.length ds,⟨H,R,true⟩,R,Iu mu r (by lia),rfl,?_⟩;split at q
  .rename_i d' e
   rw[e];exactλv H' s r n=>q v H' s r n
  .rename_i env e
   rw[e];exactλA' H' σ' s k=>q .non H' k.h0 Pg (λ_=>trivial)
  .rename_i env c fs e
   rw[e];exactλA' H' σ' st k aa s' e C dct I hc x hf ac=>QI.lie (I.unwish) ⟨x.lo,x.un,x.ob,x.pe⟩ ac (q C dct H' k.h0 hc (hf.mono (Q6 k.ra)))
  .exact q.elim
 .exact q.elim
theorem UD{x:Str}{st:Df}{N:Z Str}(D:NU K mg x st)(S:FnScope N ps (Z9 st))
  (j:dV x st ps)
  (hb:∀ (f:A2) (ai:A1) (A:C0) (outer:Z I0) (s:A4) (H:Hp) (E:XK),I' k (A.deeper (envOfC x (Z9 st) s.heap.objs.size f ai))->Xc fr (NH P w K mg base N x (Z9 st) f ai A outer s H E) (Yn st) g) :
  ME P w K mg base (k+1) x ps fr (W2 N.length ps.length g):=by
 have ag:ps.length<=N.length:=by have:=DY List.length S.pre;rw[CP] at this;lia
 obtain⟨f,fd,F,hm⟩:=D.ex;refine⟨⟨f,fd,F.okX S (λvs H Q E h=>h.1) λai A outer s H vs Q E hr ⟨hl,ds,R,mu,r,q⟩=>⟨_,Dq.wishE (hb f ai A outer s H E hr) λv s' z=>lR z,?_⟩,hm,F.kp,F.binds j⟩,λds h=>F0 h⟩;exact hZ ag mu r q
theorem B2{N:Z Str}{f:A2}{E:XK} :
  PassesOwn (model P w) (NH P w K mg base N ah scope f cd A outer s H E).A (NH P w K mg base N ah scope f cd A outer s H E).env (NH P w K mg base N ah scope f cd A outer s H E).xe :=
 kX (X:=Qf (LQ P w base) P w K mg base N ah scope f cd A outer s H E) ⟨rfl,rfl⟩
section
variable{X:Cx}
noncomputable def ft:V->Z V->Hp->VK->Prop:=λx vs H Q=>∃ l xs i y,x=.ref l/\vs=[.int i,y]/\H l=some (.lst xs)/\0<=i/\i<=xs.length/\xs.length<sizeLine/\Q .non (W5 H l (.lst (xs.take i.toNat++y::xs.drop i.toNat)))
theorem Xs:∀ {vs:Z V} {us:Z A1} (n:Nat),Y5 vs us->Y5 (vs.take n) (us.take n)
 | _,_,0,_=>by simp;exact .nil
 | [],us,n+1,h=>by cases h;exact .nil
 | v::vs,us,n+1,h=>by cases h with | cons a b=>exact .cons a (Xs n b)
theorem Xo:∀ {vs:Z V} {us:Z A1} (n:Nat),Y5 vs us->Y5 (vs.drop n) (us.drop n)
 | _,_,0,h=>h
 | [],us,n+1,h=>by cases h;exact .nil
 | v::vs,us,n+1,h=>by cases h with | cons a b=>exact Xo n b
theorem lW:SM X "list.insert" ft:=by
 intro aa s σ H x vs v us Q I S rv h;obtain⟨l,xs,i,y,rfl,rfl,a,h0,h1,hz,q⟩:=h;cases S;cases rv with
 | cons r1 r2 =>
  cases r2 with
  | cons M f =>
   cases f;obtain⟨t,rfl⟩:=r1;rename_i u;obtain⟨z,its,n,r,hl,e⟩:=I.lstM a;have b:¬ (!Builtin.List.listFitsIndex i)=true:=by
    have:(sizeLine:Nat)<2^62:=by decide
    rw[fitsIndex_both (by lia) (by lia)]
    decide
   refine JX F.slot_list_insert ⟨_,e,rfl⟩ F.entry_list_insert (F.args_list_insert_3 _ _ _) (AutoSeq1.list_insert_list_int_val_1 l its.toArray n i t u b (by rw[AV];lia)) ⟨e,?_⟩;refine⟨.non,_,I.lset (its':=its.take i.toNat++u::its.drop i.toNat) a e ?_ ((Xs _ r).append (.cons M (Xo _ r))) ?_,rfl,q⟩
   .apply Array.toList_inj.mp
    have hm:(if i<0 then(i+(its.toArray.size:Int)).toNat else min i.toNat its.toArray.size)=i.toNat:=by
     rw[AM (by lia),AV,JN (by lia)]
    show((its.toArray.extract 0 (if i<0 then(i+(its.toArray.size:Int)).toNat else min i.toNat its.toArray.size)).push u++its.toArray.extract (if i<0 then(i+(its.toArray.size:Int)).toNat else min i.toNat its.toArray.size)).toList=_;rw[hm];simp[List.extract];exact CI (by rw[CQ];lia)
   .rw[AN,BJ,CP,CQ]
    lia
noncomputable def Rk:Z Dat->Z Dat->C1 (Z Dat)
 | ds,[.int i,d]=>if 0<=i/\i<=ds.length/\ds.length<sizeLine then some (ds.take i.toNat++d::ds.drop i.toNat) else none
 | _,_=>none
theorem P3:S' X "list.insert" Rk:=MZ.weak (id:="list.insert") lW λv us H Q M=>by
 obtain⟨A,a,vs,ds,as,ds',mu,e1,h1,r1,r2,e2,q⟩:=M;unfold Rk at e2;split at e2
 .rename_i i d
  split at e2
  .rename_i hl
   cases e2;obtain⟨w,h,e3,f,e4⟩:=r2;obtain⟨w2,aa,e5,r5,T⟩:=e4;have J:w=.int i:=(Rm.pk f).int;have ac:=Y6 r1;refine⟨a,vs,i,w2,e1,by rw[e3,e5,show aa=[] from T,J],h1,hl.1,by rw[ac];exact hl.2.1,by rw[ac];exact hl.2.2,q _ _ (by rw[AN,BJ,CP,CQ];lia) (V3 (Ho _ r1) (Wx r5 (H9 _ r1)))⟩
  .cases e2
 .cases e2
noncomputable def VH(c:Int):A1->Bool
 | .int z _=>z==c
 | _=>false
theorem Bt:∀ {ns:Z Int} {us:Z A1},Y5 (ns.map V.int) us->∀ (j:Nat) (h:j<us.length) (h':j<ns.length),∃ t,us[j]=.int ns[j] t
 | [],us,r,j,h,h'=>by simp at h'
 | n::ns,us,r,j,h,h'=>by
  rw[CF] at r;cases r with
  | cons r1 r2 =>
   obtain⟨t,e⟩:=r1;subst e;cases j with
   | zero=>exact⟨t,rfl⟩
   | succ j=>exact Bt r2 j (by simpa using h) (by simpa using h')
theorem js(r:Y5 (ns.map V.int) us){y:A1}(h:y∈us):∃ z t,y=.int z t:=by
 obtain⟨j,hj,rfl⟩:=List.getElem_of_mem h;have hl:=r.length;rw[AF] at hl;obtain⟨t,e⟩:=Bt r j hj (by lia);exact⟨_,t,e⟩
theorem fR:MZ X "list.index" (λx vs H Q=>∃ (p:A2) (zs:Z Int) (c:Int),x=.ref p/\vs=[.int c]/\Dc X.K H p (zs.map V.int)/\c∈zs/\Q (.int ((zs.idxOf c:Nat):Int)) H):=by
 intro aa s σ H x vs v us Q I S rs h;obtain⟨p,zs,c,rfl,rfl,hq,hm,q⟩:=h;cases S;obtain⟨R,rfl,M⟩:=Ji rs;obtain⟨u,rfl⟩:=M;obtain⟨its,r',pl,hz⟩:=I.list hq;obtain⟨⟨cls,dd,data,sl⟩,ho,hc,n,hd⟩:=pl.isList;simp only at hc hd;subst hc hd;have a:=r'.length;rw[AF] at a hz;have hj:zs.idxOf c<zs.length:=List.idxOf_lt_length_iff.mpr hm;have T:sizeLine<2^63 - 1:=by decide
 refine JX FG ⟨_,ho,rfl⟩ PySem.F.entry_list_index (PySem.F.args_list_index_2 _ _) (SeqAt.list_indexAt p _ n dd sl (.int c u) (VH c) (zs.idxOf c) (by simpa[<- a] using hj) (by lia) ?_ ?_) ⟨ho,λy hy=>?_,⟨.int _,H,I.tok _,⟨_,rfl⟩,q⟩⟩
 .obtain⟨t,e⟩:=Bt r' (zs.idxOf c) (by lia) hj
  show VH c (its[zs.idxOf c]'(by lia))=true;rw[e];show(zs[zs.idxOf c]==c)=true;simpa using List.getElem_idxOf hj
 .intro j hjs ai
  have aK:j<zs.length:=by lia
  obtain⟨t,e⟩:=Bt r' j (by lia) aK;show VH c (its[j]'(by lia))=false;rw[e];show(zs[j]==c)=false;have:=List.not_of_lt_findIdx (xs:=zs) (p:=(·==c)) (i:=j) (by simpa[List.idxOf] using ai);simpa using this
 .obtain⟨z,t,rfl⟩:=js r' (by simpa using hy)
  exact SeqAt.EqAt.int_int z t c u
noncomputable def K4:Dat->Z Dat->C1 Dat
 | .lst xs,[.int c]=>(Js xs).bind λzs=>if c∈zs then some (.int ((zs.idxOf c:Nat):Int)) else none
 | _,_=>none
theorem On:bE X "list.index" K4:=fR.weak λv vs H Q M=>by
 obtain⟨A,x,ds,d,mu,e,p,ps,q⟩:=M;unfold K4 at e;split at e
 .rename_i xs c
  obtain⟨l,us,e2,h1,r1⟩:=p.lst;obtain⟨v1,e3,p1⟩:=ps.one;obtain⟨zs,hy,e⟩:=bind_some e;split at e
  .rename_i hc
   cases e;rw[Mh hy] at r1;have eu:=U0 r1;subst eu;exact⟨l,zs,c,e2,by rw[e3,p1.int],h1.sq,hc,q.here W9⟩
  .cases e
 .cases e
end
section
variable{X:Cx}{fa:Zzu}
noncomputable def Jb(i:Nat)(fa fb:Zzu):Ev->Fl:=λenv=>match env[i]?,fb env,fa env with
 | some (.ow ds),some d,some (.int k)=>if 0<=k/\k<ds.length then .next (env.set i (.ow (ds.set k.toNat d))) else .no
 | _,_,_=>.no
theorem Kr(i:Nat){x:Str}(ha:Wn true X ix fa)(hb:Wn false X e fb)
  (hN:X.N[i]?=some x:=by rfl) (hv:LU X.env.scope x:=by ext) (hd:C2 x:=by decide) (ae:(x==("__classdict__" : Str))=false:=by decide)
  (hs:swapsWithSole [.Subscript (.Name x p) ix al] e pos.line X.env=pure false:=by rfl) (J:swappedStores [.Subscript (.Name x p) ix al] e X.env=pure none:=by rfl) (h1:(assignEach [.Subscript (.Name x p) ix al] X.env).map (·.2)=[assign (.Subscript (.Name x p) ix al) X.env]:=by rfl)
  (hq:∀ v,assign (.Subscript (.Name x p) ix al) X.env v=(do
   let E <- holding [v] (eval (.Name x p) X.env)
   let b <- holding [v,E] (eval ix X.env)
   standAt al
   holding [v,E,b] (setItem E b v)
   release [v,E,b] []):=by intro _;rfl) :
  Dl fr X (.Assign [.Subscript (.Name x p) ix al] e pos) (Jb i fa fb):=(VC hb (kG (Jm hN hv hd ae) ha hD hq) hs J h1).weak λD σ H M=>by
 obtain⟨env,B,A,k,l,q⟩:=M;unfold Jb at q;split at q
 .rename_i ds d j e1 e2 e3
  split at q
  .rename_i hj
   refine⟨env,B,A,d,k,e2,λv H1 s1 r1=>?_⟩;have k1:=k.mono s1;obtain⟨a,vs,g1,g2,g3,_⟩:=k1.own l e1;refine⟨.ref a,g1,env,B,A,.int j,k1,e3,λw H2 s2 r2=>?_⟩;have k2:=k1.mono s2;obtain⟨a',c,m1,m2,m3,mz,_,_,_,m4,_⟩:=k2.own l e1;rw[g1] at m1;cases m1;have F:w=.int j:=(Rm.pk r2).int;have ac:=Y6 m3;have f:Rp X.K (av H2 A) d v:=Rp.mono (Wp s2) r1;refine⟨a,c,j,j.toNat,rfl,F,m2,?_,?_⟩
   .unfold NN;rw[AH hj.1,AH (by lia)]
   .obtain⟨W,z2⟩:=m4 (ds.set j.toNat d) (c.set j.toNat v) (by rw[BN];exact mz) (XT _ m3 f)
    exact q A _ σ (((I3.same s1).trans (I3.same s2)).trans W) z2
  .exact q.elim
 .exact q.elim
noncomputable def Pr(j i:Nat)(fa:Zzv):Ev->Fl:=λenv=>match env[i]?,fa env with
 | some (.ow ds),some [.int k]=>if 0<=k/\k<ds.length then(match ds[k.toNat]? with
  | some d=>.next ((env.set i (.ow (ds.eraseIdx k.toNat))).set j (.fz d))
  | none=>.no) else .no
 | _,_=>.no
theorem lL(n:Nat)(r:Wj K H ds vs):Wj K H (ds.eraseIdx n) (vs.eraseIdx n):=by
 rw[CS,CS];exact V3 (Ho _ r) (H9 _ r)
theorem cZ(j i:Nat){x:Str}(aa:X.N.Nodup)(hj:X.N[j]?=some y)(hy:LL X.env.scope y){e0:C3}{g:Zzv}(ha:Ps true X [e0] g)
  (hN:X.N[i]?=some x:=by rfl) (hv:LU X.env.scope x:=by ext) (hd:C2 x:=by decide) (ae:(x==("__classdict__" : Str))=false:=by decide)
  (hs:swapsWith (.Call (.Attribute (.Name x p) "pop" au) [e0] [] ak) (some (.Name y al)) pos.line X.env=pure false:=by rfl)
  (hf:X.fn y=true\/X.env.scope.names.lookup y=some .local:=by ext)
  (u:attributeBase (.Name x p) "pop" X.env (eval (.Name x p) X.env)=eval (.Name x p) X.env:=by rfl)
  (S:((backTo ak (starEach [e0] X.env)).all (λx=>!x.1)&&(backToKw ak (keywordEach [] X.env)).all (λx=>x.1.isSome)
   && decide (([e0]).length+([]:Z Keyword).length+(if([]:Z Keyword).isEmpty then 0 else 1)<30))=true:=by rfl)
  (E:(au.endLine==ak.line)=true:=by rfl) (b:starEach [e0] X.env=(false,eval e0 X.env)::starEach [] X.env:=by rfl) (C:(backTo ak (starEach [] X.env)).any (·.1)=false:=by rfl) :
  Dl fr X (.Assign [.Name y al] (.Call (.Attribute (.Name x p) "pop" au) [e0] [] ak) pos) (Pr j i g):=(Nu aa hj hy (QX DU PySem.F.slot_list_pop PySem.F.type_list_pop (id:="list.pop") lV (Jm hN hv hd ae) ha u S E b C) hs hf).weak λD σ H M=>by
 obtain⟨env,B,A,k,l,q⟩:=M;unfold Pr at q;split at q
 .rename_i ds n e1 e2
  split at q
  .rename_i hn
   split at q
   .rename_i d e3
    obtain⟨a,vs,h1,h2,h3,_⟩:=k.own l e1;refine⟨.ref a,h1,.inl ⟨rfl,vs,Dc.of h2⟩,env,B,A,[.int n],k,e2,λus H2 s2 rs=>?_⟩;have k2:=k.mono s2;obtain⟨a',c,g1,g2,g3,h,_,_,_,g4,_⟩:=k2.own l e1;rw[h1] at g1;cases g1;obtain⟨w,eu,e⟩:=rs.one;have J:w=.int n:=e.int;have ac:=Y6 g3;obtain⟨v,f,s⟩:=Ms g3 e3;have hsz:(sizeLine:Nat)<2^62:=by decide
    refine⟨a,c,n,n.toNat,v,rfl,by rw[eu,J],g2,by lia,by lia,?_,f,?_⟩
    .exact JQ hn.1 (by lia)
    .obtain⟨W,z2⟩:=g4 (ds.eraseIdx n.toNat) (c.eraseIdx n.toNat) (BA (List.length_eraseIdx_le _ _) h) (lL _ g3)
     exact q A _ _ ((I3.same s2).trans W) (z2.put j (Rp.mono W.av s))
   .exact q.elim
  .exact q.elim
 .exact q.elim
end
variable{l t:A2}{vs:Z A1}
theorem C'.gx{A:AS}{g:GX}(k:C' K B A H σ env)(l:B.st=true)(h:env[i]?=some (.gx g)) :
  ∃ (v:V) (o:A2->Prop),σ[i]?=some (some v)/\M' K A H o g v/\(∀ b,o b->A b=true/\B.H₀ b=none) /\
   ∀ (b:A2) (c:HO) (g':GX),o b->QD (some c)->M' K A (W5 H b c) o g' v->I3 A H A (W5 H b c)/\C' K B A (W5 H b c) σ (env.set i (.gx g')):=by
 obtain⟨own,h1,h2,h4⟩:=k.sl;obtain⟨x,Y,v,e1,e2⟩:=h4 i _ h;subst e1;have ay:∀ b,own i b->A b=true/\B.H₀ b=none:=λb ob=>by
  obtain⟨hA,Q⟩:=h2 i b ob;refine⟨hA,?_⟩;rcases k.ar b hA with z | z
  .rw[z] at Q;cases Q
  .exact z
 refine⟨v,own i,Y,e2,ay,λa c g' oa S hg=>?_⟩;obtain⟨hA,h0⟩:=ay a oa;have m:Zr (av H A) (av (W5 H a c) A):=λb o e=>by
  obtain⟨W,z2⟩:=Qs e;have hb:b≠a:=by intro z;rw[z,hA] at W;cases W
  exact V7 (by rw[Zh hb];exact z2) W
 refine⟨⟨λb o hb f=>?_,λb hb=>.inl hb⟩,?_⟩
 .have hn:b≠a:=by intro z;rw[z,hA] at f;cases f
  rw[Zh hn];exact hb
 .refine⟨λb o hb=>?_,k.r0,k.ra,k.ar,λb hb=>?_,by rw[BN];exact k.len,λhs j d'=>Ej (k.np hs) (λ_ z=>by cases z) j d',own,h1,h2,λj s e=>?_⟩
  .have hn:b≠a:=Y3 hb h0
   rw[Zh hn];exact k.h0 b o hb
  .by_cases hn:b=a
   .subst hn;rw[Zp];exact S
   .rw[Zh hn];exact k.mu b hb
  .by_cases hj:i=j
   .subst hj
    rw[AZ,AH rfl] at e;split at e
    .cases e
     exact⟨_,Y,v,rfl,hg⟩
    .cases e
   .rw[AZ,AM hj] at e
    obtain⟨x,p1,p2⟩:=h4 j s e;refine⟨x,p1,?_⟩;cases s with
    | un=>trivial
    | fz d=>obtain⟨v,W,z2⟩:=p2;exact⟨v,W,z2.mono m⟩
    | pk d=>exact absurd e (k.np l j d)
    | ow es =>
     obtain⟨b,us,W,z2,z3,z4,z5⟩:=p2;have hn:b≠a:=λz=>hj (h1 i j a oa (z▸z2))
     exact⟨b,us,W,z2,z3,by rw[Zh hn];exact z4,z5.mono m⟩
    | gx g2 =>
     obtain⟨w,W,z2⟩:=p2;exact⟨w,W,z2.frame (λ_ z=>z) (λb x ob z=>by
      have hn:b≠a:=λy=>hj (h1 i j a oa (y▸ob))
      rw[Zh hn];exact z) m⟩
    | tb =>
      obtain⟨P,u,W,z2⟩:=p2;have hn:P≠a:=λy=>hj (h1 i j a oa (y▸W))
      exact⟨P,u,W,by rw[Zh hn];exact z2⟩
noncomputable def X6(A:AS)(S:A2->Bool):AS:=λb=>A b||S b
theorem C'.putG{A:AS}(k:C' K B A H σ env)(l:B.st=true)(i:Nat){g:GX}{v:V}{S:A2->Bool}(s:Zr H H')(hn:∀ p,S p=true->H p=none)(hm:∀ p,S p=true->QD (H' p))(r:M' K (X6 A S) H' (λb=>S b=true) g v) :
  I3 A H (X6 A S) H'/\C' K B (X6 A S) H' (σ.set i (some v)) (env.set i (.gx g)):=by
 have c:∀ {b},X6 A S b=true->A b=true\/S b=true:=λ{b} h=>by unfold X6 at h;rw[EU] at h;exact h
 have f:∀ {b},A b=true->X6 A S b=true:=λ{b} h=>by unfold X6;rw[h];rfl
 have n:∀ {b},S b=true->X6 A S b=true:=λ{b} h=>by unfold X6;rw[h,FP]
 have st:I3 A H (X6 A S) H':=⟨λa o h _=>s a o h,λa h=>(c h).imp id λz=>hn a z⟩;have m:∀ p,S p=true->A p=false:=λp hp=>k.mu.new (hn p hp)
 have h0:∀ p,S p=true->B.H₀ p=none:=λp hp=>k.h0.free (hn p hp)
 obtain⟨own,h1,h2,h4⟩:=k.sl;refine⟨st,k.h0.trans s,k.r0,λa h=>f (k.ra a h),λa h=>?_,λa h=>?_,by rw[BN,BN];exact k.len,λhs j d'=>Ej (k.np hs) (λ_ z=>by cases z) j d',
  λj a=>(j≠i/\own j a)\/(j=i/\S a=true),λj t a z D=>?_,λj a z=>?_,λj sl e=>?_⟩
 .rcases c h with z | z
  .exact k.ar a z
  .exact .inr (h0 a z)
 .rcases c h with z | z
  .exact k.mu.mono s a z
  .exact hm a z
 .rcases z with z | z<;>rcases D with D | D
  .exact h1 j t a z.2 D.2
  .have:=(h2 j a z.2).1;rw[m a D.2] at this;cases this
  .have:=(h2 t a D.2).1;rw[m a z.2] at this;cases this
  .rw[z.1,D.1]
 .rcases z with z | z
  .exact⟨f (h2 j a z.2).1,(h2 j a z.2).2⟩
  .refine⟨n z.2,?_⟩
   cases q:B.R a with
   | false=>rfl
   | true=>obtain⟨o,ho⟩:=k.r0 a q;rw[h0 a z.2] at ho;cases ho
 .by_cases hj:i=j
  .subst hj
   rw[AZ,AH rfl] at e;split at e
   .rename_i hl
    cases e;exact⟨some v,by rw[AZ,AH rfl,AH (by rw[k.len];exact hl)],v,rfl,r.frame (λ_ z=>.inr ⟨rfl,z⟩) (λ_ _ _ z=>z) (Zr.refl _)⟩
   .cases e
  .rw[AZ,AM hj] at e
   obtain⟨x,p1,p2⟩:=h4 j sl e;refine⟨x,by rw[AZ,AM hj];exact p1,?_⟩;cases sl with
   | un=>trivial
   | fz d=>obtain⟨v,W,z2⟩:=p2;exact⟨v,W,z2.mono st.av⟩
   | pk d=>exact absurd e (k.np l j d)
   | ow es =>
    obtain⟨b,us,W,z2,z3,z4,z5⟩:=p2;exact⟨b,us,W,.inl ⟨AR hj,z2⟩,z3,s _ _ z4,z5.mono st.av⟩
   | gx g2 =>
    obtain⟨w,W,z2⟩:=p2;exact⟨w,W,z2.frame (λ_ z=>.inl ⟨AR hj,z⟩) (λb x _ z=>s b x z) st.av⟩
   | tb=>obtain⟨P,u,W,z2⟩:=p2;exact⟨P,u,.inl ⟨AR hj,W⟩,s _ _ z2⟩
section
variable{X:Cx}{fa:Zzu}
noncomputable def Gj(dss:Z (Z Dat))(k:Int):C1 (Z Dat):=if 0<=k then dss[k.toNat]? else none
noncomputable def OQ(i:Nat)(fa:Zzu):Ev->C1 Dat:=λenv=>match env[i]?,fa env with
 | some (.gx (.nest dss)),some (.int k)=>(Gj dss k).map .lst
 | _,_=>none
theorem C'.nest{A:AS}(k:C' K B A H σ env)(h:env[i]?=some (.gx (.nest dss))) :
  ∃ (a:A2) (as:Z A2),σ[i]?=some (some (.ref a))/\H a=some (.lst (as.map V.ref))/\as.length=dss.length/\∀ (n:Nat) b ds,as[n]?=some b->dss[n]?=some ds->ds.length<=sizeLine/\∃ vs,H b=some (.lst vs)/\Wj K (av H A) ds vs:=by
 obtain⟨own,h1,h2,h4⟩:=k.sl;obtain⟨x,Y,v,e1,a,as,e2,e3,e4,e5,T,s,e8,e9⟩:=h4 i _ h;subst e1 e2;exact⟨a,as,Y,e5,T,λn b ds W z2=>⟨(e9 n b ds W z2).2.1,(e9 n b ds W z2).2.2⟩⟩
theorem Ly{k:Int}(h:Gj dss k=some ds):0<=k/\dss[k.toNat]?=some ds/\k=((k.toNat:Nat):Int):=by
 unfold Gj at h;split at h
 .rename_i h0;exact⟨h0,h,(Int.toNat_of_nonneg h0).symm⟩
 .cases h
theorem WY(i:Nat){x:Str}(ha:Wn true X ix fa)(ag:Nr ix)
  (hN:X.N[i]?=some x:=by rfl) (hv:LU X.env.scope x:=by ext) (hd:C2 x:=by decide) (ae:(x==("__classdict__" : Str))=false:=by decide) :
  Wn true X (.Subscript (.Name x p) ix pos) (OQ i fa):=PE.weak (UH Bv (Jm hN hv hd ae) ha ag) λσ H Q M=>by
 obtain⟨env,B,A,d,k,e,q⟩:=M;unfold OQ at e;split at e
 .rename_i dss n e1 e2
  obtain⟨ds,e3,e4⟩:=map_some e;subst e4;obtain⟨h0,e5,T⟩:=Ly e3;obtain⟨a,as,h1,h2,h3,h4⟩:=k.nest e1;refine⟨.ref a,h1,env,B,A,.int n,k,e2,λw H2 s2 r2=>?_⟩;have J:w=.int n:=(Rm.pk r2).int;have ai:n.toNat<as.length:=by rw[h3];exact(AC.mp e5).1
  obtain⟨hz,vs,g1,g2⟩:=h4 n.toNat _ ds (AK ai) e5;refine⟨a,as.map V.ref,n,.ref as[n.toNat],rfl,J,Dc.of (s2 _ _ h2),?_,q _ _ s2 (.inr (.inl ⟨_,vs,ds,rfl,rfl,hz,s2 _ _ g1,g2.mono (Wp s2)⟩))⟩;have al:Fh (as.map V.ref) ((n.toNat:Nat):Int)=some (.ref as[n.toNat]):=Iw (by rw[AL,AK ai];rfl)
  rwa [<- T] at al
 .cases e
noncomputable def Lm(i:Nat)(fa:Zzu)(fs:Zzv):Ev->Fl:=λenv=>match env[i]?,fa env with
 | some (.gx (.nest dss)),some (.int k)=>match Gj dss k with
  | some ds=>match (fs env).bind λas=>Vh ds as with
   | some ds'=>.next (env.set i (.gx (.nest (dss.set k.toNat ds'))))
   | none=>.no
  | none=>.no
 | _,_=>.no
theorem A8 (i:Nat) {x:Str} (ha:Wn true X ix fa) (ag:Nr ix) (hb:Ps false X (e::es) fs)
  (hN:X.N[i]?=some x:=by rfl) (hv:LU X.env.scope x:=by ext) (hd:C2 x:=by decide) (ae:(x==("__classdict__" : Str))=false:=by decide)
  (am:swapsWith (.Call (.Attribute (.Subscript (.Name x p) ix p2) "append" au) (e::es) [] ak) none pos.line X.env=pure false:=by rfl)
  (u:attributeBase (.Subscript (.Name x p) ix p2) "append" X.env (eval (.Subscript (.Name x p) ix p2) X.env)=eval (.Subscript (.Name x p) ix p2) X.env:=by rfl)
  (S:((backTo ak (starEach (e::es) X.env)).all (λx=>!x.1)&&(backToKw ak (keywordEach [] X.env)).all (λx=>x.1.isSome)
   && decide ((e::es).length+([]:Z Keyword).length+(if([]:Z Keyword).isEmpty then 0 else 1)<30))=true:=by rfl)
  (E:(au.endLine==ak.line)=true:=by rfl) (hs:Z0 X.env e es:=by rfl) (C:Z1 ak X.env es:=by rfl) :
  Dl fr X (.Expr (.Call (.Attribute (.Subscript (.Name x p) ix p2) "append" au) (e::es) [] ak) pos) (Lm i fa fs):=(Jr (QX DU CM CN (id:="list.append") Fc (UH Bv (Jm hN hv hd ae) ha ag) hb u S E hs C) am).weak λD σ H M=>by
 obtain⟨env,B,A,k,l,q⟩:=M;unfold Lm at q;split at q
 .rename_i dss n e1 e2
  split at q
  .rename_i ds e3
   split at q
   .rename_i ds' e4
    obtain⟨ap,e5,T⟩:=bind_some e4;obtain⟨h0,s,e8⟩:=Ly e3;obtain⟨a,as,h1,h2,h3,h4⟩:=k.nest e1;refine⟨.ref a,h1,env,B,A,.int n,k,e2,λw H2 s2 r2=>?_⟩;have J:w=.int n:=(Rm.pk r2).int;have ai:n.toNat<as.length:=by rw[h3];exact(AC.mp s).1
    obtain⟨hz,vs,g1,g2⟩:=h4 n.toNat _ ds (AK ai) s;refine⟨a,as.map V.ref,n,.ref as[n.toNat],rfl,J,Dc.of (s2 _ _ h2),?_,.inl ⟨rfl,vs,Dc.of (s2 _ _ g1)⟩,env,B,A,ap,k.mono s2,e5,λus G P rs=>?_⟩
    .have al:Fh (as.map V.ref) ((n.toNat:Nat):Int)=some (.ref as[n.toNat]):=Iw (by rw[AL,AK ai];rfl)
     rwa [<- e8] at al
    have k3:=k.mono (s2.trans P);obtain⟨v,o,m1,m2,m3,m4⟩:=k3.gx l e1;rw[h1] at m1;cases m1;obtain⟨a',t,W,z2,z3,z4,z5,z6,z7,z8⟩:=m2;cases W;have aq:t.map V.ref=as.map V.ref:=by
     have:=(s2.trans P) _ _ h2;rw[z4] at this;exact HO.lst.inj (BC this)
    have ac:t=as:=by
     have af:∀ (l1 l2:Z A2),l1.map V.ref=l2.map V.ref->l1=l2:=λl1=>by
      induction l1 with
      | nil=>intro l2 hl;cases l2 with | nil=>rfl | cons=>cases hl
      | cons y l1 ih =>
       intro l2 hl;cases l2 with
       | nil=>cases hl
       | cons y2 l2=>simp at hl;rw[hl.1,ih l2 (by simpa using hl.2)]
     exact af _ _ aq
    subst ac;obtain⟨ob,aj,g,g3,g4⟩:=z8 n.toNat _ ds (AK ai) s;generalize I:t[n.toNat]=b at *;have ah:b∈t:=by rw[<- I];exact GB ai
    unfold Vh at T;split at T
    .rename_i d
     split at T
     .rename_i hl
      cases T;obtain⟨y,h,e9,f,ar⟩:=rs;have aw:us=[y]:=by rw[e9,show h=[] from ar]
      refine⟨b,g,y,rfl,aw,g3,by rw[Y6 g4];exact hl,?_⟩;have hA:A b=true:=(m3 b ob).1;have m:Zr (av G A) (av (W5 G b (.lst (g++[y]))) A):=λc o2 ec=>by
       obtain⟨y1,y2⟩:=Qs ec;have hc:c≠b:=by intro z;rw[z,hA] at y1;cases y1
       exact V7 (by rw[Zh hc];exact y2) y1
      have r:a≠b:=λz=>z7 (z▸ah)
      have hg:M' X.K A (W5 G b (.lst (g++[y]))) o (.nest (dss.set n.toNat (ds++[d]))) (.ref a):=by
       refine⟨a,t,rfl,z2,by rw[BN];exact z3,by rw[Zh r];exact z4,by rw[BN];exact z5,z6,z7,λj c es Y q2=>?_⟩;by_cases hj:n.toNat=j
       .subst hj
        rw[AK ai,I] at Y;cases Y;rw[AZ,AH rfl,AH (by rw[<- h3];exact ai)] at q2;cases q2;exact⟨ob,by rw[AN,BX];lia,g++[y],Zp,V3 (g4.mono m) (Q1 (Rp.mono m f))⟩
       .rw[AZ,AM hj] at q2
        obtain⟨y1,y2,aa,y3,F⟩:=z8 j c es Y q2;have ax:c≠b:=λz=>by
         obtain⟨Q,R⟩:=AC.mp Y;have:=List.nodup_iff_pairwise_ne.mp z6;rw[GE] at this;rcases DV n.toNat j with ao | hge2
         .exact this n.toNat j ai Q ao (by rw[I,R,z])
         .exact this j n.toNat Q ai (by lia) (by rw[I,R,z])
        exact⟨y1,y2,aa,by rw[Zh ax];exact y3,F.mono m⟩
      obtain⟨w1,w2⟩:=m4 b (.lst (g++[y])) _ ob trivial hg;exact q A _ σ (((I3.same s2).trans (I3.same P)).trans w1) w2
     .cases T
    .cases T
   .exact q.elim
  .exact q.elim
 .exact q.elim
end
section
variable{X:Cx}
noncomputable def Fi(i:Nat)(src:Zzv)(fs:Z (C1 Nat))(gg:Dat->Ev->C1 Ev):Ev->Fl:=λenv=>match src env with
 | some ds=>if ds.all (λd=>(gg d (Vb fs env)).isSome)=true then .next (env.set i (.gx (.nest (List.replicate ds.length [])))) else .no
 | none=>.no
theorem ew{J:It}{fs:Z (C1 Nat)}{g:Dat->Ev->C1 Ev}{Q:VK}{A:AS} 
  (c:∀ i∈is,fs[i]?=some none) (k:C' K B A H1 σ env) (u:NQ false K A H1 ds J) (hz:ds.length<=sizeLine) (hc:∀ d∈ds,∃ e',g d (Vb fs env)=some e')
  (q:∀ (p:A2) (as:Z A2) (H':Hp),Zr H1 H'->H1 p=none->H' p=some (.lst (as.map V.ref))->as.length=ds.length->as.Nodup->p∉as->(∀ b∈as,H1 b=none/\H' b=some (.lst []))->Q (.ref p) H') :
  ∃ W:Nat->Nat->Z V->Hp->Prop,(∃ m,W 0 m [] H1)/\∀ i m zs H,W i m zs H ->
   (J.stop i H/\zs.length<=sizeLine/\∀ p,H p=none->Q (.ref p) (W5 H p (.lst zs))) \/
   (J.go i H/\zs.length<=sizeLine/\∃ N:Z V->Hp->Prop,(∀ F H',N F H'->∃ m',m'<m/\W (i+1) m' F H')/\∀ x H',J.yld i H x H'->(∃ env R A d env',C' K R A H' (Ww fs σ) env/\Rp K (av H' A) d x/\g d env=some env'/\∀ σ',C' K R A H' σ' env'->Gq is (Ww fs σ) σ' ->
    (RD (Ww fs σ) σ'/\∃ env R A b,C' K R A H' σ' env/\Ug env=some b/\∀ G,Zr H' G->if b=true then(∀ p,G p=none->N (zs++[.ref p]) (W5 G p (.lst []))) else N zs G))):=by
 refine⟨λi m zs H=>m=ds.length - i/\i<=ds.length/\Zr H1 H/\∃ as:Z A2,zs=as.map V.ref/\as.length=i/\as.Nodup/\∀ b∈as,H1 b=none/\H b=some (.lst []),
  ⟨ds.length,by simp,CZ _,Zr.refl _,[],rfl,rfl,DZ,λb hb=>nomatch hb⟩,?_⟩
 rintro i m zs H ⟨rfl,hi,s1,as,rfl,I,aa,has⟩;have l:(as.map V.ref).length<=sizeLine:=by rw[AF];lia
 obtain⟨Y,s⟩:=u A H ⟨rfl,s1⟩ (k.mono s1).mu;by_cases ai:i<ds.length
 .have hx:ds[i]?=some ds[i]:=by simp[ai]
  obtain⟨go,C⟩:=Y i _ hx;obtain⟨n,b1⟩:=hc _ (GB ai);refine .inr ⟨go,l,λw H'=>i+1<=ds.length/\Zr H1 H'/\∃ as:Z A2,w=as.map V.ref/\as.length=i+1/\as.Nodup/\∀ b∈as,H1 b=none/\H' b=some (.lst []),
   λw H' h=>⟨ds.length - (i+1),by lia,rfl,h⟩,λx H' hy=>?_⟩
  obtain⟨s2,S⟩:=C x H' hy;refine⟨Vb fs env,⟨H1,A,false⟩,A,ds[i],n,(k.inn fs).mono (s1.trans s2),S,b1,λσ' k' D=>⟨⟨D.1.symm,λj v E=>?_⟩,n,⟨H1,A,false⟩,A,true,k',rfl,λG P=>?_⟩⟩
  .have hj:j∉is:=λhj=>by
    have:=c j hj;unfold Ww at E;rw[AL,this] at E;cases E
   rw[D.2 j hj];exact E
  .rw[AH rfl]
   intro p hp;have s4:Zr H1 G:=(s1.trans s2).trans P;have r:p∉as:=λz=>by
    have:=(s2.trans P) _ _ (has p z).2;rw[hp] at this;cases this
   refine⟨ai,λb o hb=>?_,as++[p],by rw[BP];rfl,by rw[AN,BX,I],GI.mpr ⟨aa,CT.mpr ⟨by simp,DZ⟩,λa ha b hb=>by rw[AJ.mp hb];intro z;exact r (z▸ha)⟩,λb hb=>?_⟩
   .have hn:b≠p:=λz=>by have:=s4 b o hb;rw[z,hp] at this;cases this
    rw[Zh hn];exact s4 b o hb
   .rcases BO.mp hb with hb | hb
    .have hn:b≠p:=λz=>r (z▸hb)
     exact⟨(has b hb).1,by rw[Zh hn];exact(s2.trans P) _ _ (has b hb).2⟩
    .rw[AJ.mp hb]
     exact⟨s4.free hp,Zp⟩
 .have e:i=ds.length:=by lia
  subst e;refine .inl ⟨s,l,λp hp=>q p as _ (λb o hb=>?_) (s1.free hp) Zp I aa (λz=>by have:=(has p z).2;rw[hp] at this;cases this) λb hb=>⟨(has b hb).1,?_⟩⟩
  .have hn:b≠p:=λz=>by have:=s1 b o hb;rw[z,hp] at this;cases this
   rw[Zh hn];exact s1 b o hb
  .have hn:b≠p:=λz=>by have:=(has b hb).2;rw[z,hp] at this;cases this
   rw[Zh hn];exact(has b hb).2
theorem WC(i:Nat){x:Str}(hN:X.N.Nodup)(psc:IA)(fs:Z (C1 Nat))(N:Z Str)(hp:X.env.scope=psc)(hc:X.calm=true)(hi:MH false X tg iter src)
  (hb:∀ (C:A2) (s:A4) (H:Hp) (fp:Z A2),MN is (Wc X sc N C s H fp) tg gg/\OJ (Wc X sc N C s H fp) [] Ug)
  (c:∀ i∈is,fs[i]?=some none) (aj:X.N[i]?=some x:=by rfl) (hx:LL X.env.scope x:=by ext) (S:CompOk psc sc X.N N fs:=by exact CompOk.of (by kernel_rfl!)) (hs:∀ x,foldedSetIterable iter X.env x=pure x:=by intro _;rfl) (am:swapsWith (.ListComp (.List [] aC) [⟨tg,iter,[],0⟩] sc pos) (some (.Name x al)) ax.line X.env=pure true:=by rfl)
  (hf:X.fn x=true\/X.env.scope.names.lookup x=some .local:=by ext) :
  Dl fr X (.Assign [.Name x al] (.ListComp (.List [] aC) [⟨tg,iter,[],0⟩] sc pos) ax) (Fi i src fs gg):=(Ea (g:=λv σ H Q=>∃ env R A d env',C' X.K R A H σ env/\Rp X.K (av H A) d v/\gg d env=some env'/\∀ σ',C' X.K R A H σ' env'->Gq is σ σ'->Q σ' H) (tt:=λσ H Q=>∃ env R A b,C' X.K R A H σ env/\Ug env=some b/\∀ H',Zr H H'->Q b H') (te:=λσ H Q=>∀ p,H p=none->Q (.ref p) (W5 H p (.lst []))) hN aj hx psc fs N hp S hc hi (λC s H fp=>⟨(hb C s H fp).1,(hb C s H fp).2,(YS Ux).weak λσ H Q h=>⟨CZ _,h⟩⟩) hs am hf).weak λD σ H M=>by
 obtain⟨env,B,A,k,l,q⟩:=M;unfold Fi at q;split at q
 .rename_i ds e
  split at q
  .rename_i f
   refine⟨env,B,A,ds,k,e,λJ H1 hz s1 u=>ew (Q:=λv H'=>D.nx (σ.set i (some v)) H') c (k.mono s1) u hz (λd hd=>DB.mp (CW.mp f d hd)) λp as H' s2 hn aH I aa r has=>?_⟩;have h1:=k.putG l i (g:=.nest (List.replicate ds.length [])) (v:=.ref p) (S:=λb=>decide (b=p)||decide (b∈as)) (s1.trans s2) (λb hb=>?_) (λb hb=>?_) ⟨p,as,rfl,by simp,by rw[EI];exact hz,aH,by rw[EI];exact I,aa,r,λn b es Y q2=>?_⟩
   .exact q _ H' _ h1.1 h1.2
   .rw[EU,BU,BU] at hb
    rcases hb with z | z
    .rw[z];exact s1.free hn
    .exact s1.free (has b z).1
   .rw[EU,BU,BU] at hb
    rcases hb with z | z
    .rw[z,aH];trivial
    .rw[(has b z).2];trivial
   .have ah:b∈as:=AD Y
    have E:es=[]:=by
     have:=AD q2;exact(FH.mp this).2
    subst E;exact⟨by simp[ah],CZ _,[],(has b ah).2,Vt⟩
  .exact q.elim
 .exact q.elim
end
section
variable{X:Cx}
end
section
variable{z TI TO i1 i2:A2}{f1 f2:Z A2}{n:Nat}{P1 P2:Nat->A1->Prop}{S1 S2:Nat->H3->Prop}{a b:A1}
end
section
variable{st:Bool}{X:Cx}{l1 l2:C3}{tk:Nat}
end
theorem Cv{Q:Z A1->A4->Prop}(hl:s.heap.IsTuple l vs.toArray)
  (h:Q vs { s with heap:=(s.heap.push (seqObj "list" #[] 0)).update s.heap.objs.size (Obj.mapSeq (·++vs.toArray)) }) (hsz:vs.length<=sizeLine) :
  wpAny (model prog w) A (collect (.ref l)) Q E s:=by
 obtain⟨o,ho,hc,n,hd⟩:=id hl;unfold collect;refine AA (JR (GD entry_proto_collect' ?_));show wpAny _ _ (do again (.builtin "list.__iadd__" ⟨[<- newList [],.ref l],[]⟩)) _ _ s;refine AA (IU (AI ⟨IK _ (by ext),GD entry_list_iadd' ?_⟩));show wpAny _ _ (Builtin.List.listExtendWith (.ref s.heap.objs.size) (.ref l) (.ref s.heap.objs.size)) _ _ { s with heap:=s.heap.push (seqObj "list" #[] 0) };unfold Builtin.List.listExtendWith;have f:(s.heap.push (seqObj "list" #[] 0)).get? l=some o:=AE _ ho;refine AA (GL (T:="tuple") ⟨o,f,hc⟩ ?_);have ht:(Value.type "tuple" == Value.type "tuple")=true:=by rfl
 rw[AH (by rw[ht];simp)];refine AA (JH f hd ?_);refine AA (JH (xs:=#[]) (n:=0) (AY _ rfl) rfl ?_);rw[AM (by simp)];refine AA (HG (xs:=#[]) (n:=0) (AY _ rfl) rfl ?_ (CZ _) (by show(#[]++vs.toArray).size<=sizeLine+1;simp only[Array.size_append,AV,JL];lia));refine AI ?_;show wpAny (model prog w) A (do
   let o <- load s.heap.objs.size
   match o.data with
   | .seq xs _=>pure xs.toList
   | _=>unsupported "internal:collect") Q E { s with heap:=(s.heap.push (seqObj "list" #[] 0)).update s.heap.objs.size (Obj.mapSeq (·++vs.toArray)) }
 refine AA (wpAny_load (GF (AY _ rfl) _) ?_);show wpAny _ _ (pure ((#[]:Array A1)++vs.toArray).toList) Q E _;rw[show((#[]:Array A1)++vs.toArray).toList=vs by simp];exact AI h
theorem jE{Q:KN}(hl:s.heap.IsTuple l vs.toArray)(N:IntsAre vs ns)(a:vs.length<64)
  (h:∀ (ay:Array A1) (b:Z Int),IntsAre ay.toList b->b.Perm ns->b.Pairwise (·<=·)->Q (.ref (s.heap.objs.size+1)) { s with heap:=sortedAll s.heap vs ay }) :
  wpAny (model prog w) A (call (.builtin "sorted") [.ref l]) Q E s:=by
 refine Calls.call_function_entry kind_sorted plain_sorted entry_sorted (args_sorted1 _) ?_;unfold Builtin.«sorted»;refine AA (m:=checkCount "sorted" 1 1 _) (AI ?_);refine AA (Cv hl ?_ (by rw[CH];lia));refine AA (IU ?_);have hsz:((s.heap.push (seqObj "list" #[] 0)).update s.heap.objs.size (Obj.mapSeq (·++vs.toArray))).objs.size=s.heap.objs.size+1:=by
  rw[FM,size_push']
 have P:(((s.heap.push (seqObj "list" #[] 0)).update s.heap.objs.size (Obj.mapSeq (·++vs.toArray))).push (seqObj "list" vs.toArray 0)).get? (s.heap.objs.size+1)=some (seqObj "list" vs.toArray 0):=by
  rw[<- hsz];exact AY _ rfl
 show wpAny _ _ _ _ _ { s with heap:=((s.heap.push (seqObj "list" #[] 0)).update s.heap.objs.size (Obj.mapSeq (·++vs.toArray))).push (seqObj "list" vs.toArray 0) };rw[hsz];refine AA (BQ (EK slot_list_sort ⟨_,P,rfl⟩ entry_list_sort (list_sort_tree P N a λay b a1 a2 a3=>⟨_,rfl,?_⟩) (args_list_sort _)));exact AI ⟨_,rfl,h ay b a1 a2 a3⟩
section
variable{X:Cx}
noncomputable def de(K:J1):Z V->Hp->VK->Prop:=λxs H Q=>∃ p ns,xs=[.ref p]/\Dr K H p (ns.map V.int)/\ns.length<64 /\
 ∀ (c:Z Int) (l:A2),c.Perm ns->c.Pairwise (·<=·)->H l=none->Q (.ref l) (W5 H l (.lst (c.map V.int)))
theorem By:U4 X (.builtin "sorted") (de X.K):=by
 intro aa s σ H xs us Q I r h;obtain⟨p,ns,rfl,hq,a,q⟩:=h;obtain⟨u,rfl,S⟩:=Ji r;cases S;obtain⟨its,r',pl,hz⟩:=I.tuple hq;have ac:=r'.length;rw[AF] at ac;refine jE (show s.heap.IsTuple p its.toArray from pl) (P7 r') (by lia) λay c h1 h2 h3=>?_
 obtain⟨e,he⟩:=sortedAll_at s.heap its ay;have hl:c.length=ns.length:=h2.length_eq;refine⟨.ref (s.heap.objs.size+1),W5 H (s.heap.objs.size+1) (.lst (c.map V.int)),I.laid (t':=s.toks) (λb o q=>sortedAll_old q) (DO _) ?_,rfl,q c _ h2 h3 (I.hok.fresh (DO _))⟩;refine⟨by rw[AF] at hz ⊢;lia,ay.toList,e,Hl h1,?_⟩;rw[he]
noncomputable def Ju:Z Dat->C1 (Z Dat)
 | [.lst xs]=>(Js xs).bind λns=>if ns.length<64 then some ((Gs ns).map .int) else none
 | [.tup xs]=>(Js xs).bind λns=>if ns.length<64 then some ((Gs ns).map .int) else none
 | _=>none
theorem Do:QZ X (.builtin "sorted") Ju:=(B0.or By).weak λvs H Q M=>by
 obtain⟨A,ds,d,mu,e,p,q⟩:=M;unfold Ju at e;split at e
 .rename_i xs
  obtain⟨v,e1,p1⟩:=p.one;obtain⟨l,us,e2,h1,r1⟩:=p1.lst;obtain⟨ns,hn,e⟩:=bind_some e;split at e
  .rename_i a
   cases e;rw[Mh hn] at r1;have eu:=U0 r1;subst eu;refine .inl ⟨l,ns,by rw[e1,e2],h1.sq,a,λc l' hp hs hl=>?_⟩;rw[Mc (hp.trans (Tl ns).symm) hs (Ht ns)];have h0:(64:Nat)<=sizeLine:=by decide
   exact q.at (by rw[AF,(Tl ns).length_eq];lia) (Ih _) l' hl
  .cases e
 .rename_i xs
  obtain⟨v,e1,p1⟩:=p.one;obtain⟨l,us,e2,h1,r1⟩:=p1.tup;obtain⟨ns,hn,e⟩:=bind_some e;split at e
  .rename_i a
   cases e;rw[Mh hn] at r1;have eu:=U0 r1;subst eu;refine .inr ⟨l,ns,by rw[e1,e2],h1,a,λc l' hp hs hl=>?_⟩;rw[Mc (hp.trans (Tl ns).symm) hs (Ht ns)];have h0:(64:Nat)<=sizeLine:=by decide
   exact q.at (by rw[AF,(Tl ns).length_eq];lia) (Ih _) l' hl
  .cases e
 .cases e
end
open HT in
theorem Dv{sl:A2}{Q:KN}(ht:IsTup s.heap t ac)(hs:s.heap.IsSliceOf sl vl vu .none)(pl:IsPart vl lo)(c:IsPart vu hi)
  (J:(sIx ac.size 0 lo=0/\sIx ac.size ac.size hi=ac.size))
  (h:Q (.ref t) s)
  (hsz:ac.size<=sizeLine):wpAny (model prog w) A (getItem (.ref t) (.ref sl)) Q E s:=by
 obtain⟨os,d,e,a⟩:=id hs;have f:s.TypeIs (.ref sl) "slice" := ⟨os,d,e⟩;unfold getItem;try with_reducible refine BQ ?_
 first | refine AA (AI ?_) | skip
 refine AA (wpAny_sequenceKey ht.typeIs (by decide) ?_);refine AA (DR (name:=Str.ofString "__getitem__") ht.typeIs EE
  (EK EE ht.typeIs entry_tuple_getitem ?_ (args_tuple_getitem _ _)))
 show wpAny _ _ (Builtin.Tuple.tupleItemsOf (.ref t) >>= _) _ _ s;refine AA (tupleItemsOf_ ht ?_);refine AA (GL f ?_);rw[AH (by decide)];refine AA (Mq hs pl c ?_);have b:(((sIx ac.size 0 lo:Nat):Int)==0&&(1:Int)==1&&(sIx ac.size ac.size hi - sIx ac.size 0 lo)==ac.size)=true:=by
  rw[J.1,J.2];simp
 show wpAny _ _ (if(((sIx ac.size 0 lo:Nat):Int)==0&&(1:Int)==1&&(sIx ac.size ac.size hi - sIx ac.size 0 lo)==ac.size)=true then _ else _) _ _ s;rw[AH b];unfold Builtin.Tuple.tupleIsExact;refine AA (AA (GL ht.typeIs (AI ?_)));rw[AH (by decide)];exact AA (JB (AI ⟨_,rfl,AI h⟩))
section
variable{X:Cx}
noncomputable def gf(K:J1):V->C1 Int->C1 Int->Hp->VK->Prop:=λx lo hi H Q=>∃ a xs,x=.ref a/\Dr K H a xs /\
 (HT.sIx xs.length 0 lo=0/\HT.sIx xs.length xs.length hi=xs.length)/\Q (.ref a) H
theorem iO:LR X (gf X.K):=by
 intro aa s σ H x v vl vu lo hi sl Q I S hs pl c h;obtain⟨a,xs,rfl,hx,J,q⟩:=h;cases S;obtain⟨its,r,ht,hz⟩:=I.tuple hx;have ac:its.toArray.size=xs.length:=by rw[AV];exact r.length.symm
 refine⟨"tuple",_,PyProof.Rows.slot_tuple_getitem.lookup,ht.typeIs,?_⟩;exact Dv ht hs pl c (by rw[ac];exact J) ⟨.ref a,H,I,rfl,q⟩ (by rw[ac];exact hz)
noncomputable def Ac:Dat->C1 Int->C1 Int->C1 Dat
 | .lst xs,lo,hi=>some (.lst (Tv xs lo hi))
 | .str z,lo,hi=>some (.str (Txt.slice z lo hi))
 | .tup xs,lo,hi=>some (.tup (Tv xs lo hi))
 | _,_,_=>none
theorem E5:UF X Ac:=(mJ.or iO).weak λv lo hi H Q M=>by
 obtain⟨A,x,d,mu,e,p1,q⟩:=M;unfold Ac at e;split at e
 .exact .inl ⟨A,.lst _,d,mu,e,p1,q⟩
 .exact .inl ⟨A,.str _,d,mu,e,p1,q⟩
 .rename_i xs
  by_cases J:HT.sIx xs.length 0 lo=0/\HT.sIx xs.length xs.length hi=xs.length
  .obtain⟨l,vs,e1,h1,r1⟩:=p1.tup
   cases e;have ec:Tv xs lo hi=xs:=by unfold Tv;rw[J.1,J.2];simp
   rw[ec] at q;exact .inr ⟨l,vs,e1,h1,by rw[Y6 r1];exact J,by rw[<- e1];exact q.here (by rcases p1 with h | ⟨_,_,_,e9,_⟩ | ⟨_,_,_,e9,_⟩ | ⟨_,_,e9,_⟩;exact h;cases e9;cases e9;cases e9)⟩
  .exact .inl ⟨A,.tup xs,d,mu,by show(if _ then none else _)=_;rw[AM J];exact e,p1,q⟩
 .cases e
end
section
variable{X:Cx}
end
theorem R9{h:H3}{xs:Array A1}(q:h.IsList t xs)(e:∀ o,h.get? t=some o->h'.get? t=some o):h'.IsList t xs:=by
 obtain⟨o,ho,r⟩:=q;exact⟨o,e o ho,r⟩
theorem F8(ae:t≠it):∀ (n i:Nat) (s:A4) (Q:Z A1->A4->Prop),s.heap.IsListIter it t i->s.heap.IsList t ac->i+n<=ac.size ->
  (∀ h',h'.IsListIter it t (i+n)->SameBut it s.heap h'->Q ((ac.toList.drop i).take n) { s with heap:=h' })->wpAny (model prog w) A (draw (.ref it) n) Q E s
 | 0,i,s,Q,c,_,_,j=>by
  show wpAny _ _ (pure []) Q E s;exact AI (by simpa using j s.heap c (SameBut.refl ..))
 | n+1,i,s,Q,c,ht,B,j=>by
  have ai:i<ac.size:=by lia
  show wpAny _ _ (pyNext (.ref it) >>= _) Q E s;refine AA (wpAny_pyNext_list_item c ht (x:=ac[i]) (by simp[ai]) λh₁ hit₁ hs₁=>?_);refine AA (BQ (F8 ae n (i+1) _ _ hit₁ (R9 ht λo e=>hs₁.extBut _ _ ae e) (by lia) λh₂ hit₂ hs₂=>AI ?_));have hd:ac.toList.drop i=ac[i]::ac.toList.drop (i+1):=by simp[DN,ai]
  have:=j h₂ (by rw[show i+(n+1)=i+1+n by lia];exact hit₂) (hs₁.trans hs₂);rw[hd,FN] at this;exact this
theorem Kw{Q:Z A1->A4->Prop}(hh:A.handled=none)(ht:s.heap.IsList t ac)
  (j:∀ h',ExtBut s.heap.objs.size s.heap h'->Q ac.toList { s with heap:=h' }):wpAny (model prog w) A (unpackItems (.ref t) ac.size none) Q E s:=by
 have ai:t≠s.heap.objs.size:=by obtain⟨o,ho,_⟩:=ht;exact BR (AQ ho)
 unfold unpackItems;refine AA ?_
 .unfold notIterableAtAll
  refine AA (JM ht.typeIs slot_list_iter.lookup ?_);refine AI ?_;simp only[FL,HH];refine AA (BQ (IV ht ?_));refine AA (BQ (F8 ai ac.size 0 _ _ ⟨_,AY _ rfl,rfl,rfl⟩ (R9 ht λo e=>AE _ e) (by lia) λh₁ hit₁ hs₁=>?_));have f:List.take ac.size (List.drop 0 ac.toList)=ac.toList:=by
   rw[KD];exact CI (by simp)
  rw[f];rw[AM (by simp)];have ht₁:Heap.IsList h₁ t ac:=R9 (R9 ht λo e=>AE _ e) λo e=>hs₁.extBut _ _ ai e
  refine AA (BQ (wpAny_pyNext_list_end hh hit₁ ht₁ (by simp) λh₂ he₂=>?_));simp only[Option.isSome_none,FL,HH];refine AI (j h₂ λb o hb e=>he₂ b o hb (hs₁.extBut b o hb (AE _ e)))
theorem Hi{env:I0}{a:Z C3}{x1}(hh:A.handled=none)(ht:s.heap.IsList t ac)
  (hn:(assignEach a env).length=ac.size) (b:(assignEach a env).findIdx? (·.1)=none)
  (h:∀ h',ExtBut s.heap.objs.size s.heap h'->wpAny (model prog w) A (assignInOrder ((assignEach a env).map (·.2)) ac.toList) Q E { s with heap:=h' }) :
  wpAny (model prog w) A (assign (.Tuple a x1 pos) env (.ref t)) Q E s:=by
 rw[assign_Tuple];refine AA (CY ?_);unfold unpack;rw[hn,b];exact AA (BQ (Kw hh ht h))
section
variable{X:Cx}
noncomputable def ck(K:J1)(n:Nat)(t:MP):TG:=λv σ H Q=>∃ a xs,v=.ref a/\Dc K H a xs/\xs.length=n/\t xs σ H Q
theorem fK{t:MP}{n:Nat}(hc:X.calm=true)(h:NC X es t)
  (hn:(assignEach es X.env).length=n:=by rfl) (l:(assignEach es X.env).findIdx? (·.1)=none:=by rfl):PG X (.Tuple es k pos) (λv σ H Q=>bN X.K n t v σ H Q\/ck X.K n t v σ H Q):=by
 intro aa s σ H v u Q I r J;rcases J with J | J
 .exact j2 hc h hn l aa s σ H v u Q I r J
 obtain⟨a,xs,e1,hq,hl,J⟩:=J;subst e1;cases r;obtain⟨its,rv,pl,hz⟩:=I.list hq;refine Hi (I.ok.hd hc) pl.isList (by simp[hn,<- hl,rv.length]) l λh' hx=>?_
 have I1:F' X aa σ H { s with heap:=h' }:=I.kept (t':=s.toks) λb o e=>hx b o (BR (AQ e)) e
 exact h aa _ σ H xs _ Q I1 (by simpa using rv) J
noncomputable def Ij(n:Nat)(gs:Z Dat->Ev->C1 Ev):Dat->Ev->C1 Ev:=λd env=>match d with
 | .tup ds=>if ds.length=n then gs ds env else none
 | .lst ds=>if ds.length=n then gs ds env else none
 | _=>none
theorem Sz{gs:Z Dat->Ev->C1 Ev}{n:Nat}(hc:X.calm=true)(h:QP is X es gs)
  (hn:(assignEach es X.env).length=n:=by rfl) (l:(assignEach es X.env).findIdx? (·.1)=none:=by rfl):MN is X (.Tuple es k pos) (Ij n gs):=(fK hc h hn l).weak λv σ H Q M=>by
 obtain⟨env,R,A,d,env',k,r,e,q⟩:=M;unfold Ij at e;split at e
 .rename_i ds
  split at e
  .rename_i hl
   obtain⟨a,vs,ev,h1,r1⟩:=Ss r;exact .inl ⟨a,vs,ev,Wg.seqT h1,by rw[Y6 r1];exact hl,env,R,A,ds,env',k,r1,e,q⟩
  .cases e
 .rename_i ds
  split at e
  .rename_i hl
   obtain⟨a,vs,ev,h1,r1⟩:=Su r;exact .inr ⟨a,vs,ev,(Wg.sl h1).sq,by rw[Y6 r1];exact hl,env,R,A,ds,env',k,r1,e,q⟩
  .cases e
 .cases e
end
section
variable{X:Cx}
end
variable{k:C3}
noncomputable def OZ:Dat->C1 (Z Vn)
 | .tup [.int a,.int b]=>some [.inl a,.inl b]
 | _=>none
theorem Ba{A:AS}{d:Dat}{v:V}{ks:Z Vn}(e:OZ d=some ks)(r:Pk K A H d v):∃ p,v=.ref p/\H p=some (.tup (ks.map kV)):=by
 unfold OZ at e;split at e
 .rename_i a b
  cases e;obtain⟨p,vs,e1,h1,r1⟩:=r.tup;have ev:vs=[.int a,.int b]:=U0 (ns:=[a,b]) r1;subst ev;rcases h1 with h1 | ⟨_,_,_,_,_,_,_,_,h2⟩
  .exact⟨p,e1,h1⟩
  .exact absurd AX (h2 a)
 .cases e
noncomputable def Lv(kvs:Z (Z Vn×Dat))(ks:Z Vn):Bool:=(kvs.map (·.1)).any λx=>decide (x=ks)
theorem ZT{us:Z (Z Vn×V)}{k:Z Vn}:(Du us k).isSome=(us.map (·.1)).any λx=>decide (x=k):=by
 rw[List.any_map,<- Ip];congr 1
section
variable{X:Cx}{g:Zzu}
noncomputable def PV(neg:Bool)(i:Nat)(f:Zzu):Ev->C1 Dat:=λenv=>match env[i]?,f env with
 | some (.gx (.dict kvs)),some d=>(OZ d).map λks=>.bl (if neg then !Lv kvs ks else Lv kvs ks)
 | _,_=>none
theorem C'.dictA{A:AS}{kvs:Z (Z Vn×Dat)}(k:C' K B A H σ env)(h:env[i]?=some (.gx (.dict kvs))) :
  ∃ (a:A2) (us:Z (Z Vn×V)),σ[i]?=some (some (.ref a))/\H a=some (.dT us)/\us.map (·.1)=kvs.map (·.1):=by
 obtain⟨own,h1,h2,h4⟩:=k.sl;obtain⟨x,Y,v,e1,a,us,e2,e3,e4,e5,T,s⟩:=h4 i _ h;subst e1 e2;exact⟨a,us,Y,e5,T⟩
noncomputable def Pj(i:Nat)(fk fv:Zzu):Ev->Fl:=λenv=>match env[i]?,fv env,fk env with
 | some (.gx (.dict kvs)),some d,some y=>match OZ y with
  | some ks=>if Lv kvs ks=false/\kvs.length<sizeLine then .next (env.set i (.gx (.dict (kvs++[(ks,d)])))) else .no
  | none=>.no
 | _,_,_=>.no
theorem j1(i:Nat){x:Str}(C:X.A.units+1<cLine)(ha:Wn true X ix f)(hb:Wn false X e g)
  (hN:X.N[i]?=some x:=by rfl) (hv:LU X.env.scope x:=by ext) (hd:C2 x:=by decide) (ae:(x==("__classdict__" : Str))=false:=by decide)
  (hs:swapsWith e (some (.Subscript (.Name x p) ix al)) pos.line X.env=pure false:=by rfl) :
  Dl fr X (.Assign [.Subscript (.Name x p) ix al] e pos) (Pj i f g):=(jb C (Jm hN hv hd ae) ha hb hs).weak λD σ H M=>by
 obtain⟨env,B,A,k,l,q⟩:=M;unfold Pj at q;split at q
 .rename_i kvs d y h1 h2 h3
  split at q
  .rename_i ks hk
   split at q
   .rename_i hc
    obtain⟨a,us,s1,s2,P⟩:=k.dictA h1;refine⟨env,B,A,d,k,h2,λv H1 J r1=>⟨.ref a,s1,env,B,A,y,k.mono J,h3,λu H2 j r2=>?_⟩⟩;obtain⟨b,e4,e5⟩:=Ba hk r2.pk;subst e4;have sm:=J.trans j;have k3:=k.mono sm;obtain⟨v0,o,m1,m2,m3,m4⟩:=k3.gx l h1;rw[s1] at m1;cases m1;obtain⟨a',h,W,z2,z3,z4,z5,z6⟩:=m2;cases W;have s:h=us:=by
     have:=sm _ _ s2;rw[z4] at this;exact HO.dT.inj (BC this)
    subst s;have n:Du h ks=none:=by
     have:=ZT (us:=h) (k:=ks);rw[P] at this;have h9:Lv kvs ks=false:=hc.1;unfold Lv at h9;rw[h9] at this;cases r:Du h ks with
     | none=>rfl
     | some _=>rw[r] at this;cases this
    have w:h.length=kvs.length:=by have:=DY List.length P;rwa [AF,AF] at this
    have ep:Ig h ks v=h++[(ks,v)]:=en v n;refine⟨a,W5 H2 a (.dT (h++[(ks,v)])),rfl,by rw[<- ep];exact PH.t (sm _ _ s2) e5 (by rw[w];exact hc.2),?_⟩;have hA:A a=true:=(m3 a z2).1;have m:Zr (av H2 A) (av (W5 H2 a (.dT (h++[(ks,v)]))) A):=λc o2 ec=>by
     obtain⟨y1,y2⟩:=Qs ec;have hc:c≠a:=by intro z;rw[z,hA] at y1;cases y1
     exact V7 (by rw[Zh hc];exact y2) y1
    have hg:M' X.K A (W5 H2 a (.dT (h++[(ks,v)]))) o (.dict (kvs++[(ks,d)])) (.ref a):=by
     refine⟨a,h++[(ks,v)],rfl,z2,by rw[AN];exact hc.2,Zp,by rw[BP,BP,P];rfl,?_⟩;rw[BP,BP];exact V3 (z6.mono m) (Q1 ((Rp.mono (Wp j) (show Rp X.K (av H1 A) d v from r1)).mono m))
    obtain⟨w1,w2⟩:=m4 a (.dT (h++[(ks,v)])) _ z2 trivial hg;exact q A _ σ ((I3.same sm).trans w1) w2
   .exact q.elim
  .exact q.elim
 .exact q.elim
noncomputable def iU(tk tv:TE):TE:=λσ H Q=>∀ p,H p=none->tk σ (W5 H p (.dT [])) λy H1=>tv σ H1 λx H2=>H2 p=some (.dT [])/\∃ ks b,y=.ref b/\H2 b=some (.tup (ks.map kV))/\Q (.ref p) (W5 H2 p (.dT [(ks,x)]))
theorem dZ{env:I0}{K:Type}[DecidableEq K]{knd:HeapKind prog w K}{Q:KN}
  (h:wpAny (model prog w) A (evalPairs (pairTrees [some k] [v] env pos)) (λvs s₁=>∃ b x ks,vs=[(.ref b,x)]/\knd.room A/\knd.is s₁.heap ks b/\s₁.heap.DictOfH knd s.heap.objs.size [] /\
   ∀ h',h'.DictOfH knd s.heap.objs.size (storedH [] ks b x)->SameBut s.heap.objs.size s₁.heap h'->Q (.ref s.heap.objs.size) { s₁ with heap:=h',toks:=s₁.toks+knd.draws ks }) E
   { s with heap:=s.heap.push { cls:=.type "dict",data:=.dict #[] } }) :
  wpAny (model prog w) A (eval (.Dict [some k] [v] pos) env) Q E s:=by
 rw[arm_eval_Dict,zip_pairTrees [some k] [v] env pos rfl rfl,dictDisplay_pairs (pairTrees [some k] [v] env pos) (by simp[pairTrees]) (by simp[pairTrees])];refine AA (CY (AA ?_));unfold subDict;refine AA (wpAny_alloc ?_);refine AA (BQ ?_);rw[AH (by simp[pairTrees])];refine AA (BF h (λvs s₁ h₁=>?_) λ_ _ e=>e);obtain⟨b,x,ks,rfl,hr,hk,hm,hq⟩:=h₁;refine BQ ?_;rw[JK];refine AA (AA (AA (wpAny_dictSet_heap hr hk hm (λh' a c=>AI ?_) (CZ _))));show wpAny _ _ (forIn ([]:Z (A1×A1)) PUnit.unit _) _ _ _;rw[List.forIn_nil];exact AI (AI (AI (AI (hq h' a c))))
theorem mX{tk:TE}(C:X.A.units+1<cLine)(hk:PE X k tk)(hv:PE X v tv):PE X (.Dict [some k] [v] pos) (iU tk tv):=by
 intro aa s σ H Q I q;have hn:=I.hok.fresh (AU s.heap.objs.size);have I1:=I.laid (a:=s.heap.objs.size) (o:=.dT []) (h':=s.heap.push { cls:=.type "dict",data:=.dict #[] }) (t':=s.toks) (λ_ _ q=>AE _ q) (AU _) (jo s.heap I.big);refine dZ (knd:=tupleKind (Vf X.prog X.w)) (pairTrees_cons_walk (Ws (hk aa _ σ _ _ I1 (q _ hn)) λu s1 ⟨y,H1,I2,m,Y⟩=>Ws (hv aa s1 σ H1 _ I2 Y) λu2 s2 ⟨x,H2,j,S,q2⟩=>pairTrees_nil_walk ?_));obtain⟨hp,ks,b,M,eb,J⟩:=q2;subst M;cases (show u=Value.ref b from m);obtain⟨z,hd,xs,rel,dd⟩:=VU j.hok hp;cases rel;refine⟨b,u2,ks,rfl,(show X.A.units<cLine by lia),Bp j.hok eb,dd,λh' W hs=>⟨.ref s.heap.objs.size,_,?_,rfl,J⟩⟩;obtain⟨q,es,ep,hq,h2,h3,h4,_,F⟩:=W;have r1:=(KT.put (H:=H2) (kvs:=[]) (xs:=[]) .nil ks eb S);refine Fo j (by rw[hp];exact JC) hs ⟨q,hq⟩ ⟨by show 1<=sizeLine;decide,hd,_,r1.keeps λc ys ec=>?_,q,es,ep,hq,h2,h3,h4,F⟩;rw[Zh (cG ec hp (λz=>nomatch z))];exact ec
noncomputable def Ct(i:Nat)(fk fv:Zzu):Ev->Fl:=λenv=>match fk env,fv env with
 | some y,some (.bl d)=>match OZ y with
  | some ks=>.next (env.set i (.gx (.dict [(ks,.bl d)])))
  | none=>.no
 | _,_=>.no
theorem iP(i:Nat){x:Str}{m:C3}{a:Pos}(hN:X.N.Nodup)(hi:X.N[i]?=some x)(hx:LL X.env.scope x)(C:X.A.units+1<cLine)(ha:Wn true X m f)(hb:Wn false X e g)
  (hs:swapsWith (.Dict [some m] [e] a) (some (.Name x al)) pos.line X.env=pure false:=by rfl)
  (hf:X.fn x=true\/X.env.scope.names.lookup x=some .local:=by ext) :
  Dl fr X (.Assign [.Name x al] (.Dict [some m] [e] a) pos) (Ct i f g):=(Nu hN hi hx (mX C ha hb) hs hf).weak λD σ H M=>by
 obtain⟨env,B,A,k,l,q⟩:=M;unfold Ct at q;split at q
 .rename_i y d h1 h2
  split at q
  .rename_i ks hk
   intro p hp;have h:Zr H (W5 H p (.dT [])):=Zr.new hp;refine⟨env,B,A,y,k.mono h,h1,λu H1 J r1=>⟨env,B,A,.bl d,(k.mono h).mono J,h2,λv H2 j r2=>⟨j _ _ (J _ _ Zp),?_⟩⟩⟩;obtain⟨b,e4,e5⟩:=Ba hk r1.pk;refine⟨ks,b,e4,j _ _ e5,?_⟩;have n:Zr H (W5 H2 p (.dT [(ks,v)])):=λc o ec=>by
    rw[Zh (λz=>by rw[z,hp] at ec;cases ec)];exact j _ _ (J _ _ (h _ _ ec))
   have h9:=k.putG l i (g:=.dict [(ks,.bl d)]) (v:=.ref p) (S:=λb=>decide (b=p)) n (λb hb=>by rw[AT hb];exact hp) (λb hb=>by rw[AT hb,Zp];trivial) ⟨p,[(ks,v)],rfl,by simp,by show 1<=sizeLine;decide,Zp,rfl,Q1 ?_⟩
   .exact q _ _ _ h9.1 h9.2
   .rw[(show Rp X.K (av H2 A) (.bl d) v from r2) |> Oq];exact Tf
  .exact q.elim
 .exact q.elim
end
end L2
variable{Q:L2.VK}{gs:L2.Zzv}{lo:Int}
namespace L2
open PySem PySem.Spec PyProof.Rows PySem.W
section
variable{X:Cx}{h₀:ExceptHandler}{hs:Z ExceptHandler}
variable{a b c:C3}{f1 f2 f3:Zzu}{F1 F2:Dat->Dat->C1 Dat}{m1 m2 m3:Bool}
noncomputable def PQ(i:Nat)(f:Zzu):Ev->Fl:=λenv=>match env[i]?,f env with
 | some (.fz (.int x)),some (.int y)=>.next (env.set i (.fz (.int (x+y))))
 | _,_=>.no
theorem eJ(i:Nat){x:Str}(hN:X.N.Nodup)(hi:X.N[i]?=some x)(hx:LL X.env.scope x)(he:Wn m1 X e f1)
  (hf:X.fn x=true\/X.env.scope.names.lookup x=some .local:=by ext):Dl fr X (.AugAssign (.Name x al) .Add e pos) (PQ i f1):=(cw hN hi hx he eE hf).weak λD σ H M=>by
 obtain⟨env,B,A,k,l,q⟩:=M;unfold PQ at q;split at q
 .rename_i n m h1 h2
  obtain⟨own,W,z2,z4⟩:=k.sl;obtain⟨w,Y,v,e1,e2⟩:=z4 i _ h1;subst e1;have ev:v=.int n:=M5 e2;subst ev;refine⟨.int n,Y,env,B,A,.int m,k,h2,λy H1 s1 r1=>?_⟩;refine⟨n,m,rfl,r1.pk.int,?_⟩;exact q A H1 _ (I3.same s1) ((k.mono s1).put i W9)
 .exact q.elim
theorem mE(i:Nat){x:Str}(C:X.A.units+1<cLine)(he:Wn true X e f1)(hN:X.N[i]?=some x:=by rfl)(hv:LU X.env.scope x:=by ext)(hd:C2 x:=by decide)(ae:(x==("__classdict__" : Str))=false:=by decide)
  (hm:behindInMarks .In (.Name x p)=false:=by rfl):MB X (.Compare e [.In] [.Name x p] pos) (dB (PV false i f1)):=(kv (kC C he (Jm hN hv hd ae)) hm).weak λσ H Q M=>by
 obtain⟨env,R,A,d,k,e1,q⟩:=M;have e1:=No e1;unfold PV at e1;split at e1
 .rename_i kvs c h1 h2
  obtain⟨ks,hk,e3⟩:=map_some e1;have e4:=Dat.bl.inj e3;subst e4;obtain⟨a,us,s1,s2,P⟩:=k.dictA h1;refine⟨env,R,A,c,k,h2,λy H1 sm r1=>⟨.ref a,s1,a,Du us ks,rfl,?_,_,rfl,?_⟩⟩
  .obtain⟨b,e4,e5⟩:=Ba hk r1.pk
   subst e4;exact QC.t (sm _ _ s2) e5
  .rw[ZT,P]
   exact q H1 sm
 .cases e1
end
end L2
namespace L2
open PySem PySem.Spec PyProof.Rows
section
variable{κ:Type}[DecidableEq κ]{kd:HeapKind prog w κ}
end
section
variable{X:Cx}{F:Z Dat->Rs}
noncomputable def G8(F:Z Dat->Rs)(fs:Zzv):Ev->Fl:=λenv=>match fs env with
 | none=>.no
 | some ds=>match F ds with
  | .ok _=>.next env
  | .exc c fl=>.exc env c fl
  | .no=>.no
theorem kB(he:PE X e (PU X aL F fs))(hs:swapsWith e none pos.line X.env=pure false:=by rfl):Dl fr X (.Expr e pos) (G8 F fs):=(Jr he hs).weak λD σ H M=>by
 obtain⟨env,B,A,k,l,q⟩:=M;unfold G8 at q;split at q
 .exact q.elim
 rename_i ds e1;refine⟨env,B,A,ds,k,e1,?_⟩;split at q
 .rename_i d hd
  try rw[hd]
  exactλv H' s r=>q A H' σ (I3.same s) (k.mono s)
 .rename_i c fl hd
  try rw[hd]
  exactλA' H' σ' s k' _=>q A' H' σ' s k'
 .exact q.elim
end
end L2
namespace L2
open PySem PySem.Spec PyProof.Rows PySem.W
section
variable{X:Cx}{b:Bool}
theorem SP.unpls{D:KR}{f:Flow}(h:SP (X.pls b) aa D f s):SP X aa D f s:=by
 cases f with
 | next=>obtain⟨σ',H',I,q⟩:=h;exact⟨σ',H',I.unpls,q⟩
 | brk=>obtain⟨σ',H',I,q⟩:=h;exact⟨σ',H',I.unpls,q⟩
 | cont=>obtain⟨σ',H',I,q⟩:=h;exact⟨σ',H',I.unpls,q⟩
 | ret u=>obtain⟨v,σ',H',I,r,q⟩:=h;exact⟨v,σ',H',I.unpls,r,q⟩
theorem Dq.unpls{st:Z Df}{t:TS}(h:Dq (X.pls b) st t):Dq X st t:=λaa s σ H D I J =>
 BF (h aa s σ H D I.pls J) (λ_ _ q=>q.unpls) λ_ _ z=>z
end
section
variable{K:Frag}
noncomputable abbrev iE(P:Fn)(w:Gf)(K:J1)(mg:KP)(base:H3)(N:Z Str)(ah:Str)(scope:IA)(f:A2)(cd:A1)(A:C0)(outer:Z I0)(s:A4)(H:Hp)(E:XK):Cx :=
 (Qf (LQ P w base true) P w K mg base N ah scope f cd A outer s H E).pls true
theorem mU{x:Str}{st:Df}{N:Z Str}(D:NU K mg x st)(S:FnScope N ps (Z9 st))
  (j:dV x st ps)
  (hb:∀ (f:A2) (ai:A1) (A:C0) (outer:Z I0) (s:A4) (H:Hp) (E:XK),I' k (A.deeper (envOfC x (Z9 st) s.heap.objs.size f ai))->Xc fr (iE P w K mg base N x (Z9 st) f ai A outer s H E) (Yn st) g) :
  ME P w K mg base (k+1) x ps fr (W2 N.length ps.length g) true:=by
 have ag:ps.length<=N.length:=by have:=DY List.length S.pre;rw[CP] at this;lia
 obtain⟨f,fd,F,hm⟩:=D.ex;refine⟨⟨f,fd,F.okX S (λvs H Q E h=>h.1) λai A outer s H vs Q E hr ⟨hl,ds,R,mu,r,q⟩=>⟨_,Dq.unpls (hb f ai A outer s H E hr),?_⟩,hm,F.kp,F.binds j⟩,λds h=>F0 h⟩;unfold W2 at q;split at q
 .rename_i hl
  refine⟨Vv N.length ds,⟨H,R,true⟩,R,Iu mu r (by lia),rfl,?_⟩;split at q
  .rename_i d' e
   rw[e];exactλv H' s r n=>q v H' s r n
  .rename_i env e
   rw[e];exactλA' H' σ' s k=>q .non H' k.h0 Pg (λ_=>trivial)
  .rename_i env c fs e
   rw[e];exactλA' H' σ' st k aa s' e C dct I hc x hf ac=>P9 I.unpls x rfl ac (q C dct H' k.h0 hc (hf.mono (Q6 k.ra)))
  .exact q.elim
 .exact q.elim
structure ML (P:Program) (w:World) (K:J1) (mg:KP) (base:Heap) (k:Nat) (x:Str) (ps:List Str) (fr:Bool) (F:List Dat->Rs):Prop where
 ex:∃ f fd,KS P w K mg base Ec k f fd ps (TB K fr ps.length F)/\mg x=some (.ref f)/\PySem.W.keepIn K (.ref f)=true/\Jy K fd ps []
 len:∀ ds d,F ds=.ok d->ds.length=ps.length
theorem ML.d{x:Str}{F:Z Dat->Rs}(C:ML P w K mg base k x ps fr F):NG P w K mg base k x ps fr F:=by
 obtain⟨f,fd,Ff,r⟩:=C.ex;exact⟨⟨f,fd,Ff.x,r⟩,C.len⟩
theorem LM.okN{x:Str}{st:Df}{f:A2}{N:Z Str}(F:LM K x ah st f fd)(S:FnScope N ps (Z9 st))(len:∀ vs H Q E,sp vs H Q E->vs.length=ps.length)
  (a:∀ (ai:A1) (A:C0) (outer:Z I0) (s:A4) (H:Hp) (vs:Z V) (Q:VK) (E:XK),J3 k (A.deeper (envOfC ah (Z9 st) s.heap.objs.size f ai))->LY (D6 Ec P w K mg base N ah (Z9 st) f ai A outer s H E).nox->sp vs H Q E ->
   ∃ t,Dq (D6 Ec P w K mg base N ah (Z9 st) f ai A outer s H E).nox (Yn st) t/\t { nx:=λ_ H'=>Q .non H',rt:=Q } (J' N vs) H):KS P w K mg base Ec (k+1) f fd ps sp:=by
 obtain⟨oc,od,kV,ap,pm,an,ai,ct,j,rfl,lk,ae⟩:=F.ex;refine hQ lk ae S len λA outer s H vs Q E hr hk Y=>?_
 obtain⟨t,h,q⟩:=a ai A outer s H vs Q E hr (show LY (D6 Ec P w K mg base N ah (Z9 st) f ai A outer s H E).nox from⟨hk,rfl⟩) Y;exact⟨t,h.nox,q⟩
theorem hP{x:Str}{st:Df}{N:Z Str}(D:NU K mg x st)(S:FnScope N ps (Z9 st))
  (j:dV x st ps)
  (hb:∀ (f:A2) (ai:A1) (A:C0) (outer:Z I0) (s:A4) (H:Hp) (E:XK),J3 k (A.deeper (envOfC x (Z9 st) s.heap.objs.size f ai))->LY (D6 Ec P w K mg base N x (Z9 st) f ai A outer s H E).nox->Xc fr (D6 Ec P w K mg base N x (Z9 st) f ai A outer s H E).nox (Yn st) g) :
  ML P w K mg base (k+1) x ps fr (W2 N.length ps.length g):=by
 have ag:ps.length<=N.length:=by have:=DY List.length S.pre;rw[CP] at this;lia
 obtain⟨f,fd,F,hm⟩:=D.ex;refine⟨⟨f,fd,F.okN S (λvs H Q E h=>h.1) λai A outer s H vs Q E hr hh zz=>⟨_,hb f ai A outer s H E hr hh,?_⟩,hm,F.kp,F.binds j⟩,λds d h=>bt h⟩;obtain⟨hl,ds,R,d,mu,r,m,q⟩:=zz;exact WR ag mu r m q
end
section
variable{X:Cx}{F:Z Dat->Rs}{x:Str}
theorem bK(C:ML X.prog X.w X.K X.mg X.base k x ps fr F)(hr:J3 k X.A)(hh:QA X)(ha:Ps false X (e::es) fs)(hg:Gl X x:=by rfl)
  (g:C2 x:=by decide) (he:Z0 X.env e es:=by rfl) (ag:Z1 pos X.env es:=by rfl) :
  Wn m X (.Call (.Name x p) (e::es) [] pos) (Zx F fs):=by
 obtain⟨f,fd,Ff,hm,hk,hb⟩:=C.ex;have ah:=i3 (dvs:=[]) (ds:=[]) (E:=E0) Ff hr hh hg hm hk hb .nil ZV ha g he ag (p:=p);have a:PE X (.Call (.Name x p) (e::es) [] pos) (YL (TB X.K fr ps.length F) (λσ H Q=>∃ env R A ds,C' X.K R A H σ env/\fs env=some ds/\∀ vs H',Zr H H'->Cb false X.K A H' ds vs->Q vs H')):=λaa s σ H Q I h=>ah aa s σ H Q I (by
  unfold QU;simp only[FJ];exact h)
 refine Wn.any (a.weak λσ H Q zz=>?_);obtain⟨env,R,A,d,k,Y,q2⟩:=zz;obtain⟨ds,e1,e2⟩:=bind_some Y;have e3:=Cs e2;refine⟨env,R,A,ds,k,e1,λvs H1 s1 rs=>⟨by rw[Y6 rs.rps];exact C.len ds d e3,ds,A,d,k.mu.mono s1,rs.rps,e3,λv H' s r _=>q2 v H' (s1.trans s) r⟩⟩
end
structure XMakeN (P:Program) (w:World) (K:Frag) (mg:KP) (base:Heap) (k:Nat) (c:Str) (p:Nat) (G:List Dat->Option (List (Str×XD))):Prop where
 ex:∃ C fI D fd ps,Vq K c C/\mg c=some (.ref C)/\keepIn K (.ref C)=true/\Ri K C fI D=true/\KW K C/\isFn K (.ref fI)=true/\KS P w K mg base Ec k fI fd ps (MX K C p G)/\Jy K fd ps []
 len:∀ ds fl,G ds=some fl->ds.length=p
 few:p<=10
variable{P:Str->A2->Prop}{f e:A2}{k1 k2:Ev->Fl}{b1 b2 i:Df}{T1 T2 T:Str}
theorem XMakeN.x{P:Fn}{w:Gf}{K:Frag}{mg:KP}{base:H3}{k:Nat}{c:Str}{p:Nat}{G:Z Dat->C1 (Z (Str×XD))}(M:XMakeN P w K mg base k c p G):KY P w K mg base k c p G:=by
 obtain⟨C,fI,D,fd,ps,h1,h2,h3,h4,F,S,m,r⟩:=M.ex;exact⟨⟨C,fI,D,fd,ps,h1,h2,h3,h4,F,S,m.x,r⟩,M.len,M.few⟩
section
variable{P:Fn}{K:Frag}
theorem bZ{x:Str}{st:Df}{D:A2}{f:Str}(F:LM K "__init__" ah st fI fd)(S:FnScope ["self",x] ["self",x] (Z9 st))(hx:Ri K C aA D=true)(xc:KW K C)(hf:findIn K (.ref C) f=some none)
  (hb:∀ (ai:A1) (A:C0) (outer:Z I0) (s:A4) (H:Hp) (E:XK),J3 k (A.deeper (envOfC ah (Z9 st) s.heap.objs.size fI ai)) ->
   Dq (D6 Ec P w K mg base ["self",x] ah (Z9 st) fI ai A outer s H E).nox (Yn st) (NW (RJ (QQ K (E8 (Im 0) (E8 (B1 r) OD)))) (TR K (Im 0) (R' (VA K) (E8 (Im 1) OD)) f)))
  (hj:∀ (H:Hp) (e a:A2) (ns:Z Int),SL K H a (ns.map V.int)->K5 ns->NV 0 [some (.ref e),some (.ref a)] H r) :
  KS P w K mg base Ec (k+1) fI fd ["self",x] (MX K C 1 (gW f)):=by
 refine F.okN S (λvs H Q E zz=>by obtain⟨e,ws,ds,R,fl,ev,hl,_⟩:=zz;rw[ev,BJ,hl];rfl) λai A outer s H vs Q E hr hh zz=>⟨_,hb ai A outer s H E hr,?_⟩;obtain⟨e,ws,ds,R,fl,ev,hl,he,mu,re,rs,hG,q⟩:=zz
 subst ev;unfold gW at hG;split at hG
 .rename_i xs
  obtain⟨ns,hn,hG⟩:=bind_some hG;split at hG
  .rename_i hs
   cases hG;have hs:=F9 hs;obtain⟨v,r',e1,r1,r2⟩:=Y0 rs;have e2:=Ym r2;subst e1 e2;obtain⟨a,us,e3,hS,M⟩:=Su r1;rw[Mh hn] at M;have e4:=U0 M;subst e3 e4;have d:SL K H a (ns.map V.int):=Wg.sl hS;show NW _ _ _ [some (.ref e),some (.ref a)] H;refine⟨.ref e,rfl,?_⟩;refine hj H e a ns d hs Str.empty _ (by decide) λz=>?_
   refine⟨e,C,none,.str z,aA,D,rfl,he,hx,?_⟩;refine⟨.ref a,rfl,a,ns.map V.int,rfl,.inl d.sq,λl n=>?_⟩;have B:l≠e:=λz=>by rw[z,he] at n;cases n
   refine⟨.ref e,rfl,e,C,none,aA,D,rfl,by rw[Zh (AR B)];exact he,hx,xc,hf,λdx m p=>?_⟩;have u:dx≠l:=λz=>by rw[z,Zp] at m;cases m
   have J:H dx=none:=by rw[Zh u] at m;exact m
   have N:∀ {b:A2},H b=none->R b=false:=λ{b} z=>by
    cases y:R b with
    | false=>rfl
    | true=>obtain⟨o,ho⟩:=(mu b y).some;rw[z] at ho;cases ho
   refine q _ (some dx) (λc o hc h=>?_) ?_ ?_ (bg J Zp λg a hm=>by simp at hm;obtain⟨_,rfl⟩:=hm;exact⟨n,_,by rw[Zh (AR u),Zh B,Zp]⟩)
   .have c1:c≠dx:=λz=>by rw[z,J] at h;cases h
    have c2:c≠l:=λz=>by rw[z,n] at h;cases h
    rw[Zh c1,Zh hc,Zh c2];exact h
   .rw[Zh (AR p),Zp]
   .refine⟨[(f,.ref l)],V7 Zp (N J),λg=>?_⟩
    by_cases eg:g=f
    .subst eg
     refine .inr ⟨.nums ns,.ref l,by simp[List.lookup],by simp[List.lookup],l,rfl,.inl (.inl (V7 ?_ (N n))),?_⟩
     .rw[Zh (AR u),Zh B,Zp]
     .exact EJ (Tq (by have:=hs.1;lia))
    .have e':(g==f)=false:=by simpa using eg
     exact .inl ⟨by simp[List.lookup,e'],by simp[List.lookup,e']⟩
  .cases hG
 .cases hG
end
theorem fU{K:Frag}{A:AS}(h:Fw K H dct fl)(n:X3 H0 H dct)(t:∀ b,H0 b=none->A b=false):Fw K (av H A) dct fl:=by
 cases dct with
 | none=>exact h
 | some dx =>
  obtain⟨j,e1,e2⟩:=h;refine⟨j,V7 e1 (t _ (n dx rfl).1),λf=>(e2 f).imp id λ⟨d,v,a,b,c⟩=>⟨d,v,a,b,?_⟩⟩;cases d with
  | int i=>exact c
  | nums is =>
   obtain⟨a',W,z2,z3⟩:=c;subst W;have hn:=t _ (((n dx rfl).2 j f a' e1 b).1);refine⟨a',rfl,?_,z3⟩;rcases z2 with(z | ⟨o,z⟩) | z
   .exact .inl (.inl (V7 z hn))
   .exact .inl (.inr ⟨o,V7 z hn⟩)
   .exact .inr z
noncomputable def Hy(F:Z Dat->Rs):Z Dat->Rs:=λds=>match F ds with
 | .ok d=>if P' d=true then .ok d else .no
 | r=>r
section
variable{X:Cx}{F:Z Dat->Rs}{x:Str}{e:C3}
theorem d9(C:ME X.prog X.w X.K X.mg X.base k x ps fr F pl)(hr:I' k X.A)(ha:Ps true X (e::es) fs)(hg:Gl X x:=by rfl)
  (g:C2 x:=by decide) (he:Z0 X.env e es:=by rfl) (ag:Z1 pos X.env es:=by rfl) (hp:X.pl=true->pl=true:=by first | exactλ_=>rfl | exactλz=>nomatch z) :
  PE X (.Call (.Name x p) (e::es) [] pos) (PU X fr (Hy F) fs):=by
 obtain⟨f,fd,Ff,hm,hk,hb⟩:=C.ex;intro aa s σ H Q I ⟨env,B,A,ds,kk,e1,q⟩;refine CV (Uk I hg hm ?_ g);refine GN (h₀:=X.base) I.ok.mod.kin hk (Ws (ha pos aa s σ H (λvs H1=>Zr H H1/\Wj X.K H1 ds vs) I ⟨env,B,A,ds,kk,e1,λvs H1 s1 rs=>⟨s1,rs.full⟩⟩) λus s1 ⟨vs,H1,I1,r,sm,rs⟩=>⟨I1.kIn,?_⟩) he ag;have ae:F ds≠.no:=λz=>by unfold Hy at q;rw[z] at q;exact q
 have hl:us.length=ps.length:=by rw[<- r.length,Y6 rs];exact C.len ds ae
 let E:XK:=λcls dct H'=>∃ c fl C,F ds=.exc c fl/\cls=.ref C/\Vq X.K c C/\Zr H1 H'/\Fw X.K H' dct fl
 refine FK (FD (Ff.run X.A X.stack s1 H1 ⟨us,[]⟩ us vs Q E hr I1.env0 (by simpa using hb s1 us I1.kIn (by simpa using hl)) r ⟨by rw[Y6 rs];exact C.len ds ae,ds,no,(λa h=>by cases h),by rw[SJ];exact rs,?_⟩) λS s' hq=>?_)
 .unfold RO
  split
  .rename_i d hd
   unfold Hy at q;rw[hd] at q;dsimp only at q;split at q
   .rename_i d' hq
    split at hq
    .rename_i n
     cases hq;exactλv H' s2 r2 _=>q v H' (sm.trans s2) (by rw[SJ] at r2;exact Rp.pure (kk.mu.mono (sm.trans s2)) n r2)
    .cases hq
   .rename_i hq
    split at hq<;>cases hq
   .exact q.elim
  .rename_i c fl hd
   exactλC dct H' s2 hc hf=>⟨c,fl,C,hd,rfl,hc,s2,by rw[SJ] at hf;exact hf⟩
  .rename_i hd
   exact ae hd
 .cases S with
  | error ev =>
   obtain⟨ex,C,dct,T,H',c2,rfl,ho,l,un,hok,h1,h2,h3,h4,ht,M,ac,c,fl,i,m,D,hc,j,hf⟩:=hq;cases D;unfold Hy at q;rw[m] at q;have I2:F' X aa σ H' s':=I1.call' (ch:=[]) ho un hok l (λb z=>absurd z (by simp));have sz:X.s₀.heap.objs.size<=s1.heap.objs.size:=I1.sz;have np:∀ {a:A2},s1.heap.objs.size<=a->∀ p∈X.pn++aa,p.1≠a:=λ{a} ha p hp z=>by
    have:=(I1.pin p hp).1;rw[z] at this;exact absurd (AQ this) (EQ.mpr ha)
   have t:∀ b,H1 b=none->A b=false:=λb z=>by
    cases y:A b with
    | false=>rfl
    | true=>obtain⟨o,ho⟩:=(kk.mu.mono sm b y).some;rw[z] at ho;cases ho
   exact q A H' σ (I3.same (sm.trans j)) (kk.mono (sm.trans j)) rfl aa s' ex C dct I2 hc ⟨BA sz h1,h3,.inr ⟨T,c2,BA sz h2,h4,np h2,ht,M.x hp⟩,np h1⟩ (fU hf ac t) (ac.mono λb z=>kk.h0.none (sm.none z))
  | ok fl =>
   cases fl with
   | ret u=>exact I1.after hq
   | next=>exact False.elim hq
   | brk=>exact False.elim hq
   | cont=>exact False.elim hq
end
theorem J3.make(r:J3 (k+1) A)(C:A2)(us:Z A1)(kw:Z (Str×A1)):J3 k (A.under (.builtin "type.__call__" ⟨.ref C::us,kw⟩)) :=
 ⟨by have:=r.dp;rw[O2];lia,by have:=r.un;rw[P5];lia,r.gd⟩
noncomputable abbrev Cx.inR(X:Cx)(pn:KL)(e:A2):Cx:={ X with A:=X.A.mark (some (.ref e)),calm:=false,pn:=pn }
theorem VV{X:Cx}(i:X.stack=X.env::X.outer/\X.env.frame=some X.env.locals)(hm:(e,oe)∈pn)(hd:oe.data=.fields ve)(h2:ve[2]?=some .none):O' (X.inR pn e):=λaa σ H s I=>by
 obtain⟨a,b,c,d,_⟩:=I.pin (e,oe) (BZ _ hm);refine .inr ⟨e,oe,ve,rfl,a,hd,h2,b,λz=>?_⟩;have z:e∈Dt X.stack:=z;rw[i.1] at z;unfold Dt at z;rw[EY,i.2] at z;rcases BK.mp z with z | z
 .exact c z
 .exact d z
section
variable{X:Cx}{e:C3}{aR:Pos}{n:Nat}{c:Str}
theorem gH{A:AS}(M:XMakeN X.prog X.w X.K X.mg X.base k c n G)(hr:J3 (k+1) X.A)(hh:QA X)
  (I:F' X aa σ H s) (kk:C' X.K B A H σ env) (r:Y5 vs us) (rs:Wj X.K (av H A) ds vs) (hG:G ds=some fl) {C fI D:A2} (af:Vq X.K c C) (hx:Ri X.K C fI D=true) {fd:D1} {ps:Z Str} (ai:isFn X.K (.ref fI)=true) (F:KS X.prog X.w X.K X.mg X.base Ec k fI fd ps (MX X.K C n G)) (hb:Jy X.K fd ps []) :
  wpAny (model X.prog X.w) X.A (call (.ref C) us) (λv s'=>∃ ex t dct H',v=.ref ex/\s'.heap.get? ex=some { cls:=.ref C,dict:=dct,data:=.fields #[.ref t,.none,.none,.none,.bool false,.none] }/\F' X aa σ H' s'/\Zr H H'/\X.s₀.heap.objs.size<=ex/\H' ex=none/\(∀ p∈X.pn++aa,p.1≠ex)/\Fw X.K (av H' A) dct fl/\s.heap.objs.size<=ex/\X3 B.H₀ H' dct) E s:=by
 obtain⟨nm,qn,N,bs,sn,sub,ab,col,dd,k0,k1,k2,k3,k5,mN,R,hN,hi,T⟩:=Nx I.kIn hx;have f:∃ l,s.heap.get? fI=some l/\l.cls=.type "function" := by
  have:=DI.mp ai;obtain⟨l,h1,h2⟩:=Option.map_eq_some_iff.mp this;exact⟨l,I.kIn _ _ h1,h2⟩
 obtain⟨l,f,m⟩:=f;have ac:us.length<=sizeLine:=by
  have h1:=r.length;have h2:=Y6 rs;have h3:=M.len ds fl hG;have h4:=M.few;exact EJ (Tq (by lia))
 obtain⟨hp,g,d,tk,os⟩:=s;refine Os (hrest:=ac) DX (by decide) DX T R hN hi f m λh' ex i hm=>?_
 obtain⟨t0,P,_,_⟩:=hm.there;have aj:H ex=none:=I.hok.fresh i;have I2:F' X aa σ (W5 H ex (.ext (Ez ex C none))) ⟨h',g,d,tk,os⟩:=I.laid (h':=h') (t':=tk) (a:=ex) (o:=.ext (Ez ex C none)) hm.keeps i (Bg ⟨t0,P⟩);have h:A ex=false:=by
  cases z:A ex with
  | false=>rfl
  | true=>obtain⟨o,ho⟩:=(kk.mu ex z).some;rw[aj] at ho;cases ho
 have J:Zr H (W5 H ex (.ext (Ez ex C none))):=Sy aj;let y:VK:=λv H'=>v=.non/\∃ dct,(∀ c o,c≠ex->W5 H ex (.ext (Ez ex C none)) c=some o->H' c=some o)/\H' ex=some (.ext (Ez ex C dct))/\Fw X.K (av H' A) dct fl/\X3 (W5 H ex (.ext (Ez ex C none))) H' dct
 have Y:MX X.K C n G (.ref ex::vs) (W5 H ex (.ext (Ez ex C none))) y E0:=⟨ex,vs,ds,A,fl,rfl,by rw[Y6 rs];exact M.len ds fl hG,Zp,kk.mu.mono J,h,rs.mono (Wp J),hG,λH' dct h1 h2 h3 h4=>⟨rfl,dct,h1,h2,h3,h4⟩⟩;have ao:(Value.ref ex::us).length=ps.length:=by
  have e1:=F.len _ _ _ _ Y;have e2:=r.length;rw[BJ] at e1 ⊢;lia
 refine FK (FD (F.run _ X.stack ⟨h',g,d,tk,os⟩ _ ⟨Value.ref ex::us,[]⟩ (Value.ref ex::us) (V.ref ex::vs) y E0 (hr.make C us []) (hh _ _ _ _ I2) (I2.env0.make C us []) (by simpa using hb _ (Value.ref ex::us) I2.kIn (by simpa using ao)) (.cons rfl r) Y) λS s' hq=>?_);cases S with
 | error e=>exact False.elim hq
 | ok ax =>
  cases ax with
  | ret u =>
   obtain⟨v,H',j,rv,ev,dct,h1,h2,h3,h4⟩:=I2.after hq;subst ev;have eu:u=.none:=rv;subst eu;refine⟨rfl,?_⟩;obtain⟨⟨t1,ap⟩,_,_⟩:=(show We X.prog X.w H' s'.heap ex (.ext (Ez ex C dct)) from j.hok ex _ h2);have I4:=j.drop h2;have sm:Zr H (LX H' ex):=λb o q=>by
    have hb:b≠ex:=λz=>by rw[z,aj] at q;cases q
    rw[D7 hb];exact h1 b o hb (by rw[Zh hb];exact q)
   refine⟨ex,t1,dct,LX H' ex,rfl,ap,I4,sm,BA I.sz i,Hr,λp hp z=>?_,?_,i,WQ h4 ⟨_,h2⟩ kk.h0⟩
   .have:=(I.pin p hp).1
    rw[z] at this;exact absurd (AQ this) (EQ.mpr i)
   .exact h3.of_ne (e:=ex) (V7 h2 h) λc o hc q=>V7 (by rw[D7 hc];exact(Qs q).2) (Qs q).1
  | next=>exact False.elim hq
  | brk=>exact False.elim hq
  | cont=>exact False.elim hq
theorem ZG(M:XMakeN X.prog X.w X.K X.mg X.base k c n G)(hr:J3 (k+1) X.A)(hh:O' X)(ha:Ps false X (e::es) fs)(hn:X.A.handled≠none)(aj:X.pl=false:=by rfl)(i:X.stack=X.env::X.outer:=by rfl)(hg:Gl X c:=by rfl)(g:C2 c:=by decide)
  (he:Z0 X.env e es:=by rfl) (ag:Z1 ak X.env es:=by rfl) {kn:Nat}:Dl fr X (.Raise (some (.Call (.Name c p) (e::es) [] ak)) (some (.Constant .none kn aR)) pos) (U9 c G fs):=by
 intro aa s σ H D I ⟨env,B,A,kk,l,q⟩;obtain⟨C,fI,D',fd,ps,af,hm,a,hx,xc,ai,F,hb⟩:=M.ex;unfold U9 at q;split at q
 .exact q.elim
 rename_i fl P;obtain⟨ds,e1,hG⟩:=bind_some P;obtain⟨nm,qn,N,bs,sn,sub,ab,col,dd,k0,k1,k2,k3,k5,mN,R,hN,hi,T⟩:=Nx I.kIn hx;obtain⟨h,Y⟩:∃ h,X.A.handled=some (.ref h):=by
  rcases hh _ _ _ _ I with z | ⟨h,_,_,z,_⟩
  .exact absurd z hn
  .exact⟨h,z⟩
 have ah:wpAny (model X.prog X.w) X.A (eval (.Call (.Name c p) (e::es) [] ak) X.env) (λv s'=>∃ ex t dct H',v=.ref ex/\s'.heap.get? ex=some { cls:=.ref C,dict:=dct,data:=.fields #[.ref t,.none,.none,.none,.bool false,.none] }/\F' X aa σ H' s'/\Zr H H'/\X.s₀.heap.objs.size<=ex/\H' ex=none/\(∀ p∈X.pn++aa,p.1≠ex)/\Fw X.K (av H' A) dct fl/\h≠ex/\X3 B.H₀ H' dct) X.xe s:=by
  refine CV (Uk I hg hm ?_ g);refine callWith_K (h₀:=X.base) I.ok.mod.kin a (Ws (ha ak aa s σ H (λvs H1=>Zr H H1/\Wj X.K (av H1 A) ds vs) I ⟨env,B,A,ds,kk,e1,λvs H1 s1 rs=>⟨s1,rs.rps⟩⟩) λus s1 ⟨vs,H1,I1,r,sm,rs⟩=>⟨I1.kIn,?_⟩) he ag;refine BF (gH (E:=X.xe) M hr hh.c I1 (kk.mono sm) r rs hG af hx ai F hb) (λv s' ⟨ex,t,dct,H',W,z2,z3,z4,z5,z6,z7,z8,z9,al⟩=>⟨ex,t,dct,H',W,z2,z3,sm.trans z4,z5,z6,z7,z8,λz=>?_,al⟩) λ_ _ z=>z
  rcases hh _ _ _ _ I1 with y | ⟨h',_,_,y,y1,_⟩
  .exact hn y
  .rw[Y] at y
   cases y;have:=AQ y1;rw[z] at this;exact absurd this (EQ.mpr z9)
 obtain⟨o,lk⟩:∃ o,X.K.lookup C=some o:=by
  unfold Ri at hx;split at hx
  .rename_i ho;exact⟨_,ho⟩
  .cases hx
 have e2:=(I.kIn _ _ lk).symm.trans R;cases e2;rw[JT];refine AA (CY (dk (C:=C) (nm:=nm) (q:=qn) (N:=N) (bs:=bs) (bm:=.ref D'::Jw) (hdct:=true) (sn:=sn) (sub:=sub) (ab:=ab) (col:=col) (dd:=dd) (k0:=k0) (k1:=k1) (k2:=k2) (k3:=k3) (k5:=k5) (newId:="ValueError.__new__") (by simp[Jw]) Y (AA (BF ah (λv s₃ h₃=>AA (CY (AI ?_))) λ_ _ x=>x))));obtain⟨ex,t,dct,H',rfl,hex,j,sm,lo,un,pe,hf,ae,ac⟩:=h₃;obtain⟨oh,vh,d,u,am⟩:∃ oh vh,s₃.heap.get? h=some oh/\oh.data=.fields vh/\vh[2]?=some .none:=by
  rcases hh _ _ _ _ j with y | ⟨h',oh,vh,y,y1,y2,y3,_⟩
  .exact absurd y hn
  .rw[Y] at y
   cases y;exact⟨oh,vh,y1,y2,y3⟩
 have nloc:ex≠X.env.locals/\∀ y c,X.env.cells.lookup y=some c->c≠ex:=by
  refine⟨λz=>?_,λy c hc z=>?_⟩
  .obtain⟨m,⟨o',es,ep,f,Q,_⟩,_⟩:=j.loc
   rw[z,f] at hex;cases hex;cases Q
  .obtain⟨v,o',f,Q⟩:=j.cell y c hc
   rw[z,hex] at f;cases f;cases Q
 refine⟨ex,.ref t,dct,rfl,j.kIn _ _ lk,hex,ae,⟨oh,vh,d,u,am⟩,AA (wpAny_Constant_none (AA (CY (AI ⟨rfl,rfl,λh' hk ap hz=>?_⟩))))⟩;have J:∀ b∈Dt (X.env::X.outer),H' b=none:=by rw[<- i];exact j.stkFree
 have kp:X0 (X.env::X.outer) [ex] s₃.heap h':=X0.of λb o hb hc=>(hk b (by simpa using hc)).trans hb
 have S:∀ b∈[ex],b=ex:=λb hb=>AJ.mp hb
 have I4:F' X aa σ H' { s₃ with heap:=h' }:=j.call' (s':={ s₃ with heap:=h' }) (ch:=[ex]) rfl (by rw[i];exact UL kp λb hb=>by rw[S b hb];exact un) (Hm j.hok kp (λb hb=>by rw[S b hb];exact un) J) j.bare λb hb=>by rw[S b hb];exact⟨.inr lo,nloc.1,nloc.2,pe⟩
 exact q A H' σ (I3.same sm) (kk.mono sm) aa { s₃ with heap:=h' } ex C dct I4 af ⟨lo,un,.inl ⟨_,_,ap,rfl,rfl,rfl,rfl,.inr ⟨aj,.inr ⟨h,rfl,Y⟩⟩⟩,pe⟩ hf ac
end
noncomputable def OX(K:Frag)(mg:KP)(T:Str)(known:Z Str):Prop:=∃ D,mg T=some (.ref D)/\∀ c C,c∈known->Vq K c C->exmOne K (.ref C) (.ref D)=some (decide (c=T))
noncomputable def RE(known:Z Str)(T1 T2:Str)(g k1 k2:Ev->Fl):Ev->Fl:=NL g λenv' c fl=>if c∈known then(if c=T1 then k1 env' else if c=T2 then k2 env' else .no) else .no
theorem F'.ofR{X:Cx}(ok:X.Ok)(hs:∀ p∈X.pn++aa,p∈pn)(I:F' (X.inR pn e) pins' σ H s):F' X aa σ H s :=
 ⟨ok,I.os,I.bare,I.base,I.loc,I.cell,I.free,I.freeC,λp hp=>I.pin p (BZ _ (hs p hp)),I.hok,I.len⟩
theorem SP.ofR{X:Cx}{D:KR}{f:Flow}(ok:X.Ok)(hs:∀ p∈X.pn++aa,p∈pn)(h:SP (X.inR pn e) [] D f s):SP X aa D f s:=by
 cases f with
 | next=>obtain⟨σ',H',I,q⟩:=h;exact⟨σ',H',I.ofR ok hs,q⟩
 | brk=>obtain⟨σ',H',I,q⟩:=h;exact⟨σ',H',I.ofR ok hs,q⟩
 | cont=>obtain⟨σ',H',I,q⟩:=h;exact⟨σ',H',I.ofR ok hs,q⟩
 | ret u=>obtain⟨v,σ',H',I,r,q⟩:=h;exact⟨v,σ',H',I.ofR ok hs,r,q⟩
theorem jX{o:Obj}{u:HO}(h:X3 H0 H dct)(he:H e=none):X3 H0 (W5 H e (.frz o u)) dct:=λdx p=>⟨(h dx p).1,λj f a q l=>by
 have hd:dx≠e:=λz=>by rw[z,Zp] at q;cases q
 rw[Zh hd] at q;obtain⟨h1,xs,h2⟩:=(h dx p).2 j f a q l;exact⟨h1,xs,Sy he _ _ h2⟩⟩
section
variable{X:Cx}{known:Z Str}
theorem Ld.suite{u:Ev->Fl}{j:AS}{D:KR}(Lq_:Ld X aa σ1 H1 s1 e C T' dct c2)(hp:∀ e,PassesOwnAt (model X.prog X.w) (X.A.mark (some (.ref e))) X.A X.env X.xe)
  (hh:∀ pn oe ve,(e,oe)∈pn->oe.data=.fields ve->ve[2]?=c2->Xc fr (X.inR pn e) (b1::aI) u) (m:C' X.K B j H1 σ1 env') (l:B.st=true) (q2:Iz fr X B j H1 D (u env')) (hx:c2=some .none\/∀ a b c,u env'≠.exc a b c) (i:X.stack=X.env::X.outer/\X.env.frame=some X.env.locals) :
  codeAny (model X.prog X.w) (X.A.mark (some (.ref e))) (.handlers (.ref e) [.ExceptHandler none none (b1::aI) aH] X.env) (λr s₂=>match r with
   | .ok f=>SP X aa D f s₂
   | .error x=>cameBackBy (model X.prog X.w) X.A X.env X.xe x s₂) s1:=by
 refine codeAny_handlers_suite (Lq_.land i.1 λP E=>?_);obtain⟨h,n,_,_,e1,e2,e3,e4,_⟩:=id E.tr;have s:n[2]?=c2:=(Prod.mk.inj e2).2;have G:=E.J.nloc e1 e4;have F:e∉X.fs:=λz=>by
  obtain⟨_,o,ho,t⟩:=E.ff.mem (show e∈(X.env::X.outer).filterMap (·.frame) from by
   rw[EY,i.2];exact BB _ z)
  have ho:P.heap.get? e=some o:=ho;rw[e1] at ho;cases ho;exact t n e4
 have hs:∀ p∈X.pn++aa,p∈X.pn++aa++[(e,h)]:=λp hp=>BZ _ hp
 have hm:(e,h)∈X.pn++aa++[(e,h)]:=BD _ (AJ.mpr rfl);have k:=E.J;have J4:F' (X.inR (X.pn++aa++[(e,h)]) e) [] σ1 H1 P :=
  ⟨⟨k.ok.mod,k.ok.kind,k.ok.glob,k.ok.blt,k.ok.above,k.ok.inj,k.ok.has,k.ok.cab,(λz=>nomatch z),k.ok.frames,k.ok.stk,k.ok.exf,k.ok.bs,k.ok.bsz,k.ok.noex,k.ok.exfs,k.ok.funs,k.ok.frf⟩,k.os,k.bare,k.base,k.loc,k.cell,k.free,k.freeC,λp hp=>by
   rw[FJ] at hp;rcases BO.mp hp with hp | hp
   .exact k.pin p hp
   .rw[AJ.mp hp]
    exact⟨e1,Lq_.un,G.1,F,λv z=>by rw[e4] at z;cases z⟩,k.hok,k.len⟩
 have H:Iz fr (X.inR (X.pn++aa++[(e,h)]) e) B j H1 D (u env'):=by
  cases ek:u env' with
  | exc e' g Y =>
   rw[ek] at q2;rcases hx with hx | hx
   case inr=>exact absurd ek (hx e' g Y)
   intro A' H' σ' s' k' q s5 e5 C5 d5 I5 I R N Q;obtain⟨p1,p2,p3,p4,_⟩:=I5.pin (e,h) (BZ _ hm);have sm:Zr H' (W5 H' e (.frz h (.own 0))):=Sy p2;have I6:F' X aa σ' (W5 H' e (.frz h (.own 0))) s5:=(I5.ofR k.ok hs).track p2 Lq_.lo G.1 G.2 Lq_.pe ⟨p1,_,p1⟩;have ne:∀ {a:A2},(∀ p∈(X.inR (X.pn++aa++[(e,h)]) e).pn++q,p.1≠a)->a≠e:=λ{a} z y=>z (e,h) (BZ _ hm) y.symm
   have cx:∀ {c:C1 A1},Hd (X.inR (X.pn++aa++[(e,h)]) e) H' c->Hd X (W5 H' e (.frz h (.own 0))) c:=λ{c} z=>z.imp id λ⟨W,z2⟩=>⟨W,.inl (z2.elim (λz=>z.mono sm) λM=>by
    obtain⟨a,z3,z4⟩:=M;have z4:some (Value.ref e)=some (Value.ref a):=z4;cases z4;exact .inr ⟨e,h,n,z3,Zp,e4,s.trans hx⟩)⟩
   exact q2 A' _ σ' (s'.trans (I3.same sm)) (k'.mono sm) aa s5 e5 C5 d5 I6 I ⟨R.lo,by rw[Zh (ne R.pe)];exact R.un,R.ob.imp (λzz=>by obtain⟨o,vs,a1,a2,a3,a4,a5,a6⟩:=zz;exact⟨o,vs,a1,a2,a3,a4,a5,cx a6⟩) λzz=>by obtain⟨T,c2,a1,a2,a3,a4,a5⟩:=zz;exact⟨T,c2,a1,by rw[Zh (ne a3)];exact a2,λp hp=>a3 p (BZ _ (hs p hp)),a4,cx a5⟩,λp hp=>R.pe p (BZ _ (hs p hp))⟩ (N.mono (Wp sm)) (jX Q p2)
  | next e'=>rw[ek] at q2;exact q2
  | brk e'=>rw[ek] at q2;exact q2
  | cont e'=>rw[ek] at q2;exact q2
  | ret d=>rw[ek] at q2;exact q2
  | no=>rw[ek] at q2;exact q2
 exact BF (hh _ h n hm e4 s [] _ _ _ _ J4 ⟨_,B,j,m,l,H⟩) (λf s6 S=>S.ofR k.ok hs) (λev s6 z=>hp e ev s6 z)
theorem Ld.looks(Lq_:Ld X aa σ1 H1 s1 e C T' dct c2):Looks (model X.prog X.w) s1.heap (typeOf (.ref e)) (.ref C):=by
 obtain⟨oe,ve,N,ts,g1,g2,_⟩:=Lq_.tr;exact(Prod.mk.inj g2).1▸(Looks.ld g1).andThen .now
theorem eZ(hp:∀ e,PassesOwnAt (model X.prog X.w) (X.A.mark (some (.ref e))) X.A X.env X.xe)(hb:∀ pn E,Xc fr ((X.inTry pn E).pls true) body g)
  (h1:∀ pn e,O' (X.inR pn e)->Xc fr (X.inR pn e) (b1::aI) k1) (n:∀ pn e,O' (X.inR pn e)->Xc fr (X.inR pn e) (b2::aQ) k2) (c1:OX X.K X.mg T1 known) (c2:OX X.K X.mg T2 known)
  (d:Gl X T1:=by rfl) (a:C2 T1:=by decide) (u:Gl X T2:=by rfl) (k:C2 T2:=by decide)
  (i:X.stack=X.env::X.outer/\X.env.frame=some X.env.locals:=by exact⟨rfl,rfl⟩) :
  Dl fr X (.Try body [.ExceptHandler (some (.Name T1 aP)) none (b1::aI) aH,.ExceptHandler (some (.Name T2 aS)) none (b2::aQ) aU] [] [] pos) (RE known T1 T2 g k1 k2):=by
 obtain⟨o,m1,x1⟩:=c1;obtain⟨D2,m2,Y⟩:=c2;refine bW (b:=true) hb (λaa D B A H env' c fl j H1 σ1 s1 e C T' dct c2 h m l af Q Lq_ t q=>?_) i;split at q
 case isFalse=>exact q.elim
 rename_i f;have hn:=t.no rfl;have e1:=x1 c C f af;have e2:=Y c C f af;refine IF (HM (Uk (Lq_.J.toH (e:=e)) d m1 ?_ a)) (by intro z;cases z);by_cases W:c=T1
 .rw[AG W] at e1
  rw[AH W] at q;exact(exm_one (M:=model X.prog X.w) Lq_.J.kIn Lq_.looks e1).here (Lq_.suite hp (λpn oe ve hm h3 h4=>h1 pn e (VV i hm h3 (h4.trans hn))) m l (q.step h) (.inl hn) i)
 .rw[AB W] at e1
  rw[AM W] at q;refine(exm_one (M:=model X.prog X.w) Lq_.J.kIn Lq_.looks e1).here ?_;show wpAny _ _ _ _ _ _;refine IF (HM (Uk (Lq_.J.toH (e:=e)) u m2 ?_ k)) (by intro z;cases z);by_cases z2:c=T2
  .rw[AG z2] at e2
   rw[AH z2] at q;exact(exm_one (M:=model X.prog X.w) Lq_.J.kIn Lq_.looks e2).here (Lq_.suite hp (λpn oe ve hm h3 h4=>n pn e (VV i hm h3 (h4.trans hn))) m l (q.step h) (.inl hn) i)
  .rw[AM z2] at q
   exact q.elim
end
theorem mo{P:Fn}{K:Frag}{N:Z Str}{E:XK}(e:A2) :
  PassesOwnAt (model P w) ((NH P w K mg base N ah scope f cd A outer s H E).A.mark (some (.ref e))) (NH P w K mg base N ah scope f cd A outer s H E).A (NH P w K mg base N ah scope f cd A outer s H E).env (NH P w K mg base N ah scope f cd A outer s H E).xe :=
 bf (X:=Qf (LQ P w base) P w K mg base N ah scope f cd A outer s H E) rfl ⟨rfl,rfl⟩
theorem ip{K:Frag}{D:A2}(hm:mg T=some (.ref D))(h:∀ c∈az,∃ C,Vq K c C/\exmOne K (.ref C) (.ref D)=some (decide (c=T))):OX K mg T az:=by
 refine⟨D,hm,λc C hc hb=>?_⟩;obtain⟨i,h1,h2⟩:=h c hc;unfold Vq at hb h1;rw[hb] at h1;cases h1;exact h2
theorem J3.mark{v:C1 A1}(r:J3 k A):J3 k (A.mark v):=⟨r.dp,r.un,r.gd⟩
noncomputable def RN(K:Frag)(mg:KP)(T:Str)(known:Z Str)(b:Str->Bool):Prop:=∃ D,mg T=some (.ref D)/\∀ c C,c∈known->Vq K c C->exmOne K (.ref C) (.ref D)=some (b c)
noncomputable def SD(known:Z Str)(b1:Str->Bool)(g k1:Ev->Fl):Ev->Fl:=NL g λenv' c fl=>if c∈known then(if b1 c=true then YN (k1 env') else .no) else .no
theorem YP{X:Cx}{A:AS}{D:KR}{r:Fl}(q:Iz fr X B A H D (YN r)):Iz fr X B A H D r/\∀ a b c,r≠.exc a b c:=by
 cases r with
 | exc _ _ _=>exact q.elim
 | next e=>exact⟨q,λ_ _ _ z=>nomatch z⟩
 | brk e=>exact⟨q,λ_ _ _ z=>nomatch z⟩
 | cont e=>exact⟨q,λ_ _ _ z=>nomatch z⟩
 | ret d=>exact⟨q,λ_ _ _ z=>nomatch z⟩
 | no=>exact q.elim
section
variable{X:Cx}{known:Z Str}{b1' b2':Str->Bool}
theorem gL(hp:∀ e,PassesOwnAt (model X.prog X.w) (X.A.mark (some (.ref e))) X.A X.env X.xe)(hb:∀ pn E,Xc fr (X.inTry pn E) body g)
  (h1:∀ pn e,Xc fr (X.inR pn e) (b1::aI) k1) (c1:RN X.K X.mg T1 known b1')
  (d:Gl X T1:=by rfl) (a:C2 T1:=by decide)
  (i:X.stack=X.env::X.outer/\X.env.frame=some X.env.locals:=by exact⟨rfl,rfl⟩) :
  Dl fr X (.Try body [.ExceptHandler (some (.Name T1 aP)) none (b1::aI) aH] [] [] pos) (SD known b1' g k1):=by
 obtain⟨o,m1,x1⟩:=c1;refine bW (b:=X.pl) hb (λaa D B A H env' c fl j H1 σ1 s1 e C T' dct c2 h m l af Q Lq_ t q=>?_) i;split at q
 case isFalse=>exact q.elim
 rename_i f;have e1:=x1 c C f af;refine IF (HM (Uk (Lq_.J.toH (e:=e)) d m1 ?_ a)) (by intro z;cases z);cases W:b1' c with
 | true =>
  rw[W] at e1 q;exact(exm_one (M:=model X.prog X.w) Lq_.J.kIn Lq_.looks e1).here (Lq_.suite hp (λpn oe ve _ _ _=>h1 pn e) m l ((YP q).1.step h) (.inr (YP q).2) i)
 | false=>rw[W] at q;exact q.elim
end
theorem mB{K:Frag}{D:A2}{b:Str->Bool}(hm:mg T=some (.ref D))(h:∀ c∈az,∃ C,Vq K c C/\exmOne K (.ref C) (.ref D)=some (b c)):RN K mg T az b:=by
 refine⟨D,hm,λc C hc hb=>?_⟩;obtain⟨i,h1,h2⟩:=h c hc;unfold Vq at hb h1;rw[hb] at h1;cases h1;exact h2
noncomputable def DD(K:Frag)(n:Str)(st:Df):Prop:=∃ f oc od kV dc pm an cd ct sl,nsIn K mainGlobals n=some (some (.ref f))/\K.lookup f=some ⟨oc,od,.func (fnOf n n (Vs st) (Yn st) (Z9 st) .none kV dc pm an cd ct),sl⟩/\codeIn K cd n=true/\keepIn K (.ref f)=true
theorem jA{K:Frag}{n:Str}{st:Df}{kV:A1}(h1:nsIn K mainGlobals n=some (some (.ref f)))(h2:K.lookup f=some ⟨oc,od,.func (fnOf n n (Vs st) (Yn st) (Z9 st) .none kV dc pm an cd ct),sl⟩)(h3:codeIn K cd n=true)(h4:keepIn K (.ref f)=true):DD K n st:=⟨f,oc,od,kV,dc,pm,an,cd,ct,sl,h1,h2,h3,h4⟩
theorem ic{K:Frag}{h:H3}(X:K.In h)(G:h.Ns mainGlobals mg){n:Str}{st:Df}(d:DD K n st):NU K mg n st:=by
 obtain⟨f,oc,od,kV,dc,pm,an,cd,ct,sl,h1,h2,h3,h4⟩:=d;exact⟨_,_,UC (st:=st) h2 h3 h4,mg_of X G h1⟩
noncomputable def CD(K:Frag)(D C:A2)(q:Str)(i:Df):Prop:=∃ J fd,LM K "__init__" q i J fd/\keepIn K (.ref C)=true/\Ri K C J D=true/\KW K C/\isFn K (.ref J)=true
theorem fL{K:Frag}{D J:A2}{b c d:C1 A2}{qs e:Array (C1 A1)}{g h kV a:A1}{cd:ClassData}(h1:K.lookup C=some ⟨g,b,.cls cd,qs⟩)(h2:nsIn K cd.ns "__init__" = some (some (.ref J)))(h3:K.lookup J=some ⟨h,d,.func (fnOf "__init__" q (Vs i) (Yn i) (Z9 i) .none kV dc pm c a ct),e⟩)(h4:codeIn K a q=true)(F:keepIn K (.ref J)=true)(S:isFn K (.ref J)=true)(m:keepIn K (.ref C)=true)
  (r1:findIn K (.ref C) "__class__" = some (some (.builtin "object.__class__"))) (r2:findIn K (.ref C) "__getattribute__" = some (some (.builtin "BaseException.__getattribute__"))) (f:findIn K (.ref C) "__getattr__" = some none) (t:findIn K (.ref C) "__setattr__" = some (some (.builtin "object.__setattr__"))) (x:Ri K C J D=true):CD K D C q i :=
 ⟨_,_,UC h3 h4 F,m,x,ed x r1 r2 f t,S⟩
theorem CD.xc{K:Frag}{D:A2}(h:CD K D C q i):KW K C:=let ⟨_,_,_,_,_,x,_⟩:=h;x
noncomputable def S4(P:Str->A2->Prop):Z (Str×A2)->Prop
 | []=>True
 | (n,C)::l=>P n C/\S4 P l
theorem S4.n:S4 P []:=trivial
theorem S4.c{n:Str}(h:P n C)(t:S4 P l):S4 P ((n,C)::l):=⟨h,t⟩
theorem S4.get{Q R:Str->A2->Prop}:∀ {l:Z (Str×A2)},S4 P l->S4 Q l->S4 R l->∀ c∈l.map (·.1),∃ C,P c C/\Q c C/\R c C
 | (n,C)::l,p,q,r,c,hc=>by
   rcases BK.mp hc with e | e
   · subst e
     exact⟨C,p.1,q.1,r.1⟩
   · exact S4.get p.2 q.2 r.2 c e
noncomputable abbrev YA(K:Frag)(l:Z (Str×A2)):Prop:=S4 (λc C=>nsIn K mainGlobals c=some (some (.ref C))) l
noncomputable abbrev XA(K:Frag)(l:Z (Str×A2)):Prop:=S4 (λ_ C=>KW K C) l
noncomputable abbrev EA(K:Frag)(l:Z (Str×A2))(D:A2)(b:Str->Bool):Prop:=S4 (λc C=>exmOne K (.ref C) (.ref D)=some (b c)) l
section
variable{K:Frag}{D:A2}{b:Str->Bool}
theorem WI(y:YA K l)(t:EA K l D λc=>decide (c=T))(hm:mg T=some (.ref D)):OX K mg T (l.map (·.1)):=ip hm λc hc=>let ⟨C,h1,h2,_⟩:=S4.get y t y c hc;⟨C,h1,h2⟩
theorem e6(y:YA K l)(t:EA K l D b)(hm:mg T=some (.ref D)):RN K mg T (l.map (·.1)) b:=mB hm λc hc=>let ⟨C,h1,h2,_⟩:=S4.get y t y c hc;⟨C,h1,h2⟩
end
end L2
variable{c x:PySem.Str}{q:Nat×Nat}{n B af:Nat}{E:L2.Zzu}{l:Z Nat}{g:L2.Dat->L2.Ev->C1 L2.Ev}{suite:Z PySem.Stmt}{G:Z L2.Dat->L2.Rs}{r:L2.Fl}
namespace L2
open PySem PySem.Spec PyProof.Rows
noncomputable def Ch(f:A2)(o:Obj)(h:H3):Prop:=h.get? f=some o
noncomputable def L8(c:A2)(q:Str)(h:H3):Prop:=h.CodeRec (.ref c) q
theorem Pa{c:A2}{q:Str}{h1:H3}(x:L8 c q h1)(k:∀ o,h1.get? c=some o->h2.get? c=some o):L8 c q h2:=by
 obtain⟨g,oc,vs,t,e,ho,hd,hv⟩:=x;cases e;exact⟨c,oc,vs,t,rfl,k _ ho,hd,hv⟩
noncomputable abbrev SZ(X:Cx)(q:Str)(sc:IA)(f c Lq_:A2):I0:=PySem.W.envX q sc Lq_ f (.ref c) (R8 X.env.cells sc.names [])
noncomputable def Pf(X:Cx)(q:Str)(sc:IA)(N:Z Str)(f c:A2)(A:C0)(s:A4)(H:Hp):Cx where
 prog:=X.prog
 w:=X.w
 K:=X.K
 mg:=X.mg
 base:=X.base
 A:=A.deeper (SZ X q sc f c s.heap.objs.size)
 N:=N
 s₀:=s
 H₀:=H
 env:=SZ X q sc f c s.heap.objs.size
 outer:=X.stack
 stack:=SZ X q sc f c s.heap.objs.size::X.stack
 ex:=[]
 calm:=true
 fn:=λ_=>false
 pn:=[]
 xe:=λ_ _=>False
section
variable{X:Cx}{N:Z Str}{fs:Z (C1 Nat)}{f c:A2}{q:Str}{v:V}
theorem iM{h₁:H3}{tk:Nat}(I:F' X aa σ H s)(hp:X.env.scope=psc)(S:CompOk psc sc X.N (y::N) (none::fs))(hy:sc.names.lookup y=some .local)(hA:A.frames=some X.stack)(hd:A.handled=none)(r:Yr v u)
  (af:h₁.Ns s.heap.objs.size (λz=>([(y,u)]:Z (Str×A1)).reverse.lookup z)) (old:∀ b o,s.heap.get? b=some o->h₁.get? b=some o) :
  F' (Pf X q sc (y::N) f c A s H) [] (some v::Ww fs σ) H { s with heap:=h₁,toks:=tk }:=by
 have t:∀ b:A2,b∉(Pf X q sc (y::N) f c A s H).ex:=λb z=>absurd (show b∈([]:Z A2) from z) (by simp)
 refine⟨⟨I.ok.mod,S.kind,rfl,rfl,AU _,λx z c h1 h2=>I.ok.inj x z c (U5 I hp S x c h1) (U5 I hp S z c h2),λx hx=>?_,λx c h _=>(by cases h),λ_=>hd,HV hA,.inr ⟨rfl,rfl⟩,λb z=>absurd z (t b),I.bs,BA I.ok.bsz I.sz,λb _ _=>t b,λb z=>absurd z (t b),I.stack,I.stkFree⟩,
  rfl,I.bare,Un.kept old,⟨_,af,λi x w e1 e2 e3=>?_⟩,λx c e=>?_,I.hok.fresh (AU _),λx c e=>I.freeC x c (U5 I hp S x c e),λp hp=>absurd (show p∈([]:KL) from hp) (by simp),I.hok.kept old,?_⟩
 .have hm:(x,NameKind.free)∈sc.names:=by
   have hx:sc.names.lookup x=some .cell\/sc.names.lookup x=some .free:=hx;rcases hx with hx | hx
   .exact absurd rfl (S.nocell _ (BG hx))
   .exact BG hx
  exact DB.mp (Si sc.names [] x (.inl hm))
 .cases i with
  | zero =>
   have B:some y=some x:=e1;cases B;have ag:some (some v)=some (some w):=e2;cases ag;exact⟨u,r,.inl ⟨hy,by simp[List.lookup]⟩⟩
  | succ i =>
   have B:N[i]?=some x:=e1;have e2:(Ww fs σ)[i]?=some (some w):=e2;unfold Ww at e2;rw[AL] at e2;cases n:fs[i]? with
   | none=>rw[n] at e2;cases e2
   | some o =>
    rw[n] at e2;cases o with
    | none=>simp at e2
    | some j =>
     simp only[HW,GZ] at e2;obtain⟨d,ex,E,G⟩:=S.frees (i+1) j n;have:d=x:=by
      have q:N[i]?=some d:=ex;rw[B] at q;exact(BC q).symm
     subst this;have ev:σ[j]?=some (some w):=by
      cases q:σ[j]? with
      | none=>rw[q] at e2;simp at e2
      | some z=>rw[q] at e2;simp at e2;rw[e2]
     have kk:X.env.scope.names.lookup d=some .cell\/X.env.scope.names.lookup d=some .free:=by
      rw[hp];exact S.par (d,.free) (BG G) rfl
     obtain⟨m,hm,hl⟩:=I.loc;obtain⟨R,r',l⟩:=hl j d w E ev (by
      rcases kk with k | k
      .exact .inr (.inl k)
      .exact .inr (.inr k))
     refine⟨R,r',.inr ⟨.inr G,?_⟩⟩;rcases l with⟨k,_⟩ | ⟨_,c,hc,a⟩
     .have k':X.env.scope.names.lookup d=some .local:=k
      rcases kk with z | z<;>rw[z] at k'<;>cases k'
     .obtain⟨g,F⟩:=DB.mp (Si (cells:=X.env.cells) sc.names [] d (.inl (BG G)))
      have:=U5 I hp S d g F;rw[hc] at this;cases this;obtain⟨oc,ho,hd⟩:=a;exact⟨c,F,oc,old _ _ ho,hd⟩
 .obtain⟨v,oc,ho,hd⟩:=I.cell x c (U5 I hp S x c e)
  exact⟨v,oc,old _ _ ho,hd⟩
 .have:=S.len
  simp only[BJ] at this;show(some v::Ww fs σ).length=(y::N).length;unfold Ww;simp only[BJ,AF];lia
theorem kh{params:Arguments}{body:C3}(I:F' X aa σ H s)(hp:X.env.scope=psc)(S:CompOk psc sc X.N (y::N) (none::fs))(hy:sc.names.lookup y=some .local)(hA:A.frames=some X.stack)(hd:A.handled=none)(a:A.depth<recursionLimit)
  (ho:H f=some (.ext (Ch f (kla_obj name q params body sc (R8 X.env.cells sc.names []) pm c ct)))) (hc:H c=some (.ext (L8 c q)))
  (j:bindArgs (kla_fn name q params body sc (R8 X.env.cells sc.names []) pm (.ref c) ct) ⟨[u],[]⟩=pure [(y,u)]) (n:sc.isCoroutine=false) (m:sc.isGenerator=false) (r:Yr v u)
  (hb:PE (Pf X q sc (y::N) f c A s H) body te) (hq:te (some v::Ww fs σ) H Q):wpAny (model X.prog X.w) A (call (.ref f) [u]) (EP X aa σ Q) (λ_ _=>False) s:=by
 have hf:Ch f (kla_obj name q params body sc (R8 X.env.cells sc.names []) pm c ct) s.heap:=(show We X.prog X.w H s.heap f (.ext (Ch f _)) from I.hok f _ ho).1;have d:L8 c q s.heap:=(show We X.prog X.w H s.heap c (.ext (L8 c q)) from I.hok c _ hc).1;refine FK (PySem.W.kla_callFunE a hf rfl n m rfl d ?_);rw[j];refine AI (wpAny_newFunctionEnv S.nocell (λz hz=>?_) (λh₁ af E=>?_) S.kind)
 .rw[AJ.mp hz];exact hy
 have old:∀ b o,s.heap.get? b=some o->h₁.get? b=some o:=λb o e=>E.extBut b o (BR (AQ e)) (AE _ e)
 refine⟨I.nolimit.keeps old,?_⟩;have T:=iM (q:=q) (f:=f) (c:=c) (A:=A) (tk:=s.toks+1) I hp S hy hA hd r af old;refine PySem.W.kla_codeExpr (BF (hb [] _ _ H Q T hq) (λR s' hs=>?_) λe s' hs=>hs.elim);obtain⟨t,H',J,rv,q⟩:=hs;exact I.after ⟨t,H',J.os,J.bare,J.base,J.hok,rv,q⟩
end
variable{P c f kS:A2}{ps:Array A1}{q:Str}{e:Nat}
structure LK (X:Cx) (c0 P:Addr):Prop where
 code:X.env.code=.ref c0
 hd:CodeHd X.base c0 P
 ne:mainGlobals≠P
 blt:X.base.BuiltinsAt X.mg P
noncomputable def N9(H:Hp)(P c f:A2)(ps:Array A1)(q:Str)(o:Obj):Hp:=W5 (W5 (W5 H P (.tbl ps)) c (.ext (L8 c q))) f (.ext (Ch f o))
section
variable{b:A2}{o:Obj}{u:HO}
theorem YY:N9 H P c f ps q o f=some (.ext (Ch f o)):=Zp
theorem bc(h:c≠f):N9 H P c f ps q o c=some (.ext (L8 c q)):=by unfold N9;rw[Zh h,Zp]
theorem ZA(h:P≠f)(h':P≠c):N9 H P c f ps q o P=some (.tbl ps):=by unfold N9;rw[Zh h,Zh h',Zp]
theorem Af(h:b≠f)(h':b≠c)(a:b≠P):N9 H P c f ps q o b=H b:=by unfold N9;rw[Zh h,Zh h',Zh a]
theorem YQ(hc:H c=none)(hf:H f=none)(h:H b=some u)(m:b≠P):N9 H P c f ps q o b=some u:=by rw[Af (Y3 h hf) (Y3 h hc) m];exact h
end
section
variable{X:Cx}
theorem F'.lam{o:Obj}{tk:Nat}(I:F' X aa σ H s)(m:H P=some (.tbl #[]))(hc:s.heap.objs.size<=c)(hf:s.heap.objs.size<=f)(h:c≠f)
  (old:∀ b u,b≠P->s.heap.get? b=some u->h'.get? b=some u) (l:h'.get? P=some { cls:=.none,data:=.fields ps }) (j:L8 c q h') (C:h'.get? f=some o) :
  F' X aa σ (N9 H P c f ps q o) { s with heap:=h',toks:=tk }:=by
 have p:H c=none:=I.hok.fresh hc;have i:H f=none:=I.hok.fresh hf;have r:P≠c:=Y3 m p;have v:P≠f:=Y3 m i;have lt:∀ b u,s.heap.get? b=some u->b≠c/\b≠f:=λb u e=>⟨λz=>absurd (AQ e) (z▸HJ hc),λz=>absurd (AQ e) (z▸HJ hf)⟩
 have a:∀ b u,H b=some u->b≠P->N9 H P c f ps q o b=some u:=λb u e n=>YQ p i e n
 refine I.un ⟨λb u e n _ _=>?_,λb u e n _ _=>?_,λb u e n _=>?_,λb u e _=>?_,λb xs e=>?_,λb ob u e=>?_,λb qs e=>?_⟩ λb u e=>?_
 .exact old b u (λz=>by rw[z,m] at n;cases n) e
 .exact⟨u.slots,old b u (λz=>by rw[z,m] at n;cases n) e⟩
 .have hb:b≠P:=λz=>by rw[z,m] at n;cases n
  rw[Af (lt b u e).2 (lt b u e).1 hb];exact n
 .by_cases hb:b=P
  .exact⟨_,hb▸l⟩
  .exact⟨u,old b u hb e⟩
 .exact a b _ e λz=>by rw[z,m] at e;cases e
 .exact a b _ e λz=>by rw[z,m] at e;cases e
 .by_cases hb:b=P
  .subst hb
   rw[m] at e;cases e;exact⟨ps,by rw[ZA v r];simp⟩
  .exact⟨#[],by rw[a b _ e hb];simp⟩
 .by_cases h1:b=f
  .subst h1
   rw[YY] at e;cases e;exact⟨C,⟨_,C⟩,λh1 h2 x k=>k _ x⟩
  .by_cases h2:b=c
   .subst h2
    rw[bc h] at e;cases e;refine⟨j,?_,λh1 h2 x k=>Pa x k⟩;obtain⟨g,oc,vs,t,e,ho,_⟩:=j;cases e;exact⟨oc,ho⟩
   .by_cases h3:b=P
    .subst h3
     rw[ZA v r] at e;cases e;exact l
    .rw[Af h1 h2 h3] at e
     refine(I.hok b u e).stay (λd w hd z=>old d w ?_ z) (λd z=>?_) λd xs z=>?_
     .rcases hd with rfl | hd
      .exact h3
      .exactλz=>by rw[z,m] at hd;cases hd
     .exact a d _ z λw=>by rw[w,m] at z;cases z
     .exact a d _ z λw=>by rw[w,m] at z;cases z
theorem gu{N:Z Str}{fs:Z (C1 Nat)}{params:Arguments}{body:C3}(Lq_:LK X c0 P)(hp:X.env.scope=psc)(S:CompOk psc sc X.N N fs)(t:defaultsOf params X.env=([],[])) :
   PE X (.Lambda params body sc pos) (λσ H Q=>H P=some (.tbl #[])/\∀ f c ps pm ct,H c=none->H f=none->c≠f ->
     Q (.ref f) (N9 H P c f ps (X.env.qual++"<lambda>") (kla_obj "<lambda>" (X.env.qual++"<lambda>") params body sc (R8 X.env.cells sc.names []) pm c ct))):=by
 intro aa s σ H Q I ⟨m,hq⟩;have g:s.heap.get? P=some { cls:=.none,data:=.fields #[] }:=I.hok P _ m;obtain⟨bm,ob,b1,b2,b3,b4,b5,l⟩:=Lq_.blt;refine PySem.W.kla_eval t (PySem.W.kla_makeFunction (mg:=X.mg) (Gg (Rr I hp S)) I.ok.glob (I.mod.glob.keeps I.bk) Lq_.code (Lq_.hd.keeps I.bk) g (by first | trivial | exact .nil | (intro z;simp)) rfl Lq_.ne ⟨bm,ob,b1,b2,b3,b4,I.bk _ _ b5,l⟩ λc ct h' tk hx ac ai a d=>?_);have hsz:s.heap.objs.size<=h'.objs.size:=BA ac (EJ ai);have hPlt:P<s.heap.objs.size:=AQ g;refine⟨.ref h'.objs.size,_,I.lam (tk:=tk) m ac hsz (BR ai) (λb u n e=>AE _ (hx b u n e)) (AE _ d) (Pa a λo e=>AE _ e) (AY _ rfl),rfl,hq _ _ _ _ _ (I.hok.fresh ac) (I.hok.fresh hsz) (BR ai)⟩
theorem F'.turnL{o o':Obj}{t':Nat}(I:F' X ((it,o)::aa) σ H s)(hs:X.s₀.heap.objs.size<=it)(hp:∀ p∈X.pn++aa,p.1≠it)(k:∀ b u,b≠it->s.heap.get? b=some u->h'.get? b=some u)
  (e:h'.get? it=some o') (hd:∀ v,o'.data≠.cell v):F' X ((it,o')::aa) σ H { s with heap:=h',toks:=t' }:=by
 obtain⟨g,n,ne,C,d⟩:=I.pin (it,o) (BD _ (.head _));have J:F' X aa σ H { s with heap:=h',toks:=t' }:=(I.pins_of (pins':=aa) λp z=>I.pin p (BD _ (.tail _ z))).turned k n ne (.inr hs) (λx c ec z=>by
  obtain⟨v,oc,ho,hv⟩:=I.cell x c ec;rw[z,g] at ho;cases ho;exact d v hv) hp
 exact J.pins_of λp z=>by
  rcases BK.mp z with rfl | z
  .exact⟨e,n,ne,C,hd⟩
  .exact J.pin p (BD _ z)
theorem F'.pin1{o:Obj}(I:F' X aa σ H s)(hn:H it=none)(e:s.heap.get? it=some o)(t:it≠X.env.locals)(hf:it∉X.fs)(hd:∀ v,o.data≠.cell v):F' X ((it,o)::aa) σ H s:=I.pins_of λp z=>by
 rcases BK.mp z with rfl | z
 .exact⟨e,hn,t,hf,hd⟩
 .exact I.pin p (BD _ z)
theorem F'.unpin1{it:A2×Obj}(I:F' X (it::aa) σ H s):F' X aa σ H s:=I.pins_of λp z=>I.pin p (BD _ (.tail _ z))
theorem F'.adopt{D:A2}{ys:Z V}(I:F' X ((D,{ cls:=.type "list",data:=.seq its.toArray n })::aa) σ H s)(hs:X.s₀.heap.objs.size<=D)(hp:∀ p∈X.pn++aa,p.1≠D)(r:Y5 ys its)(hz:ys.length<=sizeLine):F' X aa σ (W5 H D (.lst ys)) s:=by
 obtain⟨g,n,ne,C,d⟩:=I.pin (D,_) (BD _ (.head _));refine⟨I.ok,I.os,I.bare,I.base.adopt hs n,I.loc,I.cell,by rw[Zh (AR ne)];exact I.free,λx c ec=>?_,λp z=>?_,I.hok.adopt n g r hz,I.len⟩
 .have hc:c≠D:=λz=>by
   obtain⟨v,oc,ho,hv⟩:=I.cell x c ec;rw[z,g] at ho;cases ho;exact d v hv
  rw[Zh hc];exact I.freeC x c ec
 .have q:=I.pin p (by
   rcases BO.mp z with z | z
   .exact BZ _ z
   .exact BD _ (.tail _ z))
  exact⟨q.1,by rw[Zh (hp p z)];exact q.2.1,q.2.2⟩
theorem dI{ay:Z A1}(ae:k1≠k2)(h:KskOut false [k1,k2] [u1,u2] ay):ay=if k2<k1 then[u2,u1] else[u1,u2]:=by
 obtain⟨ps,hp,rfl,hs⟩:=h;have e:ps=[(k1,u1),(k2,u2)]\/ps=[(k2,u2),(k1,u1)]:=by
  have C:ps.Perm [(k1,u1),(k2,u2)]:=hp;have hl:=C.length_eq;match ps,hl with
  | [a,b],_ =>
   have ha:a∈[(k1,u1),(k2,u2)]:=C.mem_iff.mp (by simp);rcases BK.mp ha with rfl | ha
   .have:=IN C
    rw[List.perm_singleton] at this;left;rw[List.cons.inj this |>.1]
   .have ha:=AJ.mp ha
    subst ha;have h2:([(k2,u2),b]:Z (Int×A1)).Perm [(k2,u2),(k1,u1)]:=C.trans (List.Perm.swap _ _ _);have:=IN h2;rw[List.perm_singleton] at this;right;rw[List.cons.inj this |>.1]
 rcases e with rfl | rfl
 .have:k1<=k2:=by simpa using hs
  rw[AM (by lia)];rfl
 .have:k2<=k1:=by simpa using hs
  rw[AH (by lia)];rfl
theorem dy{E:KN}{D:A2}{t1 t2:Tok}{e1:Nat}{P:PySem.Fin->A4->Prop}(ae:k1≠k2)(c:D≠kS)
  (hk:s.heap.get? kS=some (seqObj "list" #[.int k1 t1,.int k2 t2] e)) (y:s.heap.get? D=some (seqObj "list" #[] e1))
  (h:∀ (S h':H3) (ek F:Nat),(∀ b o,b≠kS->s.heap.get? b=some o->S.get? b=some o)->S.get? kS=some (seqObj "list" #[] ek)->(∀ b o,b≠D->S.get? b=some o->h'.get? b=some o)->h'.get? D=some (seqObj "list" (if k2<k1 then[u2,u1] else[u1,u2]).toArray F)->P (.done (.ret .none)) { s with heap:=h' }) :
  wpAny (model prog w) A (ksk_end D false #[u1,u2] e1 (.ref kS) #[.int k1 t1,.int k2 t2]) P E s:=by
 have N:IntsAre (#[Value.int k1 t1,.int k2 t2]:Array A1).toList [k1,k2]:=.cons k1 t1 (.cons k2 t2 .nil);unfold ksk_end;dsimp only;rw[AM (by decide),AM (by simp),AM (by simp),ksk_kind N (by simp)];refine AA (AI ?_);refine AA (BF (wpS_sortRuns (a₀:=#[Value.int k1 t1,.int k2 t2].zip [u1,u2].toArray) (st:=SortSt.mk' oneType' (#[Value.int k1 t1,.int k2 t2].zip #[u1,u2]) #[] 7 none)
  (Q:=λ_ j=>(arrOf j).Perm (#[Value.int k1 t1,.int k2 t2].zip [u1,u2].toArray)/\failedOf j=none/\SortedTo (arrOf j) (#[Value.int k1 t1,.int k2 t2].zip [u1,u2].toArray).size)
  (ksk_intKeys N) ⟨Array.Perm.refl _,rfl,rfl,rfl⟩ (by simp) (by simp) λj a1 a2 a3=>⟨a1,a2,a3⟩) ?_ λ_ _ x=>x)
 rintro⟨⟨⟩,st⟩ s' ⟨rfl,hp,hf,hs⟩;dsimp only;have ho:=dI ae (ksk_out (b:=false) N hp (by rw[hp.size_eq];exact hs));have f:(arrOf st).map (·.2)=(if k2<k1 then[u2,u1] else[u1,u2]).toArray:=by
  rw[<- ho,AM (by decide)]
 have h1:=FQ s'.heap kS (Obj.mapSeq λ_=>(#[]:Array A1));have g1:=GF hk λ_=>(#[]:Array A1)
 have d:=(h1.2 D c).trans y;unfold ksk_tail;dsimp only;refine AA (HG hk rfl ?_ (by simp[CH]) (CZ _));refine AA (wpAny_letGo ?_);refine AA (seqEpoch_at d rfl ?_);have h2:=FQ (s'.heap.update kS (Obj.mapSeq λ_=>(#[]:Array A1))) D (Obj.mapSeq λ_=>if false=true then((arrOf st).map (·.2)).reverse else(arrOf st).map (·.2));have a:(if false=true then((arrOf st).map (·.2)).reverse else(arrOf st).map (·.2))=(if k2<k1 then[u2,u1] else[u1,u2]).toArray:=by rw[AM (by decide),f]
 have g2:=GF d λ_=>if false=true then((arrOf st).map (·.2)).reverse else(arrOf st).map (·.2)
 obtain⟨F,g3⟩:∃ F,((s'.heap.update kS (Obj.mapSeq λ_=>(#[]:Array A1))).update D (Obj.mapSeq λ_=>if false=true then((arrOf st).map (·.2)).reverse else(arrOf st).map (·.2))).get? D=some (seqObj "list" (if k2<k1 then[u2,u1] else[u1,u2]).toArray F):=by
  rw[<- a];exact⟨_,g2⟩
 refine AA (HG d rfl ?_ (CZ _) ?_)
 .rw[hf]
  simp only[bne_self_eq_false,FL,HH] at g3 h2 ⊢;exact AI (h _ _ _ _ (λb o n q=>(h1.2 b n).trans q) g1 (λb o n q=>(h2.2 b n).trans q) g3)
 .rw[a]
  simp only[AV];split<;>simp[CH]
theorem bA{D:A2}{k:Int}{ks:Z A1}{T:Obj} 
  (I:F' X ((kS,seqObj "list" ks.toArray e)::(D,T)::aa) σ H1 s1) (hs:X.s₀.heap.objs.size<=kS) (hp:∀ p∈X.pn++(D,T)::aa,p.1≠kS) (hl:ks.length<=2)
  (B:∀ (pins':KL),F' X pins' σ H1 s1->wpAny (model X.prog X.w) A (call (.ref f) [u]) (EP X pins' σ (λw Y=>w=.int k/\Zr H1 Y)) (λ_ _=>False) s1) {Q:Unit->A4->Prop} {E:KN}
  (h:∀ H2 s2 t e',Zr H1 H2->F' X ((kS,seqObj "list" (ks++[Value.int k t]).toArray e')::(D,T)::aa) σ H2 s2->Q () s2) :
  wpAny (model X.prog X.w) A (call (.ref f) [u]) (λr s2=>∃ t,r=.int k t/\wpAny (model X.prog X.w) A (Builtin.List.listUpdate (.ref kS) (·.push r)) Q E s2) (λ_ _=>False) s1:=by
 refine BF (B _ I) (λr s2 hr=>?_) λ_ _ z=>z
 obtain⟨w,H2,J,rv,rfl,hS⟩:=hr;obtain⟨t,rfl⟩:∃ t,r=.int k t:=rv;refine⟨t,rfl,?_⟩;obtain⟨g,n,ne,C,d⟩:=J.pin (kS,_) (BD _ (.head _));have P:=FQ s2.heap kS (Obj.mapSeq (·.push (Value.int k t)));have ea:ks.toArray.push (Value.int k t)=(ks++[Value.int k t]).toArray:=by simp
 have g3:=GF g (·.push (Value.int k t));rw[ea] at g3;refine HG g rfl (h H2 _ t _ hS (J.turnL (t':=s2.toks) hs hp (λb o hb q=>(P.2 b hb).trans q) g3 λv z=>by cases z)) (by rw[AV,CH];lia) (by rw[ea];simp only[AV,AN,BX,CH];lia)
theorem lJ{l:A2}{v1 v2:V}(I:F' X aa σ H s)(hl:Dc X.K H l [v1,v2])(ae:k1≠k2)
  (B:∀ (v:V) (k:Int) (u:A1),((v=v1/\k=k1)\/(v=v2/\k=k2))->Yr v u->∀ (pins':KL) (H':Hp) (s':A4),Zr H H'->F' X pins' σ H' s'->wpAny (model X.prog X.w) X.A.in1.in1 (call (.ref f) [u]) (EP X pins' σ (λw Y=>w=.int k/\Zr H' Y)) (λ_ _=>False) s')
  (hq:∀ p H',H p=none->Zr H H'->H' p=none->Q (.ref p) (W5 H' p (.lst (if k2<k1 then[v2,v1] else[v1,v2])))) :
  wpAny (model X.prog X.w) X.A (call (.builtin "sorted") [.ref l] [(Str.ofString "key",.ref f)]) (EP X aa σ Q) X.xe s:=by
 obtain⟨its,rv,pl,hz⟩:=I.list hl;obtain⟨u1,u2,rfl,r1,r2⟩:=QV rv;refine call_function_entry_kw kind_sorted plain_sorted entry_sorted (ksk_s1 _ _) ?_;unfold Builtin.«sorted»;refine AA (m:=checkCount "sorted" 1 1 _) (AI ?_);refine AA (collect_list (vs:=[u1,u2]) pl.isList ?_ (by simp[CH]));refine AA (IU ?_ (by simp[CH]));generalize hA:(s.heap.push (seqObj "list" #[] 0)).update s.heap.objs.size (Obj.mapSeq (·++[u1,u2].toArray))=h1;have W:h1.objs.size=s.heap.objs.size+1:=by rw[<- hA,FM,size_push']
 have ag:∀ b o,s.heap.get? b=some o->h1.get? b=some o:=λb o q=>by
  have ai:=AQ q;rw[<- hA,IE _ _ _ _ (BR ai)];exact AE _ q
 have d:(h1.push (seqObj "list" [u1,u2].toArray 0)).get? h1.objs.size=some (seqObj "list" [u1,u2].toArray 0):=AY _ rfl;refine AA (BQ (wpAny_call_entry_kw PyProof.Rows.slot_list_sort ⟨_,d,rfl⟩ PyProof.Rows.entry_list_sort ?_ (ksk_l1 _ _)));show wpAny (model X.prog X.w) X.A.in1.in1 (Builtin.«list.sort» ⟨[.ref h1.objs.size],[(Str.ofString "key",.ref f)]⟩) _ _ _;rw[ksk_t1];unfold ksk_tree;have s2:=FQ (h1.push (seqObj "list" [u1,u2].toArray 0)) h1.objs.size (Obj.mapSeq λ_=>(#[]:Array A1));refine AA (JH d rfl ?_);refine AA (HG d rfl ?_ (by simp[CH]) (CZ _));obtain⟨e1,e⟩:∃ e1,((h1.push (seqObj "list" [u1,u2].toArray 0)).update h1.objs.size (Obj.mapSeq λ_=>(#[]:Array A1))).get? h1.objs.size=some (seqObj "list" #[] e1):=⟨_,GF d λ_=>#[]⟩;have ak:∀ b o,s.heap.get? b=some o->((h1.push (seqObj "list" [u1,u2].toArray 0)).update h1.objs.size (Obj.mapSeq λ_=>(#[]:Array A1))).get? b=some o:=λb o q=>by
  have ai:b<h1.objs.size:=AQ (ag b o q);exact(s2.2 b (BR ai)).trans (AE _ (ag b o q))
 have z2:((h1.push (seqObj "list" [u1,u2].toArray 0)).update h1.objs.size (Obj.mapSeq λ_=>(#[]:Array A1))).objs.size=h1.objs.size+1:=by rw[FM,size_push']
 refine AA (seqEpoch_at e rfl ?_);generalize (h1.push (seqObj "list" [u1,u2].toArray 0)).update h1.objs.size (Obj.mapSeq λ_=>(#[]:Array A1))=h2 at e ak z2 ⊢;refine AA (wpAny_newTuple ?_ (by simp[CH]));refine AA (IU ?_ (CZ _));have h:s.heap.objs.size<=h1.objs.size:=by rw[W];exact DO _
 have z3:(h2.push { cls:=.type "tuple",data:=.seq [u1,u2].toArray }).objs.size=h1.objs.size+2:=by rw[size_push',z2]
 have c:h1.objs.size≠(h2.push { cls:=.type "tuple",data:=.seq [u1,u2].toArray }).objs.size:=by rw[z3];lia
 have gk:((h2.push { cls:=.type "tuple",data:=.seq [u1,u2].toArray }).push { cls:=.type "list",data:=.seq ([]:Z A1).toArray }).get? (h2.push { cls:=.type "tuple",data:=.seq [u1,u2].toArray }).objs.size=some (seqObj "list" ([]:Z A1).toArray 0):=AY _ rfl;have g:((h2.push { cls:=.type "tuple",data:=.seq [u1,u2].toArray }).push { cls:=.type "list",data:=.seq ([]:Z A1).toArray }).get? h1.objs.size=some (seqObj "list" #[] e1):=AE _ (AE _ e);have x:s.heap.objs.size<=(h2.push { cls:=.type "tuple",data:=.seq [u1,u2].toArray }).objs.size:=by rw[z3];lia
 have T:F' X aa σ H { s with heap:=(h2.push { cls:=.type "tuple",data:=.seq [u1,u2].toArray }).push { cls:=.type "list",data:=.seq ([]:Z A1).toArray } }:=I.kept (t':=s.toks) λb o q=>AE _ (AE _ (ak b o q))
 generalize (h2.push { cls:=.type "tuple",data:=.seq [u1,u2].toArray }).objs.size=kS at c gk x ⊢;generalize h1.objs.size=D at c g h ⊢;generalize (h2.push { cls:=.type "tuple",data:=.seq [u1,u2].toArray }).push { cls:=.type "list",data:=.seq ([]:Z A1).toArray }=h3 at g gk T ⊢;have nL:∀ b,s.heap.objs.size<=b->b≠X.env.locals:=λb hb z=>absurd I.lt (HJ (z▸hb))
 have np:∀ b,s.heap.objs.size<=b->∀ p∈X.pn++aa,p.1≠b:=λb hb p hp z=>absurd (AQ (I.pin p hp).1) (HJ (z▸hb))
 have I1:=(T.pin1 (I.hok.fresh h) g (nL _ h) (I.nofs h) λv z=>by cases z).pin1 (I.hok.fresh x) gk (nL _ x) (I.nofs x) λv z=>by cases z
 have i:∀ p∈X.pn++(D,seqObj "list" #[] e1)::aa,p.1≠kS:=λp hp=>by
  rcases BO.mp hp with hp | hp
  .exact np _ x p (BZ _ hp)
  .rcases BK.mp hp with rfl | hp
   .exact c
   .exact np _ x p (BD _ hp)
 have ap:X.s₀.heap.objs.size<=kS:=BA I.sz x;refine BQ ?_;unfold ksk_rest;refine AA (JB ?_);show wpAny _ _ (forIn ([u1,u2].toArray) PUnit.unit _ >>= _) _ _ _;rw[<- Array.forIn_toList];simp only[List.toList_toArray,JK,List.forIn_nil];have K1:=bA (k:=k1) (E:=X.xe) (Q:=λ_ s2=>∃ H2 t e',Zr H H2/\F' X ((kS,seqObj "list" ([]++[Value.int k1 t]).toArray e')::(D,seqObj "list" #[] e1)::aa) σ H2 s2) I1 ap i (by simp) (λpins' J=>B v1 k1 u1 (.inl ⟨rfl,rfl⟩) r1 pins' _ _ (Zr.refl H) J) λH2 s2 t e' a b=>⟨H2,t,e',a,b⟩
 refine AA (AA (AA (IS (BF K1 (λr s2 hr=>?_) λ_ _ z=>z.elim))));obtain⟨t,rfl,C⟩:=hr;dsimp only;refine AA (BF C (λ_ P hs=>?_) λ_ _ z=>z);obtain⟨H2,t1,e2,S2,I2⟩:=hs;refine AI ?_;dsimp only;have K2:=bA (k:=k2) (E:=X.xe) (Q:=λ_ s2=>∃ G t e',Zr H2 G/\F' X ((kS,seqObj "list" (([]++[Value.int k1 t1])++[Value.int k2 t]).toArray e')::(D,seqObj "list" #[] e1)::aa) σ G s2) I2 ap i (by simp) (λpins' J=>B v2 k2 u2 (.inr ⟨rfl,rfl⟩) r2 pins' _ _ S2 J) λH2 s2 t e' a b=>⟨H2,t,e',a,b⟩
 refine AA (AA (IS (BF K2 (λr s2 hr=>?_) λ_ _ z=>z.elim)));obtain⟨t,rfl,C⟩:=hr;dsimp only;refine AA (BF C (λ_ s4 hs=>?_) λ_ _ z=>z);obtain⟨G,t2,e3,S3,j⟩:=hs;refine AI ?_;dsimp only;refine AI ?_;obtain⟨g3,R,_⟩:=j.pin (kS,_) (BD _ (.head _));obtain⟨N,ac,_⟩:=j.pin (D,_) (BD _ (.tail _ (.head _)));refine AA (JH g3 rfl ?_);refine dy (t1:=t1) (t2:=t2) ae c g3 N λS h' ek F k6 g6 m6 af=>?_
 refine⟨_,rfl,AI ⟨_,rfl,?_⟩⟩;have y:∀ p∈X.pn++aa,p.1≠D:=np _ h;have M:X.s₀.heap.objs.size<=D:=BA I.sz h;have n:=j.turnL (t':=s4.toks) (h':=S) ap i k6 g6 λv z=>by cases z
 have J2:=n.unpin1.turnL (t':=s4.toks) (h':=h') (o':=seqObj "list" (if k2<k1 then[u2,u1] else[u1,u2]).toArray F) M y m6 af λv z=>by cases z
 refine⟨.ref D,_,J2.adopt (ys:=if k2<k1 then[v2,v1] else[v1,v2]) M y ?_ ?_,rfl,hq D G (I.hok.fresh h) (S2.trans S3) ac⟩
 .split
  .exact .cons r2 (.cons r1 .nil)
  .exact .cons r1 (.cons r2 .nil)
 .split<;>simp[CH]
end
end L2
variable{u:L2.Ev->C1 Bool}{m':Nat}{qs:Z (Nat×Nat)}
namespace L2
open PySem PySem.Spec PyProof.Rows PySem.W
section
variable{X:Cx}
end
section
variable{X:Cx}{g:Ev->Fl}{T n:Str}{sub:Str->Bool}{DT:A2}
end
section
variable{X:Cx}
end
section
variable{X:Cx}{F:Z Dat->Rs}
end
section
variable{X:Cx}{g:Ev->Fl}{T n:Str}{sub:Str->Bool}
end
structure Bd where
 P:Program
 w:World
 K:J1
 mg:Str->Option Value
 base:Heap
noncomputable abbrev Bd.F(b:Bd):=NU b.K b.mg
noncomputable abbrev Bd.D(b:Bd):=NG b.P b.w b.K b.mg b.base
noncomputable abbrev Bd.X(b:Bd)(k:Nat)(x:Str)(ps:Z Str)(fr:Bool)(F:Z Dat->Rs)(pl:Bool:=false):=ME b.P b.w b.K b.mg b.base k x ps fr F pl
noncomputable abbrev Bd.N(b:Bd):=ML b.P b.w b.K b.mg b.base
noncomputable abbrev Bd.M(b:Bd):=KY b.P b.w b.K b.mg b.base
noncomputable abbrev Bd.R(b:Bd):=XMakeN b.P b.w b.K b.mg b.base
end L2
variable{X:L2.Cx}{F:Z L2.Dat->L2.Rs}{R:L2.Dat->Prop}{N:Z PySem.Str}
namespace L2
open PySem PySem.Spec PyProof.Rows
section
variable{o:C3}{g:Zzu}{t:TA}
end
section
variable{R:AS}{b k:A2}{g gs ss:Dat}
end
section
variable{c0 o i i2:C3}
end
end L2
variable{ps ks:Z Nat}{v:Nat}
namespace L2
end L2
namespace L2
open PySem PySem.Spec PyProof.Rows
noncomputable def Gd(r:Fl)(N:Ev->Prop)(R:Dat->Prop):Prop:=match r with
 | .next e=>N e
 | .ret d=>R d
 | _=>False
structure Go (r:Fl) (N:Ev->Prop) (R:Dat->Prop):Prop where
 of:Gd r N R
section
variable{N:Ev->Prop}{g:Ev->Fl}{d:Dat}
theorem Go.mono{N':Ev->Prop}{n:Dat->Prop}(q:Go r N R)(hN:∀ e,N e->N' e)(Q:∀ d,R d->n d):Go r N' n:=by
 cases r with
 | next e=>exact⟨hN e q.of⟩
 | ret d=>exact⟨Q d q.of⟩
 | _=>exact q.of.elim
theorem Yl(q:N env):Go (Vo env) N R:=⟨q⟩
theorem Z7(q:Go (g env) (λe=>Go (h e) N R) R):Go (Zd g h env) N R:=by
 unfold Zd;cases e:g env with
 | next e'=>rw[e] at q;exact q.of
 | ret d=>rw[e] at q;exact⟨q.of⟩
 | _=>rw[e] at q;exact q.of.elim
theorem Zg(e:f env=some d)(q:N (env.set i (.fz d))):Go (Zw i f env) N R:=by unfold Zw;rw[e];exact⟨q⟩
theorem Tr(e:fs env=some ds)(q:N (env.set i (.ow ds))):Go (Rj i fs env) N R:=by unfold Rj;rw[e];exact⟨q⟩
theorem Ya(e:f env=some d)(q:R d):Go (W3 f env) N R:=by unfold W3;rw[e];exact⟨q⟩
theorem Nh(e:env[i]?=some (.ow ds))(q:R (.lst ds)):Go (Lf i env) N R:=by unfold Lf;rw[e];exact⟨q⟩
theorem bV(e:t env=some true)(q:Go (g env) N R):Go (Jv t g h env) N R:=by unfold Jv;rw[e];exact q
theorem Us(e:t env=some false)(q:Go (h env) N R):Go (Jv t g h env) N R:=by unfold Jv;rw[e];exact q
theorem Ti{b:Bool}(e:t env=some b)(Y:b=true->Go (g env) N R)(q2:b=false->Go (h env) N R):Go (Jv t g h env) N R:=by
 cases b with
 | true=>exact bV e (Y rfl)
 | false=>exact Us e (q2 rfl)
theorem YD(e:f env=some d)(e2:gg d env=some env')(q:N env'):Go (OO f gg env) N R:=by
 unfold OO;rw[e];dsimp only[Option.bind];rw[e2];exact⟨q⟩
theorem Q5{F:Z Dat->Z Dat->C1 (Z Dat)}{ds':Z Dat}(e:env[i]?=some (.ow ds))(e2:fs env=some as)(e3:F ds as=some ds')(q:N (env.set i (.ow ds'))):Go (J5 i F fs env) N R:=by
 unfold J5;rw[e];dsimp only;rw[e2];dsimp only[Option.bind];rw[e3];exact⟨q⟩
theorem ZC(P:Nat->Ev->Prop):∀ (ds:Z Dat) (k:Nat) (env:Ev),P k env->(∀ i d e,ds[i]?=some d->P (k+i) e->∃ e1,gg d e=some e1/\Go (g e1) (P (k+i+1)) R)->(∀ e,P (k+ds.length) e->N e)->Go (N6 gg g ds env) N R
 | [],k,env,h0,_,hN=>⟨hN env h0⟩
 | d::ds,k,env,h0,hs,hN=>by
  obtain⟨e1,a1,a2⟩:=hs 0 d env rfl h0;rw[N6,a1];dsimp only;cases e:g e1 with
  | next e' =>
   rw[e] at a2;exact ZC P ds (k+1) e' a2.of (λi d e hi hp=>by
    have:=hs (i+1) d e (by simpa using hi) (by rw[show k+(i+1)=k+1+i by lia];exact hp);rw[show k+1+i+1=k+(i+1)+1 by lia];exact this) (λe hp=>hN e (by rw[BJ,show k+(ds.length+1)=k+1+ds.length by lia];exact hp))
  | ret d'=>rw[e] at a2;exact⟨a2.of⟩
  | _=>rw[e] at a2;exact a2.of.elim
theorem V5(P:Nat->Ev->Prop)(e:src env=some ds)(h0:P 0 env)(hs:∀ i d e,ds[i]?=some d->P i e->∃ e1,gg d e=some e1/\Go (g e1) (P (i+1)) R)(hN:∀ e,P ds.length e->N e):Go (T4 src gg g env) N R:=by
 unfold T4;rw[e];exact ZC P ds 0 env h0 (λi d e hi hp=>by simpa using hs i d e hi (by simpa using hp)) (λe hp=>hN e (by simpa using hp))
theorem Go.ne(q:Go r N R):r≠.no:=λz=>by rw[z] at q;exact q.of
theorem df(W:Nat->Ev->Prop)(h0:W n env)(hs:∀ n e,W n e->(t e=some false/\N e)\/(t e=some true/\Go (g e) (λe'=>∃ m,m<n/\W m e') R)):Go (Sj t g env) N R:=by
 have ah:∀ n e,W n e->Go (V9 t g (n+1) e) N R:=by
  intro n;induction n using strongRecOn with
  | _ n ih =>
   intro e J;rcases hs n e J with⟨a,b⟩ | ⟨a,b⟩
   .rw[V9,a];exact⟨b⟩
   .rw[V9,a]
    dsimp only;cases eg:g e with
    | next e' =>
     rw[eg] at b;obtain⟨m,hm,f⟩:=b.of;have q:=ih m hm e' f;dsimp only;have:=Uu (n - (m+1)) q.ne;rw[show m+1+(n - (m+1))=n by lia] at this;rw[this];exact q
    | ret d=>rw[eg] at b;exact⟨b.of⟩
    | _=>rw[eg] at b;exact b.of.elim
 have q:=ah n env h0;rw[F5 q.ne];exact q
theorem Yf{p:Nat}(hp:ds.length=p)(q:Go (g (Vv n ds)) (λ_=>R .non) R):∃ d,W2 n p g ds=.ok d/\R d:=by
 unfold W2;rw[AH hp];cases e:g (Vv n ds) with
 | next e'=>rw[e] at q;exact⟨_,rfl,q.of⟩
 | ret d=>rw[e] at q;exact⟨_,rfl,q.of⟩
 | _=>rw[e] at q;exact q.of.elim
end
variable{x:Dat}{m:Nat}
theorem Uz{d:Dat}(h:(rng lo n)[i]?=some d):i<n/\d=.int (lo+i):=by
 unfold rng at h;rw[AL] at h;by_cases hi:i<n
 .rw[FO hi] at h
  exact⟨hi,(BC h).symm⟩
 .rw[FB (by simpa using hi)] at h
  cases h
theorem Yv(h:fs env=some [.int n])(hn:n<=100000):Vl fs env=some (rng 0 n):=by
 unfold Vl;rw[h];dsimp only;rw[AH ⟨by lia,by lia,by rw[CH];simp;lia⟩,BS]
theorem Ni{i:Int}(h:NY i j):Ha (.int i) (.int j)=some (.int (i*j)):=AH h
theorem A9{i:Int}(h:0<j):Vc (.int i) (.int j)=some (.int (i % j)):=AH h
theorem fC{i:Int}(h:QJ i j):V0 (.int i) (.int j)=some (.int (i / j)):=AH h
theorem Z5{F:Dat->Dat->C1 α}{g:Zzu}{y:Dat}(h1:f env=some x)(h2:g env=some y)(h3:F x y=some z):dO F f g env=some z:=by unfold dO;rw[h1,h2];exact h3
theorem Yq{F:Z Dat->C1 α}(h1:fs env=some xs)(h3:F xs=some z):dF F fs env=some z:=by unfold dF;rw[h1];exact h3
theorem Z2(h1:f env=some x)(h2:fs env=some xs):O f fs env=some (x::xs):=by unfold O;rw[h1,h2];rfl
theorem Ze{d:Dat}(h1:fs env=some xs)(h2:F xs=.ok d):Zx F fs env=some d:=by unfold Zx;rw[h1];show TF (F xs)=_;rw[h2];rfl
theorem Yj{b:Bool}(h:f env=some (.bl b)):dB f env=some b:=by unfold dB;rw[h]
theorem ZK(z:Str)(ws:Z Str):(ws.map Dat.str).any (λy=>Gm y (.str z))=decide (z∈ws):=by
 induction ws with
 | nil=>simp
 | cons w ws ih =>
  rw[CF,IG,ih];have:Gm (.str w) (.str z)=(w==z):=by unfold Gm;rfl
  rw[this];by_cases e:w=z
  .subst e;simp
  .have e':(w==z)=false:=by simpa using e
   have e2:¬ z=w:=λq=>e q.symm
   rw[e'];simp[e2]
theorem UY(n:Nat)(z:Str):pd n (.str z)=true:=by cases n<;>rfl
theorem b6(ws:Z Str):(ws.map Dat.str).all (pd 20)=true:=by
 induction ws with
 | nil=>rfl
 | cons w ws ih=>rw[CF,all_cons,ih,UY];rfl
theorem bq(z:Str)(ws:Z Str):MK (.str z) (.lst (ws.map .str))=some (decide (z∈ws)):=by
 unfold MK;dsimp only;rw[b6,UY,KC,AH rfl,ZK]
theorem jk(z:Str)(ws:Z Str):MK (.str z) (.tup (ws.map .str))=some (decide (z∈ws)):=by
 unfold MK;dsimp only;rw[b6,UY,KC,AH rfl,ZK]
theorem WJ(z:Str)(ws:Z Str):Bz (.str z) (.lst (ws.map .str))=some (.bl (decide (z∈ws))):=by unfold Bz;rw[bq];rfl
theorem eQ(z:Str)(ws:Z Str):Bz (.str z) (.tup (ws.map .str))=some (.bl (decide (z∈ws))):=by unfold Bz;rw[jk];rfl
theorem Ga{a b:Bool}(h1:t env=some a)(h2:a=false->u env=some b):Py t u env=some (a||b):=by
 unfold Py;rw[h1];cases a with
 | true=>rfl
 | false=>exact h2 rfl
theorem Dd{a b:Bool}(h1:t env=some a)(h2:a=true->u env=some b):Ii t u env=some (a&&b):=by
 unfold Ii;rw[h1];cases a with
 | false=>rfl
 | true=>exact h2 rfl
theorem Gv{F:Dat->C1 Int->C1 Int->C1 Dat}{l h:Ev->C1 (C1 Int)}{z:Dat}{a b:C1 Int}(h1:f env=some x)(h2:l env=some a)(h3:h env=some b)(h4:F x a b=some z):dS F f l h env=some z:=by
 unfold dS;rw[h1,h2,h3];exact h4
theorem Uf{i:Int}(h:f env=some (.int i)):U1 f env=some (some i):=by unfold U1;rw[h]
theorem Um{j:Nat}(h:xs[j]?=some x):Yd (.lst xs) (.int j)=some x:=Iw h
theorem Q8{j:Nat}(h:xs[j]?=some x):Yd (.tup xs) (.int j)=some x:=Iw h
theorem ls(x y:Dat)(h0:0<=j)(h1:j<2):Yd (.lst [x,y]) (.int j)=some (if j=1 then y else x):=by
 rcases(show j=0\/j=1 by lia) with rfl | rfl<;>rfl
theorem Y1(h:fs env=some xs)(hl:Nat.ble xs.length 1000=true:=by rfl):W6 fs env=some (.tup xs):=by unfold W6;rw[h];exact AH (Nat.le_of_ble_eq_true hl)
theorem Ut{d:Dat}(h:ds.length<=1000):Vh ds [d]=some (ds++[d]):=AH (FA h (by decide))
noncomputable abbrev Qr(ns:Z Int):Dat:=.lst (ns.map .int)
noncomputable abbrev Vu:Str:="abcdefghijklmnopqrstuvwxyz"
theorem B9:cl Vu=List.range' 97 26:=by ext
theorem cs(h0:0<=j)(h1:j<26):Fh (cl Vu) j=some (97+j.toNat):=by
 obtain⟨n,rfl⟩:∃ n:Nat,j=n:=⟨j.toNat,(Int.toNat_of_nonneg h0).symm⟩;refine Iw ?_;rw[B9,List.getElem?_range' (by lia)];simp
theorem Ox(h0:0<=j)(h1:j<26):Yd (.str Vu) (.int j)=some (.str ⟨#[97+j.toNat]⟩):=by
 show(Fh (cl Vu) j).map _=_;rw[cs h0 h1];rfl
theorem Ab{x:Str}(h:x.length+y.length<=1000):Yu (.str x) (.str y)=some (.str (x++y)):=AH (BA h (by decide))
theorem Qg{b:Bool}(h:f env=some (.bl b)):dT f env=some b:=by unfold dT;rw[h];rfl
theorem i9{b:Bool}(h:f env=some (.bl b)):OM f env=some (.bl (!b)):=by unfold OM;rw[Yj h];rfl
theorem Q0{b:Bool}(h:t env=some b):Jf t env=some (!b):=by unfold Jf;rw[h];rfl
theorem Wz{r:Rs}{c:Dat}(h:∃ d,r=.ok d/\d=c):r=.ok c:=by obtain⟨d,e,rfl⟩:=h;exact e
theorem d1(i:Str):S5 (.str i) (.str i)=some (.bl true):=by unfold S5;rw[AH (by rfl)];unfold Gm;simp
theorem Wl{g:Zzv}(h:g env=some ds):dL g env=some (.lst ds):=by unfold dL;rw[h];rfl
theorem W4{fs:Z (C1 Nat)}(h1:src env=some xs)(h2:Vb fs env=env')(h3:V2 g t f env' xs=some ys):Vk src fs g t f env=some ys:=by
 unfold Vk;rw[h1,h2];exact h3
theorem Np(h:f env=some (.tup xs)):Tc f env=some xs:=by unfold Tc;rw[h]
theorem kK(h:f env=some (.tup xs)):N4 f env=some (Ra 0 xs):=by unfold N4;rw[Np h];rfl
theorem Uv(D:α->Dat)(y:α->Dat):∀ (xs:Z α),(∀ x∈xs,∃ e1,g (D x) env=some e1/\t e1=some true/\f e1=some (y x))->V2 g t f env (xs.map D)=some (xs.map y)
 | [],_=>rfl
 | x::xs,h=>by
  obtain⟨e1,a1,a2,a3⟩:=h x AX;have ih:=Uv D y xs λz hz=>h z (BB _ hz)
  rw[CF,V2,a1];dsimp only[Option.bind];rw[a2];dsimp only;rw[AH rfl,a3];dsimp only;rw[ih];rfl
theorem bL(b:Bool):S5 (.str (if b then "made" else "given")) (.str "made")=some (.bl b):=by
 cases b
 .show S5 (.str "given") (.str "made")=_
  unfold S5;rw[AH (by rfl)];unfold Gm;rw[show(("given" : Str)=="made")=false by ext]
 .exact d1 _
theorem b8(i j:Bool):S5 (.bl i) (.bl j)=some (.bl (i==j)):=rfl
theorem Kc(a b:Nat):Builtin.bitOr (a:Int) (b:Int)=((a ||| b:Nat):Int):=by
 unfold Builtin.bitOr Builtin.bitAnd Builtin.bitNot;have h1:decide (0<=-(a:Int) - 1)=false:=by simp;lia
 have h2:decide (0<=-(b:Int) - 1)=false:=by simp;lia
 rw[h1,h2];dsimp only;rw[show(-(-(a:Int) - 1) - 1).toNat=a by lia,show(-(-(b:Int) - 1) - 1).toNat=b by lia];lia
theorem Rn(a b:Nat):Builtin.bitAnd (a:Int) (b:Int)=((a &&& b:Nat):Int):=by
 unfold Builtin.bitAnd;rw[show decide (0<=(a:Int))=true by simp,show decide (0<=(b:Int))=true by simp];simp
noncomputable def JY(ps:Z Nat):Nat:=ps.foldl (λa p=>a ||| 2^p) 0
theorem et(ps:Z Nat):∀ (a j:Nat),(ps.foldl (λa p=>a ||| 2^p) a).testBit j=(a.testBit j||decide (j∈ps)):=by
 induction ps with
 | nil=>intro a j;simp
 | cons p ps ih =>
  intro a j;rw[List.foldl_cons,ih,DP,DG];by_cases h:j=p
  .subst h;simp
  .have h':¬ p=j:=λe=>h e.symm
   simp[h,h']
theorem Wk(ps:Z Nat)(j:Nat):(JY ps).testBit j=decide (j∈ps):=by unfold JY;rw[et];simp
theorem jV(ps:Z Nat):(ps.map λp:Nat=>(p:Int)).map Dat.int=ps.map λp:Nat=>Dat.int (p:Int):=by rw[EZ];rfl
noncomputable abbrev Zc(ps:Z Nat):Z Dat:=(ps.map λp:Nat=>(p:Int)).map Dat.int
theorem A3(p:Nat)(hp:p<=1000):Ds (.int 1) (Ψ p)=some (.int ((2^p:Nat):Int)):=by
 have:Ds (.int 1) (Ψ p)=some (.int (1*2^((p:Int)).toNat)):=AH ⟨by lia,by lia,by decide⟩;rw[this,BS,Int.one_mul];congr 2
theorem YM(n:Nat)(i:Int):pd n (.int i)=true:=by cases n<;>rfl
theorem ju(ps:Z Nat):(Zc ps).all (pd 20)=true:=CW.mpr λx hx=>by
 obtain⟨i,_,rfl⟩:=DJ.mp hx;exact YM 20 i
theorem bU(p:Nat)(ps:Z Nat):MK (Ψ p) (.lst (Zc ps))=some (decide (p∈ps)):=by
 unfold MK;dsimp only;rw[ju,YM,KC,AH rfl];congr 1
 rw[EH,JI,BU];constructor
 .rintro⟨x,hx,he⟩
  obtain⟨i,hi,rfl⟩:=DJ.mp hx;obtain⟨q,hq,rfl⟩:=DJ.mp hi;have:((q:Int)==(p:Int))=true:=by unfold Gm at he;exact he
  have:q=p:=by have h9:=HL this;lia
  exact this▸hq
 .intro h
  refine⟨.int (p:Int),GU (GU h),?_⟩;unfold Gm;simp
theorem Cu(p:Nat)(ps:Z Nat):Eb (Ψ p) (.lst (Zc ps))=some (.bl (!decide (p∈ps))):=by unfold Eb;rw[bU];rfl
theorem WH(h:∀ p∈ps,p<k):JY ps<2^k:=GG _ λi hi=>by
 rw[Wk];apply AB;intro hm;have:=h i hm;lia
theorem cj(bs:Z Bool):PY [.lst (bs.map .bl)]=some (.bl (bs.all id)):=by unfold PY;dsimp only;rw[kl];rfl
theorem Pn(a b:Nat):Builtin.bitXor (a:Int) (b:Int)=((a ^^^ b:Nat):Int):=by
 unfold Builtin.bitXor;rw[Kc,Rn];have ah:∀ (x y:Nat),x ||| y=(x ^^^ y)+(x &&& y):=by
  intro x;induction x using strongRecOn with
  | _ x ih =>
   intro y;by_cases hx:x=0
   .subst hx;simp
   .have h:=ih (x / 2) (by lia) (y / 2)
    have e1:x ||| y=2*(x / 2 ||| y / 2)+(x ||| y) % 2:=by rw[<- Nat.or_div_two];lia
    have e2:x ^^^ y=2*(x / 2 ^^^ y / 2)+(x ^^^ y) % 2:=by rw[<- Nat.xor_div_two];lia
    have e3:x &&& y=2*(x / 2 &&& y / 2)+(x &&& y) % 2:=by rw[<- Nat.and_div_two];lia
    have e4:(x ||| y) % 2=(x ^^^ y) % 2+(x &&& y) % 2:=by
     have t1:∀ z:Nat,z % 2=(z.testBit 0).toNat:=λz=>by rw[Nat.testBit_zero];by_cases q:z % 2=1<;>simp[q];lia
     rw[t1,t1,t1,DP,GC,DM];cases x.testBit 0<;>cases y.testBit 0<;>rfl
    lia
 have:=ah a b;lia
theorem Et(a b:Nat):∃ c:Nat,Builtin.bitAnd (a:Int) (-(b:Int) - 1)=(c:Int)/\∀ j,c.testBit j=(a.testBit j&&!b.testBit j):=by
 refine⟨a ^^^ (a &&& b),?_,λj=>by rw[GC,DM];cases a.testBit j<;>cases b.testBit j<;>rfl⟩;have hx:=Pn a (a &&& b);unfold Builtin.bitXor at hx;rw[Kc,Rn] at hx;have e1:a ||| (a &&& b)=a:=BM λj=>by rw[DP,DM];cases a.testBit j<;>cases b.testBit j<;>rfl
 have e2:a &&& (a &&& b)=a &&& b:=BM λj=>by rw[DM,DM];cases a.testBit j<;>cases b.testBit j<;>rfl
 rw[e1,e2] at hx;rw[<- hx];unfold Builtin.bitAnd Builtin.bitNot;have h1:decide (0<=(a:Int))=true:=by simp
 have h2:decide (0<=-(b:Int) - 1)=false:=by simp;lia
 rw[h1,h2];dsimp only;rw[show(-(-(b:Int) - 1) - 1).toNat=b by lia,BS]
theorem PM(n j:Nat):Ph (Ψ n) (Ψ j)=some (.int ((n / 2^j:Nat):Int)):=by
 have:Ph (Ψ n) (Ψ j)=some (.int ((n:Int) / 2^((j:Int)).toNat)):=by unfold Ph Be;dsimp only;rw[AH (by lia)]
 rw[this,BS];congr 2
theorem Ck(n j:Nat):M9 (.int ((n / 2^j:Nat):Int)) (.int 1)=some (.int (if n.testBit j then 1 else 0)):=by
 show some (Dat.int (Builtin.bitAnd ((n / 2^j:Nat):Int) ((1:Nat):Int)))=_;rw[Rn,Nat.and_one_is_mod,Nat.testBit_eq_decide_div_mod_eq];generalize n / 2^j=q;congr 2
 rcases(show q % 2=0\/q % 2=1 by lia) with h | h<;>simp[h]
theorem OE(a b:Nat):M9 (Ψ a) (Ψ b)=some (.int ((a &&& b:Nat):Int)):=by
 show some (Dat.int (Builtin.bitAnd _ _))=_;rw[Rn]
theorem MU(a b:Nat):MF (Ψ a) (Ψ b)=some (.int ((a ||| b:Nat):Int)):=by
 show some (Dat.int (Builtin.bitOr _ _))=_;rw[Kc]
theorem OP(a b:Nat):Pw (Ψ a) (Ψ b)=some (.int ((a ^^^ b:Nat):Int)):=by
 show some (Dat.int (Builtin.bitXor _ _))=_;rw[Pn]
theorem ZR(b:Bool):S5 (.int (if b then 1 else 0)) (.int 1)=some (.bl b):=by cases b<;>rfl
theorem MW(a b:Nat):S5 (Ψ a) (Ψ b)=some (.bl (a==b)):=by
 show some (Dat.bl ((a:Int)==(b:Int)))=_;congr 2
 rw[EH,DI,DI];lia
theorem YZ(i j:Int):Cd (.int i) (.int j)=some (.bl (!(i==j))):=rfl
theorem Ta(h:fs env=some xs)(hl:Nat.ble xs.length 1000=true:=by rfl):Ud fs env=some xs:=by unfold Ud;rw[h];exact AH (BA (Nat.le_of_ble_eq_true hl) (by decide))
theorem W0(ps:Z Nat):Zc ps=ps.map λp:Nat=>Dat.int (p:Int):=jV ps
theorem UJ{F:Dat->C1 Dat}{z:Dat}(h1:f env=some x)(h2:F x=some z):dU F f env=some z:=by unfold dU;rw[h1];exact h2
theorem Hg(D:α->Dat)(P:α->Prop):∀ (xs:Z Dat),(∀ x∈xs,∃ (e1:Ev) (y:α),g x env=some e1/\f e1=some (D y)/\P y)->∃ ys:Z α,V2 g Ug f env xs=some (ys.map D)/\ys.length=xs.length/\∀ y∈ys,P y
 | [],_=>⟨[],rfl,rfl,λ_ h=>nomatch h⟩
 | x::xs,h=>by
  obtain⟨e1,y,a1,a2,a3⟩:=h x AX;obtain⟨ys,b1,b2,b3⟩:=Hg D P xs λz hz=>h z (BB _ hz)
  refine⟨y::ys,?_,by rw[BJ,BJ,b2],λz hz=>?_⟩
  .rw[V2,a1]
   dsimp only[Option.bind,Ug];rw[AH rfl,a2];dsimp only;rw[b1];rfl
  .rcases BK.mp hz with e | e
   .exact e▸a3
   .exact b3 z e
theorem Fy{d:Dat}(h:d∈rng lo n):∃ i:Nat,i<n/\d=.int (lo+i):=by
 obtain⟨i,hi,e⟩:=List.getElem_of_mem h;have:=Uz (lo:=lo) (n:=n) (i:=i) (d:=d) (by rw[AK hi,e]);exact⟨i,this.1,this.2⟩
theorem Hq{d:Dat}(h:(Zc ps)[i]?=some d):∃ p:Nat,ps[i]?=some p/\d=.int (p:Int):=by
 rw[AL,AL] at h;obtain⟨y,hy,rfl⟩:=map_some h;obtain⟨p,hq,rfl⟩:=map_some hy;exact⟨p,hq,rfl⟩
theorem cz:(m &&& JY ps)=JY ps↔∀ p∈ps,m.testBit p=true:=by
 constructor
 .intro h p hp
  have:(m &&& JY ps).testBit p=true:=by rw[h,Wk];simpa using hp
  rw[DM] at this;exact(DQ.mp this).1
 .intro h
  apply BM;intro j;rw[DM,Wk];by_cases hj:j∈ps
  .simp[hj,h j hj]
  .simp[hj]
structure St3 where
 w:Nat
 up:Bool
 takes:List Nat
 fills:List Nat
noncomputable def St3.d(s:St3):Dat:=.tup [.int (s.w:Int),.bl s.up,.tup (Zc s.takes),.tup (Zc s.fills)]
structure G3 where
 wires:List (Str×Bool)
 steps:List St3
 marks:Nat
 code:Nat
variable{G:G3}
noncomputable def Ub(w:Str×Bool):Dat:=.tup [.str w.1,.str (if w.2 then "made" else "given")]
noncomputable def G3.d(G:G3):Dat:=.tup [.tup (G.wires.map Ub),.tup (G.steps.map St3.d),.int (G.marks:Int),.int (G.code:Int)]
theorem Te(r m:Nat)(h:0<m:=by decide):Vc (Ψ r) (Ψ m)=some (.int ((r % m:Nat):Int)):=by
 rw[A9 (by lia)];rfl
theorem U8(r m:Nat)(h:0<m:=by decide)(h2:m<1073741824:=by decide):V0 (Ψ r) (Ψ m)=some (.int ((r / m:Nat):Int)):=by
 rw[fC ⟨by lia,by lia⟩];rfl
theorem RP(r m:Nat)(h:r<18446744073709551616):Ha (Ψ r) (Ψ m)=some (.int ((r*m:Nat):Int)):=by
 rw[Ni (.inl ⟨by lia,by lia⟩)];rfl
theorem U6(r m:Nat):Yu (Ψ r) (Ψ m)=some (.int ((r+m:Nat):Int)):=rfl
noncomputable def W8(s:St3)(m:Nat):Bool:=(m &&& JY s.takes)==JY s.takes
theorem Zu{s:St3} :W8 s m=true↔∀ p∈s.takes,m.testBit p=true:=by
 unfold W8;rw[DI];exact cz
theorem fV(ps:Z Nat):∃ qs:Z Nat,(Gs (ps.map λp:Nat=>(p:Int))).map Dat.int=Zc qs/\qs.Perm ps:=by
 refine⟨(Gs (ps.map λp:Nat=>(p:Int))).map Int.toNat,?_,?_⟩
 .show _=(((Gs (ps.map λp:Nat=>(p:Int))).map Int.toNat).map λp:Nat=>(p:Int)).map Dat.int
  congr 1
  rw[EZ];conv=>lhs;rw[<- List.map_id (Gs _)]
  apply List.map_congr_left;intro x hx;have:=(Tl _).mem_iff.mp hx;obtain⟨p,_,rfl⟩:=DJ.mp this;simp
 .have h:=(Tl (ps.map λp:Nat=>(p:Int))).map Int.toNat
  rw[EZ] at h;have e:(Int.toNat ∘ λp:Nat=>(p:Int))=id:=by funext p;simp
  rw[e,List.map_id] at h;exact h
theorem Lw(ps:Z Nat)(h:ps.length<64):∃ qs:Z Nat,WT [.lst (Zc ps)]=some (Zc qs)/\qs.Perm ps:=by
 obtain⟨qs,e,hp⟩:=fV ps;refine⟨qs,?_,hp⟩;unfold WT;dsimp only;rw[K8];show(if(ps.map λp:Nat=>(p:Int)).length<64 then _ else _)=_;rw[AH (by rw[AF];exact h),e]
theorem Nw(x y:Str):(x++y).length=x.length+y.length:=VZ x y
section
variable{N:Ev->Prop}
theorem Ex{fa:Zzu}{d:Dat}(e:env[i]?=some (.ow ds))(e1:fb env=some d)(e2:fa env=some (Ψ k))(hk:k<ds.length)(q:N (env.set i (.ow (ds.set k d)))):Go (Jb i fa fb env) N R:=by
 unfold Jb;rw[e,e1,e2];dsimp only;rw[AH ⟨by lia,by lia⟩];exact⟨q⟩
theorem gn{j:Nat}{fa:Zzv}{d:Dat}(e:env[i]?=some (.ow ds))(e2:fa env=some [Ψ k])(hk:ds[k]?=some d)(q:N ((env.set i (.ow (ds.eraseIdx k))).set j (.fz d))):Go (Pr j i fa env) N R:=by
 unfold Pr;rw[e,e2];dsimp only;have hl:k<ds.length:=(AC.mp hk).1;rw[AH ⟨by lia,by lia⟩,BS,hk];exact⟨q⟩
theorem WP{d:Dat}(e:f env=some d)(q:N env):Go (F7 f env) N R:=by
 unfold F7;rw[e];exact⟨q⟩
theorem ZD{fs:Z (C1 Nat)}{h:Nat}(e:src env=some ds)(q:N (env.set i (.gx (.nest (List.replicate ds.length []))))):Go (Fi i src fs (Y8 h) env) N R:=by
 unfold Fi;rw[e];dsimp only;rw[AH (show(ds.all λd=>(Y8 h d (Vb fs env)).isSome)=true from CW.mpr λd _=>rfl)];exact⟨q⟩
noncomputable def Na(tk:Z (Z Nat))(k x:Nat):Z (Z Nat):=tk.set k (tk.getD k []++[x])
theorem Jl(tk:Z (Z Nat))(k x:Nat):(Na tk k x).length=tk.length:=by unfold Na;rw[BN]
structure LW (Lq_ B:Nat) (tk:List (List Nat)):Prop where
 len:∀ l∈tk,l.length<=Lq_
 lt:∀ l∈tk,∀ p∈l,p<B
theorem LW.mono{L' B':Nat}(h:LW Lq_ B tk)(h1:Lq_<=L')(h2:B<=B'):LW L' B' tk:=⟨λl q=>BA (h.len l q) h1,λl q p z=>AO (h.lt l q p z) h2⟩
theorem LW.app(h:LW Lq_ B tk)(k x:Nat)(hx:x<B):LW (Lq_+1) B (Na tk k x):=by
 have hg:(tk.getD k []).length<=Lq_/\∀ p∈tk.getD k [],p<B:=by
  cases e:tk[k]? with
  | none=>simp[List.getD,e]
  | some l=>have hm:=AD e;simp only[List.getD,e,JG];exact⟨h.len l hm,h.lt l hm⟩
 constructor
 .intro l hl
  rcases ED hl with q | q
  .exact HA (h.len l q)
  .rw[q,AN];show _+1<=_;lia
 .intro l hl p hp
  rcases ED hl with q | q
  .exact h.lt l q p hp
  .rw[q] at hp
   rcases BO.mp hp with z | z
   .exact hg.2 p z
   .rw[AJ.mp z];exact hx
theorem LW.nil(n:Nat):LW 0 0 (List.replicate n []):=⟨λl h=>by rw[(FH.mp h).2];exact AU _,λl h p hp=>by rw[(FH.mp h).2] at hp;cases hp⟩
theorem cU(n:Nat):(List.replicate n ([]:Z Dat))=(List.replicate n ([]:Z Nat)).map Zc:=by rw[List.map_replicate];rfl
theorem Nl{fa:Zzu}{x:Nat}(e:env[i]?=some (.gx (.nest (tk.map Zc))))(h:LW Lq_ B tk)(t:Lq_<=1000)(hk:k<tk.length)(e1:fa env=some (Ψ k))(e2:fs env=some [Ψ x])(q:N (env.set i (.gx (.nest ((Na tk k x).map Zc))))):Go (Lm i fa fs env) N R:=by
 unfold Lm;rw[e,e1];dsimp only;have al:Gj (tk.map Zc) (k:Int)=some (Zc tk[k]):=by
  unfold Gj;rw[AH (by lia),BS];simp[hk]
 rw[al,e2];dsimp only;have hl:=h.len _ (GB hk);rw[show(some [Dat.int (x:Int)]).bind (λas=>Vh (Zc tk[k]) as)=some (Zc (tk[k]++[x])) by
  show Vh (Zc tk[k]) [Dat.int (x:Int)]=_;rw[Ut (by rw[AF,AF];lia)];simp[Zc]]
 dsimp only;have:(tk.map Zc).set ((k:Int)).toNat (Zc (tk[k]++[x]))=(Na tk k x).map Zc:=by
  unfold Na;rw[BS,map_set];congr 2
  simp[List.getD,hk]
 rw[this];exact⟨q⟩
theorem W'{fa:Zzu}(e:env[i]?=some (.gx (.nest (tk.map Zc))))(e1:fa env=some (Ψ k))(hk:tk[k]?=some l):OQ i fa env=some (.lst (Zc l)):=by
 unfold OQ;rw[e,e1];dsimp only;unfold Gj;rw[AH (by lia),BS,AL,hk];rfl
end
theorem Xl(D E:α->Dat):∀ (xs:Z α),(∀ x∈xs,∃ e1 b,g (D x) env=some e1/\t e1=some b/\f e1=some (E x))->∃ ys:Z α,ys.Sublist xs/\V2 g t f env (xs.map D)=some (ys.map E)
 | [],_=>⟨[],.slnil,rfl⟩
 | x::xs,h=>by
  obtain⟨ys,h1,h2⟩:=Xl D E xs λz hz=>h z (BB _ hz)
  obtain⟨e1,b,a1,a2,a3⟩:=h x AX;cases b with
  | true=>exact⟨x::ys,h1.cons₂ x,by rw[CF,V2,a1];show(t e1).bind _=_;rw[a2];show(f e1).bind _=_;rw[a3,h2];rfl⟩
  | false=>exact⟨ys,h1.cons x,by rw[CF,V2,a1];show(t e1).bind _=_;rw[a2];exact h2⟩
theorem UX(r m:Nat)(h:m<=r):Aj (Ψ r) (Ψ m)=some (.int ((r - m:Nat):Int)):=by
 show some (Dat.int ((r:Int) - (m:Int)))=_;rw[Int.ofNat_sub h]
theorem Tn(ps:Z Nat):Vp [.lst (Zc ps)]=some (.int ((ps.length:Nat):Int)):=by
 show some (Dat.int ((Zc ps).length:Int))=_;rw[AF,AF]
theorem Lz(ps:Z Nat)(a w:Nat)(h:a<=ps.length)(hl:ps.length<=1000):Rk (Zc ps) [Ψ a,Ψ w]=some (Zc (ps.take a++w::ps.drop a)):=by
 show(if _ then some _ else none)=_;rw[AH ⟨by lia,by rw[AF,AF];lia,by rw[AF,AF];exact FA hl (by decide)⟩,BS];simp[Zc,JU,JV]
theorem Eu(ps:Z α)(a:Nat)(w:α):(ps.take a++w::ps.drop a).length=ps.length+1:=by
 rw[AN,BJ,CP,CQ];lia
theorem Li(ps:Z α)(a:Nat)(w:α):(ps.take a++w::ps.drop a).Perm (w::ps):=by
 have h:(ps.take a++w::ps.drop a).Perm (w::(ps.take a++ps.drop a)):=List.perm_middle;rw[FC] at h;exact h
theorem Hj(ps:Z Nat)(a w v:Nat):(ps.take a++w::ps.drop a).count v=ps.count v+(if w=v then 1 else 0):=by
 rw[(Li ps a w).count_eq,JO];by_cases h:w=v<;>simp[h]
theorem Ce(xs:Z α)(t:Nat)(h:t<=xs.length):Tv xs (some (t:Int)) none=xs.drop t:=by
 unfold Tv;rw[HT.sIx_nat,HT.sIx_none,JN h,CI (by rw[CQ];exact AU _)]
theorem iv(xs:Z α)(t:Nat)(h:t<=xs.length):Tv xs none (some (t:Int))=xs.take t:=by
 unfold Tv;rw[HT.sIx_nat,HT.sIx_none,JN h,KD,Nat.sub_zero]
theorem Ie(f:α->β)(xs:Z α)(a b:C1 Int):Tv (xs.map f) a b=(Tv xs a b).map f:=by
 unfold Tv;rw[AF,JU,JV]
theorem jd(ps:Z Nat)(c:Nat):(ps.map λp:Nat=>(p:Int)).idxOf (c:Int)=ps.idxOf c:=by
 induction ps with
 | nil=>rfl
 | cons p ps ih =>
  rw[CF,EM,EM,ih];by_cases h:p=c
  .subst h;rw[show((p:Int)==(p:Int))=true from EL _,show(p==p)=true from EL _]
  .rw[show((p:Int)==(c:Int))=false from CO.mpr (by lia),show(p==c)=false from CO.mpr h]
theorem Ge(ps:Z Nat)(c:Nat)(h:c∈ps):K4 (.lst (Zc ps)) [Ψ c]=some (.int ((ps.idxOf c:Nat):Int)):=by
 show((Js (Zc ps)).bind λzs=>if(c:Int)∈zs then some (Dat.int ((zs.idxOf (c:Int):Nat):Int)) else none)=_;rw[K8];show(if _ then some _ else none)=_;rw[AH (GU h),jd]
theorem Ix(h:xs.length+ys.length<=1000):Yu (.lst xs) (.lst ys)=some (.lst (xs++ys)):=AH (BA h (by decide))
theorem bv(h:xs.length+ys.length<=1000):N3 (.lst xs) (.lst ys)=some (xs++ys):=AH (BA h (by decide))
theorem Nn(h:xs.length+ys.length<=1000):A0 (.tup xs) (.tup ys)=some (.tup (xs++ys)):=AH (BA h (by decide))
noncomputable def Zn(p:Nat×Nat):Dat:=.tup [.int (p.1:Int),.int (p.2:Int)]
theorem Nf(p:Nat×Nat):pd 20 (Zn p)=true:=rfl
theorem Xd(p:Nat×Nat)(qs:Z (Nat×Nat)):∃ b,Eb (Zn p) (.lst (qs.map Zn))=some (.bl b):=by
 refine⟨!((qs.map Zn).any λy=>Gm y (Zn p)),?_⟩;unfold Eb MK;dsimp only;rw[AH]
 .rfl
 .rw[Nf,FI]
  exact CW.mpr λx hx=>by obtain⟨q,_,rfl⟩:=DJ.mp hx;exact Nf q
theorem eW(a b:Nat):PF [Ψ a,Ψ b]=some (.int ((min a b:Nat):Int)):=by
 show some (Dat.int (if(b:Int)<(a:Int) then(b:Int) else(a:Int)))=_;congr 2
 split<;>lia
theorem ke(a b:Nat):ON [Ψ a,Ψ b]=some (.int ((max a b:Nat):Int)):=by
 show some (Dat.int (if(b:Int) > (a:Int) then(b:Int) else(a:Int)))=_;congr 2
 split<;>lia
theorem QW(a b:Nat):Cd (Ψ a) (Ψ b)=some (.bl (!(a==b))):=by
 rw[YZ];congr 3
 rw[EH];simp;lia
theorem Hw(ps:Z Nat)(h:ps.length<64):∃ qs:Z Nat,Ju [.lst (Zc ps)]=some (Zc qs)/\qs.Perm ps:=Lw ps h
theorem Lx(ps:Z Nat)(h:ps.length<64):∃ qs:Z Nat,Ju [.tup (Zc ps)]=some (Zc qs)/\qs.Perm ps:=Lw ps h
theorem Jp(n:Nat):rng 0 n=(List.range n).map λk:Nat=>Dat.int (k:Int):=by
 unfold rng;congr 1
 funext k
 rw[DC]
theorem De{d:Dat}(h:(Ra 0 xs)[i]?=some d):∃ x,xs[i]?=some x/\d=.tup [Ψ i,x]:=by
 rw[Hs] at h;cases e:xs[i]? with
 | none=>rw[e] at h;cases h
 | some x=>rw[e] at h;cases h;exact⟨x,rfl,by rw[KJ]⟩
theorem VP{T:String}{F:Dat->Z Dat->C1 α}(h1:f env=some x)(ht:OK T x=true)(h2:fs env=some as)(h3:F x as=some z):dM T F f fs env=some z:=by
 unfold dM;rw[h1];show(if _ then _ else _)=_;rw[AH ht,h2];exact h3
theorem bF(h:f env=some (.lst xs)):Tc f env=some xs:=by unfold Tc;rw[h]
theorem C6(h:f env=some (.lst xs)):N4 f env=some (Ra 0 xs):=by unfold N4;rw[bF h];rfl
theorem jh(ds:Z Dat)(a:Nat)(d:Dat)(h:a<=ds.length)(hl:ds.length<=1000):Rk ds [Ψ a,d]=some (ds.take a++d::ds.drop a):=by
 show(if _ then some _ else none)=_;rw[AH ⟨by lia,by lia,FA hl (by decide)⟩,BS]
theorem Vj(D E:α->Dat)(p:α->Bool):∀ (xs:Z α),(∀ x∈xs,∃ e1,g (D x) env=some e1/\t e1=some (p x)/\f e1=some (E x))->V2 g t f env (xs.map D)=some ((xs.filter p).map E)
 | [],_=>rfl
 | x::xs,h=>by
  have ih:=Vj D E p xs λz hz=>h z (BB _ hz)
  obtain⟨e1,a1,a2,a3⟩:=h x AX;rw[CF,V2,a1];show(t e1).bind _=_;rw[a2];cases hp:p x with
  | true=>show(f e1).bind _=_;rw[a3,ih,List.filter_cons_of_pos hp];rfl
  | false=>rw[GW (by rw[hp];decide)];exact ih
theorem Nk(xs:Z Dat)(a b:C1 Int):Ac (.lst xs) a b=some (.lst (Tv xs a b)):=rfl
theorem ii(z:Str)(a b:C1 Int):Ac (.str z) a b=some (.str (Txt.slice z a b)):=rfl
noncomputable def Y9(s:St3)(p:Nat×Nat):Nat×Nat:=((p.1 ^^^ (p.1 &&& JY s.takes)) ||| JY s.fills,p.2 ^^^ 2^s.w)
theorem W7(s:St3)(p:Nat×Nat)(j:Nat):(Y9 s p).1.testBit j=((p.1.testBit j&&!decide (j∈s.takes))||decide (j∈s.fills)):=by
 unfold Y9;dsimp only;rw[DP,GC,DM,Wk,Wk];cases p.1.testBit j<;>cases decide (j∈s.takes)<;>rfl
theorem Vr(s:St3)(p:Nat×Nat)(j:Nat):(Y9 s p).2.testBit j=(p.2.testBit j ^^ decide (s.w=j)):=by
 unfold Y9;dsimp only;rw[GC,DG]
structure LC (G:G3) (I:Nat×Nat->Prop):Prop where
 ini:I (G.marks,G.code)
 lev:∀ p s,I p->s∈G.steps->W8 s p.1=true->p.2.testBit s.w≠s.up
 room:∀ p s,I p->s∈G.steps->W8 s p.1=true->∀ q∈s.fills,p.1.testBit q=true->q∈s.takes
 nxt:∀ p s,I p->s∈G.steps->W8 s p.1=true->I (Y9 s p)
 few:∀ l:List (Nat×Nat),l.Nodup->(∀ p∈l,I p)->l.length<=400
structure Rw where
 m:Nat
 c:Nat
 src:Option (Nat×Nat)
noncomputable def Rw.st(r:Rw):Nat×Nat:=(r.m,r.c)
noncomputable def Rw.d(r:Rw):Dat:=.tup [.int (r.m:Int),.int (r.c:Int),match r.src with | none=>.non | some p=>.int (p.1:Int),match r.src with | none=>.non | some p=>.int (p.2:Int)]
structure LN (G:G3) (I:Nat×Nat->Prop) (ae:List Rw):Prop where
 zero:ae[0]?=some ⟨G.marks,G.code,none⟩
 inv:∀ r∈ae,I r.st
 nd:(ae.map Rw.st).Nodup
 src:∀ i r,ae[i]?=some r->0<i->∃ f k s c,r.src=some (f,k)/\f<i/\G.steps[k]?=some s/\ae[f]?=some c/\W8 s c.m=true/\r.st=Y9 s c.st
noncomputable def Iv(ae:Z Rw):Nat->Nat->Z Nat
 | 0,_=>[]
 | fu+1,n=>match (ae[n]?).bind Rw.src with
  | none=>[]
  | some p=>Iv ae fu p.1++[p.2]
theorem Kp{ae:Z Rw}(t:LN G I ae):∀ (fu n:Nat),n<ae.length->n<=fu->Iv ae fu n=Iv ae n n
 | 0,n,_,h=>by rw[show n=0 by lia]
 | fu+1,n,hl,h=>by
  obtain⟨r,hr⟩:∃ r,ae[n]?=some r:=⟨_,AK hl⟩;rcases DA n with z | z
  .subst z
   show(match (ae[0]?).bind Rw.src with | none=>[] | some p=>Iv ae fu p.1++[p.2])=[];rw[t.zero];rfl
  .obtain⟨f,k,s,c,a1,a2,_,a4,_,_⟩:=t.src n r hr z
   have P:=(AC.mp a4).1;obtain⟨g,rfl⟩:∃ g,n=g+1:=⟨n - 1,by lia⟩;rw[Iv,Iv,hr];show(match r.src with | none=>[] | some p=>Iv ae fu p.1++[p.2])=(match r.src with | none=>[] | some p=>Iv ae g p.1++[p.2]);rw[a1];show Iv ae fu f++[k]=Iv ae g f++[k];rw[Kp t fu f P (by lia),Kp t g f P (by lia)]
noncomputable def Mu(ae:Z Rw)(n:Nat):Z Nat:=Iv ae n n
theorem bJ(ae:Z Rw):Mu ae 0=[]:=rfl
theorem ZU{ae:Z Rw}(t:LN G I ae){r:Rw}{f:Nat}(hr:ae[n]?=some r)(hs:r.src=some (f,k))(h0:0<n):Mu ae n=Mu ae f++[k]:=by
 obtain⟨Y,k',s,c,a1,a2,_,a4,_,_⟩:=t.src n r hr h0;rw[hs] at a1;cases a1;have P:=(AC.mp a4).1;obtain⟨g,rfl⟩:∃ g,n=g+1:=⟨n - 1,by lia⟩;unfold Mu;rw[Iv,hr];show(match r.src with | none=>[] | some p=>Iv ae g p.1++[p.2])=_;rw[hs];show Iv ae g f++[k]=_;rw[Kp t g f P (by lia)]
theorem gA{ae:Z Rw}(t:LN G I ae){r:Rw}(hr:ae[n]?=some r):r.src=none↔n=0:=by
 constructor
 .intro h
  rcases DA n with z | z
  .exact z
  .obtain⟨f,k,s,c,a1,_⟩:=t.src n r hr z
   rw[h] at a1;cases a1
 .rintro rfl
  rw[t.zero] at hr;cases hr;rfl
end L2
variable{f g:Nat×Nat->Nat}{d:L2.Dat}{j z sp am:Nat}{G G':L2.G3}{st:PySem.Stmt}{l':Z Nat}{ae:Z L2.Rw}{ss:Z L2.St3}{u:PySem.Str×Bool}
namespace L2
theorem D5[BEq α][LawfulBEq α]:∀ (l m:Z α),l.Nodup->(∀ x∈l,x∈m)->l.length<=m.length
 | [],_,_,_=>CZ _
 | x::l,m,hn,hs=>by
  obtain⟨h1,h2⟩:=CT.mp hn;have hx:=hs x AX;have:=D5 l (m.erase x) h2 λy hy=>by
   refine(List.mem_erase_of_ne ?_).mpr (hs y (BB _ hy));rintro rfl;exact h1 hy
  rw[List.length_erase_of_mem hx] at this;have:=List.length_pos_of_mem hx;show l.length+1<=_;lia
theorem SY(R:Nat->α->Prop)(Q:∀ k a b,R k a->R k b->a=b)(N:Nat):∀ l:Z α,l.Nodup->(∀ p∈l,∃ k,k<N/\R k p)->l.length<=N:=by
 intro l hn hl;have:∃ ks:Z Nat,ks.length=l.length/\ks.Nodup/\∀ k∈ks,k<N/\∃ p∈l,R k p:=by
  revert hn hl;induction l with
  | nil=>intro _ _;exact⟨[],rfl,DZ,by simp⟩
  | cons p l ih =>
   intro hn hl;obtain⟨h1,h2⟩:=CT.mp hn;obtain⟨ks,a1,a2,a3⟩:=ih h2 λq hq=>hl q (BB _ hq)
   obtain⟨k,hk,hr⟩:=hl p AX;refine⟨k::ks,by simp[a1],CT.mpr ⟨λhm=>?_,a2⟩,λk' f=>?_⟩
   .obtain⟨_,p',C,o⟩:=a3 k hm
    exact h1 (Q k p p' hr o▸C)
   .rcases BK.mp f with rfl | h
    .exact⟨hk,p,AX,hr⟩
    .obtain⟨b1,p',b2,b3⟩:=a3 k' h
     exact⟨b1,p',BB _ b2,b3⟩
 obtain⟨ks,a1,a2,a3⟩:=this;have:=D5 ks (List.range N) a2 λk hk=>CC.mpr (a3 k hk).1
 rw[DK] at this;lia
noncomputable def Gu(s0:Nat)(rs:Z (Nat×Nat))(f g:Nat×Nat->Nat)(d:Nat)(l:Z Nat):Prop:=∀ q,q∈l↔∃ t p,rs[t]?=some p/\((q=s0+2*t/\f p=d)\/(q=s0+2*t+1/\g p=d))
structure LP (G:G3) (s0:Nat) (one two:Nat->Nat) (rs:List (Nat×Nat)) (n d:Nat) (s:St3):Prop where
 w:s.w<n
 dl:d<2*n
 tk:Gu s0 rs (·.2) (·.1) d s.takes
 fl:Gu s0 rs (·.1) (·.2) d s.fills
 lev:(d=one s.w/\s.up=!G.code.testBit s.w)\/(d=two s.w/\s.up=G.code.testBit s.w)
structure RG (G:G3) (n s0:Nat) (one two:Nat->Nat) (rs:List (Nat×Nat)):Prop where
 ne:∀ q∈rs,q.1≠q.2
 ring:∀ w,w<n->(one w,two w)∈rs
 inj:∀ w v,w<n->v<n->(one w=one v\/two w=two v\/one w=two v)->w=v/\one w≠two v
 mks:∀ q,G.marks.testBit q=true↔∃ t,t<rs.length/\q=s0+2*t+1
 st:∀ s∈G.steps,∃ d,LP G s0 one two rs n d s
structure RI (G:G3) (n s0:Nat) (one two:Nat->Nat) (rs:List (Nat×Nat)) (k:Nat) (p:Nat×Nat):Prop where
 a:∀ t q,rs[t]?=some q->p.1.testBit (s0+2*t)=(k.testBit q.1 ^^ k.testBit q.2)
 b:∀ t q,rs[t]?=some q->p.1.testBit (s0+2*t+1)=!(k.testBit q.1 ^^ k.testBit q.2)
 o:∀ j,(∀ t,t<rs.length->j≠s0+2*t/\j≠s0+2*t+1)->p.1.testBit j=false
 c:∀ w,p.2.testBit w=(G.code.testBit w ^^ (decide (w<n)&&(k.testBit (one w) ^^ k.testBit (two w))))
theorem Gu.a{d:Nat}(h:Gu s0 rs f g d l){t:Nat}(e:rs[t]?=some q):s0+2*t∈l↔f q=d:=by
 rw[h];constructor
 .rintro⟨t',p,e',⟨h1,h2⟩ | ⟨h1,_⟩⟩
  .have:t'=t:=by lia
   subst this;rw[e] at e';cases e';exact h2
  .lia
 .exactλh2=>⟨t,q,e,.inl ⟨rfl,h2⟩⟩
theorem Gu.b{d:Nat}(h:Gu s0 rs f g d l){t:Nat}(e:rs[t]?=some q):s0+2*t+1∈l↔g q=d:=by
 rw[h];constructor
 .rintro⟨t',p,e',⟨h1,_⟩ | ⟨h1,h2⟩⟩
  .lia
  .have:t'=t:=by lia
   subst this;rw[e] at e';cases e';exact h2
 .exactλh2=>⟨t,q,e,.inr ⟨rfl,h2⟩⟩
theorem Gu.o{d:Nat}(h:Gu s0 rs f g d l)(e:∀ t,t<rs.length->j≠s0+2*t/\j≠s0+2*t+1):j∉l:=by
 intro hj;obtain⟨t,p,M,h1⟩:=(h j).mp hj;have:=e t (AC.mp M).1;rcases h1 with h1 | h1
 .exact this.1 h1.1
 .exact this.2 h1.1
theorem Ui(k d j:Nat):(k ^^^ 2^d).testBit j=(k.testBit j ^^ decide (d=j)):=by
 rw[GC,DG]
theorem Ka{one two:Nat->Nat}(h:RG G n s0 one two rs)(hn:n<=4):LC G λp=>∃ k,k<2^(2*n)/\RI G n s0 one two rs k p where
 ini:=by
  refine⟨0,HC _,?_,?_,?_,?_⟩
  .intro t q e
   simp only[HK,FS];rw[Bool.eq_false_iff];intro hh;obtain⟨t',_,e'⟩:=(h.mks _).mp hh;lia
  .intro t q e
   simp only[HK,FS,Bool.not_false];exact(h.mks _).mpr ⟨t,(AC.mp e).1,rfl⟩
  .intro j hj
   rw[Bool.eq_false_iff];intro hh;obtain⟨t',f,e'⟩:=(h.mks _).mp hh;exact(hj t' f).2 e'
  .intro w;simp
 lev:=by
  rintro p s ⟨k,hk,hi⟩ hs hc;obtain⟨d,hd⟩:=h.st s hs;obtain⟨t,ht⟩:=CL (h.ring s.w hd.w);rw[hi.c,AG hd.w,FI];have hc:=Zu.mp hc;rcases hd.lev with⟨e1,e2⟩ | ⟨e1,e2⟩
  .have:=hc _ ((hd.tk.b ht).mpr e1.symm)
   rw[hi.b t _ ht] at this;have hx:(k.testBit (one s.w) ^^ k.testBit (two s.w))=false:=by simpa using this
   rw[hx,e2];cases G.code.testBit s.w<;>simp
  .have:=hc _ ((hd.tk.a ht).mpr e1.symm)
   rw[hi.a t _ ht] at this;have hx:(k.testBit (one s.w) ^^ k.testBit (two s.w))=true:=this;rw[hx,e2];cases G.code.testBit s.w<;>simp
 room:=by
  rintro p s ⟨k,hk,hi⟩ hs hc q hq hb;obtain⟨d,hd⟩:=h.st s hs;have hc:=Zu.mp hc;obtain⟨t,r,M,hh⟩:=(hd.fl q).mp hq;exfalso;rcases hh with⟨rfl,e1⟩ | ⟨rfl,e1⟩
  .have:=hc _ ((hd.tk.b M).mpr e1)
   rw[hi.b t _ M] at this;rw[hi.a t _ M] at hb;rw[hb] at this;cases this
  .have:=hc _ ((hd.tk.a M).mpr e1)
   rw[hi.a t _ M] at this;rw[hi.b t _ M,this] at hb;cases hb
 nxt:=by
  rintro p s ⟨k,hk,hi⟩ hs hc;obtain⟨d,hd⟩:=h.st s hs;have hc:=Zu.mp hc;have ai:k ^^^ 2^d<2^(2*n):=Nat.xor_lt_two_pow hk (HZ (by lia) hd.dl);refine⟨k ^^^ 2^d,ai,?_,?_,?_,?_⟩
  .intro t q e
   have ae:=h.ne q (AD e);have ha:=hi.a t q e;have hb:=hi.b t q e;have h1:=hd.tk.a e;have h2:=hd.fl.a e;have h3:=hd.tk.b e;rw[W7,Ui,Ui];by_cases e1:q.2=d
   .have:=hc _ (h1.mpr e1)
    have e2:¬ q.1=d:=λe2=>ae (e2.trans e1.symm)
    rw[AG (h1.mpr e1),AB (mt h2.mp e2),AG e1.symm,AB (AR e2)];rw[ha] at this;revert this;cases k.testBit q.1<;>cases k.testBit q.2<;>simp
   .by_cases e2:q.1=d
    .have:=hc _ (h3.mpr e2)
     rw[AB (mt h1.mp e1),AG (h2.mpr e2),AB (AR e1),AG e2.symm];rw[hb] at this;revert this;cases k.testBit q.1<;>cases k.testBit q.2<;>simp
    .rw[AB (mt h1.mp e1),AB (mt h2.mp e2),AB (AR e1),AB (AR e2),ha]
     simp
  .intro t q e
   have ae:=h.ne q (AD e);have ha:=hi.a t q e;have hb:=hi.b t q e;have h1:=hd.tk.b e;have h2:=hd.fl.b e;have h3:=hd.tk.a e;rw[W7,Ui,Ui];by_cases e1:q.1=d
   .have:=hc _ (h1.mpr e1)
    have e2:¬ q.2=d:=λe2=>ae (e1.trans e2.symm)
    rw[AG (h1.mpr e1),AB (mt h2.mp e2),AG e1.symm,AB (AR e2)];rw[hb] at this;revert this;cases k.testBit q.1<;>cases k.testBit q.2<;>simp
   .by_cases e2:q.2=d
    .have:=hc _ (h3.mpr e2)
     rw[AB (mt h1.mp e1),AG (h2.mpr e2),AB (AR e1),AG e2.symm];rw[ha] at this;revert this;cases k.testBit q.1<;>cases k.testBit q.2<;>simp
    .rw[AB (mt h1.mp e1),AB (mt h2.mp e2),AB (AR e1),AB (AR e2),hb]
     simp
  .intro j hj
   rw[W7,hi.o j hj,AB (hd.fl.o hj)];simp
  .intro w
   rw[Vr,hi.c,Ui,Ui];by_cases J:w<n
   .rw [AG J,FI,FI]
    have ah:decide (s.w=w)=(decide (d=one w) ^^ decide (d=two w)):=by
     by_cases W:s.w=w
     .subst W
      have ae:=(h.inj s.w s.w hd.w hd.w (.inl rfl)).2;rcases hd.lev with⟨e1,_⟩ | ⟨e1,_⟩
      .rw[AG rfl,AG e1,AB (λe2=>ae (e1.symm.trans e2))];rfl
      .rw[AG rfl,AG e1,AB (λe2=>ae (e2.symm.trans e1))];rfl
     .have n1:¬ d=one w:=by
       intro e0;rcases hd.lev with⟨e1,_⟩ | ⟨e1,_⟩
       .exact W (h.inj s.w w hd.w J (.inl (e1.symm.trans e0))).1
       .exact W (h.inj w s.w J hd.w (.inr (.inr (e0.symm.trans e1)))).1.symm
      have n2:¬ d=two w:=by
       intro e0;rcases hd.lev with⟨e1,_⟩ | ⟨e1,_⟩
       .exact W (h.inj s.w w hd.w J (.inr (.inr (e1.symm.trans e0)))).1
       .exact W (h.inj s.w w hd.w J (.inr (.inl (e1.symm.trans e0)))).1
      rw[AB W,AB n1,AB n2];rfl
    rw[ah];cases G.code.testBit w<;>cases k.testBit (one w)<;>cases k.testBit (two w)<;>cases decide (d=one w)<;>cases decide (d=two w)<;>rfl
   .have:s.w≠w:=λe=>J (e▸hd.w)
    rw[AB J,AB this];simp
 few:=by
  intro l hl hp;have B:2^(2*n)<=256:=BA (BY (by lia) (show 2*n<=8 by lia)) (by decide);have:=SY (λk p=>RI G n s0 one two rs k p) (λk p q h1 h2=>?_) (2^(2*n)) l hl hp
  .lia
  .refine FW (BM λj=>?_) (BM λj=>by rw[h1.c,h2.c])
   by_cases hj:∀ t,t<rs.length->j≠s0+2*t/\j≠s0+2*t+1
   .rw[h1.o j hj,h2.o j hj]
   .simp only[Classical.not_forall] at hj
    obtain⟨t,ht,hj⟩:=hj;have e:rs[t]?=some rs[t]:=AK ht;by_cases e1:j=s0+2*t
    .rw[e1,h1.a t _ e,h2.a t _ e]
    .have e2:j=s0+2*t+1:=GH λe2=>hj ⟨e1,e2⟩
     rw[e2,h1.b t _ e,h2.b t _ e]
structure NB (G:G3) (b:Nat) (Lq_:Nat->Nat):Prop where
 bl:b<64
 ma:G.marks=2^b
 cd:G.code=Lq_ b
 st:∀ s∈G.steps,∃ x y,x<64/\y<64/\x≠y/\s.takes=[x]/\s.fills=[y]/\Lq_ y=Lq_ x ^^^ 2^s.w/\(Lq_ x).testBit s.w≠s.up
theorem d4{b:Nat}{Lq_:Nat->Nat}(h:NB G b Lq_):LC G λp=>∃ k,k<64/\p=(2^k,Lq_ k):=by
 have ah:∀ (p:Nat×Nat) (s:St3),(∃ k,k<64/\p=(2^k,Lq_ k))->s∈G.steps->W8 s p.1=true->∃ x y,x<64/\y<64/\x≠y/\s.takes=[x]/\s.fills=[y]/\Lq_ y=Lq_ x ^^^ 2^s.w/\(Lq_ x).testBit s.w≠s.up/\p=(2^x,Lq_ x):=by
  rintro p s ⟨k,hk,rfl⟩ hs hc;obtain⟨x,y,h1,h2,h3,h4,F,S,m⟩:=h.st s hs;have:=Zu.mp hc x (by rw[h4];simp);have e:k=x:=by
   have:(2^k).testBit x=true:=this;rw[DG] at this;simpa using this
  subst e;exact⟨k,y,h1,h2,h3,h4,F,S,m,rfl⟩
 refine⟨⟨b,h.bl,by rw[h.ma,h.cd]⟩,?_,?_,?_,?_⟩
 .intro p s hi hs hc
  obtain⟨x,y,h1,h2,h3,h4,F,S,m,rfl⟩:=ah p s hi hs hc;exact m
 .intro p s hi hs hc q hq hb
  obtain⟨x,y,h1,h2,h3,h4,F,S,m,rfl⟩:=ah p s hi hs hc;rw[F] at hq;rw[AJ.mp hq,DG] at hb;exact absurd (by simpa using hb) h3
 .intro p s hi hs hc
  obtain⟨x,y,h1,h2,h3,h4,F,S,m,rfl⟩:=ah p s hi hs hc;refine⟨y,h2,FW (BM λj=>?_) S.symm⟩;rw[W7,h4,F];show((2^x).testBit j&&!decide (j∈[x])||decide (j∈[y]))=(2^y).testBit j;rw[DG,DG];by_cases e1:x=j
  .subst e1;simp[eq_comm]
  .by_cases e2:y=j<;>simp[e1,e2,eq_comm]
 .intro l hl hp
  have:=SY (λk p=>p=(2^k,Lq_ k)) (λk p q h1 h2=>h1.trans h2.symm) 64 l hl hp;lia
structure NO (G G':G3) (z:Nat):Prop where
 len:G'.steps.length=G.steps.length
 ma:G'.marks=G.marks ||| 2^z
 mz:G.marks.testBit z=false
 cd:G'.code=G.code
 st:∀ s'∈G'.steps,∃ s∈G.steps,∃ b:Bool,s'.w=s.w/\s'.up=s.up/\z∉s.takes/\z∉s.fills/\(∀ q,q∈s'.takes↔q∈s.takes\/(b=true/\q=z))/\(∀ q,q∈s'.fills↔q∈s.fills\/(b=true/\q=z))
theorem eY(h:NO G G' z)(hc:LC G I):LC G' λp=>∃ m,m.testBit z=false/\p.1=m ||| 2^z/\I (m,p.2):=by
 have a:∀ m j:Nat,(m ||| 2^z).testBit j=(m.testBit j||decide (z=j)):=λm j=>by rw[DP,DG]
 have ah:∀ (m:Nat) (s' s:St3) (b:Bool),z∉s.takes->(∀ q,q∈s'.takes↔q∈s.takes\/(b=true/\q=z))->W8 s' (m ||| 2^z)=true->W8 s m=true:=by
  intro m s' s b hz ht hc;refine Zu.mpr λq hq=>?_
  have:=Zu.mp hc q ((ht q).mpr (.inl hq));rw[a] at this;have ae:z≠q:=by rintro rfl;exact hz hq
  rw[AB ae,FZ] at this;exact this
 refine⟨⟨G.marks,h.mz,h.ma,by rw[h.cd];exact hc.ini⟩,?_,?_,?_,?_⟩
 .rintro p s' ⟨m,hm,e,hi⟩ d g
  obtain⟨s,hs,b,w,u,c,i,ht,hf⟩:=h.st s' d;rw[e] at g;have:=hc.lev (m,p.2) s hi hs (ah m s' s b c ht g);rw[w,u];exact this
 .rintro p s' ⟨m,hm,e,hi⟩ d g q hq hb
  obtain⟨s,hs,b,w,u,c,i,ht,hf⟩:=h.st s' d;rw[e] at g hb;rcases(hf q).mp hq with h1 | ⟨h1,h2⟩
  .have ae:z≠q:=by rintro rfl;exact i h1
   rw[a,AB ae,FZ] at hb;exact(ht q).mpr (.inl (hc.room (m,p.2) s hi hs (ah m s' s b c ht g) q h1 hb))
  .exact(ht q).mpr (.inr ⟨h1,h2⟩)
 .rintro p s' ⟨m,hm,e,hi⟩ d g
  obtain⟨s,hs,b,w,u,c,i,ht,hf⟩:=h.st s' d;rw[e] at g;have hn:=hc.nxt (m,p.2) s hi hs (ah m s' s b c ht g);refine⟨(Y9 s (m,p.2)).1,?_,BM λj=>?_,?_⟩
  .rw[W7,hm,AB i];rfl
  .rw[a,W7,W7,e,a]
   by_cases E:z=j
   .subst E
    rw[AG rfl];cases b
    .have n1:z∉s'.takes:=λx=>by rcases(ht z).mp x with y | y;exact c y;exact absurd y.1 (by simp)
     rw[AB n1];simp
    .rw[AG ((hf z).mpr (.inr ⟨rfl,rfl⟩))];simp
   .have t1:decide (j∈s'.takes)=decide (j∈s.takes):=by
     rw[EH,BU,BU,ht j];exact⟨λx=>x.elim id λy=>absurd y.2.symm E,.inl⟩
    have t2:decide (j∈s'.fills)=decide (j∈s.fills):=by
     rw[EH,BU,BU,hf j];exact⟨λx=>x.elim id λy=>absurd y.2.symm E,.inl⟩
    rw[t1,t2,AB E];simp
  .have:(Y9 s' p).2=(Y9 s (m,p.2)).2:=by unfold Y9;rw[w]
   rw[this];exact hn
 .intro l hl hp
  have:=hc.few (l.map λp=>(p.1 ^^^ 2^z,p.2)) ?_ ?_
  .rwa [AF] at this
  .refine List.pairwise_map.mpr (hl.imp ?_)
   intro p q ae e;apply ae;have e1:=DY Prod.fst e;have e2:=DY Prod.snd e;refine FW (BM λj=>?_) e2;have:(p.1 ^^^ 2^z).testBit j=(q.1 ^^^ 2^z).testBit j:=by rw[show p.1 ^^^ 2^z=q.1 ^^^ 2^z from e1]
   rw[Ui,Ui] at this;simpa using this
  .intro p C
   obtain⟨q,hq,rfl⟩:=DJ.mp C;obtain⟨m,hm,e,hi⟩:=hp q hq;have:q.1 ^^^ 2^z=m:=BM λj=>by
    rw[Ui,e,a];by_cases E:z=j
    .subst E;rw[hm];simp
    .simp[E]
   show I (q.1 ^^^ 2^z,q.2);rw[this];exact hi
end L2
variable{s:L2.St3}{a w y:Nat}{f:L2.Zzu}{b:Z PySem.Stmt}{o:PySem.Expr}{aj:Z Nat}
namespace L2
open PySem PySem.Spec PyProof.Rows
section
variable{s:A4}{a:A2}{f:Int->C1 Int}{kvs:Z (Int×Int)}
end
section
variable{t:TS}
end
section
variable{o0 y0 i i2 v:C3}{p0:Pos}
end
end L2
namespace L2
open PySem PySem.Spec PyProof.Rows PySem.W
end L2
namespace L2
open PySem PySem.Spec PyProof.Rows
section
variable{st:Bool}{l1 l2:C3}{tk:Nat}
end
end L2
namespace HT
open PySem PyProof.Rows
section
open PySem.SeqAt

open PySem.MeetsSeq PySem.MeetsSeq2 PySem.MeetsSeq3
end
section
variable{w:Gf}{E:KN}{s:A4}
end
end HT
namespace L2
open PySem PySem.Spec PyProof.Rows
section
variable{lo hi:C1 C3}{tl th:TO}
end
end L2
variable{W:Nat}
namespace L2
open PySem PySem.Spec PyProof.Rows PySem.W
section
variable{g:Zzu}
end
end L2
namespace L2
open PySem PySem.Spec PyProof.Rows
section
variable{w:Gf}{E:KN}{s:A4}{d:A2}{ep:Nat}{od:Obj}{es:Array DictEntry}
end
end L2
namespace L2
open PySem PySem.Spec PyProof.Rows PySem.W
section
variable{e3 l:C3}{g h:Zzu}
end
end L2
namespace L2
open PySem PySem.Spec PyProof.Rows
section
variable{G:Z Dat->Rs}{ps:Z Str}{e0:C3}{f0:Zzu}
end
section
variable{w:Gf}
end
section
variable{ps:Z Str}
end
section
variable{o3 o4 e1 e2 e3 e4 e5:C3}{p6 p7:Pos}
end
section
variable{ps:Z Str}{p':Pos}
end
section
variable{f tn:Str}{ps:Z Str}{p' pt:Pos}{Fg Fs Ff:Z Dat->Rs}
end
section
variable{g:Ev->Fl}
end
section
variable{p im:Nat}{x:A2}{g net bn pose:Dat}
end
section
variable{b1 b2:Z Df}{pn mn an:Str}
end
end L2
variable{p:Nat×Nat}{x b:Nat}{sa:L2.St3}
namespace L2
open PySem PySem.Spec PyProof.Rows PySem.W
section
variable{K:Frag}{f:A2}{m q:Str}{kV:A1}
end
section
variable{ts:Z Str}{ek:Nat}{p:Pos}{tx:Str}
end
section
variable{K:Frag}{l:Z (Str×A2)}{T:Str}{D:A2}
end
end L2
variable{m:Nat}
namespace L2
open PySem PySem.Spec PyProof.Rows
section
variable{p:Pos}
end
theorem C'.lam{B:Bs}{A:AS}(k:C' K B A H σ env)(l:B.st=true)(h:env[i]?=some .tb) :
  ∃ P,Nb K P/\A P=true/\H P=some (.tbl #[])/\∀ H',(∀ b o,b≠P->H b=some o->H' b=some o)->I3 A H (λb=>A b&&b != P) H'/\C' K B (λb=>A b&&b != P) H' σ (env.set i .un):=by
 obtain⟨own,h1,h2,h4⟩:=k.sl;obtain⟨x,Y,P,u,W,z2⟩:=h4 i _ h;obtain⟨hA,Q⟩:=h2 i P W;have c:B.H₀ P=none:=(k.ar P hA).resolve_left (by rw[Q];simp);refine⟨P,u,hA,z2,λH' hk=>?_⟩;have st:I3 A H (λb=>A b&&b != P) H':=⟨λb o hb f=>hk b o (λz=>by rw[z,hA] at f;cases f) hb,λb hb=>.inl (by rw[AW] at hb;exact hb.1)⟩;refine⟨st,λb o hb=>hk b o (Y3 hb c) (k.h0 b o hb),k.r0,λb hb=>?_,λb hb=>?_,λb hb=>?_,by rw[BN];exact k.len,λhs j d'=>Ej (k.np hs) (λ_ z=>by cases z) j d',λj b=>j≠i/\own j b,λj t b z D=>h1 j t b z.2 D.2,λj b z=>?_,λj s e=>?_⟩
 .have hn:b≠P:=by intro z;rw[z,Q] at hb;cases hb
  simp[k.ra b hb,hn]
 .rw[AW] at hb;exact k.ar b hb.1
 .rw[AW] at hb
  have hn:b≠P:=by simpa using hb.2
  have m:=k.mu b hb.1;cases q:H b with
  | none=>rw[q] at m;exact m.elim
  | some o=>rw[hk b o hn q];rw[q] at m;exact m
 .have hn:b≠P:=λw=>z.1 (h1 j i P (w▸z.2) W)
  simp[(h2 j b z.2).1,(h2 j b z.2).2,hn]
 .by_cases hj:i=j
  .subst hj
   rw[AZ,AH rfl] at e;split at e
   .cases e
    exact⟨x,Y,trivial⟩
   .cases e
  .rw[AZ,AM hj] at e
   obtain⟨x,p1,p2⟩:=h4 j s e;have n:∀ b,own j b->b≠P:=λb z w=>hj (h1 i j P W (w▸z))
   refine⟨x,p1,?_⟩;cases s with
   | un=>trivial
   | fz d=>obtain⟨v,w1,w2⟩:=p2;exact⟨v,w1,w2.mono st.av⟩
   | pk d=>exact absurd e (k.np l j d)
   | ow es =>
    obtain⟨b,us,w1,w2,a,p,w5⟩:=p2;exact⟨b,us,w1,⟨AR hj,w2⟩,a,hk _ _ (n b w2) p,w5.mono st.av⟩
   | gx g =>
    obtain⟨v,w1,w2⟩:=p2;exact⟨v,w1,w2.frame (λ_ z=>⟨AR hj,z⟩) (λb o w q=>hk b o (n b w) q) st.av⟩
   | tb =>
    obtain⟨r,w0,w1,w2⟩:=p2;exact⟨r,w0,⟨AR hj,w1⟩,hk _ _ (n r w1) w2⟩
theorem C'.cons{K:J1}{B:Bs}{A:AS}{H:Hp}{σ:St}{env:Ev}{d:Dat}{v:V}(k:C' K B A H σ env)(r:Rp K (av H A) d v):C' K B A H (some v::σ) (.fz d::env):=by
 obtain⟨own,h1,h2,h4⟩:=k.sl;refine⟨k.h0,k.r0,k.ra,k.ar,k.mu,by simp[k.len],λhs j d'=>?_,λj a=>∃ i,j=i+1/\own i a,?_,?_,λj s e=>?_⟩
 .cases j with
  | zero=>simp
  | succ j=>simpa using k.np hs j d'
 .rintro j t a ⟨i,rfl,z⟩ ⟨b,rfl,D⟩
  rw[h1 i b a z D]
 .rintro j a ⟨i,rfl,z⟩
  exact h2 i a z
 .cases j with
  | zero =>
   have e':some (KQ.fz d)=some s:=e;cases e';exact⟨some v,rfl,v,rfl,r⟩
  | succ j =>
   obtain⟨x,Y,q2⟩:=h4 j s (by simpa using e);refine⟨x,by simpa using Y,?_⟩;cases s with
   | un=>trivial
   | fz d=>exact q2
   | pk d=>exact q2
   | ow ds=>obtain⟨a,vs,e1,e2,e3⟩:=q2;exact⟨a,vs,e1,⟨j,rfl,e2⟩,e3⟩
   | gx g=>obtain⟨v,e1,e2⟩:=q2;exact⟨v,e1,e2.frame (λ_ z=>⟨j,rfl,z⟩) (λ_ _ _ z=>z) (Zr.refl _)⟩
   | tb=>obtain⟨P,u,W,z2⟩:=q2;exact⟨P,u,⟨j,rfl,W⟩,z2⟩
noncomputable def PN(i:Nat)(f:Zzu)(fs:Z (C1 Nat))(fe:Zzu)(g:Dat->Ev->C1 Ev):Ev->Fl:=λenv=>match env[i]?,f env with
 | some .tb,some (.lst [x,y])=>(match fe (.fz x::Vb fs (env.set i .un)),fe (.fz y::Vb fs (env.set i .un)) with
  | some (.int a),some (.int b)=>if a≠b then(match g (.lst (if b<a then[y,x] else[x,y])) (env.set i .un) with
   | some e=>.next e
   | none=>.no) else .no
  | _,_=>.no)
 | _,_=>.no
section
variable{body:C3}{fe:Zzu}{g:Dat->Ev->C1 Ev}{params:Arguments}{p:Pos}{y:Str}{fs:Z (C1 Nat)}{kk:Nat}
theorem gJ(i:Nat)(hc:X.calm=true)(hr:I' (kk+2) X.A)(Lq_:∀ P,Nb X.K P->∃ c0,LK X c0 P)(hp:X.env.scope=psc)(hm:X.mg "sorted" = none)(hg:Gl X "sorted")(he:Wn true X e f)
  (hb:∀ (q:Str) (fn c:A2) (A:C0) (s:A4) (H:Hp),Wn false (Pf X q sc (y::N) fn c A s H) body fe)
  (hy:sc.names.lookup y=some .local) (n:sc.isCoroutine=false) (m:sc.isGenerator=false) (t:defaultsOf params X.env=([],[]))
  (j:∀ (q:Str) (cl:Z (Str×A2)) (pm ct u:A1) (c:A2),bindArgs (kla_fn "<lambda>" q params body sc cl pm (.ref c) ct) ⟨[u],[]⟩=pure [(y,u)])
  (S:CompOk psc sc X.N (y::N) (none::fs)) (E:starEach [e] X.env=(false,eval e X.env)::starEach [] X.env:=by rfl) (ag:(backTo pos (starEach [e] X.env)).any (·.1)=false:=by rfl) :
  PE X (.Call (.Name "sorted" p) [e] [⟨some "key",.Lambda params body sc aC,aD⟩] pos) (λσ H Q=>∃ env B A T d2 k1 k2,C' X.K B A H σ env/\B.st=true/\env[i]?=some .tb/\f env=some (.lst [T,d2])/\k1≠k2 /\
   fe (.fz T::Vb fs (env.set i .un))=some (.int k1)/\fe (.fz d2::Vb fs (env.set i .un))=some (.int k2) /\
   ∀ A' H' v,I3 A H A' H'->C' X.K B A' H' σ (env.set i .un)->Rp X.K (av H' A') (.lst (if k2<k1 then[d2,T] else[T,d2])) v->Q v H'):=by
 intro aa s σ H Q I ⟨env,B,A,T,d2,k1,k2,k,l,ht,ef,ae,e1,e2,q⟩;refine CV (Sm I hg hm (show bootBuiltins "sorted" = some (.builtin "sorted") from by ext) ?_ (by decide) (by decide));refine callWith_kw (Ws ((Wy he Ux E) pos aa s σ H (λvs H1=>∃ a v1 v2,vs=[.ref a]/\SL X.K H1 a [v1,v2]/\Zr H H1/\Rp X.K (av H1 A) T v1/\Rp X.K (av H1 A) d2 v2) I ⟨env,B,A,_,k,ef,λv H1 s1 p1=>?_⟩) λus s1 hs=>?_) (by rw[E];rfl) ag
 .obtain⟨a,vs,e3,sl,rs⟩:=p1.pk.lst
  obtain⟨v1,r1,e4,p3,rs⟩:=Y0 rs;obtain⟨v2,r2,e5,p4,rs⟩:=Y0 rs;obtain rfl:=Ym rs;subst e3 e4 e5;exact⟨a,v1,v2,rfl,sl,s1,p3,p4⟩
 obtain⟨vs,H1,I1,r,a,v1,v2,rfl,sl,ac,p1,p2⟩:=hs;obtain⟨P,tb,hAP,G,hk⟩:=(k.mono ac).lam l ht;obtain⟨c0,L0⟩:=Lq_ P tb;refine Ws ((jm (gu L0 hp S t) gR) pos aa s1 σ H1 (λzs H2=>∃ fn c ps pm ct,zs=[.ref fn]/\H2=N9 H1 P c fn ps (X.env.qual++"<lambda>") (kla_obj "<lambda>" (X.env.qual++"<lambda>") params body sc (R8 X.env.cells sc.names []) pm c ct)/\H1 c=none/\H1 fn=none/\c≠fn) I1 ⟨G,λf c ps pm ct h1 h2 h3=>⟨f,c,ps,pm,ct,rfl,rfl,h1,h2,h3⟩⟩) λws s2 hs=>?_
 obtain⟨zs,H2,I2,rz,fn,c,ps,pm,ct,rfl,D,W,z2,z3⟩:=hs;obtain⟨u1,rfl,M⟩:=Ji r;cases M;obtain⟨u2,rfl,M⟩:=Ji rz;cases M;show wpAny _ _ (call (.builtin "sorted") [.ref a] [(Str.ofString "key",.ref fn)]) _ _ _;have up:∀ b o,b≠P->H1 b=some o->H2 b=some o:=λb o hb q=>by rw[D];exact YQ W z2 q hb
 obtain⟨F,ak⟩:=hk H2 up;have x:SL X.K H2 a [v1,v2]:=by
  rcases sl with(h | ⟨o,h⟩) | h
  .exact .inl (.inl (up _ _ (λz=>by rw[z,G] at h;cases h) h))
  .exact .inl (.inr ⟨o,up _ _ (λz=>by rw[z,G] at h;cases h) h⟩)
  .exact .inr h
 have ai:=p1.mono F.av;have aj:=p2.mono F.av;refine lJ I2 x.sq ae (λv kz u hv M pins' H' s' g J=>?_) λpp H' af g C=>?_
 .obtain⟨d,rd,al⟩:∃ d,Rp X.K (av H2 λb=>A b&&b != P) d v/\fe (.fz d::Vb fs (env.set i .un))=some (.int kz):=by
   rcases hv with⟨rfl,rfl⟩ | ⟨rfl,rfl⟩
   .exact⟨T,ai,e1⟩
   .exact⟨d2,aj,e2⟩
  exact kh J hp S hy J.ok.frames (J.ok.hd hc) hr.in1.in1.depth (g _ _ (by rw[D];exact YY)) (g _ _ (by rw[D];exact bc z3)) (j _ _ _ _ _ _) n m M (hb _ fn c _ s' H') ⟨_,⟨H',_,false⟩,_,.int kz,((ak.mono g).inn fs).cons (rd.mono (Wp g)),al,λw Y s r=>⟨M5 (show Rp X.K (av Y λb=>A b&&b != P) (.int kz) w from r),s⟩⟩
 .have k3:=ak.mono g
  have R:Qa false X.K (λb=>A b&&b != P) H' (.lst (if k2<k1 then[d2,T] else[T,d2])) Q:=λv Y s r=>q _ Y v ((I3.same ac).trans (F.trans (I3.same (g.trans s)))) (k3.mono s) r
  refine(R.new k3.mu).at ?_ ?_ pp C
  .split<;>simp[CH]
  .have a1:=ai.mono (Wp g)
   have a2:=aj.mono (Wp g);split
   .exact Wx a2 (Q1 a1)
   .exact Wx a1 (Q1 a2)
theorem c'(i:Nat)(hc:X.calm=true)(hr:I' (kk+2) X.A)(Lq_:∀ P,Nb X.K P->∃ c0,LK X c0 P)(hp:X.env.scope=psc)(hm:X.mg "sorted" = none)(hg:Gl X "sorted")(he:Wn true X e f)
  (hb:∀ (q:Str) (fn c:A2) (A:C0) (s:A4) (H:Hp),Wn false (Pf X q sc (y::N) fn c A s H) body fe) (ht:MN is X tg g)
  (hy:sc.names.lookup y=some .local) (n:sc.isCoroutine=false) (m:sc.isGenerator=false) (t:defaultsOf params X.env=([],[]))
  (j:∀ (q:Str) (cl:Z (Str×A2)) (pm ct u:A1) (c:A2),bindArgs (kla_fn "<lambda>" q params body sc cl pm (.ref c) ct) ⟨[u],[]⟩=pure [(y,u)])
  (S:CompOk psc sc X.N (y::N) (none::fs)) {ax:Pos} (E:starEach [e] X.env=(false,eval e X.env)::starEach [] X.env:=by rfl) (ag:(backTo pos (starEach [e] X.env)).any (·.1)=false:=by rfl)
  (hs:swapsWithSole [tg] (.Call (.Name "sorted" p) [e] [⟨some "key",.Lambda params body sc aC,aD⟩] pos) ax.line X.env=pure false:=by rfl) (J:swappedStores [tg] (.Call (.Name "sorted" p) [e] [⟨some "key",.Lambda params body sc aC,aD⟩] pos) X.env=pure none:=by rfl) (h1:(assignEach [tg] X.env).map (·.2)=[assign tg X.env]:=by rfl) :
  Dl fr X (.Assign [tg] (.Call (.Name "sorted" p) [e] [⟨some "key",.Lambda params body sc aC,aD⟩] pos) ax) (PN i f fs fe g):=(VC (gJ i hc hr Lq_ hp hm hg he hb hy n m t j S E ag) ht hs J h1).weak λD σ H M=>by
 obtain⟨env,B,A,k,l,q⟩:=M;unfold PN at q;split at q
 .rename_i T d2 hi hf
  split at q
  .rename_i a b ha d
   split at q
   .rename_i ae
    split at q
    .rename_i env' h
     exact⟨env,B,A,T,d2,a,b,k,l,hi,hf,ae,ha,d,λA' H' v s k' r=>⟨_,B,A',_,env',k',r,h,λσ' o _=>q A' H' σ' s o⟩⟩
    .exact q.elim
   .exact q.elim
  .exact q.elim
 .exact q.elim
end
variable{g:Ev->Fl}{w:Gf}{f:A2}{x:Str}
noncomputable def OU(i n p:Nat)(g:Ev->Fl):Z Dat->Rs:=λds=>if ds.length=p then(match g ((Vv n ds).set i .tb) with
 | .ret d=>.ok d
 | .next _=>.ok .non
 | .exc _ c fs=>.exc c fs
 | _=>.no) else .no
theorem eG(tb:Nb K T)(hT:H T=some (.tbl #[]))(r:Wj K (av H (λb=>b==T)) ds vs)(hl:ds.length<=N.length) :
  C' K ⟨λb=>if b=T then none else H b,no,true⟩ (λb=>b==T) H (J' N vs) ((Vv N.length ds).set i .tb):=by
 have mu:Td (λb=>b==T) H:=λb hb=>by rw[HL hb,hT];exact trivial
 have k:=Iu mu r hl;obtain⟨own,h1,h2,h4⟩:=k.sl;refine⟨λb o hb=>?_,λb hb=>(by cases hb),λb hb=>(by cases hb),λb hb=>.inr (AH (HL hb)),mu,by rw[BN];exact k.len,λhs j d'=>Ej (k.np hs) (λ_ z=>by cases z) j d',λj b=>j=i/\b=T,?_,?_,λj s e=>?_⟩
 .dsimp only at hb
  split at hb
  .cases hb
  .exact hb
 .rintro j t a ⟨rfl,_⟩ ⟨rfl,_⟩;rfl
 .rintro j a ⟨_,rfl⟩;exact⟨by simp,rfl⟩
 .by_cases hj:i=j
  .subst hj
   rw[AZ,AH rfl] at e;split at e
   .rename_i hi
    cases e;have aj:i<(J' N vs).length:=by rw[k.len];exact hi
    exact⟨_,AK aj,T,tb,⟨rfl,rfl⟩,hT⟩
   .cases e
  .rw[AZ,AM hj] at e
   obtain⟨x,p1,p2⟩:=h4 j s e;refine⟨x,p1,?_⟩;cases s with
   | un=>trivial
   | fz d=>exact p2
   | _ =>
    exfalso;unfold Vv at e;rw[HY] at e;split at e
    .rw[AL] at e
     cases q:ds[j]? with
     | none=>rw[q] at e;cases e
     | some d=>rw[q] at e;cases e
    .rw[EN] at e
     split at e<;>cases e
theorem dR{p:Nat}(hp:p<=N.length)(tb:Nb X.K T)(hT:H T=some (.tbl #[]))(r:Wj X.K (av H (λb=>b==T)) ds vs)(m:OU i N.length p g ds=.ok (.bl true))
  (q:∀ H',Q (.bl true) H'):tS false X g (KR.mk (λ_ H'=>Q .non H') Q (λ_ _=>False) (λ_ _=>False)) (J' N vs) H:=by
 unfold OU at m;split at m
 .rename_i hl
  refine⟨_,_,_,eG (i:=i) tb hT r (by lia),rfl,?_⟩;split at m
  .rename_i d' e
   cases m;rw[e];exactλv H' s r n=>by rw[Oq r];exact q H'
  .cases m
  .cases m
  .cases m
 .cases m
noncomputable def Od(K:J1)(T:A2):Sp:=λvs H Q _=>∃ (a:A2) (ns:Z Int),vs=[.ref a]/\SL K H a (ns.map V.int)/\ns.length<=63/\H T=some (.tbl #[])/\∀ H',Q (.bl true) H'
structure LO (K:J1) (mg:KP) (base:Heap) (c0 T:Addr):Prop where
 hd:CodeHd base c0 T
 ne:mainGlobals≠T
 blt:base.BuiltinsAt mg T
 tab:tabIn K "law" = some (c0,T)
theorem ly(h:tabIn K "law" = some (c0,T)):∃ f o fd,PySem.W.nsIn K mainGlobals "law" = some (some (.ref f))/\K.lookup f=some o/\o.data=.func fd/\fd.code=.ref c0/\UO K c0=some T:=by
 unfold tabIn at h;split at h
 .rename_i f hf
  split at h
  .rename_i oc od fd j a
   split at h
   .rename_i c hc
    split at h
    .rename_i a1 a2 vs a3 n
     split at h
     .rename_i P hv
      cases h;refine⟨f,_,fd,hf,a,rfl,hc,?_⟩;unfold UO;rw[n];dsimp only;rw[hv]
     .cases h
    .cases h
   .cases h
  .cases h
 .cases h
theorem Nb.eq(h:Nb K T)(h':Nb K T'):T=T':=by
 obtain⟨f,o,fd,c,e1,e2,e3,e4,e5⟩:=h;obtain⟨Y,o',fd',g,B,ag,a,b,d⟩:=h';rw[e1] at B;cases B;rw[e2] at ag;cases ag;rw[e3] at a;cases a;rw[e4] at b;cases b;rw[e5] at d;cases d;rfl
theorem j'{ps:Z Str}(F:LM K "law" "law" st f fd)(S:FnScope N ps (Z9 st))(d:ps.length=1)(B:LO K mg base c0 T)
  (hf:PySem.W.nsIn K mainGlobals "law" = some (some (.ref f)))
  (hb:∀ (ai:A1) (A:C0) (outer:Z I0) (s:A4) (H:Hp) (E:XK),I' k (A.deeper (envOfC "law" (Z9 st) s.heap.objs.size f ai))->(∀ r,Nb K r->∃ c,LK (Qf Ec P w K mg base N "law" (Z9 st) f ai A outer s H E).nox c r)->Xc false (Qf Ec P w K mg base N "law" (Z9 st) f ai A outer s H E).nox (Yn st) g)
  (l:∀ ns:Z Int,ns.length<=63->OU i N.length 1 g [.lst (ns.map .int)]=.ok (.bl true)):KO P w K mg base Ec (k+1) f fd ps (Od K T):=by
 have ag:ps.length<=N.length:=by have:=DY List.length S.pre;rw[CP] at this;lia
 obtain⟨oc,od,kV,ap,pm,an,ai,ct,j,rfl,lk,ae⟩:=F.ex;obtain⟨Y,o,fd,e1,e2,e3,e4,e5⟩:=ly B.tab;have tb:Nb K T:=⟨Y,o,fd,c0,e1,e2,e3,e4,e5⟩;rw[hf] at e1;cases e1;rw[lk] at e2;cases e2;cases e3;have ak:ai=.ref c0:=e4;refine VB lk ae S (λvs H Q E ⟨a,ns,e,_⟩=>by rw[e,d];rfl) λA outer s H vs Q E hr ⟨a,ns,e,hS,hl,hT,q⟩=>?_
 have Lq_:∀ r,Nb K r->∃ c,LK (Qf Ec P w K mg base N "law" (Z9 st) f ai A outer s H E).nox c r:=λr h=>by
  cases tb.eq h;exact⟨c0,ak,B.hd,B.ne,B.blt⟩
 refine⟨_,Dq.nox (hb ai A outer s H E hr Lq_),?_⟩;subst e;refine dR (i:=i) (p:=1) (by lia) tb hT (ds:=[.lst (ns.map .int)]) ?_ (l ns hl) q;refine Q1 (Kb ?_ ?_ (Ih ns))
 .rw[AF]
  exact EJ (Tq (by lia))
 .have ne:∀ b u,H b=some u->(∀ ps,u≠.tbl ps)->(av H λb=>b==T) b=some u:=λb u e n=>V7 e (by
   simp only[CO];intro z;rw[z,hT] at e;exact n _ (BC e).symm)
  rcases hS with(h | ⟨o,h⟩) | h
  .exact .inl (.inl (ne _ _ h λ_ z=>by cases z))
  .exact .inl (.inr ⟨o,ne _ _ h λ_ z=>by cases z⟩)
  .exact .inr h
theorem dq{C:KP}{fa a:A2}{sp:Sp}{s₁:A4}{vs:Z A1} 
  (p:K.In s₁.heap) (af:s₁.heap.Ns mainGlobals mg) (hb:s₁.heap.Ns builtinsNs C) (i:∀ x:Str,x≠"__name__" -> C x=bootBuiltins x) (M:s₁.heap.NoLimit) (hg:s₁.gens=#[])
  (ha:s₁.heap.get? a=some { cls:=.type "list",data:=.seq vs.toArray }) (hi:IntsAre vs ns) (hl:ns.length<=sizeLine) (hr:I' k callerA)
  (hT:s₁.heap.get? T=some (tabObj #[])) (R:CodeHd s₁.heap c0 T) (I:K.lookup T=none) (j:tabIn K "law" = some (c0,T))
  (ah:∃ bm ob,mg "__builtins__" = some (.ref bm)/\bm≠builtinsNs/\s₁.heap.get? bm=some ob/\ob.cls=.type "module" /\ ob.dict=some builtinsNs/\ob.data=.plain)
  (F:∀ base:H3,K.In base->base.Ns mainGlobals mg->LO K mg base c0 T->KO P w K mg base CX k fa fd [x] sp) (G:∀ (s:A4) (u:A1),BindsTo s fd ⟨[u],[]⟩ [(x,u)])
  (Y:∀ H:Hp,H T=some (.tbl #[])->SL K H a (ns.map V.int)->sp [.ref a] H (λv _=>v=.bl true) λ_ _ _=>False)
  (ae:∀ H e s',CX [] H s₁ (λ_ _ _=>False) e s'->False) :
  codeAny (model P w) callerA (.call (.ref fa) ⟨[.ref a],[]⟩) (λr s'=>r=.ok (.ret (.bool true))/\OldK s₁.heap s'.heap/\s'.os=s₁.os/\AllBare s'.gens) s₁:=by
 have rv:=F6 hi;have lenV:=hi.length;have aT:a≠T:=λz=>by rw[z,hT] at ha;cases ha
 have B:∀ H:Hp,(∀ b,H b=none\/(b=T/\H b=some (.tbl #[]))\/(b=a/\∃ o xs,H b=some (.frz o (.lst xs))))->H T=some (.tbl #[])->SL K H a (ns.map V.int)->Mx P w H s₁.heap->(H a≠none->K.lookup a=none) ->
   codeAny (model P w) callerA (.call (.ref fa) ⟨[.ref a],[]⟩) (λr s'=>r=.ok (.ret (.bool true))/\OldK s₁.heap s'.heap/\s'.os=s₁.os/\AllBare s'.gens) s₁:=by
  intro H S N hS hok hK;have hA:∀ b,H b≠none->b=a\/b=T:=λb hb=>by
   rcases S b with z | z | z
   .exact absurd z hb
   .exact .inr z.1
   .exact .inl z.1
  have g:∀ {b:A2} {o:Obj},s₁.heap.get? b=some o->H b=none->(Pt s₁.heap H).get? b=some o:=λe n=>lm e n
  have free:∀ {b:A2} {o:Obj},s₁.heap.get? b=some o->o≠{ cls:=.type "list",data:=.seq vs.toArray }->o≠tabObj #[]->H b=none:=λ{b o} e n1 n2=>by
   cases q:H b with
   | none=>rfl
   | some u =>
    rcases hA b (by rw[q];simp) with rfl | rfl
    .rw[ha] at e;exact absurd (BC e).symm n1
    .rw[hT] at e;exact absurd (BC e).symm n2
  have t:∀ {b:A2} {o:Obj} {es:Array DictEntry} {ep:Nat},s₁.heap.get? b=some o->o.data=.dict es ep->H b=none:=λ{b o es ep} e d=>free e (λz=>by rw[z] at d;cases d) λz=>by rw[z] at d;cases d
  have y:∀ {b:A2} {m:KP},s₁.heap.Ns b m->(Pt s₁.heap H).Ns b m:=λ{b m} zz=>by obtain⟨o,es,ep,e,d,r⟩:=zz;exact⟨o,es,ep,g e (t e d),d,r⟩
  have Q:K.In (Pt s₁.heap H):=λb o e=>g (p b o e) (by
   cases q:H b with
   | none=>rfl
   | some u =>
    rcases hA b (by rw[q];simp) with rfl | rfl
    .rw[hK (by rw[q];simp)] at e;cases e
    .rw[I] at e;cases e)
  have hM:Mod K mg (Pt s₁.heap H):=⟨Q,y af,⟨C,y hb,i⟩,let ⟨mc,h1,h2⟩:=M;⟨mc,y h1,h2⟩⟩;have e0:LJ P w K mg (Pt s₁.heap H) callerA [] s₁ H:=⟨rfl,hM,λb o e=>kZ e,JW (kg _ _),trivial,λb hb=>absurd (show b∈([]:Z A2) from hb) (by simp),hok,.of_eq hg⟩;have gT:mainGlobals≠T:=λz=>by
   obtain⟨o,es,ep,e,d,_⟩:=af;rw[z,hT] at e;cases e;cases d
  have tB:LO K mg (Pt s₁.heap H) c0 T:=by
   refine⟨?_,gT,?_,j⟩
   .obtain⟨o,c,X,tf,J,tg,Bz,aa,tt,e,r1,r⟩:=R
    exact⟨o,c,X,tf,J,tg,Bz,aa,tt,g e (free e (λz=>by rw[z] at r1;injection r1 with r1;exact absurd r1 (by decide)) λz=>by rw[z] at r1;cases r1),r1,r⟩
   .obtain⟨bm,ob,b1,b2,b3,b4,b5,l⟩:=ah
    refine⟨bm,ob,b1,b2,λz=>?_,λz=>?_,g b3 (free b3 (λz=>by rw[z] at b4;injection b4 with b4;exact absurd b4 (by decide)) λz=>by rw[z] at b4;cases b4),b4,b5,l⟩
    .obtain⟨o,es,ep,e,d,_⟩:=af
     rw[z,e] at b3;cases b3;rw[d] at l;cases l
    .rw[z,hT] at b3;cases b3;cases b4
  refine FD ((F _ Q (y af) tB).run callerA [] s₁ H ⟨[.ref a],[]⟩ [.ref a] [.ref a] _ _ hr e0 (G s₁ (.ref a)) (.cons rfl .nil) (Y H N hS)) λr s' h=>?_
  cases r with
  | error e=>exact(ae H e s' h).elim
  | ok fl =>
   cases fl with
   | next=>exact False.elim h
   | brk=>exact False.elim h
   | cont=>exact False.elim h
   | ret u =>
    obtain⟨v,H',os,bare,un,E,r',q⟩:=h;have q':v=.bl true:=q;subst q';obtain rfl:u=Value.bool true:=r';have kp:∀ b o,b≠T->s₁.heap.get? b=some o->s'.heap.get? b=some o:=λb o hb e=>by
     rcases S b with z | z | ⟨_,ob,xs,z⟩
     .exact un.keep b o e z (by intro z;exact absurd (show b∈([]:Z A2) from z) (by simp)) (by simp)
     .exact absurd z.1 hb
     .have z2:=un.frzs b ob _ z
      obtain⟨e1,_⟩:=hok b _ z;obtain⟨e2,_⟩:=E b _ z2;rw[e] at e1;cases e1;exact e2
    obtain⟨f,z⟩:=un.tbls T _ N;have ac:s'.heap.get? T=some (tabObj (#[]++f)):=E T _ z;refine⟨rfl,⟨λb o e=>?_,λb o e=>?_⟩,os,bare⟩
    .by_cases hb:b=T
     .subst hb
      rw[hT] at e;cases e;exact .inr (.inl ⟨(R.tab hT).isCodeTable,rfl,#[],f,rfl,ac⟩)
     .exact .inl (kp b o hb e)
    .by_cases hb:b=T
     .exact⟨_,hb▸ac⟩
     .exact⟨o,kp b o hb e⟩
 cases hk:K.lookup a with
 | some o =>
  have e:=p a o hk;rw[ha] at e;cases e;refine B (λb=>if b=T then some (.tbl #[]) else none) (λb=>?_) (AH rfl) (.inr ⟨vs,_,hk,by rw[AF];exact hl,rv⟩) (λb u z=>?_) λz=>absurd (AM aT) z
  .by_cases hb:b=T
   .exact .inr (.inl ⟨hb,AH hb⟩)
   .exact .inl (AM hb)
  .by_cases hb:b=T
   .have D:=(AH hb).symm.trans z
    cases D;subst hb;exact hT
   .have D:=(AM hb).symm.trans z
    cases D
 | none =>
  refine B (λb=>if b=T then some (.tbl #[]) else if b=a then some (.frz { cls:=.type "list",data:=.seq vs.toArray } (.lst (ns.map V.int))) else none) (λb=>?_) (AH rfl) (.inl (.inr ⟨{ cls:=.type "list",data:=.seq vs.toArray },?_⟩)) (λb u z=>?_) λ_=>hk
  .by_cases hb:b=T
   .exact .inr (.inl ⟨hb,AH hb⟩)
   .by_cases A:b=a
    .exact .inr (.inr ⟨A,_,_,by rw[AM hb,AH A]⟩)
    .exact .inl (by rw[AM hb,AM A])
  .show(if a=T then _ else if a=a then _ else _)=_
   rw[AM aT,AH rfl]
  .by_cases hb:b=T
   .have D:=(AH hb).symm.trans z
    cases D;subst hb;exact hT
   .have W:=(AM hb).symm.trans z
    by_cases A:b=a
    .have D:=(AH A).symm.trans W
     cases D;subst A;exact⟨ha,by rw[AF];exact hl,vs,_,rv,ha⟩
    .have D:=(AM A).symm.trans W
     cases D
theorem Zlj{l:PySem.W.OpenLaw}{q:Fn}{loose:Z Str}{E:(Str->C1 A1)->H3->Prop}{B:Gf->H3->Prop}{d:DefRec}{K:Params->J1} 
  (hn:l.most=some 63) (v:d.params.defaults=[]) (hr:I' k callerA) (hq:((recsOf q).find? (λe=>e.name==("law" : Str))).isSome=true)
  (t:∀ (w:Gf) (h:H3),B w h->(K w.params).In h)
  (F:∀ (w:Gf) (mg:KP) (fa:A2) (h:H3),(K w.params).In h->h.Ns mainGlobals mg->mg d.name=some (.ref fa) ->
   ∃ (fd:D1) (c0 T:A2),(∀ (s:A4) (u:A1),BindsTo s fd ⟨[u],[]⟩ [(x,u)])/\tabIn (K w.params) "law" = some (c0,T)/\(K w.params).lookup T=none /\
    ∀ base:H3,(K w.params).In base->base.Ns mainGlobals mg->LO (K w.params) mg base c0 T->KO l.prog w (K w.params) mg base Ec k fa fd [x] (Od (K w.params) T)) :
  PySem.W.WalkO q loose E B l.row.toRowW d [] (λf vs=>PySem.call f vs):=by
 refine Att.attach_call hn v λw s₀ s₁ mg C fa o pm cd ap a vs ns G Y ho hd ae M A c ac hg=>?_
 have p:=t w _ Y;obtain⟨fd,c0,T,hb,j,I,m⟩:=F w mg fa _ p G.T.g M;obtain⟨d',Q⟩:=DB.mp hq;obtain⟨R,hT⟩:=PySem.W.tab_of G.T p Q j;exact dq p G.T.g G.T.b G.T.builtins G.T.nolimit hg A c (BA ac (by decide)) hr hT R I j G.T.bmain m hb (λH h1 h2=>⟨a,ns,rfl,h2,ac,h1,λ_=>rfl⟩) λH e s' z=>z
theorem lI{t0:A2}{Y:A1}{cb:C1 A2}{j C:Array (C1 A1)}{g:Array A1}(l0:PySem.W.nsIn K mainGlobals "law" = some (some (.ref f)))(l1:K.lookup f=some ⟨oc,od,.func fd,j⟩)(l4:fd.code=.ref c0)
  (l5:K.lookup c0=some ⟨Y,cb,.fields g,C⟩) (l6:(g[11]?:C1 A1)=some (.ref t0)):tabIn K "law" = some (c0,t0):=by
 unfold tabIn;rw[l0];dsimp only;rw[l1];dsimp only;rw[l4];dsimp only;rw[l5];dsimp only;rw[l6]
noncomputable def Y2:=@YR true
noncomputable def Z3:=@xv true
noncomputable def Z4:=@YX true
noncomputable def Wf:=@cy false
noncomputable def Vx:=@YR false
noncomputable def Yh:=@LZ.x true
noncomputable def Uh:=@iF false
noncomputable def Zi:=@cE true
noncomputable def Z6:=@xv false
noncomputable def Zq:=@cE false
noncomputable def Wb:=@YX false
noncomputable def Zj:=@YU false
noncomputable def Zf:=@YU true
noncomputable def Zo{X:Cx}:=@WL X false
noncomputable def Zy{X:Cx}:=@WL X true
noncomputable def Jg:=@LZ.x false
noncomputable def Zz:=@XZ false
noncomputable def J8:=@WV false
noncomputable def Qd:=@XZ true
noncomputable def Yt:=@QL false
noncomputable def Jh:=@WV true
end L2
namespace K73
open PySem PySem.Spec PyProof.Rows L2
noncomputable abbrev cA:Z Str:=["_law_script","_law_n","_law_cell","_law_old","_law_one_wire","_law_some","_law_first","_law_second","_law_wire","_law_pair","_law_new"]
noncomputable abbrev cI:Z Str:=["_law_w","_law_word_here","_law_script","_law_first"]
noncomputable abbrev bO:Z Str:=["_law_script","_law_first","_law_many","_law_size"]
noncomputable abbrev bX:Z Str:=["_law_script","_law_first","_law_n","_law_many"]
noncomputable abbrev be:Z Str:=["_law_old","_law_new","_law_pair","_law_cells"]
noncomputable abbrev SF:Z Str:=["_law_j","_law_many","_law_own","_law_cell"]
noncomputable abbrev NM:Z Str:=["Broken","Crowded","TooMany","CalledOff"]
noncomputable abbrev RZ:Z Str:=["_law_graph_here","_law_stand","_law_k"]
noncomputable abbrev RA:Z Str:=["given","made","up","down","start"]
noncomputable abbrev SW:Z Str:=["_law_k","_law_step","_law_old"]
noncomputable abbrev NP:Z Str:=["_law_graph_here","_law_stand"]
noncomputable abbrev OG:Z Str:=["graph","found","at","step"]
noncomputable abbrev NX:Z Str:=["steps","first","second"]
noncomputable abbrev OC:Z Str:=["self","way","lost","by"]
noncomputable abbrev NA:Z Str:=["graph","stand","step"]
noncomputable abbrev MJ:Z Str:=["graph","by","lost"]
noncomputable abbrev KX:Z Str:=["graph","step"]
noncomputable abbrev MM:Z Str:=["_law_script"]
noncomputable abbrev MC:Z Str:=["self","way"]
noncomputable abbrev MA:Z Str:=["_law_wire"]
noncomputable abbrev KU:Z Str:=["graph"]
noncomputable def c_LETTERS:Dat:=.str "abcdefghijklmnopqrstuvwxyz"
noncomputable def c_LONGEST_NAME:Dat:=.int 8
noncomputable def c_MANY_SPOTS:Dat:=.int 64
noncomputable def c_MOST_STEPS_AHEAD:Dat:=.int 22
noncomputable def c_MOST_WIRES_AHEAD:Dat:=.int 9
noncomputable def c_WORDS:Dat:=.tup [.str "given",.str "made",.str "up",.str "down",.str "start"]
noncomputable def Km:Ev->Fl:=(Zd (Jv (Py (dB (dO PD (dF Vp (O (U 0) Zb)) (Θ 1))) (Py (dB (dO PR (dF Vp (O (U 0) Zb)) (dC c_LONGEST_NAME))) (dB (dO Bz (U 0) (dC c_WORDS))))) (W3 (dC (.bl false))) Vo)
 (W3 (dF PY (O (dL (Vk (UU (U 0)) [none] (Y8 0) Ug (dO Bz (U 0) (dC c_LETTERS)))) Zb))))
noncomputable def Tw:Z Dat->Rs:=W2 1 1 Km
noncomputable def As:Ev->Fl:=(W3 (dL (Vk (Tc (dO Yd (U 0) (Θ 0))) [none,none] (Ij 2 (W1 (Y8 0) (W1 (Y8 1) Jx))) Ug (U 0))))
noncomputable def Au:Z Dat->Rs:=W2 1 1 As
noncomputable def Kd:Ev->Fl:=(W3 (dO S5 (dO Yd (dO Yd (dO Yd (U 0) (Θ 0)) (U 1)) (Θ 1)) (dC (.str "made"))))
noncomputable def Qx:Z Dat->Rs:=W2 2 2 Kd
noncomputable def Kf:Ev->Fl:=(W3 (dO Yd (dO Yd (dO Yd (U 0) (Θ 1)) (U 1)) (Θ 0)))
noncomputable def Tt:Z Dat->Rs:=W2 2 2 Kf
noncomputable def Ke:Ev->Fl:=(W3 (dO Yd (dO Yd (dO Yd (U 0) (Θ 1)) (U 1)) (Θ 1)))
noncomputable def Kv:Z Dat->Rs:=W2 2 2 Ke
noncomputable def G4:Ev->Fl:=(W3 (dO Yd (dO Yd (dO Yd (U 0) (Θ 1)) (U 1)) (Θ 2)))
noncomputable def Vg:Z Dat->Rs:=W2 2 2 G4
noncomputable def Ew:Ev->Fl:=(W3 (dO Yd (dO Yd (dO Yd (U 0) (Θ 1)) (U 1)) (Θ 3)))
noncomputable def J9:Z Dat->Rs:=W2 2 2 Ew
noncomputable def UE:Ev->Fl:=(Zd (Zw 1 (Θ 0))
 (Zd (T4 (Tc (U 0)) (Y8 2) (Zw 1 (dO MF (U 1) (dO Ds (Θ 1) (U 2)))))
 (W3 (U 1))))
noncomputable def M6:Z Dat->Rs:=W2 3 1 UE
noncomputable def Ky:Ev->Fl:=(W3 (dO S5 (dO M9 (dO Ph (U 0) (U 1)) (Θ 1)) (Θ 1)))
noncomputable def Mn:Z Dat->Rs:=W2 2 2 Ky
noncomputable def SN:Ev->Fl:=(Zd (Zw 3 (Zx M6 (O (Zx Vg (O (U 0) (O (U 2) Zb))) Zb)))
 (W3 (dO S5 (dO M9 (dO Yd (U 1) (Θ 0)) (U 3)) (U 3))))
noncomputable def QM:Z Dat->Rs:=W2 4 3 SN
noncomputable def D4:Ev->Fl:=(Zd (Zw 3 (Zx Tt (O (U 0) (O (U 2) Zb))))
 (Zd (Jv (dB (dO S5 (Zx Mn (O (dO Yd (U 1) (Θ 1)) (O (U 3) Zb))) (Zx Kv (O (U 0) (O (U 2) Zb))))) (U9 "Broken" (gW "way") (O (dL (Ud (O (U 2) Zb))) Zb)) Vo)
 (Zd (Zw 4 (dO M9 (dO Yd (U 1) (Θ 0)) (dU QN (Zx M6 (O (Zx Vg (O (U 0) (O (U 2) Zb))) Zb)))))
 (Zd (Zw 5 (Zx M6 (O (Zx J9 (O (U 0) (O (U 2) Zb))) Zb)))
 (Zd (Jv (dB (dO Cd (dO M9 (U 4) (U 5)) (Θ 0))) (U9 "Crowded" (gW "way") (O (dL (Ud (O (U 2) Zb))) Zb)) Vo)
 (W3 (W6 (O (dO MF (U 4) (U 5)) (O (dO Pw (dO Yd (U 1) (Θ 1)) (dO Ds (Θ 1) (U 3))) Zb)))))))))
noncomputable def Ia:Z Dat->Rs:=W2 6 3 D4
variable{m:Bool}{p:Pos}
noncomputable def En:Ev->Fl:=(W3 (dL (Vk (Vl (O (dF Vp (O (dO Yd (U 0) (Θ 1)) Zb)) Zb)) [none,some 0,some 1] (Y8 0) (dT (Zx QM (O (U 1) (O (U 2) (O (U 0) Zb))))) (U 0))))
noncomputable def Re:Z Dat->Rs:=W2 2 2 En
noncomputable def TD:Ev->Fl:=(Zd (Rj 2 (Ud Zb))
 (Zd (Zw 3 (U 1))
 (Zd (Sj (dB (dO UN (dO Yd (dO Yd (U 0) (U 3)) (Θ 2)) (dC .non))) (Zd (J5 2 Vh (O (dO Yd (dO Yd (U 0) (U 3)) (Θ 3)) Zb))
 (Zw 3 (dO Yd (dO Yd (U 0) (U 3)) (Θ 2)))))
 (W3 (dL (QF (O (dP 2) Zb)))))))
noncomputable def Lc:Z Dat->Rs:=W2 4 2 TD
noncomputable def Qy:Ev->Fl:=(RE NM "Broken" "Crowded" (QE Ia (O (U 0) (O (dS Ac (dO Yd (U 1) (U 2)) E2 (U1 (Θ 2))) (O (U 3) Zb)))) (U9 "Broken" (gW "way") (O (dL (dO N3 (Zx Lc (O (U 1) (O (U 2) Zb))) (dL (Ud (O (U 3) Zb))))) Zb)) (U9 "Crowded" (gW "way") (O (dL (dO N3 (Zx Lc (O (U 1) (O (U 2) Zb))) (dL (Ud (O (U 3) Zb))))) Zb)))
noncomputable def Dk:Z Dat->Rs:=W2 4 4 Qy
noncomputable def Oh:Ev->Fl:=(Zd (Rj 2 (Ud (O (W6 (O (dO Yd (U 0) (Θ 2)) (O (dO Yd (U 0) (Θ 3)) (O (dC .non) (O (dC .non) Zb))))) Zb)))
 (Zd (Ct 3 (W6 (O (dO Yd (U 0) (Θ 2)) (O (dO Yd (U 0) (Θ 3)) Zb))) (dC (.bl true)))
 (Zd (Zw 4 (Θ 0))
 (Zd (Sj (dB (dO PD (U 4) (dF Vp (O (dP 2) Zb)))) (Zd (Zw 5 (Zx Re (O (U 0) (O (dS Ac (dO Yd (dP 2) (U 4)) E2 (U1 (Θ 2))) Zb))))
 (Zd (T4 (Tc (U 5)) (Y8 6) (Zd (Lr 7 (Hy Dk) (O (U 0) (O (dP 2) (O (U 4) (O (U 6) Zb)))))
 (Zd (Jv (dB (PV false 3 (U 7))) (λenv=>.cont env) Vo)
 (Zd (Jv (dB (dO VD (dF Vp (O (dP 2) Zb)) (U 1))) (U9 "TooMany" gZ Zb) Vo)
 (Zd (Pj 3 (U 7) (dC (.bl true)))
 (J5 2 Vh (O (W6 (O (dO Yd (U 7) (Θ 0)) (O (dO Yd (U 7) (Θ 1)) (O (U 4) (O (U 6) Zb))))) Zb)))))))
 (PQ 4 (Θ 1)))))
 (Lf 2)))))
noncomputable def Mj:Z Dat->Rs:=W2 8 2 Oh
noncomputable def Bq:Ev->Fl:=(Zd (Zw 3 (dO M9 (Zx M6 (O (Zx Vg (O (U 0) (O (U 1) Zb))) Zb)) (dU QN (Zx M6 (O (Zx J9 (O (U 0) (O (U 1) Zb))) Zb)))))
 (W3 (dO Cd (dO M9 (U 3) (Zx M6 (O (Zx Vg (O (U 0) (O (U 2) Zb))) Zb))) (Θ 0))))
noncomputable def UQ:Z Dat->Rs:=W2 4 3 Bq
noncomputable def Jc:Ev->Fl:=(W3 (QR (Zx Qx (O (U 0) (O (Zx Tt (O (U 0) (O (U 1) Zb))) Zb))) (Zx Qx (O (U 0) (O (Zx Tt (O (U 0) (O (U 2) Zb))) Zb)))))
noncomputable def Jo:Z Dat->Rs:=W2 3 3 Jc
noncomputable def Hc:Ev->Fl:=(Zd (Rj 1 (Ud Zb))
 (Zd (T4 (Vl (O (dF Vp (O (dO Yd (U 0) (Θ 1)) Zb)) Zb)) (Y8 2) (T4 (Vl (O (dF Vp (O (dO Yd (U 0) (Θ 1)) Zb)) Zb)) (Y8 3) (Jv (Ii (dB (dO Cd (U 2) (U 3))) (Ii (dT (Zx Jo (O (U 0) (O (U 2) (O (U 3) Zb))))) (dT (Zx UQ (O (U 0) (O (U 2) (O (U 3) Zb))))))) (J5 1 Vh (O (W6 (O (U 2) (O (U 3) Zb))) Zb)) Vo)))
 (Lf 1)))
noncomputable def O8:Z Dat->Rs:=W2 4 1 Hc
noncomputable def Ic:Ev->Fl:=(Zd (Lr 2 Mj (O (U 0) (O (U 1) Zb)))
 (Zd (Zw 3 (Zx O8 (O (U 0) Zb)))
 (Zd (T4 (N4 (U 2)) (Ij 2 (W1 (Y8 4) (W1 (Y8 5) Jx))) (Zd (Zw 6 (Zx Re (O (U 0) (O (dS Ac (U 5) E2 (U1 (Θ 2))) Zb))))
 (T4 (Tc (U 3)) (Ij 2 (W1 (Y8 7) (W1 (Y8 8) Jx))) (Jv (Ii (dB (dO Bz (U 7) (U 6))) (dB (dO Bz (U 8) (U 6)))) (U9 "CalledOff" (gC "way" "lost" "by") (O (Zx Lc (O (U 2) (O (U 4) Zb))) (O (U 8) (O (U 7) Zb)))) Vo))))
 (W3 (U 2)))))
noncomputable def Q3:Z Dat->Rs:=W2 9 2 Ic
noncomputable def My:Ev->Fl:=(Zd (Zw 1 (dO Yd (U 0) (Θ 2)))
 (Zd (T4 (Vl (O (dF Vp (O (dO Yd (U 0) (Θ 1)) Zb)) Zb)) (Y8 2) (Zw 1 (dO MF (dO MF (U 1) (Zx M6 (O (Zx Vg (O (U 0) (O (U 2) Zb))) Zb))) (Zx M6 (O (Zx J9 (O (U 0) (O (U 2) Zb))) Zb)))))
 (W3 (dL (Vk (Vl (O (dC c_MANY_SPOTS) Zb)) [none,some 1] (Y8 0) (Jf (dT (Zx Mn (O (U 1) (O (U 0) Zb))))) (U 0))))))
noncomputable def Qu:Z Dat->Rs:=W2 3 1 My
noncomputable def Eg:Ev->Fl:=(Zd (Jv (Py (dB (dO PR (dF Vp (O (dO Yd (U 0) (Θ 0)) Zb)) (dC c_MOST_WIRES_AHEAD))) (dB (dO PR (dF Vp (O (dO Yd (U 0) (Θ 1)) Zb)) (dC c_MOST_STEPS_AHEAD)))) (W3 (dC (.bl false))) Vo)
 (W3 (dO VD (dF Vp (O (Zx Qu (O (U 0) Zb)) Zb)) (Θ 2))))
noncomputable def Ef:Z Dat->Rs:=W2 1 1 Eg
noncomputable def So:Ev->Fl:=(Jv (Py (Jf (dT (Zx Tw (O (U 1) Zb)))) (Py (dB (dO Bz (U 1) (Zx Au (O (U 0) Zb)))) (Jf (dT (Zx Ef (O (U 0) Zb)))))) UI Vo)
noncomputable def Sv:Z Dat->Rs:=W2 2 2 So
noncomputable def G5:Ev->Fl:=(Jv (Py (dB (dO S5 (U 1) (U 2))) (Py (dB (dO Eb (U 1) (U 0))) (dB (dO Eb (U 2) (U 0))))) UI Vo)
noncomputable def Eh:Z Dat->Rs:=W2 3 3 G5
noncomputable def K6:Ev->Fl:=(W3 (W6 (O (dO Yd (U 0) (Θ 0)) (O (dO Yd (U 0) (Θ 1)) (O (W6 (O (U 1) Zb)) (O (dO Yd (U 0) (Θ 3)) Zb))))))
noncomputable def Di:Z Dat->Rs:=W2 2 2 K6
noncomputable def R7:Ev->Fl:=(W3 (dL (Vk (Vl (O (dF Vp (O (dO Yd (U 0) (Θ 1)) Zb)) Zb)) [none,some 0] (Y8 0) (dT (Zx Qx (O (U 1) (O (Zx Tt (O (U 1) (O (U 0) Zb))) Zb)))) (U 0))))
noncomputable def R3:Z Dat->Rs:=W2 1 1 R7
noncomputable def Oj:Ev->Fl:=(Zd (F7 (Zx Sv (O (U 0) (O (U 1) Zb))))
 (Zd (F7 (Zx Eh (O (Zx R3 (O (U 0) Zb)) (O (U 2) (O (U 3) Zb)))))
 (Zd (Zw 4 (dF Vp (O (dO Yd (U 0) (Θ 0)) Zb)))
 (Zd (Zw 5 (Zx Qu (O (U 0) Zb)))
 (Zd (Zw 6 (W6 (O (U 4) (O (dC (.bl true)) (O (Zx Vg (O (U 0) (O (U 2) Zb))) (O (W6 (O (dO Yd (U 5) (Θ 0)) Zb)) Zb))))))
 (Zd (Zw 7 (W6 (O (U 4) (O (dC (.bl false)) (O (Zx Vg (O (U 0) (O (U 3) Zb))) (O (W6 (O (dO Yd (U 5) (Θ 1)) Zb)) Zb))))))
 (Zd (Rj 8 (dF RX (O (dO Yd (U 0) (Θ 1)) Zb)))
 (Zd (Jb 8 (U 2) (Zx Di (O (dO Yd (dP 8) (U 2)) (O (dO Yd (U 5) (Θ 0)) Zb))))
 (Zd (Jb 8 (U 3) (Zx Di (O (dO Yd (dP 8) (U 3)) (O (dO Yd (U 5) (Θ 1)) Zb))))
 (W3 (W6 (O (dO A0 (dO Yd (U 0) (Θ 0)) (W6 (O (W6 (O (U 1) (O (dC (.str "made")) Zb))) Zb))) (O (dF tupleD (O (dO Yu (dP 8) (dL (Ud (O (U 6) (O (U 7) Zb))))) Zb)) (O (dO Yd (U 0) (Θ 2)) (O (dO Yd (U 0) (Θ 3)) Zb)))))))))))))))
noncomputable def Iy:Z Dat->Rs:=W2 9 4 Oj
noncomputable def J7:Ev->Fl:=(Zd (Zw 2 (dO Yu (dO Ha (Θ 7919) (U 1)) (Θ 12345)))
 (Zd (Jv (dB (dO PD (U 1) (dF Vp (O (U 0) Zb)))) (Zw 2 (dO Yu (U 2) (dO Ha (dO Yd (U 0) (U 1)) (Θ 6364136223846793005)))) Vo)
 (W3 (dO Vc (dO Ha (U 2) (Θ 48271)) (Θ 1000000000039)))))
noncomputable def Yb:Z Dat->Rs:=W2 3 2 J7
noncomputable def Qb:Ev->Fl:=(Zd (Zw 2 (dC (.str "abcdefghijklmnopqrstuvwxyz")))
 (Zd (Zw 3 (dO Yu (Θ 2) (dO Vc (U 0) (Θ 7))))
 (Zd (Zw 4 (dO Vc (dO V0 (U 0) (Θ 7)) (U 3)))
 (Zd (Zw 5 (dC (.str "")))
 (Zd (T4 (Vl (O (U 3) Zb)) (Y8 6) (Zd (Zw 7 (Θ 0))
 (Zd (Jv (dB (dO S5 (U 6) (U 4))) (Zw 7 (U 1)) Vo)
 (Zw 5 (dO Yu (U 5) (dO Yd (U 2) (dO Vc (dO Yu (dO Yu (dO V0 (U 0) (Θ 49)) (dO Ha (Θ 5) (U 6))) (dO Ha (Θ 7) (U 7))) (Θ 26))))))))
 (Zd (Jv (dB (dO Bz (U 5) (dL (Ud (O (dC (.str "given")) (O (dC (.str "made")) (O (dC (.str "up")) (O (dC (.str "down")) (O (dC (.str "start")) Zb))))))))) (Zw 5 (dO Yu (dS Ac (U 5) (U1 (Θ 1)) E2) (dC (.str "q")))) Vo)
 (W3 (U 5))))))))
noncomputable def Ve:Z Dat->Rs:=W2 8 2 Qb
noncomputable def Tb:Ev->Fl:=(Zd (Rj 3 (Ud Zb))
 (Zd (T4 (Vl (O (U 2) Zb)) (Y8 4) (Zd (Zw 5 (Zx Yb (O (U 0) (O (dO Yu (U 1) (U 4)) Zb))))
 (Zd (Zw 6 (dO Vc (U 5) (dO Yu (dF Vp (O (dP 3) Zb)) (Θ 1))))
 (Zd (J5 3 Rk (O (U 6) (O (U 4) Zb)))
 (Zd (Zw 7 (dO Vc (dO V0 (U 5) (Θ 64)) (dO Aj (dF Vp (O (dP 3) Zb)) (U 6))))
 (J5 3 Rk (O (dO Yu (dO Yu (U 6) (Θ 1)) (U 7)) (O (U 4) Zb))))))))
 (Lf 3)))
noncomputable def Mv:Z Dat->Rs:=W2 8 3 Tb
noncomputable def Ue:Ev->Fl:=(Zd (Rj 4 (Ud Zb))
 (Zd (T4 (Vl (O (U 2) Zb)) (Y8 5) (Zd (Zw 6 (Zx Yb (O (U 0) (O (dO Yu (U 1) (U 5)) Zb))))
 (Zd (Zw 7 (dO Vc (U 6) (U 3)))
 (Zd (Zw 8 (dO Vc (dO V0 (U 6) (Θ 64)) (U 3)))
 (Jv (Ii (dB (dO Cd (U 7) (U 8))) (dB (dO Eb (W6 (O (dF PF (O (U 7) (O (U 8) Zb))) (O (dF ON (O (U 7) (O (U 8) Zb))) Zb))) (dP 4)))) (J5 4 Vh (O (W6 (O (dF PF (O (U 7) (O (U 8) Zb))) (O (dF ON (O (U 7) (O (U 8) Zb))) Zb))) Zb)) Vo)))))
 (Lf 4)))
noncomputable def Me:Z Dat->Rs:=W2 9 4 Ue
noncomputable def T7:Ev->Fl:=(Zd (Zw 4 (Zx Mv (O (U 0) (O (U 1) (O (U 2) Zb)))))
 (Zd (Zw 5 (dO Ha (Θ 2) (U 2)))
 (Zd (Zw 6 (Zx Yb (O (U 0) (O (dO Yu (U 1) (U 2)) Zb))))
 (Zd (Zw 7 (Zx Me (O (U 0) (O (dO Yu (dO Yu (U 1) (U 2)) (Θ 1)) (O (U 3) (O (U 5) Zb))))))
 (Zd (Jv (dB (dO S5 (dO Vc (U 6) (Θ 3)) (Θ 0))) (Zw 7 (dO Yu (U 7) (dL (Vk (Vl (O (dO Aj (U 5) (Θ 1)) Zb)) [none,some 7] (Y8 0) (dB (dO Eb (W6 (O (U 0) (O (dO Yu (U 0) (Θ 1)) Zb))) (U 1))) (W6 (O (U 0) (O (dO Yu (U 0) (Θ 1)) Zb))))))) Vo)
 (Zd (T4 (Vl (O (U 2) Zb)) (Y8 8) (Zd (Zw 9 (dM "list" K4 (U 4) (O (U 8) Zb)))
 (Zd (Zw 10 (dO Yu (dO Yu (U 9) (Θ 1)) (dM "list" K4 (dS Ac (U 4) (U1 (dO Yu (U 9) (Θ 1))) E2) (O (U 8) Zb))))
 (Zw 7 (dO Yu (dL (Vk (Tc (U 7)) [none,some 9,some 10] (Y8 0) (dB (dO Cd (U 0) (W6 (O (U 1) (O (U 2) Zb))))) (U 0))) (dL (Ud (O (W6 (O (U 9) (O (U 10) Zb))) Zb))))))))
 (Zd (Fi 11 (Tc (U 4)) [none] (Y8 0))
 (Zd (Fi 12 (Tc (U 4)) [none] (Y8 0))
 (Zd (Zw 13 (Θ 0))
 (Zd (Zw 14 (dO Vc (dO V0 (U 6) (Θ 3)) (Θ 20)))
 (Zd (T4 (Tc (U 7)) (Ij 2 (W1 (Y8 15) (W1 (Y8 16) Jx))) (Zd (Lm 12 (U 15) (O (U 14) Zb))
 (Zd (Lm 11 (U 16) (O (U 14) Zb))
 (Zd (Lm 12 (U 16) (O (dO Yu (U 14) (Θ 1)) Zb))
 (Zd (Lm 11 (U 15) (O (dO Yu (U 14) (Θ 1)) Zb))
 (Zd (Zw 13 (dO MF (U 13) (dO Ds (Θ 1) (dO Yu (U 14) (Θ 1)))))
 (Zw 14 (dO Yu (U 14) (Θ 2)))))))))
 (Zd (Zw 17 (dO Vc (dO V0 (U 6) (Θ 60)) (dO Ds (Θ 1) (U 2))))
 (Zd (Zw 18 (U 17))
 (Zd (Rj 19 (Ud Zb))
 (Zd (T4 (N4 (U 4)) (Ij 2 (W1 (Y8 20) (W1 (Y8 8) Jx))) (Zd (J5 19 Vh (O (W6 (O (U 8) (O (dO S5 (dO M9 (dO Ph (U 18) (U 8)) (Θ 1)) (Θ 0)) (O (dF tupleD (O (dL (dF Ju (O (OQ 11 (U 20)) Zb))) Zb)) (O (dF tupleD (O (dL (dF Ju (O (OQ 12 (U 20)) Zb))) Zb)) Zb))))) Zb))
 (Zw 18 (dO Pw (U 18) (dO Ds (Θ 1) (U 8))))))
 (Zd (Zw 21 (dO Vc (dO V0 (U 6) (Θ 2000)) (U 5)))
 (Zd (Rj 19 (dO N3 (dS Ac (dP 19) (U1 (U 21)) E2) (dS Ac (dP 19) E2 (U1 (U 21)))))
 (Zd (Zw 22 (dO V0 (U 6) (Θ 40000)))
 (Zd (Zw 23 (dL (Vk (Vl (O (U 2) Zb)) [none,some 22,some 0,some 1] (Y8 0) Ug (W6 (O (Zx Ve (O (U 1) (O (U 0) Zb))) (O (dO Yd (dL (Ud (O (dC (.str "given")) (O (dC (.str "made")) Zb)))) (dO Vc (dO V0 (Zx Yb (O (U 2) (O (dO Yu (U 3) (U 0)) Zb))) (Θ 4096)) (Θ 2))) Zb))))))
 (W3 (W6 (O (dF tupleD (O (U 23) Zb)) (O (dF tupleD (O (dP 19) Zb)) (O (U 13) (O (U 17) Zb)))))))))))))))))))))))))
noncomputable def Mw:Z Dat->Rs:=W2 24 4 T7
noncomputable def Qh:Ev->Fl:=(Zd (Zw 1 (Θ 0))
 (Zd (T4 (Tc (U 0)) (Y8 2) (Zw 1 (dO MF (U 1) (dO Ds (Θ 1) (U 2)))))
 (W3 (U 1))))
noncomputable def Vy:Z Dat->Rs:=W2 3 1 Qh
noncomputable def Ep:Ev->Fl:=(Zd (Zw 3 (Zx Vy (O (dO Yd (dO Yd (dO Yd (U 0) (Θ 1)) (U 2)) (Θ 2)) Zb)))
 (W3 (dO S5 (dO M9 (dO Yd (U 1) (Θ 0)) (U 3)) (U 3))))
noncomputable def Ts:Z Dat->Rs:=W2 4 3 Ep
noncomputable def M8:Ev->Fl:=(Zd (OO (dO Yd (dO Yd (U 0) (Θ 1)) (U 2)) (Ij 4 (W1 (Y8 3) (W1 (Y8 4) (W1 (Y8 5) (W1 (Y8 6) Jx))))))
 (W3 (W6 (O (dO MF (dO Pw (dO Yd (U 1) (Θ 0)) (Zx Vy (O (U 5) Zb))) (Zx Vy (O (U 6) Zb))) (O (dO Pw (dO Yd (U 1) (Θ 1)) (dO Ds (Θ 1) (U 3))) Zb)))))
noncomputable def V4:Z Dat->Rs:=W2 7 3 M8
noncomputable def Uc:Ev->Fl:=(Zd (Zw 2 (dO Yu (Θ 2) (dO Vc (Zx Yb (O (U 0) (O (U 1) Zb))) (Θ 2))))
 (Zd (Zw 3 (dO Yu (Θ 1) (dO Vc (dO V0 (Zx Yb (O (U 0) (O (U 1) Zb))) (Θ 2)) (Θ 2))))
 (Zd (Zw 4 (dO V0 (Zx Yb (O (U 0) (O (U 1) Zb))) (Θ 4)))
 (Zd (Zw 5 (dL (Vk (Vl (O (U 2) Zb)) [none,some 4] (Y8 0) Ug (W6 (O (Zx Ve (O (U 1) (O (U 0) Zb))) (O (dC (.str "given")) Zb))))))
 (Zd (Zw 5 (dO Yu (U 5) (dL (Vk (Vl (O (U 3) Zb)) [none,some 4,some 2] (Y8 0) Ug (W6 (O (Zx Ve (O (U 1) (O (dO Yu (U 2) (U 0)) Zb))) (O (dC (.str "made")) Zb)))))))
 (Zd (Rj 6 (Ud Zb))
 (Zd (Zw 7 (Θ 1))
 (Zd (T4 (Vl (O (U 2) Zb)) (Y8 8) (Zd (Zw 9 (Zx Yb (O (U 0) (O (dO Yu (dO Yu (U 1) (Θ 1)) (U 8)) Zb))))
 (Zd (Zw 10 (dL (Vk (Vl (O (U 3) Zb)) [none,some 2,some 3,some 9] (Y8 0) Ug (dO Yu (U 1) (dO Vc (dO Yu (U 3) (U 0)) (U 2))))))
 (Zd (Zw 11 (dL (Vk (Vl (O (U 3) Zb)) [none,some 2,some 3,some 9] (Y8 0) Ug (dO Yu (U 1) (dO Vc (dO Yu (dO V0 (U 3) (Θ 2)) (U 0)) (U 2))))))
 (Zd (Rj 12 (dO N3 (dL (Vk (Tc (U 10)) [none] (Y8 0) Ug (W6 (O (U 0) (O (dC (.bl true)) Zb))))) (dL (Vk (Tc (U 11)) [none] (Y8 0) Ug (W6 (O (U 0) (O (dC (.bl false)) Zb)))))))
 (Zd (J5 12 Rk (O (dO Vc (dO V0 (U 9) (Θ 4)) (dO Yu (dF Vp (O (dP 12) Zb)) (Θ 1))) (O (W6 (O (U 8) (O (dC (.bl false)) Zb))) Zb)))
 (Zd (Zw 13 (Θ 0))
 (T4 (N4 (dO Yu (dL (Ud (O (W6 (O (U 8) (O (dC (.bl true)) Zb))) Zb))) (dP 12))) (Ij 2 (W1 (Y8 14) (W1 (Y8 15) Jx))) (Zd (Zw 16 (U 7))
 (Zd (Jv (dB (dO S5 (U 14) (dF Vp (O (dP 12) Zb)))) (Zw 16 (Θ 0)) Vo)
 (Zd (J5 6 Vh (O (W6 (O (dO Yd (U 15) (Θ 0)) (O (dO Yd (U 15) (Θ 1)) (O (W6 (O (U 13) Zb)) (O (W6 (O (U 16) Zb)) Zb))))) Zb))
 (Zd (Zw 13 (U 16))
 (Zw 7 (dO Yu (U 7) (Θ 1)))))))))))))))
 (W3 (W6 (O (dF tupleD (O (U 5) Zb)) (O (dF tupleD (O (dP 6) Zb)) (O (Θ 1) (O (Θ 0) Zb))))))))))))))
noncomputable def Mb:Z Dat->Rs:=W2 17 2 Uc
noncomputable def V6:Ev->Fl:=(Zd (Rj 2 (dF RX (O (dO Yd (U 0) (Θ 0)) Zb)))
 (Zd (Jb 2 (U 1) (W6 (O (dO Yd (dO Yd (dP 2) (U 1)) (Θ 0)) (O (dC (.str "made")) Zb))))
 (W3 (dO A0 (W6 (O (dF tupleD (O (dP 2) Zb)) Zb)) (dS Ac (U 0) (U1 (Θ 1)) E2)))))
noncomputable def Tj:Z Dat->Rs:=W2 3 2 V6
noncomputable def Uo:Ev->Fl:=(Zd (Zw 2 (dC (.str "abcdefghijklmnopqrstuvwxyz")))
 (Zd (Zw 3 (dL (Vk (Tc (U 1)) [none] (Y8 0) Ug (dO Yd (U 0) (Θ 0)))))
 (Zd (T4 (Vl (O (Θ 26) Zb)) (Y8 4) (Zd (Zw 5 (dC (.str "")))
 (Zd (T4 (Vl (O (dO Yu (Θ 1) (dO Vc (U 0) (Θ 8))) Zb)) (Y8 6) (Zw 5 (dO Yu (U 5) (dO Yd (U 2) (dO Vc (dO Yu (dO Yu (dO V0 (U 0) (Θ 8)) (dO Ha (Θ 11) (U 6))) (U 4)) (Θ 26))))))
 (Jv (Ii (dB (dO Eb (U 5) (U 3))) (dB (dO Eb (U 5) (dL (Ud (O (dC (.str "given")) (O (dC (.str "made")) (O (dC (.str "up")) (O (dC (.str "down")) (O (dC (.str "start")) Zb)))))))))) (W3 (U 5)) Vo))))
 (W3 (dC (.str "zzzzzzzz"))))))
noncomputable def Uq:Z Dat->Rs:=W2 7 2 Uo
noncomputable def U3:Ev->Fl:=(Zd (Zw 2 (dO Yd (U 0) (Θ 2)))
 (Zd (T4 (Tc (dO Yd (U 0) (Θ 1))) (Y8 3) (Zw 2 (dO MF (dO MF (U 2) (Zx Vy (O (dO Yd (U 3) (Θ 2)) Zb))) (Zx Vy (O (dO Yd (U 3) (Θ 3)) Zb)))))
 (Zd (Zw 4 (dO Yd (dL (Vk (Vl (O (Θ 64) Zb)) [none,some 2] (Y8 0) (dB (dO S5 (dO M9 (dO Ph (U 1) (U 0)) (Θ 1)) (Θ 0))) (U 0))) (dO Vc (U 1) (Θ 3))))
 (Zd (Rj 5 (Ud Zb))
 (Zd (T4 (N4 (dO Yd (U 0) (Θ 1))) (Ij 2 (W1 (Y8 6) (W1 (Y8 3) Jx))) (Zd (OO (U 3) (Ij 4 (W1 (Y8 7) (W1 (Y8 8) (W1 (Y8 9) (W1 (Y8 10) Jx))))))
 (Zd (Jv (dB (dO S5 (dO M9 (dO Ph (dO V0 (U 1) (Θ 3)) (U 6)) (Θ 1)) (Θ 1))) (Zd (Zw 9 (dF tupleD (O (dL (dF Ju (O (dO A0 (U 9) (W6 (O (U 4) Zb))) Zb))) Zb)))
 (Zw 10 (dF tupleD (O (dL (dF Ju (O (dO A0 (U 10) (W6 (O (U 4) Zb))) Zb))) Zb)))) Vo)
 (J5 5 Vh (O (W6 (O (U 7) (O (U 8) (O (U 9) (O (U 10) Zb))))) Zb)))))
 (W3 (W6 (O (dO Yd (U 0) (Θ 0)) (O (dF tupleD (O (dP 5) Zb)) (O (dO MF (dO Yd (U 0) (Θ 2)) (dO Ds (Θ 1) (U 4))) (O (dO Yd (U 0) (Θ 3)) Zb)))))))))))
noncomputable def Jj:Z Dat->Rs:=W2 11 2 U3
noncomputable def Wu:Ev->Fl:=(Zd (Zw 1 (dC (.bl true)))
 (Zd (SD NM (λ_=>true) (G8 Q3 (O (U 0) (O (Θ 400) Zb))) (Zw 1 (dC (.bl false))))
 (W3 (U 1))))
noncomputable def Wm:Z Dat->Rs:=W2 2 1 Wu
noncomputable def S8:Ev->Fl:=(W3 (dL (Vk (Vl (O (dF Vp (O (dO Yd (U 0) (Θ 1)) Zb)) Zb)) [none,some 0,some 1] (Y8 0) (dT (Zx Ts (O (U 1) (O (U 2) (O (U 0) Zb))))) (U 0))))
noncomputable def Qe:Z Dat->Rs:=W2 2 2 S8
noncomputable def Qj:Ev->Fl:=(Zd (Zw 3 (W6 (O (dO Yd (U 1) (Θ 2)) (O (dO Yd (U 1) (Θ 3)) Zb))))
 (Zd (Zw 4 (W6 (O (dO Yd (U 0) (Θ 2)) (O (dO Yd (U 0) (Θ 3)) Zb))))
 (Zd (Zw 5 (dF Vp (O (dO Yd (U 0) (Θ 1)) Zb)))
 (Zd (T4 (Tc (U 2)) (Y8 6) (Zd (Zw 7 (Zx Qe (O (U 1) (O (U 3) Zb))))
 (Zd (Jv (dB (dO S5 (U 7) (dL (Ud Zb)))) (W3 (dO S5 (Zx Qe (O (U 0) (O (U 4) Zb))) (dL (Ud Zb)))) Vo)
 (Zd (Zw 8 (dO Yd (U 7) (dO Vc (U 6) (dF Vp (O (U 7) Zb)))))
 (Zd (Zw 3 (Zx V4 (O (U 1) (O (U 3) (O (U 8) Zb)))))
 (Zd (Jv (dB (dO PD (U 8) (U 5))) (Zd (Jv (Jf (dT (Zx Ts (O (U 0) (O (U 4) (O (U 8) Zb)))))) (W3 (dC (.bl false))) Vo)
 (Zw 4 (Zx V4 (O (U 0) (O (U 4) (O (U 8) Zb)))))) Vo)
 (Jv (dB (dO Cd (dO Yd (U 4) (Θ 1)) (dO M9 (dO Yd (U 3) (Θ 1)) (dO Aj (dO Ds (Θ 1) (dF Vp (O (dO Yd (U 0) (Θ 0)) Zb))) (Θ 1))))) (W3 (dC (.bl false))) Vo)))))))
 (W3 (dC (.bl true)))))))
noncomputable def Ul:Z Dat->Rs:=W2 9 3 Qj
noncomputable def Qq:Ev->Fl:=(Zd (Zw 4 (W6 (O (dO Yd (U 1) (Θ 2)) (O (dO Yd (U 1) (Θ 3)) Zb))))
 (Zd (Zw 5 (W6 (O (dO Yd (U 0) (Θ 2)) (O (dO Yd (U 0) (Θ 3)) Zb))))
 (Zd (Zw 6 (dF Vp (O (dO Yd (U 0) (Θ 1)) Zb)))
 (Zd (T4 (Tc (U 3)) (Y8 7) (Zd (Zw 8 (Zx Qe (O (U 0) (O (U 5) Zb))))
 (Zd (Jv (dB (dO S5 (U 8) (dL (Ud Zb)))) (W3 (dC (.bl true))) Vo)
 (Zd (Zw 9 (dO Yd (U 8) (dO Vc (U 7) (dF Vp (O (U 8) Zb)))))
 (Zd (Zw 10 (dL (Ud (O (U 9) Zb))))
 (Zd (Jv (dB (dO Bz (U 9) (U 2))) (Zw 10 (dL (Ud (O (dO Yu (U 6) (dM "list" K4 (U 2) (O (U 9) Zb))) (O (U 9) Zb))))) Vo)
 (Zd (T4 (Tc (U 10)) (Y8 11) (Zd (Jv (Jf (dT (Zx Ts (O (U 1) (O (U 4) (O (U 11) Zb)))))) (W3 (dC (.bl false))) Vo)
 (Zw 4 (Zx V4 (O (U 1) (O (U 4) (O (U 11) Zb)))))))
 (Zd (Zw 5 (Zx V4 (O (U 0) (O (U 5) (O (U 9) Zb)))))
 (Jv (dB (dO Cd (dO Yd (U 5) (Θ 1)) (dO M9 (dO Yd (U 4) (Θ 1)) (dO Aj (dO Ds (Θ 1) (dF Vp (O (dO Yd (U 0) (Θ 0)) Zb))) (Θ 1))))) (W3 (dC (.bl false))) Vo)))))))))
 (W3 (dC (.bl true)))))))
noncomputable def Uj:Z Dat->Rs:=W2 12 4 Qq
noncomputable def Xu:Ev->Fl:=(Zd (Zw 1 (dO Yu (Θ 1) (dO Vc (Zx Yb (O (U 0) (O (Θ 0) Zb))) (Θ 4))))
 (Zd (Zw 2 (Zx Yb (O (U 0) (O (Θ 2) Zb))))
 (Zd (Zw 3 (Zx Tj (O (Zx Mw (O (U 0) (O (Θ 3) (O (U 1) (O (dO Vc (Zx Yb (O (U 0) (O (Θ 1) Zb))) (Θ 5)) Zb))))) (O (dO Vc (dO V0 (U 2) (Θ 6)) (U 1)) Zb))))
 (Zd (Zw 4 (dO S5 (dO Vc (U 2) (Θ 2)) (Θ 0)))
 (Zd (Jv (dB (dO S5 (dO Vc (dO V0 (Zx Yb (O (U 0) (O (Θ 1) Zb))) (Θ 5)) (Θ 4)) (Θ 0))) (Zd (Zw 3 (Zx Mb (O (U 0) (O (Θ 3) Zb))))
 (Zw 4 (dC (.bl false)))) Vo)
 (Zd (Jv (Ii (Jf (dT (U 4))) (dB (dO S5 (dO Vc (dO V0 (U 2) (Θ 4)) (Θ 3)) (Θ 0)))) (Zw 3 (Zx Jj (O (U 3) (O (dO V0 (U 2) (Θ 12)) Zb)))) Vo)
 (Zd (Rj 5 (Vk (N4 (dO Yd (U 3) (Θ 1))) [none,none,some 3] (Ij 2 (W1 (Y8 0) (W1 (Y8 1) Jx))) (dB (dO S5 (dO Yd (dO Yd (dO Yd (U 2) (Θ 0)) (dO Yd (U 1) (Θ 0))) (Θ 1)) (dC (.str "made")))) (U 0)))
 (Zd (Pr 6 5 (O (dO Vc (dO V0 (U 2) (Θ 7)) (dF Vp (O (dP 5) Zb))) Zb))
 (Zd (Zw 7 (dO Yd (dP 5) (dO Vc (dO V0 (U 2) (Θ 77)) (dF Vp (O (dP 5) Zb)))))
 (Zd (Jv (dT (U 4)) (Zd (Zw 8 (dO Yd (dO Yd (dO Yd (U 3) (Θ 1)) (U 6)) (Θ 0)))
 (Zd (Zw 9 (dO Yu (dL (Ud (O (U 6) Zb))) (dL (Vk (Tc (dP 5)) [none,some 8,some 3] (Y8 0) (dB (dO S5 (dO Yd (dO Yd (dO Yd (U 2) (Θ 1)) (U 0)) (Θ 0)) (U 1))) (U 0)))))
 (PN 10 (U 9) [some 8,some 3] (dO Pw (dO Pw (dF PX (O (dO Yd (dO Yd (dO Yd (U 2) (Θ 1)) (U 0)) (Θ 1)) Zb)) (Θ 1)) (dO M9 (dO Ph (dO Yd (U 2) (Θ 3)) (U 1)) (Θ 1))) (Ij 2 (W1 (Y8 6) (W1 (Y8 7) Jx)))))) Vo)
 (Zd (Zw 10 (Zx Iy (O (U 3) (O (Zx Uq (O (dO V0 (U 2) (Θ 600)) (O (dO Yd (U 3) (Θ 0)) Zb))) (O (U 6) (O (U 7) Zb))))))
 (Zd (Jv (Jf (dT (Zx Wm (O (U 10) Zb)))) (W3 (OM (U 4))) Vo)
 (Zd (Jv (Jf (dT (Zx Ul (O (U 3) (O (U 10) (O (dS Ac (U 0) (U1 (Θ 5)) (U1 (Θ 63))) Zb)))))) (W3 (dC (.bl false))) Vo)
 (W3 (Zx Uj (O (U 3) (O (U 10) (O (dL (Ud (O (U 6) (O (U 7) Zb)))) (O (dS Ac (U 0) (U1 (Θ 5)) (U1 (Θ 63))) Zb)))))))))))))))))))
noncomputable def bi:Z Dat->Rs:=OU 10 11 1 Xu
theorem J6{P:Z Str}(h1:sc.kind=.function:=by rfl)(h2:sc.isCoroutine=false:=by rfl)(h3:sc.isGenerator=false:=by rfl)(h4:N.Nodup:=by ext)(F:N.take P.length=P:=by rfl)(S:∀ x∈P,sc.names.lookup x=some .local\/sc.names.lookup x=some .cell:=by ext)(m:∀ y∈sc.names,y.2≠.free:=by ext):FnScope N P sc:=⟨h1,h2,h3,h4,F,S,m⟩
noncomputable def Jk(i:Nat):Df:=PySem.Challenge.pw_calmwires_k73_the_wire_left_out.main.body.getD i (.Pass ⟨0,0,0,0⟩)
noncomputable abbrev Dn:Df:=Jk 11
theorem gQ:FnScope ["text"] ["text"] (Z9 Dn):=J6
noncomputable abbrev Nj:Df:=Jk 12
theorem gY:FnScope KU KU (Z9 Nj):=J6
noncomputable abbrev Ki:Df:=Jk 13
theorem iG:FnScope ["graph","wire"] ["graph","wire"] (Z9 Ki):=J6
noncomputable abbrev K0:Df:=Jk 14
theorem dW:FnScope KX KX (Z9 K0):=J6
noncomputable abbrev Kg:Df:=Jk 15
theorem mT:FnScope KX KX (Z9 Kg):=J6
noncomputable abbrev Eo:Df:=Jk 16
theorem cM:FnScope KX KX (Z9 Eo):=J6
noncomputable abbrev E9:Df:=Jk 17
theorem Cf:FnScope KX KX (Z9 E9):=J6
noncomputable abbrev VF:Df:=Jk 18
theorem Nm:FnScope ["some","number","place"] ["some"] (Z9 VF):=J6
noncomputable abbrev Ku:Df:=Jk 19
theorem jz:FnScope ["number","place"] ["number","place"] (Z9 Ku):=J6
noncomputable abbrev UB:Df:=Jk 21
theorem WX:FnScope ["graph","stand","step","takes"] NA (Z9 UB):=J6
noncomputable abbrev O7:Df:=Jk 22
theorem D9:FnScope ["graph","stand","step","wire","left","fills"] NA (Z9 O7):=J6
noncomputable abbrev Mz:Df:=Jk 24
theorem eN:FnScope ["graph","stand"] ["graph","stand"] (Z9 Mz):=J6
noncomputable abbrev US:Df:=Jk 26
theorem Bb:FnScope ["found","n","steps","at"] ["found","n"] (Z9 US):=J6
noncomputable abbrev Kk:Df:=Jk 25
theorem li:FnScope OG OG (Z9 Kk):=J6
noncomputable abbrev O0:Df:=Jk 23
theorem Uw:FnScope ["graph","most","found","seen","at","here","step","stand"] ["graph","most"] (Z9 O0):=J6
noncomputable abbrev VE:Df:=Jk 28
theorem ZM:FnScope ["graph","by","lost","kept"] MJ (Z9 VE):=J6
noncomputable abbrev Ja:Df:=Jk 31
theorem N2:FnScope MJ MJ (Z9 Ja):=J6
noncomputable abbrev Og:Df:=Jk 30
theorem Dj:FnScope ["graph","pairs","by","lost"] KU (Z9 Og):=J6
noncomputable abbrev Fu:Df:=Jk 29
theorem Qc:FnScope ["graph","most","found","pairs","n","stand","here","by","lost"] ["graph","most"] (Z9 Fu):=J6
noncomputable abbrev Qv:Df:=Jk 41
theorem Q4:FnScope ["graph","used","step"] KU (Z9 Qv):=J6
noncomputable abbrev Em:Df:=Jk 40
theorem ca:FnScope KU KU (Z9 Em):=J6
noncomputable abbrev Sg:Df:=Jk 39
theorem Ay:FnScope ["graph","name"] ["graph","name"] (Z9 Sg):=J6
noncomputable abbrev Ed:Df:=Jk 38
theorem gi:FnScope NX NX (Z9 Ed):=J6
noncomputable abbrev K9:Df:=Jk 37
theorem jv:FnScope ["step","spot"] ["step","spot"] (Z9 K9):=J6
noncomputable abbrev Qw:Df:=Jk 42
theorem X9:FnScope KU KU (Z9 Qw):=J6
noncomputable abbrev P4:Df:=Jk 36
theorem Qz:FnScope ["graph","name","first","second","wire","spots","rise","fall","steps"] ["graph","name","first","second"] (Z9 P4):=J6
noncomputable abbrev Ek:Df:=Jk 44
theorem Sd:FnScope ["_law_script","_law_k","_law_number"] ["_law_script","_law_k"] (Z9 Ek):=J6
noncomputable abbrev Sf:Df:=Jk 45
theorem Wh:FnScope ["_law_cell","_law_k","_law_letters","_law_size","_law_at","_law_word_here","_law_j","_law_shift"] ["_law_cell","_law_k"] (Z9 Sf):=J6
noncomputable abbrev R4:Df:=Jk 46
theorem Vm:FnScope ["_law_script","_law_first","_law_n","_law_order_here","_law_w","_law_cell","_law_at","_law_far"] ["_law_script","_law_first","_law_n"] (Z9 R4):=J6
noncomputable abbrev M7:Df:=Jk 47
theorem V8:FnScope ["_law_script","_law_first","_law_many","_law_size","_law_pairs","_law_k","_law_cell","_law_i","_law_j"] bO (Z9 M7):=J6
noncomputable abbrev V1:Df:=Jk 48
theorem Zk:FnScope ["_law_script","_law_first","_law_n","_law_many","_law_order_here","_law_size","_law_cell","_law_pairs","_law_w","_law_one","_law_two","_law_takes","_law_fills","_law_marks","_law_spots","_law_i","_law_j","_law_code","_law_seen","_law_steps","_law_d","_law_turn","_law_word_here","_law_wires"] bX (Z9 V1):=J6
noncomputable abbrev D3:Df:=Jk 49
theorem Qt:FnScope ["_law_some","_law_number","_law_place"] ["_law_some"] (Z9 D3):=J6
noncomputable abbrev Gc:Df:=Jk 50
theorem Lu:FnScope ["_law_graph_here","_law_stand","_law_k","_law_takes"] RZ (Z9 Gc):=J6
noncomputable abbrev Md:Df:=Jk 51
theorem Vz:FnScope ["_law_graph_here","_law_stand","_law_k","_law_wire","_law_up","_law_takes","_law_fills"] RZ (Z9 Md):=J6
noncomputable abbrev Wi:Df:=Jk 53
theorem Zt:FnScope ["_law_script","_law_first","_law_many","_law_own","_law_word_here","_law_wires","_law_steps","_law_spots","_law_k","_law_cell","_law_chain","_law_back","_law_both","_law_last","_law_at","_law_deed","_law_fill"] ["_law_script","_law_first"] (Z9 Wi):=J6
noncomputable abbrev Tx:Df:=Jk 54
theorem Jt:FnScope ["_law_graph_here","_law_wire","_law_wires"] ["_law_graph_here","_law_wire"] (Z9 Tx):=J6
noncomputable abbrev Up:Df:=Jk 55
theorem Wd:FnScope ["_law_cell","_law_wires","_law_letters","_law_there","_law_k","_law_word_here","_law_j"] ["_law_cell","_law_wires"] (Z9 Up):=J6
noncomputable abbrev T8:Df:=Jk 56
theorem Y4:FnScope ["_law_graph_here","_law_cell","_law_there","_law_step","_law_spot","_law_steps","_law_k","_law_wire","_law_up","_law_takes","_law_fills"] ["_law_graph_here","_law_cell"] (Z9 T8):=J6
noncomputable abbrev Qp:Df:=Jk 57
theorem To:FnScope ["_law_graph_here","_law_fine"] ["_law_graph_here"] (Z9 Qp):=J6
noncomputable abbrev Jq:Df:=Jk 58
theorem A6:FnScope NP NP (Z9 Jq):=J6
noncomputable abbrev Qm:Df:=Jk 59
theorem Yk:FnScope ["_law_old","_law_new","_law_cells","_law_stand","_law_shadow","_law_many","_law_cell","_law_free_here","_law_k"] ["_law_old","_law_new","_law_cells"] (Z9 Qm):=J6
noncomputable abbrev Qk:Df:=Jk 60
theorem Y7:FnScope ["_law_old","_law_new","_law_pair","_law_cells","_law_stand","_law_shadow","_law_many","_law_cell","_law_free_here","_law_k","_law_steps","_law_step"] be (Z9 Qk):=J6
noncomputable abbrev Mm:Df:=Jk 61
theorem Ua:FnScope cA MM (Z9 Mm):=J6
structure Txt (K:J1) (mg:KP):Prop where
 b_all:mg "all" = none
 b_enumerate:mg "enumerate" = none
 b_int:mg "int" = none
 b_len:mg "len" = none
 b_list:mg "list" = none
 b_max:mg "max" = none
 b_min:mg "min" = none
 b_range:mg "range" = none
 b_reversed:mg "reversed" = none
 b_sorted:mg "sorted" = none
 b_tuple:mg "tuple" = none
 q_0:OX K mg "Broken" NM
 q_1:OX K mg "Crowded" NM
 u_8:RN K mg "CalmError" NM (λ_=>true)
 c_LETTERS:NF K mg "LETTERS" c_LETTERS
 c_LONGEST_NAME:NF K mg "LONGEST_NAME" c_LONGEST_NAME
 c_MANY_SPOTS:NF K mg "MANY_SPOTS" c_MANY_SPOTS
 c_MOST_STEPS_AHEAD:NF K mg "MOST_STEPS_AHEAD" c_MOST_STEPS_AHEAD
 c_MOST_WIRES_AHEAD:NF K mg "MOST_WIRES_AHEAD" c_MOST_WIRES_AHEAD
 c_WORDS:NF K mg "WORDS" c_WORDS
noncomputable abbrev TX(b:Bd):=Txt b.K b.mg
noncomputable abbrev Xz(b:Bd):Prop:=b.D 1 "is_name" ["text"] false Tw
noncomputable abbrev XP(b:Bd):Prop:=b.D 1 "names" KU true Au
noncomputable abbrev Kh(b:Bd):Prop:=b.D 1 "is_made" ["graph","wire"] false Qx
noncomputable abbrev Dp(b:Bd):Prop:=b.D 1 "wire_of" KX false Tt
noncomputable abbrev Xi(b:Bd):Prop:=b.D 1 "is_rise" KX false Kv
noncomputable abbrev Tu(b:Bd):Prop:=b.D 1 "takes_of" KX false Vg
noncomputable abbrev R5(b:Bd):Prop:=b.D 1 "fills_of" KX false J9
noncomputable abbrev Pp(b:Bd):Prop:=b.D 1 "bits" ["some"] false M6
noncomputable abbrev Ko(b:Bd):Prop:=b.D 1 "has_one" ["number","place"] false Mn
noncomputable abbrev XR(b:Bd):Prop:=b.D 2 "can" NA false QM
noncomputable abbrev bR(b:Bd):Prop:=b.X 3 "behind" NA false Ia true
noncomputable abbrev Er(b:Bd):Prop:=b.D 3 "steps_at" ["graph","stand"] true Re
noncomputable abbrev d7(b:Bd):Prop:=b.D 1 "way" ["found","n"] true Lc
noncomputable abbrev bo(b:Bd):Prop:=b.N 1 "way" ["found","n"] true Lc
noncomputable abbrev Xw(b:Bd):Prop:=b.X 4 "come_to" OG false Dk
noncomputable abbrev XG(b:Bd):Prop:=b.X 5 "stands" ["graph","most"] true Mj
noncomputable abbrev bz(b:Bd):Prop:=b.D 2 "robs" MJ false UQ
noncomputable abbrev D0(b:Bd):Prop:=b.D 2 "touches_made" MJ false Jo
noncomputable abbrev C9(b:Bd):Prop:=b.D 3 "rivals" KU true O8
noncomputable abbrev bu(b:Bd):Prop:=b.X 6 "sound" ["graph","most"] false Q3
noncomputable abbrev Rh(b:Bd):Prop:=b.D 2 "free_spots" KU true Qu
noncomputable abbrev Ot(b:Bd):Prop:=b.D 3 "has_room" KU false Ef
noncomputable abbrev Lq(b:Bd):Prop:=b.D 4 "need_room" ["graph","name"] false Sv
noncomputable abbrev Oy(b:Bd):Prop:=b.D 3 "need_two" NX false Eh
noncomputable abbrev Xv(b:Bd):Prop:=b.D 1 "waiting" ["step","spot"] false Di
noncomputable abbrev Hn(b:Bd):Prop:=b.D 2 "made_steps" KU true R3
noncomputable abbrev VY(b:Bd):Prop:=b.D 5 "put_in" ["graph","name","first","second"] false Iy
noncomputable abbrev Tk(b:Bd):Prop:=b.D 1 "_law_mix" ["_law_script","_law_k"] false Yb
noncomputable abbrev Sl(b:Bd):Prop:=b.D 1 "_law_word" ["_law_cell","_law_k"] false Ve
noncomputable abbrev Hb(b:Bd):Prop:=b.D 2 "_law_order" ["_law_script","_law_first","_law_n"] true Mv
noncomputable abbrev Dy(b:Bd):Prop:=b.D 2 "_law_arrows" bO true Me
noncomputable abbrev Gy(b:Bd):Prop:=b.D 3 "_law_graph" bX false Mw
noncomputable abbrev Jz(b:Bd):Prop:=b.D 1 "_law_bits" ["_law_some"] false Vy
noncomputable abbrev Rc(b:Bd):Prop:=b.D 2 "_law_can" RZ false Ts
noncomputable abbrev Ma(b:Bd):Prop:=b.D 2 "_law_behind" RZ false V4
noncomputable abbrev E6(b:Bd):Prop:=b.D 2 "_law_choice" ["_law_script","_law_first"] false Mb
noncomputable abbrev Mr(b:Bd):Prop:=b.D 1 "_law_with_made" ["_law_graph_here","_law_wire"] false Tj
noncomputable abbrev Ry(b:Bd):Prop:=b.D 1 "_law_new_name" ["_law_cell","_law_wires"] false Uq
noncomputable abbrev Sw(b:Bd):Prop:=b.D 2 "_law_lookers" ["_law_graph_here","_law_cell"] false Jj
noncomputable abbrev Rt(b:Bd):Prop:=b.D 7 "_law_is_sound" ["_law_graph_here"] false Wm
noncomputable abbrev Sb(b:Bd):Prop:=b.D 3 "_law_free" NP true Qe
noncomputable abbrev Ru(b:Bd):Prop:=b.D 4 "_law_new_ways" ["_law_old","_law_new","_law_cells"] false Ul
noncomputable abbrev Rv(b:Bd):Prop:=b.D 4 "_law_old_ways" be false Uj
section
variable{w:Gf}{b:Bd}
theorem dt(T:Txt X.K X.mg)(hg:Gl X "LETTERS" := by rfl):Wn m X (.Name "LETTERS" p) (dC c_LETTERS):=T.c_LETTERS.x hg
theorem Pq(T:Txt X.K X.mg)(hg:Gl X "LONGEST_NAME" := by rfl):Wn m X (.Name "LONGEST_NAME" p) (dC c_LONGEST_NAME):=T.c_LONGEST_NAME.x hg
theorem Ar(T:Txt X.K X.mg)(hg:Gl X "MANY_SPOTS" := by rfl):Wn m X (.Name "MANY_SPOTS" p) (dC c_MANY_SPOTS):=T.c_MANY_SPOTS.x hg
theorem Gh(T:Txt X.K X.mg)(hg:Gl X "MOST_STEPS_AHEAD" := by rfl):Wn m X (.Name "MOST_STEPS_AHEAD" p) (dC c_MOST_STEPS_AHEAD):=T.c_MOST_STEPS_AHEAD.x hg
theorem Ee(T:Txt X.K X.mg)(hg:Gl X "MOST_WIRES_AHEAD" := by rfl):Wn m X (.Name "MOST_WIRES_AHEAD" p) (dC c_MOST_WIRES_AHEAD):=T.c_MOST_WIRES_AHEAD.x hg
theorem mM(T:Txt X.K X.mg)(hg:Gl X "WORDS" := by rfl):Wn m X (.Name "WORDS" p) (dC c_WORDS):=T.c_WORDS.x hg
end
noncomputable abbrev UT:Df:=Nq (Jk 2) 0
theorem gz:FnScope MC MC (Z9 UT):=J6
noncomputable abbrev TN:Df:=Nq (Jk 3) 0
theorem mO:FnScope MC MC (Z9 TN):=J6
noncomputable abbrev TY:Df:=Nq (Jk 4) 0
theorem hH:FnScope ["self"] ["self"] (Z9 TY):=J6
noncomputable abbrev TZ:Df:=Nq (Jk 5) 0
theorem kF:FnScope OC OC (Z9 TZ):=J6
section
variable{P:Fn}{w:Gf}{K:J1}{mg:KP}{base:H3}{b:Bd}
theorem iS{C D:A2}(B:LF K mg D)(z:CD K D C "Broken.__init__" UT)(hc:Vq K "Broken" C)(hm:mg "Broken" = some (.ref C))(bl:mg "list" = none)(b:PySem.W.findIn K (.ref C) "way" = some none):XMakeN P w K mg base 1 "Broken" 1 (gW "way"):=let ⟨fI,fd,F,hk,hx,xc,a⟩:=z
 ⟨⟨C,fI,D,fd,MC,hc,hm,hk,hx,xc,a,bZ (k:=0) F gz hx xc b (λai A outer s H E hr=>(Mo (Jr (Nt B (Wy (pv 0) (Wy (K7 (O9 (Av hr (pv 1) SV))) Ux)))) (Gp (Fz (pv 0) (Mp (Ey K) rfl bl (by ext) (Wy (pv 1) Ux)))))) (λH e a0 n0 l0 m0=>(Hx (Hf Bi (by ext) rfl (.inr ⟨a0,n0,rfl,l0,m0⟩)) (by ext))),
  F.binds λ_ _ _ _ _ _ us hl=>LA us hl λ_ _=>rfl⟩,b7,by lia⟩
theorem mi{C D:A2}(B:LF K mg D)(z:CD K D C "Crowded.__init__" TN)(hc:Vq K "Crowded" C)(hm:mg "Crowded" = some (.ref C))(bl:mg "list" = none)(b:PySem.W.findIn K (.ref C) "way" = some none):XMakeN P w K mg base 1 "Crowded" 1 (gW "way"):=let ⟨fI,fd,F,hk,hx,xc,a⟩:=z
 ⟨⟨C,fI,D,fd,MC,hc,hm,hk,hx,xc,a,bZ (k:=0) F mO hx xc b (λai A outer s H E hr=>(Mo (Jr (Nt B (Wy (pv 0) (Wy (K7 (O9 (Av hr (pv 1) SV))) Ux)))) (Gp (Fz (pv 0) (Mp (Ey K) rfl bl (by ext) (Wy (pv 1) Ux)))))) (λH e a0 n0 l0 m0=>(Hx (Hf Bi (by ext) rfl (.inr ⟨a0,n0,rfl,l0,m0⟩)) (by ext))),
  F.binds λ_ _ _ _ _ _ us hl=>LA us hl λ_ _=>rfl⟩,b7,by lia⟩
theorem il{C D:A2}(B:LF K mg D)(z:CD K D C "TooMany.__init__" TY)(hc:Vq K "TooMany" C)(hm:mg "TooMany" = some (.ref C))(bl:mg "list" = none)  : KY P w K mg base 1 "TooMany" 0 gZ:=let ⟨fI,fd,F,hk,hx,xc,a⟩:=z
 ⟨⟨C,fI,D,fd,["self"],hc,hm,hk,hx,xc,a,cT (k:=0) F hH hx (λai A outer s H E hr=>(Gp (Jr (Nt B (Wy (pv 0) (Wy YI Ux)))))),
  F.binds λ_ _ _ _ _ _ us hl=>MO us hl λ_=>rfl⟩,bQ,by lia⟩
theorem fD{C D:A2}(B:LF K mg D)(z:CD K D C "CalledOff.__init__" TZ)(hc:Vq K "CalledOff" C)(hm:mg "CalledOff" = some (.ref C))(bl:mg "list" = none)(b:PySem.W.findIn K (.ref C) "way" = some none)(Q:PySem.W.findIn K (.ref C) "lost" = some none)(aF:PySem.W.findIn K (.ref C) "by" = some none):KY P w K mg base 1 "CalledOff" 3 (gC "way" "lost" "by"):=let ⟨fI,fd,F,hk,hx,xc,a⟩:=z
 ⟨⟨C,fI,D,fd,OC,hc,hm,hk,hx,xc,a,ll (k:=0) F kF hx xc b Q aF (by ext) (by ext) (by ext) (λai A outer s H E hr=>(Mo (Jr (Nt B (Wy (pv 0) (Wy (K7 (O9 (TK hr (pv 2) (O9 (TK hr (pv 3) (O9 (TK hr (pv 1) SV))))))) Ux)))) (Mo (Fz (pv 0) (Mp (Ey K) rfl bl (by ext) (Wy (pv 1) Ux))) (Mo (XV (pv 0) (pv 2)) (Gp (XV (pv 0) (pv 3))))))) (λH e a0 n0 c i1 l0 m0 d v0 u1 v1=>(Hx (Hf (Hx (Hf (Hx (Hf Bi (by ext) rfl (.inr ⟨a0,n0,rfl,l0,m0⟩)) (by ext)) (by ext) rfl (.inl ⟨i1,rfl,u1,v1⟩)) (by ext)) (by ext) rfl (.inl ⟨c,rfl,d,v0⟩)) (by ext))),
  F.binds λ_ _ _ _ _ _ us hl=>OB us hl λ_ _ _ _=>rfl⟩,k4,by lia⟩
local macro_rules|`(tactic|ext)=>`(tactic|first|exactλ_ _ _ _ _ _ us hl=>MO us hl λ_=>rfl|exactλ_ _ _ _ _ _ us hl=>LA us hl λ_ _=>rfl|exactλ_ _ _ _ _ _ us hl=>MV us hl λ_ _ _=>rfl|exactλ_ _ _ _ _ _ us hl=>OB us hl λ_ _ _ _=>rfl)
theorem el(d:b.F "is_name" Dn)(T:TX b)   : Xz b :=
 Wa d gQ (by ext) (λ_ _ _ _ _ _ _ hr=>(by
  unfold Km;refine(Za (Ur (Cz.pt (NZ (Vd RH (Y2 Va T.b_len (L (Z3 0) Z8)) (Z4) (Yg _)) (NZ (Vd VI (Y2 Va T.b_len (L (Z3 0) Z8)) (Pq (m:=true) T) (Yg _)) (RB (Vd (OA hr.units) (Z3 0) (mM (m:=true) T) (by rfl)))))) (Zl (Yy (Wf))) Wq)
  (Zl (Yy (Vx (dQ rfl) T.b_all (L (Yh ?c0) Z8)))))
  case c0=>exact Tp (Z9 Dn) [none] ["sign"] rfl rfl (iy (Z3 0)) (λ_ _ _ _=>⟨(Zs 0 (by ext)),Rx,(Uh (OA hr.units) (Z3 0) (dt (m:=true) T) (by rfl))⟩) (by decide)))
theorem eS(d:b.F "names" Nj)(T:TX b)   : XP b :=
 Wa d gY (by ext) (λ_ _ _ _ _ _ _ hr=>(by
  unfold As;refine(Zl (Kj ?c0))
  case c0=>exact Tp (Z9 Nj) [none,none] ["name","kind"] rfl rfl (S9 (Zi Zv (Z3 0) (Z4))) (λ_ _ _ _=>⟨(Sz (n:=2) rfl (Yo (Zs 0 (by ext)) (Yo (Zs 1 (by ext)) Je))),Rx,(Z6 0)⟩) (by decide)))
theorem cL(d:b.F "is_made" Ki)(T:TX b)   : Kh b :=
 Wa d iG (by ext) (λ_ _ _ _ _ _ _ hr=>(by
  unfold Kd;exact(Zl (Yy (Uh (Ml hr.units) (Zi Zv (Zi Zv (Zi Zv (Z3 0) (Z4)) (Z3 1)) (Z4)) (QL (m:=true)) (Yg _))))))
theorem dg(d:b.F "wire_of" K0)(T:TX b)   : Dp b :=
 Wa d dW (by ext) (λ_ _ _ _ _ _ _ hr=>(by
  unfold Kf;exact(Zl (Yy (Zq Zv (Zi Zv (Zi Zv (Z3 0) (Z4)) (Z3 1)) (Z4))))))
theorem hJ(d:b.F "is_rise" Kg)(T:TX b)   : Xi b :=
 Wa d mT (by ext) (λ_ _ _ _ _ _ _ hr=>(by
  unfold Ke;exact(Zl (Yy (Zq Zv (Zi Zv (Zi Zv (Z3 0) (Z4)) (Z3 1)) (Z4))))))
theorem lz(d:b.F "takes_of" Eo)(T:TX b)   : Tu b :=
 Wa d cM (by ext) (λ_ _ _ _ _ _ _ hr=>(by
  unfold G4;exact(Zl (Yy (Zq Zv (Zi Zv (Zi Zv (Z3 0) (Z4)) (Z3 1)) (Z4))))))
theorem dn(d:b.F "fills_of" E9)(T:TX b)   : R5 b :=
 Wa d Cf (by ext) (λ_ _ _ _ _ _ _ hr=>(by
  unfold Ew;exact(Zl (Yy (Zq Zv (Zi Zv (Zi Zv (Z3 0) (Z4)) (Z3 1)) (Z4))))))
theorem cN(d:b.F "bits" VF)(T:TX b)   : Pp b :=
 Wa d Nm (by ext) (λ_ _ _ _ _ _ _ hr=>(by
  unfold UE;exact(Za (Zm 1 Nm.nd (Wb))
  (Za (Vw BI rfl (Il (Z6 0)) (Zs 2 Nm.nd) (Zl (Zm 1 Nm.nd (Zj X7 (Z3 1) (Zf Dz (Z4) (Z3 2))))))
  (Zl (Yy (Z6 1)))))))
theorem gj(d:b.F "has_one" Ku)(T:TX b)   : Ko b :=
 Wa d jz (by ext) (λ_ _ _ _ _ _ _ hr=>(by
  unfold Ky;exact(Zl (Yy (Uh (Ml hr.units) (Zf Mi (Zf PL (Z3 0) (Z3 1)) (Z4)) (Z4) (Yg _))))))
theorem i'(d:b.F "can" UB)(T:TX b) (c:Pp b)(a:Tu b):XR b :=
 Wa d WX (by ext) (λ_ _ _ _ _ _ _ hr=>(by
  unfold SN;exact(Za (Zm 3 WX.nd (Zo c hr.mono (L (Zo a hr.mono (L (Z6 0) (L (Z6 2) Z8))) Z8)))
  (Zl (Yy (Uh (Ml hr.units) (Zf Mi (Zi Zv (Z3 1) (Z4)) (Z3 3)) (Z3 3) (Yg _)))))))
theorem j5(d:b.F "behind" O7)(T:TX b)(i:b.M 1 "Broken" 1 (gW "way"))(j:b.M 1 "Crowded" 1 (gW "way"))(e:Dp b)(c:Pp b)(g:Ko b)(h:Xi b)(f:R5 b)(a:Tu b):bR b :=
 mU d D9 (by ext) (λ_ _ _ _ _ _ _ hr=>(by
  unfold D4;exact(Za (Zm 3 D9.nd (Zo e hr.mono (L (Z6 0) (L (Z6 2) Z8))))
  (Za (Ur (Vd (Ml hr.units) (Zy g hr.mono (L (Zq Zv (Z3 1) (Z4)) (L (Z6 3) Z8))) (Zy h hr.mono (L (Z6 0) (L (Z6 2) Z8))) (Yg _)) (Zl (Ft i hr.mono rfl (L (Jg (Qn (L (Z6 2) Z8))) Z8))) Wq)
  (Za (Zm 4 D9.nd (Zj Mi (Zi Zv (Z3 1) (Z4)) (bY (m:=true) VW (Zy c hr.mono (L (Zo a hr.mono (L (Z6 0) (L (Z6 2) Z8))) Z8)))))
  (Za (Zm 5 D9.nd (Zo c hr.mono (L (Zo f hr.mono (L (Z6 0) (L (Z6 2) Z8))) Z8)))
  (Za (Ur (Vd (OL hr.units) (Zf Mi (Z3 4) (Z3 5)) (Z4) (Yg _)) (Zl (Ft j hr.mono rfl (L (Jg (Qn (L (Z6 2) Z8))) Z8))) Wq)
  (Zl (Yy (Zz (L (Zj X7 (Z3 4) (Z3 5)) (L (Zj Xf (Zi Zv (Z3 1) (Z4)) (Zf Dz (Z4) (Z3 3))) Z8))))))))))))
theorem h7(d:b.F "steps_at" Mz)(T:TX b) (a:XR b):Er b :=
 Wa d eN (by ext) (λ_ _ _ _ _ _ _ hr=>(by
  unfold En;refine(Zl (Kj ?c0))
  case c0=>exact Tp (Z9 Mz) [none,some 0,some 1] ["step","graph","stand"] rfl rfl (Ys T.b_range (L (Y2 Va T.b_len (L (Zi Zv (Z3 0) (Z4)) Z8)) Z8)) (λ_ _ _ _=>⟨(Zs 0 (by ext)),(Gz (Hk (Zy a hr.mono (L (Z6 1) (L (Z6 2) (L (Z6 0) Z8)))))),(Z6 0)⟩) (by decide)))
theorem ik(d:b.F "way" US)(T:TX b)   : bo b :=
 hP d Bb (by ext) (λ_ _ _ _ _ _ _ hr hd=>(by
  unfold TD;exact(Za (Rz 2 Bb.nd (Qn Z8))
  (Za (Zm 3 Bb.nd (Z6 1))
  (Za (bx BI (Vd lU (Zi Zv (Zi Zv (Z3 0) (Z3 3)) (Z4)) (VR (m:=true)) (Yg _)) (Za (Mf 2 CM CN Jn (L (Zq Zv (Zi Zv (Z3 0) (Z3 3)) (Z4)) Z8))
  (Zl (Zm 3 Bb.nd (Zq Zv (Zi Zv (Z3 0) (Z3 3)) (Z4))))))
  (Zl (Kj (mY (by rfl) T.b_list (by rfl) T.b_reversed (L (xo 2) Z8)))))))))
theorem eA(d:b.F "come_to" Kk)(T:TX b)(i:b.R 1 "Broken" 1 (gW "way"))(j:b.R 1 "Crowded" 1 (gW "way"))(a:bR b)(e:bo b):Xw b :=
 UD d li (by ext) (λ_ _ _ _ _ _ _ hr=>(by
  unfold Qy;exact(Zl (eZ (known:=NM) mo (λ_ _=>(Zl (j0 (SQ a hr.mono (L (Z6 0) (L (J8 E5 (Zi Zv (Z3 1) (Z3 2)) Sh (Qo (Z4))) (L (Z6 3) Z8))))))) (λ_ _ hd=>(Zl (ZG i (hr.n.mono (by lia)).mark hd (L (Jg (RS Ci (bK (m:=true) e (hr.n.mono (by lia)).mark hd.c (L (Z6 1) (L (Z6 2) Z8))) (Yh (Qn (L (Z6 3) Z8))))) Z8) (by intro z;cases z)))) (λ_ _ hd=>(Zl (ZG j (hr.n.mono (by lia)).mark hd (L (Jg (RS Ci (bK (m:=true) e (hr.n.mono (by lia)).mark hd.c (L (Z6 1) (L (Z6 2) Z8))) (Yh (Qn (L (Z6 3) Z8))))) Z8) (by intro z;cases z)))) T.q_0 T.q_1))))
theorem hL(d:b.F "stands" O0)(T:TX b)(e:b.M 1 "TooMany" 0 gZ)(a:Er b)(c:Xw b):XG b :=
 UD d Uw (by ext) (λ_ _ _ _ _ _ _ hr=>(by
  unfold Oh;exact(Za (Rz 2 Uw.nd (Qn (L (Zz (L (Zq Zv (Z3 0) (Z4)) (L (Zq Zv (Z3 0) (Z4)) (L (VR (m:=false)) (L (VR (m:=false)) Z8))))) Z8)))
  (Za (iP 3 Uw.nd rfl (DH rfl) (SS hr) (Qd (L (Zq Zv (Z3 0) (Z4)) (L (Zq Zv (Z3 0) (Z4)) Z8))) (Wf))
  (Za (Zm 4 Uw.nd (Wb))
  (Za (bx B2 (Vd RH (Z3 4) (Y2 Va T.b_len (L (xo 2) Z8)) (Yg _)) (Za (Zm 5 Uw.nd (Zo a hr.mono (L (Z6 0) (L (J8 E5 (Zi Zv (xo 2) (Z3 4)) Sh (Qo (Z4))) Z8))))
  (Za (Vw B2 rfl (Il (Z6 5)) (Zs 6 Uw.nd) (Za (ZB 7 Uw.nd (d9 c hr.mono (L (Z3 0) (L (xo 2) (L (Z3 4) (L (Z3 6) Z8))))))
  (Za (Ur (mE 3 (SS hr) (Z3 7)) (Zl ci) Wq)
  (Za (Ur (Vd YJ (Y2 Va T.b_len (L (xo 2) Z8)) (Z3 1) (Yg _)) (Zl (ee e hr.mono rfl)) Wq)
  (Za (j1 3 (SS hr) (Z3 7) (Wf))
  (Zl (Mf 2 CM CN Jn (L (Zz (L (Zq Zv (Z3 7) (Z4)) (L (Zq Zv (Z3 7) (Z4)) (L (Z6 4) (L (Z6 6) Z8))))) Z8))))))))
  (Zl (eJ 4 Uw.nd rfl (DH rfl) (Wb))))))
  (Zl (B8 2))))))))
theorem dj(d:b.F "robs" VE)(T:TX b) (c:Pp b)(a:Tu b)(f:R5 b):bz b :=
 Wa d ZM (by ext) (λ_ _ _ _ _ _ _ hr=>(by
  unfold Bq;exact(Za (Zm 3 ZM.nd (Zj Mi (Zy c hr.mono (L (Zo a hr.mono (L (Z6 0) (L (Z6 1) Z8))) Z8)) (bY (m:=true) VW (Zy c hr.mono (L (Zo f hr.mono (L (Z6 0) (L (Z6 1) Z8))) Z8)))))
  (Zl (Yy (Uh (OL hr.units) (Zf Mi (Z3 3) (Zy c hr.mono (L (Zo a hr.mono (L (Z6 0) (L (Z6 2) Z8))) Z8))) (Z4) (Yg _)))))))
theorem Oi(d:b.F "touches_made" Ja)(T:TX b) (a:Kh b)(e:Dp b):D0 b :=
 Wa d N2 (by ext) (λ_ _ _ _ _ _ _ hr=>(by
  unfold Jc;exact(Zl (Yy (cc (m:=false) (Zy a hr.mono (L (Z6 0) (L (Zo e hr.mono (L (Z6 0) (L (Z6 1) Z8))) Z8))) (jY (Zo a hr.mono (L (Z6 0) (L (Zo e hr.mono (L (Z6 0) (L (Z6 2) Z8))) Z8)))))))))
theorem cV(d:b.F "rivals" Og)(T:TX b) (a:D0 b)(c:bz b):C9 b :=
 Wa d Dj (by ext) (λ_ _ _ _ _ _ _ hr=>(by
  unfold Hc;exact(Za (Rz 1 Dj.nd (Qn Z8))
  (Za (Vw BI rfl (Ys T.b_range (L (Y2 Va T.b_len (L (Zi Zv (Z3 0) (Z4)) Z8)) Z8)) (Zs 2 Dj.nd) (Zl (Vw BI rfl (Ys T.b_range (L (Y2 Va T.b_len (L (Zi Zv (Z3 0) (Z4)) Z8)) Z8)) (Zs 3 Dj.nd) (Zl (Ur (Cz.pt (Xg (Vd (OL hr.units) (Z3 2) (Z3 3) (Yg _)) (Xg (Hk (Zy a hr.mono (L (Z6 0) (L (Z6 2) (L (Z6 3) Z8))))) (Pb (Hk (Zy c hr.mono (L (Z6 0) (L (Z6 2) (L (Z6 3) Z8))))))))) (Zl (Mf 1 CM CN Jn (L (Zz (L (Z6 2) (L (Z6 3) Z8))) Z8))) Wq)))))
  (Zl (B8 1))))))
theorem lf(d:b.F "sound" Fu)(T:TX b)(g:b.M 1 "CalledOff" 3 (gC "way" "lost" "by"))(c:XG b)(f:C9 b)(a:Er b)(e:d7 b):bu b :=
 UD d Qc (by ext) (λ_ _ _ _ _ _ _ hr=>(by
  unfold Ic;exact(Za (ZB 2 Qc.nd (SQ c hr.mono (L (Z6 0) (L (Z6 1) Z8))))
  (Za (Zm 3 Qc.nd (Zo f hr.mono (L (Z6 0) Z8)))
  (Za (Vw B2 rfl (Bw T.b_enumerate (Z6 2)) (Sz (n:=2) rfl (Yo (Zs 4 Qc.nd) (Yo (Zs 5 Qc.nd) Je))) (Za (Zm 6 Qc.nd (Zo a hr.mono (L (Z6 0) (L (J8 E5 (Z3 5) Sh (Qo (Z4))) Z8))))
  (Zl (Vw B2 rfl (Il (Z6 3)) (Sz (n:=2) rfl (Yo (Zs 7 Qc.nd) (Yo (Zs 8 Qc.nd) Je))) (Zl (Ur (Cz.pt (Xg (Vd (OA hr.units) (Z3 7) (Z3 6) (by rfl)) (Pb (Vd (OA hr.units) (Z3 8) (Z3 6) (by rfl))))) (Zl (Ft g hr.mono rfl (L (Zo e hr.mono (L (Z6 2) (L (Z6 4) Z8))) (L (Z6 8) (L (Z6 7) Z8))))) Wq))))))
  (Zl (Yy (Z6 2))))))))
theorem Fv(d:b.F "free_spots" Qv)(T:TX b) (c:Pp b)(f:R5 b)(g:Ko b)(a:Tu b):Rh b :=
 Wa d Q4 (by ext) (λ_ _ _ _ _ _ _ hr=>(by
  unfold My;refine(Za (Zm 1 Q4.nd (Zq Zv (Z3 0) (Z4)))
  (Za (Vw BI rfl (Ys T.b_range (L (Y2 Va T.b_len (L (Zi Zv (Z3 0) (Z4)) Z8)) Z8)) (Zs 2 Q4.nd) (Zl (Zm 1 Q4.nd (Zj X7 (Zf X7 (Z3 1) (Zy c hr.mono (L (Zo a hr.mono (L (Z6 0) (L (Z6 2) Z8))) Z8))) (Zy c hr.mono (L (Zo f hr.mono (L (Z6 0) (L (Z6 2) Z8))) Z8))))))
  (Zl (Kj ?c0))))
  case c0=>exact Tp (Z9 Qv) [none,some 1] ["spot","used"] rfl rfl (Ys T.b_range (L (Ar (m:=true) T) Z8)) (λ_ _ _ _=>⟨(Zs 0 (by ext)),(Gz (Cn (Hk (Zy g hr.mono (L (Z6 1) (L (Z6 0) Z8)))))),(Z6 0)⟩) (by decide)))
theorem mW(d:b.F "has_room" Em)(T:TX b) (c:Rh b):Ot b :=
 Wa d ca (by ext) (λ_ _ _ _ _ _ _ hr=>(by
  unfold Eg;exact(Za (Ur (Cz.pt (NZ (Vd VI (Y2 Va T.b_len (L (Zi Zv (Z3 0) (Z4)) Z8)) (Ee (m:=true) T) (Yg _)) (RB (Vd VI (Y2 Va T.b_len (L (Zi Zv (Z3 0) (Z4)) Z8)) (Gh (m:=true) T) (Yg _))))) (Zl (Yy (Wf))) Wq)
  (Zl (Yy (Uh YJ (Y2 Va T.b_len (L (Zy c hr.mono (L (Z6 0) Z8)) Z8)) (Z4) (Yg _)))))))
theorem Cr(d:b.F "need_room" Sg)(T:TX b) (c:Xz b)(e:XP b)(a:Ot b):Lq b :=
 Wa d Ay (by ext) (λ_ _ _ _ _ _ _ hr=>(by
  unfold So;exact(Zl (Ur (Cz.pt (NZ (Cn (Hk (Zy c hr.mono (L (Z6 1) Z8)))) (NZ (Vd (OA hr.units) (Z3 1) (Zy e hr.mono (L (Z6 0) Z8)) (by rfl)) (RB (Cn (Hk (Zy a hr.mono (L (Z6 0) Z8)))))))) (Zl WB) Wq))))
theorem jO(d:b.F "need_two" Ed)(T:TX b)   : Oy b :=
 Wa d gi (by ext) (λ_ _ _ _ _ _ _ hr=>(by
  unfold G5;exact(Zl (Ur (Cz.pt (NZ (Vd (Ml hr.units) (Z3 1) (Z3 2) (Yg _)) (NZ (Vd (F4 hr.units) (Z3 1) (Z3 0) (by rfl)) (RB (Vd (F4 hr.units) (Z3 2) (Z3 0) (by rfl)))))) (Zl WB) Wq))))
theorem jg(d:b.F "waiting" K9)(T:TX b)   : Xv b :=
 Wa d jv (by ext) (λ_ _ _ _ _ _ _ hr=>(by
  unfold K6;exact(Zl (Yy (Zz (L (Zq Zv (Z3 0) (Z4)) (L (Zq Zv (Z3 0) (Z4)) (L (Zz (L (Z6 1) Z8)) (L (Zq Zv (Z3 0) (Z4)) Z8)))))))))
theorem B5(d:b.F "made_steps" Qw)(T:TX b) (a:Kh b)(e:Dp b):Hn b :=
 Wa d X9 (by ext) (λ_ _ _ _ _ _ _ hr=>(by
  unfold R7;refine(Zl (Kj ?c0))
  case c0=>exact Tp (Z9 Qw) [none,some 0] ["step","graph"] rfl rfl (Ys T.b_range (L (Y2 Va T.b_len (L (Zi Zv (Z3 0) (Z4)) Z8)) Z8)) (λ_ _ _ _=>⟨(Zs 0 (by ext)),(Gz (Hk (Zy a hr.mono (L (Z6 1) (L (Zo e hr.mono (L (Z6 1) (L (Z6 0) Z8))) Z8))))),(Z6 0)⟩) (by decide)))
theorem h5(d:b.F "put_in" P4)(T:TX b) (g:Lq b)(h:Oy b)(c:Rh b)(e:Xv b)(f:Hn b)(a:Tu b):VY b :=
 Wa d Qz (by ext) (λ_ _ _ _ _ _ _ hr=>(by
  unfold Oj;exact(Za (XQ (Zy g hr.mono (L (Z6 0) (L (Z6 1) Z8))))
  (Za (XQ (Zy h hr.mono (L (Zo f hr.mono (L (Z6 0) Z8)) (L (Z6 2) (L (Z6 3) Z8)))))
  (Za (Zm 4 Qz.nd (Vx Va T.b_len (L (Zi Zv (Z3 0) (Z4)) Z8)))
  (Za (Zm 5 Qz.nd (Zo c hr.mono (L (Z6 0) Z8)))
  (Za (Zm 6 Qz.nd (Zz (L (Z6 4) (L (Wf) (L (Zo a hr.mono (L (Z6 0) (L (Z6 2) Z8))) (L (Zz (L (Zq Zv (Z3 5) (Z4)) Z8)) Z8))))))
  (Za (Zm 7 Qz.nd (Zz (L (Z6 4) (L (Wf) (L (Zo a hr.mono (L (Z6 0) (L (Z6 3) Z8))) (L (Zz (L (Zq Zv (Z3 5) (Z4)) Z8)) Z8))))))
  (Za (Rz 8 Qz.nd (WU cK T.b_list (L (Zi Zv (Z3 0) (Z4)) Z8)))
  (Za (Kr 8 (Z3 2) (Zo e hr.mono (L (Zq Zv (xo 8) (Z3 2)) (L (Zq Zv (Z3 5) (Z4)) Z8))))
  (Za (Kr 8 (Z3 3) (Zo e hr.mono (L (Zq Zv (xo 8) (Z3 3)) (L (Zq Zv (Z3 5) (Z4)) Z8))))
  (Zl (Yy (Zz (L (Zj Ai (Zi Zv (Z3 0) (Z4)) (Qd (L (Zz (L (Z6 1) (L (Yt) Z8))) Z8))) (L (Ql (m:=false) Uy T.b_tuple (L (Zf Yi (xo 8) (Yh (Qn (L (Z6 6) (L (Z6 7) Z8))))) Z8)) (L (Zq Zv (Z3 0) (Z4)) (L (Zq Zv (Z3 0) (Z4)) Z8))))))))))))))))))
theorem kI(d:b.F "_law_mix" Ek)(T:TX b)   : Tk b :=
 Wa d Sd (by ext) (λ_ _ _ _ _ _ _ hr=>(by
  unfold J7;exact(Za (Zm 2 Sd.nd (Zj Yi (Zf Gi (Z4) (Z3 1)) (Z4)))
  (Za (Ur (Vd RH (Z3 1) (Y2 Va T.b_len (L (Z3 0) Z8)) (Yg _)) (Zl (Zm 2 Sd.nd (Zj Yi (Z3 2) (Zf Gi (Zi Zv (Z3 0) (Z3 1)) (Z4))))) Wq)
  (Zl (Yy (Zj Wr (Zf Gi (Z3 2) (Z4)) (Z4))))))))
theorem i6(d:b.F "_law_word" Sf)(T:TX b)   : Sl b :=
 Wa d Wh (by ext) (λ_ _ _ _ _ _ _ hr=>(by
  unfold Qb;exact(Za (Zm 2 Wh.nd (Yt))
  (Za (Zm 3 Wh.nd (Zj Yi (Z4) (Zf Wr (Z3 0) (Z4))))
  (Za (Zm 4 Wh.nd (Zj Wr (Zf Wt (Z3 0) (Z4)) (Z3 3)))
  (Za (Zm 5 Wh.nd (Yt))
  (Za (Vw BI rfl (Ys T.b_range (L (Z3 3) Z8)) (Zs 6 Wh.nd) (Za (Zm 7 Wh.nd (Wb))
  (Za (Ur (Vd (Ml hr.units) (Z3 6) (Z3 4) (Yg _)) (Zl (Zm 7 Wh.nd (Z6 1))) Wq)
  (Zl (Zm 5 Wh.nd (Zj Yi (Z3 5) (Zi Zv (Z3 2) (Zf Wr (Zf Yi (Zf Yi (Zf Wt (Z3 0) (Z4)) (Zf Gi (Z4) (Z3 6))) (Zf Gi (Z4) (Z3 7))) (Z4)))))))))
  (Za (Ur (Vd (OA hr.units) (Z3 5) (Yh (Qn (L (Yt) (L (Yt) (L (Yt) (L (Yt) (L (Yt) Z8))))))) (by rfl)) (Zl (Zm 5 Wh.nd (Zj Yi (Jh E5 (Z3 5) (Qo (Z4)) Sh) (QL (m:=true))))) Wq)
  (Zl (Yy (Z6 5)))))))))))
theorem A5(d:b.F "_law_order" R4)(T:TX b) (a:Tk b):Hb b :=
 Wa d Vm (by ext) (λ_ _ _ _ _ _ _ hr=>(by
  unfold Tb;exact(Za (Rz 3 Vm.nd (Qn Z8))
  (Za (Vw BI rfl (Ys T.b_range (L (Z3 2) Z8)) (Zs 4 Vm.nd) (Za (Zm 5 Vm.nd (Zo a hr.mono (L (Z6 0) (L (Zj Yi (Z3 1) (Z3 4)) Z8))))
  (Za (Zm 6 Vm.nd (Zj Wr (Z3 5) (Zf Yi (Y2 Va T.b_len (L (xo 3) Z8)) (Z4))))
  (Za (Mf 3 GR GS P3 (L (Z6 6) (L (Z6 4) Z8)))
  (Za (Zm 7 Vm.nd (Zj Wr (Zf Wt (Z3 5) (Z4)) (Zf SA (Y2 Va T.b_len (L (xo 3) Z8)) (Z3 6))))
  (Zl (Mf 3 GR GS P3 (L (Zj Yi (Zf Yi (Z3 6) (Z4)) (Z3 7)) (L (Z6 4) Z8)))))))))
  (Zl (B8 3))))))
theorem X4(d:b.F "_law_arrows" M7)(T:TX b) (a:Tk b):Dy b :=
 Wa d V8 (by ext) (λ_ _ _ _ _ _ _ hr=>(by
  unfold Ue;exact(Za (Rz 4 V8.nd (Qn Z8))
  (Za (Vw BI rfl (Ys T.b_range (L (Z3 2) Z8)) (Zs 5 V8.nd) (Za (Zm 6 V8.nd (Zo a hr.mono (L (Z6 0) (L (Zj Yi (Z3 1) (Z3 5)) Z8))))
  (Za (Zm 7 V8.nd (Zj Wr (Z3 6) (Z3 3)))
  (Za (Zm 8 V8.nd (Zj Wr (Zf Wt (Z3 6) (Z4)) (Z3 3)))
  (Zl (Ur (Cz.pt (Xg (Vd (OL hr.units) (Z3 7) (Z3 8) (Yg _)) (Pb (Vd (F4 hr.units) (Qd (L (Vx (WW rfl) T.b_min (L (Z3 7) (L (Z3 8) Z8))) (L (Vx (WA rfl) T.b_max (L (Z3 7) (L (Z3 8) Z8))) Z8))) (xo 4) (by rfl))))) (Zl (Mf 4 CM CN Jn (L (Zz (L (Vx (WW rfl) T.b_min (L (Z3 7) (L (Z3 8) Z8))) (L (Vx (WA rfl) T.b_max (L (Z3 7) (L (Z3 8) Z8))) Z8))) Z8))) Wq))))))
  (Zl (B8 4))))))
theorem Bm(d:b.F "_law_graph" V1)(T:TX b) (f:Hb b)(a:Tk b)(e:Dy b)(c:Sl b):Gy b :=
 Wa d Zk (by ext) (λ_ _ _ _ _ _ _ hr=>(by
  unfold T7;refine(Za (Zm 4 Zk.nd (Zo f hr.mono (L (Z6 0) (L (Z6 1) (L (Z6 2) Z8)))))
  (Za (Zm 5 Zk.nd (Zj Gi (Z4) (Z3 2)))
  (Za (Zm 6 Zk.nd (Zo a hr.mono (L (Z6 0) (L (Zj Yi (Z3 1) (Z3 2)) Z8))))
  (Za (Zm 7 Zk.nd (Zo e hr.mono (L (Z6 0) (L (Zj Yi (Zf Yi (Z3 1) (Z3 2)) (Z4)) (L (Z6 3) (L (Z6 5) Z8))))))
  (Za (Ur (Vd (Ml hr.units) (Zf Wr (Z3 6) (Z4)) (Z4) (Yg _)) (Zl (Zm 7 Zk.nd (Zj Yi (Z3 7) (Yh ?c0)))) Wq)
  (Za (Vw BI rfl (Ys T.b_range (L (Z3 2) Z8)) (Zs 8 Zk.nd) (Za (Zm 9 Zk.nd (SI (m:=false) DU FG GY On (Z3 4) (L (Z3 8) Z8)))
  (Za (Zm 10 Zk.nd (Zj Yi (Zf Yi (Z3 9) (Z4)) (SI (m:=true) DU FG GY On (Jh E5 (Z3 4) (Qo (Zf Yi (Z3 9) (Z4))) Sh) (L (Z3 8) Z8))))
  (Zl (Zm 7 Zk.nd (Zj Yi (Yh ?c1) (Yh (Qn (L (Zz (L (Z6 9) (L (Z6 10) Z8))) Z8)))))))))
  (Za (WC 11 Zk.nd (Z9 V1) [none] ["_law_d"] rfl rfl (S9 (Z3 4)) (λ_ _ _ _=>⟨(Zs 0 (by ext)),Rx⟩) (by decide))
  (Za (WC 12 Zk.nd (Z9 V1) [none] ["_law_d"] rfl rfl (S9 (Z3 4)) (λ_ _ _ _=>⟨(Zs 0 (by ext)),Rx⟩) (by decide))
  (Za (Zm 13 Zk.nd (Wb))
  (Za (Zm 14 Zk.nd (Zj Wr (Zf Wt (Z3 6) (Z4)) (Z4)))
  (Za (Vw BI rfl (Il (Z6 7)) (Sz (n:=2) rfl (Yo (Zs 15 Zk.nd) (Yo (Zs 16 Zk.nd) Je))) (Za (A8 12 (Z3 15) (λ_ _=>rfl) (L (Z6 14) Z8))
  (Za (A8 11 (Z3 16) (λ_ _=>rfl) (L (Z6 14) Z8))
  (Za (A8 12 (Z3 16) (λ_ _=>rfl) (L (Zj Yi (Z3 14) (Z4)) Z8))
  (Za (A8 11 (Z3 15) (λ_ _=>rfl) (L (Zj Yi (Z3 14) (Z4)) Z8))
  (Za (Zm 13 Zk.nd (Zj X7 (Z3 13) (Zf Dz (Z4) (Zf Yi (Z3 14) (Z4)))))
  (Zl (Zm 14 Zk.nd (Zj Yi (Z3 14) (Z4))))))))))
  (Za (Zm 17 Zk.nd (Zj Wr (Zf Wt (Z3 6) (Z4)) (Zf Dz (Z4) (Z3 2))))
  (Za (Zm 18 Zk.nd (Z6 17))
  (Za (Rz 19 Zk.nd (Qn Z8))
  (Za (Vw BI rfl (Bw T.b_enumerate (Z6 4)) (Sz (n:=2) rfl (Yo (Zs 20 Zk.nd) (Yo (Zs 8 Zk.nd) Je))) (Za (Mf 19 CM CN Jn (L (Zz (L (Z6 8) (L (Uh (Ml hr.units) (Zf Mi (Zf PL (Z3 18) (Z3 8)) (Z4)) (Z4) (Yg _)) (L (Ql (m:=false) Uy T.b_tuple (L (Yh (Aw Do T.b_sorted (L (WY 11 (Z3 20) (λ_ _=>rfl)) Z8))) Z8)) (L (Ql (m:=false) Uy T.b_tuple (L (Yh (Aw Do T.b_sorted (L (WY 12 (Z3 20) (λ_ _=>rfl)) Z8))) Z8)) Z8))))) Z8))
  (Zl (Zm 18 Zk.nd (Zj Xf (Z3 18) (Zf Dz (Z4) (Z3 8)))))))
  (Za (Zm 21 Zk.nd (Zj Wr (Zf Wt (Z3 6) (Z4)) (Z3 5)))
  (Za (Rz 19 Zk.nd (RS Ci (Jh E5 (xo 19) (Qo (Z3 21)) Sh) (Jh E5 (xo 19) Sh (Qo (Z3 21)))))
  (Za (Zm 22 Zk.nd (Zj Wt (Z3 6) (Z4)))
  (Za (Ol 23 Zk.nd (Z9 V1) [none,some 22,some 0,some 1] cI rfl rfl (Ys T.b_range (L (Z3 2) Z8)) (λ_ _ _ _=>⟨(Zs 0 (by ext)),Rx,(Zz (L (Zo c hr.mono (L (Z6 1) (L (Z6 0) Z8))) (L (Zq Zv (Yh (Qn (L (Yt) (L (Yt) Z8)))) (Zf Wr (Zf Wt (Zy a hr.mono (L (Z6 2) (L (Zj Yi (Z3 3) (Z3 0)) Z8))) (Z4)) (Z4))) Z8)))⟩) (by decide))
  (Zl (Yy (Zz (L (Ql (m:=false) Uy T.b_tuple (L (Z3 23) Z8)) (L (Ql (m:=false) Uy T.b_tuple (L (xo 19) Z8)) (L (Z6 13) (L (Z6 17) Z8))))))))))))))))))))))))))
  case c0=>exact Tp (Z9 V1) [none,some 7] ["_law_k","_law_pairs"] rfl rfl (Ys T.b_range (L (Zf SA (Z3 5) (Z4)) Z8)) (λ_ _ _ _=>⟨(Zs 0 (by ext)),(Gz (Vd (F4 hr.units) (Qd (L (Z6 0) (L (Zj Yi (Z3 0) (Z4)) Z8))) (Z3 1) (by rfl))),(Zz (L (Z6 0) (L (Zj Yi (Z3 0) (Z4)) Z8)))⟩) (by decide)
  case c1=>exact Tp (Z9 V1) [none,some 9,some 10] ["_law_pair","_law_one","_law_two"] rfl rfl (S9 (Z3 7)) (λ_ _ _ _=>⟨(Zs 0 (by ext)),(Gz (Vd (OL hr.units) (Z3 0) (Qd (L (Z6 1) (L (Z6 2) Z8))) (Yg _))),(Z6 0)⟩) (by decide)))
theorem eD(d:b.F "_law_bits" D3)(T:TX b)   : Jz b :=
 Wa d Qt (by ext) (λ_ _ _ _ _ _ _ hr=>(by
  unfold Qh;exact(Za (Zm 1 Qt.nd (Wb))
  (Za (Vw BI rfl (Il (Z6 0)) (Zs 2 Qt.nd) (Zl (Zm 1 Qt.nd (Zj X7 (Z3 1) (Zf Dz (Z4) (Z3 2))))))
  (Zl (Yy (Z6 1)))))))
theorem jq(d:b.F "_law_can" Gc)(T:TX b) (a:Jz b):Rc b :=
 Wa d Lu (by ext) (λ_ _ _ _ _ _ _ hr=>(by
  unfold Ep;exact(Za (Zm 3 Lu.nd (Zo a hr.mono (L (Zq Zv (Zi Zv (Zi Zv (Z3 0) (Z4)) (Z3 2)) (Z4)) Z8)))
  (Zl (Yy (Uh (Ml hr.units) (Zf Mi (Zi Zv (Z3 1) (Z4)) (Z3 3)) (Z3 3) (Yg _)))))))
theorem X2(d:b.F "_law_behind" Md)(T:TX b) (a:Jz b):Ma b :=
 Wa d Vz (by ext) (λ_ _ _ _ _ _ _ hr=>(by
  unfold M8;exact(Za (bp (Zq Zv (Zi Zv (Z3 0) (Z4)) (Z3 2)) (Sz (n:=4) rfl (Yo (Zs 3 Vz.nd) (Yo (Zs 4 Vz.nd) (Yo (Zs 5 Vz.nd) (Yo (Zs 6 Vz.nd) Je))))))
  (Zl (Yy (Zz (L (Zj X7 (Zf Xf (Zi Zv (Z3 1) (Z4)) (Zy a hr.mono (L (Z6 5) Z8))) (Zy a hr.mono (L (Z6 6) Z8))) (L (Zj Xf (Zi Zv (Z3 1) (Z4)) (Zf Dz (Z4) (Z3 3))) Z8))))))))
theorem X1(d:b.F "_law_choice" Wi)(T:TX b) (a:Tk b)(c:Sl b):E6 b :=
 Wa d Zt (by ext) (λ_ _ _ _ _ _ _ hr=>(by
  unfold Uc;refine(Za (Zm 2 Zt.nd (Zj Yi (Z4) (Zf Wr (Zy a hr.mono (L (Z6 0) (L (Z6 1) Z8))) (Z4))))
  (Za (Zm 3 Zt.nd (Zj Yi (Z4) (Zf Wr (Zf Wt (Zy a hr.mono (L (Z6 0) (L (Z6 1) Z8))) (Z4)) (Z4))))
  (Za (Zm 4 Zt.nd (Zj Wt (Zy a hr.mono (L (Z6 0) (L (Z6 1) Z8))) (Z4)))
  (Za (Ol 5 Zt.nd (Z9 Wi) [none,some 4] ["_law_k","_law_word_here"] rfl rfl (Ys T.b_range (L (Z3 2) Z8)) (λ_ _ _ _=>⟨(Zs 0 (by ext)),Rx,(Zz (L (Zo c hr.mono (L (Z6 1) (L (Z6 0) Z8))) (L (Yt) Z8)))⟩) (by decide))
  (Za (Zm 5 Zt.nd (Zj Yi (Z3 5) (Yh ?c0)))
  (Za (Rz 6 Zt.nd (Qn Z8))
  (Za (Zm 7 Zt.nd (Wb))
  (Za (Vw BI rfl (Ys T.b_range (L (Z3 2) Z8)) (Zs 8 Zt.nd) (Za (Zm 9 Zt.nd (Zo a hr.mono (L (Z6 0) (L (Zj Yi (Zf Yi (Z3 1) (Z4)) (Z3 8)) Z8))))
  (Za (Ol 10 Zt.nd (Z9 Wi) [none,some 2,some 3,some 9] SF rfl rfl (Ys T.b_range (L (Z3 3) Z8)) (λ_ _ _ _=>⟨(Zs 0 (by ext)),Rx,(Zj Yi (Z3 1) (Zf Wr (Zf Yi (Z3 3) (Z3 0)) (Z3 2)))⟩) (by decide))
  (Za (Ol 11 Zt.nd (Z9 Wi) [none,some 2,some 3,some 9] SF rfl rfl (Ys T.b_range (L (Z3 3) Z8)) (λ_ _ _ _=>⟨(Zs 0 (by ext)),Rx,(Zj Yi (Z3 1) (Zf Wr (Zf Yi (Zf Wt (Z3 3) (Z4)) (Z3 0)) (Z3 2)))⟩) (by decide))
  (Za (Rz 12 Zt.nd (RS Ci (Yh ?c1) (Yh ?c2)))
  (Za (Mf 12 GR GS P3 (L (Zj Wr (Zf Wt (Z3 9) (Z4)) (Zf Yi (Y2 Va T.b_len (L (xo 12) Z8)) (Z4))) (L (Zz (L (Z6 8) (L (Wf) Z8))) Z8)))
  (Za (Zm 13 Zt.nd (Wb))
  (Zl (Vw BI rfl (Bw T.b_enumerate (Zj Yi (Yh (Qn (L (Zz (L (Z6 8) (L (Wf) Z8))) Z8))) (xo 12))) (Sz (n:=2) rfl (Yo (Zs 14 Zt.nd) (Yo (Zs 15 Zt.nd) Je))) (Za (Zm 16 Zt.nd (Z6 7))
  (Za (Ur (Vd (Ml hr.units) (Z3 14) (Y2 Va T.b_len (L (xo 12) Z8)) (Yg _)) (Zl (Zm 16 Zt.nd (Wb))) Wq)
  (Za (Mf 6 CM CN Jn (L (Zz (L (Zq Zv (Z3 15) (Z4)) (L (Zq Zv (Z3 15) (Z4)) (L (Zz (L (Z6 13) Z8)) (L (Zz (L (Z6 16) Z8)) Z8))))) Z8))
  (Za (Zm 13 Zt.nd (Z6 16))
  (Zl (Zm 7 Zt.nd (Zj Yi (Z3 7) (Z4)))))))))))))))))
  (Zl (Yy (Zz (L (Ql (m:=false) Uy T.b_tuple (L (Z3 5) Z8)) (L (Ql (m:=false) Uy T.b_tuple (L (xo 6) Z8)) (L (Wb) (L (Wb) Z8)))))))))))))))
  case c0=>exact Tp (Z9 Wi) [none,some 4,some 2] ["_law_k","_law_word_here","_law_many"] rfl rfl (Ys T.b_range (L (Z3 3) Z8)) (λ_ _ _ _=>⟨(Zs 0 (by ext)),Rx,(Zz (L (Zo c hr.mono (L (Z6 1) (L (Zj Yi (Z3 2) (Z3 0)) Z8))) (L (Yt) Z8)))⟩) (by decide)
  case c1=>exact Tp (Z9 Wi) [none] MA rfl rfl (S9 (Z3 10)) (λ_ _ _ _=>⟨(Zs 0 (by ext)),Rx,(Zz (L (Z6 0) (L (Wf) Z8)))⟩) (by decide)
  case c2=>exact Tp (Z9 Wi) [none] MA rfl rfl (S9 (Z3 11)) (λ_ _ _ _=>⟨(Zs 0 (by ext)),Rx,(Zz (L (Z6 0) (L (Wf) Z8)))⟩) (by decide)))
theorem Ks(d:b.F "_law_with_made" Tx)(T:TX b)   : Mr b :=
 Wa d Jt (by ext) (λ_ _ _ _ _ _ _ hr=>(by
  unfold V6;exact(Za (Rz 2 Jt.nd (WU cK T.b_list (L (Zi Zv (Z3 0) (Z4)) Z8)))
  (Za (Kr 2 (Z3 1) (Zz (L (Zq Zv (Zi Zv (xo 2) (Z3 1)) (Z4)) (L (Yt) Z8))))
  (Zl (Yy (Zj Ai (Qd (L (Ql (m:=false) Uy T.b_tuple (L (xo 2) Z8)) Z8)) (Jh E5 (Z3 0) (Qo (Z4)) Sh))))))))
theorem N5(d:b.F "_law_new_name" Up)(T:TX b)   : Ry b :=
 Wa d Wd (by ext) (λ_ _ _ _ _ _ _ hr=>(by
  unfold Uo;exact(Za (Zm 2 Wd.nd (Yt))
  (Za (Ol 3 Wd.nd (Z9 Up) [none] MA rfl rfl (S9 (Z3 1)) (λ_ _ _ _=>⟨(Zs 0 (by ext)),Rx,(Zq Zv (Z3 0) (Z4))⟩) (by decide))
  (Za (Vw BI rfl (Ys T.b_range (L (Z4) Z8)) (Zs 4 Wd.nd) (Za (Zm 5 Wd.nd (Yt))
  (Za (Vw BI rfl (Ys T.b_range (L (Zf Yi (Z4) (Zf Wr (Z3 0) (Z4))) Z8)) (Zs 6 Wd.nd) (Zl (Zm 5 Wd.nd (Zj Yi (Z3 5) (Zi Zv (Z3 2) (Zf Wr (Zf Yi (Zf Yi (Zf Wt (Z3 0) (Z4)) (Zf Gi (Z4) (Z3 6))) (Z3 4)) (Z4)))))))
  (Zl (Ur (Cz.pt (Xg (Vd (F4 hr.units) (Z3 5) (Z3 3) (by rfl)) (Pb (Vd (F4 hr.units) (Z3 5) (Yh (Qn (L (Yt) (L (Yt) (L (Yt) (L (Yt) (L (Yt) Z8))))))) (by rfl))))) (Zl (Yy (Z6 5))) Wq)))))
  (Zl (Yy (Yt))))))))
theorem Ou(d:b.F "_law_lookers" T8)(T:TX b) (a:Jz b):Sw b :=
 Wa d Y4 (by ext) (λ_ _ _ _ _ _ _ hr=>(by
  unfold U3;refine(Za (Zm 2 Y4.nd (Zq Zv (Z3 0) (Z4)))
  (Za (Vw BI rfl (Il (Zq Zv (Z3 0) (Z4))) (Zs 3 Y4.nd) (Zl (Zm 2 Y4.nd (Zj X7 (Zf X7 (Z3 2) (Zy a hr.mono (L (Zq Zv (Z3 3) (Z4)) Z8))) (Zy a hr.mono (L (Zq Zv (Z3 3) (Z4)) Z8))))))
  (Za (Zm 4 Y4.nd (Zq Zv (Yh ?c0) (Zf Wr (Z3 1) (Z4))))
  (Za (Rz 5 Y4.nd (Qn Z8))
  (Za (Vw BI rfl (Bw T.b_enumerate (Zq Zv (Z3 0) (Z4))) (Sz (n:=2) rfl (Yo (Zs 6 Y4.nd) (Yo (Zs 3 Y4.nd) Je))) (Za (bp (Z6 3) (Sz (n:=4) rfl (Yo (Zs 7 Y4.nd) (Yo (Zs 8 Y4.nd) (Yo (Zs 9 Y4.nd) (Yo (Zs 10 Y4.nd) Je))))))
  (Za (Ur (Vd (Ml hr.units) (Zf Mi (Zf PL (Zf Wt (Z3 1) (Z4)) (Z3 6)) (Z4)) (Z4) (Yg _)) (Za (Zm 9 Y4.nd (Ql (m:=false) Uy T.b_tuple (L (Yh (Aw Do T.b_sorted (L (Zf Ai (Z3 9) (Qd (L (Z6 4) Z8))) Z8))) Z8)))
  (Zl (Zm 10 Y4.nd (Ql (m:=false) Uy T.b_tuple (L (Yh (Aw Do T.b_sorted (L (Zf Ai (Z3 10) (Qd (L (Z6 4) Z8))) Z8))) Z8))))) Wq)
  (Zl (Mf 5 CM CN Jn (L (Zz (L (Z6 7) (L (Z6 8) (L (Z6 9) (L (Z6 10) Z8))))) Z8))))))
  (Zl (Yy (Zz (L (Zq Zv (Z3 0) (Z4)) (L (Ql (m:=false) Uy T.b_tuple (L (xo 5) Z8)) (L (Zj X7 (Zi Zv (Z3 0) (Z4)) (Zf Dz (Z4) (Z3 4))) (L (Zq Zv (Z3 0) (Z4)) Z8))))))))))))
  case c0=>exact Tp (Z9 T8) [none,some 2] ["_law_p","_law_there"] rfl rfl (Ys T.b_range (L (Z4) Z8)) (λ_ _ _ _=>⟨(Zs 0 (by ext)),(Gz (Vd (Ml hr.units) (Zf Mi (Zf PL (Z3 1) (Z3 0)) (Z4)) (Z4) (Yg _))),(Z6 0)⟩) (by decide)))
theorem Nd(d:b.F "_law_is_sound" Qp)(T:TX b) (a:bu b):Rt b :=
 Wa d To (by ext) (λ_ _ _ _ _ _ _ hr=>(by
  unfold Wu;exact(Za (Zm 1 To.nd (Wf))
  (Za (gL (known:=NM) (b1':=(λ_=>true)) (λ_=>PassesOwnAt.never) (λ_ _=>(Zl (kB (SQ a hr.mono (L (Z6 0) (L (Wb) Z8)))))) (λ_ _=>(Zl (Zm 1 To.nd (Wf)))) T.u_8)
  (Zl (Yy (Z6 1)))))))
theorem kP(d:b.F "_law_free" Jq)(T:TX b) (c:Rc b):Sb b :=
 Wa d A6 (by ext) (λ_ _ _ _ _ _ _ hr=>(by
  unfold S8;refine(Zl (Kj ?c0))
  case c0=>exact Tp (Z9 Jq) [none,some 0,some 1] ["_law_k","_law_graph_here","_law_stand"] rfl rfl (Ys T.b_range (L (Y2 Va T.b_len (L (Zi Zv (Z3 0) (Z4)) Z8)) Z8)) (λ_ _ _ _=>⟨(Zs 0 (by ext)),(Gz (Hk (Zy c hr.mono (L (Z6 1) (L (Z6 2) (L (Z6 0) Z8)))))),(Z6 0)⟩) (by decide)))
theorem N7(d:b.F "_law_new_ways" Qm)(T:TX b) (e:Sb b)(a:Ma b)(c:Rc b):Ru b :=
 Wa d Yk (by ext) (λ_ _ _ _ _ _ _ hr=>(by
  unfold Qj;exact(Za (Zm 3 Yk.nd (Zz (L (Zq Zv (Z3 1) (Z4)) (L (Zq Zv (Z3 1) (Z4)) Z8))))
  (Za (Zm 4 Yk.nd (Zz (L (Zq Zv (Z3 0) (Z4)) (L (Zq Zv (Z3 0) (Z4)) Z8))))
  (Za (Zm 5 Yk.nd (Vx Va T.b_len (L (Zi Zv (Z3 0) (Z4)) Z8)))
  (Za (Vw BI rfl (Il (Z6 2)) (Zs 6 Yk.nd) (Za (Zm 7 Yk.nd (Zo e hr.mono (L (Z6 1) (L (Z6 3) Z8))))
  (Za (Ur (Vd (Ml hr.units) (Z3 7) (Yh (Qn Z8)) (Yg _)) (Zl (Yy (Uh (Ml hr.units) (Zy e hr.mono (L (Z6 0) (L (Z6 4) Z8))) (Yh (Qn Z8)) (Yg _)))) Wq)
  (Za (Zm 8 Yk.nd (Zq Zv (Z3 7) (Zf Wr (Z3 6) (Y2 Va T.b_len (L (Z3 7) Z8)))))
  (Za (Zm 3 Yk.nd (Zo a hr.mono (L (Z6 1) (L (Z6 3) (L (Z6 8) Z8)))))
  (Za (Ur (Vd RH (Z3 8) (Z3 5) (Yg _)) (Za (Ur (Cn (Hk (Zy c hr.mono (L (Z6 0) (L (Z6 4) (L (Z6 8) Z8)))))) (Zl (Yy (Wf))) Wq)
  (Zl (Zm 4 Yk.nd (Zo a hr.mono (L (Z6 0) (L (Z6 4) (L (Z6 8) Z8))))))) Wq)
  (Zl (Ur (Vd (OL hr.units) (Zi Zv (Z3 4) (Z4)) (Zf Mi (Zi Zv (Z3 3) (Z4)) (Zf SA (Zf Dz (Z4) (Y2 Va T.b_len (L (Zi Zv (Z3 0) (Z4)) Z8))) (Z4))) (Yg _)) (Zl (Yy (Wf))) Wq))))))))
  (Zl (Yy (Wf)))))))))
theorem N8(d:b.F "_law_old_ways" Qk)(T:TX b) (e:Sb b)(a:Ma b)(c:Rc b):Rv b :=
 Wa d Y7 (by ext) (λ_ _ _ _ _ _ _ hr=>(by
  unfold Qq;exact(Za (Zm 4 Y7.nd (Zz (L (Zq Zv (Z3 1) (Z4)) (L (Zq Zv (Z3 1) (Z4)) Z8))))
  (Za (Zm 5 Y7.nd (Zz (L (Zq Zv (Z3 0) (Z4)) (L (Zq Zv (Z3 0) (Z4)) Z8))))
  (Za (Zm 6 Y7.nd (Vx Va T.b_len (L (Zi Zv (Z3 0) (Z4)) Z8)))
  (Za (Vw BI rfl (Il (Z6 3)) (Zs 7 Y7.nd) (Za (Zm 8 Y7.nd (Zo e hr.mono (L (Z6 0) (L (Z6 5) Z8))))
  (Za (Ur (Vd (Ml hr.units) (Z3 8) (Yh (Qn Z8)) (Yg _)) (Zl (Yy (Wf))) Wq)
  (Za (Zm 9 Y7.nd (Zq Zv (Z3 8) (Zf Wr (Z3 7) (Y2 Va T.b_len (L (Z3 8) Z8)))))
  (Za (Zm 10 Y7.nd (Jg (Qn (L (Z6 9) Z8))))
  (Za (Ur (Vd (OA hr.units) (Z3 9) (Z3 2) (by rfl)) (Zl (Zm 10 Y7.nd (Jg (Qn (L (Zj Yi (Z3 6) (SI (m:=true) DU FG GY On (Z3 2) (L (Z3 9) Z8))) (L (Z6 9) Z8)))))) Wq)
  (Za (Vw BI rfl (Il (Z6 10)) (Zs 11 Y7.nd) (Za (Ur (Cn (Hk (Zy c hr.mono (L (Z6 1) (L (Z6 4) (L (Z6 11) Z8)))))) (Zl (Yy (Wf))) Wq)
  (Zl (Zm 4 Y7.nd (Zo a hr.mono (L (Z6 1) (L (Z6 4) (L (Z6 11) Z8))))))))
  (Za (Zm 5 Y7.nd (Zo a hr.mono (L (Z6 0) (L (Z6 5) (L (Z6 9) Z8)))))
  (Zl (Ur (Vd (OL hr.units) (Zi Zv (Z3 5) (Z4)) (Zf Mi (Zi Zv (Z3 4) (Z4)) (Zf SA (Zf Dz (Z4) (Y2 Va T.b_len (L (Zi Zv (Z3 0) (Z4)) Z8))) (Z4))) (Yg _)) (Zl (Yy (Wf))) Wq))))))))))
  (Zl (Yy (Wf)))))))))
theorem cp{f t0:A2}(d:LM b.K "law" "law" Mm f fd)(T:TX b) (a:Tk b)(c:Mr b)(q:VY b)(e:Rv b)(p:Gy b)(o:E6 b)(l:Sw b)(h:Ry b)(j:Rt b)(k:Ru b)(tB:LO b.K b.mg b.base c0 t0)(hf:PySem.W.nsIn b.K mainGlobals "law" = some (some (.ref f)))(hl:∀ ns:Z Int,ns.length<=63->bi [.lst (ns.map .int)]=.ok (.bl true)):KO b.P b.w b.K b.mg b.base Ec 8 f fd MM (Od b.K t0) :=
 j' (i:=10) (N:=cA) (ps:=MM) (st:=Mm) (g:=Xu) d Ua rfl tB hf (λ_ _ _ _ _ _ hr t=>(by
  unfold Xu;refine(Za (Zm 1 Ua.nd (Zj Yi (Z4) (Zf Wr (Zy a hr.mono (L (Z6 0) (L (Wb) Z8))) (Z4))))
  (Za (Zm 2 Ua.nd (Zo a hr.mono (L (Z6 0) (L (Wb) Z8))))
  (Za (Zm 3 Ua.nd (Zo c hr.mono (L (Zo p hr.mono (L (Z6 0) (L (Wb) (L (Z6 1) (L (Zj Wr (Zy a hr.mono (L (Z6 0) (L (Wb) Z8))) (Z4)) Z8))))) (L (Zj Wr (Zf Wt (Z3 2) (Z4)) (Z3 1)) Z8))))
  (Za (Zm 4 Ua.nd (Uh (Ml hr.units) (Zf Wr (Z3 2) (Z4)) (Z4) (Yg _)))
  (Za (Ur (Vd (Ml hr.units) (Zf Wr (Zf Wt (Zy a hr.mono (L (Z6 0) (L (Wb) Z8))) (Z4)) (Z4)) (Z4) (Yg _)) (Za (Zm 3 Ua.nd (Zo o hr.mono (L (Z6 0) (L (Wb) Z8))))
  (Zl (Zm 4 Ua.nd (Wf)))) Wq)
  (Za (Ur (Cz.pt (Xg (Cn (Hk (Z3 4))) (Pb (Vd (Ml hr.units) (Zf Wr (Zf Wt (Z3 2) (Z4)) (Z4)) (Z4) (Yg _))))) (Zl (Zm 3 Ua.nd (Zo l hr.mono (L (Z6 3) (L (Zj Wt (Z3 2) (Z4)) Z8))))) Wq)
  (Za (jS 5 Ua.nd (Z9 Mm) [none,none,some 3] SW rfl rfl (mZ T.b_enumerate (Zi Zv (Z3 3) (Z4))) (λ_ _ _ _=>⟨(Sz (n:=2) rfl (Yo (Zs 0 (by ext)) (Yo (Zs 1 (by ext)) Je))),(Gz (Vd (Ml hr.units) (Zi Zv (Zi Zv (Zi Zv (Z3 2) (Z4)) (Zi Zv (Z3 1) (Z4))) (Z4)) (QL (m:=true)) (Yg _))),(Z6 0)⟩) (by decide))
  (Za (cZ 6 5 Ua.nd rfl (DH rfl) (L (Zf Wr (Zf Wt (Z3 2) (Z4)) (Y2 Va T.b_len (L (xo 5) Z8))) Z8))
  (Za (Zm 7 Ua.nd (Zq Zv (xo 5) (Zf Wr (Zf Wt (Z3 2) (Z4)) (Y2 Va T.b_len (L (xo 5) Z8)))))
  (Za (Ur (Hk (Z3 4)) (Za (Zm 8 Ua.nd (Zq Zv (Zi Zv (Zi Zv (Z3 3) (Z4)) (Z3 6)) (Z4)))
  (Za (Zm 9 Ua.nd (Zj Yi (Yh (Qn (L (Z6 6) Z8))) (Yh ?c0)))
  (Zl ?c1))) Wq)
  (Za (Zm 10 Ua.nd (Zo q hr.mono (L (Z6 3) (L (Zo h hr.mono (L (Zj Wt (Z3 2) (Z4)) (L (Zq Zv (Z3 3) (Z4)) Z8))) (L (Z6 6) (L (Z6 7) Z8))))))
  (Za (Ur (Cn (Hk (Zy j hr.mono (L (Z6 10) Z8)))) (Zl (Yy (lT (m:=false) (Z3 4)))) Wq)
  (Za (Ur (Cn (Hk (Zy k hr.mono (L (Z6 3) (L (Z6 10) (L (J8 E5 (Z3 0) (Qo (Z4)) (Qo (Z4))) Z8)))))) (Zl (Yy (Wf))) Wq)
  (Zl (Yy (Zo e hr.mono (L (Z6 3) (L (Z6 10) (L (Jg (Qn (L (Z6 6) (L (Z6 7) Z8)))) (L (J8 E5 (Z3 0) (Qo (Z4)) (Qo (Z4))) Z8))))))))))))))))))))
  case c0=>exact Tp (Z9 Mm) [none,some 8,some 3] ["_law_k","_law_wire","_law_old"] rfl rfl (S9 (xo 5)) (λ_ _ _ _=>⟨(Zs 0 (by ext)),(Gz (Vd (Ml hr.units) (Zi Zv (Zi Zv (Zi Zv (Z3 2) (Z4)) (Z3 0)) (Z4)) (Z3 1) (Yg _))),(Z6 0)⟩) (by decide)
  case c1=>exact(by
   refine' c' (kk:=0) (psc:=Z9 Mm) (y:="_law_k") (N:=["_law_wire","_law_old"]) (fs:=[some 8,some 3]) 10 ?a1 ?a2 t ?a3 ?a4 ?a5 ?a6 ?a7 ?a8 ?a9 ?b1 ?b2 ?b3 ?b4 ?b5
   case a1|a3|a5|a9|b1|b2|b3=>rfl
   case a2=>exact hr.mono (by lia)
   case a4=>exact T.b_sorted
   case a6=>exact(Z3 9)
   case a7=>exactλ_ _ _ _ _ _=>(Zj Xf (Zf Xf (Ql (m:=true) mb T.b_int (L (Zi Zv (Zi Zv (Zi Zv (Z3 2) (Z4)) (Z3 0)) (Z4)) Z8)) (Z4)) (Zf Mi (Zf PL (Zi Zv (Z3 2) (Z4)) (Z3 1)) (Z4)))
   case a8=>exact(Sz (n:=2) rfl (Yo (Zs 6 Ua.nd) (Yo (Zs 7 Ua.nd) Je)))
   case b4=>exactλ_ _ _ _ _ _=>rfl
   case b5=>exact CompOk.of (by kernel_rfl!)))) hl
end
end K73
variable{N:L2.Ev->Prop}
namespace L2
noncomputable def T9(ps:Z Nat)(w:Nat):Nat:=ps.idxOf w
noncomputable def T5(ps:Z Nat)(w:Nat):Nat:=ps.idxOf w+1+(ps.drop (ps.idxOf w+1)).idxOf w
theorem VT:∀ {ps:Z Nat} {d:Nat},ps[d]?=some w->ps.count w=1->(ps.take d).count w=0/\d=ps.idxOf w
 | [],_,h,_=>by cases h
 | p::ps,0,h,_=>by
  cases h;exact⟨rfl,by rw[EM];simp⟩
 | p::ps,d+1,h,hc=>by
  have h':ps[d]?=some w:=h;by_cases e:p=w
  .subst e
   rw[IB] at hc;have:ps.count p=0:=by lia
   exact absurd (AD h') (List.count_eq_zero.mp this)
  .rw[FT e] at hc
   obtain⟨h1,h2⟩:=VT h' hc;rw[FN,FT e,EM,show(p==w)=false from CO.mpr e];exact⟨h1,by simp[h2]⟩
theorem TC:∀ {ps:Z Nat} {d:Nat},ps[d]?=some w->ps.count w=2->((ps.take d).count w=0/\d=T9 ps w)\/((ps.take d).count w=1/\d=T5 ps w)
 | [],_,h,_=>by cases h
 | p::ps,0,h,_=>by
  cases h;exact .inl ⟨rfl,by unfold T9;rw[EM];simp⟩
 | p::ps,d+1,h,hc=>by
  have h':ps[d]?=some w:=h;by_cases e:p=w
  .subst e
   rw[IB] at hc;obtain⟨h1,h2⟩:=VT h' (by lia);refine .inr ⟨by rw[FN,IB,h1],?_⟩;unfold T5;rw[EM,EL];show d+1=0+1+ps.idxOf p;lia
  .rw[FT e] at hc
   have e1:(p::ps).idxOf w=ps.idxOf w+1:=by rw[EM,show(p==w)=false from CO.mpr e];rfl
   rw[FN,FT e];unfold T9 T5;rw[e1];rcases TC h' hc with⟨h1,h2⟩ | ⟨h1,h2⟩
   .exact .inl ⟨h1,by unfold T9 at h2;lia⟩
   .refine .inr ⟨h1,?_⟩
    unfold T5 at h2;show d+1=ps.idxOf w+1+1+(ps.drop (ps.idxOf w+1)).idxOf w;lia
theorem second:∀ {ps:Z Nat},ps.count v=2->v∈ps.drop (ps.idxOf v+1)
 | [],h=>by cases h
 | p::ps,h=>by
  rw[JO] at h;rw[EM];by_cases e:p=v
  .subst e
   rw[show(p==p)=true from EL _] at h ⊢;show p∈ps;refine HF.mp ?_;simp at h;lia
  .rw[show(p==v)=false from CO.mpr e] at h ⊢
   show v∈ps.drop (ps.idxOf v+1);exact second (by simpa using h)
theorem bH(h:w∈ps):ps[ps.idxOf w]?=some w:=by
 have hl:=FV h;rw[AK hl,List.getElem_idxOf hl]
theorem Y'(h:ps.count w=2):ps[T9 ps w]?=some w:=bH (HF.mp (by lia))
theorem cF(h:ps.count w=2):ps[T5 ps w]?=some w:=by
 have:=bH (second h);rw[IP] at this;exact this
theorem fA(ps:Z Nat)(w:Nat):T9 ps w<T5 ps w:=by unfold T9 T5;lia
structure MY (n:Nat) (ps:List Nat):Prop where
 len:ps.length=2*n
 cnt:∀ v,ps.count v=if v<n then 2 else 0
theorem MY.mem(h:MY n ps) :v∈ps↔v<n:=by
 rw[<- HF,h.cnt];split<;>lia
theorem MY.two(h:MY n ps)(hv:v<n):ps.count v=2:=by rw[h.cnt,AH hv]
theorem MY.inj{n:Nat}{ps:Z Nat}(h:MY n ps)(w v:Nat)(J:w<n)(hv:v<n)(e:T9 ps w=T9 ps v\/T5 ps w=T5 ps v\/T9 ps w=T5 ps v):w=v/\T9 ps w≠T5 ps v:=by
 have a1:=Y' (h.two J);have a2:=cF (h.two J);have b1:=Y' (h.two hv);have b2:=cF (h.two hv);have a:w=v:=by
  rcases e with e | e | e
  .rw[e,b1] at a1;exact(BC a1).symm
  .rw[e,b2] at a2;exact(BC a2).symm
  .rw[e,b2] at a1;exact(BC a1).symm
 subst a;exact⟨rfl,by have:=fA ps w;lia⟩
theorem f6(tk:Z (Z Nat))(k x d:Nat)(hk:k<tk.length):(Na tk k x).getD d []=if d=k then tk.getD d []++[x] else tk.getD d []:=by
 unfold Na;by_cases e:d=k
 .subst e
  simp[List.getD,AZ,hk]
 .have e':¬ k=d:=λz=>e z.symm
  simp[List.getD,AZ,e,e']
theorem XI(tk:Z (Z Nat))(k x d q:Nat)(hk:k<tk.length):q∈(Na tk k x).getD d []↔q∈tk.getD d []\/(d=k/\q=x):=by
 rw[f6 tk k x d hk];by_cases e:d=k
 .rw[AH e];simp[e]
 .rw[AM e];simp[e]
noncomputable def NS(s0:Nat)(rs:Z (Nat×Nat))(f g:Nat×Nat->Nat)(tk:Z (Z Nat)):Prop:=∀ d,Gu s0 rs f g d (tk.getD d [])
variable{f:Nat×Nat->Nat}
theorem NS.nil(s0 m:Nat)(f g:Nat×Nat->Nat):NS s0 [] f g (List.replicate m []):=λd q=>by
 have:(List.replicate m ([]:Z Nat)).getD d []=[]:=by
  simp only[List.getD];cases e:(List.replicate m ([]:Z Nat))[d]? with
  | none=>rfl
  | some l=>have:=AD e;rw[(FH.mp this).2];rfl
 rw[this];simp
theorem NS.app(h:NS s0 rs f g tk)(p:Nat×Nat)(hf:f p<tk.length)(hg:g p<tk.length):NS s0 (rs++[p]) f g (Na (Na tk (f p) (s0+2*rs.length)) (g p) (s0+2*rs.length+1)):=λd q=>by
 rw[XI _ _ _ _ _ (by rw[Jl];exact hg),XI _ _ _ _ _ hf,h d q];constructor
 .rintro((⟨t,r,e,h1⟩ | ⟨h1,h2⟩) | ⟨h1,h2⟩)
  .exact⟨t,r,by rw[BH (AC.mp e).1];exact e,h1⟩
  .exact⟨rs.length,p,by simp,.inl ⟨h2,h1.symm⟩⟩
  .exact⟨rs.length,p,by simp,.inr ⟨h2,h1.symm⟩⟩
 .rintro⟨t,r,e,h1⟩
  rcases DV t rs.length with hl | hl
  .rw[BH hl] at e
   exact .inl (.inl ⟨t,r,e,h1⟩)
  .rw[BV hl] at e
   have e0:t - rs.length=0:=by
    rcases DA (t - rs.length) with z | z
    .exact z
    .rw[FX,AM (by lia)] at e;cases e
   rw[e0] at e;cases e;have M:t=rs.length:=by lia
   subst M;rcases h1 with⟨h1,h2⟩ | ⟨h1,h2⟩
   .exact .inl (.inr ⟨h2.symm,h1⟩)
   .exact .inr ⟨h2.symm,h1⟩
theorem Fk(hb:LW Lq_ B tk)(h:∀ l∈tk,l.Nodup)(k x:Nat)(hx:B<=x):∀ l∈Na tk k x,l.Nodup:=by
 intro l hl;rcases ED hl with q | q
 .exact h l q
 .rw[q]
  cases e:tk[k]? with
  | none=>simp[List.getD,e]
  | some l' =>
   have hm:=AD e;simp only[List.getD,e,JG];refine GI.mpr ⟨h l' hm,CT.mpr ⟨by simp,DZ⟩,λa ha b d=>?_⟩;have:=hb.lt l' hm a ha;rw[AJ.mp d];lia
theorem Gu.perm{d:Nat}(h:Gu s0 rs f g d l)(e:l'.Perm l):Gu s0 rs f g d l':=λq=>by rw[e.mem_iff];exact h q
structure SB (B n:Nat) (s:St3):Prop where
 w:s.w<n
 t:∀ p∈s.takes,p<B
 f:∀ p∈s.fills,p<B
 tn:s.takes.Nodup
 fn:s.fills.Nodup
theorem Kl(h:l.Nodup)(hb:∀ p∈l,p<B):l.length<=B:=by
 have:=D5 l (List.range B) h λx hx=>CC.mpr (hb x hx)
 rwa [DK] at this
structure Gb (B:Nat) (G:G3):Prop where
 w2:G.wires.length<=10
 s1:1<=G.steps.length
 s2:G.steps.length<=24
 st:∀ s∈G.steps,SB B G.wires.length s
 mks:G.marks<2^B
end L2
variable{g:L2.Ev->L2.Fl}{ps:Z (Nat×Nat)}
namespace L2
open PySem PySem.Spec PyProof.Rows
section
variable{fk fv:Zzu}
theorem cO{x y:Int}(e:env[i]?=some (.fz (.int x)))(e2:f env=some (.int y))(q:N (env.set i (.fz (.int (x+y))))):Go (PQ i f env) N R:=by
 unfold PQ;rw[e,e2];exact⟨q⟩
noncomputable def Nz(p:Nat×Nat):Z Vn:=[.inl (p.1:Int),.inl (p.2:Int)]
theorem gD:Nz p=Nz q↔p=q:=by
 constructor
 .intro h
  unfold Nz at h;simp only[List.cons.injEq,Sum.inl.injEq,and_true] at h;exact FW (by lia) (by lia)
 .rintro rfl;rfl
theorem Kq(p:Nat×Nat):OZ (Zn p)=some (Nz p):=rfl
noncomputable def Gn(ps:Z (Nat×Nat)):Z (Z Vn×Dat):=ps.map λp=>(Nz p,.bl true)
theorem Pe(ps:Z (Nat×Nat))(q:Nat×Nat):Lv (Gn ps) (Nz q)=decide (q∈ps):=by
 unfold Lv Gn;rw[EZ,EH,JI,BU];constructor
 .rintro⟨x,hx,e⟩
  obtain⟨p,hp,rfl⟩:=DJ.mp hx;have:Nz p=Nz q:=AT e;rw[<- gD.mp this];exact hp
 .intro h
  exact⟨Nz q,DJ.mpr ⟨q,h,rfl⟩,AG rfl⟩
theorem jK(e:env[i]?=some (.gx (.dict (Gn ps))))(e2:f env=some (Zn q)):PV false i f env=some (.bl (decide (q∈ps))):=by
 unfold PV;rw[e,e2];dsimp only;rw[Kq];show some (Dat.bl (Lv (Gn ps) (Nz q)))=_;rw[Pe]
theorem iJ(e:env[i]?=some (.gx (.dict (Gn ps))))(e2:fv env=some (.bl true))(e3:fk env=some (Zn q))(hq:q∉ps)(hl:ps.length<=1000)(n:N (env.set i (.gx (.dict (Gn (ps++[q])))))):Go (Pj i fk fv env) N R:=by
 unfold Pj;rw[e,e2,e3];dsimp only;rw[Kq];dsimp only;rw[AH ⟨by rw[Pe,AB hq],by unfold Gn;rw[AF];exact FA hl (by decide)⟩];have:Gn ps++[(Nz q,Dat.bl true)]=Gn (ps++[q]):=by unfold Gn;rw[BP];rfl
 rw[this];exact⟨n⟩
theorem cm(e:fk env=some (Zn q))(e2:fv env=some (.bl true))(n:N (env.set i (.gx (.dict (Gn [q]))))):Go (Ct i fk fv env) N R:=by
 unfold Ct;rw[e,e2];dsimp only;rw[Kq];exact⟨n⟩
theorem dw(h1:fs env=some [.lst xs]):QF fs env=some xs.reverse:=by unfold QF;rw[h1]
end
theorem Xy:∀ xs:Z Dat,(∀ x∈xs,Gm x x=true)->NK xs xs=true
 | [],_=>by unfold NK;rfl
 | x::xs,h=>by unfold NK;rw[h x AX,Xy xs λy hy=>h y (BB _ hy)];rfl
theorem mI(h:∀ x∈xs,Gm x x=true/\pd 19 x=true):pd 20 (.lst xs)=true/\Gm (.lst xs) (.lst xs)=true:=by
 constructor
 .show xs.all (pd 19)=true
  exact CW.mpr λx hx=>(h x hx).2
 .unfold Gm;exact Xy xs λx hx=>(h x hx).1
theorem jP(i:Int):Gm (.int i) (.int i)=true:=by unfold Gm;exact EL i
theorem jB(ps:Z Nat):pd 20 (.lst (Zc ps))=true/\Gm (.lst (Zc ps)) (.lst (Zc ps))=true:=mI λx hx=>by
 rw[W0] at hx;obtain⟨p,_,rfl⟩:=DJ.mp hx;exact⟨jP _,rfl⟩
noncomputable def Io(G:G3)(m k:Nat):Bool:=match G.steps[k]? with
 | some s=>W8 s m
 | none=>false
theorem Kx(h:Io G m k=true):∃ s,G.steps[k]?=some s/\W8 s m=true:=by
 unfold Io at h;cases e:G.steps[k]? with
 | none=>rw[e] at h;cases h
 | some s=>rw[e] at h;exact⟨s,rfl,h⟩
noncomputable def Dw(G:G3)(m:Nat):Z Nat:=(List.range G.steps.length).filter (Io G m)
theorem ln{F:Z Rw}(h:ae <+: F){r:Rw}(e:ae[i]?=some r):F[i]?=some r:=by
 obtain⟨t,rfl⟩:=h;rw[BH (AC.mp e).1];exact e
theorem P8(h:k∈Dw G m):Io G m k=true:=(DE.mp h).2
noncomputable def fh(r:Fl)(N C:Ev->Prop)(R:Dat->Prop)(E:Str->Z (Str×XD)->Prop):Prop:=match r with
 | .next e=>N e
 | .cont e=>C e
 | .ret d=>R d
 | .exc _ c fl=>E c fl
 | _=>False
structure LB (r:Fl) (N C:Ev->Prop) (R:Dat->Prop) (E:Str->List (Str×XD)->Prop):Prop where
 of:fh r N C R E
section
variable{C:Ev->Prop}{E:Str->Z (Str×XD)->Prop}
theorem Go.toE(q:Go r N R):LB r N C R E:=by
 cases r with
 | next e=>exact⟨q.of⟩
 | ret d=>exact⟨q.of⟩
 | _=>exact q.of.elim
theorem U2(q:LB (g env) (λe=>LB (h e) N C R E) C R E):LB (Zd g h env) N C R E:=by
 unfold Zd;cases e:g env with
 | next e'=>rw[e] at q;exact q.of
 | ret d=>rw[e] at q;exact⟨q.of⟩
 | cont d=>rw[e] at q;exact⟨q.of⟩
 | exc e' c fl=>rw[e] at q;exact⟨q.of⟩
 | _=>rw[e] at q;exact q.of.elim
theorem Q7(q:Go (g env) (λe=>LB (h e) N C R E) R):LB (Zd g h env) N C R E:=U2 q.toE
theorem Oa{b:Bool}(e:t env=some b)(Y:b=true->LB (g env) N C R E)(q2:b=false->LB (h env) N C R E):LB (Jv t g h env) N C R E:=by
 unfold Jv;rw[e];cases b with
 | true=>exact Y rfl
 | false=>exact q2 rfl
theorem Dh{a:Z Dat->C1 (Z (Str×XD))}(e:fs env=some ds)(e2:a ds=some fl)(q:E c fl):LB (U9 c a fs env) N C R E:=by
 unfold U9;rw[e];dsimp only[Option.bind];rw[e2];exact⟨q⟩
theorem ZY(P:Nat->Ev->Prop):∀ (ds:Z Dat) (k:Nat) (env:Ev),P k env->(∀ i d e,ds[i]?=some d->P (k+i) e->∃ e1,gg d e=some e1/\LB (g e1) (P (k+i+1)) (P (k+i+1)) R E)->(∀ e,P (k+ds.length) e->N e)->LB (N6 gg g ds env) N C R E
 | [],k,env,h0,_,hN=>⟨hN env h0⟩
 | d::ds,k,env,h0,hs,hN=>by
  obtain⟨e1,a1,a2⟩:=hs 0 d env rfl h0;rw[N6,a1];dsimp only;have f:∀ e',P (k+0+1) e'->LB (N6 gg g ds e') N C R E:=λe' h'=>ZY P ds (k+1) e' h' (λi d e hi hp=>by
   have:=hs (i+1) d e (by simpa using hi) (by rw[show k+(i+1)=k+1+i by lia];exact hp);rw[show k+1+i+1=k+(i+1)+1 by lia];exact this) (λe hp=>hN e (by rw[BJ,show k+(ds.length+1)=k+1+ds.length by lia];exact hp))
  cases e:g e1 with
  | next e'=>rw[e] at a2;exact f e' a2.of
  | cont e'=>rw[e] at a2;exact f e' a2.of
  | ret d'=>rw[e] at a2;exact⟨a2.of⟩
  | exc e' c fl=>rw[e] at a2;exact⟨a2.of⟩
  | _=>rw[e] at a2;exact a2.of.elim
theorem Bx(P:Nat->Ev->Prop)(e:src env=some ds)(h0:P 0 env)(hs:∀ i d e,ds[i]?=some d->P i e->∃ e1,gg d e=some e1/\LB (g e1) (P (i+1)) (P (i+1)) R E)(hN:∀ e,P ds.length e->N e):LB (T4 src gg g env) N C R E:=by
 unfold T4;rw[e];exact ZY P ds 0 env h0 (λi d e hi hp=>by simpa using hs i d e hi (by simpa using hp)) (λe hp=>hN e (by simpa using hp))
theorem LB.ne(q:LB r N C R E):r≠.no:=λz=>by rw[z] at q;exact q.of
theorem lQ(W:Nat->Ev->Prop)(h0:W n env)(hs:∀ n e,W n e->(t e=some false/\N e)\/(t e=some true/\LB (g e) (λe'=>∃ m,m<n/\W m e') (λ_=>False) R E)):LB (Sj t g env) N C R E:=by
 have ah:∀ n e,W n e->LB (V9 t g (n+1) e) N C R E:=by
  intro n;induction n using strongRecOn with
  | _ n ih =>
   intro e J;rcases hs n e J with⟨a,b⟩ | ⟨a,b⟩
   .rw[V9,a];exact⟨b⟩
   .rw[V9,a]
    dsimp only;cases eg:g e with
    | next e' =>
     rw[eg] at b;obtain⟨m,hm,f⟩:=b.of;have q:=ih m hm e' f;dsimp only;have:=Uu (n - (m+1)) q.ne;rw[show m+1+(n - (m+1))=n by lia] at this;rw[this];exact q
    | ret d=>rw[eg] at b;exact⟨b.of⟩
    | exc e' c fl=>rw[eg] at b;exact⟨b.of⟩
    | _=>rw[eg] at b;exact b.of.elim
 have q:=ah n env h0;rw[F5 q.ne];exact q
theorem Bo{p:Nat}(hp:ds.length=p)(q:LB (g (Vv n ds)) (λ_=>R .non) (λ_=>False) R E):(∃ d,W2 n p g ds=.ok d/\R d)\/∃ c fl,W2 n p g ds=.exc c fl/\E c fl:=by
 unfold W2;rw[AH hp];cases e:g (Vv n ds) with
 | next e'=>rw[e] at q;exact .inl ⟨_,rfl,q.of⟩
 | ret d=>rw[e] at q;exact .inl ⟨_,rfl,q.of⟩
 | exc e' c fl=>rw[e] at q;exact .inr ⟨_,_,rfl,q.of⟩
 | _=>rw[e] at q;exact q.of.elim
variable{e' e3:Ev}{sub:Str->Bool}
theorem lu(e:fs env=some ds)(h:F ds=.exc c fl):G8 F fs env=.exc env c fl:=by unfold G8;rw[e];dsimp only;rw[h]
end
end L2
namespace L2
open PySem
noncomputable def Yz(G:G3)(s:St3):Bool:=match G.wires[s.w]? with
 | some u=>u.2
 | none=>false
noncomputable def Ln(G:G3):Prop:=∀ (i j:Nat) (m B:St3),i≠j->G.steps[i]?=some m->G.steps[j]?=some B->∀ q,q∈m.takes->q∉m.fills->q∈B.takes->Yz G m=false/\Yz G B=false
structure LH (G G':G3) (z:Nat):Prop where
 ws:G'.wires=G.wires
 ma:G'.marks=G.marks ||| 2^z
 mz:G.marks.testBit z=false
 cd:G'.code=G.code
 len:G'.steps.length=G.steps.length
 st:∀ (i:Nat) (s':St3),G'.steps[i]?=some s'->∃ s:St3,G.steps[i]?=some s/\∃ b:Bool,s'.w=s.w/\s'.up=s.up/\z∉s.takes/\z∉s.fills/\(∀ q,q∈s'.takes↔q∈s.takes\/(b=true/\q=z))/\(∀ q,q∈s'.fills↔q∈s.fills\/(b=true/\q=z))
theorem LH.look(h:LH G G' z):NO G G' z:=⟨h.len,h.ma,h.mz,h.cd,λs' hs=>by
 obtain⟨i,hi⟩:=CL hs;obtain⟨s,e,b,q⟩:=h.st i s' hi;exact⟨s,AD e,b,q⟩⟩
noncomputable def E7(l:Z (Nat×Bool)):Nat:=l.foldl (λc q=>c ^^^ 2^q.1) 0
theorem eB(l:Z (Nat×Bool))(q:Nat×Bool):E7 (l++[q])=E7 l ^^^ 2^q.1:=by unfold E7;rw[IX];rfl
noncomputable def Db(n:Nat)(l:Z (Nat×Bool)):Bool:=((List.range l.length).all λi=>match l[i]? with
 | some q=>!((E7 (l.take i)).testBit q.1==q.2)&&decide (q.1<n)
 | none=>true)&&E7 l==0
noncomputable def Wo(af own r:Nat):Z Nat:=(List.range own).map λj=>af+(r+j) % own
noncomputable def E1(af own r:Nat):Z (Nat×Bool):=((Wo af own r).map λw=>(w,true))++((Wo af own (r / 2)).map λw=>(w,false))
noncomputable def TQ(k pos:Nat)(l:Z (Nat×Bool)):Z (Nat×Bool):=(k,true)::(l.take pos++(k,false)::l.drop pos)
theorem Fb(af own r:Nat)(h1:1<=own)(h2:own<=2):Wo af own r=Wo af own (r % 2):=by
 unfold Wo;refine List.map_congr_left λj _=>?_
 rcases(show own=1\/own=2 by lia) with rfl | rfl<;>lia
noncomputable def fg(af own a b:Nat):Z (Nat×Bool):=((Wo af own a).map λw=>(w,true))++((Wo af own b).map λw=>(w,false))
theorem iZ:([2,3].all λaf=>[1,2].all λown=>(List.range af).all λk=>(List.range 2).all λa=>(List.range 2).all λb=>(List.range (2*own+1)).all λpos=>Db (af+own) (TQ k pos (fg af own a b)))=true:=by ext
theorem d6{own r pos:Nat}(m1:2<=af)(m2:af<=3)(o1:1<=own)(o2:own<=2)(hk:k<af)(hp:pos<=2*own):Db (af+own) (TQ k pos (E1 af own r))=true:=by
 have h:=iZ;simp only[CW] at h;have:=h af (by rcases(show af=2\/af=3 by lia) with rfl | rfl<;>simp) own (by rcases(show own=1\/own=2 by lia) with rfl | rfl<;>simp) k (CC.mpr hk) (r % 2) (CC.mpr (by lia)) (r / 2 % 2) (CC.mpr (by lia)) pos (CC.mpr (by lia));unfold E1;rw[Fb af own r o1 o2,Fb af own (r / 2) o1 o2];exact this
theorem kD{l:Z (Nat×Bool)}(h:Db n l=true){q:Nat×Bool}(e:l[i]?=some q):(E7 (l.take i)).testBit q.1≠q.2/\q.1<n:=by
 unfold Db at h;have h1:=CW.mp (DQ.mp h).1 i (CC.mpr (AC.mp e).1);rw[e] at h1;dsimp only at h1;obtain⟨a,b⟩:=DQ.mp h1;exact⟨by simpa using a,AT b⟩
theorem C4{l:Z (Nat×Bool)}(h:Db n l=true):E7 l=0:=by
 unfold Db at h;exact DI.mp (DQ.mp h).2
structure CG (af n sp:Nat) (Lq_:Nat->Nat) (ss:List St3):Prop where
 l0:Lq_ 0=0
 st:∀ s∈ss,∃ x y,x<sp/\y<sp/\x≠y/\s.takes=[x]/\s.fills=[y]/\Lq_ y=Lq_ x ^^^ 2^s.w/\(Lq_ x).testBit s.w≠s.up/\s.w<n/\(x=0->s.w<af)
 sh:∀ (i j:Nat) (m B:St3),i≠j->ss[i]?=some m->ss[j]?=some B->∀ x,m.takes=[x]->B.takes=[x]->x=0
theorem Br{l:Z α}{a b:α}(h:(l++[a])[i]?=some b):(i<l.length/\l[i]?=some b)\/(i=l.length/\b=a):=by
 rcases DV i l.length with hl | hl
 .rw[BH hl] at h;exact .inl ⟨hl,h⟩
 .rw[BV hl] at h
  rcases DA (i - l.length) with z | z
  .rw[z] at h;cases h;exact .inr ⟨by lia,rfl⟩
  .rw[FX,AM (by lia)] at h;cases h
theorem CG.add{Lq_ L':Nat->Nat}(h:CG af n sp Lq_ ss){b fill:Nat}{up:Bool}(hl:b<sp)(hf:fill<sp+1)(ae:b≠fill)(fr:∀ s∈ss,s.takes=[b]->b=0)(J:w<n)(hg:b=0->w<af)(aC:L' 0=0)(t:∀ p,p<sp->L' p=Lq_ p)(h1:L' fill=Lq_ b ^^^ 2^w)(h2:(Lq_ b).testBit w≠up):CG af n (sp+1) L' (ss++[⟨w,up,[b],[fill]⟩]) where
 l0:=aC
 st:=λs hs=>by
  rcases BO.mp hs with a | a
  .obtain⟨x,y,b1,b2,b3,b4,b5,l,c,d,e⟩:=h.st s a
   exact⟨x,y,by lia,by lia,b3,b4,b5,by rw[t x b1,t y b2];exact l,by rw[t x b1];exact c,d,e⟩
  .rw[AJ.mp a]
   exact⟨b,fill,by lia,hf,ae,rfl,rfl,by rw[h1,t b hl],by rw[t b hl];exact h2,J,hg⟩
 sh:=λi j m B f hi hj x e1 e2=>by
  rcases Br hi with⟨a1,a2⟩ | ⟨a1,a2⟩<;>rcases Br hj with⟨b1,b2⟩ | ⟨b1,b2⟩
  .exact h.sh i j m B f a2 b2 x e1 e2
  .subst b2
   have ex:b=x:=by simpa using e2
   subst ex;exact fr m (AD a2) e1
  .subst a2
   have ex:b=x:=by simpa using e1
   subst ex;exact fr B (AD b2) e2
  .lia
theorem CG.one{Lq_:Nat->Nat}(h:CG af n sp Lq_ G.steps)(hs:sp<=64)(hm:G.marks=1)(hc:G.code=0):NB G 0 Lq_ where
 bl:=by lia
 ma:=hm
 cd:=by rw[hc,h.l0]
 st:=λs d=>by
  obtain⟨x,y,b1,b2,b3,b4,b5,l,c,_⟩:=h.st s d;exact⟨x,y,by lia,by lia,b3,b4,b5,l,c⟩
end L2
namespace K73
open PySem PySem.Spec PyProof.Rows L2
theorem Mt(ns:Z Int)(k:Nat)(hk:k<=100000):∃ r:Nat,Yb [Qr ns,Ψ k]=.ok (Ψ r)/\r<1000000000039:=by
 have:=Yf (n:=3) (p:=2) (ds:=[Qr ns,Ψ k]) (g:=J7) (R:=λd=>∃ r:Nat,d=.int (r:Int)/\r<1000000000039) rfl ?_
 .obtain⟨d,e,r,rfl,h⟩:=this
  exact⟨r,e,h⟩
 show Go (J7 [.fz (Qr ns),Φ k,.un]) _ _;unfold J7;have B:∀ z:Int,Go (W3 (dO Vc (dO Ha (U 2) (Θ 48271)) (Θ 1000000000039)) [.fz (Qr ns),Φ k,.fz (.int z)]) (λ_=>False) (λd=>∃ r:Nat,d=.int (r:Int)/\r<1000000000039):=λz=>by
  refine Ya (d:=.int (z*48271 % 1000000000039)) (Z5 (Z5 rfl rfl (Ni (.inr (by lia)))) rfl (A9 (by lia))) ⟨(z*48271 % 1000000000039).toNat,?_,?_⟩
  .congr 1;lia
  .lia
 refine Z7 (Zg (d:=.int (7919*(k:Int)+12345)) (Z5 (Z5 rfl rfl (Ni (.inl (by lia)))) rfl rfl) ?_);refine Z7 (Ti (b:=decide ((k:Int)<((ns.map Dat.int).length:Int))) rfl (λhb=>?_) (λhb=>?_))
 .have a:k<ns.length:=by have:=AT hb;rw[AF] at this;lia
  have v:Yd (Qr ns) (Ψ k)=some (.int ns[k]):=Um (by simp[a]);refine Zg (d:=.int (7919*(k:Int)+12345+ns[k]*6364136223846793005)) (Z5 rfl (Z5 (Z5 rfl rfl v) rfl (Ni (.inr (by lia)))) rfl) ?_;exact(B _).mono (λ_ h=>h.elim) λ_ h=>h
 .refine Yl ?_
  exact(B _).mono (λ_ h=>h.elim) λ_ h=>h
theorem An(c k:Nat):∃ z:Str,Ve [Ψ c,Ψ k]=.ok (.str z):=by
 have:=Yf (n:=8) (p:=2) (ds:=[Ψ c,Ψ k]) (g:=Qb) (R:=λd=>∃ z:Str,d=.str z) rfl ?_
 .obtain⟨d,e,z,rfl⟩:=this
  exact⟨z,e⟩
 show Go (Qb [Φ c,Φ k,.un,.un,.un,.un,.un,.un]) _ _;unfold Qb;obtain⟨n,hn,ay⟩:∃ n:Nat,2+c % 7=n/\n<=8:=⟨_,rfl,by lia⟩;refine Z7 (Zg (d:=.str Vu) rfl ?_);refine Z7 (Zg (d:=.int (n:Int)) (by rw[<- hn];exact Z5 rfl (Z5 rfl rfl (Te c 7)) (U6 2 _)) ?_);refine Z7 (Zg (Z5 (Z5 rfl rfl (U8 c 7)) rfl (Te (c / 7) n (by lia))) ?_);refine Z7 (Zg (d:=.str "") rfl ?_);generalize c / 7 % n=a;refine Z7 (V5 (ds:=rng 0 n) (λi e=>∃ (z:Str) (u l:KQ),e=[Φ c,Φ k,.fz (.str Vu),Φ n,Φ a,.fz (.str z),u,l]/\z.length=i) (Yv (Z2 rfl rfl) (by lia)) ⟨"",.un,.un,rfl,by decide⟩ ?_ ?_)
 .rintro i d e hi ⟨z,u,l,rfl,hz⟩
  obtain⟨I,rfl⟩:=Uz hi;rw[DC];refine⟨_,rfl,?_⟩;refine Z7 (Zg (d:=.int ((0:Nat):Int)) rfl ?_);have B:∀ q:Nat,Go (Zw 5 (dO Yu (U 5) (dO Yd (U 2) (dO Vc (dO Yu (dO Yu (dO V0 (U 0) (Θ 49)) (dO Ha (Θ 5) (U 6))) (dO Ha (Θ 7) (U 7))) (Θ 26)))) [Φ c,Φ k,.fz (.str Vu),Φ n,Φ a,.fz (.str z),Φ i,Φ q]) (λe=>∃ (z:Str) (u l:KQ),e=[Φ c,Φ k,.fz (.str Vu),Φ n,Φ a,.fz (.str z),u,l]/\z.length=i+1) (λd=>∃ z:Str,d=.str z):=λq=>by
   have hx:=Ox (j:=(((c / 49+5*i+7*q) % 26:Nat):Int)) (by lia) (by lia);refine Zg (Z5 rfl (Z5 rfl (Z5 (Z5 (Z5 (Z5 rfl rfl (U8 c 49)) (Z5 rfl rfl (RP 5 i (by lia))) (U6 _ _)) (Z5 rfl rfl (RP 7 q (by lia))) (U6 _ _)) rfl (Te _ 26)) hx) (Ab (by show z.length+1<=_;lia))) ?_;exact⟨_,_,_,rfl,by rw[Nw];show _+1=_;lia⟩
  refine Z7 (Ti (Yj (Z5 rfl rfl (MW i a))) (λhb=>?_) (λhb=>?_))
  .exact Zg rfl (B k)
  .exact Yl (B 0)
 .rintro e ⟨z,u,l,rfl,hz⟩
  rw[U7] at hz;refine Z7 (Ti (b:=decide (z∈(RA:Z Str))) (Yj (Z5 rfl rfl (WJ z RA))) (λhb=>?_) (λhb=>?_))
  .refine Zg (Z5 (Gv rfl (Uf rfl) rfl (ii z _ _)) rfl (Ab ?_)) (Ya rfl ⟨_,rfl⟩)
   have:=GP z (some 1) none;show(Txt.slice z (some 1) none).length+1<=_;lia
  .exact Yl (Ya rfl ⟨_,rfl⟩)
theorem km(ns:Z Int)(first n:Nat)(hf:first<=1000)(hn:n<=10):∃ ps:Z Nat,Mv [Qr ns,Ψ first,Ψ n]=.ok (.lst (Zc ps))/\MY n ps:=by
 have:=Yf (n:=8) (p:=3) (ds:=[Qr ns,Ψ first,Ψ n]) (g:=Tb) (R:=λd=>∃ ps:Z Nat,d=.lst (Zc ps)/\MY n ps) rfl ?_
 .obtain⟨d,e,z,rfl,h⟩:=this
  exact⟨z,e,h⟩
 show Go (Tb [.fz (Qr ns),Φ first,Φ n,.un,.un,.un,.un,.un]) _ _;unfold Tb;refine Z7 (Tr (ds:=Zc []) rfl ?_);refine Z7 (V5 (ds:=rng 0 n) (λi e=>∃ (ps:Z Nat) (v4 v5 u l:KQ),e=[.fz (Qr ns),Φ first,Φ n,.ow (Zc ps),v4,v5,u,l]/\MY i ps) (Yv (Z2 rfl rfl) (by lia)) ⟨[],.un,.un,.un,.un,rfl,rfl,λv=>by simp⟩ ?_ ?_)
 .rintro i d e hi ⟨ps,v4,v5,u,l,rfl,ho⟩
  obtain⟨I,rfl⟩:=Uz hi;rw[DC];refine⟨_,rfl,?_⟩;obtain⟨c,ec,lc⟩:=Mt ns (first+i) (by lia);have hl:=ho.len;refine Z7 (Zg (Ze (xs:=[Qr ns,.int ((first+i:Nat):Int)]) (Z2 rfl (Z2 (Z5 rfl rfl (U6 _ _)) rfl)) ec) ?_);refine Z7 (Zg (Z5 rfl (Z5 (Yq (Z2 rfl rfl) (Tn ps)) rfl (U6 _ 1)) (Te c (ps.length+1) (by lia))) ?_);have ha:c % (ps.length+1)<=ps.length:=by have:=FY c (show 0<ps.length+1 by lia);lia
  generalize c % (ps.length+1)=a at ha;refine Z7 (Q5 (ds:=Zc ps) (as:=[Ψ a,Ψ i]) rfl rfl (Lz ps a i ha (by lia)) ?_);have au:=Eu ps a i;have aq:=Hj ps a i;generalize ps.take a++i::ps.drop a=qs at au aq;refine Z7 (Zg (Z5 (Z5 rfl rfl (U8 c 64)) (Z5 (Yq (Z2 rfl rfl) (Tn qs)) rfl (UX _ a (by lia))) (Te (c / 64) (qs.length - a) (by lia))) ?_);have hb:c / 64 % (qs.length - a)<qs.length - a:=FY _ (by lia);generalize c / 64 % (qs.length - a)=b at hb;refine Q5 (ds:=Zc qs) (as:=[.int ((a+1+b:Nat):Int),Ψ i]) rfl (Z2 (Z5 (Z5 rfl rfl (U6 a 1)) rfl (U6 _ b)) (Z2 rfl rfl)) (Lz qs (a+1+b) i (by lia) (by lia)) ?_;have ao:=Eu qs (a+1+b) i;have M:=Hj qs (a+1+b) i;refine⟨_,_,_,_,_,rfl,by lia,λv=>?_⟩;rw[M,aq,ho.cnt];by_cases h1:i=v
  .subst h1;rw[AM (by lia),AH rfl,AH (by lia)]
  .rw[AM h1]
   by_cases h2:v<i
   .rw[AH h2,AH (by lia)]
   .rw[AM h2,AM (by lia)]
 .rintro e ⟨ps,v4,v5,u,l,rfl,ho⟩
  rw[U7] at ho;exact Nh rfl ⟨ps,rfl,ho⟩
structure KZ (n m:Nat) (qs:List (Nat×Nat)):Prop where
 len:qs.length<=m
 lt:∀ q∈qs,q.1<q.2/\q.2<n
theorem KZ.app(h:KZ n m qs)(h':KZ n m' rs):KZ n (m+m') (qs++rs):=⟨by rw[AN];have:=h.len;have:=h'.len;lia,λq hq=>(BO.mp hq).elim (h.lt q) (h'.lt q)⟩
theorem KZ.sub(h:KZ n m qs)(s:rs.Sublist qs):KZ n m rs:=⟨BA s.length_le h.len,λq hq=>h.lt q (s.subset hq)⟩
theorem KZ.one(h1:q.1<q.2)(h2:q.2<n):KZ n 1 [q]:=⟨AU _,λp hp=>by rw[AJ.mp hp];exact⟨h1,h2⟩⟩
theorem KZ.mono(h:KZ n m qs)(hm:m<=m'):KZ n m' qs:=⟨BA h.len hm,h.lt⟩
theorem KZ.nil(n m:Nat):KZ n m []:=⟨CZ _,λq hq=>by cases hq⟩
theorem du(ns:Z Int)(first af size:Nat)(hf:first<=1000)(hm:af<=100)(hs:0<size):∃ qs:Z (Nat×Nat),Me [Qr ns,Ψ first,Ψ af,Ψ size]=.ok (.lst (qs.map Zn))/\KZ size af qs:=by
 have:=Yf (n:=9) (p:=4) (ds:=[Qr ns,Ψ first,Ψ af,Ψ size]) (g:=Ue) (R:=λd=>∃ qs:Z (Nat×Nat),d=.lst (qs.map Zn)/\KZ size af qs) rfl ?_
 .obtain⟨d,e,z,rfl,h⟩:=this
  exact⟨z,e,h⟩
 show Go (Ue [.fz (Qr ns),Φ first,Φ af,Φ size,.un,.un,.un,.un,.un]) _ _;unfold Ue;refine Z7 (Tr (ds:=([]:Z (Nat×Nat)).map Zn) rfl ?_);refine Z7 (V5 (ds:=rng 0 af) (λi e=>∃ (qs:Z (Nat×Nat)) (v5 u l A:KQ),e=[.fz (Qr ns),Φ first,Φ af,Φ size,.ow (qs.map Zn),v5,u,l,A]/\KZ size i qs) (Yv (Z2 rfl rfl) (by lia)) ⟨[],.un,.un,.un,.un,rfl,KZ.nil _ _⟩ ?_ ?_)
 .rintro i d e hi ⟨qs,v5,u,l,A,rfl,hq⟩
  obtain⟨I,rfl⟩:=Uz hi;rw[DC];refine⟨_,rfl,?_⟩;obtain⟨c,ec,lc⟩:=Mt ns (first+i) (by lia);refine Z7 (Zg (Ze (xs:=[Qr ns,.int ((first+i:Nat):Int)]) (Z2 rfl (Z2 (Z5 rfl rfl (U6 _ _)) rfl)) ec) ?_);refine Z7 (Zg (Z5 rfl rfl (Te c size hs)) ?_);refine Z7 (Zg (Z5 (Z5 rfl rfl (U8 c 64)) rfl (Te _ size hs)) ?_);have ha:c % size<size:=FY _ hs;have hb:c / 64 % size<size:=FY _ hs;generalize c % size=a at ha;generalize c / 64 % size=b at hb;obtain⟨z,hz⟩:=Xd (min a b,max a b) qs;have M:∀ env:Ev,env[7]?=some (.fz (Ψ a))->env[8]?=some (.fz (Ψ b))->W6 (O (dF PF (O (U 7) (O (U 8) Zb))) (O (dF ON (O (U 7) (O (U 8) Zb))) Zb)) env=some (Zn (min a b,max a b)):=λenv m r=>by
   have s:U 7 env=some (Ψ a):=by unfold U;rw[m]
   have e8:U 8 env=some (Ψ b):=by unfold U;rw[r]
   exact Y1 (Z2 (Yq (Z2 s (Z2 e8 rfl)) (eW a b)) (Z2 (Yq (Z2 s (Z2 e8 rfl)) (ke a b)) rfl))
  refine Ti (Dd (Yj (Z5 rfl rfl (QW a b))) λ_=>Yj (Z5 (M _ rfl rfl) rfl hz)) (λhb=>?_) (λ_=>Yl ⟨qs,_,_,_,_,rfl,hq.mono (by lia)⟩);have ae:a≠b:=by
   have:=(DQ.mp hb).1;simpa using this
  refine Q5 (ds:=qs.map Zn) (as:=[Zn (min a b,max a b)]) (ds':=(qs++[(min a b,max a b)]).map Zn) rfl (Z2 (M _ rfl rfl) rfl) (by rw[Ut (by rw[AF];have:=hq.len;lia),BP];rfl) ⟨_,_,_,_,_,rfl,hq.app (KZ.one (by show min a b<max a b;lia) (by show max a b<_;lia))⟩
 .rintro e ⟨qs,v5,u,l,A,rfl,hq⟩
  rw[U7] at hq;exact Nh rfl ⟨qs,rfl,hq⟩
end K73
set_option maxHeartbeats 1000000
variable{one:Nat->Nat}
namespace K73
open PySem PySem.Spec PyProof.Rows L2
theorem hY(p q:Nat×Nat):Gm (Zn p) (Zn q)=decide (p=q):=by
 show(((p.1:Int)==(q.1:Int))&&(((p.2:Int)==(q.2:Int))&&true))=_;rw[EH];simp only[AW,DI,BU,and_true];constructor
 .rintro⟨h1,h2⟩;exact FW (by lia) (by lia)
 .rintro rfl;exact⟨rfl,rfl⟩
theorem f4(p q:Nat×Nat):Cd (Zn p) (Zn q)=some (.bl (!decide (p=q))):=by
 unfold Cd;rw[Nf,Nf,hY];rfl
theorem eL(ps:Z Nat)(t:Nat)(h:t<=ps.length):Tv (Zc ps) (some (t:Int)) none=Zc (ps.drop t):=by
 unfold Zc;rw[Ie,Ie,Ce ps t h]
theorem ba(b:Bool):S5 (.int (if b then 1 else 0)) (.int 0)=some (.bl (!b)):=by cases b<;>rfl
theorem RL(h1:a<2^k)(h2:b<2^k):a ||| b<2^k:=Nat.or_lt_two_pow h1 h2
structure DS (s0:Nat) (rs:List (Nat×Nat)) (ps:List Nat) (code d:Nat) (s:St3):Prop where
 w:ps[d]?=some s.w
 tk:Gu s0 rs (·.2) (·.1) d s.takes
 fl:Gu s0 rs (·.1) (·.2) d s.fills
 up:s.up=!(code.testBit s.w ^^ decide ((ps.take d).count s.w % 2=1))
noncomputable def RW(G:G3)(n:Nat)(rs:Z (Nat×Nat)):Prop:=G.code<2^n/\G.wires.length=n/\G.steps.length=2*n/\(∀ q∈rs,q.1<2*n/\q.2<2*n)/\∀ w,w<n->2<=(G.steps.map (·.w)).count w
noncomputable def NT(G:G3):Prop:=∀ (i j:Nat) (m B:St3),i≠j->G.steps[i]?=some m->G.steps[j]?=some B->∀ q,q∈m.takes->q∉B.takes
theorem gc{two:Nat->Nat}(ds:Z Nat)(nd:ds.Nodup)(h:∀ (i:Nat) (s:St3),G.steps[i]?=some s->∃ d:Nat,ds[i]?=some d/\LP G s0 one two rs n d s):NT G:=by
 intro i j m B f hi hj q hq b;obtain⟨c,e1,h1⟩:=h i m hi;obtain⟨g,e2,h2⟩:=h j B hj;have hd:c=g:=by
  obtain⟨t,p,M,hp⟩:=(h1.tk q).mp hq;obtain⟨t',p',a,C⟩:=(h2.tk q).mp b;rcases hp with⟨a1,a2⟩ | ⟨a1,a2⟩<;>rcases C with⟨b1,b2⟩ | ⟨b1,b2⟩
  .have:t=t':=by lia
   subst this;rw[M] at a;cases a;rw[<- a2,<- b2]
  .lia
  .lia
  .have:t=t':=by lia
   subst this;rw[M] at a;cases a;rw[<- a2,<- b2]
 subst hd;obtain⟨l1,g1⟩:=AC.mp e1;obtain⟨l2,g2⟩:=AC.mp e2;have e:=GE.mp nd;rcases Nat.lt_or_gt_of_ne f with h0 | h0
 .exact e i j l1 l2 h0 (g1.trans g2.symm)
 .exact e j i l2 l1 h0 (g2.trans g1.symm)
theorem eP(ns:Z Int)(first n af:Nat)(hf:first<=900)(ay:1<=n)(aK:n<=4)(hm:af<=5):∃ (G:G3) (s0:Nat) (ps:Z Nat) (rs:Z (Nat×Nat)),Mw [Qr ns,Ψ first,Ψ n,Ψ af]=.ok G.d/\RG G n s0 (T9 ps) (T5 ps) rs/\Gb 54 G/\NT G/\RW G n rs:=by
 have:=Yf (n:=24) (p:=4) (ds:=[Qr ns,Ψ first,Ψ n,Ψ af]) (g:=T7) (R:=λd=>∃ (G:G3) (s0:Nat) (ps:Z Nat) (rs:Z (Nat×Nat)),d=G.d/\RG G n s0 (T9 ps) (T5 ps) rs/\Gb 54 G/\NT G/\RW G n rs) rfl ?_
 .obtain⟨d,e,z,s0,ps,rs,rfl,h⟩:=this
  exact⟨z,s0,ps,rs,e,h⟩
 show Go (T7 [.fz (Qr ns),Φ first,Φ n,Φ af,.un,.un,.un,.un,.un,.un,.un,.un,.un,.un,.un,.un,.un,.un,.un,.un,.un,.un,.un,.un]) _ _;unfold T7;obtain⟨ps,eo,ho⟩:=km ns first n (by lia) (by lia);have ag:=ho.len;refine Z7 (Zg (Ze (xs:=[Qr ns,Ψ first,Ψ n]) rfl eo) ?_);refine Z7 (Zg (Z5 rfl rfl (RP 2 n (by lia))) ?_);obtain⟨m,aT⟩:∃ m:Nat,2*n=m:=⟨_,rfl⟩;rw[aT] at ag ⊢;obtain⟨c,ec,lc⟩:=Mt ns (first+n) (by lia);refine Z7 (Zg (Ze (xs:=[Qr ns,.int ((first+n:Nat):Int)]) (Z2 rfl (Z2 (Z5 rfl rfl (U6 _ _)) rfl)) ec) ?_);obtain⟨qs,eq,hq⟩:=du ns (first+n+1) af m (by lia) (by lia) (by lia);refine Z7 (Zg (Ze (xs:=[Qr ns,.int ((first+n+1:Nat):Int),Ψ af,Ψ m]) (Z2 rfl (Z2 (Z5 (Z5 rfl rfl (U6 _ _)) rfl (U6 _ 1)) rfl)) eq) ?_);refine Z7 (Go.mono (N:=λe=>∃ rs:Z (Nat×Nat),e=[.fz (Qr ns),Φ first,Φ n,Φ af,.fz (.lst (Zc ps)),Φ m,Φ c,.fz (.lst (rs.map Zn)),.un,.un,.un,.un,.un,.un,.un,.un,.un,.un,.un,.un,.un,.un,.un,.un]/\KZ m 12 rs) ?_ ?_ (λ_ h=>h))
 .refine Ti (Yj (Z5 (Z5 rfl rfl (Te c 3)) rfl (MW _ 0))) (λ_=>?_) (λ_=>Yl ⟨qs,rfl,hq.mono (by lia)⟩)
  obtain⟨ks,hs,hc⟩:=Xl (g:=Y8 0) (t:=dB (dO Eb (W6 (O (U 0) (O (dO Yu (U 0) (Θ 1)) Zb))) (U 1))) (f:=W6 (O (U 0) (O (dO Yu (U 0) (Θ 1)) Zb))) (env:=[.un,.fz (.lst (qs.map Zn))]) (λk:Nat=>Dat.int (k:Int)) (λk:Nat=>Zn (k,k+1)) (List.range (m - 1)) λk _=>by
   obtain⟨b,hb⟩:=Xd (k,k+1) qs;have M:W6 (O (U 0) (O (dO Yu (U 0) (Θ 1)) Zb)) [Φ k,.fz (.lst (qs.map Zn))]=some (Zn (k,k+1)):=Y1 (Z2 rfl (Z2 (Z5 rfl rfl (U6 k 1)) rfl));exact⟨_,b,rfl,Yj (Z5 M rfl hb),M⟩
  rw[<- Jp] at hc;have hp:KZ m 7 (ks.map λk=>(k,k+1)):=⟨by have:=hs.length_le;rw[DK] at this;rw[AF];lia,λq hq=>by
   obtain⟨k,hk,rfl⟩:=DJ.mp hq;have:=CC.mp (hs.subset hk);exact⟨by show k<k+1;lia,by show k+1<m;lia⟩⟩
  have au:=hq.len;have ao:=hp.len;rw[AF] at ao;refine Zg (Z5 rfl (Wl (W4 (xs:=rng 0 (m - 1)) (Yv (Z2 (Z5 rfl rfl (UX m 1 (by lia))) rfl) (by lia)) rfl hc)) (Ix (by rw[AF,AF];lia))) ⟨qs++ks.map λk=>(k,k+1),by rw[BP,EZ];rfl,(hq.app hp).mono (by lia)⟩
 rintro e ⟨rs,rfl,hr⟩;clear eq hq qs;refine Z7 (V5 (ds:=rng 0 n) (λi e=>∃ (rs:Z (Nat×Nat)) (A X o:KQ),e=[.fz (Qr ns),Φ first,Φ n,Φ af,.fz (.lst (Zc ps)),Φ m,Φ c,.fz (.lst (rs.map Zn)),A,X,o,.un,.un,.un,.un,.un,.un,.un,.un,.un,.un,.un,.un,.un]/\KZ m (12+i) rs/\∀ w,w<i->(T9 ps w,T5 ps w)∈rs) (Yv (Z2 rfl rfl) (by lia)) ⟨rs,.un,.un,.un,rfl,hr,λw J=>absurd J (by lia)⟩ ?_ ?_)
 .rintro i d e hi ⟨rs,A,X,o,rfl,hr,aG⟩
  obtain⟨I,rfl⟩:=Uz hi;rw[DC];refine⟨_,rfl,?_⟩;have D:i∈ps:=ho.mem.mpr I;have aO:ps.idxOf i<ps.length:=FV D;have h2:=second (ho.two I);have az:T5 ps i=ps.idxOf i+1+(ps.drop (ps.idxOf i+1)).idxOf i:=rfl;have aH:T9 ps i=ps.idxOf i:=rfl;refine Z7 (Zg (VP rfl rfl rfl (Ge ps i D)) ?_);generalize ps.idxOf i=one at aO h2 az aH;have aI:(ps.drop (one+1)).idxOf i<(ps.drop (one+1)).length:=FV h2;rw[CQ] at aI;refine Z7 (Zg (Z5 (Z5 rfl rfl (U6 one 1)) (VP (x:=.lst (Zc (ps.drop (one+1)))) (Gv rfl (Uf (Z5 rfl rfl (U6 one 1))) rfl (by rw[Nk,eL ps _ (by lia)])) rfl rfl (Ge _ i h2)) (U6 _ _)) ?_);generalize (ps.drop (one+1)).idxOf i=Y at aI az;have hc:=Vj (g:=Y8 0) (t:=dB (dO Cd (U 0) (W6 (O (U 1) (O (U 2) Zb))))) (f:=U 0) (env:=[.un,Φ one,.fz (.int ((one+1+Y:Nat):Int))]) Zn Zn (λq=>!decide (q=(one,one+1+Y))) rs λq _ =>
   ⟨_,rfl,Yj (Z5 rfl (Y1 rfl) (f4 q (one,one+1+Y))),rfl⟩
  have hs:(rs.filter λq=>!decide (q=(one,one+1+Y))).Sublist rs:=IH;have hl:=hs.length_le;have ao:=hr.len;refine Zg (Z5 (Wl (W4 (xs:=rs.map Zn) rfl rfl hc)) (Wl (Ta (xs:=[Zn (one,one+1+Y)]) (Z2 (Y1 rfl) rfl))) (Ix (by rw[AF];show _+1<=_;lia))) ⟨(rs.filter λq=>!decide (q=(one,one+1+Y)))++[(one,one+1+Y)],_,_,_,by rw[BP];rfl,?_,?_⟩
  .exact((hr.sub hs).app (KZ.one (by show one<one+1+Y;lia) (by show one+1+Y<m;lia))).mono (by lia)
  .intro w J
   by_cases e:(T9 ps w,T5 ps w)=(one,one+1+Y)
   .rw[e];exact BD _ (AJ.mpr rfl)
   .have aA:w<i:=by
     rcases DV w i with h | h
     .exact h
     .have:w=i:=by lia
      subst this;exact absurd (FW aH az) e
    exact BZ _ (DE.mpr ⟨aG w aA,by rw[AB e];rfl⟩)
 rintro e ⟨rs,A,X,o,rfl,hr,aG⟩;rw[U7] at hr aG;refine Z7 (ZD (ds:=Zc ps) rfl ?_);refine Z7 (ZD (ds:=Zc ps) rfl ?_);rw[AF,AF,ag,cU];refine Z7 (Zg (d:=.int ((0:Nat):Int)) rfl ?_);refine Z7 (Zg (Z5 (Z5 rfl rfl (U8 c 3)) rfl (Te _ 20)) ?_);have aB:c / 3 % 20<20:=FY _ (by lia);generalize c / 3 % 20=s0 at aB;refine Z7 (V5 (ds:=rs.map Zn) (λi e=>∃ (tk fl:Z (Z Nat)) (mk:Nat) (F H:KQ),e=[.fz (Qr ns),Φ first,Φ n,Φ af,.fz (.lst (Zc ps)),Φ m,Φ c,.fz (.lst (rs.map Zn)),A,X,o,.gx (.nest (tk.map Zc)),.gx (.nest (fl.map Zc)),Φ mk,.fz (.int ((s0+2*i:Nat):Int)),F,H,.un,.un,.un,.un,.un,.un,.un]/\tk.length=m/\fl.length=m/\LW (2*i) (s0+2*i) tk/\LW (2*i) (s0+2*i) fl/\mk<2^(s0+2*i)/\(∀ l∈tk,l.Nodup)/\(∀ l∈fl,l.Nodup)/\NS s0 (rs.take i) (·.2) (·.1) tk/\NS s0 (rs.take i) (·.1) (·.2) fl/\∀ q,mk.testBit q=true↔∃ t,t<i/\q=s0+2*t+1) rfl ⟨_,_,0,.un,.un,rfl,EI,EI,(LW.nil m).mono (by lia) (by lia),(LW.nil m).mono (by lia) (by lia),HC _,λl h=>by rw[(FH.mp h).2];exact DZ,λl h=>by rw[(FH.mp h).2];exact DZ,by rw[KF];exact NS.nil _ _ _ _,by rw[KF];exact NS.nil _ _ _ _,λq=>by simp⟩ ?_ ?_)
 .rintro i d e hi ⟨tk,fl,mk,F,H,rfl,aP,P,ht,B,S,aL,aM,aC,aD,ae⟩
  rw[AL] at hi;obtain⟨q,hq,rfl⟩:=map_some hi;have al:=(AC.mp hq).1;have aQ:=hr.lt q (AD hq);have aU:=hr.len;refine⟨_,rfl,?_⟩;have ap:=ht.mono (AU _) (show s0+2*i<=s0+2*i+2 by lia);have Q:=B.mono (AU _) (show s0+2*i<=s0+2*i+2 by lia);refine Z7 (Nl rfl Q (by lia) (k:=q.1) (by lia) rfl rfl ?_);refine Z7 (Nl rfl ap (by lia) (k:=q.2) (by lia) rfl rfl ?_);have aR:=ap.app q.2 (s0+2*i) (by lia);have aF:=Q.app q.1 (s0+2*i) (by lia);refine Z7 (Nl (x:=s0+2*i+1) rfl aF (by lia) (k:=q.2) (by rw[Jl];lia) rfl rfl ?_);refine Z7 (Nl (x:=s0+2*i+1) rfl aR (by lia) (k:=q.1) (by rw[Jl];lia) rfl rfl ?_);have aV:=aR.app q.1 (s0+2*i+1) (by lia);have aW:=aF.app q.2 (s0+2*i+1) (by lia);have aX:=(ht.mono (AU _) (show s0+2*i<=s0+2*i+1 by lia)).app q.2 (s0+2*i) (by lia);have aY:=(B.mono (AU _) (show s0+2*i<=s0+2*i+1 by lia)).app q.1 (s0+2*i) (by lia);have aS:(rs.take i).length=i:=by rw[CP];lia
  have aJ:rs.take (i+1)=rs.take i++[q]:=by rw[GJ,hq];rfl
  refine Z7 (Zg (Z5 rfl (Z5 rfl (Z5 rfl rfl (U6 _ 1)) (A3 (s0+2*i+1) (by lia))) (MU mk _)) ?_);refine Zg (Z5 rfl rfl (U6 _ 2)) ⟨_,_,_,_,_,rfl,by rw[Jl,Jl,aP],by rw[Jl,Jl,P],aV.mono (by lia) (by lia),aW.mono (by lia) (by lia),?_,?_,?_,?_,?_,?_⟩
  .exact RL (AO S (BY (by lia) (by lia))) (HZ (by lia) (by lia))
  .exact Fk aX (Fk ht aL _ _ (AU _)) _ _ (AU _)
  .exact Fk aY (Fk B aM _ _ (AU _)) _ _ (AU _)
  .have:=aC.app q (by show q.2<_;lia) (by show q.1<_;lia)
   rw[aS] at this;rw[aJ];exact this
  .have:=aD.app q (by show q.1<_;lia) (by show q.2<_;lia)
   rw[aS] at this;rw[aJ];exact this
  .intro j
   rw[DP,EU,ae,DG,BU];constructor
   .rintro(⟨t,h1,h2⟩ | h1)
    .exact⟨t,by lia,h2⟩
    .exact⟨i,by lia,h1.symm⟩
   .rintro⟨t,h1,h2⟩
    rcases DV t i with h | h
    .exact .inl ⟨t,h,h2⟩
    .have:t=i:=by lia
     subst this;exact .inr h2.symm
 rintro e ⟨tk,fl,mk,F,H,rfl,aP,P,ht,B,S,aL,aM,aC,aD,ae⟩;rw[AF] at ht B S aC aD ae ⊢;rw[CI (AU _)] at aC aD;have aU:=hr.len;have ht:=ht.mono (L':=32) (B':=54) (by lia) (by lia);have B:=B.mono (L':=32) (B':=54) (by lia) (by lia);have S:mk<2^54:=AO S (BY (by lia) (by lia));refine Z7 (Zg (Z5 (Z5 rfl rfl (U8 c 60)) (Z5 rfl rfl (A3 n (by lia))) (Te _ (2^n) (HC _))) ?_);have ak:c / 60 % 2^n<2^n:=FY _ (HC _);generalize c / 60 % 2^n=code at ak;refine Z7 (Zg rfl ?_);refine Z7 (Tr (ds:=([]:Z St3).map St3.d) rfl ?_);generalize (s0+2*rs.length)=s9;refine Z7 (V5 (ds:=Ra 0 (Zc ps)) (λi e=>∃ (ss:Z St3) (seen:Nat) (A aN:KQ),e=[.fz (Qr ns),Φ first,Φ n,Φ af,.fz (.lst (Zc ps)),Φ m,Φ c,.fz (.lst (rs.map Zn)),A,X,o,.gx (.nest (tk.map Zc)),.gx (.nest (fl.map Zc)),Φ mk,Φ s9,F,H,Φ code,Φ seen,.ow (ss.map St3.d),aN,.un,.un,.un]/\ss.length=i/\(∀ v,seen.testBit v=(code.testBit v ^^ decide ((ps.take i).count v % 2=1)))/\(∀ j s,ss[j]?=some s->DS s0 rs ps code j s)/\∀ s∈ss,SB 54 n s) rfl ⟨[],code,A,.un,rfl,rfl,λv=>by simp,λj s h=>(by simp at h),by simp⟩ ?_ ?_)
 .rintro i d e hi ⟨ss,seen,A,aN,rfl,T,aw,a,aE⟩
  obtain⟨x,hx,rfl⟩:=De hi;obtain⟨w,J,rfl⟩:=Hq hx;have al:=(AC.mp J).1;have aq:w<n:=ho.mem.mp (AD J);refine⟨_,rfl,?_⟩;have e1:tk[i]?=some tk[i]:=AK (by lia);have e2:fl[i]?=some fl[i]:=AK (by lia);have n1:=aC i;have n2:=aD i;rw[show tk.getD i []=tk[i] by rw[List.getD,e1];rfl] at n1;rw[show fl.getD i []=fl[i] by rw[List.getD,e2];rfl] at n2;generalize ar:tk[i]=tl at e1 n1;generalize hfl':fl[i]=ax at e2 n2;have t1:=ht.len _ (AD e1);have t2:=ht.lt _ (AD e1);have f1:=B.len _ (AD e2);have f2:=B.lt _ (AD e2);obtain⟨ta,ea,pa⟩:=Hw tl (by lia);obtain⟨fa,eb,pb⟩:=Hw ax (by lia);refine Z7 (Q5 (ds:=ss.map St3.d) (as:=[(⟨w,!(seen.testBit w),ta,fa⟩:St3).d]) (ds':=(ss++[(⟨w,!(seen.testBit w),ta,fa⟩:St3)]).map St3.d) rfl (Z2 (Y1 (Z2 rfl (Z2 (Z5 (Z5 (Z5 rfl rfl (PM seen w)) rfl (Ck seen w)) rfl (ba _)) (Z2 (Yq (Z2 (Wl (Yq (Z2 (W' rfl rfl e1) rfl) ea)) rfl) rfl) (Z2 (Yq (Z2 (Wl (Yq (Z2 (W' rfl rfl e2) rfl) eb)) rfl) rfl) rfl))))) rfl) ?_ ?_)
  .rw[Ut (by rw[AF];lia),BP];rfl
  .refine Zg (Z5 rfl (Z5 rfl rfl (A3 w (by lia))) (OP seen _)) ⟨_,_,_,_,rfl,by rw[AN,BX,T],?_,?_,λs hs=>?_⟩
   .intro v
    rw[Ui,aw,GJ,J];show(code.testBit v ^^ decide ((ps.take i).count v % 2=1) ^^ decide (w=v))=(code.testBit v ^^ decide ((ps.take i++[w]).count v % 2=1));rw[IY,List.count_singleton];by_cases W:w=v
    .subst W
     rw[show(w==w)=true from EL _,AG rfl,AH rfl];by_cases hp:(ps.take i).count w % 2=1
     .rw[AG hp,AB (by lia)];cases code.testBit w<;>rfl
     .rw[AB hp,AG (by lia)];cases code.testBit w<;>rfl
    .rw[show(w==v)=false from CO.mpr W,AB W];simp
   .intro j s hj
    rcases DV j ss.length with hl | hl
    .rw[BH hl] at hj
     exact a j s hj
    .rw[BV hl] at hj
     have e0:j - ss.length=0:=by
      rcases DA (j - ss.length) with z | z
      .exact z
      .rw[FX,AM (by lia)] at hj;cases hj
     rw[e0] at hj;cases hj;have E:j=i:=by lia
     subst E;exact⟨J,n1.perm pa,n2.perm pb,by show(!(seen.testBit w))=_;rw[aw]⟩
   rcases BO.mp hs with h | h
   .exact aE s h
   .rw[AJ.mp h]
    exact⟨aq,λp hp=>t2 p (pa.mem_iff.mp hp),λp hp=>f2 p (pb.mem_iff.mp hp),pa.nodup_iff.mpr (aL _ (AD e1)),pb.nodup_iff.mpr (aM _ (AD e2))⟩
 rintro e ⟨ss,seen,A,aN,rfl,T,aw,a,aE⟩;rw[T6,AF,AF] at T;refine Z7 (Zg (Z5 (Z5 rfl rfl (U8 c 2000)) rfl (Te _ m (by lia))) ?_);have aZ:c / 2000 % m<m:=FY _ (by lia);generalize c / 2000 % m=t at aZ;refine Z7 (Tr (ds:=(ss.drop t++ss.take t).map St3.d) (by
  refine Z5 (Gv rfl (Uf rfl) rfl (Nk _ _ _)) (Gv rfl rfl (Uf rfl) (Nk _ _ _)) ?_;rw[Ie,Ie,Ce ss t (by lia),iv ss t (by lia),bv (by rw[AF,AF,CQ,CP];lia),BP]) ?_)
 refine Z7 (Zg (Z5 rfl rfl (U8 c 40000)) ?_);obtain⟨ws,W,wl,_⟩:=Hg (g:=Y8 0) (f:=W6 (O (Zx Ve (O (U 1) (O (U 0) Zb))) (O (dO Yd (dL (Ud (O (dC (.str "given")) (O (dC (.str "made")) Zb)))) (dO Vc (dO V0 (Zx Yb (O (U 2) (O (dO Yu (U 3) (U 0)) Zb))) (Θ 4096)) (Θ 2))) Zb))) (env:=[.un,.fz (.int ((c / 40000:Nat):Int)),.fz (Qr ns),Φ first]) Ub (λ_=>True) (rng 0 n) λx hx=>by
  obtain⟨i,hi,rfl⟩:=Fy hx;rw[DC];obtain⟨z,ez⟩:=An (c / 40000) i;obtain⟨r,er,_⟩:=Mt ns (first+i) (by lia);have p1:=ls (.str "given") (.str "made") (j:=((r / 4096 % 2:Nat):Int)) (by lia) (by lia);refine⟨[Φ i,.fz (.int ((c / 40000:Nat):Int)),.fz (Qr ns),Φ first],(z,decide (((r / 4096 % 2:Nat):Int)=1)),rfl,?_,trivial⟩;refine Eq.trans (Y1 (Z2 (Ze (xs:=[.int ((c / 40000:Nat):Int),Ψ i]) rfl ez) (Z2 (Z5 (x:=.lst [.str "given",.str "made"]) rfl (Z5 (Z5 (Ze (xs:=[Qr ns,.int ((first+i:Nat):Int)]) (Z2 rfl (Z2 (Z5 rfl rfl (U6 _ _)) rfl)) er) rfl (U8 r 4096)) rfl (Te _ 2)) p1) rfl))) ?_;show some (Dat.tup [.str z,if((r / 4096 % 2:Nat):Int)=1 then .str "made" else .str "given"])=some (Dat.tup [.str z,.str (if decide (((r / 4096 % 2:Nat):Int)=1)=true then "made" else "given")]);by_cases hb:((r / 4096 % 2:Nat):Int)=1
  .rw[AH hb,AG hb];rfl
  .rw[AM hb,AB hb];rfl
 rw[U7] at wl;refine Z7 (Zg (d:=.lst (ws.map Ub)) (Wl (W4 (xs:=rng 0 n) (Yv (Z2 rfl rfl) (by lia)) rfl W)) ?_);have y:(ss.drop t++ss.take t).Perm ss:=by
  have:=List.perm_append_comm (l₁:=ss.drop t) (l₂:=ss.take t);rw[FC] at this;exact this
 have ac:=y.length_eq;refine Ya (Y1 (Z2 (Yq (Z2 rfl rfl) rfl) (Z2 (Yq (Z2 rfl rfl) rfl) rfl))) ⟨⟨ws,ss.drop t++ss.take t,mk,code⟩,s0,ps,rs,rfl,?_,?_,?_,ak,wl,by show(ss.drop t++ss.take t).length=2*n;lia,λq hq=>⟨by have:=hr.lt q hq;lia,by have:=(hr.lt q hq).2;lia⟩,λw J=>?_⟩
 .exact {
   ne:=λq hq=>by have:=(hr.lt q hq).1;lia
   ring:=aG
   inj:=λw v J hv h=>ho.inj w v J hv h
   mks:=ae
   st:=λs hs=>by
    obtain⟨d,hd⟩:=CL (y.mem_iff.mp hs);have q:=a d s hd;have aq:=(aE s (y.mem_iff.mp hs)).w;have u:=(AC.mp hd).1;refine⟨d,aq,by lia,q.tk,q.fl,?_⟩;have C:=q.up;rcases TC q.w (ho.two aq) with⟨h1,h2⟩ | ⟨h1,h2⟩
    .exact .inl ⟨h2,by rw[C,h1];show(!(code.testBit s.w ^^ decide (0 % 2=1)))=(!code.testBit s.w);simp⟩
    .exact .inr ⟨h2,by rw[C,h1];show(!(code.testBit s.w ^^ decide (1 % 2=1)))=code.testBit s.w;simp⟩ }
 .exact { w2:=by show ws.length<=10;lia,s1:=by show 1<=(ss.drop t++ss.take t).length;lia,s2:=by show(ss.drop t++ss.take t).length<=24;lia,st:=λs hs=>by show SB 54 ws.length s;rw[wl];exact aE s (y.mem_iff.mp hs),mks:=S }
 .show NT _
  have aa:((List.range m).drop t++(List.range m).take t).Nodup:=by
   have hp:((List.range m).drop t++(List.range m).take t).Perm (List.range m):=by
    have:=List.perm_append_comm (l₁:=(List.range m).drop t) (l₂:=(List.range m).take t);rw[FC] at this;exact this
   exact hp.nodup_iff.mpr List.nodup_range
  refine gc (n:=n) (s0:=s0) (one:=T9 ps) (two:=T5 ps) (rs:=rs) _ aa λi s hi=>?_
  have ah:∀ d:Nat,ss[d]?=some s->LP (⟨ws,ss.drop t++ss.take t,mk,code⟩:G3) s0 (T9 ps) (T5 ps) rs n d s:=λd hd=>by
   have q:=a d s hd;have aq:=(aE s (AD hd)).w;have u:=(AC.mp hd).1;refine⟨aq,by lia,q.tk,q.fl,?_⟩;have C:=q.up;rcases TC q.w (ho.two aq) with⟨h1,h2⟩ | ⟨h1,h2⟩
   .exact .inl ⟨h2,by rw[C,h1];show(!(code.testBit s.w ^^ decide (0 % 2=1)))=(!code.testBit s.w);simp⟩
   .exact .inr ⟨h2,by rw[C,h1];show(!(code.testBit s.w ^^ decide (1 % 2=1)))=code.testBit s.w;simp⟩
  have aj:(ss.drop t++ss.take t)[i]?=some s:=hi;rcases DV i (m - t) with h | h
  .rw[BH (by rw[CQ];lia),IP] at aj
   refine⟨t+i,?_,ah _ aj⟩;rw[BH (by rw[CQ,DK];lia),IP,FO (by lia)]
  .rw[BV (by rw[CQ];lia),CQ,IQ] at aj
   split at aj
   .rename_i ai
    refine⟨i - (ss.length - t),?_,ah _ aj⟩;have e9:i - (m - t)=i - (ss.length - t):=by lia
    rw[BV (by rw[CQ,DK];lia),CQ,DK,IQ,e9,AH ai,FO (by lia)]
   .cases aj
 .have am:ss.map (·.w)=ps:=by
   refine HQ λd=>?_
   rw[AL];cases hd:ss[d]? with
   | none =>
    have h1:=EX.mp hd;rw[EX.mpr (by lia)];rfl
   | some s=>rw[(a d s hd).w];rfl
  show 2<=((ss.drop t++ss.take t).map (·.w)).count w;rw[(y.map _).count_eq,am,ho.cnt,AH J];exact AU _
variable{r:Rw}
theorem Gr(a b:Z Nat):Zc a++Zc b=Zc (a++b):=by unfold Zc;rw[BP,BP]
theorem ZH(f:α->Dat)(xs:Z α):Vp [.lst (xs.map f)]=some (.int ((xs.length:Nat):Int)):=by
 show some (Dat.int ((xs.map f).length:Int))=_;rw[AF]
theorem Qi(G:G3)(k:Nat)(s:St3)(h:G.steps[k]?=some s):Vg [G.d,Ψ k]=.ok (.tup (Zc s.takes)):=by
 refine Wz (Yf rfl ?_);unfold G4;exact Ya (Z5 (Z5 (Z5 rfl rfl rfl) rfl (Q8 (x:=s.d) (by rw[AL,h];rfl))) rfl rfl) rfl
theorem Q2(ps:Z Nat)(hp:∀ p∈ps,p<=1000):M6 [.tup (Zc ps)]=.ok (.int (JY ps:Int)):=by
 refine Wz (Yf rfl ?_);unfold UE;refine Z7 (Zg (d:=.int 0) rfl ?_);refine Z7 (V5 (ds:=Zc ps) (λi e=>∃ (z:Int) (v:KQ),e=[.fz (.tup (Zc ps)),.fz (.int z),v]/\z=(((ps.take i).foldl (λa p=>a ||| 2^p) 0:Nat):Int)) rfl ⟨0,.un,rfl,rfl⟩ ?_ ?_)
 .rintro i x e hi ⟨z,v,rfl,rfl⟩
  obtain⟨p,hq,rfl⟩:=Hq hi;have af:=hp p (AD hq);refine⟨_,rfl,?_⟩;refine Zg (d:=.int ((((ps.take (i+1)).foldl (λa p=>a ||| 2^p) 0:Nat)):Int)) (Z5 rfl (Z5 rfl rfl (A3 p af)) ?_) ⟨_,_,rfl,rfl⟩;rw[MU,GJ,hq,IX];rfl
 .rintro e ⟨z,v,rfl,rfl⟩
  refine Ya rfl ?_;rw[AF,AF,CI (AU _)];rfl
theorem Is(G:G3)(k:Nat)(s:St3)(h:G.steps[k]?=some s):Tt [G.d,Ψ k]=.ok (.int (s.w:Int)):=by
 refine Wz (Yf rfl ?_);unfold Kf;exact Ya (Z5 (Z5 (Z5 rfl rfl rfl) rfl (Q8 (x:=s.d) (by rw[AL,h];rfl))) rfl rfl) rfl
theorem bI(G:G3)(k:Nat)(s:St3)(h:G.steps[k]?=some s):Kv [G.d,Ψ k]=.ok (.bl s.up):=by
 refine Wz (Yf rfl ?_);unfold Ke;exact Ya (Z5 (Z5 (Z5 rfl rfl rfl) rfl (Q8 (x:=s.d) (by rw[AL,h];rfl))) rfl rfl) rfl
theorem Iq(G:G3)(k:Nat)(s:St3)(h:G.steps[k]?=some s):J9 [G.d,Ψ k]=.ok (.tup (Zc s.fills)):=by
 refine Wz (Yf rfl ?_);unfold Ew;exact Ya (Z5 (Z5 (Z5 rfl rfl rfl) rfl (Q8 (x:=s.d) (by rw[AL,h];rfl))) rfl rfl) rfl
theorem U'(n p:Nat):Mn [Ψ n,Ψ p]=.ok (.bl (n.testBit p)):=by
 refine Wz (Yf rfl ?_);unfold Ky;exact Ya (Z5 (Z5 (Z5 rfl rfl (PM n p)) rfl (Ck n p)) rfl (ZR _)) rfl
theorem VG(a:Nat):Cd (Ψ a) (.int 0)=some (.bl (!(a==0))):=by
 rw[YZ];congr 3
 rw[EH,DI,DI];lia
theorem kW(G:G3)(hG:Gb 64 G)(m:Nat)(cd:Dat)(k:Nat)(s:St3)(h:G.steps[k]?=some s):QM [G.d,.tup [Ψ m,cd],Ψ k]=.ok (.bl (W8 s m)):=by
 refine Wz (Yf rfl ?_);unfold SN;have hs:=hG.st s (AD h);refine Z7 (Zg (Ze (xs:=[.tup (Zc s.takes)]) (Z2 (Ze (xs:=[G.d,Ψ k]) rfl (Qi G k s h)) rfl) (Q2 s.takes λp hp=>by have:=hs.t p hp;lia)) ?_);exact Ya (Z5 (Z5 (Z5 rfl rfl rfl) rfl (OE m _)) rfl (MW _ _)) rfl
structure L3 (s:St3) (p:Nat×Nat):Prop where
 can:W8 s p.1=true
 lev:p.2.testBit s.w≠s.up
 room:∀ q∈s.fills,p.1.testBit q=true->q∈s.takes
theorem lP(G:G3)(hG:Gb 64 G)(p:Nat×Nat)(k:Nat)(s:St3)(h:G.steps[k]?=some s)(hf:L3 s p):Ia [G.d,Zn p,Ψ k]=.ok (Zn (Y9 s p)):=by
 have hs:=hG.st s (AD h);have F:=hG.w2;have l:=hs.w;refine Wz (Yf rfl ?_);unfold D4;refine Z7 (Zg (Ze (xs:=[G.d,Ψ k]) rfl (Is G k s h)) ?_);refine Z7 (Us (Yj (Z5 (Ze (xs:=[.int (p.2:Int),.int (s.w:Int)]) (Z2 (Z5 rfl rfl rfl) rfl) (U' p.2 s.w)) (Ze (xs:=[G.d,Ψ k]) rfl (bI G k s h)) (by rw[b8,show(p.2.testBit s.w==s.up)=false by simpa using hf.lev]))) (Yl ?_));obtain⟨b,ek,ak⟩:=Et p.1 (JY s.takes);refine Z7 (Zg (d:=.int (b:Int)) (Z5 (Z5 rfl rfl rfl) (UJ (Ze (xs:=[.tup (Zc s.takes)]) (Z2 (Ze (xs:=[G.d,Ψ k]) rfl (Qi G k s h)) rfl) (Q2 s.takes λp hp=>by have:=hs.t p hp;lia)) (z:=.int (-(JY s.takes:Int) - 1)) rfl) (by show some (Dat.int (Builtin.bitAnd _ _))=_;rw[ek])) ?_);refine Z7 (Zg (d:=.int (JY s.fills:Int)) (Ze (xs:=[.tup (Zc s.fills)]) (Z2 (Ze (xs:=[G.d,Ψ k]) rfl (Iq G k s h)) rfl) (Q2 s.fills λp hp=>by have:=hs.f p hp;lia)) ?_);have hz:b &&& JY s.fills=0:=BM λj=>by
  rw[DM,ak,Wk,Wk,HK];by_cases h1:j∈s.fills
  .by_cases h2:p.1.testBit j=true
   .rw[AG (hf.room j h1 h2)];simp
   .have:p.1.testBit j=false:=by simpa using h2
    rw[this];rfl
  .rw[AB h1,Bool.and_false]
 refine Z7 (Us (Yj (Z5 (Z5 rfl rfl (OE b _)) rfl (by rw[hz];exact VG 0))) (Yl ?_));have em:b ||| JY s.fills=(Y9 s p).1:=BM λj=>by rw[DP,ak,Wk,Wk,W7]
 refine Ya (Y1 (xs:=[.int ((Y9 s p).1:Int),.int ((Y9 s p).2:Int)]) (Z2 (Z5 rfl rfl (by rw[MU,em])) (Z2 (Z5 (Z5 rfl rfl rfl) (Z5 rfl rfl (A3 s.w (by lia))) (OP p.2 _)) rfl))) rfl
theorem UV(r:Rw):Ac r.d none (some 2)=some (Zn r.st):=rfl
theorem Lh(G:G3)(hG:Gb 64 G)(p:Nat×Nat):Re [G.d,Zn p]=.ok (.lst (Zc (Dw G p.1))):=by
 refine Wz (Yf rfl ?_);unfold En;have v:=hG.s2;have hc:=Vj (g:=Y8 0) (t:=dT (Zx QM (O (U 1) (O (U 2) (O (U 0) Zb))))) (f:=U 0) (env:=[.un,.fz G.d,.fz (Zn p)]) (λk:Nat=>Dat.int (k:Int)) (λk:Nat=>Dat.int (k:Int)) (Io G p.1) (List.range G.steps.length) λk hk=>by
  have a:=CC.mp hk;have e:G.steps[k]?=some G.steps[k]:=AK a;refine⟨[Φ k,.fz G.d,.fz (Zn p)],rfl,?_,rfl⟩;have:Io G p.1 k=W8 G.steps[k] p.1:=by unfold Io;rw[e]
  rw[this];exact Qg (Ze (xs:=[G.d,.tup [.int (p.1:Int),.int (p.2:Int)],Ψ k]) rfl (kW G hG p.1 _ k _ e))
 rw[<- Jp] at hc;refine Ya (Wl (W4 (xs:=rng 0 G.steps.length) (Yv (Z2 (Yq (Z2 (x:=.tup (G.steps.map St3.d)) (Z5 rfl rfl rfl) rfl) (by show some (Dat.int ((G.steps.map St3.d).length:Int))=_;rw[AF])) rfl) (by lia)) rfl hc)) ?_;rw[W0];rfl
noncomputable def ZX(G:G3):Rw:=⟨G.marks,G.code,none⟩
theorem VX(B:ae.length<=400)(t:LN G I ae)(n:Nat)(hn:n<ae.length):Lc [.lst (ae.map Rw.d),Ψ n]=.ok (.lst (Zc (Mu ae n))):=by
 refine Wz (Yf rfl ?_);unfold TD;refine Z7 (Tr (ds:=Zc []) rfl ?_);refine Z7 (Zg rfl ?_);refine Z7 (df (λm e=>∃ (a:Nat) (ks:Z Nat),e=[.fz (.lst (ae.map Rw.d)),Φ n,.ow (Zc ks),Φ a]/\m=a/\a<ae.length/\Mu ae n=Mu ae a++ks.reverse/\ks.length+a<=n) (n:=n) ⟨n,[],rfl,rfl,hn,by simp,by simp⟩ ?_);rintro m e ⟨a,ks,rfl,rfl,hl,J,hk⟩;obtain⟨r,hr⟩:∃ r,ae[m]?=some r:=⟨_,AK hl⟩;have v:Yd (.lst (ae.map Rw.d)) (Ψ m)=some r.d:=Um (by rw[AL,hr];rfl);rcases DA m with z | z
 .left
  have hs:=(gA t hr).mpr z;subst z;refine⟨Yj (Z5 (x:=.non) (Z5 (Z5 rfl rfl v) rfl (by show some (match r.src with | none=>Dat.non | some p=>.int (p.1:Int))=_;rw[hs])) rfl rfl),?_⟩;rw[bJ,List.nil_append] at J;refine Ya (Wl (dw (xs:=Zc ks) (Z2 rfl rfl))) ?_;rw[J];unfold Zc;rw[List.map_reverse,List.map_reverse]
 .right
  obtain⟨f,k,s,c,a1,a2,a3,a4,a5,a6⟩:=t.src m r hr z;have g:Yd r.d (.int 2)=some (Ψ f):=by show some (match r.src with | none=>Dat.non | some p=>.int (p.1:Int))=_;rw[a1]
  have b:Yd r.d (.int 3)=some (Ψ k):=by show some (match r.src with | none=>Dat.non | some p=>.int (p.2:Int))=_;rw[a1]
  refine⟨Yj (Z5 (x:=.int (f:Int)) (Z5 (Z5 rfl rfl v) rfl g) rfl rfl),?_⟩;refine Z7 (Q5 (ds:=Zc ks) (as:=[Ψ k]) (ds':=Zc (ks++[k])) rfl (Z2 (Z5 (Z5 rfl rfl v) rfl b) rfl) (by rw[Ut (by unfold Zc;rw[AF,AF];lia),<- Gr];rfl) ?_);refine Zg (Z5 (Z5 rfl rfl v) rfl g) ⟨f,a2,f,ks++[k],rfl,rfl,by lia,?_,by rw[AN,BX];lia⟩;rw[J,ZU t hr a1 z,List.reverse_append];simp
theorem Fd(t:LN G I ae):∀ n,n<ae.length->(Mu ae n).length<=n/\∀ k∈Mu ae n,k<G.steps.length:=by
 intro m;induction m using strongRecOn with
 | _ m ih =>
  intro hm;rcases DA m with z | z
  .subst z;rw[bJ];exact⟨AU _,by simp⟩
  .obtain⟨r',o⟩:∃ r,ae[m]?=some r:=⟨_,AK hm⟩
   obtain⟨f,k,s,c,a1,a2,a3,_,_,_⟩:=t.src m r' o z;obtain⟨h1,h2⟩:=ih f a2 (by lia);rw[ZU t o a1 z,AN,BX];refine⟨by lia,λx hx=>?_⟩;rcases BO.mp hx with q | q
   .exact h2 x q
   .rw[AJ.mp q];exact(AC.mp a3).1
noncomputable def Ov(ks:Z Nat):Z Int:=ks.map λk:Nat=>(k:Int)
theorem Pm(h1:ks.length<=500)(h2:∀ k∈ks,k<1000):R6 (Ov ks)=true:=by
 unfold R6 Ov;rw[AF,AG h1,FI,CW];intro n hn;obtain⟨k,hk,rfl⟩:=DJ.mp hn;have:=h2 k hk;rw[AG (by lia),AG (by lia)];rfl
theorem Xj(l:Z Nat):Js (Zc l)=some (Ov l):=K8 (Ov l)
noncomputable def NJ(ks:Z Nat):Z (Str×XD):=[("way",.nums (Ov ks))]
theorem XX(h1:ks.length<=500)(h2:∀ k∈ks,k<1000):gW "way" [.lst (Zc ks)]=some (NJ ks):=by
 unfold gW;dsimp only;rw[Xj];dsimp only[Option.bind];rw[AH (Pm h1 h2)];rfl
noncomputable def QB(c:Str):Prop:=c="Broken" \/ c="Crowded"
theorem gP(G:G3)(hG:Gb 64 G)(p:Nat×Nat)(k:Nat)(s:St3)(h:G.steps[k]?=some s)(hc:W8 s p.1=true)(hf:¬ L3 s p):∃ c,QB c/\Ia [G.d,Zn p,Ψ k]=.exc c (NJ [k]):=by
 have hs:=hG.st s (AD h);have F:=hG.w2;have l:=hs.w;have hk:=(AC.mp h).1;have v:=hG.s2;have a:gW "way" [.lst (Zc [k])]=some (NJ [k]):=XX (by simp) λq hq=>by rw[AJ.mp hq];lia
 have:=Bo (n:=6) (p:=3) (ds:=[G.d,Zn p,Ψ k]) (g:=D4) (R:=λ_=>False) (E:=λc fl=>QB c/\fl=NJ [k]) rfl ?_
 .rcases this with⟨d,_,z⟩ | ⟨c,fl,e,h1,h2⟩
  .exact z.elim
  .exact⟨c,h1,by rw[<- h2];exact e⟩
 unfold D4;refine Q7 (Zg (Ze (xs:=[G.d,Ψ k]) rfl (Is G k s h)) ?_);refine U2 (Oa (Yj (Z5 (Ze (xs:=[.int (p.2:Int),.int (s.w:Int)]) (Z2 (Z5 rfl rfl rfl) rfl) (U' p.2 s.w)) (Ze (xs:=[G.d,Ψ k]) rfl (bI G k s h)) (b8 _ _))) (λ_=>Dh (ds:=[.lst (Zc [k])]) (Z2 (Wl (Ta (Z2 rfl rfl))) rfl) a ⟨.inl rfl,rfl⟩) (λhb=>(Yl ?_:Go _ _ _).toE));have i:p.2.testBit s.w≠s.up:=by simpa using hb
 obtain⟨b,ek,ak⟩:=Et p.1 (JY s.takes);refine Q7 (Zg (d:=.int (b:Int)) (Z5 (Z5 rfl rfl rfl) (UJ (Ze (xs:=[.tup (Zc s.takes)]) (Z2 (Ze (xs:=[G.d,Ψ k]) rfl (Qi G k s h)) rfl) (Q2 s.takes λp hp=>by have:=hs.t p hp;lia)) (z:=.int (-(JY s.takes:Int) - 1)) rfl) (by show some (Dat.int (Builtin.bitAnd _ _))=_;rw[ek])) ?_);refine Q7 (Zg (d:=.int (JY s.fills:Int)) (Ze (xs:=[.tup (Zc s.fills)]) (Z2 (Ze (xs:=[G.d,Ψ k]) rfl (Iq G k s h)) rfl) (Q2 s.fills λp hp=>by have:=hs.f p hp;lia)) ?_);refine U2 (Oa (Yj (Z5 (Z5 rfl rfl (OE b _)) rfl (VG _))) (λ_=>Dh (ds:=[.lst (Zc [k])]) (Z2 (Wl (Ta (Z2 rfl rfl))) rfl) a ⟨.inr rfl,rfl⟩) (λy=>?_));exfalso;refine hf ⟨hc,i,λq h1 h2=>?_⟩;have hz:b &&& JY s.fills=0:=by simpa using y
 have:=DY (Nat.testBit · q) hz;simp only[DM,ak,Wk,HK,h2,FI,AG h1,KB] at this;simpa using this
theorem XY(hr:ae[n]?=some r):(O (U 0) (O (dS Ac (dO Yd (U 1) (U 2)) E2 (U1 (Θ 2))) (O (U 3) Zb))) [.fz G.d,.fz (.lst (ae.map Rw.d)),Φ n,Φ k]=some [G.d,Zn r.st,Ψ k] :=
 Z2 rfl (Z2 (Gv (Z5 rfl rfl (Um (x:=r.d) (by rw[AL,hr];rfl))) rfl (Uf rfl) (UV r)) rfl)
theorem j9(G:G3)(hG:Gb 64 G)(ae:Z Rw)(n k:Nat)(r:Rw)(s:St3)(hr:ae[n]?=some r)(h:G.steps[k]?=some s)(hf:L3 s r.st):Dk [G.d,.lst (ae.map Rw.d),Ψ n,Ψ k]=.ok (Zn (Y9 s r.st)):=by
 show(match Qy [.fz G.d,.fz (.lst (ae.map Rw.d)),Φ n,Φ k] with | .ret d=>Rs.ok d | .next _=>.ok .non | .exc _ c fs=>.exc c fs | _=>.no)=_;unfold Qy RE NL QE;rw[XY hr];dsimp only;rw[lP G hG r.st k s h hf]
theorem lN(hG:Gb 64 G)(t:LN G I ae)(B:ae.length<=400)(hr:ae[n]?=some r)(h:G.steps[k]?=some s)(hc:W8 s r.m=true)(hf:¬ L3 s r.st):∃ c,QB c/\Dk [G.d,.lst (ae.map Rw.d),Ψ n,Ψ k]=.exc c (NJ (Mu ae n++[k])):=by
 obtain⟨c,p,eb⟩:=gP G hG r.st k s h hc hf;have hk:=(AC.mp h).1;have hn:=(AC.mp hr).1;have v:=hG.s2;obtain⟨w1,w2⟩:=Fd t n hn;have a:gW "way" [.lst (Zc (Mu ae n++[k]))]=some (NJ (Mu ae n++[k])):=XX (by rw[AN,BX];lia) λq hq=>by
  rcases BO.mp hq with z | z
  .have:=w2 q z;lia
  .rw[AJ.mp z];lia
 have ha:(O (dL (dO N3 (Zx Lc (O (U 1) (O (U 2) Zb))) (dL (Ud (O (U 3) Zb))))) Zb) [.fz G.d,.fz (.lst (ae.map Rw.d)),Φ n,Φ k]=some [.lst (Zc (Mu ae n++[k]))]:=by
  refine Z2 (Wl (ds:=Zc (Mu ae n++[k])) ?_) rfl;unfold dO;rw[Ze (xs:=[.lst (ae.map Rw.d),Ψ n]) rfl (VX B t n hn),Wl (Ta (xs:=[Ψ k]) (Z2 rfl rfl))];have hl:(Zc (Mu ae n)).length=(Mu ae n).length:=by unfold Zc;rw[AF,AF]
  show N3 (.lst (Zc (Mu ae n))) (.lst (Zc [k]))=_;rw[<- Gr];unfold N3;exact AH (by rw[hl];have:(Zc [k]).length=1:=rfl;rw[CH];lia)
 refine⟨c,p,?_⟩;show(match Qy [.fz G.d,.fz (.lst (ae.map Rw.d)),Φ n,Φ k] with | .ret d=>Rs.ok d | .next _=>.ok .non | .exc _ c fs=>.exc c fs | _=>.no)=_;unfold Qy RE NL QE;rw[XY hr];dsimp only;rw[eb];dsimp only;have hr:∀ c,U9 c (gW "way") (O (dL (dO N3 (Zx Lc (O (U 1) (O (U 2) Zb))) (dL (Ud (O (U 3) Zb))))) Zb) [.fz G.d,.fz (.lst (ae.map Rw.d)),Φ n,Φ k]=.exc [.fz G.d,.fz (.lst (ae.map Rw.d)),Φ n,Φ k] c (NJ (Mu ae n++[k])):=λc=>by
  unfold U9;rw[ha];dsimp only[Option.bind];rw[a]
 rcases p with rfl | rfl
 .rw[AH (by decide),AH rfl,hr]
 .rw[AH (by decide),AM (by decide),AH rfl,hr]
noncomputable abbrev TT(G:G3)(ae:Z Rw):Prop:=LN G (λ_=>True) ae
theorem iI(G:G3):TT G [ZX G] where
 zero:=rfl
 inv:=λ_ _=>trivial
 nd:=CT.mpr ⟨by simp,DZ⟩
 src:=λi r e h0=>by
  rw[FX,AM (by lia)] at e;cases e
theorem cJ(t:TT G ae){f:Nat}{c:Rw}(hf:ae[f]?=some c)(hs:G.steps[k]?=some s)(hc:W8 s c.m=true)(hn:Y9 s c.st∉ae.map Rw.st):TT G (ae++[⟨(Y9 s c.st).1,(Y9 s c.st).2,some (f,k)⟩]) where
 zero:=by
  have:=t.zero;have hl:=(AC.mp this).1;rw[BH hl];exact this
 inv:=λ_ _=>trivial
 nd:=by
  rw[BP];refine GI.mpr ⟨t.nd,CT.mpr ⟨by simp,DZ⟩,λa ha b hb=>?_⟩;have eb:b=Y9 s c.st:=AJ.mp hb;rw[eb];intro e;exact hn (e▸ha)
 src:=λi r e h0=>by
  rcases DV i ae.length with hl | hl
  .rw[BH hl] at e
   obtain⟨Y,k',s',d,a1,a2,a3,a4,a5,a6⟩:=t.src i r e h0;exact⟨Y,k',s',d,a1,a2,a3,by rw[BH (by lia)];exact a4,a5,a6⟩
  .rw[BV hl] at e
   have P:=(AC.mp hf).1;have e0:i - ae.length=0:=by
    rcases DA (i - ae.length) with z | z
    .exact z
    .rw[FX,AM (by lia)] at e;cases e
   rw[e0] at e;cases e;exact⟨f,k,s,c,rfl,by lia,hs,by rw[BH P];exact hf,hc,rfl⟩
structure LS (G:G3) (am:Nat) (ae:List Rw):Prop where
 t:TT G ae
 le:ae.length<=am
variable{z:Str}
noncomputable def ZS(G:G3)(am:Nat)(c:Str):Prop:=(c="TooMany" /\ ∃ ae,TT G ae/\am<ae.length)\/(QB c/\∃ (ae:Z Rw) (r:Rw) (k:Nat) (s:St3),TT G ae/\r∈ae/\G.steps[k]?=some s/\W8 s r.m=true/\¬ L3 s r.st)
noncomputable def VM(c:Str)(fl:Z (Str×XD)):Prop:=(QB c/\∃ ks:Z Nat,fl=NJ ks)\/(c="TooMany" /\ fl=[])
theorem bS(e:fs env=some ds)(h:F ds=.ok d):Lr i F fs env=.next (env.set i (.fz d)):=by unfold Lr;rw[e];dsimp only;rw[h]
theorem C8(e:fs env=some ds)(h:F ds=.exc c fl):Lr i F fs env=.exc env c fl:=by unfold Lr;rw[e];dsimp only;rw[h]
theorem ko(h:F ds=.ok d)(hp:P' d=true):Hy F ds=.ok d:=by unfold Hy;rw[h];exact AH hp
theorem iR(h:F ds=.exc c fl):Hy F ds=.exc c fl:=by unfold Hy;rw[h]
theorem Oc(hG:Gb 64 G)(am:Nat)(Q:1<=am)(ao:am<=400):(∃ d,Mj [G.d,Ψ am]=.ok d/\∃ ae,d=.lst (ae.map Rw.d)/\LS G am ae)\/∃ c fl,Mj [G.d,Ψ am]=.exc c fl/\ZS G am c/\VM c fl:=by
 refine Bo (R:=λd=>∃ ae,d=.lst (ae.map Rw.d)/\LS G am ae) (E:=λc fl=>ZS G am c/\VM c fl) rfl ?_;unfold Oh;refine Q7 (Tr (ds:=[ZX G].map Rw.d) (Ta (Z2 (Y1 (Z2 (Z5 rfl rfl rfl) (Z2 (Z5 rfl rfl rfl) rfl))) rfl)) ?_);refine Q7 (cm (q:=(G.marks,G.code)) (Y1 (Z2 (Z5 rfl rfl rfl) (Z2 (Z5 rfl rfl rfl) rfl))) rfl ?_);refine Q7 (Zg (d:=.int ((0:Nat):Int)) rfl ?_);refine U2 (lQ (λm e=>∃ (ae:Z Rw) (a:Nat) (v5 u l:KQ),e=[.fz G.d,Φ am,.ow (ae.map Rw.d),.gx (.dict (Gn (ae.map Rw.st))),Φ a,v5,u,l]/\TT G ae/\a<=ae.length/\m+a=400/\ae.length<=am) (n:=400) ⟨_,0,.un,.un,.un,rfl,iI G,by lia,rfl,Q⟩ ?_);rintro m e ⟨ae,a,v5,u,l,rfl,t,I,hm,w⟩;have ac:dF Vp (O (dP 2) Zb) [.fz G.d,Φ am,.ow (ae.map Rw.d),.gx (.dict (Gn (ae.map Rw.st))),Φ a,v5,u,l]=some (.int (ae.length:Int)):=Yq (Z2 rfl rfl) (ZH Rw.d ae);rcases DV a ae.length with hl | hl
 .right
  obtain⟨r,hr⟩:∃ r,ae[a]?=some r:=⟨_,AK hl⟩;have v:Yd (.lst (ae.map Rw.d)) (Ψ a)=some r.d:=Um (by rw[AL,hr];rfl);refine⟨Yj (Z5 rfl ac (by show some (Dat.bl (decide ((a:Int)<(ae.length:Int))))=_;rw[AG (by lia)])),?_⟩;refine Q7 (Zg (Ze (xs:=[G.d,Zn r.st]) (Z2 rfl (Z2 (Gv (Z5 rfl rfl v) rfl (Uf rfl) (UV r)) rfl)) (Lh G hG r.st)) ?_);obtain⟨ks,x⟩:∃ ks:Z Nat,Dw G r.st.1=ks:=⟨_,rfl⟩;have D:Dw G r.m=ks:=x;have F:∀ k∈ks,Io G r.m k=true:=λk hk=>by rw[<- D] at hk;exact P8 hk
  rw[x];refine U2 (Bx (ds:=Zc ks) (λi e=>∃ (h:Z Rw) (u l:KQ),e=[.fz G.d,Φ am,.ow (h.map Rw.d),.gx (.dict (Gn (h.map Rw.st))),Φ a,.fz (.lst (Zc ks)),u,l]/\TT G h/\ae <+: h/\h.length<=am) rfl ⟨ae,u,l,rfl,t,List.prefix_rfl,w⟩ ?_ ?_)
  .rintro i d e hi ⟨h,u,l,rfl,tr,j,A⟩
   obtain⟨k,hk,rfl⟩:=Hq hi;have C:=F k (AD hk);obtain⟨s,hs,g⟩:=Kx C;have o:=ln j hr;have B:h.length<=400:=by lia
   refine⟨_,rfl,?_⟩;by_cases hf:L3 s r.st
   case neg =>
    obtain⟨c,p,ec⟩:=lN hG tr B o hs g hf;refine U2 ⟨?_⟩;rw[C8 (ds:=[G.d,.lst (h.map Rw.d),Ψ a,Ψ k]) rfl (iR ec)];exact⟨.inr ⟨p,h,r,k,s,tr,AD o,hs,g,hf⟩,.inl ⟨p,_,rfl⟩⟩
   refine U2 ⟨?_⟩;rw[bS (d:=Zn (Y9 s r.st)) (ds:=[G.d,.lst (h.map Rw.d),Ψ a,Ψ k]) rfl (ko (j9 G hG h a k r s o hs hf) rfl)];refine U2 (Oa (Yj (jK (ps:=h.map Rw.st) (q:=Y9 s r.st) rfl rfl)) (λhb=>?_) (λhb=>?_))
   .exact⟨⟨h,Φ k,.fz (Zn (Y9 s r.st)),rfl,tr,j,A⟩⟩
   have z:Y9 s r.st∉h.map Rw.st:=of_decide_eq_false hb;refine(Yl ?_:Go _ _ _).toE;refine U2 (Oa (b:=decide ((am:Int)<=(h.length:Int))) (Yj (Z5 (Yq (Z2 rfl rfl) (ZH Rw.d h)) rfl rfl)) (λy=>?_) (λy=>(Yl ?_:Go _ _ _).toE))
   .have:=AT y
    exact Dh (ds:=[]) rfl rfl ⟨.inl ⟨rfl,_,cJ tr o hs g z,by rw[AN,BX];lia⟩,.inr ⟨rfl,rfl⟩⟩
   have ai:=of_decide_eq_false y;refine Q7 (iJ (ps:=h.map Rw.st) (q:=Y9 s r.st) rfl rfl rfl z (by rw[AF];lia) ?_);refine(Q5 (ds:=h.map Rw.d) (as:=[(⟨(Y9 s r.st).1,(Y9 s r.st).2,some (a,k)⟩:Rw).d]) (ds':=(h++[(⟨(Y9 s r.st).1,(Y9 s r.st).2,some (a,k)⟩:Rw)]).map Rw.d) rfl (Z2 (Y1 (Z2 (Z5 rfl rfl rfl) (Z2 (Z5 rfl rfl rfl) rfl))) rfl) (by rw[Ut (by rw[AF];lia),BP];rfl) ?_).toE;refine⟨h++[⟨(Y9 s r.st).1,(Y9 s r.st).2,some (a,k)⟩],Φ k,.fz (Zn (Y9 s r.st)),?_,cJ tr o hs g z,j.trans (List.prefix_append _ _),by rw[AN,BX];lia⟩;rw[BP (f:=Rw.st)];rfl
  .rintro e ⟨h,u,l,rfl,tr,j,A⟩
   have ag:=j.length_le;exact(cO rfl rfl ⟨m - 1,by lia,h,a+1,_,_,_,rfl,tr,by lia,by lia,A⟩:Go _ _ _).toE
 .left
  refine⟨Yj (Z5 rfl ac (by show some (Dat.bl (decide ((a:Int)<(ae.length:Int))))=_;rw[AB (by lia)])),?_⟩;exact(Nh rfl ⟨ae,rfl,t,w⟩:Go _ _ _).toE
theorem f5(G:G3)(hG:Gb 64 G)(i j:Nat)(m B:St3)(hi:G.steps[i]?=some m)(hj:G.steps[j]?=some B):∃ b:Bool,UQ [G.d,Ψ i,Ψ j]=.ok (.bl b)/\(b=true->∃ q,q∈m.takes/\q∉m.fills/\q∈B.takes):=by
 have c:=hG.st m (AD hi);have k:=hG.st B (AD hj);have:=Yf (n:=4) (p:=3) (ds:=[G.d,Ψ i,Ψ j]) (g:=Bq) (R:=λd=>∃ b:Bool,d=.bl b/\(b=true->∃ q,q∈m.takes/\q∉m.fills/\q∈B.takes)) rfl ?_
 .obtain⟨d,e,b,rfl,h⟩:=this
  exact⟨b,e,h⟩
 unfold Bq;obtain⟨kp,ek,a⟩:=Et (JY m.takes) (JY m.fills);refine Z7 (Zg (d:=.int (kp:Int)) (Z5 (Ze (xs:=[.tup (Zc m.takes)]) (Z2 (Ze (xs:=[G.d,Ψ i]) rfl (Qi G i m hi)) rfl) (Q2 m.takes λp hp=>by have:=c.t p hp;lia)) (UJ (Ze (xs:=[.tup (Zc m.fills)]) (Z2 (Ze (xs:=[G.d,Ψ i]) rfl (Iq G i m hi)) rfl) (Q2 m.fills λp hp=>by have:=c.f p hp;lia)) (z:=.int (-(JY m.fills:Int) - 1)) rfl) (by show some (Dat.int (Builtin.bitAnd _ _))=_;rw[ek])) ?_);exact Ya (Z5 (Z5 rfl (Ze (xs:=[.tup (Zc B.takes)]) (Z2 (Ze (xs:=[G.d,Ψ j]) rfl (Qi G j B hj)) rfl) (Q2 B.takes λp hp=>by have:=k.t p hp;lia)) (OE kp _)) rfl (VG _)) ⟨_,rfl,λhb=>by
  obtain⟨q,hq⟩:=Nat.exists_testBit_of_ne_zero (show kp &&& JY B.takes≠0 by simpa using hb);rw[DM,a,Wk,Wk,Wk] at hq;simp only[AW,BU,HB,decide_eq_false_iff_not] at hq;exact⟨q,hq.1.1,hq.1.2,hq.2⟩⟩
theorem ZE(h:G.wires[w]?=some u):Yd (.tup (G.wires.map Ub)) (Ψ w)=some (Ub u):=Q8 (by rw[AL,h];rfl)
theorem G7(G:G3)(w:Nat)(u:Str×Bool)(h:G.wires[w]?=some u):Qx [G.d,Ψ w]=.ok (.bl u.2):=by
 refine Wz (Yf rfl ?_);unfold Kd;exact Ya (Z5 (Z5 (Z5 (Z5 rfl rfl rfl) rfl (ZE h)) rfl rfl) rfl (bL _)) rfl
theorem Dg(h:G.wires[s.w]?=some u):Yz G s=u.2:=by unfold Yz;rw[h]
theorem dA{g:Zzu}{a b:Bool}(h1:f env=some (.bl a))(h2:g env=some (.bl b)):QR f g env=some (.bl (a||b)):=by
 unfold QR dB;rw[h1];cases a with
 | true=>rfl
 | false=>exact h2
theorem mf(G:G3)(hG:Gb 64 G)(i j:Nat)(m B:St3)(hi:G.steps[i]?=some m)(hj:G.steps[j]?=some B):Jo [G.d,Ψ i,Ψ j]=.ok (.bl (Yz G m||Yz G B)):=by
 have c:=(hG.st m (AD hi)).w;have k:=(hG.st B (AD hj)).w;have a:G.wires[m.w]?=some G.wires[m.w]:=AK c;have E:G.wires[B.w]?=some G.wires[B.w]:=AK k;refine Wz (Yf rfl ?_);unfold Jc;rw[Dg a,Dg E];exact Ya (dA (Ze (xs:=[G.d,.int (m.w:Int)]) (Z2 rfl (Z2 (Ze (xs:=[G.d,Ψ i]) rfl (Is G i m hi)) rfl)) (G7 G m.w _ a)) (Ze (xs:=[G.d,.int (B.w:Int)]) (Z2 rfl (Z2 (Ze (xs:=[G.d,Ψ j]) rfl (Is G j B hj)) rfl)) (G7 G B.w _ E))) rfl
theorem iq(G:G3)(hG:Gb 64 G):∃ qs:Z (Nat×Nat),O8 [G.d]=.ok (.lst (qs.map Zn))/\∀ p∈qs,p.1<24/\p.2<24/\¬ Ln G:=by
 have:=Yf (n:=4) (p:=1) (ds:=[G.d]) (g:=Hc) (R:=λd=>∃ qs:Z (Nat×Nat),d=.lst (qs.map Zn)/\∀ p∈qs,p.1<24/\p.2<24/\¬ Ln G) rfl ?_
 .obtain⟨d,e,qs,rfl,h⟩:=this
  exact⟨qs,e,h⟩
 unfold Hc;have v:=hG.s2;have ac:∀ e:Ev,e[0]?=some (.fz G.d)->dF Vp (O (dO Yd (U 0) (Θ 1)) Zb) e=some (.int ((G.steps.length:Nat):Int)):=λe he=>Yq (Z2 (x:=.tup (G.steps.map St3.d)) (Z5 (x:=G.d) (by unfold U;rw[he]) rfl rfl) rfl) (by show some (Dat.int ((G.steps.map St3.d).length:Int))=_;rw[AF])
 refine Z7 (Tr (ds:=([]:Z (Nat×Nat)).map Zn) rfl ?_);refine Z7 (V5 (ds:=rng 0 G.steps.length) (λi e=>∃ (qs:Z (Nat×Nat)) (v2 v3:KQ),e=[.fz G.d,.ow (qs.map Zn),v2,v3]/\qs.length<=24*i/\∀ p∈qs,p.1<24/\p.2<24/\¬ Ln G) (Yv (Z2 (ac _ rfl) rfl) (by lia)) ⟨[],.un,.un,rfl,by simp,by simp⟩ ?_ ?_)
 .rintro i d e hi ⟨qs,v2,v3,rfl,hl,hq⟩
  obtain⟨I,rfl⟩:=Uz hi;rw[DC];refine⟨_,rfl,?_⟩;obtain⟨m,a⟩:∃ s,G.steps[i]?=some s:=⟨_,AK I⟩;refine V5 (ds:=rng 0 G.steps.length) (λj e=>∃ (qs:Z (Nat×Nat)) (v3:KQ),e=[.fz G.d,.ow (qs.map Zn),Φ i,v3]/\qs.length<=24*i+j/\∀ p∈qs,p.1<24/\p.2<24/\¬ Ln G) (Yv (Z2 (ac _ rfl) rfl) (by lia)) ⟨qs,v3,rfl,hl,hq⟩ ?_ ?_
  .rintro j d e hj ⟨qs,v3,rfl,hl,hq⟩
   obtain⟨ag,rfl⟩:=Uz hj;rw[DC];refine⟨_,rfl,?_⟩;obtain⟨B,c⟩:∃ s,G.steps[j]?=some s:=⟨_,AK ag⟩;obtain⟨b,hb,y⟩:=f5 G hG i j m B a c;refine Ti (Dd (Yj (Z5 rfl rfl (QW i j))) λ_=>Dd (Qg (Ze (xs:=[G.d,Ψ i,Ψ j]) rfl (mf G hG i j m B a c))) λ_=>Qg (Ze (xs:=[G.d,Ψ i,Ψ j]) rfl hb)) (λhz=>?_) (λ_=>Yl ⟨qs,_,rfl,by lia,hq⟩);refine Q5 (ds':=(qs++[(i,j)]).map Zn) (as:=[Zn (i,j)]) rfl (Z2 (Y1 (Z2 rfl (Z2 rfl rfl))) rfl) (by rw[Ut (by rw[AF];lia),BP];rfl) ⟨qs++[(i,j)],_,rfl,by rw[AN];show _+1<=_;lia,λp hp=>?_⟩;rcases BO.mp hp with z | z
   .exact hq p z
   .rw[AJ.mp z]
    obtain⟨h1,h2⟩:=DQ.mp hz;obtain⟨h3,h4⟩:=DQ.mp h2;obtain⟨q,Y,q2,J⟩:=y h4;refine⟨by show i<24;lia,by show j<24;lia,λhn=>?_⟩;obtain⟨k1,k2⟩:=hn i j m B (by simpa using h1) a c q Y q2 J;rw[k1,k2] at h3;cases h3
  .rintro e ⟨qs,v3,rfl,hl,hq⟩
   rw[U7] at hl;exact⟨qs,_,_,rfl,by lia,hq⟩
 .rintro e ⟨qs,v2,v3,rfl,hl,hq⟩
  exact Nh rfl ⟨qs,rfl,hq⟩
noncomputable def RK(ks:Z Nat)(a b:Nat):Z (Str×XD):=[("way",.nums (Ov ks)),("lost",.int (a:Int)),("by",.int (b:Int))]
theorem mj(ks:Z Nat)(a b:Nat)(h:R6 (Ov ks)=true)(ha:a<1000)(hb:b<1000):gC "way" "lost" "by" [.lst (Zc ks),Ψ a,Ψ b]=some (RK ks a b):=by
 unfold gC;dsimp only;rw[Xj];dsimp only[Option.bind];have hs:∀ w:Nat,w<1000->L1 (w:Int)=true:=λw J=>by unfold L1;rw[AG (by lia),AG (by lia)];rfl
 rw[AH (by rw[h,hs a ha,hs b hb];rfl)];rfl
theorem Ir(p:Nat)(ps:Z Nat):Bz (Ψ p) (.lst (Zc ps))=some (.bl (decide (p∈ps))):=by unfold Bz;rw[bU];rfl
theorem mK(h:(qs.map L2.Zn)[i]?=some d):∃ p,qs[i]?=some p/\d=L2.Zn p:=by
 rw[AL] at h;obtain⟨p,h1,h2⟩:=map_some h;exact⟨p,h1,h2.symm⟩
theorem Fj(hG:Gb 64 G)(hm:am<=400)(es:Mj [G.d,Ψ am]=.ok (.lst (ae.map Rw.d)))(W:LS G am ae) :
  (∃ d,Q3 [G.d,Ψ am]=.ok d/\d=.lst (ae.map Rw.d))\/∃ c fl,Q3 [G.d,Ψ am]=.exc c fl/\c="CalledOff" /\ (∃ (ks:Z Nat) (a b:Nat),fl=RK ks a b)/\¬ Ln G:=by
 have B:=W.le;have v:=hG.s2;refine Bo (R:=λd=>d=.lst (ae.map Rw.d)) (E:=λc fl=>c="CalledOff" /\ (∃ (ks:Z Nat) (a b:Nat),fl=RK ks a b)/\¬ Ln G) rfl ?_;unfold Ic;refine U2 ⟨?_⟩;rw[bS (d:=.lst (ae.map Rw.d)) (ds:=[G.d,Ψ am]) rfl es];obtain⟨qs,f,aQ⟩:=iq G hG;refine Q7 (Zg (Ze (xs:=[G.d]) rfl f) ?_);refine U2 (Bx (ds:=Ra 0 (ae.map Rw.d)) (λi e=>∃ v4 v5 u l A:KQ,e=[.fz G.d,Φ am,.fz (.lst (ae.map Rw.d)),.fz (.lst (qs.map Zn)),v4,v5,u,l,A]) (C6 rfl) ⟨.un,.un,.un,.un,.un,rfl⟩ ?_ ?_)
 .rintro n d e hn ⟨v4,v5,u,l,A,rfl⟩
  obtain⟨x,hx,rfl⟩:=De hn;rw[AL] at hx;obtain⟨r,hr,rfl⟩:=map_some hx;have ac:=(AC.mp hr).1;refine⟨[.fz G.d,Φ am,.fz (.lst (ae.map Rw.d)),.fz (.lst (qs.map Zn)),Φ n,.fz r.d,u,l,A],rfl,?_⟩;refine Q7 (Zg (Ze (xs:=[G.d,Zn r.st]) (Z2 rfl (Z2 (Gv rfl rfl (Uf rfl) (UV r)) rfl)) (Lh G hG r.st)) ?_);refine Bx (ds:=qs.map Zn) (λi e=>∃ l A:KQ,e=[.fz G.d,Φ am,.fz (.lst (ae.map Rw.d)),.fz (.lst (qs.map Zn)),Φ n,.fz r.d,.fz (.lst (Zc (Dw G r.st.1))),l,A]) rfl ⟨l,A,rfl⟩ ?_ ?_
  .rintro i d e hi ⟨l,A,rfl⟩
   obtain⟨p,hp,rfl⟩:=mK hi;refine⟨[.fz G.d,Φ am,.fz (.lst (ae.map Rw.d)),.fz (.lst (qs.map Zn)),Φ n,.fz r.d,.fz (.lst (Zc (Dw G r.st.1))),.fz (.int (p.1:Int)),.fz (.int (p.2:Int))],rfl,?_⟩;refine Oa (Dd (Yj (Z5 rfl rfl (Ir p.1 _))) λ_=>Yj (Z5 rfl rfl (Ir p.2 _))) (λhb=>?_) (λhb=>(Yl ⟨_,_,rfl⟩:Go _ _ _).toE);obtain⟨w1,w2⟩:=Fd W.t n ac;obtain⟨l1,l2,l3⟩:=aQ p (AD hp);exact Dh (ds:=[.lst (Zc (Mu ae n)),.int (p.2:Int),.int (p.1:Int)]) (Z2 (Ze (xs:=[.lst (ae.map Rw.d),Ψ n]) rfl (VX (by lia) W.t n ac)) rfl) (mj _ p.2 p.1 (Pm (by lia) λk hk=>by have:=w2 k hk;lia) (by lia) (by lia)) ⟨rfl,⟨_,_,_,rfl⟩,l3⟩
  .rintro e ⟨l,A,rfl⟩
   exact⟨_,_,_,_,_,rfl⟩
 .rintro e ⟨v4,v5,u,l,A,rfl⟩
  refine(Ya rfl ?_:Go _ _ _).toE;rfl
noncomputable def Th(p:Nat×Bool):Dat:=.tup [.int (p.1:Int),.bl p.2]
theorem CG.sb{Lq_:Nat->Nat}(h:CG af n sp Lq_ ss)(hs:sp<=54)(hm:s∈ss):SB 54 n s:=by
 obtain⟨x,y,b1,b2,b3,b4,b5,l,c,d,e⟩:=h.st s hm;exact⟨d,λp hp=>by rw[b4] at hp;rw[AJ.mp hp];lia,λp hp=>by rw[b5] at hp;rw[AJ.mp hp];lia,by rw[b4];exact CT.mpr ⟨by simp,DZ⟩,by rw[b5];exact CT.mpr ⟨by simp,DZ⟩⟩
theorem gI(ns:Z Int)(first:Nat)(hf:first<=900):∃ (G:G3) (Lq_:Nat->Nat),Mb [Qr ns,Ψ first]=.ok G.d/\NB G 0 Lq_/\Gb 54 G/\1<=G.wires.length/\G.wires.length<=5/\2<=G.steps.length/\G.steps.length<=22/\G.code=0/\2<=(G.steps.filter (Yz G)).length:=by
 have:=Yf (n:=17) (p:=2) (ds:=[Qr ns,Ψ first]) (g:=Uc) (R:=λd=>∃ (G:G3) (Lq_:Nat->Nat),d=G.d/\NB G 0 Lq_/\Gb 54 G/\1<=G.wires.length/\G.wires.length<=5/\2<=G.steps.length/\G.steps.length<=22/\G.code=0/\2<=(G.steps.filter (Yz G)).length) rfl ?_
 .obtain⟨d,e,z,Lq_,rfl,h⟩:=this
  exact⟨z,Lq_,e,h⟩
 show Go (Uc [.fz (Qr ns),Φ first,.un,.un,.un,.un,.un,.un,.un,.un,.un,.un,.un,.un,.un,.un,.un]) _ _;unfold Uc;obtain⟨c,ec,lc⟩:=Mt ns first (by lia);have aD:∀ env:Ev,env[0]?=some (.fz (Qr ns))->env[1]?=some (.fz (Ψ first))->Zx Yb (O (U 0) (O (U 1) Zb)) env=some (Ψ c):=λenv h0 h1=>Ze (xs:=[Qr ns,Ψ first]) (Z2 (by unfold U;rw[h0]) (Z2 (by unfold U;rw[h1]) rfl)) ec
 obtain⟨af,aw,Q,ao⟩:∃ n:Nat,2+c % 2=n/\2<=n/\n<=3:=⟨_,rfl,by lia,by lia⟩;obtain⟨own,aT,aU,aa⟩:∃ n:Nat,1+c / 2 % 2=n/\1<=n/\n<=2:=⟨_,rfl,by lia,by lia⟩;refine Z7 (Zg (d:=.int (af:Int)) (by rw[<- aw];exact Z5 rfl (Z5 (aD _ rfl rfl) rfl (Te c 2)) (U6 2 _)) ?_);refine Z7 (Zg (d:=.int (own:Int)) (by rw[<- aT];exact Z5 rfl (Z5 (Z5 (aD _ rfl rfl) rfl (U8 c 2)) rfl (Te _ 2)) (U6 1 _)) ?_);refine Z7 (Zg (Z5 (aD _ rfl rfl) rfl (U8 c 4)) ?_);generalize c / 4=wd;obtain⟨ws,W,wl,_⟩:=Hg (g:=Y8 0) (f:=W6 (O (Zx Ve (O (U 1) (O (U 0) Zb))) (O (dC (.str "given")) Zb))) (env:=[.un,Φ wd]) Ub (λ_=>True) (rng 0 af) λx hx=>by
  obtain⟨i,hi,rfl⟩:=Fy hx;rw[DC];obtain⟨z,ez⟩:=An wd i;exact⟨[Φ i,Φ wd],(z,false),rfl,Y1 (Z2 (Ze (xs:=[Ψ wd,Ψ i]) rfl ez) rfl),trivial⟩
 rw[U7] at wl;refine Z7 (Zg (d:=.lst (ws.map Ub)) (Wl (W4 (xs:=rng 0 af) (Yv (Z2 rfl rfl) (by lia)) rfl W)) ?_);obtain⟨us,eu,ul,aV⟩:=Hg (g:=Y8 0) (f:=W6 (O (Zx Ve (O (U 1) (O (dO Yu (U 2) (U 0)) Zb))) (O (dC (.str "made")) Zb))) (env:=[.un,Φ wd,Φ af]) Ub (λu=>u.2=true) (rng 0 own) λx hx=>by
  obtain⟨i,hi,rfl⟩:=Fy hx;rw[DC];obtain⟨z,ez⟩:=An wd (af+i);exact⟨[Φ i,Φ wd,Φ af],(z,true),rfl,Y1 (Z2 (Ze (xs:=[Ψ wd,.int ((af+i:Nat):Int)]) (Z2 rfl (Z2 (Z5 rfl rfl (U6 _ _)) rfl)) ez) rfl),rfl⟩
 rw[U7] at ul;refine Z7 (Zg (d:=.lst ((ws++us).map Ub)) (by
  rw[BP];exact Z5 rfl (Wl (W4 (xs:=rng 0 own) (Yv (Z2 rfl rfl) (by lia)) rfl eu)) (Ix (by rw[AF,AF];lia))) ?_)
 have D:(ws++us).length=af+own:=by rw[AN];lia
 have aL:∀ w u,af<=w->(ws++us)[w]?=some u->u.2=true:=λw u J C=>by
  rw[BV (by lia)] at C;exact aV u (AD C)
 generalize ws++us=wires at D aL;refine Z7 (Tr (ds:=([]:Z St3).map St3.d) rfl ?_);refine Z7 (Zg (d:=.int ((1:Nat):Int)) rfl ?_);refine Z7 (V5 (ds:=rng 0 af) (λi e=>∃ (ss:Z St3) (sp:Nat) (Lq_:Nat->Nat) (A X o v aE aF E F H:KQ),e=[.fz (Qr ns),Φ first,Φ af,Φ own,Φ wd,.fz (.lst (wires.map Ub)),.ow (ss.map St3.d),Φ sp,A,X,o,v,aE,aF,E,F,H]/\ss.length=i*(2+2*own)/\1<=sp/\sp<=1+6*i/\CG af (af+own) sp Lq_ ss/\i*(2*own)<=(ss.filter λs=>decide (af<=s.w)).length) (Yv (Z2 rfl rfl) (by lia)) ⟨[],1,λ_=>0,.un,.un,.un,.un,.un,.un,.un,.un,.un,rfl,by simp,by lia,by lia,⟨rfl,λs hs=>(nomatch hs),λi j m B _ hi=>(by simp at hi)⟩,by simp⟩ ?_ ?_)
 .rintro i d e hi ⟨ss,sp,Lq_,A,X,o,v,aE,aF,E,F,H,rfl,T,aM,Y,a,ap⟩
  obtain⟨I,rfl⟩:=Uz hi;rw[DC];refine⟨_,rfl,?_⟩;obtain⟨r,er,_⟩:=Mt ns (first+1+i) (by lia);refine Z7 (Zg (Ze (xs:=[Qr ns,.int ((first+1+i:Nat):Int)]) (Z2 rfl (Z2 (Z5 (Z5 rfl rfl (U6 _ 1)) rfl (U6 _ _)) rfl)) er) ?_);have S:V2 (Y8 0) Ug (dO Yu (U 1) (dO Vc (dO Yu (U 3) (U 0)) (U 2))) [.un,Φ af,Φ own,Φ r] (rng 0 own)=some (Zc (Wo af own r)):=by
   rw[Jp,Uv (λj:Nat=>Dat.int (j:Int)) (λj:Nat=>Dat.int ((af+(r+j) % own:Nat):Int)) (List.range own) λj _=>⟨[Φ j,Φ af,Φ own,Φ r],rfl,rfl,Z5 rfl (Z5 (Z5 rfl rfl (U6 _ _)) rfl (Te _ own (by lia))) (U6 _ _)⟩];unfold Wo;rw[W0,EZ];rfl
  have aW:V2 (Y8 0) Ug (dO Yu (U 1) (dO Vc (dO Yu (dO V0 (U 3) (Θ 2)) (U 0)) (U 2))) [.un,Φ af,Φ own,Φ r] (rng 0 own)=some (Zc (Wo af own (r / 2))):=by
   rw[Jp,Uv (λj:Nat=>Dat.int (j:Int)) (λj:Nat=>Dat.int ((af+(r / 2+j) % own:Nat):Int)) (List.range own) λj _=>⟨[Φ j,Φ af,Φ own,Φ r],rfl,rfl,Z5 rfl (Z5 (Z5 (Z5 rfl rfl (U8 r 2)) rfl (U6 _ _)) rfl (Te _ own (by lia))) (U6 _ _)⟩];unfold Wo;rw[W0,EZ];rfl
  refine Z7 (Zg (Wl (W4 (xs:=rng 0 own) (Yv (Z2 rfl rfl) (by lia)) rfl S)) ?_);refine Z7 (Zg (Wl (W4 (xs:=rng 0 own) (Yv (Z2 rfl rfl) (by lia)) rfl aW)) ?_);have aq:V2 (Y8 0) Ug (W6 (O (U 0) (O (dC (.bl true)) Zb))) [.un] (Zc (Wo af own r))=some (((Wo af own r).map λw=>(w,true)).map Th):=by
   rw[W0,Uv (λw:Nat=>Dat.int (w:Int)) (λw:Nat=>Th (w,true)) (Wo af own r) λw _=>⟨[Φ w],rfl,rfl,Y1 rfl⟩,EZ];rfl
  have M:V2 (Y8 0) Ug (W6 (O (U 0) (O (dC (.bl false)) Zb))) [.un] (Zc (Wo af own (r / 2)))=some (((Wo af own (r / 2)).map λw=>(w,false)).map Th):=by
   rw[W0,Uv (λw:Nat=>Dat.int (w:Int)) (λw:Nat=>Th (w,false)) (Wo af own (r / 2)) λw _=>⟨[Φ w],rfl,rfl,Y1 rfl⟩,EZ];rfl
  have au:∀ q,(Wo af own q).length=own:=λq=>by unfold Wo;rw[AF,DK]
  refine Z7 (Tr (ds:=(E1 af own r).map Th) (by
   unfold E1;rw[BP];exact Z5 (Wl (W4 (xs:=Zc (Wo af own r)) rfl rfl aq)) (Wl (W4 (xs:=Zc (Wo af own (r / 2))) rfl rfl M)) (bv (by simp only[AF,au];lia))) ?_)
  have ay:(E1 af own r).length=2*own:=by unfold E1;rw[AN,AF,AF,au,au];lia
  have aN:=λpos hp=>d6 (k:=i) (r:=r) (pos:=pos) Q ao aU aa I hp
  have ah:(E1 af own r).filter (λq=>decide (af<=q.1))=E1 af own r:=List.filter_eq_self.mpr λq hq=>by
   unfold E1 Wo at hq;simp only[BO,DJ] at hq;rcases hq with⟨w,⟨j,_,rfl⟩,rfl⟩ | ⟨w,⟨j,_,rfl⟩,rfl⟩<;>simp
  generalize E1 af own r=l at ay aN ah;generalize Wo af own r=az;generalize Wo af own (r / 2)=ae;have al:r / 4 % (l.length+1)<=l.length:=by have:=FY (r / 4) (show 0<l.length+1 by lia);lia
  refine Z7 (Q5 (ds:=l.map Th) (as:=[.int ((r / 4 % (l.length+1):Nat):Int),Th (i,false)]) (ds':=(l.take (r / 4 % (l.length+1))++(i,false)::l.drop (r / 4 % (l.length+1))).map Th) rfl (Z2 (Z5 (Z5 rfl rfl (U8 r 4)) (Z5 (y:=.int 1) (z:=.int ((l.length+1:Nat):Int)) (Yq (xs:=[.lst (l.map Th)]) (z:=.int ((l.length:Nat):Int)) rfl (by show some (Dat.int ((l.map Th).length:Int))=_;rw[AF])) rfl (U6 _ 1)) (Te _ (l.length+1) (by lia))) (Z2 (Y1 rfl) rfl)) (by rw[jh _ _ _ (by rw[AF];exact al) (by rw[AF];lia),BP,JU,CF,JV]) ?_);have hok:=aN (r / 4 % (l.length+1)) (by lia);have aG:=Eu l (r / 4 % (l.length+1)) (i,false);have aO:((l.take (r / 4 % (l.length+1))++(i,false)::l.drop (r / 4 % (l.length+1))).filter λq=>decide (af<=q.1)).length=2*own:=by
   rw[((Li l (r / 4 % (l.length+1)) (i,false)).filter _).length_eq,GW (by simpa using I),ah,ay]
  unfold TQ at hok;generalize l.take (r / 4 % (l.length+1))++(i,false)::l.drop (r / 4 % (l.length+1))=bs at hok aG aO;refine Z7 (Zg (d:=.int ((0:Nat):Int)) rfl ?_);have aH:((i,true)::bs).length=2+2*own:=by rw[BJ];lia
  refine V5 (ds:=Ra 0 (((i,true)::bs).map Th)) (λj e=>∃ (new:Z St3) (b:Nat) (Lq_:Nat->Nat) (E F H:KQ),e=[.fz (Qr ns),Φ first,Φ af,Φ own,Φ wd,.fz (.lst (wires.map Ub)),.ow ((ss++new).map St3.d),.fz (.int ((sp+j:Nat):Int)),Φ i,Φ r,.fz (.lst (Zc az)),.fz (.lst (Zc ae)),.ow (bs.map Th),Φ b,E,F,H]/\new.length=j/\b<sp+j/\CG af (af+own) (sp+j) Lq_ (ss++new)/\Lq_ b=E7 (((i,true)::bs).take j)/\(j=0->b=0)/\(0<j->j<2+2*own->b≠0/\∀ s∈ss++new,s.takes≠[b])/\(new.filter λs=>decide (af<=s.w)).length=((((i,true)::bs).take j).filter λq=>decide (af<=q.1)).length) (C6 (Z5 (x:=.lst [Th (i,true)]) (y:=.lst (bs.map Th)) (Wl (Ta (Z2 (Y1 rfl) rfl))) rfl (Ix (by rw[AF];show 1+_<=_;lia)))) ⟨[],0,Lq_,_,_,_,by rw[FJ];rfl,rfl,by lia,by rw[FJ];exact a,a.l0,λ_=>rfl,λh=>absurd h (by lia),rfl⟩ ?_ ?_
  .rintro j d e hj ⟨new,b,Lq_,E,F,H,rfl,ac,aP,a,aI,aB,ag,t⟩
   obtain⟨x,hx,rfl⟩:=De hj;rw[AL] at hx;obtain⟨q,hq,rfl⟩:=map_some hx;obtain⟨aQ,aX⟩:=kD hok hq;have am:=(AC.mp hq).1;rw[aH] at am;rw[<- aI] at aQ;have ar:((i,true)::bs).take (j+1)=((i,true)::bs).take j++[q]:=by rw[GJ,hq];rfl
   have ax:E7 (((i,true)::bs).take (j+1))=Lq_ b ^^^ 2^q.1:=by rw[ar,eB,aI]
   have aj:∀ s∈ss++new,s.takes=[b]->b=0:=λs hs e=>by
    rcases DA j with z | z
    .exact aB z
    .exact absurd e ((ag z am).2 s hs)
   have aY:b=0->q.1<af:=λe=>by
    rcases DA j with z | z
    .subst z
     have:q=(i,true):=by simpa using hq.symm
     rw[this];exact I
    .exact absurd e (ag z am).1
   refine⟨_,rfl,?_⟩;refine Z7 (Zg rfl ?_);refine Z7 (Go.mono (N:=λe=>∃ (fill:Nat) (L':Nat->Nat),fill<sp+j+1/\b≠fill/\L' 0=0/\(∀ p,p<sp+j->L' p=Lq_ p)/\L' fill=Lq_ b ^^^ 2^q.1/\(j+1<2+2*own->fill=sp+j)/\e=[.fz (Qr ns),Φ first,Φ af,Φ own,Φ wd,.fz (.lst (wires.map Ub)),.ow ((ss++new).map St3.d),.fz (.int ((sp+j:Nat):Int)),Φ i,Φ r,.fz (.lst (Zc az)),.fz (.lst (Zc ae)),.ow (bs.map Th),Φ b,Φ j,.fz (Th q),Φ fill]) ?_ ?_ (λ_ h=>h))
   .refine Ti (Yj (Z5 rfl (Yq (xs:=[.lst (bs.map Th)]) (z:=.int ((bs.length:Nat):Int)) rfl (by show some (Dat.int ((bs.map Th).length:Int))=_;rw[AF])) (MW _ _))) (λhb=>?_) (λhb=>Yl ?_)
    .have aK:j=bs.length:=by simpa using hb
     have aR:E7 (((i,true)::bs).take (j+1))=0:=by rw[CI (by rw[aH];lia)];exact C4 hok
     exact Zg (d:=.int ((0:Nat):Int)) rfl ⟨0,Lq_,by lia,(ag (by lia) am).1,a.l0,λp _=>rfl,by rw[a.l0,<- ax,aR],λh=>absurd h (by lia),rfl⟩
    .refine⟨sp+j,λp=>if p=sp+j then Lq_ b ^^^ 2^q.1 else Lq_ p,by lia,by lia,?_,λp hp=>AM (by lia),AH rfl,λ_=>rfl,rfl⟩
     show(if 0=sp+j then _ else Lq_ 0)=0;rw[AM (by lia)];exact a.l0
   rintro e ⟨fill,L',P,ak,aC,aZ,aS,a0,rfl⟩;refine Z7 (Q5 (ds:=(ss++new).map St3.d) (as:=[(⟨q.1,q.2,[b],[fill]⟩:St3).d]) (ds':=(ss++(new++[(⟨q.1,q.2,[b],[fill]⟩:St3)])).map St3.d) rfl (Z2 (Y1 (Z2 rfl (Z2 rfl (Z2 (Y1 rfl) (Z2 (Y1 rfl) rfl))))) rfl) (by
    have aJ:i*(2+2*own)<=18:=BA (JA (show i<=3 by lia) (show 2+2*own<=6 by lia)) (by lia);rw[Ut (by rw[AF,AN];lia),<- HP,BP (l₁:=ss++new)];rfl) ?_)
   refine Z7 (Zg rfl ?_);have aA:=a.add (up:=q.2) aP P ak aj aX aY aC aZ aS aQ;rw[HP] at aA;refine Zg (Z5 rfl rfl (U6 _ 1)) ⟨new++[(⟨q.1,q.2,[b],[fill]⟩:St3)],fill,L',_,_,_,rfl,by rw[AN,BX,ac],P,aA,by rw[aS,ax],λh=>absurd h (by lia),λ_ ai=>?_,by rw[ar,IR,IR,AN,AN,t];congr 1;simp only[List.filter_cons,List.filter_nil];split<;>rfl⟩;have ef:=a0 ai;refine⟨by lia,λs hs e=>?_⟩;rw[<- HP] at hs;rcases BO.mp hs with h | h
   .obtain⟨x,y,b1,_,_,b4,_⟩:=a.st s h
    rw[b4] at e;have:x=fill:=by simpa using e
    lia
   .rw[AJ.mp h] at e
    have:b=fill:=by simpa using e
    exact ak this
  .rintro e ⟨new,b,Lq_,E,F,H,rfl,ac,aP,a,aI,aB,ag,t⟩
   rw[T6,AF] at ac a t ⊢;rw[CI (AU _),GW (by simpa using I),aO] at t;rw[aH] at ac a ⊢;refine⟨ss++new,sp+(2+2*own),Lq_,_,_,_,_,_,_,_,_,_,rfl,?_,by lia,by lia,a,?_⟩
   .rw[AN,T,ac];exact(Nat.succ_mul i (2+2*own)).symm
   .rw[IR,AN,t,Nat.succ_mul];lia
 .rintro e ⟨ss,sp,Lq_,A,X,o,v,aE,aF,E,F,H,rfl,T,aM,Y,a,ap⟩
  rw[U7] at T Y ap;have b1:af*(2+2*own)<=18:=BA (JA ao (show 2+2*own<=6 by lia)) (by lia);have b2:8<=af*(2+2*own):=BA (by lia) (JA Q (show 4<=2+2*own by lia));have a1:CG af (af+own) sp Lq_ (⟨wires,ss,1,0⟩:G3).steps:=a;refine Ya (Y1 (Z2 (Yq (Z2 rfl rfl) rfl) (Z2 (Yq (Z2 rfl rfl) rfl) rfl))) ⟨⟨wires,ss,1,0⟩,Lq_,rfl,a1.one (by lia) rfl rfl,?_,by show 1<=wires.length;lia,by show wires.length<=5;lia,by show 2<=ss.length;lia,by show ss.length<=22;lia,rfl,?_⟩
  .exact { w2:=by show wires.length<=10;lia,s1:=by show 1<=ss.length;lia,s2:=by show ss.length<=24;lia,st:=λs hs=>by show SB 54 wires.length s;rw[D];exact CG.sb a (by lia) hs,mks:=by show 1<2^54;decide }
  .have h4:2*2<=af*(2*own):=JA Q (by lia)
   refine BA (show 2<=_ by lia) (List.Sublist.length_le (l₁:=ss.filter λs=>decide (af<=s.w)) ?_);have e:ss.filter (λs=>decide (af<=s.w))=(ss.filter (Yz ⟨wires,ss,1,0⟩)).filter λs=>decide (af<=s.w):=by
    rw[List.filter_filter];refine List.filter_congr λs hs=>?_
    cases q:decide (af<=s.w) with
    | false=>rfl
    | true =>
     have J:s.w<wires.length:=by rw[D];exact(CG.sb a (by lia) hs).w
     obtain⟨u,C⟩:∃ u,wires[s.w]?=some u:=⟨_,AK J⟩;rw[FI,Dg (G:=⟨wires,ss,1,0⟩) C,aL s.w u (AT q) C]
   rw[e];exact IH
variable{sb:St3}
theorem fS{c:Z Nat}(hs:c.Pairwise (· < ·))(ha:c[i]?=some a)(hx:x∈c)(hxa:x<a):x∈c.take i:=by
 obtain⟨k,hk⟩:=CL hx;rcases DV k i with h | h
 .exact AD (i:=k) (by rw[IQ,AH h];exact hk)
 .exfalso
  obtain⟨h1,e1⟩:=AC.mp ha;obtain⟨h2,e2⟩:=AC.mp hk;rcases DV i k with h3 | h3
  .have:=GE.mp hs i k h1 h2 h3
   lia
  .have:i=k:=by lia
   subst this;lia
theorem Q9(ps:Z Nat)(hp:∀ p∈ps,p<=1000):Vy [.tup (Zc ps)]=.ok (.int (JY ps:Int)):=by
 refine Wz (Yf (n:=3) (p:=1) (ds:=[.tup (Zc ps)]) (g:=Qh) (R:=λd=>d=.int (JY ps:Int)) rfl ?_);show Go (Qh [.fz (.tup (Zc ps)),.un,.un]) _ _;unfold Qh;refine Z7 (Zg (d:=.int 0) rfl ?_);refine Z7 (V5 (ds:=Zc ps) (λi e=>∃ (z:Int) (v:KQ),e=[.fz (.tup (Zc ps)),.fz (.int z),v]/\z=(((ps.take i).foldl (λa p=>a ||| 2^p) 0:Nat):Int)) rfl ⟨0,.un,rfl,rfl⟩ ?_ ?_)
 .rintro i x e hi ⟨z,v,rfl,rfl⟩
  obtain⟨p,hq,rfl⟩:=Hq hi;have af:=hp p (AD hq);refine⟨_,rfl,?_⟩;refine Zg (d:=.int ((((ps.take (i+1)).foldl (λa p=>a ||| 2^p) 0:Nat)):Int)) (Z5 rfl (Z5 rfl rfl (A3 p af)) ?_) ⟨_,_,rfl,rfl⟩;rw[MU,GJ,hq,IX];rfl
 .rintro e ⟨z,v,rfl,rfl⟩
  refine Ya rfl ?_;rw[AF,AF,CI (AU _)];rfl
theorem WM{z:Nat}(hb:∀ p∈l,p<B)(c:B<=57)(hz:z<57)(hn:l.Nodup)(f:z∉l)(e:l'.Perm (l++[z])):(∀ p∈l',p<57)/\l'.Nodup/\∀ q,q∈l'↔q∈l\/(true=true/\q=z):=by
 refine⟨λp hp=>?_,?_,λq=>?_⟩
 .rcases BO.mp (e.mem_iff.mp hp) with h | h
  .have:=hb p h;lia
  .rw[AJ.mp h];exact hz
 .refine e.nodup_iff.mpr (GI.mpr ⟨hn,CT.mpr ⟨by simp,DZ⟩,λa ha b d=>?_⟩)
  rw[AJ.mp d];rintro rfl;exact f ha
 .rw[e.mem_iff];simp
structure VN (G:G3) (z i:Nat) (s':St3):Prop where
 a:∃ s:St3,G.steps[i]?=some s/\∃ b:Bool,s'.w=s.w/\s'.up=s.up/\z∉s.takes/\z∉s.fills/\(∀ q,q∈s'.takes↔q∈s.takes\/(b=true/\q=z))/\(∀ q,q∈s'.fills↔q∈s.fills\/(b=true/\q=z))
 b:SB 57 G.wires.length s'
theorem lE(G:G3)(hG:Gb 54 G)(c:Nat):∃ (G':G3) (z:Nat),Jj [G.d,Ψ c]=.ok G'.d/\LH G G' z/\Gb 57 G':=by
 have:=Yf (n:=11) (p:=2) (ds:=[G.d,Ψ c]) (g:=U3) (R:=λd=>∃ (G':G3) (z:Nat),d=G'.d/\LH G G' z/\Gb 57 G') rfl ?_
 .obtain⟨d,e,z,b,rfl,h⟩:=this
  exact⟨z,b,e,h⟩
 show Go (U3 [.fz G.d,Φ c,.un,.un,.un,.un,.un,.un,.un,.un,.un]) _ _;unfold U3;refine Z7 (Zg (d:=.int (G.marks:Int)) (Z5 rfl rfl rfl) ?_);refine Z7 (V5 (ds:=G.steps.map St3.d) (λi e=>∃ (th:Nat) (v3:KQ),e=[.fz G.d,Φ c,Φ th,v3,.un,.un,.un,.un,.un,.un,.un]/\th<2^54/\(∀ j,G.marks.testBit j=true->th.testBit j=true)/\∀ s∈G.steps.take i,∀ j,j∈s.takes\/j∈s.fills->th.testBit j=true) (Np (Z5 rfl rfl rfl)) ⟨G.marks,.un,rfl,hG.mks,λj h=>h,λs hs=>by simp at hs⟩ ?_ ?_)
 .rintro i d e hi ⟨th,v3,rfl,h1,h2,h3⟩
  rw[AL] at hi;obtain⟨s,hs,rfl⟩:=map_some hi;have E:=hG.st s (AD hs);refine⟨_,rfl,?_⟩;refine Zg (Z5 (Z5 rfl (Ze (xs:=[.tup (Zc s.takes)]) (Z2 (Z5 rfl rfl rfl) rfl) (Q9 s.takes λp hp=>by have:=E.t p hp;lia)) (MU th _)) (Ze (xs:=[.tup (Zc s.fills)]) (Z2 (Z5 rfl rfl rfl) rfl) (Q9 s.fills λp hp=>by have:=E.f p hp;lia)) (MU _ _)) ⟨_,_,rfl,RL (RL h1 (WH E.t)) (WH E.f),λj h=>by rw[DP,DP,h2 j h];rfl,λr hr j hj=>?_⟩;rw[GJ,hs] at hr;rw[DP,DP,Wk,Wk];rcases BO.mp hr with h | h
  .rw[h3 r h j hj];rfl
  .have:r=s:=AJ.mp h
   subst this;rcases hj with hj | hj
   .rw[AG hj];simp
   .rw[AG hj];simp
 rintro e ⟨th,v3,rfl,h1,h2,h3⟩;rw[AF,CI (AU _)] at h3;have hc:=Vj (g:=Y8 0) (t:=dB (dO S5 (dO M9 (dO Ph (U 1) (U 0)) (Θ 1)) (Θ 0))) (f:=U 0) (env:=[.un,Φ th]) (λk:Nat=>Dat.int (k:Int)) (λk:Nat=>Dat.int (k:Int)) (λp=>!th.testBit p) (List.range 64) λp _=>⟨[Φ p,Φ th],rfl,Yj (Z5 (Z5 (Z5 rfl rfl (PM th p)) rfl (Ck th p)) rfl (ba _)),rfl⟩
 rw[<- Jp] at hc;have P:3<=((List.range 64).filter λp=>!th.testBit p).length:=by
  refine D5 [54,55,56] _ (by decide) λp hp=>DE.mpr ⟨CC.mpr ?_,?_⟩
  .have:p=54\/p=55\/p=56:=by simpa using hp
   lia
  .have:p=54\/p=55\/p=56:=by simpa using hp
   rw[DL (AO h1 (BY (by lia) (by lia)))];rfl
 have F:c % 3<((List.range 64).filter λp=>!th.testBit p).length:=by lia
 have hz:=GB F;have ez:((List.range 64).filter λp=>!th.testBit p)[c % 3]?=some _:=AK F;generalize ((List.range 64).filter λp=>!th.testBit p)[c % 3]=z at hz ez;obtain⟨hz1,aj⟩:=DE.mp hz;have m:z<57:=by
  refine Nat.lt_of_not_le λac=>?_
  have I:((List.range 64).filter λp=>!th.testBit p).Pairwise (· < ·):=List.Pairwise.filter _ List.pairwise_lt_range;have H:=D5 [54,55,56] (((List.range 64).filter λp=>!th.testBit p).take (c % 3)) (by decide) λp hp=>by
   have C:p=54\/p=55\/p=56:=by simpa using hp
   refine fS I ez (DE.mpr ⟨CC.mpr (by lia),?_⟩) (by lia);rw[DL (AO h1 (BY (by lia) (by lia)))];rfl
  rw[CP] at H;have h3'':3<=min (c % 3) ((List.range 64).filter λp=>!th.testBit p).length:=H;lia
 have v:th.testBit z=false:=by simpa using aj
 have J:∀ s∈G.steps,z∉s.takes/\z∉s.fills:=λs hs=>⟨λh=>absurd (h3 s hs z (.inl h)) (by rw[v];decide),λh=>absurd (h3 s hs z (.inr h)) (by rw[v];decide)⟩
 have N:G.marks.testBit z=false:=by
  cases h:G.marks.testBit z with
  | false=>rfl
  | true=>rw[h2 z h] at v;cases v
 refine Z7 (Zg (d:=.int (z:Int)) (Z5 (Wl (W4 (xs:=rng 0 64) (Yv (Z2 rfl rfl) (by lia)) rfl hc)) (Z5 rfl rfl (Te c 3)) (Um (by rw[AL,ez];rfl))) ?_);refine Z7 (Tr (ds:=([]:Z St3).map St3.d) rfl ?_);refine Z7 (V5 (ds:=Ra 0 (G.steps.map St3.d)) (λi e=>∃ (ss:Z St3) (v3 u l A X o:KQ),e=[.fz G.d,Φ c,Φ th,v3,Φ z,.ow (ss.map St3.d),u,l,A,X,o]/\ss.length=i/\∀ (j:Nat) (s:St3),ss[j]?=some s->VN G z j s) (by unfold N4;rw[Np (xs:=G.steps.map St3.d) (Z5 rfl rfl rfl)];rfl) ⟨[],v3,.un,.un,.un,.un,.un,rfl,rfl,λj s h=>(by simp at h)⟩ ?_ ?_)
 .rintro i d e hi ⟨ss,v3,u,l,A,X,o,rfl,T,y⟩
  obtain⟨x,hx,rfl⟩:=De hi;rw[AL] at hx;obtain⟨s,hs,rfl⟩:=map_some hx;have D:=AD hs;have E:=hG.st s D;have al:=(AC.mp hs).1;have hs24:=hG.s2;obtain⟨n1,n2⟩:=J s D;have ai:s.takes.length<=54:=Kl E.tn E.t;have ak:s.fills.length<=54:=Kl E.fn E.f;refine⟨[.fz G.d,Φ c,Φ th,.fz s.d,Φ z,.ow (ss.map St3.d),Φ i,l,A,X,o],rfl,?_⟩;refine Z7 (YD (d:=s.d) (env':=[.fz G.d,Φ c,Φ th,.fz s.d,Φ z,.ow (ss.map St3.d),Φ i,.fz (.int (s.w:Int)),.fz (.bl s.up),.fz (.tup (Zc s.takes)),.fz (.tup (Zc s.fills))]) rfl rfl ?_);have B:∀ (t f:Z Nat),VN G z i ⟨s.w,s.up,t,f⟩->Go (J5 5 Vh (O (W6 (O (U 7) (O (U 8) (O (U 9) (O (U 10) Zb))))) Zb) [.fz G.d,Φ c,Φ th,.fz s.d,Φ z,.ow (ss.map St3.d),Φ i,.fz (.int (s.w:Int)),.fz (.bl s.up),.fz (.tup (Zc t)),.fz (.tup (Zc f))]) (λe=>∃ (ss:Z St3) (v3 u l A X o:KQ),e=[.fz G.d,Φ c,Φ th,v3,Φ z,.ow (ss.map St3.d),u,l,A,X,o]/\ss.length=i+1/\∀ (j:Nat) (s:St3),ss[j]?=some s->VN G z j s) (λd=>∃ (G':G3) (z:Nat),d=G'.d/\LH G G' z/\Gb 57 G'):=λt f hl=>by
   refine Q5 (ds:=ss.map St3.d) (as:=[(⟨s.w,s.up,t,f⟩:St3).d]) (ds':=(ss++[(⟨s.w,s.up,t,f⟩:St3)]).map St3.d) rfl (Z2 (Y1 rfl) rfl) (by rw[Ut (by rw[AF];lia),BP];rfl) ⟨_,_,_,_,_,_,_,rfl,by rw[AN,BX,T],λj r hr=>?_⟩;rcases Br hr with⟨_,h⟩ | ⟨h1,h2⟩
   .exact y j r h
   .rw[h2,h1,T];exact hl
  refine Z7 (Ti (Yj (Z5 (Z5 (Z5 (Z5 rfl rfl (U8 c 3)) rfl (PM _ i)) rfl (Ck _ i)) rfl (ZR _))) (λ_=>?_) (λ_=>Yl ?_))
  .obtain⟨t,M,pt⟩:=Lx (s.takes++[z]) (by rw[AN,BX];lia)
   obtain⟨f,ef,Q⟩:=Lx (s.fills++[z]) (by rw[AN,BX];lia);have a1:A0 (.tup (Zc s.takes)) (.tup [Ψ z])=some (.tup (Zc (s.takes++[z]))):=by
    rw[Nn (by unfold Zc;rw[AF,AF];show _+1<=_;lia),<- Gr];rfl
   have a2:A0 (.tup (Zc s.fills)) (.tup [Ψ z])=some (.tup (Zc (s.fills++[z]))):=by
    rw[Nn (by unfold Zc;rw[AF,AF];show _+1<=_;lia),<- Gr];rfl
   refine Z7 (Zg (d:=.tup (Zc t)) (Yq (Z2 (Wl (Yq (Z2 (Z5 rfl (Y1 (Z2 rfl rfl)) a1) rfl) M)) rfl) rfl) ?_);refine Zg (d:=.tup (Zc f)) (Yq (Z2 (Wl (Yq (Z2 (Z5 rfl (Y1 (Z2 rfl rfl)) a2) rfl) ef)) rfl) rfl) ?_;obtain⟨t1,t2,t3⟩:=WM E.t (by lia) m E.tn n1 pt;obtain⟨f1,f2,f3⟩:=WM E.f (by lia) m E.fn n2 Q;exact B t f ⟨⟨s,hs,true,rfl,rfl,n1,n2,t3,f3⟩,⟨E.w,t1,f1,t2,f2⟩⟩
  .exact B s.takes s.fills ⟨⟨s,hs,false,rfl,rfl,n1,n2,λq=>by simp,λq=>by simp⟩,⟨E.w,λp hp=>by have:=E.t p hp;lia,λp hp=>by have:=E.f p hp;lia,E.tn,E.fn⟩⟩
 rintro e ⟨ss,v3,u,l,A,X,o,rfl,T,y⟩;rw[T6,AF] at T;have:=hG.s1;have:=hG.s2;have:=hG.w2;refine Ya (Y1 (Z2 (Z5 rfl rfl rfl) (Z2 (Yq (Z2 rfl rfl) rfl) (Z2 (Z5 (Z5 rfl rfl rfl) (Z5 rfl rfl (A3 z (by lia))) (MU G.marks _)) (Z2 (Z5 rfl rfl rfl) rfl))))) ⟨⟨G.wires,ss,G.marks ||| 2^z,G.code⟩,z,rfl,?_,?_⟩
 .exact { ws:=rfl,len:=T,ma:=rfl,mz:=N,cd:=rfl,st:=λi s hs=>(y i s hs).a }
 .exact { w2:=hG.w2,s1:=by show 1<=ss.length;lia,s2:=by show ss.length<=24;lia,st:=λs hs=>by obtain⟨i,hi⟩:=CL hs;exact(y i s hi).b,mks:=RL (AO hG.mks (BY (by lia) (by lia))) (HZ (by lia) m) }
theorem gv(e:Mj [G.d,Ψ am]=.exc c fl):Q3 [G.d,Ψ am]=.exc c fl:=by
 show(match Ic [.fz G.d,Φ am,.un,.un,.un,.un,.un,.un,.un] with | .ret d=>Rs.ok d | .next _=>.ok .non | .exc _ c fs=>.exc c fs | _=>.no)=_;unfold Ic Zd;rw[C8 (ds:=[G.d,Ψ am]) rfl e]
theorem gK(e:fs env=some ds)(h:F ds=.ok d):G8 F fs env=.next env:=by unfold G8;rw[e];dsimp only;rw[h]
noncomputable def SX:Z Str:=NM
noncomputable def VQ(c:Str)(fl:Z (Str×XD)):Prop:=VM c fl\/(c="CalledOff" /\ ∃ (ks:Z Nat) (a b:Nat),fl=RK ks a b)
theorem VQ.known(h:VQ c fl):c∈SX:=by
 rcases h with(⟨rfl | rfl,_⟩ | ⟨rfl,_⟩) | ⟨rfl,_⟩<;>(unfold SX;simp)
theorem eh(hG:Gb 64 G)(am:Nat)(Q:1<=am)(ao:am<=400):(∃ ae,Q3 [G.d,Ψ am]=.ok (.lst (ae.map Rw.d))/\LS G am ae)\/∃ c fl,Q3 [G.d,Ψ am]=.exc c fl/\VQ c fl:=by
 rcases Oc hG am Q ao with⟨d,es,ae,rfl,W⟩ | ⟨c,fl,es,hr,hs⟩
 .rcases Fj hG ao es W with⟨d,e,rfl⟩ | ⟨c,fl,e,rfl,hf,_⟩
  .exact .inl ⟨ae,e,W⟩
  .exact .inr ⟨_,fl,e,.inr ⟨rfl,hf⟩⟩
 .exact .inr ⟨c,fl,gv es,.inl hs⟩
theorem YF(hc:LC G I)(t:TT G ae):∀ r∈ae,I r.st:=by
 have ah:∀ (n:Nat) (r:Rw),ae[n]?=some r->I r.st:=by
  intro n;induction n using strongRecOn with
  | _ n ih =>
   intro r hr;rcases DA n with z | z
   .subst z
    rw[t.zero] at hr;cases hr;exact hc.ini
   .obtain⟨f,k,s,c,_,a2,a3,a4,a5,a6⟩:=t.src n r hr z
    rw[a6];exact hc.nxt c.st s (ih f a2 c a4) (AD a3) a5
 intro r hr;obtain⟨n,hn⟩:=CL hr;exact ah n r hn
theorem RG.ws{two:Nat->Nat}(h:RG G n s0 one two rs)(ws:Z (Str×Bool)):RG ⟨ws,G.steps,G.marks,G.code⟩ n s0 one two rs where
 ne:=h.ne
 ring:=h.ring
 inj:=h.inj
 mks:=h.mks
 st:=λs hs=>by obtain⟨d,hd⟩:=h.st s hs;exact⟨d,hd.w,hd.dl,hd.tk,hd.fl,hd.lev⟩
theorem fJ{two:Nat->Nat}(h:RG G n s0 one two rs)(ay:1<=n)(he:∀ q∈rs,q.1<2*n/\q.2<2*n)(hk:k<2^(2*n))(hi:RI G n s0 one two rs k p):∃ k',k'<2^(2*n - 1)/\RI G n s0 one two rs k' p:=by
 have x:∀ j,2*n<=j->k.testBit j=false:=λj hj=>DL (AO hk (BY (by lia) hj))
 cases hb:k.testBit (2*n - 1) with
 | false =>
  refine⟨k,GG _ λj hj=>?_,hi⟩;rcases DV j (2*n) with z | z
  .rw[show j=2*n - 1 by lia];exact hb
  .exact x j z
 | true =>
  have fl:∀ j,(k ^^^ (2^(2*n) - 1)).testBit j=(k.testBit j ^^ decide (j<2*n)):=λj=>by rw[GC,Nat.testBit_two_pow_sub_one]
  have l:∀ i j,i<2*n->j<2*n->((k ^^^ (2^(2*n) - 1)).testBit i ^^ (k ^^^ (2^(2*n) - 1)).testBit j)=(k.testBit i ^^ k.testBit j):=λi j h1 h2=>by
   rw[fl,fl,AG h1,AG h2];cases k.testBit i<;>cases k.testBit j<;>rfl
  refine⟨k ^^^ (2^(2*n) - 1),GG _ λj hj=>?_,?_,?_,hi.o,?_⟩
  .rw[fl]
   rcases DV j (2*n) with z | z
   .rw[show j=2*n - 1 by lia,hb,AG (by lia)];rfl
   .rw[x j z,AB (by lia)];rfl
  .intro t q e
   obtain⟨h1,h2⟩:=he q (AD e);rw[l _ _ h1 h2];exact hi.a t q e
  .intro t q e
   obtain⟨h1,h2⟩:=he q (AD e);rw[l _ _ h1 h2];exact hi.b t q e
  .intro w
   rw[hi.c];by_cases J:w<n
   .obtain⟨h1,h2⟩:=he _ (h.ring w J)
    rw[l _ _ h1 h2]
   .rw[AB J,JS,JS]
theorem dJ{two:Nat->Nat}(h1:RI G n s0 one two rs k p)(h2:RI G n s0 one two rs k q):p=q:=by
 refine FW (BM λj=>?_) (BM λj=>by rw[h1.c,h2.c]);by_cases hj:∀ t,t<rs.length->j≠s0+2*t/\j≠s0+2*t+1
 .rw[h1.o j hj,h2.o j hj]
 .simp only[Classical.not_forall] at hj
  obtain⟨t,ht,hj⟩:=hj;have e:rs[t]?=some rs[t]:=AK ht;by_cases e1:j=s0+2*t
  .rw[e1,h1.a t _ e,h2.a t _ e]
  .have e2:j=s0+2*t+1:=GH λe2=>hj ⟨e1,e2⟩
   rw[e2,h1.b t _ e,h2.b t _ e]
theorem gw(hG:Gb 64 G)(hc:LC G I)(hr:Ln G):∃ d,Q3 [G.d,.int ((400:Nat):Int)]=.ok d:=by
 rcases Oc hG 400 (by lia) (by lia) with⟨d,es,ae,rfl,W⟩ | ⟨c,fl,es,o,_⟩
 .rcases Fj hG (by lia) es W with⟨d,e,rfl⟩ | ⟨c,fl,e,_,_,hp⟩
  .exact⟨_,e⟩
  .exact absurd hr hp
 .exfalso
  rcases o with⟨_,ae,t,hl⟩ | ⟨_,ae,r,k,s,t,a,hs,g,hf⟩
  .have N:=YF hc t
   have:=hc.few (ae.map Rw.st) t.nd λp hp=>by
    obtain⟨r,hr,rfl⟩:=DJ.mp hp;exact N r hr
   rw[AF] at this;lia
  .have N:=YF hc t r a
   have hm:=AD hs;exact hf ⟨g,hc.lev _ s N hm g,hc.room _ s N hm g⟩
theorem Ik(e:Q3 [G.d,.int ((400:Nat):Int)]=.ok d):Wm [G.d]=.ok (.bl true):=by
 show(match Wu [.fz G.d,.un] with | .ret d=>Rs.ok d | .next _=>.ok .non | .exc _ c fs=>.exc c fs | _=>.no)=_;unfold Wu Zd Zw SD NL;dsimp only[dC];rw[gK (ds:=[G.d,.int ((400:Nat):Int)]) rfl e];rfl
theorem lh(e:Q3 [G.d,.int ((400:Nat):Int)]=.exc c fl)(hc:c∈SX):Wm [G.d]=.ok (.bl false):=by
 show(match Wu [.fz G.d,.un] with | .ret d=>Rs.ok d | .next _=>.ok .non | .exc _ c fs=>.exc c fs | _=>.no)=_;unfold Wu Zd Zw SD NL;dsimp only[dC];rw[lu (ds:=[G.d,.int ((400:Nat):Int)]) rfl e];dsimp only;rw[AH (show c∈([Str.ofString "Broken",Str.ofString "Crowded",Str.ofString "TooMany",Str.ofString "CalledOff"]:Z Str) from hc),AH rfl];rfl
theorem Ae(hG:Gb 64 G):∃ b:Bool,Wm [G.d]=.ok (.bl b):=by
 rcases eh hG 400 (by lia) (by lia) with⟨ae,e,_⟩ | ⟨c,fl,e,hs⟩
 .exact⟨true,Ik e⟩
 .exact⟨false,lh e hs.known⟩
theorem T3(f:α->Dat)(xs:Z α):Vp [.tup (xs.map f)]=some (.int ((xs.length:Nat):Int)):=by
 show some (Dat.int ((xs.map f).length:Int))=_;rw[AF]
structure Sk (B Lq_ n:Nat) (s:St3):Prop where
 w:s.w<n
 t:∀ p∈s.takes,p<B
 f:∀ p∈s.fills,p<B
 tl:s.takes.length<=Lq_
 fl:s.fills.length<=Lq_
structure Gk (B Lq_:Nat) (G:G3):Prop where
 w1:1<=G.wires.length
 w2:G.wires.length<=5
 s1:2<=G.steps.length
 s2:G.steps.length<=22
 st:∀ s∈G.steps,Sk B Lq_ G.wires.length s
 mks:G.marks<2^B
theorem Bf(G:G3)(hG:Gk B Lq_ G)(w:Nat)(J:w<G.wires.length):∃ G':G3,Tj [G.d,Ψ w]=.ok G'.d/\Gk B Lq_ G'/\(∃ u∈G'.wires,u.2=true)/\∃ x,G'=⟨G.wires.set w (x,true),G.steps,G.marks,G.code⟩:=by
 obtain⟨ws,ss,mk,code⟩:=G;have f:w<ws.length:=J;obtain⟨u,C⟩:∃ u,ws[w]?=some u:=⟨_,AK f⟩;refine⟨⟨ws.set w (u.1,true),ss,mk,code⟩,?_,?_,⟨(u.1,true),List.mem_set f _,rfl⟩,u.1,rfl⟩
 .refine Wz (Yf (n:=3) (p:=2) (ds:=[(⟨ws,ss,mk,code⟩:G3).d,Ψ w]) (g:=V6) (R:=λd=>d=_) rfl ?_)
  show Go (V6 [.fz (⟨ws,ss,mk,code⟩:G3).d,Φ w,.un]) _ _;unfold V6;refine Z7 (Tr (ds:=ws.map Ub) (Yq (Z2 (Z5 rfl rfl rfl) rfl) rfl) ?_);refine Z7 (Ex (k:=w) (d:=Ub (u.1,true)) rfl (Y1 (Z2 (Z5 (Z5 rfl rfl (Um (x:=Ub u) (by rw[AL,C];rfl))) rfl rfl) rfl)) rfl (by rw[AF];exact f) ?_);refine Ya (Z5 (Y1 (Z2 (Yq (Z2 rfl rfl) rfl) rfl)) (Gv (z:=.tup [.tup (ss.map St3.d),Ψ mk,Ψ code]) rfl (Uf rfl) rfl rfl) (Nn (by simp))) ?_;show _=G3.d _;unfold G3.d;rw[map_set];rfl
 .exact { w1:=by show 1<=(ws.set w _).length;rw[BN];exact hG.w1,w2:=by show(ws.set w _).length<=5;rw[BN];exact hG.w2,s1:=hG.s1,s2:=hG.s2,st:=λs hs=>by show Sk B Lq_ (ws.set w _).length s;rw[BN];exact hG.st s hs,mks:=hG.mks }
noncomputable def Lp(G:G3)(k:Nat):Bool:=G.marks.testBit k||G.steps.any λs=>decide (k∈s.takes)||decide (k∈s.fills)
noncomputable def frees(G:G3):Z Nat:=(List.range 64).filter λk=>!Lp G k
theorem XE(hG:Gk B Lq_ G)(h:Lp G k=true):k<B:=by
 unfold Lp at h;rcases Bool.or_eq_true_iff.mp h with h | h
 .rcases DV k B with q | q
  .exact q
  .rw[DL (AO hG.mks (BY (by lia) q))] at h;cases h
 .obtain⟨s,hs,h⟩:=JI.mp h
  rcases Bool.or_eq_true_iff.mp h with h | h
  .exact(hG.st s hs).t k (AT h)
  .exact(hG.st s hs).f k (AT h)
theorem jw(hG:Gk B Lq_ G)(c:B<=62):∃ x y aj,frees G=x::y::aj/\x<y/\y<=B+1:=by
 have m1:B∈frees G:=DE.mpr ⟨CC.mpr (by lia),by
  cases h:Lp G B with
  | false=>rfl
  | true=>have:=XE hG h;lia⟩
 have m2:B+1∈frees G:=DE.mpr ⟨CC.mpr (by lia),by
  cases h:Lp G (B+1) with
  | false=>rfl
  | true=>have:=XE hG h;lia⟩
 have hs:(frees G).Pairwise (· < ·):=List.Pairwise.filter _ List.pairwise_lt_range;generalize frees G=fs at m1 m2 hs;match fs,m1,m2,hs with
 | [x],m1,m2,_=>have:=AJ.mp m1;have:=AJ.mp m2;lia
 | x::y::aj,m1,m2,hs =>
  have h1:=HE.mp hs;have h2:=HE.mp h1.2;have f:=h1.1 y AX;refine⟨x,y,aj,rfl,f,?_⟩;rcases BK.mp m2 with q | q
  .rcases BK.mp m1 with p | p
   .lia
   .have:=h1.1 _ p;lia
  .rcases BK.mp q with q | q
   .lia
   .have:=h2.1 _ q;lia
theorem E3(G:G3)(hG:Gk B Lq_ G)(c:B<=62):Qu [G.d]=.ok (.lst (Zc (frees G))):=by
 refine Wz (Yf rfl ?_);unfold My;refine Z7 (Zg (d:=.int (G.marks:Int)) (Z5 rfl rfl rfl) ?_);have ac:dF Vp (O (dO Yd (U 0) (Θ 1)) Zb) [.fz G.d,.fz (.int (G.marks:Int)),.un]=some (.int ((G.steps.length:Nat):Int)):=Yq (Z2 (Z5 rfl rfl rfl) rfl) (by show some (Dat.int ((G.steps.map St3.d).length:Int))=_;rw[AF]);refine Z7 (V5 (ds:=rng 0 G.steps.length) (λi e=>∃ (u:Nat) (v:KQ),e=[.fz G.d,Φ u,v]/\∀ k,u.testBit k=(G.marks.testBit k||(G.steps.take i).any λs=>decide (k∈s.takes)||decide (k∈s.fills))) (Yv (Z2 ac rfl) (by have:=hG.s2;lia)) ⟨G.marks,.un,rfl,λk=>by simp⟩ ?_ ?_)
 · rintro i d e hi ⟨u,v,rfl,C⟩
   obtain⟨I,rfl⟩:=Uz hi;rw[DC];refine⟨_,rfl,?_⟩;obtain⟨s,hs⟩:∃ s,G.steps[i]?=some s:=⟨_,AK I⟩;have hk:=hG.st s (AD hs);refine Zg (Z5 (Z5 rfl (Ze (xs:=[.tup (Zc s.takes)]) (Z2 (Ze (xs:=[G.d,Ψ i]) rfl (Qi G i s hs)) rfl) (Q2 s.takes λp hp=>by have:=hk.t p hp;lia)) (MU u _)) (Ze (xs:=[.tup (Zc s.fills)]) (Z2 (Ze (xs:=[G.d,Ψ i]) rfl (Iq G i s hs)) rfl) (Q2 s.fills λp hp=>by have:=hk.f p hp;lia)) (MU _ _)) ⟨_,_,rfl,λk=>?_⟩;rw[DP,DP,C,Wk,Wk,GJ,hs];simp[List.any_append,Bool.or_assoc]
 · rintro e ⟨u,v,rfl,C⟩
   rw[U7,CI (AU _)] at C;have hc:V2 (Y8 0) (Jf (dT (Zx Mn (O (U 1) (O (U 0) Zb))))) (U 0) [.un,Φ u] (rng 0 64)=some (Zc (frees G)):=by
     rw[Jp,Vj (λk:Nat=>Dat.int (k:Int)) (λk:Nat=>Dat.int (k:Int)) (λk=>!Lp G k) (List.range 64) λk _=>⟨[Φ k,Φ u],rfl,Q0 (Qg (by rw[show Lp G k=u.testBit k from(C k).symm];exact Ze (xs:=[Ψ u,Ψ k]) rfl (U' u k))),rfl⟩,W0];rfl
   exact Ya (Wl (W4 (xs:=rng 0 64) (Yv (Z2 rfl rfl) (by lia)) rfl hc)) rfl
variable{fl:Z Nat}
theorem Xb[BEq α][LawfulBEq α]:∀ (l b:Z α),l.Nodup->(∀ x∈l,x∈b)->l.length<=b.length
 | [],b,_,_=>CZ _
 | x::l,b,hn,hs=>by
  have hx:=CT.mp hn;have h1:=Xb l (b.erase x) hx.2 λy hy=>(List.mem_erase_of_ne (show y≠x fromλe=>hx.1 (e▸hy))).mpr (hs y (BB _ hy))
  have h2:=List.length_erase_of_mem (hs x AX);have h3:=List.length_pos_of_mem (hs x AX);rw[BJ];lia
noncomputable def kept:Z Str:=RA
theorem mQ:∀ k∈List.range 26,RU ⟨#[97+k]⟩ Vu=true:=by ext
theorem Bu(z:Str)(h1:1<=z.length)(h2:z.length<=8)(h3:∀ c∈cl z,∃ k,k<26/\c=97+k)(h4:z∉kept):Tw [.str z]=.ok (.bl true):=by
 refine Wz (Yf rfl ?_);unfold Km;refine Z7 (Us (Ga (a:=false) (b:=false) (Yj (Z5 rfl rfl (show PD (.int (z.length:Int)) (.int 1)=some (.bl false) from(by show some (Dat.bl (decide ((z.length:Int)<1)))=_;rw[AB (by lia)])))) λ_=>Ga (a:=false) (b:=false) (Yj (Z5 rfl rfl (show PR (.int (z.length:Int)) (.int 8)=some (.bl false) from(by show some (Dat.bl (decide ((8:Int)<(z.length:Int))))=_;rw[AB (by lia)])))) λ_=>Yj (Z5 rfl rfl (show Bz (.str z) (.tup (kept.map .str))=some (.bl false) from(by rw[eQ,AB h4])))) (Yl ?_));refine Ya (d:=.bl true) (Yq (Z2 (Wl (ds:=((cl z).map λc=>RU ⟨#[c]⟩ Vu).map .bl) (W4 (xs:=(cl z).map λc=>Dat.str ⟨#[c]⟩) (env':=[.un]) rfl rfl ?_)) rfl) ?_) rfl
 .rw[Uv (λc=>Dat.str ⟨#[c]⟩) (λc=>.bl (RU ⟨#[c]⟩ Vu)) (cl z) λc _=>⟨[.fz (.str ⟨#[c]⟩)],rfl,rfl,rfl⟩,EZ];rfl
 .rw[cj,List.all_map]
  congr 2
  refine CW.mpr λc hc=>?_
  obtain⟨k,hk,rfl⟩:=h3 c hc;exact mQ k (CC.mpr hk)
noncomputable def Sr(c m k:Nat):Str:=⟨((List.range m).map λj=>97+(c / 8+11*j+k) % 26).toArray⟩
theorem Ro(c m k:Nat):cl (Sr c m k)=(List.range m).map λj=>97+(c / 8+11*j+k) % 26:=rfl
theorem f'{c:Nat}(hm:1<=m)(hj:j<26)(hk:k<26)(h:Sr c m j=Sr c m k):j=k:=by
 have e:=DY cl h;rw[Ro,Ro] at e;have e0:=DY (λl=>l[0]?) e;simp only[AL,FO (show 0<m by lia),HW,GZ] at e0;lia
theorem Cy(z:Str)(ws:Z Str):Eb (.str z) (.lst (ws.map .str))=some (.bl (!decide (z∈ws))):=by unfold Eb;rw[bq];rfl
theorem kY(c:Nat)(ws:Z (Str×Bool))(J:ws.length<=5):∃ z:Str,Uq [Ψ c,.tup (ws.map Ub)]=.ok (.str z)/\z∉ws.map (·.1)/\Tw [.str z]=.ok (.bl true):=by
 have:=Yf (n:=7) (p:=2) (ds:=[Ψ c,.tup (ws.map Ub)]) (g:=Uo) (R:=λd=>∃ z:Str,d=.str z/\z∉ws.map (·.1)/\Tw [.str z]=.ok (.bl true)) rfl ?_
 .obtain⟨d,e,z,rfl,h⟩:=this
  exact⟨z,e,h⟩
 unfold Uo;refine Z7 (Zg (d:=.str Vu) rfl ?_);have hc:V2 (Y8 0) Ug (dO Yd (U 0) (Θ 0)) [.un] (ws.map Ub)=some ((ws.map (·.1)).map .str):=by
  rw[Uv Ub (λw=>.str w.1) ws λw _=>⟨[.fz (Ub w)],rfl,rfl,Z5 rfl rfl rfl⟩,EZ];rfl
 refine Z7 (Zg (Wl (W4 (xs:=ws.map Ub) rfl rfl hc)) ?_);obtain⟨m,hm,Q,ao⟩:∃ m:Nat,1+c % 8=m/\1<=m/\m<=8:=⟨_,rfl,by lia,by lia⟩;refine Z7 (V5 (ds:=rng 0 26) (λi e=>∃ (v4 v5 u:KQ),e=[Φ c,.fz (.tup (ws.map Ub)),.fz (.str Vu),.fz (.lst ((ws.map (·.1)).map .str)),v4,v5,u]/\∀ k,k<i->Sr c m k∈ws.map (·.1)++kept) (Yv (Z2 rfl rfl) (by lia)) ⟨.un,.un,.un,rfl,by lia⟩ ?_ ?_)
 .rintro i d e hi ⟨v4,v5,u,rfl,f⟩
  obtain⟨I,rfl⟩:=Uz hi;rw[DC];refine⟨_,rfl,?_⟩;refine Z7 (Zg (d:=.str (Sr c 0 i)) rfl ?_);refine Z7 (V5 (ds:=rng 0 m) (λj e=>∃ (u:KQ),e=[Φ c,.fz (.tup (ws.map Ub)),.fz (.str Vu),.fz (.lst ((ws.map (·.1)).map .str)),Φ i,.fz (.str (Sr c j i)),u]) (Yv (Z2 (by rw[<- hm];exact Z5 rfl (Z5 rfl rfl (Te c 8)) (U6 1 _)) rfl) (by lia)) ⟨u,rfl⟩ ?_ ?_)
  .rintro j d e hj ⟨u,rfl⟩
   obtain⟨ag,rfl⟩:=Uz hj;rw[DC];refine⟨_,rfl,?_⟩;have hx:=Ox (j:=(((c / 8+11*j+i) % 26:Nat):Int)) (by lia) (by lia);have hz:Sr c j i++(⟨#[97+(c / 8+11*j+i) % 26]⟩:Str)=Sr c (j+1) i:=jf (by rw[TW,Ro,Ro,List.range_succ,BP];rfl);have hl:(Sr c j i).length=j:=by rw[<- Mg,Ro,AF,DK]
   refine Zg (d:=.str (Sr c (j+1) i)) (Z5 rfl (Z5 rfl (Z5 (Z5 (Z5 (Z5 rfl rfl (U8 c 8)) (Z5 rfl rfl (RP 11 j (by lia))) (U6 _ _)) rfl (U6 _ _)) rfl (Te _ 26)) hx) ?_) ⟨_,rfl⟩;rw[BS,Ab (by show _+1<=_;lia),hz]
  .rintro e ⟨u,rfl⟩
   rw[U7];have a:=Cy (Sr c m i) kept;refine Ti (Dd (Yj (Z5 rfl rfl (Cy (Sr c m i) (ws.map (·.1))))) λ_=>Yj (Z5 rfl rfl a)) (λhb=>?_) (λhb=>Yl ?_)
   .rw[AW] at hb
    have n1:Sr c m i∉ws.map (·.1):=by simpa using hb.1
    have n2:Sr c m i∉kept:=by simpa using hb.2
    have hl:(Sr c m i).length=m:=by rw[<- Mg,Ro,AF,DK]
    exact Ya rfl ⟨_,rfl,n1,Bu _ (by lia) (by lia) (λx hx=>by
     rw[Ro] at hx;obtain⟨j,_,rfl⟩:=DJ.mp hx;exact⟨_,FY _ (by lia),rfl⟩) n2⟩
   .refine⟨_,_,_,rfl,λk hk=>?_⟩
    rcases DV k i with h | h
    .exact f k h
    .obtain rfl:k=i:=by lia
     rw[BO];by_cases q:Sr c m k∈ws.map (·.1)
     .exact .inl q
     .right
      rw[AB q] at hb;simpa using hb
 .rintro e ⟨v4,v5,u,rfl,f⟩
  exfalso;rw[U7] at f;have h1:((List.range 26).map (Sr c m)).Nodup:=by
   refine List.pairwise_map.mpr (List.Pairwise.imp_of_mem ?_ List.nodup_range);intro x y hx hy ae h;exact ae (f' Q (CC.mp hx) (CC.mp hy) h)
  have h2:=Xb _ (ws.map (·.1)++kept) h1 λz hz=>by
   obtain⟨k,hk,rfl⟩:=DJ.mp hz;exact f k (CC.mp hk)
  rw[AF,DK,AN,AF] at h2;have h3:kept.length=5:=rfl;lia
theorem h6(G:G3):Au [G.d]=.ok (.lst ((G.wires.map (·.1)).map .str)):=by
 refine Wz (Yf rfl ?_);unfold As;refine Ya (Wl (W4 (xs:=G.wires.map Ub) (env':=[.un,.un]) (Np (Z5 rfl rfl rfl)) rfl (Uv Ub (λw=>.str w.1) G.wires λw _=>⟨[.fz (.str w.1),.fz (.str (if w.2 then "made" else "given"))],rfl,rfl,rfl⟩))) ?_;rw[EZ];rfl
theorem fc(G:G3)(hG:Gk B Lq_ G)(c:B<=62)(hf:frees G=x::y::aj):Ef [G.d]=.ok (.bl true):=by
 refine Wz (Yf rfl ?_);unfold Eg;have h1:=hG.w2;have h2:=hG.s2;refine Z7 (Us (Ga (a:=false) (b:=false) (Yj (Z5 (Yq (Z2 (Z5 rfl rfl rfl) rfl) (T3 Ub G.wires)) rfl (by show some (Dat.bl (decide ((9:Int)<(G.wires.length:Int))))=_;rw[AB (by lia)]))) λ_=>Yj (Z5 (Yq (Z2 (Z5 rfl rfl rfl) rfl) (T3 St3.d G.steps)) rfl (by show some (Dat.bl (decide ((22:Int)<(G.steps.length:Int))))=_;rw[AB (by lia)]))) (Yl ?_));refine Ya (Z5 (Yq (Z2 (Ze (xs:=[G.d]) rfl (E3 G hG c)) rfl) (Tn _)) rfl rfl) ?_;rw[hf];show Dat.bl (decide ((2:Int)<=((aj.length+1+1:Nat):Int)))=_;rw[AG (by lia)]
theorem Az(G:G3)(hG:Gk B Lq_ G)(c:B<=62)(hf:frees G=x::y::aj)(z:Str)(hz:z∉G.wires.map (·.1))(hn:Tw [.str z]=.ok (.bl true)):Sv [G.d,.str z]=.ok .non:=by
 refine Wz (Yf rfl ?_);unfold So;exact Us (Ga (a:=false) (b:=false) (Q0 (b:=true) (Qg (Ze (xs:=[.str z]) rfl hn))) λ_=>Ga (a:=false) (b:=false) (Yj (Z5 rfl (Ze (xs:=[G.d]) rfl (h6 G)) (by rw[WJ,AB hz]))) λ_=>Q0 (b:=true) (Qg (Ze (xs:=[G.d]) rfl (fc G hG c hf)))) (Yl rfl)
theorem fZ(c:Z Nat)(a b:Nat)(h:a≠b)(ha:a∈c)(hb:b∈c):Eh [.lst (Zc c),Ψ a,Ψ b]=.ok .non:=by
 refine Wz (Yf rfl ?_);unfold G5;exact Us (Ga (a:=false) (b:=false) (Yj (Z5 rfl rfl (by rw[MW];congr 2;exact CO.mpr h))) λ_=>Ga (a:=false) (b:=false) (Yj (Z5 rfl rfl (by rw[Cu,AG ha];rfl))) λ_=>Yj (Z5 rfl rfl (by rw[Cu,AG hb];rfl))) (Yl rfl)
noncomputable def RF(G:G3):Z Nat:=(List.range G.steps.length).filter λk=>(G.steps[k]?.map (Yz G)).getD false
theorem Xk(h:G.steps[k]?=some s)(hm:Yz G s=true):k∈RF G :=
 DE.mpr ⟨CC.mpr (AC.mp h).1,by rw[h];exact hm⟩
theorem X8(G:G3)(hG:Gk B Lq_ G):R3 [G.d]=.ok (.lst (Zc (RF G))):=by
 refine Wz (Yf rfl ?_);unfold R7;have hc:V2 (Y8 0) (dT (Zx Qx (O (U 1) (O (Zx Tt (O (U 1) (O (U 0) Zb))) Zb)))) (U 0) [.un,.fz G.d] (rng 0 G.steps.length)=some (Zc (RF G)):=by
  rw[Jp,Vj (λk:Nat=>Dat.int (k:Int)) (λk:Nat=>Dat.int (k:Int)) (λk=>(G.steps[k]?.map (Yz G)).getD false) (List.range G.steps.length) λk hk=>by
   obtain⟨s,hs⟩:∃ s,G.steps[k]?=some s:=⟨_,AK (CC.mp hk)⟩;have J:=(hG.st s (AD hs)).w;obtain⟨u,C⟩:∃ u,G.wires[s.w]?=some u:=⟨_,AK J⟩;refine⟨[Φ k,.fz G.d],rfl,?_,rfl⟩;rw[hs];show _=some (Yz G s);rw[Dg C];exact Qg (Ze (xs:=[G.d,.int (s.w:Int)]) (Z2 rfl (Z2 (Ze (xs:=[G.d,Ψ k]) rfl (Is G k s hs)) rfl)) (G7 G s.w u C)),W0]
  rfl
 exact Ya (Wl (W4 (xs:=rng 0 G.steps.length) (Yv (Z2 (Yq (Z2 (Z5 rfl rfl rfl) rfl) (T3 St3.d G.steps)) rfl) (by have:=hG.s2;lia)) rfl hc)) rfl
noncomputable def putG(G:G3)(z:Str)(a b x y:Nat)(sa sb:St3):G3 :=
 ⟨G.wires++[(z,true)],(G.steps.set a ⟨sa.w,sa.up,[x],sa.fills⟩).set b ⟨sb.w,sb.up,[y],sb.fills⟩++[⟨G.wires.length,true,sa.takes,[x]⟩,⟨G.wires.length,false,sb.takes,[y]⟩],G.marks,G.code⟩
theorem P0(s:St3)(x:Nat):Di [s.d,Ψ x]=.ok (⟨s.w,s.up,[x],s.fills⟩:St3).d:=by
 refine Wz (Yf rfl ?_);unfold K6;exact Ya (Y1 (Z2 (Z5 rfl rfl rfl) (Z2 (Z5 rfl rfl rfl) (Z2 (Y1 rfl) (Z2 (Z5 rfl rfl rfl) rfl))))) rfl
theorem cg(G:G3)(hG:Gk B Lq_ G)(c:B<=62)(hf:frees G=x::y::aj)(z:Str)(hz:z∉G.wires.map (·.1))(hn:Tw [.str z]=.ok (.bl true))(a b:Nat)(sa sb:St3)(r:a≠b)(ha:G.steps[a]?=some sa)(hb:G.steps[b]?=some sb)(ma:Yz G sa=true)(C:Yz G sb=true) :
  Iy [G.d,.str z,Ψ a,Ψ b]=.ok (putG G z a b x y sa sb).d:=by
 refine Wz (Yf rfl ?_);unfold Oj;have I:=(AC.mp ha).1;have aG:=(AC.mp hb).1;have e:=hG.s2;have F:=hG.w2;refine Z7 (WP (Ze (xs:=[G.d,.str z]) rfl (Az G hG c hf z hz hn)) ?_);refine Z7 (WP (Ze (xs:=[.lst (Zc (RF G)),Ψ a,Ψ b]) (Z2 (Ze (xs:=[G.d]) rfl (X8 G hG)) rfl) (fZ _ a b r (Xk ha ma) (Xk hb C))) ?_);refine Z7 (Zg (Yq (Z2 (Z5 rfl rfl rfl) rfl) (T3 Ub G.wires)) ?_);refine Z7 (Zg (d:=.lst (Zc (x::y::aj))) (by rw[<- hf];exact Ze (xs:=[G.d]) rfl (E3 G hG c)) ?_);have J:Yd (.lst (Zc (x::y::aj))) (.int 0)=some (Ψ x):=Um (j:=0) rfl;have x1:Yd (.lst (Zc (x::y::aj))) (.int 1)=some (Ψ y):=Um (j:=1) rfl;refine Z7 (Zg (d:=(⟨G.wires.length,true,sa.takes,[x]⟩:St3).d) (Y1 (Z2 rfl (Z2 rfl (Z2 (Ze (xs:=[G.d,Ψ a]) rfl (Qi G a sa ha)) (Z2 (Y1 (Z2 (Z5 rfl rfl J) rfl)) rfl))))) ?_);refine Z7 (Zg (d:=(⟨G.wires.length,false,sb.takes,[y]⟩:St3).d) (Y1 (Z2 rfl (Z2 rfl (Z2 (Ze (xs:=[G.d,Ψ b]) rfl (Qi G b sb hb)) (Z2 (Y1 (Z2 (Z5 rfl rfl x1) rfl)) rfl))))) ?_);refine Z7 (Tr (ds:=G.steps.map St3.d) (Yq (Z2 (Z5 rfl rfl rfl) rfl) rfl) ?_);refine Z7 (Ex (k:=a) (d:=(⟨sa.w,sa.up,[x],sa.fills⟩:St3).d) rfl (Ze (xs:=[sa.d,Ψ x]) (Z2 (Z5 rfl rfl (Um (by rw[AL,ha];rfl))) (Z2 (Z5 rfl rfl J) rfl)) (P0 sa x)) rfl (by rw[AF];exact I) ?_);refine Z7 (Ex (k:=b) (d:=(⟨sb.w,sb.up,[y],sb.fills⟩:St3).d) rfl (Ze (xs:=[sb.d,Ψ y]) (Z2 (Z5 rfl rfl (Um (by rw[HS r,AL,hb];rfl))) (Z2 (Z5 rfl rfl x1) rfl)) (P0 sb y)) rfl (by rw[BN,AF];exact aG) ?_);refine Ya (Y1 (Z2 (Z5 (Z5 rfl rfl rfl) (Y1 (xs:=[Ub (z,true)]) (Z2 (Y1 rfl) rfl)) (Nn (by rw[AF];show _+1<=_;lia))) (Z2 (Yq (Z2 (Z5 rfl (Wl (Ta rfl)) (Ix (by rw[BN,BN,AF];show _+2<=_;lia))) rfl) rfl) (Z2 (Z5 rfl rfl rfl) (Z2 (Z5 rfl rfl rfl) rfl))))) ?_;unfold putG G3.d;simp only[BP,map_set];rfl
noncomputable def Vi(G:G3):Z Nat:=(G.steps.zipIdx.filter λp=>Yz G p.1).map (·.2)
theorem gS(ss:Z St3):Ra 0 (ss.map St3.d)=ss.zipIdx.map λp=>Dat.tup [.int (p.2:Int),p.1.d]:=by
 apply HQ;intro i;rw[Hs,AL,AL,List.getElem?_zipIdx];cases ss[i]? with
 | none=>rfl
 | some s=>simp
theorem Cw(h:k∈Vi G):∃ s,G.steps[k]?=some s/\Yz G s=true:=by
 obtain⟨⟨s,j⟩,hp,rfl⟩:=DJ.mp h;obtain⟨h1,h2⟩:=DE.mp hp;have:=List.mem_zipIdx h1;simp only[CZ,KJ,Nat.sub_zero,true_and] at this;exact⟨s,by rw[this.2];exact AK this.1,h2⟩
theorem El(G:G3):(Vi G).Nodup:=by
 have h1:(Vi G).Sublist (G.steps.zipIdx.map (·.2)):=filter_sublist.map _;refine List.Nodup.sublist h1 ?_;rw[List.zipIdx_map_snd];exact List.nodup_range'
theorem XF(h:l.Nodup)(ha:l[i]?=some a)(hb:b∈l.eraseIdx i):a≠b/\b∈l:=by
 have hl:=(AC.mp ha).1;have e:l=l.take i++a::l.drop (i+1):=by
  have h0:=(FC i l).symm;rw[DN hl,(AC.mp ha).2] at h0;exact h0
 rw[CS] at hb;have D:b∈l:=by
  rcases BO.mp hb with q | q
  .exact List.mem_of_mem_take q
  .exact List.mem_of_mem_drop q
 refine⟨?_,D⟩;rw[e] at h;obtain⟨_,h2,h3⟩:=GI.mp h;rcases BO.mp hb with q | q
 .exactλz=>h3 b q a AX z.symm
 .exactλz=>(CT.mp h2).1 (z▸q)
theorem je(hm:2<=(G.steps.filter (Yz G)).length):2<=(Vi G).length:=by
 unfold Vi;rw[AF,<- FU];have e1:G.steps.zipIdx.countP (λp=>Yz G p.1)=G.steps.countP (Yz G):=by
  have h:(G.steps.zipIdx.map Prod.fst).countP (Yz G)=G.steps.zipIdx.countP (λp=>Yz G p.1):=by rw[List.countP_map];rfl
  rw[<- h,List.zipIdx_map_fst]
 rw[e1];rw[FU];exact hm
theorem d3(J:G.wires[w]?=some u)(a:u.2=true)(h2:2<=(G.steps.map (·.w)).count w):2<=(G.steps.filter (Yz G)).length:=by
 rw[<- FU];have e2:(G.steps.map (·.w)).count w=G.steps.countP (λs=>s.w==w):=by
  rw[List.count,List.countP_map];rfl
 rw[e2] at h2;refine BA h2 (List.countP_mono_left λs hs h=>?_);have:s.w=w:=HL h;rw[Dg (this▸J),a]
structure LD (W x y:Nat) (A B:List Nat) (p q:Nat×Nat):Prop where
 m:∀ j,j≠x->j≠y->q.1.testBit j=(p.1.testBit j||((p.1.testBit x&&decide (j∈A))||(p.1.testBit y&&decide (j∈B))))
 qx:q.1.testBit x=false
 qy:q.1.testBit y=false
 da:p.1.testBit x=true->∀ j∈A,p.1.testBit j=false
 db:p.1.testBit y=true->∀ j∈B,p.1.testBit j=false
 ab:p.1.testBit x=true->p.1.testBit y=true->∀ j∈A,j∉B
 c:∀ j,j<W->q.2.testBit j=p.2.testBit j
 cl:∀ j,W<=j->q.2.testBit j=false
theorem LD.symm{W x y:Nat}{A B:Z Nat}{p q:Nat×Nat}(h:LD W x y A B p q):LD W y x B A p q :=
 ⟨λj h1 h2=>by rw[h.m j h2 h1,Bool.or_comm (p.1.testBit x&&_)],h.qy,h.qx,h.db,h.da,λh1 h2 j hj b=>h.ab h2 h1 j b hj,h.c,h.cl⟩
theorem jn(h:W8 s m=true)(j:Nat):decide (j∈s.takes)=true->m.testBit j=true:=λhj=>Zu.mp h j (AT hj)
theorem h8:∀ X Y p t f a b q:Bool,(t=true->p=true)->(X=true->a=true->p=false)->(Y=true->b=true->p=false)->q=(p||((X&&a)||(Y&&b)))->(f=true->q=true->t=true) ->
   ((q&&!t)||f)=(((p&&!t)||f)||((X&&a)||(Y&&b)))/\(X=true->a=true->((p&&!t)||f)=false)/\(Y=true->b=true->((p&&!t)||f)=false):=by decide
section
variable{A B:Z Nat}
theorem LD.old(h:LD W x y A B p q)(J:s.w<W)(tx:x∉s.takes)(ty:y∉s.takes)(fx:x∉s.fills)(fy:y∉s.fills)(can:W8 s p.1=true)(room:∀ j∈s.fills,q.1.testBit j=true->j∈s.takes) :
  W8 s q.1=true/\LD W x y A B (Y9 s p) (Y9 s q):=by
 have g:(Y9 s p).1.testBit x=p.1.testBit x:=by rw[W7,AB tx,AB fx];simp
 have d:(Y9 s p).1.testBit y=p.1.testBit y:=by rw[W7,AB ty,AB fy];simp
 have ah:∀ j,j≠x->j≠y->_:=λj h1 h2=>h8 (p.1.testBit x) (p.1.testBit y) (p.1.testBit j) (decide (j∈s.takes)) (decide (j∈s.fills)) (decide (j∈A)) (decide (j∈B)) (q.1.testBit j) (jn can j)
  (λe e'=>h.da e j (AT e')) (λe e'=>h.db e j (AT e')) (h.m j h1 h2) (λe e'=>AG (room j (AT e) e'))
 refine⟨Zu.mpr λj hj=>?_,λj h1 h2=>?_,?_,?_,λe j hj=>?_,λe j hj=>?_,?_,λj hj=>?_,λj hj=>?_⟩
 .have hx:j≠x:=λz=>tx (z▸hj)
  have hy:j≠y:=λz=>ty (z▸hj)
  rw[h.m j hx hy,Zu.mp can j hj];rfl
 .rw[g,d,W7,W7];exact(ah j h1 h2).1
 .rw[W7,h.qx,AB fx];rfl
 .rw[W7,h.qy,AB fy];rfl
 .rw[g] at e
  by_cases hx:j=x
  .have:=h.da e j hj;rw[hx,e] at this;cases this
  .by_cases hy:j=y
   .rw[hy,d,<- hy];exact h.da e j hj
   .rw[W7];exact(ah j hx hy).2.1 e (AG hj)
 .rw[d] at e
  by_cases hy:j=y
  .have:=h.db e j hj;rw[hy,e] at this;cases this
  .by_cases hx:j=x
   .rw[hx,g,<- hx];exact h.db e j hj
   .rw[W7];exact(ah j hx hy).2.2 e (AG hj)
 .rw[g,d];exact h.ab
 .rw[Vr,Vr,h.c j hj]
 .rw[Vr,h.cl j hj,AB (by lia)];rfl
theorem me:∀ Y p f a b q:Bool,(a=true->p=false)->(Y=true->b=true->p=false)->(Y=true->a=true->b=false)->q=(p||((true&&a)||(Y&&b)))->(f=true->q=true->a=true) ->
   ((q&&!a)||f)=((p||f)||((false&&a)||(Y&&b)))/\(Y=true->b=true->(p||f)=false):=by
 intro Y p f a b q;cases Y<;>cases p<;>cases f<;>cases a<;>cases b<;>cases q<;>simp
theorem LD.wait(h:LD W x y s.takes B p q)(xy:x≠y)(J:s.w<W)(tx:x∉s.takes)(ty:y∉s.takes)(fx:x∉s.fills)(fy:y∉s.fills)(can:p.1.testBit x=true)(room:∀ j∈s.fills,q.1.testBit j=true->j∈s.takes) :
  W8 s q.1=true/\LD W x y s.takes B (Y9 ⟨s.w,s.up,[x],s.fills⟩ p) (Y9 s q):=by
 have a:∀ j,j≠x->(Y9 ⟨s.w,s.up,[x],s.fills⟩ p).1.testBit j=(p.1.testBit j||decide (j∈s.fills)):=λj hj=>by
  rw[W7];show((p.1.testBit j&&!decide (j∈[x]))||decide (j∈s.fills))=_;rw[AB (show j∉[x] by simpa using hj)];simp
 have g:(Y9 ⟨s.w,s.up,[x],s.fills⟩ p).1.testBit x=false:=by
  rw[W7];show((p.1.testBit x&&!decide (x∈[x]))||decide (x∈s.fills))=_;rw[AG (show x∈[x] by simp),AB fx];simp
 have d:(Y9 ⟨s.w,s.up,[x],s.fills⟩ p).1.testBit y=p.1.testBit y:=by rw[a y (AR xy),AB fy,FZ]
 have ah:∀ j,j≠x->j≠y->_:=λj h1 h2=>me (p.1.testBit y) (p.1.testBit j) (decide (j∈s.fills)) (decide (j∈s.takes)) (decide (j∈B)) (q.1.testBit j)
  (λe=>h.da can j (AT e)) (λe e'=>h.db e j (AT e')) (λe e'=>AB (h.ab can e j (AT e'))) (by rw[<- can];exact h.m j h1 h2) (λe e'=>AG (room j (AT e) e'))
 refine⟨Zu.mpr λj hj=>?_,λj h1 h2=>?_,?_,?_,λe=>?_,λe j hj=>?_,λe=>?_,λj hj=>?_,λj hj=>?_⟩
 .rw[h.m j (λz=>tx (z▸hj)) (λz=>ty (z▸hj)),can,AG hj];simp
 .rw[g,d,a j h1,W7];exact(ah j h1 h2).1
 .rw[W7,h.qx,AB fx];rfl
 .rw[W7,h.qy,AB fy];rfl
 .rw[g] at e;cases e
 .rw[d] at e
  by_cases hy:j=y
  .have:=h.db e j hj;rw[hy,e] at this;cases this
  .by_cases hx:j=x
   .rw[hx];exact g
   .rw[a j hx];exact(ah j hx hy).2 e (AG hj)
 .rw[g] at e;cases e
 .rw[Vr,Vr,h.c j hj]
 .rw[Vr,h.cl j hj,AB (by lia)];rfl
theorem eI:∀ X Y p a b q:Bool,(a=true->p=true)->q=(p||((X&&a)||(Y&&b)))->q=((p&&!a)||((true&&a)||(Y&&b))):=by decide
theorem LD.go(h:LD W x y A B p q)(xy:x≠y){up:Bool}(tx:x∉A)(ty:y∉A)(tb:x∉B)(can:∀ j∈A,p.1.testBit j=true):LD W x y A B (Y9 ⟨W,up,A,[x]⟩ p) q:=by
 have a:∀ j,j≠x->(Y9 ⟨W,up,A,[x]⟩ p).1.testBit j=(p.1.testBit j&&!decide (j∈A)):=λj hj=>by
  rw[W7];show((p.1.testBit j&&!decide (j∈A))||decide (j∈[x]))=_;rw[AB (show j∉[x] by simpa using hj),FZ]
 have g:(Y9 ⟨W,up,A,[x]⟩ p).1.testBit x=true:=by
  rw[W7];show((p.1.testBit x&&!decide (x∈A))||decide (x∈[x]))=_;rw[AG (show x∈[x] by simp),FP]
 have d:(Y9 ⟨W,up,A,[x]⟩ p).1.testBit y=p.1.testBit y:=by rw[a y (AR xy),AB ty];simp
 refine⟨λj h1 h2=>?_,h.qx,h.qy,λ_ j hj=>?_,λe j hj=>?_,λ_ e j hj b=>?_,λj hj=>?_,h.cl⟩
 .rw[g,d,a j h1]
  exact eI (p.1.testBit x) (p.1.testBit y) (p.1.testBit j) (decide (j∈A)) (decide (j∈B)) (q.1.testBit j) (λe=>can j (AT e)) (h.m j h1 h2)
 .rw[a j (λz=>tx (z▸hj)),AG hj];simp
 .rw[d] at e
  have:=h.db e j hj;rw[a j (λz=>tb (z▸hj)),this];rfl
 .rw[d] at e
  have:=h.db e j b;rw[can j hj] at this;cases this
 .rw[Vr,h.c j hj]
  show _=(p.2.testBit j ^^ decide (W=j));rw[AB (by lia),FS]
end
structure K' (G:G3) (a b x y:Nat) (sa sb:St3):Prop where
 ha:G.steps[a]?=some sa
 hb:G.steps[b]?=some sb
 ab:a≠b
 xy:x≠y
 fx:∀ s∈G.steps,x∉s.takes/\x∉s.fills
 fy:∀ s∈G.steps,y∉s.takes/\y∉s.fills
 mx:G.marks.testBit x=false
 my:G.marks.testBit y=false
 wl:∀ s∈G.steps,s.w<G.wires.length
 cl:G.code<2^G.wires.length
theorem K'.put_a(P:K' G a b x y sa sb):(putG G z a b x y sa sb).steps[a]?=some ⟨sa.w,sa.up,[x],sa.fills⟩:=by
 have ha:=(AC.mp P.ha).1;show(_++_)[a]?=_;rw[BH (by simpa using ha),AZ,AM (AR P.ab),AZ,AH rfl,AH ha]
theorem K'.put_b(P:K' G a b x y sa sb):(putG G z a b x y sa sb).steps[b]?=some ⟨sb.w,sb.up,[y],sb.fills⟩:=by
 have hb:=(AC.mp P.hb).1;show(_++_)[b]?=_;rw[BH (by simpa using hb),AZ,AH rfl,AH (by simpa using hb)]
theorem SR(h1:k≠a)(h2:k≠b)(hk:k<G.steps.length):(putG G z a b x y sa sb).steps[k]?=G.steps[k]?:=by
 show(_++_)[k]?=_;rw[BH (by simpa using hk),AZ,AM (AR h2),AZ,AM (AR h1)]
theorem TH:(putG G z a b x y sa sb).steps[G.steps.length]?=some ⟨G.wires.length,true,sa.takes,[x]⟩:=by
 show(_++_)[_]?=_;rw[BV (by simp)];simp
theorem TV:(putG G z a b x y sa sb).steps[G.steps.length+1]?=some ⟨G.wires.length,false,sb.takes,[y]⟩:=by
 show(_++_)[_]?=_;rw[BV (by simp)];simp
theorem mS:(putG G z a b x y sa sb).steps.length=G.steps.length+2:=by
 unfold putG;simp
theorem K'.at(P:K' G a b x y sa sb)(h:(putG G z a b x y sa sb).steps[k]?=some s) :
  (k=a/\s=⟨sa.w,sa.up,[x],sa.fills⟩)\/(k=b/\s=⟨sb.w,sb.up,[y],sb.fills⟩)\/(k≠a/\k≠b/\G.steps[k]?=some s)\/(k=G.steps.length/\s=⟨G.wires.length,true,sa.takes,[x]⟩)\/(k=G.steps.length+1/\s=⟨G.wires.length,false,sb.takes,[y]⟩):=by
 by_cases h1:k=a
 .subst h1;rw[P.put_a] at h;cases h;exact .inl ⟨rfl,rfl⟩
 by_cases h2:k=b
 .subst h2;rw[P.put_b] at h;cases h;exact .inr (.inl ⟨rfl,rfl⟩)
 by_cases h3:k<G.steps.length
 .rw[SR h1 h2 h3] at h;exact .inr (.inr (.inl ⟨h1,h2,h⟩))
 have hl:=(AC.mp h).1;rw[mS] at hl;by_cases h4:k=G.steps.length
 .subst h4;rw[TH] at h;cases h;exact .inr (.inr (.inr (.inl ⟨rfl,rfl⟩)))
 .have F:k=G.steps.length+1:=by lia
  subst F;rw[TV] at h;cases h;exact .inr (.inr (.inr (.inr ⟨rfl,rfl⟩)))
theorem K'.ini(P:K' G a b x y sa sb):LD G.wires.length x y sa.takes sb.takes (G.marks,G.code) (G.marks,G.code):=by
 have mx:(G.marks,G.code).1.testBit x=false:=P.mx;have my:(G.marks,G.code).1.testBit y=false:=P.my;refine⟨λj _ _=>?_,mx,my,λh=>?_,λh=>?_,λh=>?_,λ_ _=>rfl,λj hj=>DL (AO P.cl (BY (by lia) hj))⟩
 .rw[mx,my];simp
 .rw[mx] at h;cases h
 .rw[my] at h;cases h
 .rw[mx] at h;cases h
theorem Le{up:Bool}(h:W8 ⟨w,up,[x],fl⟩ m=true):m.testBit x=true:=Zu.mp h x (by simp)
theorem QY{up:Bool}(h:m.testBit x=true):W8 ⟨w,up,[x],fl⟩ m=true:=Zu.mpr λj hj=>by
 have:j=x:=by simpa using hj
 rw[this];exact h
theorem K'.step(P:K' G a b x y sa sb)(hc:LC G I)(N:I q)(h:LD G.wires.length x y sa.takes sb.takes p q)(hs:(putG G z a b x y sa sb).steps[k]?=some s)(can:W8 s p.1=true) :
  (k<G.steps.length/\∃ s0,G.steps[k]?=some s0/\W8 s0 q.1=true/\LD G.wires.length x y sa.takes sb.takes (Y9 s p) (Y9 s0 q))\/(G.steps.length<=k/\LD G.wires.length x y sa.takes sb.takes (Y9 s p) q):=by
 have ma:=AD P.ha;have C:=AD P.hb;have room:∀ s0∈G.steps,W8 s0 q.1=true->∀ j∈s0.fills,q.1.testBit j=true->j∈s0.takes:=λs0 h0 c0 j=>hc.room q s0 N h0 c0 j
 rcases P.at hs with⟨rfl,rfl⟩ | ⟨rfl,rfl⟩ | ⟨h1,h2,e⟩ | ⟨rfl,rfl⟩ | ⟨rfl,rfl⟩
 .have hx:=Le can
  have c:W8 sa q.1=true:=Zu.mpr λj hj=>by rw[h.m j (λz=>(P.fx sa ma).1 (z▸hj)) (λz=>(P.fy sa ma).1 (z▸hj)),hx,AG hj];simp
  exact .inl ⟨(AC.mp P.ha).1,sa,P.ha,h.wait P.xy (P.wl sa ma) (P.fx sa ma).1 (P.fy sa ma).1 (P.fx sa ma).2 (P.fy sa ma).2 hx (room sa ma c)⟩
 .have hy:=Le can
  have c:W8 sb q.1=true:=Zu.mpr λj hj=>by rw[h.m j (λz=>(P.fx sb C).1 (z▸hj)) (λz=>(P.fy sb C).1 (z▸hj)),hy,AG hj];simp
  have r:=h.symm.wait (AR P.xy) (P.wl sb C) (P.fy sb C).1 (P.fx sb C).1 (P.fy sb C).2 (P.fx sb C).2 hy (room sb C c);exact .inl ⟨(AC.mp P.hb).1,sb,P.hb,r.1,r.2.symm⟩
 .have m:=AD e
  have c:W8 s q.1=true:=Zu.mpr λj hj=>by rw[h.m j (λz=>(P.fx s m).1 (z▸hj)) (λz=>(P.fy s m).1 (z▸hj)),Zu.mp can j hj];rfl
  exact .inl ⟨(AC.mp e).1,s,e,h.old (P.wl s m) (P.fx s m).1 (P.fy s m).1 (P.fx s m).2 (P.fy s m).2 can (room s m c)⟩
 .exact .inr ⟨AU _,h.go P.xy (P.fx sa ma).1 (P.fy sa ma).1 (P.fx sb C).1 (Zu.mp can)⟩
 .exact .inr ⟨DO _,(h.symm.go (AR P.xy) (P.fy sb C).1 (P.fx sb C).1 (P.fy sa ma).1 (Zu.mp can)).symm⟩
theorem K'.stuck(P:K' G a b x y sa sb)(h:LD G.wires.length x y sa.takes sb.takes p q)(no:∀ (k:Nat) (s:St3),(putG G z a b x y sa sb).steps[k]?=some s->W8 s p.1=false)(k:Nat)(s0:St3)(e:G.steps[k]?=some s0):W8 s0 q.1=false:=by
 have hx:p.1.testBit x=false:=by
  cases q:p.1.testBit x with
  | false=>rfl
  | true=>have:=no a _ P.put_a;rw[QY q] at this;cases this
 have hy:p.1.testBit y=false:=by
  cases q:p.1.testBit y with
  | false=>rfl
  | true=>have:=no b _ P.put_b;rw[QY q] at this;cases this
 cases hq:W8 s0 q.1 with
 | false=>rfl
 | true =>
  exfalso;have m:=AD e;have c:∀ j∈s0.takes,p.1.testBit j=true:=λj hj=>by
   have:=Zu.mp hq j hj;rw[h.m j (λz=>(P.fx s0 m).1 (z▸hj)) (λz=>(P.fy s0 m).1 (z▸hj)),hx,hy] at this;simpa using this
  by_cases h1:k=a
  .subst h1
   rw[P.ha] at e;cases e;have:=no _ _ TH;rw[Zu.mpr (show ∀ j∈(⟨G.wires.length,true,sa.takes,[x]⟩:St3).takes,p.1.testBit j=true from c)] at this;cases this
  .by_cases h2:k=b
   .subst h2
    rw[P.hb] at e;cases e;have:=no _ _ TV;rw[Zu.mpr (show ∀ j∈(⟨G.wires.length,false,sb.takes,[y]⟩:St3).takes,p.1.testBit j=true from c)] at this;cases this
   .have:=no k s0 (by rw[SR h1 h2 (AC.mp e).1];exact e)
    rw[Zu.mpr c] at this;cases this
structure MR (W:Nat) (p q:Nat×Nat):Prop where
 m:p.1=q.1
 c:∀ j,j<W->q.2.testBit j=p.2.testBit j
 cl:∀ j,W<=j->q.2.testBit j=false
theorem MR.old(h:MR W p q)(J:s.w<W):MR W (Y9 s p) (Y9 s q) :=
 ⟨by unfold Y9;rw[h.m],λj hj=>by rw[Vr,Vr,h.c j hj],λj hj=>by rw[Vr,h.cl j hj,AB (by lia)];rfl⟩
theorem MR.two(h:MR W p q)(J:s.w<W){up:Bool}(tx:x∉s.takes)(fx:x∉s.fills)(qx:q.1.testBit x=false):(Y9 ⟨W,up,s.takes,[x]⟩ p).1.testBit x=true/\MR W (Y9 ⟨s.w,s.up,[x],s.fills⟩ (Y9 ⟨W,up,s.takes,[x]⟩ p)) (Y9 s q):=by
 refine⟨?_,BM λj=>?_,λj hj=>?_,λj hj=>by rw[Vr,h.cl j hj,AB (by lia)];rfl⟩
 .rw[W7]
  show((p.1.testBit x&&!decide (x∈s.takes))||decide (x∈[x]))=_;rw[AG (show x∈[x] by simp),FP]
 .rw[W7,W7,W7]
  show((((p.1.testBit j&&!decide (j∈s.takes))||decide (j∈[x]))&&!decide (j∈[x]))||decide (j∈s.fills))=((q.1.testBit j&&!decide (j∈s.takes))||decide (j∈s.fills));rw[h.m];by_cases hj:j=x
  .subst hj
   rw[qx,AG (show j∈[j] by simp)];simp
  .rw[AB (show j∉[x] by simpa using hj)];simp
 .rw[Vr,Vr,Vr,h.c j hj]
  show(p.2.testBit j ^^ decide (s.w=j))=((p.2.testBit j ^^ decide (W=j)) ^^ decide (s.w=j));rw[AB (show W≠j by lia),FS]
theorem Jd(G:G3)(hG:Gb 64 G)(p:Nat×Nat)(k:Nat)(s:St3)(h:G.steps[k]?=some s):Ts [G.d,Zn p,Ψ k]=.ok (.bl (W8 s p.1)):=by
 refine Wz (Yf rfl ?_);unfold Ep;have hs:=hG.st s (AD h);refine Z7 (Zg (Ze (xs:=[.tup (Zc s.takes)]) (Z2 (Z5 (Z5 (Z5 rfl rfl rfl) rfl (Q8 (x:=s.d) (by rw[AL,h];rfl))) rfl rfl) rfl) (Q9 s.takes λq hq=>by have:=hs.t q hq;lia)) ?_);exact Ya (Z5 (Z5 (Z5 rfl rfl rfl) rfl (OE _ _)) rfl (MW _ _)) rfl
theorem Tz(G:G3)(hG:Gb 64 G)(p:Nat×Nat)(k:Nat)(s:St3)(h:G.steps[k]?=some s)(hc:W8 s p.1=true):V4 [G.d,Zn p,Ψ k]=.ok (Zn (Y9 s p)):=by
 refine Wz (Yf rfl ?_);unfold M8;have hs:=hG.st s (AD h);have J:=hG.w2;have am:=hs.w;have e:p.1 &&& JY s.takes=JY s.takes:=by unfold W8 at hc;exact HL hc
 refine Z7 (YD (d:=s.d) (env':=[.fz G.d,.fz (Zn p),Φ k,.fz (.int (s.w:Int)),.fz (.bl s.up),.fz (.tup (Zc s.takes)),.fz (.tup (Zc s.fills))]) (Z5 (Z5 rfl rfl rfl) rfl (Q8 (x:=s.d) (by rw[AL,h];rfl))) rfl ?_);refine Ya (Y1 (Z2 (Z5 (Z5 (Z5 rfl rfl rfl) (Ze (xs:=[.tup (Zc s.takes)]) rfl (Q9 s.takes λq hq=>by have:=hs.t q hq;lia)) (OP _ _)) (Ze (xs:=[.tup (Zc s.fills)]) rfl (Q9 s.fills λq hq=>by have:=hs.f q hq;lia)) (MU _ _)) (Z2 (Z5 (Z5 rfl rfl rfl) (Z5 rfl rfl (A3 s.w (by lia))) (OP _ _)) rfl))) ?_;unfold Y9 L2.Zn;rw[e]
theorem Se(G:G3)(hG:Gb 64 G)(p:Nat×Nat):Qe [G.d,Zn p]=.ok (.lst (Zc (Dw G p.1))):=by
 refine Wz (Yf rfl ?_);unfold S8;have v:=hG.s2;have hc:=Vj (g:=Y8 0) (t:=dT (Zx Ts (O (U 1) (O (U 2) (O (U 0) Zb))))) (f:=U 0) (env:=[.un,.fz G.d,.fz (Zn p)]) (λk:Nat=>Dat.int (k:Int)) (λk:Nat=>Dat.int (k:Int)) (Io G p.1) (List.range G.steps.length) λk hk=>by
  have a:=CC.mp hk;have e:G.steps[k]?=some G.steps[k]:=AK a;refine⟨[Φ k,.fz G.d,.fz (Zn p)],rfl,?_,rfl⟩;have:Io G p.1 k=W8 G.steps[k] p.1:=by unfold Io;rw[e]
  rw[this];exact Qg (Ze (xs:=[G.d,Zn p,Ψ k]) rfl (Jd G hG p k _ e))
 rw[<- Jp] at hc;refine Ya (Wl (W4 (xs:=rng 0 G.steps.length) (Yv (Z2 (Yq (Z2 (x:=.tup (G.steps.map St3.d)) (Z5 rfl rfl rfl) rfl) (T3 St3.d G.steps)) rfl) (by lia)) rfl hc)) ?_;rw[W0];rfl
theorem SO(l:Z Nat):S5 (.lst (Zc l)) (.lst [])=some (.bl l.isEmpty):=by
 have h:pd 20 (.lst (Zc l))=true:=(jB l).1;unfold S5;rw[h];cases l with
 | nil=>rfl
 | cons a l=>rfl
theorem ZL(ks:Z Nat)(hk:ks≠[])(c:Int):∃ k,k∈ks/\Vc (.int c) (.int ((ks.length:Nat):Int))=some (.int (c % ((ks.length:Nat):Int)))/\Yd (.lst (Zc ks)) (.int (c % ((ks.length:Nat):Int)))=some (Ψ k):=by
 have hl:0<ks.length:=List.length_pos_iff.mpr hk;have h1:=Int.emod_nonneg c (show((ks.length:Nat):Int)≠0 by lia);have h2:=Int.emod_lt_of_pos c (show(0:Int)<((ks.length:Nat):Int) by lia);obtain⟨j,hj⟩:=Int.eq_ofNat_of_zero_le h1;have am:j<ks.length:=by lia
 refine⟨ks[j],GB am,A9 (by lia),?_⟩;rw[hj];exact Um (by rw[W0,AL,AK am];rfl)
theorem Co(c:∀ j,j<W->q.2.testBit j=p.2.testBit j)(cl:∀ j,W<=j->q.2.testBit j=false):q.2=p.2 &&& (2^W - 1):=BM λj=>by
 rw[DM,Nat.testBit_two_pow_sub_one];rcases DV j W with h | h
 .rw[c j h,AG h,KB]
 .rw[cl j h,AB (by lia),Bool.and_false]
theorem bP(W:Nat)(hW:W<=10)(h:f env=some (Ψ W)):dO Aj (dO Ds (Θ 1) f) (Θ 1) env=some (.int ((2^W - 1:Nat):Int)):=Z5 (Z5 rfl h (A3 W (by lia))) rfl (by
 have:=UX (2^W) 1 (Nat.one_le_two_pow);exact this)
theorem Cq(P:K' G a b x y sa sb)(hc:LC G I)(hG:Gb 64 G)(hN:Gb 64 (putG G z a b x y sa sb))(r:Z Int):Ul [G.d,(putG G z a b x y sa sb).d,.lst (r.map .int)]=.ok (.bl true):=by
 refine Wz (Yf rfl ?_);have F:=hG.w2;have S:(putG G z a b x y sa sb).marks=G.marks:=rfl;have ae:(putG G z a b x y sa sb).code=G.code:=rfl;have stuck:=λp q h no=>P.stuck (z:=z) (p:=p) (q:=q) h no
 have step:=λp q N h k s hs can=>P.step (z:=z) hc (p:=p) (q:=q) N h (k:=k) (s:=s) hs can
 generalize putG G z a b x y sa sb=M at *;unfold Qj;refine Z7 (Zg (d:=Zn (G.marks,G.code)) (Y1 (Z2 (Z5 rfl rfl (by rw[<- S];rfl)) (Z2 (Z5 rfl rfl (by rw[<- ae];rfl)) rfl))) ?_);refine Z7 (Zg (d:=Zn (G.marks,G.code)) (Y1 (Z2 (Z5 rfl rfl rfl) (Z2 (Z5 rfl rfl rfl) rfl))) ?_);refine Z7 (Zg (d:=.int ((G.steps.length:Nat):Int)) (Yq (Z2 (x:=.tup (G.steps.map St3.d)) (Z5 rfl rfl rfl) rfl) (T3 St3.d G.steps)) ?_);refine Z7 (V5 (ds:=r.map .int) (λi e=>∃ (p q:Nat×Nat) (u l A:KQ),e=[.fz G.d,.fz M.d,.fz (.lst (r.map .int)),.fz (Zn p),.fz (Zn q),.fz (.int ((G.steps.length:Nat):Int)),u,l,A]/\I q/\LD G.wires.length x y sa.takes sb.takes p q) rfl ⟨_,_,_,_,_,rfl,hc.ini,P.ini⟩ ?_ λe _=>Ya rfl rfl);rintro i d e hi ⟨p,q,u,l,A,rfl,N,Q⟩;rw[AL] at hi;obtain⟨c,_,rfl⟩:=map_some hi;refine⟨_,rfl,?_⟩;refine Z7 (Zg (Ze (xs:=[M.d,Zn p]) rfl (Se M hN p)) ?_);refine Z7 (Ti (b:=(Dw M p.1).isEmpty) (Yj (Z5 rfl rfl (SO _))) (λhb=>?_) (λhb=>Yl ?_))
 .have hn:Dw G q.1=[]:=by
   refine List.filter_eq_nil_iff.mpr λk hk=>?_
   obtain⟨s0,e⟩:∃ s0,G.steps[k]?=some s0:=⟨_,AK (CC.mp hk)⟩;have:Io G q.1 k=W8 s0 q.1:=by unfold Io;rw[e]
   rw[this,stuck p q Q (λk' s hs=>?_) k _ e]
   .simp
   .have h0:=List.filter_eq_nil_iff.mp (List.isEmpty_iff.mp hb) k' (CC.mpr (AC.mp hs).1)
    unfold Io at h0;rw[hs] at h0;simpa using h0
  refine Ya (Z5 (Ze (xs:=[G.d,Zn q]) rfl (Se G hG q)) rfl (SO _)) ?_;rw[hn];rfl
 obtain⟨k,hk,e1,e2⟩:=ZL (Dw M p.1) (λz=>by rw[z] at hb;cases hb) c;obtain⟨s,hs,can⟩:=Kx (P8 hk);refine Z7 (Zg (Z5 rfl (Z5 rfl (Yq (Z2 rfl rfl) (Tn _)) e1) e2) ?_);refine Z7 (Zg (Ze (xs:=[M.d,Zn p,Ψ k]) rfl (Tz M hN p k s hs can)) ?_);have B:∀ (q':Nat×Nat),I q'->LD G.wires.length x y sa.takes sb.takes (Y9 s p) q'->Go (Jv (dB (dO Cd (dO Yd (U 4) (Θ 1)) (dO M9 (dO Yd (U 3) (Θ 1)) (dO Aj (dO Ds (Θ 1) (dF Vp (O (dO Yd (U 0) (Θ 0)) Zb))) (Θ 1))))) (W3 (dC (.bl false))) Vo [.fz G.d,.fz M.d,.fz (.lst (r.map .int)),.fz (Zn (Y9 s p)),.fz (Zn q'),.fz (.int ((G.steps.length:Nat):Int)),.fz (.int c),.fz (.lst (Zc (Dw M p.1))),Φ k])
   (λe=>∃ (p q:Nat×Nat) (u l A:KQ),e=[.fz G.d,.fz M.d,.fz (.lst (r.map .int)),.fz (Zn p),.fz (Zn q),.fz (.int ((G.steps.length:Nat):Int)),u,l,A]/\I q/\LD G.wires.length x y sa.takes sb.takes p q) (λd=>d=.bl true):=λq' j f=>by
  refine Us (Yj (Z5 (Z5 rfl rfl rfl) (Z5 (Z5 rfl rfl rfl) (bP G.wires.length F (Yq (Z2 (x:=.tup (G.wires.map Ub)) (Z5 rfl rfl rfl) rfl) (T3 Ub G.wires))) (OE _ _)) (by rw[<- Co f.c f.cl];exact(QW _ _).trans (by simp)))) (Yl ⟨_,_,_,_,_,rfl,j,f⟩)
 rcases step p q N Q k s hs can with⟨ai,s0,aB,g,f⟩ | ⟨ac,f⟩
 .refine Z7 (Ti (b:=true) (Yj (Z5 rfl rfl (by show some (Dat.bl (decide ((k:Int)<((G.steps.length:Nat):Int))))=_;rw[AG (by lia)]))) (λ_=>?_) (λz=>by cases z))
  refine Z7 (Us (Q0 (b:=true) (Qg (by rw[<- g];exact Ze (xs:=[G.d,Zn q,Ψ k]) rfl (Jd G hG q k s0 aB)))) (Yl ?_));exact Zg (Ze (xs:=[G.d,Zn q,Ψ k]) rfl (Tz G hG q k s0 aB g)) (B _ (hc.nxt q s0 N (AD aB) g) f)
 .refine Z7 (Ti (b:=false) (Yj (Z5 rfl rfl (by show some (Dat.bl (decide ((k:Int)<((G.steps.length:Nat):Int))))=_;rw[AB (by lia)]))) (λz=>by cases z) (λ_=>Yl (B q N f)))
theorem fH(P:K' G a b x y sa sb)(hG:Gb 64 G)(hN:Gb 64 (putG G z a b x y sa sb))(r:Z Int):Uj [G.d,(putG G z a b x y sa sb).d,.lst (Zc [a,b]),.lst (r.map .int)]=.ok (.bl true):=by
 refine Wz (Yf rfl ?_);have F:=hG.w2;have S:(putG G z a b x y sa sb).marks=G.marks:=rfl;have ae:(putG G z a b x y sa sb).code=G.code:=rfl;have pa:=P.put_a (z:=z);have pb:=P.put_b (z:=z);have po:=λk h1 h2 hk=>SR (G:=G) (z:=z) (a:=a) (b:=b) (x:=x) (y:=y) (sa:=sa) (sb:=sb) (k:=k) h1 h2 hk
 have pn:=TH (G:=G) (z:=z) (a:=a) (b:=b) (x:=x) (y:=y) (sa:=sa) (sb:=sb);have pm:=TV (G:=G) (z:=z) (a:=a) (b:=b) (x:=x) (y:=y) (sa:=sa) (sb:=sb);generalize putG G z a b x y sa sb=M at *;unfold Qq;refine Z7 (Zg (d:=Zn (G.marks,G.code)) (Y1 (Z2 (Z5 rfl rfl (by rw[<- S];rfl)) (Z2 (Z5 rfl rfl (by rw[<- ae];rfl)) rfl))) ?_);refine Z7 (Zg (d:=Zn (G.marks,G.code)) (Y1 (Z2 (Z5 rfl rfl rfl) (Z2 (Z5 rfl rfl rfl) rfl))) ?_);refine Z7 (Zg (d:=.int ((G.steps.length:Nat):Int)) (Yq (Z2 (x:=.tup (G.steps.map St3.d)) (Z5 rfl rfl rfl) rfl) (T3 St3.d G.steps)) ?_);refine Z7 (V5 (ds:=r.map .int) (λi e=>∃ (p q:Nat×Nat) (l A X o v:KQ),e=[.fz G.d,.fz M.d,.fz (.lst (Zc [a,b])),.fz (.lst (r.map .int)),.fz (Zn p),.fz (Zn q),.fz (.int ((G.steps.length:Nat):Int)),l,A,X,o,v]/\MR G.wires.length p q/\q.1.testBit x=false/\q.1.testBit y=false) rfl ⟨_,_,_,_,_,_,_,rfl,⟨rfl,λ_ _=>rfl,P.ini.cl⟩,P.mx,P.my⟩ ?_ λe _=>Ya rfl rfl);rintro i d e hi ⟨p,q,l,A,X,o,v,rfl,Q,qx,qy⟩;rw[AL] at hi;obtain⟨c,_,rfl⟩:=map_some hi;refine⟨_,rfl,?_⟩;refine Z7 (Zg (Ze (xs:=[G.d,Zn q]) rfl (Se G hG q)) ?_);refine Z7 (Ti (b:=(Dw G q.1).isEmpty) (Yj (Z5 rfl rfl (SO _))) (λhb=>Ya rfl rfl) (λhb=>Yl ?_));obtain⟨k,hk,e1,e2⟩:=ZL (Dw G q.1) (λz=>by rw[z] at hb;cases hb) c;obtain⟨s,hs,can⟩:=Kx (P8 hk);have m:=AD hs;have T:=(AC.mp hs).1;refine Z7 (Zg (Z5 rfl (Z5 rfl (Yq (Z2 rfl rfl) (Tn _)) e1) e2) ?_);refine Z7 (Zg (d:=.lst (Zc [k])) (Wl (Ta (Z2 rfl rfl))) ?_);have g:W8 s p.1=true:=by rw[Q.m];exact can
 have nx:(Y9 s q).1.testBit x=false:=by rw[W7,qx,AB (P.fx s m).2];rfl
 have h:(Y9 s q).1.testBit y=false:=by rw[W7,qy,AB (P.fy s m).2];rfl
 have B:∀ (p':Nat×Nat) (o v:KQ),MR G.wires.length p' (Y9 s q)->Go (Zd (Zw 5 (Zx V4 (O (U 0) (O (U 5) (O (U 9) Zb))))) (Jv (dB (dO Cd (dO Yd (U 5) (Θ 1)) (dO M9 (dO Yd (U 4) (Θ 1)) (dO Aj (dO Ds (Θ 1) (dF Vp (O (dO Yd (U 0) (Θ 0)) Zb))) (Θ 1))))) (W3 (dC (.bl false))) Vo) [.fz G.d,.fz M.d,.fz (.lst (Zc [a,b])),.fz (.lst (r.map .int)),.fz (Zn p'),.fz (Zn q),.fz (.int ((G.steps.length:Nat):Int)),.fz (.int c),.fz (.lst (Zc (Dw G q.1))),Φ k,o,v])
   (λe=>∃ (p q:Nat×Nat) (l A X o v:KQ),e=[.fz G.d,.fz M.d,.fz (.lst (Zc [a,b])),.fz (.lst (r.map .int)),.fz (Zn p),.fz (Zn q),.fz (.int ((G.steps.length:Nat):Int)),l,A,X,o,v]/\MR G.wires.length p q/\q.1.testBit x=false/\q.1.testBit y=false) (λd=>d=.bl true):=λp' o v f=>by
  refine Z7 (Zg (Ze (xs:=[G.d,Zn q,Ψ k]) rfl (Tz G hG q k s hs can)) ?_);exact Us (Yj (Z5 (Z5 rfl rfl rfl) (Z5 (Z5 rfl rfl rfl) (bP G.wires.length F (Yq (Z2 (x:=.tup (G.wires.map Ub)) (Z5 rfl rfl rfl) rfl) (T3 Ub G.wires))) (OE _ _)) (by rw[<- Co f.c f.cl];exact(QW _ _).trans (by simp)))) (Yl ⟨_,_,_,_,_,_,_,rfl,f,nx,h⟩)
 by_cases hm:k∈[a,b]
 .obtain⟨j,s1,s2,E,h1,h2,c1,c2,f⟩:∃ (j:Nat) (s1 s2:St3),[a,b].idxOf k=j/\M.steps[G.steps.length+j]?=some s1/\M.steps[k]?=some s2/\W8 s1 p.1=true/\W8 s2 (Y9 s1 p).1=true/\MR G.wires.length (Y9 s2 (Y9 s1 p)) (Y9 s q):=by
   by_cases ka:k=a
   .subst ka
    rw[P.ha] at hs;cases hs;have t:=Q.two (up:=true) (P.wl _ m) (P.fx _ m).1 (P.fx _ m).2 qx;exact⟨0,_,_,by simp,pn,pa,Zu.mpr (Zu.mp g),QY t.1,t.2⟩
   .have kb:k=b:=by
     rcases BK.mp hm with z | z
     .exact absurd z ka
     .simpa using z
    subst kb;rw[P.hb] at hs;cases hs;have t:=Q.two (up:=false) (P.wl _ m) (P.fy _ m).1 (P.fy _ m).2 qy;refine⟨1,_,_,?_,pm,pb,Zu.mpr (Zu.mp g),QY t.1,t.2⟩;rw[EM,show(a==k)=false from by simpa using AR ka,EM,show(k==k)=true from by simp];rfl
  refine Z7 (Ti (b:=true) (Yj (Z5 rfl rfl ((Ir k [a,b]).trans (by rw[AG hm])))) (λ_=>?_) (λz=>by cases z));refine Zg (d:=.lst (Zc [G.steps.length+j,k])) (Wl (Ta (Z2 (Z5 rfl (VP rfl rfl (Z2 rfl rfl) (Ge [a,b] k hm)) ((U6 _ _).trans (by rw[E]))) (Z2 rfl rfl)))) ?_;refine Z7 (V5 (ds:=Zc [G.steps.length+j,k]) (λi e=>∃ v:KQ,e=[.fz G.d,.fz M.d,.fz (.lst (Zc [a,b])),.fz (.lst (r.map .int)),.fz (Zn (if i=0 then p else if i=1 then Y9 s1 p else Y9 s2 (Y9 s1 p))),.fz (Zn q),.fz (.int ((G.steps.length:Nat):Int)),.fz (.int c),.fz (.lst (Zc (Dw G q.1))),Φ k,.fz (.lst (Zc [G.steps.length+j,k])),v]) rfl ⟨_,rfl⟩ ?_ ?_)
  .rintro i d e hi ⟨v,rfl⟩
   match i,hi with
   | 0,hi =>
    have:d=.int ((G.steps.length+j:Nat):Int):=by simpa[Zc] using hi.symm
    subst this;exact⟨_,rfl,Z7 (Us (Q0 (b:=true) (Qg (by rw[<- c1];exact Ze (xs:=[M.d,Zn p,.int ((G.steps.length+j:Nat):Int)]) rfl (Jd M hN p _ s1 h1)))) (Yl (Zg (Ze (xs:=[M.d,Zn p,.int ((G.steps.length+j:Nat):Int)]) rfl (Tz M hN p _ s1 h1 c1)) ⟨_,rfl⟩)))⟩
   | 1,hi =>
    have:d=.int (k:Int):=by simpa[Zc] using hi.symm
    subst this;exact⟨_,rfl,Z7 (Us (Q0 (b:=true) (Qg (by rw[<- c2];exact Ze (xs:=[M.d,Zn (Y9 s1 p),Ψ k]) rfl (Jd M hN _ k s2 h2)))) (Yl (Zg (Ze (xs:=[M.d,Zn (Y9 s1 p),Ψ k]) rfl (Tz M hN _ k s2 h2 c2)) ⟨_,rfl⟩)))⟩
   | n+2,hi=>simp[Zc] at hi
  .rintro e ⟨v,rfl⟩
   exact B _ _ _ f
 .have ka:k≠a:=λz=>hm (by simp[z])
  have kb:k≠b:=λz=>hm (by simp[z])
  have h2:M.steps[k]?=some s:=by rw[po k ka kb T];exact hs
  refine Z7 (Ti (b:=false) (Yj (Z5 rfl rfl ((Ir k [a,b]).trans (by rw[AB hm])))) (λz=>by cases z) (λ_=>Yl ?_));refine Z7 (V5 (ds:=Zc [k]) (λi e=>∃ v:KQ,e=[.fz G.d,.fz M.d,.fz (.lst (Zc [a,b])),.fz (.lst (r.map .int)),.fz (Zn (if i=0 then p else Y9 s p)),.fz (Zn q),.fz (.int ((G.steps.length:Nat):Int)),.fz (.int c),.fz (.lst (Zc (Dw G q.1))),Φ k,.fz (.lst (Zc [k])),v]) rfl ⟨_,rfl⟩ ?_ ?_)
  .rintro i d e hi ⟨v,rfl⟩
   match i,hi with
   | 0,hi =>
    have:d=.int (k:Int):=by simpa[Zc] using hi.symm
    subst this;exact⟨_,rfl,Z7 (Us (Q0 (b:=true) (Qg (by rw[<- g];exact Ze (xs:=[M.d,Zn p,Ψ k]) rfl (Jd M hN p k s h2)))) (Yl (Zg (Ze (xs:=[M.d,Zn p,Ψ k]) rfl (Tz M hN p k s h2 g)) ⟨_,rfl⟩)))⟩
   | n+1,hi=>simp[Zc] at hi
  .rintro e ⟨v,rfl⟩
   exact B _ _ _ (Q.old (P.wl s m))
structure KM (G:G3) (n s0:Nat) (one two:Nat->Nat) (rs:List (Nat×Nat)) (sa sb:St3) (w:Nat):Prop where
 rg:RG G n s0 one two rs
 n1:1<=n
 n4:n<=4
 nw:G.wires.length=n
 he:∀ q∈rs,q.1<2*n/\q.2<2*n
 ns:NT G
 wl:w<n
 wa:sa.w=w
 wb:sb.w=w
 da:LP G s0 one two rs n (one w) sa
 db:LP G s0 one two rs n (two w) sb
section
variable{two:Nat->Nat}
theorem KM.ring(h:KM G n s0 one two rs sa sb w):∃ t,rs[t]?=some (one w,two w)/\s0+2*t+1∈sa.takes/\s0+2*t∈sb.takes:=by
 obtain⟨t,ht⟩:=CL (h.rg.ring w h.wl);exact⟨t,ht,(h.da.tk.b ht).mpr rfl,(h.db.tk.a ht).mpr rfl⟩
theorem KM.ua(h:KM G n s0 one two rs sa sb w):sa.up=!G.code.testBit w:=by
 rcases h.da.lev with⟨_,e⟩ | ⟨e,_⟩
 .rw[e,h.wa]
 .rw[h.wa] at e;exact absurd e (h.rg.inj w w h.wl h.wl (.inl rfl)).2
theorem KM.ub(h:KM G n s0 one two rs sa sb w):sb.up=G.code.testBit w:=by
 rcases h.db.lev with⟨e,_⟩ | ⟨_,e⟩
 .rw[h.wb] at e;exact absurd e.symm (h.rg.inj w w h.wl h.wl (.inl rfl)).2
 .rw[e,h.wb]
theorem KM.exc(h:KM G n s0 one two rs sa sb w)(hi:RI G n s0 one two rs k q):¬ (W8 sa q.1=true/\W8 sb q.1=true):=λM=>by
 obtain⟨h1,h2⟩:=M;obtain⟨t,ht,m1,m2⟩:=h.ring;have e1:=Zu.mp h1 _ m1;have e2:=Zu.mp h2 _ m2;rw[hi.b t _ ht] at e1;rw[hi.a t _ ht] at e2;rw[e2] at e1;cases e1
theorem KM.other(h:KM G n s0 one two rs sa sb w)(P:K' G a b x y sa sb)(hs:G.steps[k]?=some s)(ka:k≠a)(kb:k≠b):s.w≠w:=λe=>by
 obtain⟨t,ht,m1,m2⟩:=h.ring;obtain⟨d,hd⟩:=h.rg.st s (AD hs);rcases hd.lev with⟨e1,_⟩ | ⟨e1,_⟩
 .rw[e] at e1
  exact h.ns k a s sa ka hs P.ha _ ((hd.tk.b ht).mpr e1.symm) m1
 .rw[e] at e1
  exact h.ns k b s sb kb hs P.hb _ ((hd.tk.a ht).mpr e1.symm) m2
structure Ow (G:G3) (n s0:Nat) (one two:Nat->Nat) (rs:List (Nat×Nat)) (sa sb:St3) (w x y k:Nat) (p q:Nat×Nat):Prop where
 ri:RI G n s0 one two rs k q
 rel:LD n x y sa.takes sb.takes p q
 wb:p.2.testBit n=(p.1.testBit x||(!(q.2.testBit w==G.code.testBit w)&&!p.1.testBit y))
 hi:∀ j,n<j->p.2.testBit j=false
structure Fa (G:G3) (sa sb:St3) (w x y:Nat) (p q:Nat×Nat):Prop where
 xa:p.1.testBit x=true->W8 sa q.1=true
 yb:p.1.testBit y=true->W8 sb q.1=true
 ta:(∀ j∈sa.takes,p.1.testBit j=true)->W8 sa q.1=true/\p.1.testBit x=false
 tb:(∀ j∈sb.takes,p.1.testBit j=true)->W8 sb q.1=true/\p.1.testBit y=false
 old:∀ s∈G.steps,W8 s p.1=true->W8 s q.1=true
 exc:W8 sa q.1=true->W8 sb q.1=true->False
 la:W8 sa q.1=true->q.2.testBit w=G.code.testBit w
 lb:W8 sb q.1=true->q.2.testBit w=!G.code.testBit w
theorem Ow.fa(h:KM G n s0 one two rs sa sb w)(P:K' G a b x y sa sb)(hk:k<2^(2*n))(o:Ow G n s0 one two rs sa sb w x y k p q):Fa G sa sb w x y p q:=by
 have ma:=AD P.ha;have C:=AD P.hb;have hc:=Ka h.rg h.n4;have old:∀ s∈G.steps,W8 s p.1=true->W8 s q.1=true:=λs m c=>Zu.mpr λj hj=>by rw[o.rel.m j (λz=>(P.fx s m).1 (z▸hj)) (λz=>(P.fy s m).1 (z▸hj)),Zu.mp c j hj];rfl
 obtain⟨t,ht,m1,m2⟩:=h.ring;refine⟨λe=>Zu.mpr λj hj=>?_,λe=>Zu.mpr λj hj=>?_,λe=>⟨old sa ma (Zu.mpr e),?_⟩,λe=>⟨old sb C (Zu.mpr e),?_⟩,old,λh1 h2=>h.exc o.ri ⟨h1,h2⟩,λe=>?_,λe=>?_⟩
 .rw[o.rel.m j (λz=>(P.fx sa ma).1 (z▸hj)) (λz=>(P.fy sa ma).1 (z▸hj)),e,AG hj];simp
 .rw[o.rel.m j (λz=>(P.fx sb C).1 (z▸hj)) (λz=>(P.fy sb C).1 (z▸hj)),e,AG hj];simp
 .cases q:p.1.testBit x with
  | false=>rfl
  | true=>have:=o.rel.da q _ m1;rw[e _ m1] at this;cases this
 .cases q:p.1.testBit y with
  | false=>rfl
  | true=>have:=o.rel.db q _ m2;rw[e _ m2] at this;cases this
 .have:=hc.lev q sa ⟨k,hk,o.ri⟩ ma e
  rw[h.wa,h.ua] at this;cases Y:q.2.testBit w<;>cases q2:G.code.testBit w<;>simp_all
 .have:=hc.lev q sb ⟨k,hk,o.ri⟩ C e
  rw[h.wb,h.ub] at this;cases Y:q.2.testBit w<;>cases q2:G.code.testBit w<;>simp_all
theorem jl(h:KM G n s0 one two rs sa sb w)(P:K' G a b x y sa sb):LC (putG G z a b x y sa sb) λp=>∃ q k,k<2^(2*n)/\Ow G n s0 one two rs sa sb w x y k p q:=by
 have ma:=AD P.ha;have C:=AD P.hb;have hc:=Ka h.rg h.n4;have J:=h.nw;have D:=h.wl;obtain⟨t,ht,m1,m2⟩:=h.ring;refine⟨?_,?_,?_,?_,?_⟩
 · obtain⟨k,hk,hi⟩:=hc.ini
   have r:=P.ini;rw[J] at r;refine⟨_,k,hk,hi,r,?_,λj hj=>?_⟩
   · show G.code.testBit n=(G.marks.testBit x||(!(G.code.testBit w==G.code.testBit w)&&!G.marks.testBit y))
     rw[P.mx,DL (J▸P.cl)];simp
   · exact DL (AO P.cl (BY (by lia) (by lia)))
 · rintro p s ⟨q,k,hk,o⟩ hs can
   have F:=o.fa h P hk;obtain⟨i,hi⟩:=CL hs;have lev:∀ s∈G.steps,W8 s q.1=true->p.2.testBit s.w≠s.up:=λs m c=>by
     rw[<- o.rel.c s.w (by rw[<- J];exact P.wl s m)];exact hc.lev q s ⟨k,hk,o.ri⟩ m c
   rcases P.at hi with⟨rfl,rfl⟩ | ⟨rfl,rfl⟩ | ⟨h1,h2,e⟩ | ⟨rfl,rfl⟩ | ⟨rfl,rfl⟩
   · exact lev sa ma (F.xa (Le can))
   · exact lev sb C (F.yb (Le can))
   · exact lev s (AD e) (F.old s (AD e) can)
   · obtain⟨c1,c2⟩:=F.ta (Zu.mp can)
     show p.2.testBit G.wires.length≠true;rw[J,o.wb,c2,F.la c1];simp
   · obtain⟨c1,c2⟩:=F.tb (Zu.mp can)
     show p.2.testBit G.wires.length≠false;rw[J,o.wb,c2,F.lb c1];cases G.code.testBit w<;>simp
 · rintro p s ⟨q,k,hk,o⟩ hs can j hj hp
   have F:=o.fa h P hk;obtain⟨i,hi⟩:=CL hs;have up:∀ s∈G.steps,j∈s.fills->q.1.testBit j=true:=λs m hj=>by rw[o.rel.m j (λz=>(P.fx s m).2 (z▸hj)) (λz=>(P.fy s m).2 (z▸hj)),hp];rfl
   have room:∀ s∈G.steps,W8 s q.1=true->j∈s.fills->j∈s.takes:=λs m c hj=>hc.room q s ⟨k,hk,o.ri⟩ m c j hj (up s m hj)
   rcases P.at hi with⟨rfl,rfl⟩ | ⟨rfl,rfl⟩ | ⟨h1,h2,e⟩ | ⟨rfl,rfl⟩ | ⟨rfl,rfl⟩
   · have hx:=Le can
     have:=o.rel.da hx j (room sa ma (F.xa hx) hj);rw[hp] at this;cases this
   · have hy:=Le can
     have:=o.rel.db hy j (room sb C (F.yb hy) hj);rw[hp] at this;cases this
   · exact room s (AD e) (F.old s (AD e) can) hj
   · have:j=x:=by simpa using hj
     subst this;rw[(F.ta (Zu.mp can)).2] at hp;cases hp
   · have:j=y:=by simpa using hj
     subst this;rw[(F.tb (Zu.mp can)).2] at hp;cases hp
 · rintro p s ⟨q,k,hk,o⟩ hs can
   have F:=o.fa h P hk;obtain⟨i,hi⟩:=CL hs;have rel:=o.rel;rw[<- J] at rel;have st:=P.step (z:=z) hc ⟨k,hk,o.ri⟩ rel hi can;have al:∀ s:St3,s.w<=n->∀ j,n<j->(Y9 s p).2.testBit j=false:=λs hs j hj=>by rw[Vr,o.hi j hj,AB (by lia)];rfl
   rcases P.at hi with⟨rfl,rfl⟩ | ⟨rfl,rfl⟩ | ⟨h1,h2,e⟩ | ⟨rfl,rfl⟩ | ⟨rfl,rfl⟩
   · rcases st with⟨_,s1,e1,c1,r⟩ | ⟨ac,_⟩
     · rw[P.ha] at e1;cases e1
       obtain⟨k',f,aj⟩:=hc.nxt q sa ⟨k,hk,o.ri⟩ ma c1;have hx:=Le can;have hy:p.1.testBit y=false:=by
         cases qy:p.1.testBit y with
         | false=>rfl
         | true=>exact(F.exc c1 (F.yb qy)).elim
       rw[J] at r;refine⟨_,k',f,aj,r,?_,al _ (by show sa.w<=n;rw[h.wa];lia)⟩;have g:(Y9 ⟨sa.w,sa.up,[x],sa.fills⟩ p).1.testBit x=false:=by
         rw[W7];show((p.1.testBit x&&!decide (x∈[x]))||decide (x∈sa.fills))=_;rw[AG (show x∈[x] by simp),AB (P.fx sa ma).2];simp
       have d:(Y9 ⟨sa.w,sa.up,[x],sa.fills⟩ p).1.testBit y=false:=by
         rw[W7,hy];show(false&&_||decide (y∈sa.fills))=_;rw[AB (P.fy sa ma).2];rfl
       rw[g,d,Vr,Vr,o.wb,hx,F.la c1];show(true ^^ decide (sa.w=n))=(false||(!((G.code.testBit w ^^ decide (sa.w=w))==G.code.testBit w)&&!false));rw[h.wa,AB (by lia),AG rfl];cases G.code.testBit w<;>rfl
     · exact absurd ac (JJ (AC.mp P.ha).1)
   · rcases st with⟨_,s1,e1,c1,r⟩ | ⟨ac,_⟩
     · rw[P.hb] at e1;cases e1
       obtain⟨k',f,aj⟩:=hc.nxt q sb ⟨k,hk,o.ri⟩ C c1;have hy:=Le can;have hx:p.1.testBit x=false:=by
         cases qx:p.1.testBit x with
         | false=>rfl
         | true=>exact(F.exc (F.xa qx) c1).elim
       rw[J] at r;refine⟨_,k',f,aj,r,?_,al _ (by show sb.w<=n;rw[h.wb];lia)⟩;have d:(Y9 ⟨sb.w,sb.up,[y],sb.fills⟩ p).1.testBit y=false:=by
         rw[W7];show((p.1.testBit y&&!decide (y∈[y]))||decide (y∈sb.fills))=_;rw[AG (show y∈[y] by simp),AB (P.fy sb C).2];simp
       have g:(Y9 ⟨sb.w,sb.up,[y],sb.fills⟩ p).1.testBit x=false:=by
         rw[W7,hx];show(false&&_||decide (x∈sb.fills))=_;rw[AB (P.fx sb C).2];rfl
       rw[g,d,Vr,Vr,o.wb,hx,hy,F.lb c1];show((false||(_&&!true)) ^^ decide (sb.w=n))=(false||(!((!G.code.testBit w ^^ decide (sb.w=w))==G.code.testBit w)&&!false));rw[h.wb,AB (by lia),AG rfl];cases G.code.testBit w<;>rfl
     · exact absurd ac (JJ (AC.mp P.hb).1)
   · rcases st with⟨_,s1,e1,c1,r⟩ | ⟨ac,_⟩
     · rw[e] at e1;cases e1
       have m:=AD e;obtain⟨k',f,aj⟩:=hc.nxt q s ⟨k,hk,o.ri⟩ m c1;have am:=P.wl s m;rw[J] at r am;refine⟨_,k',f,aj,r,?_,al s (by lia)⟩;have g:(Y9 s p).1.testBit x=p.1.testBit x:=by rw[W7,AB (P.fx s m).1,AB (P.fx s m).2];simp
       have d:(Y9 s p).1.testBit y=p.1.testBit y:=by rw[W7,AB (P.fy s m).1,AB (P.fy s m).2];simp
       rw[g,d,Vr,Vr,o.wb,AB (show s.w≠n by lia),AB (h.other P e h1 h2),FS,FS]
     · exact absurd ac (JJ (AC.mp e).1)
   · rcases st with⟨ai,_⟩ | ⟨_,r⟩
     · lia
     · obtain⟨c1,c2⟩:=F.ta (Zu.mp can)
       conv at r=>arg 1;rw[J]
       refine⟨q,k,hk,o.ri,r,?_,al _ (by show G.wires.length<=n;lia)⟩;have g:(Y9 ⟨G.wires.length,true,sa.takes,[x]⟩ p).1.testBit x=true:=by
         rw[W7];show((p.1.testBit x&&!decide (x∈sa.takes))||decide (x∈[x]))=_;rw[AG (show x∈[x] by simp),FP]
       rw[g,Vr,o.wb,c2,F.la c1];show((false||(!(G.code.testBit w==G.code.testBit w)&&_)) ^^ decide (G.wires.length=n))=_;rw[AG J];simp
   · rcases st with⟨ai,_⟩ | ⟨_,r⟩
     · lia
     · obtain⟨c1,c2⟩:=F.tb (Zu.mp can)
       have hx:p.1.testBit x=false:=by
         cases qx:p.1.testBit x with
         | false=>rfl
         | true=>exact(F.exc (F.xa qx) c1).elim
       conv at r=>arg 1;rw[J]
       refine⟨q,k,hk,o.ri,r,?_,al _ (by show G.wires.length<=n;lia)⟩;have d:(Y9 ⟨G.wires.length,false,sb.takes,[y]⟩ p).1.testBit y=true:=by
         rw[W7];show((p.1.testBit y&&!decide (y∈sb.takes))||decide (y∈[y]))=_;rw[AG (show y∈[y] by simp),FP]
       have g:(Y9 ⟨G.wires.length,false,sb.takes,[y]⟩ p).1.testBit x=false:=by
         rw[W7,hx];show(false&&_||decide (x∈[y]))=_;rw[AB (show x∉[y] by simpa using P.xy)];rfl
       rw[g,d,Vr,o.wb,hx,c2,F.lb c1];show((false||(!((!G.code.testBit w)==G.code.testBit w)&&!false)) ^^ decide (G.wires.length=n))=_;rw[AG J];cases G.code.testBit w<;>simp
 · intro l hl N
   have hN:=SY (λe p=>∃ q,Ow G n s0 one two rs sa sb w x y (e / 3) p q/\p.1.testBit x=(e % 3==1)/\p.1.testBit y=(e % 3==2)) ?_ (3*2^(2*n - 1)) l hl ?_
   · have:2^(2*n - 1)<=128:=BA (BY (by lia) (show 2*n - 1<=7 by have:=h.n4;lia)) (by decide)
     lia
   · rintro e p p' ⟨q,o,hx,hy⟩ ⟨q',o',ap,E⟩
     obtain rfl:=dJ o.ri o'.ri;have ex:p.1.testBit x=p'.1.testBit x:=hx.trans ap.symm;have M:p.1.testBit y=p'.1.testBit y:=hy.trans E.symm;refine FW (BM λj=>?_) (BM λj=>?_)
     · by_cases H:j=x
       · rw[H];exact ex
       by_cases I:j=y
       · rw[I];exact M
       have e1:=o.rel.m j H I;have e2:=o'.rel.m j H I;have a1:p.1.testBit x=true->decide (j∈sa.takes)=true->p.1.testBit j=false:=λu v=>o.rel.da u j (AT v)
       have a2:p.1.testBit y=true->decide (j∈sb.takes)=true->p.1.testBit j=false:=λu v=>o.rel.db u j (AT v)
       have a3:p'.1.testBit x=true->decide (j∈sa.takes)=true->p'.1.testBit j=false:=λu v=>o'.rel.da u j (AT v)
       have a4:p'.1.testBit y=true->decide (j∈sb.takes)=true->p'.1.testBit j=false:=λu v=>o'.rel.db u j (AT v)
       rw[<- ex,<- M,e1] at e2;rw[<- ex] at a3;rw[<- M] at a4;revert e2 a1 a2 a3 a4;generalize p.1.testBit x=X;generalize p.1.testBit y=Y;generalize decide (j∈sa.takes)=A;generalize decide (j∈sb.takes)=B;generalize p.1.testBit j=u;generalize p'.1.testBit j=v;cases X<;>cases Y<;>cases A<;>cases B<;>cases u<;>cases v<;>simp
     · rcases Nat.lt_trichotomy j n with hj | hj | hj
       · rw[<- o.rel.c j hj,<- o'.rel.c j hj]
       · rw[hj,o.wb,o'.wb,ex,M]
       · rw[o.hi j hj,o'.hi j hj]
   · intro p hp
     obtain⟨q,k,hk,o⟩:=N p hp;have F:=o.fa h P hk;obtain⟨k',f,aj⟩:=fJ h.rg h.n1 h.he hk o.ri;have mk:∀ i,i<3->p.1.testBit x=(i==1)->p.1.testBit y=(i==2)->∃ e,e<3*2^(2*n - 1)/\∃ q,Ow G n s0 one two rs sa sb w x y (e / 3) p q/\p.1.testBit x=(e % 3==1)/\p.1.testBit y=(e % 3==2):=λi hi hx hy=>by
       have T:(3*k'+i) / 3=k':=by lia
       have d2:(3*k'+i) % 3=i:=by lia
       exact⟨3*k'+i,by lia,q,by rw[T];exact⟨aj,o.rel,o.wb,o.hi⟩,by rw[d2];exact hx,by rw[d2];exact hy⟩
     cases hx:p.1.testBit x with
     | true =>
       cases hy:p.1.testBit y with
       | true=>exact(F.exc (F.xa hx) (F.yb hy)).elim
       | false=>have:=mk 1 (by lia) (by rw[hx];rfl) (by rw[hy];rfl);rw[hx,hy] at this;exact this
     | false =>
       cases hy:p.1.testBit y with
       | true=>have:=mk 2 (by lia) (by rw[hx];rfl) (by rw[hy];rfl);rw[hx,hy] at this;exact this
       | false=>have:=mk 0 (by lia) (by rw[hx];rfl) (by rw[hy];rfl);rw[hx,hy] at this;exact this
end
theorem hO(hb:Gb 64 G)(F:G.wires.length<=9)(e:G.steps.length<=22)(hx:x<64)(hy:y<64)(ha:G.steps[a]?=some sa)(i:G.steps[b]?=some sb)(z:Str):Gb 64 (putG G z a b x y sa sb) where
 w2:=by show(G.wires++[(z,true)]).length<=10;rw[AN];show _+1<=10;lia
 s1:=by show 1<=((G.steps.set a _).set b _++[_,_]).length;rw[AN];show 1<=_+2;lia
 s2:=by show((G.steps.set a _).set b _++[_,_]).length<=24;rw[AN,BN,BN];show _+2<=24;lia
 mks:=hb.mks
 st:=λs hs=>by
  have D:(putG G z a b x y sa sb).wires.length=G.wires.length+1:=by show(G.wires++[(z,true)]).length=_;rw[AN];rfl
  rw[D];have old:∀ s∈G.steps,SB 64 (G.wires.length+1) s:=λs hs=>⟨Nat.lt_succ_of_lt (hb.st s hs).w,(hb.st s hs).t,(hb.st s hs).f,(hb.st s hs).tn,(hb.st s hs).fn⟩
  have oa:=old sa (AD ha);have ob:=old sb (AD i);have one:∀ v:Nat,v<64->∀ p∈[v],p<64:=λv hv p hp=>by rw[AJ.mp hp];exact hv
  have c:∀ v:Nat,[v].Nodup:=λv=>CT.mpr ⟨by simp,DZ⟩
  rcases BO.mp (show s∈(G.steps.set a ⟨sa.w,sa.up,[x],sa.fills⟩).set b ⟨sb.w,sb.up,[y],sb.fills⟩++[⟨G.wires.length,true,sa.takes,[x]⟩,⟨G.wires.length,false,sb.takes,[y]⟩] from hs) with q | q
  .rcases ED q with q | q
   .rcases ED q with q | q
    .exact old s q
    .rw[q];exact⟨oa.w,one x hx,oa.f,c x,oa.fn⟩
   .rw[q];exact⟨ob.w,one y hy,ob.f,c y,ob.fn⟩
  .rcases BK.mp q with q | q
   .rw[q];exact⟨GK _,oa.t,one x hx,oa.tn,c x⟩
   .rw[AJ.mp q];exact⟨GK _,ob.t,one y hy,ob.tn,c y⟩
theorem K'.takes(P:K' G a b x y sa sb)(h:(putG G z a b x y sa sb).steps[i]?=some s) :
  (i=a/\s.takes=[x])\/(i=b/\s.takes=[y])\/∃ g c,G.steps[g]?=some c/\s.takes=c.takes/\i=(if g=a then G.steps.length else if g=b then G.steps.length+1 else g):=by
 rcases P.at h with⟨e,rfl⟩ | ⟨e,rfl⟩ | ⟨h1,h2,e⟩ | ⟨e,rfl⟩ | ⟨e,rfl⟩
 .exact .inl ⟨e,rfl⟩
 .exact .inr (.inl ⟨e,rfl⟩)
 .exact .inr (.inr ⟨i,s,e,rfl,by rw[AM h1,AM h2]⟩)
 .exact .inr (.inr ⟨a,sa,P.ha,rfl,by rw[AH rfl];exact e⟩)
 .exact .inr (.inr ⟨b,sb,P.hb,rfl,by rw[AM (AR P.ab),AH rfl];exact e⟩)
theorem K'.noriv(P:K' G a b x y sa sb)(hs:NT G):Ln (putG G z a b x y sa sb):=by
 intro i j m B f hi hj q h1 _ h2;exfalso;have nx:∀ (g:Nat) (c:St3),G.steps[g]?=some c->x∉c.takes:=λg c e=>(P.fx c (AD e)).1
 have h:∀ (g:Nat) (c:St3),G.steps[g]?=some c->y∉c.takes:=λg c e=>(P.fy c (AD e)).1
 rcases P.takes hi with⟨e,u⟩ | ⟨e,u⟩ | ⟨g,c,e,u,eg⟩<;>rcases P.takes hj with⟨e',R⟩ | ⟨e',R⟩ | ⟨g',d,e',R,k⟩<;>rw[u] at h1<;>rw[R] at h2
 .exact f (e.trans e'.symm)
 .exact P.xy ((AJ.mp h1).symm.trans (AJ.mp h2))
 .exact nx g' d e' ((AJ.mp h1)▸h2)
 .exact P.xy ((AJ.mp h2).symm.trans (AJ.mp h1))
 .exact f (e.trans e'.symm)
 .exact h g' d e' ((AJ.mp h1)▸h2)
 .exact nx g c e ((AJ.mp h2)▸h1)
 .exact h g c e ((AJ.mp h2)▸h1)
 .by_cases hg:g=g'
  .subst hg;exact f (eg.trans k.symm)
  .exact hs g g' c d hg e e' q h1 h2
structure MD (B:Nat) (G:G3):Prop where
 calm:∃ I,LC G I
 gb:Gb B G
 md:2<=(G.steps.filter (Yz G)).length
 w1:1<=G.wires.length
 w2:G.wires.length<=5
 s2:G.steps.length<=22
 cd:G.code<2^G.wires.length
theorem cB{B':Nat}(h:Gb B G)(hb:B<=B'):Gb B' G:=⟨h.w2,h.s1,h.s2,λs hs=>⟨(h.st s hs).w,λp hp=>by have:=(h.st s hs).t p hp;lia,λp hp=>by have:=(h.st s hs).f p hp;lia,(h.st s hs).tn,(h.st s hs).fn⟩,AO h.mks (BY (by lia) hb)⟩
theorem MD.up(h:MD 54 G):MD 57 G:=⟨h.calm,cB h.gb (by lia),h.md,h.w1,h.w2,h.s2,h.cd⟩
theorem MD.gk(h:MD 57 G):Gk 57 57 G where
 w1:=h.w1
 w2:=h.w2
 s1:=BA h.md (List.length_filter_le _ _)
 s2:=h.s2
 st:=λs hm=>⟨(h.gb.st s hm).w,(h.gb.st s hm).t,(h.gb.st s hm).f,Kl (h.gb.st s hm).tn (h.gb.st s hm).t,Kl (h.gb.st s hm).fn (h.gb.st s hm).f⟩
 mks:=h.gb.mks
theorem Cp(h:x∈frees G):G.marks.testBit x=false/\∀ s∈G.steps,x∉s.takes/\x∉s.fills:=by
 have h2:=(DE.mp h).2;unfold Lp at h2;rw[HB,Bool.or_eq_false_iff] at h2;refine⟨h2.1,λs hs=>?_⟩;have h3:=List.any_eq_false.mp h2.2 s hs;rw[EU,not_or] at h3;exact⟨λz=>h3.1 (AG z),λz=>h3.2 (AG z)⟩
theorem MD.put(h:MD 57 G)(hf:frees G=x::y::aj)(xy:x<y)(r:a≠b)(ha:G.steps[a]?=some sa)(hb:G.steps[b]?=some sb):K' G a b x y sa sb:=by
 have fx:=Cp (G:=G) (x:=x) (by rw[hf];simp);have fy:=Cp (G:=G) (x:=y) (by rw[hf];simp);exact⟨ha,hb,r,BR xy,fx.2,fy.2,fx.1,fy.1,λs hs=>(h.gb.st s hs).w,h.cd⟩
theorem MD.look{z:Nat}(h:MD 54 G)(l:LH G G' z)(hb:Gb 57 G'):MD 57 G':=by
 obtain⟨I,N⟩:=h.calm;refine⟨⟨_,eY l.look N⟩,hb,?_,by rw[l.ws];exact h.w1,by rw[l.ws];exact h.w2,by rw[l.len];exact h.s2,by rw[l.cd,l.ws];exact h.cd⟩;have e:G'.steps.map (Yz G')=G.steps.map (Yz G):=by
  apply HQ;intro i;rw[AL,AL];cases q:G'.steps[i]? with
  | none =>
   have:G.steps[i]?=none:=FB (by rw[<- l.len];exact EX.mp q);rw[this];rfl
  | some s' =>
   obtain⟨s,hs,b,J,_⟩:=l.st i s' q;rw[hs];show some _=some _;unfold Yz;rw[l.ws,J]
 have c:∀ K:G3,(K.steps.filter (Yz K)).length=((K.steps.map (Yz K)).filter id).length:=λK=>by
  rw[List.filter_map,AF];rfl
 rw[c,e,<- c];exact h.md
structure Rg (G:G3) (n s0:Nat) (one two:Nat->Nat) (rs:List (Nat×Nat)):Prop where
 rg:RG G n s0 one two rs
 gb:Gb 54 G
 ns:NT G
 lv:RW G n rs
 n1:1<=n
 n4:n<=4
section
variable{two:Nat->Nat}
theorem Rg.gk(h:Rg G n s0 one two rs):Gk 54 54 G where
 w1:=by rw[h.lv.2.1];exact h.n1
 w2:=by rw[h.lv.2.1];have:=h.n4;lia
 s1:=by rw[h.lv.2.2.1];have:=h.n1;lia
 s2:=by rw[h.lv.2.2.1];have:=h.n4;lia
 st:=λs hm=>⟨(h.gb.st s hm).w,(h.gb.st s hm).t,(h.gb.st s hm).f,Kl (h.gb.st s hm).tn (h.gb.st s hm).t,Kl (h.gb.st s hm).fn (h.gb.st s hm).f⟩
 mks:=h.gb.mks
theorem Rg.made(h:Rg G n s0 one two rs)(J:w<G.wires.length)(z:Str):Rg ⟨G.wires.set w (z,true),G.steps,G.marks,G.code⟩ n s0 one two rs/\MD 54 ⟨G.wires.set w (z,true),G.steps,G.marks,G.code⟩:=by
 have l:(G.wires.set w (z,true)).length=G.wires.length:=BN;have gb:Gb 54 ⟨G.wires.set w (z,true),G.steps,G.marks,G.code⟩:=⟨by show(G.wires.set w (z,true)).length<=10;rw[l];exact h.gb.w2,h.gb.s1,h.gb.s2,λs hs=>by show SB 54 (G.wires.set w (z,true)).length s;rw[l];exact h.gb.st s hs,h.gb.mks⟩;have lv:RW ⟨G.wires.set w (z,true),G.steps,G.marks,G.code⟩ n rs:=⟨h.lv.1,l.trans h.lv.2.1,h.lv.2.2⟩;have r:Rg ⟨G.wires.set w (z,true),G.steps,G.marks,G.code⟩ n s0 one two rs:=⟨RG.ws h.rg _,gb,h.ns,lv,h.n1,h.n4⟩;have k:=r.gk;refine⟨r,⟨_,Ka r.rg r.n4⟩,gb,?_,k.w1,k.w2,k.s2,?_⟩
 .exact d3 (w:=w) (u:=(z,true)) (by show(G.wires.set w (z,true))[w]?=_;rw[AZ,AH rfl,AH J]) rfl (h.lv.2.2.2.2 w (by rw[<- h.lv.2.1];exact J))
 .show G.code<2^(G.wires.set w (z,true)).length
  rw[l,h.lv.2.1];exact h.lv.1
theorem gm(h:G.steps[k]?=some s)(hm:Yz G s=true):k∈Vi G:=by
 unfold Vi;refine DJ.mpr ⟨(s,k),DE.mpr ⟨?_,hm⟩,rfl⟩;refine List.mem_iff_getElem?.mpr ⟨k,?_⟩;rw[List.getElem?_zipIdx,h];simp
theorem kU(nd:l.Nodup)(hb:b∈l)(h:∀ c∈l,c=b):l=[b]:=by
 cases l with
 | nil=>simp at hb
 | cons c r =>
  rw[h c AX];cases r with
  | nil=>rfl
  | cons d r =>
   have h1:=h c AX;have h2:=h d (by simp);rw[h1,h2] at nd;simp at nd
noncomputable def OH(G:G3)(k:Nat):Nat:=match G.steps[k]? with
 | some s=>s.w
 | none=>0
theorem Rg.pair(h:Rg G n s0 one two rs){i1:Nat}(ha:(Vi G)[i1]?=some a)(hs:G.steps[a]?=some sa)(hm:Yz G sa=true) :
  ∃ b sb,((Vi G).eraseIdx i1).filter (λk=>OH G k==sa.w)=[b]/\b≠a/\G.steps[b]?=some sb/\Yz G sb=true/\sb.w=sa.w/\(KM G n s0 one two rs sa sb sa.w\/KM G n s0 one two rs sb sa sa.w):=by
 have I:=(AC.mp hs).1;have F:G.steps[a]=sa:=by rw[AK I] at hs;exact BC hs
 have ma:=AD hs;have ac:=h.lv.2.1;have D:sa.w<n:=by rw[<- ac];exact(h.gb.st sa ma).w
 -- another one
 obtain⟨b,sb,A,E,o⟩:∃ b sb,b≠a/\G.steps[b]?=some sb/\sb.w=sa.w:=by
  have c2:=h.lv.2.2.2.2 sa.w D;have i:a<(G.steps.map (·.w)).length:=by rw[AF];exact I
  have q:0<((G.steps.map (·.w)).eraseIdx a).count sa.w:=by
   have e:=FC a (G.steps.map (·.w));rw[DN i] at e;rw[<- e,IY,JO] at c2;rw[CS,IY];have:(if((G.steps.map (·.w))[a]==sa.w)=true then 1 else 0)<=1:=by split<;>lia
   lia
  obtain⟨b,p,y⟩:=List.mem_eraseIdx_iff_getElem?.mp (HF.mp q);rw[AL] at y;obtain⟨sb,E,e⟩:=map_some y;exact⟨b,sb,p,E,e⟩
 have C:=AD E;have ae:Yz G sb=true:=by unfold Yz at hm ⊢;rw[o];exact hm
 obtain⟨t,ht⟩:=CL (h.rg.ring sa.w D)
 -- a f of l wire takes one of l ring's two spots
 have f:∀ (k:Nat) (s:St3),G.steps[k]?=some s->s.w=sa.w->(LP G s0 one two rs n (one sa.w) s/\s0+2*t+1∈s.takes)\/(LP G s0 one two rs n (two sa.w) s/\s0+2*t∈s.takes):=λk s e W=>by
  obtain⟨d,hd⟩:=h.rg.st s (AD e);rcases hd.lev with⟨e1,_⟩ | ⟨e1,_⟩
  .rw[W] at e1
   subst e1;exact .inl ⟨hd,(hd.tk.b ht).mpr rfl⟩
  .rw[W] at e1
   subst e1;exact .inr ⟨hd,(hd.tk.a ht).mpr rfl⟩
 have same:∀ (k k':Nat) (s s':St3) (q:Nat),G.steps[k]?=some s->G.steps[k']?=some s'->q∈s.takes->q∈s'.takes->k=k':=λk k' s s' q e e' h1 h2=>GH λhk=>h.ns k k' s s' hk e e' q h1 h2
 have hl:((Vi G).eraseIdx i1).filter (λk=>OH G k==sa.w)=[b]:=by
  refine kU (List.Nodup.sublist IH ((El G).sublist (List.eraseIdx_sublist _ _))) (DE.mpr ⟨?_,?_⟩) λc hc=>?_
  .obtain⟨j,hj⟩:=CL (gm E ae)
   refine List.mem_eraseIdx_iff_getElem?.mpr ⟨j,λz=>A ?_,hj⟩;rw[z,ha] at hj;exact(BC hj).symm
  .unfold OH;rw[E];simpa using o
  .obtain⟨aq,M⟩:=DE.mp hc
   obtain⟨B,r⟩:=XF (El G) ha aq;obtain⟨sc,v,_⟩:=Cw r;have m:sc.w=sa.w:=by unfold OH at M;rw[v] at M;simpa using M
   rcases f a sa hs rfl with⟨_,T⟩ | ⟨_,T⟩
   .rcases f c sc v m with⟨_,d2⟩ | ⟨_,d2⟩
    .exact absurd (same a c sa sc _ hs v T d2) B
    .rcases f b sb E o with⟨_,g⟩ | ⟨_,g⟩
     .exact absurd (same b a sb sa _ E hs g T) A
     .exact same c b sc sb _ v E d2 g
   .rcases f c sc v m with⟨_,d2⟩ | ⟨_,d2⟩
    .rcases f b sb E o with⟨_,g⟩ | ⟨_,g⟩
     .exact same c b sc sb _ v E d2 g
     .exact absurd (same b a sb sa _ E hs g T) A
    .exact absurd (same a c sa sc _ hs v T d2) B
 refine⟨b,sb,hl,A,E,ae,o,?_⟩;rcases f a sa hs rfl with⟨x1,T⟩ | ⟨x1,T⟩
 .rcases f b sb E o with⟨x3,g⟩ | ⟨x3,g⟩
  .exact absurd (same b a sb sa _ E hs g T) A
  .exact .inl ⟨h.rg,h.n1,h.n4,ac,h.lv.2.2.2.1,h.ns,D,rfl,o,x1,x3⟩
 .rcases f b sb E o with⟨x3,g⟩ | ⟨x3,g⟩
  .exact .inr ⟨h.rg,h.n1,h.n4,ac,h.lv.2.2.2.1,h.ns,D,o,rfl,x3,x1⟩
  .exact absurd (same b a sb sa _ E hs g T) A
end
noncomputable def MI(G:G3)(s:St3):Nat:=((if s.up then 1 else 0) ^^^ 1) ^^^ (if G.code.testBit s.w then 1 else 0)
theorem Bl(G:G3)(k:Nat)(s:St3)(h:G.steps[k]?=some s):(dO Pw (dO Pw (dF PX (O (dO Yd (dO Yd (dO Yd (U 2) (Θ 1)) (U 0)) (Θ 1)) Zb)) (Θ 1)) (dO M9 (dO Ph (dO Yd (U 2) (Θ 3)) (U 1)) (Θ 1))) [Φ k,.fz (.int (s.w:Int)),.fz G.d]=some (.int ((MI G s:Nat):Int)):=by
 have i1:PX [.bl s.up]=some (.int ((if s.up then 1 else 0:Nat):Int)):=by cases s.up<;>rfl
 have a1:M9 (.int ((G.code / 2^s.w:Nat):Int)) (.int 1)=some (.int ((if G.code.testBit s.w then 1 else 0:Nat):Int)):=(Ck _ _).trans (by cases G.code.testBit s.w<;>rfl);exact Z5 (Z5 (Yq (Z2 (Z5 (Z5 (Z5 rfl rfl rfl) rfl (Q8 (x:=s.d) (by rw[AL,h];rfl))) rfl rfl) rfl) i1) rfl (OP _ 1)) (Z5 (Z5 (Z5 rfl rfl rfl) rfl (PM _ _)) rfl a1) (OP _ _)
section
variable{two:Nat->Nat}
theorem KM.ka(h:KM G n s0 one two rs sa sb w):MI G sa=0:=by
 unfold MI;rw[h.wa,h.ua];cases G.code.testBit w<;>decide
theorem KM.kb(h:KM G n s0 one two rs sa sb w):MI G sb=1:=by
 unfold MI;rw[h.wb,h.ub];cases G.code.testBit w<;>decide
end
theorem YH{fe:Zzu}{fs:Z (C1 Nat)}{g:Dat->Ev->C1 Ev}{e:Ev}{x y:Dat}{a b:Int}(h1:env[i]?=some .tb)(h2:f env=some (.lst [x,y]))(h3:fe (.fz x::Vb fs (env.set i .un))=some (.int a))(h4:fe (.fz y::Vb fs (env.set i .un))=some (.int b))(r:a≠b)
  (F:g (.lst (if b<a then[y,x] else[x,y])) (env.set i .un)=some e) (q:N e):Go (PN i f fs fe g env) N R:=by
 refine⟨?_⟩;unfold PN;rw[h1,h2];dsimp only;rw[h3,h4];dsimp only;rw[AH r,F];exact q
theorem kN{p:Nat}(hp:ds.length=p)(q:Go (g ((Vv n ds).set i .tb)) (λ_=>R .non) R):∃ d,OU i n p g ds=.ok d/\R d:=by
 unfold OU;rw[AH hp];cases e:g ((Vv n ds).set i .tb) with
 | next e'=>rw[e] at q;exact⟨_,rfl,q.of⟩
 | ret d=>rw[e] at q;exact⟨_,rfl,q.of⟩
 | _=>rw[e] at q;exact q.of.elim
noncomputable def Kn(G:G3)(ow:Bool):Prop:=MD 57 G/\(ow=true->∃ n s0 one two rs,Rg G n s0 one two rs)
theorem UZ(ns:Z Int)(n c:Nat)(G:G3)(ow:Bool)(hK:Kn G ow)(v5 A X o:KQ)(a b:Nat)(sa sb:St3)(r:a≠b)(ha:G.steps[a]?=some sa)(hb:G.steps[b]?=some sb)(ma:Yz G sa=true)(C:Yz G sb=true)
  (J:ow=true->∃ n s0 one two rs w,KM G n s0 one two rs sa sb w) :
  Go ((Zd (Zw 10 (Zx Iy (O (U 3) (O (Zx Uq (O (dO V0 (U 2) (Θ 600)) (O (dO Yd (U 3) (Θ 0)) Zb))) (O (U 6) (O (U 7) Zb))))))
   (Zd (Jv (Jf (dT (Zx Wm (O (U 10) Zb)))) (W3 (OM (U 4))) Vo)
   (Zd (Jv (Jf (dT (Zx Ul (O (U 3) (O (U 10) (O (dS Ac (U 0) (U1 (Θ 5)) (U1 (Θ 63))) Zb)))))) (W3 (dC (.bl false))) Vo)
   (W3 (Zx Uj (O (U 3) (O (U 10) (O (dL (Ud (O (U 6) (O (U 7) Zb)))) (O (dS Ac (U 0) (U1 (Θ 5)) (U1 (Θ 63))) Zb)))))))))
   [.fz (Qr ns),Φ n,Φ c,.fz G.d,.fz (.bl ow),v5,Φ a,Φ b,A,X,o]) (λ_=>Dat.non=.bl true) (λd=>d=.bl true):=by
 have S:=hK.1;obtain⟨z,ez,hz,g⟩:=kY (c / 600) G.wires S.w2;obtain⟨x,y,aj,hf,f,hyB⟩:=jw S.gk (by lia);have P:=S.put hf f r ha hb;have e:=cg G S.gk (by lia) hf z hz g a b sa sb r ha hb ma C;have F:=S.w2;have v:=S.s2;have hG:Gb 64 G:=cB S.gb (by lia);have hN:=hO hG (by lia) (by lia) (x:=x) (y:=y) (by lia) (by lia) ha hb z;obtain⟨I,N⟩:=S.calm;have h1:=Cq (z:=z) P N hG hN (Tv ns (some 5) (some 63));have h2:=fH (z:=z) P hG hN (Tv ns (some 5) (some 63));have hs:ow=true->Wm [(putG G z a b x y sa sb).d]=.ok (.bl true):=λq=>by
  obtain⟨m,s0,one,two,rs,w,h⟩:=J q;obtain⟨d,es⟩:=gw hN (jl (z:=z) h P) (P.noriv h.ns);exact Ik es
 obtain⟨bb,i⟩:=Ae hN;generalize putG G z a b x y sa sb=M at *;have sl:dS Ac (U 0) (U1 (Θ 5)) (U1 (Θ 63)) [.fz (Qr ns),Φ n,Φ c,.fz G.d,.fz (.bl ow),v5,Φ a,Φ b,A,X,.fz M.d]=some (.lst ((Tv ns (some 5) (some 63)).map .int)):=Gv rfl (Uf rfl) (Uf rfl) (by rw[<- Ie];exact Nk _ _ _);refine Z7 (Zg (Ze (xs:=[G.d,.str z,Ψ a,Ψ b]) (Z2 rfl (Z2 (Ze (xs:=[.int ((c / 600:Nat):Int),.tup (G.wires.map Ub)]) (Z2 (Z5 rfl rfl (U8 c 600)) (Z2 (Z5 rfl rfl rfl) rfl)) ez) rfl)) e) ?_);refine Z7 (Ti (b:=!bb) (Q0 (Qg (Ze (xs:=[M.d]) rfl i))) (λq=>?_) (λq=>Yl ?_))
 .refine Ya (i9 rfl) ?_
  cases ow with
  | false=>rfl
  | true =>
   rw[hs rfl] at i;cases i;cases q
 refine Z7 (Us (Q0 (b:=true) (Qg (Ze (xs:=[G.d,M.d,.lst ((Tv ns (some 5) (some 63)).map .int)]) (Z2 rfl (Z2 rfl (Z2 sl rfl))) h1))) (Yl ?_));exact Ya (Ze (xs:=[G.d,M.d,.lst (Zc [a,b]),.lst ((Tv ns (some 5) (some 63)).map .int)]) (Z2 rfl (Z2 rfl (Z2 (Wl (Ta rfl)) (Z2 sl rfl)))) h2) rfl
theorem dN(ns:Z Int)(af:ns.length<=63):bi [.lst (ns.map .int)]=.ok (.bl true):=by
 refine Wz (kN (i:=10) (n:=11) (p:=1) (ds:=[Qr ns]) (g:=Xu) (R:=λd=>d=.bl true) rfl ?_);show Go (Xu [.fz (Qr ns),.un,.un,.un,.un,.un,.un,.un,.un,.un,.tb]) _ _;unfold Xu;obtain⟨c0,e0,_⟩:=Mt ns 0 (by lia);obtain⟨c1,e1,_⟩:=Mt ns 1 (by lia);obtain⟨c,e2,_⟩:=Mt ns 2 (by lia);obtain⟨n,hn,ay,aK⟩:∃ n:Nat,1+c0 % 4=n/\1<=n/\n<=4:=⟨_,rfl,by lia,by lia⟩;have ak:∀ env:Ev,env[0]?=some (.fz (Qr ns))->Zx Yb (O (U 0) (O (Θ 0) Zb)) env=some (Ψ c0):=λenv h0=>Ze (xs:=[Qr ns,.int ((0:Nat):Int)]) (Z2 (by unfold U;rw[h0]) rfl) e0
 have B:∀ env:Ev,env[0]?=some (.fz (Qr ns))->Zx Yb (O (U 0) (O (Θ 1) Zb)) env=some (Ψ c1):=λenv h0=>Ze (xs:=[Qr ns,.int ((1:Nat):Int)]) (Z2 (by unfold U;rw[h0]) rfl) e1
 have ag:∀ env:Ev,env[0]?=some (.fz (Qr ns))->Zx Yb (O (U 0) (O (Θ 2) Zb)) env=some (Ψ c):=λenv h0=>Ze (xs:=[Qr ns,.int ((2:Nat):Int)]) (Z2 (by unfold U;rw[h0]) rfl) e2
 refine Z7 (Zg (d:=.int (n:Int)) (by rw[<- hn];exact Z5 rfl (Z5 (ak _ rfl) rfl (Te c0 4)) (U6 1 _)) ?_);refine Z7 (Zg (ag _ rfl) ?_);obtain⟨G0,s0,ps,rs,eg,h1,h2,h3,h4⟩:=eP ns 3 n (c1 % 5) (by lia) ay aK (by lia);have R0:Rg G0 n s0 (T9 ps) (T5 ps) rs:=⟨h1,h2,h3,h4,ay,aK⟩;have aA:c / 6 % n<G0.wires.length:=by rw[h4.2.1];exact FY _ (by lia)
 obtain⟨G1,ai,_,_,xx,aj⟩:=Bf G0 R0.gk (c / 6 % n) aA;obtain⟨R1,O1⟩:=R0.made aA xx;rw[<- aj] at R1 O1;refine Z7 (Zg (d:=G1.d) (Ze (xs:=[G0.d,.int ((c / 6 % n:Nat):Int)]) (Z2 (Ze (xs:=[Qr ns,.int ((3:Nat):Int),Ψ n,.int ((c1 % 5:Nat):Int)]) (Z2 rfl (Z2 rfl (Z2 rfl (Z2 (Z5 (B _ rfl) rfl (Te c1 5)) rfl)))) eg) (Z2 (Z5 (Z5 rfl rfl (U8 c 6)) rfl (Te _ n (by lia))) rfl)) ai) ?_);refine Z7 (Zg (d:=.bl (c % 2==0)) (Z5 (Z5 rfl rfl (Te c 2)) rfl (MW _ 0)) ?_);clear aj ai aA eg R0 h1 h2 h3 h4;refine Z7 (Go.mono (N:=λe=>∃ (G:G3) (ow:Bool),e=[.fz (Qr ns),Φ n,Φ c,.fz G.d,.fz (.bl ow),.un,.un,.un,.un,.un,.tb]/\MD 54 G/\(ow=true->∃ n s0 one two rs,Rg G n s0 one two rs)) (R:=λd=>d=.bl true) ?_ ?_ (λ_ h=>h))
 .refine Ti (Yj (Z5 (Z5 (Z5 (B _ rfl) rfl (U8 c1 5)) rfl (Te _ 4)) rfl (MW _ 0))) (λ_=>?_) (λ_=>Yl ⟨G1,_,rfl,O1,λ_=>⟨n,s0,_,_,rs,R1⟩⟩)
  obtain⟨G2,Lq_,e3,k1,k2,k3,W,k5,k6,k7,k8⟩:=gI ns 3 (by lia);refine Z7 (Zg (Ze (xs:=[Qr ns,.int ((3:Nat):Int)]) rfl e3) (Zg (d:=.bl false) rfl ⟨G2,false,rfl,⟨⟨_,d4 k1⟩,k2,k8,k3,W,k6,by rw[k7];exact HC _⟩,λz=>by cases z⟩))
 rintro e ⟨G,ow,rfl,S,Q⟩;refine Z7 (Go.mono (N:=λe=>∃ (G:G3) (ow:Bool),e=[.fz (Qr ns),Φ n,Φ c,.fz G.d,.fz (.bl ow),.un,.un,.un,.un,.un,.tb]/\Kn G ow) (R:=λd=>d=.bl true) ?_ ?_ (λ_ h=>h))
 .refine Ti (Dd (Q0 (Qg rfl)) λ_=>Yj (Z5 (Z5 (Z5 rfl rfl (U8 c 4)) rfl (Te _ 3)) rfl (MW _ 0))) (λhb=>?_) (λ_=>Yl ⟨G,ow,rfl,S.up,Q⟩)
  obtain⟨G2,z,e3,l,g⟩:=lE G S.gb (c / 12);refine Zg (Ze (xs:=[G.d,.int ((c / 12:Nat):Int)]) (Z2 rfl (Z2 (Z5 rfl rfl (U8 c 12)) rfl)) e3) ⟨G2,ow,rfl,S.look l g,λq=>?_⟩;rw[q] at hb;cases hb
 clear S Q R1 O1;rintro e ⟨G,ow,rfl,hK⟩;have S:=hK.1;have v:V2 (Ij 2 (W1 (Y8 0) (W1 (Y8 1) Jx))) (dB (dO S5 (dO Yd (dO Yd (dO Yd (U 2) (Θ 0)) (dO Yd (U 1) (Θ 0))) (Θ 1)) (dC (.str "made")))) (U 0) [.un,.un,.fz G.d] (Ra 0 (G.steps.map St3.d))=some (Zc (Vi G)):=by
  rw[gS,Vj (λp:St3×Nat=>Dat.tup [.int (p.2:Int),p.1.d]) (λp:St3×Nat=>Dat.int (p.2:Int)) (λp=>Yz G p.1) G.steps.zipIdx λp hp=>by
   obtain⟨s,j⟩:=p;have hs:s∈G.steps:=by
    have:=List.mem_zipIdx hp;rw[this.2.2];exact GB _
   have J:=(S.gb.st s hs).w;obtain⟨u,C⟩:∃ u,G.wires[s.w]?=some u:=⟨_,AK J⟩;refine⟨[Φ j,.fz s.d,.fz G.d],rfl,?_,rfl⟩;show _=some (Yz G s);rw[Dg C];exact Yj (Z5 (Z5 (Z5 (Z5 rfl rfl rfl) (Z5 rfl rfl rfl) (ZE C)) rfl rfl) rfl (bL _))]
  unfold Vi;rw[W0,EZ];rfl
 refine Z7 (Tr (ds:=Zc (Vi G)) (W4 (xs:=Ra 0 (G.steps.map St3.d)) (kK (Z5 rfl rfl rfl)) rfl v) ?_);have ac:=je S.md;have aa:=El G;have D:∀ k∈Vi G,∃ s,G.steps[k]?=some s/\Yz G s=true:=λk hk=>Cw hk
 have T:(Vi G).length<=22:=by
  unfold Vi;rw[AF];exact BA (List.length_filter_le _ _) (by rw[List.length_zipIdx];exact S.s2)
 have pr:∀ (i1 a:Nat) (sa:St3),(Vi G)[i1]?=some a->G.steps[a]?=some sa->Yz G sa=true->ow=true->∃ n s0 one two rs b sb,((Vi G).eraseIdx i1).filter (λk=>OH G k==sa.w)=[b]/\b≠a/\G.steps[b]?=some sb/\Yz G sb=true/\sb.w=sa.w/\(KM G n s0 one two rs sa sb sa.w\/KM G n s0 one two rs sb sa sa.w):=λi1 a sa x1 Y x3 q=>by
  obtain⟨n,s0,one,two,rs,R⟩:=hK.2 q;exact⟨n,s0,one,two,rs,R.pair x1 Y x3⟩
 generalize Vi G=sm at ac aa D pr T;have I:c / 7 % sm.length<sm.length:=FY _ (by lia);generalize al:c / 7 % sm.length=i1 at I;obtain⟨a,ha⟩:∃ a,sm[i1]?=some a:=⟨_,AK I⟩;refine Z7 (gn (ds:=Zc sm) (k:=i1) (d:=.int (a:Int)) rfl (Z2 (by rw[<- al];exact Z5 (Z5 rfl rfl (U8 c 7)) (Yq (Z2 rfl rfl) (Tn sm)) (Te _ sm.length (by lia))) rfl) (by rw[W0,AL,ha];rfl) ?_);have am:(Zc sm).eraseIdx i1=Zc (sm.eraseIdx i1):=by
  rw[W0,W0,CS,CS,BP,JU,JV]
 rw[am];have hel:(sm.eraseIdx i1).length=sm.length - 1:=by rw[List.length_eraseIdx,AH I]
 have aJ:c / 77 % (sm.eraseIdx i1).length<(sm.eraseIdx i1).length:=FY _ (by lia);generalize X:c / 77 % (sm.eraseIdx i1).length=i2 at aJ;obtain⟨b,hb⟩:∃ b,(sm.eraseIdx i1)[i2]?=some b:=⟨_,AK aJ⟩;refine Z7 (Zg (d:=.int (b:Int)) (Z5 (y:=.int (i2:Int)) rfl (by rw[<- X];exact Z5 (Z5 rfl rfl (U8 c 77)) (Yq (Z2 rfl rfl) (Tn (sm.eraseIdx i1))) (Te _ (sm.eraseIdx i1).length (by lia))) (Um (by rw[W0,AL,hb];rfl))) ?_);obtain⟨r,ah⟩:=XF aa ha (AD hb);obtain⟨sa,F,aw⟩:=D a (AD ha);obtain⟨sb,E,ae⟩:=D b ah;have ao:=pr i1 a sa ha F aw;have ap:∀ k∈sm.eraseIdx i1,∃ s,G.steps[k]?=some s:=λk hk=>by
  obtain⟨s,hs,_⟩:=D k (List.mem_of_mem_eraseIdx hk);exact⟨s,hs⟩
 generalize sm.eraseIdx i1=er at *;cases ow with
 | false=>exact Z7 (Us (Qg rfl) (Yl (UZ ns n c G false hK _ _ _ _ a b sa sb r F E aw ae λz=>by cases z)))
 | true =>
  obtain⟨m,s0,one,two,rs,b',t,P,A,f,H,o,hW⟩:=ao rfl;refine Z7 (bV (Qg rfl) ?_);refine Z7 (Zg (d:=.int (sa.w:Int)) (Z5 (Z5 (Z5 rfl rfl rfl) rfl (Q8 (x:=sa.d) (by rw[AL,F];rfl))) rfl rfl) ?_);have M:V2 (Y8 0) (dB (dO S5 (dO Yd (dO Yd (dO Yd (U 2) (Θ 1)) (U 0)) (Θ 0)) (U 1))) (U 0) [.un,.fz (.int (sa.w:Int)),.fz G.d] (Zc er)=some (Zc [b']):=by
   rw[W0,Vj (λk:Nat=>Dat.int (k:Int)) (λk:Nat=>Dat.int (k:Int)) (λk=>OH G k==sa.w) er λk hk=>by
    obtain⟨s,hs⟩:=ap k hk;refine⟨[Φ k,.fz (.int (sa.w:Int)),.fz G.d],rfl,?_,rfl⟩;unfold OH;rw[hs];exact Yj (Z5 (Z5 (Z5 (Z5 rfl rfl rfl) rfl (Q8 (x:=s.d) (by rw[AL,hs];rfl))) rfl rfl) rfl (MW _ _)),P,W0]
  refine Z7 (Zg (d:=.lst [Ψ a,Ψ b']) (Z5 (x:=.lst [Ψ a]) (y:=.lst [Ψ b']) (Wl (Ta rfl)) (Wl (W4 (xs:=Zc er) (bF rfl) rfl M)) rfl) ?_);rcases hW with h | h
  .refine YH (a:=((0:Nat):Int)) (b:=((1:Nat):Int)) rfl rfl ((Bl G a sa F).trans (by rw[h.ka])) (by
    have:=Bl G b' t f;rw[o] at this;exact this.trans (by rw[h.kb])) (by decide) rfl ?_
   exact UZ ns n c G true hK _ _ _ _ a b' sa t (AR A) F f aw H λ_=>⟨m,s0,one,two,rs,_,h⟩
  .refine YH (a:=((1:Nat):Int)) (b:=((0:Nat):Int)) rfl rfl ((Bl G a sa F).trans (by rw[h.kb])) (by
    have:=Bl G b' t f;rw[o] at this;exact this.trans (by rw[h.ka])) (by decide) rfl ?_
   exact UZ ns n c G true hK _ _ _ _ b' a t sa A f F H aw λ_=>⟨m,s0,one,two,rs,_,h⟩
end K73
set_option maxHeartbeats 4000000
namespace K73
open PySem PySem.Spec PyProof.Rows L2
theorem Xm:∀ {ws:Z Str},(∀ w∈ws,LG w)->Wj K H (ws.map Dat.str) (ws.map V.str)
 | [],_=>Vt
 | w::ws,h=>Wx (Rb (h w AX)) (Xm λz hz=>h z (BB _ hz))
theorem eO{h:H3}{x:Str}{a:A2}{its:Array A1}(X:K.In h)(G:h.Ns mainGlobals mg)(e:PySem.W.nsIn K mainGlobals x=some (some (.ref a)))(l:K.lookup a=some ⟨.type "tuple",od,.seq its n,sl⟩)(ws:Z Str)(hv:Y5 (ws.map V.str) its.toList)(ok:∀ w∈ws,LG w)(hl:ws.length<=sizeLine):NF K mg x (.tup (ws.map .str)) :=
 ⟨.ref a,.ref a,PySem.W.mg_of X G e,rfl,λH=>B7 (by rw[AF];exact hl) (.inr ⟨_,its,n,l,rfl,rfl,by have h1:=hv.length;have h2:its.toList.length=its.size:=FE;rw[AF] at h1;lia,hv,λi hi=>by obtain⟨z,_,e⟩:=DJ.mp hi;cases e⟩) (Xm ok)⟩
noncomputable abbrev BL:Z Str:=["all","enumerate","int","len","list","max","min","range","reversed","sorted","tuple"]
noncomputable abbrev RC(i j l e:A2):Z (Str×A2):=[("Broken",i),("Crowded",j),("TooMany",l),("CalledOff",e)]
open PySem.W (mg_of mg_none_of) in
theorem Zl1{p:Fn}{w:Gf}{h:H3}{fa:A2}(X:K.In h)(G:h.Ns mainGlobals mg)(aa:mg "law" = some (.ref fa))
  {t0 t1 t2 t3 t4 t u A E F:Tok}
  {f:A2} {od an:C1 A2} {sl:Array (C1 A1)} {oc kV dc pm cd ct:A1}
  {cC tT:A2} {Y:A1} {cb:C1 A2} {g:Array A1} {C:Array (C1 A1)}
  {q5:A2} {d5:C1 A2} {i5:Array A1} {n5:Nat} {w5:Array (C1 A1)}
  {i j l e D:A2}
  (a0:DD K "is_name" Dn)
  (a1:DD K "names" Nj)
  (a2:DD K "is_made" Ki)
  (a3:DD K "wire_of" K0)
  (a4:DD K "is_rise" Kg)
  (a5:DD K "takes_of" Eo)
  (a6:DD K "fills_of" E9)
  (a7:DD K "bits" VF)
  (a8:DD K "has_one" Ku)
  (a9:DD K "can" UB)
  (a10:DD K "behind" O7)
  (a11:DD K "steps_at" Mz)
  (a12:DD K "way" US)
  (a13:DD K "come_to" Kk)
  (a14:DD K "stands" O0)
  (a15:DD K "robs" VE)
  (a16:DD K "touches_made" Ja)
  (a17:DD K "rivals" Og)
  (a18:DD K "sound" Fu)
  (a19:DD K "free_spots" Qv)
  (a20:DD K "has_room" Em)
  (a21:DD K "need_room" Sg)
  (a22:DD K "need_two" Ed)
  (a23:DD K "waiting" K9)
  (a24:DD K "made_steps" Qw)
  (a25:DD K "put_in" P4)
  (a26:DD K "_law_mix" Ek)
  (a27:DD K "_law_word" Sf)
  (a28:DD K "_law_order" R4)
  (a29:DD K "_law_arrows" M7)
  (a30:DD K "_law_graph" V1)
  (a31:DD K "_law_bits" D3)
  (a32:DD K "_law_can" Gc)
  (a33:DD K "_law_behind" Md)
  (a34:DD K "_law_choice" Wi)
  (a35:DD K "_law_with_made" Tx)
  (a36:DD K "_law_new_name" Up)
  (a37:DD K "_law_lookers" T8)
  (a38:DD K "_law_is_sound" Qp)
  (a39:DD K "_law_free" Jq)
  (a40:DD K "_law_new_ways" Qm)
  (a41:DD K "_law_old_ways" Qk)
  (l0:PySem.W.nsIn K mainGlobals "law" = some (some (.ref f))) (l1:K.lookup f=some ⟨oc,od,.func (PySem.W.fnOf "law" "law" (Vs Mm) (Yn Mm) (Z9 Mm) .none kV dc pm an cd ct),sl⟩) (l2:PySem.W.codeIn K cd "law" = true) (l3:PySem.W.keepIn K (.ref f)=true)
  (l4:cd=.ref cC) (l5:K.lookup cC=some ⟨Y,cb,.fields g,C⟩) (l6:(g[11]?:C1 A1)=some (.ref tT)) (l7:K.lookup tT=none)
  (z:∀ x∈BL,PySem.W.nsIn K mainGlobals x=some none)
  (v0:PySem.W.nsIn K mainGlobals "LETTERS" = some (some (.str "abcdefghijklmnopqrstuvwxyz" t0)))
  (v1:PySem.W.nsIn K mainGlobals "LONGEST_NAME" = some (some (.int 8 t1)))
  (v2:PySem.W.nsIn K mainGlobals "MANY_SPOTS" = some (some (.int 64 t2)))
  (v3:PySem.W.nsIn K mainGlobals "MOST_STEPS_AHEAD" = some (some (.int 22 t3)))
  (v4:PySem.W.nsIn K mainGlobals "MOST_WIRES_AHEAD" = some (some (.int 9 t4)))
  (v5:PySem.W.nsIn K mainGlobals "WORDS" = some (some (.ref q5))) (u5:K.lookup q5=some ⟨.type "tuple",d5,.seq i5 n5,w5⟩) (r5:i5.toList=[.str "given" t,.str "made" u,.str "up" A,.str "down" E,.str "start" F])
  (yC0:PySem.W.nsIn K mainGlobals "Broken" = some (some (.ref i)))
  (yC1:PySem.W.nsIn K mainGlobals "Crowded" = some (some (.ref j)))
  (yC2:PySem.W.nsIn K mainGlobals "TooMany" = some (some (.ref l)))
  (yC3:PySem.W.nsIn K mainGlobals "CalledOff" = some (some (.ref e)))
  (yD:PySem.W.nsIn K mainGlobals "CalmError" = some (some (.ref D)))
  (b0:PySem.W.specialIn K (.ref D) "__getattribute__" = some (some (.builtin "type.__getattribute__"))) (b1:PySem.W.readsIn K D (.type "type")=true) (b2:PySem.W.findCls K (.ref D) (.type "type") "__init__" = some (.val (.builtin "ValueError.__init__")))
  (o0:CD K D i "Broken.__init__" UT)
  (e0_0:PySem.W.findIn K (.ref i) "way" = some none)
  (o1:CD K D j "Crowded.__init__" TN)
  (e1_0:PySem.W.findIn K (.ref j) "way" = some none)
  (o2:CD K D l "TooMany.__init__" TY)
  (o3:CD K D e "CalledOff.__init__" TZ)
  (e3_0:PySem.W.findIn K (.ref e) "way" = some none)
  (e3_1:PySem.W.findIn K (.ref e) "lost" = some none)
  (e3_2:PySem.W.findIn K (.ref e) "by" = some none)
  (s:EA K (RC i j l e) D λ_=>true)
  (s0:EA K (RC i j l e) i λc=>decide (c="Broken"))
  (s1:EA K (RC i j l e) j λc=>decide (c="Crowded")) :
  ∃ (fd:D1) (c0 T:A2),(∀ (s:A4) (v:A1),BindsTo s fd ⟨[v],[]⟩ [("_law_script",v)])/\tabIn K "law" = some (c0,T)/\K.lookup T=none/\∀ base:H3,K.In base->base.Ns mainGlobals mg->LO K mg base c0 T->KO p w K mg base Ec 8 fa fd MM (Od K T):=by
 cases aa.symm.trans (mg_of X G l0);have M (x) (hx:x∈BL:=by ext):=mg_none_of X G (z x hx);have x:XA K (RC i j l e):=.c o0.xc (.c o1.xc (.c o2.xc (.c o3.xc (.n))));have y:YA K (RC i j l e):=.c yC0 (.c yC1 (.c yC2 (.c yC3 (.n))));have B:LF K mg D:=⟨mg_of X G yD,b0,b1,b2⟩;have T:Txt K mg:={ b_all:=M "all",b_enumerate:=M "enumerate",b_int:=M "int",b_len:=M "len",b_list:=M "list",b_max:=M "max",b_min:=M "min",b_range:=M "range",b_reversed:=M "reversed",b_sorted:=M "sorted",b_tuple:=M "tuple",c_LETTERS:=⟨.str "abcdefghijklmnopqrstuvwxyz",_,mg_of X G v0,⟨_,rfl⟩,λH=>Rb (LG.of (by ext) (by ext))⟩,c_LONGEST_NAME:=⟨.int 8,_,mg_of X G v1,⟨_,rfl⟩,λH=>W9⟩,c_MANY_SPOTS:=⟨.int 64,_,mg_of X G v2,⟨_,rfl⟩,λH=>W9⟩,c_MOST_STEPS_AHEAD:=⟨.int 22,_,mg_of X G v3,⟨_,rfl⟩,λH=>W9⟩,c_MOST_WIRES_AHEAD:=⟨.int 9,_,mg_of X G v4,⟨_,rfl⟩,λH=>W9⟩,c_WORDS:=eO X G v5 u5 RA (by rw[r5];exact(.cons ⟨_,rfl⟩ (.cons ⟨_,rfl⟩ (.cons ⟨_,rfl⟩ (.cons ⟨_,rfl⟩ (.cons ⟨_,rfl⟩ .nil)))))) (by ext) (by ext),q_0:=WI y s0 (mg_of X G yC0),q_1:=WI y s1 (mg_of X G yC1),u_8:=e6 y s (mg_of X G yD) };have d {n st} (a:DD K n st):=ic X G a;refine⟨PySem.W.fnOf "law" "law" (Vs Mm) (Yn Mm) (Z9 Mm) .none kV dc pm an cd ct,cC,tT,λs v=>.of_eq rfl,lI l0 l1 l4 l5 l6,l7,λb _ _ tB=>?_⟩;have M0:=@iS p w K mg b _ _ B o0 yC0 (mg_of X G yC0) (M "list") e0_0;have M1:=@mi p w K mg b _ _ B o1 yC1 (mg_of X G yC1) (M "list") e1_0;have M2:=@il p w K mg b _ _ B o2 yC2 (mg_of X G yC2) (M "list");have M3:=@fD p w K mg b _ _ B o3 yC3 (mg_of X G yC3) (M "list") e3_0 e3_1 e3_2;have c0:=@el ⟨p,w,K,mg,b⟩ (d a0) T;have c1:=@eS ⟨p,w,K,mg,b⟩ (d a1) T;have c2:=@cL ⟨p,w,K,mg,b⟩ (d a2) T;have q:=@dg ⟨p,w,K,mg,b⟩ (d a3) T;have c4:=@hJ ⟨p,w,K,mg,b⟩ (d a4) T;have r:=@lz ⟨p,w,K,mg,b⟩ (d a5) T;have c6:=@dn ⟨p,w,K,mg,b⟩ (d a6) T;have S:=@cN ⟨p,w,K,mg,b⟩ (d a7) T;have c8:=@gj ⟨p,w,K,mg,b⟩ (d a8) T;have c9:=@i' ⟨p,w,K,mg,b⟩ (d a9) T S r;have ac:=@j5 ⟨p,w,K,mg,b⟩ (d a10) T M0.x M1.x q S c8 c4 c6 r;have I:=@h7 ⟨p,w,K,mg,b⟩ (d a11) T c9;have J:=@ik ⟨p,w,K,mg,b⟩ (d a12) T;have ae:=@eA ⟨p,w,K,mg,b⟩ (d a13) T M0 M1 ac J;have af:=@hL ⟨p,w,K,mg,b⟩ (d a14) T M2 I ae;have ag:=@dj ⟨p,w,K,mg,b⟩ (d a15) T S r c6;have ah:=@Oi ⟨p,w,K,mg,b⟩ (d a16) T c2 q;have ai:=@cV ⟨p,w,K,mg,b⟩ (d a17) T ah ag;have aj:=@lf ⟨p,w,K,mg,b⟩ (d a18) T M3 af ai I J.d;have N:=@Fv ⟨p,w,K,mg,b⟩ (d a19) T S c6 c8 r;have ak:=@mW ⟨p,w,K,mg,b⟩ (d a20) T N;have al:=@Cr ⟨p,w,K,mg,b⟩ (d a21) T c0 c1 ak;have am:=@jO ⟨p,w,K,mg,b⟩ (d a22) T;have ao:=@jg ⟨p,w,K,mg,b⟩ (d a23) T;have ap:=@B5 ⟨p,w,K,mg,b⟩ (d a24) T c2 q;have aq:=@h5 ⟨p,w,K,mg,b⟩ (d a25) T al am N ao ap r;have k:=@kI ⟨p,w,K,mg,b⟩ (d a26) T;have P:=@i6 ⟨p,w,K,mg,b⟩ (d a27) T;have ar:=@A5 ⟨p,w,K,mg,b⟩ (d a28) T k;have au:=@X4 ⟨p,w,K,mg,b⟩ (d a29) T k;have aw:=@Bm ⟨p,w,K,mg,b⟩ (d a30) T ar k au P;have m:=@eD ⟨p,w,K,mg,b⟩ (d a31) T;have o:=@jq ⟨p,w,K,mg,b⟩ (d a32) T m;have Q:=@X2 ⟨p,w,K,mg,b⟩ (d a33) T m;have ax:=@X1 ⟨p,w,K,mg,b⟩ (d a34) T k P;have ay:=@Ks ⟨p,w,K,mg,b⟩ (d a35) T;have az:=@N5 ⟨p,w,K,mg,b⟩ (d a36) T;have aA:=@Ou ⟨p,w,K,mg,b⟩ (d a37) T m;have aB:=@Nd ⟨p,w,K,mg,b⟩ (d a38) T aj;have R:=@kP ⟨p,w,K,mg,b⟩ (d a39) T o;have aC:=@N7 ⟨p,w,K,mg,b⟩ (d a40) T R Q o;have aD:=@N8 ⟨p,w,K,mg,b⟩ (d a41) T R Q o;exact cp (b:=⟨p,w,K,mg,b⟩) (UC (st:=Mm) l1 l2 l3) T k ay aq aD aw ax aA az aB aC tB l0 dN
theorem Zmc{l:PySem.W.OpenLaw}{q:Fn}{loose:Z Str}{E:(Str->C1 A1)->H3->Prop}{B:Gf->H3->Prop}{d:DefRec}{K:Params->J1}(hn:l.most=some 63)(v:d.params.defaults=[])(hq:((recsOf q).find? (λe=>e.name==("law" : Str))).isSome=true)
 (t:∀ (w:Gf) (h:H3),B w h->(K w.params).In h)
 (F:∀ (w:Gf) (mg:KP) (fa:A2) (h:H3),(K w.params).In h->h.Ns mainGlobals mg->mg d.name=some (.ref fa) ->
  ∃ (fd:D1) (c0 T:A2),(∀ (s:A4) (u:A1),BindsTo s fd ⟨[u],[]⟩ [("_law_script",u)])/\tabIn (K w.params) "law" = some (c0,T)/\(K w.params).lookup T=none/\∀ base:H3,(K w.params).In base->base.Ns mainGlobals mg->LO (K w.params) mg base c0 T->KO l.prog w (K w.params) mg base Ec 8 fa fd MM (Od (K w.params) T)) :
 PySem.W.WalkO q loose E B l.row.toRowW d [] (λf vs=>PySem.call f vs):=L2.Zlj (k:=8) hn v ⟨rfl,by decide,by decide,rfl⟩ hq t F
end K73
open PySem PySem.W PyProof.Rows L2
set_option maxRecDepth 100000 in
set_option maxHeartbeats 0 in
theorem PySem.Challenge.cw_calmwires_k73_the_wire_left_out_holds : PySem.Challenge.rw_calmwires_k73_the_wire_left_out.Holds := by
 refine theTop ?_
 k_fill;refine K73.Zmc (l:=PySem.Challenge.rw_calmwires_k73_the_wire_left_out) rfl rfl ?Q (λw h Y=>PySem.W.kIn_of Y) ?F
 case Q=>kernel_rfl!
 case F =>
  intro w mg fa h p G M;apply K73.Zl1 p G M
  case a0|a1|a2|a3|a4|a5|a6|a7|a8|a9|a10|a11|a12|a13|a14|a15|a16|a17|a18|a19|a20|a21|a22|a23|a24|a25|a26|a27|a28|a29|a30|a31|a32|a33|a34|a35|a36|a37|a38|a39|a40|a41=>refine' jA ?A ?B ?C ?D;case A|B|C|D=>k_is
  case l0|l1|l2|l3|v0|v1|v2|v3|v4|v5|u5|yC0|yC1|yC2|yC3|yD|b0|b1|b2|e0_0|e1_0|e3_0|e3_1|e3_2=>k_is
  case l4=>rfl
  case l5=>k_is
  case l6=>rfl
  case l7=>first | k_is | kernel_rfl!
  case z =>
   refine' List.forall_mem_cons.mpr ⟨?_,?_⟩
   k_is
   repeat' first | refine' List.forall_mem_cons.mpr ⟨?_,?_⟩ | exactλ_ h=>nomatch h
   all_goals k_is
  case r5=>rfl
  case o0|o1|o2|o3=>
   refine' fL ?A ?B ?C ?D ?E ?F ?G ?H ?I ?J ?K ?Lq_
   case A|B|C|D|E|F|G|H|I|J|K=>k_is
   case Lq_=>kernel_rfl!
  case s|s0|s1=>
   repeat' first | exact S4.n | refine' S4.c ?_ ?_
   all_goals first | refine' Eq.trans (b:=some false) ?_ (by decide +kernel) | refine' Eq.trans (b:=some true) ?_ (by ext)
   all_goals kts_exm
