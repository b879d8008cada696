import PyProof.Rows.All
import Wide.All
import OpenK.AllK
import Wide.FinOn
import PyProof.EqAt
import PyProof.EqKinds
import PyProof.TupleCall
import KE.BitLaws
import KE.IntBitsLaws
import KE.KDictSum
import KE.KLam
import KE.KSortKeySt
import KE.KSortRegAny
import PyProof.AutoIntG2
import PyProof.CollectWalk
import PyProof.DictIter
import PyProof.FitsBits
import PyProof.ListRange
import PyProof.Rows.IntCalls
import PyProof.Rows.SetFrom
import PyProof.Rows.SortShellAny
import PyProof.Rows.SortWalk
import Open.SpecLaws
import KE.OsHead
import KE.OsGo
import PySem.Challenge.RW_codeeditions_s01_answers
set_option Elab.async false
set_option linter.all false
set_option maxRecDepth 100000
set_option maxHeartbeats 4000000
section
open PySem PySem.W PyProof.Rows
structure Hx.Bx (G:Prop):Prop where g:G
theorem Hx.PySem.W.holds_os {G:Prop}{r:OpenSpec}{q:Program}{loose:List Str}{Xt:Shared→Bool}{XP:(Str→Option Value)→Heap→Prop}{α:Type}{Yf:Shared→α}{Ya:World→α}{YP:World→Heap→Prop}{d:DefRec}{kwd:List (Str×PySem.Expr)}{N:Nat}
 (a:LeftO r.prog q loose Xt Yf Ya N)(b:∀w s,Yf s=Ya w→YP w s.heap)(c:∀w h h',YP w h→(∀b o,h.get? b=some o→h'.get? b=some o)→YP w h')
 (e:∀s,Xt s=true→XP (s.heap.nsMap mainGlobals) s.heap)(f:∀g h h',XP g h→(∀b o,h.get? b=some o→h'.get? b=some o)→XP g h')
 (i:defOf q r.name=some (d,kwd))(j:r.prog.theDef r.name=some (d.params,d.body,d.scope))(k:kwWritten? d.params.kwonlyargs d.params.kw_defaults=some kwd)
 (l:∀s,Xt s=true→RecFacts [] s.heap)(m:∀as,r.pre as=true→WShape.hasAll [] as (r.args.map Codec.shape)=true)
 (n:r.wellSaid=true)(o:(chainsOk q&&opensWell r.prog)=true)(p:r.prog.bare)(hw:∃args,r.pre args=true∧WData.layableAll args=true)
 (call:G→WalkOS q loose XP YP r d kwd λf vs=>PySem.call f vs)(g:Hx.Bx G:=by assumption):r.Holds:=_root_.PySem.W.holds_os a b c e f i j k l m n o p hw (call g.g)
namespace Hx
set_option maxHeartbeats 0 in
noncomputable def hd:{G:Prop//Bx G→PySem.Challenge.rw_codeeditions_s01_answers.Holds}:=by
 refine' Subtype.mk _ (fun hG=>?A)
 case A=>
  w_on;k_headS;(case hw=>exact ⟨[.list [.int 8,.int 0]],by decide +kernel,by decide +kernel⟩)
  exact id
end Hx
end
def Waa:=@List.length_map
def Wab:=@PySem.wpAny_bind
def Wac:=@List.mem_append
def Wad:=@List.length_append
def Wae:=@if_neg
def Waf:=@of_decide_eq_true
def Wag:=@of_decide_eq_false
def Wah:=@PySem.Heap.get?_push_of_some
def Wai:=@List.mem_cons_self
def Waj:=@PySem.wpAny_pure
def Wal:=@List.map_append
def Wam:=@List.getElem?_eq_getElem
def Wan:=@PySem.F.plainAttrs_list
def Wao:=@List.getElem?_eq_some_iff
def Wap:=@if_pos
def Waq:=@List.mem_cons_of_mem
def War:=@decide_eq_true_eq
def Was:=@List.length_cons
def Wat:=@PySem.Heap.get?_push_size
def Wau:=@Nat.le_refl
def Wav:=@List.mem_cons
def Waw:=@List.map_cons
def Wax:=@List.map_map
def Waz:=@List.take_length
def WaA:=@List.mem_of_getElem?
def WaB:=@PySem.Heap.lt_size
def WaC:=@Ne.symm
def WaD:=@List.mem_map
def WaE:=@List.mem_singleton
def WaF:=@Nat.le_trans
def WaG:=@List.mem_of_find?_eq_some
def WaH:=@PySem.F.type_list_append
def WaI:=@PySem.F.slot_list_append
def WaJ:=@Bool.and_eq_true
def WaK:=@Option.some.injEq
def WaL:=@Nat.zero_le
def WaM:=@PySem.PassesOwn.never
def WaN:=@Bool.false_ne_true
def WaO:=@List.length_take
def WaP:=@List.append_assoc
def WaQ:=@List.append_nil
def WaR:=@List.find?_eq_none
def WaS:=@List.size_toArray
def WaT:=@List.length_filter_le
def WaU:=@Nat.lt_of_lt_of_le
def WaW:=@PySem.Heap.size_push
def WaX:=@List.mem_map_of_mem
def WaY:=@Nat.ne_of_lt
def WaZ:=@List.foldl_cons
def Wa0:=@Prod.mk.injEq
def Wa1:=@List.foldl_append
def Wa2:=@Bool.eq_iff_iff
def Wa3:=@decide_eq_false
def Wa4:=@List.map_congr_left
def Wa5:=@List.length_singleton
def Wa6:=@congrArg
def Wa7:=@List.nodup_cons
def Wa8:=@List.reverse_cons
def Wa9:=@decide_eq_true
def Wba:=@PySem.mem_of_lookup
def Wbb:=@Option.map_some
def Wbc:=@List.filterMap_append
def Wbd:=@List.getElem?_map
def Wbe:=@List.all_eq_true
def Wbf:=@List.mem_filter
def Wbg:=@List.length_eq_zero_iff
def Wbh:=@List.drop_eq_getElem_cons
def Wbi:=@Option.some.inj
def Wbj:=@List.find?_cons
def Wbk:=@Nat.lt_succ_of_lt
def Wbl:=@Int.toNat_natCast
def Wbm:=@PySem.F.type_list_pop
def Wbn:=@PySem.F.slot_list_pop
def Wbo:=@Bool.false_eq_true
def Wbp:=@trivial
def Wbq:=@List.takeWhile_cons
def Wbr:=@List.foldl_nil
def Wbs:=@Nat.le_add_right
def Wbt:=@List.not_mem_nil
def Wbu:=@PyProof.Rows.callWith_type1
def Wbv:=@List.find?_some
def Wbw:=@Nat.lt_of_le_of_lt
def Wbx:=@List.mem_range
def Wby:=@Array.getElem?_eq_getElem
def Wbz:=@List.length_filterMap_le
def WbA:=@List.mem_append_right
def WbB:=@List.contains_iff_mem
def WbC:=@Array.length_toList
def WbD:=@Option.bind_some
def WbE:=@List.mem_reverse
def WbF:=@List.mem_flatMap
def WbG:=@if_true
def WbH:=@Nat.lt_irrefl
def WbI:=@List.find?_append
def WbJ:=@PySem.wpAny_newObj_type
def WbK:=@List.length_nil
def WbL:=@List.any_cons
def WbM:=@PySem.Paired.snoc
def WbN:=@List.getElem?_cons_zero
def WbO:=@Nat.lt_succ_self
def WbP:=@List.any_eq_true
def WbQ:=@List.find?_isSome
def WbR:=@List.filterMap_cons
def WbS:=@PySem.wpAny_call_entry
def WbT:=@PySem.wpAny_askSetting
def WbU:=@List.singleton_append
def WbV:=@beq_iff_eq
def WbW:=@Option.toList_none
def WbX:=@List.mem_filterMap
def WbY:=@List.length_drop
def WbZ:=@PySem.wpAny_mono
def Wb0:=@Nat.ne_of_gt
def Wb1:=@List.map_nil
def Wb2:=@Option.isSome_map
def Wb3:=@List.flatMap_cons
def Wb4:=@List.flatMap_append
def Wb5:=@Bool.or_eq_true
def Wb6:=@PySem.Around.under_plainId
def Wb7:=@PySem.wpAny_truthy_bool
def Wb8:=@List.filter_cons
def Wb9:=@List.drop_length
def Wca:=@if_false
def Wcb:=@Nat.pow_succ
def Wcc:=@Nat.pos_of_ne_zero
def Wcd:=@List.pairwise_cons
def Wce:=@Int.natCast_nonneg
def Wcf:=@PySem.wpAny_Call_Name_kw
def Wcg:=@PySem.F.type_list_extend
def Wch:=@PySem.F.slot_list_extend
def Wci:=@List.nodup_append
def Wcj:=@Nat.add_comm
def Wck:=@beq_eq_false_iff_ne
def Wcl:=@List.sum_cons
def Wcm:=@List.length_reverse
def Wcn:=@PySem.codeAny_builtin
def Wco:=@List.lookup_cons
def Wcp:=@Bool.false_and
def Wcq:=@List.Nodup.sublist
def Wcr:=@PySem.wpAny_callSpecial?_slot
def Wcs:=@PySem.Paired.length
def Wct:=@PySem.wpAny_typeNameOfWhole_keyiter
def Wcu:=@congr
def Wcv:=@Array.getElem?_toList
def Wcw:=@List.take_sublist
def Wcx:=@List.pairwise_map
def Wcy:=@PySem.Calls.callWith_builtin
def Wcz:=@Bool.true_and
def WcA:=@Bool.or_false
def WcB:=@PySem.wpAny_setField_rec
def WcC:=@funext
def WcD:=@Nat.mod_two_eq_zero_or_one
def WcE:=@PySem.F.slot_dict_keyiterator_next
def WcF:=@Nat.pow_le_pow_right
def WcG:=@List.dropLast_concat
def WcH:=@PySem.wpAny_passesOwn
def WcI:=@PySem.sizeLine_eq
def WcJ:=@or_false
def WcK:=@PySem.wpAny_pyIter_list
def WcL:=@List.dropWhile_cons
def WcM:=@Nat.lt_trans
def WcN:=@List.filterMap_cons_some
def WcO:=@decide_eq_false_iff_not
def WcP:=@Nat.lt_of_le_of_ne
def WcQ:=@Nat.add_assoc
def WcR:=@List.all_cons
def WcS:=@PySem.Heap.SameBut.update
def WcT:=@PySem.wpAny_typeNameOf_keyiter
def WcU:=@Option.map_eq_some_iff
def WcV:=@List.reverse_perm
def WcW:=@PySem.tupleKind_room_in1
def WcX:=@Option.or_eq_none_iff
def WcY:=@Nat.lt_or_ge
def WcZ:=@Nat.le_of_lt
def Wc0:=@List.any_nil
def Wc1:=@List.Pairwise.sublist
def Wc2:=@PySem.Calls.spliced_cons
def Wc3:=@Nat.mul_le_mul_right
def Wc4:=@List.mem_append_left
def Wc5:=@Array.getElem_toList
def Wc6:=@PySem.wpAny_field
def Wc7:=@PySem.wpAny_seqItems
def Wc8:=@PySem.codeAny_mono
def Wc9:=@Nat.min_eq_left
def Wda:=@Nat.le_succ
def Wdb:=@List.take_succ_cons
def Wdc:=@List.map_id
def Wdd:=@List.length_pos_iff
def Wde:=@List.getElem_of_mem
def Wdf:=@Int.natCast_mul
def Wdg:=@PySem.Heap.get?_update_self
def Wdh:=@Nat.add_mul_mod_self_right
def Wdi:=@PySem.W.callWith_K
def Wdj:=@Nat.add_sub_cancel
def Wdk:=@List.filter_append
def Wdl:=@Int.natAbs_natCast
def Wdm:=@PySem.wpAny_holding
def Wdn:=@List.pairwise_iff_getElem
def Wdo:=@List.drop_drop
def Wdp:=@Bool.and_false
def Wdq:=@iff_false
def Wdr:=@Option.isSome_iff_exists
def Wds:=@Nat.lt_trichotomy
def Wdt:=@Nat.le_of_succ_le
def Wdu:=@List.filterMap_cons_none
def Wdv:=@List.Sublist.refl
def Wdw:=@List.Pairwise.imp_of_mem
def Wdx:=@List.Pairwise.imp
def Wdy:=@Bool.not_eq_true'
def Wdz:=@List.map_drop
def WdA:=@Nat.le_of_not_lt
def WdB:=@List.getElem_mem
def WdC:=@Nat.and_mod_two_eq_one
def WdD:=@List.take_of_length_le
def WdE:=@List.range_succ_eq_map
def WdF:=@List.getElem?_set_self
def WdG:=@Array.getElem?_eq_none
def WdH:=@PySem.wpAny_pyIter_slot
def WdI:=@PySem.F.slot_dict_get
def WdJ:=@List.take_append_drop
def WdK:=@List.map_id'
def WdL:=@List.getElem?_eq_none
def WdM:=@PySem.Calls.spliced_nil
def WdN:=@PySem.wpAny_attempt
def WdO:=@PySem.plainId_quiet
def WdP:=@Nat.eq_of_testBit_eq
def WdQ:=@List.replicate_succ'
def WdR:=@List.getElem?_set_ne
def WdS:=@PySem.wpAny_pyIter_zip
def WdT:=@PySem.wpAny_isInstance
def WdU:=@List.range_add
def WdV:=@List.forIn_nil
def WdW:=@PySem.wpAny_nextOf_list_item
def WdX:=@PySem.evalArgs_none
def WdY:=@PySem.W.plainGet_of
def WdZ:=@List.getElem?_range
def Wd0:=@List.drop_succ_cons
def Wd1:=@PySem.Heap.get?_update_other
def Wd2:=@PySem.wpAny_execs_nil
def Wd3:=@PySem.pushCells_keeps
def Wd4:=@List.map_singleton
def Wd5:=@List.getElem?_drop
def Wd6:=@PySem.F.slot_zip_next
def Wd7:=@PySem.wpAny_loadName_local
def Wd8:=@List.length_range
def Wd9:=@List.ext_getElem?
def Wea:=@List.any_eq_false
def Web:=@PySem.Calls.evalArgs_plain
def Wed:=@Nat.le_of_eq
def Wee:=@Nat.add_zero
def Wef:=@List.all_map
def Weg:=@PyProof.Rows.F.plain_set_update_loop
def Weh:=@Option.getD_none
def Wei:=@Nat.mod_eq_of_lt
def Wej:=@List.map_flatMap
def Wek:=@PySem.W.length_le_weightAllW
def Wel:=@PySem.wpAny_onRaise
def Wem:=@Option.any_some
def Wen:=@Nat.testBit_xor
def Weo:=@Nat.testBit_and
def Wep:=@Nat.mul_two
def Weq:=@Nat.le_add_left
def Wer:=@Nat.and_div_two
def Wes:=@List.of_mem_zip
def Wet:=@List.nil_append
def Weu:=@List.head?_cons
def Wev:=@List.forIn_cons
def Wew:=@List.filter_nil
def Wex:=@PySem.F.type_str_isdigit
def Wey:=@PySem.F.type_str_isalpha
def Wez:=@PySem.F.slot_str_isdigit
def WeA:=@PySem.F.slot_str_isalpha
def WeB:=@List.findSome?_eq_none_iff
def WeC:=@Int.fdiv_eq_ediv_of_nonneg
def WeD:=@PySem.wpAny_rule
def WeE:=@PySem.wpAny_load
def WeF:=@PySem.wpAny_dictEntries
def WeG:=@PySem.typeIs_str
def WeH:=@Option.isNone_iff_eq_none
def WeI:=@List.take_zero
def WeJ:=@List.tail_cons
def WeK:=@List.find?_nil
def WeL:=@List.Perm.refl
def WeM:=@Classical.byContradiction
def WeN:=@PySem.F.args_dict_keyiterator_next_1
def WeO:=@PySem.F.plain_list_iadd
def WeP:=@PySem.F.args_dict_get_3
def WeQ:=@Nat.add_sub_cancel_left
def WeR:=@List.map_take
def WeS:=@List.getElem?_cons_succ
def WeT:=@List.eraseIdx_cons_succ
def WeU:=@PySem.Heap.IsList.push
def WeV:=@PySem.F.entry_dict_keyiterator_next
def WeW:=@PySem.W.cellsFrom_some
def WeX:=@PySem.F.entry_dict_get
def WeY:=@List.pairwise_lt_range
def WeZ:=@List.getElem_cons_drop
def We0:=@List.drop_eq_nil_of_le
def We1:=@PySem.F.slot_dict_keyiterator_iter
section
set_option hygiene false
open Lean in
def dqT0:Array (MacroM Term):=#[`(⟨ZaI,rfl,YzC,rfl,YzC,YzC⟩),`((λcdv Ar outer s H vs Q E hr h=>?_)),`((hr.mono YeP)),`((by omega)),`(bC Yhj Yhj),`((Or.inl rfl)),`((by show 1<=sizeLine;decide)),`(Inv X pins σ H s),`(["code","numbers","row"]),`(PySem.W.Frag),`((aw (pv 0) rfl)),`((λ_ _=>rfl)),`(s.heap.objs.size),`(unknown s facts day rank l),`((by simp)),`((by show 2<=sizeLine;decide)),`((by intro z;cases z)),`((model X.prog X.w)),`(Txt K mg A),`((λvs H Q E h=>by obtain⟨_,_,_,_,rfl,_⟩:=h;rfl)),`((pv 0)),`((λvs H Q E h=>by obtain⟨_,_,_,_,_,rfl,_⟩:=h;rfl)),`(List Nat),`((λvs H Q E h=>by obtain⟨_,_,_,_,_,_,_,rfl,_⟩:=h;rfl)),`((same_refl H)),`(u.length),`((model prog w)),`(some o),`((λvs H Q E h=>by obtain⟨_,_,_,_,_,_,rfl,_⟩:=h;rfl)),`((aj (au YlR))),`((YDY)),`(aG K A H G s),`((pv 1)),`(of_decide_eq_false e),`((by rw[List.length_map];omega)),`(s1.heap.objs.size),`(upd H5 p (.ins A.aO dx (gu "spread" (YvZ) [Yfr,YmA]))),`(k l _ G st (.number n) rfl (Kp.same (ak s hl)) (C.same (ak s hl)) (same_none s hl) ab e),`((aa (pv 2) ah)),`(Bool.noConfusion (show false=true from p)),`((by with_unfolding_all rfl)),`(by omega),`(of_decide_eq_true e),`(.ref s.heap.objs.size),`((pv 2)),`(by decide),`(absurd (show false=true from hs) WaN),`(upd (upd (upd H p.2.fa YtL) pa Ymi) p.2.a (.ins A.eW p.2.dx [("day",.int (p.1.day:Nat)),("rank",.int (p.1.rank:Nat)),("facts",.ref p.2.fa),("passings",.ref pa)])),`(Vbnlad.State),`((X.NL s H scope (compEnvC scope cl C X.env) fp)),`(some u),`((λvs H Q E h=>by obtain⟨_,_,_,_,_,_,_,_,rfl,_⟩:=h;rfl)),`(List (Addr×Obj)),`(aN H H'),`(flagsIn r.cond),`((oM PySem.F.plainAttrs_list PySem.F.slot_list_pop PySem.F.type_list_pop rG (pv 3))),`(s.heap.get? b),`((by decide+kernel)),`((f::below)),`(List.getElem?_eq_getElem hi),`((dq You λus s1 ⟨vs,H1,I1,r1,q1⟩=>?_)),`(NZ P w K mg base f sp)]
open Lean in
def dqT1:Array (MacroM Term):=#[`((pv 3)),`(VbnladNeutral.shown ans),`(.ref a),`(bg (YoA) (YyU)),`((by simpa using e1)),`(List (Nat×Bool)),`(cx A H c len r S Pn n g),`((λvs H Q E h=>by obtain⟨_,_,_,rfl,_⟩:=h;rfl)),`(bC (λe1=>?_) (λe1=>?_)),`([YtO,V.int 5,YtO,V.int 0,V.int 3,V.int 3,V.int 3,YtO,YtO,Yza,Yza,V.int 3,Yza,Yza,YtO,Yza,Yza]),`((PySem.W.kla_obj "<lambda>" qual params body scope [] ((X.mg "__name__").getD .none) c' ctv)),`([Yfi,.int ((ed.key:Nat):Int),.int (((aE (Hd p.1 (some false) (rulesOf st ed))).length:Nat):Int)]),`(k p2 _ (sH8.trans (ak t2 hp2)) (same_none (sH8.trans t2) hp2) (ab.trans (by rw[e1,e3];rfl))),`((.ListComp elt [⟨tg,iter,ifs,0⟩] scope pos)),`((aK _)),`(xs.length),`(some (.ins A.bu c.dx [YmN,("at",YiM),YnB,Yl5,("nesting",Yhr)])),`(.type "list"),`((false,YgD)),`(a6 X.prog X.w X.K X.mg X.base CX k f fd ps sp),`(bC (λe2=>?_) (λe2=>?_)),`(Nat.zero_le _),`(List Addr),`(.tup Yrw),`(t.length),`(.ref G.a),`(Wat _ rfl),`(bK p.1.day (YfL)),`((x==("__debug__":Str))),`([V.str "and",V.str "or",V.str "not",V.str "from",V.str "before",V.str "rank",V.str "to",V.str "true",V.str "false"]),`(Sum.inl key),`(some YiB),`((same_refl _)),`(.seq vs.toArray),`((cellsFrom (YxM+1) scope.names (Yfv))),`(X.env.locals),`(X.env.cells.lookup x),`(ks.length),`(kvs.length),`(List Value),`(envOfC qual scope s.heap.objs.size f cd),`(as.map V.ref),`(pickOrder (YhN) els),`(some false),`(["code","name_key","view"]),`((cj (by rfl))),`(pushCells (s.heap.push {cls:=Ymb,data:=.dict #[]}) scope.names),`(Q (Ykt) (upd H' l (.lst [.int n]))),`(.inl rfl),`(λt ht=>?_),`((Yon)),`(upd H3 p (.ins A.aO dx (gu "days" (.ref dl) [Yfr]))),`(List.mem_of_getElem? hz),`((bG (aa aW YnK))),`(.type "tuple"),`(List.getElem?_eq_some_iff.mp hz),`((I.ok.hd hc)),`((EP X pins σ Q)),`(some (J4 A dx bd u)),`(upd (upd H3 t (Yi9)) D (.dK kvs')),`(some true),`(h'.get? b)]
open Lean in
def dqT2:Array (MacroM Term):=#[`((he pins s σ H _ I h)),`(backTo pos YuU),`([V.ref A.g9,V.ref A.g6,V.ref A.gY,V.ref A.g8,V.ref A.eK,V.ref A.g7,V.ref A.gi,V.ref A.gm,V.ref A.gj,V.ref A.fE,V.ref A.gZ,V.ref A.fF,V.ref A.eO,V.ref A.di,V.ref A.hG,V.ref A.eJ,V.ref A.eP]),`(Q (Yij) H'),`(List (Key×V)),`(some c),`((pv 4)),`(t.drop (i+1)),`(Option Value),`(HT.qf z.length z.length hi),`(aE ((D.take i).map λd=>YAE)),`(some (YnJ)),`(Sum.inl ((z:Nat):Int)),`((.dK kvs)),`(["self","first","last","lowest","highest","steps","flag_keys"]),`((λvs H Q E h=>by obtain⟨_,_,rfl,_⟩:=h;rfl)),`((Wai ..)),`(Sum.inl ((e.key:Nat):Int)),`(.inl ⟨Zcw,aV.of hd⟩),`(List.getElem?_eq_getElem (by rw[aH,List.length_map];exact hi)),`((λvs H Q E h=>by obtain⟨_,_,_,_,_,_,_,_,_,rfl,_⟩:=h;rfl)),`(some (.ins C dx fs)),`(intKind prog w),`(.lst []),`(["self"]),`(starEach Yv1 X.env),`((ha pins s σ H _ I h)),`(λp hp=>?_),`((kT rfl rfl rfl rfl)),`((λq'=>hb (by simp[q']))),`(ss.map V.ref),`(rulesOf st e),`((i+1)),`(Nat.le_refl _),`((λ_ _ _ _ _=>jf)),`(⟨ZbE,x1,rfl,hn,C,k.toQ⟩),`(Vv s.heap l1 l2 l3),`(I.cg.fresh (Wau _)),`(flagsOf (L++R)),`(r.length),`((YDJ&&decide (lo<=hi))),`(RESERVED.contains w),`(s.heap.push PySem.W.emptyDict),`(Option Int),`(aV K H a xs),`(List V),`(A.under (.builtin "type.__call__" ⟨.ref C::us,kw⟩)),`(some v),`((Yph)),`((by intro q z;cases z)),`((upd H4 D (.lst (acc++[y])))),`((Wau _)),`(numsOf i),`(bC Yyr Yyr),`((by intro _ _ z;cases z)),`(List.getElem?_eq_some_iff.mp hra),`(.number n),`(bN.k (k:=YyU) C.CI),`([.str "from",.str "before"]),`(of_decide_eq_false e1),`(chain st view.toNat),`(l.length)]
open Lean in
def dqT3:Array (MacroM Term):=#[`((pv 5)),`([YmW,Yx7]),`((rulesOf st ed)),`((same_refl H1)),`(w.params.followText "set-order"),`(unknown s Yys day rank l),`(["code","left_key","right_key"]),`(List.mem_of_getElem? hs),`(aP (n:=5000) YoS YeP),`(PyProof.Rows.firstMet Yib its.size),`((.ref it)),`(some (.ins A.eQ dx [("key",.int (e.key:Nat)),("day",.int (e.day:Nat)),("keeps",.int YlB),("rule_keys",.ref kl)])),`(X.env.scope.names.lookup x),`(some Yle),`(run ((b::r).map sgn)),`(VbnladNeutral.text t),`(.lst (as'.map V.ref)),`((by simpa using e)),`(h.get? a),`((λvs H Q E h=>by obtain⟨p,dx,args,rfl,⟨x,y,z,rfl⟩,_⟩:=h;rfl)),`(X.NL s3 H3 scope ce fp),`((λr=>hb (by simp[r]))),`((.dK (dj u))),`(by simp),`(List α),`(Builtin.Str.strSliceIndices (l.map (·.1)) (u.map (·.1)) 1 z.length),`(⟨ok.mod,ok.kind,ok.glob,ok.blt,ok.above,ok.inj,ok.has,ok.cab,ok.hd,ok.frames,ok.stk,ok.exf,ok.bs,ok.XT,ok.Wv,ok.W8,ok.GQ,ok.frf⟩),`(some Ytm),`((aa aq ah)),`(cenv.cells.lookup y),`(X.Lv.heap.objs.size),`(HT.qf z.length 0 lo),`(Kp A H H'),`((λw hw=>yZ rx fx r fs w (by simpa using hw))),`((λvs H Q E h=>by obtain⟨n,rfl,_⟩:=h;rfl)),`((λvs H Q E h=>by obtain⟨_,rfl,_⟩:=h;rfl)),`(some .local),`(rulesOf s e),`(PySem.W.instObj C s.heap.objs.size),`(.lst (aE (Yrt))),`((dayOk last&&decide (first<=last))),`((.Call (.Name x p) Yv1 [] pos)),`((dq (ho pins s σ H _ I h) λu s1 ⟨x,H1,I1,rx,q1⟩=>dq (hi pins s1 σ H1 _ I1 q1) λiv s2 ⟨y,H2,I2,ry,a,v,ex,g,q2⟩=>?_)),`(List Int),`(t.all (λ(z:Int)=>VbnladNeutral.natural z 8)),`(List (κ×V)),`(ns'.Pairwise (· <= ·)),`(x.2.drop (j+1)),`(Array (Int×Value)),`(h.get? b),`((ai Yrq (ai e13 Yzs))),`((by simp;omega)),`(scope.names.lookup y),`(Inv X pins σ' H' s'),`(Vbnlad.sorted (YjD)),`((λp:Vbnlad.Rule×Addr=>YhZ)),`(V.int 0),`(List Vbnlad.Rule),`((λp=>V.ref p.2)),`(vs.length),`(fW c H H'),`((YCC))]
open Lean in
def dqT4:Array (MacroM Term):=#[`(wipe σ vs),`(some .cell),`(s.editions),`(.inl ⟨Zcw,aV.of hd2⟩),`((SetTable.grown els1.size)),`(⟨r',Yzl,h2⟩),`(attributeBase o name X.env (YiL)),`(["self","full","rank_bits","flag_values"]),`(["key","first","last","lowest","highest"]),`((ho pins s σ H _ I h)),`((.lst (res.map V.int))),`(⟨ZcH,eA.of YqH⟩),`(["self","key","day","keeps","rule_keys"]),`(V.int ((Vbnlad.code (De p.1 r):Nat):Int)),`(Inv X pins σ H' s'),`((by simpa using h1)),`((.builtin "sorted")),`(r.takeWhile small),`(r.takeWhile digit),`(kp.ins T.fJ C.obj),`((i,if b=40 then .open_ else if b=41 then .close else .bad)),`(["code","edition","name"]),`(.int (maskOf u f.key:Nat)),`(.inl ⟨Zcw,aV.of ab⟩),`((dE s facts day rank l u)),`(ps.length),`(C.same s1),`(List Str),`(List Pd),`(λD hD=>?_),`(xP P w H h),`(List Frame),`(["code","key","first","last","lowest","highest","signs"]),`(some x),`(.int (view:Nat)),`((pv 6)),`(.int (d:Nat)),`(some (.lst (aE (D.map λd=>YAE)))),`(PyFlat.calls PyVbnlad.shape l.length l),`(within lo 0 Vbnlad.RANKS),`(els.size),`((by decide)),`((aU a5 YaG aq Yal)),`((eR (ck (ay (gX T) Yac rfl T.jN T.jb.kp T.jQ .nil aD YaM)))),`(⟨Zaa⟩),`((aU bQ Yau aq Yal)),`((cW Yau T.aI T.da (cY T) Yac T.eh .nil aD)),`((2^Yaz)),`((aa YaG ah)),`((aw YaS rfl)),`(aX (i:=5) nd rfl Yaf),`((notedBy YaA A env λe s'=>R (.error e) s')),`((cE I q Yao)),`(dE s facts day rank l YwG w),`((aX (i:=4) nd rfl Yaf)),`((ay (cJ T) Yac rfl T.cR T.cz.kp T.cT .nil aD Ys2)),`(⟨Zbq,λl hl=>num Yay hl ?_⟩),`((oM PySem.F.plainAttrs_list PySem.F.slot_list_pop PySem.F.type_list_pop rG YaG)),`(aX (i:=2) nd rfl Yaf),`((aF (i:=3) nd rfl Yaf (ay (oN T) Yac rfl T.rJ T.mh.kp T.sv .nil aD (aa Yau (aa YaS (aa (cH T.vA (iN T) Yac rfl T.za T.jR .nil aD (aa (aQ ah) ah)) ah)))))),`((aw YaG rfl)),`((aa Yba ah))]
open Lean in
def dqT5:Array (MacroM Term):=#[`(λz dz nz ndz nez=>⟨z,dz,[_,_],rfl,⟨Zbr⟩,ab,λH4 h4 k4=>⟨Zag⟩⟩),`([Ybz,.ref na,YCE]),`(Vbnlad.sorted (Ya2)),`(some YwE),`((aT fL rfl T.cP bR Yq0)),`(V.int (((YbP).length:Nat):Int)),`(⟨Zaa,?_⟩),`(λn s' H' G' eg kp C' e=>⟨Yag,λl hl=>k.num eg kp C' e l hl⟩),`(.int ((statusOf st p.1 view.toNat:Nat):Int)),`(k _ _ YwF e),`((aa Ycg ah)),`((je st.1 rfl Yao λh1 g1 k1=>?_)),`((bp (dJ Yau T.aI T.dO (dM T) Yac T.eY .nil aD (aa Yb1 ah)))),`(eX K rfl YoK rfl),`((bw hu Yak YaG Yal)),`(some (.lst (YbP))),`(parse len Ya6 .want r),`(("flag_keys",.ref fk)),`((aw Yba rfl)),`(s.heap.push (Km w)),`(.int ((z:Nat):Int)),`(cU X.env.cells scope.names []),`((bz Yau YaG rfl)),`((RQ CX P w K mg base N qual scope f cdv A outer s H E)),`((l.map λn=>PyData.int ((n:Nat):Int))),`((by rw[List.map_append];exact qp _ _)),`([.and,.or]),`(λp hp=>(nomatch hp)),`(aX (i:=6) nd rfl Yaf),`(Vbnlad.Rule),`(Vbnlad.Name),`(upd H1 p (.ins A.aO dx (gu "flag_keys" (.ref fk) []))),`(V.int ((r.key:Nat):Int)),`((List.mem_cons_self ..)),`(absurd (show false=true from fx) WaN),`(["self","pairs","left","later_keys"]),`((ks.all λk=>st.rules.any λr=>((r.key:Nat):Int)==k)),`(chain st view),`((.builtin id)),`(flagsOf R),`((CH G.rl)),`(some YB5),`(some (.lst (YcE))),`(sc.names.lookup x),`(upd (upd H c.pl YkN) t (.tup [nH p])),`(and3 (Ylg) (YjJ)),`(bg (Yvd) (Yrc)),`((λx=>V.int (maskOf Yv0 x:Nat))),`((if q.2=true then 1 else 0)),`(λb hb=>(hf b hb).1),`(V.int ((y:Nat):Int)),`(V.int ((i:Nat):Int)),`(SetTable.below xs j),`(λb hb=>?_),`(aj (au rB)),`(congrArg Ylk ((congrArg (λz=>Yck++Yso) rfl).trans (dv _ _))),`((aT a8 rfl T.cP bR (aa (ay (tq T) Yac rfl T.wC T.sH.kp T.w8 .nil aD (aa (a7 ic Yba Ycg) ah)) ah))),`(some (.ref p.2)),`(statusOf st n v'.toNat),`(NQ A H c i L ss S Pn n),`(.dK (MV (pl++[(e,v)]))),`(({key:=key.toNat,first:=YBu,last:=last.toNat,lo:=lo.toNat,hi:=hi.toNat,cond:=nL st c},x))]
open Lean in
def dqT6:Array (MacroM Term):=#[`(I.tok _),`(⟨t,rfl⟩),`(s1.trans s2),`((aa Yak ah)),`(["self","refusal","steps","signs"]),`((dq You λus s1 ⟨vs,H1,I1,r1,q1⟩=>hc pins s1 σ H1 vs us Q I1 r1 q1)),`((ay (yM T) Yac rfl T.BW T.xh.kp T.Cv .nil aD YaM)),`((ai hb (ai f3 YvS))),`(r'.length),`(key.toNat),`(⟨Yap,λt ht=>k _ _ (ak Yay ht) ⟨ZcH,eA.of (ab.trans (by dsimp only;rw[gN,vL];rfl))⟩⟩),`(ak (o:=.tup [.int ((d:Nat):Int),.int ((dG u d S1:Nat):Int),.int ((dG u d S2:Nat):Int)]) Ydd ht),`(hs.2 b (WaY (WaU YrW (I.ok.cab x c hfn hc)))),`(newExc (.type "StopIteration") []),`(.lst (Ls.map V.ref++Rs.map V.ref)),`(["left","right"]),`((bz Yau YaS rfl)),`((Sum.inr (sx t))),`((!decide (V.int ((statusOf st n v.toNat:Nat):Int)=V.int ((statusOf st n v'.toNat:Nat):Int)))),`(statusOf st n v.toNat),`(of_decide_eq_false e2),`((.Tuple elts kk tpos)),`(Binds X.K fd ps ds),`(.int ((d:Nat):Int)),`(.lst ((Yur++ke Ywi)++[.int ((x.1:Nat):Int)])),`((dq (h pos pins s σ H _ I hq) λus s1 ⟨xs,H1,I1,r,z,q⟩=>⟨by rw[<-YcN];exact z,?_⟩)),`(some (Ybz)),`(True.intro),`(ks.map V.int),`(eval e X.env),`(ab.trans rfl),`(.inl ⟨Zcw,aV.of h4⟩),`(pure (.type "method_descriptor")),`((neH c _ q YtG)),`((aM YtI YaE az)),`((aM (gd (BJ hu YaG Yak)) YaD az)),`(Vbnlad.Edition),`((eB Yau aq gI)),`(C.an p hp),`(.tup [.str "rank",.int (lo:Nat),.int (hi:Nat)]),`((aQ ah)),`(k p H6 G st _ rfl (Kp.same (Yu8)) (C.same (Yu8)) (same_none s5 np) hp qe),`(Paired.snoc (Paired.gE hp2 λ_ _ z=>(((z.upd hd).upd hd2).same s2).upd hd4) (hv.upd hd4)),`(R.length),`((λb hb=>⟨(hf b hb).2.2.2.1,(hf b hb).2.1,(hf b hb).2.2.2.2.1,(hf b hb).2.2.2.2.2⟩)),`(of_decide_eq_true e2),`(aX (i:=3) nd rfl Yaf),`(.lst (Ywq)),`(wpAny Yar X.A (f (.int i t) (.int j u)) Q E s),`(g.name C.ok o' (C.names (by simp[gr]) _ p hp)),`((st.editions.any λx=>((x.day:Nat):Int)==day)),`((kvs.map λkv=>if kv.1=k then(kv.1,y)else kv)),`(k1 b o (λq=>YA1) e),`((upd H G.ed (.jh od (.dK Yd9)))),`(place Prod.fst x n.facts),`(by simp at las ⊢;omega),`(bC (λe4=>?_) (λe4=>?_)),`(Heap.SameBut a s.heap h'),`(st.names.take i),`(some (.lst acc)),`(aG K A H' G' s'),`(Vbnlad.tokens t)]
open Lean in
def dqT7:Array (MacroM Term):=#[`((bz Yau gf rfl)),`((by kernel_rfl)),`((a==sysModules)),`(s.flags),`(Wah _ e),`(surely s Yys day rank l),`(foldedSetIterable iter X.env x),`(List.mem_append.mpr (.inr Yao)),`((by unfold J4;intro z;cases z)),`((λe=>?_)),`(Str.ofString "__next__"),`((tn _ (by simp[gr,rN]))),`((kvs.map λkv=>YCB)),`((if(c::w≠[]/\(c::w).all digit=true)/\(c::w).length<=7 then(xH (c::w):Int)else-1)),`((by rw[ok1];decide)),`(λq2 hq2=>?_),`(List.range 8),`(.int (n:Nat)),`((aaR ha hb I h λv u s2 x y H2 I2 rx ry q=>ho pins s2 σ H2 x y v u Q I2 rx ry q)),`((Yam+1)),`(V.int (n:Nat)),`([Yd4,YtO,V.int 3,V.int 4]),`((f.unit (.rank lo lo)::below)),`((aa Yda ah)),`(u.reverse.take i),`(some (.jh o Ycn)),`(missing s (aJ c)),`((upd H1 D YEo)),`(w.length),`(eA.of ab),`(RelV y u),`(RelV v u),`(.ref c.r),`(own.map (·.2)),`(flagsOf (a++b)),`(dictOf kf vf l),`((same_refl H2)),`((aa Ypi ah)),`(λip H1 s1 nip hip=>?_),`(w.params.setOrder a ep),`(some (.tup (k.map kV))),`(J7 st v.toNat st.names),`(I.base.free b o e n hx),`(⟨Zaa,wpAny_letOwnedTupleGo_zip (s:={s with heap:=h'}) z' λh'' z'' sb=>?_⟩),`(ns.length),`(["signs"]),`(WaY (WaU YrW I.ok.above)),`(Qv X.N X.env.scope scope own),`(List Expr),`(A.handled),`((by show 3<=sizeLine;decide)),`(p.1.key),`(λq hq=>?_),`(some .free),`(breach a b),`(["number"]),`(Vals xs us),`((.jh od u)),`(starEach [e] X.env),`(missing st (aJ cd)),`(ai (bS h hd Yaq) h),`(Vbnlad.Edition.key)]
open Lean in
def dqT8:Array (MacroM Term):=#[`(Inv X pins σ H s'),`((λi=>ns.getD i 0)),`((aU bQ YeJ aq Yal)),`(upd (upd H dx (.own x)) x YDF),`(["code","key","day","keeps","rule_keys"]),`(Expr.Call (.Name "range" p2) [a] [] pos2),`((if b=true then .since m else .before m)),`((ho pins s2 σ H2 x y v u _ I2 r1 r2 q2)),`((.lst ((as.take i).map V.ref++[.ref q]))),`(.ref p),`(λx dx nx ndx nex=>⟨x,dx,[_,_],rfl,⟨Zbr⟩,ab,λH2 h2 k2=>⟨Zag⟩⟩),`((ai YAP (ai e23 (ai YAP ab)))),`((aM (aC bY Yau aq Ybo) (aj (au aW)) az)),`(["ways","lowest","highest"]),`(["code","key","day","rank"]),`(VbnladNeutral.counted x.yes),`((vs.toArray.toList.map toV)),`((if b=true then p7 else gG)),`((by simp only[WaS]<;>omega)),`(els.toList.map (·.2)),`(PySem.W.CodeHd h c tb),`(List.take_sublist _ _),`((∀b∈fp,H' b=none)),`(s.heap.update it (Obj.mapFields (·.setIfInBounds 1 (rawInt ((i:Int)+1))))),`((dq You λus s1 ⟨vs,H1,I1,r,q⟩=>⟨I1.NW,?_⟩)),`(some Ycn),`(iB below),`((.ref f)),`(.inl h),`(decide (kv.1=k)),`(args.getD 1 .fR),`(args.getD 0 .fR),`(Q (.bl true) H'),`(⟨YAE,Zaa,λb o n e=>ai n (s4 _ _ (fr b o n e)),?_,λd0 _ e0=>?_⟩),`((upd (upd H G.ft YrR) G.fk (.dK ((G.fl++[x]).map iq)))),`((bp (fI Wan WaI WaH bF Yak (aa (bG (aa (oM Wan Wbn Wbm rG Yak) ah)) ah)))),`(rs.map V.ref),`(eval o X.env),`(.int (i:Nat)),`((aa YaG YaM)),`(["code","name_key","flag_key","value"]),`(st.editions),`(Option.none),`(.dict es ep),`((Sum.inl k)),`(bN H D (.int ((n.key:Nat):Int)) (some (.int ((statusOf s n v:Nat):Int)))),`(Value.type "list"),`((by rw[nv.1];rfl)),`(⟨_,e⟩),`(KV kvs vs),`((DL G.fl)),`(place Prod.fst x p.1.facts),`((hb pins s1 σ H1 _ I1 q1)),`(as2.map V.ref),`(wpAny _ _ (if w.params.followText "set-order"=true then _ else _) _ _ s),`(place Vbnlad.Edition.day e s.editions),`(parse len Ya6 .want ((i,.word A7)::r)),`(fW.same sm),`(of_decide_eq_true e1),`((tn _ (by simp[gr]))),`(PySem.W.fnOf x qual (Te st) (Hn st) (ax st) .none kV doc pm an cdv ct),`(.tup [.int (q.1:Nat),.int (q.2:Nat)])]
open Lean in
def dqT9:Array (MacroM Term):=#[`(J7 st view.toNat st.names),`((apos.endLine==cpos.line)),`(⟨Zaa,ZbZ⟩),`(⟨Zaa,Yap,YAn⟩),`(.tup [Yew,.int (Builtin.bitXor (a4 YeV:Nat) (maskOf u f.key:Nat))]),`((aM (eR (ck (ay (Ah T) Yac rfl T.DA T.zX.kp T.DY .nil aD YeW))) YaD az)),`((aa YeQ YBN)),`(⟨ZaN,ZaD,ha,ZaF,b,_,ZaD,hb,rfl,ZaM⟩),`(.tup [.int ((YDg*jn YeV 8:Nat):Int),.int ((a4 Yor^^^maskOf u f.key*jn YeV 8:Nat):Int)]),`(some (.ins A.fX dx [("pairs",.ref pl),("left",.int (bm YeV Yn4:Nat)),("later_keys",.ref ll)])),`(⟨ZaE,ZaL,bM ht hob3,T.bc,Zcl,tx3 YBL,D,Zaa,q1,_,kvs',rfl,q2,q3,ab,q4,q5⟩),`((fA qv rfl T.SM NJ (aa YeT ah))),`(⟨_,YbA,ZaI⟩),`(⟨_,.list [],.lst (aV.of h1) (Ny _),.lst (aV.of h2) .nil,shaped_ints _,ZaI⟩),`(⟨D,ZaD,hd4,aP (n:=5000) (by rw[List.length_map];simp at las;omega) YeP,?_⟩),`((λ_ _ _ _ _=>YeY)),`(aj (au (ay (A3 T) Yac rfl T.DE T.xj.kp T.Ec .nil aD (aa Yau (aa Yba Yfk))))),`(⟨.list [],.list [],.lst (aV.of h1) .nil,.lst (aV.of h2) .nil,ZaI,rfl⟩),`(aj (au (aT (qu rfl) rfl T.jL jk Yts))),`(aP (n:=5000) YaI YeP),`((List.mem_reverse.mpr zu)),`((.Compare a [op] [b] pos)),`(⟨D,_,hD,YgB,λod=>⟨Zaa,D,od,rfl,.inl ⟨_,ab,λL hL=>?_⟩⟩⟩),`(statusOf s n v),`(some (YvZ)),`(PA X Yv1 t),`((same_refl H')),`(V.int (Builtin.bitAnd ((bm YeV Yn4:Nat):Int) ((wm:Nat):Int))),`((λvs H Q E h=>by obtain⟨p,dx,args,rfl,⟨x,y,rfl⟩,_⟩:=h;rfl)),`(ks.map Int.toNat),`(List Vbnlad.Flag),`(CJ K H s cur kvs),`((bG (aa aq YdC))),`((.builtin "len")),`(["code","left_rules","right_rules"]),`(passes f day rank l),`(flagsOf [pl.1,pr.1]),`(decide (d<=1000000)),`(assignEach es X.env),`(Sum.inr (sx f.text)),`((by simpa using hu)),`((by simpa using e4)),`((Wac.mpr (.inr hp))),`((Wac.mpr (.inl hp))),`(upd (upd (upd H3 f1 YEo) f2 YEo) q (.lst ((YcF).map λr=>YfG))),`(sorted_ints (λk=>(h4 k).trans (h1 k)) h6 m1 m2 (h5.trans m3.symm)),`(List Rule),`(["self","place","signs"]),`(Sum.inl ((kf x:Nat):Int)),`((λx:Vbnlad.Flag=>x.key)),`((.Attribute o name apos)),`((λvs H Q E h=>by obtain⟨_,_,_,_,_,_,_,_,_,_,_,rfl,_⟩:=h;rfl)),`((λa e=>or3 a (passes (cG p.1.facts u k) p.1.day p.1.rank (YcF)))),`((PySem.W.fnOf name qual params body scope dV kV doc pm an cdv ct)),`(scope.names),`(l.map V.int),`(h.objs.size),`(Array Value),`((r*2^YbL+w)),`((aa YeJ ah)),`((λk=>(Yv6).isNone)),`((if i=YAB then YvA else 0))]
open Lean in
def dqT10:Array (MacroM Term):=#[`((by rw[isSubtype_type];kernel_rfl)),`(Q .fR H'),`(L.length),`((.ref C)),`(Sum.inl flag),`((vs.map toV)),`((f'::below')),`((Or.inr rfl)),`((!keyOk key)),`((show Vbnlad.EDITIONFLAGS<_ by unfold Vbnlad.EDITIONFLAGS;omega)),`((YDg*jn YeV 8,a4 Yor^^^maskOf u f.key*jn YeV 8)),`(p.2.length),`(Sum.inl rk),`(Sum.inl lk),`((pl%2^Yaz)),`(some (.ins A.jY dx [("place",Yui),("signs",tx p.2)])),`((λvs H Q E h=>by obtain⟨_,_,_,_,_,_,_,_,_,_,rfl,_⟩:=h;rfl)),`((bq (ay (ie T) Yac rfl T.iP T.fN.kp T.i7 .nil aD (aa Ye3 YeW)))),`(bm W g),`(.ref l),`(.inr h),`(⟨lp,rfl,⟨_,aV.of ha2⟩,?_⟩),`(⟨Yag,λl hl=>num s14 hl step⟩),`(g.rule o' (kp.rule T (Yxe))),`(["code","name_key","view","want"]),`(PyFlat.call PyVbnlad.shape YAk),`(Paired (λx r=>(r,x)∈G.rl) rs R),`(statusOf s n view.toNat),`(["self","kind","signs"]),`(["kind","left","right"]),`((∀x c,YbK=Ycf->c≠b)),`((aT vK rfl T.cP bR Ygd)),`(tupleKind (dP P w)),`(some (.lst (aE u))),`(behindInMarks op b),`(.seq its.toArray n),`((∀u∈vs,Vt A u)),`((by simpa using h)),`((aC bY YaG aW Ybo)),`((.lst (Pn.map nH))),`(aY (m:=100) (by rw[List.length_map,List.length_map];omega) YeP),`((!(ks.map λk=>st.rules.any λr=>((r.key:Nat):Int)==k).all id)),`(["code","view"]),`(Vbnlad.Rule.key),`(Vbnlad.Name.key),`(decide (i<=j)),`(Passes CX X E),`(J.XG i H x H'),`(.type "range"),`((.dK (xI fs))),`((.Name x pos)),`((λy hy z=>nos y hy (by rw[<-nk];exact congrArg Int.ofNat z))),`((λ_ _ _ _ _=>(dJ Yba T.aR T.cZ (cX T) Yac T.dD .nil aD Yhx))),`(({key:=Ygj,day:=Yw5,rank:=rank.toNat},⟨x,dx,fa,pa⟩)),`(settling s facts day rank l want),`(aV K H na [.int x,.int y,.int z]),`(["code","name","view","in_play"]),`((λq:Vbnlad.Edition×V=>q.1.key)),`([V.ref a]),`((.dT kvs)),`(mj k (A.deeper (envOfC qual (ax st) s.heap.objs.size f cdv))),`(kI b h.2 (λp hp=>hs p (List.mem_append.mpr (.inr hp))) x hx)]
open Lean in
def dqT11:Array (MacroM Term):=#[`(kI a h.1 (λp hp=>hs p (List.mem_append.mpr (.inl hp))) x hx),`(aaT (settling st p.1.facts p.1.day p.1.rank (Yc8) (want==1))),`(aS sm hD),`((top 69)),`((.ref D)),`(scope.names.lookup y.1),`(ruleValue f day rank r),`(parse len [{}] .want r),`(p.1.facts.map Prod.fst),`(["code","key","signs"]),`((λz=>some (HO.lst z))),`((x.1++[(z,false)],YdV)),`((keywordEach [] X.env)),`((WaX (f:=Prod.fst) hx)),`(⟨.int ys.length,H,Yga,⟨s.toks+1,by rw[WaS,hlen]⟩,q⟩),`((eR (ck (ay (gX T) Yac rfl T.jN T.jb.kp T.jQ .nil aD YeW)))),`((eR (ck (ay (BM T) Yac rfl T.EV T.Ay.kp T.Fs .nil aD Ye9)))),`(⟨q,rfl,⟨_,aV.of ab⟩,?_⟩),`(place Vbnlad.Rule.key r s.rules),`(place Vbnlad.Name.key n s.names),`(place Vbnlad.Flag.key x s.flags),`(cellsFrom h.objs.size names acc),`(by rw[List.length_append];omega),`(["code","name","view","spread"]),`(List.getElem?_eq_some_iff.mp hq),`((λargs=>∃x y z,args=[x,y,z])),`((upd H c.pl (.lst (Pm.map nH)))),`((if e.keeps=true then 1 else 0)),`(flagsIn (nL st c)),`(aV.of (sm _ _ ha)),`(WellAll P h vs ds),`(Vis X.env.scope x),`(Option (Nat×Nat)),`(Loc X.env.scope x),`(ks.all (id∘ λk=>st.rules.any λr=>((r.key:Nat):Int)==k)),`((ay (rC T) Yac rfl T.uz T.nO.kp T.u6 .nil aD Ys2)),`((ay (p6 T) Yac rfl T.rK T.kF.kp T.sy .nil aD (aa Yau YiN))),`(sp vs H Q E),`(.type "set"),`((model P w)),`((.bl false)),`((by rw[typeLookup_type,builtinLookup_eq_fast];kernel_rfl)),`(Kp.same s1),`((br aZ aq)),`(upd H2 D YEo),`(some (.jh o u)),`(firstMet val i),`((ns.map V.int)),`(((YcF).take i)),`(k b o (λz=>hc (by simp[z])) e),`(bC Yhj (λe=>absurd YeP (YaH))),`(ai (ao e nx) (ai (ao e ndx) e)),`(V.int ((nM u d S1 S2:Nat):Int)),`(zT X (compareOp op) r),`(["self","day","rank"]),`((x.1++[(z,true)],YdV)),`((.Attribute o m apos)),`(("pending",.ref c.pl)),`(go _ h (by intro _ z;cases z) (by intro _ _ _ z;cases z)),`(aY (m:=100) (by show 5+(Ytu).length<=_;omega) YeP),`(({key:=Ygj,day:=Yw5,keeps:=keeps==1,rules:=Yd2},x)),`(rankNumber w)]
open Lean in
def dqT12:Array (MacroM Term):=#[`(putK kvs k v),`(.type "dict"),`((aw Ycg rfl)),`(List fY),`(λ_ h=>h),`(some (.lst (aE ((turns (L++R)).map λd=>dF (YcM) d r)))),`((aV X.K H p YDA∨eA X.K H p YDA)),`((WaC n1)),`((.dK [])),`(cx A H c len r S Pn YCF g),`(by ext Xd7),`(["unknown","spread","wanted"]),`((if b=true then .tt else .ff)),`((List.length_filterMap_le ..)),`((((Yi5).trans fW.r).trans fr)),`(PE X e te),`(PE X a ta),`((λ_=>?_)),`((ao e nx)),`(some (.Fo lp lq)),`(eF.mpr (.inr hy)),`(by simpa using e),`(as.map Value.ref),`(List (Str×Addr)),`((λx=>tx x.text)),`((bz Yau Yba rfl)),`(("days",.ref dl)),`(some (n.key,statusOf s n a.toNat,Yty)),`([some (tx t),some (YiM),some (.int ((i+1+j:Nat):Int))]),`(RQ cN P w K mg base N qual (ax st) f cdv A outer s H E),`((λx:Nat×Bool=>[(x.1:Int),if x.2=true then 1 else 0])),`(λns' q pn sn hq=>?_),`(λl hl=>num s1 hl ?_),`(xa K A H s wa W rk F),`(decide (e.day<=view)),`(bW.mpr ⟨YbW,YaP⟩),`(["part","bracketed"]),`(X.env.cells.lookup y),`((λn b=>10*n+(b-48))),`(("tokens",.ref c.tl)),`(⟨Zaa,kr _ (by unfold putFlag;rw[Wae Yho,Wap e5])⟩),`(⟨ZaJ,ho,ZaS,c.pl,Zaa,.inl (aV.of hp),ZbS,Ybi⟩),`(⟨?_,(st.2.keep λo e=>k2 a o hne (k1 a o hne e))⟩),`((dq (hc pins s σ H _ I h) λd s1 ⟨H1,I1,q1⟩=>?_)),`((by unfold ka;rw[e];dsimp only;rw[if_pos hto,er2,e3])),`(Sj P w K mg base A outer s H),`(.lst ((as'++[x2]).map V.ref)),`(bB n u),`(.int 0),`(some (.own a)),`(s.heap.get? d),`(r.takeWhile p),`(lit "before "),`(daysIn r.cond),`(by simp;omega),`(X.base.get? b),`(G3 X pins H b),`((eV W B fv d)),`((.rank lo hi)),`((!dayOk view)),`(turns R),`(s1.toks)]
open Lean in
def dqT13:Array (MacroM Term):=#[`(unknown s p.1.facts p.1.day p.1.rank (YsW)),`(RQ CX P w K mg base N qual scope f cd A outer s H E),`((HT.qf xs.length xs.length hi-HT.qf xs.length 0 lo)),`((.ListComp elt [⟨target,iter,ifs,0⟩] scope pos)),`(λp hp=>kp.ed T (C.ae p hp)),`(["self","least","greatest"]),`(Sum.inl ((p.1.key:Nat):Int)),`(I1.RJ hle (I1.cg.fresh hle)),`((if z.2=true then 1 else 0)),`((List.length_filter_le _ _)),`((I.base.keep b o e n hb hx)),`((!tb.plain&&decide (YeO>1))),`(⟨.bl _,H,I,Zag⟩),`(λb o e n hb hx=>?_),`(zA5 s.heap l1 l2 l3),`(s.heap.IsList l1 xs),`(decide (rk k<=r.hi)),`(decide (r.lo<=rk k)),`(aS (YBn) hD),`(V.int ((n:Nat):Int)),`(.lst (xs.map V.int)),`((λq=>absurd q YeP)),`((flag.toNat,val==1)),`((by simpa using hk)),`((by rw[q];simp[gr])),`((by rw[ok2];decide)),`((by rw[e12];decide)),`(("steps",.ref c.sl)),`(z.length),`(RelV x v),`(aj (au aq)),`(acc.length),`(Value.none),`(Vals vs us),`(K w.params),`(.ref p.2.a),`((aa aW ah)),`((.inr rfl)),`(statusOf s n v'),`(st.names.length),`(bs.getD i false),`(args.getD 2 .fR),`(["self","word"]),`(List (Str×Nat)),`(Df YeV p.1.rank),`((by assumption)),`(⟨Zaa,wa,Zbh,h1,ZcT,ZaX⟩),`(bx (ba (cV ⟨Zbl,bC (λe2=>?_) (λe2=>⟨Zbl,bC Yyr (λe3=>⟨ZaE,ZaD,Zaa,Yg4⟩)⟩)⟩))),`(⟨fc,spc,rfl,⟨kk,fd,ps,hF,hr.mono Yad,hkeep,hbind⟩,Zbl,?_⟩),`(⟨Zaa,q,o1,Zbr,Zam⟩),`(⟨Zbg,bC (λe=>absurd (Waf e) (by rw[b0];decide)) Ymr⟩),`([Yfd,Yjy,some (.int ((wm:Nat):Int)),some (.ref sp),o4]),`(⟨Zbq,λl hl=>?_⟩),`((compPost Yar X.A X.xe use Qf Yle s3.heap.objs.size)),`(⟨Zbi,Za4⟩),`(⟨ZaE,ZaH⟩),`((fj u x.1)),`(⟨us,[]⟩),`(wipe σ2 vs),`(lit " and "),`(fs.lookup f),`(eA K H a xs)]
open Lean in
def dqT14:Array (MacroM Term):=#[`(Vbnlad.Call),`(Value.ref a),`(Vals xs its),`(Vals dvs ds),`(K.In s.heap),`((upd H d o)),`((ps.zip us)),`(.int i),`(⟨_,(aj (au (aw (aU a5 Yak Yak Yal) rfl))),?_⟩),`(⟨Zaa,L,Zaa,.inl (aV.of hL3),Yag,YsR⟩),`(['r','o','t','a','r','e','t','i','_','t','e','s']),`((λp hp=>by rw[hm p hp];exact Bool.false_ne_true)),`(turnsOf r),`(t.map sgn),`(decimal d),`(X.N.Nodup),`(C.d2 p hp),`((8*2^Yaz)),`(ruleValue (F k) d (rk k) r),`((x==("__classdict__":Str))),`((ha pos pins s σ H _ I h)),`((aF (i:=3) nd rfl Yaf YgO)),`((aF (i:=2) nd rfl Yaf YgO)),`((aF (i:=1) nd rfl Yaf YgO)),`([.int (((aE Yx1).length:Nat):Int)]),`(.lst (st.names.map λn=>V.int ((n.key:Nat):Int))),`(Ak G.nl),`(⟨ab,YBW⟩),`(t.all Vbnlad.small),`(t.all Vbnlad.digit),`(factOf p.1.facts z),`(chain s view.toNat),`([z,TI,TO,i1,i2,i3]),`(PyVbnlad.answers l),`(List (List Key×V)),`((λ_ _ _ _ _=>Ye6)),`((eX K rfl Yau rfl)),`((by simpa using q)),`((aU bQ YaG aq Yal)),`((Hd p.1 (YbR) Ydc)),`(⟨its.toList,o,n,hv,KX _ _ e,hc,by simp[hd]⟩),`(some (.lst ((VbnladNeutral.shown a).map V.int))),`(Nat.le_trans (List.length_filter_le ..) C.ok.nn),`(.lst (p.1.facts.map λx=>V.int ((x.1:Nat):Int))),`((by rw[List.length_map,List.length_take];omega)),`((bp (cW Yau T.aI T.oh (oa T) Yac T.p8 .nil aD))),`(take l m i t),`(same_refl H3),`(kp.tab C.tab),`(gO A H s a r),`(exts x.1 x.2),`(bg YfO (YbE)),`(List.range n),`(List Edition),`((upd H' d u)),`((cw C.ok.nk)),`((aa Yau Yjg)),`(⟨ZaJ,ho4,Zbw,ho4,Zad⟩),`(surely s facts day rank l),`(speaks r p.1.day p.1.rank),`(h''.get? s.heap.objs.size),`([Ybz,.int name,.int view])]
open Lean in
def dqT15:Array (MacroM Term):=#[`(Sum.inl ((r.key:Nat):Int)),`(Sum.inl ((n.key:Nat):Int)),`(Sum.inl ((f.key:Nat):Int)),`(PyProof.Rows.IntsAre L ns),`((λk=>cG facts u k x.key)),`((YdS&&decide (Yby<=4096))),`((WbA _ (WbA _ (BV hb e)))),`(Waj ?_),`((pv 7)),`(some (.dK YiY)),`(s2.heap.get? b),`(s.heap.get? it),`(h x (Waq _ hx)),`(bootBuiltins x),`(bA YvB Pn S),`(C.ok.nf p.1 mp),`(λb o h1 h2 e=>ai h2 (s2 _ _ (fr b o h1 h2 e))),`(["code","left_key","right_key","left","right"]),`((by rw[I.ok.glob];exact I.mod.glob.keeps I.bk)),`(List Env),`((.ref x)),`(bN H' bd (Yfu) (some (.int (maskOf u z:Nat)))),`(aY (m:=100) (by rw[mN];show _+2<=_;omega) YeP),`(CJ.put C.ok hf hv (fv.kp (Kp.same (A:=A) s2))),`(some (qr first i a n ep)),`(sliceBounds lo hi none n),`(parse len l m ((i,t)::r)),`(["code","status","view"]),`(["code","name","spread"]),`(S56 _ _ (fr b o h1 h2 z)),`(Nat.le_trans (om ..) Yad),`(.inr ⟨e7,Yx8⟩),`((λn:Vbnlad.Name=>n.key)),`((apos.endLine==pos.line)),`((.settle name view want)),`((.int ((f.key:Nat):Int))),`((.compareEditions lk rk)),`(tL (j:=0) rfl rfl),`(some (.lst (YiK))),`(sc.names.lookup n),`([Ybc,YeK,.ref wa]),`(["self","tokens"]),`(List (Str×Value)),`(Gm K A H st a D u),`((bG (aa YeX YdC))),`(((p,w)::P.zip vs)),`(⟨Zaa,a,rfl,⟨_,aV.of (s0 _ _ ha)⟩,?_⟩),`(xs.size),`(small c),`((λb o _ _ hc e _=>⟨o.slots,k b o hc e⟩)),`((gu "full" (Yx7) (gu "ways" (Yx7) []))),`((Builtin.«zip.__next__» ⟨[.ref z],[]⟩)),`(view.toNat),`(pre.length),`(numberOf w),`(lit " or "),`(dayOk view),`((Waq _ hy)),`(rel.val k),`(Wa7.mp nd),`(PE X b tb),`((vs++dvs))]
open Lean in
def dqT16:Array (MacroM Term):=#[`((.lst ys)),`(⟨ZaJ,ho2,T.aI,T.gh,rfl,ZaD,_,_,ho2,Zad⟩),`(λc hc=>hasks c (List.mem_cons_of_mem _ hc)),`(some (some (.builtin "object.__setattr__"))),`(Tri s.heap TI (.ref i1) (.ref i2) (.ref i3)),`((λn=>V.int ((statusOf st n view:Nat):Int))),`((if([]:List Keyword).isEmpty then 0 else 1)),`(((((Yi5).trans fr1).trans fW.p).trans fW.r)),`(putK YiY (YbE) (tx YbY)),`(ak (o:=.tup Ydb) Yay ht),`(["self","left","right"]),`(["self","code","rules"]),`(["code","early","late"]),`(Wab (Wab (x.state YcW))),`(Q (Yij) (upd H p (YgV))),`(List.mem_of_getElem? hn),`(.inl (.inr ⟨q,Yh8⟩)),`((∀c∈w,digit c=true)),`((λe=>absurd (YaQ) YeP)),`((ix+1+Yc0+(1+cn.toNat))),`((aT a8 rfl T.cP bR Ye9)),`(⟨Ybv,YeD⟩),`(place key x l),`(dP X.prog X.w),`(cenv.kindOf y),`(absurd rfl n1),`(aG K A H' G s),`(Value.ref Yht),`(Q (.int n) H'),`(NameKind.free),`(List (Str×V)),`((upd H d Yh5)),`((cy rfl T.iQ)),`((ab.trans ?_)),`((Iw hr.units)),`(⟨ZcV,name,view,rfl,C,Yu7⟩),`(⟨Zaa,A.G7,Zbv,T.SD _,at_of rfl hfc,?_⟩),`(aV.of (by rw[s5 _ _ hkl,List.map_map];rfl)),`(V.int ((statusOf st n view.toNat:Nat):Int)),`(RelV (.str "abcdefghijklmnopqrstuvwxyz") u),`(.str (if b=true then "from" else "before")),`((dq Yej λv s1 ⟨x,H1,I1,r1,ty,q1⟩=>?_)),`(s4.trans s5),`(s3.trans s4),`(lit "rank "),`(lit "from "),`(bA YfA Pn S),`(KT H kvs xs),`((λu e=>?_)),`((fl.map iq)),`((ak Yay hl)),`((aa YeX ah)),`((aa Yau ah)),`((Nat×Text)),`(λv q=>nomatch q),`(zS h a els ep tb),`(some (.jh o Yk7)),`(p.1.facts.length),`(its.toArray.size),`(bx (ba (cV Yjd))),`(bg (MV pl) (Ycr)),`(aj (au (aQ YdC)))]
open Lean in
def dqT17:Array (MacroM Term):=#[`(["self","words"]),`(Vbnlad.sorted fl),`(Sum.inr (sx YbY)),`(List (κ×Value)),`((σ.set i (YcV))),`((2^(Yan).length)),`(absurd (show p∈([]:Ya0)++[]from hp) Yao),`((λk=>dE s facts day rank l YwG k==Yb8)),`((λi h=>h.IsKeyIter it d i kvs.length ep)),`(({p.1 with facts:=YiZ},{p.2 with pa:=pa})),`(({f with ors:=YvW,ands:=none}::below)),`((.inr ⟨q,by rw[aA (ao h n)];exact h⟩)),`(some Ydw),`(bh s p.2),`(bg kvs k),`((bq Yau)),`((WaC m1)),`(some (.lst (aE (Ym8)))),`(s'.flags.map Flag.text),`(rs.map Vbnlad.Rule.key),`(h.DictOf (dP P w) a vs),`([V.int (l.length:Nat)]),`([.str "and",.str "or"]),`(["tokens","flag_keys"]),`(["supposals","spread"]),`(["steps","day","ways"]),`(["rules","day","ways"]),`(["code","name","view"]),`(["code","edition_key"]),`(PySem.W.lookIn name od),`(Nat.pos_of_ne_zero Yao),`(List.range h.objs.size),`(List.mem_map_of_mem hy),`(.ref s1.heap.objs.size),`((λz=>hb (by simp[z]))),`((hi pins s σ H _ I h)),`((h pins s σ H _ I hw)),`((h pins s σ H Q I hw)),`((by rw[CA nos];decide)),`((PySem.W.instObj C dx)),`((Nat.le_add_right _ _)),`((.lst (Yi1++[.ref y]))),`((.lst (YcE++[.ref t]))),`((.dK (DL (G.fl++[x])))),`(u.Nodup),`(s.names),`((g i j)),`((WbH _)),`((WaB e)),`(V.int (if cp u z Yko=true then 1 else 0)),`((λh' c' kp e=>fin its r' hz h' c' kp e)),`((upd H G.na (.dK (Ak (G.nl++[(n,g0)]))))),`((YDg,YvA^^^maskOf u f.key)),`((dq (ha pins s σ H Q I h) λc s1 e=>?_)),`(((λn=>((n:Nat):Int))∘Vbnlad.Rule.key)),`(wpAny_ite_split Ymr (λq=>absurd Ya5 q)),`(bx (ba ⟨Zaa,λx dx nx ndx nex=>?_⟩)),`(aP (n:=5000) (by simp at las;omega) YeP),`((upd H s.heap.objs.size (.tup [x,y,v]))),`((upd H s.heap.objs.size YDE)),`((upd H G.ru (.dK (CH (G.rl++[(r,a)]))))),`((upd H G.ed (.dK (AI (G.el++[(e,a)])))))]
open Lean in
def dqT18:Array (MacroM Term):=#[`((dq Yej λv s1 ⟨x,H1,I1,r1,q1⟩=>?_)),`((by rw[List.toList_toArray];exact v7 r)),`((ai (WaC m3) (ai e34 (ai (WaC m3) ab)))),`((aa (aT a8 rfl T.cP bR (aa Yic ah)) ah)),`((((fW.same sm3).trans fW.s).trans fW.r)),`(⟨Zbn,Za1,Yc5,ZaH⟩),`(zS s.heap a els ep tb),`(tE (nH p) (ws.map nH)),`(sP prog w led h a S n),`(relayAll tb1 els1 Yee),`(mg "editions_in_play"),`(k _ _ (ak Yay ht) Yel),`(ai na2 (ai na1 N.obj)),`(aE (F.map λn=>n.key)),`([V.int ((z:Nat):Int)]),`(["step","day","ways"]),`(["signs","flag_keys"]),`(["rule","day","ways"]),`(PySem.W.hasDictIn K C),`((aa Yau (aa YeQ Yjg))),`((C.pf.mem_iff.mpr hx)),`((.compareRules lk rk)),`(some y),`([.not]),`(.ref t),`(⟨_,YbA,rfl⟩),`(h1.symm.trans e),`(fl.Perm s.flags),`([.int 3,.int 4]),`(["rule","name"]),`(Vbnlad.step s c),`(RelV (.int 8) u),`(RelV (.int 7) u),`(⟨Zb0,ZbS,bC Yhj (λe=>absurd lt (YaH))⟩),`(RelV (.int 6) u),`(PI X tg iter wi),`(Option NameKind),`(List (Nat×Tok)),`(I1.cg.fresh YcZ),`(.str ⟨#[c]⟩),`((bz Yau aq rfl)),`((aw YDc rfl)),`((Nat×Nat×Nat)),`(λq1 hq1=>?_),`(λ_ _ _ e=>e),`(some (l',m')),`(r.take (Yc0)),`(p.map (·.1)),`(chain s view),`(aV K H1 a xs),`(Nj s1.heap H),`(False.elim x),`(.number (-1)),`((pyNext Ydk)),`((aa Yau YaM)),`(⟨ZaE,Zbv,hz,tL rfl hd,ZbI,Zaa,Yc1⟩),`(parse len Ya6 .want ((i,.word Yir)::r)),`(Call_ (uA I hg hm LY (Wbu Ya8 hs hpl))),`(.lst [.int (((xI fs).length:Nat):Int)]),`((λz=>by rw[z,h]at q;cases q;exact mu)),`((some ((HT.qf z.length 0 lo:Nat):Int))),`((by rw[lf];exact Nat.lt_trans e12 YeP))]
open Lean in
def dqT19:Array (MacroM Term):=#[`((aC nZ (aT a8 rfl T.cP bR Ygd) aq Ybo)),`(⟨ZaI⟩),`(picks n u),`(jH ks d k),`(fs.length),`(cur x.key),`(X.A.units),`(WaD.mp hx),`(Sem Value),`(List Stmt),`(K4 G H H'),`(B.drop lo),`((.lst xs)),`(wpAny M A (storeName X.env x u) Q E s),`(some (PySem.W.methodObj YiB (.ref y))),`(parse len Ya6 .want ((i,.word zg)::r)),`(Builtin.Int.intBits (((2^k:Nat)):Int)),`((upd H s.heap.objs.size (.tup [x,y]))),`((aa (fA (JC rfl) rfl T.O3 JG YeW) ah)),`(start N vs),`(decimal lo),`(Rd H a Ycn),`(K.lookup b),`((xY K h A)),`(statusOf s n b.toNat),`(by simp at hl3;omega),`(["self","flag_keys"]),`(["code","rule_keys"]),`(PySem.W.keepIn K YiB),`(.type "set_iterator"),`((λq:Nat×Bool=>q.1)),`((λn=>((n:Nat):Int))),`((λ_ _ z=>nomatch z)),`((gd (dh hu YaS Yak))),`((gd (dh hu YaG Yak))),`((by rw[e];exact YgB)),`((PIE X pins σ tg R)),`((.dK (xI (fs++[x])))),`((.Attribute e f pos)),`(s.rules),`(V.int 1),`(A.units),`(xU h A a),`(st.flags),`(s _ _ h1),`(ks.Nodup),`(f.unit u),`(⟨Zbp,Yet,T.bc,ZbJ,od,Zaa,ab,YeD⟩),`(⟨Zaa,k _ st _ G rfl (YlQ) C1 ?_⟩),`(wpAny Yar X.A (eval YkY X.env) Q E s),`(absurd (show b∈([]:Ybw)from z) Yao),`(absurd (Value.type.inj (Hb q).1) YeP),`(a6 P w K mg base cN YCH f fd ps sp),`((λc q=>by rw[aA (ao q hn)];exact q)),`((NU λi j=>.int (Builtin.bitOr i j))),`(some b),`(⟨r,Yku,hx⟩),`(⟨r,YiC,hx⟩),`(some (.ref wa)),`(s1.heap.get? b),`(fM P w H h a o),`(e (h1.trans z))]
open Lean in
def dqT20:Array (MacroM Term):=#[`(decide (0<Yby)),`(Vbnlad.small c),`(Vbnlad.digit c),`(UT s name view),`(Sx B r.lo r.hi),`(List (Kd×Yaw)),`(J7 s v s.names),`(.set els ep tb),`(.int (p.1:Nat)),`((neC b o e hx)),`((aa (pv 9) ah)),`(((Ycw).hash i)),`(⟨Zbb,Zb5,_,YaP,rfl,j+1,hj2,ZaI⟩),`(parse len Ya6 .want ((i,.open_)::r)),`(l.find? (λy=>((key y:Nat):Int)==k)),`(dictOf (λp=>YhZ) (λp=>.ref p.2) l),`(aP (n:=5000) (by rw[Waa];omega) YeP),`([.int ((p.1.facts.length:Nat):Int)]),`(F.slot_dict_keyiterator_next.lookup),`(Builtin.Str.strSliceIndices a b 1 n),`((λb ps e=>⟨#[],by rw[e];simp⟩)),`((λ_ _ _ _ _=>aX (i:=9) nd rfl Yaf)),`((λ_ _ _ _ _=>aX (i:=1) nd rfl Yaf)),`((show ¬Vbnlad.INEDITION<_ from j8)),`((Ph hl.isList λs₂ e2 st hne=>?_)),`((.inl (by rw[aA (ao h n)];exact h))),`(((Yh2).toList++(breach b a).toList)),`(⟨x,dx,tl,sl,pl⟩),`(zA4 s.heap l1 l2 l3),`(zA3 s.heap l1 l2 l3),`(xP X.prog X.w H' h'),`(some (.lst (aE fl))),`(s.heap.IsList l3 zs),`(s.heap.IsList l2 ys),`(looked s day rank l),`(bg Yd9 (Sum.inl ek)),`(bf K x qual st f fd),`(aV.of (sn _ _ hrow)),`(aV.of (sm2 _ _ hll)),`(Sum.inr (sx x.text)),`(NR s.heap x dx C mA),`(List.reverse_perm u),`(List.range els.size),`(List Vbnlad.Edition),`(.lst (tt.map V.int)),`(.Pass ⟨0,0,0,0⟩),`((starEach es X.env)),`((kvs.any λkv=>YiD)),`((by simpa using hi)),`((by simpa using hb)),`((bw hu Yak Ycg Yal)),`((bw hu Yak YaS Yal)),`((aU zh Yau YaS Yal)),`((aC lF YaS Yfe Ybo)),`((aC lE Yba YjG YaO)),`((aC fB YaG Yb1 YaO)),`((KG u fs fs.length)),`((.status name view)),`(⟨?_,sm⟩),`(λH1 s1=>?_),`(s5.trans s6),`(o.ExactDict)]
open Lean in
def dqT21:Array (MacroM Term):=#[`(aj (au YaS)),`(aV K H b ys),`(Value.ref d),`(G.fl.map iq),`(.type "zip"),`((upd H a o)),`((upd H D o)),`((.int i tk)),`(typeLookup (.type T) "__getitem__"),`(s1.TypeIs (.ref o) "StopIteration"),`(r.ret.enc (Codec.app r.args r.f a)),`(backTo cpos (starEach [e,f] X.env)),`(aE ((D.take i).map λd=>dG u d [])),`(V.int (((DL G.fl).length:Nat):Int)),`(V.int (((CH G.rl).length:Nat):Int)),`(V.int (((YCC).length:Nat):Int)),`(PySem.W.findIn K Ykd "__setattr__"),`(Inv (Ydu) [] (wipe σ (YhH)) H' s'),`((λi H' hi q=>⟨q.2 _ _ ab,hi⟩)),`((λi H' hi p=>⟨p.2 _ _ ab,hi⟩)),`((some ((max (YdF) (Ycj):Nat):Int))),`((show ∃t,u=Value.str x t from r)),`((show ∃t,u=Value.int i t from r)),`((if o=true then fY.or else fY.and)),`((dq YcA λc s1 ⟨H1,I1,q1⟩=>?_)),`([Ybc]),`(a4 YeV),`([.and]),`(.ref c),`((gR e)),`(⟨Zbq,λl hl=>num (YqR) hl ?_⟩),`(settling st facts day rank l want),`(k sl pl _ (YgE) ?_ ?_ n3 ?_ ?_ ?_),`(joinAnd f.ands (negated f.nots u)),`(WbS WcE hit.typeIs WeV ?_ (WeN _)),`(Wab (wpAny_setField ho hd Yao ?_)),`((∀b o,b≠p->H b=YaB->H' b=YaB)),`((λi H' _ p=>aV.of (p.2 _ _ hsl))),`((λb o hb e=>(sb.2 b hb).trans e)),`((λ_ s'=>∃σ' H',Yd1/\Q σ' H')),`((l.any λy=>((key y:Nat):Int)==k)),`((by rw[List.length_append];omega)),`((aj (Il (i:=9) nd rfl Yaf aq gI))),`((aj (Il (i:=2) nd rfl Yaf aq gI))),`((ai hb (ai f2 (ai hb (ai f1 e))))),`((Paired.gE hP λ_ _ q=>q.same s2)),`(r.first),`(l.map f),`(f.whole),`(digit b),`(Wah _ q),`(.ref sa),`((kk::u)),`((e::es)),`(⟨ab,ak YbG hN⟩),`(⟨ab,ak YbG hL⟩),`(toks i i [] (b::r)),`(st.editions.length),`(factOf p.1.facts k),`(decide (k≠r.key)),`(bN.k (k:=YbE) C.GN),`(aV.of (sm _ _ hdl))]
open Lean in
def dqT22:Array (MacroM Term):=#[`(["in_play","name"]),`(["code","edition"]),`(PySem.W.isFn K YiB),`(Paired (dY H) ss S),`(CJ K Yof s cur kvs),`(CC K A H wa W B fv),`((λ_ _ _ _ _=>YgU)),`((λ_ _ _ _ _=>YfC)),`((p.1.facts.take i)),`((dayOk first&&YdO)),`((by rw[WaS];omega)),`((aC bY YeU aW Ybo)),`((aC bY Yda aW Ybo)),`(some (.own x)),`(s.heap.get? c),`(picks n (Yan)),`(ns'.map V.int),`(nameOf s name),`(fs.map (·.1)),`(decide (0<=n)),`(bm n (fj u p)),`(absurd rfl hw),`(PE X value tv),`(List.map_drop),`(I.ok.bs b o e),`((λb u e=>?_)),`((tOp r ta tb)),`((by simp[aJ])),`((Kp.same s13)),`((.str (wd y))),`((Ybc)),`((YbW)),`((Yan)),`(⟨Zaa,YgF,Zaa,row,ZaD,h4,Zab⟩),`(k _ _ (s1.trans (ak Ydd ht)) Yel),`(h.update a (Obj.putSet els' tb')),`(cx A H' c len r' S' P' (a9 P') g),`(cx A H' c len r' S' P' (a9 P') 0),`(by rw[List.length_append,lp];rfl),`([.int (((aE F).length:Nat):Int)]),`(VbnladNeutral.callOf (DR i xs t)),`(Vbnlad.step st (.sure name view)),`(V.int ((Sx B r.lo r.hi:Nat):Int)),`(E.reverse.map Vbnlad.Edition.day),`((λi h=>h.IsStrIter it ty x t i)),`((λb o hc e=>⟨o,k b o hc e⟩)),`(({f with nots:=f.nots+1}::below)),`((by simp only[wd];decide+kernel)),`((aM (gd (dh hu YeQ Yak)) YaE az)),`((aM (aC lF YaS aq Ybo) (Yf2) az)),`(ys.length),`(xH (c::w)),`(us.length),`(rs.length),`(rs.drop i),`(kz.zip as),`(h'.get? a),`(day.toNat),`(as.length),`(["rules"]),`(["calls"]),`(Pv i σ H)]
open Lean in
def dqT23:Array (MacroM Term):=#[`(Pm.length),`(PE X o td),`(Gn W rk B),`(D.nx σ H),`(C.ar p hp),`(.ref pr.2),`(.int lo t),`(.int hi u),`(.before d),`((hi+1-lo)),`((Wah _ x)),`(t σ H Q),`(st.names),`(some p.1),`(hZ below),`(Option V),`(Ma led t),`(J.go i H),`(.int key),`((WaC n2)),`(λt ht=>⟨t,Zaa,Zaq,Zaa,Ybi⟩),`(jS st facts day rank l want x.1),`(cellsFrom Yht scope.names (Yfv)),`(ak (o:=.tup [.str "or"]) Yay ht),`(PySem.W.findIn K Ykd "__init__"),`(PySem.StrLaws.sliceText z lo hi),`((∀dx fs,u≠ .ins A.eW dx fs)),`((λp:Vbnlad.Edition×Addr=>YhZ)),`((by rw[List.length_take];omega)),`((by injection e2 with e2;omega)),`((aa (aT a8 rfl T.cP bR Yfk) ah)),`((aV X.K H p ys∨eA X.K H p ys)),`((.Compare a [op,op'] [b,c] pos)),`((.BoolOp .And (a::b::rest) pos)),`(⟨q1,p1,r,rfl⟩),`(⟨Zaa,k H Yay⟩),`(⟨Zaa,ZaF,Ybi⟩),`(some (.lst (Yck))),`(s3.heap.objs.size),`(isWord (conv p.2)),`(decide (lo<=rk k)),`(aV.of (sn _ _ hp)),`(aV.of (sm _ _ hl)),`(["signs","place"]),`(.int (a4 YeV:Nat)),`(.inr ⟨r',Zb7⟩),`(.inl (.inl (Yh8))),`((λp hp=>h p YjR)),`((λp hp=>h p YjQ)),`((λk=>some (g k))),`((same_none s4 hq)),`((hm b _ q λz=>z)),`((eval iter X.env)),`((Hd p.1 none Ydc)),`(("steps",.ref sl)),`(some n),`(K.In h),`(.str x),`(.ref b),`(.int 1),`(λx hx=>?_),`(λN hN=>?_)]
open Lean in
def dqT24:Array (MacroM Term):=#[`(some (k,v)),`(some (YhG)),`(some (YeI)),`(some (YbF)),`(s2 _ _ hD'),`(out.toList),`(lit "not "),`(factOf p k),`(bA ws Pn S),`([(len,[])]),`(Vbnlad.Tri),`(J.stop i H),`(I.tF x c e),`(E3 I.cg eb),`(.lst [YmW]),`(.Name y py),`((λe6=>?_)),`((λe3=>?_)),`((facts++p)),`(⟨[],ab,ak YbG hM,rfl,.nil⟩),`(place Edition.day e s.editions),`(passes (sJ ks k) d (Az ks k) l),`(hp.subset (WaX (f:=(·.1)) hm)),`(decide (ia r1=zg∨ia r1=[40])),`([YgA,Ycl,Yjy,Ydn,o4,none,none]),`(V.int (((YoA).length:Nat):Int)),`(SetTable.below.go xs j f lo hi),`(Paired.gE h2 λ_ _ q=>q.same s),`(List.mem_map.mpr ⟨y,hy,ey⟩),`(List.mem_map.mp ((h1 k).mp hk)),`(List.find?_eq_none.mp hms p hp),`(.Lambda params body scope lpos),`((∀k∈fl,∃x∈YtR,x.key=k)),`((λc q=>by rw[aA YgH];exact q)),`((λb o _ _ hc e _=>k b o hc e)),`((λH' q=>⟨q.2 _ _ ab,YcH⟩)),`((λH' p=>⟨p.2 _ _ ab,YcH⟩)),`((upd H c.sl (.lst (YcE++Yvz)))),`((aU (Hj K rfl) (pv 10) aq Yal)),`(⟨Zbb,?_⟩),`(turns (a++b)),`(rulesOf st x),`(r.drop (Yc0)),`(eval a X.env),`(decide (a=b)),`(Value.bool _),`(Sum.inl name),`(I.cell x c e),`(Have Ya6 P S),`(C.ok.er e he),`(Au C.ok view),`(.number (-2)),`(.int (m:Nat)),`((λy hy=>?_)),`((cw C.ok.rk)),`((aw Yak rfl)),`((aa Yau YeW)),`((.Name x p1)),`((!dayOk day)),`(some ob),`(small b),`(aN H H1)]
open Lean in
def dqT25:Array (MacroM Term):=#[`(V.int 2),`(⟨pre,ss,C.pend Pm,YaP,b2⟩),`(t5 _ _ (bM hc1 (bM hq1 hlk3))),`(some (.lst ((Ybb).map V.int))),`(sP prog w (zd w) s.heap a S n),`(fr b o (ao e nrow) (sA _ _ e)),`(find_key (key:=YkS) Yo3 e3 e2),`(dictOf (λk=>k) YfV u.reverse),`(decide (y.1∈own.map (·.1))),`(attributeBase e f X.env (YgD)),`(Wcf (uA I hg hm hv ?_ hn hdb)),`(List.mem_append.mpr (.inl h1)),`(Ap3 z TI TO i1 i2 i3 l1 l2 l3),`(.tup [.int ((j:Nat):Int),Yfu]),`((∀k∈u,∃x∈Yhd,x.key=k)),`((st.flags.any λx=>x.text==t)),`((hl1.extBut m1.extBut D.e1.1)),`((by rw[lf];exact WcM e12 YeP)),`((ai Yrq (ai e12 (ai Yrq ab)))),`((a7 ic Yfs (aQ (aa Yda YdC)))),`(((fr.trans (Yi5)).trans fW.s)),`((!within rank 0 Vbnlad.RANKS)),`(⟨[YlM,v],[]⟩),`(λv r=>nomatch r),`(λv H2 s2 hv=>?_),`(zA2 s.heap l1 l2),`(tb.fits els.size),`(pfs.map Prod.fst),`(by decide+kernel),`(bx (ba (cV Yjc))),`(aV K H ra (aE t)),`(["self","place"]),`(X.env.scope.kind),`(X.Lv.heap.get? b),`(NT K A H G s c Q),`(List (YgK×Addr)),`(Binds K fd ps []),`(.lst [.ref pl.2]),`(.inl (Uw len r')),`((λq=>V.int YfW)),`((upd H1 t (Yje))),`((factOf n.facts)),`((aa (bG YnK) ah)),`((Wbu Ya8 hs rfl)),`((TP X pins σ Q)),`((.builtin "sum")),`(⟨Zaa,_,hN',Zae,aS sn hN⟩),`(⟨Zaa,_,hL2,Zae,aS sm hL⟩),`(upd H' R (.lst (acc++[Yhr]))),`(st.flags.map Vbnlad.Flag.key),`(s.heap.IsKeyIter it d i n ep),`(mg "MOST_UNKNOWN_FOR_SETTLE"),`(mg "MOST_FLAGS_OF_TWO_RULES"),`(jS s facts day rank l want q),`(cx A H' c len r' S' P' n' g'),`(cellsFrom Yht scope.names []),`(by rw[List.length_map];omega),`(ak (o:=NP P w sp S n) sm hsp),`(WaB (show Yds=some _ from x)),`(VbnladNeutral.shown (.row l)),`(V.int ((bm YeV Yn4:Nat):Int)),`(PassesOwn Yar X.A X.env X.xe)]
open Lean in
def dqT26:Array (MacroM Term):=#[`(List.drop_eq_getElem_cons hi),`(List (List Key×Addr×Value)),`((statusOf st p.1 view.toNat)),`((show 4000<=10000 by decide)),`((h pins s σ _ _ I1 (hw od))),`((aw (bw hu Yak YeQ Yal) rfl)),`((.BoolOp .And (b::rest) pos)),`(((mv2 p r' er).weak Yad Yad)),`((!(bg (xI fs) (Ycm)).isSome)),`(bh s t),`((p::r)),`((ia r)),`((YaR)),`(λt ht=>⟨t,Zaa,Zaq,ZaH⟩),`(mg "MOST_FLAGS_OF_EDITIONS"),`(ledger s2.heap X.env.locals),`(hb wh pins s1 σ H1 Q I1 q1),`(factOf p.1.facts flag.toNat),`(Str.join (sx []) (l.map sx)),`(List.getElem?_eq_getElem hj),`(.inl (.inr ⟨o,e _ _ h⟩)),`((λargs=>∃x y,args=[x,y])),`((if b=true then oo else jw)),`((!tE (nH .par) (P3.map nH))),`(tokens w),`(sorted l),`(some Yh5),`(p.1.rank),`(hfp b hb),`(dY H a s),`(dF u d r),`(d.weight),`(aL K C f),`(S.take i),`(S.length),`(BH f.ors),`(.since d),`(.int 1 v),`((st,Yc4)),`((s',Yc4)),`((nL s c)),`((WaC m2)),`(⟨_,YbA,Zag⟩),`(λH5 fr5 R5=>?_),`(xf (Yn8) (mA f)),`(st.rules.length),`(st.flags.length),`(some (lo,hi,r')),`(some (HO.tup _)),`(pl.map Prod.fst),`(max (YdF) (Ycj)),`(k b _ YcX Yc2 e),`(jW (key:=Yh9) h),`(hb (by simp[q])),`(h.mem_iff.mp hx),`([z,TI,TO,i1,i2]),`([.int x,.int y]),`(["self","rule"]),`(["self","rows"]),`(W YcG m' σ' H'),`(List (Nat×Yaw)),`(List (Nat×Nat))]
open Lean in
def dqT27:Array (MacroM Term):=#[`(ItemsOf P acc n),`(AllBare s'.gens),`(.lst (aE (YdV))),`(.int (a4 W:Nat)),`(.ins A.fO dx []),`(.inl (Uw len r)),`((st.2.state ?_)),`((by simp[conv])),`((binaryOp .Add)),`((aM YeR YaE az)),`((aM YeR YaD az)),`(upd H a o b),`(sm.trans s3),`(sm.trans s2),`(rs.drop YcG),`(rN G p x pa),`(nM ks d a b),`(left.length),`(its.toArray),`(flagText? t),`(first.toNat),`(distinct ks),`(dayNumber w),`(bA Ysx Pn S),`(aj (au Yba)),`(Wah _ (Yhe)),`(WaY (WbO _)),`(W YcG m' H'),`(Vbnlad.Flag),`(Option Addr),`(.inr h.symm),`(.inl h.symm),`((λo e=>?_)),`((λe10=>?_)),`((λ_=>none)),`((q1::p1::r)),`((ao e npa1)),`((ak YbG ht)),`((aa Yfs ah)),`((aa YeQ ah)),`(some none),`(sm _ _ ab),`(r2.length),`(pN f.ands),`(keyOk key),`(cp ks x w),`(chain s v),`(bh st p.2),`(ak Yay hD),`(aV.of hsp),`(Pn.length),`(PT X a tA),`(PE X o to),`(PE X i ty),`(I.list hq),`((k,false)),`((P1++[p])),`((.tup xs)),`(⟨ZaE,a,Zbv,hq,rfl,ZaM⟩),`(λfp H4 s4 nfp hfp hin=>?_),`(some (seqObj "list" out c)),`(some (.lst (ps.map V.ref)))]
open Lean in
def dqT28:Array (MacroM Term):=#[`(mg "MOST_UNKNOWN_FOR_SURE"),`(mg "MOST_RULES_OF_EDITION"),`(decide (ia r=p7∨ia r=gG)),`(decide (ia r=oo∨ia r=jw)),`(by show 2<=sizeLine;decide),`(bM (nx' nx nex) (bM ndx e)),`(X.env.scope.names.lookup y),`(Wab (Waj (wpAny_throw ?_))),`(V.int ((p.1.rank:Nat):Int)),`(RelV (.str "0123456789") u),`(Q (.str (Txt.join a ys)) H),`(List.replicate g.nots .not),`(List.replicate f.nots .not),`(IsZip s.heap z TI TO .none),`(.ins C s.heap.objs.size []),`((λp:Vbnlad.Name×NG=>YhZ)),`((letOwnedTupleGo tg Ydk u)),`((ho pins s1 σ H1 _ I1 q1)),`((he pins s1 σ H1 _ I1 q1)),`((hc pins s3 σ H3 _ I3 q3)),`((h1.extBut m1.extBut D.a1)),`((by rw[hj];simpa using ew)),`((aF (i:=7) nd rfl Yaf Ya3)),`((aF (i:=4) nd rfl Yaf Yfo)),`((aF (i:=1) nd rfl Yaf YeU)),`(some B0),`(p.1.day),`(kV kv.1),`(AI G.el),`(.refl _),`(.ref ra),`((a9 Pn)),`((n+1)),`((k+1)),`(⟨ZaJ,ho1,Zbw,ho1,Zad⟩),`(λrp R H4 s4 Zx hR pR=>?_),`(λp r' H' er ha fr R'=>?_),`(s.heap.IsListIter i1 l1 k),`(bx ⟨Yag,λq0 hq0=>?_⟩),`(bN.k (k:=Sum.inl ek) C.F6),`(WcZ (x.above y c (Wba h))),`(Vbnlad.step st (.core ek)),`(PySem.W.plainGet K C name),`(PySem.W.findIn K Ykd name),`(PySem.W.codeIn K cdv qual),`(Nat.lt_of_le_of_lt hl YeP),`(.lst ((Yo0).map λi=>YfZ)),`(.lst ((Yhq).map λi=>YfZ)),`((∀b o,Ya4=YaB->Yb9=YaB)),`((λv H2=>v=.fR/\Q Ypu H2)),`((by unfold dY;rw[ab];rfl)),`((by simp[valueAt,Wbj,e'])),`((by simp[take,qo,DEEP,h])),`((aF (i:=3) nd rfl Yaf gf)),`((aF (i:=3) nd rfl Yaf aq)),`((Ycj-HT.qf z.length 0 lo)),`((Nw KX ar ds _ hall p h2)),`((Aw key first last lo hi)),`(gH YeP),`(b9 0 c),`(X.mg x),`(Q v H')]
open Lean in
def dqT29:Array (MacroM Term):=#[`(Gl X x),`(.str a),`((pv 8)),`(⟨σ,H,I,h⟩),`(u.drop (Yaz-i)),`(some (.ref ea)),`(maskOf u f.key),`(flagsIn x.cond),`(factOf facts k),`(cells.lookup n),`(cG facts YwG w),`(aG K A H' G st),`(["step","day"]),`(["self","key"]),`(["code","day"]),`(X.env.kindOf x),`(SeqAt.shaped e),`(SeqAt.shaped d),`(SE (c.enc a.1)),`(PyData.eqv d e),`(PTs YaX ifs tt),`(G1 A D u H a x),`(False.elim hq'),`(F.map Prod.snd),`(.int (p.2:Nat)),`((λ_ _=>False)),`((ys.map V.str)),`((some (i:Int))),`((same_refl H8)),`((putK kvs k y)),`((.tup [YiM,x])),`((.ins C dx [])),`(("spread",YvZ)),`(⟨Zb0,ZbS,bC Yqs Ymr⟩),`(z.sameBut hs (cne y c e)),`(within hi 0 Vbnlad.RANKS),`(tE (nH .par) (P3.map nH)),`(some (.tup (p.1.map kV))),`(s.heap.Ns X.env.locals m),`(pure (ForInStep.yield r)),`(place Rule.key r s.rules),`(place Name.key n s.names),`(place Flag.key x s.flags),`(lastMarks [op,op'] [b,c]),`(k b _ (ao h n) YcX Yc2 h),`(hb pins s1 σ H1 Q I1 q1),`(h'.get? s.heap.objs.size),`(decide (V.str x=V.str y)),`(bC (λe7=>?_) (λe7=>?_)),`(available s f day rank l),`(aj (au (aQ (aa YlR ah)))),`(absurd (e1▸WaB eo) YrV),`(aU (Hj K rfl) YaS aq Yal),`(ZH params body scope x f),`(Wcn F.entry_list_iadd ?_),`(V.int ((a4 YeV:Nat):Int)),`(RelV (.int 1000000000) u),`(Inv (X.J5 E) pins σ H s),`(I2.unlock e (I.OZ hd mu)),`(ElemsOf (Ycw) els.toList),`(E.map Vbnlad.Edition.day),`(C.pn.map Vbnlad.Name.key)]
open Lean in
def dqT30:Array (MacroM Term):=#[`((∀xs,YcS->xs[i]? =YeH)),`((∀k,k∈ns↔S k=true)),`((λj=>S j||decide (j=i))),`((λi H' _ p=>p.2.seq hS)),`((λc v hc q=>k c v ?_ q)),`((ns.map λn=>sx [sgn n])),`((NU λi j=>.bl (p' i j))),`((.builtin "list.append")),`(((s2.trans t1).trans s3)),`((!(bg YiY (Yke)).isSome)),`((!(bg YfO (Ykn)).isSome)),`((!(bg YfO (Ykm)).isSome)),`((!(bg Yd9 (Ykn)).isSome)),`((!(bg Yd9 (Ykm)).isSome)),`((Ycx))]
open Lean in
def dqS0:Array (MacroM Term):=#[`(⟨_,rfl⟩),`(⟨aP (n:=20000) (by rw[aH,List.length_map,List.length_take];omega) YeP,?_⟩),`(⟨ZcG,t2 _ _ ho2,aY (m:=100) (by rw[List.length_append];show 1+_+_<=_;omega) YeP,λp2 hp2=>?_⟩),`(⟨(by show 5<1000;decide),?_⟩),`(⟨aP (n:=5000) ?_ YeP,?_⟩),`(⟨G.a,_,_,_⟩),`(⟨rfl,?_⟩),`(⟨rfl,I.turned (t':=s.toks) (λb o hb e=>eb b o hb e) f0 f1 f3 f4 f5⟩),`(⟨(by show 1<1000;decide),?_⟩),`(⟨(by show 0<1000;decide),?_⟩),`(⟨D,fl.map YtF,rfl,aV.of (by rw[hd,List.map_map];rfl),Yz4,λsp S n hsp h1 h2 h3 hms=>?_⟩),`(⟨rfl,hn,rfl⟩),`(⟨ZcG,t1 _ _ ho1',aY (m:=100) (by show 1+_<=_;omega) YeP,λp hp=>?_⟩),`(⟨c.r,_,_,_⟩),`(⟨(by show 2<1000;decide),?_⟩),`(⟨h1.symm,h2.symm⟩),`(⟨.inr (YhD),ZaI⟩),`(⟨C.obj,T.bc⟩),`(⟨(by show 3<1000;decide),?_⟩),`(⟨T.aI,T.cu,rfl,.inl ⟨Zcw,aV.of hs0⟩⟩),`(⟨λp hp=>Ykx,Yne⟩),`(⟨T.aR,T.bH,rfl,sa,_,_,_⟩),`(⟨rfl,I.turned (t':=s.toks) (λb ob hb e=>eb b ob hb e) f0 f1 f3 f4 f5⟩),`(⟨ZcG,hp8,aY (m:=5000000) (by rw[List.length_append,List.length_map,List.length_map];show res.length+1+_<=_;omega) YeP,?_⟩),`(⟨T.bb,T.bD,rfl⟩),`(⟨p.2.a,_,_,_⟩),`(⟨I.os,I.bare,I.base,I.loc,I.cell,I.free,I.tF⟩),`(⟨p,_,dx⟩),`(⟨I.ok,I.os,I.bare,⟨Ynn,Ynn,I.base.free,λb o e hx=>?_,I.base.Mh,I.base.Jl,I.base.Ml⟩⟩),`(⟨Zbr,rfl⟩),`(⟨Zaa,Zaa⟩),`(⟨rfl,Zaa⟩),`(⟨_,Zbr⟩),`(⟨Zaa,Yae⟩),`(⟨rfl,rfl⟩),`(⟨Zaa,Zan,Zaa⟩),`(⟨Zaa,c.r,Zbr⟩),`(⟨Zaf,Zaa⟩),`(⟨Zbr,Zag⟩),`(⟨Zaa,a,_⟩),`(⟨ZaB,Zaa⟩),`(⟨Zal,Zaa,na⟩),`(⟨bP _,YmJ,λt ht hl=>bW.mpr ⟨.inr ⟨r,rin,ht⟩,hl⟩,λd hd=>(bW.mp hd).2,lD,λp H3 s3 np hp=>?_⟩),`(⟨T.aI,T.cB,rfl⟩),`(⟨T.aI,T.bj,rfl⟩),`(⟨Zaa,bC (λq=>absurd (of_decide_eq_true q) Yad) Ymr⟩),`(⟨rfl,(jX (kf:=λn:Vbnlad.Name=>n.key) (vf:=λn=>V.int ((statusOf s n v:Nat):Int)) (cw o.nk) hn).symm⟩),`(⟨ZcH,YeA,hl,λn s' H' G' eg kp C' e=>⟨Yag,λl hl=>k.num eg ((YlQ).trans kp) C' e l hl⟩⟩),`(⟨st,x0,turns (L++R),YcM⟩),`(⟨rfl,Zcn⟩),`(⟨rfl,c,len⟩),`(⟨_,_,_,YaT⟩),`(⟨T.bX,T.cM,rfl,kl,ks.map YtF,rfl⟩),`(⟨Zar,T.bI,rfl,G.na,Zaa⟩),`(⟨rfl,eA.of ab,YaT,R.same sm,YaP,λH1 fr1 R1=>?_⟩),`(⟨sm _ _ ho,T.aR,T.iC,rfl,ra,st,r,wa,_,_,_,d,rfl,hr0.same hsm,hW.same hsm,λv H4 s4 hv=>?_⟩),`(⟨Zal,G,st,x,y,rfl,C,k⟩),`(⟨none,none,none,none,none⟩),`(⟨ab,λH5 h5 k5=>⟨Zag⟩⟩),`(⟨Zaa,.inl ⟨Zcw,aV.of hd3⟩⟩),`(⟨none,rfl⟩),`(⟨hU.symm,(YqQ) _ _ ha3,s5 _ _ h4,s5 _ _ hbd,YaP,λq H' s nq hq=>fin s nq hq⟩)]
open Lean in
def dqS1:Array (MacroM Term):=#[`(⟨C.d1,C.d2,C.d3,C.d4⟩),`(⟨_,λ_ _ h=>h⟩),`(⟨T.bb,T.cF,rfl⟩),`(⟨Zaa,q,_⟩),`(⟨Zaz,Zaa,N.obj,T.dW⟩),`(⟨rfl,λys hy=>by rw[I.oj hy hq];exact hx⟩),`(⟨Zaa,ZbS⟩),`(⟨_,ZaG⟩),`(⟨ZaE,na,ZaG,ZaP,ZaG⟩),`(⟨[_,_,_],rfl,⟨ZaG⟩⟩),`(⟨T.bb,T.b8,ZaF,bd,Zaa⟩),`(⟨ZaE,Zaa⟩),`(⟨ZaE,ZaO,ab⟩),`(⟨ZaE,ZaL⟩),`(⟨ZaJ,C.obj,T.aI,T.oR,ZaF,Zan,Zaa,C.obj,ZaR,c.tl,_,ZaD,aV.of h1,tL rfl h2,a,_,dx,_,Zaa,h3,T.wZ⟩),`(⟨Zaa,ZaL⟩),`(⟨Zaa,Yag⟩),`(⟨_,Zaa⟩),`(⟨ZaE,G,st⟩),`(⟨H,Yga,YeS,q⟩),`(⟨T.bc,T.bT,ZaF,G.ru,Zaa⟩),`(⟨_,ZaD⟩),`(⟨ZaR,ZaD,_,_⟩),`(⟨hrp,T.fG,T.cI,rfl⟩),`(⟨T.bT,rfl,G.ru,Zaa⟩),`(⟨Yp0,(by rw[nv];rfl)⟩),`(⟨(by show 4<1000;decide),?_⟩),`(⟨vs,SX (by rw[sT hall];exact WaF (Wek ds) z2),λu hu=>(h1 u hu).mono k⟩),`(⟨hq1,aY (m:=10000) (by rw[List.length_map];show 1+_<=_;omega) YeP,Yhp⟩),`(⟨Zaa,ZaO⟩),`(⟨G,s,na,ra,x0⟩),`(⟨hp,h2,h3,nbf,Ydx,YaT,λk hk=>(nomatch hk),λwa H3 s3 nwa hW=>?_⟩),`(⟨?_,?_⟩),`(⟨ZaN,ZaD,hq1,ZaF⟩),`(⟨YeS,Zaa,rfl,Wbp⟩),`(⟨T.bJ,rfl,G.ed⟩),`(⟨"str",_,F.plainAttrs_str,slot,ty,WeG _ _ _,(λ_ e=>nomatch e)⟩),`(⟨ZaI,((fr2.trans fW.p).trans fW.r).trans fW.r,R5.weak Yad Yad⟩),`(⟨rfl,ZaE⟩),`(⟨ZaK,ho,ZaY,r,S,Pn⟩),`(⟨ZaE,ZaO,hp⟩),`(⟨h.ok,h.sm,h.cl⟩),`(⟨Zaa,p,Zbh⟩),`(⟨_,_,_,_⟩),`(⟨ZaD,Zaa⟩),`(⟨Zaa,ra,Zbh,ho,T.fV⟩),`(⟨T.bI,ZaF,G.na,Zaa⟩),`(⟨res++((((Ybb).length:Nat):Int)::Ybb),cs',f,_,_,Zbh,by rw[eG];rfl⟩),`(⟨ZaJ,ho,T.aI,T.bj,ZaF,c.pl,Zbv,aV.of hp,(by rw[Wal];exact Qk _ _)⟩),`(⟨Zaa,sa,Zbh⟩),`(⟨Zbi,ZaP,ZaG,Zal,G,st,x,y,z,rfl,C⟩),`(⟨ZaF,Yae⟩),`(⟨Zaa,rp,Zbh,Zbx⟩),`(⟨ZaD,ZaH⟩),`(⟨hr,by rw[text_len];exact h2,C⟩),`(⟨Zbj,ab,λH6 h6 k6=>⟨Zag⟩⟩),`(⟨Zbd,ZaG⟩),`(⟨Zaa,ZaD⟩),`(⟨h1.at λo q=>k i1 Yao o q,h2.at λo q=>k i2 Yao o q⟩),`(⟨h1,h2⟩),`(⟨ZaJ,ho3,ZaS,c.pl,Zaa,.inl (aV.of hp3),rfl,Np _,Zaa⟩),`(⟨I1.laid (t':=Ym9) (λb u e=>Yhe) YcZ ?_,rfl,q _ hf⟩)]
open Lean in
def dqS2:Array (MacroM Term):=#[`(⟨Zaa,Zaz,Zaa⟩),`(⟨Zbl,a,x,dx,bd,u,st,p.1.facts,YCA,YAB,Yc8⟩),`(⟨ZcU,ZaF,rp,st,wa,_,_,_,rs,R,YCA,rfl,hrs⟩),`(⟨Zbn,Zar⟩),`(⟨ZaN,ZaG⟩),`(⟨C.pf,C.pr,C.pe⟩),`(⟨hk I Yao _ st.1,st.2.keep λo e=>hk a Yao o e⟩),`(⟨T.bX,T.fS,rfl,p.2.pa,Zaa⟩),`(⟨p.2.a,YfL,ZbR,YCA,rfl⟩),`(⟨h.ne1,h.ne2,h.ne3⟩),`(⟨ZaI,fW.refl c H,R⟩),`(⟨T.bU,ZaF,G.ft,Zaa⟩),`(⟨T.bJ,ZaF,G.ed,Zaa⟩),`(⟨Yap,YbX⟩),`(⟨na,ZaG,Zal⟩),`(⟨Zaa,x0,Zbr⟩),`(⟨Zbc,ZaD,Nd (W:=3) (V:=9) Yad Yad YeP YeP,?_⟩),`(⟨fp,Zaa,.inl (aV.of hfp)⟩),`(⟨Zaa,.inl (aV.of ha),ZbZ⟩),`(⟨by rw[WaS];exact h1,by simpa using va h2⟩),`(⟨Zaa,Zbr,Jc e'.2 ne Yad,by rw[hJ];omega,k⟩),`(⟨λo=>by rw[vY];exact C6.jh hR6 o,?_,YaP⟩),`(⟨rfl,_⟩),`(⟨ZaK,ho3,ZaY,r3,S3,P3,a9 P3,0,rfl,R3,ZaF⟩),`(⟨eA.of hst1,Xx y⟩),`(⟨ZaN,ZaD,hq,Xx x⟩),`(⟨Zaa,a,Zaa⟩),`(⟨p.2.fa,Zaa⟩),`(⟨Zaa,ea,Zbh⟩),`(⟨ZaA,I.pin,I.cg,I.len⟩),`(⟨⟨xs,xs[i],q,by simp[hlt]⟩,Pv YcG⟩),`(⟨ZaJ,ho1,ZaS,.inl ⟨Zcw,aV.of hp1⟩⟩),`(⟨rfl,ab⟩),`(⟨t,rfl⟩),`(⟨⟨YbA,x.keep λo e=>Yhe⟩,Yf1,Yf1⟩),`(⟨p,Zbh,sm _ _ hp9,Zav,Zaa,sm _ _ hs9⟩),`(⟨ZaF,p.2,Zbh,sm _ _ h1,T.bX,T.jM,ZaF⟩),`(⟨none,[],rfl⟩),`(⟨C1.obj,T.bc⟩),`(⟨ZbE,x1,x2,rfl,hn,C⟩),`(⟨T.Cs,T.lG,rfl⟩),`(⟨rfl,sl,rfl,⟨_,aV.of hsl⟩,YeD⟩),`(⟨ZbH,DG (by have:=ok.1;omega),ZaM⟩),`(⟨Zaa,.inl ⟨Zcw,aV.of hD'⟩,ZaE⟩),`(⟨ZaE,a,Zbh,ho,Zav,Zaa,hsa,Zbc,ZaD⟩),`(⟨T.l7,T.dZ⟩),`(⟨T.dW,T.iO⟩),`(⟨Zbl,G,st⟩),`(⟨Zaa,G,st⟩),`(⟨S,n,ZcG,λns' q h4 h5 h6 hq=>?_⟩),`(⟨.str _,H,I.tok k,⟨t',rfl⟩,h⟩),`(⟨T.bU,rfl,G.ft,Zaa⟩),`(⟨S1,P1,a9 P1,g,rfl⟩),`(⟨rfl,ZaF,?_⟩),`(⟨T.eI,rfl,t,G.fk,G.fl,st,rfl,hl⟩)]
open Lean in
def dqX0:Array (MacroM (TSyntax `tactic)):=#[`(tactic|(obtain⟨x0,r0,rfl,l0⟩:=cf lx;obtain⟨x1,r1,rfl,l1⟩:=cf l0)),`(tactic|(intro X hP hw hK hc i pins s σ H E I hf st hg;subst hP hw hK)),`(tactic|(intro G s na ra xs t c H Q lx hn hr hc ha C k)),`(tactic|(simp only[WaK,Wa0]at h;ext Xcy)),`(tactic|(ext Xcj;injection h with h1 h2)),`(tactic|(intro pins s σ H Q I h)),`(tactic|(refine qG st.1 st.2 rfl ?_;dsimp only;ext Xdo;unfold setNext;refine Wab YBg;dsimp only;refine Wab (Wab (WbT (Yph)));show Yi2;rw[Wae (by rw[hT];decide)];show wpAny _ _ (if(!tb.plain&&decide (els.size>1))=true then _ else _) _ _ s;rw[Wae (by rw[hD];decide)];show wpAny _ _ ((if(!tb.led&& !els.isEmpty)=true then unsupported "set:maker-not-led" else pure ())>>= λ_=>_) _ _ s;rw[Wae (by rw[ht.led];simp)];refine Wab (Waj (Yph)))),`(tactic|(show wpAny _ _ (field (.ref z) 2>>=_) _ _ _;refine Wab (Wc6 (x:=.bool false) hz rfl rfl ?_);show wpAny _ _ (field (.ref z) 3>>=_) _ _ _;refine Wab (Wc6 (x:=.ref TI) hz rfl rfl ?_);refine Wab (Wc7 hTI rfl ?_);refine Wab (show wpAny _ _ (Builtin.SmallTypes.ownedTupleIsFree (.ref z)) _ _ _ from ?_);unfold Builtin.SmallTypes.ownedTupleIsFree;refine Wab (Wc6 (x:=.none) hz rfl rfl (Yph));ext Xgm;refine Wab (WeD (Wab (Wc6 (x:=.ref TO) hz rfl rfl ?_))))),`(tactic|(dsimp only;refine wpAny_bind (wpAny_bind (wpAny_askSetting (wpAny_pure ?_)));show Yi2)),`(tactic|(rw[hq]at hq';injection hq' with hq';subst hq')),`(tactic|(rw[<-hlen];exact(Yly).1)),`(tactic|(obtain⟨x0,r0,rfl,l0⟩:=cf lx;obtain rfl:=len0 l0)),`(tactic|(refine Wab (wpAny_fieldsOf ho hd ?_);have hown:Builtin.Dict_items.ownsTuple "dict_keyiterator"=false:=YeP;simp only[hown,Wbo,Wca];show wpAny _ _ (if(Yvc==YnG)=true then _ else _) _ _ s;rw[Wae (show ¬((Yvc==YnG)=true)from WaN)];refine Wab (Yph);refine Wab (WeF hod hdd ?_);rw[Wae (by rw[hsz];simp)];refine Wab (Yph);refine Wab (wpAny_dictEpoch hod hdd ?_))),`(tactic|(injection hc with hc;subst hc)),`(tactic|(simp only[Vbnlad.step])),`(tactic|(obtain⟨t',rfl⟩:=ry)),`(tactic|(have hsr:R[j]? =some R[j]:=YAt;obtain⟨ra',hra',hrm⟩:=bV prs hsr;ext XfY;generalize R[j]=r at hsr hrm)),`(tactic|(obtain⟨t,rfl⟩:=rx)),`(tactic|(refine⟨kp.ins T.fJ C.obj,ai Yi7 C.Jd,ai Yi7 C.Em,ai Yi7 C.GN,ai Yi7 C.F6,ai Yi7 C.CI,Zcf,C.pn,λp hp=>kp.rule T (Yxe),Yne,Yh0,Zba,C.ok,YoW⟩;have N:=C.an q hq)),`(tactic|(obtain⟨ms,m1,m2,m3⟩:=hms;refine⟨sp,ZcX⟩;have en:=YjT;subst en)),`(tactic|(obtain⟨x2,r2,rfl,l2⟩:=cf l1;obtain rfl:=len0 l2)),`(tactic|(simp only[conv,reduceCtorEq,Wdq];ext Xgs)),`(tactic|(have I1:Inv X pins σ H {s with heap:=h'}:=I.turned (t':=s.toks) (λb ob hb e=>(sb.2 b hb).trans e) f0 f1 f3 f4 f5;obtain⟨oi,e,c,dd⟩:=id st')),`(tactic|(rw[e1]at e2;cases e2)),`(tactic|(exact congrArg Ylk (dv _ _))),`(tactic|(intro pins s σ H x y v u Q I rx ry h)),`(tactic|(ext Xdo;simp only[newExc,newTuple];refine Wab (WbJ ?_ (by size_fits));refine Wab (m:=firstArgMember _ _) (wpAny_of_eq (a:=YnG) (by first|rfl|(simp only[firstArgMember];rfl)) ?_);refine WbJ ?_ (by size_fits);simp only[raiseNew];refine Wab (wpAny_handled ?_))),`(tactic|(ext Xgx;generalize h k=b;ext Xgo)),`(tactic|(subst ex;obtain rfl:u=Yob:=rx)),`(tactic|(obtain⟨hs,hgd,hx,es',ep',vs,hdt,hsz,kv,hm⟩:=I.U3 hd;obtain⟨rfl,rfl⟩:=As hod hdt)),`(tactic|(exact absurd h YwV)),`(tactic|(have e4:nameOf st name=Yxn:=find_key (key:=YkS) Yo3 mp kp)),`(tactic|(obtain⟨q,hq,rfl⟩:=bE hx)),`(tactic|(subst ey;cases(show u=Value.ref b from ry);obtain⟨z,hd,xs,rel,dd⟩:=Jt I.cg e)),`(tactic|(refine⟨?_,by intro q;cases q⟩)),`(tactic|(intro pins s σ H D I h)),`(tactic|(have hu:=eZ hr)),`(tactic|(replace z1:IsZip q1 z TI TO .ellipsis:=z1;ext Xdo;simp only[List.zipIdx_cons,List.zipIdx_nil,Wev,WdV];refine Wab (Wab (Wel (show wpAny _ _ (Builtin.SmallTypes.nextOf (.ref i1)>>=_) _ _ _ from ?_))))),`(tactic|(have z2:WData.weightAll ds<=1048576:=z;obtain⟨A,h1,h2⟩:=Eg ds _ hall p λd hd=>WaF (Bt hd) z2;have k:∀b∈A,b∈a::A:=λb hb=>Waq _ hb;refine⟨a::A,Wai ..,Yf1⟩;rcases Wav.mp hb with e|m)),`(tactic|(intro pins s σ H xs us Q I r h)),`(tactic|(have e:sorted (a::r)=if(sorted r).contains a=true then sorted r else place id a (sorted r):=rfl;rw[e])),`(tactic|(rw[show its.toArray.any (RO x)=its.any (RO x)by simp,Eh r fs];exact q)),`(tactic|(refine Nat.le_of_not_lt λq=>?_;have h4:=iL h1 h2 (by rw[List.length_map,List.length_map];have:=C.ok.fn;omega);have h5:=h4.length_eq;rw[List.length_map,List.length_map]at h5;have:=C.ok.fn;omega)),`(tactic|(obtain⟨t,rfl⟩:=r)),`(tactic|(obtain⟨z,hz,rfl⟩:=bE hx)),`(tactic|(constructor)),`(tactic|(rcases jV C name with⟨p,hp,e1,e2,e3⟩|⟨e1,h⟩)),`(tactic|(rw[show gu f v ((k,x)::r)=(if k=f then(k,v)::r else(k,x)::gu f v r)from rfl];by_cases hk:k=f)),`(tactic|(intro pins s σ H vs us Q I r h)),`(tactic|(decide+kernel)),`(tactic|(obtain⟨G,st,na,ra,x,y,rfl,hn,C,k⟩:=h)),`(tactic|(have h1:=mB (day:=day) (rank:=rank) a λk hk=>h k (Wac.mpr (.inl hk));have h2:=mB (day:=day) (rank:=rank) b λk hk=>h k (Wac.mpr (.inr hk));simp only[value];revert h1 h2)),`(tactic|(rw[List.length_take]at this)),`(tactic|(rw[hd]at h;simp only[Wbb,WaK,Wa0]at h;ext Xcy)),`(tactic|(obtain⟨pre,ss,C,b1,b2⟩:=h.ex)),`(tactic|(have e4:nameOf st name=none:=jW (key:=YkS) h)),`(tactic|(rintro i H' hi ⟨hD',sm⟩ x H'' ⟨rfl,kk,hk⟩;obtain⟨p,hp,rfl,_⟩:=Aq hk;obtain⟨dx,kl,ks,h1,h2,h3⟩:=kp.ed T (C.ae p (List.mem_of_getElem? hp)))),`(tactic|(rcases g with⟨kvs,k,e,ey,l⟩|⟨kvs,k,b,e,ey,eb,l⟩)),`(tactic|(have:=hL.length;rw[hc]at this;exact absurd (by rw[List.length_map,this];rfl) e2)),`(tactic|(have e2:(lit "(").length=1:=YeP;have e3:(lit ")").length=1:=YeP;ext Xdz;unfold bracket;ext Xfw)),`(tactic|(subst e;obtain⟨oi,e,c,dd⟩:=st;exact⟨oi,e,λv z=>by rw[dd]at z;cases z⟩)),`(tactic|(rw[ab,take_snoc hz,List.map_append]))]
open Lean in
def dqX1:Array (MacroM (TSyntax `tactic)):=#[`(tactic|(obtain⟨c,len,r,S,Pn,n,g,rfl,R,k⟩:=h;obtain⟨pre,ss,C,_,_⟩:=R.ex;obtain⟨M,eM⟩:=OG len r;rw[eM]at C;obtain⟨as,a,dx,h1,h2,h3⟩:=C.now)),`(tactic|(simpa using this)),`(tactic|(rw[cA,Wa1,Wa1,Fm hB a ok.1 YxV st,Fm hB b ok.2 YxW];simp only[WaZ,Wbr,eV,nL,value])),`(tactic|(have I1:Inv X pins σ H {s with heap:=h'}:=I.turned (t':=s.toks) YvM f0 f1 f3 f4 f5;obtain⟨o,e,c,d⟩:=id st')),`(tactic|(unfold aE;rw[List.map_append])),`(tactic|(simp only[take]at h)),`(tactic|(obtain rfl:=len0 l1)),`(tactic|(have eH':=eH.symm;subst eH';subst ex;obtain⟨n,hn,rfl,rfl⟩:=Aq hkx;have nm:=Yqp;rw[take_snoc hn,kN,List.map_append])),`(tactic|(obtain⟨σ',H',I2,e,q⟩:=q;exact⟨σ',_,YD6,q⟩)),`(tactic|(simp only[Wav,Wbt,WcJ]at hb;rcases hb with rfl|rfl)),`(tactic|(rcases List.mem_append.mp h1 with h1|h1)),`(tactic|(intro pins s σ H R I h)),`(tactic|(obtain⟨n1,n2,n3,n4,n5,n6,n7,n8,n9,n10⟩:=C.nes)),`(tactic|(refine dq YrJ λiv s1 ⟨y,H1,I1,ry,q1⟩=>dq YCr λu s2 ⟨x,H2,I2,rx,a,ov,ex,g,q2⟩=>?_)),`(tactic|(obtain⟨_,_,_,_,o,_,_,e,_⟩:=x)),`(tactic|(simp only[Option.some.injEq,Prod.mk.injEq]at h;ext Xcy)),`(tactic|(have I2:Inv X pins σ H1 {s1 with heap:=h'}:=I1.kept (t':=Ym9) hk)),`(tactic|(obtain⟨⟨k,v⟩,hkv⟩:∃p,kvs[i]? =some p:=⟨kvs[i],Wam hi⟩)),`(tactic|(obtain⟨z,hd,vs,rel,dd⟩:=Ba I.cg e)),`(tactic|(obtain⟨_,_,_,_,_,_,_,_,_,hb,_,hn,_⟩:=x;have:scanBound=4096:=rfl)),`(tactic|(obtain⟨f0,f1,f2,f3,f4,f5⟩:=hf it Yao)),`(tactic|(refine qG st.1 st.2 rfl ?_;dsimp only;refine wpAny_bind ?_;unfold setNext setWalk;refine wpAny_bind YBg;ext Xai;rw[if_pos hT,if_neg Yao];refine wpAny_bind (wpAny_bind YBg);ext Xai;rw[if_pos hT];refine wpAny_bind (wpAny_askSetting (wpAny_pure (wpAny_pure ?_))))),`(tactic|(refine Yn0;refine k l _ G st (YyZ) rfl (Kp.same YqY) (C.same YqY) hl ab ?_)),`(tactic|(rw[List.dropLast_concat];have hd3:=ab (H:=upd H1 D (.lst (vs'++[v2]))) (a:=D) (o:=.lst vs');refine⟨Zaa,v2,v1,p1,q1,rfl,(hv2.upd hd).upd hd2,(hv1.upd hd).upd hd2,Yzy⟩;have hd4:=s2 _ _ hd3)),`(tactic|(refine k l _ G st (Ys0) rfl (Kp.same YqY) (C.same YqY) hl ab ?_;ext Xao)),`(tactic|(unfold newFields;refine Wab (WbJ (Waj ⟨Zaa,"set_iterator",_,Ysz,Ad.lookup,?_⟩)))),`(tactic|(rw[vY];have hp8:upd H6 R (.lst (res.map V.int++[.int ((((Ybb).map V.int).length:Nat):Int)])) p=Yzd:=ai npR hp;refine⟨Zaa,Yex,Zaa,R,p,Zbr,Zax⟩;rw[vY])),`(tactic|(ext XeO;rw[List.length_map,hL.length]at e2;exact List.length_eq_zero_iff.mp Yad)),`(tactic|(have sm0:aN H (upd H D YEo):=YBW;refine⟨Zaa,a,rfl,⟨_,aV.of (sm0 _ _ ha)⟩,?_⟩)),`(tactic|(have hs:(cA c)[i]? =some (cA c)[i]:=List.getElem?_eq_getElem hi';obtain⟨q',hq',hst⟩:=bV hss hs;ext Xaj;generalize (cA c)[i]=y at hs hst;have hst1:dY H' q y:=hst.same sm)),`(tactic|(have hs:(YbB)[i]? =some (YbB)[i]:=Ya7;obtain⟨q',hq',he⟩:=bV hL2 hs;ext Xaj;generalize (bK p.1.day (chain st view))[i]=e at hs he;have hem:e∈st.editions:=vI (wD (Ydh)))),`(tactic|(have b:=N0 (s:=s) (facts:=facts) (day:=day) (rank:=rank) (l:=l) w;unfold dE at a ⊢;revert a b;rcases available s (YDk) day rank l with _|_|_<;>simp)),`(tactic|(have s10:=ak (o:=Ycx) s9 ht2;obtain⟨d2,e2,r1,r2,r3,r4,r5⟩:=cmp (s10 _ _ ho2) ab;refine⟨d2,e2,r1,r2,r3,r4,Zaa,?_⟩;rw[r5];refine bC Yyr Yyr)),`(tactic|(cases x;exact⟨[],Wbp,λa m=>absurd m Yao⟩)),`(tactic|(ext Xa3;refine Yn0;exact k l _ G st (Ys0) rfl (Kp.same YqY) (C.same YqY) hl ab (by simp only[Vbnlad.step,e4]))),`(tactic|(refine qG st.1 st.2.1 rfl ?_;dsimp only;show wpAny _ _ (seqItems? (.ref T)>>=_) _ _ s;unfold seqItems?;refine Wab (Wab (WeE st.2.2 YcW));dsimp only)),`(tactic|(rw[hans,PyFlat.played,qe];show res++((((Ybb).length:Nat):Int)::Ybb++PyFlat.told (PyFlat.played VbnladNeutral.step s' cs'))=_;rw[List.append_assoc])),`(tactic|(obtain⟨j,h1,h2,h3,h4,h5⟩:=NN he;obtain⟨w,ew,rw'⟩:=r.get h2;have hl:=YcN;have hn:=IX;have fin:EP X pins σ Q w s:=⟨z,H,I,rw',q⟩)),`(tactic|(have lans:=Ts C5 vc;rw[est]at lans;dsimp only at lans;refine⟨hR6,?_⟩;have hp7:upd H6 R Yek p=Yzd:=ai npR hp)),`(tactic|(ext Xaf;refine PySem.W.methodCall_KW (pl:=pl) (dq Yca λu s1 ⟨x,H1,I1,rx,a,dx,fs,ex,ea,l,q⟩=>?_) ht;ext XaC;refine Jh I1 ea c hm l ?_)),`(tactic|(have ha:∀r∈a,∀x∈Ya2,x∈ks:=λr hr=>h r (Wac.mpr (.inl hr));have hb:∀r∈b,∀x∈Ya2,x∈ks:=λr hr=>h r (Wac.mpr (.inr hr)))),`(tactic|(have lt:i+1+j<Yby:=(by have:=Waf e2;rw[hJ]at this;omega);obtain⟨d,hd⟩:∃d,t[i+1+j]? =some d:=⟨t[i+1+j],by simp[lt]⟩)),`(tactic|(ext Xan;exact⟨ZbE,rfl,hn,C,k.toQ⟩)),`(tactic|(refine⟨?_,by intro _;rfl⟩;rw[oq])),`(tactic|(obtain⟨its,rv,p,hz⟩:=YB2;obtain⟨u,hu,ru⟩:=rv.get hx)),`(tactic|(ext XfL;obtain⟨p,xs,i,z,rfl,rfl,hq,he,q⟩:=h;cases rx;obtain⟨t,rfl⟩:=ry)),`(tactic|(ext Xaa;obtain⟨x2,r2,rfl,l2⟩:=cf l1;obtain⟨x3,r3,rfl,l3⟩:=cf l2;obtain⟨x4,r4,rfl,l4⟩:=cf l3;obtain rfl:=len0 l4)),`(tactic|(rw[List.reverse_cons,List.reverse_cons]at hp;obtain⟨vs1,v1,rfl,hp1,hv1⟩:=cq hp;obtain⟨vs',v2,rfl,hp2,hv2⟩:=cq hp1)),`(tactic|(rw[List.length_map]at this)),`(tactic|(have e:=jX (kf:=λx:Vbnlad.Flag=>x.key) (vf:=λx=>tx x.text) C.ZA Ysu;unfold DL at g;rw[e]at g;exact g)),`(tactic|(rw[value,value,kG hd a λt ht=>h t (List.mem_append.mpr (.inl ht)),kG hd b λt ht=>h t (List.mem_append.mpr (.inr ht))])),`(tactic|(obtain⟨fc,spc,hfc,hcal,hU⟩:=Tj (P:=P) (w:=w) (base:=base) T hi17;obtain⟨kk,fd,ps,hk10,hF,hkeep,hbind⟩:=hcal.ex)),`(tactic|(have I1:Inv X pins σ H {s with heap:=h',toks:=tk}:=I.turned (λb o hb e=>kk b o YuX e) f0 f1 f3 f4 f5)),`(tactic|(unfold putRule;rw[if_neg i1,if_neg i2,if_neg i3,if_neg i4,erd])),`(tactic|(ext Xab;obtain⟨hd,hi⟩:=hg)),`(tactic|(exact(show False from r).elim)),`(tactic|(simp only[Vbnlad.step,b2])),`(tactic|(rw[Nat.add_sub_cancel,hz]at e0;injection e0 with e0;subst e0)),`(tactic|(rw[List.map_id'];exact(YuP).nodup_iff.mpr nu)),`(tactic|(rw[List.mem_singleton.mp hx])),`(tactic|(rcases h with(h|⟨o,h⟩)|h)),`(tactic|(obtain⟨i3,ho3,_⟩:=R3.obj))]
open Lean in
def dqX2:Array (MacroM (TSyntax `tactic)):=#[`(tactic|(obtain⟨f',f1,_⟩:=(C.an p hp).Vy;obtain⟨l',l1,_⟩:=(C.an p hp).UA;exact⟨WaC (ao f1 nb),WaC (ao l1 nb)⟩)),`(tactic|(rcases WcY j ((Ych).takeWhile Vbnlad.small).length with q|q)),`(tactic|(rcases WcY j ((Ych).takeWhile Vbnlad.digit).length with q|q)),`(tactic|(rw[Vals.GB r];obtain⟨z,lo,vs,rel,dd⟩:=Ba I.cg ha;obtain⟨ep,at_⟩:=dd.dictAt;have hl:YbM=Yd7:=rel.length)),`(tactic|(rw[take_snoc hsr];exact Paired.snoc (Paired.gE pp λ_ _ z=>⟨z.1,ai z.1 (s3 _ _ z.2)⟩) ⟨nN,ai nN hp⟩)),`(tactic|(refine k q2 _ G st (.text (YC7)) rfl (Kp.same (ak t2 hq2)) (C.same (ak t2 hq2)) (same_none t2 hq2) ?_ ?_)),`(tactic|(rcases Wac.mp hp with hp|hp)),`(tactic|(refine⟨Zaa,p,o2,Zbr,Zac⟩;exact Ybm)),`(tactic|(obtain⟨o',e1⟩:=I.base.there b o e hx)),`(tactic|(injection h with h)),`(tactic|(have e2:(!(Ybd).isSome)=false:=e;ext Xax)),`(tactic|(exact⟨Zaa,k⟩)),`(tactic|(obtain⟨y,hy,rfl⟩:=WaD.mp h;have:=iK n r y hy;exact⟨by simpa[xJ]using this.1,by simp[xJ,this.2]⟩)),`(tactic|(have e2:(!(Ybd).isSome)=true:=e;ext Xax)),`(tactic|(refine⟨Zaa,rfl,YcB⟩;rw[take_snoc hL,List.mem_append,List.mem_singleton]at hp;rcases hp with hp|rfl)),`(tactic|(simp only[Wco,hx];by_cases hc:(k₀==YqD&&sc.kind== .function&&YpN==Yeb)=true)),`(tactic|(ext XaW;obtain⟨a,bs,rfl,hs,q⟩:=h;ext Xgg;have hb:=rv.bls)),`(tactic|(simp only[WbN,WaK]at e;subst e)),`(tactic|(ext Xe4;obtain⟨v,h1,a,h2,h3⟩:=this;refine⟨v,h1,a,h2,?_⟩;rcases h3 with(h|⟨q,h⟩)|h)),`(tactic|(rintro m σ H' ⟨S',Pm,rfl,rfl,fr,R',ec⟩;obtain⟨i,ho,_⟩:=R'.obj;obtain⟨hp,_,_⟩:=R'.pend)),`(tactic|(refine Wcn F.entry_set_update_loop ?_;rw[Wb6 Weg _];show wpAny _ A.in1 (pyNext (.ref I)>>=_) _ _ s)),`(tactic|(rw[List.drop_eq_getElem_cons hi];rw[List.getElem?_eq_getElem hi]at hs;injection hs with hs;rw[hs])),`(tactic|(refine⟨dd.typeIs,λb q=>?_,hd⟩;cases q;obtain⟨ob,_,_,h1,h2,_⟩:=dd;exact⟨ob,h1,h2.2.1⟩)),`(tactic|(rcases a with _|_|_<;>rfl)),`(tactic|(obtain⟨rfl,rfl⟩:=h)),`(tactic|(obtain⟨i,ho,_⟩:=R.obj)),`(tactic|(obtain⟨dx,sl,kl,c,h1,h2,h3,h4⟩:=h)),`(tactic|(ext Xaa;ext Xbg)),`(tactic|(obtain⟨σ3,H3,I3,n3⟩:=q3;obtain⟨m',hm,w3⟩:=hN σ3 H3 n3;exact⟨m',hm,σ3,H3,I3,w3⟩)),`(tactic|(obtain⟨σ',H',I,q⟩:=h;exact⟨σ',H',I.x9,q⟩)),`(tactic|(obtain⟨x,e⟩:=Fn W B fv d a st;obtain⟨y,e2⟩:=Fn W B fv d b (x::st);rw[cA,Wa1,Wa1,e,e2])),`(tactic|(refine⟨λi m H=>m=n-i/\i<=n/\Pv i H,⟨n,Ydx,WaL _,h0⟩,?_⟩;rintro i m H ⟨rfl,hi,p⟩)),`(tactic|(intro p H6 G' s' ans eG kp6 C6 np hp est;have hR6:H6 R=some (.jh od Yek):=kp6 R _ YcX Yc2 ab)),`(tactic|(simpa using hb)),`(tactic|(obtain⟨z,its,n,r,hl,e⟩:=I.UO hH)),`(tactic|(obtain⟨p,dx,args,rfl,⟨x,y,z,rfl⟩,hp,k⟩:=h)),`(tactic|(obtain⟨i2,ho2,_⟩:=R2.obj)),`(tactic|(obtain⟨i1,ho1,_⟩:=R1.obj)),`(tactic|(ext XaI;simp only[cb,e,WbG,WbW,WaQ])),`(tactic|(rw[value,value,kH a λt ht=>h t (Wac.mpr (.inl ht)),kH b λt ht=>h t (Wac.mpr (.inr ht))])),`(tactic|(refine wu ?_;intro i' t' r' e q;injection e with e1 e2;injection e1 with e3 e4;rw[q]at e4)),`(tactic|(rw[cA,List.mem_append,List.mem_append,List.mem_singleton]at hx;rcases hx with(hx|hx)|rfl)),`(tactic|(rcases jV C name with h|⟨e1,h⟩)),`(tactic|(obtain⟨v,vs,rfl,x1,x2⟩:=Lb x;have q:SE d=true/\GD ds=true:=Bool.and_eq_true_iff.mp p)),`(tactic|(rw[List.length_map,hlr]at mem hl;rw[List.take_length]at mem;refine⟨Zaa,Zak⟩;ext Xat)),`(tactic|(refine Yqv;have s0:=ak (o:=Ycx) Yay hD)),`(tactic|(refine(I.cg b u e).xV YEe (λ_ q=>q) λ_ _ q=>q;rcases hc with z|z)),`(tactic|(rw[take_snoc hs];simp only[List.foldl_append,List.foldl_cons,List.foldl_nil];exact hv3)),`(tactic|(ext XbV;ext Xes;have hd2:=ab (H:=H1) (a:=D) (o:=.lst (vs'++[v2]));refine⟨Zaa,Yed,Zaa,Yed,D,ZaD,hd2,qp _ _,?_⟩;ext Xbx;refine⟨D,ZaD,hd4,Yr5,?_⟩;refine⟨ZbR,vs'++[v],rfl,aS ((aS (aS sm hD) hD).trans s2) hD,ab,?_,hg2,Yg3⟩)),`(tactic|(refine⟨Zbb,ZaJ,ho,T.aI,T.cu,rfl,YgF,ZaJ,ho,ZaS,.inl ⟨Zcw,aV.of h1⟩,c.pl,ZaD,h1,h3,Yag,?_⟩;rw[h2];intro t ht;obtain⟨ss,h6,h7,R2,fr2⟩:=h5 t ht;refine⟨c.sl,ZaD,h6,h7,?_⟩)),`(tactic|(subst e2;refine⟨ZbR,ZaG,Walks.list (A:=X.A.in1) Yb4 _ a hne its.toArray,st,FI hb,λh' tk hk=>?_⟩;refine⟨.bl _,H,I.kept λb o eo=>hk b o (λhmem=>?_) (Wah _ eo),?_,q⟩)),`(tactic|(refine⟨ZaE,Zce,Za3⟩;obtain⟨t,rfl,hq⟩:=hv;refine⟨t,_,ZaD,hq,Zag⟩;have h4:H4 row=YxL:=s4 _ _ hrow3;refine YwH;refine YiH)),`(tactic|(refine bx (ba (cV Yn3)))),`(tactic|(ext XcL;obtain⟨hp1,hl1,_⟩:=R1.pend;refine⟨ZcF,Zaa,c.pl,ZaD,hp1,hl1,?_⟩)),`(tactic|(have g:=bN.k (k:=YyU) C1.CI;rw[vp]at g;refine bx (ba ⟨Zaa,ZaL,ZcM,ZbU,g,?_⟩))),`(tactic|(ext Xb2;ext Xbu;obtain⟨hs,hgd,hx,es',ep',hdt,hsz,ent⟩:=I.aaz hd;obtain⟨rfl,rfl⟩:=As hod hdt)),`(tactic|(ext XbM;refine⟨Zaa,Yex,Zaa,p,Zaa,.inl (aV.of hp7),R,ZaD,ab,aP (n:=5000000) YaI YeP,?_⟩;ext XbA)),`(tactic|(ext Xb2;ext Xbu;ext XaD;ext Xbr;obtain⟨u,hu,ru⟩:=WT kv hkv;have hl:YbM=Yd7:=Wcs kv;rw[hl]at st)),`(tactic|(subst this;refine Yfg;rw[WcQ];exact k)),`(tactic|(refine⟨Zaa,a,rfl,⟨_,aV.of (s0 _ _ hrs)⟩,?_⟩;have hlr:Yw1=YgR:=prs.length)),`(tactic|(obtain⟨xs,hq,hx⟩:=hg;obtain⟨its,rv,p,hz⟩:=YB2;ext Xbu;have hl:=rv.length)),`(tactic|(simp only[aJ,missing,WbI,WcX]at h))]
open Lean in
def dqX3:Array (MacroM (TSyntax `tactic)):=#[`(tactic|(rw[List.mem_singleton.mp h1]at h2)),`(tactic|(rw[List.length_map,hlen,List.take_length]at hp)),`(tactic|(have s2:aN H' H2:=made nx ndx k2;refine⟨D,ZaD,Yye,aP (n:=4096) YaI YeP,?_⟩)),`(tactic|(simpa using e1)),`(tactic|(unfold within at ok3;rw[Bool.and_eq_true,decide_eq_true_eq,decide_eq_true_eq]at ok3)),`(tactic|(ext Xcj;simp only[Wa0]at h;obtain⟨_,_,rfl⟩:=h;simp only[List.length_tail];omega)),`(tactic|(rw[WdR (WaC hj)]at e2;obtain⟨u',r',q⟩:=hl j y v' e1 e2 e3;refine⟨u',r',?_⟩)),`(tactic|(obtain⟨o,es,ep,ho,r⟩:=hm;exact⟨o,es,ep,k _ o (λz=>(hf _ z).2.1 rfl) ho,r⟩)),`(tactic|(rw[Wap Yep];refine⟨ZaM⟩;simpa[h1]using k)),`(tactic|(obtain⟨sl,e1⟩:=I.base.slot b o e n hb hx)),`(tactic|(unfold ruleValue speaks;rw[if_neg];simp only[Bool.and_eq_true,decide_eq_true_eq])),`(tactic|(unfold VbnladNeutral.shown VbnladNeutral.counted VbnladNeutral.ints aE;simp[Wax])),`(tactic|(rw[List.map_map])),`(tactic|(refine⟨ZaE,Ybv,λl hnl=>λx dx nx ndx nex=>?_⟩;have s1:=ak (o:=Ycx) Yay hnl)),`(tactic|(refine Wab ?_)),`(tactic|(have h1:=df (n:=a) (by have:=h.1;omega);have h2:=df (n:=b) (by have:=h.2;omega))),`(tactic|(simp only[cA,b9,Wad,Wa5];unfold Vbnlad.bracket;ext Xfw)),`(tactic|(obtain⟨ss,hs,hl,hst⟩:=(R.same sm3).step Yad;refine⟨c.sl,ZaD,hs,hl,?_⟩)),`(tactic|(obtain⟨G,st,na,ra,x,y,z,rfl,hn,C,k⟩:=h)),`(tactic|(have s13:=s12.trans s3;have C3:=C.same s13)),`(tactic|(exact⟨o,e,λv z=>by rw[d]at z;cases z⟩)),`(tactic|(rw[ln,List.take_length]at hL2;refine⟨YBP,?_⟩;have s3:=unlock hD sm)),`(tactic|(have hk:k∉r:=(List.nodup_cons.mp nd).1;unfold qK;rw[List.map_cons];congr 1)),`(tactic|(unfold readCond;rw[er];dsimp only;rw[ekn])),`(tactic|(simp only[sliceBounds,HT.qf,Weh,show(1:Int)>0 by decide,WbG];by_cases h:i<0)),`(tactic|(simp only[b9,cA,Wad,Wa5])),`(tactic|(ext XaN;obtain⟨p,ys,rfl,hq,q⟩:=h;obtain⟨u,rfl,rx⟩:=vals1 r;cases rx)),`(tactic|(rcases mem hq with rfl|⟨hq,nq⟩<;>rcases mem hq2 with rfl|⟨hq2,nq2⟩)),`(tactic|(obtain⟨a,S,n,rfl,ha,q⟩:=h;rw[Vals.GB r];obtain⟨x,_,_⟩:=I.cg a _ ha)),`(tactic|(unfold collect;refine Wab (wpAny_runValue (Wcn F.entry_proto_collect ?_)))),`(tactic|(simp only[WbD]at h;split at h)),`(tactic|(rw[hd]at h;cases h)),`(tactic|(rw[List.length_append,List.length_cons];rw[List.length_cons]at hlen;omega)),`(tactic|(rintro⟨x,hx,e⟩)),`(tactic|(rintro i x H' hx ⟨hD',sm⟩)),`(tactic|(obtain⟨ra,hra,rfl⟩:=bE hx)),`(tactic|(unfold VbnladNeutral.shown VbnladNeutral.counted VbnladNeutral.ints;simp)),`(tactic|(rcases e3 with e3|e3)),`(tactic|(obtain⟨its,rv,p,_⟩:=I.list hqx;obtain⟨its2,rv2,p2,_⟩:=I.list hqy)),`(tactic|(ext Xaz;obtain⟨p,xs,rfl,hq,fx,fs,q⟩:=h;cases ry;rcases hq with hq|hq)),`(tactic|(dsimp only;rw[show(model prog w).w.params.setOrder a ep=YhN from rfl,e1])),`(tactic|(obtain⟨c',h1,h2⟩:=VQ q;rw[rd,hd]at h1;cases h1;rw[h2]at e3;cases e3)),`(tactic|(intro pins s σ H x vs v us Q I rx rv h)),`(tactic|(refine Yu6;rw[if_neg e5,List.map_nil,List.append_nil];exact hL2)),`(tactic|(refine Hx (by exact hh) λh2 k2=>hQ h2 s.toks λb o hb e=>k2 b o (Yg0))),`(tactic|(injection e11 with e11;omega)),`(tactic|(have:x≠k:=λe=>hk (e▸hx))),`(tactic|(rintro i x H' hx ⟨ps,hN',sm,lp,pp⟩;obtain⟨ra',hra,rfl⟩:=bE hx)),`(tactic|(refine⟨G.ed,_,C.F6,YgB,λod=>?_⟩;have kp:Kp A H Yg1:=Kp.dict C.F6)),`(tactic|(rcases of_decide_eq_true e1 with e2|e2)),`(tactic|(rcases a with _|_|_<;>rcases b with _|_|_<;>rcases c with _|_|_<;>rfl)),`(tactic|(have eH':=eH.symm;subst eH';subst ex;obtain⟨z,hz,rfl,rfl⟩:=Aq hkx)),`(tactic|(have e:(YqS).length=5:=YeP;have e2:(lit " to ").length=4:=YeP)),`(tactic|(have S4:aN H3 H4:=λb o z=>fr b o (ao z nf1W) (ao z nf2W) (S36 b o z))),`(tactic|(ext Xaf;refine Wcf (Hh I hg hm ?_ hdb))),`(tactic|(refine⟨⟨o,e,ex.1⟩,λa e2=>?_⟩;cases e2;exact⟨o,e,ex.2.1⟩)),`(tactic|(refine⟨Za7,ZaE,Yfa⟩;have s5:=made nz ndz k4;have hd4:=s5 _ _ hd3)),`(tactic|(have hb':b≠I:=λq=>YA1;exact k2 b o hb' (k1 b o hb' e))),`(tactic|(have s4:=ak (o:=Ycx) (s1.trans s3) hl4;refine λy dy ny ndy ney=>⟨y,dy,Zbj,Za6⟩;have s5:=made ny ndy k5)),`(tactic|(rw[ab,List.map_append];rfl)),`(tactic|(refine⟨Zbg,bC Yhj (λe=>absurd b1 (Wag e))⟩;refine⟨Zbq,YmG⟩;ext Xb4)),`(tactic|(subst etk;refine YCI;have R2:=mv1 _ r' rfl;ext XcK))]
open Lean in
def dqX4:Array (MacroM (TSyntax `tactic)):=#[`(tactic|(unfold Vbnlad.learn;rw[e4];dsimp only)),`(tactic|(simp[cA,b9,Vbnlad.lit])),`(tactic|(simp only[gb,total,Waw,Wcl,Wad];omega)),`(tactic|(rw[aA Yxt,aA (WaC n3),aA Yxt,aA Yxt]at hpl;exact hpl)),`(tactic|(rename_i hw;ext Xcj;subst h)),`(tactic|(refine⟨Wce _,?_⟩;have h3:(2:Int)^27=134217728:=YeP;rw[h3];omega)),`(tactic|(refine List.map_congr_left λw hw=>?_)),`(tactic|(rcases h with h|h|h)),`(tactic|(obtain⟨G,st,name,view,rfl,C,k⟩:=h)),`(tactic|(have lLs:Ls.length=Ykc:=pL.length;have lRs:Rs.length=YgR:=pR.length)),`(tactic|(rw[List.length_map,List.length_take])),`(tactic|(obtain⟨u,hu,ru⟩:=rv.get hx;obtain⟨u2,hu2,ru2⟩:=rv2.get hy)),`(tactic|(have lk:(Yfc).length<=24:=Aj C.ok (kU _) λk hk=>hfi k (bO.mp hk))),`(tactic|(obtain⟨r,hz,rfl⟩:=bE hx;have r8:r<8:=List.mem_range.mp (Yb0))),`(tactic|(obtain⟨p,hp,rfl⟩:=WaD.mp (C.pr.mem_iff.mpr hx);exact e8 p hp)),`(tactic|(obtain⟨m,hn,hl⟩:=I.loc)),`(tactic|(obtain⟨_,_,_,_,h,_⟩:=q)),`(tactic|(intro wh pins s σ H Q I h)),`(tactic|(refine⟨Zaa,Ycs,D,ZaD,hd,qp _ _,?_⟩;rw[List.dropLast_concat])),`(tactic|(obtain⟨its,r,pl,hz⟩:=I.tuple hq)),`(tactic|(obtain⟨e,n,ne,nf,d⟩:=I.pin p hp)),`(tactic|(obtain⟨_,_,_,_,o,_,_,e,ex,_⟩:=I.cg p _ hk;exact⟨o,e,ex⟩)),`(tactic|(ext Xaa;ext Xau)),`(tactic|(unfold dj at this;rw[jX (kf:=λk=>k) nr Yju]at this;exact this)),`(tactic|(simp only[Wad,WbK,Was]at h1 h2 ⊢;refine⟨YaP,YcB⟩;ext Xcg)),`(tactic|(obtain⟨⟨a,rfl⟩,q1⟩:=q1;obtain⟨t,rfl⟩:=_root_.id r1)),`(tactic|(obtain⟨i2,ho2,mv2⟩:=R2.obj;refine⟨ZaJ,ho2,Zbw,ho2,Zad⟩)),`(tactic|(obtain⟨i,t⟩:=p)),`(tactic|(have q:=(rel.val k).vD;rw[Wb2]at q;rw[<-q,<-l];exact h _ (Yga))),`(tactic|(have S1:Yy9:=λb o z=>fr b o (ao z hD) (s1 _ _ (s0 _ _ z)))),`(tactic|(simp[ia,conv]at hd;subst hd;decide)),`(tactic|(refine List.filter_eq_self.mpr λk hk=>decide_eq_true λq=>?_)),`(tactic|(obtain⟨its,r,pl,hz⟩:=YB2)),`(tactic|(have hT:s.TypeIs (.ref z) "zip":=⟨_,hz,rfl⟩;unfold pyNext)),`(tactic|(exact Wbs _ _)),`(tactic|(dsimp only[Function.comp])),`(tactic|(rw[cA,WaP,WaP];exact vE a n _ (vE b YCG _ ⟨Weq 2 n,h⟩))),`(tactic|(rcases I0 C name view with⟨b1,b2⟩|⟨b0,p,hp,vp,nv,b2⟩)),`(tactic|(obtain⟨d,u,hd,mu,hw⟩:=hw;obtain⟨od,I1⟩:=I.lock hd mu)),`(tactic|(rw[cA,Wa1,Wa1,qD a st,qD b];simp only[WaZ,Wbr,gb,Bs,Hr];rfl)),`(tactic|(injection e2 with e2)),`(tactic|(have:=of_decide_eq_true this;injection this with this;omega)),`(tactic|(have s12:=Ygc;have C2:=C.same s12)),`(tactic|(have hq:eA K H a (AS x):=eA.of hx)),`(tactic|(exact WaB e)),`(tactic|(congr 2;unfold dictOf;refine List.map_congr_left λy hy=>?_)),`(tactic|(rw[hk]at this;simp[this])),`(tactic|(rw[aA (ao q hn)];exact q)),`(tactic|(rcases Wav.mp h with e|h)),`(tactic|(obtain⟨⟨j,tk⟩,r',rfl⟩:=kY eb (by cases b<;>decide))),`(tactic|(obtain⟨rdx,hrp⟩:=hrp)),`(tactic|(obtain⟨oc,od,kV,doc,pm,an,cdv,ct,osl,rfl,lk,hcd⟩:=F.ex)),`(tactic|(obtain⟨_,_,p,q,rfl,⟨a,rfl,ha⟩,⟨b,rfl,hb⟩,k⟩:=h)),`(tactic|(intro pins s σ H Q I hw)),`(tactic|(have ge:¬i+1+j<Yby:=(by have:=Wag e2;rw[hJ]at this;omega))),`(tactic|(ext Xab;obtain⟨hz,hTI,⟨x0,y0,v0,hTO⟩,h1,h2,h3⟩:=st)),`(tactic|(rw[e]at this)),`(tactic|(rcases cD Yd3 Yd6 G.rl k with⟨x,hx,e7,e8⟩|⟨e7,e8⟩)),`(tactic|(obtain⟨u,rfl,t,rfl⟩:=vals1 r)),`(tactic|(intro c hc;have:c=b:=(by simpa using hc);rw[this];exact k)),`(tactic|(have:=C.pe.length_eq;have:=C.ok.en;rw[List.length_map]at*)),`(tactic|(have hd2:=hd;rw[<-rd,this]at hd2;rw[QC hd2]at e3;cases e3))]
open Lean in
def dqX5:Array (MacroM (TSyntax `tactic)):=#[`(tactic|(have etk:tk=.word zg:=(jj R1.ok.head abc).mp e3;subst etk)),`(tactic|(ext XcB;exact YeS)),`(tactic|(ext Xan;exact YcJ)),`(tactic|(dsimp only;rw[<-Int.natCast_mul])),`(tactic|(subst hj;rw[hi]at e1;cases e1;rw[WdF hiσ]at e2;cases e2)),`(tactic|(obtain⟨y,hy,rfl⟩:=WaD.mp h;exact(qj n r y hy).cons k)),`(tactic|(obtain⟨o',es',ep',ho',r'⟩:=hm;rw[ho]at ho';cases ho')),`(tactic|(obtain⟨d,rfl,q⟩:=q1;cases r1;exact Wb7 ⟨H1,I1,q⟩)),`(tactic|(have e:YdD=Ycf:=e;rcases mem e with⟨h1,_⟩|⟨h1,_⟩)),`(tactic|(rintro m σ H' ⟨rfl,j,hj,rfl,rfl⟩;refine⟨Zbl,hz,ZbS,Ybu⟩)),`(tactic|(obtain⟨ss,h1,h2,h3⟩:=ft t ht;exact⟨c.sl,ZaD,Zb7,h3⟩)),`(tactic|(unfold factOf)),`(tactic|(simp only[WaJ,War]at ha)),`(tactic|(simp only[Array.getElem_toList])),`(tactic|(show Yam<=(s.heap.push _).objs.size;rw[WaW];exact Wda _)),`(tactic|(rw[qI,<-An (ks:=YhI) λr hr x hx=>fK.mpr ⟨r,hr,hx⟩])),`(tactic|(simp only[Wav,Wbt,WcJ]at hb;rcases hb with rfl|rfl|rfl)),`(tactic|(refine ZC lk hcd S len λA outer s H vs Q E hr hsp=>?_)),`(tactic|(obtain⟨hs,hgd,hx,es,ep,vs,hdt,hsz,kv,hm⟩:=I1.U3 hd)),`(tactic|(intro pins s σ H x v vl vu lo hi sl Q I rx hs pl pu h)),`(tactic|(have S3:aN H H3:=λb o z=>fr b o (ao z hD) (s02 b o z))),`(tactic|(ext Xah;refine Wab (WcB hz Yao λq1 z1 m1=>?_);ext XaL)),`(tactic|(split<;>simp only[Wad]<;>omega)),`(tactic|(refine h1 _ (h2 _ ⟨x,y,Zc1⟩);cases e:p x y)),`(tactic|(rcases value (F k) day (rk k) r.cond with _|_|_<;>rfl)),`(tactic|(rcases mem hp with hp|rfl<;>rcases mem hq with hq|rfl)),`(tactic|(rcases h:De p.1 r with _|(_|_))),`(tactic|(obtain⟨i4,ho4,mv4⟩:=R4.obj)),`(tactic|(cases rr;cases r;obtain⟨its,rv,p',hz⟩:=I1.list hq)),`(tactic|(unfold VbnladNeutral.step;rw[hvc];dsimp only;rw[est])),`(tactic|(simp only[nL,shown,b9])),`(tactic|(simp only[Wco,hx]at h')),`(tactic|(rw[known,vC s a,vC s b];simp only[aJ,nL,missing,WbI])),`(tactic|(rintro H1 ⟨hN1,s1⟩;rw[aH,List.take_length]at hN1)),`(tactic|(rcases dc hv with⟨j,u,rfl,rfl⟩|⟨y,u,rfl,rfl⟩)),`(tactic|(obtain⟨n,rfl,k⟩:=h)),`(tactic|(obtain⟨l,b,xs,zs,rfl,rfl,hH,hB,hz,q⟩:=h;cases rx)),`(tactic|(intro value slice pins s σ H x y v u Q I rx ry h hs)),`(tactic|(have:x≠n:=(by rintro rfl;exact h v Wai);simp[this])),`(tactic|(have:=h t (by simp[daysIn]);simp only[value];congr 1)),`(tactic|(ext Xaz;obtain⟨i,j,rfl,rfl,q⟩:=h;ext Xar;ext Xap)),`(tactic|(ext Xab;obtain⟨hz,hTI,⟨x0,y0,hTO⟩,h1,h2⟩:=st)),`(tactic|(simp[small]at this)),`(tactic|(simp[digit]at this)),`(tactic|(refine W.item i s _ _ hg st λv h' tk hv st' kk=>?_)),`(tactic|(obtain⟨its,r',pl,hz⟩:=I.tuple hq;have hlen:=Ygi)),`(tactic|(obtain⟨as,hr⟩:=Dw.readsAll cg KX ds _ its ha rv)),`(tactic|(obtain⟨G,st,a,R,rfl,C,⟨rs,hrs,prs⟩,lR,k⟩:=h)),`(tactic|(have etk:tk=.open_:=(LV R1.ok.head).mp e3;subst etk)),`(tactic|(rw[hra]at hra2;injection hra2 with hra2;subst hra2)),`(tactic|(rw[hra]at hra';injection hra' with hra';subst hra')),`(tactic|(refine⟨ZaK,ho,ZaX⟩;have sm:=ak (o:=Ybx) Yay ht)),`(tactic|(obtain⟨its,r',pl,hz⟩:=YB2;have hlen:=Ygi)),`(tactic|(unfold Builtin.bitNot)),`(tactic|(rw[ab,<-su,List.map_map];rfl)),`(tactic|(rw[Wae Yep];simpa[h1]using k)),`(tactic|(rename_i ht;subst ht;ext Xad)),`(tactic|(refine Wab YcW)),`(tactic|(rcases h with(h|⟨q,h⟩)|h)),`(tactic|(obtain⟨fs,hfs,pfs⟩:=N.Vy)),`(tactic|(have hz:(sx t).length<=sizeLine:=HJ (l:=t) hl YeP)),`(tactic|(ext XcI;obtain⟨z2,its2,n2,r2,hl2,e2⟩:=I.UO hB))]
open Lean in
def dqX6:Array (MacroM (TSyntax `tactic)):=#[`(tactic|(ext Xc9;rw[nL,nL,vH ht sub a h.1,vH ht sub b h.2])),`(tactic|(exact Dv Yb4 st hgd hdt hsz hi λh' eb=>⟨Zaw⟩)),`(tactic|(simp only[SetTable.fits,WaJ,WbV]at hf;exact hf.1)),`(tactic|(refine⟨Zbq,λl hl=>GB ?_ l hl⟩;unfold within)),`(tactic|(rcases h with⟨rfl,rfl⟩|⟨a,b,rfl,rfl,rfl⟩)),`(tactic|(rcases dc hb with⟨j,u,rfl,e⟩|⟨y,u,rfl,e⟩)),`(tactic|(obtain⟨its,rv,hl,_⟩:=I.list hs;rw[Vals.GB r])),`(tactic|(intro d hd;rcases List.mem_append.mp hd with q|q)),`(tactic|(have e2:=KX a o hk;rw[e]at e2;obtain rfl:=Wbi e2)),`(tactic|(unfold sgn;simp only[jc,gp])),`(tactic|(rw[q]at e;cases e)),`(tactic|(rw[cA,Wbc,Wbc,nW s a,nW s b,nL,daysIn];simp[sW])),`(tactic|(rw[Wap rfl])),`(tactic|(rcases eF.mp hy with rfl|hy)),`(tactic|(rcases a with _|_|_<;>rcases b with _|_|_<;>rfl)),`(tactic|(obtain⟨p,dx,args,rfl,⟨x,y,rfl⟩,hp,k⟩:=h)),`(tactic|(obtain⟨od,J,hl⟩:=I.look)),`(tactic|(obtain⟨as,hr⟩:=Dp.readsAll I ds _ its ha rv)),`(tactic|(intro e;subst e)),`(tactic|(have C1:=YeA)),`(tactic|(ext Xfl;rw[Option.isSome_map,List.find?_isSome])),`(tactic|(ext Xal;exact YeS)),`(tactic|(ext Xac;ext XcB)),`(tactic|(dsimp only;generalize g k=a)),`(tactic|(rw[e7]at e9;cases e9)),`(tactic|(rw[PyFlat.calls]at h)),`(tactic|(rw[List.map_map,List.map_map,List.map_map];rfl)),`(tactic|(rw[List.length_map,hlen,List.take_length]at hv)),`(tactic|(obtain⟨σ7,H7,I7,n7⟩:=q7;exact again I7 n7)),`(tactic|(obtain⟨odx,fk,dl,sa,sdx,bd,wa,hob,_⟩:=id S)),`(tactic|(obtain⟨e,he,rfl⟩:=WaD.mp (p.mem_iff.mp hv))),`(tactic|(intro p hp;simp only[closed,WaE]at hp;subst hp)),`(tactic|(have rV:r*2^Yaz<=7*256:=Nat.mul_le_mul Yad hV8)),`(tactic|(have e1:Yki=false:=e)),`(tactic|(rw[er];refine⟨Zbg,YlY⟩)),`(tactic|(refine List.map_congr_left λx hx=>?_;ext XdU)),`(tactic|(rcases Wav.mp h with rfl|h)),`(tactic|(obtain⟨rs,hrs,prs⟩:=hR)),`(tactic|(obtain⟨o,_,_,_,e,_⟩:=x)),`(tactic|(obtain⟨kvs,e⟩:=C.top h;rw[nb]at e;cases e)),`(tactic|(have lc:=kJ c 0 rok.ok rok.sh;have ln:=rok.ln)),`(tactic|(have hlen:ss.length=(cA c).length:=hss.length)),`(tactic|(have hlen:as2.length=(YbB).length:=hL2.length)),`(tactic|(subst lp;refine k H' fr ?_;rw[<-ec];exact R')),`(tactic|(rw[hdr]at hg;obtain⟨hg1,hg2⟩:=hg;rw[htk])),`(tactic|(rcases l with⟨hk,hm⟩|⟨hk,c,hc,hcell⟩)),`(tactic|(obtain⟨o,ho,hc,hd⟩:=id hit;unfold pyNext)),`(tactic|(obtain⟨m,⟨o,es,ep,ho,r⟩,_⟩:=id I.loc)),`(tactic|(obtain⟨i,hi,rfl⟩:=List.getElem_of_mem ha)),`(tactic|(obtain⟨G,st,ea,e,p,rfl,C,hea,he,hp,k⟩:=h)),`(tactic|(have:lo=hi:=Yad;subst this;exact⟨h2,a,b⟩)),`(tactic|(have:=Wag e1;rw[Waa]at this;exact Wbg.mp Yad)),`(tactic|(have:=(Yb3).1;rwa [List.length_range]at this)),`(tactic|(ext Xab;obtain⟨⟨old,he⟩,hit,hne⟩:=st)),`(tactic|(simp only[cA,WaZ,Wbr,eV,kc,nL,value,Es,War])),`(tactic|(show(a==b)=_;rw[Wa2];simp)),`(tactic|(rw[place_len];omega)),`(tactic|(rw[if_pos rfl,if_pos Yao])),`(tactic|(rw[ab,List.length_map,List.map_append];simp)),`(tactic|(rw[List.length_map])),`(tactic|(rcases hty with e|e)),`(tactic|(have:=C.ok.nn;omega))]
open Lean in
def dqX7:Array (MacroM (TSyntax `tactic)):=#[`(tactic|(have s3:aN H1 H3:=Pw s1 s2 nx nsl2 npl2 fr3)),`(tactic|(have e1:Yki=true:=e)),`(tactic|(have a:¬((i:Int)<0):=Yad)),`(tactic|(ext Xaq;have hr0:gO A H st ra r:=C.ar _ hrm)),`(tactic|(dsimp only;split)),`(tactic|(dsimp only;refine Wab Yfl)),`(tactic|(cases decide (k<W)<;>simp)),`(tactic|(cases a.testBit i<;>cases b.testBit i<;>rfl)),`(tactic|(by_cases e:p.1=k)),`(tactic|(simp at this)),`(tactic|(rcases ff with⟨x,hx,e5,e6⟩|⟨e5,e6⟩)),`(tactic|(rcases fd with⟨y,hy,e5,e6⟩|⟨e5,e6⟩)),`(tactic|(obtain⟨_,_,_,q⟩:=hs;exact False.elim q)),`(tactic|(have s15:=s14.trans s5;have C5:=C.same s15)),`(tactic|(have s14:=s13.trans s4;have C4:=C.same s14)),`(tactic|(have en:=nY pn sn pks er.1;subst en;rw[eq]))]
def dqI (c:Char):Nat:=if c.isLower then c.toNat-97 else if c.isUpper then c.toNat-39 else c.toNat+4
open Lean in
def dqG (t:Array (Unit→Array (MacroM Term))) (s:String):MacroM Term:=match s.toList with
 |[_,a,b]=>match t[dqI a]? with
  |some x=>match (x ())[dqI b]? with
   |some y=>y
   |none=>Macro.throwUnsupported
  |none=>Macro.throwUnsupported
 |_=>Macro.throwUnsupported
open Lean in
def dqZ (x:Term):MacroM (Array Term):=match x.raw with
 |.ident _ _ (.str .anonymous s) _=>if s.front=='Z'&&s.length==3 then do
   let y←dqG #[λ_=>dqS0,λ_=>dqS1,λ_=>dqS2] s
   match y with
   |`(⟨$xs,*⟩)=>return xs.getElems
   |_=>return #[x]
  else return #[x]
 |_=>return #[x]
open Lean in
local macro_rules
|`($x:ident)=>match x.getId with
 |.str .anonymous s=>if s.front=='Y'&&s.length==3 then dqG #[λ_=>dqT0,λ_=>dqT1,λ_=>dqT2,λ_=>dqT3,λ_=>dqT4,λ_=>dqT5,λ_=>dqT6,λ_=>dqT7,λ_=>dqT8,λ_=>dqT9,λ_=>dqT10,λ_=>dqT11,λ_=>dqT12,λ_=>dqT13,λ_=>dqT14,λ_=>dqT15,λ_=>dqT16,λ_=>dqT17,λ_=>dqT18,λ_=>dqT19,λ_=>dqT20,λ_=>dqT21,λ_=>dqT22,λ_=>dqT23,λ_=>dqT24,λ_=>dqT25,λ_=>dqT26,λ_=>dqT27,λ_=>dqT28,λ_=>dqT29,λ_=>dqT30] s else Macro.throwUnsupported
 |_=>Macro.throwUnsupported
open Lean in
local macro_rules
|`(⟨$xs,*⟩)=>if xs.getElems.any (λx=>match x.raw with |.ident _ _ (.str .anonymous s) _=>s.front=='Z'&&s.length==3|_=>false) then do
  let ys←xs.getElems.flatMapM dqZ
  `(⟨$ys,*⟩)
 else Macro.throwUnsupported
open Lean in
local macro_rules
|`(tactic|ext $x:rintroPat)=>match x.raw[0][0].getId with
 |.str .anonymous s=>if s.front=='X'&&s.length==3 then match s.toList with
  |[_,a,b]=>match (#[λ_=>dqX0,λ_=>dqX1,λ_=>dqX2,λ_=>dqX3,λ_=>dqX4,λ_=>dqX5,λ_=>dqX6,λ_=>dqX7]:Array (Unit→Array (MacroM (TSyntax `tactic))))[dqI a]? with
   |some t=>match (t ())[dqI b]? with
    |some y=>y
    |none=>Macro.throwUnsupported
   |none=>Macro.throwUnsupported
  |_=>Macro.throwUnsupported else Macro.throwUnsupported
 |_=>Macro.throwUnsupported
namespace Ce
open Vbnlad
def sgn(b:Nat):Nat:=if small b=true then b else if digit b=true then b else if b=32 then 32 else if b=40 then 40 else if b=41 then 41 else 63
def conv:Tok->List Nat
 |.word w=>w
 |.num w=>w
 |.open_=>[40]
 |.close=>[41]
 |.bad=>[63]
def v5(p:Nat×Tok):Nat×List Nat:=(p.1,conv p.2)
def jc:Yy8=true↔97<=b/\b<=122:=by simp[small]
def gp:YvX=true↔48<=b/\b<=57:=by simp[digit]
def vd:small (sgn b)=Yy8:=by
 rw[Wa2];simp only[jc];ext Xgj
 repeat' split
 all_goals omega
def Ey:digit (sgn b)=YvX:=by
 rw[Wa2];simp only[gp];ext Xgj
 repeat' split
 all_goals omega
def jd(h:Yy8=true):sgn b=b:=by unfold sgn;rw[Wap h]
def kX(h:YvX=true):sgn b=b:=by
 unfold sgn;split
 ·rfl
 ·simp only[h,WbG]
def MD:sgn b=32↔b=32:=by
 ext Xgj
 repeat' split
 all_goals omega
def run(z:Yaw):Nat:=match z with
 |[]=>0
 |c::r=>if small c=true then 1+(Yer).length else if digit c=true then 1+(Yes).length else 1
def yR(h:Yy8=true):YvX=false:=by
 cases e:YvX with
 |false=>rfl
 |true=>rw[jc]at h;rw[gp]at e;omega
def Hu(h:((w.head?).any λc=>(YpW&&Yy8)||(digit c&&YvX))=false):
  toks i from_ w (b::r)=closed from_ w++toks i i [] (b::r):=by
 rw[toks];simp only[h];rw[toks];simp[closed]
def Lk:∀(r:Text)(i from_:Nat)(w:Text),w≠[]->(∀c∈w,YpW=true)->
  toks i from_ w r=(from_,Tok.word (w++Yer))::toks (i+(Yer).length) (i+(Yer).length) [] (r.dropWhile small)
 |[],i,from_,w,hw,hs=>by
  cases w with
  |nil=>exact Ywv
  |cons c w=>have hc:=hs c Ycq;simp[toks,closed,hc]
 |b::r,i,from_,w,hw,hs=>by
  cases w with
  |nil=>exact Ywv
  |cons c w=>
   have hc:=hs c Ycq;have hd:=yR hc;cases hb:Yy8 with
   |true=>
    rw[toks];simp only[Weu,Wem,hc,hb,Bool.and_self,Bool.true_or,WbG]
    rw[Lk r YcG from_ (c::w++[b]) Yao (λd hd=>by
     rcases Wac.mp hd with h|h
     ·exact hs d h
     ·have:d=b:=by simpa using h
      rw[this];exact hb)]
    simp only[Wbq,hb,WbG,WcL,Was,WaP,WbU];have e:i+1+(List.takeWhile small r).length=i+((List.takeWhile small r).length+1):=Yad;rw[e]
   |false=>rw[Hu (by simp[hc,hb,hd])];simp[closed,hc,Wbq,WcL,hb]
def N9:∀(r:Text)(i from_:Nat)(w:Text),w≠[]->Yqr->
  toks i from_ w r=(from_,Tok.num (w++Yes))::toks (i+(Yes).length) (i+(Yes).length) [] (r.dropWhile digit)
 |[],i,from_,w,hw,hs=>by
  cases w with
  |nil=>exact Ywv
  |cons c w=>
   have hc:=hs c Ycq;have hd:YpW=false:=by
    cases e:YpW with
    |false=>rfl
    |true=>rw[yR e]at hc;cases hc
   simp[toks,closed,hd]
 |b::r,i,from_,w,hw,hs=>by
  cases w with
  |nil=>exact Ywv
  |cons c w=>
   have hc:=hs c Ycq;have hd:YpW=false:=by
    cases e:YpW with
    |false=>rfl
    |true=>rw[yR e]at hc;cases hc
   cases hb:YvX with
   |true=>
    rw[toks];simp only[Weu,Wem,hc,hb,hd,Bool.and_self,Wcp,Bool.false_or,WbG]
    rw[N9 r YcG from_ (c::w++[b]) Yao (λd hd=>by
     rcases Wac.mp hd with h|h
     ·exact hs d h
     ·have:d=b:=by simpa using h
      rw[this];exact hb)]
    simp only[Wbq,hb,WbG,WcL,Was,WaP,WbU];have e:i+1+(List.takeWhile digit r).length=i+((List.takeWhile digit r).length+1):=Yad;rw[e]
   |false=>rw[Hu (by simp[hc,hb,hd])];simp[closed,hd,Wbq,WcL,hb]
def jo:∀r:Text,(r.map sgn).takeWhile small=r.takeWhile small
 |[]=>rfl
 |b::r=>by
  rw[Waw,Wbq,Wbq,vd];cases h:Yy8 with
  |false=>rfl
  |true=>simp only[WbG];rw[jo r,jd h]
def jq:∀r:Text,(r.map sgn).takeWhile digit=r.takeWhile digit
 |[]=>rfl
 |b::r=>by
  rw[Waw,Wbq,Wbq,Ey];cases h:YvX with
  |false=>rfl
  |true=>simp only[WbG];rw[jq r,kX h]
def lP:∀r:Text,r.dropWhile p=r.drop (YmZ).length
 |[]=>rfl
 |b::r=>by
  rw[WcL,Wbq];cases h:p b with
  |false=>rfl
  |true=>simp only[WbG,Was,Wd0];exact lP r
def kR:∀r:Text,YmZ=r.take (YmZ).length
 |[]=>rfl
 |b::r=>by
  rw[Wbq];cases h:p b with
  |false=>rfl
  |true=>simp only[WbG,Was,Wdb];rw[<-kR r]
def TX(i:Nat)(b:Nat)(r:Text):
  ∃l:YsL,Yv4=l++toks (i+Ydo) (i+Ydo) [] ((b::r).drop (Ydo))/\
   l.map v5=(if sgn b=32 then[]else[(i,((b::r).map sgn).take (Ydo))]):=by
 cases hs:Yy8 with
 |true=>
  have hr:Ydo=1+(Yer).length:=by rw[Waw,run,vd,Wap hs,jo]
  refine⟨[(i,.word (b::Yer))],ZbG⟩
  ·rw[hr];have e1:Yv4=toks YcG i [b] r:=by rw[toks];simp[closed,hs]
   rw[e1,Lk r YcG i [b] Yao (by simp[hs])];have e2:(b::r).drop (1+(Yer).length)=r.dropWhile small:=by rw[Wcj,Wd0,lP]
   rw[e2,WcQ];rfl
  ·rw[hr];have h32:¬sgn b=32:=by rw[MD];rw[jc]at hs;omega
   rw[Wae h32];simp only[Waw,Wb1,v5,conv];rw[Wcj,Wdb,jd hs];have e3:(r.map sgn).take (Yer).length=Yer:=by rw[<-jo r,<-kR]
   rw[e3]
 |false=>
  cases hd:YvX with
  |true=>
   have hr:Ydo=1+(Yes).length:=by rw[Waw,run,vd,Ey,hs,hd];simp only[Wbo,Wca,WbG];rw[jq]
   refine⟨[(i,.num (b::Yes))],ZbG⟩
   ·rw[hr];have e1:Yv4=toks YcG i [b] r:=by rw[toks];simp[closed,hs,hd]
    rw[e1,N9 r YcG i [b] Yao (by simp[hd])];have e2:(b::r).drop (1+(Yes).length)=r.dropWhile digit:=by rw[Wcj,Wd0,lP]
    rw[e2,WcQ];rfl
   ·rw[hr];have h32:¬sgn b=32:=by rw[MD];rw[gp]at hd;omega
    rw[Wae h32];simp only[Waw,Wb1,v5,conv];rw[Wcj,Wdb,kX hd];have e3:(r.map sgn).take (Yes).length=Yes:=by rw[<-jq r,<-kR]
    rw[e3]
  |false=>
   have hr:Ydo=1:=by rw[Waw,run,vd,Ey,hs,hd];rfl
   refine⟨if b=32 then[]else[Yeu],ZbG⟩
   ·rw[hr];rw[toks];simp[closed,hs,hd]
   ·rw[hr];by_cases h:b=32
    ·rw[Wap h,Wap (MD.mpr h)];rfl
    ·rw[Wae h,Wae (λq=>h (MD.mp q))];simp only[Waw,Wb1,v5,Wdb,WeI];unfold sgn;rw[hs,hd];simp only[Wbo,Wca,Wae h];by_cases h4:b=40
     ·simp[h4,conv]
     ·by_cases h5:b=41
      ·simp[h5,conv]
      ·simp[h4,h5,conv]
def tN:Tok->Prop
 |.word w=>w≠[]/\∀c∈w,YpW=true
 |.num w=>w≠[]/\∀c∈w,digit c=true
 |_=>True
def LW(h:(∀c∈w,YpW=true)∨Yqr):∀p∈closed i w,tN p.2:=by
 cases w with
 |nil=>intro p hp;simp[closed]at hp
 |cons c w=>
  ext XgF;rcases h with h|h
  ·have hc:=h c Ycq;simp only[hc,WbG];exact⟨Ydx,h⟩
  ·have hc:=h c Ycq;have hd:YpW=false:=by
    cases e:YpW with
    |false=>rfl
    |true=>rw[yR e]at hc;cases hc
   simp only[hd,Wbo,Wca];exact⟨Ydx,h⟩
theorem G6:∀(r:Text)(i from_:Nat)(w:Text),((∀c∈w,YpW=true)∨Yqr)->∀p∈toks i from_ w r,tN p.2
 |[],i,from_,w,h,p,hp=>by rw[toks]at hp;exact LW h p hp
 |b::r,i,from_,w,h,p,hp=>by
  rw[toks]at hp;split at hp
  ·rename_i hj;refine G6 r _ _ (w++[b]) ?_ p hp;cases w with
   |nil=>simp at hj
   |cons c w=>
    simp only[List.head?_cons,Option.any_some,Bool.or_eq_true,Bool.and_eq_true]at hj;rcases hj with⟨h1,h2⟩|⟨h1,h2⟩
    ·rcases h with h|h
     ·left;ext Xgh
      ·exact h d q
      ·have:d=b:=YoL;rw[this];exact h2
     ·have:=h c YfH;rw[yR h1]at this;cases this
    ·rcases h with h|h
     ·have:=h c YfH;rw[yR this]at h1;cases h1
     ·right;ext Xgh
      ·exact h d q
      ·have:d=b:=YoL;rw[this];exact h2
  ·rcases List.mem_append.mp hp with q|q
   ·exact LW h p q
   ·split at q
    ·rename_i hsd;refine G6 r _ _ [b] ?_ p q;rcases hsd with k|k
     ·left;ext Xe7
     ·right;ext Xe7
    ·rcases List.mem_append.mp q with q|q
     ·split at q
      ·simp at q
      ·have:p=_:=List.mem_singleton.mp q;subst this;ext Xhe
       ·trivial
       ·split<;>trivial
     ·exact G6 r _ _ [] (.inl Yao) p q
def TY(w:Text):∀p∈YAy,tN p.2:=G6 w 0 0 [] (.inl Yao)
inductive fY where
 |tt|ff|flag (w:Text)|since (d:Nat)|before (d:Nat)|rank (lo hi:Nat)|not|and|or
deriving DecidableEq
inductive Pd where
 |not|par|and|or
deriving DecidableEq
def qe:Pd->fY
 |.not=>.not
 |.and=>.and
 |_=>.or
def cA:Raw->List fY
 |.tt=>[.tt]
 |.ff=>[.ff]
 |.flag _ w=>[.flag w]
 |.since d=>[YAK]
 |.before d=>[Yxi]
 |.rank a b=>[.rank a b]
 |.not a=>cA a++Ysx
 |.and a b=>cA a++cA b++YvB
 |.or a b=>cA a++cA b++[.or]
def BH:Option Raw->List fY
 |none=>[]
 |some c=>cA c
def Iu(f:Frame):YeC:=match f.ors with
 |none=>[]
 |some _=>[.or]
def zR(f:Frame):YeC:=match f.ands with
 |none=>[]
 |some _=>[.and]
def iB:YeF->List Pd
 |[]=>[]
 |g::r=>iB r++Iu g++zR g++YCl++[.par]
def hZ:YeF->List fY
 |[]=>[]
 |g::r=>hZ r++BH g.ors++BH g.ands
def GZ(l:YeF)(P:YeC)(S:Ymd):Prop:=match l with
 |[]=>False
 |f::below=>P=YiA++Iu f++zR f++YCm/\S=hZ Ya6
def Have(l:YeF)(P:YeC)(S:Ymd):Prop:=match l with
 |[]=>False
 |f::below=>f.nots=0/\∃c,f.ands=Ycf/\
  ((P=YiA++Iu f/\S=Yxo++YAJ++cA c)∨
   (∃a b,c=.and a b/\P=YiA++Iu f++YvB/\S=Yxo++YAJ++(cA a++cA b)))
def wY(ws:YeC):YeC->Ymd->YeC×List fY
 |[],S=>([],S)
 |p::r,S=>if p∈ws then wY ws r (S++[qe p])else(p::r,S)
def bA(ws:YeC)(P:YeC)(S:Ymd):YeC×List fY:=((wY ws P.reverse S).1.reverse,(wY ws P.reverse S).2)
def nA(h:p∈ws)(P:YeC)(S:Ymd):bA ws (P++[p]) S=bA ws P (S++[qe p]):=by unfold bA;rw[List.reverse_append];simp only[Wa8,List.reverse_nil,Wet,WbU,wY,Wap h]
def kO(h:p∉ws)(P:YeC)(S:Ymd):bA ws (P++[p]) S=(P++[p],S):=by unfold bA;rw[List.reverse_append];simp only[Wa8,List.reverse_nil,Wet,WbU,wY,Wae h];simp
def JF(h:p∈ws)(P:YeC):∀(n:Nat)(S:List fY),bA ws (P++List.replicate n p) S=bA ws P (S++List.replicate n (qe p))
 |0,S=>by simp
 |n+1,S=>by rw[WdQ,<-WaP,nA h,JF h P n,WaP];rfl
def tI(h:Pd.par∉ws)(below:YeF)(S:Ymd):bA ws (YiA) S=(YiA,S):=by
 cases below with
 |nil=>rfl
 |cons g r=>rw[iB];exact kO h _ _
def yA:∀(n:Nat)(c:Raw),cA (negated n c)=cA c++List.replicate n .not
 |0,c=>by simp[negated]
 |n+1,c=>by rw[negated,cA,yA n c,WaP,WdQ]
def Q9(a:Option Raw)(c:Raw):cA (joinOr a c)=BH a++cA c++(match a with|none=>[]|some _=>[.or]):=by
 cases a with
 |none=>simp[joinOr,BH]
 |some x=>rfl
def Lg(h:GZ Ya6 P S)(u:Raw):
  ∃P' S',bA Ysx P (S++cA u)=(P',S')/\Have (YtU::below) P' S':=by
 ext Xcy;refine⟨YiA++Iu f++zR f,hZ Ya6++cA u++YCm,?_,rfl,YvH,Zag⟩
 ·rw[JF Yao];have e:qe .not=.not:=rfl;rw[e];have hno:∀S,bA Ysx (YiA++Iu f++zR f) S=(YiA++Iu f++zR f,S):=by
   intro S;unfold zR;cases f.ands with
   |some c=>exact kO Yao _ _
   |none=>
    rw[WaQ];unfold Iu;cases f.ors with
    |some c=>exact kO Yao _ _
    |none=>rw[WaQ];exact tI Yao _ _
  rw[hno]
 ·have e1:Iu (YtU)=Iu f:=rfl;have e2:(YtU).ors=f.ors:=rfl;rw[e1,e2];cases ha:f.ands with
  |none=>left;have e3:zR f=[]:=(by unfold zR;rw[ha]);refine⟨by rw[e3,WaQ],?_⟩;rw[hZ,ha];simp only[BH,joinAnd,yA,WaQ,WaP]
  |some c=>right;have e3:zR f=[.and]:=(by unfold zR;rw[ha]);refine⟨c,negated f.nots u,rfl,by rw[e3],?_⟩;rw[hZ,ha];simp only[BH,yA,WaP]
def W0(h:YyW):
  ∃c,f.ands=Ycf/\bA YvB P S=(YiA++Iu f,hZ Ya6):=by
 obtain⟨h0,c,hc,h⟩:=h;refine⟨c,hc,?_⟩;have hno:∀S,bA YvB (YiA++Iu f) S=(YiA++Iu f,S):=by
  intro S;unfold Iu;cases f.ors with
  |some c=>exact kO Yao _ _
  |none=>rw[WaQ];exact tI Yao _ _
 ext Xge
 ·rw[hno,hZ,hc];rfl
 ·rw[nA Yao,hno,hZ,hc];simp only[BH,cA,qe,WaP]
def E8(h:YyW):
  ∃c,YvW=Ycf/\bA YfA P S=(YiA,Yxo++cA c):=by
 obtain⟨h0,c,hc,h⟩:=h;refine⟨joinOr f.ors c,by simp[Frame.whole,hc],?_⟩;have hor:∀S',bA YfA (YiA++Iu f) (Yxo++YAJ++S')=(YiA,Yxo++YAJ++S'++(match f.ors with|none=>[]|some _=>[.or])):=by
  intro S';unfold Iu;cases f.ors with
  |some c=>rw[nA Yao,tI Yao];rfl
  |none=>simp only[WaQ];exact tI Yao _ _
 rw[Q9];ext Xge
 ·rw[hor];simp only[WaP]
 ·rw[nA Yao];have e:Yxo++YAJ++(cA a++cA b)++[qe Pd.and]=Yxo++YAJ++(cA a++cA b++YvB):=by simp only[WaP,qe]
  rw[e,hor];simp only[cA,WaP]
def VN(h:YyW):
  ∃P' S',bA YvB P S=(P',S')/\GZ Ya6 (P'++YvB) S':=by
 obtain⟨c,hc,e⟩:=W0 h;refine⟨_,_,e,?_,rfl⟩;have h0:f.nots=0:=h.1;have e3:zR f=[.and]:=by unfold zR;rw[hc]
 rw[e3,h0];simp
def XZ(h:YyW):
  ∃P' S',bA YfA P S=(P',S')/\GZ Yrk (P'++[.or]) S':=by
 obtain⟨c,hc,e⟩:=E8 h;refine⟨_,_,e,ZbG⟩
 ·have h0:f.nots=0:=h.1;simp only[Iu,zR,hc,h0,WaQ,List.replicate_zero]
 ·simp only[hZ,hc,BH,WaQ]
def RH(h:Have (f::g::rest) P S):
  ∃c P1 S1 P2 S2,YvW=Ycf/\bA YfA P S=(P1++[.par],S1)/\bA Ysx P1 S1=(P2,S2)/\Have (g.unit c::rest) P2 S2:=by
 obtain⟨c,hc,e⟩:=E8 h;have hW:GZ (g::rest) (iB rest++Iu g++zR g++YCl) (hZ (g::rest)):=Ytb;obtain⟨P2,S2,e2,h2⟩:=Lg hW c;refine⟨c,_,_,P2,S2,hc,?_,e2,h2⟩;rw[e,iB]
def WZ(h:Have l P S):Pd.par∈P↔2<=Yc9:=by
 cases l with
 |nil=>exact h.elim
 |cons f below=>
  obtain⟨h0,c,hc,h⟩:=h;have ho:Pd.par∉Iu f:=by unfold Iu;cases f.ors<;>simp
  have hb:Pd.par∈YiA↔1<=below.length:=by
   cases below with
   |nil=>simp[iB]
   |cons g r=>simp[iB]
  rcases h with⟨rfl,_⟩|⟨a,b,_,rfl,_⟩
  ·simp[ho,hb]
  ·simp[ho,hb]
def a9(P:YeC):Nat:=(P.filter λp=>p== .not||p== .par).length
def lQ(P Q:YeC):a9 (P++Q)=a9 P+a9 Q:=by simp[a9]
def LQ(f:Frame):a9 (Iu f)=0:=by unfold Iu;cases f.ors<;>rfl
def Jv(f:Frame):a9 (zR f)=0:=by unfold zR;cases f.ands<;>rfl
def Cf:∀n,a9 (List.replicate n .not)=n
 |0=>rfl
 |n+1=>by rw[List.replicate_succ,<-WbU,lQ,Cf n];simp[a9];omega
def foldl_add:∀(l:List Nat)(a:Nat),l.foldl (· + ·) a=a+l.foldl (· + ·) 0
 |[],a=>by simp
 |x::l,a=>by rw[WaZ,WaZ,foldl_add l,foldl_add l (0+x)];omega
def Gd:∀below:YeF,a9 (YiA)=below.length+(below.map λf=>f.nots).foldl (· + ·) 0
 |[]=>rfl
 |g::r=>by rw[iB];simp only[lQ,LQ,Jv,Cf,Gd r,Was,Waw,WaZ];rw[foldl_add _ (0+g.nots)];have:a9 [Pd.par]=1:=rfl;omega
def Tz(h:GZ l P S):a9 P=depth l:=by
 cases l with
 |nil=>exact h.elim
 |cons f below=>obtain⟨rfl,_⟩:=h;simp only[lQ,LQ,Jv,Cf,Gd,depth,Was,Waw,WaZ];rw[foldl_add _ (0+f.nots)];omega
abbrev Toks:=YsL
def ia:Toks->List Nat
 |[]=>[]
 |(_,t)::_=>conv t
def Uw(len:Nat):Toks->Nat
 |[]=>len
 |(i,_)::_=>i
def md(r:Toks):Prop:=∀p∈r,tN p.2
def md.tail(h:md YAk):md r:=λq hq=>h q (Waq _ hq)
def md.head(h:md YAk):tN p.2:=h p Ycq
def isWord(w:Yaw):Prop:=w≠[]/\∀c∈w,YpW=true
def isNum(w:Yaw):Prop:=w≠[]/\∀c∈w,digit c=true
def jj(h:tN t)(hw:isWord w):conv t=w↔t=.word w:=by
 cases t with
 |word v=>simp[conv]
 |num v=>
  ext Xav;cases v with
  |nil=>exact h.1 rfl
  |cons c v=>have h1:=h.2 c Ycq;have h2:=hw.2 c Ycq;rw[yR h2]at h1;cases h1
 |open_=>ext Xav;have:=hw.2 40 Yao;ext XfQ
 |close=>ext Xav;have:=hw.2 41 Yao;ext XfQ
 |bad=>ext Xav;have:=hw.2 63 Yao;ext XfQ
def gH(h:(w !=[]&&w.all small)=true):isWord w:=by rw[WaJ]at h;refine⟨by simpa using h.1,λc hc=>Wbe.mp h.2 c hc⟩
def LV(h:tN t):conv t=[40]↔t=.open_:=by
 cases t with
 |word v=>ext Xav;have:=h.2 40 Yao;ext XfQ
 |num v=>ext Xav;have:=h.2 40 Yao;ext XfR
 |open_=>simp[conv]
 |close=>simp[conv]
 |bad=>simp[conv]
def RR(h:tN t):conv t=[41]↔t=.close:=by
 cases t with
 |word v=>ext Xav;have:=h.2 41 Yao;ext XfQ
 |num v=>ext Xav;have:=h.2 41 Yao;ext XfR
 |open_=>simp[conv]
 |close=>simp[conv]
 |bad=>simp[conv]
def Y4(h:tN t):conv t≠[]:=by
 cases t with
 |word v=>exact h.1
 |num v=>exact h.1
 |open_=>simp[conv]
 |close=>simp[conv]
 |bad=>simp[conv]
def F5(h:tN t):isWord (conv t)↔∃w,t=.word w:=by
 ext XaT
 ·intro hw;exact⟨_,(jj h hw).mp rfl⟩
 ·rintro⟨w,rfl⟩;exact h
def Jb(h:tN t):isNum (conv t)↔∃w,t=.num w:=by
 ext XaT
 ·intro hn;cases t with
  |num w=>exact⟨w,rfl⟩
  |word w=>
   cases w with
   |nil=>exact absurd rfl h.1
   |cons c v=>have h1:=h.2 c Ycq;have h2:=hn.2 c Ycq;rw[yR h1]at h2;cases h2
  |open_=>have:=hn.2 40 YBh;ext XfR
  |close=>have:=hn.2 41 YBh;ext XfR
  |bad=>have:=hn.2 63 YBh;ext XfR
 ·rintro⟨w,rfl⟩;exact h
def KA:Yaw:=[97,110,100]
def XS:Yaw:=[111,114]
def zg:Yaw:=[110,111,116]
def p7:Yaw:=[102,114,111,109]
def gG:Yaw:=[98,101,102,111,114,101]
def A7:Yaw:=[114,97,110,107]
def NV:Yaw:=[116,111]
def oo:Yaw:=[116,114,117,101]
def jw:Yaw:=[102,97,108,115,101]
def Nh:lit "and"=KA:=by decide
def WL:lit "or"=XS:=by decide
def qo:lit "not"=zg:=by decide
def zc:lit "from"=p7:=by decide
def wF:lit "before"=gG:=by decide
def IW:lit "rank"=A7:=by decide
def WK:lit "to"=NV:=by decide
def rM:lit "true"=oo:=by decide
def qH:lit "false"=jw:=by decide
def yC:RESERVED=[KA,XS,zg,p7,gG,A7,NV,oo,jw]:=by decide
def aco:isWord KA:=YC6
def wOr:isWord XS:=YC6
def abc:isWord zg:=YC6
def abd:isWord p7:=YC6
def X0:isWord gG:=YC6
def abb:isWord A7:=YC6
def wTo:isWord NV:=YC6
def aba:isWord oo:=YC6
def ZL:isWord jw:=YC6
def gC(len:Nat)(l:YeF)(m:Mode)(i:Nat)(t:Tok)(r:Toks):YpA=match take l m i t with
  |some (l',m')=>parse len l' m' r
  |none=>.inl i:=by
 rw[parse];rfl
def Ip(len:Nat)(l:YeF):parse len l .want []=.inl len:=by rw[parse];all_goals intros;simp_all
def Kr(len:Nat)(l:YeF)(b:Bool):parse len l (.wantDay b) []=.inl len:=by rw[parse];all_goals intros;simp_all
def MT(len:Nat)(l:YeF):parse len l .wantLo []=.inl len:=by rw[parse];all_goals intros;simp_all
def MU(len:Nat)(l:YeF)(n:Nat):parse len l (.wantHi n) []=.inl len:=by rw[parse];all_goals intros;simp_all
def wt(h:YoU=none):YpA=.inl (Uw len ((i,t)::r)):=by rw[gC,h];rfl
def iM(h:YoU=YsT):YpA=parse len l' m' r:=by rw[gC,h]
def Vm(h:depth Ya6<40):Ytp=parse len YwU .want r:=iM YC0
def R7(h:depth Ya6<40):Yun=parse len ({}::f::below) .want r:=iM (by simp[take,DEEP,h])
def JO(h:¬depth Ya6<40):Ytp=.inl i:=wt YC0
def GS(h:¬depth Ya6<40):Yun=.inl i:=wt (by simp[take,DEEP,h])
def VM(h:GZ Ya6 P S):GZ YwU (P++Ysx) S:=by ext Xcy;refine⟨?_,rfl⟩;rw[WdQ,<-WaP];rfl
def Tx(h:GZ Ya6 P S):GZ ({}::f::below) (P++[.par]) S:=by
 ext Xcy;refine⟨ZbG⟩
 ·simp[iB,Iu,zR]
 ·simp[hZ,BH]
def og(lo hi:Nat):Toks->Option Nat
 |(_,.num w)::_=>(Yp2).bind λn=>if lo<=n/\n<=hi then Yx3 else none
 |_=>none
theorem DP(w:Text):YBw=(Yp2).bind λn=>if 0<=n/\n<=1000000 then Yx3 else none:=by
 unfold dayNumber;congr 1;funext n;have e:(n<=DAYS)↔(0<=n/\n<=1000000):=by unfold DAYS;omega
 by_cases h:n<=DAYS
 ·rw[if_pos h,if_pos (e.mp h)]
 ·rw[if_neg h,if_neg (λq=>h (e.mpr q))]
theorem uq(w:Text):Yl9=(Yp2).bind λn=>if 0<=n/\n<=7 then Yx3 else none:=by
 unfold rankNumber;congr 1;funext n;have e:(n<=RANKS)↔(0<=n/\n<=7):=by unfold RANKS;omega
 by_cases h:n<=RANKS
 ·rw[if_pos h,if_pos (e.mp h)]
 ·rw[if_neg h,if_neg (λq=>h (e.mpr q))]
def Kq(w:Text)(lo:Nat):((Yl9).bind λn=>if lo<=n then Yx3 else none)=(Yp2).bind λn=>if lo<=n/\n<=7 then Yx3 else none:=by
 rw[uq];cases numberOf w with
 |none=>rfl
 |some n=>
  simp only[WbD];by_cases h:n<=7
  ·by_cases h2:lo<=n
   ·simp[h,h2]
   ·simp[h,h2]
  ·simp[h]
def TF:parse len Ya6 .want ((i,.word oo)::r)=parse len (f.unit .tt::below) .have_ r:=iM (by simp[take,qo,rM,oo,zg])
def QA:parse len Ya6 .want ((i,.word jw)::r)=parse len (f.unit .ff::below) .have_ r:=iM (by simp[take,qo,rM,qH,oo,jw,zg])
def TK(h:w∉RESERVED):parse len Ya6 .want ((i,.word w)::r)=parse len (f.unit (.flag i w)::below) .have_ r:=by
 rw[yC]at h;simp only[Wav,Wbt,WcJ,not_or]at h;obtain⟨h1,h2,h3,h4,h5,h6,h7,h8,h9⟩:=h;refine iM ?_;have hr:YcP=false:=by rw[yC];simp[h1,h2,h3,h4,h5,h6,h7,h8,h9]
 simp only[take,qo,rM,qH,zc,wF,IW,Wae h3,Wae h8,Wae h9,Wae h4,Wae h5,Wae h6,hr,Wbo,Wca]
def N6:Ys4=
  match og 0 1000000 r with
  |some n=>parse len (f.unit (if b=true then .since n else .before n)::below) .have_ r.tail
  |none=>.inl (Uw len r):=by
 have h1:Ys4=parse len Ya6 (.wantDay b) r:=by
  refine iM ?_;cases b with
  |true=>simp[take,qo,rM,qH,zc,oo,jw,zg,p7]
  |false=>simp[take,qo,rM,qH,zc,wF,oo,jw,zg,p7,gG]
 rw[h1];cases r with
 |nil=>rw[Kr];rfl
 |cons p r=>
  obtain⟨j,t⟩:=p;rw[gC];cases t with
  |num w=>simp only[take,og,DP];generalize ((numberOf w).bind λn=>if 0<=n/\n<=1000000 then some n else none)=o;cases o<;>rfl
  |_=>rfl
def wu(h:∀i t r',r=(i,t)::r'->t≠ .word NV):parse len Ya6 (.haveLo lo) r=parse len Yhw .have_ r:=by
 cases r with
 |nil=>
  cases below with
  |nil=>rw[parse,parse]
  |cons g rest=>rw[parse,parse];all_goals intros;simp_all
 |cons p r=>
  ext XeB;have ht:=h i t r rfl;rw[gC,gC];have e:take Ya6 (.haveLo lo) i t=take Yhw .have_ i t:=by simp only[take,WK,Wae ht]
  rw[e]
def TH:Yi4=
  match og 0 7 r with
  |none=>YBf
  |some lo=>match r.tail with
   |(j,.word w)::r2=>if w=NV then
      (match og lo 7 r2 with
       |none=>.inl (Uw len r2)
       |some hi=>parse len (f.unit Ym6::below) .have_ r2.tail)
    else parse len Yhw .have_ r.tail
   |_=>parse len Yhw .have_ r.tail:=by
 have h1:Yi4=parse len Ya6 .wantLo r:=by refine iM ?_;simp[take,qo,rM,qH,zc,wF,IW,oo,jw,zg,p7,gG,A7]
 rw[h1];cases r with
 |nil=>rw[MT];rfl
 |cons p r=>
  obtain⟨j,t⟩:=p;rw[gC];cases t with
  |num w=>
   simp only[take,og,uq];generalize ((numberOf w).bind λn=>if 0<=n/\n<=7 then some n else none)=o;cases o with
   |none=>rfl
   |some n=>
    simp only[Wbb,WeJ];cases r with
    |nil=>exact wu (r:=[]) (by intro i t r' e;cases e)
    |cons p2 r2=>
     obtain⟨k,t2⟩:=p2;cases t2 with
     |word w2=>
      dsimp only;by_cases hw:w2=NV
      ·subst hw;ext Xgm;have h2:parse len Ya6 (.haveLo n) ((k,.word NV)::r2)=parse len Ya6 (.wantHi n) r2:=by refine iM ?_;simp[take,WK]
       rw[h2];cases r2 with
       |nil=>rw[MU];rfl
       |cons p3 r3=>
        obtain⟨k3,t3⟩:=p3;rw[gC];cases t3 with
        |num w3=>
         have e4:take Ya6 (.wantHi n) k3 (.num w3)=((rankNumber w3).bind λm=>if n<=m then some m else none).map λm=>(f.unit (.rank n m)::below,Mode.have_):=by
          simp only[take];cases rankNumber w3 with
          |none=>rfl
          |some m=>
           simp only[WbD];by_cases hm:n<=m
           ·simp[hm]
           ·simp[hm]
         rw[e4,Kq];simp only;generalize ((numberOf w3).bind λm=>if n<=m/\m<=7 then some m else none)=o;cases o<;>rfl
        |_=>rfl
      ·rw[Wae hw];ext XcO;injection e4 with e5;exact hw e5
     |_=>ext XcO;cases e4
  |_=>rfl
def TJ(ok:md r)(h1:ia r≠zg)(h2:ia r≠[40])(h3:ia r≠p7)(h4:ia r≠gG)(h5:ia r≠A7)(h6:ia r≠oo)(h7:ia r≠jw)
(h8:¬(isWord YAl/\ia r∉RESERVED)):Yfq=YBf:=by
 cases r with
 |nil=>exact Ip _ _
 |cons p r=>
  ext XeB;refine wt ?_;have cg:=ok.head;simp only[ia]at h1 h2 h3 h4 h5 h6 h7 h8;cases t with
  |word w=>
   simp only[conv]at h1 h2 h3 h4 h5 h6 h7 h8;have hw:isWord w:=cg;have hr:YcP=true:=by rw[WbB];exact WeM λq=>h8 ⟨hw,q⟩
   simp only[take,qo,rM,qH,zc,wF,IW,Wae h1,Wae h3,Wae h4,Wae h5,Wae h6,Wae h7,hr,WbG]
  |num w=>rfl
  |open_=>exact absurd rfl h2
  |close=>rfl
  |bad=>rfl
def E7(h:YvW=Ycf):parse len (f::g::rest) .have_ ((i,.close)::r)=parse len (g.unit c::rest) .have_ r:=iM (by simp[take,after1,h])
def Jf:parse len Ya6 .have_ ((i,.word KA)::r)=Yfq:=iM (by simp[take,after1,Nh])
def KC:parse len Ya6 .have_ ((i,.word XS)::r)=parse len Yrk .want r:=iM (by simp[take,after1,Nh,WL,KA,XS])
def Je(h:YvW=Ycf):parse len [f] .have_ []=.inr c:=by rw[parse,h]
def UX(ok:md r)(h1:ia r≠KA)(h2:ia r≠XS)(h3:ia r=[41]->below=[])(h4:ia r=[]->below≠[]):parse len Ya6 .have_ r=YBf:=by
 cases r with
 |nil=>
  cases below with
  |nil=>exact absurd rfl (h4 rfl)
  |cons g rest=>rw[parse];all_goals first|rfl|(intros;simp_all)
 |cons p r=>
  ext XeB;refine wt ?_;have cg:=ok.head;simp only[ia]at h1 h2 h3 h4;have e1:t≠ .word (lit "and"):=by rw[Nh];ext Xgs;exact h1 rfl
  have e2:t≠ .word (lit "or"):=by rw[WL];ext Xgs;exact h2 rfl
  simp only[take,after1,Wae e1,Wae e2];cases t with
  |close=>have:=h3 rfl;subst this;rfl
  |_=>rfl
def xH(w:Yaw):Nat:=w.foldl YmM 0
def worth(w:Yaw):Int:=if(w≠[]/\w.all digit=true)/\YhC<=7 then(if 1<YhC/\w.head? =some 48 then-1 else(xH w:Int))else-1
def Px:∀(w:List Nat)(a:Nat),a*10^YhC<=w.foldl YmM a
 |[],a=>by simp
 |c::w,a=>by rw[WaZ,Was];refine WaF ?_ (Px w _);rw[Wcb,Nat.mul_comm (10^YhC) 10,<-Nat.mul_assoc];exact Wc3 _ Yad
def U5(hc:digit c=true)(h0:c≠48)(hl:7<(c::w).length):1000000<YwZ:=by unfold xH;rw[WaZ];rw[gp]at hc;have h1:=Px w (10*0+(c-48));rw[Was]at hl;have h2:10^7<=10^w.length:=WcF YeP Yad;have h3:1*10^YhC<=(10*0+(c-48))*10^w.length:=Wc3 _ Yad;omega
def K9(h:¬isNum w):worth w= -1:=by unfold worth;rw[Wae];rintro⟨⟨h1,h2⟩,_⟩;exact h ⟨h1,λc hc=>Wbe.mp h2 c hc⟩
def Tw(h:isNum w)(hh:hi<=1000000):
  ((Yp2).bind λn=>if lo<=n/\n<=hi then Yx3 else none)=if(lo:Int)<=worth w/\worth w<=(hi:Int)then some (worth w).toNat else none:=by
 obtain⟨h1,h2⟩:=h;cases w with
 |nil=>exact absurd rfl h1
 |cons c w=>
  have hc:=h2 c Ycq;have ha:(c::w).all digit=true:=Wbe.mpr h2;unfold numberOf worth;by_cases h0:1<(c::w).length/\(c::w).head? =some 48
  ·have e1:(c::w).length≠1/\(c::w).head? =some 48:=⟨YaP,h0.2⟩;rw[Wap e1,Wap h0];have e2:(if(c::w≠[]/\(c::w).all digit=true)/\(c::w).length<=7 then(-1:Int)else-1)= -1:=(by split<;>rfl);rw[e2,Wae Yad];rfl
  ·have e1:¬((c::w).length≠1/\(c::w).head? =some 48):=by rintro⟨q1,q2⟩;exact h0 ⟨by simp only[Was]at q1 ⊢;omega,q2⟩
   rw[Wae e1,Wae h0,WbD];have e3:(c::w).foldl YmM 0=YwZ:=rfl;rw[e3];by_cases h7:(c::w).length<=7
   ·have e4:Yhn=(xH (c::w):Int):=Wap ⟨⟨h1,ha⟩,h7⟩;rw[e4];by_cases hb:lo<=YwZ/\YwZ<=hi
    ·rw[Wap hb,Wap Yad];rfl
    ·rw[Wae hb,Wae Yad]
   ·have e4:Yhn= -1:=Wae (λq=>h7 q.2);rw[e4];have h48:c≠48:=by ext Xgs;exact h0 ⟨by simp only[Was]at h7 ⊢;omega,rfl⟩
    have:=U5 hc h48 (w:=w) Yad;have hb:¬(lo<=YwZ/\YwZ<=hi):=Yad;have hb2:¬((lo:Int)<= -1/\(-1:Int)<=(hi:Int)):=Yad;rw[Wae hb,Wae hb2]
def OY(hh:hi<=1000000)(ok:md r):
  og lo hi r=if(lo:Int)<=worth YAl/\worth YAl<=(hi:Int)then some (worth YAl).toNat else none:=by
 cases r with
 |nil=>have:worth (ia [])= -1:=K9 (λh=>h.1 rfl);rw[this,Wae Yad];rfl
 |cons p r=>
  ext XeB;have cg:=ok.head;by_cases hn:isNum (conv t)
  ·obtain⟨w,rfl⟩:=(Jb cg).mp hn;exact Tw hn hh
  ·have e:worth (ia ((i,t)::r))= -1:=K9 hn;rw[e,Wae Yad];cases t with
   |num w=>exact absurd ((Jb cg).mpr ⟨w,rfl⟩) hn
   |_=>rfl
def aJ:Raw->List Yq1
 |.flag i w=>[(i,w)]
 |.not a=>aJ a
 |.and a b=>aJ a++aJ b
 |.or a b=>aJ a++aJ b
 |_=>[]
def fz:Option Raw->List Yq1
 |none=>[]
 |some c=>aJ c
def Pz:YeF->List Yq1
 |[]=>[]
 |f::r=>Pz r++(fz f.ors++fz f.ands)
def cb(p:Nat×Tok):Option Yq1:=match p.2 with
 |.word w=>if RESERVED.contains w=true then none else some (p.1,w)
 |_=>none
def mL:∀(n:Nat)(c:Raw),aJ (negated n c)=aJ c
 |0,_=>rfl
 |n+1,c=>by rw[negated,aJ,mL n c]
def oq(f:Frame)(r:YeF)(u:Raw):Pz (YtU::r)=Pz (f::r)++aJ u:=by
 simp only[Pz,Frame.unit,fz,WaP];cases f.ands with
 |none=>simp[joinAnd,mL,fz]
 |some c=>simp[joinAnd,aJ,mL,fz]
def tG{f:Frame}{c:Raw}(h:YvW=Ycf):aJ c=fz f.ors++fz f.ands:=by
 unfold Frame.whole at h;cases ha:f.ands with
 |none=>rw[ha]at h;cases h
 |some x=>
  rw[ha]at h;simp only[Wbb,WaK]at h;subst h;cases f.ors with
  |none=>simp[joinOr,fz]
  |some y=>simp[joinOr,aJ,fz]
def Good(l:YeF)(m:Mode):Prop:=match l with
 |[]=>False
 |f::_=>m=.have_->f.ands.isSome=true
def Gk{f:Frame}{below l':YeF}{m':Mode}{i:Nat}{t:Tok}(hf:f.ands.isSome=true)(h:after1 f below t=YsT):Pz l'=Pz Ya6++(cb (i,t)).toList/\Good l' m':=by
 unfold after1 at h;split at h
 ·ext Xf4;ext XaI;have:cb (i,Tok.word (lit "and"))=none:=by have e:RESERVED.contains (lit "and")=true:=YeP;simp only[cb,e,WbG]
  rw[this];simp
 ·split at h
  ·ext Xf4;ext XaI;have:cb (i,Tok.word (lit "or"))=none:=by have e:RESERVED.contains (lit "or")=true:=YeP;simp only[cb,e,WbG]
   rw[this];obtain⟨c,hc⟩:∃c,YvW=Ycf:=by obtain⟨a,ha⟩:=Wdr.mp hf;exact⟨_,by unfold Frame.whole;rw[ha];rfl⟩
   simp only[Pz,hc,fz,WaQ,WbW,tG hc]
  ·split at h
   ·rename_i g rest c hc _ _;ext Xad;refine⟨?_,by intro _;rfl⟩;rw[oq,tG YnT];simp[Pz,cb]
   ·cases h
def QJ(hg:Good l m)(h:YoU=YsT):Pz l'=Pz l++(cb (i,t)).toList/\Good l' m':=by
 cases l with
 |nil=>exact hg.elim
 |cons f below=>
  cases m with
  |want=>
   cases t with
   |open_=>
    ext Xbf;split at h
    ·ext Xad;ext XaI;simp[Pz,fz,cb]
    ·cases h
   |word w=>
    ext Xbf;by_cases h1:w=lit "not"
    ·rw[Wap h1]at h;split at h
     ·ext Xad;have e:YcP=true:=(by subst h1;decide);ext XaI;simp only[Pz,cb,e,WbG,WbW,WaQ]
     ·cases h
    ·rw[Wae h1]at h;by_cases h2:w=lit "true"
     ·rw[Wap h2]at h;ext Xad;have e:YcP=true:=(by subst h2;decide);ext XbR;simp only[cb,e,aJ,WbG,WbW,WaQ]
     ·rw[Wae h2]at h;by_cases h3:w=lit "false"
      ·rw[Wap h3]at h;ext Xad;have e:YcP=true:=(by subst h3;decide);ext XbR;simp only[cb,e,aJ,WbG,WbW,WaQ]
      ·rw[Wae h3]at h;by_cases h4:w=lit "from"
       ·rw[Wap h4]at h;ext Xad;have e:YcP=true:=(by subst h4;decide);ext XcM
       ·rw[Wae h4]at h;by_cases h5:w=lit "before"
        ·rw[Wap h5]at h;ext Xad;have e:YcP=true:=(by subst h5;decide);ext XcM
        ·rw[Wae h5]at h;by_cases h6:w=lit "rank"
         ·rw[Wap h6]at h;ext Xad;have e:YcP=true:=(by subst h6;decide);ext XcM
         ·rw[Wae h6]at h;by_cases h7:YcP=true
          ·rw[Wap h7]at h;cases h
          ·rw[Wae h7]at h;ext Xad;ext XbR;simp only[cb,Wae h7];simp[aJ]
   |num w=>cases h
   |close=>cases h
   |bad=>cases h
  |have_=>exact Gk (hg rfl) h
  |wantDay since=>
   cases t with
   |num w=>
    ext Xbf;cases hd:YBw with
    |none=>ext XdF
    |some n=>ext Xa1;ext XbR;cases since<;>simp[aJ,cb]
   |word w=>cases h
   |open_=>cases h
   |close=>cases h
   |bad=>cases h
  |wantLo=>
   cases t with
   |num w=>
    ext Xbf;cases hd:Yl9 with
    |none=>ext XdF
    |some n=>ext Xa1;ext XaI;simp[cb]
   |word w=>cases h
   |open_=>cases h
   |close=>cases h
   |bad=>cases h
  |haveLo lo=>
   ext Xbf;split at h
   ·ext Xf4;have e:RESERVED.contains (lit "to")=true:=YeP;ext XcM
   ·obtain⟨h1,h2⟩:=Gk (i:=i) rfl h;refine⟨?_,h2⟩;rw[h1,oq];simp[aJ]
  |wantHi lo=>
   cases t with
   |num w=>
    ext Xbf;cases hd:Yl9 with
    |none=>ext XdF
    |some n=>
     rw[hd]at h;ext XdE
     ·ext Xad;ext XbR;simp[aJ,cb]
     ·cases h
   |word w=>cases h
   |open_=>cases h
   |close=>cases h
   |bad=>cases h
def FW{len:Nat}:∀(r:Toks)(l:List Frame)(m:Mode)(c:Raw),Good l m->parse len l m r=.inr c->aJ c=Pz l++r.filterMap cb
 |[],l,m,c,hg,h=>by
  unfold parse at h;split at h
  ·split at h
   ·ext Xee;simp[Pz,tG hw]
   ·cases h
  ·split at h
   ·ext Xee;rw[tG hw];have:=oq YnT [] (.rank YnT YnT);simp only[Pz,aJ,WaQ,Wet]at this;simp[Pz,this]
   ·cases h
  ·cases h
  ·rename_i he;cases he
 |(i,t)::r,l,m,c,hg,h=>by
  rw[gC]at h;cases ht:YoU with
  |none=>rw[ht]at h;cases h
  |some q=>obtain⟨l',m'⟩:=q;rw[ht]at h;obtain⟨h1,h2⟩:=QJ hg ht;rw[FW r l' m' c h2 h,h1,WbR];cases cb (i,t)<;>simp
def Ko(h:readRaw w=.inr c):aJ c=(YAy).filterMap cb:=by have:=FW (len:=YhC) (YAy) [{}] .want c (by intro q;cases q) h;simpa[Pz,fz]using this
def bh(s:State)(w:Text):Option Flag:=s.flags.find? λx=>x.text==w
def nL(s:State):Raw->Cond
 |.tt=>.tt
 |.ff=>.ff
 |.flag _ w=>.flag (((bh s w).map λx=>x.key).getD 0)
 |.since d=>YAK
 |.before d=>Yxi
 |.rank a b=>.rank a b
 |.not a=>.not (nL s a)
 |.and a b=>.and (nL s a) (nL s b)
 |.or a b=>.or (nL s a) (nL s b)
def missing(s:State)(l:List Yq1):Option Yq1:=l.find? λp=>(Yrn).isNone
def vC(s:State):∀c:Raw,known s c=match missing s (aJ c)with
  |some p=>.inl p.1
  |none=>.inr YAO
 |.tt=>rfl
 |.ff=>rfl
 |.flag i w=>by simp only[known,aJ,missing,nL,Wbj,WeK];show(match bh s w with|some x=>_|none=>_)=_;cases bh s w<;>rfl
 |.since d=>rfl
 |.before d=>rfl
 |.rank a b=>rfl
 |.not a=>by rw[known,vC s a];simp only[aJ,nL];cases missing s (aJ a)<;>rfl
 |.and a b=>by
   ext XfG;cases(aJ a).find? λp=>(Yrn).isNone with
   |some p=>rfl
   |none=>cases(aJ b).find? λp=>(Yrn).isNone<;>rfl
 |.or a b=>by
   ext XfG;cases(aJ a).find? λp=>(Yrn).isNone with
   |some p=>rfl
   |none=>cases(aJ b).find? λp=>(Yrn).isNone<;>rfl
def b9:Nat->Raw->Text
 |_,.tt=>lit "true"
 |_,.ff=>lit "false"
 |_,.flag _ w=>w
 |_,.since d=>YqT++Yoo
 |_,.before d=>Ym0++Yoo
 |_,.rank lo hi=>YqS++Ytu++(if lo=hi then[]else lit " to "++decimal hi)
 |_,.not a=>Yyg++b9 2 a
 |n,.and a b=>bracket (decide (2<=n)) (b9 1 a++Yn7++b9 2 b)
 |n,.or a b=>bracket (decide (1<=n)) (b9 0 a++Yp3++b9 1 b)
def zU(s:State):Prop:=(s.flags.map λx=>x.key).Nodup
def Py(hk:zU s)(h:bh s w=YeH):flagText s x.key=w:=by
 unfold bh at h;have hm:=WaG h;have ht:x.text=w:=by have q:= @Wbv _ (λy:Flag=>y.text==w) x s.flags h;simpa using q
 unfold flagText;have:s.flags.find? (λy=>y.key==x.key)=YeH:=by
  clear h;unfold zU at hk;generalize s.flags=l at hk hm;induction l with
  |nil=>cases hm
  |cons y l ih=>
   rw[Wbj];rw[Waw,Wa7]at hk;by_cases e:y.key=x.key
   ·rcases Wav.mp hm with q|q
    ·subst q;simp
    ·exfalso;exact hk.1 (WaD.mpr ⟨x,q,e.symm⟩)
   ·have:(y.key==x.key)=false:=Ydr;rw[this];rcases Wav.mp hm with q|q
    ·subst q;exact absurd rfl e
    ·exact ih hk.2 q
 rw[this];exact ht
def kW(hk:zU s):∀(c:Raw)(n:Nat),YhA=none->shown s n YAO=b9 n c
 |.tt,_,_=>rfl
 |.ff,_,_=>rfl
 |.flag i w,n,h=>by
   simp only[missing,aJ,Wbj,WeK]at h;ext XfE;cases hf:bh s w with
   |none=>rw[hf]at h;cases h
   |some x=>exact Py hk hf
 |.since d,_,_=>rfl
 |.before d,_,_=>rfl
 |.rank a b,_,_=>rfl
 |.not a,n,h=>by ext XfE;rw[kW hk a 2 h]
 |.and a b,n,h=>by ext Xc9;ext XfE;rw[kW hk a 1 h.1,kW hk b 2 h.2]
 |.or a b,n,h=>by ext Xc9;ext XfE;rw[kW hk a 0 h.1,kW hk b 1 h.2]
inductive Kd where
 |and|or|other
deriving DecidableEq
def iA(p:Kd×Text):Text:=if p.1=.other then p.2 else[40]++p.2++[41]
def fZ(p:Kd×Text):Text:=if p.1=.or then[40]++p.2++[41]else p.2
def plainS:fY->Text
 |.tt=>lit "true"
 |.ff=>lit "false"
 |.flag w=>w
 |.since d=>YqT++Yoo
 |.before d=>Ym0++Yoo
 |.rank lo hi=>if lo=hi then YqS++Ytu else YqS++Ytu++lit " to "++decimal hi
 |_=>[]
def gb(st:List (Kd×Text))(x:fY):List (Kd×Text):=match x with
 |.not=>match st with
   |p::r=>(.other,Yyg++iA p)::r
   |r=>r
 |.and=>match st with
   |q::p::r=>(.and,fZ p++Yn7++iA q)::r
   |r=>r
 |.or=>match st with
   |q::p::r=>(.or,p.2++Yp3++fZ q)::r
   |r=>r
 |x=>(.other,plainS x)::st
def kdR:Raw->Kd
 |.and _ _=>.and
 |.or _ _=>.or
 |_=>.other
def SW:lit "("=[40]:=by decide
def SV:lit ")"=[41]:=by decide
def Bs(c:Raw):iA (kdR c,YC7)=b9 2 c:=by cases c<;>simp[iA,kdR,b9,bracket,SW,SV]
def Hr(c:Raw):fZ (kdR c,YC7)=b9 1 c:=by cases c<;>simp[fZ,kdR,b9,bracket,SW,SV]
def qD:∀(c:Raw)(st:List (Kd×Text)),(cA c).foldl gb st=(kdR c,YC7)::st
 |.tt,st=>rfl
 |.ff,st=>rfl
 |.flag i w,st=>rfl
 |.since d,st=>rfl
 |.before d,st=>rfl
 |.rank a b,st=>by
   simp only[cA,WaZ,Wbr,gb,plainS,kdR,b9];by_cases h:a=b
   ·simp[h]
   ·simp[h]
 |.not a,st=>by rw[cA,Wa1,qD a st];simp only[WaZ,Wbr,gb,Bs];rfl
 |.and a b,st=>by ext XeN
 |.or a b,st=>by ext XeN
def df(h:n<=1000000):(decimal n).length<=7:=by
 unfold decimal lit;rw[Waa];have e:(toString n).toList=Nat.toDigits 10 n:=by show(Nat.repr n).toList=_;unfold Nat.repr;simp
 rw[e];exact(Nat.length_toDigits_le_iff YeP YeP).mpr Yad
def kP:Raw->Prop
 |.since d=>d<=1000000
 |.before d=>d<=1000000
 |.rank a b=>a<=7/\b<=7
 |.not a=>kP a
 |.and a b=>kP a/\kP b
 |.or a b=>kP a/\kP b
 |_=>True
def pN:Option Raw->Prop
 |none=>True
 |some c=>kP c
def Ei(l:YeF):Prop:=∀f∈l,pN f.ors/\YBR
def Zj:Mode->Prop
 |.haveLo lo=>lo<=7
 |.wantHi lo=>lo<=7
 |_=>True
def uo:∀(n:Nat){c:Raw},kP c->kP (negated n c)
 |0,_,h=>h
 |n+1,_,h=>uo n h
def tj{f:Frame}{c:Raw}(h:pN f.ors/\YBR)(e:YvW=Ycf):kP c:=by
 unfold Frame.whole at e;cases ha:f.ands with
 |none=>rw[ha]at e;cases e
 |some x=>
  rw[ha]at e h;simp only[Wbb,WaK]at e;subst e;cases ho:f.ors with
  |none=>exact h.2
  |some y=>rw[ho]at h;exact⟨h.1,h.2⟩
def BI{f:Frame}{u:Raw}(h:pN f.ors/\YBR)(hu:kP u):pN (YtU).ors/\pN (YtU).ands:=by
 refine⟨h.1,?_⟩;show kP (YvH);cases ha:f.ands with
 |none=>exact uo _ hu
 |some x=>rw[ha]at h;exact⟨h.2,uo _ hu⟩
def Ei.head(h:Ei (f::l)):pN f.ors/\YBR:=h f Ycq
def Ei.tail(h:Ei (f::l)):Ei l:=λg hg=>h g (Waq _ hg)
def Ei.cons(h1:pN f.ors/\YBR)(h:Ei l):Ei (f::l):=λg hg=>by
 rcases Wav.mp hg with q|q
 ·rw[q];exact h1
 ·exact h g q
theorem Qn{f:Frame}{below l':YeF}{m':Mode}{t:Tok}(hf:Ei Ya6)(h:after1 f below t=YsT):Ei l'/\Zj m':=by
 unfold after1 at h;split at h
 ·ext Xbp;exact⟨hf,trivial⟩
 ·split at h
  ·ext Xbp;refine⟨.cons ⟨?_,trivial⟩ hf.tail,trivial⟩;cases hw:YvW with
   |none=>trivial
   |some c=>exact tj (c:=c) hf.head hw
  ·split at h
   ·ext Xbp;exact⟨.cons (BI hf.tail.head (tj hf.head YnT)) hf.tail.tail,trivial⟩
   ·cases h
def DO(h:YBw=Yx3):n<=1000000:=by
 rw[DP]at h;cases hw:Yp2 with
 |none=>rw[hw]at h;cases h
 |some m=>
  rw[hw]at h;ext XdE
  ·cases h;omega
  ·cases h
def A0(h:Yl9=Yx3):n<=7:=by
 rw[uq]at h;cases hw:Yp2 with
 |none=>rw[hw]at h;cases h
 |some m=>
  rw[hw]at h;ext XdE
  ·cases h;omega
  ·cases h
def X9(hf:Ei l)(hm:Zj m)(h:YoU=YsT):Ei l'/\Zj m':=by
 cases l with
 |nil=>cases h
 |cons f below=>
  have hu:∀u,kP u->Ei (YtU::below):=λu q=>.cons (BI hf.head q) hf.tail;cases m with
  |want=>
   cases t with
   |open_=>
    ext Xbf;split at h
    ·ext Xad;exact⟨.cons ⟨Wbp,Wbp⟩ hf,Wbp⟩
    ·cases h
   |word w=>
    ext Xbf
    repeat' split at h
    all_goals first
     |contradiction
     |(simp only[WaK,Wa0]at h
       ext Xcy;first
        |exact⟨hu _ Wbp,Wbp⟩
        |exact⟨hf,Wbp⟩
        |exact⟨.cons hf.head hf.tail,Wbp⟩)
   |num w=>cases h
   |close=>cases h
   |bad=>cases h
  |have_=>exact Qn hf h
  |wantDay since=>
   cases t with
   |num w=>
    ext Xbf;cases hd:YBw with
    |none=>ext XdF
    |some n=>
     ext Xa1;refine⟨hu _ ?_,Wbp⟩;cases since
     ·exact DO hd
     ·exact DO hd
   |word w=>cases h
   |open_=>cases h
   |close=>cases h
   |bad=>cases h
  |wantLo=>
   cases t with
   |num w=>
    ext Xbf;cases hd:Yl9 with
    |none=>ext XdF
    |some n=>ext Xa1;exact⟨hf,A0 hd⟩
   |word w=>cases h
   |open_=>cases h
   |close=>cases h
   |bad=>cases h
  |haveLo lo=>
   ext Xbf;split at h
   ·ext Xad;exact⟨hf,hm⟩
   ·exact Qn (hu (.rank lo lo) ⟨hm,hm⟩) h
  |wantHi lo=>
   cases t with
   |num w=>
    ext Xbf;cases hd:Yl9 with
    |none=>ext XdF
    |some n=>
     rw[hd]at h;ext XdE
     ·ext Xad;exact⟨hu _ ⟨hm,A0 hd⟩,Wbp⟩
     ·cases h
   |word w=>cases h
   |open_=>cases h
   |close=>cases h
   |bad=>cases h
def OR:∀(r:Toks)(l:List Frame)(m:Mode)(c:Raw),Ei l->Zj m->parse len l m r=.inr c->kP c
 |[],l,m,c,hf,hm,h=>by
  unfold parse at h;split at h
  ·split at h
   ·ext Xee;exact tj hf.head hw
   ·cases h
  ·split at h
   ·ext Xee;exact tj (BI hf.head (show kP (.rank _ _)from⟨hm,hm⟩)) hw
   ·cases h
  ·cases h
  ·rename_i he;cases he
 |(i,t)::r,l,m,c,hf,hm,h=>by
  rw[gC]at h;cases ht:YoU with
  |none=>rw[ht]at h;cases h
  |some q=>obtain⟨l',m'⟩:=q;rw[ht]at h;obtain⟨h1,h2⟩:=X9 hf hm ht;exact OR r l' m' c h1 h2 h
def Ig(h:readRaw w=.inr c):kP c:=by refine OR (len:=YhC) (YAy) [{}] .want c (λf hf=>?_) Wbp h;rw[WaE.mp hf];exact⟨Wbp,Wbp⟩
def NO(c:Raw):Prop:=∀p∈aJ c,Ykl<=12
def kJ:∀(c:Raw)(n:Nat),kP c->NO c->(b9 n c).length<=30*(cA c).length
 |.tt,n,_,_=>by simp[b9,cA,lit]
 |.ff,n,_,_=>by simp[b9,cA,lit]
 |.flag i w,n,_,hs=>by have:=hs (i,w) YwB;simp only[b9,cA,Wa5];simp only at this;omega
 |.since d,n,h,_=>by have:=df h;ext Xdz;have e:(YqT).length=5:=YeP;omega
 |.before d,n,h,_=>by have:=df h;ext Xdz;have e:(Ym0).length=7:=YeP;omega
 |.rank a b,n,h,_=>by
   ext Xdp;ext Xdz;ext Xd0;split
   ·simp only[WbK];omega
   ·simp only[Wad];omega
 |.not a,n,h,hs=>by have:=kJ a 2 h hs;ext Xdz;have e:(Yyg).length=4:=YeP;omega
 |.and a b,n,h,hs=>by have h1:=kJ a 1 h.1 (λp hp=>hs p YjR);have h2:=kJ b 2 h.2 (λp hp=>hs p YjQ);have e:(Yn7).length=5:=YeP;ext Xa7
 |.or a b,n,h,hs=>by have h1:=kJ a 0 h.1 (λp hp=>hs p YjR);have h2:=kJ b 1 h.2 (λp hp=>hs p YjQ);have e:(Yp3).length=4:=YeP;ext Xa7
def bm:Nat->(Nat->Bool)->Nat
 |0,_=>0
 |W+1,g=>Yks+(if g W=true then 2^W else 0)
def JK(g:Nat->Bool):∀W,Yks<2^W
 |0=>by simp[bm]
 |W+1=>by have:=JK g W;rw[bm,Wcb];split<;>omega
def gM(g:Nat->Bool):∀(W k:Nat),(Yks).testBit k=(decide (k<W)&&g k)
 |0,k=>by simp[bm]
 |W+1,k=>by
  rw[bm];have ih:=gM g W;by_cases hg:g W=true
  ·rw[Wap hg,Wcj];rcases Wds k W with h|h|h
   ·rw[Nat.testBit_two_pow_add_gt h,ih];simp[h,Wbk h]
   ·subst h;rw[Nat.testBit_two_pow_add_eq,ih];simp[hg]
   ·rw[Nat.testBit_lt_two_pow]
    ·have:¬k<W+1:=Yad;simp[this]
    ·have h1:=JK g W;have h2:2^(W+1)<=2^k:=WcF YeP h;rw[Wcb]at h2;omega
  ·rw[Wae hg,Wee,ih];by_cases h:k=W
   ·subst h;simp[hg]
   ·have:k<W+1↔k<W:=Yad;simp[this]
def ot(h:∀k,x.testBit k=(decide (k<W)&&g k)):x=Yks:=WdP λk=>by rw[h,gM]
def bt(e:∀k,k<W->g k=h k):Yks=bm W h:=
 ot λk=>by
  rw[gM];by_cases hk:k<W
  ·simp[hk,e k hk]
  ·simp[hk]
def Ct(W:Nat)(g h:Nat->Bool):Yks&&& bm W h=bm W λk=>g k&&h k:=ot λk=>by rw[Weo,gM,gM];ext Xhg
def To(W:Nat)(g h:Nat->Bool):Yks|||bm W h=bm W λk=>g k||h k:=ot λk=>by rw[Nat.testBit_or,gM,gM];ext Xhg
def aaP(W:Nat)(g h:Nat->Bool):Yks^^^bm W h=bm W λk=>g k^^h k:=ot λk=>by rw[Wen,gM,gM];ext Xhg
abbrev a4(W:Nat):Nat:=bm W λ_=>true
def W6(W:Nat):a4 W=2^W-1:=(ot (x:=2^W-1) λk=>by rw[Nat.testBit_two_pow_sub_one];simp).symm
def DU(W:Nat):bm W (λ_=>false)=0:=(ot (x:=0) λk=>by simp).symm
def JJ(W:Nat)(g:Nat->Bool):a4 W^^^bm W g=bm W λk=> !g k:=by rw[aaP];exact bt λk _=>by simp
def JL:Yks=a4 W↔∀k,k<W->g k=true:=by
 ext XaT
 ·intro e k hk;have h:=gM g W k;rw[e,gM]at h;simp[hk]at h;exact h
 ·intro h;exact bt h
def i6:Yks=0↔∀k,k<W->g k=false:=by
 ext XaT
 ·intro e k hk;have h:=gM g W k;rw[e]at h;simp[hk]at h;exact h
 ·intro h;rw[<-DU W];exact bt h
def aaQ(e:Yks=bm W h):∀k,k<W->g k=h k:=by intro k hk;have a:=gM g W k;rw[e,gM]at a;simp[hk]at a;exact a.symm
def XC:∀{x y:Nat},x&&& y=0->x+y=x|||y:=by
 intro x;induction x using Nat.strongRecOn with
 |_ x ih=>
  intro y h;by_cases hx:x=0
  ·subst hx;simp
  ·have h2:x/2&&& y/2=0:=(by rw[<-Wer,h]);have e:=ih (x/2) Yad h2;have hm:¬((x&&& y)%2=1):=(by rw[h];decide);rw[WdC]at hm;have e1:(x|||y)/2=x/2+y/2:=(by rw[Nat.or_div_two,e]);have e2:(x|||y)%2=1↔x%2=1∨y%2=1:=Nat.or_mod_two_eq_one;have d:=Nat.div_add_mod (x|||y) 2;have dx:=WcD x;have dy:=WcD y;have dz:=WcD (x|||y);omega
def R0(W:Nat)(d:∀k,k<W->¬(g k=true/\h k=true)):Yks+bm W h=bm W λk=>g k||h k:=by rw[XC,To];rw[Ct];exact i6.mpr λk hk=>by have:=d k hk;cases e:g k<;>cases e2:h k<;>simp_all
def DT(W V:Nat)(g:Nat->Bool):Yks*2^V=bm (W+V) λk=>decide (V<=k)&&g (k-V):=
 ot λk=>by
  rw[Nat.testBit_mul_two_pow,gM];by_cases h:V<=k
  ·have:k-V<W↔k<W+V:=Yad;simp[h,this]
  ·simp[h]
def JI(g:Nat->Bool)(h:W<=V):Yks=bm V λk=>decide (k<W)&&g k:=
 ot λk=>by
  rw[gM];by_cases hk:k<W
  ·simp[hk,WaU hk h]
  ·simp[hk]
def LZ(W:Nat)(g:Nat->Bool):Yks|||bm W g*2^W=bm (W+W) λk=>if k<W then g k else g (k-W):=by
 rw[DT,JI g (Wbs W W),To];refine bt λk hk=>?_;by_cases h:k<W
 ·have:¬W<=k:=Yad;simp[h,this]
 ·have:W<=k:=Yad;simp[h,this]
def Y6(W:Nat):a4 W*2^W=bm (W+W) λk=>decide (W<=k):=by rw[a4,DT];exact bt λk hk=>by simp
def Pu(W:Nat):a4 W|||a4 W*2^W=a4 (W+W):=by rw[a4,LZ];exact bt λk hk=>by simp
def yB(W:Nat)(g:Nat->Tri):Nat:=bm W λk=>g k==Yb8
def nB(W:Nat)(g:Nat->Tri):Nat:=bm W λk=>g k==YbR
def CL(e:∀k,k<W->g k=h k):yB W g=yB W h:=bt λk hk=>by rw[e k hk]
def Wz(e:∀k,k<W->g k=h k):nB W g=nB W h:=bt λk hk=>by rw[e k hk]
def VD(W:Nat)(g h:Nat->Tri):yB W g&&& yB W h=yB W λk=>and3 (g k) (h k):=by unfold yB;rw[Ct];exact bt λk _=>by ext XaB
def aal(W:Nat)(g h:Nat->Tri):nB W g|||nB W h=nB W λk=>and3 (g k) (h k):=by unfold nB;rw[To];exact bt λk _=>by ext XaB
def aa8(W:Nat)(g h:Nat->Tri):yB W g|||yB W h=yB W λk=>or3 (g k) (h k):=by unfold yB;rw[To];exact bt λk _=>by ext XaB
def abE(W:Nat)(g h:Nat->Tri):nB W g&&& nB W h=nB W λk=>or3 (g k) (h k):=by unfold nB;rw[Ct];exact bt λk _=>by ext XaB
def ZK(W:Nat)(g:Nat->Tri):yB W (λk=>not3 (g k))=nB W g:=bt λk _=>by ext Xgx;ext Xcx
def aak(W:Nat)(g:Nat->Tri):nB W (λk=>not3 (g k))=yB W g:=bt λk _=>by ext Xgx;ext Xcx
def XX(W:Nat)(g:Nat->Bool):yB W YxX=Yks:=bt λk _=>by dsimp only;cases g k<;>rfl
def YL(W:Nat)(g:Nat->Bool):nB W YxX=a4 W^^^bm W g:=by rw[JJ];exact bt λk _=>by dsimp only;cases g k<;>rfl
def VC(W:Nat):yB W (λ_=>Yb8)=a4 W:=bt λk _=>rfl
def aaj(W:Nat):nB W (λ_=>Yb8)=0:=DU W
def aa9(W:Nat):yB W (λ_=>YbR)=0:=DU W
def abF(W:Nat):nB W (λ_=>YbR)=a4 W:=bt λk _=>rfl
def XY(W:Nat):yB W YBI=0:=DU W
def YM(W:Nat):nB W YBI=0:=DU W
def Gn(W:Nat)(rk:Nat->Nat)(B:Yaw):Prop:=B.length=8/\∀r,r<8->B[r]? =some (bm W λk=>rk k==r)
def OH(W:Nat)(rk:Nat->Nat)(B:Yaw)(h:Yxc)(lo:Nat):∀n,lo+n<=8->((Ytl).take n).sum=bm W λk=>YxO&&decide (rk k<lo+n)
 |0,_=>by
  rw[WeI];refine(i6.mpr λk _=>?_).symm;by_cases h1:lo<=rk k
  ·have:¬rk k<lo+0:=Yad;simp[this]
  ·simp[h1]
 |n+1,hn=>by
  have ih:=OH W rk B h lo n Yad;have hb:=h.2 (lo+n) Yad;have e:(Ytl).take YCG=(Ytl).take n++[bm W λk=>rk k==lo+n]:=by rw[List.take_add_one,Wd5,hb];rfl
  rw[e,List.sum_append,ih];simp only[Wcl,List.sum_nil,Wee];rw[R0]
  ·refine bt λk _=>?_;by_cases h1:rk k=lo+n
   ·simp[h1]
   ·by_cases h2:lo<=rk k
    ·have:rk k<lo+YCG↔rk k<lo+n:=Yad;simp[h1,h2,this]
    ·have:¬lo<=rk k:=h2;simp[this,h1]
  ·rintro k _ ⟨a,b⟩;simp at a b;omega
def Rc(h:Yxc)(h1:lo<=hi)(h2:hi<=7):
  ((Ytl).take Yxj).sum=bm W λk=>YxO&&decide (rk k<=hi):=by
 rw[OH W rk B h lo Yxj Yad];refine bt λk _=>?_;have:rk k<lo+Yxj↔rk k<=hi:=Yad;simp[this]
def cp:Yaw->Nat->Nat->Bool
 |[],_,_=>false
 |k::r,x,w=>if x=k then decide (2^YcN<=w)else cp r x (if w<2^YcN then w else w-2^YcN)
def qK(ks:Yaw)(w:Nat):Ybf:=ks.map λx=>(x,YBT)
theorem VJ(nd:(k::r).Nodup)(h:w<2^YcN):qK (k::r) w=YB3::qK r w:=by
 ext Xdw
 ·simp[cp,Nat.not_le_of_lt h]
 ·ext XgJ;simp[cp,this,h]
theorem VL(nd:(k::r).Nodup)(h:2^YcN<=w):qK (k::r) w=(k,true)::qK r (w-2^YcN):=by
 ext Xdw
 ·simp[cp,h]
 ·ext XgJ;simp[cp,this,Nat.not_lt_of_le h]
theorem zk:∀{ks:List Nat},YtT->fillings ks=(List.range (2^YbL)).map (qK ks)
 |[],_=>rfl
 |k::r,nd=>by
  have ih:=zk (List.nodup_cons.mp nd).2;rw[fillings,ih,List.length_cons,Nat.pow_succ,Nat.mul_two,List.range_add,List.map_append,List.map_map,List.map_map,List.map_map];congr 1
  ·ext Xeg;rw[VJ nd (List.mem_range.mp hw)];rfl
  ·ext Xeg;show _=qK (k::r) (2^YcN+w);rw[VL nd YrO,Nat.add_sub_cancel_left];rfl
def vX:∀{ks:List Nat},YtT->∀f:Nat->Bool,∃w,w<2^YbL/\∀x∈ks,YBT=f x
 |[],_,f=>⟨0,Ydx,λx hx=>by simp at hx⟩
 |k::r,nd,f=>by
  obtain⟨w,hw,h⟩:=vX (Yp7).2 f;have hk:k∉r:=(Yp7).1;have e:2^(k::r).length=2^YcN+2^r.length:=by rw[Was,Wcb];omega
  cases hf:f k with
  |false=>
   refine⟨w,YaP,Yx8⟩;rcases Wav.mp hx with rfl|hx
   ·simp[cp,hf,hw]
   ·ext XdU;simp[cp,this,hw,h x hx]
  |true=>
   refine⟨w+2^YcN,YaP,Yx8⟩;rcases Wav.mp hx with rfl|hx
   ·simp[cp,hf]
   ·ext XdU;have h2:¬w+2^YcN<2^r.length:=Yad;simp only[cp,Wae this,Wae h2,Wdj,h x hx]
def maskOf(ks:Yaw)(x:Nat):Nat:=bm (2^YbL) (cp ks x)
def WB:maskOf (k::r) k=a4 (2^YcN)*2^(2^YcN):=by rw[Y6];unfold maskOf;rw[Was,Wcb,Wep];exact bt λw _=>by simp[cp]
def WA(h:x≠k):maskOf (k::r) x=maskOf r x|||maskOf r x*2^(2^r.length):=by
 unfold maskOf;rw[LZ,Was,Wcb,Wep];exact bt λw hw=>by
  simp only[cp,Wae h];by_cases hw2:w<2^YcN
  ·simp[hw2]
  ·simp[hw2]
def W5:a4 (2^(k::r).length)=a4 (2^YcN)|||a4 (2^r.length)*2^(2^r.length):=by rw[Pu,Was,Wcb,Wep]
def uB(a b:Ybf)(x:Nat):factOf (a++b) x=match factOf a x with
  |some v=>YcV
  |none=>factOf b x:=by
 ext Xfl;rw[WbI];cases h:a.find? (λy=>y.1==x)<;>rfl
def RL(w x:Nat):factOf (qK ks w) x=if x∈ks then some (YBT)else none:=by
 unfold factOf qK;generalize hb:cp ks=b;clear hb;induction ks with
 |nil=>rfl
 |cons k r ih=>
  rw[Waw,Wbj];by_cases h:k=x
  ·subst h;simp
  ·have h2:¬x=k:=λe=>h e.symm;simp only[WbV,h,h2,Wav,false_or,Wca];rw[show((k==x)=false)from by simp[h]];exact ih
def cG(facts:Ybf)(u:Yaw)(w:Nat):Facts:=λx=>match factOf facts x with
 |some v=>YcV
 |none=>if x∈u then some (cp u x w)else none
theorem Hs(facts:Ybf)(u:Yaw)(w:Nat):factOf (facts++qK u w)=cG facts u w:=by funext x;rw[uB,RL];rfl
def K8(l:Yaw):Prop:=l.Pairwise (· < ·)
def eF:∀{l:List α},y∈Yqw↔y=x∨y∈l
 |[]=>by simp[place]
 |z::r=>by
  unfold place;split
  ·simp
  ·rw[Wav,eF (l:=r),Wav];ext XaT
   ·rintro(h|h|h)<;>simp[h]
   ·rintro(h|h|h)<;>simp[h]
def mM:∀{l:List α},(l.map key).Pairwise (· < ·)->(∀y∈l,key y≠key x)->((Yqw).map key).Pairwise (· < ·)
 |[],_,_=>by simp[place]
 |z::r,h,hn=>by
  rw[Waw,Wcd]at h;have hz:=hn z Ycq;unfold place;split
  ·rename_i hlt;rw[Waw,Wcd];refine⟨λa ha=>?_,by rw[Waw,Wcd];exact h⟩;rw[Waw,Wav]at ha;rcases ha with rfl|ha
   ·exact hlt
   ·exact WcM hlt (h.1 a ha)
  ·rename_i hlt;rw[Waw,Wcd];refine⟨λa ha=>?_,mM h.2 λy hy=>hn y Yp5⟩;obtain⟨y,hy,rfl⟩:=WaD.mp ha;ext Xgn
   ·omega
   ·exact h.1 _ (WaX hy)
def bO:x∈YAz↔x∈l:=by
 induction l with
 |nil=>simp[sorted]
 |cons a r ih=>
  ext XaO;split
  ·rename_i h;rw[ih,Wav];ext XaT
   ·exact .inr
   ·rintro(rfl|h2)
    ·exact ih.mp (WbB.mp h)
    ·exact h2
  ·rw[eF,ih,Wav]
def bP:∀l:Yaw,K8 (YAz)
 |[]=>by simp[sorted,K8]
 |a::r=>by
  ext XaO;split
  ·exact bP r
  ·rename_i h;have:=mM (key:=id) (x:=a) (l:=sorted r) (by simpa[K8]using bP r) (λy hy e=>h (WbB.mpr (by rw[<-show y=a from e];exact hy)));simpa[K8]using this
def tM:∀{a b:List Nat},K8 a->K8 b->(∀x,x∈a↔x∈b)->a=b
 |[],[],_,_,_=>rfl
 |[],y::b,_,_,h=>by have:=(h y).mpr Ycq;ext Xhj
 |x::a,[],_,_,h=>by have:=(h x).mp Ycq;ext Xhj
 |x::a,y::b,ha,hb,h=>by
  unfold K8 at ha hb;rw[Wcd]at ha hb;have hx:x=y:=by
   rcases Wav.mp ((h x).mp Ycq)with e|e
   ·exact e
   ·rcases Wav.mp ((h y).mpr Ycq)with e2|e2
    ·exact e2.symm
    ·have:=hb.1 x e;have:=ha.1 y e2;omega
  subst hx;refine Wa6 (x:: ·) (tM ha.2 hb.2 λz=>?_);ext XaT
  ·intro hz;rcases Wav.mp ((h z).mp (Waq _ hz))with e|e
   ·have:=ha.1 z hz;omega
   ·exact e
  ·intro hz;rcases Wav.mp ((h z).mpr (Waq _ hz))with e|e
   ·have:=hb.1 z hz;omega
   ·exact e
def fH(h:K8 l):l.Nodup:=Wdx (λh e=>by omega) h
def kU(l:Yaw):(YAz).Nodup:=fH (bP l)
def Lo(hm:K8 m)(h:∀x,x∈m↔x∈l):YAz=m:=tM (bP l) hm λx=>by rw[bO,h]
def v9(h:∀x,x∈l↔x∈m):YAz=sorted m:=tM (bP l) (bP m) λx=>by rw[bO,bO,h]
def tU:(YAz).length<=Yc9:=by
 induction l with
 |nil=>simp[sorted]
 |cons a r ih=>
  ext XaO;have hp:∀l:Yaw,(place id a l).length=Yc9+1:=by
   intro l;induction l with
   |nil=>rfl
   |cons z r ih=>unfold place;split<;>simp[ih]
  split
  ·exact Nat.le_succ_of_le ih
  ·rw[hp,Was];omega
def FU(h:Yxc)(h2:hi<=7):
  ((Ytl).take Yxj).sum=bm W λk=>YxO&&decide (rk k<=hi):=by
 by_cases h1:lo<=hi
 ·exact Rc h h1 h2
 ·rw[show hi+1-lo=0 by omega,WeI];refine(i6.mpr λk _=>?_).symm;by_cases h3:lo<=rk k
  ·have:¬rk k<=hi:=Yad;simp[this]
  ·simp[h3]
def Sx(B:Yaw)(lo hi:Nat):Nat:=((Ytl).take Yxj).sum
def kc(W:Nat)(B:Yaw)(fv:Text->Nat×Nat)(day:Nat):fY->Nat×Nat
 |.tt=>(a4 W,0)
 |.flag w=>fv w
 |.since d=>if d<=day then(a4 W,0)else(0,a4 W)
 |.before d=>if day<d then(a4 W,0)else(0,a4 W)
 |.rank lo hi=>(Sx B lo hi,a4 W^^^Sx B lo hi)
 |_=>(0,a4 W)
def P8(a b:Nat×Nat):Nat×Nat:=(a.1&&& b.1,a.2|||b.2)
def Ao(a b:Nat×Nat):Nat×Nat:=(a.1|||b.1,a.2&&& b.2)
def eV(W:Nat)(B:Yaw)(fv:Text->Nat×Nat)(day:Nat)(st:YA9)(x:fY):YA9:=match x with
 |.not=>match st with
   |a::r=>(a.2,a.1)::r
   |r=>r
 |.and=>match st with
   |b::a::r=>P8 a b::r
   |r=>r
 |.or=>match st with
   |b::a::r=>Ao a b::r
   |r=>r
 |x=>kc W B fv day x::st
def qF(W:Nat)(g:Nat->Tri):Nat×Nat:=(yB W g,nB W g)
def qE(e:∀k,k<W->g k=h k):qF W g=qF W h:=by unfold qF;rw[CL e,Wz e]
def P7(W:Nat)(g h:Nat->Tri):P8 (qF W g) (qF W h)=qF W λk=>and3 (g k) (h k):=by unfold P8 qF;rw[VD,aal]
def wO(W:Nat)(g h:Nat->Tri):Ao (qF W g) (qF W h)=qF W λk=>or3 (g k) (h k):=by unfold Ao qF;rw[aa8,abE]
def VU(W:Nat)(g:Nat->Tri):((qF W g).2,(qF W g).1)=qF W λk=>not3 (g k):=by unfold qF;rw[ZK,aak]
def CN(W:Nat):qF W (λ_=>Yb8)=(a4 W,0):=by unfold qF;rw[VC,aaj]
def Mj(W:Nat):qF W (λ_=>YbR)=(0,a4 W):=by unfold qF;rw[aa9,abF]
def N8(W:Nat):qF W YBI=(0,0):=by unfold qF;rw[XY,YM]
def CO(W:Nat)(g:Nat->Bool):qF W YxX=(Yks,a4 W^^^bm W g):=by unfold qF;rw[XX,YL]
def Es(W:Nat)(b:Bool):qF W (λ_=>Yt3)=if b=true then(a4 W,0)else(0,a4 W):=by
 cases b
 ·rw[Mj];rfl
 ·rw[CN];rfl
def zf(s:State)(w:Text):Nat:=((bh s w).map λx=>x.key).getD 0
def Fm{s:State}{W:Nat}{rk:Nat->Nat}{B:Yaw}(hB:Yxc){F:Nat->Facts}{fv:Text->Nat×Nat}{day:Nat}:
  ∀(c:Raw),kP c->(∀p∈aJ c,fv p.2=qF W λk=>F k (zf s p.2))->∀st:YA9,
   (cA c).foldl (eV W B fv day) st=(qF W λk=>value (F k) day (rk k) YAO)::st
 |.tt,_,_,st=>by simp only[cA,WaZ,Wbr,eV,kc,nL,value,CN]
 |.ff,_,_,st=>by simp only[cA,WaZ,Wbr,eV,kc,nL,value,Mj]
 |.flag i w,_,h,st=>by simp only[cA,WaZ,Wbr,eV,kc,nL,value];rw[h (i,w) YwB];rfl
 |.since d,_,_,st=>by ext Xg2
 |.before d,_,_,st=>by ext Xg2
 |.rank lo hi,ok,_,st=>by simp only[cA,WaZ,Wbr,eV,kc,nL,value];rw[Sx,FU hB ok.2,<-CO]
 |.not a,ok,h,st=>by rw[cA,Wa1,Fm hB a ok h st];simp only[WaZ,Wbr,eV,nL,value];rw[VU]
 |.and a b,ok,h,st=>by ext Xbc;rw[P7]
 |.or a b,ok,h,st=>by ext Xbc;rw[wO]
structure Zf (s:State) (r:Rule) (S:Ymd):Prop where
 ex:∃c:Raw,S=cA c/\kP c/\YhA=none/\r.cond=nL s c
def OF(W:Nat)(B:Yaw)(fv:Text->Nat×Nat)(day:Nat)(r:Rule)(S:Ymd):Nat×Nat:=
 let sp:=if r.first<=day/\day<=r.last then Yue else 0
 if sp=0 then(a4 W,0)else Ao ((S.foldl (eV W B fv day) []).headD (0,0)) (a4 W^^^sp,sp)
def iR(s:State):∀c:Raw,flagsIn YAO=(aJ c).map λp=>zf s p.2
 |.tt=>rfl
 |.ff=>rfl
 |.flag i w=>rfl
 |.since d=>rfl
 |.before d=>rfl
 |.rank a b=>rfl
 |.not a=>by rw[nL,flagsIn,iR s a];rfl
 |.and a b=>by rw[nL,flagsIn,iR s a,iR s b,aJ,Wal]
 |.or a b=>by rw[nL,flagsIn,iR s a,iR s b,aJ,Wal]
def Mb(s:State)(W:Nat)(F:Nat->Facts)(fv:Text->Nat×Nat):Prop:=∀x∈Yhd,fv x.text=qF W λk=>F k x.key
def Mb.at(h:Mb s W F fv)(hm:YhA=none):
  ∀p∈aJ c,fv p.2=qF W λk=>F k (zf s p.2):=by
 intro p hp;have h1:=WaR.mp hm p hp;cases e:Yrn with
 |none=>rw[e]at h1;simp at h1
 |some x=>
  have hx:x∈Yhd:=WaG e;have ht:x.text=p.2:=by simpa using Wbv e
  unfold zf;rw[e,<-ht];exact h x hx
theorem Wd(hB:Yxc)(hf:Mb s W F fv)(hS:Zf s r S)(hr:r.hi<=7):
  OF W B fv day r S=qF W λk=>ruleValue (F k) day (rk k) r:=by
 obtain⟨c,rfl,ok,hm,hc⟩:=hS.ex;have e1:=Fm (s:=s) hB (F:=F) (fv:=fv) (day:=day) c ok (hf.at hm) [];unfold OF;rw[e1,List.headD_cons];dsimp only;by_cases hd:YvU<=day/\day<=r.last
 ·rw[if_pos hd,Sx,FU hB hr];split
  ·rename_i h0;rw[<-CN];refine qE λk hk=>?_;have:=i6.mp h0 k hk;ext Xdk;rintro⟨_,_,h3,h4⟩;simp[h3,h4]at this
  ·have e2:(a4 W^^^(bm W λk=>Ynr&&Ynq),bm W λk=>Ynr&&Ynq)=qF W λk=>some (!(Ynr&&Ynq)):=by rw[CO,JJ];congr 1;rw[JJ];exact bt λk _=>by simp
   rw[e2,wO];refine qE λk hk=>?_;unfold ruleValue speaks;rw[<-hc];simp only[hd.1,hd.2,decide_true,Bool.true_and];cases hb:(Ynr&&Ynq)with
   |true=>simp only[Bool.not_true,if_true];ext Xfy
   |false=>simp only[Bool.not_false];ext Xfy
 ·rw[if_neg hd,if_pos rfl,<-CN];refine qE λk hk=>?_;ext Xdk;rintro⟨h1,h2,_⟩;exact hd ⟨Zb7⟩
def Vr(a b:Tri):and3 a b=and3 b a:=by ext Xgo
def CB(a b c:Tri):and3 (and3 a b) c=and3 a (and3 b c):=by ext XdY
def XA(a:Tri):and3 a (Yb8)=a:=by ext Xcx
def CK(a:Tri):and3 (Yb8) a=a:=by ext Xcx
def Ws(a:Tri):or3 a (YbR)=a:=by ext Xcx
def Wx(a:Tri):or3 (YbR) a=a:=by ext Xcx
def UB(a b c:Tri):or3 (or3 a b) c=or3 a (or3 b c):=by ext XdY
def lC(f:Facts)(day rank:Nat):∀(l:List Rule)(a:Tri),l.foldl (λa r=>and3 a (Ylg)) a=and3 a (YjJ)
 |[],a=>by simp[passes,XA]
 |r::l,a=>by rw[WaZ,lC f day rank l];show and3 (and3 a _) _=and3 a (YfT);rw[CB]
def yK(h:l.Perm m):YjJ=passes f day rank m:=by unfold passes;exact h.foldr_eq' (λx _ y _ z=>by rw[<-CB,<-CB,Vr (ruleValue f day rank x) (ruleValue f day rank y)]) _
def bK(day:Nat):Yo1->List Edition
 |[]=>[]
 |e::r=>e::(if leans e day=true then bK day r else[])
def pM(s:State)(f:Facts)(day rank:Nat):∀(l:List Edition)(a:Tri),(bK day l).foldl (λa e=>or3 a (passes f day rank (YdL))) a=or3 a (YDX)
 |[],a=>by simp[bK,available,Ws]
 |e::r,a=>by
  rw[bK,WaZ,available];by_cases h:leans e day=true
  ·rw[Wap h,Wap h,pM s f day rank r,UB]
  ·rw[Wae h,Wae h,Wbr,Ws]
def F1(s:State)(day rank:Nat):∀(l:List Edition),YuI=(bK day l).flatMap λe=>(YdL).filter λx=>speaks x day rank
 |[]=>rfl
 |e::r=>by
  rw[looked,bK,Wb3];by_cases h:leans e day=true
  ·rw[Wap h,Wap h,F1 s day rank r]
  ·rw[Wae h,Wae h];rfl
def mB:∀(c:Cond),(∀k∈flagsIn c,(f k).isSome=true)->(value f day rank c).isSome=true
 |.tt,_=>rfl
 |.ff,_=>rfl
 |.flag k,h=>h k (by simp[flagsIn])
 |.since d,_=>rfl
 |.before d,_=>rfl
 |.rank a b,_=>rfl
 |.not a,h=>by have:=mB (day:=day) (rank:=rank) a h;simp only[value];revert this;rcases value f day rank a with _|_|_<;>simp[not3]
 |.and a b,h=>by ext XaZ;rcases value f day rank a with _|_|_<;>rcases value f day rank b with _|_|_<;>simp[and3]
 |.or a b,h=>by ext XaZ;rcases value f day rank a with _|_|_<;>rcases value f day rank b with _|_|_<;>simp[or3,and3,not3]
def Us(h:speaks r day rank=true->∀k∈Ya2,(f k).isSome=true):(Ylg).isSome=true:=by
 unfold ruleValue;split
 ·rename_i hs;exact mB _ (h hs)
 ·rfl
def FV:∀{l:List Rule},(∀r∈l,speaks r day rank=true->∀k∈Ya2,(f k).isSome=true)->(YjJ).isSome=true
 |[],_=>rfl
 |r::l,h=>by have h1:=Us (h r Ycq);have h2:=FV λx hx=>Ypm;show(YfT).isSome=true;revert h1 h2;rcases ruleValue f day rank r with _|_|_<;>rcases passes f day rank l with _|_|_<;>simp[and3]
def zQ:∀{l:List Edition},(∀r∈YuI,∀k∈Ya2,(f k).isSome=true)->(YDX).isSome=true
 |[],_=>rfl
 |e::r,h=>by
  rw[looked]at h;have h1:(passes f day rank (YdL)).isSome=true:=FV λx hx hs=>h x (Wac.mpr (.inl (Wbf.mpr ⟨hx,hs⟩)));have h2:(if leans e day=true then available s f day rank r else YbR).isSome=true:=by
   split
   ·rename_i hl;rw[Wap hl]at h;exact zQ λx hx=>h x (Wac.mpr (.inr hx))
   ·rfl
  rw[available];revert h1 h2;rcases passes f day rank (YdL)with _|_|_<;>rcases(if leans e day=true then available s f day rank r else some false)with _|_|_<;>simp[or3,and3,not3]
def yY:
  k∈Yan↔(∃r∈YuI,k∈Ya2)/\YDi=none:=by
 unfold unknown;rw[bO,Wbf,WbF,WeH]
def fP(s:State)(facts:Ybf)(day rank:Nat)(l:Yo1):(Yan).Nodup:=kU _
def N0(w:Nat):
  (available s (YDk) day rank l).isSome=true:=by
 refine zQ λr hr k hk=>?_;unfold cG;cases e:YDi with
 |some v=>rfl
 |none=>dsimp only;rw[Wap (yY.mpr ⟨⟨r,hr,hk⟩,e⟩)];rfl
def dE(s:State)(facts:Ybf)(day rank:Nat)(l:Yo1)(u:Yaw)(w:Nat):Tri:=available s (cG facts u w) day rank l
def Lm(s:State)(facts:Ybf)(day rank:Nat)(l:Yo1):Yo6=
  if(∀w,w<2^(Yan).length->Ye1=Yb8)then Yb8
  else if(∀w,w<2^(Yan).length->Ye1=YbR)then YbR else none:=by
 unfold surely;dsimp only;rw[zk (fP ..)];have key:∀b:Bool,((((List.range Yrf).map (qK YwG)).map λv=>available s (factOf (facts++v)) day rank l).all λv=>v==Yt3)=true↔
   ∀w,w<2^(Yan).length->Ye1=Yt3:=by
  intro b;rw[Wbe];ext XaT
  ·intro h w hw;have:=h _ (WaX (WaX (Wbx.mpr hw)));rw[WbV,Hs]at this;exact this
  ·intro h x hx;obtain⟨v,hv,rfl⟩:=Yth;obtain⟨w,hw,rfl⟩:=WaD.mp hv;rw[WbV,Hs];exact h w (Wbx.mp hw)
 simp only[key]
def T4(s:State)(facts:Ybf)(day rank:Nat)(l:Yo1)(hu:u=Yan)(hn:n=2^Yaz):
  code (Yo6)=if yB n Yey=a4 n then 1 else if yB n Yey=0 then 0 else 2:=by
 subst hu;subst hn;rw[Lm];unfold yB;by_cases h1:∀w,w<2^(Yan).length->Ye1=Yb8
 ·rw[Wap h1,Wap (JL.mpr λw hw=>by rw[h1 w hw];rfl)];rfl
 ·have h1':¬bm Yrf Yrh=a4 Yrf:=λe=>h1 λw hw=>by simpa using JL.mp e w hw
  rw[Wae h1,Wae h1'];by_cases h2:∀w,w<2^(Yan).length->Ye1=YbR
  ·rw[Wap h2,Wap (i6.mpr λw hw=>by rw[h2 w hw];rfl)];rfl
  ·have h2':¬bm Yrf Yrh=0:=by intro e;refine h2 λw hw=>?_;have a:=i6.mp e w hw;ext XbF
   rw[Wae h2,Wae h2'];rfl
abbrev Qw:=Ybf×Yaw
def exts(p:Ybf):Yaw->List Qw
 |[]=>[]
 |k::r=>(p++[YB3],r)::(p++[(k,true)],r)::exts p r
def xJ(c:Nat×Bool)(x:Qw):Qw:=(c::x.1,x.2)
def bB:Nat->Yaw->List Qw
 |0,u=>[([],u)]
 |_+1,[]=>[]
 |n+1,k::r=>(bB n r).map (xJ YB3)++((bB n r).map (xJ (k,true))++bB YCG r)
def gB:∀(n:Nat)(u:List Nat),(YmV).map (·.1)=picks n u
 |0,u=>by simp[bB,picks]
 |n+1,[]=>rfl
 |n+1,k::r=>by rw[bB,picks,Wal,Wal,gB YCG r,<-gB n r,Wax,Wax,Wax,Wax];rfl
def LP(c:Nat×Bool)(p:Ybf):∀l,exts (c::p) l=(exts p l).map (xJ c)
 |[]=>rfl
 |k::r=>by rw[exts,exts,LP c p r];rfl
theorem E9(c:Nat×Bool):∀l:List Qw,(l.map (xJ c)).flatMap (λx=>YoY)=(l.flatMap λx=>YoY).map (xJ c)
 |[]=>rfl
 |x::l=>by rw[List.map_cons,List.flatMap_cons,List.flatMap_cons,List.map_append,E9 c l];congr 1;exact LP c x.1 x.2
def nX:∀(n:Nat)(u:List Nat),bB YCG u=(YmV).flatMap λx=>exts x.1 x.2
 |0,[]=>rfl
 |0,k::r=>by have ih:=nX 0 r;show(bB 0 r).map (xJ YB3)++((bB 0 r).map (xJ (k,true))++bB (0+1) r)=_;rw[ih];simp[bB,exts,xJ]
 |n+1,[]=>rfl
 |n+1,k::r=>by
  have ih1:=nX n r;have ih2:=nX YCG r;rw[bB,ih2]
  conv=>rhs;rw[bB]
  rw[Wb4,Wb4,E9,E9,<-ih1]
def iK:∀(n:Nat)(u:List Nat)(x:Qw),x∈YmV->(x.1.map (·.1)).Sublist u/\x.1.length=n
 |0,u,x,h=>by rw[bB,WaE]at h;subst h;exact⟨List.nil_sublist _,rfl⟩
 |n+1,[],x,h=>by simp[bB]at h
 |n+1,k::r,x,h=>by
  rw[bB,Wac,Wac]at h;ext Xeh
  ·ext Xcm
  ·ext Xcm
  ·have:=iK YCG r x h;exact⟨this.1.cons k,this.2⟩
def qj:∀(n:Nat)(u:List Nat)(x:Qw),x∈YmV->x.2.Sublist u
 |0,u,x,h=>by rw[bB,WaE]at h;subst h;exact Wdv _
 |n+1,[],x,h=>by simp[bB]at h
 |n+1,k::r,x,h=>by
  rw[bB,Wac,Wac]at h;ext Xeh
  ·ext Xff
  ·ext Xff
  ·exact(qj YCG r x h).cons k
def Ux(h:p∈Ytc):(YsV).Sublist u/\p.length=n:=by rw[<-gB]at h;obtain⟨x,hx,rfl⟩:=WaD.mp h;exact iK n u x hx
def LA(h:p∈Ytc):n<=Yaz:=by have:=Ux h;have h2:=this.1.length_le;rw[Waa,this.2]at h2;exact h2
def Uy(h:Ytc=[]):picks YCG u=[]:=by rw[<-gB]at h ⊢;have:YmV=[]:=List.map_eq_nil_iff.mp h;rw[nX,this];rfl
def MP(h:Ytc=[]):∀m,n<=m->picks m u=[]:=by
 intro m hm;induction m with
 |zero=>have:n=0:=Yad;subst this;exact h
 |succ m ih=>
  by_cases e:n=m+1
  ·subst e;exact h
  ·exact Uy (ih Yad)
def EZ:∀(n:Nat)(u:List Nat),(YmV).length<=3^u.length
 |0,u=>by simp[bB,Nat.one_le_pow]
 |n+1,[]=>by simp[bB]
 |n+1,k::r=>by have h1:=EZ n r;have h2:=EZ YCG r;rw[bB,Wad,Wad,Waa,Waa,Was,Wcb];omega
def fj(u:Yaw)(p:Ybf)(w:Nat):Bool:=p.all λx=>cp u x.1 w==x.2
def Gj(u:Yaw)(p:Ybf)(k:Nat)(b:Bool)(w:Nat):fj u (p++[(k,b)]) w=(fj u p w&&(cp u k w==b)):=by simp[fj]
def YT(hn:n=2^Yaz):Ywu&&& (a4 n^^^maskOf u k)=bm n (fj u (p++[YB3])):=by subst hn;unfold maskOf;rw[JJ,Ct];exact bt λw _=>by rw[Gj];cases cp u k w<;>rfl
def WM(hn:n=2^Yaz):Ywu&&& maskOf u k=bm n (fj u (p++[(k,true)])):=by subst hn;unfold maskOf;rw[Ct];exact bt λw _=>by rw[Gj];cases cp u k w<;>simp
def WN:bm n (fj u [])=a4 n:=bt λw _=>rfl
def Pe:bm n g&&& bm n h=bm n g↔∀w,w<n->g w=true->h w=true:=by
 rw[Ct];ext XaT
 ·intro e w hw hg;have:=aaQ e w hw;rw[hg]at this;ext Xbb
 ·intro h1;refine bt λw hw=>?_;cases hg:g w with
  |false=>rfl
  |true=>rw[h1 w hw hg];rfl
def RM(nd:(YsV).Nodup)(h:(k,b)∈p):Yyh=Yt3:=by
 ext Xfl;induction p with
 |nil=>simp at h
 |cons x r ih=>
  rw[Waw,Wa7]at nd;rw[Wbj];ext XgK
  ·simp
  ·have:x.1≠k:=λe=>nd.1 (by rw[e];exact WaX (f:=(·.1)) h);rw[show(x.1==k)=false by simp[this]];exact ih nd.2 h
def zo:Yyh=none↔k∉p.map (·.1):=by ext Xfl;rw[Option.map_eq_none_iff,WaR];simp only[WaD,not_exists,not_and,WbV]
def Gb(h:Yyh=Yt3):(k,b)∈p:=by
 unfold factOf at h;obtain⟨x,hx,rfl⟩:=WcU.mp h;have h1:=WaG hx;have h2:=Wbv hx;have:x.1=k:=by simpa using h2
 subst this;exact h1
section
variable {s:State} {facts:List (Nat×Bool)} {day rank:Nat} {l:List Edition}
def vZ(x:Nat):x∈Ydf↔x∈Yan/\x∉p.map (·.1):=by rw[yY,yY,uB,<-zo];cases factOf facts x<;>simp
theorem N1(ag:∀k b,Yyh=Yt3->k∈Yan/\cp YwG k w=b)
(hw:∀k,k∈Ydf->cp (Ydf) k w'=cp YwG k w):
  cG Yys (Ydf) w'=YDk:=by
 funext x;unfold cG;rw[uB];cases e:factOf facts x with
 |some v=>rfl
 |none=>
  dsimp only;cases e2:factOf p x with
  |some b=>obtain⟨h1,h2⟩:=ag x b e2;dsimp only;rw[if_pos h1,h2]
  |none=>
   dsimp only;by_cases hx:x∈Yan
   ·have hx':x∈Ydf:=(vZ x).mpr ⟨hx,zo.mp e2⟩;rw[if_pos hx,if_pos hx',hw x hx']
   ·have hx':x∉unknown s Yys day rank l:=λh=>hx ((vZ x).mp h).1;rw[if_neg hx,if_neg hx']
def QM(b:Bool):(Yo6==Yt3)=true↔
  ∀w,w<2^(Yan).length->Ye1=Yt3:=by
 rw[Lm,WbV];have hp:0<2^(Yan).length:=Wcc Yao;cases b with
 |true=>
  ext XaT
  ·intro h;split at h
   ·assumption
   ·split at h<;>simp at h
  ·intro h;rw[Wap h]
 |false=>
  ext XaT
  ·intro h;split at h
   ·simp at h
   ·split at h
    ·assumption
    ·simp at h
  ·intro h;have h0:=h 0 hp;have:¬∀w,w<2^(Yan).length->Ye1=Yb8:=λh1=>by have:=h1 0 hp;rw[h0]at this;ext Xhj
   rw[Wae this,Wap h]
def Ob(hp:(YsV).Sublist YwG)(b:Bool):(Yhf==Yt3)=true↔
  ∀w,w<2^(Yan).length->fj YwG p w=true->Ye1=Yt3:=by
 have nd:(YsV).Nodup:=hp.nodup (fP ..);have nd':=fP s Yys day rank l;rw[QM];ext XaT
 ·intro h w hw ha;obtain⟨w',hw',e⟩:=vX nd' λk=>cp YwG k w;have:=h w' hw';unfold dE at this ⊢;rw[N1 (w:=w)]at this
  ·exact this
  ·intro k b hk;have hm:=Gb hk;exact⟨Yyw,by simpa using Wbe.mp ha _ hm⟩
  ·exact λk hk=>e k hk
 ·intro h w' hw';obtain⟨w,hw,e⟩:=vX (fP s facts day rank l) λk=>match factOf p k with
   |some b=>b
   |none=>cp (Ydf) k w'
  have ag:∀k b,Yyh=Yt3->k∈Yan/\cp YwG k w=b:=by intro k b hk;have hm:=Gb hk;have hu:=Yyw;refine⟨hu,?_⟩;rw[e k hu,hk]
  have:=h w hw (Wbe.mpr λx hx=>by
   have:=(ag x.1 x.2 (RM nd hx)).2
   simpa using this)
  unfold dE at this ⊢;rw[N1 (w:=w) ag]
  ·exact this
  ·intro k hk;obtain⟨h1,h2⟩:=(vZ k).mp hk;rw[e k h1,zo.mpr h2]
def jS(s:State)(facts:Ybf)(day rank:Nat)(l:Yo1)(want:Bool)(p:Ybf):Bool:=Yhf==some want
def MF(hu:u=Yan)(hn:n=2^Yaz)(hp:(YsV).Sublist u)(want:Bool):
  jS s facts day rank l want p=true↔Ywu&&& (if want=true then yB n Yey else a4 n^^^yB n Yey)=Ywu:=by
 subst hu;subst hn;unfold jS;rw[Ob hp];cases want with
 |true=>
  ext Xgm;unfold yB;rw[Pe];ext XaT
  ·intro h w hw ha;rw[h w hw ha];rfl
  ·intro h w hw ha;simpa using h w hw ha
 |false=>
  rw[Wae YeP];unfold yB;rw[JJ,Pe];ext XaT
  ·intro h w hw ha;rw[h w hw ha];rfl
  ·intro h w hw ha;have a:=h w hw ha;ext XbF
def ME(h0:∀m,m<n->∀q∈picks m YwG,Yz1=false)
(h:(Ywp).find? (jS s facts day rank l want)=some p):Yk2=some p:=by
 unfold settling;dsimp only;have hn:n<=(Yan).length:=LA (WaG h);generalize hL:(unknown s facts day rank l).length+1=L;have hnL:n<L:=Yad;clear hL hn;have e:List.range L=Yo0++(n::(List.range (L-n-1)).map (n+1+ ·)):=by
  have:L=n+(1+(L-n-1)):=by omega
  conv=>lhs;rw[this,WdU,WdU]
  simp[WcQ]
 rw[e,List.findSome?_append];have e0:(Yo0).findSome? (λn=>(Ywp).find? λp=>Yhf==some want)=none:=by rw[WeB];intro m hm;rw[WaR];intro q hq;have:=h0 m (Wbx.mp hm) q hq;unfold jS at this;rw[this];simp
 rw[e0,Option.none_or,List.findSome?_cons];rw[show(Ywp).find? (λp=>Yhf==some want)=some p from h]
def Kl(h0:∀m,m<n->∀q∈picks m YwG,Yz1=false)
(h:Ywp=[]):Yk2=none:=by
 unfold settling;dsimp only;rw[WeB];intro m hm;rw[WaR];intro q hq;by_cases hmn:m<n
 ·have:=h0 m hmn q hq;unfold jS at this;rw[this];simp
 ·rw[MP h m Yad]at hq;simp at hq
end
def turnsOf(r:Rule):Yaw:=YvU::(r.last+1)::Ym1
theorem kG(hd:d0<=d):∀(c:Cond),(∀t∈daysIn c,¬(d0<t/\t<=d))->value f d rank c=value f d0 rank c
 |.tt,_=>rfl
 |.ff,_=>rfl
 |.flag k,_=>rfl
 |.since t,h=>by
   ext XfN;by_cases h1:t<=d
   ·have:t<=d0:=Yad;simp[h1,this]
   ·have:¬t<=d0:=Yad;simp[h1,this]
 |.before t,h=>by
   ext XfN;by_cases h1:d<t
   ·have:d0<t:=Yad;simp[h1,this]
   ·have:¬d0<t:=Yad;simp[h1,this]
 |.rank a b,_=>rfl
 |.not a,h=>by rw[value,value,kG hd a h]
 |.and a b,h=>by ext XbY
 |.or a b,h=>by ext XbY
theorem Ie(hd:d0<=d)(h:∀t∈Yom,¬(d0<t/\t<=d)):ruleValue f d rank r=ruleValue f d0 rank r:=by
 have h1:=h r.first (by simp[turnsOf]);have h2:=h (r.last+1) (by simp[turnsOf]);have h3:=kG (f:=f) (rank:=rank) hd r.cond λt ht=>h t (by simp[turnsOf,ht]);have e:speaks r d rank=speaks r d0 rank:=by
  unfold speaks;congr 1
  ·by_cases h4:YvU<=d
   ·have:YvU<=d0:=Yad;simp[h4,this]
   ·have:¬r.first<=d0:=Yad;simp[h4,this]
  ·congr 1;by_cases h4:d<=r.last
   ·have:d0<=r.last:=Yad;simp[h4,this]
   ·have:¬d0<=r.last:=Yad;simp[h4,this]
 unfold ruleValue;rw[e,h3]
def wq(hd:d0<=d):∀{l:List Rule},(∀r∈l,∀t∈Yom,¬(d0<t/\t<=d))->passes f d rank l=passes f d0 rank l
 |[],_=>rfl
 |r::l,h=>by show and3 (ruleValue f d rank r) (passes f d rank l)=and3 (ruleValue f d0 rank r) (passes f d0 rank l);rw[Ie hd (h r Ycq),wq hd λx hx=>Ypm]
def kH:∀(c:Cond),(∀k∈flagsIn c,f k=g k)->value f day rank c=value g day rank c
 |.tt,_=>rfl
 |.ff,_=>rfl
 |.flag k,h=>h k (by simp[flagsIn])
 |.since t,h=>rfl
 |.before t,h=>rfl
 |.rank a b,_=>rfl
 |.not a,h=>by rw[value,value,kH a h]
 |.and a b,h=>by ext XcN
 |.or a b,h=>by ext XcN
def Q8(h:∀k∈Ya2,f k=g k):Ylg=ruleValue g day rank r:=by unfold ruleValue;rw[kH r.cond h]
def qk:∀{l:List Rule},(∀r∈l,∀k∈Ya2,f k=g k)->YjJ=passes g day rank l
 |[],_=>rfl
 |r::l,h=>by show YfT=and3 (ruleValue g day rank r) (passes g day rank l);rw[Q8 (h r Ycq),qk λx hx=>Ypm]
def jH(ks:Yaw)(d k:Nat):Sit:={day:=d,rank:=k/2^YbL,yes:=ks.filter λx=>cp ks x (k%2^YbL)}
def yb(ks:Yaw)(d:Nat):List Sit:=(List.range (8*2^YbL)).map (jH ks d)
def XW(ks:Yaw)(w:Nat):((qK ks w).filter λx=>x.2).map (λx=>x.1)=ks.filter λx=>cp ks x w:=by
 unfold qK;generalize cp ks=b;induction ks with
 |nil=>rfl
 |cons k r ih=>
  rw[Waw,Wb8,Wb8];ext Xhe
  ·rw[Waw,ih]
  ·exact ih
def Ut(m n:Nat):List.range (m*n)=(List.range m).flatMap λr=>(Yo0).map λw=>r*n+w:=by
 induction m with
 |zero=>simp
 |succ m ih=>rw[Nat.succ_mul,WdU,ih,List.range_succ,Wb4];simp
theorem Yk(nd:YtT)(d:Nat):
  ((List.range (RANKS+1)).flatMap λk=>(fillings ks).map λv=>({day:=d,rank:=k,yes:=(v.filter λx=>x.2).map λx=>x.1}:Sit))=yb ks d:=by
 unfold yb;have hp:0<2^ks.length:=YrE;rw[Ut,List.map_flatMap];show(Yhq).flatMap _=_;congr 1;funext r;rw[zk nd,List.map_map,List.map_map];ext Xeg;have hw:=List.mem_range.mp hw;show({day:=d,rank:=r,yes:=((qK ks w).filter λx=>x.2).map λx=>x.1}:Sit)=jH ks d Yj6;unfold jH;have e1:(r*2^YbL+w)/2^YbL=r:=by rw[Nat.add_comm,Nat.add_mul_div_right _ _ hp,Nat.div_eq_of_lt hw,Nat.zero_add]
 have e2:(r*2^YbL+w)%2^YbL=w:=by rw[Nat.add_comm,Nat.add_mul_mod_self_right,Nat.mod_eq_of_lt hw]
 rw[e1,e2,XW]
def jP(l:YjU):(flagsOf l).Nodup:=kU _
def fK:k∈flagsOf l↔∃r∈l,k∈Ya2:=by unfold flagsOf;rw[bO,WbF]
def bW:d∈turns l↔(d=0∨∃r∈l,d∈Yom)/\d<=1000000:=by unfold turns;rw[bO,Wbf,Wav,WbF,War];rfl
theorem qI(a b:YjU):Yh2=((YyO).flatMap (yb (YhI))).find? λx=>allows a x&& !allows b x:=by unfold breach situations;congr 1;congr 1;funext d;exact Yk (jP _) d
def sJ(ks:Yaw)(k:Nat):Facts:=λx=>if x∈ks then some (cp ks x (k%2^YbL))else none
def Az(ks:Yaw)(k:Nat):Nat:=k/2^YbL
def NB(h:x∈ks):(ks.filter λx=>YBT).contains x=YBT:=by rw[Wa2,WbB,Wbf];simp[h]
def qJ(h:∀r∈l,∀x∈Ya2,x∈ks)(d k:Nat):allows l (Ytd)=(Yyv==Yb8):=by
 unfold allows;rw[qk (g:=sJ ks k)]
 ·rfl
 ·intro r hr x hx;have:=h r hr x hx;unfold sJ jH;rw[Wap this];dsimp only;rw[NB this]
def dG(ks:Yaw)(d:Nat)(l:YjU):Nat:=yB (8*2^YbL) λk=>Yyv
def nM(ks:Yaw)(d:Nat)(a b:YjU):Nat:=bm (8*2^YbL) λk=>(passes (sJ ks k) d (Az ks k) a==Yb8)&& !(passes (sJ ks k) d (Az ks k) b==Yb8)
def Xt(W:Nat)(g h:Nat->Bool):Yks-(Yks&&& bm W h)=bm W λk=>g k&& !h k:=by
 rw[Ct];have e:=R0 W (g:=λk=>g k&&h k) (h:=λk=>g k&& !h k) λk _=>by cases g k<;>cases h k<;>simp
 have e2:bm W (λk=>(g k&&h k)||(g k&& !h k))=Yks:=bt λk _=>by cases g k<;>cases h k<;>rfl
 rw[e2]at e;omega
def Vl(ks:Yaw)(d:Nat)(a b:YjU):dG ks d a-(dG ks d a&&& dG ks d b)=YBq:=by unfold dG yB;rw[Xt];rfl
theorem SU:∀{m:Nat},m≠0->∃k,m.testBit k=true/\(∀j,j<k->m.testBit j=false)/\m-(m&&& (m-1))=2^k:=by
 intro m;induction m using Nat.strongRecOn with
 |_ m ih=>
  intro hm;rcases Nat.mod_two_eq_zero_or_one m with h|h
  ·obtain⟨k,h1,h2,h3⟩:=ih (m/2) Yad Yad;refine⟨k+1,by rw[Nat.testBit_add_one];exact h1,λj hj=>?_,?_⟩
   ·cases j with
    |zero=>rw[Nat.testBit_zero];simp[h]
    |succ j=>rw[Nat.testBit_add_one];exact h2 j Yad
   ·have e1:(m&&& (m-1))/2=m/2&&& (m/2-1):=by rw[Nat.and_div_two];congr 1;omega
    have e2:¬(m&&& (m-1))%2=1:=by rw[Nat.and_mod_two_eq_one];omega
    have le:=Nat.and_le_left (n:=m/2) (m:=m/2-1);rw[Nat.pow_succ];omega
  ·refine⟨0,by rw[Nat.testBit_zero];simp[h],λj hj=>by omega,?_⟩;have e1:(m&&& (m-1))/2=m/2:=by rw[Nat.and_div_two,show(m-1)/2=m/2 by omega,Nat.and_self]
   have e2:¬(m&&& (m-1))%2=1:=by rw[Nat.and_mod_two_eq_one];omega
   omega
def PB(hk:(Yks).testBit k=true)(hl:∀j,j<k->(Yks).testBit j=false)(f:Nat->α)(q:α->Bool)(hq:∀j,j<W->q (f j)=g j):
  ((List.range W).map f).find? q=some (f k):=by
 rw[gM]at hk;simp at hk;rw[List.find?_map];have:(List.range W).find? (q∘f)=some k:=by rw[List.find?_range_eq_some];refine⟨by rw[Function.comp_apply,hq k hk.1];exact hk.2,Wbx.mpr hk.1,λj hj=>?_⟩;have h1:=hl j hj;rw[gM]at h1;have hjW:j<W:=Yad;simp[hjW]at h1;rw[Function.comp_apply,hq j hjW,h1];rfl
 rw[this];rfl
def Va(h0:Yks=0)(f:Nat->α)(q:α->Bool)(hq:∀j,j<W->q (f j)=g j):
  ((List.range W).map f).find? q=none:=by
 rw[WaR];intro x hx;obtain⟨j,hj,rfl⟩:=Yth;have hj:=Wbx.mp hj;rw[hq j hj,i6.mp h0 j hj];simp
def oU(ks:Yaw)(a b:YjU):Yaw->Option Sit
 |[]=>none
 |d::r=>if nM ks d a b=0 then oU ks a b r else(yb ks d).find? λx=>allows a x&& !allows b x
def An(h:∀r∈a++b,∀x∈Ya2,x∈ks):∀D:Yaw,oU ks a b D=(D.flatMap (yb ks)).find? λx=>allows a x&& !allows b x
 |[]=>rfl
 |d::D=>by
  ext XbO;rw[oU,Wb3,WbI,An h D];have hq:∀j,j<8*2^YbL->(allows a (jH ks d j)&& !allows b (jH ks d j))=((passes (sJ ks j) d (Az ks j) a==Yb8)&& !(passes (sJ ks j) d (Az ks j) b==Yb8)):=by intro j _;rw[qJ ha,qJ hb]
  by_cases h0:YBq=0
  ·rw[Wap h0];unfold yb;rw[Va h0 (jH ks d) _ hq];rfl
  ·rw[Wae h0];obtain⟨k,h1,h2,_⟩:=SU h0;unfold yb;rw[PB h1 h2 (jH ks d) _ hq];rfl
def U9(h:∀r∈a++b,∀x∈Ya2,x∈ks)(hk:(YBq).testBit k=true)(hl:∀j,j<k->(YBq).testBit j=false):
  oU ks a b (d::D)=some (Ytd):=by
 ext XbO;rw[oU,Wae (λe=>by rw[e]at hk;simp at hk)];unfold yb;exact PB hk hl (jH ks d) _ λj _=>by rw[qJ ha,qJ hb]
def LX(a b:YjU):Prop:=∃(d r:Nat)(f:Nat->Bool),d<=1000000/\r<=7/\passes (λk=>some (f k)) d r a=Yb8/\¬passes (λk=>some (f k)) d r b=Yb8
def Pf{D:Yaw}(h0:0∈D)(d:Nat):∃d0,d0∈D/\d0<=d/\∀t∈D,¬(d0<t/\t<=d):=by
 induction d with
 |zero=>exact⟨0,h0,Wau _,λt _=>by omega⟩
 |succ d ih=>
  by_cases h:d+1∈D
  ·exact⟨d+1,h,Wau _,λt _=>by omega⟩
  ·obtain⟨d0,h1,h2,h3⟩:=ih;refine⟨d0,h1,YaP,YbX⟩;have:=h3 t ht;rintro⟨h4,h5⟩;have:t≠d+1:=λe=>h (e▸ht);omega
def Tr{ks D:Yaw}(nd:YtT){a b:YjU}(hk:∀r∈a++b,∀x∈Ya2,x∈ks)(h0:0∈D)(hD:∀r∈a++b,∀t∈Yom,t<=1000000->t∈D)(hm:∀d∈D,d<=1000000):
  (oU ks a b D).isNone=true↔¬LX a b:=by
 rw[An hk,WeH,WaR];have ha:∀r∈a,∀x∈Ya2,x∈ks:=λr hr=>hk r (Wac.mpr (.inl hr));have hb:∀r∈b,∀x∈Ya2,x∈ks:=λr hr=>hk r (Wac.mpr (.inr hr));have hp:0<2^ks.length:=Wcc Yao;ext XaT
 ·rintro h ⟨d,r,f,hd,hr,pa,pb⟩;obtain⟨d0,m0,le0,st⟩:=Pf h0 d;have still:∀x∈a++b,∀t∈turnsOf x,¬(d0<t/\t<=d):=λx hx t ht ⟨h1,h2⟩=>st t (hD x hx t ht Yad) ⟨Zb7⟩;rw[wq le0 λx hx=>still x (Wac.mpr (.inl hx))]at pa;rw[wq le0 λx hx=>still x (Wac.mpr (.inr hx))]at pb;obtain⟨w,hw,e⟩:=vX nd f;have hpl:(r*2^YbL+w)/2^YbL=r:=by rw[Wcj,Nat.add_mul_div_right _ _ hp,Nat.div_eq_of_lt hw,Nat.zero_add]
  have hmo:(r*2^YbL+w)%2^YbL=w:=by rw[Wcj,Wdh,Wei hw]
  have hlt:r*2^YbL+w<8*2^ks.length:=by have:r*2^YbL<=7*2^ks.length:=Wc3 _ hr;omega
  have hf:∀x∈ks,sJ ks Yj6 x=some (f x):=by intro x hx;unfold sJ;rw[Wap hx,hmo,e x hx]
  have hs:=h (jH ks d0 Yj6) (WbF.mpr ⟨d0,m0,WaX (Wbx.mpr hlt)⟩);rw[qJ ha,qJ hb]at hs;have ea:passes (sJ ks Yj6) d0 (Az ks Yj6) a=Yb8:=by rw[show Az ks Yj6=r from hpl,<-pa];exact qk λx hx k hk'=>hf k (ha x hx k hk')
  have eb:¬passes (sJ ks Yj6) d0 (Az ks Yj6) b=Yb8:=by rw[show Az ks Yj6=r from hpl];intro e3;apply pb;rw[<-e3];exact(qk λx hx k hk'=>hf k (hb x hx k hk')).symm
  rw[ea]at hs;apply hs;simp[eb]
 ·intro h x hx hs;obtain⟨d,hd,hx⟩:=WbF.mp hx;obtain⟨k,hk2,rfl⟩:=Yth;have hk2:=Wbx.mp hk2;rw[WaJ]at hs;refine h ⟨d,(Ytd).rank,λx=>(Ytd).yes.contains x,hm d hd,ZbG,?_⟩
  ·show k/2^YbL<=7;have:k/2^YbL<8:=(Nat.div_lt_iff_lt_mul hp).mpr hk2;omega
  ·have:=hs.1;unfold allows at this;exact eq_of_beq this
  ·intro e;have:=hs.2;unfold allows at this;rw[show passes (λk_1=>some ((Ytd).yes.contains k_1)) (Ytd).day (Ytd).rank b=Yb8 from e]at this;ext Xhj
def RY(a b:YjU):(Yh2).isNone=true↔¬LX a b:=by ext Xfp;refine Tr (jP _) (λr hr x hx=>fK.mpr ⟨r,hr,hx⟩) (YmJ) (λr hr t ht hl=>bW.mpr ⟨.inr ⟨r,hr,ht⟩,hl⟩) λd hd=>(bW.mp hd).2
def DS(a b:YjU):Yh2=oU (YhI) a b (YyO):=by ext Xfp
def wI(a b:YjU):YhI=flagsOf (b++a):=v9 λx=>by
 simp only[WbF,Wac];constructor<;>rintro⟨r,h|h,hx⟩
 ·exact Yt4
 ·exact Yt5
 ·exact Yt4
 ·exact Yt5
def QE(a b:YjU):YyO=turns (b++a):=tM (bP _) (bP _) λd=>by
 show d∈YyO↔d∈turns (b++a);rw[bW,bW];simp only[Wac];ext XaT
 ·rintro⟨h|⟨r,h|h,hx⟩,hl⟩
  ·exact⟨YiC,hl⟩
  ·exact⟨.inr Yt4,hl⟩
  ·exact⟨.inr Yt5,hl⟩
 ·rintro⟨h|⟨r,h|h,hx⟩,hl⟩
  ·exact⟨YiC,hl⟩
  ·exact⟨.inr Yt4,hl⟩
  ·exact⟨.inr Yt5,hl⟩
def jn(V:Nat):Nat->Nat
 |0=>0
 |m+1=>jn V m+2^(m*V)
def Ap(V:Nat)(g:Nat->Bool):∀m,bm V g*jn V m=bm (m*V) λk=>g (k%V)
 |0=>by simp[jn,bm]
 |m+1=>by
  rw[jn,Nat.mul_add,Ap V g m,DT,JI _ (show m*V<=V+m*V by omega),R0]
  ·rw[Nat.succ_mul,Wcj V];refine bt λk hk=>?_;by_cases h:k<m*V
   ·have:¬m*V<=k:=Yad;simp[h,this]
   ·have h2:m*V<=k:=Yad;have e:k%V=k-m*V:=by
     have:k=(k-m*V)+m*V:=by omega
     conv=>lhs;rw[this]
     rw[Wdh,Wei Yad]
    simp[h,h2,e]
  ·rintro k _ ⟨h1,h2⟩;simp at h1 h2;omega
def Yl(V:Nat)(hV:0<V)(r:Nat)(hr:r<8):a4 V*2^(r*V)=bm (8*V) λk=>k/V==r:=by
 rw[a4,DT,JI _ (show V+r*V<=8*V by have:(r+1)*V<=8*V:=Wc3 _ Yad;rw[Nat.succ_mul]at this;omega)];refine bt λk hk=>?_;rw[Wa2];simp only[WaJ,War,and_true,WbV];rw[Nat.div_eq_iff hV];ext XaT
 ·rintro⟨h1,h2⟩;exact⟨h2,YaP⟩
 ·rintro⟨h1,h2⟩;exact⟨YaP,h1⟩
def JE(a:Nat)(w:Text):(closed a w).length<=YhC:=by
 cases w with
 |nil=>exact Wau _
 |cons c w=>simp[closed]
def Ge:∀p∈closed a w,(conv p.2).length<=YhC:=by
 cases w with
 |nil=>intro p hp;cases hp
 |cons c w=>ext XgF;dsimp only;split<;>exact Wau _
def CP:∀(r:Text)(i f:Nat)(w:Text),(toks i f w r).length<=YhC+YcN/\∀p∈toks i f w r,(conv p.2).length<=YhC+YcN+1
 |[],i,f,w=>by rw[toks];refine⟨JE _ _,YcB⟩;have:=Ge p hp;omega
 |b::r,i,f,w=>by
  rw[toks];split
  ·obtain⟨h1,h2⟩:=CP r YcG f (w++[b]);simp only[Wad,WbK,Was]at h1 h2 ⊢;exact⟨YaP,λp hp=>by have:=h2 p hp;omega⟩
  ·have c1:=JE f w;have c2:∀p∈closed f w,(conv p.2).length<=YhC:=Ge;split
   ·obtain⟨h1,h2⟩:=CP r YcG i [b];ext Xey
    ·have:=c2 p hp;omega
    ·have:=h2 p hp;omega
   ·obtain⟨h1,h2⟩:=CP r YcG YcG [];have d1:(if b=32 then([]:YsL)else[Yeu]).length<=1:=(by split<;>simp);have d2:∀p∈(if b=32 then([]:YsL)else[Yeu]),(conv p.2).length<=1:=by
     intro p hp;split at hp
     ·cases hp
     ·rw[WaE.mp hp];ext Xhe
      ·simp[conv]
      ·split<;>simp[conv]
    ext Xey
    ·have:=c2 p hp;omega
    ·ext Xcg
     ·have:=d2 p hp;omega
     ·have:=h2 p hp;omega
def QH(w:Text):(YAy).length<=YhC/\∀p∈YAy,(conv p.2).length<=YhC+1:=by have:=CP w 0 0 [];simpa[tokens]using this
def Nr(ok:tN p.2)(h:YxN/\conv p.2∉RESERVED):cb p=some (p.1,conv p.2):=by ext XeB;obtain⟨w,e⟩:=(F5 ok).mp h.1;dsimp only at e;subst e;have hr:¬(YcP=true):=λq=>h.2 (WbB.mp q);simp only[cb,conv,Wae hr]
def Nt(ok:tN p.2)(h:¬(YxN/\conv p.2∉RESERVED)):cb p=none:=by
 ext XeB;cases t with
 |word w=>
  have hr:YcP=true:=by rw[WbB];exact WeM λq=>h ⟨ok,q⟩
  simp only[cb,Wap hr]
 |_=>rfl
structure xc (s:State):Prop where
 fk:(s.flags.map Flag.key).Pairwise (· < ·)
 ft:(s.flags.map Flag.text).Nodup
 fw:∀x∈Yhd,flagText? x.text=true
 fn:s.flags.length<=24
 rk:(s.rules.map Rule.key).Pairwise (· < ·)
 rn:s.rules.length<=64
 ek:(s.editions.map Edition.key).Nodup
 ed:(s.editions.map Edition.day).Pairwise (· < ·)
 er:∀e∈Yec,K8 e.rules/\e.rules.length<=8/\∀k∈e.rules,∃r∈YtN,r.key=k
 en:s.editions.length<=16
 nk:(s.names.map Name.key).Pairwise (· < ·)
 nn:s.names.length<=100
 nf:∀n∈YrT,K8 (n.facts.map Prod.fst)/\∀p∈n.facts,∃x∈Yhd,x.key=p.1
 nb:∀n∈YrT,n.day<=1000000/\n.rank<=7
def Uk:xc start:=by constructor<;>simp[start]
def cw{l:Yaw}(h:l.Pairwise (· < ·)):l.Nodup:=Wdx (λh e=>by omega) h
def xc.ze(h:xc s):zU s:=cw h.fk
def xc.short(h:xc s):∀x∈Yhd,x.text.length<=12:=λx hx=>by have:=h.fw x hx;simp only[flagText?,WaJ,War]at this;omega
def place_len(key:α->Nat)(x:α):∀l:Ydy,(Yqw).length=Yc9+1
 |[]=>rfl
 |y::r=>by
  rw[place];split
  ·rfl
  ·rw[Was,place_len key x r];rfl
def wk(key:α->Nat)(x:α):∀l:Ydy,(Yqw).Perm (x::l)
 |[]=>YCD
 |y::r=>by
  rw[place];split
  ·exact YCD
  ·exact((wk key x r).cons y).trans (List.Perm.swap x y r)
def find_perm{α:Type}{l m:Ydy}(h:l.Perm m){q:α->Bool}(u:∀x∈l,∀y∈l,q x=true->q y=true->x=y):l.find? q=m.find? q:=by
 cases e:l.find? q with
 |none=>refine(WaR.mpr λx hx=>?_).symm;exact WaR.mp e x (h.mem_iff.mpr hx)
 |some x=>
  have hx:=WaG e;have qx:=Wbv e;cases e2:m.find? q with
  |none=>exact absurd qx (WaR.mp e2 x (YA2))
  |some y=>have hy:=WaG e2;have qy:=Wbv e2;rw[u x hx y (h.mem_iff.mpr hy) qx qy]
def cK{α β:Type}{f:α->β}:∀{l:List α},(YvV).Nodup->∀x∈l,∀y∈l,f x=f y->x=y
 |[],_,x,hx,_,_,_=>by cases hx
 |z::l,h,x,hx,y,hy,e=>by
  rw[Waw,Wa7]at h;rcases Wav.mp hx with e1|hx1<;>rcases Wav.mp hy with e2|hy1
  ·rw[e1,e2]
  ·exact absurd (WaD.mpr ⟨y,hy1,by rw[<-e,e1]⟩:f z∈YvV) h.1
  ·exact absurd (WaD.mpr ⟨x,hx1,by rw[e,e2]⟩:f z∈YvV) h.1
  ·exact cK h.2 x hx1 y hy1 e
def Ga{s s':State}(ht:(Yrs).Nodup)(sub:∀x∈Yhd,x∈s'.flags){w:Text}{x:Flag}(h:bh s w=YeH):bh s' w=YeH:=by
 have hx:=WaG h;have tx:x.text=w:=by simpa using Wbv h
 unfold bh;cases e:s'.flags.find? λy=>y.text==w with
 |none=>have:=WaR.mp e x (sub x hx);simp[tx]at this
 |some y=>
  have hy:=WaG e;have ty:y.text=w:=by simpa using Wbv e
  rw[cK ht y hy x (sub x hx) (ty.trans tx.symm)]
def Nf(ht:(Yrs).Nodup)(sub:∀x∈Yhd,x∈s'.flags)(h:missing s l=none):missing s' l=none:=by
 refine WaR.mpr λp hp=>?_;have:=WaR.mp h p hp;cases e:Yrn with
 |none=>ext Xe4;ext Xhj
 |some x=>rw[Ga ht sub e];simp
def vH(ht:(Yrs).Nodup)(sub:∀x∈Yhd,x∈s'.flags):∀c:Raw,YhA=none->nL s' c=nL s c
 |.tt,_=>rfl
 |.ff,_=>rfl
 |.flag i w,h=>by
   simp only[aJ,missing,Wbj,WeK]at h;cases e:bh s w with
   |none=>rw[e]at h;simp at h
   |some x=>simp only[nL,e,Ga ht sub e]
 |.since d,_=>rfl
 |.before d,_=>rfl
 |.rank a b,_=>rfl
 |.not a,h=>by rw[nL,nL,vH ht sub a h]
 |.and a b,h=>by ext Xga
 |.or a b,h=>by ext Xga
def A9{α β:Type}{f g:α->Option β}:∀{l:List α},(∀x∈l,f x=g x)->l.filterMap f=l.filterMap g
 |[],_=>rfl
 |x::l,h=>by have h1:=h x Ycq;have h2:=A9 (l:=l) λy hy=>h y Yp5;rw[WbR,WbR,h1,h2]
def MN{s s':State}(hk:(s'.rules.map Rule.key).Nodup)(sub:∀r∈YtN,r∈s'.rules){e:Edition}(he:∀k∈e.rules,∃r∈YtN,r.key=k):rulesOf s' e=YdL:=by
 unfold rulesOf;refine A9 λk hkk=>?_;obtain⟨r,hr,ek⟩:=he k hkk;unfold ruleOf;have f1:∀(t:State),(∀a∈t.rules,∀b∈t.rules,a.key=b.key->a=b)->r∈t.rules->t.rules.find? (λr=>r.key==k)=some r:=by
  intro t u hr;cases e1:t.rules.find? λr=>r.key==k with
  |none=>have:=WaR.mp e1 r hr;simp[ek]at this
  |some y=>have hy:=WaG e1;have ky:y.key=k:=(by simpa using Wbv e1);rw[u y hy r hr (ky.trans ek.symm)]
 rw[f1 s' (cK hk) (sub r hr),f1 s (λa ha b hb h=>cK hk a (sub a ha) b (sub b hb) h) hr]
def FX{α:Type}{β:Type}{f:α->β}{key:α->Nat}{x:α}{l:Ydy}(h:(YvV).Nodup)(hn:∀y∈l,f y≠f x):((Yqw).map f).Nodup:=by refine((wk key x l).map f).nodup_iff.mpr ?_;rw[Waw,Wa7];refine⟨λq=>?_,h⟩;obtain⟨y,hy,e⟩:=WaD.mp q;exact hn y hy e
def V5{s:State}(h:xc s){x:Flag}(hw:flagText? x.text=true)(hk:∀y∈Yhd,y.key≠x.key)(ht:∀y∈Yhd,y.text≠x.text)(hl:s.flags.length<24):xc {s with flags:=YDQ}:=by
 refine{h with fk:=mM h.fk hk,ft:=FX h.ft ht,fw:=λy hy=>?_,fn:= ?_,nf:=λn hn=>?_}
 ·ext Xgn
  ·exact hw
  ·exact h.fw y hy
 ·show(YDQ).length<=24;ext Xg4
 ·refine⟨(h.nf n hn).1,YcB⟩;obtain⟨y,hy,e⟩:=(h.nf n hn).2 p hp;exact⟨y,Ymu,e⟩
def V3(h:xc s)(hk:∀y∈YtN,y.key≠r.key)(hl:s.rules.length<64):xc {s with rules:=YDO}:=by
 refine{h with rk:=mM h.rk hk,rn:= ?_,er:=λe he=>?_}
 ·show(YDO).length<=64;ext Xg4
 ·refine⟨(h.er e he).1,(h.er e he).2.1,λk hk=>?_⟩;obtain⟨y,hy,e⟩:=(h.er e he).2.2 k hk;exact⟨y,Ymu,e⟩
def Z4{s:State}(h:xc s){e:Edition}(hk:∀y∈Yec,y.key≠e.key)(hd:∀y∈Yec,y.day≠e.day)(he:K8 e.rules/\e.rules.length<=8/\∀k∈e.rules,∃r∈YtN,r.key=k)(hl:s.editions.length<16):
  xc {s with editions:=Yyu}:=by
 refine{h with ek:=FX h.ek hk,ed:=mM h.ed hd,er:=λy hy=>?_,en:= ?_}
 ·ext Xgn
  ·exact he
  ·exact h.er y hy
 ·show(Yyu).length<=16;ext Xg4
def V4(h:xc s)(hk:∀y∈YrT,y.key≠n.key)(hf:n.facts=[])(hb:n.day<=1000000/\n.rank<=7)(hl:s.names.length<100):xc {s with names:=YDP}:=by
 refine{h with nk:=mM h.nk hk,nn:= ?_,nf:=λm hm=>?_,nb:=λm hm=>?_}
 ·show(YDP).length<=100;ext Xg4
 ·rcases eF.mp hm with rfl|hm
  ·rw[hf];exact⟨by simp[K8],Ydx⟩
  ·exact h.nf m hm
 ·rcases eF.mp hm with rfl|hm
  ·exact hb
  ·exact h.nb m hm
def Ul(h:xc s)(hn:n∈YrT)(hx:∃y∈Yhd,y.key=x.1)(hnew:∀p∈n.facts,p.1≠x.1):
  xc {s with names:=s.names.map λy=>if y.key=n.key then{n with facts:=Yg2}else y}:=by
 have ek:(s.names.map λy=>if y.key=n.key then{n with facts:=Yg2}else y).map Name.key=s.names.map Name.key:=by
  rw[Wax];refine Wa4 λy _=>?_;ext XeJ;split
  ·rename_i e;exact e.symm
  ·rfl
 have mem:∀m,m∈(s.names.map λy=>if y.key=n.key then{n with facts:=Yg2}else y)->m={n with facts:=Yg2}∨m∈YrT:=λm hm=>by
  obtain⟨y,hy,e⟩:=WaD.mp hm;split at e
  ·exact .inl e.symm
  ·exact .inr (e▸hy)
 refine{h with nk:=by show((s.names.map _).map Name.key).Pairwise _;rw[ek];exact h.nk,nn:=by show(s.names.map _).length<=100;rw[Waa];exact h.nn,nf:=λm hm=>?_,nb:=λm hm=>?_}
 ·rcases mem m hm with rfl|hm
  ·refine⟨mM (h.nf n hn).1 hnew,YcB⟩;rcases eF.mp hp with rfl|hp
   ·exact hx
   ·exact(h.nf n hn).2 p hp
  ·exact h.nf m hm
 ·rcases mem m hm with rfl|hm
  ·exact h.nb n hn
  ·exact h.nb m hm
theorem Za{t:Yaw}:(Yon).all small=t.all small:=by rw[List.all_map];congr 1;funext c;exact vd
def SQ{t:Yaw}(h:t.all small=true):Yon=t:=by
 conv=>rhs;rw[<-Wdc t]
 exact Wa4 λc hc=>jd (Wbe.mp h c hc)
def find_key{α:Type}{key:α->Nat}{l:Ydy}(nd:(l.map key).Nodup){x:α}(hx:x∈l){k:Int}(e:((key x:Nat):Int)=k):Yuo=YeH:=by
 cases h:l.find? λy=>((key y:Nat):Int)==k with
 |none=>have:=WaR.mp h x hx;simp[e]at this
 |some y=>
  have hy:=WaG h;have ky:((key y:Nat):Int)=k:=by simpa using Wbv h
  rw[cK nd y hy x hx Yad]
def jW{α:Type}{key:α->Nat}{l:Ydy}{k:Int}(h:∀x∈l,((key x:Nat):Int)≠k):Yuo=none:=WaR.mpr λx hx=>by simpa using h x hx
def Ax{α:Type}{key:α->Nat}{l:Ydy}{x:α}(hx:x∈l){k:Int}(e:((key x:Nat):Int)=k):YvO=true:=WbP.mpr ⟨x,hx,Ymv⟩
def CA{α:Type}{key:α->Nat}{l:Ydy}{k:Int}(h:∀x∈l,((key x:Nat):Int)≠k):YvO=false:=Wea.mpr λx hx=>by simpa using h x hx
def iL[DecidableEq α]:∀{ms l:List α},ms.Nodup->(∀x∈ms,x∈l)->Yc9<=ms.length->l.Perm ms
 |[],l,_,_,h=>by have:l=[]:=Wbg.mp YkL;rw[this]
 |x::ms,l,nd,sub,h=>by
  rw[Wa7]at nd;have hx:=sub x Ycq;have p:=List.perm_cons_erase hx;have hl:=p.length_eq;refine p.trans ((iL nd.2 Yy1 ?_).cons x)
  ·have hy':=p.mem_iff.mp (sub y Yp5);rcases Wav.mp hy' with rfl|q
   ·exact absurd hy nd.1
   ·exact q
  ·simp only[Was]at h hl;omega
theorem sorted_ints{ns:Yaw}{ns' ms:YdR}(h1:∀k:Int,k∈ns'↔k∈ns.map λn=>((n:Nat):Int))(h2:YdU)(nd:ms.Nodup)(h3:∀k,k∈ms↔k∈ns.map λn=>((n:Nat):Int))(hl:ns'.length=ms.length):
  ns'=(sorted ns).map λn=>((n:Nat):Int):=by
 have p:ns'.Perm ms:=iL nd (λx hx=>(h1 x).mpr ((h3 x).mp hx)) Yad;have nd':ns'.Nodup:=p.nodup_iff.mpr nd;have e:ns'=(ns'.map Int.toNat).map λn=>((n:Nat):Int):=by
  ext Xdm
  conv=>lhs;rw[<-List.map_id ns']
  refine List.map_congr_left λk hk=>?_;obtain⟨n,_,rfl⟩:=YyD;rfl
 rw[e];congr 1;refine(Lo ?_ λx=>?_).symm
 ·have lt:ns'.Pairwise (· < ·):=by have both:=List.Pairwise.and h2 nd';exact List.Pairwise.imp (λh=>by have:=h.1;have:=h.2;omega) both
  unfold K8;rw[List.pairwise_map];refine List.Pairwise.imp_of_mem (λ{a b} ha hb h=>?_) lt;obtain⟨n,_,rfl⟩:=List.mem_map.mp ((h1 a).mp ha);obtain⟨m,_,rfl⟩:=List.mem_map.mp ((h1 b).mp hb);simp only[Int.toNat_natCast];omega
 ·rw[List.mem_map];ext XaT
  ·rintro⟨k,hk,rfl⟩;obtain⟨n,hn,rfl⟩:=YyD;exact hn
  ·intro hx;exact⟨(x:Int),(h1 _).mpr (List.mem_map.mpr ⟨x,hx,rfl⟩),rfl⟩
end Ce
namespace L2
open PySem PySem.Spec PyProof.Rows
abbrev Key:=Sum Int Str
def F4:Key->Value->Bool
 |.inl k,v=>Value.isInt k v
 |.inr x,v=>Value.isStrOf x v
def acT(w:World):Key->Int
 |.inl k=>hashInt k
 |.inr x=>hashStr w x
def dc:∀{k:Key}{v:Value},F4 k v=true->(∃i t,k=Sum.inl i/\v=Value.int i t)∨(∃x t,k=Sum.inr x/\v=Value.str x t)
 |.inl i,v,h=>by obtain⟨t,e⟩:=Value.isInt_shape (k:=i) (v:=v) h;exact .inl ⟨i,ZcH,e⟩
 |.inr x,v,h=>by obtain⟨t,e⟩:=Value.isStrOf_shape (x:=x) (v:=v) h;exact .inr ⟨x,ZcH,e⟩
def US(i:Int)(t:Tok):F4 (.inl i) (.int i t)=true:=by simp[F4,Value.isInt]
def UR(x:Str)(t:Tok):F4 (.inr x) (.str x t)=true:=by simp[F4,Value.isStrOf]
def aav(a b:Int):decide ((Sum.inl a:Key)=Sum.inl b)=(a==b):=by
 by_cases e:a=b
 ·subst e;simp
 ·have h:¬(Sum.inl a:Key)=Sum.inl b:=λq=>e (Sum.inl.inj q);rw[Wa3 h];exact(Wck.mpr e).symm
def aas(a b:Str):decide ((Sum.inr a:Key)=Sum.inr b)=YyS:=by
 by_cases e:a=b
 ·subst e;simp
 ·have h:¬(Sum.inr a:Key)=Sum.inr b:=λq=>e (Sum.inr.inj q);rw[Wa3 h,Wa3 e]
def aau(a:Int)(b:Str):decide ((Sum.inl a:Key)=Sum.inr b)=false:=Wa3 (λq=>nomatch q)
def aat(a:Str)(b:Int):decide ((Sum.inr a:Key)=Sum.inl b)=false:=Wa3 (λq=>nomatch q)
def dP(prog:Program)(w:World):PySem.KeyKind prog w Key where
 is:=F4
 hash:=acT w
 inj:=λv a b ha hb=>by
  rcases dc ha with⟨i,t,rfl,rfl⟩|⟨x,t,rfl,rfl⟩
  ·ext Xgf
   ·injection e with e1 _;rw[e1]
   ·exact nomatch e
  ·ext Xgf
   ·exact nomatch e
   ·injection e with e1 _;rw[e1]
 byValue:=λk v h=>by rcases dc h with⟨i,t,rfl,rfl⟩|⟨x,t,rfl,rfl⟩<;>rfl
 pyHash:=λhv h=>by
  rcases dc hv with⟨i,t,rfl,rfl⟩|⟨x,t,rfl,rfl⟩
  ·exact wpAny_pyHash_int h
  ·exact wpAny_pyHash_str h
 eqBool:=λhu hv h=>by
  rcases dc hu with⟨i,t,rfl,rfl⟩|⟨x,t,rfl,rfl⟩
  ·ext XfI
   ·rw[aav]at h;exact wpAny_eqBool_int h
   ·rw[aau]at h;exact SeqAt.EqAt.int_str i t y u _ _ _ _ h
  ·ext XfI
   ·rw[aat]at h;exact SeqAt.EqAt.str_int x t j u _ _ _ _ h
   ·rw[aas]at h;exact wpAny_eqBool_str h
 «strs»:=λk x t v h=>by
  rcases dc h with⟨i,u,rfl,e⟩|⟨y,u,rfl,e⟩
  ·exact nomatch e
  ·injection e with e1 _;subst e1;cases v<;>rfl
def O7(prog:Program)(w:World)(i:Int)(t:Tok):(dP prog w).is (.inl i) (.int i t)=true:=US i t
def O6(prog:Program)(w:World)(x:Str)(t:Tok):(dP prog w).is (.inr x) (.str x t)=true:=UR x t
end L2
namespace L2
open PySem PySem.Spec PyProof.Rows
inductive V where
 |fR|bl (b:Bool)|int (i:Int)|str (x:Str)|NX (b:Array UInt8)|flt (b:UInt64)|ref (a:Addr)|ty (n:String)
 deriving DecidableEq
def RelV:V->Value->Prop
 |.fR,u=>u=YnG
 |.bl b,u=>u=Value.bool b
 |.int i,u=>∃t,u=Value.int i t
 |.str x,u=>∃t,u=Value.str x t
 |.NX b,u=>∃t,u=Value.bytes b t
 |.flt b,u=>∃t,u=Value.float b t
 |.ref a,u=>u=Yob
 |.ty n,u=>u=Value.type n
abbrev Vals:YcT->YbN->Prop:=Paired RelV
def Vals.length{xs:YcT}{us:YbN}(r:Yh4):Ybp=Yw0:=Wcs r
def Vals.get:∀{xs:List V}{us:List Value}{i:Nat}{x:V},Yh4->xs[i]? =YeH->∃u,us[i]? =YaY/\RelV x u
 |_,_,_,_,.nil,e=>by simp at e
 |_,_,0,_,.cons r _,e=>by simp at e;subst e;exact⟨Zaa,r⟩
 |_,_,i+1,x,.cons _ t,e=>by obtain⟨u,h1,h2⟩:=Vals.get (i:=i) (x:=x) t Ydr;exact⟨u,by simpa using h1,h2⟩
def Vals.append:∀{xs ys:List V}{us ws:List Value},Yh4->Vals ys ws->Vals (xs++ys) (us++ws)
 |_,_,_,_,.nil,s=>s
 |_,_,_,_,.cons r t,s=>.cons r (Vals.append t s)
def Vals.take:∀{xs:List V}{us:List Value}(n:Nat),Yh4->Vals (xs.take n) (us.take n)
 |_,_,0,_=>.nil
 |_,_,_+1,.nil=>.nil
 |_,_,n+1,.cons r t=>.cons r (Vals.take n t)
def Vals.drop:∀{xs:List V}{us:List Value}(n:Nat),Yh4->Vals (xs.drop n) (us.drop n)
 |_,_,0,r=>r
 |_,_,_+1,.nil=>.nil
 |_,_,n+1,.cons _ t=>Vals.drop n t
def xf:Yxp->Yci->Prop
 |some v,some u=>YhF
 |none,none=>True
 |_,_=>False
def KV:YdT->Yrd->Prop:=Paired λ(p:κ×V)(q:κ×Value)=>p.1=q.1/\RelV p.2 q.2
def kV:Key->V
 |.inl i=>Yoh
 |.inr x=>Yx5
inductive HO where
 |lst (xs:List V)
 |tup (xs:List V)
 |dK (kvs:List (Key×V))|dT (kvs:List (List Key×V))
 |set (S:Int->Bool) (n:Nat)
 |ins (C dx:Addr) (fs:List (Str×V))
 |own (x:Addr)
 |xd (fs:List (Str×V))
 |met (f x:Addr)
 |rng (lo hi:Int)
 |jh (o:Obj) (u:HO)
 |Zm (ps:Array Value)
 |ext (φ:Heap->Prop)
 |Fo (pos:Pos) (q:Str)
abbrev Hp:=Addr->Option HO
def upd(H:Hp)(a:Addr)(o:HO):Hp:=λb=>if b=a then YaB else H b
def ab:upd H a o a=YaB:=by unfold upd;ext Xgm
def aA{H:Hp}{a b:Addr}{o:HO}(h:b≠a):YBl=H b:=by unfold upd;rw[Wae h]
def bS{H:Hp}{a b:Addr}{o u:HO}(h:H a=YaB)(h':H b=YaY)(d:o≠u):a≠b:=by ext Xgs;rw[h]at h';exact d (Wbi h')
def ao{H:Hp}{a b:Addr}{o:HO}(h:H a=YaB)(h':H b=none):a≠b:=by ext Xgs;rw[h]at h';cases h'
section
variable (P:Program) (w:World)
def fM(H:Hp)(h:Heap)(a:Addr):HO->Prop
 |.lst xs=>Ybp<=sizeLine/\∃(its:List Value)(n:Nat),Yoc/\Yds=some {cls:=Ybr,data:=YkJ}
 |.tup xs=>Ybp<=sizeLine/\∃its:YbN,Yoc/\IsTup h a its.toArray
 |.dK kvs=>YbM<=sizeLine/\Yhc=false/\∃vs,YiX/\Yru
 |.dT kvs=>YbM<=sizeLine/\Yhc=false/\∃xs:YAb,
   Paired (λ(p:List Key×V)(q:List Key×Addr×Value)=>p.1=q.1/\H q.2.1=YDL/\RelV p.2 q.2.2) kvs xs/\
   ∃o es ep,Yds=YaB/\Yu9/\o.data=YiR/\es.toList=xs.map (entryOfKey (YkG))/\(xs.map (·.1)).Nodup
 |.set S n=>h.SetOf (intKind P w) a S n
 |.ins C dx fs=>H dx=YmX/\Yte<=1000/\dx≠a/\Yds=some YrN/\
   ∃mA,h.Ns1 dx mA/\(∀f,YAS)/\PySem.Within mA (Yws)
 |.own _=>∃o,Yds=YaB
 |.xd fs=>∃mA,h.Ns1 a mA/\∀f,YAS
 |.rng lo hi=>∃t u v,Yds=some {cls:=YkW,data:=.fields #[Yxg,Yxh,YAL]}
 |.jh o u=>Yds=YaB/\fM H h a u
 |.Zm ps=>Yds=some {cls:=.none,data:=.fields ps}
 |.met f x=>Yds=some (PySem.W.methodObj YiB Ypu)
 |.ext φ=>φ h/\(∃o,Yds=YaB)/\∀h1 h2:Heap,φ h1->(∀o,h1.get? a=YaB->h2.get? a=YaB)->φ h2
 |.Fo pos q=>∃ps:Yj5,Yds=some {cls:=.none,data:=.fields ps}/\(ps= #[]∨∃c' oc vs t,ps= #[rawInt pos.line,rawInt pos.col,.ref c']/\H c'=YmX/\h.get? c'=some oc/\oc.data=.fields vs/\vs[1]? =some (.str q t))
def xP(H:Hp)(h:Heap):Prop:=∀a o,H a=YaB->Yt8
end
section
variable {P:Program} {w:World} {H H':Hp} {h h':Heap} {a:Addr} {o:HO}
def fM.lt(x:Yt8):a<Yj4:=by
 cases o with
 |lst xs=>obtain⟨_,_,_,_,e⟩:=x;ext XeS
 |tup xs=>obtain⟨_,_,_,p⟩:=x;exact p.lt
 |dK kvs=>ext Xbo;ext XeS
 |dT kvs=>ext Xbo;ext XeS
 |set S n=>ext XgM;ext XeS
 |ins C dx fs=>obtain⟨_,_,_,e,_⟩:=x;ext XeS
 |own y=>obtain⟨_,e⟩:=x;ext XeS
 |xd fs=>obtain⟨_,⟨_,_,_,e,_⟩,_⟩:=x;ext XeS
 |rng lo hi=>obtain⟨_,_,_,e⟩:=x;ext XeS
 |jh ob u=>obtain⟨e,_⟩:=x;ext XeS
 |Zm ps=>exact Yz6
 |met f y=>exact Yz6
 |ext φ=>obtain⟨_,⟨_,e⟩,_⟩:=x;ext XeS
 |Fo pos q=>obtain⟨_,e,_⟩:=x;ext XeS
def Paired.gE:∀{l₁:List α}{l₂:List β},Paired F l₁ l₂->(∀a b,F a b->G a b)->Paired G l₁ l₂
 |_,_,.nil,_=>.nil
 |_,_,.cons r t,f=>.cons (f _ _ r) (Paired.gE t f)
def fM.xV(x:Yt8)(k:∀b u,(b=a∨H b=YmX)->YdX=YaY->Yb9=YaY)
(ho:∀b,H b=YmX->H' b=YmX)(ht:∀b xs,H b=YfP->H' b=YfP):fM P w H' h' a o:=by
 induction o with
 |lst xs=>obtain⟨z,its,n,r,e⟩:=x;exact⟨z,its,n,r,Yfj⟩
 |tup xs=>obtain⟨z,its,r,ob,e,c⟩:=x;exact⟨z,its,r,ob,Yfj,c⟩
 |dK kvs=>obtain⟨z,y,vs,r,ob,es,ep,e,c⟩:=x;exact⟨z,y,vs,r,ob,es,ep,Yfj,c⟩
 |dT kvs=>obtain⟨z,y,xs,r,ob,es,ep,e,c⟩:=x;exact⟨z,y,xs,Paired.gE r λp q z=>⟨z.1,ht _ _ z.2.1,z.2.2⟩,ob,es,ep,Yfj,c⟩
 |set S n=>obtain⟨ob,es,ep,t,e,c⟩:=x;exact⟨ob,es,ep,t,Yfj,c⟩
 |ins C dx fs=>obtain⟨d,z,ne,e,mA,⟨od,es,ep,e2,c⟩,r⟩:=x;exact⟨ho _ d,z,ne,Yfj,mA,⟨od,es,ep,k _ _ (.inr d) e2,c⟩,r⟩
 |own y=>obtain⟨ob,e⟩:=x;exact⟨ob,Yfj⟩
 |xd fs=>obtain⟨mA,⟨od,es,ep,e,c⟩,r⟩:=x;exact⟨mA,⟨od,es,ep,Yfj,c⟩,r⟩
 |rng lo hi=>obtain⟨t,u,v,e⟩:=x;exact⟨t,u,v,Yfj⟩
 |jh ob u ih=>obtain⟨e,q⟩:=x;exact⟨Yfj,ih q⟩
 |Zm ps=>have e:Yds=some {cls:=.none,data:=.fields ps}:=x;show Yw4=some {cls:=.none,data:=.fields ps};exact k a _ YwF e
 |met f y=>have e:Yds=Yto:=x;show Yw4=Yto;exact k a _ YwF e
 |ext φ=>obtain⟨p,⟨o,e⟩,st⟩:=x;exact⟨st _ _ p λo q=>k _ _ YwF q,⟨o,Yfj⟩,st⟩
 |Fo pos q=>
  obtain⟨ps,e,y|⟨c,oc,vs,t,e1,e2,e3,e4,e5⟩⟩:=x
  ·exact⟨ps,Yfj,.inl y⟩
  ·exact⟨ps,Yfj,.inr ⟨c,oc,vs,t,e1,ho _ e2,k _ _ (.inr e2) e3,e4,e5⟩⟩
def xP.lt(x:YeE)(e:H a=YaB):a<Yj4:=(x a o e).lt
def xP.fresh(x:YeE)(e:Yj4<=a):H a=none:=by
 cases q:H a with
 |none=>rfl
 |some u=>exact absurd (WaU (x.lt q) e) YrV
def xP.kept(x:YeE)(k:∀b u,YdX=YaY->Yb9=YaY):xP P w H h':=λa o e=>(x a o e).xV (λb u _ q=>k b u q) (λ_ q=>q) λ_ _ q=>q
def xP.laid(x:YeE)(k:∀b u,YdX=YaY->Yb9=YaY)(hp:Yj4<=a)(new:fM P w Yvf h' a o):xP P w Yvf h':=λb u e=>by
 have hn:=x.fresh hp;by_cases hb:b=a
 ·subst hb;rw[ab]at e;cases e;exact new
 ·rw[aA hb]at e;exact(x b u e).xV (λc v _ q=>k c v q) Yt1 λc xs q=>by ext XeV
end
def Rd(H:Hp)(a:Addr)(u:HO):Prop:=H a=YaY∨∃o,H a=YlT
def Rd.ok{P:Program}{w:World}{H:Hp}{h:Heap}{a:Addr}{u:HO}(r:Rd H a u)(x:YeE):fM P w H h a u:=by
 rcases r with r|⟨o,r⟩
 ·exact x a u r
 ·obtain⟨_,q⟩:=x a _ r;exact q
def Zh:Option HO->Prop
 |some (.lst _)=>True
 |some (.dK _)=>True
 |some (.dT _)=>True
 |some (.set _ _)=>True
 |some (.ins _ _ _)=>True
 |some (.ext _)=>True
 |_=>False
section
variable {P:Program} {w:World} {H:Hp} {h h':Heap} {x e:Addr} {o':HO}
def xP.write(ok:YeE)(mu:Zh (H x))(he:e=x∨H e=Ywn)(k:∀b u,b≠e->YdX=YaY->Yb9=YaY)(heo:∃u,h'.get? e=YaY)
(new:fM P w (upd H x o') h' x o'):xP P w (upd H x o') h':=λb u q=>by
 have nown:∀c y,H c=some (.own y)->c≠x:=λc y r z=>by subst z;rw[r]at mu;exact mu
 have ntup:∀c xs,H c=YfP->c≠x:=λc xs r z=>by subst z;rw[r]at mu;exact mu
 by_cases hb:b=x
 ·subst hb;rw[ab]at q;cases q;exact new
 ·rw[aA hb]at q;by_cases hbe:b=e
  ·have q':H b=Ywn:=by
    rcases he with z|z
    ·exact absurd (hbe.trans z) hb
    ·rw[hbe];exact z
   rw[q]at q';cases q';obtain⟨v,hv⟩:=heo;exact⟨v,by rw[hbe];exact hv⟩
  ·refine(ok b u q).xV (λc v hc r=>k c v ?_ r) (λc r=>by rw[aA (nown c b r)];exact r) λc xs r=>by rw[aA (ntup c xs r)];exact r
   rcases hc with rfl|hc
   ·exact hbe
   ·rintro rfl;rcases he with z|z
    ·exact nown c b hc z
    ·rw[hc]at z;cases z;exact hb rfl
end
structure Un (fs ex:Ybw) (H H':Hp) (h h':Heap):Prop where
 keep:∀b o,YdX=YaB->H b=none->b∉fs->b∉ex->Yb9=YaB
 slot:∀b o,YdX=YaB->H b=none->b∈fs->b∉ex->∃sl,Yb9=some {o with slots:=sl}
 free:∀b o,YdX=YaB->H b=none->b∉ex->H' b=none
 there:∀b o,YdX=YaB->b∉ex->∃o',Yb9=some o'
 Mh:∀b xs,H b=YfP->H' b=YfP
 Jl:∀b o u,H b=YlT->H' b=YlT
 Ml:∀b ps,H b=some (.Zm ps)->∃more,H' b=some (.Zm (ps++more))
section
variable {fs fs' ex ex':List Addr} {H H1 H2:Hp} {h h1 h2 h':Heap} {a x e:Addr} {o:HO}
def Un.any(u:Un fs ex H H1 h h1){b:Addr}{ob:Obj}(q:YdX=Yy7)(n:H b=none)(hx:b∉ex):∃sl,h1.get? b=some {ob with slots:=sl}:=by
 by_cases hb:b∈fs
 ·exact u.slot b ob q n hb hx
 ·exact⟨ob.slots,u.keep b ob q n hb hx⟩
def Un.kept(k:∀b u,YdX=YaY->Yb9=YaY):Un fs ex H H h h':=⟨λb ob q _ _ _=>k b ob q,λb ob q _ _ _=>⟨ob.slots,k b ob q⟩,λ_ _ _ n _=>n,λb ob q _=>⟨ob,k b ob q⟩,λ_ _ q=>q,λ_ _ _ q=>q,λ_ ps q=>⟨#[],by rw[q];simp⟩⟩
def Un.refl:Un fs ex H H h h:=Un.kept λ_ _ q=>q
def Un.laid(k:∀b u,YdX=YaY->Yb9=YaY)(hp:Yj4<=a)(hn:H a=none):Un fs ex H Yvf h h' where
 keep:=λb u q _ _ _=>k b u q
 slot:=λb u q _ _ _=>⟨u.slots,k b u q⟩
 free:=λb u q n _=>by rw[aA (WaY (WaU (WaB q) hp))];exact n
 there:=λb u q _=>⟨u,k b u q⟩
 Mh:=λb xs q=>by ext XeV
 Jl:=λb u xs q=>by ext XeV
 Ml:=λb ps q=>⟨#[],by rw[aA (ao q hn),q];simp⟩
def Un.write(mu:Zh (H x))(he:e=x∨H e=Ywn)(k:∀b u,b≠e->YdX=YaY->Yb9=YaY)(heo:∃u,h'.get? e=YaY):Un fs ex H (upd H x o) h h':=by
 have hx:∀b,H b=none->b≠x:=λb n z=>by subst z;rw[n]at mu;exact mu
 have hb:∀b,H b=none->b≠e:=λb n z=>by
  subst z;rcases he with r|r
  ·exact hx b n r
  ·rw[n]at r;cases r
 have hm:∀b u,H b=YaY->¬Zh (YaY)->b≠x:=λb u q nm z=>by subst z;rw[q]at mu;exact nm mu
 refine⟨λb u q n _ _=>k b u (hb b n) q,λb u q n _ _=>⟨u.slots,k b u (hb b n) q⟩,λb u q n _=>by rw[aA (hx b n)];exact n,λb u q _=>?_,
  λb xs q=>by rw[aA YxZ];exact q,λb u xs q=>by rw[aA YxZ];exact q,λb ps q=>⟨#[],by rw[aA YxZ,q];simp⟩⟩
 by_cases hbe:b=e
 ·subst hbe;exact heo
 ·exact⟨u,k b u hbe q⟩
end
def trk(h:Heap)(H:Hp):Ybw:=(YrF).filter λa=>(H a).isSome
def Nj(h:Heap)(H:Hp):Heap:=PySem.W.hideAll h (trk h H)
def UW(h:Heap)(H:Hp):(Nj h H).objs.size=Yj4:=PySem.W.hideAll_size _ _
def WY(e:YdX=YaB)(n:H b=none):(Nj h H).get? b=YaB:=PySem.W.hideAll_get _ e λhm=>by have q:(H b).isSome=true:=(Wbf.mp hm).2;rw[n]at q;simp at q
def YH(e:(Nj h H).get? b=YaB):YdX=YaB/\H b=none:=by
 have e':YdX=YaB:=PySem.W.of_hideAll (trk h H) e;refine⟨e',?_⟩;cases q:H b with
 |none=>rfl
 |some x=>have hm:b∈trk h H:=Wbf.mpr ⟨Wbx.mpr (WaB e'),by simp[q]⟩;have z:(Nj h H).get? b=none:=PySem.W.hideAll_none (trk h H) hm;rw[z]at e;cases e
end L2
namespace L2
open PySem PySem.Spec PyProof.Rows
def acd(h:Heap)(mg:Str->Yci):Prop:=∃bm o,mg "__builtins__"=some (.ref bm)/\bm≠builtinsNs/\bm≠mainGlobals/\h.get? bm=YaB/\o.cls=.type "module"/\o.dict=some builtinsNs/\o.data=.plain
structure Mod (K:Yaj) (mg:Str->Yci) (base:Heap):Prop where
 kin:K.In base
 glob:base.Ns mainGlobals mg
 blt:∃mb,base.Ns builtinsNs mb/\∀x:Str,x≠"__name__"->mb x=Ypn
 nolimit:base.NoLimit
 bm:acd base mg
structure Cx where
 prog:Program
 w:World
 K:Yaj
 mg:Str->Yci
 base:Heap
 A:Around
 N:YeB
 Lv:Shared
 H_0:Hp
 env:Env
 outer:Ypt
 stack:Ypt
 ex:Ybw
 fn:Str->Bool
 calm:Bool
 pn:Ya0
 xe:Value->Shared->Prop
def W7(l:Ypt):Ybw:=l.filterMap (·.frame)
abbrev Cx.fs(X:Cx):Ybw:=W7 X.outer
def Vis(sc:Scope)(x:Str):Prop:=YfR=YdK∨YfR=Yeb∨YfR=Yh1
def Loc(sc:Scope)(x:Str):Prop:=YfR=YdK∨YfR=Yeb
def Look(env:Env)(h:Heap)(m:Str->Yci)(x:Str)(u:Value):Prop:=(env.kindOf x=YdK/\m x=YaY)∨((env.kindOf x=Yeb∨env.kindOf x=Yh1)/\∃c,env.cells.lookup x=Ycf/\h.IsCell c (YaY))
structure Cx.Ok (X:Cx):Prop where
 mod:Mod X.K X.mg X.base
 kind:YzG=.function
 glob:X.env.globals=mainGlobals
 blt:X.env.builtins=builtinsNs
 above:YdE<=YbJ
 inj:∀x y c,YbK=Ycf->YmL=Ycf->x=y
 has:∀x,(YDp=Yeb∨YDp=Yh1)->∃c,YbK=Ycf
 cab:∀x c,X.fn x=true->YbK=Ycf->YdE<=c
 hd:X.calm=true->X.A.handled=none
 frames:X.A.frames=some X.stack
 stk:X.stack=X.outer∨(X.stack=X.env::X.outer/\X.env.frame=some X.env.locals)
 exf:∀b∈X.ex,b≠YbJ/\∀x c,YbK=Ycf->c≠b
 bs:∀b o,Ym3=YaB->YzH=YaB/\X.H_0 b=none
 XT:X.base.objs.size<=YdE
 Wv:∀b o,Ym3=YaB->b∉X.ex
 W8:∀b∈X.ex,b∉X.fs
 GQ:X.Lv.heap.FunFrames X.base X.outer
 frf:∀b∈X.fs,X.H_0 b=none
structure Inv (X:Cx) (pins:Ya0) (σ:List (Yxp)) (H:Hp) (s:Shared):Prop where
 ok:X.Ok
 os:s.os=X.Lv.os
 bare:AllBare s.gens
 base:Un X.fs X.ex X.H_0 H X.Lv.heap s.heap
 loc:∃m,YDM/\∀(i:Nat)(x:Str)(v:V),X.N[i]? =YeH->σ[i]? =some (YcV)->YlF->∃u,YhF/\Look X.env s.heap m x u
 cell:∀x c,YbK=Ycf->∃v,s.heap.IsCell c v
 free:H X.env.locals=none
 tF:∀x c,YbK=Ycf->H c=none
 pin:∀p∈X.pn++pins,s.heap.get? p.1=some p.2/\H p.1=none/\p.1≠YbJ/\p.1∉X.fs/\∀v,p.2.data≠ .cell v
 cg:xP X.prog X.w H s.heap
 len:σ.length=X.N.length
section
variable {X:Cx} {pins:List (Addr×Obj)} {σ:List (Option V)} {H H':Hp} {s:Shared} {h':Heap}
def Cx.Ok.acR(ok:X.Ok)(e:Ym3=YaB):b∉X.fs:=λhb=>by have:=(ok.GQ.mem hb).1;ext Xe4;cases this
def Inv.bs(I:Yah):∀b o,Ym3=YaB->Ya4=YaB/\H b=none:=λb o e=>⟨I.base.keep b o (Ywy).1 (Ywy).2 (I.ok.acR e) (I.ok.Wv b o e),I.base.free b o (Ywy).1 (Ywy).2 (I.ok.Wv b o e)⟩
def Inv.bk(I:Yah):∀b o,Ym3=YaB->Ya4=YaB:=λb o e=>(I.bs b o e).1
def Inv.mod(I:Yah):Mod X.K X.mg X.base:=I.ok.mod
def Inv.NW(I:Yah):X.K.In s.heap:=I.ok.mod.kin.keeps I.bk
def Inv.lt(I:Yah):YbJ<Yam:=let⟨_,hn,_⟩:=I.loc;hn.lt
def Inv.sz(I:Yah):YdE<=Yam:=WaF I.ok.above (WcZ I.lt)
def Inv.YJ(I:Yah)(h:Yam<=a):a∉X.fs:=λhb=>by obtain⟨_,o,ho,_⟩:=I.ok.GQ.mem hb;exact absurd (WaU (WaB ho) (WaF I.sz h)) YrV
def Inv.cne(I:Yah):∀x c,YbK=Ycf->c≠YbJ:=λx c e z=>by obtain⟨v,o,ho,hd⟩:=YyV;obtain⟨m,⟨o',es,ep,ho',hd',_⟩,_⟩:=I.loc;rw[z,ho']at ho;cases ho;rw[hd']at hd;cases hd
theorem Inv.GQ(I:Yah):s.heap.FunFrames X.base X.outer:=by
 have all:∀(l:List Env),(∀b∈W7 l,b∈X.fs)->X.Lv.heap.FunFrames X.base l->s.heap.FunFrames X.base l:=by
  intro l;induction l with
  |nil=>intro _ _;trivial
  |cons env r ih=>intro hs hl;obtain⟨hk,⟨L,o,hf,hn,ho,hd⟩,hr⟩:=hl;have hL:L∈X.fs:=hs L (by unfold W7;rw[List.filterMap_cons,hf];exact List.mem_cons_self);obtain⟨sl,e⟩:=I.base.slot L o ho (I.ok.frf L hL) hL λz=>I.ok.W8 L z hL;exact⟨hk,⟨L,_,hf,hn,e,hd⟩,ih (λb hb=>hs b (by unfold W7;rw[List.filterMap_cons,hf];exact List.mem_cons_of_mem _ hb)) hr⟩
 exact all X.outer (λ_ hb=>hb) I.ok.GQ
def Inv.stack(I:Yah):s.heap.FunFrames X.base X.stack:=by
 rcases I.ok.stk with e|⟨e,hf⟩
 ·rw[e];exact I.GQ
 ·rw[e];obtain⟨m,hn,_⟩:=I.loc;refine .cons (by rw[I.ok.kind];decide) hf hn ?_ I.GQ;exact Heap.get?_none_of_le (WaF I.ok.XT I.ok.above)
def Inv.QN(I:Yah):∀b∈W7 X.stack,b∈YbJ::X.fs:=λb hb=>by
 rcases I.ok.stk with e|⟨e,hf⟩
 ·rw[e]at hb;exact Waq _ hb
 ·rw[e]at hb;unfold W7 at hb;rw[WbR,hf]at hb;exact hb
def Inv.Sr(I:Yah):∀b∈W7 X.stack,H b=none:=λb hb=>by
 rcases Wav.mp (I.QN b hb)with e|hb
 ·rw[e];exact I.free
 ·obtain⟨_,o,ho,_⟩:=I.ok.GQ.mem hb;exact I.base.free b o ho (I.ok.frf b hb) λz=>I.ok.W8 b z hb
def Inv.step{g':Array GenState}{t':Nat}{d':Drawn}{ch:Ybw}(I:Yah)
(hch:∀b∈ch,(b∈X.ex∨YdE<=b)/\b≠YbJ/\YkE/\∀p∈X.pn++pins,p.1≠b)
(keep:∀b o,b≠YbJ->b∉X.fs->b∉ch->Ya4=YaB->H b=none->Yb9=YaB)
(slot:∀b o,b≠YbJ->b∈X.fs->b∉ch->Ya4=YaB->H b=none->∃sl,Yb9=some {o with slots:=sl})(free:∀b o,b∉ch->Ya4=YaB->H b=none->H' b=none)
(there:∀b o,b∉ch->Ya4=YaB->∃o',Yb9=some o')
(Mh:∀b xs,H b=YfP->H' b=YfP)(Jl:∀b o u,H b=YlT->H' b=YlT)(Ml:∀b ps,H b=some (.Zm ps)->∃more,H' b=some (.Zm (ps++more)))
(ns:∀m,YDM->h'.Ns X.env.locals m)(cg:YuE)(hg:AllBare g'):
  Inv X pins σ H' {s with heap:=h',gens:=g',drawn:=d',toks:=t'}:=by
 have neL:∀b o,YzH=YaB->b≠YbJ:=λb o e=>YhU;have neC:∀b o,YzH=YaB->b∉X.ex->b∉ch:=λb o e hx hb=>by
  rcases(hch b hb).1 with z|z
  ·exact hx z
  ·exact absurd (WaU YrW z) YrV
 have cellK:∀x c,YbK=Ycf->∀v,s.heap.IsCell c v->h'.IsCell c v:=λx c e v ⟨o,ho,hd⟩=>by
  have nch:c∉ch:=λz=>(hch c z).2.2.1 x c e rfl;by_cases hc:c∈X.fs
  ·obtain⟨sl,q⟩:=slot c o (I.cne x c e) hc nch ho (Yym);exact⟨_,q,hd⟩
  ·exact⟨o,keep c o (I.cne x c e) hc nch ho (Yym),hd⟩
 refine⟨I.ok,I.os,hg,⟨Ynn,Ynn,λb o e n hx=>?_,λb o e hx=>?_,λb xs e=>Mh b xs (I.base.Mh b xs e),λb o xs e=>Jl b o xs (I.base.Jl b o xs e),λb ps e=>?_⟩,?_,λx c e=>?_,?_,λx c e=>?_,YcB,cg,I.len⟩
 ·exact keep b o (neL b o e) hb Yuj Ynk (YhQ)
 ·ext Xdj;obtain⟨sl',e2⟩:=slot b _ (neL b o e) hb Yuj e1 (YhQ);exact⟨sl',e2⟩
 ·ext Xci;exact free b o' Yuj e1 (YhQ)
 ·ext Xci;exact there b o' Yuj e1
 ·obtain⟨m1,e1⟩:=I.base.Ml b ps e;obtain⟨m2,e2⟩:=Ml b _ e1;exact⟨m1++m2,by rw[e2,Array.append_assoc]⟩
 ·ext Xep;refine⟨m,ns m hn,λi x v e1 e2 e3=>?_⟩;obtain⟨u,r,l⟩:=hl i x v e1 e2 e3;refine⟨u,r,?_⟩;rcases l with l|⟨k,c,e,z⟩
  ·exact .inl l
  ·exact .inr ⟨k,c,e,cellK x c e _ z⟩
 ·obtain⟨v,z⟩:=YyV;exact⟨v,cellK x c e v z⟩
 ·obtain⟨m,⟨o,_,_,ho,_⟩,_⟩:=I.loc;exact free _ o (λz=>(hch _ z).2.1 rfl) ho I.free
 ·obtain⟨v,o,ho,hd⟩:=YyV;exact free c o (λz=>(hch c z).2.2.1 x c e rfl) ho (Yym)
 ·ext Xeu;have nch:p.1∉ch:=λz=>(hch p.1 z).2.2.2 p hp rfl;exact⟨keep p.1 p.2 ne nf nch e n,free p.1 p.2 nch e n,ne,nf,d⟩
def Inv.un{t':Nat}(I:Yah)(u:Un X.fs [] H H' s.heap h')(cg:YuE):Inv X pins σ H' {s with heap:=h',toks:=t'}:=by
 ext XgV;obtain⟨sl,hL⟩:=u.any ho I.free Yao
 exact I.step (g':=s.gens) (d':=s.drawn) (ch:=[]) (λ_ z=>nomatch z) (λb o _ hb _ e n=>u.keep b o e n hb Yao) (λb o _ hb _ e n=>u.slot b o e n hb Yao) (λb o _ e n=>u.free b o e n Yao) (λb o _ e=>u.there b o e Yao) u.Mh u.Jl u.Ml (λm' hm=>by
  ext Xfg
  exact⟨_,es',ep',hL,r'⟩) cg I.bare
def Inv.call{g':Array GenState}{t':Nat}{d':Drawn}{ch:Ybw}(I:Yah)(u:Un (W7 X.stack) ch H H' s.heap h')(cg:YuE)(hg:AllBare g')
(hch:∀b∈ch,(b∈X.ex∨YdE<=b)/\b≠YbJ/\YkE/\∀p∈X.pn++pins,p.1≠b):
  Inv X pins σ H' {s with heap:=h',gens:=g',drawn:=d',toks:=t'}:=by
 ext XgV;obtain⟨sl,hL⟩:=u.any ho I.free λz=>(hch _ z).2.1 rfl
 exact I.step (ch:=ch) hch (λb o hL hb hc e n=>u.keep b o e n (λz=>(Wav.mp (I.QN b z)).elim hL hb) hc) (λb o _ _ hc e n=>u.any e n hc) (λb o hc e n=>u.free b o e n hc) (λb o hc e=>u.there b o e hc) u.Mh u.Jl u.Ml (λm' hm=>by
  ext Xfg
  exact⟨_,es',ep',hL,r'⟩) cg hg
def Inv.turned{t':Nat}{it:Addr}(I:Yah)(k:∀b o,b≠it->Ya4=YaB->Yb9=YaB)(hn:H it=none)(hL:it≠YbJ)
(h1:it∈X.ex∨YdE<=it)(h2:∀x c,YbK=Ycf->c≠it)(h3:∀p∈X.pn++pins,p.1≠it):Inv X pins σ H {s with heap:=h',toks:=t'}:=by
 have nit:∀b u,H b=YaY->b≠it:=λb u e z=>by rw[z,hn]at e;cases e
 refine I.step (g':=s.gens) (d':=s.drawn) (ch:=[it]) (λb hb=>?_) (λb o _ _ hc e _=>YlX) (λb o _ _ hc e _=>⟨o.slots,YlX⟩) (λ_ _ _ _ n=>n)
  (λb o hc e=>⟨o,YlX⟩) (λ_ _ e=>e) (λ_ _ _ e=>e) Yuu (λm hm=>?_) Ywz I.bare
 ·have e:b=it:=by ext XcH
  subst e;exact⟨h1,hL,h2,h3⟩
 ·obtain⟨o,es,ep,ho,r⟩:=hm;exact⟨o,es,ep,k _ o (WaC hL) ho,r⟩
 ·ext XcU
  ·rw[z];exact nit b u e
  ·exact nit c _ z
def Inv.tok(I:Yah)(t:Nat):Inv X pins σ H {s with toks:=t}:=I.un (h':=s.heap) (t':=t) Un.refl I.cg
def Inv.kept{t':Nat}(I:Yah)(k:∀b u,Ya4=YaY->Yb9=YaY):Inv X pins σ H {s with heap:=h',toks:=t'}:=I.un (Un.kept k) (I.cg.kept k)
def Inv.laid{a:Addr}{o:HO}{t':Nat}(I:Yah)(k:∀b u,Ya4=YaY->Yb9=YaY)(hp:Yam<=a)(new:fM X.prog X.w Yvf h' a o):
  Inv X pins σ Yvf {s with heap:=h',toks:=t'}:=I.un (Un.laid k hp (I.cg.fresh hp)) (I.cg.laid k hp new)
def Inv.write(I:Yah)(mu:Zh (H x))(he:e=x∨H e=Ywn)(k:∀b u,b≠e->Ya4=YaY->Yb9=YaY)(heo:∃u,h'.get? e=YaY)
(new:fM X.prog X.w (upd H x o) h' x o):Inv X pins σ (upd H x o) {s with heap:=h',toks:=t'}:=I.un (Un.write mu he k heo) (I.cg.write mu he k heo new)
def Inv.weak{σ':List (Yxp)}(I:Yah)(hl:σ'.length=σ.length)(w:∀(i:Nat) v,σ'[i]? =some (YcV)->σ[i]? =some (YcV)):Inv X pins σ' H s:=⟨I.ok,I.os,I.bare,I.base,let⟨m,hn,hl'⟩:=I.loc;⟨m,hn,λi x v e1 e2 e3=>hl' i x v e1 (w i v e2) e3⟩,I.cell,I.free,I.tF,I.pin,I.cg,hl.trans I.len⟩
def Inv.SF(I:Yah)(h:∀p∈pins',s.heap.get? p.1=some p.2/\H p.1=none/\p.1≠YbJ/\p.1∉X.fs/\∀v,p.2.data≠ .cell v):Inv X pins' σ H s:=⟨I.ok,ZaA,λp hp=>(Wac.mp hp).elim (λz=>I.pin p (Wc4 _ z)) (h p),I.cg,I.len⟩
def IP{N:YeB}(hN:N.Nodup){i j:Nat}{x:Str}(a:N[i]? =YeH)(b:N[j]? =YeH):i=j:=by obtain⟨h1,e1⟩:=Wao.mp a;obtain⟨h2,e2⟩:=Wao.mp b;exact(List.getElem_inj hN).mp (e1.trans e2.symm)
def Ln{M:Model}{A:Around}{E:Value->Shared->Prop}{i:Nat}{x:Str}{v:V}{u:Value}{Q:Unit->Shared->Prop}(I:Yah)(hN:Yop)(hi:X.N[i]? =YeH)(hx:YlH)(r:YhF)
(h:∀s',Inv X pins Yre H s'->(∃a,Heap.SameBut a s.heap s'.heap/\(a=YbJ∨YbK=some a))->Q () s')(hf:X.fn x=true∨Ydm=YdK:=by first|exact .inl rfl|exact .inr rfl|assumption):Ytn:=by
 obtain⟨m,hn,hl⟩:=id I.loc;have hcls:(YzG== .class||(YzG== .module&&YbJ !=X.env.globals))=false:=by rw[I.ok.kind];rfl
 have hiσ:i<σ.length:=by rw[I.len];exact(Wao.mp hi).1
 have cne:=I.cne;have tracked:∀{a:Addr}{h':Heap},(∃o,s.heap.get? a=YaB/\H a=none)->Yg5->xP X.prog X.w H h':=λ{a h'} ha hs b ob e=>by
  obtain⟨_,_,hfree⟩:=ha;refine(I.cg b ob e).xV (λc w' hc q=>(hs.2 c ?_).trans q) (λ_ q=>q) λ_ _ q=>q;rintro rfl;rcases hc with rfl|hc
  ·rw[hfree]at e;cases e
  ·rw[hfree]at hc;cases hc
 rcases hx with hk|hk
 ·refine wpAny_storeName_local hk hn (λh' hn' hs=>?_) hcls;obtain⟨oL,_,_,hoL,_⟩:=id hn;refine h _ ⟨ZaC,⟨_,hn',λj y v' e1 e2 e3=>?_⟩,λy c e=>?_,I.free,I.tF,YcB,tracked ⟨oL,hoL,I.free⟩ hs,by simpa using I.len⟩ ⟨_,hs,YbW⟩
  ·exact(hs.2 b (YhU)).trans Ynk
  ·ext Xdj;exact⟨sl,(hs.2 b (YhU)).trans e1⟩
  ·ext Xci;exact⟨o',(hs.2 b (YhU)).trans e1⟩
  ·by_cases hj:j=i
   ·ext Xfe;exact⟨u,r,.inl ⟨hk,Ydx⟩⟩
   ·ext Xdg;rcases q with⟨k,e⟩|⟨k,c,e,z⟩
    ·refine .inl ⟨k,?_⟩;have:y≠x:=λe=>hj (IP hN e1 (e▸hi));simp[this,e]
    ·exact .inr ⟨k,c,e,YDI⟩
  ·obtain⟨w',z⟩:=I.cell y c e;exact⟨w',YDI⟩
  ·ext Xeu;exact⟨(hs.2 p.1 ne).trans e,n,ne,nf,d⟩
 ·have hfn:X.fn x=true:=by
   rcases hf with z|z
   ·exact z
   ·rw[z]at hk;cases hk
  obtain⟨c,hc⟩:=I.ok.has x (.inl hk);obtain⟨w',z⟩:=I.cell x c hc;refine wpAny_storeName_cell I.ok.kind hk hc z (λh' hc' hs=>?_);obtain⟨oc,hoc,hocd⟩:=id z;refine h {s with heap:=h'} ⟨ZaC,⟨m,hn.sameBut hs (WaC (cne x c hc)),λj y v' e1 e2 e3=>?_⟩,λy c' e=>?_,I.free,I.tF,YcB,tracked ⟨oc,hoc,I.tF x c hc⟩ hs,by simpa using I.len⟩ ⟨c,hs,.inr hc⟩
  ·exact(Ygm).trans Ynk
  ·ext Xdj;exact⟨sl,(Ygm).trans e1⟩
  ·ext Xci;exact⟨o',(Ygm).trans e1⟩
  ·by_cases hj:j=i
   ·ext Xfe;exact⟨u,r,.inr ⟨.inl hk,c,hc,hc'⟩⟩
   ·ext Xdg;rcases q with q|⟨k,c',e,z'⟩
    ·exact .inl q
    ·refine .inr ⟨k,c',e,z'.sameBut hs ?_⟩;rintro rfl;exact hj (IP hN e1 (I.ok.inj _ _ _ e hc▸hi))
  ·by_cases hcc:c'=c
   ·subst hcc;exact⟨_,hc'⟩
   ·obtain⟨w2,z2⟩:=I.cell y c' e;exact⟨w2,z2.sameBut hs hcc⟩
  ·ext Xeu;refine⟨(hs.2 p.1 ?_).trans e,n,ne,nf,d⟩;intro q;rw[q,hoc]at e;have q':oc=p.2:=Wbi e;exact d w' (by rw[<-q'];exact hocd)
def Hw{M:Model}{A:Around}{E:Value->Shared->Prop}{i:Nat}{x:Str}{v:V}{u:Value}{Q:Unit->Shared->Prop}(I:Yah)(hN:Yop)(hi:X.N[i]? =YeH)(hx:YlH)(r:YhF)
(h:∀s',Inv X pins Yre H s'->Q () s')(hf:X.fn x=true∨Ydm=YdK:=by first|exact .inl rfl|exact .inr rfl|assumption):Ytn:=
 Ln I hN hi hx r (λs' I' _=>h s' I') hf
def Inv.abY{s':Shared}{ch:Ybw}(I:Yah)(ho:s'.os=s.os)(u:Un (W7 X.stack) ch H H' s.heap s'.heap)(cg:xP X.prog X.w H' s'.heap)(hg:YBb)
(hch:∀b∈ch,(b∈X.ex∨YdE<=b)/\b≠YbJ/\YkE/\∀p∈X.pn++pins,p.1≠b):Yeo:=by
 obtain⟨h',g',d',t',o'⟩:=s';have e:o'=s.os:=ho;subst e;exact I.call (g':=g') (t':=t') (d':=d') u cg hg hch
end
abbrev XK:=Value->YBD->Hp->Prop
abbrev St:=List (Yxp)
abbrev VK:=V->Hp->Prop
abbrev TE:=St->Hp->VK->Prop
abbrev TT:=St->Hp->(Bool->Hp->Prop)->Prop
abbrev TA:=St->Hp->(YcT->Hp->Prop)->Prop
structure Ends where
 nx:St->Hp->Prop
 rt:VK
 bk:St->Hp->Prop:=λ_ _=>False
 ct:St->Hp->Prop:=λ_ _=>False
abbrev TS:=Ends->St->Hp->Prop
def EP(X:Cx)(pins:Ya0)(σ:St)(Q:VK)(u:Value)(s':Shared):Prop:=∃v H',Yeo/\YhF/\YC9
def TP(X:Cx)(pins:Ya0)(σ:St)(Q:Bool->Hp->Prop)(b:Bool)(s':Shared):Prop:=∃H',Yeo/\Q b H'
def AP(X:Cx)(pins:Ya0)(σ:St)(Q:YcT->Hp->Prop)(us:YbN)(s':Shared):Prop:=∃vs H',Yeo/\YnH/\Q vs H'
def SP(X:Cx)(pins:Ya0)(D:Ends)(f:Flow)(s':Shared):Prop:=
 match f with
 |.next=>∃σ' H',Yd1/\D.nx σ' H'
 |.brk=>∃σ' H',Yd1/\D.bk σ' H'
 |.cont=>∃σ' H',Yd1/\D.ct σ' H'
 |.ret u=>∃v σ' H',Yd1/\YhF/\D.rt v H'
def PE(X:Cx)(e:Expr)(t:TE):Prop:=∀(pins:List (Addr×Obj))(s:Shared)(σ:St)(H:Hp)(Q:VK),Yah->Yxl->wpAny Yar X.A (YgD) Yb5 X.xe s
def PT(X:Cx)(e:Expr)(t:TT):Prop:=∀(pins:List (Addr×Obj))(s:Shared)(σ:St)(H:Hp)(Q:Bool->Hp->Prop),Yah->Yxl->wpAny Yar X.A (isTrue e X.env (YgD)) YzS X.xe s
def PW(X:Cx)(e:Expr)(t:TT):Prop:=∀(whole:Sem Value)(pins:List (Addr×Obj))(s:Shared)(σ:St)(H:Hp)(Q:Bool->Hp->Prop),Yah->Yxl->wpAny Yar X.A (isTrue e X.env whole) YzS X.xe s
def PW.pt{X:Cx}{e:Expr}{t:TT}(h:PW X e t):PT X e t:=h _
def PA(X:Cx)(es:YhW)(t:TA):Prop:=∀(pos:Pos)(pins:List (Addr×Obj))(s:Shared)(σ:St)(H:Hp)(Q:List V->Hp->Prop),Yah->Yxl->wpAny Yar X.A (spliced (Ycb)) (AP X pins σ Q) X.xe s
def PS(X:Cx)(st:Stmt)(t:TS):Prop:=∀(pins:List (Addr×Obj))(s:Shared)(σ:St)(H:Hp)(D:Ends),Yah->t D σ H->wpAny Yar X.A (exec st X.env) (SP X pins D) X.xe s
def Tt(X:Cx)(st:Ytj)(t:TS):Prop:=∀(pins:List (Addr×Obj))(s:Shared)(σ:St)(H:Hp)(D:Ends),Yah->t D σ H->wpAny Yar X.A (execs st X.env) (SP X pins D) X.xe s
def dq{α:Type}{t:Sem α}{Q Q':α->Shared->Prop}{M:Model}{A:Around}{E:Value->Shared->Prop}{s:Shared}(h:wpAny M A t Q E s)(hQ:∀a s,Q a s->Q' a s):wpAny M A t Q' E s:=WbZ h hQ λ_ _ x=>x
end L2
namespace L2
open PySem PySem.Spec PyProof.Rows
section
variable {X:Cx}
def abf(i:Nat):TE:=λσ H Q=>∃v,σ[i]? =some (YcV)/\Q v H
def tC(v:V):TE:=λ_ H Q=>Q v H
def Wl(hN:X.N[i]? =YeH)(hv:YlF)(hd:YbC=false:=by decide)(hcd:Yot=false:=by decide):PE X YkY (abf i):=by
 ext Xaf;obtain⟨v,e,h⟩:=h;ext Xep;obtain⟨u,r,l⟩:=hl i x v hN e hv;have fin:EP X pins σ Q u s:=⟨v,H,I,r,h⟩;ext XgT
 ·exact wpAny_Name (Wd7 I.ok.kind hk hn hm fin) hd
 ·rcases hk with hk|hk
  ·exact wpAny_Name (wpAny_loadName_cell I.ok.kind hk hc hcell fin) hd
  ·exact wpAny_Name (wpAny_loadName_free I.ok.kind hk hc hcell fin hcd) hd
def aq{i j pos}:PE X (.Constant (Yoh) j pos) (tC (Yoh)):=λ_ _ _ H _ I h=>wpAny_Constant_int ⟨Yoh,H,Yga,YeS,h⟩
def rB{b j pos}:PE X (.Constant (.bool b) j pos) (tC (.bl b)):=λ_ _ _ H _ I h=>Constant_bool ⟨.bl b,H,I,rfl,h⟩
def aW{x j pos}:PE X (.Constant (Yx5) j pos) (tC (Yx5)):=λ_ _ _ H _ I h=>Calls.Constant_str ⟨Yx5,H,Yga,YeS,h⟩
def Gl(X:Cx)(x:Str):Prop:=YDp=some .globalImplicit
def Hh{E:Value->Shared->Prop}{pins:Ya0}{s:Shared}{σ:St}{H:Hp}{x:Str}{u:Value}{pos:Pos}{Q:Value->Shared->Prop}(I:Yah)(hg:YDa)(hm:YC8=YaY)(h:Q u s)
(hd:YbC=false:=by decide):YtX:=
 Calls.Name_function_global I.ok.kind hg (Calls.loadGlobal_global Yps hm h) hd
def uA{E:Value->Shared->Prop}{pins:Ya0}{s:Shared}{σ:St}{H:Hp}{x:Str}{u:Value}{pos:Pos}{Q:Value->Shared->Prop}(I:Yah)(hg:YDa)(hm:YC8=none)(hv:Ypn=YaY)(h:Q u s)
(hn:x≠"__name__":=by decide)(hd:YbC=false:=by decide):YtX:=by
 obtain⟨mb,h1,h2⟩:=I.mod.blt;exact Calls.Name_function_global I.ok.kind hg (Calls.loadGlobal_builtin Yps hm (by rw[I.ok.blt];exact h1.keeps I.bk) ((h2 x hn).trans hv) h) hd
def YF(hg:YDa)(hm:YC8=YaY)(r:YhF)(hd:YbC=false:=by decide):PE X YkY (tC v):=λ_ _ _ H _ I h=>Hh I hg hm ⟨v,H,I,r,h⟩ hd
variable {a b:Expr} {ta tb:TE} {pos:Pos}
def PC(X:Cx)(op:CmpOp)(a b:Expr)(t:TE):Prop:=
 ∀(pins:List (Addr×Obj))(s:Shared)(σ:St)(H:Hp)(Q:VK),Yah->Yxl->
  wpAny Yar X.A (YyR) (λv s₁=>wpAny Yar X.A (eval b X.env) (λu s₂=>wpAny Yar X.A (compareOp op v u) Yb5 X.xe s₂) X.xe s₁) X.xe s
def tB(t:TE):TT:=λσ H Q=>t σ H λx H1=>∃c,x=.bl c/\Q c H1
def aaf(h:PC X op a b t)(h1:YkI=false:=by first|exact Ww _ (by decide) (by decide)|rfl):PE X Yjv t:=λpins s σ H Q I hw=>wpAny_Compare1 YrL h1
def gd{op:CmpOp}{t:TE}(h:PC X op a b t)(h1:YkI=false:=by first|exact Ww _ (by decide) (by decide)|rfl):PT X Yjv (tB t):=by ext Xe1;refine wpAny_isTrue_Compare1 (dq YrK λv s1 h1=>dq h1 λu s2 h2=>dq h2 λc s3 ⟨x,H1,I1,r1,q1⟩=>?_) h1;ext Xfh
def ck{e:Expr}{t:TE}(h:PE X e t)(he:∀whole,isTrue e X.env whole=(do let v<-whole;standAt e.pos;holding [v] (truthy v)):=by intro _;rfl):PT X e (tB t):=by ext Xe1;refine isTrue_plain (dq YrK λv s1 ⟨x,H1,I1,r1,q1⟩=>?_) (he _);ext Xfh
variable {tA tB':TT} {rest:List Expr}
def acA(t u:TT):TT:=λσ H Q=>t σ H λc H1=>if c=true then u σ H1 Q else Q false H1
def tOr(t u:TT):TT:=λσ H Q=>t σ H λc H1=>if c=true then Q true H1 else u σ H1 Q
def acu(t:TT):TT:=λσ H Q=>t σ H λc H1=>Q (!c) H1
def tm(ha:YBZ):PW X (.BoolOp .And [a] pos) tA:=by
 ext Xer;refine isTrue_and Yr1;cases c with
 |true=>exact isTrue_and_nil e
 |false=>exact e
def yD(ha:YBZ):PW X (.BoolOp .Or [a] pos) tA:=by
 ext Xer;refine isTrue_or Yr1;cases c with
 |false=>exact isTrue_or_nil e
 |true=>exact e
def yE(ha:YBZ)(hb:PW X YAg tB'):PW X YxH (acA tA tB'):=by
 ext Xer;refine isTrue_and Yvy;cases c with
 |true=>exact YAq
 |false=>exact⟨H1,I1,q1⟩
def A1(ha:YBZ)(hb:PW X (.BoolOp .Or (b::rest) pos) tB'):PW X (.BoolOp .Or (a::b::rest) pos) (tOr tA tB'):=by
 ext Xer;refine isTrue_or Yvy;cases c with
 |true=>exact⟨H1,I1,q1⟩
 |false=>exact YAq
def eR(ha:YBZ):PT X (.UnaryOp .Not a pos) (acu tA):=by ext Xaf;exact isTrue_not (ha pins s σ H (λc H1=>Q (!c) H1) I h)
def abo(ta tb:TE):TE:=λσ H Q=>ta σ H λx H1=>∃c,x=.bl c/\if c=true then tb σ H1 Q else Q YlO H1
def Wm{op}(h:PE X a t):PE X (.BoolOp op [a] pos) t:=λpins s σ H Q I hw=>BoolOp_one YrL
def Wr(ha:Ymq)(hb:PE X YAg tb):PE X YxH (abo ta tb):=by
 ext Xaf;refine BoolOp_and (dq YcA λv s1 ⟨x,H1,I1,r1,q1⟩=>?_);obtain⟨c,rfl,q1⟩:=q1;cases r1;refine Wb7 ?_;cases c with
 |true=>exact YDT
 |false=>exact⟨.bl false,H1,I1,rfl,q1⟩
def tIf(t:TT)(ta tb:TE):TE:=λσ H Q=>t σ H λc H1=>if c=true then ta σ H1 Q else tb σ H1 Q
def OQ{c:Expr}(hc:PT X c tA)(ha:Ymq)(hb:Yp8):PE X (.IfExp c a b pos) (tIf tA ta tb):=by
 ext Xaf;refine wpAny_IfExp YmR;cases d with
 |true=>exact ha pins s1 σ H1 Q I1 q1
 |false=>exact YDT
end
end L2
namespace L2
open PySem PySem.Spec PyProof.Rows
def aV(K:Yaj)(H:Hp)(a:Addr)(xs:YcT):Prop:=
 Rd H a Ytm∨
  ∃(o:Obj)(its:Array Value)(n:Nat),K.lookup a=YaB/\o.cls=Ybr/\o.dict=none/\o.data=.seq its n/\its.size<=sizeLine/\Vals xs its.toList
def eA(K:Yaj)(H:Hp)(a:Addr)(xs:YcT):Prop:=
 Rd H a YB5∨
  ∃(o:Obj)(its:Array Value)(n:Nat),K.lookup a=YaB/\o.cls=Yb2/\o.data=.seq its n/\its.size<=sizeLine/\Vals xs its.toList
def ac3:Value->Option V
 |.none=>some .fR
 |.bool b=>some (.bl b)
 |.int i _=>some (Yoh)
 |.str x _=>some (Yx5)
 |.bytes b _=>some (.NX b)
 |.float b _=>some (.flt b)
 |.ref a=>Yfd
 |.type n=>some (.ty n)
 |_=>none
def RelV.abs(r:RelV x u):ac3 u=YeH:=by
 cases x with
 |fR=>cases r;rfl
 |bl _=>cases r;rfl
 |int _=>ext XaR;rfl
 |str _=>ext XaR;rfl
 |NX _=>ext XaR;rfl
 |flt _=>ext XaR;rfl
 |ref _=>cases r;rfl
 |ty _=>cases r;rfl
def RelV.inj{x y:V}{u:Value}(r:RelV x u)(q:YhE):x=y:=Wbi (r.abs.symm.trans q.abs)
def Vals.inj:∀{xs ys:List V}{us:List Value},Yh4->Vals ys us->xs=ys
 |_,_,_,.nil,.nil=>rfl
 |_,_,_,.cons r t,.cons r' t'=>by rw[r.inj r',Vals.inj t t']
section
variable {X:Cx} {pins:List (Addr×Obj)} {σ:St} {H:Hp} {s:Shared} {a:Addr} {xs ys:List V}
def aV.of{K:Yaj}(h:H a=YdB):YcS:=.inl (YiC)
def eA.of{K:Yaj}(h:H a=YfP):Yn9:=.inl (YiC)
def Inv.list(I:Yah)(h:aV X.K H a xs):∃its:YbN,Yoc/\PlainL s.heap a its.toArray/\Ybp<=sizeLine:=by
 rcases h with h|⟨o,its,n,hk,hc,hd,hs,hz,r⟩
 ·obtain⟨z,its,n,r,e⟩:=h.ok I.cg;exact⟨its,r,⟨_,n,e,ZaI,rfl⟩,z⟩
 ·refine⟨its.toList,r,⟨o,n,I.NW a o hk,hc,hd,by simpa using hs⟩,?_⟩;have e:=YcN;simp only[WbC]at e;omega
def Inv.tuple(I:Yah)(h:eA X.K H a xs):∃its:YbN,Yoc/\IsTup s.heap a its.toArray/\Ybp<=sizeLine:=by
 rcases h with h|⟨o,its,n,hk,hc,hs,hz,r⟩
 ·obtain⟨z,its,r,p⟩:=h.ok I.cg;exact⟨its,r,p,z⟩
 ·refine⟨its.toList,r,⟨o,I.NW a o hk,hc,n,by simpa using hs⟩,?_⟩;have e:=YcN;simp only[WbC]at e;omega
def Inv.oj(I:Yah)(h:aV X.K H a xs)(h':aV X.K H a ys):xs=ys:=by
 obtain⟨its,r,⟨o,n,e,_,_,d⟩,_⟩:=I.list h;obtain⟨its',r',⟨o',n',e',_,_,d'⟩,_⟩:=I.list h';rw[e]at e';cases e';rw[d]at d';injection d' with d1 _;have:its=its':=by simpa using Wa6 Array.toList d1
 subst this;exact r.inj r'
end
abbrev Cx.J5(X:Cx)(E:Value->Shared->Prop):Cx:={X with xe:=E}
abbrev Cx.nox(X:Cx):Cx:=X.J5 λ_ _=>False
def Cx.Ok.J5{X:Cx}(ok:X.Ok)(E:Value->Shared->Prop):(X.J5 E).Ok:=YdA
def Cx.Ok.x9{X:Cx}{E:Value->Shared->Prop}(ok:(X.J5 E).Ok):X.Ok:=YdA
section
variable {X:Cx} {pins:List (Addr×Obj)} {σ:St} {H:Hp} {s:Shared} {E:Value→Shared→Prop}
def Inv.J5(I:Yah)(E:Value->Shared->Prop):YD5:=⟨I.ok.J5 E,ZcD⟩
def Inv.x9(I:YD5):Yah:=⟨I.ok.x9,ZcD⟩
def SP.x9(h:SP (X.J5 E) pins D f s'):SP X pins D f s':=by
 cases f with
 |next=>ext XcD
 |brk=>ext XcD
 |cont=>ext XcD
 |ret u=>obtain⟨v,σ',H',I,r,q⟩:=h;exact⟨v,σ',H',I.x9,r,q⟩
def Tt.nox{st:Ytj}{t:TS}(h:Tt X.nox st t):Tt X st t:=λpins s σ H D I hw=>WbZ (h pins s σ H D (I.J5 _) hw) (λ_ _ q=>q.x9) λ_ _ z=>False.elim z
end
section
variable {X:Cx} {st:Stmt} {rest:List Stmt} {t u:TS} {e:Expr} {te:TE} {pos:Pos}
def Zn:TS:=λD σ H=>Yxd
def ZQ(t u:TS):TS:=λD σ H=>t {D with nx:=u D} σ H
def az:Tt X [] Zn:=λ_ _ σ H _ I h=>Wd2 YDd
def af(h1:PS X st t)(h2:Tt X rest u):Tt X (st::rest) (ZQ t u):=by
 ext XaJ;refine wpAny_execs_cons (dq (h1 pins s σ H {D with nx:=u D} I h) λf s1 q=>?_);cases f with
 |next=>obtain⟨σ',H',I',q⟩:=q;exact h2 pins s1 σ' H' D I' q
 |ret v=>exact q
 |brk=>exact q
 |cont=>exact q
def aj(h1:PS X st t):Tt X [st] t:=by
 ext XaJ;refine wpAny_execs_cons (dq (h1 pins s σ H D I h) λf s1 q=>?_);cases f with
 |next=>exact Wd2 q
 |ret v=>exact q
 |brk=>exact q
 |cont=>exact q
def ZW:TS:=λD σ H=>D.bk σ H
def Wj:PS X (.Break pos) ZW:=λ_ _ σ H _ I h=>wpAny_Break YDd
def Inv.quiet{pins:Ya0}{σ:St}{H:Hp}{s:Shared}(I:Yah):interactive X.env=false:=by simp[interactive,I.ok.kind]
def abk(te:TE):TS:=λD σ H=>te σ H λ_ H1=>D.nx σ H1
def bp(he:Ymp)(hs:swapsWith e none pos.line X.env=pure false:=by rfl):PS X (.Expr e pos) (abk te):=by ext XaJ;exact wpAny_Expr_any (dq Yca λv s1 ⟨x,H1,I1,r1,q1⟩=>⟨σ,H1,I1,q1⟩) I.quiet hs
def acs(te:TE):TS:=λD σ H=>te σ H D.rt
def au(he:Ymp):PS X (.Return (some e) pos) (acs te):=by ext XaJ;exact wpAny_Return_some (dq Yca λv s1 ⟨x,H1,I1,r1,q1⟩=>⟨x,σ,H1,I1,r1,q1⟩)
def abi(c:TT)(t u:TS):TS:=λD σ H=>c σ H λb H1=>if b=true then t D σ H1 else u D σ H1
def aM{c:Expr}{a b:Ytj}{tc:TT}(hc:PT X c tc)(ha:Tt X a t)(hb:Tt X b u):PS X (.If c a b pos) (abi tc t u):=by
 ext XaJ;refine wpAny_If YmR;cases d with
 |true=>exact ha pins s1 σ H1 D I1 q1
 |false=>exact hb pins s1 σ H1 D I1 q1
end
abbrev TG:=V->St->Hp->(St->Hp->Prop)->Prop
abbrev ZF:=YcT->St->Hp->(St->Hp->Prop)->Prop
def PG(X:Cx)(target:Expr)(t:TG):Prop:=
 ∀(pins:List (Addr×Obj))(s:Shared)(σ:St)(H:Hp)(v:V)(u:Value)(Q:St->Hp->Prop),Yah->YhF->t v σ H Q->
  wpAny Yar X.A (assign target X.env u) YvN X.xe s
def PGs(X:Cx)(ts:YhW)(t:ZF):Prop:=
 ∀(pins:List (Addr×Obj))(s:Shared)(σ:St)(H:Hp)(vs:List V)(us:List Value)(Q:St->Hp->Prop),Yah->YnH->t vs σ H Q->
  wpAny Yar X.A (assignInOrder ((assignEach ts X.env).map (·.2)) us) YvN X.xe s
abbrev TIp:=V->V->Hp->VK->Prop
def PIp(X:Cx)(op:Operator)(t:TIp):Prop:=
 ∀(pins:List (Addr×Obj))(s:Shared)(σ:St)(H:Hp)(x y:V)(v u:Value)(Q:VK),Yah->YnD->YhE->t x y H Q->
  wpAny Yar X.A (inplaceOp op v u) Yb5 X.xe s
section
variable {X:Cx} {pos:Pos}
def Pq(i:Nat):TG:=λv σ H Q=>Q Yre H
def aX(hN:Yop)(hi:X.N[i]? =YeH)(hx:YlH)(hf:X.fn x=true∨Ydm=YdK:=by first|exact .inl rfl|exact .inr rfl|assumption):PG X YkY (Pq i):=by intro pins s σ H v u Q I r h;exact wpAny_assign_Name (Hw I hN hi hx r (λs' I'=>⟨_,H,I',h⟩) hf)
def acX:ZF:=λvs σ H Q=>vs=[]/\Q σ H
def abS(t:TG)(u:ZF):ZF:=λvs σ H Q=>∃v r,vs=v::r/\t v σ H λσ' H'=>u r σ' H' Q
def MQ:PGs X [] acX:=by ext XaW;obtain⟨e,h⟩:=h;subst e;cases r;exact assignInOrder_nil YDd
def rA{e:Expr}{es:YhW}{t:TG}{u:ZF}(h1:PG X e t)(h2:PGs X es u)
(hs:(assignEach Yv1 X.env).map (·.2)=assign e X.env::(YjM).map (·.2):=by rfl):PGs X Yv1 (abS t u):=by
 ext XaW;obtain⟨v,vr,e1,h⟩:=h;subst e1;cases r with
 |cons r rr=>rw[hs];refine assignInOrder_cons (dq (h1 pins s σ H _ _ _ I r h) λ_ s1 ⟨σ1,H1,I1,q1⟩=>?_);exact h2 pins s1 σ1 H1 _ _ Q I1 rr q1
def abR(K:Yaj)(n:Nat)(t:ZF):TG:=λv σ H Q=>∃a xs,v=Ybc/\Yn9/\Ybp=n/\t xs σ H Q
def Rj(hc:X.calm=true)(h:PGs X es t)
(hn:(YjM).length=n:=by rfl)(hst:(YjM).findIdx? (·.1)=none:=by rfl):PG X (.Tuple es k pos) (abR X.K n t):=by
 intro pins s σ H v u Q I r hw;obtain⟨a,xs,e1,hq,hl,hw⟩:=hw;subst e1;cases r;obtain⟨its,rv,ht,hz⟩:=I.tuple hq;refine assign_Tuple_tuple Yb4 ht (by simp[hn,<-hl,rv.length]) hst λh' hx=>?_;have I1:Inv X pins σ H {s with heap:=h'}:=I.kept (t':=s.toks) λb o e=>hx b o (WaY YrW) e;exact h pins _ σ H xs _ Q I1 (by simpa using rv) hw
def ZX(te:TE)(g:TG):TS:=λD σ H=>te σ H λx H1=>g x σ H1 D.nx
def aF{i:Nat}{x:Str}{e:Expr}{te:TE}{pos':Pos}(hN:Yop)(hi:X.N[i]? =YeH)(hx:YlH)(he:Ymp)(hs:swapsWith e (some (.Name x pos')) pos.line X.env=pure false:=by rfl)(hf:X.fn x=true∨Ydm=YdK:=by first|exact .inl rfl|exact .inr rfl|assumption):
  PS X (.Assign [.Name x pos'] e pos) (ZX te (Pq i)):=by
 ext XaJ;refine wpAny_Assign_Name (dq Yca λv s1 ⟨y,H1,I1,r1,q1⟩=>?_) hs;exact Hw I1 hN hi hx r1 (λs2 I2=>⟨_,H1,I2,q1⟩) hf
def acz(i:Nat)(te:TE)(ti:TIp):TS:=λD σ H=>∃x,σ[i]? =some (YeH)/\te σ H λy H1=>ti x y H1 λz H2=>D.nx (σ.set i (some z)) H2
def Il{i:Nat}{x:Str}{e:Expr}{te:TE}{op:Operator}{ti:TIp}{pos':Pos}(hN:Yop)(hi:X.N[i]? =YeH)(hx:YlH)(he:Ymp)(ho:PIp X op ti)(hf:X.fn x=true∨Ydm=YdK:=by first|exact .inl rfl|exact .inr rfl|assumption):
  PS X (.AugAssign (.Name x pos') op e pos) (acz i te ti):=by
 ext XaJ;obtain⟨v,e1,h⟩:=h;ext Xep;have vis:YlF:=by rcases hx with k|k;exact .inl k;exact .inr (.inl k)
 obtain⟨u,r,l⟩:=hl i x v hi e1 vis;refine wpAny_AugAssign_Name ?_;have go:wpAny Yar X.A (YgD) (λw s₂=>wpAny Yar X.A (inplaceOp op u w) (λr s₃=>wpAny Yar X.A (storeName X.env x r) (λ_=>SP X pins D .next) X.xe s₃) X.xe s₂) X.xe s:=by refine dq Yca λw s1 ⟨y,H1,I1,r1,q1⟩=>?_;refine dq (ho pins s1 σ H1 v y u w _ I1 r r1 q1) λz s2 ⟨zv,H2,I2,r2,q2⟩=>?_;exact Hw I2 hN hi hx r2 (λs3 I3=>⟨_,H2,I3,q2⟩) hf
 ext XgT
 ·exact Wd7 I.ok.kind hk hn hm go
 ·rcases hk with hk|hk
  ·exact wpAny_loadName_cell I.ok.kind hk hc hcell go
  ·rcases hx with k|k
   ·have:Ydm=Yh1:=hk;rw[k]at this;cases this
   ·have:Ydm=Yh1:=hk;rw[k]at this;cases this
end
section
variable {X:Cx} {pos:Pos}
def ZP(c:TT)(tb:TS):TS:=λD σ H=>∃W:Nat->St->Hp->Prop,(∃m,W m σ H)/\∀m σ H,W m σ H->
 c σ H λb H1=>if b=true then ∃N:St->Hp->Prop,(∀σ' H',N σ' H'->∃m',m'<m/\W m' σ' H')/\tb {D with nx:=N,ct:=N,bk:=D.nx} σ H1 else D.nx σ H1
def jK{c:Expr}{body:Ytj}{tc:TT}{tb:TS}(hp:Yz9)(hc:PT X c tc)(hb:Tt X body tb):PS X (.While c body [] pos) (ZP tc tb):=by
 ext XaJ;obtain⟨W,⟨m0,w0⟩,turn⟩:=h;refine wpAny_While (codeAny_whileLoop (λn s'=>∃σ' H',Yd1/\W n σ' H') ?_ m0 ⟨σ,H,I,w0⟩);rintro n s1 ⟨σ1,H1,I1,w1⟩;refine WcH hp (dq (hc pins s1 σ1 H1 _ I1 (turn n σ1 H1 w1)) λb s2 ⟨H2,I2,q2⟩=>?_);cases b with
 |true=>
  obtain⟨N,hN,q2⟩:=q2;ext Xgm;refine WcH hp (dq (hb pins s2 σ1 H2 _ I2 q2) λf s3 q3=>?_);cases f with
  |next=>ext XcC
  |cont=>ext XcC
  |brk=>exact q3
  |ret v=>exact q3
 |false=>rw[Wae WaN];exact Wd2 ⟨σ1,H2,I2,q2⟩
end
structure It where
 go:Nat->Hp->Prop
 XG:Nat->Hp->V->Hp->Prop
 stop:Nat->Hp->Prop
def G3(X:Cx)(pins:Ya0)(H:Hp)(b:Addr):Prop:=H b=none/\b≠YbJ/\b∉X.fs/\(b∈X.ex∨YdE<=b)/\YkE/\∀p∈X.pn++pins,p.1≠b
def Inv.RJ{X:Cx}{pins:Ya0}{σ:St}{H H':Hp}{s:Shared}{b:Addr}(I:Yah)(hb:Yam<=b)(hn:H' b=none):G3 X pins H' b:=by
 refine⟨hn,Wb0 (WaU I.lt hb),I.YJ hb,.inr (WaF I.sz hb),λx c e z=>?_,λp hp z=>?_⟩
 ·obtain⟨v,q⟩:=YyV;exact absurd (WaU q.lt (by rw[z];exact hb)) YrV
 ·exact absurd (WaU (WaB (I.pin p hp).1) (by rw[z];exact hb)) YrV
structure Turn (P:Program) (w:World) (K:Yaj) (tg:Expr) (J:It) (fp:Ybw) (it:Addr) (tn:Nat->Heap->Prop):Prop where
 mem:it∈fp
 obj:∀i h,tn i h->∀b∈fp,∃o,YdX=YaB/\∀v,o.data≠ .cell v
 keep:∀i h h',tn i h->(∀b∈fp,∀o,YdX=YaB->Yb9=YaB)->tn i h'
 item:∀(X:Cx),X.prog=P->X.w=w->X.K=K->X.calm=true->∀(i:Nat)(pins:List (Addr×Obj))(s:Shared)(σ:St)(H:Hp)(E:Value->Shared->Prop),Yah->(∀b∈fp,Ym4)->tn i s.heap->Yxr->
  wpAny YlN X.A Ys1 (λr s1=>∃u,r=YaY/\
   wpAny YlN X.A YCq (λ_ s2=>∃x H',Inv X pins σ H' s2/\RelV x u/\YkV/\tn YcG s2.heap/\∀b∈fp,H' b=none) E s1) E s
 done:∀(X:Cx),X.prog=P->X.w=w->X.K=K->X.calm=true->∀(i:Nat)(pins:List (Addr×Obj))(s:Shared)(σ:St)(H:Hp)(E:Value->Shared->Prop),Yah->(∀b∈fp,Ym4)->tn i s.heap->Yyl->
  wpAny YlN X.A Ys1 (λr s1=>r=none/\Inv X pins σ H s1) E s
 self:∀(A:Around)(i:Nat)(s:Shared)(Q:Value->Shared->Prop)(E:Value->Shared->Prop),tn i s.heap->Q Ydk s->wpAny YlN A (pyIter Ydk) Q E s
abbrev TI:=St->Hp->(It->Hp->Prop)->Prop
def PIE(X:Cx)(pins:Ya0)(σ:St)(tg:Expr)(R:It->Hp->Prop)(itv:Value)(s2:Shared):Prop:=∃(it:Addr)(fp:List Addr)(tn:Nat->Heap->Prop)(J:It)(H':Hp),itv=.ref it/\Inv X pins σ H' s2/\Turn X.prog X.w X.K tg J fp it tn/\tn 0 s2.heap/\(∀b∈fp,G3 X pins H' b)/\R J H'
def PI(X:Cx)(tg iter:Expr)(wi:TI):Prop:=
 ∀(pins:List (Addr×Obj))(s:Shared)(σ:St)(H:Hp)(R:It->Hp->Prop),Yah->wi σ H R->
  wpAny Yar X.A Yx0 (λv s1=>wpAny Yar X.A (pyIter v) YtK X.xe s1) X.xe s
def Jg(ho:Ypl=YaB)(hc:o.cls=.type n)(hd:o.data=.fields vs)
(hn:["enumerate","zip","dict_itemiterator","dict_reverseitemiterator","odict_iterator","itertools.zip_longest","itertools.pairwise"].contains n=false)(hQ:Q () s):wpAny M A YCq Q E s:=by
 unfold letOwnedTupleGo;cases tg<;>first
  |exact Waj hQ
  |(cases u<;>first
    |exact Waj hQ
    |(refine Wab (WeE ho ?_)
      rw[hc,hd];show wpAny M A (if(["enumerate","zip","dict_itemiterator","dict_reverseitemiterator","odict_iterator","itertools.zip_longest","itertools.pairwise"].contains n&&vs[0]? ==some (rawInt _))=true then _ else _) Q E s;rw[Wae (by intro h;rw[hn,Wcp]at h;cases h)]
      exact Waj hQ))
def ZI(K:Yaj)(a:Addr):It:=⟨λi H=>∃xs x,YcS/\xs[i]? =YeH,λi H x H'=>H'=H/\∀xs,YcS->xs[i]? =YeH,λi H=>∃xs,YcS/\Ybp<=i⟩
def Itr(lo:Int)(n:Nat):It:=⟨λi _=>i<n,λi H x H'=>H'=H/\x=.int (lo+i),λi _=>n<=i⟩
def TQ{P:Program}{w:World}{K:Yaj}{tg:Expr}(a it:Addr):Turn P w K tg (ZI K a) [it] it (λi h=>h.IsListIter it a i) where
 mem:=by simp
 obj:=λi h st b hb=>by
  have e:b=it:=by ext XcH
  subst e;obtain⟨o,e,c,d⟩:=st;ext Xdu
 keep:=λi h h' st k=>st.at λo e=>k it Yao o e
 item:=by ext Xab;obtain⟨xs,x,hq,hx⟩:=hg;ext XbS;ext Xbu;refine wpAny_pyNext_list_item st p.isList (x:=u) YjO λh' st' sb=>?_;ext Xbd;exact⟨u,rfl,Jg (s:={s with heap:=h'}) e c d YeP ⟨x,H,I1,ru,⟨Zbf⟩,st',YfX⟩⟩
 done:=by ext Xab;ext Xc8;exact wpAny_pyNext_list_end Yb4 st p.isList YdZ λh' eb=>⟨Zah⟩
 self:=λ_ _ _ _ _ st h=>wpAny_pyIter_listiter st h
def QF{P:Program}{w:World}{K:Yaj}{tg:Expr}(it:Addr)(lo:Int)(n:Nat):Turn P w K tg (Itr lo n) [it] it (λi h=>IsRangeIter h it (lo+(i:Nat)*1) ((n:Int)-(i:Nat)) 1) where
 mem:=by simp
 obj:=λi h st b hb=>by
  have e:b=it:=by ext XcH
  subst e
  exact⟨_,st,λv z=>by
   have z':Data.fields _=Data.cell v:=z
   cases z'⟩
 keep:=λi h h' st k=>k it Yao _ st
 item:=by ext Xab;ext Xbu;have W:=Walks.range (prog:=X.prog) (w:=X.w) Yb4 it lo 1 n;ext XfS;obtain⟨t,rfl⟩:=hv;ext Xb0;refine⟨Zaa,Jg (s:={s with heap:=h',toks:=tk}) (n:="range_iterator") st' rfl rfl YeP ⟨.int (lo+i),H,I1,⟨t,?_⟩,Ytb,st',YfX⟩⟩;rw[Int.mul_one]
 done:=by ext Xab;ext Xbu;exact wpAny_pyNext_range_end Yb4 st (by have:n<=i:=hg;omega) λh' eb=>⟨Zah⟩
 self:=λ_ _ _ _ _ st h=>wpAny_pyIter_rangeiter st h
end L2
namespace L2
open PySem PySem.Spec PyProof.Rows
section
variable {X:Cx} {tg:Expr}
def abO(K:Yaj)(tl:TE):TI:=λσ H R=>tl σ H λx H1=>∃a,x=Ybc/\(∃xs,YsX)/\R (ZI K a) H1
def bq{l:Expr}{tl:TE}(hl:PE X l tl):PI X tg l (abO X.K tl):=by
 ext Xbl;refine dq (hl pins s σ H _ I h) λv s1 ⟨x,H1,I1,r1,q1⟩=>?_;obtain⟨a,e,⟨xs,hq⟩,q⟩:=q1;subst e;cases r1;obtain⟨its,rv,p,hz⟩:=I1.list hq;refine WcK p.isList ?_;refine⟨YaJ,[YaJ],_,_,H1,rfl,I1.kept (t':=Ym9) λb o e=>Yhe,TQ a _,Yjm,Yf1,q⟩;have e:b=YaJ:=by ext XcH
 subst e;exact I1.RJ YcZ (YsM)
def Wi{pins:Ya0}{σ:St}{H:Hp}{s:Shared}{R:It->Hp->Prop}{E:Value->Shared->Prop}{lo hi:Int}{t u v:Tok}{tk:Nat}(I:Yah)(h1: -(2^62)<=lo)(h2:lo<2^62)(h3: -(2^62)<=hi)(h4:hi<2^62)
(q:R (Itr lo (hi-lo).toNat) H):wpAny Yar X.A (pyIter YAm) YtK E {s with heap:=s.heap.push {cls:=YkW,data:=.fields #[Yxg,Yxh,YAL]},toks:=tk}:=by
 refine wpAny_pyIter_range (IsRange.new ..) (small_one h1 h2 h3 h4) ?_;have I1:Inv X pins σ H {s with heap:=s.heap.push {cls:=YkW,data:=.fields #[Yxg,Yxh,YAL]},toks:=tk}:=I.kept λb o e=>Yhe
 refine⟨(s.heap.push {cls:=YkW,data:=.fields #[Yxg,Yxh,YAL]}).objs.size,[(s.heap.push {cls:=YkW,data:=.fields #[Yxg,Yxh,YAL]}).objs.size],_,_,H,rfl,
  I1.kept (t':=tk) λb o e=>Yhe,QF _ lo (hi-lo).toNat,?_,Yf1,q⟩
 ·have e1:lo+((0:Nat):Int)*1=lo:=Yao;have e2:(((hi-lo).toNat:Nat):Int)-((0:Nat):Int)=Builtin.Range.rangeSize lo hi 1:=by rw[rangeSize_one];split<;>omega
  show IsRangeIter _ _ (lo+((0:Nat):Int)*1) ((((hi-lo).toNat:Nat):Int)-((0:Nat):Int)) 1;rw[e1,e2];exact YbA
 ·have e:b=(s.heap.push {cls:=YkW,data:=.fields #[Yxg,Yxh,YAL]}).objs.size:=by ext XcH
  subst e;exact I1.RJ YcZ (YsM)
def abN(ta:TA):TI:=λσ H R=>ta σ H λvs H1=>∃j:Int,vs=[.int j]/\ -(2^62)<=j/\j<2^62/\R (Itr 0 j.toNat) H1
def Uz{a:Expr}{ta:TA}{p pos:Pos}(hg:Gl X "range")(hm:X.mg "range"=none)(ha:PA X [a] ta)(hs:starEach [a] X.env=[(false,YyR)]:=by rfl):PI X tg (.Call (.Name "range" p) [a] [] pos) (abN ta):=by
 ext Xbl;refine Call_ (uA I hg hm boot_range YzR);obtain⟨j,e,q1,q2,q⟩:=q1;subst e;cases r1 with
 |cons r rr=>cases rr;ext XaR;exact call_range_1 (Wi I1 Yad Yad q1 q2 YoL)
def acw(wi:TI)(g:TG)(tb:TS):TS:=λD σ H=>wi σ H λJ H1=>∃W:Nat->Nat->St->Hp->Prop,(∃m,W 0 m σ H1)/\∀i m σ H,W i m σ H->
 (Yyl/\Yxd)∨(Yxr/\∃N:St->Hp->Prop,(∀σ' H',N σ' H'->∃m',m'<m/\YA7)/\∀x H',YkV->g x σ H' λσ2 H2=>tb {D with nx:=N,ct:=N,bk:=D.nx} σ2 H2)
def Im(fp:Ybw)(h:Heap):Ya0:=fp.filterMap λb=>(YdX).map λo=>(b,o)
def BV{fp:Ybw}{h:Heap}{b:Addr}{o:Obj}(hb:b∈fp)(e:YdX=YaB):(b,o)∈Im fp h:=WbX.mpr ⟨b,hb,by rw[e];rfl⟩
def UC(hp:p∈Im fp h):p.1∈fp/\h.get? p.1=some p.2:=by
 obtain⟨b,hb,e⟩:=WbX.mp hp;cases q:YdX with
 |none=>ext Xgk
 |some o=>rw[q]at e;have e':(b,o)=p:=Wbi e;subst e';exact⟨hb,q⟩
def Inv.pinned{pins:Ya0}{σ:St}{H:Hp}{s:Shared}{fp:Ybw}(I:Yah)(hf:∀b∈fp,Ym4)(ho:∀b∈fp,∃o,Ya4=YaB/\∀v,o.data≠ .cell v):Inv X (pins++Im fp s.heap) σ H s:=I.SF λp hp=>(Wac.mp hp).elim (λz=>I.pin p (WbA _ z)) λz=>by obtain⟨hb,e⟩:=UC z;obtain⟨f0,f1,f2,_⟩:=hf p.1 hb;obtain⟨o,e',d⟩:=ho p.1 hb;rw[e]at e';cases e';exact⟨e,f0,f1,f2,d⟩
def Inv.CM{pins pl:Ya0}{σ:St}{H:Hp}{s:Shared}(I:Inv X (pins++pl) σ H s):Yah:=I.SF λp hp=>I.pin p (WbA _ (Wc4 _ hp))
def cO{iter:Expr}{body:Ytj}{wi:TI}{g:TG}{tb:TS}{pos:Pos}(hp:Yz9)(hc:X.calm=true)(hi:YsJ)(hg:PG X tg g)(hb:Tt X body tb)
(hs:∀x,Yhg=pure x:=by intro _;rfl):PS X (.For tg iter body [] pos) (acw wi g tb):=by
 ext XaJ;refine wpAny_For (dq YrJ λv s1 h1=>dq h1 λitv s2 h2=>?_) hs;obtain⟨it,fp,tn,J,H2,e,I2,T,st2,f2,W,⟨m0,w0⟩,turn⟩:=h2;subst e;have stat:∀{H':Hp},(∀b∈fp,H' b=none)->∀b∈fp,G3 X pins H' b:=λhn b hb=>⟨hn b hb,(f2 b hb).2⟩;refine codeAny_forLoop_any (λn s'=>∃i σ' H',Yd1/\tn i s'.heap/\Yiw/\W i n σ' H') ?_ m0 ⟨0,σ,H2,I2,st2,λb hb=>(f2 b hb).1,w0⟩;rintro n s3 ⟨i,σ3,H3,I3,st3,fr3,w3⟩;rcases turn i n σ3 H3 w3 with⟨stop,qn⟩|⟨go,N,hN,step⟩
 ·refine WcH hp (dq (T.done X rfl rfl rfl hc i pins s3 σ3 H3 X.xe I3 (stat fr3) st3 stop) λr s4 ⟨hr,I4⟩=>?_);subst hr;exact Wd2 ⟨σ3,H3,I4,qn⟩
 ·refine WcH hp (dq (T.item X rfl rfl rfl hc i pins s3 σ3 H3 X.xe I3 (stat fr3) st3 go) λr s4 ⟨u,hr,h4⟩=>?_);subst hr;refine WcH hp (dq h4 λ_ s5 ⟨x,H5,I5,r5,y5,st5,fr5⟩=>?_);have I5':=I5.pinned (stat fr5) (T.obj _ _ st5);refine WcH hp (dq (hg _ s5 σ3 H5 x u _ I5' r5 (step x H5 y5)) λ_ s6 ⟨σ6,H6,I6,q6⟩=>?_);refine WcH hp (dq (hb _ s6 σ6 H6 _ I6 q6) λf s7 q7=>?_);have again:∀{σ7:St}{H7:Hp},Inv X (pins++Im fp s5.heap) σ7 H7 s7->N σ7 H7->∃m,m<n/\∃i σ' H',Inv X pins σ' H' s7/\tn i s7.heap/\Yiw/\W i m σ' H':=λ{σ7 H7} I7 n7=>by obtain⟨m',hm,w7⟩:=hN σ7 H7 n7;refine⟨m',hm,i+1,σ7,H7,I7.CM,T.keep _ _ _ st5 λb hb o e=>(I7.pin (b,o) Ypg).1,Yf1,w7⟩;obtain⟨o,e,d⟩:=T.obj _ _ st5 b hb;exact(I7.pin (b,o) Ypg).2.1
  cases f with
  |next=>ext XgC
  |cont=>ext XgC
  |brk=>obtain⟨σ7,H7,I7,q7⟩:=q7;exact⟨σ7,H7,I7.CM,q7⟩
  |ret v=>obtain⟨x7,σ7,H7,I7,r7,q7⟩:=q7;exact⟨x7,σ7,H7,I7.CM,r7,q7⟩
end
def bZ{K:Yaj}{a:Addr}{xs:YcT}{g:TG}{tb:TS}{D:Ends}{σ:St}{H:Hp}(Pv:Nat->St->Hp->Prop)(h0:Pv 0 σ H)(hl:∀i σ H,i<=Ybp->Yw9->YcS)
(hs:∀i x σ H,xs[i]? =YeH->Yw9->g x σ H λσ2 H2=>tb {D with nx:=Pv (i+1),ct:=Pv (i+1),bk:=D.nx} σ2 H2)(hd:∀σ H,Pv xs.length σ H->Yxd):
  ∃W:Nat->Nat->St->Hp->Prop,(∃m,W 0 m σ H)/\∀i m σ H,W i m σ H->
   ((ZI K a).stop i H/\Yxd)∨((ZI K a).go i H/\∃N:St->Hp->Prop,(∀σ' H',N σ' H'->∃m',m'<m/\YA7)/\∀x H',(ZI K a).XG i H x H'->g x σ H' λσ2 H2=>tb {D with nx:=N,ct:=N,bk:=D.nx} σ2 H2):=by
 refine⟨λi m σ H=>m=Ybp-i/\i<=Ybp/\Yw9,⟨Ybp,Ydx,WaL _,h0⟩,?_⟩;rintro i m σ H ⟨rfl,hi,p⟩;have q:=hl i σ H hi p;by_cases hlt:i<Ybp
 ·refine .inr ⟨ZcE,λσ' H' p'=>⟨Ybp-YcG,YaP,rfl,hlt,p'⟩,λx H' y=>?_⟩;obtain⟨e,y⟩:=y;subst e;exact hs i x σ _ (y xs q) p
 ·have e:i=Ybp:=Yad;subst e;exact .inl ⟨⟨xs,q,Wau _⟩,hd σ H p⟩
end L2
namespace L2
open PySem PySem.Spec PyProof.Rows
abbrev R2:=V->V->Hp->VK->Prop
def zT(X:Cx)(f:Value->Value->Yti)(r:R2):Prop:=
 ∀(pins:List (Addr×Obj))(s:Shared)(σ:St)(H:Hp)(x y:V)(v u:Value)(Q:VK),Yah->YnD->YhE->r x y H Q->
  wpAny Yar X.A (f v u) Yb5 X.xe s
def UnR(X:Cx)(f:Value->Yti)(r:V->Hp->VK->Prop):Prop:=
 ∀(pins:List (Addr×Obj))(s:Shared)(σ:St)(H:Hp)(x:V)(v:Value)(Q:VK),Yah->YnD->r x H Q->
  wpAny Yar X.A (f v) Yb5 X.xe s
def mz(X:Cx)(f:Value)(r:YcT->Hp->VK->Prop):Prop:=
 ∀(pins:List (Addr×Obj))(s:Shared)(σ:St)(H:Hp)(xs:List V)(us:List Value)(Q:VK),Yah->Yh4->r xs H Q->
  wpAny Yar X.A (call f us) Yb5 X.xe s
def tOp(r:R2)(ta tb:TE):TE:=λσ H Q=>ta σ H λx H1=>tb σ H1 λy H2=>r x y H2 Q
def tUn(r:V->Hp->VK->Prop)(ta:TE):TE:=λσ H Q=>ta σ H λx H1=>r x H1 Q
def rI(C:Int->Int->Prop)(g:Int->Int->V):R2:=λx y H Q=>∃i j,x=Yoh/\y=.int j/\C i j/\Q YrU H
def NU(g:Int->Int->V):R2:=λx y H Q=>∃i j,x=Yoh/\y=.int j/\Q YrU H
def rU(g:Int->V):V->Hp->VK->Prop:=λx H Q=>∃i,x=Yoh/\Q (g i) H
section
variable {X:Cx} {a b c:Expr} {ta tb tc:TE} {pos:Pos}
def aaR(ha:Ymq)(hb:Yp8){pins:Ya0}{s:Shared}{σ:St}{H:Hp}{R:V->V->Hp->Prop}(I:Yah)
(h:ta σ H λx H1=>tb σ H1 λy H2=>R x y H2){Q:Value->Shared->Prop}{f:Value->Value->Yti}
(hf:∀v u s2 x y H2,Inv X pins σ H2 s2->YnD->YhE->R x y H2->wpAny Yar X.A (f v u) Q X.xe s2):
  wpAny Yar X.A (YyR) (λv s₁=>wpAny Yar X.A (eval b X.env) (λu s₂=>wpAny Yar X.A (f v u) Q X.xe s₂) X.xe s₁) X.xe s:=by
 refine dq YcA λv s1 ⟨x,H1,I1,r1,q1⟩=>?_;refine dq Yi0 λu s2 ⟨y,H2,I2,r2,q2⟩=>?_;exact hf v u s2 x y H2 I2 r1 r2 q2
def a7{op:Operator}{r:R2}(ho:zT X (binaryOp op) r)(ha:Ymq)(hb:Yp8):PE X (.BinOp a op b pos) YwA:=by ext Xaf;exact wpAny_BinOp Yhs
def br{op:UnaryOp}{r:V->Hp->VK->Prop}(ho:UnR X (unaryOp op) r)(ha:Ymq):PE X (.UnaryOp op a pos) (tUn r ta):=by ext Xaf;exact UnaryOp_ (dq YcA λv s1 ⟨x,H1,I1,r1,q1⟩=>ho pins s1 σ H1 x v Q I1 r1 q1)
def opI{f:Value->Value->Yti}{C:Int->Int->Prop}{g:Int->Int->Int}
(rule:∀(i j:Int)(t u:Tok)(s:Shared)(Q:Value->Shared->Prop)(E:Value->Shared->Prop),C i j->Q (.int YrU s.toks) {s with toks:=s.toks+1}->YgW):
  zT X f (rI C λi j=>.int YrU):=by
 ext Xaz;obtain⟨i,j,rfl,rfl,hc,q⟩:=h;ext Xar;ext Xap;exact rule i j t t' s _ _ hc ⟨.int YrU,Zbt⟩
def OS{f:Value->Value->Yti}{g:Int->Int->Int}
(rule:∀(i j:Int)(t u:Tok)(s:Shared)(Q:Value->Shared->Prop)(E:Value->Shared->Prop),Q (.int YrU s.toks) {s with toks:=s.toks+1}->YgW):
  zT X f (NU λi j=>.int YrU):=by
 ext XfO;exact rule i j t t' s _ _ ⟨.int YrU,Zbt⟩
def YG{f:Value->Value->Yti}{g:Int->Int->Bool}
(rule:∀(i j:Int)(t u:Tok)(s:Shared)(Q:Value->Shared->Prop)(E:Value->Shared->Prop),Q (.bool YrU) s->YgW):
  zT X f (NU λi j=>.bl YrU):=by
 ext XfO;exact rule i j t t' s _ _ ⟨.bl YrU,H,I,rfl,q⟩
def ac9(i j:Int):Prop:=0<j/\j<1073741824
def QB(k:Nat):(0:Int)<=2^k:=by rw[two_pow_cast];exact Wce _
def mO:zT X YBi (NU λi j=>.int (i+j)):=OS λ_ _ _ _ _ _ _ q=>add_int q
def Iv:zT X (binaryOp .Sub) (NU λi j=>.int (i-j)):=OS λ_ _ _ _ _ _ _ q=>sub_int q
def SJ:zT X (binaryOp .FloorDiv) (rI ac9 λi j=>.int (i/j)):=opI λi j _ _ _ _ _ hc q=>by have h1:(0:Int)<j:=hc.1;have h2:j<1073741824:=hc.2;exact floordiv_int Yad (by rw[WeC i Yad];exact q) (.inl (PyProof.noPylong_small Yad))
def aah:zT X (binaryOp .Mod) (rI (λ_ j=>0<j) λi j=>.int (i%j)):=opI λi j _ _ _ _ _ hc q=>by have h1:(0:Int)<j:=hc;exact mod_int' Yad (by rw[Int.fmod_eq_emod_of_nonneg i Yad];exact q)
def aag:zT X (binaryOp .RShift) (rI (λ_ j=>0<=j) λi j=>.int (i/2^j.toNat)):=opI λi j _ _ _ _ _ hc q=>rshift_int hc (by rw[WeC i (QB _)];exact q)
def wz:zT X (binaryOp .BitAnd) (NU λi j=>.int (Builtin.bitAnd i j)):=OS λ_ _ _ _ _ _ _ q=>and_int q
def Zw:zT X (binaryOp .BitOr) Yt2:=OS λ_ _ _ _ _ _ _ q=>or_int q
def EL:zT X (binaryOp .BitXor) (NU λi j=>.int (Builtin.bitXor i j)):=OS λ_ _ _ _ _ _ _ q=>xor_int q
def gI:zT X (inplaceOp .Add) (NU λi j=>.int (i+j)):=OS λ_ _ _ _ _ _ _ q=>iadd_int q
def Ta:zT X (inplaceOp .Sub) (NU λi j=>.int (i-j)):=OS λ_ _ _ _ _ _ _ q=>isub_int q
def WV:zT X (inplaceOp .BitOr) Yt2:=OS λ_ _ _ _ _ _ _ q=>ior_int q
def unI{f:Value->Yti}{g:Int->Int}
(rule:∀(i:Int)(t:Tok)(s:Shared)(Q:Value->Shared->Prop)(E:Value->Shared->Prop),Q (.int (g i) s.toks) {s with toks:=s.toks+1}->wpAny Yar X.A (f (.int i t)) Q E s):
  UnR X f (rU λi=>.int (g i)):=by
 intro pins s σ H x v Q I rx h;obtain⟨i,rfl,q⟩:=h;ext Xar;exact rule i t s _ _ ⟨.int (g i),Zbt⟩
def aZ:UnR X (unaryOp .USub) (rU λi=>.int (-i)):=unI λ_ _ _ _ _ q=>neg_int q
def ZN:UnR X (unaryOp .Invert) (rU λi=>.int (Builtin.bitNot i)):=unI λ_ _ _ _ _ q=>invert_int q
end
def Z7:V->V->Bool
 |.fR,.fR=>true|.fR,.int _=>true|.int _,.fR=>true|.fR,.bl _=>true|.bl _,.fR=>true|.fR,.str _=>true|.str _,.fR=>true
 |.int _,.int _=>true|.bl _,.bl _=>true|.str _,.str _=>true|.NX _,.NX _=>true
 |.int _,.str _=>true|.str _,.int _=>true|.bl _,.str _=>true|.str _,.bl _=>true
 |_,_=>false
def rEq:R2:=λx y H Q=>Z7 x y=true/\Q (.bl (decide (x=y))) H
def rNe:R2:=λx y H Q=>Z7 x y=true/\Q (.bl (!decide (x=y))) H
def Tg:decide (V.int i=V.int j)=(i==j):=by rw[Wa2];simp
def Xd:decide (V.bl i=V.bl j)=(i==j):=by rw[Wa2];simp
def Tf:decide (V.str i=V.str j)=(i==j):=by rw[Wa2];simp
def Th:decide (V.NX i=V.NX j)=(i.toList==j.toList):=by rw[Wa2];cases i;cases j;simp
section
variable {X:Cx} {a b c:Expr} {ta tb tc:TE} {pos:Pos}
def cE(I:Yah)(q:Q (.bl k) H)(e:k=k'):EP X pins σ Q (.bool k') s:=by subst e;exact⟨.bl k,H,I,rfl,q⟩
def bY:zT X (compareOp .Eq) rEq:=by
 ext Xaz;obtain⟨hs,q⟩:=h;cases x with
 |fR=>
  cases rx;cases y with
  |fR=>cases ry;exact PySem.EqNone.eq_none_none Ye0
  |bl j=>cases ry;exact PySem.EqNone.eq_none_bool Ye0
  |int j=>ext Xap;exact PySem.EqNone.eq_none_int Ye0
  |str j=>ext Xap;exact PySem.EqNone.eq_none_str Ye0
  |_=>exact YaU
 |bl i=>
  cases rx;cases y with
  |fR=>cases ry;exact PySem.EqNone.eq_bool_none Ye0
  |bl j=>cases ry;exact eq_bool (cE I q Xd)
  |str j=>ext Xap;exact PySem.EqMixed.eq_bool_str Ye0
  |_=>exact YaU
 |int i=>
  ext Xar;cases y with
  |fR=>cases ry;exact PySem.EqNone.eq_int_none Ye0
  |int j=>ext Xap;exact eq_int (cE I q Tg)
  |str j=>ext Xap;exact PySem.EqMixed.eq_int_str Ye0
  |_=>exact YaU
 |str i=>
  ext Xar;cases y with
  |fR=>cases ry;exact PySem.EqNone.eq_str_none Ye0
  |bl j=>cases ry;exact PySem.EqMixed.eq_str_bool Ye0
  |int j=>ext Xap;exact PySem.EqMixed.eq_str_int Ye0
  |str j=>ext Xap;exact eq_str (cE I q Tf)
  |_=>exact YaU
 |NX i=>
  ext Xar;cases y with
  |NX j=>ext Xap;exact PySem.W.eq_bytes (cE I q Th)
  |_=>exact YaU
 |_=>cases y<;>exact YaU
def SI:zT X (compareOp .NotEq) rNe:=by
 ext Xaz;obtain⟨hs,q⟩:=h;cases x with
 |fR=>
  cases rx;cases y with
  |fR=>cases ry;exact PySem.EqNone.ne_none_none Ye0
  |bl j=>cases ry;exact PySem.EqNone.ne_none_bool Ye0
  |int j=>ext Xap;exact PySem.EqNone.ne_none_int Ye0
  |str j=>ext Xap;exact PySem.EqNone.ne_none_str Ye0
  |_=>exact YaU
 |bl i=>
  cases rx;cases y with
  |fR=>cases ry;exact PySem.EqNone.ne_bool_none Ye0
  |bl j=>cases ry;exact ne_bool (cE I q (Wa6 not Xd))
  |str j=>ext Xap;exact PySem.EqMixed.ne_bool_str Ye0
  |_=>exact YaU
 |int i=>
  ext Xar;cases y with
  |fR=>cases ry;exact PySem.EqNone.ne_int_none Ye0
  |int j=>ext Xap;exact ne_int (cE I q (Wa6 not Tg))
  |str j=>ext Xap;exact PySem.EqMixed.ne_int_str Ye0
  |_=>exact YaU
 |str i=>
  ext Xar;cases y with
  |fR=>cases ry;exact PySem.EqNone.ne_str_none Ye0
  |bl j=>cases ry;exact PySem.EqMixed.ne_str_bool Ye0
  |int j=>ext Xap;exact PySem.EqMixed.ne_str_int Ye0
  |str j=>ext Xap;exact ne_str (cE I q (Wa6 not Tf))
  |_=>exact YaU
 |NX i=>
  ext Xar;cases y with
  |NX j=>ext Xap;exact PySem.W.ne_bytes (cE I q (Wa6 not Th))
  |_=>exact YaU
 |_=>cases y<;>exact YaU
def lF:zT X (compareOp .Lt) (NU λi j=>.bl (decide (i<j))):=YG λ_ _ _ _ _ _ _ q=>lt_int q
def my:zT X (compareOp .LtE) (NU λi j=>.bl (YkT)):=YG λ_ _ _ _ _ _ _ q=>le_int q
def nZ:zT X (compareOp .Gt) (NU λi j=>.bl (decide (j<i))):=YG λ_ _ _ _ _ _ _ q=>gt_int q
def Wt:zT X (compareOp .GtE) (NU λi j=>.bl (decide (j<=i))):=YG λ_ _ _ _ _ _ _ q=>ge_int q
def aK(b:Expr)(h:op≠ .In:=by decide)(h2:op≠ .NotIn:=by decide):YkI=false:=by
 have e1:(op==CmpOp.In)=false:=by cases op<;>first|rfl|exact absurd rfl h
 have e2:(op==CmpOp.NotIn)=false:=by cases op<;>first|rfl|exact absurd rfl h2
 cases b<;>simp[behindInMarks,e1,e2]
def Dh{op:CmpOp}{r:R2}(ho:Yl1)(ha:Ymq)(hb:Yp8)(hm:YkI=false):PE X Yjv YwA:=by ext Xaf;exact wpAny_Compare1 Yhs hm
def VT(t:TE):TT:=λσ H Q=>t σ H λx H'=>∃k,x=.bl k/\Q k H'
def aC{op:CmpOp}{r:R2}(ho:Yl1)(ha:Ymq)(hb:Yp8)(hm:YkI=false):PT X Yjv (VT YwA):=by
 ext Xaf
 refine wpAny_isTrue_Compare1 (dq YcA λv s1 ⟨x,H1,I1,r1,q1⟩=>dq Yi0 λu s2 ⟨y,H2,I2,r2,q2⟩=>
  dq Yih λc s3 ⟨z,H3,I3,r3,k,e,q3⟩=>?_) hm
 subst e;cases r3;exact Wb7 ⟨H3,I3,q3⟩
def Mm(r r':R2)(ta tb tc:TE):TE:=λσ H Q=>ta σ H λx H1=>tb σ H1 λy H2=>r x y H2 λz H3=>∃k,z=.bl k/\
 (if k=true then tc σ H3 λw' H4=>r' y w' H4 Q else Q YlO H3)
def yJ{op op':CmpOp}{r r':R2}(ho:Yl1)(ho':zT X (compareOp op') r')(ha:Ymq)(hb:Yp8)(hc:PE X c tc)
(hm:YDR=false:=by with_unfolding_all rfl):PE X YxG (Mm r r' ta tb tc):=by
 ext Xaf
 refine Compare_chain (dq YcA λv s1 ⟨x,H1,I1,r1,q1⟩=>chain_link (dq Yi0 λu s2 ⟨y,H2,I2,r2,q2⟩=>
  dq Yih λd s3 ⟨z,H3,I3,r3,k,e,q3⟩=>?_)) hm
 subst e;cases r3;refine Wb7 ?_;cases k with
 |false=>exact ite_ff ⟨.bl false,H3,I3,rfl,q3⟩
 |true=>exact ite_tt (chain_last (dq YCt λw' s4 ⟨z',H4,I4,r4,q4⟩=>ho' pins s4 σ H4 y z' u w' Q I4 r2 r4 q4))
def Ik{op op':CmpOp}{r r':R2}(ho:Yl1)(ho':zT X (compareOp op') r')(ha:Ymq)(hb:Yp8)(hc:PE X c tc)
(hm:YDR=false:=by with_unfolding_all rfl):PT X YxG (VT (Mm r r' ta tb tc)):=by
 ext Xaf
 refine isTrue_chain (dq YcA λv s1 ⟨x,H1,I1,r1,q1⟩=>test_link (dq Yi0 λu s2 ⟨y,H2,I2,r2,q2⟩=>
  dq Yih λd s3 ⟨z,H3,I3,r3,k,e,q3⟩=>?_)) hm
 subst e;cases r3;refine Wb7 ?_;cases k with
 |false=>obtain⟨k',e',q'⟩:=q3;cases e';exact ite_ff ⟨H3,I3,q'⟩
 |true=>refine ite_tt (test_last (dq YCt λw' s4 ⟨z',H4,I4,r4,q4⟩=>dq (ho' pins s4 σ H4 y z' u w' _ I4 r2 r4 q4) λd' s5 ⟨z2,H5,I5,r5,k2,e2,q5⟩=>?_));subst e2;cases r5;exact Wb7 ⟨H5,I5,q5⟩
def IX:(sizeLine:Nat)<2^63:=by rw[WcI];decide
def cQ:zT X YBi (λx y H Q=>∃i j,x=.str i/\y=.str j/\i.length+j.length<=sizeLine/\Q (.str (i++j)) H):=by ext Xaz;obtain⟨i,j,rfl,rfl,hz,q⟩:=h;ext Xar;ext Xap;exact add_str (λt' tk=>⟨.str (i++j),Zbt⟩) hz
def vals1(r:Vals [x] us):∃u,us=[u]/\RelV x u:=by
 cases r with
 |cons r1 r2=>cases r2;exact⟨Zaa,r1⟩
def qv:mz X (.type "str") (λxs H Q=>∃i,xs=[Yoh]/\i.natAbs.log2<1920/\Q (.str (toString i)) H):=by ext XaN;obtain⟨i,rfl,hz,q⟩:=h;ext Xe6;exact PySem.P.str_of_int hz ⟨.str _,Zbt⟩
def Xj:mz X (.builtin "ord") (λxs H Q=>∃x,xs=[Yx5]/\x.length=1/\Q (.int (x.cps.getD 0 0:Nat)) H):=by ext XaN;obtain⟨x,rfl,hz,q⟩:=h;ext Xe6;exact ord_of_one hz ⟨.int _,Zbt⟩
end
end L2
namespace L2
open PySem PySem.Spec PyProof.Rows
structure NR (h:Heap) (x dx C:Addr) (mA:Str->Yci):Prop where
 obj:h.get? x=some YrN
 ns:h.Ns1 dx mA
 ne:dx≠x
def UP{h:Heap}{dx:Addr}{mA:Str->Yci}(n:h.Ns1 dx mA):∃od,h.get? dx=some od/\∀name,YrD=some (mA name):=by
 obtain⟨o,es,ep,ho,hd,hk,_,hm⟩:=n;refine⟨o,ho,λname=>?_⟩;have e:=hm name;unfold nsFind findBy at e;rw[<-Array.find?_toList]at e;unfold PySem.W.lookIn;rw[hd];ext Xhe
 ·rename_i y q;rw[q]at e;exact Wa6 some e
 ·rename_i q;rw[q]at e;have a:es.toList.any (·.refKey)=false:=by rw[Wea];intro y hy;obtain⟨z,t,hkey⟩:=hk y (Array.mem_toList_iff.mp hy);simp[DictEntry.refKey,hkey]
  have a':¬es.toList.any (·.refKey)=true:=by rw[a];exact WaN
  rw[Wae a'];exact Wa6 some e
def NR.look(I:NR h x dx C mA):∃od,PySem.W.InstAt h x YrN C (some od)/\∀name,YrD=some (mA name):=
 let⟨od,ho,hl⟩:=UP I.ns
 ⟨od,⟨I.obj,ZaI,ho⟩,hl⟩
section
variable {prog:Program} {w:World} {A:Around} {E:Value→Shared→Prop} {s:Shared} {K:PySem.W.Frag} {x dx C f:Addr} {mA:Str→Option Value} {name:Str} {v:Value}
def get_map(X:Yoe)(I:YuO)(hg:YCQ=true)(hh:Yss=true)
(ha:YCR=YBO)(hv:mA name=YcV)(hv':PySem.W.handedIn v=true)(h:Q v {s with toks:=s.toks+1}):
  wpAny YaA A (getAttr Ypu name expr) Q E s:=by
 ext Xgq;exact PySem.W.get_value X J (WdY hg).1 (PySem.W.findObj_own hh ha rfl (by rw[hl,hv])) hv' h
def W2(X:Yoe)(I:YuO)(hg:YCQ=true)
(hf:YCR=Yyd)(ht:Ywc=true)(hv:mA name=none)(h:Q (.ref f,[.ref x]) s):
  wpAny YaA A (getMethod Ypu name pl) Q E s:=by
 ext Xgq;exact PySem.W.method_fn X J (WdY hg).1 (WdY hg).2 hf (WbV.mp ht) (by show(YrD).map (·.isSome)=YbR;rw[hl,hv];rfl) h
def Yo(X:Yoe)(I:YuO)
(hs:Yvq=Yqd)(hp:PySem.W.plainOver K C=true)(ht:PySem.W.takerIn K C name=YBO)(hh:Yss=true)
(hw:PySem.Within mA ns)(hsz:YhS<=sizeLine)
(h:∀h',NR h' x dx C (λy=>if y=name then YcV else mA y)->Heap.SameBut dx s.heap h'->Q () {s with heap:=h',toks:=s.toks+2}):
  wpAny YaA A (setAttr Ypu name v) Q E s:=by
 ext Xgq;refine PySem.W.set_plain X J hs (PySem.W.osa_open (s:={s with toks:=s.toks+1}) (r:=none) X J hp ht λb=>?_);obtain⟨cd,hc,hd'⟩:=PySem.W.any_some hh;have hx:s.heap.get? x=some ⟨.ref C,some dx,.plain,#[]⟩:=I.obj;refine Wab (Waj (Wab (Wab (wpAny_loadPart hx (Wab (PySem.W.Looks.here (s:={s with toks:=s.toks+1}) (PySem.W.looks_clsIn X hc) ?_))))));rw[hd'];refine Waj (a:=some dx) (Wab (Waj (Wab ?_)));refine wpAny_nsSet1 (s:={s with toks:=s.toks+1}) I.ns λh' hn2 hs2=>?_;obtain⟨oD,esD,epD,hoD,hdD,hcD⟩:=hn2.count (PySem.Within.cons name v hw);refine Wab (wpAny_lookBehind hoD (by rw[hdD];exact pastItsLine_dict (WaF hcD (by rw[Was];omega))) ?_);exact Waj (h _ ⟨(hs2.2 _ (WaC I.ne)).trans I.obj,hn2,I.ne⟩ hs2)
def WC(X:Yoe)(hm:PySem.W.makesIn K C=true)
(hi:Yxy=Yyd)(hf:PySem.W.typeIn K YiB=some (.type "function"))
(h:codeAny YaA (A.under (.builtin "type.__call__" ⟨.ref C::vs,kw⟩)) (.call YiB ⟨.ref Yht::vs,kw⟩) (PySem.W.InitBack Yht R)
   {s with heap:=(YcQ).push (YdM)}):
  codeAny YaA A (.call Ykd ⟨vs,kw⟩) R s:=by
 obtain⟨hh,g,d,t,os⟩:=s;exact PySem.W.make_core (PySem.W.makes_of X hm) (PySem.W.looks_findIn X hi) (λself=>PySem.W.bind_fn X self hf) YwF h
end
def gu(f:Str)(v:V):YqE->List (Str×V)
 |[]=>[(f,v)]
 |(g,x)::r=>if g=f then(g,v)::r else(g,x)::gu f v r
def F0(f g:Str)(v:V):∀fs:YqE,(gu f v fs).lookup g=if g=f then YcV else fs.lookup g
 |[]=>by
  show List.lookup g [(f,v)]=_;by_cases h:g=f
  ·have hb:(g==f)=true:=WbV.mpr h;simp only[List.lookup,hb,Wap h]
  ·have hb:(g==f)=false:=Wck.mpr h;simp only[List.lookup,hb,Wae h]
 |(k,x)::r=>by
  have ih:=F0 f g v r;ext XaV
  ·rw[Wap hk];by_cases h:g=k
   ·have hb:(g==k)=true:=WbV.mpr h;simp only[List.lookup,hb,Wap (h.trans hk)]
   ·have hb:(g==k)=false:=Wck.mpr h;simp only[List.lookup,hb,Wae (λe:g=f=>h (e.trans hk.symm))]
  ·rw[Wae hk];by_cases h:g=k
   ·have hb:(g==k)=true:=WbV.mpr h;simp only[List.lookup,hb,Wae (λe:g=f=>hk (h.symm.trans e))]
   ·have hb:(g==k)=false:=Wck.mpr h;simp only[List.lookup,hb];exact ih
def E1(f:Str)(v:V):∀fs:YqE,f∈(gu f v fs).map (·.1)/\∀g,g∈Yws->g∈(gu f v fs).map (·.1)
 |[]=>⟨by simp[gu],λg h=>by simp at h⟩
 |(k,x)::r=>by
  obtain⟨i1,i2⟩:=E1 f v r;ext XaV
  ·rw[Wap hk];subst hk;exact⟨Ydx,λg h=>by simpa using h⟩
  ·rw[Wae hk];refine⟨?_,λg h=>?_⟩
   ·rw[Waw];exact Waq _ i1
   ·rw[Waw]at h ⊢;rcases Wav.mp h with e|e
    ·exact Wav.mpr (.inl e)
    ·exact Waq _ (i2 g e)
def F2(f:Str)(v:V):∀fs:YqE,(gu f v fs).length<=Yte+1
 |[]=>by simp[gu]
 |(k,x)::r=>by
  have ih:=F2 f v r;ext XaV
  ·rw[Wap hk,Was,Was];omega
  ·rw[Wae hk,Was,Was];omega
def xf.some_of(r:xf (YcV) o):∃u,o=YaY/\YhF:=by
 cases o with
 |none=>ext Xb3
 |some u=>exact⟨u,rfl,r⟩
def xf.none_of(r:xf none o):o=none:=by
 cases o with
 |none=>rfl
 |some u=>ext Xb3
def UY(r:YhF):PySem.W.handedIn u=true:=by
 cases v with
 |fR=>cases(show u=YnG from r);rfl
 |bl b=>cases(show u=Value.bool b from r);rfl
 |int i=>obtain⟨t,e⟩:=Yvw;cases e;rfl
 |str x=>obtain⟨t,e⟩:=Yvv;cases e;rfl
 |NX b=>obtain⟨t,e⟩:=(show ∃t,u=Value.bytes b t from r);cases e;rfl
 |flt b=>obtain⟨t,e⟩:=(show ∃t,u=Value.float b t from r);cases e;rfl
 |ref a=>cases(show u=Yob from r);rfl
 |ty n=>cases(show u=Value.type n from r);rfl
section
variable {P:Program} {w:World} {H H':Hp} {h h':Heap} {a C dx:Addr} {fs fs':List (Str×V)}
def Hk(cg:YeE)(e:H a=Ycv):∃mA,NR h a dx C mA/\(∀f,YAS)/\PySem.Within mA (Yws)/\Yte<=1000/\H dx=YmX:=by obtain⟨d,z,ne,ob,mA,n,r,q⟩:=(show fM P w H h a (.ins C dx fs)from cg a _ e);exact⟨mA,⟨ob,n,ne⟩,r,q,z,d⟩
end
structure x5 (K:Yaj) (C:Addr):Prop where
 pg:PySem.W.plainGet K C Str.empty=true
 hd:Yss=true
 po:PySem.W.plainOver K C=true
 sa:Yvq=Yqd
def x5.get{K:Yaj}{C:Addr}(c:x5 K C)(f:Str):PySem.W.plainGet K C f=true:=c.pg
def aL(K:Yaj)(C:Addr)(f:Str):Prop:=PySem.W.findIn K Ykd f=YBO
def aL.abe{K:Yaj}{C:Addr}{f:Str}(n:YAG):PySem.W.takerIn K C f=YBO:=by unfold PySem.W.takerIn;rw[show PySem.W.findIn K Ykd f=YBO from n];rfl
structure Meth (K:Yaj) (C:Addr) (m:Str) (f:Addr):Prop where
 at_:PySem.W.findIn K Ykd m=Yyd
 fn:Ywc=true
 kp:YtC=true
section
variable {X:Cx} {pins:List (Addr×Obj)} {σ:St} {H:Hp} {s:Shared} {a C dx:Addr} {fs:List (Str×V)} {f:Str} {v:V} {A:Around} {E:Value→Shared→Prop}
def Ji{b:Bool}{Q:Value->Shared->Prop}(I:Yah)(e:H a=Ycv)(c:x5 X.K C)(n:aL X.K C f)(l:Yn8=YcV)
(h:∀u s',Yia->YhF->Q u s'):wpAny Yar A (getAttr YwE f b) Q E s:=by
 obtain⟨mA,O,r,_,_,_⟩:=Hk I.cg e;obtain⟨u,hu,ru⟩:=xf.some_of (v:=v) (o:=mA f) (by rw[<-l];exact r f);exact get_map I.NW O (c.get f) c.hd n hu (UY ru) (h u _ (Yga) ru)
def Jh{m:Str}{g:Addr}{pl:Sem Bool}{Q:Value×YbN->Shared->Prop}(I:Yah)(e:H a=Ycv)(c:x5 X.K C)(k:Meth X.K C m g)(l:fs.lookup m=none)
(h:Q (.ref g,Yvz) s):wpAny Yar A (getMethod YwE m pl) Q E s:=by
 obtain⟨mA,O,r,_,_,_⟩:=Hk I.cg e;have hn:mA m=none:=xf.none_of (by rw[<-l];exact r m);exact W2 I.NW O (c.get m) k.at_ k.fn hn h
def HM{y:V}{u:Value}{Q:Unit->Shared->Prop}(I:Yah)(e:H a=Ycv)(c:x5 X.K C)(n:aL X.K C f)(hl:Yte<1000)(ry:YhE)
(h:∀s',Inv X pins σ (upd H a (.ins C dx (gu f y fs))) s'->Q () s'):wpAny Yar A (setAttr YwE f u) Q E s:=by
 obtain⟨mA,O,r,wi,_,ho⟩:=Hk I.cg e;have hz:(Yws).length<=sizeLine:=by rw[Waa,WcI];omega
 refine Yo I.NW O c.sa c.po n.abe c.hd wi hz λh' O' sb=>h _ ?_;have hd:∃o,h'.get? dx=YaB:=let⟨o,_,_,e',_⟩:=O'.ns;⟨o,e'⟩;refine I.write (x:=a) (e:=dx) YtJ (.inr ho) (λb q hb z=>(sb.2 b hb).trans z) hd ?_;refine⟨by rw[aA O.ne];exact ho,?_,O.ne,O'.obj,_,O'.ns,λg=>?_,λg hg=>?_⟩
 ·have:=F2 f y fs;omega
 ·show xf ((gu f y fs).lookup g) (if g=f then YaY else mA g);rw[F0];by_cases q:g=f
  ·rw[Wap q,Wap q];exact ry
  ·rw[Wae q,Wae q];exact r g
 ·by_cases q:g=f
  ·rw[q];exact(E1 f y fs).1
  ·refine(E1 f y fs).2 g (wi g λz=>hg ?_);show(if g=f then YaY else mA g)=none;rw[Wae q];exact z
def Inv.made(I:Yah):Inv X pins σ (upd (upd H s.heap.objs.size (.own Yht)) Yht (YCo))
  {s with heap:=(YcQ).push (YdM)}:=by
 have e1:(YcQ).get? s.heap.objs.size=some PySem.W.emptyDict:=Wat s.heap rfl;have e2:((YcQ).push (YdM)).get? Yht=some (YdM):=by have:=Wat (YcQ) (o:=YdM) rfl;rwa [WaW]at this
 have e3:(YcQ).Ns s.heap.objs.size YBI:=⟨PySem.W.emptyDict,#[],_,e1,rfl,(λe he=>absurd he Yao),λ_=>rfl⟩;have I1:=I.laid (a:=Yam) (o:=.own Yht) (h':=YcQ) (t':=s.toks) (λb u q=>YvY) YcZ ⟨_,e1⟩;refine I1.laid (a:=Yam+1) (o:=YCo) (t':=s.toks) (λb u q=>YvY) (Wed (WaW _ _)) ?_;have ne:Yam≠Yam+1:=YBA;refine⟨by rw[aA ne,ab],WaL _,ne,e2,λ_=>none,(Heap.Ns1.of_empty e3).at λo q=>YvY,λ_=>YgB,λy hy=>absurd rfl hy⟩
def Tp{prog:Program}{w:World}{env:Env}{e:Expr}{f:Str}{pos:Pos}{s:Shared}{Q:Value->Shared->Prop}(hb:attributeBase e f env (eval e env)=eval e env)
(h:wpAny YaA A (eval e env) (λo s₁=>wpAny YaA A (getAttr o f true) Q E s₁) E s):wpAny YaA A (eval YtM env) Q E s:=
 Attribute_any_ h (by rw[arm_eval_Attribute,hb])
end
def abj(K:Yaj)(ta:TE)(f:Str):TE:=λσ H Q=>ta σ H λx H1=>∃a C dx fs v,x=Ybc/\H1 a=Ycv/\x5 K C/\YAG/\Yn8=YcV/\Q v H1
def acC(K:Yaj)(ta tv:TE)(f:Str):TS:=λD σ H=>tv σ H λy H1=>ta σ H1 λx H2=>∃a C dx fs,x=Ybc/\H2 a=Ycv/\x5 K C/\YAG/\Yte<1000/\
 D.nx σ (upd H2 a (.ins C dx (gu f y fs)))
def aca(X:Cx)(op:Operator)(rd:V->V->Hp->VK->Prop):Prop:=∀(pins:List (Addr×Obj))(s:Shared)(σ:St)(H:Hp)(x y:V)(u v:Value)(Q:VK),Yah->RelV x u->RelV y v->rd x y H Q->wpAny Yar X.A (inplaceOp op u v) Yb5 X.xe s
def Ys(K:Yaj)(ta tv:TE)(rd:V->V->Hp->VK->Prop)(f:Str):TS:=λD σ H=>ta σ H λx H1=>∃a C dx fs v,x=Ybc/\H1 a=Ycv/\x5 K C/\YAG/\Yn8=YcV/\
 tv σ H1 λy H2=>rd v y H2 λz H3=>∃dx' fs',H3 a=some (.ins C dx' fs')/\fs'.length<1000/\D.nx σ (upd H3 a (.ins C dx' (gu f z fs')))
section
variable {X:Cx} {o e value:Expr} {f:Str} {pos pos' tpos:Pos} {ta tv:TE}
def aw(he:PE X e ta)(hb:Yzj=YgD):PE X YtM (abj X.K ta f):=by ext Xaf;refine Tp hb (dq Yca λu s1 ⟨x,H1,I1,rx,a,C,dx,fs,v,ex,ea,c,n,l,q⟩=>?_);ext XaC;exact Ji I1 ea c n l λu' s2 I2 ru=>⟨v,H1,I2,ru,q⟩
def bz(ha:PE X o ta)(hv:Yww)(hs:swapsWith value (some (.Attribute o f pos')) pos.line X.env=pure false):PS X (.Assign [.Attribute o f pos'] value pos) (acC X.K ta tv f):=by ext XaJ;refine plainObj_wpAny_Assign_Attribute (dq (hv pins s σ H _ I h) λu s1 ⟨y,H1,I1,ry,q⟩=>dq (ha pins s1 σ H1 _ I1 q) λov s2 ⟨x,H2,I2,rx,a,C,dx,fs,ex,ea,c,n,l,q2⟩=>?_) hs;subst ex;obtain rfl:ov=Yob:=rx;exact HM I2 ea c n l ry λs3 I3=>⟨σ,_,I3,q2⟩
def eB{op:Operator}{rd:V->V->Hp->VK->Prop}(ha:PE X o ta)(hv:Yww)(hop:aca X op rd):PS X (.AugAssign (.Attribute o f tpos) op value pos) (Ys X.K ta tv rd f):=by ext XaJ;refine wpAny_AugAssign_AttributeAny (dq YcA λov s1 ⟨x,H1,I1,rx,a,C,dx,fs,v,ex,ea,c,n,l,q⟩=>?_);subst ex;obtain rfl:ov=Yob:=rx;refine Ji I1 ea c n l λu s2 I2 ru=>dq (hv pins s2 σ H1 _ I2 q) λw3 s3 ⟨y,H2,I3,ry,q3⟩=>dq (hop pins s3 σ H2 v y u w3 _ I3 ru ry q3) λw4 s4 ⟨z,H3,I4,rz,dx',fs',ea',l',q4⟩=>?_;exact HM I4 ea' c n l' rz λs5 I5=>⟨σ,_,I5,q4⟩
end
section
variable {X:Cx} {pins:List (Addr×Obj)} {σ:St} {H:Hp} {s:Shared} {A:Around} {E:Value→Shared→Prop} {Q:Value→Shared→Prop} {c:Value} {b:Bool}
end
end L2
namespace L2
open PySem PySem.Spec PyProof.Rows
structure mj (k:Nat) (A:Around):Prop where
 hd:YhX=none
 dp:A.depth+3*k+5<recursionLimit
 un:YtP+16*k+200<cLine
def mj.mono(r:mj k A)(h:j<=k):mj j A:=⟨r.hd,by have:=r.dp;omega,by have:=r.un;omega⟩
def mj.deeper(r:mj YCH A)(env:Env):mj k (A.deeper env):=⟨r.hd,by have:=r.dp;show A.depth+1+3*k+5<_;omega,by have:=r.un;show YtP+3+16*k+200<_;omega⟩
def Rv{A:Around}{C:Addr}{us:YbN}{kw:YpQ}:(YcU).depth=A.depth+1:=by first|rfl|simp[Around.under,Code.weight,Code.isCreation,Code.isGuard,Code.isCaller,Code.frames,Code.isFrame,guardIds]
def Ru{A:Around}{C:Addr}{us:YbN}{kw:YpQ}:(YcU).units=YtP+1:=by first|rfl|simp[Around.under,Code.cUnits,Code.frames,Code.isFrame]
def mj.make(r:mj YCH A)(C:Addr)(us:YbN)(kw:YpQ):mj k (YcU):=⟨r.hd,by have:=r.dp;rw[Rv];omega,by have:=r.un;rw[Ru];omega⟩
def mj.depth(r:mj k A):A.depth<recursionLimit:=by have:=r.dp;omega
def mj.units{k:Nat}{A:Around}(r:mj k A):YtP+64<cLine:=by have:=r.un;omega
def ZR:TA:=λ_ H Q=>Q [] H
def abm(ta:TE)(tr:TA):TA:=λσ H Q=>ta σ H λx H1=>tr σ H1 λxs H2=>Q (x::xs) H2
section
variable {X:Cx} {e:Expr} {es:List Expr} {te:TE} {t:TA} {pos:Pos}
def ah:PA X [] ZR:=λ_ _ _ _ H Q I h=>WdM ⟨[],H,I,.nil,h⟩
def aa(ha:Ymp)(hr:PA X es t)(hs:Ycz=Ybs::starEach es X.env:=by rfl):PA X Yv1 (abm te t):=by intro pos pins s σ H Q I h;rw[hs];show wpAny _ _ (spliced ((false,YgD)::Ycb)) _ _ s;refine Wc2 (dq YcA λu s1 ⟨x,H1,I1,r1,q1⟩=>?_);exact dq (hr pos pins s1 σ H1 _ I1 q1) λus s2 ⟨xs,H2,I2,r2,q2⟩=>⟨x::xs,H2,I2,.cons r1 r2,q2⟩
def acr(t:TA):TE:=λσ H Q=>t σ H λxs H1=>Ybp<=sizeLine/\∀p,H1 p=none->Q (Yij) (upd H1 p YB5)
def acv(t:TA):TE:=λσ H Q=>t σ H λxs H1=>Ybp<=sizeLine/\∀p,H1 p=none->Q (Yij) (upd H1 p Ytm)
def bG{x1}(h:PA X es t):PE X (.Tuple es x1 pos) (acr t):=by intro pins s σ H Q I hq;refine wpAny_Tuple_spliced Ygz;have hf:H1 s1.heap.objs.size=none:=YsM;refine⟨YrH,upd H1 s1.heap.objs.size YB5,Zb9⟩;exact⟨z,us,r,⟨_,YbA,ZaF⟩⟩
def aQ(h:PA X es t):PE X (.List es pos) (acv t):=by intro pins s σ H Q I hq;refine wpAny_List_spliced Ygz;have hf:H1 s1.heap.objs.size=none:=YsM;refine⟨YrH,upd H1 s1.heap.objs.size Ytm,Zb9⟩;exact⟨z,us,0,r,YbA⟩
end
abbrev Sp:=YcT->Hp->VK->XK->Prop
abbrev XU:=Ypt->Hp->Shared->XK->Value->Shared->Prop
structure Sj (P:Program) (w:World) (K:Yaj) (mg:Str->Yci) (base:Heap) (A:Around) (outer:Ypt) (s:Shared) (H:Hp):Prop where
 frames:A.frames=some outer
 mod:Mod K mg base
 bs:∀b o,base.get? b=YaB->Ya4=YaB/\H b=none
 XT:base.objs.size<=Yam
 GQ:s.heap.FunFrames base outer
 frf:∀b∈W7 outer,H b=none
 cg:xP P w H s.heap
 bare:AllBare s.gens
def CE(outer:Ypt)(P:Program)(w:World)(H:Hp)(s:Shared)(Q:VK)(u:Value)(s':Shared):Prop:=∃v H',s'.os=s.os/\YBb/\Un (W7 outer) [] H H' s.heap s'.heap/\xP P w H' s'.heap/\YhF/\YC9
def CR(CX:XU)(outer:Ypt)(P:Program)(w:World)(H:Hp)(s:Shared)(Q:VK)(E:XK)(r:Result)(s':Shared):Prop:=
 match r with
 |.ok (.ret u)=>CE outer P w H s Q u s'
 |.ok _=>False
 |.error e=>CX outer H s E e s'
structure a6 (P:Program) (w:World) (K:Yaj) (mg:Str->Yci) (base:Heap) (CX:XU) (k:Nat) (f:Addr) (fd:FuncData) (ps:YeB) (sp:Sp):Prop where
 len:∀vs H Q E,YlL->Yd7=Yez
 run:∀(A:Around)(outer:List Env)(s:Shared)(H:Hp)(args:Args)(us:List Value)(vs:List V)(Q:VK)(E:XK),mj k A->YmT->BindsTo s fd args Yog->YnH->YlL->
  codeAny YlN A (.call YiB args) (CR CX outer P w H s Q E) s
def Sj.make{P:Program}{w:World}{K:Yaj}{mg:Str->Yci}{base:Heap}{A:Around}{outer:Ypt}{s:Shared}{H:Hp}(e:YmT)(C:Addr)(us:YbN)(kw:YpQ):
  Sj P w K mg base (YcU) outer s H:=⟨by first|exact e.frames|(simpa[Around.under,Code.envs,Code.isFrame,pushEnvs]using e.frames),e.mod,e.bs,e.XT,e.GQ,e.frf,e.cg,e.bare⟩
section
variable {X:Cx} {pins:List (Addr×Obj)} {σ:St} {H:Hp} {s s':Shared}
def Inv.abU(I:Yah):Sj X.prog X.w X.K X.mg X.base X.A X.stack s H:=⟨I.ok.frames,I.ok.mod,I.bs,WaF I.ok.XT I.sz,I.stack,I.Sr,I.cg,I.bare⟩
def Inv.after(I:Yah)(h:CE X.stack X.prog X.w H s Q u s'):EP X pins σ Q u s':=by obtain⟨v,H',os,bare,un,cg,r,q⟩:=h;obtain⟨hh,g,d,t,os'⟩:=s';obtain rfl:os'=s.os:=os;exact⟨v,H',I.call (h':=hh) (g':=g) (d':=d) (t':=t) (ch:=[]) un cg bare (λb z=>absurd z Yao),r,q⟩
end
def abn(sp:Sp)(dvs:YcT)(E:XK)(t:TA):TE:=λσ H Q=>t σ H λvs H1=>sp Yp9 H1 Q E
def Zo(C:Addr)(m:Str)(sp:Sp)(dvs:YcT)(E:XK)(ta:TE)(t:TA):TE:=λσ H Q=>ta σ H λx H1=>∃a dx fs,x=Ybc/\H1 a=Ycv/\fs.lookup m=none/\
 t σ H1 λvs H2=>sp (x::Yp9) H2 Q E
def Zp(C:Addr)(sp:Sp)(dvs:YcT)(E:XK)(t:TA):TE:=λσ H Q=>t σ H λvs H1=>∀x dx,H1 x=none->H1 dx=none->dx≠x->
 sp (.ref x::Yp9) (upd (upd H1 dx (.own x)) x YDF) YCX E
def Binds(K:Yaj)(fd:FuncData)(ps:YeB)(ds:YbN):Prop:=∀(s:Shared)(us:List Value),Yoe->(us++ds).length=Yez->BindsTo s fd Yn5 (ps.zip (us++ds))
def Binds.all{K:Yaj}{fd:FuncData}{ps:YeB}(h:∀us:YbN,Yw0=Yez->bindArgs fd Yn5=pure Yog):YzK:=λs us _ hl=>by rw[WaQ]at hl ⊢;exact .of_eq (h us hl)
def Passes(CX:XU)(X:Cx)(E:XK):Prop:=∀(pins:List (Addr×Obj))(σ:St)(H:Hp)(s:Shared)(e:Value)(s':Shared),Yah->CX X.stack H s E e s'->X.xe e s'
section
variable {X:Cx} {CX:XU} {k:Nat} {f C:Addr} {fd:FuncData} {ps:List Str} {sp:Sp} {dvs:List V} {ds:List Value} {E:XK} {x m:Str} {p pos apos:Pos} {e o:Expr} {es:List Expr} {ta:TE} {t:TA}
def MM{pins:Ya0}{σ:St}{H:Hp}{s:Shared}{Q:VK}{us:YbN}{vs:YcT}(F:Ybt)(hr:mj k X.A)(hb:Ygw)(hd:Yod)(hx:YkU)
(I:Yah)(r:YnH)(h:sp Yp9 H Q E):wpAny Yar X.A (call YiB us) Yb5 X.xe s:=by
 have r2:Vals Yp9 (us++ds):=r.append hd;have hl:(us++ds).length=Yez:=by rw[<-YBQ];exact F.len _ _ _ _ h
 refine wpAny_call (Wc8 (F.run X.A X.stack s H Yn5 (us++ds) Yp9 Q E hr I.abU (hb s us I.NW hl) r2 h) λr s' hq=>?_);cases r with
 |error e=>exact hx pins σ H s e s' I hq
 |ok fl=>
  cases fl with
  |ret u=>exact I.after hq
  |next=>exact False.elim hq
  |brk=>exact False.elim hq
  |cont=>exact False.elim hq
def ay(F:Ybt)(hr:mj k X.A)(hg:YDa)(hm:YC8=YbF)(hk:PySem.W.keepIn X.K YiB=true)(hb:Ygw)(hd:Yod)(hx:YkU)
(ha:Yjz)(hdb:YbC=false:=by decide)(he:Ycz=Ybs::starEach es X.env:=by rfl)(hpl:(Ycb).any (·.1)=false:=by rfl):
  PE X YdP (abn sp dvs E t):=by
 ext Xd2;refine Wdi (h₀:=X.base) I.ok.mod.kin hk Yiy he hpl;exact MM F hr hb hd hx I1 r q
def dJ{pl:Sem Bool}(he:PE X o ta)(c:x5 X.K C)(hm:Meth X.K C m f)(F:Ybt)(hr:mj k X.A)(hb:Ygw)(hd:Yod)(hx:YkU)(ha:Yjz)
(hst:Ycz=Ybs::starEach es X.env:=by rfl)(hpl:(Ycb).any (·.1)=false:=by rfl)
(ht:eval (.Call Yl4 Yv1 [] pos) X.env=(do
   let ov<-eval o X.env
   standAt apos.atName
   let(f,first)<-holding [ov] (getMethod ov m pl)
   callWith pos f first (backTo pos (Ycz)) (backToKw pos Ylm)):=by rfl):
  PE X (.Call Yl4 Yv1 [] pos) (Zo C m sp dvs E ta t):=by
 ext XbN;refine Wdi (first:=Yvz) (h₀:=X.base) I.ok.mod.kin hm.kp (dq (ha pos pins s1 σ H1 _ I1 q) λus s2 ⟨vs,H2,I2,r,q2⟩=>⟨I2.NW,?_⟩) hst hpl;exact MM (us:=Ybc::us) (vs:=Ybc::vs) F hr hb hd hx I2 (.cons rfl r) q2
def cW{pl:Sem Bool}(he:PE X o ta)(c:x5 X.K C)(hm:Meth X.K C m f)(F:Ybt)(hr:mj k X.A)(hb:Ygw)(hd:Yod)(hx:YkU)
(ht:eval (.Call Yl4 [] [] pos) X.env=(do
   let ov<-eval o X.env
   standAt apos.atName
   let(f,first)<-holding [ov] (getMethod ov m pl)
   callWith pos f first (backTo pos (starEach [] X.env)) (backToKw pos Ylm)):=by rfl):
  PE X (.Call Yl4 [] [] pos) (Zo C m sp dvs E ta ZR):=by
 ext XbN;exact PySem.W.callWith_K0 (first:=Yvz) I1.NW hm.kp (MM (us:=Yvz) (vs:=Yvz) F hr hb hd hx I1 (.cons rfl .nil) q)
structure Mk (K:Yaj) (C f:Addr):Prop where
 makes:PySem.W.makesIn K C=true
 init:Yxy=Yyd
 fn:Ywc=true
 kp:PySem.W.keepIn K Ykd=true
def OD{pins:Ya0}{σ:St}{H:Hp}{s:Shared}{Q:VK}{us:YbN}{vs:YcT}(M:Mk X.K C f)(F:Ybt)(hr:mj YCH X.A)(hb:Ygw)(hd:Yod)
(hx:YkU)(I:Yah)(r:YnH)
(h:∀x dx,H x=none->H dx=none->dx≠x->sp (.ref x::Yp9) (Yid) YCX E):
  wpAny Yar X.A (call Ykd us) Yb5 X.xe s:=by
 have hq:=h Yht s.heap.objs.size (I.cg.fresh (Wda _)) (YcL) (YBA);have I2:=Inv.made (C:=C) I;have r2:Vals (V.ref Yht::Yp9) (YqB::(us++ds)):=.cons rfl (r.append hd);have hl:(YqB::us++ds).length=Yez:=by have e:=YBQ;rw[F.len _ _ _ _ hq]at e;exact e.symm
 refine wpAny_call (WC (f:=f) I.NW M.makes M.init (WbV.mp M.fn) (Wc8 (F.run _ X.stack _ _ ⟨YqB::us,[]⟩ (YqB::(us++ds)) _ _ E (hr.make C us [])
  (I2.abU.make C us []) (hb _ (YqB::us) I2.NW hl) r2 hq) λr s' hq'=>?_))
 cases r with
 |error e=>exact hx pins σ _ _ e s' I2 hq'
 |ok fl=>
  cases fl with
  |ret u=>obtain⟨v,H',I3,rv,ev,q3⟩:=I2.after hq';subst ev;exact⟨rv,⟨V.ref Yht,H',I3,rfl,q3⟩⟩
  |next=>exact YDw
  |brk=>exact YDw
  |cont=>exact YDw
def cH(M:Mk X.K C f)(F:Ybt)(hr:mj YCH X.A)(hg:YDa)(hm:YC8=some Ykd)(hb:Ygw)(hd:Yod)(hx:YkU)
(ha:Yjz)(hdb:YbC=false:=by decide)(he:Ycz=Ybs::starEach es X.env:=by rfl)(hpl:(Ycb).any (·.1)=false:=by rfl):
  PE X YdP (Zp C sp dvs E t):=by
 ext Xd2;refine Wdi (h₀:=X.base) I.ok.mod.kin M.kp Yiy he hpl;exact OD M F hr hb hd hx I1 r q
def Wn(M:Mk X.K C f)(F:Ybt)(hr:mj YCH X.A)(hg:YDa)(hm:YC8=some Ykd)(hb:Ygw)(hd:Yod)(hx:YkU)
(hdb:YbC=false:=by decide):PE X (.Call (.Name x p) [] [] pos) (Zp C sp dvs E ZR):=by
 ext Xd2;exact PySem.W.callWith_K0 I.NW M.kp (OD (us:=[]) M F hr hb hd hx I .nil h)
end
section
variable {X:Cx} {CX:XU} {k:Nat} {f C:Addr} {fd:FuncData} {ps ks:List Str} {sp:Sp} {E:XK} {x m:Str} {p pos apos kpos:Pos} {e o:Expr} {es:List Expr} {kws:List Keyword} {te ta:TE} {t tk:TA} {nm:Option Str}
variable {g:List Value→List Value→List Value} {gV:List V→List V→List V}
end
structure aB (N P:YeB) (sc:Scope):Prop where
 kind:sc.kind=.function
 co:sc.isCoroutine=false
 gen:sc.isGenerator=false
 nd:N.Nodup
 pre:N.take P.length=P
 par:∀x∈P,YfR=YdK∨YfR=Yeb
 aai:∀y∈sc.names,y.2≠ .free
def L5{kindOf:Str->YsK}{x:Str}:∀{binds:List (Str×Value)}{m:Str->Option Value},(∀v,(x,v)∉binds)->bindL kindOf binds m x=m x
 |[],_,_=>rfl
 |(n,v)::r,m,h=>by
  unfold bindL;rw[L5 λw hw=>h w (Waq _ hw)];split
  ·ext XfM
  ·rfl
def L7{kindOf:Str->YsK}{x:Str}:∀{binds:List (Str×Value)}{m:Str->Option Value},(∀v,(x,v)∉binds)->bindC kindOf binds m x=m x
 |[],_,_=>rfl
 |(n,v)::r,m,h=>by
  unfold bindC;rw[L7 λw hw=>h w (Waq _ hw)];split
  ·rfl
  ·ext XfM
def L6{kindOf:Str->YsK}{x:Str}{v:Value}:∀{P:List Str}{vs:List Value}{i:Nat}{m:Str->Option Value},P.Nodup->P[i]? =YeH->vs[i]? =YcV->kindOf x=YdK->
  bindL kindOf (P.zip vs) m x=YcV
 |[],_,_,_,_,h,_,_=>by simp at h
 |_::_,[],_,_,_,_,h,_=>by simp at h
 |p::P,w::vs,0,m,nd,h1,h2,hk=>by simp at h1 h2;subst h1;subst h2;show bindL kindOf YpT m p=_;unfold bindL;rw[L5 λv hv=>(Yp7).1 (Wes hv).1,Wap hk];simp
 |p::P,w::vs,i+1,m,nd,h1,h2,hk=>by show bindL kindOf YpT m x=_;unfold bindL;exact L6 (i:=i) (Yp7).2 Yep (by simpa using h2) hk
def L8{kindOf:Str->YsK}{x:Str}{v:Value}:∀{P:List Str}{vs:List Value}{i:Nat}{m:Str->Option Value},P.Nodup->P[i]? =YeH->vs[i]? =YcV->kindOf x≠YdK->
  bindC kindOf (P.zip vs) m x=YcV
 |[],_,_,_,_,h,_,_=>by simp at h
 |_::_,[],_,_,_,_,h,_=>by simp at h
 |p::P,w::vs,0,m,nd,h1,h2,hk=>by simp at h1 h2;subst h1;subst h2;show bindC kindOf YpT m p=_;unfold bindC;rw[L7 λv hv=>(Yp7).1 (Wes hv).1,Wae hk];simp
 |p::P,w::vs,i+1,m,nd,h1,h2,hk=>by show bindC kindOf YpT m x=_;unfold bindC;exact L8 (i:=i) (Yp7).2 Yep (by simpa using h2) hk
def start(N:YeB)(vs:YcT):St:=vs.map some++List.replicate (N.length-vs.length) none
def RQ(CX:XU)(P:Program)(w:World)(K:Yaj)(mg:Str->Yci)(base:Heap)(N:YeB)(qual:Str)(scope:Scope)(f:Addr)(cd:Value)(A:Around)(outer:Ypt)(s:Shared)(H:Hp)(E:XK):Cx where
 prog:=P
 w:=w
 K:=K
 mg:=mg
 base:=base
 A:=A.deeper (YbO)
 N:=N
 Lv:=s
 H_0:=H
 env:=YbO
 outer:=outer
 stack:=YbO::outer
 ex:=[]
 calm:=true
 fn:=λ_=>true
 pn:=[]
 xe:=λe s'=>wpAny YlN (A.deeper (YbO)) (leaving (YbO) e) (λ_ s''=>CX outer H s E e s'') (λe' s''=>CX outer H s E e' s'') s'
def PU{sc:Scope}{n:Nat}{x:Str}(h:YfR=Yeb):∃c,(cellsFrom n sc.names []).lookup x=Ycf:=by have q:=WeW sc.names n [] (YiC);exact Wdr.mp q
def UU{CX:XU}{P:Program}{w:World}{K:Yaj}{mg:Str->Yci}{base:Heap}{N ps:YeB}{qual:Str}{scope:Scope}{f:Addr}{cd:Value}{A:Around}{outer:Ypt}{s s1:Shared}{H:Hp}{E:XK}{us:YbN}{vs:YcT}
(S:aB N ps scope)(hd:YhX=none)(e0:YmT)(hl:Yd7=Yez)(r:YnH)
(x:InCallC s s.heap.objs.size (bindL (YbO).kindOf Yog λ_=>none) (Yz3) (bindC (YbO).kindOf Yog λ_=>none) s1):
  Inv (Ynb) [] (Ytt) H s1:=by
 have hpl:Yez<=N.length:=by have:=Wa6 List.length S.pre;rw[WaO]at this;omega
 obtain⟨h1,tk,rfl,hk⟩:=x.done;have noA:∀b:Addr,b∉(Ynb).ex:=λb z=>YtY
 refine⟨⟨e0.mod,S.kind,ZaI,Wau _,λy z c h1 h2=>?_,λy hy=>?_,λy c _ h=>?_,λ_=>hd,Around.frames_deeper e0.frames,.inr Ytb,λb z=>absurd z (noA b),e0.bs,e0.XT,λb _ _=>noA b,λb z=>absurd z (noA b),e0.GQ,e0.frf⟩,
  rfl,e0.bare,Un.kept hk,⟨_,x.toInCall.ns,λi y v h1 h2 h3=>?_⟩,λy c h=>⟨_,x.cell y c h⟩,e0.cg.fresh YcZ,λy c h=>?_,λp hp=>absurd (show p∈([]:Ya0)from hp) Yao,e0.cg.kept hk,?_⟩
 ·exact name_of_addr x.apart (Wba h1) (Wba h2)
 ·have hy:Yd0=Yeb∨Yd0=Yh1:=hy;rcases hy with hy|hy
  ·exact PU hy
  ·exact absurd rfl (S.aai _ (Wba hy))
 ·exact YCO
 ·have hi:i<Yd7:=by
   unfold start at h2;by_cases hi:i<Yd7
   ·exact hi
   ·rw[List.getElem?_append_right YuW]at h2;rw[List.getElem?_replicate]at h2;split at h2<;>cases h2
  have ha:vs[i]? =YcV:=by
   unfold start at h2;rw[List.getElem?_append_left YuW,Wbd]at h2;cases e:vs[i]? with
   |none=>rw[e]at h2;cases h2
   |some a=>rw[e]at h2;cases h2;rfl
  obtain⟨u,hu,rv⟩:=r.get ha;have hp:ps[i]? =Ysw:=by rw[<-S.pre,List.getElem?_take_of_lt Yad];exact h1
  have ndP:ps.Nodup:=by rw[<-S.pre];exact S.nd.sublist (Wcw _ _)
  refine⟨u,rv,?_⟩;rcases S.par y (WaA hp)with k|k
  ·exact .inl ⟨k,L6 ndP hp hu k⟩
  ·obtain⟨c,e⟩:=PU (n:=Yam+1) k;refine .inr ⟨.inl k,c,e,?_⟩;have q:=x.cell y c e;rw[L8 ndP hp hu (by show Yd0≠_;rw[k];decide)]at q;exact q
 ·exact e0.cg.fresh (YCO)
 ·unfold start;show _=N.length;rw[Wad,Waa,List.length_replicate];omega
def ZC{CX:XU}{P:Program}{w:World}{K:Yaj}{mg:Str->Yci}{base:Heap}{k:Nat}{f:Addr}{name qual:Str}{params:Arguments}{body:Ytj}{scope:Scope}{dV kV doc pm cdv ct oc:Value}{an od:YBD}
{osl:Array (Yci)}{N ps:YeB}{sp:Sp}(lk:K.lookup f=some ⟨oc,od,.func Yj1,osl⟩)(hcd:YCS=true)(S:aB N ps scope)
(len:∀vs H Q E,YlL->Yd7=Yez)
(hbody:∀(A:Around)(outer:List Env)(s:Shared)(H:Hp)(vs:List V)(Q:VK)(E:XK),mj k (A.deeper (envOfC qual scope s.heap.objs.size f cdv))->YlL->
   ∃t,Tt Yfx body t/\t {nx:=λ_ H'=>Ykb,rt:=Q} (Ytt) H):
  a6 P w K mg base CX YCH f Yj1 ps sp:=by
 refine⟨len,λA outer s H args us vs Q E hr e0 hb r hsp=>?_⟩;have hl:=len _ _ _ _ hsp;have KX:Yoe:=e0.mod.kin.keeps λb o e=>(e0.bs b o e).1;have lim:s.heap.NoLimit:=e0.mod.nolimit.keeps λb o e=>(e0.bs b o e).1;have hkind:∀y∈ps.zip us,Ylf=YdK∨(Ylf=Yeb/\((Yz3).lookup y.1).isSome=true):=λ⟨n,v⟩ hy=>by
  rcases S.par n (Wes hy).1 with q|q
  ·exact .inl q
  ·exact .inr ⟨q,WeW _ _ _ (.inl q)⟩
 refine codeAny_call_function hr.depth (KX _ _ lk) rfl S.co S.gen rfl (PySem.W.codeRec_of KX hcd) (hb _ _ _ _ ?_);refine wpAny_newFunctionEnv_cells S.kind hkind λenv he s1 x=>?_;subst he;refine⟨lim.keeps x.toInCall.keep,codeAny_func ?_⟩;obtain⟨t,ht,hq⟩:=hbody A outer s H vs Q E (hr.deeper _) hsp;have I:Inv Yfx [] (Ytt) H s1:=UU S hr.hd e0 hl r x;refine WbZ (ht [] s1 (Ytt) H _ I hq) (λfl s' hs=>?_) λe s' hs=>hs;have fin:∀{σ':St}{H':Hp}{v:V}{u:Value},Inv Yfx [] σ' H' s'->YhF->YC9->CE outer P w H s Q u s':=λ{σ' H' v u} J rv q=>⟨v,H',J.os,J.bare,J.base,J.cg,rv,q⟩
 cases fl with
 |ret u=>obtain⟨v,σ',H',J,rv,q⟩:=hs;exact fin J rv q
 |next=>obtain⟨σ',H',J,q⟩:=hs;exact fin (v:=V.fR) (u:=YnG) J rfl q
 |brk=>ext Xhm
 |cont=>ext Xhm
end L2
namespace L2
open PySem PySem.Spec PyProof.Rows
section
variable {X:Cx} {x:Str} {p pos:Pos} {e:Expr} {es:List Expr} {t:TA} {id T:String} {r:List V→Hp→VK→Prop}
def tCB(r:YcT->Hp->VK->Prop)(t:TA):TE:=λσ H Q=>t σ H λvs H1=>r vs H1 Q
def aT(hc:mz X YfM r)(hg:YDa)(hm:YC8=none)(hv:Ypn=some YfM)(ha:Yjz)(hn:x≠"__name__":=by decide)(hdb:YbC=false:=by decide)
(he:Ycz=Ybs::starEach es X.env:=by rfl)(hpl:(Ycb).any (·.1)=false:=by rfl):PE X YdP (tCB r t):=by
 ext Xaf;refine Yzk;exact PyProof.Rows.callWith_builtin1 Ygf he hpl
def fA(hc:mz X (.type T) r)(hg:YDa)(hm:YC8=none)(hv:Ypn=some (.type T))(ha:Yjz)(hn:x≠"__name__":=by decide)(hdb:YbC=false:=by decide)
(he:Ycz=Ybs::starEach es X.env:=by rfl)(hpl:(Ycb).any (·.1)=false:=by rfl):PE X YdP (tCB r t):=by
 ext Xaf;refine Yzk;exact Wbu Ygf he hpl
end
end L2
namespace HT
open PySem PyProof.Rows
section
open PySem.SeqAt
open PySem.AutoSeq1 (wpAny_loadPart')
open PySem.MeetsSeq PySem.MeetsSeq2 PySem.MeetsSeq3
end
section
variable {prog:Program} {w:World} {A:Around} {E:Value→Shared→Prop} {s:Shared}
def qf(n d:Nat):YcR->Nat
 |none=>d
 |some v=>if v<0 then(v+(n:Int)).toNat else min v.toNat n
def Wc(n d:Nat)(hd:d<=n)(o:YcR):qf n d o<=n:=by
 cases o with
 |none=>exact hd
 |some v=>
  show(if v<0 then(v+(n:Int)).toNat else min v.toNat n)<=n;by_cases hv:v<0
  ·rw[Wap hv];omega
  ·rw[Wae hv];exact Nat.min_le_right _ _
end
end HT
namespace L2
open PySem PySem.Spec PyProof.Rows
abbrev TO:=St->Hp->(YcR->Hp->Prop)->Prop
def PO(X:Cx)(e:Option Expr)(t:TO):Prop:=
 ∀(pins:List (Addr×Obj))(s:Shared)(σ:St)(H:Hp)(Q:Option Int->Hp->Prop),Yah->Yxl->
  wpAny Yar X.A (evalPart e X.env) (λu s'=>∃o H',Yeo/\IsPart u o/\Q o H') X.xe s
def Ya:TO:=λ_ H Q=>Q none H
def abg(t:TE):TO:=λσ H Q=>t σ H λx H1=>∃i,x=Yoh/\Q (some i) H1
section
variable {X:Cx} {e:Expr} {te:TE} {lo hi:Option Expr} {tl th:TO} {pos p2:Pos}
def Yz:PO X none Ya:=by ext Xaf;rw[evalPart_none];exact Waj ⟨none,H,I,.none,h⟩
def qi(h:Ymp):PO X (some e) (abg te):=by ext Xe1;rw[evalPart_some];refine dq YrK λu s1 ⟨x,H1,I1,r1,q1⟩=>?_;obtain⟨i,rfl,q⟩:=q1;obtain⟨t,rfl⟩:=r1;exact⟨some i,H1,I1,.int i t,q⟩
def SlR(X:Cx)(r:V->YcR->YcR->Hp->VK->Prop):Prop:=
 ∀(pins:List (Addr×Obj))(s:Shared)(σ:St)(H:Hp)(x:V)(v vl vu:Value)(lo hi:Option Int)(sl:Addr)(Q:VK),Yah->YnD->s.heap.IsSliceOf sl vl vu .none->IsPart vl lo->IsPart vu hi->r x lo hi H Q->
  ∃T id,Yvi=pure (some YfM)/\s.TypeIs v T/\wpAny Yar X.A (getItem v (.ref sl)) Yb5 X.xe s
def tSl(r:V->YcR->YcR->Hp->VK->Prop)(te:TE)(tl th:TO):TE:=λσ H Q=>te σ H λx H1=>tl σ H1 λl H2=>th σ H2 λu H3=>r x l u H3 Q
def yH{r:V->YcR->YcR->Hp->VK->Prop}(hr:SlR X r)(he:Ymp)(hl:PO X lo tl)(hu:PO X hi th):PE X (.Subscript e (.Slice lo hi none p2) pos) (tSl r te tl th):=by ext Xaf;refine Subscript_ (dq Yca λv s1 ⟨x,H1,I1,r1,q1⟩=>?_);refine wpAny_Slice (dq (hl pins s1 σ H1 _ I1 q1) λvl s2 ⟨l,H2,I2,pl,q2⟩=>dq (hu pins s2 σ H2 _ I2 q2) λvu s3 ⟨u,H3,I3,pu,q3⟩=>?_);rw[evalPart_none];refine Yph;have I4:Inv X pins σ H3 {s3 with heap:=s3.heap.push {cls:=.type "slice",data:=.fields #[vl,vu,.none]}}:=I3.kept (t':=s3.toks) λb ob q=>YvY;obtain⟨T,id,hT,ht,hg⟩:=hr pins {s3 with heap:=s3.heap.push {cls:=.type "slice",data:=.fields #[vl,vu,.none]}} σ H3 x v vl vu l u s3.heap.objs.size Q I4 r1 (Heap.IsSliceOf.new ..) pl pu q3;show wpAny Yar X.A (subscriptTail e (.Slice lo hi none p2) v (.ref s3.heap.objs.size)) Yb5 X.xe {s3 with heap:=s3.heap.push {cls:=.type "slice",data:=.fields #[vl,vu,.none]}};exact tail_any (ops:=[.ref s3.heap.objs.size,v]) ht hT hg YaO
def GR(xs:YcT)(lo hi:YcR):YcT:=(xs.drop (HT.qf xs.length 0 lo)).take Ync
def PK(xs:YcT)(lo hi:YcR):(GR xs lo hi).length<=Ybp:=by unfold GR;rw[WaO,WbY];omega
end
end L2
namespace L2
open PySem PySem.Spec PyProof.Rows
def ixN(n:Nat)(i:Int):Option Nat:=if 0<=i then(if i<n then some i.toNat else none)else if-(n:Int)<=i then some (i+n).toNat else none
def Vp(xs:Ydy)(i:Int):Option α:=(ixN xs.length i).bind λj=>xs[j]?
def YU(h:ixN n i=some j):seqIndex? i n=some j/\j<n/\ -(n:Int)<=i/\i<n:=by
 unfold ixN at h;by_cases h0:0<=i
 ·rw[Wap h0]at h;by_cases h1:i<n
  ·rw[Wap h1]at h;have e:i.toNat=j:=Wbi h;exact⟨by rw[seqIndex_of h0 h1,e],YaP,YaP,h1⟩
  ·rw[Wae h1]at h;cases h
 ·rw[Wae h0]at h;by_cases h1: -(n:Int)<=i
  ·rw[Wap h1]at h;have e:(i+n).toNat=j:=Wbi h;exact⟨by rw[seqIndex_neg Yad h1,e],YaP,h1,YaP⟩
  ·rw[Wae h1]at h;cases h
def NN{α:Type}{xs:Ydy}{i:Int}{v:α}(h:Vp xs i=YcV):∃j,seqIndex? i xs.length=some j/\xs[j]? =YcV/\j<Ybp/\ -(xs.length:Int)<=i/\i<Ybp:=by
 unfold Vp at h;cases e:ixN xs.length i with
 |none=>rw[e]at h;cases h
 |some j=>rw[e]at h;obtain⟨h1,h2,h3,h4⟩:=YU e;exact⟨j,h1,h,h2,h3,h4⟩
def Tq{α:Type}{xs:Ydy}{j:Nat}{v:α}(h:xs[j]? =YcV):Vp xs (j:Int)=YcV:=by
 have hj:j<Ybp:=(Wao.mp h).1;have e:ixN xs.length (j:Int)=some j:=by unfold ixN;rw[Wap Yad,Wap Yad];simp
 unfold Vp;rw[e];exact h
def Zg(b:Expr):Prop:=∀o i,subscripted b false o i=operate [o,i] (getItem o i)
def IxR(X:Cx)(r:R2):Prop:=
 ∀(value slice:Expr)(pins:List (Addr×Obj))(s:Shared)(σ:St)(H:Hp)(x y:V)(v u:Value)(Q:VK),Yah->YnD->YhE->r x y H Q->
  subscripted slice false v u=operate [v,u] (getItem v u)->wpAny Yar X.A (subscriptTail value slice v u) Yb5 X.xe s
def Zi(X:Cx)(id:String)(r:V->YcT->Hp->VK->Prop):Prop:=
 ∀(pins:List (Addr×Obj))(s:Shared)(σ:St)(H:Hp)(x:V)(xs:List V)(v:Value)(us:List Value)(Q:VK),Yah->YnD->Yh4->r x xs H Q->
  wpAny Yar X.A (call YfM (v::us)) Yb5 X.xe s
section
variable {X:Cx} {a b:Expr} {ta tb:TE} {pos:Pos}
def aU(hr:IxR X r)(ha:Ymq)(hb:Yp8)(hs:Zg b):PE X (.Subscript a b pos) YwA:=by ext Xaf;exact Subscript_ (aaR ha hb I h λv u s2 x y H2 I2 rx ry q=>hr a b pins s2 σ H2 x y v u Q I2 rx ry q (hs _ _))
def acK(K:Yaj):R2:=λx y H Q=>∃p xs i v,x=Yij/\y=Yoh/\aV K H p xs/\Vp xs i=YcV/\Q v H
def abu(K:Yaj):R2:=λx y H Q=>∃p xs i v,x=Yij/\y=Yoh/\eA K H p xs/\Vp xs i=YcV/\Q v H
def acJ:R2:=λx y H Q=>∃z i c,x=.str z/\y=Yoh/\YnC<=sizeLine/\Vp z.cps.toList i=Ycf/\Q (YsN) H
def a5:IxR X (acK X.K):=by
 ext XbT;ext XeG;ext XbL;by_cases h0:0<=i
 ·have hj:i.toNat=j:=by rw[seqIndex_of h0 h5]at h1;exact Wbi h1
  exact item_listR pl.isList h0 Yad YCv fin hs
 ·have hj:(i+(its.toArray.size:Int)).toNat=j:=by rw[seqIndex_neg Yad h4]at h1;rw[WaS,<-hl];exact Wbi h1
  exact subscriptTail_builtinR (x:=w) pl.isList.typeIs slot_list_getitem.lookup
   (wpAny_getItem_list_neg (Q:=λr s'=>r=w/\EP X pins σ Q r s') pl.isList Yad (by rw[WaS]<;>omega) Yad YCv ⟨rfl,fin⟩) hs
def bQ:IxR X (abu X.K):=by
 ext XbT;ext Xet;ext XbL;exact subscriptTail_builtinR (x:=w) pl.typeIs slot_tuple_getitem.lookup
  (getItem_tuple (j:=j) (Q:=λr s'=>r=w/\EP X pins σ Q r s') pl Yad Yad (by rw[WaS,<-hl];exact h1) (by simpa using ew) ⟨rfl,fin⟩) hs
def zh:IxR X acJ:=by
 ext XfL;obtain⟨z,i,c,rfl,rfl,hz,he,q⟩:=h;ext Xar;ext Xap;obtain⟨j,h1,h2,h3,h4,h5⟩:=NN he;have hl:z.cps.toList.length=YnC:=by simp[Str.length]
 rw[hl]at h1 h4 h5;have hn:=IX
 exact tail_any (WeG s z t) slot_str_getitem.lookup (getItem_str (c:=c) (by
  have e1:decide (i< -(2^63:Int))=false:=Wa3 Yad;have e2:decide (i>=2^63)=false:=Wa3 Yad
  rw[e1,e2,WcA]) (by rw[h1];simpa using h2) ⟨YsN,Zbt⟩) hs
def Mz(lo hi:YcR)(n:Nat):(Ypz).1=((HT.qf n 0 lo:Nat):Int)/\(Ypz).2.1=((HT.qf n n hi:Nat):Int)/\(Ypz).2.2=1:=by
 refine⟨ZbG,rfl⟩
 ·cases lo with
  |none=>simp[sliceBounds,HT.qf]
  |some i=>
   ext Xdy
   ·simp only[h,WbG]<;>omega
   ·simp only[h,Wca]<;>omega
 ·cases hi with
  |none=>simp[sliceBounds,HT.qf]
  |some i=>
   ext Xdy
   ·simp only[h,WbG]<;>omega
   ·simp only[h,Wca]<;>omega
def Kh(its:YbN)(lo hi:YcR):slicePick its.toArray lo hi none=((its.drop (HT.qf its.length 0 lo)).take (HT.qf its.length its.length hi-HT.qf its.length 0 lo)).toArray:=by obtain⟨h1,h2,h3⟩:=Mz lo hi its.toArray.size;unfold slicePick;rw[h1,h2,h3];simp only[sliceRange_one,pick_run,WaS]<;>rfl
def acG(K:Yaj):V->YcR->YcR->Hp->VK->Prop:=λx lo hi H Q=>∃a xs,x=Ybc/\YcS/\∀p,H p=none->Q (Yij) (upd H p (.lst (GR xs lo hi)))
def Ha:SlR X (acG X.K):=by ext Xft;obtain⟨a,xs,rfl,hx,q⟩:=h;cases rx;obtain⟨its,r,ht,hz⟩:=I.list hx;have hlen:=YcN;refine⟨"list",_,slot_list_getitem.lookup,ht.isList.typeIs,?_⟩;refine wpAny_getItem_list_slice ht.isList hs pl pu .none Yao ?_ (by rw[WaS]<;>omega);rw[Kh,<-hlen];refine⟨YaR,_,I.laid (t':=s.toks) (o:=.lst (GR xs lo hi)) (λb ob q=>YvY) YcZ ?_,rfl,q _ (YcL)⟩;exact⟨WaF (PK xs lo hi) hz,_,0,(r.drop (HT.qf xs.length 0 lo)).take Ync,YbA⟩
def A8:V->Bool
 |.fR=>true
 |.bl _=>true
 |.int _=>true
 |.str _=>true
 |_=>false
def Vz:V->V->Bool
 |.fR,.fR=>true
 |.bl a,.bl b=>a==b
 |.bl a,.int b=>(if a then 1 else 0)==b
 |.int a,.bl b=>a==(if b then 1 else 0)
 |.int a,.int b=>a==b
 |.str a,.str b=>a==b
 |_,_=>false
def aaC(ry:YhE)(rx:YnD)(fy:A8 y=true)(fx:A8 x=true):SeqAt.EqAt A s u v (Vz y x):=by
 cases y with
 |fR=>
  cases ry;cases x with
  |fR=>cases rx;exact SeqAt.EqAt.same _
  |bl b=>cases rx;exact SeqAt.EqAt.none_bool b
  |int b=>ext Xar;exact SeqAt.EqAt.none_int b t
  |str b=>ext Xar;exact SeqAt.EqAt.none_str b t
  |_=>exact YfI
 |bl a=>
  cases ry;cases x with
  |fR=>cases rx;exact SeqAt.EqAt.bool_none a
  |bl b=>cases rx;exact SeqAt.EqAt.bool_bool a b
  |int b=>ext Xar;exact SeqAt.EqAt.bool_int a b t
  |str b=>ext Xar;exact SeqAt.EqAt.bool_str a b t
  |_=>exact YfI
 |int a=>
  ext Xap;cases x with
  |fR=>cases rx;exact SeqAt.EqAt.int_none a t'
  |bl b=>cases rx;exact SeqAt.EqAt.int_bool a t' b
  |int b=>ext Xar;exact SeqAt.EqAt.int_int a t' b t
  |str b=>ext Xar;exact SeqAt.EqAt.int_str a t' b t
  |_=>exact YfI
 |str a=>
  ext Xap;cases x with
  |fR=>cases rx;exact SeqAt.EqAt.str_none a t'
  |bl b=>cases rx;exact SeqAt.EqAt.str_bool a t' b
  |int b=>ext Xar;exact SeqAt.EqAt.str_int a t' b t
  |str b=>ext Xar;exact SeqAt.EqAt.str_str a t' b t
  |_=>exact YfI
 |_=>exact absurd (show false=true from fy) WaN
def RO(x:V)(u:Value):Bool:=match u with
 |.none=>Vz .fR x
 |.bool b=>Vz (.bl b) x
 |.int i _=>Vz (Yoh) x
 |.str z _=>Vz (.str z) x
 |_=>false
def W9(r:YhE)(f:A8 y=true):RO x u=Vz y x:=by
 cases y with
 |fR=>cases r;rfl
 |bl b=>cases r;rfl
 |int i=>ext XaR;rfl
 |str z=>ext XaR;rfl
 |_=>exact absurd (show false=true from f) WaN
def Eh:∀{xs:List V}{us:List Value},Yh4->xs.all A8=true->us.any (RO x)=xs.any λy=>Vz y x
 |_,_,.nil,_=>rfl
 |y::xs,u::us,.cons r t,f=>by rw[WcR,WaJ]at f;rw[WbL,WbL,W9 r f.1,Eh t f.2]
def yZ(rx:YnD)(fx:A8 x=true):∀{xs:List V}{us:List Value},Yh4->xs.all A8=true->∀u∈us,SeqAt.EqAt A s u v (RO x u)
 |_,_,.nil,_=>λu hu=>by cases hu
 |y::xs,u::us,.cons r t,f=>λu' hu=>by
  rw[WcR,WaJ]at f;rcases Wav.mp hu with rfl|hu
  ·rw[W9 r f.1];exact aaC r rx f.1 fx
  ·exact yZ rx fx t f.2 u' hu
def tE(x:V)(xs:YcT):Bool:=xs.any λy=>Vz y x
def rIn(K:Yaj)(neg:Bool):R2:=λx y H Q=>∃p xs,y=Yij/\(aV K H p xs∨eA K H p xs)/\A8 x=true/\xs.all A8=true/\Q (.bl (if neg then !tE x xs else tE x xs)) H
def fB:zT X (compareOp .In) (rIn X.K false):=by
 ext XdN
 ·ext XeG;refine SeqAt.in_listAt (RO x) pl.isList YdH Ynm;ext XaP
 ·ext Xet;refine SeqAt.in_tupleAt (RO x) pl YdH Ynm;ext XaP
def lE:zT X (compareOp .NotIn) (rIn X.K true):=by
 ext XdN
 ·ext XeG;refine SeqAt.notIn_listAt (RO x) pl.isList YdH Ynm;ext XaP
 ·ext Xet;refine SeqAt.notIn_tupleAt (RO x) pl YdH Ynm;ext XaP
def a8:mz X YjH (λxs H Q=>∃p ys,xs=[Yij]/\YxF/\Q (.int ys.length) H):=by
 ext XdA;have hn:=IX;rcases hq with hq|hq
 ·ext Xf0;exact Calls.call_len_list pl.isList Yis Ylo
 ·ext XfT;exact len_tuple pl Yis Ylo
def fL:mz X YjH (λxs H Q=>∃z,xs=[.str z]/\YnC<=sizeLine/\Q (.int z.length) H):=by ext XaN;obtain⟨z,rfl,hz,q⟩:=h;ext Xe6;have hn:=IX;exact len_str Yad ⟨.int z.length,Zbt⟩
def NF:mz X (Ybr) (λxs H Q=>∃p ys,xs=[Yij]/\YxF/\∀l,H l=none->Q (Ykt) (upd H l Yqa)):=by
 ext XdA;have fin:∀(its:List Value),Vals ys its->YwY<=sizeLine->∀(h':Heap)(c':Nat),(∀b o',Ya4=some o'->Yb9=some o')->
   h'.get? s.heap.objs.size=some {cls:=Ybr,dict:=none,data:=.seq its.toArray c',slots:= #[]}->EP X pins σ Q YAm {s with heap:=h'}:=λits r' hz h' c' kp e=>
  ⟨YaR,_,I.laid (t':=s.toks) kp YcZ (show fM X.prog X.w _ h' _ Yqa from⟨hz,its,c',r',e⟩),rfl,q _ (YcL)⟩
 rcases hq with hq|hq
 ·ext Xf0;obtain⟨o,ho,hc,n,hd⟩:=pl.isList;exact call_list_seq p YwF ho hc hd YrY Yis
 ·ext XfT;obtain⟨o,ho,hc,n,hd⟩:=pl;exact call_list_seq p YnL ho hc hd YrY Yis
def tyV(K:Yaj)(T:String)(x:V)(H:Hp):Prop:=match x with
 |.str _=>T="str"
 |.int _=>T="int"
 |.ref p=>(T="list"/\∃xs,aV K H p xs)∨(T="tuple"/\∃o,K.lookup p=YaB/\o.cls=Yb2/\o.dict=none)∨
   (T="dict"/\((∃kvs,H p=Yiz)∨∃kvs,H p=some Yk7))∨(T="set"/\∃S n,H p=some (.set S n))
 |_=>False
def VP{pins:Ya0}{σ:St}{H:Hp}{s:Shared}{T:String}{x:V}{v:Value}(I:Yah)(r:YnD)(ty:tyV X.K T x H):
  s.TypeIs v T/\∀a,v=Ybc->∃ob,s.heap.get? a=Yy7/\ob.dict=none:=by
 cases x with
 |str z=>ext XaR;cases(show T="str" from ty);exact⟨WeG s z t,λ_ e=>nomatch e⟩
 |int i=>ext XaR;cases(show T="int" from ty);exact⟨typeIs_int s i t,λ_ e=>nomatch e⟩
 |ref p=>
  cases r;rcases ty with⟨rfl,xs,hq⟩|⟨rfl,o,hk,hc,hd⟩|⟨rfl,hk⟩|⟨rfl,S,n,hk⟩
  ·obtain⟨its,_,pl,_⟩:=YB2;refine⟨pl.isList.typeIs,λa e=>?_⟩;cases e;obtain⟨o,n,e,c,hd,_⟩:=pl;exact⟨o,e,hd⟩
  ·refine⟨⟨o,I.NW p o hk,hc⟩,λa e=>?_⟩;cases e;exact⟨o,I.NW _ o hk,hd⟩
  ·have z:∃o,s.heap.get? p=YaB/\Yu9:=by
    rcases hk with⟨kvs,hk⟩|⟨kvs,hk⟩
    ·ext Xev
    ·ext Xev
   obtain⟨o,e,ex⟩:=z;ext Xd3
  ·obtain⟨o,_,_,_,e,ex,_⟩:=I.cg p _ hk;ext Xd3
 |_=>exact False.elim ty
def acy(K:Yaj)(T:String)(r:V->YcT->Hp->VK->Prop)(to:TE):TE:=λσ H Q=>to σ H λx H1=>tyV K T x H1/\r x [] H1 Q
def tBM(K:Yaj)(T:String)(r:V->YcT->Hp->VK->Prop)(to:TE)(t:TA):TE:=λσ H Q=>to σ H λx H1=>tyV K T x H1/\t σ H1 λxs H2=>r x xs H2 Q
variable {o e:Expr} {es:List Expr} {to:TE} {t:TA} {name:Str} {apos cpos:Pos} {T id:String} {r:V→List V→Hp→VK→Prop}
def oM(pa:PlainAttrs T)(slot:Slot T name id)(hty:typeOf YfM=YgG)(hm:Zi X id r)(ho:YB0)
(hbase:Yeg=YiL:=by rfl)(hline:Yjb=true:=by rfl):PE X (.Call YjY [] [] cpos) (acy X.K T r to):=by
 ext Xaf;refine wpAny_Call_method0_late hbase hline YqP;obtain⟨h1,h2⟩:=VP I1 r1 ty;exact⟨T,id,pa,slot,hty,Zb7,Wcy rfl (WdX (hm pins s1 σ H1 x [] v [] Q I1 r1 .nil q1))⟩
def fI(pa:PlainAttrs T)(slot:Slot T name id)(hty:typeOf YfM=YgG)(hm:Zi X id r)(ho:YB0)(ha:Yjz)
(hbase:Yeg=YiL:=by rfl)
(hfew:((backTo cpos (Ycz)).all (λx=> !x.1)&&(backToKw cpos Ylm).all (λx=>x.1.isSome)
   &&decide ((e::es).length+([]:List Keyword).length+Yqg<30))=true:=by rfl)
(hline:Yjb=true:=by rfl)(hs:Ycz=Ybs::starEach es X.env:=by rfl)(hplain:(backTo cpos YuU).any (·.1)=false:=by rfl):
  PE X (.Call YjY Yv1 [] cpos) (tBM X.K T r to t):=by
 ext Xaf;refine wpAny_Call_method_late hbase hfew hline rfl YqP;obtain⟨h1,h2⟩:=VP I1 r1 ty;refine⟨T,id,pa,slot,hty,Zb7,?_⟩;have hA:=ha cpos pins s1 σ H1 _ I1 q1;rw[hs]at hA ⊢;refine Wcy (by show(false||(backTo cpos YuU).any (·.1))=false;rw[hplain]<;>rfl) (Web ?_);exact dq hA λus s2 ⟨vs,H2,I2,r2,q2⟩=>hm pins s2 σ H2 x vs v us Q I2 r1 r2 q2
end
end L2
namespace L2
open PySem PySem.Spec PyProof.Rows
def MtM(X:Cx)(id:String)(r:V->YcT->Hp->VK->Prop):Prop:=
 ∀(pins:List (Addr×Obj))(s:Shared)(σ:St)(H:Hp)(x:V)(xs:List V)(v:Value)(us:List Value)(Q:VK),Yah->YnD->Yh4->r x xs H Q->
  wpAny Yar X.A (call YfM (v::us)) Yb5 X.xe s
def Vals.one:∀{x:V}{us:List Value},Vals [x] us->∃u,us=[u]/\RelV x u
 |_,_,.cons r .nil=>⟨Zaa,r⟩
def Vals.zero:∀{us:List Value},Vals [] us->us=[]
 |_,.nil=>rfl
def Vals.dropLast(h:Yh4):Vals xs.dropLast us.dropLast:=by
 induction h with
 |nil=>exact .nil
 |cons r t ih=>
  cases t with
  |nil=>exact .nil
  |cons q t'=>exact .cons r ih
def RN(l:Ydy):l.eraseIdx (Yc9-1)=l.dropLast:=by
 induction l with
 |nil=>rfl
 |cons a r ih=>
  cases r with
  |nil=>rfl
  |cons b r=>
   have e:(a::b::r).length-1=((b::r).length-1)+1:=by have h1:(a::b::r).length=YcN+2:=rfl;have h2:(b::r).length=YcN+1:=rfl;omega
   rw[e,WeT,ih];all_goals rfl
section
variable {X:Cx} {pins:List (Addr×Obj)} {σ:St} {H:Hp} {s:Shared} {l b:Addr} {xs ys zs:List V}
def Inv.aaq{its its':YbN}{n:Nat}{f:Yj5->Yj5}{t':Nat}(I:Yah)(hH:H l=YdB)
(e:s.heap.get? l=some {cls:=Ybr,data:=YkJ})(hf:f its.toArray=its'.toArray)(hv:Vals ys its')(hz:YwY<=sizeLine):
  Inv X pins σ (upd H l Yqa) {s with heap:=s.heap.update l (Obj.mapSeq f),toks:=t'}:=by
 have q:=PySem.IsL.update e f;rw[hf]at q;refine I.write (x:=l) (e:=l) (by rw[hH];exact Wbp) YwF (λb' u hb hu=>(Wd1 s.heap (Obj.mapSeq f) (WaC hb)).trans hu) ⟨_,q⟩ ?_;exact⟨hz,its',_,hv,q⟩
def Inv.acS(I:Yah)(hv:Vals ys its)(hz:YwY<=sizeLine):
  Inv X pins σ (upd H s.heap.objs.size Yqa) {s with heap:=s.heap.push {cls:=Ybr,data:=.seq its.toArray},toks:=t'}:=
 I.laid (λ_ _ q=>YvY) YcZ ⟨hz,its,0,hv,YbA⟩
def Inv.fresh(I:Yah):H s.heap.objs.size=none:=YcL
def Inv.UO(I:Yah)(hH:H l=YdB):Ybp<=sizeLine/\∃(its:List Value)(n:Nat),Yoc/\Ybp=its.length/\s.heap.get? l=some {cls:=Ybr,data:=YkJ}:=by obtain⟨z,its,n,r,e⟩:=I.cg l _ hH;exact⟨z,its,n,r,YcN,e⟩
def Wu(h:n<=sizeLine):Builtin.List.listTooLong n=false:=by unfold Builtin.List.listTooLong;exact Wa3 Yad
end
section
variable {X:Cx}
def Yx:V->YcT->Hp->VK->Prop:=λx vs H Q=>∃l xs y,x=Ykt/\vs=[y]/\H l=YdB/\Ybp<sizeLine/\Q .fR (upd H l (.lst (xs++[y])))
def bF:MtM X "list.append" Yx:=by ext XdQ;obtain⟨l,xs,y,rfl,rfl,hH,hz,q⟩:=h;cases rx;obtain⟨u,rfl,ru⟩:=rv.one;ext XcI;refine call_meets F.slot_list_append ⟨_,e,rfl⟩ F.entry_list_append (F.args_list_append_2 _ _) (PySem.list_append l its.toArray n u Ywk) ⟨e,?_⟩;refine⟨.fR,_,I.aaq (its':=its++[u]) hH e Yao (r.append (.cons ru .nil)) ?_,rfl,q⟩;rw[Wad,Wa5];omega
def Yw:V->YcT->Hp->VK->Prop:=λx vs H Q=>∃l b xs zs,x=Ykt/\vs=[Yx6]/\H l=YdB/\H b=some (.lst zs)/\Ybp+zs.length<=sizeLine/\Q .fR (upd H l (.lst (xs++zs)))
def vy:MtM X "list.extend" Yw:=by
 ext XdQ;ext XfK;obtain⟨u,rfl,ru⟩:=rv.one;cases ru;ext Xf9;have hsz:Yq6+its2.toArray.size<=sizeLine:=by rw[WaS,WaS];omega
 have hlong:¬(!its.toArray.isEmpty&&Builtin.List.listTooLong (Yq6+its2.toArray.size))=true:=by rw[Wu hsz,Wdp];exact WaN
 refine call_meets F.slot_list_extend ⟨_,e,rfl⟩ F.entry_list_extend (F.args_list_extend_2 _ _)
  (AutoSeq1.list_extend_list_list_0 l its.toArray n b its2.toArray n2 hlong Ywk Yad) ⟨e,e2,?_⟩
 refine⟨.fR,_,I.aaq (its':=its++its2) hH e Yao (r.append r2) ?_,rfl,q⟩;rw[Wad];omega
def acI:V->YcT->Hp->VK->Prop:=λx vs H Q=>∃l xs y,x=Ykt/\vs=[]/\H l=YdB/\xs[xs.length-1]? =Ysw/\Q y (upd H l (.lst xs.dropLast))
def rG:MtM X "list.pop" acI:=by
 ext XdQ;obtain⟨l,xs,y,rfl,rfl,hH,hy,q⟩:=h;cases rx;have hus:=rv.zero;subst hus;ext XcI;obtain⟨u,hu,ru⟩:=r.get hy;have hy':its.toArray[its.toArray.size-1]? =YaY:=by show its.toArray[its.length-1]? =YaY;rw[<-Wcv,<-hl];exact hu
 refine call_meets F.slot_list_pop ⟨_,e,rfl⟩ F.entry_list_pop (F.args_list_pop_1 _) (MeetsSeq.list_pop_last l its.toArray n u hy' Ywk) ⟨e,?_⟩;refine⟨y,_,I.aaq (its':=its.dropLast) hH e ?_ r.dropLast ?_,ru,q⟩
 ·show its.toArray.eraseIdxIfInBounds (Yq6-1)=its.dropLast.toArray;rw[WaS,List.eraseIdxIfInBounds_toArray,RN]
 ·rw[List.length_dropLast];omega
def acN:R2:=λx y H Q=>∃l b xs zs,x=Ykt/\y=Yx6/\H l=YdB/\H b=some (.lst zs)/\Ybp+zs.length<=sizeLine/\∀p,H p=none->Q (Yij) (upd H p (.lst (xs++zs)))
def ic:zT X YBi acN:=by ext Xaz;ext XfK;cases ry;ext Xf9;refine PySem.P.add_list e e2 ?_ (by rw[WaS,WaS];omega);have ea:YBs++its2.toArray=(its++its2).toArray:=Yao;rw[ea];exact⟨.ref _,_,I.acS (t':=s.toks) (r.append r2) (by rw[Wad];omega),rfl,q _ I.fresh⟩
end
section
variable {prog:Program} {w:World} {A:Around} {E:Value→Shared→Prop} {s:Shared}
end
section
variable {X:Cx}
end
end L2
namespace L2
open PySem PySem.Spec PyProof.Rows
def Vals.ints:∀{ns:List Int}{us:List Value},Vals YlV us->IntsAre us ns
 |[],us,h=>by rw[Wb1]at h;cases h;exact IntsAre.nil
 |n::ns,us,h=>by
  rw[Waw]at h;cases h with
  |cons r t=>obtain⟨k,rfl⟩:=r;exact IntsAre.cons n k (Vals.ints t)
def qd:∀{us:List Value}{ns:List Int},IntsAre us ns->Vals YlV us
 |_,_,.nil=>by rw[Wb1];exact Paired.nil
 |_,_,.cons n t h=>by rw[Waw];exact Paired.cons (show RelV (V.int n) (Value.int n t)from Ygb) (qd h)
def Vals.bls:∀{bs:List Bool}{us:List Value},Vals (bs.map V.bl) us->us=bs.map Value.bool
 |[],us,h=>by rw[Wb1]at h;cases h;rfl
 |b::bs,us,h=>by
  rw[Waw]at h;cases h with
  |cons r t=>cases r;rw[Vals.bls t,Waw]
def Vals.GB(r:Vals Yk6 us):us=[Yob]:=by
 cases r with
 |cons r t=>cases t;cases r;rfl
section
variable {prog:Program} {w:World} {A:Around} {E:Value→Shared→Prop} {s:Shared} {l:Addr} {its:List Value} {ns:List Int} {Q:Value→Shared→Prop}
def Yc(hh:YhX=none)(hl:s.heap.IsList l its.toArray)(hi:IntsAre its ns)
(h:∀h' tk t',(∀b o,Ya4=YaB->Yb9=YaB)->Q (.int ns.sum t') {s with heap:=h',toks:=tk}):wpAny YaA A (call YzT [Ykt]) Q E s:=by
 obtain⟨xs,e⟩:=hi.allInts.items;have hn:numsOf (intItems xs).toList=ns:=by rw[<-e];exact hi.numsOf
 rw[nums_intItems]at hn;rw[e]at hl;refine PySem.sum_intListG hh hl λh' tk t' hk=>?_;have:=h h' tk t' hk;rw[preSum_eq,WdD Yao,hn];exact this
end
section
variable {X:Cx}
def acE(K:Yaj):YcT->Hp->VK->Prop:=λvs H Q=>∃(a:Addr)(ns:List Int),vs=Yk6/\aV K H a YlV/\Q (.int ns.sum) H
def Xg(hc:X.calm=true):mz X YzT (acE X.K):=by ext XaW;obtain⟨a,ns,rfl,hs,q⟩:=h;ext Xgg;exact Yc Yb4 hl.isList rv.ints λh' tk t' hk=>⟨.int _,H,I.kept hk,YeS,q⟩
end
section
variable {X:Cx}
end
section
variable {X:Cx}
end
def Ph(hl:s.heap.IsList l items)
(h:∀s₂:Shared,s₂={s with heap:=s.heap.push {cls:=.type "list_iterator",data:=.fields #[Ykt,.int 0 0]}}->
   (s₂.heap.IsListIter s.heap.objs.size l 0/\s₂.heap.IsList l items)->l≠Yam->Q YAm s₂):wpAny YaA A (pyIter (Ykt)) Q E s:=by
 have hlt:l<Yam:=by obtain⟨_,e,_⟩:=hl;ext XeS
 exact WcK hl (h _ rfl ⟨Yjm,hl.push _⟩ (WaY hlt))
def FI{prog:Program}{w:World}{A:Around}{bs:List Bool}{its:YbN}(e:its=bs.map Value.bool):
  TruthOf prog w A (λi v=>its.toArray[i]? =YcV) (λi=>YnO):=λi v s Q E hv hq=>by
 have hv':its[i]? =YcV:=by simpa using hv
 rw[e,Wbd]at hv';obtain⟨b,hb,rfl⟩:=WcU.mp hv';have hg:YnO=b:=by rw[List.getD_eq_getElem?_getD,hb]<;>rfl
 have hq':Q (YnO) s:=hq;rw[hg]at hq';exact Wb7 hq'
def any_range:∀bs:List Bool,(List.range bs.length).any (λi=>YnO)=bs.any id
 |[]=>rfl
 |b::bs=>by rw[Was,WdE,WbL,List.any_map,WbL,<-any_range bs];all_goals rfl
def all_range:∀bs:List Bool,(List.range bs.length).all (λi=>YnO)=bs.all id
 |[]=>rfl
 |b::bs=>by rw[Was,WdE,WcR,Wef,WcR,<-all_range bs];all_goals rfl
section
variable {X:Cx}
def acO(K:Yaj):YcT->Hp->VK->Prop:=λvs H Q=>∃(a:Addr)(bs:List Bool),vs=Yk6/\aV K H a (bs.map V.bl)/\Q (.bl (bs.any id)) H
def acP(K:Yaj):YcT->Hp->VK->Prop:=λvs H Q=>∃(a:Addr)(bs:List Bool),vs=Yk6/\aV K H a (bs.map V.bl)/\Q (.bl (bs.all id)) H
def aaI(hc:X.calm=true):mz X (.builtin "any") (acO X.K):=by
 ext Xcq;refine call_any_walk Yuy;ext XcY
 ·rcases Wav.mp hmem with e1|hmem
  ·exact YDZ
  ·cases hmem
 ·show YyT=YyT;rw[<-any_range,hb,WaS,Waa]
def aaJ(hc:X.calm=true):mz X (.builtin "all") (acP X.K):=by
 ext Xcq;refine call_all_walk Yuy;ext XcY
 ·rcases Wav.mp hmem with e1|hmem
  ·exact YDZ
  ·cases hmem
 ·show YyT=YyT;rw[<-all_range,hb,WaS,Waa]
end
mutual
inductive Dp (K:Yaj) (H:Hp):V->PyData->Prop
 |fR:Dp K H .fR .none
 |bl (b:Bool):Dp K H (.bl b) (.bool b)
 |int (i:Int):Dp K H (.int i) (.int i)
 |str (x:Str):Dp K H (.str x) (.str x)
 |lst {a:Addr} {xs:List V} {ds:List PyData}:aV K H a xs->J3 K H xs ds->Dp K H (.ref a) (.list ds)
 |tup {a:Addr} {xs:List V} {ds:List PyData}:eA K H a xs->J3 K H xs ds->Dp K H (.ref a) (.tuple ds)
inductive J3 (K:Yaj) (H:Hp):YcT->List PyData->Prop
 |nil:J3 K H [] []
 |cons {v:V} {vs:List V} {d:PyData} {ds:List PyData}:Dp K H v d->J3 K H vs ds->J3 K H (v::vs) (d::ds)
end
section
variable {X:Cx} {pins:List (Addr×Obj)} {σ:St} {H:Hp} {s:Shared}
mutual
def Dp.reads(I:Yah):∀(d:PyData)(v:V)(u:Value),Dp X.K H v d->YhF->∃as,Reads s.heap u d as
 |.none,_,_,h,r=>by cases h;cases r;exact⟨_,Reads.none⟩
 |.bool b,_,_,h,r=>by cases h;cases r;exact⟨_,Reads.bool b⟩
 |.int i,_,_,h,r=>by cases h;ext XaR;exact⟨_,Reads.int i t⟩
 |.str x,_,_,h,r=>by cases h;ext XaR;exact⟨_,Reads.str x t⟩
 |.list ds,_,_,h,r=>by
   cases h with
   |lst hs ha=>cases r;obtain⟨its,rv,⟨o,n,ho,hc,_,hd⟩,_⟩:=I.list hs;ext Xgr;exact⟨_,Reads.list ho hc hd hr⟩
 |.tuple ds,_,_,h,r=>by
   cases h with
   |tup hs ha=>cases r;obtain⟨its,rv,⟨o,ho,hc,n,hd⟩,_⟩:=I.tuple hs;ext Xgr;exact⟨_,Reads.tuple ho hc hd hr⟩
 |.dict _,_,_,h,_=>by cases h
def Dp.readsAll(I:Yah):∀(ds:List PyData)(vs:List V)(us:List Value),J3 X.K H vs ds->YnH->∃as,ReadsAll s.heap us ds as
 |[],_,_,h,r=>by cases h;cases r;exact⟨_,ReadsAll.nil⟩
 |d::ds,_,_,h,r=>by
  cases h with
  |cons h1 h2=>
   cases r with
   |cons r1 r2=>obtain⟨as,q1⟩:=Dp.reads I d _ _ h1 r1;obtain⟨bs,q2⟩:=Dp.readsAll I ds _ _ h2 r2;exact⟨_,ReadsAll.cons q1 q2⟩
end
end
section
variable {X:Cx}
def acM(K:Yaj):R2:=λx y H Q=>∃d e,Dp K H x d/\Dp K H y e/\YDr=true/\YDq=true/\Q (.bl (YDt)) H
def Iw(hu:Ytg+64<cLine):zT X (compareOp .Eq) (acM X.K):=by ext Xaz;obtain⟨d,e,hd,he,sd,se,q⟩:=h;obtain⟨as,r1⟩:=Dp.reads I d x v hd rx;obtain⟨bs,r2⟩:=Dp.reads I e y u he ry;exact SeqAt.compareEq_shaped r1 r2 sd se hu ⟨.bl _,H,I,rfl,q⟩
end
end L2
namespace L2
open PySem PySem.Spec PyProof.Rows
abbrev XE(h:Heap)(c:Addr)(v:Yci):Prop:=h.IsCell c v
def acD(scope sc:Scope):Scope:={scope with names:=scope.names.map λ(n,k)=>if(k== .free&&sc.kind== .function&&YpN==Yeb)then(n,.cell)else(n,k)}
def cU(cells:Ymx):List (Str×NameKind)->Ymx->List (Str×Addr)
 |[],acc=>acc
 |(n,k)::r,acc=>if k== .free then cU cells r ((n,(YDj).getD 0)::acc)else cU cells r acc
def DQ(env:Env)(f:Str×NameKind->Ymx->Sem (ForInStep (Ymx)))
(hf:∀n k c,f (n,k) c=if k== .free then(do let a<-cellOf env n;pure (.yield ((n,a)::c)))else pure (.yield c)):
  ∀(names:List (Str×NameKind))(acc:List (Str×Addr)),(∀y∈names,y.2=.free->∃c,env.cells.lookup y.1=Ycf)->forIn names acc f=pure (cU env.cells names acc)
 |[],acc,_=>by rw[WdV];rfl
 |(n,k)::r,acc,h=>by
  rw[Wev,hf];have ih:=λacc=>DQ env f hf r acc λy hy=>h y Yp5;unfold cU;by_cases hk:(k==YqD)=true
  ·rw[Wap hk,Wap hk];obtain⟨c,hc⟩:=h (n,k) Wai Ynx;have e:cellOf env n=pure c:=(by unfold cellOf;rw[hc]);rw[e];have e2:(env.cells.lookup n).getD 0=c:=(by rw[hc];rfl);rw[e2];exact ih _
  ·rw[Wae hk,Wae hk];exact ih _
def RS{scope:Scope}{env:Env}(h:∀y∈Yj2,y.2=.free->∃c,env.cells.lookup y.1=Ycf):closureFor scope env=pure (cU env.cells scope.names []):=by simp only[closureFor];rw[DQ env _ (λn k c=>rfl) scope.names [] h];rfl
def mem_lookup:∀{l:List (Str×α)}{n:Str}{c:α},(n,c)∈l->∃c',l.lookup n=some c'
 |(k,v)::r,n,c,h=>by
  rw[Wco];cases hb:n==k with
  |true=>exact YeS
  |false=>
   ext XeW
   ·cases e;simp at hb
   ·exact mem_lookup h
def tJ:∀{names:List (Str×NameKind)}{acc:List (Str×Addr)}{n:Str}{c:Addr},(n,c)∈cU cells names acc->(n,c)∈acc∨((n,.free)∈names/\c=(YDj).getD 0)
 |[],_,_,_,h=>YiC
 |(m,k)::r,acc,n,c,h=>by
  unfold cU at h;split at h
  ·rename_i hk;have hk:k=.free:=Ynx;rcases tJ h with h|⟨h1,h2⟩
   ·ext XeW
    ·cases e;exact .inr ⟨hk▸Wai,rfl⟩
    ·exact YiC
   ·exact .inr ⟨Waq _ h1,h2⟩
  ·rcases tJ h with h|⟨h1,h2⟩
   ·exact YiC
   ·exact .inr ⟨Waq _ h1,h2⟩
def zM:∀{names:List (Str×NameKind)}{acc:List (Str×Addr)}{p:Str×Addr},p∈acc->p∈cU cells names acc
 |[],_,_,h=>h
 |(m,k)::r,acc,p,h=>by
  unfold cU;split
  ·exact zM (Waq _ h)
  ·exact zM h
def zL:∀{names:List (Str×NameKind)}{acc:List (Str×Addr)}{n:Str},(n,.free)∈names->(n,(YDj).getD 0)∈cU cells names acc
 |(m,k)::r,acc,n,h=>by
  unfold cU;ext XeW
  ·cases e;exact zM Wai
  ·split
   ·exact zL h
   ·exact zL h
def vJ:∀{names:List (Str×NameKind)}{h:Heap}{acc:List (Str×Addr)}{x:Str}{c:Addr},(x,c)∈Ylv->
  (x,c)∈acc∨((x,.cell)∈names/\Yj4<=c/\XE (pushCells h names) c none)
 |[],_,_,_,_,h=>YiC
 |(n,k)::r,h,acc,x,c,hm=>by
  unfold cellsFrom at hm;unfold pushCells;split at hm
  ·rename_i hk;rw[Wap hk];have hk:k=.cell:=Ynx;rw[<-WaW h {cls:=.type "cell",data:=.cell none}]at hm;rcases vJ hm with hm|⟨h1,h2,h3⟩
   ·rcases Wav.mp hm with e|hm
    ·cases e;exact .inr ⟨hk▸Wai,Wau _,_,Wd3 r _ _ _ (YbA),rfl⟩
    ·exact .inl hm
   ·rw[WaW]at h2;exact .inr ⟨Waq _ h1,Wdt h2,h3⟩
  ·rename_i hk;rw[Wae hk];rcases vJ hm with hm|⟨h1,h2,h3⟩
   ·exact .inl hm
   ·exact .inr ⟨Waq _ h1,h2,h3⟩
def Av:∀{names:List (Str×NameKind)}{n:Nat}{acc:List (Str×Addr)}{p:Str×Addr},p∈acc->p∈cellsFrom n names acc
 |[],_,_,_,h=>h
 |(m,k)::r,n,acc,p,h=>by
  unfold cellsFrom;split
  ·exact Av (Waq _ h)
  ·exact Av h
def Fq:∀{names:List (Str×NameKind)}{n:Nat}{acc:List (Str×Addr)}{x:Str},(x,.cell)∈names->∃c,(x,c)∈cellsFrom n names acc
 |(m,k)::r,n,acc,x,h=>by
  unfold cellsFrom;ext XeW
  ·cases e;exact⟨n,Av Wai⟩
  ·split
   ·exact Fq h
   ·exact Fq h
def Fp:∀{names:List (Str×NameKind)}{h:Heap}{acc:List (Str×Addr)}{x y:Str}{c:Addr},(∀p∈acc,p.2<Yj4)->(∀x y c,(x,c)∈acc->(y,c)∈acc->x=y)->
  (x,c)∈Ylv->(y,c)∈Ylv->x=y
 |[],_,_,_,_,_,_,hi,h1,h2=>hi _ _ _ h1 h2
 |(n,k)::r,h,acc,x,y,c,hl,hi,h1,h2=>by
  unfold cellsFrom at h1 h2;split at h1
  ·rename_i hk;rw[Wap hk]at h2;rw[<-WaW h {cls:=.type "cell",data:=.cell none}]at h1 h2;refine Fp (h:=h.push _) (λp hp=>?_) (λx y c a b=>?_) h1 h2
   ·rw[WaW];rcases Wav.mp hp with rfl|hp
    ·exact WbO _
    ·exact Wbk (hl p hp)
   ·rcases Wav.mp a with e|a<;>rcases Wav.mp b with e'|b
    ·cases e;cases e';rfl
    ·cases e;exact absurd (hl _ b) YrV
    ·cases e';exact absurd (hl _ a) YrV
    ·exact hi _ _ _ a b
  ·rename_i hk;rw[Wae hk]at h2;exact Fp hl hi h1 h2
def O0{M:Model}{A:Around}{E:Value->Shared->Prop}{s:Shared}{scope:Scope}{globals:Addr}{closure:Ymx}{qual:Str}{func:YBD}{code:Value}{around:Env}{builtins:Addr}{Q:Env->Shared->Prop}
(h:Q (newEnv scope s.heap.objs.size globals (cellsFrom Yht scope.names closure) qual func code (some around) builtins)
   {s with heap:=YbU}):
  wpAny M A (newFunctionEnv scope globals closure [] qual func code (some around) builtins) Q E s:=by
 simp only[newFunctionEnv,Option.isSome_some,WbG];refine Wab (wpAny_alloc ?_);refine Wab (wpAny_layCells _ (λn k c=>rfl) scope.names closure _ _ ?_);rw[show({s with heap:=s.heap.push {cls:=Ymb,data:=.dict #[]}}:Shared).heap.objs.size=Yam+1 from WaW ..];rw[WdV];exact Wab (Waj (Waj h))
def zb{sc:Scope}:∀{names:List (Str×NameKind)}{x:Str}{k:NameKind},
  (names.map λ(n,k)=>if(k==YqD&&sc.kind== .function&&YpN==Yeb)then(n,NameKind.cell)else(n,k)).lookup x=some k->
  ∃k',names.lookup x=some k'/\(k=k'∨(k'=.free/\k=.cell))
 |[],_,_,h=>by simp at h
 |(n,k₀)::r,x,k,h=>by
  have ih:= @zb sc r x k;have h':List.lookup x ((if(k₀==YqD&&sc.kind== .function&&YpN==Yeb)=true then(n,NameKind.cell)else(n,k₀))::(r.map _))=some k:=h;cases hx:x==n with
  |true=>
   ext Xcp
   ·rw[Wap hc]at h';ext XfF;cases h';simp only[WaJ,WbV]at hc;exact⟨k₀,rfl,.inr ⟨hc.1.1,rfl⟩⟩
   ·rw[Wae hc]at h';ext XfF;cases h';exact⟨Zaa,YbW⟩
  |false=>
   ext Xcp
   ·rw[Wap hc]at h';ext XfF;exact ih h'
   ·rw[Wae hc]at h';ext XfF;exact ih h'
structure Qv (N:YeB) (sc scope:Scope) (own:YnR):Prop where
 kind:scope.kind=.function
 uniq:∀y∈Yj2,Ylf=some y.2
 ix:∀p∈own,N[p.2]? =Yxn
 free:∀y∈Yj2,y.2=.free->sc.names.lookup y.1=Yeb∨sc.names.lookup y.1=Yh1
 own:∀y∈Yj2,y.2=.local∨y.2=.cell->y.1∈own.map (·.1)∨y.1∉N
def wipe(σ:St):Yaw->St
 |[]=>σ
 |v::vs=>(Yea).set v none
def x6(σ:St):∀vs:Yaw,(Yea).length=σ.length
 |[]=>rfl
 |v::vs=>by unfold wipe;rw[List.length_set,x6 σ vs]
def En{σ:St}{i:Nat}{x:V}:∀{vs:List Nat},(Yea)[i]? =some (YeH)->σ[i]? =some (YeH)/\i∉vs
 |[],h=>⟨h,Ydx⟩
 |v::vs,h=>by
  unfold wipe at h;by_cases hi:v=i
  ·subst hi;by_cases hv:v<(Yea).length
   ·rw[WdF hv]at h;cases h
   ·rw[WdL (by simpa using hv)]at h;cases h
  ·rw[WdR hi]at h;obtain⟨h1,h2⟩:=En h;exact⟨h1,by simp only[Wav,not_or];exact⟨λe=>hi e.symm,h2⟩⟩
abbrev Cx.NL(X:Cx)(s:Shared)(H:Hp)(scope:Scope)(cenv:Env)(fp:Ybw):Cx:={X with Lv:=s,H_0:=H,env:=cenv,outer:=X.stack,ex:=fp,fn:=λx=>scope.names.lookup x==Yeb,pn:=[],xe:=λ_ _=>False}
section
variable {X:Cx} {pins:List (Addr×Obj)} {σ:St} {H:Hp} {s:Shared}
def P9{scope:Scope}{own:YnR}{fp:Ybw}(I:Yah)(ok:YhV)(hN:Yop)(hfp:∀b∈fp,Ym4/\b<Yam):
  Inv (X.NL s H scope (compEnvC scope (Yxw) s.heap.objs.size X.env) fp) [] (wipe σ (YhH)) H {s with heap:=YbU}:=by
 have hfree:∀y∈Yj2,y.2=.free->∃c,X.env.cells.lookup y.1=Ycf:=λy hy e=>by
  rcases ok.free y hy e with k|k
  ·exact I.ok.has _ (.inl k)
  ·exact I.ok.has _ (.inr k)
 generalize hcenv:compEnvC scope (cellsFrom (s.heap.objs.size+1) scope.names (cU X.env.cells scope.names [])) s.heap.objs.size X.env=cenv;have kp:∀b o,Ya4=YaB->(YbU).get? b=YaB:=λb o e=>Wd3 _ _ _ _ (Yhe);have hL:cenv.locals=Yam:=by rw[<-hcenv];rfl
 have hcl:cenv.cells=Yxw:=by rw[<-hcenv];rfl
 have hsc:cenv.scope=acD scope X.env.scope:=by rw[<-hcenv];rfl
 rw[<-WaW s.heap {cls:=Ymb,data:=.dict #[]}]at hcl;have cm:∀{y c},(y,c)∈Yfv->YmL=Ycf/\c<Yam:=λ{y c} hm=>by
  rcases tJ hm with hm|⟨h1,rfl⟩
  ·cases hm
  ·obtain⟨c,hc⟩:=hfree _ h1 rfl;rw[hc];obtain⟨w,z⟩:=I.cell _ _ hc;exact⟨rfl,z.lt⟩
 have mem:∀{y c},YdD=Ycf->(YmL=Ycf/\c<Yam)∨(Yam+1<=c/\XE (YbU) c none):=λ{y c} e=>by
  rw[hcl]at e;rcases vJ (Wba e)with hm|⟨_,h2,h3⟩
  ·exact .inl (cm hm)
  ·rw[WaW]at h2;exact .inr ⟨h2,h3⟩
 have look:∀{y},Yd0=Yh1->∃c,YdD=Ycf/\YmL=Ycf:=λ{y} hl=>by
  have hy:(y,YqD)∈Yj2:=Wba hl;obtain⟨c',e'⟩:=mem_lookup (Av (names:=Yj2) (n:=(s.heap.push {cls:=Ymb,data:=.dict #[]}).objs.size) (zL (cells:=X.env.cells) (acc:=[]) hy));rw[<-hcl]at e';refine⟨c',e',?_⟩;rw[hcl]at e';rcases vJ (Wba e')with hm|⟨h1,_,_⟩
  ·exact(cm hm).1
  ·have:=ok.uniq _ h1;rw[hl]at this;cases this
 have okB:(X.NL s H scope cenv fp).Ok:=by
  refine⟨I.ok.mod,by show cenv.scope.kind=_;rw[hsc];exact ok.kind,by show cenv.globals=_;rw[<-hcenv];exact I.ok.glob,by show cenv.builtins=_;rw[<-hcenv];exact I.ok.blt,by show Yam<=cenv.locals;rw[hL];exact Wau _,
   λy z c e1 e2=>?_,λy hy=>?_,λy c z e=>?_,I.ok.hd,I.ok.frames,YbW,λb hb=>⟨?_,λy c e z=>?_⟩,I.bs,WaF I.ok.XT I.sz,λb o e hb=>?_,λb hb z=>?_,I.stack,I.Sr⟩
  ·have e1:YdD=Ycf:=e1;have e2:cenv.cells.lookup z=Ycf:=e2;rw[hcl]at e1 e2;refine Fp (λp hp=>?_) (λy z c a b=>I.ok.inj y z c (cm a).1 (cm b).1) (Wba e1) (Wba e2);rw[WaW];exact Wbk (cm (y:=p.1) (c:=p.2) hp).2
  ·show ∃c,YdD=Ycf;have key:∀k,Yqy=some k->(k=.cell∨k=.free)->∃c,YdD=Ycf:=λk hk hk'=>by
    unfold Env.kindOf at hk;rw[hsc]at hk;obtain⟨k',e,r⟩:=zb hk;have:k'=.cell∨k'=.free:=by
     rcases r with rfl|⟨rfl,_⟩
     ·exact hk'
     ·exact .inr rfl
    rcases this with rfl|rfl
    ·obtain⟨c,hm⟩:=Fq (n:=(s.heap.push {cls:=Ymb,data:=.dict #[]}).objs.size) (acc:=Yfv) (Wba e);obtain⟨c',e'⟩:=mem_lookup hm;exact⟨c',by rw[hcl];exact e'⟩
    ·obtain⟨c,h1,_⟩:=look e;exact⟨c,h1⟩
   rcases hy with hy|hy
   ·exact key _ hy YwF
   ·exact key _ hy YnL
  ·have z:(Yd0==some NameKind.cell)=true:=z;have z:Yd0=Yeb:=(by simpa using z);have e:YdD=Ycf:=e;rw[hcl]at e;rcases vJ (Wba e)with hm|⟨_,h2,_⟩
   ·rcases tJ hm with hm|⟨h1,_⟩
    ·cases hm
    ·have q:=ok.uniq _ h1;rw[z]at q;cases q
   ·rw[WaW]at h2;exact Wdt h2
  ·show b≠cenv.locals;rw[hL];exact WaY (YAC).2
  ·ext Xfi
   ·exact(YAC).1.2.2.2.2.1 y c h1 z
   ·have h2:Yam+1<=b:=(by rw[<-z];exact h1);exact absurd (WaU (YAC).2 (Wdt h2)) YrV
  ·rcases(YAC).1.2.2.2.1 with z|z
   ·exact I.ok.Wv b o e z
   ·exact absurd (WaU YrW (WaF I.ok.XT z)) YrV
  ·rcases Wav.mp (I.QN b z)with z|z
   ·exact(YAC).1.2.1 z
   ·exact(YAC).1.2.2.1 z
 refine⟨okB,rfl,I.bare,Un.kept kp,⟨λ_=>none,?_,λi y av e1 e2 e3=>?_⟩,λy c e=>?_,?_,λy c e=>?_,YcB,I.cg.kept kp,by rw[x6];exact I.len⟩
 ·show Heap.Ns _ cenv.locals _;rw[hL];exact Heap.Ns.keeps (Heap.Ns.new ..) λb o e=>Wd3 _ _ _ _ e
 ·obtain⟨e2,hne⟩:=En e2;have hfr:Yd0=Yh1/\(Yqy=Yeb∨Yqy=Yh1):=by
   have key:∀k,cenv.scope.names.lookup y=some k->k=.local∨k=.cell∨k=.free->Yd0=Yh1/\(Yqy=Yeb∨Yqy=Yh1):=λk hk hk'=>by
    have hk0:=hk;rw[hsc]at hk;obtain⟨k',e,r⟩:=zb hk;have no:¬(k'=.local∨k'=.cell):=λhh=>by
     rcases ok.own _ (Wba e) hh with e'|e'
     ·obtain⟨p,hp,hpy⟩:=WaD.mp e';have e3:=ok.ix p hp;have:p.1=y:=hpy;rw[this]at e3;exact hne (WaD.mpr ⟨p,hp,IP hN e3 e1⟩)
     ·exact e' (WaA e1)
    rcases r with rfl|⟨rfl,rfl⟩
    ·rcases hk' with rfl|rfl|rfl
     ·exact absurd YwF no
     ·exact absurd YnL no
     ·exact⟨e,.inr hk0⟩
    ·exact⟨e,.inl hk0⟩
   have e3:Vis cenv.scope y:=e3;rcases e3 with e3|e3|e3
   ·exact key _ e3 YwF
   ·exact key _ e3 (.inr YwF)
   ·exact key _ e3 (.inr YnL)
  ext Xep;have hvis:Vis X.env.scope y:=(ok.free _ (Wba hfr.1) rfl).elim (λk=>.inr (.inl k)) (λk=>.inr (.inr k));obtain⟨w,r,q⟩:=hl i y av e1 e2 hvis;refine⟨w,r,.inr ⟨hfr.2,?_⟩⟩;obtain⟨c,h1,h2⟩:=look hfr.1;rcases q with⟨k,_⟩|⟨_,c',e',z⟩
  ·have k:YCg=YdK:=k;rcases ok.free _ (Wba hfr.1) rfl with k'|k'<;>rw[show X.env.scope.names.lookup y=_ from k']at k<;>cases k
  ·rw[h2]at e';cases e';exact⟨c,h1,z.keeps kp⟩
 ·have e:YdD=Ycf:=e;rcases mem e with⟨h1,_⟩|⟨_,z⟩
  ·obtain⟨w,z⟩:=I.cell y c h1;exact⟨w,z.keeps kp⟩
  ·exact⟨_,z⟩
 ·show H cenv.locals=none;rw[hL];exact YcL
 ·ext Xfi
  ·exact I.tF y c h1
  ·exact I.cg.fresh (Wdt h1)
 ·exact Yrg
theorem aaS{E:Value->Shared->Prop}{D:Addr}{xs:YcT}{y:V}{v:Value}{Q:Value->Shared->Prop}(I:Yah)(hD:H D=YdB)(hz:Ybp<sizeLine)(r:RelV y v)
(h:∀s',Inv X pins σ (upd H D (.lst (xs++[y]))) s'->Q .none s'):wpAny Yar X.A (call YEh [.ref D,v]) Q E s:=by
 obtain⟨hz',its,n,ri,e⟩:=I.cg D _ hD;have hl:=ri.length;refine append_at (hsz:=by rw[List.size_toArray];omega) e λh' sb ho'=>?_;refine h {s with heap:=h'} (I.write (t':=s.toks) (by rw[hD];trivial) YwF (λb u hb q=>(sb.2 b hb).trans q) ⟨_,ho'⟩ ⟨by rw[List.length_append];exact hz,its++[v],n+1,ri.append (.cons r .nil),?_⟩);rw[ho'];simp
def PTs(X:Cx)(ifs:YhW)(t:TT):Prop:=
 ∀(pins:List (Addr×Obj))(s:Shared)(σ:St)(H:Hp)(Q:Bool->Hp->Prop),Yah->Yxl->
  wpAny Yar X.A (forIn ifs true λc r=>if r=true then do let ok<-isTrue c X.env (eval c X.env);pure (ForInStep.yield ok)else YDN) YzS X.xe s
def acq:TT:=λ_ H Q=>Q true H
def jf:PTs X [] acq:=λ_ _ _ H _ I h=>wpAny_tests_nil ⟨H,I,h⟩
def qh(h:PT X c t):PTs X [c] t:=λpins s σ H Q I hw=>wpAny_tests_one YrL
end
def T3{α:Type}{t:Sem α}{Q Q':α->Shared->Prop}{M:Model}{A:Around}{E:Value->Shared->Prop}{s:Shared}(h:wpAny M A t Q YDz s)(hQ:∀a s,Q a s->Q' a s):wpAny M A t Q' E s:=WbZ h hQ λ_ _ z=>False.elim z
def NC{prog:Program}{w:World}{A:Around}{R:Result->Shared->Prop}{s:Shared}{elt target iter:Expr}{ifs:YhW}{scope:Scope}{pos:Pos}{it acc:Value}{env:Env}(I:Nat->Shared->Prop)
(turn:∀n s,I n s->wpAny YaA A (pyNext it) (λr s₁=>match r with
   |none=>R (.ok .next) s₁
   |some v=>wpAny YaA A (letOwnedTupleGo target it v) (λ_ s₁'=>wpAny YaA A (assign target env v) (λ_ s₂=>
     wpAny YaA A (forIn ifs true λc r=>if r=true then do let ok<-isTrue c env (eval c env);pure (ForInStep.yield ok)else YDN) (λok s₃=>
      if ok=true then wpAny YaA A (eval elt env) (λx s₄=>
       wpAny YaA A (call YEh [acc,x]) (λ_ s₅=>∃m,m<n/\I m s₅) YeZ s₄) YeZ s₃
      else ∃m,m<n/\I m s₃) YeZ s₂) YeZ s₁') YeZ s₁) YeZ s)
(n:Nat)(h:I n s):
  codeAny YaA A (.compLoop Ynd 0 it acc env) R s:=by
 refine codeAny_loop rfl I (λn s hI=>?_) n h;show wpAny _ A ((compTurn Ynd 0 it acc env).onRaise (λx=>do noteFrame x env;theTreesLotGoes x)) _ _ s;refine wpAny_noted ?_;rw[compTurn_list];refine Wab (wpAny_standAt (Wab (WbZ (turn n s hI) (λr s₁ h₁=>?_) λ_ _ h'=>h')));cases r with
 |none=>exact Waj h₁
 |some v=>
  refine Wab (WbZ h₁ (λ_ s₁' h₁'=>?_) λ_ _ h'=>h');refine Wab (WbZ h₁' (λ_ s₂ h₂=>Wab (WbZ h₂ (λok s₃ h₃=>?_) λ_ _ h'=>h')) λ_ _ h'=>h');cases ok with
  |false=>exact Waj ⟨rfl,h₃⟩
  |true=>exact Wab (Wab (WbZ h₃ (λx s₄ h₄=>Wab (WbZ h₄ (λ_ s₅ h₅=>Waj (Waj ⟨rfl,h₅⟩)) λ_ _ h'=>h')) λ_ _ h'=>h'))
section
variable {X:Cx}
def tLc(wi:TI)(g:TG)(tt:TT)(te:TE)(vs:Yaw):TE:=λσ H Q=>wi σ H λJ H1=>∀D,H1 D=none->∃W:Nat->Nat->Hp->Prop,(∃m,W 0 m YhB)/\∀i m H,W i m H->
 (Yyl/\Q Yle H)∨(Yxr/\∃Nx:Hp->Prop,(∀H',Nx H'->∃m',m'<m/\YBB)/\∀x H',YkV->g x (Yea) H' λσ2 H2=>Yn6=Yea/\tt σ2 H2 λb H3=>
  if b=true then te σ2 H3 λy H4=>∃acc,H4 D=Yg7/\YnF<sizeLine/\Nx YcY else Nx H3)
def S0{pins:Ya0}{s:Shared}{σ:St}{H:Hp}{Q:VK}{elt tg iter:Expr}{ifs:YhW}{scope:Scope}{own:YnR}{pos pos':Pos}{wi:TI}{g:TG}{tt:TT}{te:TE}{use:Option (Value->Sem Unit)}{Qf:Value->Shared->Prop}
(hc:X.calm=true)(hN:Yop)(I:Yah)(hi:YsJ)(ok:YhV)
(hg:∀(s:Shared)(H:Hp)(C:Addr)(cl:List (Str×Addr))(fp:List Addr),PG YaX tg g)(ht:∀(s:Shared)(H:Hp)(C:Addr)(cl:List (Str×Addr))(fp:List Addr),YDu)
(he:∀(s:Shared)(H:Hp)(C:Addr)(cl:List (Str×Addr))(fp:List Addr),PE YaX elt te)(hs:∀x,Yhg=pure x)
(h:tLc wi g tt te (YhH) σ H Q)
(hRR:∀D C s' m H',Yeo->Q Yle H'->s'.heap.Ns C m->G3 X pins H' C->compPost Yar X.A X.xe use Qf Yle C (.ok .next) s'):
  wpAny Yar X.A (comprehension Ybn scope X.env pos' (newList []) false Yx0 use) Qf X.xe s:=by
 have hfree:∀y∈Yj2,y.2=.free->∃c,X.env.cells.lookup y.1=Ycf:=λy hy e=>by
  rcases ok.free y hy e with k|k
  ·exact I.ok.has _ (.inl k)
  ·exact I.ok.has _ (.inr k)
 refine wpAny_comprehension_free (use:=use) rfl hs (RS hfree) ok.kind (λy hy e=>by rw[ok.uniq y hy,e])
  (dq YrJ λxv s1 hx=>dq hx λitv s2 h2=>?_)
 obtain⟨it,fp,tn,J,H2,e,I2,T,st2,f2,q⟩:=h2;subst e;refine WbJ (O0 ?_) (by show 0<=sizeLine;decide);generalize hD:s2.heap.objs.size=D;have hDn:H2 D=none:=I2.cg.fresh (Wed hD);obtain⟨W,⟨m0,w0⟩,turn⟩:=q D hDn;generalize hs3:({s2 with heap:=s2.heap.push {cls:=.type "list",data:=.seq ([]:List Value).toArray}}:Shared)=s3;have I3:Inv X pins σ (YlS) s3:=by rw[<-hs3];refine I2.laid (t':=s2.toks) (λb o e=>Yhe) (Wed hD) ⟨WaL _,[],0,.nil,?_⟩;rw[<-hD];exact YbA
 have h3:s3.heap=s2.heap.push {cls:=Ybr,data:=.seq ([]:YbN).toArray}:=by rw[<-hs3]
 have sz:∀b∈fp,b<s2.heap.objs.size:=λb hb=>by obtain⟨o,e,_⟩:=T.obj _ _ st2 b hb;ext XeS
 have f3:∀b∈fp,G3 X pins (YlS) b/\b<YxM:=λb hb=>by have hlt:=sz b hb;refine⟨⟨?_,(f2 b hb).2⟩,by rw[h3,WaW];exact Wbk hlt⟩;rw[aA (by rw[<-hD];exact WaY hlt)];exact(f2 b hb).1
 have st3:tn 0 s3.heap:=T.keep _ _ _ st2 λb _ o e=>by rw[h3];exact Yhe
 have I4:=P9 I3 ok hN f3;have pg:=hg s3 (YlS) s3.heap.objs.size YbI fp;have pt:=ht s3 (YlS) s3.heap.objs.size YbI fp;have pe:=he s3 (YlS) s3.heap.objs.size YbI fp;show codeAny _ _ (.compStart Ybn 0 Ydk Yle (compEnvC scope YbI s3.heap.objs.size X.env)) Yn1 {s3 with heap:=pushCells (s3.heap.push {cls:=Ymb,data:=.dict #[]}) scope.names};have nfp:∀b∈fp,(YlS) b=none:=λb hb=>(f3 b hb).1.1;generalize hce:compEnvC scope (cellsFrom (s3.heap.objs.size+1) scope.names (cU X.env.cells scope.names [])) s3.heap.objs.size X.env=ce at I4 pg pt pe ⊢;have cL:ce.locals=YxM:=by subst hce;rfl
 generalize hH3:upd H2 D (.lst [])=H3 at I3 I4 pg pt pe w0 nfp f3;generalize hs4:({s3 with heap:=pushCells (s3.heap.push {cls:=.type "dict",data:=.dict #[]}) scope.names}:Shared)=s4 at I4 ⊢;have st4:tn 0 s4.heap:=T.keep _ _ _ st3 λb _ o e=>by rw[<-hs4];exact Wd3 _ _ _ _ (Yhe)
 have stat:∀{σ':St}{H':Hp}{s':Shared},Inv (Ydu) [] σ' H' s'->Yiw->∀b∈fp,G3 (Ydu) [] H' b:=λ{σ' H' s'} I' hn b hb=>⟨hn b hb,(I'.ok.exf b hb).1,I'.ok.W8 b hb,.inl hb,λx c e=>(I'.ok.exf b hb).2 x c e,λp hp=>Yrg⟩
 have loop:codeAny Yar X.A (.compLoop Ybn 0 Ydk Yle ce) Yn1 s4:=by
  refine NC (λn s'=>∃i H',Yvr/\tn i s'.heap/\Yiw/\W i n H') ?_ m0 ⟨0,H3,I4,st4,nfp,w0⟩;rintro n s5 ⟨i,H5,I5,st5,n5,w5⟩;rcases turn i n H5 w5 with⟨stop,qq⟩|⟨go,Nx,hNx,step⟩
  ·have td:=T.done (Ydu) rfl rfl rfl hc i [] s5 _ H5 YDz I5 (stat I5 n5) st5 stop;refine T3 td λr s6 ⟨hr,I6⟩=>?_;subst hr;have I7:Inv X pins σ H5 s6:=I3.abY (ch:=fp) I6.os I6.base I6.cg I6.bare λb hb=>⟨(f3 b hb).1.2.2.2.1,(f3 b hb).1.2.1,(f3 b hb).1.2.2.2.2.1,(f3 b hb).1.2.2.2.2.2⟩;have nC:H5 s3.heap.objs.size=none:=by have z:H5 ce.locals=none:=I6.free;rw[cL]at z;exact z
   obtain⟨m,hn,_⟩:=I6.loc;have hn:s6.heap.Ns ce.locals m:=hn;rw[cL]at hn;exact hRR D s3.heap.objs.size s6 m H5 I7 qq hn (I3.RJ YcZ nC)
  ·have ti:=T.item (Ydu) rfl rfl rfl hc i [] s5 _ H5 YDz I5 (stat I5 n5) st5 go;refine T3 ti λr s6 ⟨u,hr,h6⟩=>?_;subst hr;refine T3 h6 λ_ s7 ⟨x,H7,I7,r7,y7,st7,n7⟩=>?_;have I7':=I7.pinned (stat I7 n7) (T.obj _ _ st7);refine T3 (pg _ s7 _ H7 x u _ I7' r7 (step x H7 y7)) λ_ s8 ⟨σ8,H8,I8,hw8,q8⟩=>?_;refine T3 (pt _ s8 σ8 H8 _ I8 q8) λb s9 ⟨H9,I9,q9⟩=>?_;have fin:∀{s':Shared}{H':Hp},Inv (Ydu) ([]++Im fp s7.heap) σ8 H' s'->Nx H'->∃m,m<n/\∃i H',Yvr/\tn i s'.heap/\Yiw/\W i m H':=λ{s' H'} I' nx=>by
    obtain⟨m',hm,w'⟩:=hNx H' nx;have pin':∀b∈fp,∀o,s7.heap.get? b=YaB->s'.heap.get? b=YaB/\H' b=none:=λb hb o e=>
     let z:=I'.pin (b,o) Ypg
     ⟨z.1,z.2.1⟩
    have hl:(wipe σ (YhH)).length=σ8.length:=(by rw[<-hw8,x6]);refine⟨m',hm,i+1,H',(I'.CM (pins:=[])).weak hl (λj v e=>?_),T.keep _ _ _ st7 λb hb o e=>(pin' b hb o e).1,Yf1,w'⟩
    ·rw[<-hw8]at e;exact(En e).1
    ·obtain⟨o,e,_⟩:=T.obj _ _ st7 b hb;exact(pin' b hb o e).2
   cases b with
   |false=>simp only[Wbo,Wca]at q9 ⊢;exact fin I9 q9
   |true=>simp only[WbG]at q9 ⊢;refine T3 (pe _ s9 σ8 H9 _ I9 q9) λz s10 ⟨yv,H10,I10,r10,acc,hD10,hz10,nx⟩=>?_;exact aaS (X:=Ydu) I10 hD10 hz10 r10 λs11 I11=>fin I11 nx
 exact codeAny_compStart_list loop (T.self X.A 0 _ _ _ st4 loop)
def yI(hc:X.calm=true)(hN:Yop)(hi:YsJ)(ok:YhV)
(hg:∀(s:Shared)(H:Hp)(C:Addr)(cl:List (Str×Addr))(fp:List Addr),PG YaX tg g)(ht:∀(s:Shared)(H:Hp)(C:Addr)(cl:List (Str×Addr))(fp:List Addr),YDu)
(he:∀(s:Shared)(H:Hp)(C:Addr)(cl:List (Str×Addr))(fp:List Addr),PE YaX elt te)(hs:∀x,Yhg=pure x:=by intro _;rfl):
  PE X Ybn (tLc wi g tt te (YhH)):=by
 ext Xaf;rw[eval_ListComp];refine S0 hc hN I hi ok hg ht he hs h λD C s' m H' I' q hn f=>⟨m,hn,λh'' sb=>?_⟩;obtain⟨f0,f1,f2,f3,f4,f5⟩:=f;exact⟨.ref D,H',I'.turned (t':=s'.toks) YvM f0 f1 f3 f4 f5,rfl,q⟩
def iJ{i:Nat}{y:Str}{py:Pos}{elt tg iter:Expr}{ifs:YhW}{scope:Scope}{own:YnR}{pos spos:Pos}{wi:TI}{g:TG}{tt:TT}{te:TE}(hc:X.calm=true)(hN:Yop)(hy:X.N[i]? =Ysw)(hyl:YCg=YdK)
(hsw:swapsWith Ybn (some (Yyp)) spos.line X.env=pure true)(hi:YsJ)(ok:YhV)
(hg:∀(s:Shared)(H:Hp)(C:Addr)(cl:List (Str×Addr))(fp:List Addr),PG YaX tg g)(ht:∀(s:Shared)(H:Hp)(C:Addr)(cl:List (Str×Addr))(fp:List Addr),YDu)
(he:∀(s:Shared)(H:Hp)(C:Addr)(cl:List (Str×Addr))(fp:List Addr),PE YaX elt te)(hs:∀x,Yhg=pure x:=by intro _;rfl):
  PS X (.Assign [Yyp] Ybn spos) (ZX (tLc wi g tt te (YhH)) (Pq i)):=by
 ext XaJ;rw[exec_Assign_Name_used _ _ _ _ hsw];refine Wab (wpAny_standAt (Wab ?_));show wpAny _ X.A (do let _<-comprehension Ybn scope X.env (firstIterPos [⟨tg,iter,ifs,0⟩] pos) (newList []) false Yx0 (some (assign (Yyp) X.env))) _ _ s;have h:tLc wi g tt te (YhH) σ H (λx H1=>Pq i x σ H1 D.nx):=h;refine Wab (dq (S0 (Qf:=λ_ s'=>SP X pins D .next s') hc hN I hi ok hg ht he hs h λL C s' m H' I' q hn f=>?_) λ_ s' hq=>Waj (Waj hq));show wpAny _ _ (assign (Yyp) X.env (.ref L)) _ _ _;refine wpAny_assign_Name (Ln (v:=V.ref L) I' hN hy (.inl hyl) rfl (λs2 I2 ⟨a,sb,ha⟩=>?_) (.inr hyl));obtain⟨f0,f1,f2,f3,f4,f5⟩:=f;have haC:C≠a:=by
  rcases ha with z|z
  ·rw[z];exact f1
  ·exact λe=>f4 y a z e.symm
 refine⟨m,hn.sameBut sb haC,λh3 sb3=>?_⟩;exact⟨_,H',I2.turned (t':=s2.toks) (λb o hb e=>(sb3.2 b hb).trans e) f0 f1 f3 f4 f5,q⟩
def kT(hk:env.scope.kind=.function)(hy:env.scope.names.lookup y=YdK)(hl:(py.line==pos.line)=true)
(ha:(scope.names.any λ(n,k)=>n==y&&(k== .local||k== .cell))=false):swapsWith (.ListComp elt gs scope pos) (some (Yyp)) l env=pure true:=by
 have ky:env.kindOf y=YdK:=hy;have hb:env.blockKind=.function:=by unfold Env.blockKind;rw[hk];rfl
 unfold swapsWith;simp only[hb,ky,ha,Expr.pos,hl];rfl
end
def WO{lo:Int}{n:Nat}{g:TG}{tt:TT}{te:TE}{vs:Yaw}{σ:St}{H1:Hp}{D:Addr}{Qd:Hp->Prop}(Pv:Nat->Hp->Prop)(h0:Pv 0 YhB)
(hs:∀i H,i<n->Pv i H->g (.int (lo+i)) (Yea) H λσ2 H2=>Yn6=Yea/\tt σ2 H2 λb H3=>
   if b=true then te σ2 H3 λy H4=>∃acc,H4 D=Yg7/\YnF<sizeLine/\Pv YcG YcY else Pv YcG H3)(hd:∀H,Pv n H->Qd H):
  ∃W:Nat->Nat->Hp->Prop,(∃m,W 0 m YhB)/\∀i m H,W i m H->
   ((Itr lo n).stop i H/\Qd H)∨((Itr lo n).go i H/\∃Nx:Hp->Prop,(∀H',Nx H'->∃m',m'<m/\YBB)/\∀x H',(Itr lo n).XG i H x H'->g x (Yea) H' λσ2 H2=>Yn6=Yea/\tt σ2 H2 λb H3=>
     if b=true then te σ2 H3 λy H4=>∃acc,H4 D=Yg7/\YnF<sizeLine/\Nx YcY else Nx H3):=by
 ext XcF;by_cases hlt:i<n
 ·refine .inr ⟨hlt,Pv YcG,λH' p'=>⟨n-YcG,YaP,rfl,hlt,p'⟩,λx H' y=>?_⟩;obtain⟨e,y⟩:=y;subst e y;exact hs i _ hlt p
 ·have e:i=n:=Yad;subst e;exact .inl ⟨Wau _,hd H p⟩
def gF{K:Yaj}{a:Addr}{xs:YcT}{g:TG}{tt:TT}{te:TE}{vs:Yaw}{σ:St}{H1:Hp}{D:Addr}{Qd:Hp->Prop}(Pv:Nat->Hp->Prop)(h0:Pv 0 YhB)(hl:∀i H,i<=Ybp->Pv i H->YcS)
(hs:∀i x H,xs[i]? =YeH->Pv i H->g x (Yea) H λσ2 H2=>Yn6=Yea/\tt σ2 H2 λb H3=>
   if b=true then te σ2 H3 λy H4=>∃acc,H4 D=Yg7/\YnF<sizeLine/\Pv YcG YcY else Pv YcG H3)(hd:∀H,Pv xs.length H->Qd H):
  ∃W:Nat->Nat->Hp->Prop,(∃m,W 0 m YhB)/\∀i m H,W i m H->
   ((ZI K a).stop i H/\Qd H)∨((ZI K a).go i H/\∃Nx:Hp->Prop,(∀H',Nx H'->∃m',m'<m/\YBB)/\∀x H',(ZI K a).XG i H x H'->g x (Yea) H' λσ2 H2=>Yn6=Yea/\tt σ2 H2 λb H3=>
     if b=true then te σ2 H3 λy H4=>∃acc,H4 D=Yg7/\YnF<sizeLine/\Nx YcY else Nx H3):=by
 refine⟨λi m H=>m=Ybp-i/\i<=Ybp/\Pv i H,⟨Ybp,Ydx,WaL _,h0⟩,?_⟩;rintro i m H ⟨rfl,hi,p⟩;have q:=hl i H hi p;by_cases hlt:i<Ybp
 ·refine .inr ⟨ZcE,λH' p'=>⟨Ybp-YcG,YaP,rfl,hlt,p'⟩,λx H' y=>?_⟩;obtain⟨e,y⟩:=y;subst e;exact hs i x _ (y xs q) p
 ·have e:i=Ybp:=Yad;subst e;exact .inl ⟨⟨xs,q,Wau _⟩,hd H p⟩
def ab1(N:YeB)(sc scope:Scope)(own:YnR):Bool:=
 (match scope.kind with|.function=>true|_=>false)&&(scope.names.all λy=>decide (Ylf=some y.2))&&(own.all λp=>decide (N[p.2]? =Yxn))&&
  (scope.names.all λy=>match y.2 with
   |.free=>(match sc.names.lookup y.1 with|some .cell=>true|some .free=>true|_=>false)
   |.local=>Yzi||decide (y.1∉N)
   |.cell=>Yzi||decide (y.1∉N)
   |_=>true)
def cj(h:ab1 N sc scope own=true):Qv N sc scope own:=by
 unfold ab1 at h;simp only[WaJ,Wbe,War]at h;obtain⟨⟨⟨h1,h2⟩,h3⟩,h4⟩:=h;refine⟨?_,h2,h3,λy hy e=>?_,λy hy e=>?_⟩
 ·split at h1
  ·assumption
  ·cases h1
 ·have q:=h4 y hy;simp only[e]at q;split at q<;>first|exact .inl (by assumption)|exact .inr (by assumption)|cases q
 ·have q:=h4 y hy;rcases e with e|e<;>(simp only[e,Wb5,War]at q;exact q)
end L2
namespace L2
open PySem PySem.Spec PyProof.Rows
section
variable {prog:Program} {w:World} {A:Around} {R:Result→Shared→Prop} {s:Shared} {elt t0 i0 t1 i1:Expr} {ifs0 ifs1:List Expr} {scope:Scope} {pos:Pos} {it acc:Value} {env:Env}
end
section
variable {X:Cx}
end
end L2
namespace L2
open PySem PySem.Spec PyProof.Rows
section
variable {κ:Type} [DecidableEq κ]
def bg(kvs:YdT)(k:κ):Yxp:=(kvs.find? λkv=>YiD).map (·.2)
def putK(kvs:YdT)(k:κ)(v:V):YdT:=if(kvs.any λkv=>YiD)=true then kvs.map (λkv=>if kv.1=k then(kv.1,v)else kv)else kvs++[(k,v)]
def gP{p:κ×V}{r:YdT}{k:κ}(e:p.1=k):bg YAk k=some p.2:=by simp[bg,Wbj,e]
def gQ{p:κ×V}{r:YdT}{k:κ}(e:¬p.1=k):bg YAk k=bg r k:=by simp[bg,Wbj,e]
def x8(k:κ):∀kvs:YdT,(kvs.any λkv=>YiD)=(Yro).isSome
 |[]=>rfl
 |p::r=>by
  rw[WbL];ext Xhi
  ·simp only[gP e,Wa9 e,Bool.true_or,Option.isSome_some]
  ·rw[gQ e,Wa3 e,Bool.false_or];exact x8 k r
def N5(k j:κ)(y:V):∀kvs:YdT,bg YgZ j=(bg kvs j).map λx=>if j=k then y else x
 |[]=>rfl
 |p::r=>by
  have ih:=N5 k j y r;rw[Waw];by_cases h:p.1=k
  ·rw[Wap h];by_cases e:p.1=j
   ·rw[gP (p:=(p.1,y)) e,gP e,Wbb,Wap (e.symm.trans h)]
   ·rw[gQ (p:=(p.1,y)) e,gQ e,ih]
  ·rw[Wae h];by_cases e:p.1=j
   ·rw[gP (p:=p) e,gP e,Wbb,Wae (λz=>h (e.trans z))]
   ·rw[gQ (p:=p) e,gQ e,ih]
def Lf(k j:κ)(y:V):∀kvs:YdT,Yro=none->bg (kvs++[(k,y)]) j=if j=k then Ysw else bg kvs j
 |[],_=>by
  by_cases e:k=j
  ·rw[Wap e.symm];exact gP (p:=(k,y)) e
  ·rw[Wae (λz=>e z.symm)];exact gQ (p:=(k,y)) e
 |p::r,hn=>by
  rw[List.cons_append];have hk:¬p.1=k:=λz=>by rw[gP z]at hn;cases hn
  rw[gQ hk]at hn;have ih:=Lf k j y r hn;by_cases e:p.1=j
  ·rw[gP e,gP e,Wae (λz=>hk (e.trans z))]
  ·rw[gQ e,gQ e,ih]
def N4(kvs:YdT)(k j:κ)(y:V):bg YDD j=if j=k then Ysw else bg kvs j:=by
 unfold putK;by_cases a:YuV=true
 ·rw[Wap a,N5];rw[x8]at a;by_cases e:j=k
  ·obtain⟨x,hx⟩:=Wdr.mp a;rw[Wap e,e,hx,Wbb,Wap rfl]
  ·rw[Wae e];cases bg kvs j with
   |none=>rfl
   |some x=>rw[Wbb,Wae e]
 ·rw[Wae a];refine Lf k j y kvs ?_;rw[x8]at a;cases q:Yro with
  |none=>rfl
  |some x=>rw[q]at a;exact(a rfl).elim
def om(kvs:YdT)(k:κ)(v:V):(Yma).length<=YbM+1:=by
 unfold putK;split
 ·rw[Waa];omega
 ·rw[Wad,Was,WbK];omega
def xf.vD(r:xf o u):o.isSome=u.isSome:=by
 cases o with
 |none=>cases u with
  |none=>rfl
  |some _=>ext Xb3
 |some _=>cases u with
  |none=>ext Xb3
  |some _=>rfl
def xf.getD(r:xf o u)(rd:RelV d d'):RelV (o.getD d) (u.getD d'):=by
 cases o with
 |none=>cases u with
  |none=>exact rd
  |some _=>ext Xb3
 |some _=>cases u with
  |none=>ext Xb3
  |some _=>exact r
def KV.val(r:YiX)(k:κ):xf (Yro) (valueAt vs k):=by
 unfold KV at r;induction r with
 |nil=>exact YgB
 | @cons p q ps qs h t ih=>
   obtain⟨h1,h2⟩:=h;ext Xhi
   ·have e':q.1=k:=YsA;have b:valueAt (q::qs) k=some q.2:=YCZ;rw[gP e,b];exact h2
   ·have e':¬q.1=k:=λz=>Yt9;have b:valueAt (q::qs) k=valueAt qs k:=YCZ;rw[gQ e,b];exact ih
def KV.any{kvs:YdT}{vs:Yrd}(r:YiX)(k:κ):YuV=vs.any λkv=>decide (kv.1=k):=by
 unfold KV at r;induction r with
 |nil=>rfl
 |cons h t ih=>rw[WbL,WbL,ih,h.1]
def KV.aaa(r:YiX)(k:κ)(ry:YhE):
  KV YgZ (vs.map λkv=>if kv.1=k then(kv.1,u)else kv):=by
 unfold KV at r ⊢;induction r with
 |nil=>exact .nil
 | @cons p q ps qs h t ih=>
   rw[Waw,Waw];refine .cons ?_ ih;obtain⟨h1,h2⟩:=h;ext Xhi
   ·rw[Wap e,Wap (YsA)];exact⟨h1,ry⟩
   ·rw[Wae e,Wae (λz=>Yt9)];exact⟨Zb7⟩
def KV.put(r:YiX)(k:κ)(ry:YhE):KV YDD (stored vs k u):=by
 unfold putK stored;rw[r.any k];by_cases e:(vs.any λkv=>YiD)=true
 ·rw[Wap e,Wap e];exact r.aaa k ry
 ·rw[Wae e,Wae e];exact WbM r ⟨rfl,ry⟩
def KV.length{kvs:YdT}{vs:Yrd}(r:YiX):YbM=Yd7:=Wcs r
end
def LI(r:RelV (kV k) u):(dP P w).is k u=true:=by
 cases k with
 |inl i=>obtain⟨t,e⟩:=Yvw;subst e;exact O7 P w i t
 |inr x=>obtain⟨t,e⟩:=Yvv;subst e;exact O6 P w x t
def LL:∀{ks:List Key}{us:List Value},Vals (ks.map kV) us->ItemsAre (dP P w) ks us
 |[],_,r=>by rw[Wb1]at r;cases r;exact .nil
 |k::ks,_,r=>by
  rw[Waw]at r;cases r with
  |cons h t=>exact .cons (LI h) (LL t)
abbrev KT(H:Hp):YoI->YAb->Prop:=Paired λp q=>p.1=q.1/\H q.2.1=YDL/\RelV p.2 q.2.2
def KT.val(r:YqV)(k:List Key):xf (Yro) ((atKey xs k).map (·.2)):=by
 induction r with
 |nil=>exact YgB
 | @cons p q ps qs h t ih=>
   obtain⟨h1,_,h2⟩:=h;ext Xhi
   ·have e':q.1=k:=YsA;have b:atKey (q::qs) k=some q.2:=(by simp[atKey,Wbj,e']);rw[gP e,b];exact h2
   ·have e':¬q.1=k:=λz=>Yt9;have b:atKey (q::qs) k=atKey qs k:=(by simp[atKey,Wbj,e']);rw[gQ e,b];exact ih
def KT.aaa(r:YqV)(k:List Key)(ry:YhE):
  KT H YgZ (xs.map (putAt k u)):=by
 induction r with
 |nil=>exact .nil
 | @cons p q ps qs h t ih=>
   rw[Waw,Waw];refine .cons ?_ ih;obtain⟨h1,h2,h3⟩:=h;unfold putAt;ext Xhi
   ·rw[Wap e,Wap (YsA)];exact⟨Zb7,ry⟩
   ·rw[Wae e,Wae (λz=>Yt9)];exact⟨Zb7,h3⟩
def KT.put(r:YqV)(k:List Key)(hb:H b=YhO)(ry:YhE):
  KT H YDD (storedH xs k b u):=by
 have e:YuV=(atKey xs k).isSome:=by rw[x8,(r.val k).vD,Wb2]
 unfold putK storedH;rw[e];by_cases q:(atKey xs k).isSome=true
 ·rw[Wap q,Wap q];exact r.aaa k ry
 ·rw[Wae q,Wae q];exact WbM r ⟨rfl,hb,ry⟩
def KT.keeps(r:YqV)(ht:∀b ys,H b=some (.tup ys)->H' b=some (.tup ys)):KT H' kvs xs:=Paired.gE r λ_ _ z=>⟨z.1,ht _ _ z.2.1,z.2.2⟩
section
variable {P:Program} {w:World} {H:Hp} {h:Heap} {a:Addr}
def Zv(ok:YeE)(e:Rd H a u):fM P w H h a u:=e.ok ok
def Ba(ok:YeE)(e:Ytv):YbM<=sizeLine/\Yhc=false/\∃vs,YiX/\Yru:=show fM P w H h a Ycn from Zv ok e
def abW(ok:YeE)(e:H a=Yiz):YbM<=sizeLine/\Yhc=false/\∃vs,YiX/\Yru:=Ba ok (.inl e)
def E3(ok:YeE)(e:H a=some (.tup (ks.map kV))):(YkG).is h ks a:=by obtain⟨_,its,r,o,h1,h2,n,h3⟩:=(show fM P w H h a (.tup (ks.map kV))from ok a _ e);exact⟨o,YBs,n,Zb7,h3,by simpa using LL r⟩
def Jt(ok:YeE)(e:Rd H a Yk7):YbM<=sizeLine/\Yhc=false/\
  ∃xs,YqV/\h.DictOfH (YkG) a xs:=by
 obtain⟨z,y,xs,r,o,es,ep,h1,h2,h3,h4,h5⟩:=(show fM P w H h a Yk7 from Zv ok e);refine⟨z,y,xs,r,o,es,ep,Zb7,h3,h4,Yx8,h5⟩;have all:∀{l:List (List Key×V)}{m:List (List Key×Addr×Value)},KT H l m->∀x∈m,(YkG).is h x.1 x.2.1:=by
  intro l m q;induction q with
  |nil=>intro x hx;exact nomatch hx
  | @cons p q ps qs hq t ih=>
    intro x hx;rcases Wav.mp hx with e|hx
    ·subst e;exact E3 ok (by rw[<-hq.1];exact hq.2.1)
    ·exact ih x hx
 exact all r x hx
def abV(ok:YeE)(e:H a=some Yk7):YbM<=sizeLine/\Yhc=false/\
  ∃xs,YqV/\h.DictOfH (YkG) a xs:=Jt ok (.inl e)
end
def bN(H:Hp)(a:Addr)(y:V)(r:Yxp):Prop:=(∃kvs k,Ytv/\y=kV k/\r=Yro)∨∃kvs k b,Rd H a Yk7/\y=Yx6/\H b=YhO/\r=Yro
def vW(H:Hp)(a:Addr)(y v:V)(H':Hp):Prop:=
 (∃kvs k,H a=Yiz/\y=kV k/\YbM<sizeLine/\H'=upd H a (.dK (Yma)))∨
 ∃kvs k b,H a=some Yk7/\y=Yx6/\H b=YhO/\YbM<sizeLine/\H'=upd H a (.dT (Yma))
def bN.k{H:Hp}{a:Addr}{kvs:Yce}{k:Key}(e:H a=Yiz):bN H a (kV k) (Yro):=.inl ⟨kvs,k,.inl e,ZaI⟩
def vW.k{H:Hp}{a:Addr}{kvs:Yce}{k:Key}{v:V}(e:H a=Yiz)(hl:YbM<sizeLine):vW H a (kV k) v (upd H a (.dK (Yma))):=.inl ⟨kvs,k,e,rfl,hl,rfl⟩
section
variable {X:Cx} {pins:List (Addr×Obj)} {σ:St} {H:Hp} {s:Shared} {a:Addr} {y v:V} {u r:Value} {o:Option V} {A:Around} {E:Value→Shared→Prop}
def Inv.big(I:Yah):sysModules<Yam:=by have h:mainGlobals<Yam:=(I.mod.glob.keeps I.bk).lt;exact WcM YeP h
def LS{Q:Value->Shared->Prop}(hu:YtP+1<cLine)(I:Yah)(g:bN H a y (YcV))(ry:YhE)(h:∀w' s',Yia->RelV v w'->Q w' s'):
  wpAny Yar A (getItem YwE u) Q E s:=by
 ext Xa5
 ·subst ey;ext Xbs;obtain⟨w',hw,rw'⟩:=xf.some_of (v:=v) (o:=valueAt vs k) (by rw[l];exact Yp6);exact wpAny_getItem_of (LI ry) dd.mapOf hw (h w' _ (Yga) rw')
 ·ext XaH;obtain⟨w',hw,rw'⟩:=xf.some_of (v:=v) (o:=(atKey xs k).map (·.2)) (by rw[l];exact Yp6);obtain⟨p,hp,hp2⟩:=WcU.mp hw;refine wpAny_getItem_heap (WcW hu) (Yyn) dd hp ?_;rw[hp2];exact h w' _ (Yga) rw'
def acZ(hu:YtP+1<cLine)(I:Yah)(g:bN H a y o)(ry:YhE)(h:∀s',Yia->Q (.bool o.isSome) s'):
  wpAny Yar A (compareOp .In u YwE) Q E s:=by
 ext Xa5
 ·subst ey;ext Xbs;refine wpAny_in_of (LI ry) hd dd.mapOf ?_;rw[<-(Yp6).vD,<-l];exact h _ (Yga)
 ·ext XaH;refine wpAny_in_heap (WcW hu) (Yyn) hd dd ?_;ext XeC
def Y2(hu:YtP+1<cLine)(I:Yah)(g:bN H a y o)(ry:YhE)(h:∀s',Yia->Q (.bool (!o.isSome)) s'):
  wpAny Yar A (compareOp .NotIn u YwE) Q E s:=by
 ext Xa5
 ·subst ey;ext Xbs;refine wpAny_notIn_of (LI ry) hd dd.mapOf ?_;rw[<-(Yp6).vD,<-l];exact h _ (Yga)
 ·ext XaH;refine wpAny_notIn_heap (WcW hu) (Yyn) hd dd ?_;ext XeC
def Ti(I:Yah)(mu:Zh (H a))(hs:Yg5)(he:∃q,Yw4=some q)(new:fM X.prog X.w (upd H a ob) h' a ob):
  Inv X pins σ (upd H a ob) {s with heap:=h',toks:=t'}:=
 I.write (x:=a) (e:=a) mu YwF (λb q hb z=>(hs.2 b hb).trans z) he new
def aaF(z:YbM<=sizeLine)(hd:Yhc=false)(rel:YiX)(dd:h'.DictOf (dP P w) a vs):
  fM P w H' h' a Ycn:=⟨z,hd,vs,rel,dd⟩
def LR(hu:YtP+1<cLine)(I:Yah)(g:vW H a y v H')(ry:YhE)(rv:RelV v r)(h:∀s',Yeo->Q () s'):
  wpAny Yar A (setItem YwE u r) Q E s:=by
 rcases g with⟨kvs,k,e,ey,l,eH⟩|⟨kvs,k,b,e,ey,eb,l,eH⟩
 ·subst ey eH;obtain⟨z,hd,vs,rel,dd⟩:=abW I.cg e;have hz:Yd7<=sizeLine:=by rw[<-rel.length];exact z
  have hl:(Yma).length<=sizeLine:=by have:=om kvs k v;omega
  refine wpAny_setItem_pairs (hsz:=hz) (LI ry) dd λh' dd' hs=>h _ ?_;have he:∃q,Yw4=some q:=let⟨q,_,_,hq,_⟩:=dd';⟨q,hq⟩;exact Ti I YtJ hs he (aaF hl hd (rel.put k rv) dd')
 ·subst ey eH;cases(show u=Value.ref b from ry);obtain⟨z,hd,xs,rel,dd⟩:=abV I.cg e;have hz:Ybp<=sizeLine:=by rw[<-Wcs rel];exact z
  have hl:(Yma).length<=sizeLine:=by have:=om kvs k v;omega
  refine wpAny_setItem_heap (hsz:=hz) (WcW hu) (Yyn) dd λh' dd' hs=>h _ ?_;obtain⟨q,es,ep,hq,h2,h3,h4,_,h5⟩:=dd';refine Ti I YtJ hs ⟨q,hq⟩ ⟨hl,hd,_,(rel.put k eb rv).keeps λc ys ec=>?_,q,es,ep,hq,h2,h3,h4,h5⟩;rw[aA (bS ec e (λz=>nomatch z))];exact ec
end
section
variable {X:Cx} {pins:List (Addr×Obj)} {σ:St} {H:Hp} {s:Shared} {a:Addr} {kvs:List (Key×V)} {k:Key} {u:Value} {A:Around} {E:Value→Shared→Prop}
def abX(I:Yah)(e:Ytv)(h:∀t s',Yia->Q (.int kvs.length t) s'):wpAny Yar A (call YjH Yvz) Q E s:=by ext Xbs;refine call_len_dict hd dd (by rw[<-rel.length];rw[WcI]at z;omega) ?_;rw[<-rel.length];exact h _ _ (Yga)
end
def ab6(i:Expr):Prop:=∀ov iv,subscripted i false ov iv=operate [ov,iv] (getItem ov iv)
def Yd{prog:Program}{w:World}{A:Around}{E:Value->Shared->Prop}{s:Shared}{env:Env}{value slice:Expr}{pos:Pos}{T id:String}{Q:Value->Shared->Prop}
(hl:Yvi=pure (some YfM))(hs:ab6 slice)
(h:wpAny YaA A (eval value env) (λo s₁=>wpAny YaA A (eval slice env) (λi s₂=>s₂.TypeIs o T/\wpAny YaA A (getItem o i) Q E s₂) E s₁) E s):
  wpAny YaA A (eval (.Subscript value slice pos) env) Q E s:=by
 refine Subscript_ (WbZ h (λo s₁ h₁=>WbZ h₁ (λi s₂ h₂=>?_) λ_ _ x=>x) λ_ _ x=>x);obtain⟨hT,h₂⟩:=h₂;unfold subscriptTail;ext Xdo;rw[getitemInPython_of_ne hT.not_modules];refine Wab (wpAny_specialOf hT hl ?_);have fin:wpAny YaA A (subscripted slice false o i) (λr s₃=>wpAny YaA A (letTemporaryGo value o r>>= λ_=>pure r) Q E s₃) E s₂:=by rw[hs o i];exact wpAny_operating (WbZ h₂ (λr s₃ h₃=>Wab (wpAny_letTemporaryGo (Waj h₃))) λ_ _ x=>x)
 first
  |exact Waj (Wab fin)
  |exact Wab (Waj (Wab fin))
  |exact Wab fin
def PH{X:Cx}{pins:Ya0}{σ:St}{H:Hp}{s:Shared}{a:Addr}{y:V}{o:Yxp}(I:Yah)(g:bN H a y o):s.TypeIs YwE "dict":=by
 rcases g with⟨kvs,k,e,_,_⟩|⟨kvs,k,b,e,_,_,_⟩
 ·obtain⟨_,_,vs,_,dd⟩:=Ba I.cg e;exact dd.typeIs
 ·obtain⟨_,_,xs,_,dd⟩:=Jt I.cg e;exact dd.typeIs
def abl(td ty:TE):TE:=λσ H Q=>td σ H λx H1=>ty σ H1 λy H2=>∃a v,x=Ybc/\bN H2 a y (YcV)/\Q v H2
def acx(ty td:TE):TE:=λσ H Q=>ty σ H λy H1=>td σ H1 λx H2=>∃a o,x=Ybc/\bN H2 a y o/\Q (.bl o.isSome) H2
def Yb(ty td:TE):TE:=λσ H Q=>ty σ H λy H1=>td σ H1 λx H2=>∃a o,x=Ybc/\bN H2 a y o/\Q (.bl (!o.isSome)) H2
def abr(td ty tv:TE):TS:=λD σ H=>tv σ H λv H1=>td σ H1 λx H2=>ty σ H2 λy H3=>∃a H4,x=Ybc/\vW H3 a y v H4/\D.nx σ H4
def abt(td ty tv:TE)(rd:V->V->Hp->VK->Prop):TS:=λD σ H=>td σ H λx H1=>ty σ H1 λy H2=>∃a v,x=Ybc/\bN H2 a y (YcV)/\
 tv σ H2 λy2 H3=>rd v y2 H3 λz H4=>∃H5,vW H4 a y z H5/\D.nx σ H5
section
variable {X:Cx} {o i e value:Expr} {pos pos' tpos:Pos} {td ty tv:TE}
def bw(hu:Ytg+1<cLine)(ho:Yxb)(hi:YB1)(hs:ab6 i):PE X (.Subscript o i pos) (abl td ty):=by ext Xaf;refine Yd PySem.F.slot_dict_getitem.lookup hs YdQ;ext XaC;exact⟨PH I2 g,LS hu I2 g ry λw' s3 I3 rw'=>⟨v,H2,I3,rw',q2⟩⟩
def BJ(hu:Ytg+1<cLine)(hi:YB1)(ho:Yxb):PC X .In i o (acx ty td):=by ext Xaf;ext Xbn;ext XaC;exact acZ hu I2 g ry λs3 I3=>⟨.bl ov.isSome,H2,I3,rfl,q2⟩
def dh(hu:Ytg+1<cLine)(hi:YB1)(ho:Yxb):PC X .NotIn i o (Yb ty td):=by ext Xaf;ext Xbn;ext XaC;exact Y2 hu I2 g ry λs3 I3=>⟨.bl (!ov.isSome),H2,I3,rfl,q2⟩
def jg(hu:Ytg+1<cLine)(ho:Yxb)(hi:YB1)(hv:Yww)(hs:swapsWith value (some (.Subscript o i pos')) pos.line X.env=pure false):
  PS X (.Assign [.Subscript o i pos'] value pos) (abr td ty tv):=by
 ext XaJ;refine wpAny_Assign_Subscript (dq (hv pins s σ H _ I h) λr s1 ⟨v,H1,I1,rv,q1⟩=>dq YCr λu s2 ⟨x,H2,I2,rx,q2⟩=>dq (hi pins s2 σ H2 _ I2 q2) λiv s3 ⟨y,H3,I3,ry,a,H4,ex,g,q3⟩=>?_) hs;ext XaC;exact LR hu I3 g ry rv λs4 I4=>⟨σ,H4,I4,q3⟩
def Yy(hu:Ytg+1<cLine)(ho:Yxb)(hi:YB1)(hv:Yww)(hop:aca X op rd)
(ha:∀ov iv new,augStore i ov iv new=(do holding [new,ov,iv] (setItem ov iv new);release [new,ov,iv] [];pure .next)):PS X (.AugAssign (.Subscript o i tpos) op value pos) (abt td ty tv rd):=by
 ext XaJ;refine wpAny_AugAssign_SubscriptAny YdQ ha;ext XaC;refine LS hu I2 g ry λw' s3 I3 rw'=>dq (hv pins s3 σ H2 _ I3 q2) λw2 s4 ⟨y2,H3,I4,ry2,q3⟩=>dq (hop pins s4 σ H3 v y2 w' w2 _ I4 rw' ry2 q3) λw3 s5 ⟨z,H4,I5,rz,H5,g5,q4⟩=>?_;exact LR hu I5 g5 ry rz λs6 I6=>⟨σ,H5,I6,q4⟩
end
def Xb(h:Heap)(hb:sysModules<Yj4):fM P w H (h.push {cls:=Ymb,data:=.dict #[]}) h.objs.size Ymi:=⟨WaL _,Wck.mpr (WaC (WaY hb)),[],.nil,Heap.DictOf.new h⟩
def ZT:TE:=λ_ H Q=>∀p,H p=none->Q (Yij) (upd H p Ymi)
section
variable {X:Cx} {pos:Pos}
def gf:PE X (.Dict [] [] pos) ZT:=λpins s σ H Q I h=>wpAny_Dict_empty ⟨YaR,_,I.laid (a:=Yam) (o:=.dK []) (t':=s.toks) (λ_ _ q=>YvY) YcZ (Xb s.heap I.big),rfl,h _ (YcL)⟩
end
structure M2 (X:Cx) (o:Expr) (m:Str) (apos:Pos) (e f:Expr) (cpos:Pos):Prop where
 base:attributeBase o m X.env (YiL)=YiL
 few:((Yvl).all (λx=> !x.1)&&(backToKw cpos Ylm).all (λx=>x.1.isSome)
  &&decide (([e,f]:YhW).length+([]:List Keyword).length+Yqg<30))=true
 line:Yjb=true
 trees:Yvl=[Ybs,(false,eval f X.env)]
def IsD(H:Hp)(a:Addr):Prop:=(∃kvs,Ytv)∨∃kvs,Rd H a Yk7
def aay(I:Yah)(d:IsD H a):
  s.TypeIs YwE "dict"/\(∀b,Yob=Yx6->∃ob,Ya4=Yy7/\ob.dict=none)/\Yhc=false:=by
 rcases d with⟨kvs,e⟩|⟨kvs,e⟩
 ·obtain⟨_,hd,vs,_,dd⟩:=Ba I.cg e;ext Xcw
 ·obtain⟨_,hd,xs,_,dd⟩:=Jt I.cg e;ext Xcw
section
variable {X:Cx} {pins:List (Addr×Obj)} {σ:St} {H:Hp} {s:Shared} {a:Addr} {y d:V} {u r:Value} {o:Option V} {A:Around} {E:Value→Shared→Prop}
def aaH(hu:YtP+1<cLine)(I:Yah)(g:bN H a y o)(ry:YhE)(rd:RelV d r)(h:∀w' s',Yia->RelV (o.getD d) w'->Q w' s'):
  wpAny Yar A (call (.builtin "dict.get") [Ybc,u,r]) Q E s:=by
 ext Xa5
 ·subst ey;ext Xbs;refine call_meetsIn WdI dd.typeIs WeX (WeP _ _ _) (meets_dict_get_default (Yqx) a (LI ry) hd r) ⟨_,dd.mapOf,h _ _ (Yga) ?_⟩;rw[l];exact(Yp6).getD rd
 ·ext XaH;refine call_meetsIn WdI dd.typeIs WeX (WeP _ _ _) (meetsH_dict_get_default (tupleKind (Yqx)) a b hd r) ⟨WcW hu,k,xs,Yyn,dd,h _ _ (Yga) ?_⟩;rw[l];exact(Yp6).getD rd
end
def ZU(td ty tx:TE):TE:=λσ H Q=>td σ H λx H1=>∃a,x=Ybc/\IsD H1 a/\ty σ H1 λy H2=>tx σ H2 λz H3=>∃o,bN H3 a y o/\Q (o.getD z) H3
section
variable {X:Cx} {o e f:Expr} {apos cpos:Pos} {td ty tx:TE}
def Wo(hu:Ytg+1<cLine)(ho:Yxb)(he:PE X e ty)(hf:PE X f tx)(m:M2 X o "get" apos e f cpos):PE X (.Call (.Attribute o "get" apos) [e,f] [] cpos) (ZU td ty tx):=by
 ext Xaf;refine wpAny_Call_method m.base m.few m.line PySem.F.plainAttrs_dict WdI PySem.F.type_dict_get (dq Yej λu s1 ⟨x,H1,I1,rx,a,ex,d,q1⟩=>?_);ext XaC;obtain⟨t1,t2,_⟩:=aay I1 d;refine⟨t1,t2,?_⟩;rw[m.trees]
 refine Wcy rfl (Web (Wc2 (dq YCs λiv s2 ⟨y,H2,I2,ry,q2⟩=>
  Wc2 (dq (hf pins s2 σ H2 _ I2 q2) λfv s3 ⟨z,H3,I3,rz,ov,g,q3⟩=>WdM ?_))))
 exact aaH hu I3 g ry rz λw' s4 I4 rw'=>⟨_,H3,I4,rw',q3⟩
end
section
variable {X:Cx} {pins:List (Addr×Obj)} {σ:St} {H:Hp} {s:Shared} {a:Addr} {kvs:List (Key×V)} {A:Around} {E:Value→Shared→Prop}
end
section
variable {X:Cx} {pins:List (Addr×Obj)} {σ:St} {H:Hp} {s:Shared} {a:Addr} {y:V} {u:Value} {A:Around} {E:Value→Shared→Prop}
end
end L2
namespace L2
open PySem PySem.Spec PyProof.Rows
section
variable {prog:Program} {w:World} {A:Around} {E:Value→Shared→Prop}
end
section
variable {X:Cx}
end
end L2
namespace L2
open PySem PySem.Spec PyProof.Rows
def JH:bootBuiltins "reversed"=some (.type "reversed"):=by ext XaX
section
variable {X:Cx} {pins:List (Addr×Obj)} {σ:St} {H:Hp} {s:Shared} {h':Heap}
def Inv.So{t':Nat}{ch:Ybw}(I:Yah)(k:∀b o,b∉ch->Ya4=YaB->Yb9=YaB)(hf:∀b∈ch,Ym4):Inv X pins σ H {s with heap:=h',toks:=t'}:=by
 have nit:∀b u,H b=YaY->b∉ch:=λb u e z=>by have q:=(hf b z).1;ext Xgk
 refine I.step (g':=s.gens) (d':=s.drawn) (ch:=ch) YgS YyI YpX
  (λ_ _ _ _ n=>n) YwT (λ_ _ e=>e) (λ_ _ _ e=>e) Yuu (λm hm=>?_) Ywz I.bare
 ·ext Xdh
 ·ext XcU
  ·rw[z];exact nit b u e
  ·exact nit c _ z
def Inv.Er{t':Nat}{ch:Ybw}{T:Addr}{ob:HO}(I:Yah)(k:∀b o,b∉ch->Ya4=YaB->Yb9=YaB)(hf:∀b∈ch,Ym4)(hT:Yam<=T)
(new:fM X.prog X.w (upd H T ob) h' T ob):Inv X pins σ (upd H T ob) {s with heap:=h',toks:=t'}:=by
 have hn:H T=none:=I.cg.fresh hT;have nit:∀b u,H b=YaY->b∉ch:=λb u e z=>by have q:=(hf b z).1;ext Xgk
 refine I.step (g':=s.gens) (d':=s.drawn) (ch:=ch) YgS YyI YpX
  (λb o _ e n=>?_) YwT (λb xs e=>?_) (λb o u e=>?_) (λb ps e=>⟨#[],?_⟩) (λm hm=>?_) Ywz I.bare
 ·rw[aA (WaY (WaU YrW hT))];exact n
 ·rw[aA (ao e hn)];exact e
 ·rw[aA (ao e hn)];exact e
 ·rw[aA (ao e hn),e];simp
 ·ext Xdh
 ·by_cases hb:b=T
  ·subst hb;rw[ab]at e;cases e;exact new
  ·rw[aA hb]at e;refine(I.cg b u e).xV YEe Yt1 λc xs q=>by ext XeV
   rcases hc with z|z
   ·rw[z];exact nit b u e
   ·exact nit c _ z
def Inv.lock(I:Yah)(h:H d=YaY)(mu:Zh (YaY)):∃od,Inv X pins σ YqF s:=by
 have x:=I.cg d u h;have ex:∃od,YmY=some od:=by
  cases u with
  |lst xs=>obtain⟨_,_,_,_,e⟩:=x;exact YiW
  |dK kvs=>ext Xbo;exact⟨o,e⟩
  |dT kvs=>ext Xbo;exact⟨o,e⟩
  |set S n=>ext XgM;exact⟨o,e⟩
  |ins C dx fs=>obtain⟨_,_,_,e,_⟩:=x;exact YiW
  |ext φ=>obtain⟨_,⟨_,e⟩,_⟩:=x;exact YiW
  |_=>exact False.elim mu
 obtain⟨od,e⟩:=ex;have new:fM X.prog X.w YqF s.heap d Yh5:=by
  refine⟨e,x.xV (λb v _ q=>q) (λb q=>?_) λb xs q=>?_⟩
  ·rw[aA Ys7];exact q
  ·rw[aA Ys7];exact q
 exact⟨od,I.write (x:=d) (e:=d) (t':=s.toks) (h':=s.heap) (by rw[h];exact mu) YwF (λb v _ q=>q) ⟨od,e⟩ new⟩
def Inv.OZ(I:Yah)(h:H d=YaY)(mu:Zh (YaY)):∀o' u',X.H_0 d≠some (.jh o' u'):=λo' u' e=>by have q:=I.base.Jl d o' u' e;rw[h]at q;cases q;exact mu
def Inv.unlock(I:Yah)(h:H d=YAA)(hn:∀o' u',X.H_0 d≠some (.jh o' u')):Inv X pins σ (upd H d u) s:=by
 have neH:∀b o,H b=YaB->(∀o' u',o≠ .jh o' u')->b≠d:=λb o e hne z=>by rw[z,h]at e;cases e;exact hne _ _ rfl
 have neN:∀b,H b=none->b≠d:=λb e z=>by rw[z,h]at e;cases e
 refine⟨I.ok,I.os,I.bare,⟨I.base.keep,I.base.slot,λb o e n hx=>?_,I.base.there,λb xs e=>?_,λb o x e=>?_,λb ps e=>?_⟩,I.loc,I.cell,?_,λx c e=>?_,YcB,λb o e=>?_,I.len⟩
 ·rw[aA (neN b (YhQ))];exact YhQ
 ·have q:=I.base.Mh b xs e;rw[aA (neH b _ q YtG)];exact q
 ·have q:=I.base.Jl b o x e;rw[aA (λz=>by rw[z]at e;exact hn _ _ e)];exact q
 ·obtain⟨m,q⟩:=I.base.Ml b ps e;exact⟨m,by rw[aA (neH b _ q YtG)];exact q⟩
 ·rw[aA (neN _ I.free)];exact I.free
 ·rw[aA (neN c (Yym))];exact Yym
 ·obtain⟨e,n,r⟩:=I.pin p hp;exact⟨e,by rw[aA (neN _ n)];exact n,r⟩
 ·by_cases hb:b=d
  ·rw[hb,ab]at e;cases e;rw[hb];obtain⟨_,x⟩:=I.cg d _ h;exact x.xV (λc v _ q=>q) YyH λc xs q=>by rw[aA YgH];exact q
  ·rw[aA hb]at e;exact(I.cg b o e).xV (λc v _ q=>q) YyH λc xs q=>by rw[aA YgH];exact q
end
def abh(t:TS):TS:=λD σ H=>∃d u,H d=YaY/\Zh (YaY)/\∀od,t ⟨λσ' H'=>H' d=YAA/\D.nx σ' Yo2,λv H'=>H' d=YAA/\D.rt v Yo2,λσ' H'=>H' d=YAA/\D.bk σ' Yo2,λσ' H'=>H' d=YAA/\D.ct σ' Yo2⟩ σ YqF
def ZS(t:TE):TE:=λσ H Q=>∃d u,H d=YaY/\Zh (YaY)/\∀od,t σ YqF λv H'=>H' d=YAA/\Q v Yo2
section
variable {X:Cx}
def Ae{st:Stmt}{t:TS}(h:PS X st t):PS X st (abh t):=by
 intro pins s σ H D I hw;ext XeM;refine dq YAe λf s1 q=>?_;cases f with
 |next=>ext Xbi
 |brk=>ext Xbi
 |cont=>ext Xbi
 |ret v=>obtain⟨x,σ',H',I2,r,e,q⟩:=q;exact⟨x,σ',_,YD6,r,q⟩
def YD(h:PE X e t):PE X e (ZS t):=by ext Xe1;ext XeM;refine dq YAe λv s1 ⟨x,H1,I2,r,e2,q⟩=>?_;exact⟨x,_,I2.unlock e2 (I.OZ hd mu),r,q⟩
def EJ(I:Yah)(o:Obj)
(T:Turn X.prog X.w X.K tg J [Yam] s.heap.objs.size tn)(st:tn 0 (s.heap.push o))(q:R J H):PIE X pins σ tg R YAm {s with heap:=s.heap.push o,toks:=tk}:=by
 refine⟨Yam,[Yam],tn,J,H,rfl,I.kept λb ob e=>Yhe,T,st,Yf1,q⟩;have e:b=Yam:=by ext XcH
 subst e;exact I.RJ YcZ (YcL)
end
section
variable {X:Cx} {tg:Expr}
end
def Itv(K:Yaj)(a:Addr)(n:Nat):It:=⟨λi H=>i<n/\∃(xs:List V)(x:V),YcS/\xs[n-1-i]? =YeH,λi H x H'=>H'=H/\∀xs,YcS->xs[n-1-i]? =YeH,λi _=>n<=i⟩
def VS{P:Program}{w:World}{K:Yaj}{tg:Expr}(a it:Addr)(n:Nat):Turn P w K tg (Itv K a n) [it] it (λi h=>i<=n/\h.IsRevIter it a ((n:Int)-1-(i:Nat))) where
 mem:=by simp
 obj:=λi h st b hb=>by
  have e:b=it:=by ext XcH
  subst e;obtain⟨_,o,e,c,d⟩:=st;ext Xdu
 keep:=λi h h' st k=>⟨st.1,st.2.at λo e=>k it Yao o e⟩
 item:=by ext Xab;obtain⟨hin,xs,x,hq,hx⟩:=hg;ext XbS;ext Xbu;obtain⟨_,hit⟩:=st;have e1:(n:Int)-1-((i:Nat):Int)=((n-1-i:Nat):Int):=Yad;rw[e1]at hit;refine wpAny_pyNext_rev_item hit p.isList (x:=u) YjO λh' st' sb=>?_;have e2:((n-1-i:Nat):Int)-1=(n:Int)-1-((i+1:Nat):Int):=Yad;rw[e2]at st';ext Xbd;exact⟨u,rfl,Jg (s:={s with heap:=h'}) e c d YeP ⟨x,H,I1,ru,⟨Zbf⟩,⟨hin,st'⟩,YfX⟩⟩
 done:=by ext Xab;ext Xbu;obtain⟨hin,hit⟩:=st;have hge:n<=i:=hg;have e1:(n:Int)-1-((i:Nat):Int)= -1:=Yad;rw[e1]at hit;exact wpAny_pyNext_rev_end Yb4 hit λh' eb=>⟨Zah⟩
 self:=λA i s Q E st h=>wpAny_pyIter_revIter st.2 h
def acW(K:Yaj)(ta:TA):TI:=λσ H R=>ta σ H λvs H1=>∃(a:Addr)(xs:List V),vs=Yvz/\YsX/\R (Itv K a xs.length) H1
section
variable {X:Cx} {tg:Expr}
def OP{e:Expr}{ta:TA}{p pos:Pos}(hg:Gl X "reversed")(hm:X.mg "reversed"=none)(ha:PA X [e] ta)(hs:Yh6=[Ybs]:=by rfl):PI X tg (.Call (.Name "reversed" p) [e] [] pos) (acW X.K ta):=by
 ext Xbl;refine Call_ (uA I hg hm JH YzR);obtain⟨a,xs,e,hq,q⟩:=q1;subst e;cases r1 with
 |cons r rr=>
  ext XfC;have hl:=rv.length;have e1:((its.toArray.size:Nat):Int)-1=(xs.length:Int)-1-((0:Nat):Int):=by simp only[WaS];omega
  refine call_reversed_list p'.isList (wpAny_pyIter_revIter (l:=a) (i:=((its.toArray.size:Nat):Int)-1) Yjm ?_);refine EJ (tk:=Ym9) I1 _ (VS a _ xs.length) ⟨WaL _,?_⟩ q;rw[<-e1];exact Yjm
end
def Its(x:Str):It:=⟨λi _=>i<x.cps.size,λi H v H'=>H'=H/\∃c,x.cps[i]? =Ycf/\v=YsN,λi _=>x.cps.size<=i⟩
def N7{P:Program}{w:World}{K:Yaj}{tg:Expr}(it:Addr)(x:Str)(t:Tok)(ty:String)(hty:ty="str_ascii_iterator"∨ty="str_iterator"):
  Turn P w K tg (Its x) [it] it YwS where
 mem:=by simp
 obj:=λi h st b hb=>by
  have e:b=it:=by ext XcH
  subst e;obtain⟨o,e,c,d⟩:=st;ext Xdu
 keep:=λi h h' st k=>let⟨o,ho,r⟩:=st;⟨o,k it Yao o ho,r⟩
 item:=by
  ext Xab;ext Xbu;have W:Walks X.prog X.w X.A it [it] [it] x.cps.size (SignAt x) YwS:=by
   ext Xg8
   ·rw[e];exact Walks.strAscii Yb4 it x t
   ·rw[e];exact Walks.strWide Yb4 it x t
  have hno:["enumerate","zip","dict_itemiterator","dict_reverseitemiterator","odict_iterator","itertools.zip_longest","itertools.pairwise"].contains ty=false:=by
   ext Xg8
   ·rw[e];decide
   ·rw[e];decide
  ext XfS;obtain⟨c,u,hcx,rfl⟩:=hv;ext Xb0;obtain⟨oi,e,cc,dd⟩:=id st';exact⟨Zaa,Jg (s:={s with heap:=h',toks:=tk}) e cc dd hno ⟨YsN,H,I1,⟨u,rfl⟩,⟨rfl,c,hcx,rfl⟩,st',YfX⟩⟩
 done:=by
  ext Xab;ext Xbu;have hx:x.cps[i]? =none:=WdG hg;ext Xg8
  ·rw[e]at st;exact wpAny_pyNext_ascii_end Yb4 st hx λh' eb=>⟨Zah⟩
  ·rw[e]at st;exact wpAny_pyNext_wide_end Yb4 st hx λh' eb=>⟨Zah⟩
 self:=λA i s Q E st h=>by
  ext Xg8
  ·rw[e]at st;exact wpAny_pyIter_striter_ascii st h
  ·rw[e]at st;exact wpAny_pyIter_striter_wide st h
def acV(te:TE):TI:=λσ H R=>te σ H λv H1=>∃x,v=Yx5/\R (Its x) H1
def aae{X:Cx}{tg e:Expr}{te:TE}(he:Ymp):PI X tg e (acV te):=by
 ext Xbl;refine dq Yca λv s1 ⟨y,H1,I1,r1,x,ex,q⟩=>?_;subst ex;obtain⟨t,rfl⟩:=r1;cases ha:x.cps.all (· <128)
 ·exact wpAny_pyIter_wide ha (EJ (tk:=Ym9) I1 _ (N7 _ x t "str_iterator" YnL) Yjm q)
 ·exact wpAny_pyIter_ascii ha (EJ (tk:=Ym9) I1 _ (N7 _ x t "str_ascii_iterator" YwF) Yjm q)
section
variable {prog:Program} {w:World} {A:Around} {E:Value→Shared→Prop} {s:Shared}
def LK(hd:(d==sysModules)=false)(ho:YmY=YaB)(hc:Yu9)(hdat:o.data=YiR)
(hQ:Q YAm {s with heap:=s.heap.push {cls:=.type "dict_keyiterator",data:=.fields #[.ref d,.int 0 0,.int es.size 0,.int ep 0]}}):
  wpAny YaA A (pyIter (.ref d)) Q E s:=by
 have hT:s.TypeIs (.ref d) "dict":=⟨o,ho,hc.1⟩;refine WdH hT F.slot_dict_iter (WbS F.slot_dict_iter hT F.entry_dict_iter ?_ (F.args_dict_iter_1 _));unfold Builtin.«dict.__iter__»;ext Xdo;unfold Builtin.Dict.dictSlotNone;refine Wab (wpAny_notOrdered_dict hT ?_);show wpAny _ _ (pure (Yvc)) _ _ s;refine Yph;show wpAny _ _ (Builtin.Dict.showsAll d>>=_) _ _ s;unfold Builtin.Dict.showsAll;rw[Wae (by rw[hd];exact WaN)];ext Xf5;refine Wab (WeF ho hdat ?_);refine Wab (wpAny_dictEpoch ho hdat ?_);refine Wab (WbJ (Waj ⟨Zaa,"dict_keyiterator",_,Ysz,Yus,?_⟩));simpa[rawInt]using hQ
def Kt(hit:YzY)(hod:YmY=some od)(hdd:od.data=YiR)
(hsz:es.size=n)(hx:es[i]? =some en)(hQ:∀h',h'.IsKeyIter it d YcG n ep->Heap.SameBut it s.heap h'->Q (some en.key) {s with heap:=h'}):wpAny YaA A Ys1 Q E s:=by
 ext XgU
 refine Wab (WdN (Wcr (name:=Yhk) hit.typeIs WcE
  (YvI)))
 ext Xf5;ext Xdo;ext Xdo;first|refine Wab (Wct hit.typeIs (Waj ?_))|refine Wab (WcT hit.typeIs (Waj ?_))
 ext Xam;rw[Wae Yao];refine Yph;obtain⟨hlt',hen⟩:=Array.getElem?_eq_some_iff.mp hx;simp only[show ¬((i:Int)<0)from by omega,Wca,Wbl,Wby hlt'];ext Xdo;first|refine Wab (Wct hit.typeIs (Waj ?_))|refine Wab (WcT hit.typeIs (Waj ?_))
 refine Wab (wpAny_isOneOf_keyiter hit.typeIs ?_);show wpAny _ _ (setField Ydk 1 (rawInt ((i:Int)+1))>>=_) _ _ s;refine YvJ;have hit':(Yix).IsKeyIter it d YcG n ep:=⟨_,Wdg _ ho (Obj.isFreed_of_fields (Obj.data_mapFields hd _)),(Obj.cls_mapFields ..).trans hc,by rw[Obj.data_mapFields hd];simp[rawInt]⟩
 refine Wab (Wdm ?_);refine Wab (wpAny_isOneOf_keyiter (s:={s with heap:=Yix}) hit'.typeIs ?_);show wpAny _ _ (pure es[i].key) _ _ _;rw[hen];exact Waj (Waj ⟨Zaa,Waj (hQ _ hit' (WcS ..))⟩)
def Dv(hh:YhX=none)(hit:YzY)(hod:YmY=some od)(hdd:od.data=YiR)
(hsz:es.size=n)(hge:n<=i)(hQ:∀h',Heap.ExtBut it s.heap h'->Q none {s with heap:=h'}):wpAny YaA A Ys1 Q E s:=by
 ext XgU
 refine Wab (WdN (Wcr (name:=Yhk) hit.typeIs WcE
  (YvI)))
 ext Xf5;ext Xdo;ext Xdo;first|refine Wab (Wct hit.typeIs (Waj ?_))|refine Wab (WcT hit.typeIs (Waj ?_))
 ext Xam;rw[Wae Yao];refine Yph;have hge':es.size<=i:=by rw[hsz];exact hge
 simp only[show ¬((i:Int)<0)from by omega,Wca,Wbl,WdG hge'];ext Xdo;first|refine Wab (Wct hit.typeIs (Waj ?_))|refine Wab (WcT hit.typeIs (Waj ?_))
 show wpAny _ _ (setField Ydk 0 .none>>=_) _ _ s;refine YvJ;show wpAny _ _ (Ygn>>=_) _ _ _;ext XaA;rw[show A.in1.handled=none from hh];refine YCh;refine Wab (WdT (T:="StopIteration") (b:=true) Ysz isSubtype_stop ?_);exact Waj (hQ _ (((WcS ..).extBut.push _).push _))
end
def WT{κ:Type}{kvs:YdT}{vs:Yrd}(h:YiX):∀{i:Nat}{k:κ}{v:V},kvs[i]? =Yya->∃u,vs[i]? =some (k,u)/\YhF:=by
 unfold KV at h;induction h with
 |nil=>intro i k v e;simp at e
 | @cons a b l₁ l₂ r t ih=>
   intro i k v e;cases i with
   |zero=>ext Xcr;refine⟨b.2,?_,r.2⟩;simp only[WbN];exact Wa6 some (Prod.ext r.1.symm rfl)
   |succ j=>simp only[WeS]at e ⊢;exact ih e
def Ir{α β:Type}{G:α->β->Prop}{l₁:Ydy}{l₂:List β}(h:Paired G l₁ l₂):∀{i:Nat}{a:α},l₁[i]? =some a->∃b,l₂[i]? =Yt3/\G a b:=by
 induction h with
 |nil=>intro i a e;simp at e
 | @cons a b l₁ l₂ r t ih=>
   intro i a' e;cases i with
   |zero=>ext Xcr;exact⟨b,rfl,r⟩
   |succ j=>simp only[WeS]at e ⊢;exact ih e
def Wg(h:F4 k u=true):RelV (kV k) u:=by
 rcases dc h with⟨i,t,rfl,rfl⟩|⟨x,t,rfl,rfl⟩
 ·exact Ygb
 ·exact Ygb
section
variable {X:Cx} {pins:List (Addr×Obj)} {σ:St} {H:Hp} {s:Shared} {d:Addr} {o:Obj}
def Inv.U3(I:Yah)(h:H d=Yhz):
  (d==sysModules)=false/\YmY=YaB/\Yu9/\∃(es:Array DictEntry)(ep:Nat)(vs:List (Key×Value)),o.data=YiR/\es.size=YbM/\YiX/\s.heap.DictAt (Yqx) d vs ep:=by
 obtain⟨hd,z,hs,vs,kv,o',es,ep,ho,hx,hdt,r⟩:=I.cg d _ h;rw[hd]at ho;cases ho;refine⟨hs,hd,hx,es,ep,vs,hdt,?_,kv,o,es,hd,hx,hdt,r⟩;have l1:=r.2.1.length;have l2:YbM=Yd7:=Wcs kv;rw[WbC]at l1;omega
def Inv.aaz{kvs:YoI}(I:Yah)(h:H d=Yq4):
  (d==sysModules)=false/\YmY=YaB/\Yu9/\∃(es:Array DictEntry)(ep:Nat),o.data=YiR/\es.size=YbM/\
   ∀(i:Nat)(k:List Key)(v:V),kvs[i]? =Yya->∃(en:DictEntry)(q:Addr),es[i]? =some en/\en.key=.ref q/\H q=YhO:=by
 obtain⟨hd,z,hs,xs,pr,o',es,ep,ho,hx,hdt,he,_⟩:=I.cg d _ h;rw[hd]at ho;cases ho;refine⟨hs,hd,hx,es,ep,hdt,?_,λi k v e=>?_⟩
 ·have l1:es.size=Ybp:=size_of_entries he;have l2:YbM=Ybp:=Wcs pr;omega
 ·obtain⟨b,hb,e1,e2,_⟩:=Ir pr e;have q:=entry_at he i;rw[hb]at q;exact⟨_,b.2.1,q,rfl,e2⟩
end
def Itk(d:Addr)(o:Obj)(kvs:Yce):It:=⟨λi H=>H d=Yhz/\i<YbM,λi H x H'=>H'=H/\∃k v,kvs[i]? =Yya/\x=kV k,λi H=>H d=Yhz/\YbM<=i⟩
def ab9(d:Addr)(o:Obj)(kvs:YoI):It:=⟨λi H=>H d=Yq4/\i<YbM,λi H x H'=>H'=H/\∃(k:List Key)(v:V)(q:Addr),kvs[i]? =Yya/\x=.ref q/\H q=YhO,λi H=>H d=Yq4/\YbM<=i⟩
def Itd(d:Addr)(o:Obj)(kvs:Yce):It:=⟨λi H=>H d=Yhz/\i<YbM,λi H x H'=>H'=H/\∃k,kvs[i]? =some (k,x),λi H=>H d=Yhz/\YbM<=i⟩
def As{o:Obj}{es es':Array DictEntry}{ep ep':Nat}(h:o.data=YiR)(h':o.data=.dict es' ep'):es'=es/\ep'=ep:=by rw[h]at h';cases h';exact Ytb
section
variable {P:Program} {w:World} {K:PySem.W.Frag} {tg:Expr} {d:Addr} {o:Obj} {es:Array DictEntry} {ep:Nat}
def TR{kvs:Yce}(it:Addr)(hod:o.data=YiR):Turn P w K tg (Itk d o kvs) [it] it Yri where
 mem:=by simp
 obj:=λi h st b hb=>by
  have e:b=it:=by ext XcH
  ext Xa8
 keep:=λi h h' st k=>st.at λoi e=>k it Yao oi e
 item:=by ext Xc5;refine wpAny_pyNext_dict_item st hm hu λkey h' hkey st' sb=>?_;ext Xaw;refine⟨key,rfl,Jg (s:={s with heap:=h'}) e c dd YeP ⟨kV k,H,I1,Wg (show F4 k key=true from hkey),⟨rfl,k,v,hkv,rfl⟩,?_,YfX⟩⟩;show h'.IsKeyIter it d YcG kvs.length _;rw[hl];exact st'
 done:=by ext Xb2;ext Xbu;ext XaD;ext Xgb
 self:=λA i s Q E st h=>wpAny_pyIter_keyiter st h
def QG{kvs:YoI}(it:Addr)(hod:o.data=YiR):Turn P w K tg (ab9 d o kvs) [it] it Yri where
 mem:=by simp
 obj:=λi h st b hb=>by
  have e:b=it:=by ext XcH
  ext Xa8
 keep:=λi h h' st k=>st.at λoi e=>k it Yao oi e
 item:=by ext Xc3;ext Xbr;obtain⟨en,q,hen,hkey,hq⟩:=ent i k v hkv;refine Kt st hgd hdt hsz hen λh' st' sb=>?_;ext Xaw;exact⟨en.key,rfl,Jg (s:={s with heap:=h'}) e c dd YeP ⟨.ref q,H,I1,hkey,⟨rfl,k,v,q,hkv,rfl,hq⟩,st',YfX⟩⟩
 done:=by ext Xc3;ext Xgb
 self:=λA i s Q E st h=>by refine WdH st.typeIs We1 (WbS We1 st.typeIs F.entry_dict_keyiterator_iter ?_ (F.args_dict_keyiterator_iter_1 _));show wpAny _ _ (ret Ydk) _ _ s;exact Waj ⟨Zaa,"dict_keyiterator",_,st.typeIs,Yus,h⟩
def TN{kvs:Yce}(it:Addr)(hod:o.data=YiR):Turn P w K tg (Itd d o kvs) [it] it (λi h=>h.IsValIter it d i kvs.length ep) where
 mem:=by simp
 obj:=λi h st b hb=>by
  have e:b=it:=by ext XcH
  ext Xa8
 keep:=λi h h' st k=>st.at λoi e=>k it Yao oi e
 item:=by ext Xc5;refine wpAny_pyNext_values_item st hm hu λh' st' sb=>?_;ext Xaw;refine⟨u,rfl,Jg (s:={s with heap:=h'}) e c dd YeP ⟨v,H,I1,ru,⟨rfl,k,hkv⟩,?_,YfX⟩⟩;show h'.IsValIter it d YcG kvs.length _;rw[hl];exact st'
 done:=by ext Xb2;ext Xbu;ext XaD;have hl:YbM=Yd7:=Wcs kv;rw[hl]at st;exact wpAny_pyNext_values_end Yb4 st hm (WdL Yad) λh' eb=>⟨Zaw⟩
 self:=λA i s Q E st h=>wpAny_pyIter_valiter st h
end
def abP(td:TE):TI:=λσ H R=>td σ H λx H1=>∃d o,x=.ref d/\((∃kvs,H1 d=Yhz/\R (Itk d o kvs) H1)∨∃kvs,H1 d=Yq4/\R (ab9 d o kvs) H1)
def abM(td:TE):TI:=λσ H R=>td σ H λx H1=>∃d o kvs,x=.ref d/\H1 d=Yhz/\R (Itd d o kvs) H1
section
variable {X:Cx} {tg e:Expr} {td:TE} {apos cpos:Pos}
def Hf(he:PE X e td):PI X tg e (abP td):=by
 ext Xbl;refine dq Yca λu s1 ⟨x,H1,I1,rx,d,o,ex,q⟩=>?_;subst ex;obtain rfl:u=Yvc:=rx;rcases q with⟨kvs,hd,q⟩|⟨kvs,hd,q⟩
 ·ext Xfs;refine LK hs hgd hx hdt (EJ (tk:=Ym9) I1 _ (TR _ hdt) YAQ q);rw[hsz]<;>rfl
 ·obtain⟨hs,hgd,hx,es,ep,hdt,hsz,ent⟩:=I1.aaz hd;refine LK hs hgd hx hdt (EJ (tk:=Ym9) I1 _ (QG _ hdt) YAQ q);rw[hsz]<;>rfl
def LB(he:PE X e td)(hbase:attributeBase e "values" X.env (YgD)=YgD:=by rfl)(hline:Yjb=true:=by rfl):PI X tg (.Call (.Attribute e "values" apos) [] [] cpos) (abM td):=by
 ext Xbl;refine wpAny_Call_method (T:="dict") (id:="dict.values") hbase rfl hline F.plainAttrs_dict F.slot_dict_values F.type_dict_values (dq Yca λu s1 ⟨x,H1,I1,rx,d,o,kvs,ex,hd,q⟩=>?_);subst ex;obtain rfl:u=Yvc:=rx;ext Xfs;have hl:YbM=Yd7:=Wcs kv;refine⟨hm.dictOf.typeIs,hm.dictOf.mapOf.noDict,?_⟩;have I2:Inv X pins σ H1 {s1 with heap:=s1.heap.push {cls:=.type "dict_values",data:=.fields #[.ref d]}}:=I1.kept (t':=Ym9) λb ob q=>YvY;have fin:wpAny Yar X.A (pyIter (YrH)) YtK X.xe {s1 with heap:=s1.heap.push {cls:=.type "dict_values",data:=.fields #[.ref d]}}:=by refine wpAny_pyIter_values (d:=d) (knd:=Yqx) Yjm (hm.push _) (EJ (tk:=Ym9) I2 _ (TN _ hdt) YAQ q);rw[hl]<;>rfl
 show wpAny _ _ (callWith cpos (.builtin "dict.values") [.ref d] [] []) _ X.xe s1;exact method_meetsIn F.slot_dict_values F.entry_dict_values rfl (WdX ⟨rfl,hm.dictOf.typeIs,F.args_dict_values_1 _,_,meets_dict_values (Yqx) d hs,⟨vs,hm.dictOf⟩,fin⟩)
end
def Ite(K:Yaj)(a:Addr):It:=⟨λi H=>∃(xs:List V)(x:V),YcS/\xs[i]? =YeH,λi H v H'=>∃T x,v=.ref T/\H T=none/\H'=upd H T YDE/\∀xs,YcS->xs[i]? =YeH,λi H=>∃xs:YcT,YcS/\Ybp<=i⟩
def TU{P:Program}{w:World}{K:Yaj}{elts:YhW}{kk:Nat}{tpos:Pos}(a e it:Addr):
  Turn P w K Ygv (Ite K a) [e,it] e (λi h=>(∃old,IsEnum h e it ((i:Nat):Int) old)/\h.IsListIter it a i/\e≠it) where
 mem:=by simp
 obj:=λi h st b hb=>by
  obtain⟨⟨old,he⟩,⟨o,ho,hc,hd⟩,_⟩:=st;have e':b=e∨b=it:=by ext XcH
  rcases e' with z|z
  ·rw[z];exact⟨_,he,Yq2⟩
  ·rw[z];exact⟨o,ho,λv q=>by rw[hd]at q;cases q⟩
 keep:=λi h h' st k=>let⟨⟨old,he⟩,hi,hne⟩:=st;⟨⟨old,k e Yao _ he⟩,hi.at λo q=>k it Yao o q,hne⟩
 item:=by
  ext Xg1;obtain⟨xs,x,hq,hx⟩:=hg;ext XbS;have hel:e<Yam:=WaB he;have hil:it<Yam:=by obtain⟨_,q,_⟩:=hit;exact WaB q
  refine wpAny_pyNext_enum_item he hit p.isList (x:=u) YjO hne λh' ho hit' hT hsz hk=>?_;refine⟨Zaa,wpAny_letOwnedTupleGo_enum (s:={s with heap:=h',toks:=s.toks+1}) ho λh'' he' sb=>?_⟩;have hT2:Yo8=some {cls:=Yb2,data:=.seq #[.int i s.toks,u]}:=(sb.2 _ (Wb0 hel)).trans hT;have new:fM X.prog X.w Yr7 h'' s.heap.objs.size YDE:=⟨YCe,[.int i s.toks,u],.cons YeS (.cons ru .nil),⟨_,hT2,ZaF⟩⟩
  have I1:Inv X pins σ Yr7 {s with heap:=h'',toks:=s.toks+1}:=I.Er (ch:=[e,it]) (λb ob hb q=>(sb.2 b YrI).trans (hk b ob YrI YrI q)) hf YcZ new
  refine⟨YaR,_,I1,rfl,⟨_,x,rfl,YcL,Zbf⟩,⟨⟨u,?_⟩,hit'.at λo q=>(sb.2 it (WaC hne)).trans q,hne⟩,Yf1⟩
  ·have e1:((i+1:Nat):Int)=(i:Int)+1:=Yad;rw[e1];exact he'
  ·have hb':b<Yam:=by
    have e':b=e∨b=it:=YuX;rcases e' with z|z
    ·rw[z];exact hel
    ·rw[z];exact hil
   rw[aA (WaY hb')];exact(hf b hb).1
 done:=by ext Xg1;ext Xc8;exact wpAny_pyNext_enum_end Yb4 he hit p.isList YdZ λh' eb=>⟨rfl,I.turned (t':=s.toks) (λb o hb q=>eb b o hb q) f0 f1 f3 f4 f5⟩
 self:=λA i s Q E st h=>let⟨⟨_,he⟩,_⟩:=st;wpAny_pyIter_enum he h
def abQ(K:Yaj)(ta:TA):TI:=λσ H R=>ta σ H λvs H1=>∃a xs,vs=Yvz/\YsX/\R (Ite K a) H1
def YB{X:Cx}{e:Expr}{ta:TA}{p pos tpos:Pos}{elts:YhW}{kk:Nat}(hg:Gl X "enumerate")(hm:X.mg "enumerate"=none)(ha:PA X [e] ta)(hs:Yh6=[Ybs]:=by rfl):
  PI X Ygv (.Call (.Name "enumerate" p) [e] [] pos) (abQ X.K ta):=by
 ext Xbl;refine Call_ (uA I hg hm boot_enumerate YzR);obtain⟨a,xs,ex,hq,q⟩:=q1;subst ex;cases r1 with
 |cons r rr=>
  ext XfC;refine call_enumerate_list p'.isList λh' he hit hsz hk=>wpAny_pyIter_enum he ?_;ext Xbq;refine⟨YaJ+1,[YaJ+1,YaJ],_,_,H1,rfl,I2,TU a (YaJ+1) s1.heap.objs.size,⟨⟨.none,he⟩,hit,Nat.succ_ne_self _⟩,Yf1,q⟩;have e':b=YaJ+1∨b=YaJ:=by ext XcH
  have hle:YaJ<=b:=by
   rcases e' with z|z
   ·rw[z];ext XeI
   ·rw[z];exact Wau _
  exact Ynh
def LY:bootBuiltins "zip"=some (Yve):=by ext XaX
def Itz(K:Yaj)(a b:Addr):It:=
 ⟨λi H=>∃(xs ys:List V)(x y:V),YcS/\Yvb/\xs[i]? =YeH/\ys[i]? =Ysw,
  λi H v H'=>∃T x y,v=.ref T/\H T=none/\H'=upd H T (.tup [x,y])/\YEa/\∀ys,Yvb->ys[i]? =Ysw,
  λi H=>∃xs ys:YcT,YcS/\Yvb/\(Ybp<=i∨YwY<=i)⟩
def VR{P:Program}{w:World}{K:Yaj}{elts:YhW}{kk:Nat}{tpos:Pos}{a b z TI TO i1 i2:Addr}(D:ZipApart z TI TO i1 i2 a b):
  Turn P w K Ygv (Itz K a b) YA3 z (λi h=>IsZip h z TI TO .none/\IsPair h TI (.ref i1) (.ref i2)/\(∃x y,IsPair h TO x y)/\h.IsListIter i1 a i/\h.IsListIter i2 b i) where
 mem:=by simp
 obj:=λi h st c hc=>by
  obtain⟨hz,hTI,⟨x,y,hTO⟩,⟨o1,e1,_,d1⟩,⟨o2,e2,_,d2⟩⟩:=st;have e':c=z∨c=TI∨c=TO∨c=i1∨c=i2:=by simpa using hc
  rcases e' with q|q|q|q|q
  ·rw[q];exact⟨_,hz,Yq2⟩
  ·rw[q];exact⟨_,hTI,Yq2⟩
  ·rw[q];exact⟨_,hTO,Yq2⟩
  ·rw[q];exact⟨o1,e1,λv q=>by rw[d1]at q;cases q⟩
  ·rw[q];exact⟨o2,e2,λv q=>by rw[d2]at q;cases q⟩
 keep:=λi h h' st k=>by obtain⟨hz,hTI,⟨x,y,hTO⟩,h1,h2⟩:=st;exact⟨k z Yao _ hz,k TI Yao _ hTI,⟨x,y,k TO Yao _ hTO⟩,Zb6⟩
 item:=by
  ext XfP;obtain⟨xs,ys,x,y,hqx,hqy,hx,hy⟩:=hg;ext XdM;ext Xel;have hzl:z<Yam:=WaB hz;refine wpAny_pyNext_zip_item D hz hTI hTO h1 h2 p.isList p2.isList (x:=u) (y:=u2) YjO (by simpa using hu2) λh' z' TO' h1' h2' hT hsz hk=>?_;refine YhR;have hT2:Yo8=some {cls:=Yb2,data:=.seq #[u,u2]}:=(sb.2 _ (Wb0 hzl)).trans hT;have new:fM X.prog X.w Ytr h'' s.heap.objs.size (.tup [x,y]):=⟨YCe,[u,u2],.cons ru (.cons ru2 .nil),⟨_,hT2,ZaF⟩⟩
  have I1:Inv X pins σ Ytr {s with heap:=h''}:=I.Er (t':=s.toks) (ch:=YA3) (λc o hb q=>(sb.2 c YcD).trans (hk c o YcD YcD YcD YcD q)) hf YcZ new
  refine⟨YaR,_,I1,rfl,⟨_,x,y,rfl,YcL,rfl,λl hl=>by rw[I.oj hl hqx];exact hx,λl hl=>by rw[I.oj hl hqy];exact hy⟩,⟨z'',?_,⟨u,u2,?_⟩,ZbG⟩,λc hcm=>?_⟩
  ·exact(sb.2 _ D.TIz).trans (hk _ _ D.TIz D.TITO D.TIi1 D.TIi2 hTI)
  ·exact(sb.2 _ D.TOz).trans TO'
  ·exact h1'.at λo q=>(sb.2 _ D.i1z).trans q
  ·exact h2'.at λo q=>(sb.2 _ D.i2z).trans q
  ·have hlt:c<Yam:=by
    have e':c=z∨c=TI∨c=TO∨c=i1∨c=i2:=(by simpa using hcm);rcases e' with q|q|q|q|q
    ·rw[q];exact hzl
    ·rw[q];exact WaB hTI
    ·rw[q];exact WaB hTO
    ·rw[q];obtain⟨_,e1,_⟩:=h1;exact WaB e1
    ·rw[q];obtain⟨_,e2,_⟩:=h2;exact WaB e2
   rw[aA (WaY hlt)];exact(hf c hcm).1
 done:=by
  ext XfP;obtain⟨xs,ys,hqx,hqy,hend⟩:=hg;ext XdM;have l1:=rv.length;have l2:=rv2.length;have he:its.toArray[i]? =none∨its2.toArray[i]? =none:=by
   rcases hend with q|q
   ·exact .inl YdZ
   ·exact .inr YdZ
  exact wpAny_pyNext_zip_end Yb4 D hz hTI hTO h1 h2 p.isList p2.isList he λh' hk=>⟨rfl,I.So (t':=s.toks) (ch:=YA3) (λc o hb q=>
   hk c o YcD YcD YcD YcD q) hf⟩
 self:=λA i s Q E st h=>WdS st.1 h
def acU(K:Yaj)(ta:TA):TI:=λσ H R=>ta σ H λvs H1=>∃a b xs ys,vs=[Ybc,Yx6]/\YsX/\aV K H1 b ys/\R (Itz K a b) H1
def aad{X:Cx}{e e2:Expr}{ta:TA}{p pos tpos:Pos}{elts:YhW}{kk:Nat}(hg:Gl X "zip")(hm:X.mg "zip"=none)(ha:PA X [e,e2] ta)
(hs:starEach [e,e2] X.env=Ybs::starEach [e2] X.env:=by rfl)(hpl:(backTo pos (starEach [e2] X.env)).any (·.1)=false:=by rfl):
  PI X Ygv (.Call (.Name "zip" p) [e,e2] [] pos) (acU X.K ta):=by
 ext Xbl;refine Ys5;obtain⟨a,b,xs,ys,ex,hqx,hqy,q⟩:=q1;subst ex;cases r1 with
 |cons r rr=>
  cases rr with
  |cons r' rr=>
   cases rr;cases r;cases r';obtain⟨its,rv,p1,_⟩:=I1.list hqx;obtain⟨its2,rv2,p2,_⟩:=I1.list hqy;have la:a<YaJ:=p1.lt;have lb:b<YaJ:=p2.lt;refine call_zip_2 p1.isList p2.isList λh' hz hTI hTO h1 h2 hsz hk=>WdS hz ?_;ext Xbq;refine⟨YaJ+4,[YaJ+4,YaJ+2,YaJ+3,YaJ,YaJ+1],_,_,H1,rfl,I2,VR (PySem.W.ktu_apart s1.heap.objs.size a b la lb),⟨hz,hTI,⟨_,_,hTO⟩,Zb7⟩,λc hcm=>?_,q⟩;have e':c=YaJ+4∨c=YaJ+2∨c=YaJ+3∨c=YaJ∨c=YaJ+1:=(by simpa using hcm);have hle:YaJ<=c:=by
    rcases e' with z|z|z|z|z
    ·rw[z];ext XeI
    ·rw[z];ext XeI
    ·rw[z];ext XeI
    ·rw[z];exact Wau _
    ·rw[z];ext XeI
   exact Ynh
end L2
section
namespace ada
open PySem PyProof.Rows
end ada
end
section
namespace TL
open PySem PySem.Builtin PySem.Builtin.Str PySem.StrLaws
abbrev tl(x:Str):Yaw:=x.cps.toList
def Ll(x y:Str):tl (x++y)=tl x++tl y:=by show(x++y).cps.toList=_;rw[Str.cps_append,Array.toList_append]
def LJ(S:Yaw):List (Yaw)->List Nat
 |[]=>[]
 |[p]=>p
 |p::q::r=>p++(S++LJ S (q::r))
def Sq(y:Str):∀parts:YeB,tl (Str.join y parts)=LJ (tl y) (parts.map tl)
 |[]=>rfl
 |[_]=>rfl
 |x::z::r=>by show tl (x++y++Str.join y (z::r))=tl x++(tl y++LJ (tl y) ((z::r).map tl));rw[Ll,Ll,Sq y (z::r),WaP]
def join_eq(y:Str)(parts:YeB):Txt.join y parts=Str.join y parts:=glued_eq_join y parts
end TL
end
namespace L2
open PySem PySem.Spec PyProof.Rows
def v7:∀{ys:List Str}{us:List Value},Vals YDA us->StrsAre us ys
 |[],_,.nil=>.nil
 |y::ys,_,.cons r t=>by obtain⟨k,rfl⟩:=r;exact .cons y k (v7 t)
section
variable {X:Cx} {pins:List (Addr×Obj)} {σ:St} {H:Hp} {s:Shared} {Q:VK}
end
section
variable {X:Cx}
def YN:Zi X "str.join" (λx xs H Q=>∃a p,∃ys:YeB,x=YDb/\xs=[Yij]/\Ymg/\
  (ys.map (·.length)).sum+YwY*a.length<=16777216/\YCk):=by
 intro pins s σ H x xs v us Q I rx rs h;obtain⟨a,p,ys,rfl,rfl,hp,hz,h⟩:=h;ext Xar;cases rs with
 |cons r1 rs=>
  cases rs;cases r1;rcases hp with hp|hp
  ·obtain⟨its,r,⟨o,n,ho,hc,_,hd⟩,_⟩:=I.list hp;exact PyProof.Rows.join_list (items:=YBs) ⟨o,ho,hc,n,hd⟩ Ysb hz λt' k=>⟨ZcY⟩
  ·obtain⟨its,r,ht,_⟩:=I.tuple hp;exact PyProof.Rows.join_tuple (items:=YBs) ht Ysb hz λt' k=>⟨ZcY⟩
def mt0{id:String}{C:Str->Prop}{g:Str->V}(rule:∀(a:Str)(t:Tok)(s:Shared)(Q:Value->Shared->Prop),C a->(∀(u:Value)(k:Nat),RelV (g a) u->Q u {s with toks:=k})->
  wpAny Yar X.A (call YfM [.str a t]) Q X.xe s):Zi X id (λx xs H Q=>∃a,x=YDb/\xs=[]/\C a/\Q (g a) H):=by
 intro pins s σ H x xs v us Q I rx rs h;obtain⟨a,rfl,rfl,hc,h⟩:=h;ext Xar;cases rs;exact rule a t s _ hc λu k r=>⟨g a,H,I.tok k,r,h⟩
def BR:Zi X "str.isdigit" (λx xs H Q=>∃a,x=YDb/\xs=[]/\True/\Q (.bl (Txt.isdigit a)) H):=mt0 (C:=λ_=>True) (g:=λa=>.bl (Txt.isdigit a)) λ_ _ s _ _ h=>PySem.SC.isdigit (h _ s.toks rfl)
def BS:Zi X "str.isalpha" (λx xs H Q=>∃a,x=YDb/\xs=[]/\True/\Q (.bl (Txt.isalpha a)) H):=mt0 (C:=λ_=>True) (g:=λa=>.bl (Txt.isalpha a)) λ_ _ s _ _ h=>PySem.SC.isalpha (h _ s.toks rfl)
def NH:mz X (.type "int") (λxs H Q=>∃a n,xs=[YDb]/\PySem.intText? a=Yx3/\a.length<=640/\Q (.int n) H):=by
 intro pins s σ H xs us Q I rs h;obtain⟨a,n,rfl,hn,hl,h⟩:=h;cases rs with
 |cons r1 rs=>cases rs;obtain⟨t,rfl⟩:=r1;exact PySem.W.KIN.call_text hn hl ⟨.int n,H,Yga,YeS,h⟩
end
section
variable {X:Cx} {o e:Expr} {to te:TE}
def tM0(r:V->YcT->Hp->VK->Prop)(to:TE):TE:=λσ H Q=>to σ H λx H1=>(∃a,x=YDb)/\r x [] H1 Q
def tM1(r:V->YcT->Hp->VK->Prop)(to te:TE):TE:=λσ H Q=>to σ H λx H1=>(∃a,x=YDb)/\te σ H1 λy H2=>r x [y] H2 Q
def LC{id:String}{name:Str}{apos pos:Pos}{r:V->YcT->Hp->VK->Prop}(slot:Slot "str" name id)(ty:typeOf YfM=YgG)(rule:Zi X id r)(ho:YB0)
(hbase:Yeg=YiL:=by rfl)(hline:YpH=true:=by rfl):PE X (.Call YjY [] [] pos) (tM0 r to):=by
 ext Xaf;refine PySem.Call_method0 hbase hline Ysa;ext Xez;exact⟨ZbK,Wcy rfl (WdX (rule pins s1 σ H1 _ [] _ [] Q I1 r1 .nil q1))⟩
def abx{id:String}{name:Str}{apos pos:Pos}{r:V->YcT->Hp->VK->Prop}(slot:Slot "str" name id)(ty:typeOf YfM=YgG)(rule:Zi X id r)(ho:YB0)(he:Ymp)
(hs:Yh6=[Ybs]:=by rfl)(hbase:Yeg=YiL:=by rfl)(hline:YpH=true:=by rfl):
  PE X (.Call YjY [e] [] pos) (tM1 r to te):=by
 ext Xaf;refine PySem.Call_method1 hbase hs hline Ysa;ext Xez;refine⟨ZbK,Wcy rfl (Web (Wc2 ?_))⟩;exact dq YCs λu s2 ⟨y,H2,I2,r2,q2⟩=>WdM (rule pins s2 σ H2 _ [y] _ [u] Q I2 r1 (.cons r2 .nil) q2)
def YE(ho:YB0)(he:Ymp)(hs:Yh6=[Ybs]:=by rfl)(hbase:attributeBase o "join" X.env (YiL)=YiL:=by rfl)(hline:YpH=true:=by rfl):
  PE X (.Call (.Attribute o "join" apos) [e] [] pos) (tM1 (λx xs H Q=>∃a p,∃ys:YeB,x=YDb/\xs=[Yij]/\Ymg/\
   (ys.map (·.length)).sum+YwY*a.length<=16777216/\YCk) to te):=
 abx F.slot_str_join F.type_str_join YN ho he hs hbase hline
end
end L2
namespace L2
open PySem PySem.Spec PyProof.Rows
section
variable {X:Cx}
end
def IsPart.raw(p:IsPart v o):∃l:Option (Int×Tok),v=partValue l/\l.map (·.1)=o:=by
 cases p with
 |none=>exact⟨none,ZaI⟩
 |int i t=>exact⟨some (i,t),ZaI⟩
def PR(n d:Nat):YcR->Int
 |none=>(d:Int)
 |some i=>max 0 (min (if i<0 then i+(n:Int)else i) (n:Int))
def PQ(n d:Nat)(o:YcR):PR n d o=((HT.qf n d o:Nat):Int):=by
 cases o with
 |none=>rfl
 |some v=>
  show max (0:Int) (min (if v<0 then v+(n:Int)else v) (n:Int))=(((if v<0 then(v+(n:Int)).toNat else min v.toNat n):Nat):Int);by_cases hv:v<0
  ·simp only[Wap hv];omega
  ·simp only[Wae hv];omega
def Um(a b:YcR)(n:Nat):Yut=sliceRange (PR n 0 a) (PR n n b) 1:=by
 have h1:((1:Int)>0)=True:=Yao;cases a<;>cases b<;>first
  |rfl
  |(simp only[Builtin.Str.strSliceIndices,PR,h1,WbG];rfl)
  |simp[Builtin.Str.strSliceIndices,PR]
def acB(a b:YcR)(n:Nat):Yut=(List.range (HT.qf n n b-HT.qf n 0 a)).map (λk=>HT.qf n 0 a+k):=by
 rw[Um,PQ,PQ];generalize HT.qf n 0 a=p;generalize HT.qf n n b=q;simp only[sliceRange,show((1:Int)>0)=True from by simp,WbG];by_cases hlt:(p:Int)<q
 ·have e3:(((q:Int)-p+1-1)/1).toNat=q-p:=by first|omega|(simp;done)|(simp;omega)
  simp only[hlt,WbG,e3];refine Wa4 λk _=>?_;omega
 ·have:q-p=0:=Yad;simp[hlt,this]
def Xf(z:Str)(lo hi:YcR):Str:=⟨((z.cps.toList.drop (YdF)).take YC3).toArray⟩
def AU(z:Str)(lo hi:YcR):Yxz=Xf z lo hi:=by
 have h1:YdF<=YnC:=HT.Wc _ _ (WaL _) _;have h2:Ycj<=YnC:=HT.Wc _ _ YcZ _;have hp:YdF<=YAY:=Nat.le_max_left _ _;have hq:YAY<=YnC:=Nat.max_le.mpr ⟨Zb7⟩;have hd:YAY-HT.qf z.length 0 lo=Ycj-HT.qf z.length 0 lo:=Yad;have e:Builtin.Str.strSliceIndices lo hi 1 z.length=
   Builtin.Str.strSliceIndices Ys8 Yvu 1 z.length:=by
  rw[PySem.StrLaws.strSliceIndices_plain hp hq,hd,acB]
 have e2:Yxz=
   PySem.StrLaws.sliceText z Ys8 Yvu:=by
  unfold PySem.StrLaws.sliceText;rw[e]
 rw[e2,PySem.StrLaws.sliceText_nat z hp hq,hd];rfl
def PL(z:Str)(lo hi:YcR):(Xf z lo hi).length<=YnC:=by show(((z.cps.toList.drop (YdF)).take YC3).toArray).size<=z.cps.size;rw[WaS,WaO,WbY,WbC];omega
def acF:V->YcR->YcR->Hp->VK->Prop:=λx lo hi H Q=>∃z,x=.str z/\YnC<=sizeLine/\Q (.str (Xf z lo hi)) H
def Z6:SlR X acF:=by
 ext Xft;obtain⟨z,rfl,hz,q⟩:=h;ext Xar;obtain⟨os,hos,hcs,hds⟩:=hs;obtain⟨l,rfl,rfl⟩:=IsPart.raw pl;obtain⟨u,rfl,rfl⟩:=IsPart.raw pu;refine⟨"str",_,F.slot_str_getitem.lookup,WeG _ _ _,?_⟩;refine wpAny_getItem_str_slice (l:=l) (u:=u) (st:=none) ⟨os,hos,hcs,hds⟩ rfl ?_;have hl:(PySem.StrLaws.sliceText z (l.map (·.1)) (u.map (·.1))).length<=sizeLine:=by rw[AU];exact WaF (PL z _ _) hz
 rw[<-AU]at q;unfold PySem.StrLaws.sliceText at q hl
 show Made.post (if((1:Int)==1&&(Ydz).length==YnC)=true then Made.val (.str z t)
  else Made.str ⟨((Ydz).filterMap (z.cps[·]?)).toArray⟩) Yb5 s
 by_cases c:((1:Int)==1&&(Ydz).length==YnC)=true
 ·rw[Wap c]at q ⊢;exact⟨.str z,H,I,Ygb,q⟩
 ·rw[Wae c]at q hl ⊢;exact⟨hl,.str _,Zbt⟩
end L2
namespace Att
open PySem PySem.W PySem.Calls PyProof.Rows
section
variable {prog:Program} {w:World} {A:Around} {E:Value→Shared→Prop} {s:Shared} {K:Frag}
def Ro(h:Heap):Heap:={h with objs:= #[]}
def IQ(h:Heap)(b:Addr):(Ro h).get? b=none:=by
 cases e:(Ro h).get? b with
 |none=>rfl
 |some o=>exact absurd YrW (Nat.not_lt_zero _)
def ledger(h:Heap)(L d:Addr):Ya0:=(YrF).filterMap λa=>if a=L∨a=d then none else(Yds).map λo=>(a,o)
def rH:(a,o)∈ledger h L d↔a≠L/\a≠d/\Yds=YaB:=by
 unfold ledger;rw[WbX];ext XaT
 ·rintro⟨b,_,e⟩;split at e
  ·cases e
  ·rename_i hb;obtain⟨o',ho,e'⟩:=WcU.mp e;cases e';exact⟨λq=>hb (.inl q),λq=>hb (.inr q),ho⟩
 ·rintro⟨n1,n2,ho⟩;refine⟨a,Wbx.mpr (WaB ho),?_⟩;rw[Wae (show ¬(a=L∨a=d)from λq=>q.elim n1 n2),ho]<;>rfl
def yS(hne:d≠L)(ho:h.get? d=some od):News (Ro h) L h ([]++(d,od)::ledger h L d):=by
 rintro⟨a,o⟩ hp;rcases Wav.mp hp with e|hp
 ·cases e;exact⟨ho,hne,IQ _ _⟩
 ·obtain⟨n1,n2,e⟩:=rH.mp hp;exact⟨e,n1,IQ _ _⟩
end
end Att
namespace L2
open PySem PySem.Spec PyProof.Rows
end L2
namespace L2
open PySem PySem.Spec PyProof.Rows
def inClass(s:Stmt)(j:Nat):Stmt:=match s with
 |.ClassDef _ _ _ body _ _ _ _ _ _ _=>body.getD j (YuT)
 |_=>YuT
def Te(s:Stmt):Arguments:=match s with
 |.FunctionDef _ a _ _ _ _ _ _ _ _=>a
 |_=>{posonlyargs:=[],args:=[],vararg:=none,kwonlyargs:=[],kw_defaults:=[],kwarg:=none,defaults:=[]}
def Hn(s:Stmt):Ytj:=match s with
 |.FunctionDef _ _ b _ _ _ _ _ _ _=>b
 |_=>[]
def ax(s:Stmt):Scope:=match s with
 |.FunctionDef _ _ _ _ _ _ sc _ _ _=>sc
 |_=>{kind:=.function,names:=[],isGenerator:=false,isCoroutine:=false}
abbrev cN:XU:=λ_ _ _ _ _ _=>False
abbrev E0:XK:=λ_ _ _=>False
def aD:Passes cN X E0:=λ_ _ _ _ _ _ _ h=>h.elim
structure bf (K:Yaj) (x qual:Str) (st:Stmt) (f:Addr) (fd:FuncData):Prop where
 ex:∃(oc:Value)(od:Option Addr)(kV doc pm:Value)(an:Option Addr)(cdv ct:Value)(osl:Array (Option Value)),
  fd=Yi8/\K.lookup f=some ⟨oc,od,.func fd,osl⟩/\YCS=true
 kp:YtC=true
section
variable {P:Program} {w:World} {K:PySem.W.Frag} {mg:Str→Option Value} {base:Heap}
def bf.ok{x qual:Str}{st:Stmt}{f:Addr}{fd:FuncData}{N ps:YeB}{k:Nat}{sp:Sp}(F:YuK)(S:aB N ps (ax st))(len:∀vs H Q E,YlL->Yd7=Yez)
(hbody:∀(cdv:Value)(A:Around)(outer:List Env)(s:Shared)(H:Hp)(vs:List V)(Q:VK)(E:XK),Yk8->YlL->
   ∃t,Tt (YmD).nox (Hn st) t/\t {nx:=λ_ H'=>Ykb,rt:=Q} (Ytt) H):Yt0:=by
 ext XeZ;ext Xfr;obtain⟨t,h,q⟩:=hbody cdv A outer s H vs Q E hr hsp;exact⟨t,h.nox,q⟩
def bf.binds{x qual:Str}{st:Stmt}{f:Addr}{fd:FuncData}{ps:YeB}(F:YuK)
(h:∀(kV doc pm:Value)(an:Option Addr)(cdv ct:Value)(us:List Value),Yw0=Yez->bindArgs (Yi8) Yn5=pure Yog):YzK:=by
 ext XeZ;exact .all (h kV doc pm an cdv ct)
end
def eZ(hr:mj k A):YtP+1<cLine:=Wbw (Nat.add_le_add_left (by decide:1<=64) _) hr.units
section
variable {X:Cx}
def pv(i:Nat)(hN:X.N[i]? =YeH:=by rfl)(hv:YlF:=by first|exact Or.inl rfl|exact Or.inr (Or.inl rfl)|exact Or.inr (Or.inr rfl))(hd:YbC=false:=by decide)
(hcd:Yot=false:=by decide):PE X YkY (abf i):=Wl hN hv hd hcd
def vK:mz X YjH (λxs H Q=>∃a kvs,xs=Yk6/\H a=Yiz/\Q (.int kvs.length) H):=by ext XaN;obtain⟨a,kvs,rfl,ha,q⟩:=h;obtain⟨u,rfl,ru⟩:=vals1 r;cases ru;exact abX I (.inl ha) λt s' I'=>⟨.int kvs.length,H,I',Ygb,q⟩
end
def abJ{A B:Prop}(h:B):if false=true then A else B:=by rw[Wae WaN];exact h
def abI{A B:Prop}(h:A):if true=true then A else B:=by ext Xgm;exact h
def aN(H H':Hp):Prop:=∀b o,H b=YaB->H' b=YaB
def aN.trans{H H1 H2:Hp}(a:Yy9)(b:aN H1 H2):aN H H2:=λc o h=>b c o (a c o h)
def aN.seq{K:Yaj}{H H':Hp}{a:Addr}{xs:YcT}(e:Ya1)(h:YcS):aV K H' a xs:=by
 ext Xb8
 ·exact .inl (.inl (e _ _ h))
 ·exact YAu
 ·exact Yku
section
variable {κ:Type} [DecidableEq κ]
end
def at_of{xs:YcT}{z:Int}{j:Nat}{v:V}(e:z=(j:Int))(h:xs[j]? =YcV):Vp xs z=YcV:=by rw[e];exact Tq h
def aN.made(nx:H x=YiQ)(nd:H dx=YiQ)(k:∀b o,(Yid) b=YaB->b≠x->H1 b=YaB):Yy9:=λb o e=>k b o (by rw[aA Yms,aA (ao e nd)];exact e) Yms
end L2
namespace Ce.St
open PySem
def G2(xs:Array Nat):Prop:=xs.toList.Pairwise (· < ·)
def He(h:G2 xs)(hik:i<k)(hk:k<YpV):xs[i]'(by omega)<xs[k]:=by have:=Wdn.mp h i k YdZ Ynx hik;ext Xbb
def Xv(h:G2 xs)(j:Nat):∀(f lo hi:Nat),lo<=hi->hi<=YpV->hi-lo<=f->
  (∀i(h9:i<xs.size),i<lo->xs[i]<j)->(∀i(h9:i<xs.size),hi<=i->j<=xs[i])->
  SetTable.below.go xs j f lo hi<=YpV/\(∀i(h9:i<xs.size),i<YyA->xs[i]<j)/\(∀i(h9:i<xs.size),YyA<=i->j<=xs[i]):=by
 intro f;induction f with
 |zero=>intro lo hi h1 h2 h3 a b;ext XgY
 |succ f ih=>
  intro lo hi h1 h2 h3 a b;unfold SetTable.below.go;by_cases hl:lo<hi
  ·rw[Wap hl];dsimp only;have hm:(lo+hi)/2<YpV:=Yad;have em:xs.getD ((lo+hi)/2) j=xs[(lo+hi)/2]:=(by simp[Array.getD,hm]);rw[em];by_cases hx:xs[(lo+hi)/2]<j
   ·rw[Wap hx];refine ih _ _ Yad h2 Yad (λi hi2 hlt=>?_) b;by_cases e:i=(lo+hi)/2
    ·subst e;exact hx
    ·have hlt2:i<(lo+hi)/2:=Yad;exact WcM (He h hlt2 hm) hx
   ·rw[Wae hx];refine ih _ _ Yad Yad Yad a λi hi2 hle=>?_;by_cases e:i=(lo+hi)/2
    ·subst e;omega
    ·have:=He h (i:=(lo+hi)/2) (k:=i) Yad hi2;omega
  ·rw[Wae hl];ext XgY
def Cu(h:G2 xs)(j:Nat):Yf0<=YpV/\(∀i(hi:i<xs.size),i<Yf0->xs[i]<j)/\(∀i(h2:i<xs.size),Yf0<=i->j<=xs[i]):=Xv h j xs.size 0 xs.size (WaL _) YcZ Yad (λi _ hi=>by omega) (λi h2 hi=>by omega)
theorem Pj (h:G2 xs) (hj:j∉xs.toList):G2 (SetTable.insertAt xs (Yf0) j):=by
 obtain⟨h1,h2,h3⟩:=Cu h j
 generalize SetTable.below xs j=p at h1 h2 h3
 unfold G2 SetTable.insertAt
 have e:((xs.extract 0 p).push j++xs.extract p xs.size).toList=xs.toList.take p++(j::xs.toList.drop p):=by
  simp[Array.toList_extract,List.take_of_length_le]
 rw[e,List.pairwise_append]
 refine⟨List.Pairwise.sublist (Yiv) h,List.pairwise_cons.mpr ⟨λa ha=> ?_,List.Pairwise.sublist (List.drop_sublist _ _) h⟩,λa ha b hb=> ?_⟩
 ·ext XgW
  have hi2:i<YpV-p:=by simpa using hi
  rw[List.getElem_drop]
  have:=h3 (p+i) Yad Yad
  have hne:xs[p+i]'(by omega)≠j:=λq=>hj (by rw[←q];simp)
  ext Xfn
  omega
 ·ext XgW
  have hi2:i<p∧i<YpV:=by
   have:i<min p xs.size:=by simpa using hi
   omega
  rw[List.getElem_take]
  have hlt:=h2 i hi2.2 hi2.1
  ext Xfn
  rcases List.mem_cons.mp hb with rfl|hb
  ·exact hlt
  ·obtain⟨k,hk,rfl⟩:=List.getElem_of_mem hb
   have hk2:k<YpV-p:=by simpa using hk
   rw[List.getElem_drop]
   have:=h3 (p+k) Yad Yad
   ext Xfn
   omega
def ET(h:G2 xs)(hn:(xs[SetTable.below xs j]? ==some j)=false):j∉xs.toList:=by
 intro hm;obtain⟨m,hm1,hm2⟩:=Wde hm;have hm3:m<YpV:=by simpa using hm1
 simp only[Wc5]at hm2;obtain⟨h1,h2,h3⟩:=Cu h j;have e:Yf0=m:=by
  rcases Wds (Yf0) m with hlt|e|hgt
  ·have a:=h3 _ (by omega:Yf0<YpV) YcZ;have b:=He h hlt hm3;omega
  ·exact e
  ·have:=h2 m hm3 hgt;omega
 rw[e,Wby hm3,hm2]at hn;simp at hn
structure Ma (led:Bool) (t:SetTable):Prop where
 rise:G2 t.place
 dum:t.dummies= #[]
 led:t.led=led
def T2(led:Bool):Ma led (.fresh 0 0 led):=⟨List.Pairwise.nil,ZaI⟩
def Rb(n:Nat):G2 (Array.range n):=by unfold G2;rw[Array.toList_range];exact WeY
def sV(h:Yxq)(n:Nat):Ma led (t.standIn n):=⟨Rb n,rfl,h.led⟩
def has_none(j:Nat):SetTable.has #[] j=false:=by unfold SetTable.has;simp
def ON(hd:t.dummies= #[])(g:Nat->Int)(h:Int):∀(f:Nat)(p:SetTable.Probe)(j:Nat)(d:Option Nat),p.dummy=none->SetTable.probe.go t g h f p=some (.empty j d)->d=none/\t.slot j=.empty:=by
 intro f;induction f with
 |zero=>intro p j d _ e;simp[SetTable.probe.go]at e
 |succ f ih=>
  intro p j d hp e;unfold SetTable.probe.go at e;have ad:(t.advance p).dummy=none:=by unfold SetTable.advance;split<;>exact hp
  split at e
  ·rename_i hs;cases e;exact⟨hp,hs⟩
  ·rename_i hs;unfold SetTable.slot at hs;rw[hd,has_none]at hs;dsimp only at hs;split at hs<;>simp at hs
  ·split at e
   ·simp at e
   ·exact ih _ j d ad e
def U4(ht:Yxq)(e:t.freeSlot h=some (j,b)):j∉t.place.toList:=by
 unfold SetTable.freeSlot SetTable.probe at e;split at e
 ·rename_i j' d hm;obtain⟨rfl,hs⟩:=ON ht.dum _ _ _ _ _ _ (by rfl) hm;simp only[Weh,WaK,Wa0]at e;obtain⟨rfl,_⟩:=e;refine ET ht.rise ?_;unfold SetTable.slot at hs;dsimp only at hs;split at hs
  ·simp at hs
  ·rename_i h1;simpa using h1
 ·simp at e
def X6(ht:Yxq)(hj:j∉t.place.toList):Ma led (t.put j).1:=by unfold SetTable.put;refine⟨Pj ht.rise hj,?_,ht.led⟩;dsimp only;rw[ht.dum,has_none];rfl
def ZO(ht:Yxq)(n:Nat):Ma led (t.orStandIn n):=by
 unfold SetTable.orStandIn;split
 ·exact ht
 ·exact sV ht n
def X7(ht:Yxq)(es:YdW)(h:Int)(x:Value):Ma led (layNew t es h x).2.1:=by
 unfold layNew;split
 ·rename_i slot wd e;exact ZO (X6 ht (U4 ht e)) _
 ·exact sV ht _
def QI(ht:Yxq)(e:t.relaid hs n=some (t',o)):Ma led t':=by
 unfold SetTable.relaid SetTable.laid at e;cases hc:SetTable.layClean (SetTable.sizeAbove n-1) hs with
 |none=>rw[hc]at e;simp at e
 |some ow=>
  rw[hc]at e;simp only[Option.bind_eq_bind,WbD,Option.pure_def,WaK,Wa0]at e;obtain⟨rfl,_⟩:=e;refine⟨?_,rfl,ht.led⟩;unfold G2;dsimp only;refine Wc1 ?_ (WeY (n:=SetTable.sizeAbove n-1+1));generalize List.range (SetTable.sizeAbove n-1+1)=l;induction l with
  |nil=>exact Wdv _
  |cons a l ih=>
   rw[WbR];cases hg:(ow.getD a none).map (a,·)with
   |none=>exact ih.cons a
   |some y=>
    have:y.1=a:=by
     cases hq:ow.getD a none with
     |none=>rw[hq]at hg;simp at hg
     |some z=>rw[hq]at hg;simp at hg;rw[<-hg]
    dsimp only;rw[Waw,this];exact ih.cons₂ a
def TZ(ht:Yxq)(es:YdW)(n:Nat):Ma led (relayAll t es n).2.1:=by
 unfold relayAll;split
 ·rename_i t' o e;ext Xhe
  ·exact QI ht e
  ·exact sV ht _
 ·exact sV ht _
section
variable {prog:Program} {w:World} {A:Around} {E:Value→Shared→Prop} {s:Shared}
def sP(prog:Program)(w:World)(led:Bool)(hp:Heap)(a:Addr)(S:Int->Bool)(n:Nat):Prop:=
 ∃ob els ep tb,hp.get? a=Yy7/\ob.ExactSet/\ob.data=Yuh/\YD7/\(∀k,S k=true↔∃e∈els.toList,(Ycw).is k e.2=true)/\
  els.size<scanBound/\YzA=true/\YeO=n/\Ma led tb
def sP.keep(x:Ysi)(k:∀o,Yds=YaB->Yw4=YaB):sP prog w led h' a S n:=by obtain⟨ob,els,ep,tb,e,r⟩:=x;exact⟨ob,els,ep,tb,k _ e,r⟩
def sP.of(x:Ysi):h.SetOf (Ycw) a S n:=by obtain⟨ob,els,ep,tb,h1,h2,h3,h4,h5,h6,h7,h8,_⟩:=x;exact⟨ob,els,ep,tb,Zb7,h3,h4,h5,h6,h7,h8⟩
def sP.same(x:Ysi)(e:∀k,S k=S' k)(en:n=n'):sP prog w led h a S' n':=by obtain rfl:S=S':=WcC e;subst en;exact x
def Pg{h:Heap}{a:Addr}{ob:Obj}{els els':YdW}{ep:Nat}{tb tb':SetTable}{led:Bool}{S:Int->Bool}(e:Yds=Yy7)(ex:ob.ExactSet)(d:ob.data=Yuh)
(hel:ElemsOf (Ycw) els'.toList)(hm:∀k,S k=true↔∃e∈els'.toList,(Ycw).is k e.2=true)(hb:els'.size<scanBound)(hf:tb'.fits els'.size=true)(ok:Ma led tb'):
  (YwJ).get? a=some {ob with data:=.set els' (ep+1) tb'}/\sP prog w led (YwJ) a S els'.size:=by
 have g:=(SetOf_store (knd:=Ycw) (S':=S) e ex d hel hm hb hf).1;exact⟨g,_,els',ep+1,tb',g,ex,rfl,hel,hm,hb,hf,rfl,ok⟩
def Oa{gw:Bool->Sem Unit}(hgw:∀(b:Bool)(s1:Shared)(Q1:Unit->Shared->Prop),Q1 () s1->wpAny YaA A (gw b) Q1 E s1)
{a:Addr}{ob:Obj}{els els1:YdW}{ep:Nat}{tb tb1:SetTable}{led:Bool}{S:Int->Bool}(e:s.heap.get? a=Yy7)(ex:ob.ExactSet)(d:ob.data=Yuh)
(hel:ElemsOf (Ycw) els1.toList)(hm:∀k,S k=true↔∃e∈els1.toList,(Ycw).is k e.2=true)(hb:els1.size<scanBound)(hf:tb1.fits els1.size=true)(ok:Ma led tb1)
{wd:Bool}{R:Option Bool->Shared->Prop}(k:∀h',Yg5->sP prog w led h' a S els1.size->R (Yb8) {s with heap:=h'}):
  wpAny YaA A (do
    storeSet a els1 tb1
    if(!wd&&tb1.tooFull)=true then do
       gw (Ysj).2.2
       storeSet a (Ysj).1 (Ysj).2.1
       pure (Yb8)
     else pure (Yb8)) R E s:=by
 refine Wab (wpAny_storeSet_of e d ?_ (fits_of_scanBound hb));obtain⟨g1,L1⟩:=Pg (prog:=prog) (w:=w) e ex d hel hm hb hf ok;have sb:=WcS s.heap a (Obj.putSet els1 tb1);split
 ·have p2:=relayAll_perm tb1 els1 Yee;have f2:=relayAll_fits tb1 els1 Yee;have t2:=TZ ok els1 Yee;generalize relayAll tb1 els1 (SetTable.grown els1.size)=Y at p2 f2 t2 ⊢;obtain⟨els2,tb2,gv⟩:=Y;dsimp only at p2 f2 t2 ⊢;have z:els2.size=els1.size:=by rw[<-WbC,p2.length_eq,WbC]
  have b2:els2.size<scanBound:=Yad;refine Wab (hgw _ _ _ ?_);refine Wab (wpAny_storeSet_of g1 rfl ?_ (fits_of_scanBound b2));obtain⟨_,L2⟩:=Pg (prog:=prog) (w:=w) (S:=S) g1 ex rfl (hel.perm p2) (λk'=>(hm k').trans ⟨λ⟨y,hy,q⟩=>⟨y,p2.mem_iff.mpr hy,q⟩,λ⟨y,hy,q⟩=>⟨y,p2.mem_iff.mp hy,q⟩⟩) b2 f2 t2;rw[z]at L2;exact Waj (k _ (sb.trans (WcS _ a _)) L2)
 ·exact Waj (k _ sb L1)
def Zb{a:Addr}{led:Bool}{S:Int->Bool}{n:Nat}{i:Int}{tk:Tok}{Q:Bool->Shared->Prop}(hS:sP prog w led s.heap a S n)(room:n+1<scanBound)
(k:∀h',Yg5->sP prog w led h' a YEc (if S i then n else n+1)->Q (!S i) {s with heap:=h'}):
  wpAny YaA A (setAddHashed a Yvh Yul) Q E s:=by
 obtain⟨ob,els,ep,tb,e,ex,d,hel,hm,hb,hf,hn,ok⟩:=hS;have hkey:(Ycw).is i Yvh=true:=intKind_is _ _ _ _;have hsc:(Value.int i tk).scannable=true:=rfl;have b1:YeO+1<scanBound:=Yad;unfold setAddHashed setAddHashedIn;refine Wdm (Wab (wpAny_setState_of e d hf ?_));dsimp only;rw[byScan_of hsc hb hel,Wap rfl];unfold setAddByScan;refine Wab (Wab (WeD (Wab (wpAny_setScan_of hkey e d hf hel ?_))));cases fi:els.toList.findIdx? (λy=>(Ycw).is i y.2)with
 |some j=>
  dsimp only;obtain⟨hj,pj,_⟩:=List.findIdx?_eq_some_iff_getElem.mp fi;have yes:S i=true:=(hm i).mpr ⟨els.toList[j],WdB hj,pj⟩;refine Waj YcW;have q:=k s.heap (Heap.SameBut.refl a s.heap) ⟨ob,els,ep,tb,e,ex,d,hel,λj'=>?_,hb,hf,by rw[yes];exact hn,ok⟩
  ·rw[yes]at q;have es:s={s with heap:=s.heap}:=(by cases s;rfl);rw[es];exact q
  ·rw[Wb5,War,<-hm j'];ext XaT
   ·rintro(y|rfl)
    ·exact y
    ·exact yes
   ·exact .inl
 |none=>
  dsimp only;have no:S i=false:=by
   cases q:S i with
   |false=>rfl
   |true=>obtain⟨y,hy,py⟩:=(hm i).mp q;have:=List.findIdx?_eq_none_iff.mp fi y hy;rw[py]at this;cases this
  have p1:=layNew_perm tb els Yul Yvh;have f1:=layNew_fits tb els Yul Yvh;have t1:=X7 ok els Yul Yvh;generalize layNew tb els ((intKind prog w).hash i) (.int i tk)=Y at p1 f1 t1 ⊢;obtain⟨els1,tb1,wd,gv⟩:=Y;dsimp only at p1 f1 t1 ⊢;rw[Array.toList_push]at p1;have hel1:=(hel.push hkey hsc).perm p1;have hm1:=mem_push_iff hkey hm p1;have z:els1.size=n+1:=by rw[<-WbC,p1.length_eq,Wad,WbC,hn];rfl
  have b2:els1.size<scanBound:=Yad;have fin:∀h',Yg5->sP prog w led h' a YEc els1.size->Q true {s with heap:=h'}:=by intro h' sb L;have q:=k h' sb;rw[no]at q;rw[z]at L;exact q L
  have hg:∀(b:Bool)(s1:Shared)(Q1:Unit->Shared->Prop),Q1 () s1->wpAny YaA A (match b with|true=>rule "set.scan.the-table-gave-way"|false=>pure ()) Q1 E s1:=by
   intro b s1 Q1 q;cases b
   ·exact Waj q
   ·exact WeD q
  refine Wab (hg _ _ _ ?_);split
  ·ext Xdo;rw[hashByValue_scannable 8 hsc];refine Yph;refine Oa (led:=led) hg e ex d hel1 hm1 b2 ?_ ?_ ?_
   ·split
    ·exact f1
    ·exact SetTable.fits_plain_off f1
   ·split
    ·exact t1
    ·exact⟨t1.rise,t1.dum,t1.led⟩
   ·exact λh' sb L=>Waj (fin h' sb L)
  ·ext Xf5;ext Xgm;exact Oa (led:=led) hg e ex d hel1 hm1 b2 f1 t1 λh' sb L=>Waj (fin h' sb L)
end
def zd(w:World):Bool:= !(Yde)
section
variable {prog:Program} {w:World} {A:Around} {E:Value→Shared→Prop} {s:Shared}
abbrev Km(w:World):Obj:={cls:=YlM,dict:=none,data:=.set #[] 0 (.fresh 0 0 (zd w))}
def YK(v:Value)(h:Q YAm {s with heap:=Yft}):
  codeAny YaA A (.call (.builtin "set.__new__") Yzw) (wants Q E) s:=by
 refine codeAny_of_tree ?_;show wpAny _ A.in1 (checkBuiltinCall "set.__new__" Yzw>>= λ_=>again (.builtin "set.__new__" Yzw)) _ _ s;refine Wab (wpAny_of_eq (F.newCall_set_1 v) (Waj ⟨WdO F.plain_set_new _,Wcn F.entry_set_new ?_⟩));rw[Wb6 F.plain_set_new _];unfold Builtin.«set.__new__» Builtin.Frozenset.newClass;have hsub:=sub_set_self;obtain⟨hp,g,d,tk,os⟩:=s;dsimp only
 wp_walk
 refine WbT YcW;dsimp only;simp only[newObj];exact Wab (wpAny_alloc (Waj (Waj h)))
end
section
variable {prog:Program} {w:World} {A:Around} {R:Result→Shared→Prop} {I:Addr} {fp wr:List Addr} {G:Array GenState→Array GenState→Prop} {n:Nat} {P:Nat→Value→Prop} {St:Nat→Shared→Prop}
open PyProof.Rows in
def Vc(W:WalksS prog w A.in1 I fp wr G n P St)(S:Addr)(hSf:S∉fp)(val:Nat->Int)(hval:∀i v,P i v->∃t,v=.int (val i) t)(hb:n+1<scanBound):
  ∀(k i:Nat)(s:Shared),n-i=k->i<=n->St i s->sP prog w led s.heap S (λj=>(YlU).any (· ==j)) (YlU).length->
   (∀s',Moved (S::wr) G s s'->sP prog w led s'.heap S (λj=>(firstMet val n).any (· ==j)) (firstMet val n).length->R (.ok (.ret .none)) s')->
   codeAny YaA A (.builtin "set.update.loop" ⟨[.ref S,.ref I],[]⟩) R s:=by
 have sw:S∉wr:=λh=>hSf (W.sub _ h);have sub:∀b∈wr,b∈S::wr:=λb q=>Waq _ q;intro k;induction k with
 |zero=>intro i s hk hi hst hS hR;obtain rfl:i=n:=Yad;ext Xcu;refine Wab (W.done s _ _ hst λs1 mv=>?_);exact Waj (hR s1 (mv.mono sub) (hS.keep λo e=>mv.heap S o sw e))
 |succ k ih=>
  intro i s hk hi hst hS hR;ext Xcu;refine Wab (W.item i s _ _ Yad hst λv s1 hP st1 mv=>?_);obtain⟨t,rfl⟩:=hval i v hP;have hS1:sP prog w led s1.heap S (λj=>(YlU).any (· ==j)) (YlU).length:=hS.keep λo e=>mv.heap S o sw e;show wpAny _ A.in1 (holding [Value.int (val i) t] (setAdd S (.int (val i) t))>>=_) _ _ s1;refine Wab (Wdm ?_);unfold setAdd;refine Wdm (Wab ((Ycw).pyHash (k:=val i) (intKind_is _ _ _ _) ?_));have room:(YlU).length+1<scanBound:=by have:=firstMet_length_le val i;omega
  refine Zb (s:={s1 with toks:=Ym9+1}) hS1 room λh' sb S2=>?_;have S3:sP prog w led h' S (λj=>(firstMet val YcG).any (· ==j)) (firstMet val YcG).length:=S2.same (λj=>by rw[firstMet_succ,step_any]) (by rw[firstMet_succ,step_length]);refine Waj ⟨WdO Weg _,ih YcG _ Yad Yad (W.frame _ s1 _ _ st1 (Wda _) λb q o e=>?_) S3 λs2 mv2 S4=>?_⟩
  ·rw[sb.2 b (λx:b=S=>hSf (x▸q))];exact e
  ·refine hR s2 (Moved.trans W.gtrans ((mv.mono sub).then_heap (Wda _) λb o q e=>?_) mv2) S4;rw[sb.2 b (λx:b=S=>q (x▸Wai))];exact e
end
section
variable {prog:Program} {w:World} {A:Around} {E:Value→Shared→Prop} {s:Shared}
def OA(hh:YhX=none)(hl:s.heap.IsList l its)(hi:PyProof.Rows.IntsAre its.toList ns)(hb:its.size+1<scanBound)
(k:∀(h':Heap)(tk:Nat),sP prog w (zd w) h' s.heap.objs.size (λj=>(Ydj).any (· ==j)) (Ydj).length->
   (∀b o,Ya4=YaB->Yb9=YaB)->Q YAm {s with heap:=h',toks:=tk}):
  wpAny YaA A (call (YlM) [Ykt]) Q E s:=by
 obtain⟨c,tl,hmro⟩:=F.called_set.mro;have hmade:=F.called_set.made;have hsub:=F.called_set.sub;have g1:=F.called_set.notType;have g2:=F.called_set.canCreate;have g3:=F.typeCall_set_1 (Ykt);refine wpAny_call (codeAny_of_tree ?_);show wpAny _ _ (callAny (YlM) _) _ _ _;refine Waj ⟨Code.quiet_builtin _ Ya5,Wcn F.entry_type_call ?_⟩;rw[Around.under_plain (weight_type_call_type "set" [Ykt] []) rfl];repeat (any_goals (first|assumption|wp_step))
 refine Wc8 (YK (Ykt) (E:=E) (Q:=λob s1=>ob=YaR/\s1={s with heap:=Yft}) Ytb) λr s1 hr=>?_;cases r with
 |error e=>exact hr
 |ok fl=>
  cases fl with
  |ret ob=>
   obtain⟨rfl,rfl⟩:=hr;have Xx:(Yft).get? s.heap.objs.size=some (Km w):=YbA;have ty0:Shared.TypeIs {s with heap:=Yft} (YaR) "set":=⟨_,Xx,rfl⟩;have li:=F.called_set.init.lookup;have bi:=F.called_set.init.bind YAm;repeat (any_goals (first|assumption|wp_step))
   refine Wc8 (codeAny_call_builtin (R:=wants (λr s2=>r=.none/\∃h' tk,s2={s with heap:=h',toks:=tk}/\
     sP prog w (zd w) h' s.heap.objs.size (λj=>(Ydj).any (· ==j)) (Ydj).length/\
     (∀b o,Ya4=YaB->Yb9=YaB)) E) F.called_set.init.plain F.entry_set_init (check_set_init_1 ty0 ?_)) λr2 s2 hr2=>?_
   ·obtain⟨ol,e1,e2,nl,e3⟩:=hl;obtain⟨oc,od,odt,osl⟩:=ol;simp only at e2 e3;subst e2;subst e3;have e4:(Yft).get? l=some {cls:=Ybr,dict:=od,data:=.seq its nl,slots:=osl}:=Wah _ e1;have f1:=F.sub_list_set;have f2:=F.sub_list_frozenset;have f3:(YiU==Value.type "dict")=false:=YeP;have l1:(Yft).IsList l its:=⟨_,e4,rfl,nl,rfl⟩;unfold Builtin.«set.__init__» noKeywords Builtin.Frozenset.updateFrom;generalize hPI:pyIter=PI
    wp_walk
    subst hPI;refine WcK l1 (Wab (wpAny_runValue ?_));have lt:l<Yam:=WaB e1;have h3:A.in1.in1.in1.handled=none:=(by simp[hh]);have nI:l≠(Yft).objs.size:=(by rw[WaW];exact WaY (Wbk lt));have nS:Yam∉[(Yft).objs.size,l]:=by rw[WaW];simp only[Wav,Wbt,WcJ,not_or];exact⟨YBA,Wb0 lt⟩
    refine Vc (led:=zd w) ((Walks.list h3 _ l nI its).toS) s.heap.objs.size nS Yib
     (λi v hv=>PyProof.Rows.IntsAre.int_at hi i v (by rw[Wcv];exact hv)) hb (its.size-0) 0 _ Yad (WaL _) ⟨Yjm,(l1.push _)⟩ ?h0 ?hR
    case h0=>refine⟨Km w,#[],0,.fresh 0 0 (zd w),Wah _ Xx,⟨ZaI,rfl⟩,rfl,λe he=>by simp at he,λk=>?_,YaT,by rfl,rfl,T2 _⟩;simp[PyProof.Rows.firstMet_zero]
    case hR=>intro s' mv S1;obtain⟨h',g',d',tk',os'⟩:=s';obtain rfl:g'=s.gens:=mv.gens;obtain rfl:d'=s.drawn:=mv.drawn;obtain rfl:os'=s.os:=mv.os;show wpAny _ _ _ _ _ _;refine Yph;show wpAny _ _ (ret Value.none) _ _ _;refine Waj ⟨rfl,h',tk',rfl,S1,λb o e=>mv.heap b o ?_ (YBz)⟩;have bl:=WaB e;simp only[Wav,Wbt,WcJ,not_or,WaW];exact⟨WaY bl,WaY (Wbk bl)⟩
   ·cases r2 with
    |error e=>exact hr2
    |ok f2=>
     cases f2 with
     |ret r=>
      obtain⟨rfl,h',tk,rfl,S1,kk⟩:=hr2;repeat (any_goals (first|assumption|wp_step))
      exact k _ _ S1 kk
     |_=>exact hr2.elim
  |_=>exact hr.elim
end
def Ad:Slot "set_iterator" "__next__" "set_iterator.__next__":=Slot.of (owner:="set_iterator") (n:="__next__") YlP Ya5 Ya5 Ya5 (by first|exact .inl (by decide+kernel)|exact .inr (by decide+kernel)) Yka
def V6:entryFor table "set_iterator.__next__"=some Builtin.«set_iterator.__next__»:=entryFor_of_tree Yhb
def Oz:Manifest.owners.lookup (String.ofList ['r','o','t','a','r','e','t','i','_','t','e','s'].reverse)=some Manifest.sig_set_iterator:=by kernel_rfl
def Ym(a:Value):argsOk "set_iterator.__next__" ⟨[a],[]⟩:=by unfold argsOk;rw[signature?_of (id:="set_iterator.__next__") (n:=['_','_','t','x','e','n','_','_']) (o:=Yok) Yhb Oz];kernel_rfl
def Kj:entryFor table "set.__iter__"=some Builtin.«frozenset.__iter__»:=entryFor_alias (id':="frozenset.__iter__") Yhb rfl Ya5 Yhb
def Cd:∀{l:List α}{i:Nat}(h:i<l.length),(l[i]::l.eraseIdx i).Perm l
 |x::l,0,_=>by simp
 |x::l,i+1,h=>by have ih:=Cd (l:=l) (i:=i) YkL;simp only[List.getElem_cons_succ,WeT];exact(List.Perm.swap _ _ _).trans (ih.cons x)
section
variable {M:Model} {A:Around} {E:Value→Shared→Prop} {s:Shared}
def Qx(hn:n≠0)(h:∀i d,i<n->Q i {s with drawn:=d}):wpAny M A (choose src n) Q E s:=λΓ p _=>⟨hn,h _ _ (Nat.mod_lt _ (Wcc hn))⟩
def Sk:∀(n:Nat)(xs:List α)(s:Shared){Q:List α->Shared->Prop},n=Ybp->(∀ys d,ys.Perm xs->Q ys {s with drawn:=d})->wpAny M A (drawOrder n xs) Q E s
 |0,[],s,Q,_,h=>by unfold drawOrder;exact Waj (h [] s.drawn (WeL _))
 |n+1,[],s,Q,e,h=>by simp at e
 |0,x::xs,s,Q,e,h=>by simp at e
 |n+1,x::xs,s,Q,e,h=>by
  unfold drawOrder;refine Wab (Qx Yao λi d hi=>?_);rw[Wam hi];dsimp only;refine Wab (Sk n ((x::xs).eraseIdx i) _ ?_ λys d' p=>Waj (h _ d' ?_))
  ·rw[List.length_eraseIdx,Wap hi,Was];simp only[Was]at e;omega
  ·exact(List.Perm.cons _ p).trans (Cd hi)
end
def SG(next:Nat->Nat):∀(f k:Nat)(left:List α)(out:Array α),f=YBr->(pickOrder.go next f k left out).toList.Perm (Yyf++left)
 |0,k,left,out,e=>by have:left=[]:=Wbg.mp e.symm;subst this;simp[pickOrder.go]
 |f+1,k,left,out,e=>by
  have hl:0<YBr:=Yad;have hi:next k%YBr<YBr:=Nat.mod_lt _ hl;unfold pickOrder.go;rw[Wam hi];dsimp only;refine(SG next f YCH _ _ ?_).trans ?_
  ·rw[List.length_eraseIdx,Wap hi];omega
  ·rw[Array.toList_push,WaP];exact List.Perm.append_left _ (Cd hi)
def EI(next:Nat->Nat)(xs:Array α):(pickOrder next xs).toList.Perm xs.toList:=by unfold pickOrder;have:=SG next xs.size 0 xs.toList #[] Yao;ext Xbb
def qr(first:Value)(i:Nat)(a:Addr)(n ep:Nat):Obj:={cls:=YtD,dict:=none,data:=.fields #[first,.int i 0,Ybc,.int n 0,.int ep 0],slots:= #[]}
section
variable {prog:Program} {w:World} {A:Around} {E:Value→Shared→Prop} {s:Shared}
def DJ(h:Ypl=Ypy):s.TypeIs Ydk "set_iterator":=⟨_,h,rfl⟩
structure zS (h:Heap) (a:Addr) (els:YdW) (ep:Nat) (tb:SetTable):Prop where
 at_:∃ob,Yds=Yy7/\ob.data=Yuh
 fits:YzA=true
def zS.keep(x:Yq3)(k:∀o,Yds=YaB->Yw4=YaB):zS h' a els ep tb:=by obtain⟨ob,e,d⟩:=x.at_;exact⟨⟨ob,k _ e,d⟩,x.fits⟩
def zS.state(x:Ysg)(h:Q (els,ep,tb) s):
  wpAny YaA A (setState a) Q E s:=by
 obtain⟨ob,e,d⟩:=x.at_;exact wpAny_setState_of e d x.fits h
def qG(hi:Ypl=Ypy)(x:Ysg)(hn:YeO=n)
(h:wpAny YaA A.in1 (do
   if let .int slot _:=first then
    match<-setNext a slot.toNat i ep with
    |some (x,next)=>
     setField Ydk 0 (rawInt next)
     setField Ydk 1 (rawInt YcG)
     ret x
    |none=>setField Ydk 2 .none;raiseNew (<-Ygn)
   else
    let some places<-seqItems? first|unsupported "internal:set_iterator"
    match places[i]? with
    |some (.int place _)=>
     let x<-setNextDrawn a place.toNat ep
     setField Ydk 1 (rawInt YcG)
     ret x
    |some _=>unsupported "internal:set_iterator"
    |none=>setField Ydk 0 (rawInt 0);setField Ydk 2 .none;raiseNew (<-Ygn))
   (λf s1=>∃v,f=.done (.ret v)/\Q (YcV) s1) (λe s1=>∃o,e=.ref o/\Yvj/\Q none s1) s):
  wpAny YaA A Ys1 Q E s:=by
 unfold pyNext;refine Wab (WdN (Wcr (name:=Yhk) (DJ hi) Ad (WbS Ad (DJ hi) V6 ?_ (Ym _))));ext Xf5;refine Wab (wpAny_fieldsOf hi rfl ?_);show wpAny _ _ (do if((<-setEntries a).size:Int)!=(n:Int)then _ else _) _ _ s;unfold setEntries;refine Yqn;rw[Wae (by rw[hn];simp)];refine WbZ h (λf s1 q=>?_) (λe s1 q=>?_)
 ·obtain⟨v,rfl,q⟩:=q;exact⟨Zaa,Waj q⟩
 ·obtain⟨o,rfl,t,q⟩:=q;refine Wab (WdT (T:="StopIteration") (b:=true) t isSubtype_stop ?_);exact Waj q
end
def Sz:Slot "set_iterator" "__iter__" "set_iterator.__iter__":=Slot.of (owner:="set_iterator") (n:="__iter__") YlP Ya5 Ya5 Ya5 (by first|exact .inl (by decide+kernel)|exact .inr (by decide+kernel)) Yka
def Ki:entryFor table "set_iterator.__iter__"=some Builtin.«dict_keyiterator.__iter__»:=entryFor_alias (id':="dict_keyiterator.__iter__") Yhb rfl Ya5 Yhb
def MB(a:Value):argsOk "set_iterator.__iter__" ⟨[a],[]⟩:=by unfold argsOk;rw[signature?_of (id:="set_iterator.__iter__") (n:=['_','_','r','e','t','i','_','_']) (o:=Yok) Yhb Oz];kernel_rfl
section
variable {prog:Program} {w:World} {A:Around} {E:Value→Shared→Prop} {s:Shared}
def Hx{Qf:PySem.Fin->Shared->Prop}{R:Shared->Prop}(hh:YhX=none)(h:∀h',(∀b o,Ya4=YaB->Yb9=YaB)->R {s with heap:=h'}):
  wpAny YaA A (do raiseNew (<-Ygn)) Qf (λe s1=>∃o,e=.ref o/\Yvj/\R s1) s:=by
 ext XaA;rw[hh];refine YCh;exact⟨Zaa,Ysz,h _ λb o e=>YBz⟩
def E4(hi:Ypl=Ypy)(h:Q Ydk s):wpAny YaA A (pyIter Ydk) Q E s:=by refine WdH (DJ hi) Sz (WbS Sz (DJ hi) Ki ?_ (MB _));exact Waj ⟨Zaa,"set_iterator",_,DJ hi,Ad.lookup,h⟩
def je(e:Ypl=Yy7)(d:ob={cls:=YtD,dict:=none,data:=.fields vs,slots:= #[]})(hj:j<vs.size)
(h:∀h',h'.get? it=some {cls:=YtD,dict:=none,data:=.fields (vs.setIfInBounds j x),slots:= #[]}->(∀b o,b≠it->Ya4=YaB->Yb9=YaB)->Q () {s with heap:=h'}):
  wpAny YaA A (setField Ydk j x) Q E s:=by
 subst d;exact WcB e hj λh' e' sb=>h h' e' λb o hb q=>sb.extBut b o hb q
def slotAt(xs:Array Nat):Nat->Nat
 |0=>0
 |i+1=>xs.getD i 0+1
def JN(h:G2 xs)(hi:i<=YpV):SetTable.below xs (slotAt xs i)=i:=by
 obtain⟨h1,h2,h3⟩:=Cu h (slotAt xs i);generalize SetTable.below xs (slotAt xs i)=p at h1 h2 h3;cases i with
 |zero=>
  cases p with
  |zero=>rfl
  |succ p=>have:=h2 p Yad Yad;simp[slotAt]at this
 |succ i=>
  have hd:xs.getD i 0=xs[i]'(by omega):=by have:i<YpV:=Yad;simp[Array.getD,this]
  simp only[slotAt,hd]at h2 h3;rcases Wds p YcG with hlt|e|hgt
  ·have:=h3 i Yad Yad;omega
  ·exact e
  ·have a:=h2 YcG Yad hgt;have b:=He h (i:=i) (k:=i+1) Yad Yad;omega
def Qy(hh:YhX=none){I a:Addr}(hne:a≠I){els:YdW}{ep:Nat}{tb:SetTable}(ht:Ma true tb)(hf:YzA=true)(hT:Yde=false)(hD:Ynl=false):
  Walks prog w A I [I,a] [I] els.size (λi v=>((Yit))[i]? =YcV) (λi h=>h.get? I=some (qr (.int (slotAt tb.place i) 0) i a els.size ep)/\Yq3) where
 sub:=λb hb=>by simp at hb;simp[hb]
 frame:=λ_ _ _ st hk=>⟨Zcg⟩
 item:=λi s Q E hi st hQ=>by
  have hps:tb.place.size=YeO:=by ext Xgc
  ext Xag;rw[Wbl,JN ht.rise Yad];have e1:els[i]? =some els[i]:=Wby hi;have e2:tb.place[i]? =some tb.place[i]:=Wby Yad;rw[e1,e2];ext Xhf;refine Wab (je g1 rfl Yao λh2 g2 k2=>Waj Yfg);refine hQ _ h2 s.toks (by simp[hi]) YmQ λb o hb e=>?_
  ·rw[g2];have:tb.place.getD i 0=tb.place[i]:=by have:i<tb.place.size:=Yad;simp[Array.getD,this]
   simp[qr,slotAt,rawInt,this]
  ·ext Xd5
 done:=λs Q E st hQ=>by
  have hps:tb.place.size=YeO:=by ext Xgc
  ext Xag;rw[Wbl,JN ht.rise Yad];have e1:els[els.size]? =none:=Yao;rw[e1];ext Xhf;ext XdS
 self:=λi s Q E st hQ=>by exact E4 st.1 hQ
end
section
variable {prog:Program} {w:World} {A:Around} {E:Value→Shared→Prop} {s:Shared}
theorem TB(hh:YhX=none)(hne:a≠I)(hT:Yde=true):
  Walks prog w A I [I,a] [I] els.size (λi v=>((YbQ).toList.map (·.2))[i]? =YcV) (λi h=>h.get? I=some (qr (.int 0 0) i a els.size ep)/\Yq3) where
 sub:=λb hb=>by simp at hb;simp[hb]
 frame:=λ_ _ _ st hk=>⟨Zcg⟩
 item:=λi s Q E hi st hQ=>by
  have hsz:(YbQ).size=YeO:=by have:=(EI (YhN) els).length_eq;ext Xbb
  ext Xbv;have hi':i<(YbQ).size:=Yad;have e1:(YbQ)[i]? =some (YbQ)[i]:=Array.getElem?_eq_getElem hi';ext XdO;dsimp only[Option.map_some];refine wpAny_bind Yfl;refine wpAny_bind (je g1 rfl Yao λh2 g2 k2=>wpAny_pure Yfg);refine hQ _ h2 s.toks (by simp[hi']) YmQ λb o hb e=>?_
  ·rw[g2];simp[qr,rawInt]
  ·ext Xd5
 done:=λs Q E st hQ=>by
  have hsz:(YbQ).size=YeO:=by have:=(EI (YhN) els).length_eq;ext Xbb
  ext Xbv;have e1:(YbQ)[YeO]? =none:=by rw[<-hsz];simp
  ext XdO;dsimp only[Option.map_none];refine wpAny_bind Yfl;ext XdS
 self:=λi s Q E st hQ=>E4 st.1 hQ
def Qz(hh:YhX=none){I a T:Addr}(hne:a≠I)(hTI:T≠I){els:YdW}{ep:Nat}{tb:SetTable}{ord:Yaw}(ho:ord.Perm (YuQ)):
  Walks prog w A I [I,a,T] [I] els.size (λi v=>(ord.map λj=>(els.getD j (0,.none)).2)[i]? =YcV)
   (λi h=>h.get? I=some (qr (.ref T) i a els.size ep)/\Yq3/\h.get? T=some {cls:=Yb2,data:=.seq (ord.map λ(j:Nat)=>rawInt j).toArray}) where
 sub:=λb hb=>by simp at hb;simp[hb]
 frame:=λ_ _ _ st hk=>⟨hk I Yao _ st.1,st.2.1.keep λo e=>hk a Yao o e,hk T Yao _ st.2.2⟩
 item:=λi s Q E hi st hQ=>by
  have hl:ord.length=YeO:=by have:=ho.length_eq;ext Xbb
  have hi':i<ord.length:=Yad;have hlt:ord[i]<YeO:=Wbx.mp (ho.mem_iff.mp (WdB hi'));ext XbJ;have e1:(ord.map λ(j:Nat)=>rawInt j).toArray[i]? =some (rawInt (ord[i]:Nat)):=by simp[hi']
  rw[e1];dsimp only[rawInt];ext Xdo;unfold setNextDrawn;refine Wab (st.2.1.state ?_);dsimp only;rw[Wae Yao,Wbl,Wby hlt];refine Yph;refine Wab (je st.1 rfl Yao λh1 g1 k1=>Waj Yfg);refine hQ _ h1 s.toks (by simp[hi',Array.getD,hlt]) ⟨?_,(st.2.1.keep λo e=>k1 a o hne e),k1 T _ hTI st.2.2⟩ λb o hb e=>Yg0;rw[g1];simp[qr,rawInt]
 done:=λs Q E st hQ=>by
  have hl:ord.length=YeO:=by have:=ho.length_eq;ext Xbb
  ext XbJ;have e1:(ord.map λ(j:Nat)=>rawInt j).toArray[YeO]? =none:=by simp[hl]
  rw[e1];ext Xhf;refine Wab (je g1 rfl Yao λh2 g2 k2=>?_);refine Hx (by exact hh) λh3 k3=>hQ h3 s.toks λb o hb e=>k3 b o (k2 b o (λq=>YA1) (Yg0))
 self:=λi s Q E st hQ=>E4 st.1 hQ
end
section
variable {prog:Program} {w:World} {A:Around} {E:Value→Shared→Prop} {s:Shared}
def WX(ty:s.TypeIs (.ref r) "set")(h:Q false s):wpAny YaA A (Builtin.List.listLengthHint (.ref r)) Q E s:=by
 unfold Builtin.List.listLengthHint;refine Wab (wpAny_specialOf ty PySem.F.slot_set_len.lookup ?_);generalize hid:("set.__len__":String)=id0
 wp_delta
 rw[show splitId id0=some ("set","__len__")from by subst hid;decide+kernel];subst hid;refine Wab (WdT (T:="set") (b:=true) ty Yka ?_);refine wpAny_ite_split Ynv (λ_=>Yr3);exact Wab (wpAny_typeOf ty (Waj h))
structure Ord (prog:Program) (w:World) (A:Around) (h0:Heap) (a:Addr) (els:YdW) (it:Addr) (h1:Heap):Prop where
 ex:∃(L:List Value)(fp:List Addr)(St:Nat->Heap->Prop),L.Perm (Yit)/\Walks prog w A it fp [it] els.size (λi v=>L[i]? =YcV) St/\St 0 h1/\(∀b∈fp,b<h1.objs.size)/\(∀b∈fp,b=a∨h0.objs.size<=b)
 keep:∀b o,h0.get? b=YaB->h1.get? b=YaB
 new:h0.objs.size<=it
def WU(hh:YhX=none)(ty:s.TypeIs YwE "set")(x:Ysg)(ok:Ma (zd w) tb)(hz:YeO<=sizeLine)
(h:∀it h1 d,Ord prog w A s.heap a els it h1->Q Ydk {s with heap:=h1,drawn:=d}):wpAny YaA A (pyIter YwE) Q E s:=by
 have la:a<Yam:=by obtain⟨ob,e,_⟩:=x.at_;ext XeS
 refine WdH ty F.slot_set_iter (WbS F.slot_set_iter ty Kj ?_ (F.args_set_iter_1 _));unfold Builtin.«frozenset.__iter__»;refine Wab (Wab (Waj YcW));unfold Builtin.Frozenset.sizeOf setEntries setDrawn setEpoch;refine Wab (Wab (Wab (x.state (Waj YcW))));dsimp only;refine Wab (Wab (x.state ?_));dsimp only;refine Wab (Wab (WbT (Waj YcW)));show wpAny _ _ (if(!(Yde)&&Ynl)=true then _ else _) _ _ s;by_cases hT:Yde=true
 ·rw[Wae (by rw[hT];simp)];ext Xf5;refine Yqn;ext Xbz;refine h _ _ s.drawn ⟨⟨_,_,_,(EI _ els).map _,TB (ep:=ep) (tb:=tb) hh (WaY la) hT,ZcI⟩,λb o e=>Yhe,Wau _⟩
  ·rw[WaW];ext Xbj
   ·exact WbO _
   ·exact Wbk la
  ·ext Xbj
   ·exact .inr YcZ
   ·exact YbW
 ·have hT':Yde=false:=by simpa using hT
  have ok':Ma true tb:=by have e:zd w=true:=(by unfold zd;rw[hT'];rfl);rw[e]at ok;exact ok
  cases hD:Ynl with
  |false=>
   rw[Wae Yao];ext Xf5;refine Yqn;ext Xbz;refine h _ _ s.drawn ⟨⟨_,_,_,WeL _,Qy (ep:=ep) hh (WaY la) ok' x.fits hT' hD,ZcI⟩,λb o e=>Yhe,Wau _⟩
   ·rw[WaW];ext Xbj
    ·exact WbO _
    ·exact Wbk la
   ·ext Xbj
    ·exact .inr YcZ
    ·exact YbW
  |true=>
   rw[Wap (by rw[hT'];rfl)];refine Wab (Sk els.size (YuQ) _ Yao λord d po=>?_);have hl:ord.length=YeO:=(by have:=po.length_eq;simpa using this);refine Wab (wpAny_newTuple ?_ (by rw[Waa,hl];exact hz));refine Wab (Wab (zS.state (x.keep λo e=>Yhe) YcW));ext Xbz;have pl:(ord.map λj=>(els.getD j (0,YnG)).2).Perm (Yit):=by
    refine(po.map _).trans ?_;rw[show(YuQ).map (λj=>(els.getD j (0,YnG)).2)=Yit from ?_];apply Wd9;intro i;by_cases hi:i<YeO
    ·simp[hi,Array.getD]
    ·simp[hi]
   refine h _ _ d ⟨⟨_,_,_,pl,Qz (ep:=ep) (tb:=tb) (T:=Yam) hh ?_ ?_ po,⟨YbA,x.keep λo e=>YBz,Wah _ (YbA)⟩,Yf1,Yf1⟩,λb o e=>YBz,?_⟩
   ·show a≠(s.heap.push _).objs.size;rw[WaW];exact WaY (Wbk la)
   ·show Yam≠(s.heap.push _).objs.size;rw[WaW];exact YBA
   ·rw[WaW];ext Xfq
    ·exact WbO _
    ·rw[WaW];exact Wbk (Wbk la)
    ·rw[WaW];exact Wbk (WbO _)
   ·ext Xfq
    ·refine .inr ?_;ext Xfo
    ·exact YbW
    ·exact .inr YcZ
   ·ext Xfo
end
section
variable {prog:Program} {w:World} {A:Around} {E:Value→Shared→Prop} {s:Shared}
def YV{els:YdW}{S:Int->Bool}(hel:YD7)(hm:∀k,S k=true↔∃e∈els.toList,(Ycw).is k e.2=true){L:YbN}(p:L.Perm (Yit)):
  ∃ns:YdR,Ypd/\YEb/\YhS=YeO:=by
 have hv:∀v∈L,∃(k:Int)(t:Tok),v=Value.int k t:=by
  intro v hv;ext XgE;obtain⟨⟨k,hk,_⟩,_⟩:=hel e he;have:Value.isInt k e.2=true:=hk;cases h2:e.2<;>rw[h2]at this<;>simp[Value.isInt]at this
  ·exact⟨Zbr⟩
 have hx:∀L:YbN,(∀v∈L,∃(k:Int)(t:Tok),v=Value.int k t)->∃ns:YdR,Ypd/\(∀k,k∈ns↔∃v∈L,Value.isInt k v=true)/\YhS=Ykc:=by
  intro L;induction L with
  |nil=>exact λ_=>⟨[],.nil,Ydx,rfl⟩
  |cons v r ih=>
   intro h;obtain⟨k,t,rfl⟩:=h v Ycq;obtain⟨ns,h1,h2,h3⟩:=ih λu hu=>h u (Waq _ hu);refine⟨k::ns,.cons _ _ h1,λj=>?_,by simp[h3]⟩;rw[Wav,h2];ext XaT
   ·rintro(rfl|⟨u,hu,q⟩)
    ·exact⟨_,Wai ..,by simp[Value.isInt]⟩
    ·exact⟨u,Waq _ hu,q⟩
   ·rintro⟨u,hu,q⟩;rcases Wav.mp hu with rfl|hu
    ·exact .inl (by simp[Value.isInt]at q;exact q.symm)
    ·exact .inr ⟨u,hu,q⟩
 obtain⟨ns,h1,h2,h3⟩:=hx L hv;refine⟨ns,h1,λk=>?_,by rw[h3,p.length_eq];simp⟩;rw[h2,hm];ext XaT
 ·rintro⟨v,hv,q⟩;ext XgE;exact⟨e,he,q⟩
 ·rintro⟨e,he,q⟩;exact⟨e.2,p.mem_iff.mpr (WaX he),q⟩
def PN(hh:YhX=none){a:Addr}{S:Int->Bool}{n:Nat}(x:Yze){Q:YbN->Shared->Prop}
(h:∀h' tk d(L:List Value)(ns:List Int),(∀b o,Ya4=YaB->Yb9=YaB)->Yam<=h'.objs.size->Ypd->YEb->YhS=n->Q L {s with heap:=h',toks:=tk,drawn:=d}):
  wpAny YaA A (collect YwE) Q E s:=by
 obtain⟨ob,els,ep,tb,e,ex,d,hel,hm,hb,hf,hn,ok⟩:=x;have la:a<Yam:=WaB e;have hz:YeO<=sizeLine:=by have:scanBound=4096:=rfl;rw[WcI];omega
 ext XdD;rw[Wb6 F.plain_proto_collect _];show wpAny _ A.in1 (newList []>>= λl=>again (.builtin "list.__iadd__" ⟨[l,Ybc],[]⟩)) _ _ s;refine Wab (WbJ (Waj ⟨WdO F.plain_list_iadd _,YD2⟩));rw[Wb6 F.plain_list_iadd _];generalize hp0:s.heap.push {cls:=.type "list",data:=.seq ([]:List Value).toArray}=p0;have k0:∀b o,Ya4=YaB->p0.get? b=YaB:=λb o q=>by rw[<-hp0];exact YvY
 have z0:p0.objs.size=Yam+1:=by rw[<-hp0,WaW]
 have L0:p0.get? s.heap.objs.size=some {cls:=Ybr,data:=.seq #[]}:=by rw[<-hp0];exact YbA
 show wpAny _ A.in1 (Builtin.List.listExtendWith YAm YwE YAm) _ _ _;unfold Builtin.List.listExtendWith;have ty0:Shared.TypeIs {s with heap:=p0} (Ybc) "set":=⟨_,k0 _ _ e,ex.1⟩;refine Wab (wpAny_typeOf (T:="set") ty0 ?_);have q1:Builtin.List.listSameRef YAm YwE=false:=by simp only[Builtin.List.listSameRef,Wck,ne_eq];exact Wb0 la
 have q2:(Value.type "set"==YiU)=false:=YeP;have q3:(Value.type "set"==Value.type "tuple")=false:=YeP;simp only[q1,q2,q3,WcA,Wbo,Wca];refine Wab (WU (A:=A.in1) (s:={s with heap:=p0}) hh ty0 ⟨⟨ob,k0 _ _ e,d⟩,hf⟩ ok hz λit h1 dr O=>?_);obtain⟨L,fp,St,pL,W,st,lf,wh⟩:=O.ex;have L1:=O.keep _ _ L0;have nS:Yam∉fp:=by
  intro hm;rcases wh _ hm with q|q
  ·exact absurd q (Wb0 la)
  ·have q':p0.objs.size<=Yam:=q;rw[z0]at q';exact absurd q' (Nat.not_succ_le_self _)
 refine Wab (Wdm (WX ⟨_,O.keep _ _ (k0 _ _ e),ex.1⟩ ?_));refine Yr3;refine Wab (WeD (Wab ?_));show wpAny _ _ (updateSeq s.heap.objs.size (·.push .none)>>= λ_=>updateSeq s.heap.objs.size (·.pop)) _ _ _;refine Wab (wpAny_updateSeq L1 rfl ?_);have L2:=Wdg (Obj.mapSeq (·.push Value.none)) L1 rfl;refine wpAny_updateSeq (hz:=by seq_fits) L2 rfl ?_;have L3:=Wdg (Obj.mapSeq (·.pop)) L2 rfl;generalize hp3:(h1.update s.heap.objs.size (Obj.mapSeq (·.push Value.none))).update s.heap.objs.size (Obj.mapSeq (·.pop))=p3 at L3;have k3:∀b o,b≠Yam->h1.get? b=YaB->p3.get? b=YaB:=λb o hb q=>by rw[<-hp3];exact(Wd1 _ _ (WaC hb)).trans ((Wd1 _ _ (WaC hb)).trans q)
 refine Waj ⟨WdO PySem.F.plain_extend_loop _,codeAny_extend_loopS W.toS hz s.heap.objs.size nS _ els.size 0 _ _ _ rfl (WaL _) (W.frame 0 _ _ st λb hb o q=>k3 b o (λc=>nS (c▸hb)) q) L3 (ItemsOf.nil _) λs4 acc c mv L4 hacc=>?_⟩;have eL:acc.toList=L:=by
  apply Wd9;intro i;rw[Wcv];by_cases hi:i<acc.size
  ·rw[Wby hi,hacc.2 i acc[i] (Wby hi)]
  ·have lL:Ykc=YeO:=(by rw[pL.length_eq];simp);rw[WdG Yad,WdL (by rw[lL];have:=hacc.1;omega)]
 show wpAny _ A (load s.heap.objs.size>>=_) _ _ s4;refine Wab (WeE L4 YcW);obtain⟨ns,i1,i2,i3⟩:=YV hel hm pL;obtain⟨hp4,g4,d4,t4,o4⟩:=s4;obtain rfl:g4=s.gens:=mv.gens;obtain rfl:d4=dr:=mv.drawn;obtain rfl:o4=s.os:=mv.os;rw[eL];refine h hp4 t4 _ L ns (λb o q=>mv.heap b o ?_ (k3 b o (WaY (WaB q)) (O.keep _ _ (k0 _ _ q)))) (WcZ (WaB L4)) i1 i2 (by rw[i3,hn]);have bl:=WaB q;have nw:p0.objs.size<=it:=O.new;rw[z0]at nw;simp only[Wav,Wbt,WcJ,not_or];exact⟨WaY bl,WaY (WaU (Wbk bl) nw)⟩
end
end Ce.St
namespace Ce.St
open PySem PyProof.Rows PySem.Calls
section
variable {prog:Program} {w:World} {A:Around} {E:Value→Shared→Prop} {s:Shared}
def Lp{x:Value}{ok:YdR->Prop}{Q:Value->Shared->Prop}
(col:∀(Q1:List Value->Shared->Prop),(∀h' tk d(L:List Value)(ns:List Int),(∀b o,Ya4=YaB->Yb9=YaB)->Yam<=h'.objs.size->IntsAre L ns->ok ns->YhS<=sizeLine->Q1 L {s with heap:=h',toks:=tk,drawn:=d})->wpAny YaA A.in1 (collect x) Q1 E s)
(h:∀D h' tk d(out:Array Value)(c:Nat)(ns ns':List Int),Yam<=D->YCW->h'.get? D=YB8->IntsAre out.toList ns'->ok ns->ns'.Perm ns->YdU->YhS<=sizeLine->
   Q Yle {s with heap:=h',toks:=tk,drawn:=d}):
  wpAny YaA A (call Yeq [x]) Q E s:=by
 refine call_function_entry kind_sorted plain_sorted entry_sorted (args_sorted1 _) ?_;unfold Builtin.«sorted»;refine Wab (m:=checkCount "sorted" 1 1 _) (Waj (Wab (col _ λh1 tk d L ns k1 z1 hI cg hl=>?_)));have hL:Ykc<=sizeLine:=by rw[hI.length];exact hl
 refine Wab (wpAny_newList ?_ hL);have e1:(h1.push {cls:=Ybr,data:=.seq L.toArray}).get? h1.objs.size=some (seqObj "list" L.toArray 0):=YbA;refine Wab (Wdm (WbS slot_list_sort ⟨_,e1,rfl⟩ entry_list_sort (list_sort_treeAny (s:={s with heap:=h1.push {cls:=Ybr,data:=.seq L.toArray},toks:=tk,drawn:=d}) e1 hI hL λout ns' g1 g2 g3=>?_) (args_list_sort _)));refine⟨Zaa,Waj Yfg⟩;obtain⟨c,e2⟩:=sortedHeap_at (out:=out) e1;refine h _ _ tk d out c ns ns' z1 (λb o q=>?_) e2 g1 cg g2 g3 hl;have bl:b<h1.objs.size:=WaU (WaB q) z1;rw[sortedHeap_old (WaY bl) (by rw[WaW];exact Wbk bl)];exact Wah _ (k1 b o q)
def Q0(hh:YhX=none){a:Addr}{S:Int->Bool}{n:Nat}(x:Yze){Q:Value->Shared->Prop}
(h:∀D h' tk d(out:Array Value)(c:Nat)(ns':List Int),Yam<=D->YCW->h'.get? D=YB8->IntsAre out.toList ns'->(∀k,k∈ns'↔S k=true)->ns'.length=n->YdU->
   Q Yle {s with heap:=h',toks:=tk,drawn:=d}):wpAny YaA A (call Yeq Yvz) Q E s:=by
 have hn:n<=sizeLine:=by ext Xbt;rw[WcI];omega
 refine Lp (ok:=λns=>(∀k,k∈ns↔S k=true)/\YhS=n) (λQ1 q=>PN (A:=A.in1) hh x λh' tk d L ns k1 z1 i1 i2 i3=>q h' tk d L ns k1 z1 i1 ⟨i2,i3⟩ Yad) ?_;intro D h' tk d out c ns ns' h1 h2 h3 h4 h5 h6 h7 h8;exact h D h' tk d out c ns' h1 h2 h3 h4 (λk=>by rw[h6.mem_iff];exact h5.1 k) (by rw[h6.length_eq];exact h5.2) h7
end
end Ce.St
namespace Ce
open PySem PySem.Spec PyProof.Rows L2
section
variable {X:Cx}
def LM(I:Yah)(d:Drawn):Inv X pins σ H {s with drawn:=d}:=⟨I.ok,ZcD⟩
def NP(P:Program)(w:World)(a:Addr)(S:Int->Bool)(n:Nat):HO:=.ext λh=>St.sP P w (St.zd w) h a S n
def acH(P:Program)(w:World)(K:Yaj):YcT->Hp->VK->Prop:=λvs H Q=>∃(a:Addr)(ns:List Int),vs=Yk6/\aV K H a YlV/\YhS+1<4096/\
 ∀(p:Addr)(S:Int->Bool)(n:Nat),H p=none->(∀k,S k=true↔k∈ns)->n<=YhS->(ns.Nodup↔n=YhS)->(∃ms:YdR,ms.Nodup/\(∀k,k∈ms↔k∈ns)/\ms.length=n)->Q (Yij) (upd H p (NP P w p S n))
def Eu{σ:YdR}{v:Int}(h:σ.Nodup):(step_dedup σ v).Nodup:=by
 unfold step_dedup;split
 ·exact h
 ·rename_i hn;rw[Wci];refine⟨h,Ydx,λa ha b hb=>?_⟩;rw[WaE]at hb;subst hb;rintro rfl;exact hn (by simpa using ha)
def zj(val:Nat->Int):∀i,(YlU).Nodup
 |0=>by simp[firstMet_zero]
 |i+1=>by rw[firstMet_succ];exact Eu (zj val i)
def Nv(ns:YdR)(k:Int):k∈firstMet Yib ns.length↔k∈ns:=by
 have e:=firstMet_any Yib ns.length k;have e2:(List.range ns.length).map Yib=ns:=by
  apply Wd9;intro i;by_cases hi:i<YhS
  ·simp[hi]
  ·simp[hi]
 rw[e2]at e;have a:∀l:YdR,(l.any (· ==k))=true↔k∈l:=by
  intro l;rw[WbP];ext XaT
  ·rintro⟨x,hx,q⟩;have:x=k:=YoL;exact this▸hx
  ·intro h;exact⟨k,h,Ydx⟩
 rw[<-a,<-a,e]
def yG:∀{m l:List Int},m.Nodup->(∀x∈m,x∈l)->Yc9<=m.length->l.Perm m
 |[],l,_,_,h=>by have:l=[]:=Wbg.mp YkL;subst this;exact WeL _
 |x::m,l,nd,hs,hl=>by
  have hx:x∈l:=hs x Ycq;have p:=List.perm_cons_erase hx;refine p.trans (List.Perm.cons x (yG (Yp7).2 Yy1 ?_))
  ·have:y≠x:=λe=>(Yp7).1 (e▸hy);exact(List.mem_erase_of_ne this).mpr (hs y Yp5)
  ·rw[List.length_erase_of_mem hx];simp only[Was]at hl;omega
def JC(hc:X.calm=true):mz X (YlM) (acH X.prog X.w X.K):=by
 ext XaW;obtain⟨a,ns,rfl,hs,hl,q⟩:=h;obtain⟨its,rv,hp,_⟩:=I.list hs;rw[Vals.GB r];have hi:=rv.ints;have len:its.length=YhS:=hi.length;have nd:=zj Yib ns.length;have mm:=Nv ns;refine St.OA Yb4 hp.isList YuW (by rw[WaS,len];exact hl) λh' tk S k=>?_;rw[show Yq6=ns.length by simp[len]]at S;refine⟨.ref _,_,I.laid (t':=tk) (o:=NP X.prog X.w s.heap.objs.size _ _) k YcZ ⟨S,?_,λh1 h2 x e=>x.keep e⟩,rfl,q _ _ _ (YcL) (λj=>?_) ?_ ?_ ⟨_,nd,mm,rfl⟩⟩
 ·obtain⟨ob,_,_,_,e,_⟩:=S;exact⟨ob,e⟩
 ·rw[<-mm j,WbP];ext XaT
  ·ext XdH;have:x=j:=Ydr;exact this▸hx
  ·intro hj;exact⟨j,hj,Ydx⟩
 ·exact firstMet_length_le _ _
 ·ext XaT
  ·intro h1;have p:=yG h1 (λx hx=>(mm x).mpr hx) (firstMet_length_le _ _);exact p.length_eq
  ·intro h1;have p:=yG nd (λx hx=>(mm x).mp hx) Yad;exact p.nodup_iff.mpr nd
def Rf(P:Program)(w:World):YcT->Hp->VK->Prop:=λvs H Q=>∃(a:Addr)(S:Int->Bool)(n:Nat),vs=Yk6/\H a=some (NP P w a S n)/\
 ∀(ns':List Int)(p:Addr),(∀k,k∈ns'↔S k=true)->ns'.length=n->YdU->H p=none->Yqo
def qu(hc:X.calm=true):mz X Yeq (Rf X.prog X.w):=by
 ext XaW;ext XdC;refine St.Q0 Yb4 x λD h' tk d out c ns' z k e i m l p=>?_;have hz:(Ywq).length<=sizeLine:=by ext Xbt;rw[Waa,l,WcI];omega
 exact⟨.ref D,_,LM (I.laid (t':=tk) (o:=YgV) k z ⟨hz,Yyf,c,qd i,Ymv⟩) d,rfl,q ns' D m l p (I.cg.fresh z)⟩
def Vf:mz X YjH (λxs H Q=>∃a S n,xs=Yk6/\H a=some (NP X.prog X.w a S n)/\Q (Yhr) H):=by
 ext XaN;ext XdC;obtain⟨o,ho,hso⟩:=x.of.objOf;have hn:(n:Int)<2^63:=by ext Xbt;omega
 have hne:a≠YbJ:=λe=>by rw[e,I.free]at ha;cases ha
 exact len_sl1 (own:=[]) (Att.yS hne ho) hso hn ⟨Yhr,Zbt⟩
def Rg(K:Yaj):YcT->Hp->VK->Prop:=λvs H Q=>∃(a:Addr)(ns:List Int),vs=Yk6/\aV K H a YlV/\
 ∀(ns':List Int)(p:Addr),ns'.Perm ns->YdU->H p=none->Yqo
def wX:mz X Yeq (Rg X.K):=by
 ext XaW;obtain⟨a,ns,rfl,hs,q⟩:=h;obtain⟨its,rv,hl,hz⟩:=I.list hs;rw[Vals.GB r];have hi:=rv.ints;rw[Waa]at hz;refine PyProof.Rows.sorted_intsAny hl.isList hi (by rw[hi.length];exact hz) λout ns' h1 h2 h3=>?_;obtain⟨ep,e⟩:=PyProof.Rows.sortedAll_at s.heap its out;have hlen:(Ywq).length<=sizeLine:=by rw[Waa,h2.length_eq];exact hz
 exact⟨.ref _,upd H Yht (YgV),I.laid (t':=s.toks) (λ_ _=>PyProof.Rows.sortedAll_old) (Wda _) ⟨hlen,Yyf,ep,qd h1,e⟩,rfl,q ns' _ h2 h3 (I.cg.fresh (Wda _))⟩
def XF(i j:Int):Prop:=0<=j/\(Builtin.Int.intBits i:Int)+j<=2^27
def Dj:zT X (binaryOp .LShift) (rI XF λi j=>.int (i*2^j.toNat)):=opI λ_ _ _ _ _ _ _ hc q=>PyProof.Rows.lshift_int hc.1 hc.2 q
def ZJ(i j:Int):Prop:=Builtin.Int.intBits i<=2^20/\Builtin.Int.intBits j<=2^20
def Hg:zT X (binaryOp .Mult) (rI ZJ λi j=>.int (i*j)):=opI λ_ _ _ _ _ _ _ hc q=>PyProof.Rows.mul_int q (IntMulOk.of_bits hc.1 hc.2)
end
section
variable {X:Cx}
def KV.zf{kvs:Yce}{vs:List (Key×Value)}(r:YiX){i:Nat}{k:Key}{x:Value}(e:vs[i]? =some (k,x)):∃v,kvs[i]? =Yya:=by
 have r':Paired (λ(p:Key×V)(q:Key×Value)=>p.1=q.1/\RelV p.2 q.2) kvs vs:=r;clear r;induction r' generalizing i with
 |nil=>simp at e
 |cons h _ ih=>
  cases i with
  |zero=>ext Xcr;exact⟨_,by rw[WbN];exact Wa6 some (Prod.ext h.1 rfl)⟩
  |succ i=>exact ih Ydr
def Ja{w:World}{P:Program}{kvs:Yce}{vs:List (Key×Value)}(r:YiX){acc:Yj5}(h:ItemsOf (λi v=>∃k x,vs[i]? =some (k,x)/\(dP P w).is k v=true) acc vs.length):
  Vals Yhm acc.toList:=by
 have hl:YbM=Yd7:=YcN;have key:∀(i:Nat)(v:Value),acc[i]? =YcV->∃y,(kvs.map λkv=>YCB)[i]? =Ysw/\RelV y v:=by
  intro i v e;obtain⟨k,x,e1,hk⟩:=h.2 i v e;obtain⟨u,e2⟩:=KV.zf r e1;refine⟨kV k,by rw[Wbd,e2];rfl,?_⟩;rcases dc hk with⟨j,t,rfl,rfl⟩|⟨y,t,rfl,rfl⟩
  ·exact Ygb
  ·exact Ygb
 have hl2:(kvs.map λkv=>YCB).length=acc.toList.length:=by rw[Waa,hl,WbC];exact h.1.symm
 have key2:∀(i:Nat)(v:Value),acc.toList[i]? =YcV->∃y,(kvs.map λkv=>YCB)[i]? =Ysw/\RelV y v:=λi v e=>key i v (by rw[<-Wcv];exact e);generalize acc.toList=A at hl2 key2;generalize (kvs.map λkv=>kV kv.1)=B at hl2 key2;clear key h r hl;induction B generalizing A with
 |nil=>
  cases A with
  |nil=>exact .nil
  |cons v A=>simp at hl2
 |cons b B ih=>
  cases A with
  |nil=>simp at hl2
  |cons v A=>refine .cons ?_ (ih A (by simpa using hl2) λi u e=>key2 YcG u Ydr);obtain⟨y,e,r⟩:=key2 0 v rfl;ext Xcr;exact r
def PM
(K:PySem.W.KdlSrc prog w T r d n P OK)(hh:YhX=none)(cg:OK s.heap)(hn:n<=sizeLine)
(h:∀(h':Heap)(tk:Nat)(acc:Array Value),(∀b o,Ya4=YaB->Yb9=YaB)->Yam<=h'.objs.size->YBa->R acc.toList {s with heap:=h',toks:=tk}):
  wpAny YaA A (collect (.ref r)) R E s:=by
 have lt:=K.there _ cg;ext XdD;rw[Wb6 PySem.F.plain_proto_collect _];show wpAny _ A.in1 (newList []>>= λl=>again (.builtin "list.__iadd__" ⟨[l,.ref r],[]⟩)) _ _ s;refine Wab (WbJ (Waj ⟨WdO WeO _,YD2⟩));rw[Wb6 WeO _];have e0:(s.heap.push {cls:=Ybr,data:=.seq ([]:YbN).toArray}).get? s.heap.objs.size=some {cls:=Ybr,data:=.seq #[]}:=YbA;have key:=PySem.W.kdl_extend (A:=A) (s:={s with heap:=s.heap.push {cls:=Ybr,data:=.seq ([]:YbN).toArray}})
  (R:=λ(q:Result)(s':Shared)=>∃(h':Heap)(tk:Nat)(acc:Array Value)(c:Nat),q=.ok (.ret YAm)/\s'={s with heap:=h',toks:=tk}/\
   (∀b o,Ya4=YaB->Yb9=YaB)/\YDU=some {cls:=Ybr,dict:=none,data:=.seq acc c,slots:= #[]}/\YBa)
  K hh (K.keep _ _ cg λb _ o e=>Yhe) s.heap.objs.size (Wb0 lt.1) (Wb0 lt.2) YAm 0 e0
  (λh' tk acc c k e it=>⟨h',tk,acc,c,ZaI,λb o x=>k b o (WaY (WaB x)) Yxk,e,it⟩) hn
 have fin:∀(h':Heap)(tk:Nat)(acc:Array Value)(c:Nat),(∀b o,Ya4=YaB->Yb9=YaB)->YDU=some {cls:=Ybr,dict:=none,data:=.seq acc c,slots:= #[]}->YBa->
   wpAny YaA A (load s.heap.objs.size>>= λo=>match o.data with|.seq xs _=>pure xs.toList|_=>unsupported "internal:collect") R E {s with heap:=h',toks:=tk}:=
  λh' tk acc c k e it=>Wab (WeE e (Waj (h h' tk acc k (WcZ YrW) it)))
 refine WbZ key (λf s' x=>?_) λe s' x=>?_
 ·cases f with
  |done f=>obtain⟨h',tk,acc,c,e,rfl,k,e1,it⟩:=x;cases e;exact fin h' tk acc c k e1 it
  |again c1=>refine⟨x.1,Wc8 x.2 λq s2 y=>?_⟩;obtain⟨h',tk,acc,c,rfl,rfl,k,e1,it⟩:=y;exact fin h' tk acc c k e1 it
 ·obtain⟨_,_,_,_,e',_⟩:=x;cases e'
def RV(hc:X.calm=true):mz X (Ybr) (λxs H Q=>∃a kvs,xs=Yk6/\Ytv/\∀l,H l=none->Q (Ykt) (upd H l (.lst Yhm))):=by ext XaN;obtain⟨a,kvs,rfl,ha,q⟩:=h;ext Xcd;refine PySem.W.kdl_call (PySem.W.kdl_dict lo) Yb4 at_ Yad λh' tk acc c k e it=>?_;have hv:=Ja rel it;exact⟨.ref _,_,I.laid (t':=tk) (o:=.lst Yhm) k YcZ ⟨by rw[Waa];exact z,acc.toList,c,hv,Ymv⟩,rfl,q _ (YcL)⟩
def JB(hc:X.calm=true):mz X Yeq (λxs H Q=>∃a kvs,∃ks:YdR,xs=Yk6/\Ytv/\kvs.map (·.1)=ks.map Sum.inl/\
  ∀(ns':List Int)(p:Addr),ns'.Perm ks->YdU->H p=none->Yqo):=by
 ext XaN;obtain⟨a,kvs,ks,rfl,ha,hk,q⟩:=h;ext Xcd;have hkl:YbL=YbM:=by have:=Wa6 List.length hk;simpa using this.symm
 have ek:Yhm=YgC:=by
  have:Yhm=(kvs.map (·.1)).map kV:=by rw[Wax];rfl
  rw[this,hk,Wax];rfl
 refine St.Lp (ok:=λns=>ns=ks) (λQ1 hq=>PM (A:=X.A.in1) (PySem.W.kdl_dict lo) Yb4 at_ Yad λh' tk acc k zz it=>?_) λD h' tk d out c ns ns' z1 k e i ho p o l=>?_
 ·have hv:=Ja rel it;rw[ek]at hv;exact hq h' tk s.drawn acc.toList ks k zz hv.ints rfl Yad
 ·subst ho;have hz:(Ywq).length<=sizeLine:=by rw[Waa,p.length_eq];exact l
  exact⟨.ref D,_,LM (I.laid (t':=tk) (o:=YgV) k z1 ⟨hz,Yyf,c,qd i,Ymv⟩) d,rfl,q ns' D p o (I.cg.fresh z1)⟩
def UE:Zi X "int.bit_length" (λx xs H Q=>∃i,x=V.int i/\xs=[]/\Q (.int ((Builtin.Int.intBits i:Nat):Int)) H):=by intro pins s σ H x xs v us Q I rx rxs h;obtain⟨i,rfl,rfl,q⟩:=h;ext Xar;cases rxs;exact call_gives F.slot_int_bit_length (typeIs_int s i t) F.entry_int_bit_length (F.args_int_bit_length_1 _) (AutoIntG2.int_bit_length_int_0 i t) ⟨.int _,Zbt⟩
end
section
variable {X:Cx}
structure Callee (X:Cx) (f:Addr) (sp:Sp):Prop where
 ex:∃k fd ps,a6 X.prog X.w X.K X.mg X.base cN k f fd ps sp/\mj k X.A/\PySem.W.keepIn X.K YiB=true/\Binds X.K fd ps []
def ZV(X:Cx)(i:Nat)(t:TA):TE:=λσ H Q=>∃f sp,σ[i]? =Yyd/\Callee X f sp/\t σ H λvs H1=>sp vs H1 Q E0
def Wq(hN:X.N[i]? =YeH)(hv:YlF)(hx:Passes cN X E0)(ha:Yjz)(hd:YbC=false:=by decide)(hcd:Yot=false:=by decide)
(he:Ycz=Ybs::starEach es X.env:=by rfl)(hpl:(Ycb).any (·.1)=false:=by rfl):PE X YdP (ZV X i t):=by
 ext Xaf;obtain⟨f,sp,es',C,h⟩:=h;obtain⟨k,fd,ps,F,hr,hk,hb⟩:=C.ex;have ev:=Wl (pos:=p) hN hv hd hcd pins s σ H (λv H'=>v=.ref f/\H'=H) I ⟨_,es',ZaI⟩;refine Wcf (WbZ ev (λu s1 y=>?_) λ_ _ y=>y);obtain⟨v,H',I',rv,rfl,rfl⟩:=y;obtain rfl:u=Value.ref f:=rv;refine Wdi (h₀:=X.base) I'.ok.mod.kin hk (dq (ha pos pins s1 σ _ _ I' h) λus s2 ⟨vs,H2,I2,r,q⟩=>⟨I2.NW,?_⟩) he hpl;exact MM (dvs:=[]) (ds:=[]) F hr hb .nil hx I2 r (by rw[WaQ];exact q)
end
abbrev Tri(h:Heap)(T:Addr)(a b c:Value):Prop:=h.get? T=some {cls:=Yb2,data:=.seq #[a,b,c]}
def J6(a b c:Value):checkTypeCall "zip" ⟨[a,b,c],[]⟩=pure ():=by kernel_rfl
def Nc(a b c:Value):checkBuiltinCall "zip.__new__" ⟨[Yve,a,b,c],[]⟩=pure ():=by kernel_rfl
def Se(a b c d:Value):argsOk "object.__init__" ⟨[a,b,c,d],[]⟩:=by
 unfold argsOk;rw[signature?_of (id:="object.__init__") (n:=['_','_','t','i','n','i','_','_']) (o:=['t','c','e','j','b','o']) Yhb F.owner_object]
 kernel_rfl
section
variable {prog:Program} {w:World} {A:Around} {E:Value→Shared→Prop} {s:Shared}
def Mi(hT:Tri s.heap T a b c)
(h:∀h',h'.get? T=some {cls:=Yb2,data:=.seq ((#[a,b,c]:Yj5).setIfInBounds k x)}->Heap.SameBut T s.heap h'->Q () {s with heap:=h'}):
  wpAny YaA A (updateSeq T (·.setIfInBounds k x)) Q E s:=by
 refine wpAny_updateSeq hT rfl (h _ ?_ (WcS ..));rw[Wdg _ hT rfl];simp[Obj.mapSeq]
structure Ap3 (z TI TO i1 i2 i3 l1 l2 l3:Addr):Prop where
 n0:TI≠z
 n1:TO≠z
 n2:TI≠TO
 a1:i1≠z
 a2:i2≠z
 a3:i3≠z
 b1:TI≠i1
 b2:TI≠i2
 b3:TI≠i3
 c1:TO≠i1
 c2:TO≠i2
 c3:TO≠i3
 d1:i1≠i2
 d2:i1≠i3
 d3:i2≠i3
 e1:l1≠z/\l1≠TO/\l1≠i1/\l1≠i2/\l1≠i3
 e2:l2≠z/\l2≠TO/\l2≠i1/\l2≠i2/\l2≠i3
 e3:l3≠z/\l3≠TO/\l3≠i1/\l3≠i2/\l3≠i3
def Y9{n l1 l2 l3:Nat}(h1:l1<n)(h2:l2<n)(h3:l3<n):Ap3 (n+5) (n+3) (n+4) n YCG (n+2) l1 l2 l3:=by constructor<;>(show _)<;>first|(intro(h:(_:Nat)=_);omega)|(refine⟨?_,?_,?_,?_,?_⟩<;>(intro(h:(_:Nat)=_);omega))
def Tu{z TI TO i1 i2 i3 l1 l2 l3:Addr}{k:Nat}{xs ys zs:Yj5}{x y v a b c:Value}{Q:Value->Shared->Prop}(D:Yzm)
(hz:YCn)(hTI:Yqe)(hTO:Tri s.heap TO a b c)
(h1:YCL)(h2:s.heap.IsListIter i2 l2 k)(h3:s.heap.IsListIter i3 l3 k)(hl1:Ynp)(hl2:YuH)(hl3:YuG)(hx:xs[k]? =YeH)(hy:ys[k]? =Ysw)(hv:zs[k]? =YcV)
(hQ:∀h',IsZip h' z TI TO (rawInt s.heap.objs.size)->Tri h' TO x y v->h'.IsListIter i1 l1 YCH->h'.IsListIter i2 l2 YCH->h'.IsListIter i3 l3 YCH->Tri h' s.heap.objs.size x y v->
   (∀c o,c≠z->c≠TO->c≠i1->c≠i2->c≠i3->Ywo=YaB->h'.get? c=YaB)->Q YAm {s with heap:=h'}):
  wpAny YaA A YpZ (λfin s'=>∃v,fin=.done (.ret v)/\Q v s') E s:=by
 ext Xfv;refine Wab (WdW YCu Yzq hx λq2 r2 m2=>Yph);have t2:Tri q2 TO a b c:=m2.extBut _ _ D.c1 (m1.extBut _ _ D.n1 hTO);refine Wab (Wc7 t2 rfl (Wab (Mi t2 λq3 t3 m3=>?_)));replace t3:Tri q3 TO x b c:=t3;refine Wab (wpAny_letGo YcW);refine Wab (Wab (Wel (show wpAny _ _ (Builtin.SmallTypes.nextOf (.ref i2)>>=_) _ _ _ from ?_)));refine Wab (WdW (((h2.extBut m1.extBut D.a2).extBut m2.extBut D.d1.symm).extBut m3.extBut D.c2.symm) (((hl2.extBut m1.extBut D.e2.1).extBut m2.extBut D.e2.2.2.1).extBut m3.extBut D.e2.2.1) hy λq4 r4 m4=>Yph);have t4:Tri q4 TO x b c:=m4.extBut _ _ D.c2 t3;refine Wab (Wc7 t4 rfl (Wab (Mi t4 λq5 t5 m5=>?_)));replace t5:Tri q5 TO x y c:=t5;refine Wab (wpAny_letGo YcW);refine Wab (Wab (Wel (show wpAny _ _ (Builtin.SmallTypes.nextOf (.ref i3)>>=_) _ _ _ from ?_)));refine Wab (WdW (((((h3.extBut m1.extBut D.a3).extBut m2.extBut D.d2.symm).extBut m3.extBut D.c3.symm).extBut m4.extBut D.d3.symm).extBut m5.extBut D.c3.symm) (((((hl3.extBut m1.extBut D.e3.1).extBut m2.extBut D.e3.2.2.1).extBut m3.extBut D.e3.2.1).extBut m4.extBut D.e3.2.2.2.1).extBut m5.extBut D.e3.2.1) hv λq6 r6 m6=>Yph);have t6:Tri q6 TO x y c:=m6.extBut _ _ D.c3 t5;refine Wab (Wc7 t6 rfl (Wab (Mi t6 λq7 t7 m7=>?_)));replace t7:Tri q7 TO x y v:=t7;refine Wab (wpAny_letGo (Waj YcW));refine Wab (Wc7 t7 rfl (Wab (wpAny_newTuple ?_)));have sz:q7.objs.size=Yam:=by rw[m7.1,m6.1,m5.1,m4.1,m3.1,m2.1,m1.1]
 have zz:IsZip q7 z TI TO .ellipsis:=m7.extBut _ _ D.n1.symm (m6.extBut _ _ D.a3.symm (m5.extBut _ _ D.n1.symm (m4.extBut _ _ D.a2.symm (m3.extBut _ _ D.n1.symm (m2.extBut _ _ D.a1.symm z1)))));have kk:∀c o,c≠z->c≠TO->c≠i1->c≠i2->c≠i3->Ywo=YaB->q7.get? c=YaB:=λc o f1 f2 f3 f4 f5 e=>m7.extBut _ _ f2 (m6.extBut _ _ f5 (m5.extBut _ _ f2 (m4.extBut _ _ f4 (m3.extBut _ _ f2 (m2.extBut _ _ f3 (m1.extBut _ _ f1 e))))))
 have w1:q7.IsListIter i1 l1 YCH:=((((r2.extBut m3.extBut D.c1.symm).extBut m4.extBut D.d1).extBut m5.extBut D.c1.symm).extBut m6.extBut D.d2).extBut m7.extBut D.c1.symm;have w2:q7.IsListIter i2 l2 YCH:=((r4.extBut m5.extBut D.c2.symm).extBut m6.extBut D.d3).extBut m7.extBut D.c2.symm;have w3:q7.IsListIter i3 l3 YCH:=r6.extBut m7.extBut D.c3.symm;have zl:z<q7.objs.size:=WaB zz;refine Wab (show wpAny _ _ (Builtin.SmallTypes.ownedTupleHandOut (.ref z) (.ref q7.objs.size)) _ _ _ from ?_);unfold Builtin.SmallTypes.ownedTupleHandOut;have z6:IsZip (q7.push {cls:=Yb2,data:=.seq #[x,y,v]}) z TI TO .ellipsis:=Wah _ zz;refine Wab (WcB z6 Yao λq8 z8 m8=>?_);replace z8:IsZip q8 z TI TO (rawInt q7.objs.size):=z8;refine WcB z8 Yao λq9 z9 m9=>?_;replace z9:IsZip q9 z TI TO (rawInt q7.objs.size):=z9;have up:∀c o,c≠z->q7.get? c=YaB->q9.get? c=YaB:=λc o f e=>m9.extBut _ _ f (m8.extBut _ _ f (Yhe));have t9:Tri q9 q7.objs.size x y v:=m9.extBut _ _ (Wb0 zl) (m8.extBut _ _ (Wb0 zl) (YbA));rw[sz]at z9 t9;refine Waj Yfg;show Q (.ref q7.objs.size) _;rw[sz];exact hQ q9 z9 (up _ _ D.n1 t7) (w1.at λo e=>up _ o D.a1 e) (w2.at λo e=>up _ o D.a2 e) (w3.at λo e=>up _ o D.a3 e) t9 λc o f1 f2 f3 f4 f5 e=>up c o f1 (kk c o f1 f2 f3 f4 f5 e)
def VB{z TI TO i1 i2 i3 l1 l2 l3:Addr}{k:Nat}{xs:Yj5}{Q:Fin->Shared->Prop}(hh:YhX=none)(D:Yzm)
(hz:YCn)(hTI:Yqe)
(h1:YCL)(hl1:Ynp)(hx:xs[k]? =none)
(hE:∀h' e,(∀c o,c≠z->c≠i1->Ywo=YaB->h'.get? c=YaB)->(∃o,h'.get? e=YaB/\o.cls=.type "StopIteration")->E (.ref e) {s with heap:=h'}):
  wpAny YaA A YpZ Q E s:=by
 ext Xfv;refine Wab (wpAny_nextOf_list_end hh YCu Yzq hx λq2 e m2 he=>?_);obtain⟨oe,g1,g2⟩:=he;have z2:IsZip q2 z TI TO .ellipsis:=m2 _ _ D.a1.symm z1;have ne:e≠z:=λr=>by subst r;rw[z2]at g1;cases g1;simp at g2
 exact WcB z2 Yao λq3 _ m3=>hE q3 e (λc o f1 f3 r=>m3.extBut _ _ f1 (m2 _ _ f3 (m1.extBut _ _ f1 r))) ⟨oe,m3.extBut _ _ ne g1,g2⟩
end
abbrev Zk(h:Heap)(l1:Addr):Heap:=h.push {cls:=.type "list_iterator",data:=.fields #[.ref l1,.int 0 0]}
abbrev zA2(h:Heap)(l1 l2:Addr):Heap:=Zk (Zk h l1) l2
abbrev zA3(h:Heap)(l1 l2 l3:Addr):Heap:=Zk (zA2 h l1 l2) l3
abbrev zA4(h:Heap)(l1 l2 l3:Addr):Heap:=(zA3 h l1 l2 l3).push {cls:=Yb2,data:=.seq #[.ref h.objs.size,.ref (Zk h l1).objs.size,.ref (zA2 h l1 l2).objs.size]}
abbrev zA5(h:Heap)(l1 l2 l3:Addr):Heap:=(zA4 h l1 l2 l3).push {cls:=Yb2,data:=.seq #[.none,.none,.none]}
abbrev Vv(h:Heap)(l1 l2 l3:Addr):Heap:=(zA5 h l1 l2 l3).push {cls:=Yve,data:=.fields #[.none,.bool false,.bool false,.ref (zA3 h l1 l2 l3).objs.size,.ref (zA4 h l1 l2 l3).objs.size]}
def VA(l1 l2 l3:Addr)(xs ys zs:Yj5):
  Meets (Builtin.«zip.__new__» ⟨[Yve,.ref l1,.ref l2,.ref l3],[]⟩) (λ_ R s=>Ynp/\YuH/\YuG/\
   R (.ok (.ret (.ref (Yno).objs.size))) {s with heap:=YcK}):=
 .of_wp λprog w A R s h=>by
  obtain⟨hp,g,d,tk,os⟩:=s;obtain⟨hl1,hl2,hl3,h⟩:=h;have hsub:=sub_zip;have hA:Heap.IsList (Shared.heap ⟨hp,g,d,tk,os⟩) l1 xs:=hl1;have hB:Heap.IsList (Shared.heap ⟨Zk hp l1,g,d,tk,os⟩) l2 ys:=WeU hl2 _;have hC:Heap.IsList (Shared.heap ⟨zA2 hp l1 l2,g,d,tk,os⟩) l3 zs:=WeU (WeU hl3 _) _
  wp_walk using WcK hA,WcK hB,WcK hC
  exact⟨Zaa,h⟩
section
variable {prog:Program} {w:World} {A:Around} {E:Value→Shared→Prop} {s:Shared}
def Tv{l1 l2 l3:Addr}{xs ys zs:Yj5}{Q:Value->Shared->Prop}(hl1:Ynp)(hl2:YuH)(hl3:YuG)
(h:∀h',IsZip h' (Yam+5) (Yam+3) (Yam+4) .none->Tri h' (Yam+3) YAm (.ref Yht) (.ref (Yam+2))->
   Tri h' (Yam+4) .none .none .none->h'.IsListIter s.heap.objs.size l1 0->h'.IsListIter Yht l2 0->h'.IsListIter (Yam+2) l3 0->
   (∀c o,Ywo=YaB->h'.get? c=YaB)->Q (.ref (Yam+5)) {s with heap:=h'}):
  wpAny YaA A (call (Yve) [.ref l1,.ref l2,.ref l3]) Q E s:=by
 refine callType_new F.called_zip YeP (J6 _ _ _) (Nc _ _ _) (λobj=>Se obj _ _ _) F.entry_zip_new (VA l1 l2 l3 xs ys zs) ⟨hl1,hl2,hl3,?_⟩;have y1:(Zk s.heap l1).objs.size=Yam+1:=WaW ..;have y2:(Yzz).objs.size=Yam+2:=by rw[WaW,y1]
 have y3:(YuD).objs.size=Yam+3:=by rw[WaW,y2]
 have y4:(YuC).objs.size=Yam+4:=by rw[WaW,y3]
 have y5:(Yno).objs.size=Yam+5:=by rw[WaW,y4]
 have p1:∀{c:Addr}{o:Obj},(Yno).get? c=YaB->(YcK).get? c=YaB:=λx=>Wah _ x;have p2:∀{c:Addr}{o:Obj},(YuC).get? c=YaB->(YcK).get? c=YaB:=λx=>p1 Yxk;have p3:∀{c:Addr}{o:Obj},(YuD).get? c=YaB->(YcK).get? c=YaB:=λx=>p2 Yxk;have p4:∀{c:Addr}{o:Obj},(Yzz).get? c=YaB->(YcK).get? c=YaB:=λx=>p3 Yxk;have p5:∀{c:Addr}{o:Obj},(Zk s.heap l1).get? c=YaB->(YcK).get? c=YaB:=λx=>p4 Yxk;have f6:(YcK).get? (Yno).objs.size=some _:=YbA;have f5:(YcK).get? (YuC).objs.size=some _:=p1 (YbA);have f4:(YcK).get? (YuD).objs.size=some _:=p2 (YbA);have f3:(YcK).get? (Yzz).objs.size=some _:=p3 (YbA);have f2:(YcK).get? (Zk s.heap l1).objs.size=some _:=p4 (YbA);have f1:(YcK).get? s.heap.objs.size=some _:=p5 (YbA);show _/\_;rw[y3,y4,y5]at f6;rw[y1,y2,y3]at f4;rw[y4]at f5;rw[y2]at f3;rw[y1]at f2;rw[y5];exact⟨⟨_,f6,rfl⟩,h _ f6 f4 f5 ⟨_,f1,ZaI⟩ ⟨_,f2,ZaI⟩ ⟨_,f3,ZaI⟩ λc o x=>p5 Yxk⟩
end
def ab8(K:Yaj)(a b c:Addr):It:=
 ⟨λi H=>∃(xs ys zs:List V)(x y z:V),YcS/\Yvb/\aV K H c zs/\xs[i]? =YeH/\ys[i]? =Ysw/\zs[i]? =some z,
  λi H v H'=>∃T x y z,v=.ref T/\H T=none/\H'=upd H T (.tup [x,y,z])/\YEa/\(∀ys,Yvb->ys[i]? =Ysw)/\∀zs,aV K H c zs->zs[i]? =some z,
  λi H=>∃xs:YcT,YcS/\Ybp<=i⟩
def six{c z TI TO i1 i2 i3:Addr}(h:c∈YoG):c=z∨c=TI∨c=TO∨c=i1∨c=i2∨c=i3:=by simpa using h
def TM{P:Program}{w:World}{K:Yaj}{elts:YhW}{kk:Nat}{tpos:Pos}{a b c z TI TO i1 i2 i3:Addr}(D:Ap3 z TI TO i1 i2 i3 a b c):
  Turn P w K Ygv (ab8 K a b c) YoG z (λi h=>IsZip h z TI TO .none/\Tri h TI (.ref i1) (.ref i2) (.ref i3)/\(∃x y v,Tri h TO x y v)/\h.IsListIter i1 a i/\h.IsListIter i2 b i/\h.IsListIter i3 c i) where
 mem:=by simp
 obj:=λi h st d hd=>by
  obtain⟨hz,hTI,⟨x,y,v,hTO⟩,⟨o1,e1,_,d1⟩,⟨o2,e2,_,d2⟩,⟨o3,e3,_,d3⟩⟩:=st;rcases six hd with q|q|q|q|q|q<;>rw[q]
  ·exact⟨_,hz,Yzx⟩
  ·exact⟨_,hTI,Yzx⟩
  ·exact⟨_,hTO,Yzx⟩
  ·exact⟨o1,e1,λv r=>by rw[d1]at r;cases r⟩
  ·exact⟨o2,e2,λv r=>by rw[d2]at r;cases r⟩
  ·exact⟨o3,e3,λv r=>by rw[d3]at r;cases r⟩
 keep:=λi h h' st k=>by obtain⟨hz,hTI,⟨x,y,v,hTO⟩,h1,h2,h3⟩:=st;exact⟨k z Yao _ hz,k TI Yao _ hTI,⟨x,y,v,k TO Yao _ hTO⟩,Zb6,h3.at λo q=>k i3 Yao o q⟩
 item:=by
  ext Xe3;obtain⟨xs,ys,zs,x,y,v,qa,qb,qc,hx,hy,hv⟩:=hg;obtain⟨its,rv,p,_⟩:=I.list qa;obtain⟨its2,rv2,p2,_⟩:=I.list qb;obtain⟨its3,rv3,p3,_⟩:=I.list qc;ext Xel;obtain⟨u3,hu3,ru3⟩:=rv3.get hv;have zl:z<Yam:=WaB hz;ext XeH
  refine Wab (WdN (Wcr (name:=Yhk) hT Wd6 (WbS Wd6 hT F.entry_zip_next
   (Tu D hz hTI hTO h1 h2 h3 p.isList p2.isList p3.isList (x:=u) (y:=u2) (v:=u3) YjO (by simpa using hu2) (by simpa using hu3) λh' z' TO' g1 g2 g3 hN hk=>Yph) (F.args_zip_next_1 _))))
  refine YhR;have hN2:Yo8=some {cls:=Yb2,data:=.seq #[u,u2,u3]}:=(sb.2 _ (Wb0 zl)).trans hN;have new:fM X.prog X.w Yr6 h'' s.heap.objs.size (.tup [x,y,v]):=⟨by show 3<=sizeLine;decide,[u,u2,u3],.cons ru (.cons ru2 (.cons ru3 .nil)),⟨_,hN2,ZaF⟩⟩
  have I1:Inv X pins σ Yr6 {s with heap:=h''}:=I.Er (t':=s.toks) (ch:=YoG) (λd o hb q=>(sb.2 d Ydv).trans (hk d o Ydv Ydv Ydv Ydv Ydv q)) hf YcZ new
  refine⟨YaR,_,I1,rfl,⟨_,x,y,v,rfl,YcL,rfl,λl hl=>by rw[I.oj hl qa];exact hx,λl hl=>by rw[I.oj hl qb];exact hy,λl hl=>by rw[I.oj hl qc];exact hv⟩,⟨z'',?_,⟨u,u2,u3,?_⟩,ZbG,?_⟩,λd hd=>?_⟩
  ·exact(sb.2 _ D.n0).trans (hk _ _ D.n0 D.n2 D.b1 D.b2 D.b3 hTI)
  ·exact(sb.2 _ D.n1).trans TO'
  ·exact g1.at λo q=>(sb.2 _ D.a1).trans q
  ·exact g2.at λo q=>(sb.2 _ D.a2).trans q
  ·exact g3.at λo q=>(sb.2 _ D.a3).trans q
  ·have hlt:d<Yam:=by
    rcases six hd with q|q|q|q|q|q<;>rw[q]
    ·exact zl
    ·exact WaB hTI
    ·exact WaB hTO
    ·obtain⟨_,e1,_⟩:=h1;exact WaB e1
    ·obtain⟨_,e2,_⟩:=h2;exact WaB e2
    ·obtain⟨_,e3,_⟩:=h3;exact WaB e3
   rw[aA (WaY hlt)];exact(hf d hd).1
 done:=by
  ext Xe3;obtain⟨xs,qa,hend⟩:=hg;obtain⟨its,rv,p,_⟩:=I.list qa;have l1:=rv.length;have he:its.toArray[i]? =none:=by simp;omega
  ext XeH
  refine Wab (WdN (Wcr (name:=Yhk) hT Wd6 (WbS Wd6 hT F.entry_zip_next
   (VB Yb4 D hz hTI h1 p.isList he λh' e hk he=>?_) (F.args_zip_next_1 _))))
  obtain⟨o,ho,hcl⟩:=he;refine Wab (WdT (T:="StopIteration") (b:=true) ⟨o,ho,hcl⟩ isSubtype_stop YcW);exact⟨rfl,I.So (t':=s.toks) (ch:=YoG) (λd o hb q=>hk d o Ydv Ydv q) hf⟩
 self:=λA i s Q E st h=>WdS st.1 h
def abL(K:Yaj)(ta:TA):TI:=λσ H R=>ta σ H λvs H1=>∃a b c xs ys zs,vs=[Ybc,Yx6,YvC]/\YsX/\aV K H1 b ys/\aV K H1 c zs/\R (ab8 K a b c) H1
def YA{X:Cx}{e e2 e3:Expr}{ta:TA}{p pos tpos:Pos}{elts:YhW}{kk:Nat}(hg:Gl X "zip")(hm:X.mg "zip"=none)(ha:PA X [e,e2,e3] ta)
(hs:starEach [e,e2,e3] X.env=Ybs::starEach [e2,e3] X.env:=by rfl)(hpl:(backTo pos (starEach [e2,e3] X.env)).any (·.1)=false:=by rfl):
  PI X Ygv (.Call (.Name "zip" p) [e,e2,e3] [] pos) (abL X.K ta):=by
 ext Xbl;refine Ys5;obtain⟨a,b,c,xs,ys,zs,ex,qa,qb,qc,q⟩:=q1;subst ex;obtain⟨u1,rest1,rfl,r,rr⟩:∃u1 rest1,us=u1::rest1/\RelV YwE u1/\Vals [Yx6,YvC] rest1:=by cases r1 with|cons r rr=>exact⟨Zbr,r,rr⟩
 obtain⟨u2,rest2,rfl,r2,rr2⟩:∃u2 rest2,rest1=u2::rest2/\RelV (Yx6) u2/\Vals [YvC] rest2:=by cases rr with|cons r rr=>exact⟨Zbr,r,rr⟩
 obtain⟨u3,rfl,r3⟩:∃u3,rest2=[u3]/\RelV (YvC) u3:=by
  cases rr2 with
  |cons q5 q6=>
   cases q6 with
   |nil=>exact⟨Zaa,q5⟩
 cases r;cases r2;cases r3;obtain⟨its,rv,p1,_⟩:=I1.list qa;obtain⟨its2,rv2,p2,_⟩:=I1.list qb;obtain⟨its3,rv3,p3,_⟩:=I1.list qc;refine Tv p1.isList p2.isList p3.isList λh' hz hTI hTO h1 h2 h3 hk=>WdS hz ?_;ext Xbq;refine⟨YaJ+5,[YaJ+5,YaJ+3,YaJ+4,YaJ,YaJ+1,YaJ+2],_,_,H1,rfl,I2,TM (Y9 p1.lt p2.lt p3.lt),⟨hz,hTI,⟨_,_,_,hTO⟩,Zb7,h3⟩,λd hd=>?_,q⟩;have hle:YaJ<=d:=by
  rcases six hd with z|z|z|z|z|z<;>rw[z]
  ·ext XeI
  ·ext XeI
  ·ext XeI
  ·exact Wau _
  ·ext XeI
  ·ext XeI
 exact Ynh
theorem RG(h:ItemsOf (λi v=>∃t,v=Value.int (a+i*1) t) acc n):Vals ((Yo0).map λi=>V.int (a+((i:Nat):Int))) acc.toList:=by
 have hl:acc.toList.length=n:=by rw[Array.length_toList];exact h.1
 have key:∀(i:Nat)(v:Value),acc.toList[i]? =YcV->RelV (V.int (a+((i:Nat):Int))) v:=λi v e=>by obtain⟨t,rfl⟩:=h.2 i v (by rw[<-Array.getElem?_toList];exact e);exact⟨t,by rw[Int.mul_one]⟩
 generalize acc.toList=L at hl key;clear h;subst hl;induction L generalizing a with
 |nil=>exact .nil
 |cons v L ih=>
  rw[List.length_cons,List.range_succ_eq_map,List.map_cons,List.map_map];refine .cons (key 0 v rfl) ?_;have:=ih (a:=a+1) λi u e=>by have:=key YcG u Ydr;rw[show a+1+((i:Nat):Int)=a+((i+1:Nat):Int)by omega];exact this
  refine cast ?_ this;congr 1;refine List.map_congr_left λi _=>?_;show V.int _=V.int _;congr 1;show a+1+((i:Nat):Int)=a+((i+1:Nat):Int);omega
def QL(ta:TA):TE:=λσ H Q=>ta σ H λvs H1=>∃n:Nat,vs=[Yhr]/\n<=16777216/\∀l,H1 l=none->Q (Ykt) (upd H1 l (YCU))
def RZ:bootBuiltins "list"=some (Ybr):=by ext XaX
def MS(hc:X.calm=true)(hg:Gl X "list")(hg2:Gl X "range")(hm:X.mg "list"=none)(hm2:X.mg "range"=none)(ha:PA X [a] ta)
(hs:starEach [a] X.env=[(false,YyR)]:=by rfl)(hs2:starEach [Yif] X.env=[(false,eval (Yif) X.env)]:=by rfl):
  PE X (.Call (.Name "list" p) [.Call (.Name "range" p2) [a] [] pos2] [] pos) (QL ta):=by
 ext Xaf;refine Call_ (uA I hg hm RZ (Wbu ?_ (by rw[hs2];rfl) rfl));rw[hs2];show wpAny _ _ (spliced ((false,eval (Yif) X.env)::backTo pos [])) _ _ s;refine Wc2 ?_;refine Call_ (uA I hg2 hm2 boot_range (Wbu (dq (ha pos2 pins s σ H _ I h) λus s1 ⟨vs,H1,I1,r1,q1⟩=>?_) hs rfl));obtain⟨n,e,hn,q⟩:=q1;subst e;cases r1 with
 |cons r rr=>cases rr;ext XaR;refine call_range_1 (WdM ?_);refine call_list_range Yb4 (IsRange.new ..) (small_one Yad Yad Yad Yad) (n:=n) (by rw[rangeSize_one];split<;>omega) hn λh' tk acc c k e it=>?_;have hv:=RG it;simp only[Int.zero_add]at hv;have I2:Inv X pins σ H1 {s1 with heap:=s1.heap.push {cls:=YkW,data:=.fields #[.int 0 s1.toks,.int n t,.int 1 (Ym9+1)]},toks:=Ym9+1+1}:=I1.kept λb o e=>Yhe;exact⟨.ref _,_,I2.laid (t':=tk) (o:=YCU) k YcZ ⟨by rw[Waa,Wd8,WcI];exact hn,acc.toList,c,hv,Ymv⟩,rfl,q _ (I2.cg.fresh YcZ)⟩
def ledger(h:Heap)(L:Addr):Ya0:=(YrF).filterMap λb=>if b=L then none else(YdX).map λo=>(b,o)
def rH:(b,o)∈ledger h L↔YdX=YaB/\b≠L:=by
 unfold ledger;rw[WbX];ext XaT
 ·rintro⟨c,_,e⟩;split at e
  ·cases e
  ·rename_i n;cases q:h.get? c with
   |none=>ext Xgk
   |some u=>ext Xgk;exact⟨q,n⟩
 ·rintro⟨e,n⟩;exact⟨b,Wbx.mpr YrW,by rw[Wae n,e];rfl⟩
def noObj(b:Addr):(({}:Heap).get? b)=none:=Heap.get?_none_of_le (WaL _)
def abT(hn:h.Ns L m):Fr {} L h m:=⟨hn,λb o e=>(by rw[noObj]at e;cases e),WaL _⟩
def yS(h:Heap)(L:Addr):News {} L h (ledger h L):=λp hp=>⟨(rH.mp hp).1,(rH.mp hp).2,noObj _⟩
def Qp(kz:YdR)(as as':Ybw):Prop:=∃ps:List (Int×Addr),ps.Perm (Yw3)/\as'=ps.map Prod.snd/\ps.Pairwise λp q=>q.1<=p.1
def QK(K:Yaj)(tb:Addr)(lpos:Pos)(q:Str)(f:Str)(ta:TA):TE:=λσ H Q=>ta σ H λvs H1=>∃l C,∃(as:List Addr)(kz:List Int),vs=[Ykt]/\H1 tb=some (.Fo lpos q)/\H1 l=Yfp/\x5 K C/\YAG/\
 Paired (λa k=>∃dx fs,H1 a=Ycv/\Yn8=some (.int k)) as kz/\
 ∀D as' H',aN H1 H'->H1 D=none->H' D=some (Ydq)->Qp kz as as'->Q Yle H'
def UD(x:Yt8):∃u,Yds=YaY:=by
 cases o with
 |lst xs=>obtain⟨_,_,_,_,e⟩:=x;exact YiW
 |tup xs=>obtain⟨_,_,_,ob,e,_⟩:=x;exact YiW
 |dK kvs=>ext Xbo;exact YiW
 |dT kvs=>ext Xbo;exact YiW
 |set S n=>ext XgM;exact YiW
 |ins C dx fs=>obtain⟨_,_,_,e,_⟩:=x;exact YiW
 |own y=>exact x
 |xd fs=>obtain⟨_,⟨_,_,_,e,_⟩,_⟩:=x;exact YiW
 |rng lo hi=>obtain⟨_,_,_,e⟩:=x;exact YiW
 |jh ob u=>obtain⟨e,_⟩:=x;exact YiW
 |Zm ps=>exact⟨_,x⟩
 |met f y=>exact⟨_,x⟩
 |ext φ=>obtain⟨_,e,_⟩:=x;exact e
 |Fo pos q=>obtain⟨_,e,_⟩:=x;exact YiW
section
variable {X:Cx}
structure Lam (h:Heap) (fn c':Addr) (qual:Str) (params:Arguments) (body:Expr) (scope:Scope):Prop where
 ob:∃pm ctv,h.get? fn=some (PySem.W.kla_obj "<lambda>" qual params body scope [] pm c' ctv)
 cd:h.CodeRec (.ref c') qual
def WR(I:Yah)
(hcode:X.env.code=YvC)(hglob:X.env.globals=mainGlobals)(hC:∀h,X.K.In h->Yiu)(hcl:closureFor scope X.env=pure [])(hdef:defaultsOf params X.env=([],[]))(hq:X.env.qual++"<lambda>"=qual)
(ht:H tb=some (.Fo lpos qual))
(h:∀fn c' H' s',Yeo->Ya1->H fn=none->Lam s'.heap fn c' qual params body scope->H' fn=none->Q (.ref fn) s'):
  wpAny Yar X.A (eval (YyF) X.env) Q X.xe s:=by
 refine PySem.W.kla_eval hdef ?_;rw[hq];obtain⟨ps,hP,hps⟩:=I.cg _ _ ht;have gl:s.heap.Ns mainGlobals X.mg:=I.ok.mod.glob.keeps I.bk;have hgP:mainGlobals≠tb:=λq=>by obtain⟨o,es,ep,e,_⟩:=I.ok.mod.glob;have:=(I.bs _ _ e).2;rw[q,ht]at this;cases this
 have hB:s.heap.BuiltinsAt X.mg tb:=by obtain⟨bm,o,b1,b2,b3,b4,b5⟩:=I.ok.mod.bm;refine⟨bm,o,b1,b2,b3,λq=>?_,I.bk _ _ b4,b5⟩;have:=(I.bs _ _ b4).2;rw[q,ht]at this;cases this
 rcases hps with rfl|⟨c1,oc,vs,t,rfl,hc1,ho1,hd1,hv1⟩
 ·refine PySem.W.kla_makeFunction hcl hglob gl hcode (hC _ I.NW) hP True.intro rfl hgP hB λc' ctv h' tk hx hge hlt hrec htb=>?_;have fc:H c'=none:=I.cg.fresh hge;have fn0:H h'.objs.size=none:=I.cg.fresh (WaF hge (WcZ hlt));have k2:∀b o,b≠tb->Ya4=YaB->(h'.push Ybk).get? b=YaB:=λb o n e=>Wah _ (hx b o n e);have nt:∀{b:Addr},H b=none->b≠tb:=λ{b} n q=>by rw[q,ht]at n;cases n
  have hrec2:=hrec.push Ybk;have hup:Un X.fs [] H (upd H c' (.own tb)) s.heap (h'.push Ybk):=
   ⟨λb o e n _ _=>k2 b o (nt n) e,λb o e n _ _=>⟨o.slots,k2 b o (nt n) e⟩,λb o e n _=>by rw[aA (WaY (WaU YrW hge))];exact n,
    λb o e _=>by
     by_cases q:b=tb
     ·subst q;exact⟨_,Wah _ htb⟩
     ·exact⟨o,k2 b o q e⟩,
    λb xs e=>by rw[aA (ao e fc)];exact e,λb o u e=>by rw[aA (ao e fc)];exact e,λb ps e=>⟨#[],by rw[aA (ao e fc),e];simp⟩⟩
  have cg:xP X.prog X.w (upd H c' (.own tb)) (h'.push Ybk):=λb u e=>by
   obtain⟨c2,oc,vs,t,e2,hoc,hd,hv⟩:=id hrec2;cases e2;by_cases q:b=c'
   ·subst q;rw[ab]at e;cases e;exact⟨oc,hoc⟩
   ·rw[aA q]at e;by_cases q2:b=tb
    ·subst q2;rw[ht]at e;cases e;exact⟨_,Wah _ htb,.inr ⟨c',oc,vs,t,ZcG,hoc,hd,hv⟩⟩
    ·refine(I.cg b u e).xV (λd v hd2 r=>k2 d v ?_ r) (λd r=>by rw[aA (ao r fc)];exact r) λd xs r=>by rw[aA (ao r fc)];exact r
     rcases hd2 with rfl|hd2
     ·exact q2
     ·exact bS hd2 ht Yaq
  refine h _ c' _ _ (I.un hup cg) (λb o e=>by rw[aA (ao e fc)];exact e) fn0 ⟨⟨_,_,YbA⟩,hrec2⟩ ?_;rw[aA (Wb0 hlt)];exact fn0
 ·refine PySem.W.kla_makeFunctionHit (cv:=.ref c1) hcl hglob gl hcode (hC _ I.NW) hP True.intro (by simp[codeAmong,rawInt]) hB λctv h' tk hk hsz=>?_;have fn0:H h'.objs.size=none:=I.cg.fresh hsz;exact h _ c1 H _ (I.kept (t':=tk) λb o e=>Wah _ (hk b o e)) (λ_ _ e=>e) fn0 ⟨⟨_,_,YbA⟩,⟨c1,oc,vs,ZcH,Wah _ (hk _ _ ho1),hd1,hv1⟩⟩ fn0
structure ZH (params:Arguments) (body:Expr) (scope:Scope) (x f:Str):Prop where
 bd:∃p1 p2,body=.Attribute Yy5 f p2
 bind:∀(qual:Str)(pm c ctv v:Value),bindArgs (PySem.W.kla_fn "<lambda>" qual params body scope [] pm c ctv) ⟨[v],[]⟩=pure [(x,v)]
 loc:scope.names.lookup x=YdK
 kind:scope.kind=.function
 cell:∀y∈Yj2,y.2≠ .cell
 gen:scope.isGenerator=false
 co:scope.isCoroutine=false
 dbg:YbC=false
 base:∀(p1:Pos)(env:Env),attributeBase Yy5 f env (eval Yy5 env)=eval Yy5 env
def WQ{P:Program}{w:World}{K:Yaj}{A:Around}{E:Value->Shared->Prop}{s:Shared}{fn c' a dx C:Addr}{mA:Str->Yci}{k:Int}{t0:Tok}{qual x f:Str}{params:Arguments}{body:Expr}{scope:Scope}{R:Value->Shared->Prop}(KX:Yoe)(lim:s.heap.NoLimit)(hroom:A.depth<recursionLimit)
(lm:Lam s.heap fn c' qual params body scope)(tx:YD1)(O:NR s.heap a dx C mA)(hk:mA f=some (.int k t0))(c:x5 K C)(n:YAG)
(h:∀h' tk t,(∀b o,Ya4=YaB->Yb9=YaB)->R (.int k t) {s with heap:=h',toks:=tk}):
  wpAny YlN A (call (.ref fn) Yvz) R E s:=by
 obtain⟨pm,ctv,ho⟩:=lm.ob;obtain⟨p1,p2,eb⟩:=tx.bd;refine wpAny_call (PySem.W.kla_callFunE hroom ho rfl tx.co tx.gen rfl lm.cd ?_);rw[tx.bind];refine Waj (wpAny_newFunctionEnv tx.cell Yy1 (λh1 hns hsb=>?_) tx.kind)
 ·rw[WaE.mp hy];exact tx.loc
 ·have hk1:∀b o,Ya4=YaB->h1.get? b=YaB:=λb o e=>hsb.extBut b o (WaY YrW) (Yhe);refine⟨lim.keeps hk1,PySem.W.kla_codeExpr ?_⟩;subst eb;refine Tp (tx.base p1 _) (wpAny_Name (Wd7 tx.kind tx.loc hns (v:=Ybc) Yao ?_) tx.dbg);have O1:NR h1 a dx C mA:=⟨hk1 _ _ O.obj,O.ns.at λo e=>hk1 _ _ e,O.ne⟩;exact get_map (KX.keeps hk1) O1 (c.get f) c.hd n hk rfl (h h1 _ t0 hk1)
def Lx:∀{as:List Addr}{us:List Value},Vals (YbP) us->us=as.map Value.ref
 |[],_,r=>by cases r;rfl
 |a::as,_,r=>by
  cases r with
  |cons q rr=>cases q;rw[Waw,Lx rr]
def Le:∀as:Ybw,Vals (YbP) (Ymw)
 |[]=>.nil
 |a::as=>.cons rfl (Le as)
def Bb:Int×Value->Int×Addr
 |(k,.ref a)=>(k,a)
 |(k,_)=>(k,0)
def Oy(h:KskOutSt true kz (Ymw) out):∃as',out=as'.map Value.ref/\Qp kz as as':=by
 obtain⟨ps,hp,ho,hs,_⟩:=h;have ez:kz.zip (Ymw)=(Yw3).map λp=>(p.1,Value.ref p.2):=by rw[List.zip_map_right];rfl
 rw[ez]at hp;have e1:∀p∈ps,((Bb p).1,Value.ref (Bb p).2)=p:=λp hp'=>by obtain⟨q,_,rfl⟩:=WaD.mp (hp.mem_iff.mp hp');rfl
 have e2:ps=(ps.map Bb).map λp=>(p.1,Value.ref p.2):=by
  rw[Wax]
  conv=>lhs;rw[<-Wdc ps]
  exact Wa4 λp hp'=>(e1 p hp').symm
 have e3:(ps.map Bb).Perm (Yw3):=by
  have:=hp.map Bb;rw[Wax]at this;have e4:(Yw3).map (Bb∘ λp=>(p.1,Value.ref p.2))=Yw3:=by
   conv=>rhs;rw[<-Wdc (Yw3)]
   exact Wa4 λp _=>rfl
  rw[e4]at this;exact this
 refine⟨(ps.map Bb).map Prod.snd,?_,ps.map Bb,e3,Zag⟩
 ·rw[ho]
  conv=>lhs;rw[e2]
  simp only[Wax];rfl
 ·rw[Wcx];refine Wdw (λ{p q} hp' hq' h=>?_) hs;have a1:(Bb p).1=p.1:=Wa6 Prod.fst (e1 p hp');have a2:(Bb q).1=q.1:=Wa6 Prod.fst (e1 q hq');rw[a1,a2];exact h
def MR{c tb:Addr}{p pos lpos p3 k1 k2:Pos}{j:Nat}{e:Expr}{ta:TA}{x f qual:Str}{params:Arguments}{body:Expr}{scope:Scope}(hc:X.calm=true)(hg:Gl X "sorted")(hm:X.mg "sorted"=none)(hr:X.A.depth<recursionLimit)
(hcode:X.env.code=YvC)(hglob:X.env.globals=mainGlobals)(hC:∀h,X.K.In h->Yiu)(hcl:closureFor scope X.env=pure [])(hdef:defaultsOf params X.env=([],[]))(hq:X.env.qual++"<lambda>"=qual)
(tx:YD1)(ha:PA X [e] ta)(he:backTo pos (Yh6)=Ybs::backTo pos (starEach [] X.env):=by rfl)(hpl:(backTo pos (Yh6)).any (·.1)=false:=by rfl):
  PE X (.Call (.Name "sorted" p) [e] [⟨some "key",YyF,k1⟩,⟨some "reverse",.Constant (.bool true) j p3,k2⟩] pos) (QK X.K tb lpos qual f ta):=by
 ext Xaf;refine Wcf (uA I hg hm (show bootBuiltins "sorted"=some Yeq by decide+kernel) ?_);refine callWith_kw Ya8 he hpl;obtain⟨l,C,as,kz,rfl,htb,hl,cC,nC,hk,q⟩:=q1;obtain⟨u,rfl,ru⟩:=vals1 r1;cases ru;refine kws_cons (WR I1 hcode hglob hC hcl hdef hq htb λfn c' H2 s2 I2 sm fnn lm fn2=>?_);refine kws_cons (Constant_bool ?_);refine kws_nil ?_;obtain⟨its,rv,pl,hz⟩:=I2.list (YxQ);have eits:=Lx rv;subst eits;obtain⟨m,hn,_⟩:=id I2.loc;have lenk:kz.length=(Ymw).length:=by rw[Waa];exact hk.length.symm
 have mem:∀{b:Addr}{o:Obj},Ypk=YaB->b≠YbJ->(b,o)∈YAp:=λe n=>rH.mpr ⟨e,n⟩;have trk:∀{b:Addr}{u:HO},H2 b=YaY->∃o,Ypk=YaB/\b≠YbJ:=λ{b u} e=>by obtain⟨o,ho⟩:=UD (I2.cg b u e);exact⟨o,ho,ao e I2.free⟩
 have hkw:wpAny Yar X.A (call Yeq [Ykt] [(Str.ofString "key",.ref fn),(Str.ofString "reverse",.bool true)]) Yb5 X.xe s2:=by
  refine ksk_sortedSt (h₀:={}) (L:=YbJ) (m:=m) (news:=YAp) (vs:=Ymw) (kz:=kz) (b:=true) (abT hn) (yS _ _) pl.isList lenk (by rw[Waa]at hz ⊢;exact hz) (ksk_s2 _ _ _) (λy=>ksk_l2 _ _ _) (λy=>ksk_t2 _ _ _) ?_ ?_
  ·intro i v k hv hki h3 tk own F3 N3;rw[Wbd]at hv;cases ea:as[i]? with
   |none=>rw[ea]at hv;cases hv
   |some a=>
    rw[ea]at hv;cases hv;obtain⟨k',ek',dx,fs,hins,hlk⟩:=Ir hk ea;rw[hki]at ek';cases ek';have kp3:∀b o,b≠YbJ->Ypk=YaB->h3.get? b=YaB:=λb o n e=>(N3 (b,o) (Wc4 _ (mem e n))).1;have kb:∀b o,Ym3=YaB->h3.get? b=YaB:=λb o e=>by have e2:=(I2.bs b o e).1;refine kp3 b o (λz=>?_) e2;have lt:=WaB e;rw[z]at lt;exact WbH _ (WaU lt (WaF I2.ok.XT I2.ok.above))
    have hok3:xP X.prog X.w H2 h3:=λb u e=>(I2.cg b u e).xV (λd v hd r=>kp3 d v (by
     rcases hd with rfl|hd
     ·exact ao e I2.free
     ·exact ao hd I2.free) r) (λ_ r=>r) λ_ _ r=>r
    obtain⟨mA,O,ro,_,_,_⟩:=Hk hok3 (sm _ _ hins);obtain⟨u,hu,ru⟩:=xf.some_of (v:=V.int k) (o:=mA f) (by rw[<-hlk];exact ro f);obtain⟨t0,rfl⟩:=ru;have fnl:fn≠YbJ:=λz=>by obtain⟨pm,ctv,e⟩:=lm.ob;obtain⟨o2,es,ep,e2,d2,_⟩:=hn;rw[z,e2]at e;cases e;cases d2
    have cl:c'≠YbJ:=λz=>by obtain⟨c2,oc,vs2,t2,e,e1,d1,_⟩:=lm.cd;cases e;obtain⟨o2,es,ep,e2,d2,_⟩:=hn;rw[z,e2]at e1;cases e1;rw[d2]at d1;cases d1
    have lm3:Lam h3 fn c' qual params body scope:=by obtain⟨pm,ctv,e⟩:=lm.ob;obtain⟨c2,oc,vs2,t2,e0,e1,d1,v1⟩:=lm.cd;cases e0;exact⟨⟨pm,ctv,kp3 _ _ fnl e⟩,⟨c',oc,vs2,t2,rfl,kp3 _ _ cl e1,d1,v1⟩⟩
    refine WQ (K:=X.K) (s:={s2 with heap:=h3,toks:=tk}) (I2.ok.mod.kin.keeps kb) (I2.ok.mod.nolimit.keeps kb) ?_ lm3 tx O hu cC nC λh4 tk4 t4 hk4=>?_
    ·exact hr
    ·exact⟨h4,tk4,t4,ZaI,⟨F3.ns.keeps hk4,λb o e=>hk4 b o (F3.keep b o e),F3.above⟩,λp hp=>⟨hk4 _ _ (N3 p hp).1,(N3 p hp).2⟩⟩
  ·intro D h3 tk out c0 F3 N3 hlt ko;obtain⟨as',eo,sb⟩:=Oy ko;have nD:=N3 (D,seqObj "list" out c0) Ycq;have kp3:∀b o,b≠YbJ->Ypk=YaB->h3.get? b=YaB:=λb o n e=>(N3 (b,o) (Waq _ (mem e n))).1;have neD:∀{b:Addr}{o:Obj},Ypk=YaB->b≠D:=λ{b o} e z=>by
    by_cases n:b=YbJ
    ·exact nD.2.1 (by rw[<-z,n])
    ·exact WbH _ (z▸hlt (b,o) (mem e n))
   have HD:H2 D=none:=by
    cases e:H2 D with
    |none=>rfl
    |some u=>obtain⟨o,ho,_⟩:=trk e;exact absurd rfl (neD ho)
   have lout:as'.length=Yw6:=by obtain⟨ps,h1,h2,_⟩:=sb;rw[h2,Waa,h1.length_eq,List.length_zip,hk.length];exact Nat.min_self _
   rw[Waa]at hz;have I3:Inv X pins σ (upd H2 D (Ydq)) {s2 with heap:=h3,toks:=tk}:=by
    refine I2.step (g':=s2.gens) (d':=s2.drawn) (ch:=[]) (λ_ z=>nomatch z) (λb o n _ _ e _=>kp3 b o n e) (λb o n _ _ e _=>⟨o.slots,kp3 b o n e⟩) (λb o _ e n=>by rw[aA (neD e)];exact n) (λb o _ e=>?_)
     (λb xs e=>by rw[aA (ao e HD)];exact e) (λb o u e=>by rw[aA (ao e HD)];exact e) (λb ps e=>⟨#[],by rw[aA (ao e HD),e];simp⟩) (λm' hm'=>?_) Ywz I2.bare
    ·by_cases n:b=X.env.locals
     ·obtain⟨o2,es,ep,e2,_⟩:=F3.ns;exact⟨o2,n▸e2⟩
     ·exact⟨o,kp3 b o n e⟩
    ·rw[hm'.eq_nsMap,<-hn.eq_nsMap];exact F3.ns
    ·by_cases z:b=D
     ·subst z;rw[ab]at e;cases e;refine⟨by rw[Waa,lout];exact hz,Yyf,c0,by rw[eo];exact Le as',?_⟩;have:=nD.1;ext Xbb
     ·rw[aA z]at e
      refine(I2.cg b u e).xV (λd v hd r=>kp3 d v (by
       rcases hd with rfl|hd
       ·exact ao e I2.free
       ·exact ao hd I2.free) r) (λd r=>by rw[aA (ao r HD)];exact r) λd xs r=>by rw[aA (ao r HD)];exact r
   have HD1:H1 D=none:=by
    cases e:H1 D with
    |none=>rfl
    |some u=>rw[sm _ _ e]at HD;cases HD
   exact⟨.ref D,_,I3,rfl,q D as' _ (λb o e=>by rw[aA (ao (sm _ _ e) HD)];exact sm _ _ e) HD1 ab sb⟩
 exact hkw
end
def top(i:Nat):Stmt:=PySem.Challenge.pw_codeeditions_s01_answers.main.body.getD i (YuT)
abbrev Ia:Stmt:=top 16
def Up:aB Yh3 Yh3 (ax Ia):=Yaa
abbrev Ib:Stmt:=top 17
def Uq:aB Yh3 Yh3 (ax Ib):=Yaa
abbrev EF:Stmt:=top 18
def Q6:aB Yh3 Yh3 (ax EF):=Yaa
abbrev j5:Stmt:=top 20
def pY:aB ["code","view","found","edition"] YkQ (ax j5):=Yaa
abbrev iH:Stmt:=top 21
def mw:aB ["in_play","name","looked_at","edition"] Ywa (ax iH):=Yaa
abbrev uj:Stmt:=inClass (top 23) 0
def yk:aB ["self","flag_keys","key"] YtA (ax uj):=Yaa
abbrev oK:Stmt:=inClass (top 23) 1
def vk:aB ["self","key","known"] YDn (ax oK):=Yaa
abbrev yr:Stmt:=inClass (top 26) 0
def MH:aB Yeh Yeh (ax yr):=Yaa
abbrev Q7:Stmt:=top 27
def Yr:aB Ygp Ygp (ax Q7):=Yaa
abbrev Ic:Stmt:=top 28
def Ur:aB Ygp Ygp (ax Ic):=Yaa
abbrev oG:Stmt:=top 29
def Ez:aB Yin Yin (ax oG):=Yaa
abbrev BB:Stmt:=top 30
def FO:aB ["step","day","kind"] YDm (ax BB):=Yaa
abbrev tX:Stmt:=top 31
def ye:aB ["step","day","ways","bits"] Ysp (ax tX):=Yaa
abbrev lh:Stmt:=top 32
def qQ:aB ["steps","day","ways","values","step","kind","inner","right"] Yrz (ax lh):=Yaa
abbrev wb:Stmt:=top 33
def AV:aB ["rule","day","ways","spoken_of"] Ysr (ax wb):=Yaa
abbrev oF:Stmt:=top 34
def vj:aB ["rules","day","ways","value","rule"] YrA (ax oF):=Yaa
abbrev qT:Stmt:=top 41
def xq:aB ["code","name","spread","flag_values","key","rank_bits","rank"] YpC (ax qT):=Yaa
abbrev BA:Stmt:=top 42
def FN:aB ["code","edition","key"] Ywb (ax BA):=Yaa
abbrev ED:Stmt:=top 43
def Q4:aB ["value"] ["value"] (ax ED):=Yaa
abbrev k8:Stmt:=top 44
def qO:aB ["code","edition","name","ways"] Yev (ax k8):=Yaa
abbrev yp:Stmt:=top 45
def CZ:aB ["code","name","view","in_play","value","edition"] Yk4 (ax yp):=Yaa
abbrev jZ:Stmt:=top 46
def pW:aB ["code","edition","name","ways","failing","undecided","key","result"] Yev (ax jZ):=Yaa
abbrev oC:Stmt:=top 47
def vh:aB ["code","name_key","view","name","in_play","status","lists"] YbS (ax oC):=Yaa
abbrev tW:Stmt:=top 48
def yd:aB ["code","view","in_play","statuses","key"] YkQ (ax tW):=Yaa
abbrev tZ:Stmt:=top 49
def yg:aB ["code","status","view","statuses","found","key"] YpB (ax tZ):=Yaa
abbrev mD:Stmt:=top 50
def sY:aB ["code","early","late","before","behind","changed","key","answer"] Yqm (ax mD):=Yaa
abbrev BC:Stmt:=top 52
def FP:aB ["rules","found","rule"] Yw7 (ax BC):=Yaa
abbrev qU:Stmt:=top 53
def xt:aB ["rule","turns","step"] ["rule"] (ax qU):=Yaa
abbrev EG:Stmt:=top 54
def HN:aB ["rules","days","rule","day"] Yw7 (ax EG):=Yaa
abbrev lz:Stmt:=inClass (top 55) 0
def qR:aB ["self","code","rules","ranks","on_each_rank","rank","full","flag_values","key","bits","rank_bits"] Yql (ax lz):=Yaa
abbrev dt:Stmt:=inClass (top 55) 1
def gy:aB ["self","rule","turns","row","allowed","day"] YA5 (ax dt):=Yaa
abbrev dI:Stmt:=inClass (top 55) 2
def gT:aB ["self","rows","allowed","day","row","before","also"] YA6 (ax dI):=Yaa
abbrev fb:Stmt:=inClass (top 55) 3
def iE:aB ["self","left","right","day","here","there","beyond","lowest"] Yqk (ax fb):=Yaa
abbrev dH:Stmt:=inClass (top 55) 4
def gS:aB ["self","place","rank","way","yes","key"] YzF (ax dH):=Yaa
abbrev wg:Stmt:=top 56
def AY:aB ["code","left_rules","right_rules","situations","left","rule","right","only_left","only_right","number"] YjI (ax wg):=Yaa
abbrev mC:Stmt:=top 57
def sX:aB Ypr Ydg (ax mC):=Yaa
abbrev lg:Stmt:=top 58
def qP:aB Ypr Ydg (ax lg):=Yaa
abbrev ua:Stmt:=top 59
def yh:aB ["code","edition_key","edition","rules","situations","rows","key","staying","others","other","by_others"] YrC (ax ua):=Yaa
abbrev wj:Stmt:=inClass (top 63) 0
def Kn:aB YjV YjV (ax wj):=Yaa
abbrev yo:Stmt:=top 64
def CY:aB ["signs","place","end"] YxR (ax yo):=Yaa
abbrev yn:Stmt:=top 65
def CW:aB ["signs","tokens","place","end"] YhT (ax yn):=Yaa
abbrev qX:Stmt:=top 66
def Gx:aB YhT YhT (ax qX):=Yaa
abbrev By:Stmt:=top 67
def OB:aB YhT YhT (ax By):=Yaa
abbrev um:Stmt:=inClass Yld 0
def HY:aB YpP YpP (ax um):=Yaa
abbrev uk:Stmt:=inClass Yld 1
def HX:aB Ycy Ycy (ax uk):=Yaa
abbrev js:Stmt:=inClass Yld 2
def yl:aB Ycy Ycy (ax js):=Yaa
abbrev gc:Stmt:=inClass Yld 3
def jI:aB Ycy Ycy (ax gc):=Yaa
abbrev j9:Stmt:=inClass Yld 4
def pZ:aB Ycy Ycy (ax j9):=Yaa
abbrev fQ:Stmt:=inClass Yld 5
def jl:aB YnQ Ycy (ax fQ):=Yaa
abbrev lA:Stmt:=inClass Yld 6
def qS:aB ["self","word","day"] YnQ (ax lA):=Yaa
abbrev jt:Stmt:=inClass Yld 7
def nT:aB ["self","lowest","highest"] Ycy (ax jt):=Yaa
abbrev iI:Stmt:=inClass Yld 8
def mx:aB ["self","least","greatest","worth"] Ynf (ax iI):=Yaa
abbrev ju:Stmt:=inClass Yld 9
def nU:aB YnQ Ycy (ax ju):=Yaa
abbrev ib:Stmt:=inClass Yld 10
def kZ:aB Yra Yra (ax ib):=Yaa
abbrev jv:Stmt:=inClass Yld 11
def nV:aB Ycy Ycy (ax jv):=Yaa
abbrev gA:Stmt:=inClass Yld 12
def kK:aB Ycy Ycy (ax gA):=Yaa
abbrev yu:Stmt:=inClass (top 71) 0
def MJ:aB YkC YkC (ax yu):=Yaa
abbrev qV:Stmt:=top 72
def Gv:aB YmK YmK (ax qV):=Yaa
abbrev tY:Stmt:=top 73
def yf:aB ["step","kind"] ["step"] (ax tY):=Yaa
abbrev qW:Stmt:=top 74
def Gw:aB YkD YkD (ax qW):=Yaa
abbrev oA:Stmt:=top 75
def ve:aB ["steps","parts","step","kind","signs","right","left"] ["steps"] (ax oA):=Yaa
abbrev rh:Stmt:=inClass (top 77) 0
def Gz:aB Yge Yge (ax rh):=Yaa
abbrev iF:Stmt:=top 78
def mq:aB ["tokens","flag_keys","token"] Yrx (ax iF):=Yaa
abbrev wc:Stmt:=top 79
def AW:aB ["signs","flag_keys","tokens","reader","place","written"] Ysq (ax wc):=Yaa
abbrev yt:Stmt:=inClass (top 81) 0
def MI:aB Yco Yco (ax yt):=Yaa
abbrev rj:Stmt:=inClass (top 82) 0
def GA:aB Yem Yem (ax rj):=Yaa
abbrev yx:Stmt:=inClass (top 83) 0
def MK:aB Yl2 Yl2 (ax yx):=Yaa
abbrev yy:Stmt:=inClass (top 84) 0
def ML:aB Ycy Ycy (ax yy):=Yaa
abbrev BF:Stmt:=top 86
def FT:aB Ylj Ylj (ax BF):=Yaa
abbrev mE:Stmt:=top 87
def C7:aB Yei Yei (ax mE):=Yaa
abbrev BD:Stmt:=top 88
def FQ:aB ["code","key","first","last","lowest","highest","signs","refusal","reading","flag_keys","step"] YeG (ax BD):=Yaa
abbrev iG:Stmt:=top 89
def mr:aB ["code","day","edition"] YDo (ax iG):=Yaa
abbrev jr:Stmt:=top 90
def nR:aB ["code","rule_keys","key"] YtB (ax jr):=Yaa
abbrev ui:Stmt:=top 91
def yj:aB ["code","key","day","keeps","rule_keys","refusal"] Yie (ax ui):=Yaa
abbrev BE:Stmt:=top 92
def FR:aB Yio Yio (ax BE):=Yaa
abbrev we:Stmt:=top 93
def AX:aB ["code","name_key","flag_key","value","name"] YiO (ax we):=Yaa
abbrev EE:Stmt:=top 98
def Q5:aB ["byte"] ["byte"] (ax EE):=Yaa
abbrev Bz:Stmt:=top 99
def FL:aB ["row","byte"] ["row"] (ax Bz):=Yaa
abbrev HZ:Stmt:=top 100
def Lr:aB ["signs","sign"] YhT (ax HZ):=Yaa
abbrev j0:Stmt:=top 102
def AA:aB YbS YbS (ax j0):=Yaa
abbrev yq:Stmt:=top 103
def MG:aB YsD YsD (ax yq):=Yaa
abbrev oB:Stmt:=top 104
def vg:aB ["code","name","view","found","edition","rule","key"] YrB (ax oB):=Yaa
abbrev mF:Stmt:=top 105
def sZ:aB ["code","name","view","spread","ways","value","edition"] Ylx (ax mF):=Yaa
abbrev tV:Stmt:=top 106
def yc:aB ["code","name_key","view","refusal","name","unknown","spread","available"] YbS (ax tV):=Yaa
abbrev oJ:Stmt:=inClass (top 107) 0
def EC:aB YfJ YfJ (ax oJ):=Yaa
abbrev j4:Stmt:=top 108
def pX:aB ["supposals","spread","longer","supposal","place","key","later_keys","without"] Yry (ax j4):=Yaa
abbrev k7:Stmt:=top 109
def qN:aB ["unknown","spread","wanted","supposals","supposal"] Yml (ax k7):=Yaa
abbrev oE:Stmt:=top 110
def vi:aB ["code","name_key","view","want","refusal","name","unknown","spread","wanted"] Yky (ax oE):=Yaa
abbrev ug:Stmt:=top 112
def HV:aB Yai Yai (ax ug):=Yaa
abbrev ud:Stmt:=top 113
def HS:aB Yai Yai (ax ud):=Yaa
abbrev ub:Stmt:=top 114
def HQ:aB Yai Yai (ax ub):=Yaa
abbrev uf:Stmt:=top 115
def yi:aB ["code","numbers","row","reading"] Yai (ax uf):=Yaa
abbrev mH:Stmt:=top 116
def C9:aB Yai Yai (ax mH):=Yaa
abbrev ue:Stmt:=top 117
def HU:aB Yai Yai (ax ue):=Yaa
abbrev qY:Stmt:=top 118
def Gy:aB Yai Yai (ax qY):=Yaa
abbrev rg:Stmt:=top 119
def xx:aB ["code","numbers","row","facts","answer","key"] Yai (ax rg):=Yaa
abbrev qZ:Stmt:=top 120
def xu:aB ["code","numbers","row","in_play"] Yai (ax qZ):=Yaa
abbrev oH:Stmt:=top 121
def EA:aB Yai Yai (ax oH):=Yaa
abbrev uc:Stmt:=top 122
def HR:aB Yai Yai (ax uc):=Yaa
abbrev oI:Stmt:=top 123
def EB:aB Yai Yai (ax oI):=Yaa
abbrev mI:Stmt:=top 124
def Dc:aB Yai Yai (ax mI):=Yaa
abbrev lj:Stmt:=top 125
def Bx:aB Yai Yai (ax lj):=Yaa
abbrev uh:Stmt:=top 126
def HW:aB Yai Yai (ax uh):=Yaa
abbrev mG:Stmt:=top 127
def C8:aB Yai Yai (ax mG):=Yaa
abbrev mJ:Stmt:=top 128
def Dd:aB Yai Yai (ax mJ):=Yaa
abbrev EH:Stmt:=top 132
def HP:aB ["calls","code","answered","at","call","end","numbers","row","answer_call","answer"] Yw8 (ax EH):=Yaa
def WS:Pos:=⟨26,29,26,56⟩
def abG:Str:=(("editions_in_play":Str)++(".<locals>.":Str))++("<lambda>":Str)
def B0:HO:=.Fo WS abG
structure bL where
 (tb:Addr)
 (fO xo aO jY bu CF kQ pV eQ eW sI fX:Addr)
 (Jp Jq Fd kj iU uJ pq zw f_both Jr pd B8 uE lM wJ oZ rO B7 Fb lJ zr kg oX uD uG mT B9 rP Fe lN dB dR fe dQ wM mS lK uH wN zq zp rS B5 uL uK jy gn km fT lO jz iV jA ir jB gJ zy rQ uF rR oV rT iS wK zx rW zA zB Cc mU Ca iT jx uI Cb wL Fc B6 Jo kh zt oW mV uC ph ki lI oY g9 g6 gY g8 eK g7 gi gm gj fE gZ fF eO di hG eJ eP Ff:Addr)
 (Jy Jz Fi gK iY u0 pJ zG RP JA pE Cm uO lX wQ pD rX Ck Fg lV zE kq pB uN uQ mY Co rY Fj lZ dC dU fg dS wV mX lW uR wW zD zC sf Ci u5 u4 jD gq kD fU l6 jE iZ jF iy jG gL zI rZ uP r9 pw so iW wR zH sr zJ zK Cr mZ Cp iX jC uZ Cq wU Fh Cj Jx ku zF pA nc uM pI kC lU pC uX uU uS uW nh uV si sk sj pG uT pH ni lY uY ng nj Fl:FuncData)
 (Et CQ G7 oy Bu:Addr)
structure Txt (K:Yaj) (mg:Str->Yci) (A:bL):Prop where
 za:mg "Spread"=some (.ref A.fO)
 bb:x5 K A.fO
 vA:Mk K A.fO A.uJ
 cF:aL K A.fO "ways"
 bD:aL K A.fO "full"
 b8:aL K A.fO "bits"
 WI:mg "Ways"=some (.ref A.xo)
 l7:x5 K A.xo
 SO:Mk K A.xo A.zw
 dZ:aL K A.xo "full"
 vw:aL K A.xo "rank_bits"
 rE:aL K A.xo "flag_values"
 DF:mg "Situations"=some (.ref A.aO)
 aR:x5 K A.aO
 A5:Mk K A.aO A.lN
 dN:aL K A.aO "flag_keys"
 iD:aL K A.aO "days"
 bH:aL K A.aO "spread"
 iC:aL K A.aO "ways"
 SS:mg "Token"=some (.ref A.jY)
 wZ:x5 K A.jY
 O5:Mk K A.jY A.wN
 uw:aL K A.jY "place"
 nJ:aL K A.jY "signs"
 WJ:mg "Reader"=some (.ref A.bu)
 aI:x5 K A.bu
 UG:Mk K A.bu A.uL
 oR:aL K A.bu "tokens"
 cB:aL K A.bu "at"
 cu:aL K A.bu "steps"
 bj:aL K A.bu "pending"
 gh:aL K A.bu "nesting"
 aan:mg "Part"=some (.ref A.CF)
 Cs:x5 K A.CF
 YQ:Mk K A.CF A.zy
 FY:aL K A.CF "kind"
 lG:aL K A.CF "signs"
 Al:mg "Reading"=some (.ref A.kQ)
 fG:x5 K A.kQ
 wA:Mk K A.kQ A.rT
 cI:aL K A.kQ "refusal"
 oQ:aL K A.kQ "steps"
 xA:aL K A.kQ "signs"
 aam:mg "Rule"=some (.ref A.pV)
 fV:x5 K A.pV
 YO:Mk K A.pV A.zx
 qm:aL K A.pV "first"
 tw:aL K A.pV "last"
 ux:aL K A.pV "lowest"
 rF:aL K A.pV "highest"
 ql:aL K A.pV "steps"
 mQ:aL K A.pV "flag_keys"
 UN:mg "Edition"=some (.ref A.eQ)
 bX:x5 K A.eQ
 Rt:Mk K A.eQ A.rW
 fS:aL K A.eQ "key"
 jM:aL K A.eQ "day"
 xB:aL K A.eQ "keeps"
 cM:aL K A.eQ "rule_keys"
 aao:mg "Name"=some (.ref A.eW)
 dW:x5 K A.eW
 YR:Mk K A.eW A.zA
 iO:aL K A.eW "day"
 yT:aL K A.eW "rank"
 gD:aL K A.eW "facts"
 fC:aL K A.eW "passings"
 aap:mg "Code"=some (.ref A.sI)
 bc:x5 K A.sI
 YS:Mk K A.sI A.zB
 bU:aL K A.sI "flag_texts"
 eI:aL K A.sI "flag_keys"
 bT:aL K A.sI "rules"
 bJ:aL K A.sI "editions"
 bI:aL K A.sI "names"
 BZ:mg "Supposal"=some (.ref A.fX)
 cS:x5 K A.fX
 yX:Mk K A.fX A.ph
 gg:aL K A.fX "pairs"
 gW:aL K A.fX "left"
 ij:aL K A.fX "later_keys"
 DA:mg "is_key"=some (.ref A.Jp)
 zX:bf K "is_key" "is_key" Ia A.Jp A.Jy
 DY:Binds K A.Jy Yh3 []
 jN:mg "is_day"=some (.ref A.Jq)
 jb:bf K "is_day" "is_day" Ib A.Jq A.Jz
 jQ:Binds K A.Jz Yh3 []
 EV:mg "is_rank"=some (.ref A.Fd)
 Ay:bf K "is_rank" "is_rank" EF A.Fd A.Fi
 Fs:Binds K A.Fi Yh3 []
 cR:Ysk=some (.ref A.kj)
 cz:bf K "editions_in_play" "editions_in_play" j5 A.kj A.gK
 cT:Binds K A.gK YkQ []
 iP:mg "editions_looked_at"=some (.ref A.iU)
 fN:bf K "editions_looked_at" "editions_looked_at" iH A.iU A.iY
 i7:Binds K A.iY Ywa []
 K5:bf K "__init__" "Spread.__init__" uj A.uJ A.u0
 jR:Binds K A.u0 YtA []
 EU:Meth K A.fO "double" A.pq
 G5:bf K "double" "Spread.double" oK A.pq A.pJ
 GY:Binds K A.pJ YDn []
 Qq:bf K "__init__" "Ways.__init__" yr A.zw A.zG
 Gh:Binds K A.zG Yeh []
 WD:mg "both"=some (.ref A.f_both)
 Si:bf K "both" "both" Q7 A.f_both A.RP
 Xw:Binds K A.RP Ygp []
 DB:mg "either"=some (.ref A.Jr)
 zY:bf K "either" "either" Ic A.Jr A.JA
 DZ:Binds K A.JA Ygp []
 xF:mg "bits_of_ranks"=some (.ref A.pd)
 pT:bf K "bits_of_ranks" "bits_of_ranks" oG A.pd A.pE
 xO:Binds K A.pE Yin []
 Rx:mg "holds_on"=some (.ref A.B8)
 JX:bf K "holds_on" "holds_on" BB A.B8 A.Cm
 R9:Binds K A.Cm YDm []
 Kv:mg "plain_value"=some (.ref A.uE)
 Bf:bf K "plain_value" "plain_value" tX A.uE A.uO
 KL:Binds K A.uO Ysp []
 DD:mg "condition_value"=some (.ref A.lM)
 tR:bf K "condition_value" "condition_value" lh A.lM A.lX
 Eb:Binds K A.lX Yrz []
 wB:mg "rule_value"=some (.ref A.wJ)
 qA:bf K "rule_value" "rule_value" wb A.wJ A.wQ
 w6:Binds K A.wQ Ysr []
 xE:mg "passing_value"=some (.ref A.oZ)
 pQ:bf K "passing_value" "passing_value" oF A.oZ A.pD
 xN:Binds K A.pD YrA []
 rJ:mg "ways_of_name"=some (.ref A.rO)
 mh:bf K "ways_of_name" "ways_of_name" qT A.rO A.rX
 sv:Binds K A.rX YpC []
 mR:mg "rules_of"=some (.ref A.B7)
 kE:bf K "rules_of" "rules_of" BA A.B7 A.Ck
 nF:Binds K A.Ck Ywb []
 LG:mg "verdict"=some (.ref A.Fb)
 FF:bf K "verdict" "verdict" ED A.Fb A.Fg
 L9:Binds K A.Fg ["value"] []
 Dz:mg "passing_of_name"=some (.ref A.lJ)
 tP:bf K "passing_of_name" "passing_of_name" k8 A.lJ A.lV
 DX:Binds K A.lV Yev []
 FZ:mg "status_of"=some (.ref A.zr)
 zV:bf K "status_of" "status_of" yp A.zr A.zE
 Gg:Binds K A.zE Yk4 []
 BX:mg "rules_by_verdict"=some (.ref A.kg)
 sE:bf K "rules_by_verdict" "rules_by_verdict" jZ A.kg A.kq
 Cw:Binds K A.kq Yev []
 GK:mg "status_answer"=some (.ref A.oX)
 xQ:bf K "status_answer" "status_answer" oC A.oX A.pB
 GU:Binds K A.pB YbS []
 uz:mg "statuses_on"=some (.ref A.uD)
 nO:bf K "statuses_on" "statuses_on" tW A.uD A.uN
 u6:Binds K A.uN YkQ []
 Kx:mg "list_answer"=some (.ref A.uG)
 Bh:bf K "list_answer" "list_answer" tZ A.uG A.uQ
 KO:Binds K A.uQ YpB []
 EX:mg "changes_answer"=some (.ref A.mT)
 vP:bf K "changes_answer" "changes_answer" mD A.mT A.mY
 Fu:Binds K A.mY Yqm []
 wC:mg "flags_of"=some (.ref A.B9)
 sH:bf K "flags_of" "flags_of" BC A.B9 A.Co
 w8:Binds K A.Co Yw7 []
 y8:mg "turning_days"=some (.ref A.rP)
 sD:bf K "turning_days" "turning_days" qU A.rP A.rY
 zO:Binds K A.rY ["rule"] []
 UI:mg "days_of"=some (.ref A.Fe)
 Md:bf K "days_of" "days_of" EG A.Fe A.Fj
 Vo:Binds K A.Fj Yw7 []
 Ek:bf K "__init__" "Situations.__init__" lz A.lN A.lZ
 tK:Binds K A.lZ Yql []
 cZ:Meth K A.aO "allowed_by_rule" A.dB
 pU:bf K "allowed_by_rule" "Situations.allowed_by_rule" dt A.dB A.dC
 dD:Binds K A.dC YA5 []
 dA:Meth K A.aO "allowed_by_all" A.dR
 qC:bf K "allowed_by_all" "Situations.allowed_by_all" dI A.dR A.dU
 dX:Binds K A.dU YA6 []
 eU:Meth K A.aO "first_beyond" A.fe
 sQ:bf K "first_beyond" "Situations.first_beyond" fb A.fe A.fg
 fh:Binds K A.fg Yqk []
 oS:Meth K A.aO "rank_and_flags" A.dQ
 qB:bf K "rank_and_flags" "Situations.rank_and_flags" dH A.dQ A.dS
 qw:Binds K A.dS YzF []
 DE:mg "comparison"=some (.ref A.wM)
 xj:bf K "comparison" "comparison" wg A.wM A.wV
 Ec:Binds K A.wV YjI []
 EW:mg "compare_answer"=some (.ref A.mS)
 vO:bf K "compare_answer" "compare_answer" mC A.mS A.mX
 Ft:Binds K A.mX Ydg []
 DC:mg "editions_answer"=some (.ref A.lK)
 tQ:bf K "editions_answer" "editions_answer" lg A.lK A.lW
 Ea:Binds K A.lW Ydg []
 Ky:mg "core_answer"=some (.ref A.uH)
 Bi:bf K "core_answer" "core_answer" ua A.uH A.uR
 KP:Binds K A.uR YrC []
 NS:bf K "__init__" "Token.__init__" wj A.wN A.wW
 Ee:Binds K A.wW YjV []
 O9:mg "token_end"=some (.ref A.zq)
 Gq:bf K "token_end" "token_end" yo A.zq A.zD
 Qb:Binds K A.zD YxR []
 O8:mg "tokens_of"=some (.ref A.zp)
 Gp:bf K "tokens_of" "tokens_of" yn A.zp A.zC
 Qa:Binds K A.zC YhT []
 rL:mg "is_flag_word"=some (.ref A.rS)
 mi:bf K "is_flag_word" "is_flag_word" qX A.rS A.sf
 sC:Binds K A.sf YhT []
 Rw:mg "worth_of"=some (.ref A.B5)
 JV:bf K "worth_of" "worth_of" By A.B5 A.Ci
 R8:Binds K A.Ci YhT []
 K7:bf K "__init__" "Reader.__init__" um A.uL A.u5
 K3:Binds K A.u5 YpP []
 da:Meth K A.bu "sees" A.uK
 K6:bf K "sees" "Reader.sees" uk A.uK A.u4
 eh:Binds K A.u4 Ycy []
 yU:Meth K A.bu "stop_place" A.jy
 AN:bf K "stop_place" "Reader.stop_place" js A.jy A.jD
 AK:Binds K A.jD Ycy []
 uy:Meth K A.bu "read_condition" A.gn
 vV:bf K "read_condition" "Reader.read_condition" gc A.gn A.gq
 vN:Binds K A.gq Ycy []
 AF:Meth K A.bu "read_unit" A.km
 CD:bf K "read_unit" "Reader.read_unit" j9 A.km A.kD
 Cz:Binds K A.kD Ycy []
 sM:Meth K A.bu "read_plain_unit" A.fT
 u9:bf K "read_plain_unit" "Reader.read_plain_unit" fQ A.fT A.fU
 u7:Binds K A.fU Ycy []
 BU:Meth K A.bu "read_day" A.lO
 El:bf K "read_day" "Reader.read_day" lA A.lO A.l6
 Ef:Binds K A.l6 YnQ []
 yV:Meth K A.bu "read_ranks" A.jz
 AO:bf K "read_ranks" "Reader.read_ranks" jt A.jz A.jE
 AL:Binds K A.jE Ycy []
 ik:Meth K A.bu "read_number" A.iV
 z5:bf K "read_number" "Reader.read_number" iI A.iV A.iZ
 i9:Binds K A.iZ Ynf []
 yW:Meth K A.bu "read_joint" A.jA
 AQ:bf K "read_joint" "Reader.read_joint" ju A.jA A.jF
 AM:Binds K A.jF Ycy []
 dO:Meth K A.bu "close_joints" A.ir
 xZ:bf K "close_joints" "Reader.close_joints" ib A.ir A.iy
 eY:Binds K A.iy Yra []
 oh:Meth K A.bu "close_nots" A.jB
 AR:bf K "close_nots" "Reader.close_nots" jv A.jB A.jG
 p8:Binds K A.jG Ycy []
 vz:Meth K A.bu "close_bracket" A.gJ
 xn:bf K "close_bracket" "Reader.close_bracket" gA A.gJ A.gL
 w9:Binds K A.gL Ycy []
 Qs:bf K "__init__" "Part.__init__" yu A.zy A.zI
 Qh:Binds K A.zI YkC []
 lH:mg "signs_within"=some (.ref A.rQ)
 ja:bf K "signs_within" "signs_within" qV A.rQ A.rZ
 l9:Binds K A.rZ YmK []
 Kw:mg "plain_signs"=some (.ref A.uF)
 Bg:bf K "plain_signs" "plain_signs" tY A.uF A.uP
 KN:Binds K A.uP ["step"] []
 IV:mg "joined_signs"=some (.ref A.rR)
 zW:bf K "joined_signs" "joined_signs" qW A.rR A.r9
 JP:Binds K A.r9 YkD []
 xC:mg "written_signs"=some (.ref A.oV)
 pO:bf K "written_signs" "written_signs" oA A.oV A.pw
 xK:Binds K A.pw ["steps"] []
 J1:bf K "__init__" "Reading.__init__" rh A.rT A.so
 ma:Binds K A.so Yge []
 y6:mg "unknown_flag_place"=some (.ref A.iS)
 ou:bf K "unknown_flag_place" "unknown_flag_place" iF A.iS A.iW
 zN:Binds K A.iW Yrx []
 Dy:mg "reading_of"=some (.ref A.wK)
 xi:bf K "reading_of" "reading_of" wc A.wK A.wR
 DW:Binds K A.wR Ysq []
 Qr:bf K "__init__" "Rule.__init__" yt A.zx A.zH
 Qg:Binds K A.zH Yco []
 J2:bf K "__init__" "Edition.__init__" rj A.rW A.sr
 JT:Binds K A.sr Yem []
 Qt:bf K "__init__" "Name.__init__" yx A.zA A.zJ
 Qi:Binds K A.zJ Yl2 []
 Qu:bf K "__init__" "Code.__init__" yy A.zB A.zK
 Qj:Binds K A.zK Ycy []
 RB:mg "add_flag"=some (.ref A.Cc)
 J0:bf K "add_flag" "add_flag" BF A.Cc A.Cr
 Sd:Binds K A.Cr Ylj []
 EY:mg "bounds_refusal"=some (.ref A.mU)
 vQ:bf K "bounds_refusal" "bounds_refusal" mE A.mU A.mZ
 Fv:Binds K A.mZ Yei []
 Ry:mg "add_rule"=some (.ref A.Ca)
 JY:bf K "add_rule" "add_rule" BD A.Ca A.Cp
 Sa:Binds K A.Cp YeG []
 y9:mg "has_edition_of_day"=some (.ref A.iT)
 ox:bf K "has_edition_of_day" "has_edition_of_day" iG A.iT A.iX
 zP:Binds K A.iX YDo []
 AG:mg "rule_keys_refusal"=some (.ref A.jx)
 p9:bf K "rule_keys_refusal" "rule_keys_refusal" jr A.jx A.jC
 AJ:Binds K A.jC YtB []
 Kz:mg "add_edition"=some (.ref A.uI)
 Bq:bf K "add_edition" "add_edition" ui A.uI A.uZ
 K0:Binds K A.uZ Yie []
 Rz:mg "add_name"=some (.ref A.Cb)
 JZ:bf K "add_name" "add_name" BE A.Cb A.Cq
 Sb:Binds K A.Cq Yio []
 Ng:mg "learn_fact"=some (.ref A.wL)
 Ej:bf K "learn_fact" "learn_fact" we A.wL A.wU
 NM:Binds K A.wU YiO []
 UH:mg "sign_of"=some (.ref A.Fc)
 Mc:bf K "sign_of" "sign_of" EE A.Fc A.Fh
 Vn:Binds K A.Fh ["byte"] []
 BW:mg "signs_of"=some (.ref A.B6)
 xh:bf K "signs_of" "signs_of" Bz A.B6 A.Cj
 Cv:Binds K A.Cj ["row"] []
 Pb:mg "row_of"=some (.ref A.Jo)
 JW:bf K "row_of" "row_of" HZ A.Jo A.Jx
 Qe:Binds K A.Jx YhT []
 rK:mg "question_refusal"=some (.ref A.kh)
 kF:bf K "question_refusal" "question_refusal" j0 A.kh A.ku
 sy:Binds K A.ku YbS []
 Pa:mg "speaks_of"=some (.ref A.zt)
 Gr:bf K "speaks_of" "speaks_of" yq A.zt A.zF
 Qc:Binds K A.zF YsD []
 xD:mg "unknown_flags"=some (.ref A.oW)
 pP:bf K "unknown_flags" "unknown_flags" oB A.oW A.pA
 xM:Binds K A.pA YrB []
 vB:mg "available_bits"=some (.ref A.mV)
 nG:bf K "available_bits" "available_bits" mF A.mV A.nc
 vM:Binds K A.nc Ylx []
 Ku:mg "sure_answer"=some (.ref A.uC)
 Be:bf K "sure_answer" "sure_answer" tV A.uC A.uM
 KJ:Binds K A.uM YbS []
 G4:bf K "__init__" "Supposal.__init__" oJ A.ph A.pI
 pK:Binds K A.pI YfJ []
 BY:mg "longer_supposals"=some (.ref A.ki)
 sG:bf K "longer_supposals" "longer_supposals" j4 A.ki A.kC
 Cy:Binds K A.kC Yry []
 Dx:mg "settling_answer"=some (.ref A.lI)
 tO:bf K "settling_answer" "settling_answer" k7 A.lI A.lU
 DV:Binds K A.lU Yml []
 GL:mg "settle_answer"=some (.ref A.oY)
 xR:bf K "settle_answer" "settle_answer" oE A.oY A.pC
 GV:Binds K A.pC Yky []
 XQ:mg "answer_flag"=some (.ref A.g9)
 Bo:bf K "answer_flag" "answer_flag" ug A.g9 A.uX
 KY:Binds K A.uX Yai []
 XM:mg "answer_rule"=some (.ref A.g6)
 Bl:bf K "answer_rule" "answer_rule" ud A.g6 A.uU
 KS:Binds K A.uU Yai []
 XI:mg "answer_text"=some (.ref A.gY)
 Bj:bf K "answer_text" "answer_text" ub A.gY A.uS
 KQ:Binds K A.uS Yai []
 XO:mg "answer_form"=some (.ref A.g8)
 Bn:bf K "answer_form" "answer_form" uf A.g8 A.uW
 KW:Binds K A.uW Yai []
 UK:mg "answer_edition"=some (.ref A.eK)
 vS:bf K "answer_edition" "answer_edition" mH A.eK A.nh
 Fx:Binds K A.nh Yai []
 XN:mg "answer_name"=some (.ref A.g7)
 Bm:bf K "answer_name" "answer_name" ue A.g7 A.uV
 KU:Binds K A.uV Yai []
 WE:mg "answer_learn"=some (.ref A.gi)
 zZ:bf K "answer_learn" "answer_learn" qY A.gi A.si
 JQ:Binds K A.si Yai []
 WH:mg "answer_facts"=some (.ref A.gm)
 z4:bf K "answer_facts" "answer_facts" rg A.gm A.sk
 JS:Binds K A.sk Yai []
 WG:mg "answer_force"=some (.ref A.gj)
 z3:bf K "answer_force" "answer_force" qZ A.gj A.sj
 JR:Binds K A.sj Yai []
 Vw:mg "answer_status"=some (.ref A.fE)
 xS:bf K "answer_status" "answer_status" oH A.fE A.pG
 GW:Binds K A.pG Yai []
 XJ:mg "answer_sure"=some (.ref A.gZ)
 Bk:bf K "answer_sure" "answer_sure" uc A.gZ A.uT
 KR:Binds K A.uT Yai []
 Vx:mg "answer_settle"=some (.ref A.fF)
 xT:bf K "answer_settle" "answer_settle" oI A.fF A.pH
 GX:Binds K A.pH Yai []
 UL:mg "answer_compare"=some (.ref A.eO)
 vT:bf K "answer_compare" "answer_compare" mI A.eO A.ni
 Fy:Binds K A.ni Yai []
 SR:mg "answer_editions"=some (.ref A.di)
 tS:bf K "answer_editions" "answer_editions" lj A.di A.lY
 Ed:Binds K A.lY Yai []
 XR:mg "answer_core"=some (.ref A.hG)
 Bp:bf K "answer_core" "answer_core" uh A.hG A.uY
 KZ:Binds K A.uY Yai []
 UJ:mg "answer_list_of"=some (.ref A.eJ)
 vR:bf K "answer_list_of" "answer_list_of" mG A.eJ A.ng
 Fw:Binds K A.ng Yai []
 UM:mg "answer_changes"=some (.ref A.eP)
 vU:bf K "answer_changes" "answer_changes" mJ A.eP A.nj
 Fz:Binds K A.nj Yai []
 aa1:mg "answers"=some (.ref A.Ff)
 Vu:bf K "answers" "answers" EH A.Ff A.Fl
 aa3:Binds K A.Fl Yw8 []
 Jk:∃u,mg "GREATEST_KEY"=YaY/\YD4
 B3:∃u,mg "LAST_DAY"=YaY/\RelV (.int 1000000) u
 iQ:∃u,mg "HIGHEST_RANK"=YaY/\YsG
 Jj:∃u,mg "LONGEST_FLAG"=YaY/\RelV (.int 12) u
 AH:∃u,mg "LONGEST_CONDITION"=YaY/\RelV (.int 200) u
 DK:∃u,mg "DEEPEST_NESTING"=YaY/\RelV (.int 40) u
 Nm:∃u,mg "MOST_FLAGS"=YaY/\RelV (.int 24) u
 Nk:∃u,mg "MOST_RULES"=YaY/\RelV (.int 64) u
 GP:∃u,mg "MOST_EDITIONS"=YaY/\RelV (.int 16) u
 vG:∃u,YCb=YaY/\YsF
 Nl:∃u,mg "MOST_NAMES"=YaY/\RelV (.int 100) u
 vF:∃u,YCa=YaY/\RelV (.int 10) u
 sN:∃u,YzZ=YaY/\YsI
 sO:∃u,Yz0=YaY/\YsF
 jO:∃u,YAo=YaY/\YsI
 U0:∃u,mg "NEITHER"=YaY/\RelV (.ref A.Et) u
 Uu:∀H:Hp,eA K H A.Et [Yd4,Yd4]
 oT:∃u,mg "NOT_AVAILABLE"=YaY/\RelV (YmW) u
 Pp:∃u,mg "AVAILABLE"=YaY/\RelV (Yx7) u
 F7:∃u,mg "UNDECIDED"=YaY/\RelV (.int 2) u
 xG:∃u,mg "NOT_YET_NAMED"=YaY/\RelV (.int 3) u
 wG:∃u,mg "NO_EDITION"=YaY/\RelV (.int 4) u
 Nn:∃u,mg "KEPT_WORDS"=YaY/\RelV (.ref A.CQ) u
 MO:∀H:Hp,eA K H A.CQ YbD
 KD:∃u,mg "MOST_DIGITS"=YaY/\YsG
 U1:∃u,mg "LETTERS"=YaY/\YqN
 W3:∃u,mg "DIGITS"=YaY/\YCj
 YZ:∃u,mg "STRAY"=YaY/\RelV (.str "?") u
 Y0:∃u,mg "CALLS"=YaY/\RelV (.ref A.G7) u
 SD:∀H:Hp,eA K H A.G7 Ycc
 GO:∃u,mg "WHOLE_NUMBERS"=YaY/\RelV (.ref A.oy) u
 GC:∀H:Hp,eA K H A.oy Ybj
 RI:∃u,mg "WITH_ROW"=YaY/\RelV (.ref A.Bu) u
 Rh:∀H:Hp,eA K H A.Bu Yhv
 X8:∃c,A.gK.code=YvC/\∀h,Yx4->PySem.W.CodeHd h c A.tb
 Wy:A.jY≠A.bu
 O2:A.eW≠A.pV
 IS:A.eW≠A.eQ
 fJ:A.eW≠A.sI
 abD:mg "all"=none
 abC:mg "any"=none
 O4:mg "enumerate"=none
 abB:mg "int"=none
 cP:mg "len"=none
 Rr:mg "list"=none
 abA:mg "ord"=none
 SN:mg "range"=none
 Rq:mg "reversed"=none
 O3:mg "set"=none
 jL:mg "sorted"=none
 SM:mg "str"=none
 Zz:mg "sum"=none
 Zy:mg "zip"=none
variable {P:Program}{w:World}{K:PySem.W.Frag}{mg:Str→Option Value}{base:Heap}{A:bL}
def bR:bootBuiltins "len"=some YjH:=by ext XaX
def jk:bootBuiltins "sorted"=some Yeq:=by ext XaX
def Xs:bootBuiltins "sum"=some YzT:=by ext XaX
def aaN:bootBuiltins "any"=some (.builtin "any"):=by ext XaX
def aaO:bootBuiltins "all"=some (.builtin "all"):=by ext XaX
def aaL:bootBuiltins "ord"=some (.builtin "ord"):=by ext XaX
def aaM:bootBuiltins "int"=some (.type "int"):=by ext XaX
def NJ:bootBuiltins "str"=some (.type "str"):=by ext XaX
def Tn:bootBuiltins "list"=some (Ybr):=by ext XaX
def JG:bootBuiltins "set"=some (YlM):=by ext XaX
section
variable {X:Cx}
def cy(hg:YDa)(h:∃u,YC8=YaY/\YhF)(hd:YbC=false:=by decide):PE X YkY (tC v):=by obtain⟨u,h1,h2⟩:=h;exact YF hg h1 h2 hd
end
section
variable {X:Cx}
def eX(K:Yaj)(hK:X.K=K)(he:PE X e ta)(hb:Yzj=YgD):PE X YtM (abj K ta f):=by subst hK;exact aw he hb
def Hj(K:Yaj)(hK:X.K=K):IxR X (abu K):=by subst hK;exact bQ
def YC(K:Yaj)(hK:X.K=K)(hc:X.calm=true)(h:PGs X es t)(hn:(YjM).length=n:=by rfl)(hst:(YjM).findIdx? (·.1)=none:=by rfl):PG X (.Tuple es k pos) (abR K n t):=by subst hK;exact Rj hc h hn hst
def Rk(K:Yaj)(hK:X.K=K):zT X (compareOp .In) (rIn K false):=by subst hK;exact fB
end
def Jm{J:It}{n:Nat}{g:TG}{tb:TS}{D:Ends}{σ:L2.St}{H:Hp}(Pv:Nat->L2.St->Hp->Prop)(h0:Pv 0 σ H)(hgo:∀i σ H,i<n->Yw9->Yxr)(hst:∀σ H,Pv n σ H->J.stop n H)
(hs:∀i σ H,i<n->Yw9->∀x H',YkV->g x σ H' λσ2 H2=>tb {D with nx:=Pv (i+1),ct:=Pv (i+1),bk:=D.nx} σ2 H2)(hd:∀σ H,Pv n σ H->Yxd):
  ∃W:Nat->Nat->L2.St->Hp->Prop,(∃m,W 0 m σ H)/\∀i m σ H,W i m σ H->
   (Yyl/\Yxd)∨(Yxr/\∃N:L2.St->Hp->Prop,(∀σ' H',N σ' H'->∃m',m'<m/\YA7)/\∀x H',YkV->g x σ H' λσ2 H2=>tb {D with nx:=N,ct:=N,bk:=D.nx} σ2 H2):=by
 refine⟨λi m σ H=>m=n-i/\i<=n/\Yw9,⟨n,Ydx,WaL _,h0⟩,?_⟩;rintro i m σ H ⟨rfl,hi,p⟩;by_cases lt:i<n
 ·exact .inr ⟨hgo i σ H lt p,Pv YcG,λσ' H' p'=>⟨n-YcG,YaP,rfl,lt,p'⟩,hs i σ H lt p⟩
 ·obtain rfl:i=n:=Yad;exact .inl ⟨hst σ H p,hd σ H p⟩
def LH{J:It}{n:Nat}{g:TG}{tt:TT}{te:TE}{vs:Yaw}{σ:L2.St}{H1:Hp}{D:Addr}{Qd:Hp->Prop}(Pv:Nat->Hp->Prop)(h0:Pv 0 YhB)(hgo:∀i H,i<n->Pv i H->Yxr)(hst:∀H,Pv n H->J.stop n H)
(hs:∀i H,i<n->Pv i H->∀x H',YkV->g x (Yea) H' λσ2 H2=>Yn6=Yea/\tt σ2 H2 λb H3=>
   if b=true then te σ2 H3 λy H4=>∃acc,H4 D=Yg7/\YnF<sizeLine/\Pv YcG YcY else Pv YcG H3)(hd:∀H,Pv n H->Qd H):
  ∃W:Nat->Nat->Hp->Prop,(∃m,W 0 m YhB)/\∀i m H,W i m H->
   (Yyl/\Qd H)∨(Yxr/\∃Nx:Hp->Prop,(∀H',Nx H'->∃m',m'<m/\YBB)/\∀x H',YkV->g x (Yea) H' λσ2 H2=>Yn6=Yea/\tt σ2 H2 λb H3=>
    if b=true then te σ2 H3 λy H4=>∃acc,H4 D=Yg7/\YnF<sizeLine/\Nx YcY else Nx H3):=by
 ext XcF;by_cases lt:i<n
 ·exact .inr ⟨hgo i H lt p,Pv YcG,λH' p'=>⟨n-YcG,YaP,rfl,lt,p'⟩,hs i H lt p⟩
 ·obtain rfl:i=n:=Yad;exact .inl ⟨hst H p,hd H p⟩
def bC{b:Bool}{P Q:Prop}(h1:b=true->P)(h2:b=false->Q):if b=true then P else Q:=by
 cases b
 ·rw[Wae WaN];exact h2 rfl
 ·ext Xgm;exact h1 rfl
def bx(h:n σ H):Zn (Ends.mk n r b c) σ H:=h
def ba(h:t {D with nx:=u D} σ H):ZQ t u D σ H:=h
def cV(h:c σ H λb H1=>if b=true then t D σ H1 else u D σ H1):abi c t u D σ H:=h
def bE{α β:Type}{f:α->β}{l:Ydy}{i:Nat}{x:β}(h:(YvV)[i]? =YeH):∃z,l[i]? =some z/\x=f z:=by
 rw[Wbd]at h;cases e:l[i]? with
 |none=>rw[e]at h;cases h
 |some z=>rw[e]at h;exact⟨z,rfl,(Wbi h).symm⟩
def take_snoc{α:Type}{l:Ydy}{i:Nat}{x:α}(h:l[i]? =YeH):l.take YcG=l.take i++[x]:=by rw[List.take_add_one,h];rfl
def aP{α:Type}{l:Ydy}{n:Nat}(h:Yc9<=n)(hn:n<16777216):Yc9<sizeLine:=by rw[WcI];omega
def HJ{α:Type}{l:Ydy}{n:Nat}(h:Yc9<=n)(hn:n<16777216):Yc9<=sizeLine:=by rw[WcI];omega
def ak(s:Yy9)(h:H1 p=none):aN H (upd H1 p o):=λb u e=>by rw[aA (ao (s b u e) h)];exact s b u e
def aS(s:Yy9)(h:H p=none):aN H (upd H1 p o):=λb u e=>by rw[aA (ao e h)];exact s b u e
def same_refl(H:Hp):aN H H:=λ_ _ e=>e
def ai(h:b≠a)(e:H b=YaY):YBl=YaY:=by rw[aA h];exact e
def bM(n:H a=none)(e:H b=YaY):YBl=YaY:=ai (ao e n) e
def Mv(f:Int->V):Sp:=λvs H Q _=>∃n,vs=[.int n]/\Q (f n) H
def Ah(T:Yas):a6 P w K mg base cN 1 A.Jp A.Jy Yh3 (Mv λn=>.bl (decide (1<=n)&&decide (n<=1000000000))):=by
 refine T.zX.ok Up YdI Yab;ext XfJ;refine⟨_,(aj (au (yJ my my aq Yau (cy rfl T.Jk)))),?_⟩;refine⟨Zbg,?_⟩;by_cases h1:1<=n
 ·ext Xdi
 ·ext Xf3
def gX(T:Yas):a6 P w K mg base cN 1 A.Jq A.Jz Yh3 (Mv λn=>.bl (Ywt&&decide (n<=1000000))):=by
 refine T.jb.ok Uq YdI Yab;ext XfJ;refine⟨_,(aj (au (yJ my my aq Yau (cy rfl T.B3)))),?_⟩;refine⟨Zbg,?_⟩;by_cases h1:0<=n
 ·ext Xdi
 ·ext Xf3
def BM(T:Yas):a6 P w K mg base cN 1 A.Fd A.Fi Yh3 (Mv λn=>.bl (Ywt&&decide (n<=7))):=by
 refine T.Ay.ok Q6 YdI Yab;ext XfJ;refine⟨_,(aj (au (yJ my my aq Yau YqG))),?_⟩;refine⟨Zbg,?_⟩;by_cases h1:0<=n
 ·ext Xdi
 ·ext Xf3
def gN(a b:Nat):Builtin.bitAnd (a:Int) (b:Int)=((a&&& b:Nat):Int):=by unfold Builtin.bitAnd;rw[Wa9 (Wce a),Wa9 (Wce b)];rfl
def vL(a b:Nat):Builtin.bitOr (a:Int) (b:Int)=((a|||b:Nat):Int):=by
 have h1:decide ((0:Int)<=Builtin.bitNot (a:Int))=false:=by ext Xf1;simp;omega
 have h2:decide ((0:Int)<=Builtin.bitNot (b:Int))=false:=by ext Xf1;simp;omega
 unfold Builtin.bitOr Builtin.bitAnd;rw[h1,h2];have e:∀c:Nat,(Builtin.bitNot (Builtin.bitNot (c:Int)))=(c:Int):=λc=>by ext Xf1;omega
 dsimp only;rw[e,e,e,Wbl,Wbl]
def Rp(a b:Nat):(a|||b)-(a&&& b)=a^^^b/\(a&&& b)<=(a|||b):=by
 have key:(a^^^b)+(a&&& b)=a|||b:=by
  rw[XC]
  ·apply WdP;intro i;simp only[Nat.testBit_or,Wen,Weo];ext Xhh
  ·apply WdP;intro i;simp only[Wen,Weo,Nat.zero_testBit];ext Xhh
 omega
def nE(a b:Nat):Builtin.bitXor (a:Int) (b:Int)=((a^^^b:Nat):Int):=by unfold Builtin.bitXor;rw[vL,gN];have:=Rp a b;omega
def Pr(K:Yaj)(H:Hp)(v:V)(p:Nat×Nat):Prop:=∃a,v=Ybc/\eA K H a [Yui,YDy]
def HC(e:Ya1)(h:Yn9):eA K H' a xs:=by
 ext Xb8
 ·exact .inl (.inl (e _ _ h))
 ·exact YAu
 ·exact Yku
def Pr.same(e:Ya1)(h:Pr K H v p):Pr K H' v p:=by obtain⟨a,h1,h2⟩:=h;exact⟨a,h1,HC e h2⟩
def Oo(K:Yaj)(f:Nat×Nat->Nat×Nat->Nat×Nat):Sp:=λvs H Q _=>∃v1 v2 p q,vs=[v1,v2]/\Pr K H v1 p/\Pr K H v2 q/\∀v H',Ya1->Pr K H' v (f p q)->YC9
theorem SK(T:Yas):a6 P w K mg base cN 1 A.f_both A.RP Ygp (Oo K P8):=by refine T.Si.ok Yr Yat Yab;ext Xe0;refine⟨_,(aj (au (bG (aa (a7 wz YeT YoM) (aa (a7 Zw YeT YoM) ah))))),?_⟩;refine Yjh;refine Yjh;exact Ygk
theorem Ai(T:Yas):a6 P w K mg base cN 1 A.Jr A.JA Ygp (Oo K Ao):=by refine T.zY.ok Ur Yat Yab;ext Xe0;refine⟨_,(aj (au (bG (aa (a7 Zw YeT YoM) (aa (a7 wz YeT YoM) ah))))),?_⟩;refine Yjh;refine Yjh;exact Ygk
def ZM(p:Nat×Nat):Int:=if p=(1,0)then 1 else if p=(0,1)then 0 else 2
def QQ(K:Yaj):Sp:=λvs H Q _=>∃v p,vs=[v]/\Pr K H v p/\∀H',Ya1->Q (.int (ZM p)) H'
def Hm(h:eA K H a YA4):Dp K H YwE (.tuple YA4):=.tup h (.cons (.int x) (.cons (.int y) .nil))
def DM(p:Nat×Nat)(x y:Nat):PyData.eqv (.tuple [Yui,YDy]) (.tuple [.int (x:Nat),.int (y:Nat)])=true↔p=(x,y):=by obtain⟨p1,p2⟩:=p;simp[PyData.eqv,PyData.eqvAll];omega
theorem Iy(T:Yas):a6 P w K mg base cN 1 A.Fb A.Fg ["value"] (QQ K):=by
 refine T.FF.ok Q4 Ycp Yab;obtain⟨_,p,rfl,⟨a,rfl,ha⟩,k⟩:=h
 refine⟨_,(af (aM (aC YqI Yau YjG Ybo) (aj (au (cy rfl T.Pp))) az)
   (af (aM (aC YqI Yau YjG Ybo) (aj (au (cy rfl T.oT))) az)
   (aj (au (cy rfl T.F7))))),?_⟩
 refine⟨Zaa,Zcn⟩;have s1:aN H (upd H t (.tup [Yx7,YmW])):=ak Yay ht;refine⟨_,_,Hm (HC s1 ha),Hm (YhD),Zc1⟩;refine Yae
 ·have:p=(1,0):=(DM p 1 0).mp e;have q:=k _ s1;rw[this]at q;exact q
 ·have n1:p≠(1,0):=λz=>Bool.noConfusion (e.symm.trans (show _=true from(DM p 1 0).mpr z));refine⟨Zaa,Yap,λu hu'=>?_⟩;have s2:aN H _:=ak (o:=.tup Ydb) s1 hu';refine⟨_,_,Hm (HC s2 ha),Hm (YhD),Zc1⟩;refine bC Yhj Yhj
  ·have:p=(0,1):=(DM p 0 1).mp e;have q:=k _ s2;rw[this]at q;exact q
  ·have n2:p≠(0,1):=λz=>Bool.noConfusion (e.symm.trans (show _=true from(DM p 0 1).mpr z));have q:=k _ s2;unfold ZM at q;rw[if_neg n1,if_neg n2]at q;exact q
abbrev sx(t:Yaw):Str:=⟨t.toArray⟩
abbrev tx(t:Yaw):V:=.str (sx t)
def Hv:sx a=sx b↔a=b:=by
 ext XaT
 ·intro h;have:=Wa6 (λs:Str=>s.cps.toList) h;ext Xbb
 ·rintro rfl;rfl
def Mg:tx a=tx b↔a=b:=by
 rw[<-Hv];ext XaT
 ·intro h;cases h;rfl
 ·intro h;rw[tx,h]
def hJ(a:Yaw):(sx a).length=a.length:=rfl
def gz(a b:Yaw):sx a++sx b=sx (a++b):=by show(⟨a.toArray++b.toArray⟩:Str)=⟨(a++b).toArray⟩;simp
def Sg(t:Yaw):Prop:=∀c∈t,sgn c=c
def V7(c:Nat):sgn c<128:=by
 unfold sgn;split
 ·rename_i h;have:=jc.mp h;omega
 ·split
  ·rename_i h;have:=gp.mp h;omega
  ·split
   ·omega
   ·split
    ·omega
    ·split<;>omega
def Vs:∀c,c<128->sgn c=c->Unicode.isAlpha c=Yub:=by ext XaX
def Ve:∀c,c<128->sgn c=c->Unicode.isDigit c=Yuc:=by ext XaX
def V8(c:Nat):sgn (sgn c)=sgn c:=by
 by_cases h1:Yub=true
 ·rw[jd h1,jd h1]
 ·by_cases h2:Yuc=true
  ·rw[kX h2,kX h2]
  ·have e:sgn c=if c=32 then 32 else if c=40 then 40 else if c=41 then 41 else 63:=by unfold sgn;rw[Wae h1,Wae h2]
   rw[e];split
   ·decide
   ·split
    ·decide
    ·split<;>decide
def V9(t:Yaw):Sg YbY:=λc hc=>by obtain⟨d,_,rfl⟩:=WaD.mp hc;exact V8 d
def Wb(h:sgn c=c):Unicode.isAlpha c=Yub:=Vs c (by rw[<-h];exact V7 c) h
def Wa(h:sgn c=c):Unicode.isDigit c=Yuc:=Ve c (by rw[<-h];exact V7 c) h
def XB(h:Sg t)(e:∀c,sgn c=c->f c=g c):t.all f=t.all g:=by
 induction t with
 |nil=>rfl
 |cons a r ih=>rw[WcR,WcR,e a (h a Ycq),ih λc hc=>h c (Waq _ hc)]
def B2(h:Sg t):Txt.isalpha (sx t)=(Yua&&YoC):=by unfold Txt.isalpha;rw[<-XB h (f:=Unicode.isAlpha) λc=>Wb];simp[hJ]
def B1(h:Sg t):Txt.isdigit (sx t)=(Yua&&YoD):=by unfold Txt.isdigit;rw[<-XB h (f:=Unicode.isDigit) λc=>Wa];simp[hJ]
def RU{σ:L2.St}{H:Hp}{ta tb tc:TE}{p p':Int->Int->Bool}(x y z:Int){Q:Bool->Hp->Prop}(h1:∀Q',Q' (.int x) H->ta σ H Q')(h2:∀Q',Q' (.int y) H->tb σ H Q')(h3:∀Q',Q' (.int z) H->tc σ H Q')(h:Q (p x y&&p' y z) H):
  VT (Mm (NU λi j=>.bl (p i j)) YEg ta tb tc) σ H Q:=by
 ext Xfx
 ·rw[e]at h;exact abJ ⟨Zaa,h⟩
 ·rw[e]at h;refine abI (h3 _ ⟨y,z,Zc1⟩);rw[Wcz]at h;exact h
def tL{α:Type}{xs:Ydy}{i:Int}{j:Nat}{v:α}(e:i=(j:Int))(h:xs[j]? =YcV):Vp xs i=YcV:=by rw[e];exact Tq h
def RE:∀j:Nat,j<26->("abcdefghijklmnopqrstuvwxyz":Str).cps.toList[j]? =some (97+j):=by ext XaX
def Vd:∀j:Nat,j<10->("0123456789":Str).cps.toList[j]? =some (48+j):=by ext XaX
def QT:Sp:=λvs H Q _=>∃n:Nat,vs=[.int n]/\Q (tx [sgn n]) H
def Rl(T:Yas):a6 P w K mg base cN 1 A.Fc A.Fh ["byte"] QT:=by
 refine T.Mc.ok Q5 YdI Yab;ext XfJ
 refine⟨_,(af (aM (Ik my my aq Yau aq) (aj (au (aU zh (cy rfl T.U1) (a7 Iv Yau aq) Yal))) az)
   (af (aM (Ik my my aq Yau aq) (aj (au (aU zh (cy rfl T.W3) (a7 Iv Yau aq) Yal))) az)
   (af Yim
   (af Yim
   (af Yim
   (aj (au (cy rfl T.YZ)))))))),?_⟩
 unfold sgn at k;refine RU 97 n 122 (λ_ h=>h) (λ_ h=>⟨Zaa,h⟩) (λ_ h=>h) (Yae)
 ·simp only[WaJ,War]at e;rw[Wap (jc.mpr Yad)]at k;refine⟨Zb5,Zbv,YaT,tL (j:=n-97) Yad (RE _ Yad),?_⟩;rw[show 97+(n-97)=n by omega];exact k
 ·have ns:¬Vbnlad.small n=true:=λq=>by have:=jc.mp q;simp at e;omega
  rw[Wae ns]at k;refine bx (ba (cV (RU 48 n 57 (λ_ h=>h) (λ_ h=>⟨Zaa,h⟩) (λ_ h=>h) (Yae))))
  ·simp only[WaJ,War]at e;rw[Wap (gp.mpr Yad)]at k;refine⟨Zb5,Zbv,YaT,tL (j:=n-48) Yad (Vd _ Yad),?_⟩;rw[show 48+(n-48)=n by omega];exact k
  ·have nd':¬Vbnlad.digit n=true:=λq=>by have:=gp.mp q;simp at e;omega
   rw[Wae nd']at k;refine Yjc
   ·have:n=32:=(by have q:(n:Int)=32:=Ydr;omega);rw[Wap this]at k;exact k
   ·have:¬n=32:=λq=>by subst q;simp at e
    rw[Wae this]at k;refine Yjc
    ·have:n=40:=(by have q:(n:Int)=40:=Ydr;omega);rw[Wap this]at k;exact k
    ·have:¬n=40:=λq=>by subst q;simp at e
     rw[Wae this]at k;refine Yjc
     ·have:n=41:=(by have q:(n:Int)=41:=Ydr;omega);rw[Wap this]at k;exact k
     ·have:¬n=41:=λq=>by subst q;simp at e
      rw[Wae this]at k;exact k
def RF:∀l:List (Yaw),Txt.join (sx []) (l.map sx)=sx l.flatten:=by
 intro l;have key:∀l:List (Yaw),TL.LJ [] l=l.flatten:=by
  intro l;induction l with
  |nil=>rfl
  |cons a r ih=>
   cases r with
   |nil=>simp[TL.LJ]
   |cons b r=>show a++([]++TL.LJ [] (b::r))=_;rw[ih];simp
 rw[TL.join_eq];have h:=TL.Sq (sx []) (l.map sx);have e:(l.map sx).map TL.tl=l:=by rw[Wax];exact List.map_id'' (λx=>rfl) l
 rw[e]at h;have h2:(YAs).cps.toList=l.flatten:=h.trans (key l);show(⟨(YAs).cps⟩:Str)=⟨l.flatten.toArray⟩;rw[<-h2]
def Oh(K:Yaj):Sp:=λvs H Q _=>∃a,∃ns:Yaw,vs=Yvz/\aV K H a (ns.map λn=>Yhr)/\YhS<=5000/\∀H',Ya1->Q (tx (ns.map sgn)) H'
theorem yM(T:Yas):a6 P w K mg base cN 2 A.B6 A.Cj ["row"] (Oh K):=by
 refine T.xh.ok FL Ycp Yab;obtain⟨a,ns,rfl,hS,hl,k⟩:=h;have nd:=FL.nd;refine⟨_,(aj (au (YE aW (yI (own:=[("byte",1)]) rfl nd Yrp YbT Yuw YcI (λ_ _ _ _ _=>(ay (Rl T) Yac rfl T.UH T.Mc.kp T.Vn .nil aD YeW)))))),?_⟩;refine⟨YeS,Zaa,a,rfl,⟨_,hS⟩,YeD⟩;refine gF (xs:=ns.map λn=>Yhu) (λi H'=>H' D=some (.lst ((ns.take i).map λn=>tx [sgn n]))/\Ya1) YoB YEd ?_ ?_
 ·ext XdI;ext XaS;refine⟨ZaF,z,Zcw,hD',Ydi,?_⟩;refine⟨?_,Ylc⟩;ext Xa9;rfl
 ·rintro H' ⟨hD',sm⟩;rw[List.length_map,List.take_length]at hD';refine⟨_,D,YEf,ZaI,.inl (aV.of (by rw[hD',List.map_map];rfl)),ZbG⟩
  ·rw[List.map_map,List.length_map];have e:(ns.map (Str.length∘ λn=>sx [sgn n]))=ns.map λ_=>1:=rfl;have e2:(ns.map λ_=>1).sum=YhS:=by
    clear hD' k hS hl e;induction ns with
    |nil=>rfl
    |cons a r ih=>rw[List.map_cons,List.sum_cons,ih,List.length_cons];omega
   have e3:(Str.ofString "").length=0:=YeP;rw[e,e2,e3];omega
  ·have e:Txt.join (Str.ofString "") YEf=sx (ns.map sgn):=by
    have:=RF (ns.map λn=>[sgn n]);rw[List.map_map]at this;have f:(ns.map λn=>[sgn n]).flatten=ns.map sgn:=by
     clear hD' k hS hl this;induction ns with
     |nil=>rfl
     |cons a r ih=>simp[ih]
    rw[f]at this;exact this
   rw[e];exact k _ sm
def Ub(K:Yaj):Sp:=λvs H Q _=>∃t:Yaw,vs=[tx t]/\Yby<=100000/\∀p H',Ya1->H p=none->H' p=some (.lst (t.map λn=>Yhr))->Ycd
theorem LD(T:Yas):a6 P w K mg base cN 1 A.Jo A.Jx YhT (Ub K):=by
 refine T.JW.ok Lr YdJ Yab;obtain⟨t,rfl,hl,k⟩:=h;have nd:=Lr.nd;refine⟨_,(aj (au (yI (own:=[("sign",1)]) rfl nd (aae Yau) YbT Yuw YcI (λ_ _ _ _ _=>(aT Xj rfl T.abA aaL YeW))))),?_⟩;refine⟨ZaE,YeD⟩;refine LH (n:=Yby) (λi H'=>H' D=some (.lst ((t.take i).map λn=>Yhr))/\Ya1) YoB (λi H' hi _=>by show i<t.toArray.size;simpa using hi) (λH' _=>by show t.toArray.size<=Yby;simp) ?_ ?_
 ·rintro i H' hi ⟨hD',sm⟩ x H2 ⟨rfl,c,hc,rfl⟩;have hz:t[i]? =Ycf:=by simpa using hc
  refine⟨ZbM,Zcw,hD',aP (n:=100000) YoS YeP,?_⟩;refine⟨?_,Ylc⟩;ext Xa9;rfl
 ·rintro H' ⟨hD',sm⟩;rw[List.take_length]at hD';exact k D H' sm hD hD'
def eq_str(a b:Str):Vz (YDb) (.str b)=YyS:=by ext Xg3
def Mp:("and":Str)=sx KA:=by ext XaX
def Ss:("or":Str)=sx XS:=by ext XaX
def Hz:("not":Str)=sx zg:=by ext XaX
def G9:("from":Str)=sx p7:=by ext XaX
def Ac:("before":Str)=sx gG:=by ext XaX
def Mo:("rank":Str)=sx A7:=by ext XaX
def VW:("to":Str)=sx NV:=by ext XaX
def G8:("true":Str)=sx oo:=by ext XaX
def CS:("false":Str)=sx jw:=by ext XaX
def YX(t:Yaw):tE (tx t) YbD=Vbnlad.RESERVED.contains t:=by
 rw[Mp,Ss,Hz,G9,Ac,Mo,VW,G8,CS,yC];unfold tE;simp only[WbL,Wc0,eq_str,Hv];rw[Wa2];simp only[Wb5,War,WbB,Wav,Wbt,WcJ,Wbo];ext XaT
 ·rintro(h|h|h|h|h|h|h|h|h)<;>simp[h.symm]
 ·rintro(h|h|h|h|h|h|h|h|h)<;>simp[h]
def jm(t:Yaw):Bool:=(Yua&&YoC)&& !Vbnlad.RESERVED.contains t
def Mw:Sp:=λvs H Q _=>∃t,vs=[tx t]/\Sg t/\Q (.bl (jm t)) H
def oO(T:Yas):a6 P w K mg base cN 1 A.rS A.sf YhT Mw:=by
 refine T.mi.ok Gx YdJ Yab;obtain⟨t,rfl,hs,k⟩:=h;refine⟨_,(aj (au (Wr (LC WeA Wey BS Yau) (Wm (Dh lE Yau (cy rfl T.Nn) YaO))))),?_⟩;refine⟨Zaa,ZbI,ZaH⟩
 ·refine⟨Zaa,Zbr,.inr (T.MO H),rfl,Zag⟩;rw[B2 hs]at e;unfold jm at k;rw[e,Wcz,<-YX]at k;exact k
 ·rw[B2 hs]at e;unfold jm at k;rw[e,Wcp]at k;exact k
theorem Jc(h:YoD=true)(h0:t≠[])(hl:Yby<=7):PySem.intText? (sx t)=some (xH t:Int):=by have hd:∀c∈t,48<=c/\c<=57:=λc hc=>gp.mp (List.all_eq_true.mp h c hc);have e:=intText_digits (x:=sx t) (by show NumText.AllDigits t;exact hd) (by simpa using h0) (by rw[hJ];omega);rw[e];congr 2;show t.foldl (λacc c=>acc*10+(c-48)) 0=t.foldl YmM 0;congr 1;funext n c;rw[Nat.mul_comm]
def VX:Sp:=λvs H Q _=>∃t,vs=[tx t]/\Sg t/\Yby<=5000/\Q (.int (worth t)) H
def OT(T:Yas):a6 P w K mg base cN 1 A.B5 A.Ci YhT VX:=by
 refine T.JV.ok OB YdJ Yab;obtain⟨t,rfl,hs,hl,k⟩:=h
 refine⟨_,(af (aM (PW.pt (A1 (eR (ck (LC Wez Wex BR Yau))) (yD (aC nZ Yfe (cy rfl T.KD) Ybo)))) YaD az)
   (af (aM (PW.pt (yE (aC nZ Yfe aq Ybo) (tm (aC bY (aU zh Yau aq Yal) aW Ybo)))) YaD az)
   (aj (au (fA NH rfl T.abB aaM Yq0))))),?_⟩
 ext Xf8;unfold worth at k;refine⟨Zaa,ZbI,ZaH⟩
 ·rw[B1 hs]at e;have:¬((t≠[]/\YoD=true)/\Yby<=7):=λq=>by have h1:0<Yby:=Wdd.mpr q.1.1;rw[q.1.2,Wa9 h1]at e;cases e
  rw[Wae this]at k;ext Xcl
 ·rw[B1 hs]at e;have e':0<Yby/\YoD=true:=by simpa using e
  have ne:t≠[]:=Wdd.mp e'.1;refine⟨ZaE,hz,ZbS,Ybu⟩
  ·have h7:(7:Int)<(t.length:Int):=Waf e2;rw[Wae (λq=>by have:=q.2;omega)]at k;ext Xcl
  ·have h7:¬(7:Int)<(t.length:Int):=Wag e2;rw[Wap ⟨⟨ne,e'.2⟩,YaP⟩]at k;refine bx (ba (cV ⟨ZaE,hz,ZbS,Yc1⟩))
   ·have h1:(1:Int)<(t.length:Int):=Waf e3;obtain⟨c,r,rfl⟩:∃c r,t=c::r:=by
     cases t with
     |nil=>exact absurd rfl ne
     |cons c r=>exact⟨c,r,rfl⟩
    refine⟨Zaa,Zbv,hz,YpL,ZaF,Yg4⟩
    ·have hc:c=48:=by have q:V.str (sx [c])=V.str "0":=YjP;have z:("0":Str)=sx [48]:=Ya5;rw[z]at q;have:=Mg.mp q;ext Xbb
     rw[Wap ⟨YaP,by rw[hc];rfl⟩]at k;ext Xcl
    ·have hc:c≠48:=λq=>by subst q;have z:("0":Str)=sx [48]:=Ya5;rw[z]at e4;simp at e4
     rw[Wae (λq=>hc (by have:=q.2;simpa using this))]at k;exact⟨Zcu⟩
   ·have h1:¬(1:Int)<(t.length:Int):=Wag e3;rw[Wae (λq=>by have:=q.1;omega)]at k;exact⟨Zcu⟩
def Bc(A:bL)(H:Hp)(a:Addr)(p:Nat×Yaw):Prop:=∃dx,H a=Ykp
def v8(C:Addr)(ok:YcT->Prop)(fs:YcT->YqE):Sp:=λvs H Q _=>∃p dx args,vs=Yij::args/\ok args/\H p=some YDF/\∀H',H' p=some (.ins C dx (fs args))->(∀b,b≠p->H' b=H b)->Ykb
def A4(T:Yas):a6 P w K mg base cN 1 A.wN A.wW YjV (v8 A.jY YAv λargs=>[("place",YiF),("signs",YiE)]):=by
 refine T.NS.ok Kn YjC Yab;ext Xgp
 refine⟨_,(af Yfw
   (aj Ygq)),?_⟩
 refine⟨ZbO,T.wZ,T.uw,Zaj⟩;refine⟨Zbm,T.wZ,T.nJ,Zai⟩;exact k _ (YgE) λb hb=>by rw[aA hb,aA hb]
def VQ:∀{r:List Nat}{j:Nat},j<(YmZ).length->∃c,r[j]? =Ycf/\p c=true
 |[],j,h=>by simp at h
 |a::r,j,h=>by
  rw[Wbq]at h;split at h
  ·rename_i ha;cases j with
   |zero=>exact⟨a,rfl,ha⟩
   |succ j=>exact VQ (r:=r) YkL
  ·simp at h
def QC:∀{r:List Nat}{c:Nat},r[(YmZ).length]? =Ycf->p c=false
 |[],c,h=>by simp at h
 |a::r,c,h=>by
  rw[Wbq]at h;split at h
  ·exact QC (r:=r) YkL
  ·rename_i ha;simp at h;subst h;simpa using ha
def Sn(r:Yaw):(YmZ).length<=YcN:=(List.takeWhile_sublist p).length_le
def Ms:Sp:=λvs H Q _=>∃t,∃i:Nat,vs=[tx t,Yoh]/\Sg t/\i<Yby/\Yby<=5000/\Q (.int ((i+run (t.drop i):Nat):Int)) H
def Ag{t:Yaw}(hs:Sg t){i c:Nat}(h:t[i]? =Ycf):Txt.isalpha ⟨#[c]⟩=Yub:=by
 have:=B2 (t:=[c]) λd hd=>by rw[WaE.mp hd];exact hs c (WaA h)
 ext Xbb
def Af{t:Yaw}(hs:Sg t){i c:Nat}(h:t[i]? =Ycf):Txt.isdigit ⟨#[c]⟩=Yuc:=by
 have:=B1 (t:=[c]) λd hd=>by rw[WaE.mp hd];exact hs c (WaA h)
 ext Xbb
def MX(T:Yas):a6 P w K mg base cN 1 A.zq A.zD YxR Ms:=by
 refine T.Gq.ok CY Ycp Yab;obtain⟨t,i,rfl,hs,hi,hl,k⟩:=h;have nd:=CY.nd
 refine⟨_,(af (aF (i:=2) nd rfl Yaf (a7 mO YaG aq))
   (af (aM (ck (LC WeA Wey BS (aU zh Yau YaG Yal))) (aj (jK WaM (PW.pt (yE Yu1 (tm (ck (LC WeA Wey BS Yu0))))) YvR)) (aj (aM (ck (LC Wez Wex BR (aU zh Yau YaG Yal))) (aj (jK WaM (PW.pt (yE Yu1 (tm (ck (LC Wez Wex BR Yu0))))) YvR)) az)))
   (Yva))),?_⟩
 ext Xf8;obtain⟨c,hc⟩:∃c,t[i]? =Ycf:=⟨t[i],by simp[hi]⟩;have ed:t.drop i=c::t.drop YcG:=by
  have h1:t[i]=c:=by simpa[hi]using hc
  rw[Wbh hi,h1]
 have rd:∀j,(Ych)[j]? =t[i+1+j]? :=λj=>by rw[Wd5]
 rw[ed,run]at k;refine⟨Zaa,ZaM⟩;refine⟨ZaE,Zbv,hz,tL rfl hc,ZbI,ZaH⟩
 ·rw[Ag hs hc]at e;rw[Wap e]at k;refine⟨λm σ H'=>H'=H/\∃j,j<=((Ych).takeWhile Vbnlad.small).length/\m=((Ych).takeWhile Vbnlad.small).length-j/\σ=YmC,⟨Zaa,0,WaL _,ZaI⟩,?_⟩;ext Xfj
  ·ext XbP;refine Ys3
   ·rw[Ag hs hd]at e3;have hj2:j<((Ych).takeWhile Vbnlad.small).length:=by
     ext Xcb
     ·exact q
     ·have:j=((Ych).takeWhile Vbnlad.small).length:=Yad;ext Xe9
    exact Yum
   ·rw[Ag hs hd]at e3;have:j=((Ych).takeWhile Vbnlad.small).length:=by
     ext Xcb
     ·ext XdP
     ·omega
    ext Xc6
  ·ext Xe2;have:j=((Ych).takeWhile Vbnlad.small).length:=by
    ext Xcb
    ·have:=Sn (p:=Vbnlad.small) (Ych);rw[WbY]at this;omega
    ·omega
   ext Xc6
 ·rw[Ag hs hc]at e;rw[Wae (by rw[e];decide)]at k;refine cV ⟨ZaE,Zbv,hz,tL rfl hc,ZbI,Zaa,Yg4⟩
  ·rw[Af hs hc]at e4;rw[Wap e4]at k;refine⟨λm σ H'=>H'=H/\∃j,j<=((Ych).takeWhile Vbnlad.digit).length/\m=((Ych).takeWhile Vbnlad.digit).length-j/\σ=YmC,⟨Zaa,0,WaL _,ZaI⟩,?_⟩;ext Xfj
   ·ext XbP;refine Ys3
    ·rw[Af hs hd]at e3;have hj2:j<((Ych).takeWhile Vbnlad.digit).length:=by
      ext Xcc
      ·exact q
      ·have:j=((Ych).takeWhile Vbnlad.digit).length:=Yad;ext Xe9
     exact Yum
    ·rw[Af hs hd]at e3;have:j=((Ych).takeWhile Vbnlad.digit).length:=by
      ext Xcc
      ·ext XdP
      ·omega
     ext Xc6
   ·ext Xe2;have:j=((Ych).takeWhile Vbnlad.digit).length:=by
     ext Xcc
     ·have:=Sn (p:=Vbnlad.digit) (Ych);rw[WbY]at this;omega
     ·omega
    ext Xc6
  ·rw[Af hs hc]at e4;rw[Wae (by rw[e4];decide)]at k;ext Xcl
def made(nx:H x=none)(nd:H dx=none)(k:∀b,b≠x->H2 b=(Yid) b):aN H H2:=aN.made nx nd λb o e hb=>(k b hb).trans e
def Y3{t:Yaw}{i e:Nat}(h1:i<=e)(h2:e<=Yby):Xf (sx t) YDB (some (e:Int))=sx ((t.drop i).take (e-i)):=by unfold Xf HT.qf;ext Xhc;have b:¬((e:Int)<0):=Yad;simp only[Wae a,Wae b,Wbl,hJ];rw[Wc9 (show i<=t.length by omega),Wc9 h2]
def Bc.same(s:Ya1)(h:Bc A H a p):Bc A H' a p:=by obtain⟨dx,e⟩:=h;exact⟨dx,s _ _ e⟩
def Bc.upd(hl:H l=YdB)(h:Bc A H a p):Bc A (upd H l Yqa) a p:=by obtain⟨dx,e⟩:=h;exact⟨dx,ai (bS e hl Yaq) e⟩
def mf(A:bL)(H:Hp)(l:Addr)(L:YA8):Prop:=∃as:Ybw,H l=Yfp/\Paired (Bc A H) as L
def mf.same(s:Ya1)(h:mf A H l L):mf A H' l L:=by obtain⟨as,h1,h2⟩:=h;exact⟨as,YtS,YyB⟩
def mf.push(h1:H l=Yfp)(h2:Paired (Bc A H) as L)(h3:Bc A H a p):
  mf A (upd H l (.lst (YbP++Yvz))) l (L++[p]):=
 ⟨as++[a],by rw[ab,Wal];rfl,WbM (Paired.gE h2 λ_ _ q=>q.upd h1) (h3.upd h1)⟩
def Yt:0<run (c::r):=by
 simp only[run];split
 ·omega
 ·split<;>omega
def Z8(z:Yaw):run z<=YnC:=by
 unfold run;split
 ·simp
 ·have h1:=Sn (p:=Vbnlad.small) ‹List Nat›;have h2:=Sn (p:=Vbnlad.digit) ‹List Nat›;rw[Was];split
  ·omega
  ·split<;>omega
def Mr(A:bL):Sp:=λvs H Q _=>∃t:Yaw,vs=[tx YbY]/\Yby<=4096/\∀p H',Ya1->mf A H' p ((Yg9).map v5++[(Yby,[])])->Ycd
theorem MW(T:Yas):a6 P w K mg base cN 3 A.zp A.zC YhT (Mr A):=by
 refine T.Gp.ok CW YdJ Yab;obtain⟨t,rfl,hl,k⟩:=h;have nd:=CW.nd
 refine⟨_,(af Yox
   (af (aF (i:=2) nd rfl Yaf aq)
   (af (jK PassesOwn.never Yu1 (af (aF (i:=3) nd rfl Yaf (ay (MX T) Yac rfl T.O9 T.Gq.kp T.Qb .nil aD Ys2))
   (af (aM (aC SI Yu0 aW Ybo) (aj (bp (fI PySem.F.plainAttrs_list PySem.F.slot_list_append PySem.F.type_list_append bF YaG (aa (cH T.O5 (A4 T) Yac rfl T.SS T.Ee .nil aD (aa YaS (aa (yH Z6 Yau (qi YaS) (qi Yba)) ah))) ah)))) az)
   (aj (aF (i:=2) nd rfl Yaf Yba)))))
   (af (bp (fI PySem.F.plainAttrs_list PySem.F.slot_list_append PySem.F.type_list_append bF YaG (aa (cH T.O5 (A4 T) Yac rfl T.SS T.Ee .nil aD (aa Yfe YnK)) ah)))
   (aj (au YaG)))))),?_⟩
 have hs:Sg YbY:=V9 t;have hl':(Yon).length<=4096:=by ext Xg7;exact hl
 have hz:(sx YbY).length<=sizeLine:=HJ (l:=Yon) hl' YeP;refine Yqv
 refine⟨λm σ H'=>∃(i:Nat)(o4:Option V)(l:List (Nat×Vbnlad.Tok))(as:List Addr),m=Yby-i/\i<=Yby/\σ=[some (tx YbY),Ydn,some (YiM),o4]/\Ya1/\Yc9<=i/\
   Vbnlad.toks 0 0 [] t=l++Vbnlad.toks i i [] (t.drop i)/\H' D=Yfp/\Paired (Bc A H') as (l.map v5),
  ⟨_,0,none,[],[],rfl,Ybv,rfl,YBW,YcH,ZcG,.nil⟩,?_⟩
 rintro m σ H' ⟨i,o4,l,as,rfl,hi,rfl,sm,hli,ht,hD',hP⟩;have hal:Yw6=Yc9:=by have:=hP.length;ext XbW;exact this
 refine⟨Zbl,hz,Zb1⟩
 ·have lt:i<Yby:=by have:=YaQ;rw[hJ,List.length_map]at this;omega
  refine⟨Zbb,ZaE,_,i,rfl,hs,by rw[List.length_map];exact lt,YaP,?_⟩;obtain⟨b,r,hbr⟩:∃b r,t.drop i=b::r:=⟨t[i],Ych,List.drop_eq_getElem_cons lt⟩;have hb:t[i]? =Yt3:=by have:=congrArg (λx:List Nat=>x[0]?) hbr;ext Xbb
  have emd:(Yon).drop i=(b::r).map sgn:=by rw[<-Ywx,hbr]
  obtain⟨l1,e1,e2⟩:=TX i b r;rw[emd];have rl:Ydo<=Yby-i:=by have h0:((b::r).map sgn).length=Yby-i:=(by rw[List.length_map,<-hbr,List.length_drop]);have:=Z8 ((b::r).map sgn);omega
  have rp:0<Ydo:=by rw[List.map_cons];exact Yt
  generalize hn:run ((b::r).map sgn)=n at rl rp e1 e2;have hne:t.drop (i+n)=(b::r).drop n:=by rw[<-hbr,List.drop_drop]
  refine⟨ZaE,Zbv,hz,tL rfl (by rw[List.getElem?_map,hb];rfl),ZaF,Yc1⟩
  ·have h32:sgn b≠32:=λq=>by rw[q]at e3;have z:(" ":Str)=sx [32]:=Ya5;rw[z]at e3;simp at e3
   rw[if_neg h32]at e2;obtain⟨tk,rfl⟩:∃tk,l1=[tk]:=by have:=congrArg List.length e2;ext Xhj;exact List.length_eq_one_iff.mp this
   refine⟨ZcR,ZaE,Zbl,hz,Yik⟩;ext Xdc;have ct:=Y3 (t:=Yon) (i:=i) (e:=i+n) Yad YaI;rw[ct]at h2;obtain⟨as',p1,p2⟩:=mf.push (A:=A) (p:=(i,((Yon).drop i).take (i+n-i))) (Yye) YvT ⟨dx,h2⟩;refine Yfg;refine⟨Yby-(i+n),YaP,i+n,_,l++[tk],as',rfl,YaP,rfl,Yns,Ym2,?_,p1,?_⟩
   ·rw[ht,hbr,e1,hne,List.append_assoc]
   ·rw[List.map_append,e2,<-emd];rw[Nat.add_sub_cancel_left]at p2;exact p2
  ·have h32:sgn b=32:=by have z:(" ":Str)=sx [32]:=Ya5;rw[z]at e3;have e3':V.str (sx [sgn b])=V.str (sx [32]):=(by simpa using e3);have:=Mg.mp e3';ext Xbb
   rw[if_pos h32]at e2;have:l1=[]:=List.map_eq_nil_iff.mp e2;subst this;refine Yfg;refine⟨Yby-(i+n),YaP,i+n,_,l,as,rfl,YaP,rfl,sm,YaP,?_,hD',hP⟩;rw[ht,hbr,e1,hne];rfl
 ·have ge:i=Yby:=by have:=YaH;rw[hJ,List.length_map]at this;omega
  subst ge;refine⟨ZcR,hz,Yik⟩;ext Xdc;have el:(sx YbY).length=Yby:=by rw[hJ,List.length_map]
  rw[el]at h2;refine⟨Zaa,k D _ (Yns) ?_⟩;have fin:=mf.push (A:=A) (p:=(Yby,[])) (Yye) YvT ⟨dx,h2⟩;have et:Yg9=l:=by show Vbnlad.toks 0 0 [] t=l;rw[ht,List.drop_length];show l++Vbnlad.closed _ []=l;simp[Vbnlad.closed]
  rw[et];exact fin
def AS:fY->List V
 |.tt=>[.str "true"]
 |.ff=>[.str "false"]
 |.flag t=>[.str "flag",tx t]
 |.since d=>[.str "from",YeK]
 |.before d=>[.str "before",YeK]
 |.rank a b=>[.str "rank",.int (a:Nat),.int (b:Nat)]
 |.not=>[.str "not"]
 |.and=>[.str "and"]
 |.or=>[.str "or"]
def dY(H:Hp)(a:Addr)(s:fY):Prop:=H a=some (.tup (AS s))
def nH:Pd->V
 |.not=>.str "not"
 |.par=>.str "("
 |.and=>.str "and"
 |.or=>.str "or"
def dY.same(e:Ya1)(h:YAD):dY H' a s:=e _ _ h
structure RC where
 (r dx tl sl pl:Addr)
structure NQ (A:bL) (H:Hp) (c:RC) (i:Nat) (L:YA8) (ss:Ybw) (S:Ymd) (Pn:YeC) (n:Nat):Prop where
 obj:H c.r=Ybq
 tok:mf A H c.tl L
 qe:H c.sl=YfQ
 ZY:Ywd
 pnd:H c.pl=some YkN
 ne1:c.sl≠c.pl
 ne2:c.tl≠c.sl
 ne3:c.tl≠c.pl
def fW(c:RC)(H H':Hp):Prop:=∀b o,b≠c.r->b≠c.sl->b≠c.pl->H b=YaB->H' b=YaB
def fW.refl(c:RC)(H:Hp):fW c H H:=λ_ _ _ _ _ e=>e
def fW.trans(a:fW c H H1)(b:fW c H1 H2):fW c H H2:=λx o h1 h2 h3 e=>b x o h1 h2 h3 (a x o h1 h2 h3 e)
def fW.same(a:Yy9):fW c H H1:=λx o _ _ _ e=>a x o e
def fW.r:fW c H (upd H c.r o):=λx u h1 _ _ e=>ai h1 e
def fW.s:fW c H (upd H c.sl o):=λx u _ h2 _ e=>ai h2 e
def fW.p:fW c H (upd H c.pl o):=λx u _ _ h3 e=>ai h3 e
section
variable {P:Program} {w:World} {K:PySem.W.Frag} {mg:Str→Option Value} {base:Heap} {A:bL} {H H':Hp} {c:RC} {i:Nat} {L:List (Nat×List Nat)} {ss:List Addr} {S:List fY} {Pn:List Pd} {n:Nat}
def NQ.same(h:Yf7)(s:Ya1):NQ A H' c i L ss S Pn n:=⟨s _ _ h.obj,h.tok.same s,s _ _ h.qe,Paired.gE h.ZY λ_ _ q=>q.same s,s _ _ h.pnd,Zcj⟩
def NQ.nrs(h:Yf7):c.sl≠c.r:=bS h.qe h.obj Yaq
def NQ.Zx(h:Yf7):c.pl≠c.r:=bS h.pnd h.obj Yaq
def mf.of(h:mf A H l L)(h1:∀o,H l=YaB->H' l=YaB)(h2:∀b C d f,H b=some (.ins C d f)->C=A.jY->H' b=some (.ins C d f)):mf A H' l L:=by obtain⟨as,e,q⟩:=h;exact⟨as,h1 _ e,Paired.gE q λ_ _ ⟨d,z⟩=>⟨d,h2 _ _ _ _ z rfl⟩⟩
def NQ.put(h:Yf7)(hC:A.jY≠A.bu)(j m:Nat):NQ A (upd H c.r (.ins A.bu c.dx [YmN,("at",.int (j:Nat)),YnB,Yl5,("nesting",Yy0)])) c j L ss S Pn m:=by
 refine⟨ab,?_,ai h.nrs h.qe,Paired.gE h.ZY λa s q=>ai (bS q h.obj Yaq) q,ai h.Zx h.pnd,Zcj⟩;refine h.tok.of YBG λb C d f e hc=>?_
 ·obtain⟨as,e2,_⟩:=h.tok;exact ai (bS e2 h.obj Yaq) e
 ·refine ai (λq=>?_) e;rw[q,h.obj]at e;cases e;exact hC hc.symm
def NQ.step(h:Yf7)(ha:YAD):NQ A YyL c i L (ss++[a]) (S++[s]) Pn n:=by have nt:∀b s,dY H b s->b≠c.sl:=λb s q=>bS q h.qe Yaq;refine⟨ai (WaC h.nrs) h.obj,?_,by rw[ab,Wal];rfl,WbM (Paired.gE h.ZY λb s q=>ai (nt b s q) q) (ai (nt _ _ ha) ha),ai (WaC h.ne1) h.pnd,Zcj⟩;exact h.tok.of (λo e=>ai h.ne2 e) λb C d f e _=>ai (bS e h.qe Yaq) e
def NQ.pend(h:Yf7)(Pm:YeC):NQ A YlA c i L ss S Pm n:=by refine⟨ai (WaC h.Zx) h.obj,?_,ai h.ne1 h.qe,Paired.gE h.ZY λb s q=>ai (bS q h.pnd Yaq) q,ab,Zcj⟩;exact h.tok.of (λo e=>ai h.ne3 e) λb C d f e _=>ai (bS e h.pnd Yaq) e
structure cx (A:bL) (H:Hp) (c:RC) (len:Nat) (r:Toks) (S:Ymd) (Pn:YeC) (n:Nat) (g:Int):Prop where
 ex:∃(pre:List (Nat×List Nat))(ss:List Addr),NQ A H c pre.length (pre++(r.map v5++Yyj)) ss S Pn n/\((YAI+Pn.length:Nat):Int)+g<=Yp1/\Yp1+YcN<=4096
 lo: -10<=g
 ok:md r
 sm:∀p∈r,(conv p.2).length<=5000
 cl:A.jY≠A.bu
def bV{α β:Type}{F:α->β->Prop}{l:Ydy}{m:List β}(h:Paired F l m):∀{j:Nat}{y:β},m[j]? =Ysw->∃x,l[j]? =YeH/\F x y:=by
 induction h with
 |nil=>intro j y e;simp at e
 |cons h _ ih=>
  intro j y e;cases j with
  |zero=>ext Xcr;exact⟨Zaa,h⟩
  |succ j=>exact ih Ydr
def NQ.now{pre M:YA8}{p:Nat×Yaw}(h:NQ A H c pre.length (pre++p::M) ss S Pn n):∃(as:List Addr)(a dx:Addr),H c.tl=Yfp/\(YbP)[Yp1]? =Yfd/\H a=Ykp:=by obtain⟨as,e,q⟩:=h.tok;obtain⟨a,e1,dx,e2⟩:=bV q (j:=Yp1) (y:=p) Yao;exact⟨as,a,dx,e,by rw[Wbd,e1];rfl,e2⟩
def acQ(len:Nat)(r:Toks):Nat×List Nat:=(Uw len r,ia r)
def OG(len:Nat)(r:Toks):∃M,r.map v5++Yyj=acQ len r::M:=by
 cases r with
 |nil=>exact⟨[],rfl⟩
 |cons p r=>exact YeS
def Yh(A:bL):Sp:=λvs H Q _=>∃c len r S Pn n g,vs=[YhG]/\Ybg/\Q (tx YAl) H
def cY(T:Yas):a6 P w K mg base cN 1 A.uK A.u4 Ycy (Yh A):=by refine T.K6.ok HX Yax Yab;ext Xba;refine Yoi;exact⟨Zbo,T.nJ,rfl,k⟩
def J8(A:bL):Sp:=λvs H Q _=>∃c len r S Pn n g,vs=[YhG]/\Ybg/\Q (.int (Uw len r:Nat)) H
def yO(T:Yas):a6 P w K mg base cN 1 A.jy A.jD Ycy (J8 A):=by refine T.AN.ok yl Yax Yab;ext Xba;refine Yoi;exact⟨Zbo,T.uw,rfl,k⟩
def Q3(h:md r):Sg YAl:=by
 cases r with
 |nil=>intro d hd;simp[ia]at hd
 |cons p r=>
  have ok:=h.head;obtain⟨j,t⟩:=p;intro d hd;cases t with
  |word w=>exact jd (ok.2 d hd)
  |num w=>exact kX (ok.2 d hd)
  |open_=>ext XeE
  |close=>ext XeE
  |bad=>ext XeE
def Z5(h:∀p∈r,(conv p.2).length<=5000):(ia r).length<=5000:=by
 cases r with
 |nil=>simp[ia]
 |cons p r=>exact h p Ycq
variable {len:Nat} {r:Toks} {g:Int}
def cx.same(h:Ybg)(s:Ya1):cx A H' c len r S Pn n g:=by ext Xa2;exact⟨⟨pre,ss,C.same s,b1,b2⟩,h.lo,ZbP⟩
def cx.obj(h:Ybg):∃i:Nat,H c.r=Ybq/\
  (∀p r',r=p::r'->cx A (upd H c.r (.ins A.bu c.dx [YmN,("at",.int ((i:Int)+1)),YnB,Yl5,("nesting",Yhr)])) c len r' S Pn n (g+1)):=by
 ext Xa2;refine⟨Yp1,C.obj,λp r' e=>?_⟩;subst e;refine⟨⟨pre++[v5 p],ss,?_,by rw[Wad,Wa5];omega,by simp at b2 ⊢;omega⟩,by have:=h.lo;omega,h.ok.tail,λq hq=>h.sm q (Waq _ hq),h.cl⟩;have q:=C.put h.cl (Yp1+1) n;rw[show(pre++[v5 p])++(r'.map v5++Yyj)=pre++((p::r').map v5++Yyj)by simp,Wad];exact q
def cx.weak(h:Ybg)(hg:g'<=g)(hl: -10<=g'):cx A H c len r S Pn n g':=by ext Xa2;exact⟨⟨pre,ss,C,YaP,b2⟩,hl,ZbP⟩
def cx.step(h:Ybg)(hg: -9<=g):∃ss:Ybw,H c.sl=YfQ/\(YcE).length<sizeLine/\∀a s,YAD->cx A YyL c len r (S++[s]) Pn n (g-1):=by ext Xa2;have hl:=C.ZY.length;refine⟨ss,C.qe,Yuq,λa s ha=>⟨⟨pre,ss++[a],C.step ha,by rw[Wad,Wa5];omega,b2⟩,YaP,ZbP⟩⟩
def cx.pend(h:Ybg):H c.pl=some YkN/\(Pn.map nH).length<sizeLine/\∀Pm,(Pm.length:Int)<=YBY+1-> -9<=g->cx A YlA c len r S Pm n (g+YBY-Pm.length)∨Yxa<YBY:=by
 ext Xa2;have hlo:=h.lo;refine⟨C.pnd,Yuq,λPm hm hg=>?_⟩;by_cases hlt:Yxa<YBY
 ·exact .inr hlt
 ·exact .inl ⟨Yzb,YaP,ZbP⟩
def cx.Io(h:Ybg)(Pm:YeC)(hg:g'<=g+YBY-Pm.length)(hl: -10<=g'):cx A YlA c len r S Pm n g':=by ext Xa2;exact⟨Yzb,hl,ZbP⟩
def cx.nest(h:Ybg)(m:Nat)(hi:H c.r=Ybq):
  cx A (upd H c.r (.ins A.bu c.dx [YmN,("at",YiM),YnB,Yl5,("nesting",Yy0)])) c len r S Pn m g:=by
 ext Xa2;have e:i=Yp1:=by have:=C.obj;rw[hi]at this;simp only[WaK,HO.ins.injEq,List.cons.injEq,Wa0,V.int.injEq,true_and,and_true]at this;omega
 subst e;exact⟨⟨pre,ss,C.put h.cl pre.length m,b1,b2⟩,h.lo,ZbP⟩
end
section
variable {P:Program} {w:World} {K:PySem.W.Frag} {mg:Str→Option Value} {base:Heap} {A:bL}
def HE(A:bL):Sp:=λvs H Q _=>∃c len r S Pn n g,∃lo hi:Nat,vs=[YhG,.int (lo:Nat),.int (hi:Nat)]/\hi<=1000000/\Ybg/\(og lo hi r=none->Q (.int (-1)) H)/\
 ∀m H',og lo hi r=some m->Yd8->cx A H' c len r.tail S Pn n (g+1)->Q (Yy0) H'
def ig(T:Yas):a6 P w K mg base cN 2 A.iV A.iZ Ynf (HE A):=by
 refine T.z5.ok mx Ycu Yab;obtain⟨c,len,r,S,Pn,n,g,lo,hi,rfl,hh,R,k0,k1⟩:=h;have nd:=mx.nd;obtain⟨i,ho,hmv⟩:=R.obj
 refine⟨_,(af (aF (i:=3) nd rfl Yaf (ay (OT T) Yac rfl T.Rw T.JV.kp T.R8 .nil aD (aa YeU ah)))
   (af (aM (PW.pt (A1 (aC lF Yba YaG Ybo) (yD (aC nZ Yba YaS Ybo)))) YaD az)
   (af YgL
   (YBy)))),?_⟩
 refine⟨ZbN,n,g,rfl,R,ia r,rfl,Q3 R.ok,Z5 R.sm,?_⟩;have e:=OY (lo:=lo) hh R.ok;refine⟨ZaE,ZbS,Ybi⟩
 ·have lt:=Waf e1;rw[Wae Yad]at e;exact⟨Zaa,k0 e⟩
 ·have ge:=Wag e1;refine⟨ZaE,ZbS,Ybu⟩
  ·have gt:=Waf e2;rw[Wae Yad]at e;exact⟨Zaa,k0 e⟩
  ·have le:=Wag e2;rw[Wap ⟨YaP,YaP⟩]at e;obtain⟨p,r',rfl⟩:∃p r',r=p::r':=by
    cases r with
    |nil=>simp[og]at e
    |cons p r'=>exact⟨p,r',rfl⟩
   refine bx (ba ⟨ZaJ,ho,Zbw,ho,Zad⟩);have q:=k1 _ _ e fW.r (hmv p r' rfl);rw[Int.toNat_of_nonneg Yad]at q;exact⟨Zaa,q⟩
end
def Qk(xs:Ydy)(v:α):Vp (xs++[v]) (-1)=YcV:=by unfold Vp ixN;rw[Wae YeP,Wap (by rw[Wad,Wa5];omega)];show(xs++[v])[(-1+((xs++[v]).length:Int)).toNat]? =YcV;rw[show(-1+((xs++[v]).length:Int)).toNat=xs.length by rw[Wad,Wa5];omega];simp
def qp(xs:Ydy)(v:α):(xs++[v])[(xs++[v]).length-1]? =YcV:=by simp
def Sw{α:Type}{l:List α}(h:0<Yc9):∃l' x,l=l'++[x]:=⟨l.dropLast,l.getLast (List.ne_nil_of_length_pos h),(List.dropLast_concat_getLast _).symm⟩
def Ol(A:bL):Sp:=λvs H Q _=>∃c len r S Pn n g,∃b:Bool,vs=[YhG,YqO]/\Ybg/\ -8<=g/\(og 0 1000000 r=none->Q YlO H)/\
 ∀m H',og 0 1000000 r=some m->Yd8->cx A H' c len r.tail (S++[if b=true then .since m else .before m]) Pn n g->YiG
theorem BQ(T:Yas):a6 P w K mg base cN 3 A.lO A.l6 YnQ (Ol A):=by
 refine T.El.ok qS YaZ Yab;obtain⟨c,len,r,S,Pn,n,g,b,rfl,R,hg,k0,k1⟩:=h;have nd:=qS.nd;ext Xcz
 refine⟨_,(af (aF (i:=2) nd rfl Yaf (dJ Yau T.aI T.ik (ig T) Yac T.i9 .nil aD (aa aq (aa (cy rfl T.B3) ah))))
   (af YwX
   (af (bp (fI PySem.F.plainAttrs_list PySem.F.slot_list_append PySem.F.type_list_append bF Yak (aa (bG YiN) ah)))
   (Yf2)))),?_⟩
 refine⟨ZbN,n,g,0,1000000,rfl,YaT,R,λe=>?_,λm H' e fr R'=>?_⟩
 ·exact⟨Zbg,bC (λ_=>k0 e) Ynv⟩
 ·refine⟨Zb5,ZaT⟩;obtain⟨i',ho',_⟩:=R'.obj;obtain⟨ss0,hs0,_,_⟩:=R'.step Yad;refine bx (ba ⟨ZaJ,ho',Zat,ZaE,Zcn⟩);have sm:aN H' _:=ak (o:=.tup [YqO,Yy0]) YjA ht;obtain⟨ss,hs,hl,hst⟩:=(R'.same sm).step Yad;refine⟨c.sl,ZaD,hs,hl,?_⟩;have q:=hst t Yig (by unfold dY;rw[ab];cases b<;>rfl);exact k1 m _ e Yzu (q.weak Yad Yad)
def ka(r:Toks):Option (Nat×Nat×Toks):=match og 0 7 r with
 |none=>none
 |some lo=>if ia r.tail=NV then(match og lo 7 r.tail.tail with
   |none=>none
   |some hi=>some (lo,hi,r.tail.tail.tail))
  else some (lo,lo,r.tail)
def rq(r:Toks):Toks:=match og 0 7 r with
 |none=>r
 |some _=>r.tail.tail
def Kb(A:bL):Sp:=λvs H Q _=>∃c len r S Pn n g,vs=[YhG]/\Ybg/\ -8<=g/\(∀H' g',ka r=none->Yd8->cx A H' c len (rq r) S Pn n g'->Q YlO H')/\
 ∀lo hi r' H',ka r=YAV->Yd8->cx A H' c len r' (S++[.rank lo hi]) Pn n g->YiG
theorem yP(T:Yas):a6 P w K mg base cN 3 A.jz A.jE Ycy (Kb A):=by
 refine T.AO.ok nT Yax Yab;obtain⟨c,len,r,S,Pn,n,g,rfl,R,hg,k0,k1⟩:=h;have nd:=nT.nd;ext Xcz
 refine⟨_,(af (aF (i:=1) nd rfl Yaf (dJ Yau T.aI T.ik (ig T) Yac T.i9 .nil aD (aa aq (aa YqG ah))))
   (af (aM (aC lF YaG aq Ybo) (Yf2) az)
   (af (aF (i:=2) nd rfl Yaf YaG)
   (af (aM Ywl (af YgL
   (af (aF (i:=2) nd rfl Yaf (dJ Yau T.aI T.ik (ig T) Yac T.i9 .nil aD (aa YaG (aa YqG ah))))
   (aj YwX))) az)
   (af (bp (fI PySem.F.plainAttrs_list PySem.F.slot_list_append PySem.F.type_list_append bF Yak (aa (bG (aa aW YiN)) ah)))
   (Yf2)))))),?_⟩
 have fin:∀(lo hi:Nat)(r':Toks)(H1:Hp)(g1:Int),ka r=YAV->fW c H H1->cx A H1 c len r' S Pn n g1->g+1<=g1->∀(x:V),∃ss:Ybw,H1 c.sl=YfQ/\∀t,H1 t=none->
   ∃ss:Ybw,(upd H1 t (YgN)) c.sl=YfQ/\(YcE).length<sizeLine/\Q (.bl true) (upd (upd H1 t (YgN)) c.sl YrQ):=by
  intro lo hi r' H1 g1 e fr R1 hg1 x;obtain⟨ss0,hs0,_,_⟩:=R1.step Yad;refine⟨ss0,hs0,YbX⟩;have sm:aN H1 _:=ak (o:=YgN) Ydd ht;obtain⟨ss,hs,hl,hst⟩:=(R1.same sm).step Yad;refine⟨ss,hs,hl,?_⟩;have q:=hst t Ym6 YCY;exact k1 lo hi r' _ e Yzu (q.weak Yad Yad)
 refine⟨ZbN,n,g,0,7,rfl,YaT,R,λe=>?_,λlo H1 e fr R1=>?_⟩
 ·have e1:ka r=none:=by unfold ka;rw[e]
  have e2:rq r=r:=by unfold rq;rw[e]
  exact⟨Zbg,bC (λ_=>k0 H g e1 (fW.refl c H) (by rw[e2];exact R)) Ynv⟩
 ·refine⟨Zb5,ZaT⟩;obtain⟨i1,ho1,mv1⟩:=R1.obj;refine bx (ba Yfg);refine⟨ZaK,ho1,ZaY,r.tail,S,Pn,n,g+1,rfl,R1,ZaF,Ybu⟩
  ·have hto:ia r.tail=NV:=by have q:V.str (sx (ia r.tail))=V.str "to":=(by simpa using e2);rw[VW]at q;exact Mg.mp q
   obtain⟨p,r2,er⟩:∃p r2,r.tail=p::r2:=by
    cases h:r.tail with
    |nil=>rw[h]at hto;cases hto
    |cons p r2=>exact⟨p,r2,rfl⟩
   have R2:=mv1 p r2 er;refine ba YCI;ext XcK;have er2:r.tail.tail=r2:=(by rw[er];rfl);refine ba ⟨ZaK,ho2,ZaF,c,len,r2,S,Pn,n,g+1+1,lo,7,rfl,YaT,R2,λe3=>?_,λhi H3 e3 fr3 R3=>?_⟩
   ·have e1:ka r=none:=YmS;have e4:rq r=r2:=(by unfold rq;rw[e];exact er2);exact⟨Zbg,bC (λ_=>k0 _ _ e1 (fr.trans fW.r) (by rw[e4];exact R2)) Ynv⟩
   ·have e1:ka r=some (lo,hi,r2.tail):=YmS;refine⟨Zb5,ZaT⟩;ext Xb9;obtain⟨ss0,hs0,ft⟩:=fin lo hi r2.tail H3 _ e1 ((fr.trans fW.r).trans fr3) R3 Yad .fR;refine⟨ZaJ,ho3,Zat,ZaE,YhY,YbX⟩;ext Xfk
  ·have hto:ia r.tail≠NV:=λq=>by rw[q,VW]at e2;simp at e2
   have e1:ka r=some (lo,lo,r.tail):=(by unfold ka;rw[e];dsimp only;rw[if_neg hto]);obtain⟨ss0,hs0,ft⟩:=fin lo lo r.tail H1 _ e1 fr R1 Yad .fR;refine bx (ba ⟨ZaJ,ho1,Zat,ZaE,YhY,YbX⟩);ext Xfk
section
open Vbnlad (Raw Frame parse)
def mW(Pn:YeC)(p:Pd):a9 (Pn++[p])=a9 Pn+(if p=.not∨p=.par then 1 else 0):=by rw[lQ];cases p<;>rfl
def Kg(A:bL):Sp:=λvs H Q _=>∃c len r S Pn g,vs=[YhG]/\Ymj/\ -8<=g/\∀H',Yd8->cx A H' c len r (YBx).2 (YBx).1 (a9 (YBx).1) g->Ykb
def SH(p:Pd)(q:Pd):(nH p=nH q)↔p=q:=by
 ext XaT
 ·intro h;cases p<;>cases q<;>first|rfl|(exact absurd h (by decide+kernel))
 ·rintro rfl;rfl
def Yq(p:Pd)(x:Str):Z7 (nH p) (Yx5)=true:=by cases p<;>rfl
def T6(h:p≠ .par):AS (qe p)=[nH p]:=by cases p<;>first|rfl|exact absurd rfl h
theorem cx.shift(R:cx A H c len r S (Pn++[p]) n g)(hg: -8<=g)(hp:p≠ .par):
  H c.pl=some (.lst ((Pn++[p]).map nH))/\((Pn++[p]).map nH).dropLast=Pn.map nH/\((Pn++[p]).map nH)[((Pn++[p]).map nH).length-1]? =some (nH p)/\
  ∃ss0:Ybw,H c.sl=some (.lst (ss0.map V.ref))/\∀t,upd H c.pl YkN t=none->∃ss:Ybw,(YfS) c.sl=YfQ/\(YcE).length<sizeLine/\
   cx A (upd (YfS) c.sl YrQ) c len r (S++[qe p]) Pn n g/\fW c H (upd (YfS) c.sl YrQ):=by
 obtain⟨ss0,hs0,_,_⟩:=R.step Yad;refine⟨R.pend.1,Ydx,Ydx,ss0,hs0,YbX⟩;have R1:cx A _ c len r S Pn n (g+1):=R.Io Pn YdZ Yad;have sm:=ak (o:=.tup [nH p]) (same_refl (upd H c.pl YkN)) ht;obtain⟨ss,h1,h2,h3⟩:=(R1.same sm).step Yad;refine⟨ss,Zb7,(h3 t (qe p) (by unfold dY;rw[ab,T6 hp])).weak Yad Yad,(fW.p.trans (Yi5)).trans fW.s⟩
def oa(T:Yas):a6 P w K mg base cN 1 A.jB A.jG Ycy (Kg A):=by
 refine T.AR.ok nV YaC Yab;obtain⟨c,len,r,S,Pn,g,rfl,R,hg,k⟩:=h;have nd:=nV.nd
 refine⟨_,(aj (jK WaM (PW.pt (yE Yta (tm (aC bY (aU a5 Yak YlR Yal) aW Ybo)))) (af YiJ
   (aj (eB Yau aq Ta))))),?_⟩
 refine⟨λm σ H'=>∃(S':List fY)(Pm:List Pd),m=Yxa/\σ=[Yyb]/\Yd8/\cx A H' c len r S' Pm (a9 Pm) g/\bA Ysx Pm S'=YBx,⟨_,S,Pn,Zck,rfl⟩,?_⟩;ext Xct;refine YmP
 ·have lp:0<Yxa:=by have:=Waf e1;rw[Waa]at this;omega
  obtain⟨P0,p,rfl⟩:=Sw lp;refine⟨ZbW,Yq p "not",Zaa,Ybu⟩
  ·have ep:p=.not:=(SH p .not).mp (Waf e2);subst ep;obtain⟨h1,h2,h3,ss0,h4,h5⟩:=R'.shift hg YeP;ext XcX;ext XcK;refine Yqb;have ed:a9 (P0++[Pd.not])=a9 P0+1:=(by rw[mW];rfl);have R3:=R2.nest (a9 P0) ho2;have ev:((a9 (P0++[Pd.not]):Nat):Int)-1=((a9 P0:Nat):Int):=(by rw[ed];omega);rw[<-ev]at R3;refine⟨P0.length,Ydx,_,P0,ZaI,(fr.trans fr2).trans fW.r,R3,?_⟩;rw[<-ec,nA Yao]
  ·have ep:p≠ .not:=λq=>by subst q;exact Bool.noConfusion (e2.symm.trans (Wa9 rfl))
   have ej:bA Ysx (P0++[p]) S'=(P0++[p],S'):=kO (by simpa using ep) _ _;refine k H' fr ?_;rw[<-ec,ej];exact R'
 ·have lp:Pm=[]:=by ext XgZ
  ext XgR
def Gs(A:bL)(K:Yaj):Sp:=λvs H Q _=>∃c len r S Pn n g a,∃ws:YeC,vs=[YhG,Ybc]/\eA K H a (ws.map nH)/\Pd.par∉ws/\Ybg/\ -8<=g/\
 ∀H',Yd8->cx A H' c len r (Yyi).2 (Yyi).1 n g->Ykb
def ZZ(R:Ybg)(fr:Yd8)(h:Yn9):eA K H' a xs:=by
 ext Xcz;obtain⟨hp,_,_⟩:=R.pend;obtain⟨pre,ss,C,_,_⟩:=R.ex;have go:∀o:HO,H a=YaB->(∀xs,o≠ .lst xs)->(∀x y z,o≠ .ins x y z)->H' a=YaB:=λo e n1 n2=>fr a o (bS e ho (n2 _ _ _)) (bS e C.qe (n1 _)) (bS e hp (n1 _)) e
 ext Xb8
 ·exact .inl (.inl (Yl6))
 ·exact .inl (.inr ⟨o,Yl6⟩)
 ·exact Yku
def E6(p:Pd)(ws:YeC):Ysh=decide (p∈ws):=by
 unfold tE;rw[Wa2,WbP,War];have key:∀q:Pd,Vz (nH q) (nH p)=true↔q=p:=λq=>by rw[<-SH];cases q<;>cases p<;>simp only[nH,eq_str,War,V.str.injEq]
 ext XaT
 ·ext XdH;obtain⟨q,hq,rfl⟩:=Yth;exact(key q).mp e▸hq
 ·intro h;exact⟨nH p,WaX h,(key p).mpr rfl⟩
def Np(ws:YeC):(ws.map nH).all A8=true:=by rw[Wbe];intro x hx;obtain⟨q,_,rfl⟩:=Yth;cases q<;>rfl
def dM(T:Yas):a6 P w K mg base cN 1 A.ir A.iy Yra (Gs A K):=by
 refine T.xZ.ok kZ Ycu Yab;obtain⟨c,len,r,S,Pn,n,g,a,ws,rfl,ha,hws,R,hg,k⟩:=h;have nd:=kZ.nd;refine⟨_,(aj (jK WaM (PW.pt (yE Yta (tm (aC fB (aU a5 Yak YlR Yal) YaG YaO)))) (aj YiJ))),?_⟩;refine⟨λm σ H'=>∃(S':List fY)(Pm:List Pd),m=Yxa/\σ=[Yyb,Yfd]/\Yd8/\cx A H' c len r S' Pm n g/\bA ws Pm S'=Yyi,⟨_,S,Pn,Zck,rfl⟩,?_⟩;ext Xct;refine YmP
 ·have lp:0<Yxa:=by have:=Waf e1;rw[Waa]at this;omega
  obtain⟨P0,p,rfl⟩:=Sw lp;refine⟨ZbW,ZcA,.inr (ZZ R fr ha),(by cases p<;>rfl),Np ws,Zaa,Ybu⟩
  ·have ep:p∈ws:=by have q:Ysh=true:=e2;rw[E6]at q;exact Waf q
   have np:p≠ .par:=λq=>hws (q▸ep);obtain⟨h1,h2,h3,ss0,h4,h5⟩:=R'.shift hg np;ext XcX;refine⟨P0.length,Ydx,_,P0,ZaI,fr.trans fr2,R2,?_⟩;rw[<-ec,nA ep]
  ·have ep:p∉ws:=λq=>by have q2:Ysh=false:=e2;rw[E6,Wa9 q]at q2;cases q2
   have ej:bA ws (P0++[p]) S'=(P0++[p],S'):=kO ep _ _;refine k H' fr ?_;rw[<-ec,ej];exact R'
 ·have lp:Pm=[]:=by ext XgZ
  ext XgR
end
section
open Vbnlad (Raw Frame parse)
def ZE(ws:YeC)(h:∀p∈ws,p=.and∨p=.or):∀(R:List Pd)(S:List fY),a9 (wY ws R S).1=a9 R
 |[],S=>rfl
 |p::r,S=>by
  unfold wY;split
  ·rename_i hp;rw[ZE ws h r];rcases h p hp with rfl|rfl<;>simp[a9]
  ·rfl
def DN(l:YeC):a9 l.reverse=a9 l:=by unfold a9;rw[List.filter_reverse,Wcm]
def Xc(ws:YeC)(h:∀p∈ws,p=.and∨p=.or)(Pn:YeC)(S:Ymd):a9 (Yyi).1=a9 Pn:=by unfold bA;rw[DN,ZE ws h,DN]
def Ex(A:bL):Sp:=λvs H Q _=>∃c len p r S Pn g,∃(P1 P2:List Pd)(S1 S2:List fY),vs=[YhG]/\cx A H c len YAk S Pn YCF g/\ -6<=g/\YqU=(P1++[.par],S1)/\bA Ysx P1 S1=(P2,S2)/\
 ∀H',Yd8->cx A H' c len r S2 P2 (a9 P2) g->Ykb
theorem vv(T:Yas):a6 P w K mg base cN 2 A.gJ A.gL Ycy (Ex A):=by
 refine T.xn.ok kK YjZ Yab;obtain⟨c,len,p,r,S,Pn,g,P1,P2,S1,S2,rfl,R,hg,e1,e2,k⟩:=h;have nd:=kK.nd;ext Xcz
 refine⟨_,(af Yfm
   (af (bp (oM PySem.F.plainAttrs_list PySem.F.slot_list_pop PySem.F.type_list_pop rG Yak))
   (af (eB Yau aq Ta)
   (af YgL
   (aj YoT))))),?_⟩
 ext XfZ;refine⟨c,len,p::r,S,Pn,a9 Pn,g,t,YfA,Za2⟩;have ed:=Xc YfA Yao Pn S;rw[e1]at R1 ed;dsimp only at R1 ed;ext XcL;obtain⟨hp1,_,_⟩:=R1.pend;refine⟨ZcF,c.pl,ZaD,hp1,Yfz,?_⟩;have R2:cx A _ c len YAk S1 P1 YCF (g+1):=R1.Io P1 YdZ Yad;rw[show((P1++[Pd.par]).map nH).dropLast=P1.map nH by simp];ext XcK;refine Yqb;have R3:=R2.nest (a9 P1) ho2;have ev:((a9 Pn:Nat):Int)-1=((a9 P1:Nat):Int):=by rw[<-ed,mW];simp
 rw[<-ev]at R3;obtain⟨i3,ho3,mv3⟩:=R3.obj;refine⟨ZaJ,ho3,Zbw,ho3,Zad⟩;have R4:=mv3 p r rfl;obtain⟨i4,ho4,_⟩:=R4.obj;refine⟨ZaK,ho4,ZaY,r,S1,P1,Zaa,R4,YaP,YAR⟩;rw[e2]at R5;exact k H5 (((((Yi5).trans fr1).trans fW.p).trans fW.r).trans (fW.r.trans fr5)) (R5.weak Yad Yad)
def Kc(A:bL):Sp:=λvs H Q _=>∃c len r S Pn g,vs=[YhG]/\Ymj/\ -6<=g/\(ia r≠KA->ia r≠XS->Q YlO H)/\
 (∀p r' H',r=p::r'->ia r=KA->Yd8->cx A H' c len r' (Ypo).2 ((Ypo).1++YvB) YCF g->YiG)/\
 (∀p r' H',r=p::r'->ia r=XS->Yd8->cx A H' c len r' (YqU).2 ((YqU).1++[.or]) YCF g->YiG)
def kY(h:ia r=t)(ht:t≠[]):∃p r',r=p::r':=by
 cases r with
 |nil=>exact absurd h.symm ht
 |cons p r'=>exact⟨p,r',rfl⟩
def qL(hx:x=sx b)(e:decide (tx a=V.str x)=true):a=b:=by have q:=Waf e;rw[hx]at q;exact Mg.mp q
def nP(hx:x=sx b)(e:decide (tx a=V.str x)=false):a≠b:=by rintro rfl;rw[hx]at e;simp at e
theorem yQ(T:Yas):a6 P w K mg base cN 2 A.jA A.jF Ycy (Kc A):=by
 refine T.AQ.ok nU YaC Yab;obtain⟨c,len,r,S,Pn,g,rfl,R,hg,k0,k1,k2⟩:=h;have nd:=nU.nd;ext Xcz
 refine⟨_,(af YCy
   (af (aM YkM (aj (bp (dJ Yau T.aI T.dO (dM T) Yac T.eY .nil aD YzQ))) (aj (aM YkM (aj Yfm) (Yf2))))
   (af (bp (fI PySem.F.plainAttrs_list PySem.F.slot_list_append PySem.F.type_list_append bF Yak YeW))
   (af YgL
   (Yf2))))),?_⟩
 refine⟨ZbN,a9 Pn,g,rfl,R,?_⟩;refine YxK
 ·have ha:=qL Mp e1;obtain⟨p,r',er⟩:=kY ha YeP;refine⟨ZaK,ho,rfl,Yag,YbX⟩;have sm:=ak (o:=.tup [.str "and"]) Yay ht;refine⟨c,len,r,S,Pn,a9 Pn,g,t,YvB,Za2⟩;ext Xc1;have R2:cx A _ c len r _ ((Ypo).1++YvB) YCF (g-1):=R1.Io _ YdZ Yad;rw[show((Ypo).1++[Pd.and]).map nH=(Ypo).1.map nH++[tx YAl]by rw[List.map_append,ha,tx,<-Mp];rfl]at R2;ext XeA;exact k1 p r' _ er ha Yqh YAh
 ·have na:=nP Mp e1;refine cV ⟨Zaa,ZaF,Ybu⟩
  ·have ha:=qL Ss e2;obtain⟨p,r',er⟩:=kY ha YeP;ext XfZ;refine⟨c,len,r,S,Pn,a9 Pn,g,t,YfA,Za2⟩;ext Xc1;have R2:cx A _ c len r _ ((YqU).1++[.or]) YCF (g-1):=R1.Io _ YdZ Yad;rw[show((YqU).1++[Pd.or]).map nH=(YqU).1.map nH++[tx YAl]by rw[List.map_append,ha,tx,<-Ss];rfl]at R2;ext XeA;exact k2 p r' _ er ha Yqh YAh
  ·exact k0 na (nP Ss e2)
end
section
open Vbnlad (Raw parse)
def E5(hx:x=sx b1)(hy:y=sx b2):tE (tx a) [V.str x,V.str y]=decide (a=b1∨a=b2):=by
 subst hx;subst hy;unfold tE tx;simp only[WbL,Wc0,eq_str,Hv,WcA];rw[Wa2];simp only[Wb5,War];ext XaT
 ·rintro(h|h)
  ·exact YBF
  ·exact YBE
 ·rintro(h|h)
  ·exact YBF
  ·exact YBE
def Ab:("(":Str)=sx [40]:=by ext XaX
def HA:(")":Str)=sx [41]:=by ext XaX
def Oe:("":Str)=sx []:=by ext XaX
def Ih(ok:md r):Yi4=match ka r with
  |none=>.inl (Uw len (rq r))
  |some (lo,hi,r')=>parse len (f.unit Ym6::below) .have_ r':=by
 rw[TH];unfold ka rq;cases e:og 0 7 r with
 |none=>rfl
 |some lo=>
  dsimp only;cases r with
  |nil=>simp[og]at e
  |cons p r1=>
   simp only[WeJ];cases r1 with
   |nil=>have n1:ia ([]:Toks)≠NV:=(by simp[ia,NV]);simp only[n1,Wca]
   |cons p2 r2=>
    obtain⟨j,t⟩:=p2;have okt:tN t:=ok.tail.head;by_cases ht:conv t=NV
    ·have et:=(jj okt wTo).mp ht;subst et;have n1:ia ((j,Vbnlad.Tok.word NV)::r2)=NV:=rfl;simp only[n1,WeJ,WbG];cases og lo 7 r2<;>rfl
    ·have n1:ia ((j,t)::r2)≠NV:=ht;simp only[n1,Wca];cases t with
     |word w2=>have:w2≠NV:=ht;simp only[Wae this]
     |_=>rfl
def Wh{r r':Toks}{lo hi:Nat}(h:ka r=YAV):Ygi<=YcN:=by
 unfold ka at h;split at h
 ·cases h
 ·split at h
  ·split at h
   ·cases h
   ·ext Xdf
  ·ext Xdf
def Jn(h:jm t=true):isWord t/\t∉Vbnlad.RESERVED:=by unfold jm at h;simp only[WaJ,War,Wdy,Wbe]at h;refine⟨⟨λe=>by rw[e]at h;simp at h,h.1.2⟩,λq=>?_⟩;rw[<-WbB,h.2]at q;cases q
def F8(h:jm t=false):¬(isWord t/\t∉Vbnlad.RESERVED):=by
 rintro⟨h1,h2⟩;have:jm t=true:=by unfold jm;simp only[WaJ,War,Wdy,Wbe];refine⟨⟨Wdd.mpr h1.1,h1.2⟩,?_⟩;rw[<-Bool.not_eq_true,WbB];exact h2
 rw[h]at this;cases this
def Bv(A:bL):Sp:=λvs H Q _=>∃c len r S Pn n g,vs=[YhG]/\Ybg/\ -7<=g/\ia r≠zg/\ia r≠[40]/\
 (∀H' g' r',Yd8->cx A H' c len r' S Pn n g'->(∀(f:Vbnlad.Frame) below,Yfq=YzM)->Q YlO H')/\
 ∀(u:Raw) r' H',Yd8->cx A H' c len r' (S++cA u) Pn n g->(∀(f:Vbnlad.Frame) below,Yfq=parse len (YtU::below) .have_ r')->Ygi<YcN->YiG
theorem sL(T:Yas):a6 P w K mg base cN 4 A.fT A.fU Ycy (Bv A):=by
 refine T.u9.ok jl Yax Yab;obtain⟨c,len,r,S,Pn,n,g,rfl,R,hg,n1,n2,k0,k1⟩:=h;have nd:=jl.nd;ext Xcz
 refine⟨_,(af YCy
   (af (aM Yu3 (af YgL
   (aj (au (dJ Yau T.aI T.BU (BQ T) Yac T.Ef .nil aD YeW)))) az)
   (af (aM YkM (af YgL
   (aj (au (cW Yau T.aI T.yV (yP T) Yac T.AL .nil aD)))) az)
   (af (aM Yu3 (aj (bp (fI PySem.F.plainAttrs_list PySem.F.slot_list_append PySem.F.type_list_append bF Yak (aa (bG YeW) ah)))) (aj (aM (ck (ay (oO T) Yac rfl T.rL T.mi.kp T.sC .nil aD YeW)) (aj (bp (fI PySem.F.plainAttrs_list PySem.F.slot_list_append PySem.F.type_list_append bF Yak (aa (bG (aa aW YeW)) ah)))) (Yf2))))
   (af YgL
   (Yf2)))))),?_⟩
 refine⟨ZbN,n,g,rfl,R,?_⟩;refine⟨Zaa,Yap,Yxu⟩;all_goals have sm:=ak (o:=.tup Yc6) Yay ht
 all_goals have R1:=R.same sm
 all_goals obtain⟨i1,ho1,mv1⟩:=R1.obj
 ·have e2:YCc=true:=(E5 G9 Ac).symm.trans e1;have e3:=YgT;obtain⟨b,eb⟩:∃b:Bool,ia r=if b=true then p7 else gG:=by
   ext XdL
   ·exact⟨true,e3⟩
   ·exact⟨false,e3⟩
  ext XeX;have etk:tk=.word Yir:=(jj R.ok.head (by cases b;exact X0;exact abd)).mp eb;ext Xd9;refine⟨ZaK,ho2,ZaF,c,len,r',S,Pn,n,g+1,b,?_,R2,YaP,λe=>?_,λm H' e fr R3=>?_⟩
  ·show[V.ref c.r,tx Yir]=_;cases b<;>simp only[tx,Bool.false_eq_true,if_false,if_true,<-G9,<-Ac]
  ·exact k0 _ _ r' ((Yi5).trans fW.r) R2 λf below=>by rw[N6,e]
  ·refine k1 Yig r'.tail H' Ymo ?_ (λf below=>by rw[N6,e]) YdZ;have ep:cA Yig=[if b=true then .since m else .before m]:=(by cases b<;>rfl);rw[ep];exact R3.weak Yad Yad
 ·have e2:YCc=false:=(E5 G9 Ac).symm.trans e1;have n3:¬(ia r=p7∨ia r=gG):=Ygu;refine bx (ba (cV YxK))
  ·have e3:=qL Mo e1;obtain⟨⟨j,tk⟩,r',rfl⟩:=kY e3 YeP;have etk:tk=.word A7:=(jj R.ok.head abb).mp e3;ext Xd9;refine⟨ZaK,ho2,ZaY,r',S,Pn,n,g+1,rfl,R2,YaP,λH' g' e fr R3=>?_,λlo hi r'' H' e fr R3=>?_⟩
   ·exact k0 H' g' _ Ymo R3 λf below=>by rw[Ih R.ok.tail,e]
   ·exact k1 Ym6 r'' H' Ymo (R3.weak Yad Yad) (λf below=>by rw[Ih R.ok.tail,e]) (by have:=Wh e;simp;omega)
  ·have n4:=nP Mo e1;refine bx (ba (cV ⟨Zaa,Yap,λt2 ht2=>⟨t2,Zaa,Zaq,Zaa,Ybi⟩⟩));all_goals have sm2:=ak (o:=.tup [.str "true",.str "false"]) sm ht2
   all_goals have R2:=R.same sm2
   all_goals obtain⟨i2,ho2,mv2⟩:=R2.obj
   all_goals obtain⟨ss0,hs0,_,_⟩:=R2.step Yad
   ·have e2:YCd=true:=(E5 G8 CS).symm.trans e1;have e3:=YgT;obtain⟨b,eb⟩:∃b:Bool,ia r=if b=true then oo else jw:=by
     ext XdL
     ·exact⟨true,e3⟩
     ·exact⟨false,e3⟩
    ext XeX;have etk:tk=.word YAw:=(jj R.ok.head (by cases b;exact ZL;exact aba)).mp eb;subst etk;refine⟨ZaJ,ho2,Zat,Zbq,λt3 ht3=>?_⟩;have sm3:=ak (o:=.tup [tx YAw]) sm2 ht3;ext Xdr;have R4:=hst t3 Ymm (by unfold dY;rw[ab];cases b<;>simp only[tx,Bool.false_eq_true,if_false,if_true,<-G8,<-CS,AS]);ext XfB;refine Yo5;refine k1 Ymm r' _ Yse ?_ (λf below=>by cases b;exact QA;exact TF) Yao;have ep:cA Ymm=[if b=true then .tt else .ff]:=(by cases b<;>rfl);rw[ep];exact(mv4 _ r' rfl).weak Yad Yad
   ·have e2:YCd=false:=(E5 G8 CS).symm.trans e1;have n5:¬(ia r=oo∨ia r=jw):=Ygu;refine cV ⟨Zaa,ia r,rfl,Q3 R.ok,Zaa,Ybi⟩
    ·have e3:jm YAl=true:=e1;obtain⟨hw,hr2⟩:=Jn e3;obtain⟨⟨j,tk⟩,r',rfl⟩:=kY (t:=ia r) rfl hw.1;obtain⟨wd,rfl⟩:=(F5 R.ok.head).mp hw;refine⟨ZaJ,ho2,Zat,Zaa,Yap,λt3 ht3=>?_⟩;have sm3:=ak (o:=.tup [.str "flag",tx wd]) sm2 ht3;ext Xdr;have R4:=hst t3 (.flag wd) YCY;ext XfB;refine Yo5;exact k1 (.flag j wd) r' _ Yse ((mv4 _ r' rfl).weak Yad Yad) (λf below=>TK hr2) Yao
    ·have e3:jm YAl=false:=e1;exact k0 _ _ r (fW.same sm2) R2 λf below=>TJ R.ok n1 n2 (λq=>n3 (.inl q)) (λq=>n3 (.inr q)) n4 (λq=>n5 (.inl q)) (λq=>n5 (.inr q)) (F8 e3)
end
section
open Vbnlad (Raw parse)
def PJ(ws:YeC):∀(R:List Pd)(S:List fY),a9 (wY ws R S).1<=a9 R
 |[],S=>Wau _
 |p::r,S=>by
  unfold wY;split
  ·refine WaF (PJ ws r _) ?_;rw[<-WbU,lQ];omega
  ·exact Wau _
def Jw(ws:YeC)(Pn:YeC)(S:Ymd):a9 (Yyi).1<=a9 Pn:=by unfold bA;rw[DN];exact WaF (PJ ws _ _) (by rw[DN];exact Wau _)
def Mu(A:bL):Sp:=λvs H Q _=>∃c len r S Pn g,∃(f:Vbnlad.Frame)(below:List Vbnlad.Frame),vs=[YhG]/\Ymj/\ -6<=g/\GZ Ya6 Pn S/\a9 Pn<=40/\
 (∀H' r' S' P' n' g',Yd8->Yz2->Yfq=YzM->Q YlO H')/\
 (∀H' r' S' P' f' below',Yd8->YwK->Have Ykg P' S'->Yfq=parse len Ykg .have_ r'->Ygi<YcN->a9 P'<=40->YiG)
theorem AE(T:Yas):a6 P w K mg base cN 5 A.km A.kD Ycy (Mu A):=by
 refine T.CD.ok pZ YaZ Yab;obtain⟨c,len,r,S,Pn,g,f,below,rfl,R,hg,hW,hd,k0,k1⟩:=h;have nd:=pZ.nd
 refine⟨_,(af (jK PassesOwn.never (aC fB YeU Yb1 YaO) (af (aM (aC bY Yak (cy rfl T.DK) Ybo) (Yf2) az)
   (af (bp (fI PySem.F.plainAttrs_list PySem.F.slot_list_append PySem.F.type_list_append bF Yak (aa YeU ah)))
   (af YgL
   (aj YgL)))))
   (af (aM (eR (ck (cW Yau T.aI T.sM (sL T) Yac T.u7 .nil aD))) (Yf2) az)
   (af YoT
   (Yf2)))),?_⟩
 refine⟨λm σ H'=>∃(r':Toks)(S':List fY)(P':List Pd)(f':Vbnlad.Frame)(below':List Vbnlad.Frame),m=Ygi/\σ=[Yyb]/\Yd8/\YwK/\GZ Ykg P' S'/\Yfq=parse len Ykg .want r'/\Ygi<=YcN/\a9 P'<=40,
  ⟨_,r,S,Pn,f,below,Zck,hW,rfl,YcH,hd⟩,?_⟩
 rintro m σ H1 ⟨r1,S1,P1,f1,b1,rfl,rfl,fr1,R1,W1,ep1,hl1,hd1⟩;ext XcL;refine⟨ZaK,ho1,ZaY,r1,Zc0,R1,Yap,Yxu⟩;all_goals have sm:=ak (o:=.tup [.str "not",.str "("]) Ydd ht
 all_goals have R2:=R1.same sm
 all_goals have fr2:=fr1.trans (fW.same (c:=c) sm)
 all_goals obtain⟨i2,ho2,mv2⟩:=R2.obj
 ·have e2:Yyx=true:=(E5 Hz Ab).symm.trans e1;have e3:=YgT;obtain⟨p,hp1,hp2,hp3⟩:∃p:Pd,tx (ia r1)=nH p/\p≠ .and/\p≠ .or:=by
   ext XdL
   ·exact⟨.not,by rw[e3,tx,<-Hz];rfl,YaT,YaT⟩
   ·exact⟨.par,by rw[e3,tx,<-Ab];rfl,YaT,YaT⟩
  obtain⟨⟨j,tk⟩,r',rfl⟩:∃p r',r1=p::r':=by
   ext XdL
   ·exact kY e3 YeP
   ·exact kY e3 YeP
  have wd:=Tz W1;refine⟨Zbb,ZaJ,ho2,T.aI,T.gh,rfl,ZaF,Yg4⟩
  ·have e5:V.int ((a9 P1:Nat):Int)=V.int 40:=of_decide_eq_true e4;have e6:a9 P1=40:=(by injection e5 with e5;omega);refine k0 _ _ _ _ _ _ fr2 R2 (ep1.trans ?_);ext XdL
   ·ext Xfa;exact JO Yad
   ·ext XfW;exact GS Yad
  ·have e5:¬(V.int ((a9 P1:Nat):Int)=V.int 40):=of_decide_eq_false e4;have e6:a9 P1<40:=by refine Nat.lt_of_le_of_ne hd1 (λq=>e5 ?_);rw[q];rfl
   obtain⟨hp,hl,_⟩:=R2.pend;refine bx (ba ⟨ZaJ,ho2,ZaS,.inl ⟨Zcw,aV.of hp⟩,ZaK,ho2,ZaY,_,Zc0,R2,c.pl,ZaD,hp,hl,?_⟩);have R3:cx A _ c len _ S1 YB4 (a9 P1) (g-1):=R2.Io YB4 YdZ Yad;rw[show(P1++[p]).map nH=P1.map nH++[tx (ia ((j,tk)::r'))]by rw[List.map_append,hp1];rfl]at R3;ext Xb9;refine⟨ZaJ,ho3,T.aI,T.gh,rfl,ZaD,_,_,ho3,Zad⟩;have ed:a9 YB4=a9 P1+1:=by
    rw[mW];cases p with
    |not=>rfl
    |par=>rfl
    |and=>exact absurd rfl hp2
    |or=>exact absurd rfl hp3
   have R4:=R3.nest (a9 YB4) ho3;have ev:((a9 YB4:Nat):Int)=((a9 P1:Nat):Int)+1:=(by rw[ed];omega);rw[ev]at R4;ext XfB;rw[ev]at ho4 mv4;refine Yo5;have R5:=mv4 _ r' rfl;ext XdL
   ·ext Xfa;have epp:p=.not:=(by rw[e3,tx,<-Hz]at hp1;exact((SH .not p).mp hp1).symm);subst epp;exact⟨Ygi,Ydx,r',S1,P1++[Pd.not],{f1 with nots:=f1.nots+1},b1,ZbL,VM W1,ep1.trans (Vm Yad),by simp at hl1;omega,YaP⟩
   ·ext XfW;have epp:p=.par:=(by rw[e3,tx,<-Ab]at hp1;exact((SH .par p).mp hp1).symm);subst epp;exact⟨Ygi,Ydx,r',S1,P1++[Pd.par],{},f1::b1,ZbL,Tx W1,ep1.trans (R7 Yad),by simp at hl1;omega,YaP⟩
 ·have e2:Yyx=false:=(E5 Hz Ab).symm.trans e1;have e3:=Ygu;refine⟨ZaK,ho2,ZaY,r1,Zc0,R2,YaP,λq=>e3 (.inl q),λq=>e3 (.inr q),λH' g' r' fr R3 ep=>?_,λu r' H' fr R3 ep hl=>?_⟩
  ·exact⟨Zaa,k0 _ _ _ _ _ _ (fr2.trans fr) R3 (ep1.trans (ep _ _))⟩
  ·ext Xb9;refine Yfg;refine⟨ZaK,ho3,ZaY,r',_,P1,g,rfl,R3,YaP,λH4 fr4 R4=>?_⟩;obtain⟨P5,S5,e5,h5⟩:=Lg W1 u;rw[e5]at R4;refine k1 H4 r' S5 P5 _ _ ((fr2.trans fr).trans fr4) R4 h5 (ep1.trans (ep _ _)) Yad ?_;have:=Jw Ysx P1 (S1++cA u);rw[e5]at this;exact Nat.le_trans this hd1
def Yp(ok:md r)(h:ia r=[]):r=[]:=by
 cases r with
 |nil=>rfl
 |cons p r=>exact absurd h (Y4 ok.head)
def CT(A:bL):Sp:=λvs H Q _=>∃c len r,vs=[YhG]/\cx A H c len r [] [] 0 0/\
 (∀H' r' S' P' n' g',Yd8->Yz2->Ylh=YzM->Q YlO H')/\
 (∀H' cd n' g',Yd8->cx A H' c len [] (cA cd) [] n' g'->Ylh=.inr cd->YiG)
theorem uv(T:Yas):a6 P w K mg base cN 6 A.gn A.gq Ycy (CT A):=by
 refine T.vV.ok jI Ybh Yab;obtain⟨c,len,r,rfl,R,k0,k1⟩:=h;have nd:=jI.nd
 refine⟨_,(af (jK PassesOwn.never (ck (cW Yau T.aI T.AF (AE T) Yac T.Cz .nil aD)) (af (jK PassesOwn.never (PW.pt (yE Ywl (tm (aC fB aW Yak YaO)))) (aj (bp (cW Yau T.aI T.vz (vv T) Yac T.w9 .nil aD))))
   (af (aM (PW.pt (yE Ywl (tm (aC lE aW Yak YaO)))) (af Yfm
   (Yf2)) az)
   (aj (aM (eR (ck (cW Yau T.aI T.yW (yQ T) Yac T.AM .nil aD))) (Yf2) az)))))
   (Yf2)),?_⟩
 refine⟨λm σ H'=>∃(r':Toks)(S':List fY)(P':List Pd)(f':Vbnlad.Frame)(below':List Vbnlad.Frame),m=Ygi/\σ=[Yyb]/\Yd8/\YwL/\GZ Ykg P' S'/\Ylh=parse len Ykg .want r'/\a9 P'<=40,
  ⟨_,r,[],[],{},[],Zck,Ytb,rfl,YaT⟩,?_⟩
 rintro m σ H1 ⟨r1,S1,P1,f1,b1,rfl,rfl,fr1,R1,W1,ep1,hd1⟩;ext XcL;refine⟨ZaK,ho1,ZaY,r1,S1,P1,0,f1,b1,rfl,R1,YaT,W1,hd1,λH2 r2 S2 P2 n2 g2 fr2 R2 ep2=>?_,λH2 r2 S2 P2 f2 b2 fr2 R2 Hv2 ep2 hl2 hd2=>?_⟩
 ·exact⟨Zaa,k0 H2 r2 S2 P2 n2 g2 (fr1.trans fr2) R2 (ep1.trans ep2)⟩
 refine Yfg;refine YyN
 refine⟨λm σ H'=>∃(r':Toks)(S':List fY)(P':List Pd)(f':Vbnlad.Frame)(below':List Vbnlad.Frame),m=Ygi/\σ=[Yyb]/\Yd8/\YwL/\Have Ykg P' S'/\Ylh=parse len Ykg .have_ r'/\a9 P'<=40/\Ygi<r1.length,
  ⟨_,r2,S2,P2,f2,b2,ZaI,fr1.trans fr2,R2,Hv2,ep1.trans ep2,hd2,hl2⟩,?_⟩
 rintro m σ H3 ⟨r3,S3,P3,f3,b3,rfl,rfl,fr3,R3,Hv3,ep3,hd3,hl3⟩;ext Xb9;obtain⟨hp3,_,_⟩:=R3.pend;have hpar:=WZ Hv3;refine⟨Zcx,bC (λe4=>⟨Zb8,bC (λe5=>?A) (λe5=>?B)⟩) (λe4=>?C)⟩
 case A=>
  have e6:=qL HA e4;have e7:YDK=true:=e5;rw[E6]at e7;have e8:=hpar.mp (of_decide_eq_true e7);obtain⟨⟨j,tk⟩,r',rfl⟩:=kY e6 YeP;have etk:tk=.close:=(RR R3.ok.head).mp e6;subst etk;cases b3 with
  |nil=>simp at e8
  |cons g3 rest=>obtain⟨cd,P4,S4,P5,S5,w4,c4,c5,Hv5⟩:=RH Hv3;refine YyN;refine⟨ZaK,ho3,ZaY,_,r',S3,P3,0,P4,P5,S4,S5,rfl,R3,YaT,c4,c5,YAR⟩;refine⟨Ygi,Ydx,r',S5,P5,ZaD,fr3.trans fr5,R5,Hv5,ep3.trans (E7 w4),?_,Ytz⟩;have q1:=Jw YfA P3 S3;have q2:=Jw Ysx P4 S4;rw[c4,mW]at q1;rw[c5]at q2;dsimp only at q1 q2;omega
 case' B=>
  have hno:ia r3=[41]->b3=[]:=λ_=>by
   have e7:YDK=false:=e5;rw[E6]at e7;have e8:=of_decide_eq_false e7;cases b3 with
   |nil=>rfl
   |cons g3 rest=>exact absurd (hpar.mpr Yao) e8
 case' C=>have hno:ia r3=[41]->b3=[]:=λq=>absurd q (nP HA e4)
 all_goals
  refine bx (ba (cV ⟨Zcx,bC (λe6=>⟨Zb8,YDW⟩) Yyq⟩))
  ·skip
   have e8:=Yp R3.ok (qL Oe e6);subst e8;have e9:YAx=true:=e7;rw[E6]at e9;have e10:Pd.par∉P3:=(by simpa using e9);cases b3 with
   |cons g3 rest=>exact absurd (hpar.mpr Yao) e10
   |nil=>obtain⟨cd,w4,c4⟩:=E8 Hv3;refine⟨ZaK,ho3,ZaX⟩;have sm:=ak (o:=Ybx) (YoV) ht;refine⟨c,len,[],S3,P3,a9 P3,0,t,YfA,rfl,YhD,YaT,R3.same sm,YaT,YAR⟩;rw[c4]at R5;exact k1 H5 cd _ _ (fr3.trans ((Yi5).trans fr5)) R5 (ep3.trans (Je w4))
  all_goals
   have hn:ia r3=[]->b3≠[]:=by
    first
    |exact λq=>absurd q (nP Oe e6)
    |(intro _ eb
      have e9:YAx=false:=e7;rw[E6]at e9;have e10:Pd.par∈P3:=(by simpa using e9);have:=hpar.mp e10;rw[eb]at this
      simp at this)
   refine bx (cV ⟨ZaK,ho3,ZaY,r3,S3,P3,0,rfl,R3,YaT,λna no=>?_,YCK,YCK⟩)
   ·exact⟨Zaa,k0 H3 r3 S3 P3 _ _ fr3 R3 (ep3.trans (UX R3.ok na no hno hn))⟩
   ·subst er;obtain⟨j,tk⟩:=p;have etk:tk=.word KA:=(jj R3.ok.head aco).mp ha;subst etk;obtain⟨P4,S4,c4,W4⟩:=VN Hv3;have ed:=Xc YvB Yao P3 S3;rw[c4]at R' ed;have ed2:a9 (P4++[Pd.and])=a9 P3:=(by rw[mW];exact ed);dsimp only at R';rw[<-ed2]at R';exact⟨Zaa,Ygi,Ytz,r',S4,P4++[Pd.and],ZaD,fr3.trans fr,R',W4,ep3.trans Jf,YaP⟩
   ·subst er;obtain⟨j,tk⟩:=p;have etk:tk=.word XS:=(jj R3.ok.head wOr).mp ha;subst etk;obtain⟨P4,S4,c4,W4⟩:=XZ Hv3;have ed:=Xc YfA Yao P3 S3;rw[c4]at R' ed;have ed2:a9 (P4++[Pd.or])=a9 P3:=(by rw[mW];exact ed);dsimp only at R';rw[<-ed2]at R';exact⟨Zaa,Ygi,Ytz,r',S4,P4++[Pd.or],ZaD,fr3.trans fr,R',W4,ep3.trans KC,YaP⟩
end
section
open Vbnlad (Raw lit decimal)
def kS(s:String):(s:Str)=sx (lit s):=Str.ofString_eq_toList s
def oz(d:Nat):((toString (d:Int):String):Str)=sx (Yoo):=by rw[kS];rfl
def Bd:fY->Prop
 |.flag w=>YhC<=12
 |.since d=>d<=1000000
 |.before d=>d<=1000000
 |.rank a b=>a<=7/\b<=7
 |_=>True
theorem kI:∀(c:Raw),kP c->NO c->∀x∈cA c,Bd x
 |.tt,_,_,x,hx=>by ext Xb7;trivial
 |.ff,_,_,x,hx=>by ext Xb7;trivial
 |.flag i w,_,hs,x,hx=>by ext Xb7;exact hs (i,w) YwB
 |.since d,h,_,x,hx=>by ext Xb7;exact h
 |.before d,h,_,x,hx=>by ext Xb7;exact h
 |.rank a b,h,_,x,hx=>by ext Xb7;have h1:=h.1;have h2:=h.2;exact⟨YaP,YaP⟩
 |.not a,h,hs,x,hx=>by
   rw[cA,List.mem_append,List.mem_singleton]at hx;rcases hx with hx|rfl
   ·exact kI a h hs x hx
   ·trivial
 |.and a b,h,hs,x,hx=>by
   ext XcP
   ·exact Yla
   ·exact Yk9
   ·trivial
 |.or a b,h,hs,x,hx=>by
   ext XcP
   ·exact Yla
   ·exact Yk9
   ·trivial
def total(st:Yuf):Nat:=(st.map λp=>Ykl).sum
def plain_len(h:Bd x):(plainS x).length<=30:=by
 cases x with
 |flag w=>have:YhC<=12:=h;show YhC<=30;omega
 |since d=>have:=df h;show(YqT++Yoo).length<=30;rw[Wad];have e:(YqT).length=5:=by decide
           omega
 |before d=>have:=df h;show(Ym0++Yoo).length<=30;rw[Wad];have e:(Ym0).length=7:=by decide
            omega
 |rank a b=>ext Xdp;ext Xd0;show(if a=b then _ else _:Yaw).length<=30;ext Xfw
 |_=>simp[plainS,lit]
def sR(p:Kd×Yaw):(iA p).length<=Ykl+2:=by unfold iA;split<;>simp
def sS(p:Kd×Yaw):(fZ p).length<=Ykl+2:=by unfold fZ;split<;>simp
def TC{st:Yuf}{x:fY}(h:Bd x):total (gb st x)<=total st+30:=by
 have hp:=plain_len h;cases x with
 |not=>
  cases st with
  |nil=>simp[gb]
  |cons p r=>have:=sR p;have e:(Yyg).length=4:=YeP;ext Xec
 |and=>
  match st with
  |[]=>simp[gb]
  |[p]=>simp[gb]
  |q::p::r=>have:=sR q;have:=sS p;have e:(Yn7).length=5:=YeP;ext Xec
 |or=>
  match st with
  |[]=>simp[gb]
  |[p]=>simp[gb]
  |q::p::r=>have:=sS q;have e:(Yp3).length=4:=YeP;ext Xec
 |_=>simp only[gb,total,Waw,Wcl];omega
def Lc:∀(l:List fY)(st:List (Kd×List Nat)),(∀x∈l,Bd x)->total (l.foldl gb st)<=total st+30*l.length
 |[],st,_=>by simp
 |x::l,st,h=>by have h1:=TC (st:=st) (h x Ycq);have h2:=Lc l (gb st x) λy hy=>h y Yp5;rw[WaZ,Was];omega
def kdOf(k:Str):Kd:=if k="and" then .and else if k="or" then .or else .other
def dg(A:bL)(H:Hp)(a:Addr)(p:Kd×Yaw):Prop:=∃dx k,H a=some (.ins A.CF dx [("kind",.str k),("signs",tx p.2)])/\kdOf k=p.1
def dg.same(s:Ya1)(h:dg A H a p):dg A H' a p:=by obtain⟨dx,k,e,q⟩:=h;exact⟨dx,k,s _ _ e,q⟩
def M0(T:Yas):a6 P w K mg base cN 1 A.zy A.zI YkC (v8 A.CF YAv λargs=>[("kind",YiF),("signs",YiE)]):=by
 refine T.Qs.ok MJ YjC Yab;ext Xgp
 refine⟨_,(af Yfw
   (aj Ygq)),?_⟩
 refine⟨ZbO,T.Cs,T.FY,Zaj⟩;refine⟨Zbm,T.Cs,T.lG,Zai⟩;exact k _ (YgE) λb hb=>by rw[aA hb,aA hb]
def brs(two:Bool):YcT:=if two=true then[.str "and",.str "or"]else[.str "or"]
def z7(two:Bool)(p:Kd×Yaw):Yaw:=if two=true then iA p else fZ p
def WW(two:Bool)(k:Str):tE (.str k) (brs two)=if two=true then decide (kdOf k≠ .other)else decide (kdOf k=.or):=by
 have ne:("or":Str)≠"and":=Ya5;unfold tE brs kdOf;cases two
 ·simp only[Wbo,Wca,WbL,Wc0,eq_str,WcA];rw[Wa2];simp only[War];ext XaT
  ·rintro rfl;rw[Wae ne,Wap rfl]
  ·intro h;split at h
   ·cases h
   ·split at h
    ·rename_i q;exact q.symm
    ·cases h
 ·simp only[WbG,WbL,Wc0,eq_str,WcA];rw[Wa2];simp only[War,Wb5,ne_eq];ext XaT
  ·rintro(rfl|rfl)
   ·ext Xgm;decide
   ·rw[Wae ne,Wap rfl];decide
  ·intro h;split at h
   ·rename_i q;exact .inl q.symm
   ·split at h
    ·rename_i q;exact .inr q.symm
    ·exact absurd rfl h
def T7(A:bL)(K:Yaj):Sp:=λvs H Q _=>∃a p b two,vs=[Ybc,Yx6]/\dg A H a p/\eA K H b (brs two)/\Ykl<=1000000/\Q (tx (z7 two p)) H
def aY(h:n<=m)(hm:m<16777216):n<=sizeLine:=by rw[WcI];omega
def jT(T:Yas):a6 P w K mg base cN 1 A.rQ A.rZ YmK (T7 A K):=by
 refine T.ja.ok Gv Yat Yab;obtain⟨a,p,b,two,rfl,⟨dx,kd,hp,hk⟩,hb,hl,k⟩:=h
 refine⟨_,(af (aM (aC fB Yak YaG YaO) (aj (au (a7 cQ (a7 cQ aW Yak) aW))) az)
   (aj (au Yak))),?_⟩
 refine⟨Zce,hp,T.Cs,T.FY,ZaF,b,Zaa,.inr hb,rfl,by cases two<;>rfl,ZaH⟩
 ·have e1:tE (.str kd) (brs two)=true:=e;rw[WW]at e1;have ew:z7 two p=[40]++p.2++[41]:=by
   unfold z7 iA fZ;cases two
   ·have:kdOf kd=.or:=Ybe;ext XeU
   ·have:kdOf kd≠ .other:=Ybe;ext XeU
  rw[ew]at k;refine⟨Zce,hp,ZcO,ZaM,ZaM,?_⟩
  ·exact aY (m:=1000002) (by show 1+Ykl<=_;omega) YeP
  ·rw[Ab,gz];exact aY (m:=1000004) (by rw[hJ];show _+1<=_;rw[Wad];show 1+_+1<=_;omega) YeP
  ·rw[Ab,HA,gz,gz];exact k
 ·have e1:tE (.str kd) (brs two)=false:=e;rw[WW]at e1;have ew:z7 two p=p.2:=by
   unfold z7 iA fZ;cases two
   ·have:¬kdOf kd=.or:=Ybe;ext XeU
   ·have:kdOf kd=.other:=Ybe;ext XeU
  rw[ew]at k;exact⟨Zce,hp,ZcO,k⟩
end
section
open Vbnlad (Raw lit decimal)
def wd:fY->Str
 |.tt=>"true"
 |.ff=>"false"
 |.flag t=>"flag"
 |.since d=>"from"
 |.before d=>"before"
 |.rank a b=>"rank"
 |.not=>"not"
 |.and=>"and"
 |.or=>"or"
def rest:fY->List V
 |.flag t=>[tx t]
 |.since d=>[YeK]
 |.before d=>[YeK]
 |.rank a b=>[.int (a:Nat),.int (b:Nat)]
 |_=>[]
def VV(s:fY):AS s=.str (wd s)::rest s:=by cases s<;>rfl
def Xx(s:fY):Vp (AS s) 0=some (.str (wd s)):=tL (j:=0) rfl (by rw[VV];rfl)
def plainQ:fY->Bool
 |.not=>false
 |.and=>false
 |.or=>false
 |_=>true
def VY(A:bL):Sp:=λvs H Q _=>∃a s,vs=Yvz/\YAD/\Bd s/\plainQ s=true/\∀H',Ya1->Q (tx (plainS s)) H'
def DG{d:Nat}(h:d<=1000000):(d:Int).natAbs.log2<1920:=by
 rw[Wdl];have:d.log2<=(1000000:Nat).log2:=by
  by_cases h0:d=0
  ·subst h0;decide
  ·rw[Nat.le_log2 YeP];exact WaF (Nat.log2_self_le h0) h
 have:(1000000:Nat).log2=19:=Ya5;omega
def Mf(h:wd x="flag"):∃t,x=.flag t:=by
 cases x with
 |flag t=>exact Ygb
 |_=>ext XaE
def Me(h:wd x="from"):∃d,x=YAK:=by
 cases x with
 |since t=>exact Ygb
 |_=>ext XaE
def Eo(h:wd x="before"):∃d,x=Yxi:=by
 cases x with
 |before t=>exact Ygb
 |_=>ext XaE
def Sl(h:wd x="rank"):∃a b,x=.rank a b:=by
 cases x with
 |rank t u=>exact⟨t,u,rfl⟩
 |_=>ext XaE
def VH(h:wd x="not"):x=.not:=by
 cases x with
 |not=>rfl
 |_=>ext XaE
def VI(h:wd x="and"):x=.and:=by
 cases x with
 |and=>rfl
 |_=>ext XaE
def Zl(h:wd x="or"):x=.or:=by
 cases x with
 |or=>rfl
 |_=>ext XaE
def gR(e:YDV=true):x=y:=by have:=Waf e;injection this
def fu(e:YDV=false):x≠y:=λq=>by rw[q]at e;simp at e
def Am:tE (Yx5) [.str y,.str z]=decide (x=y∨x=z):=by
 unfold tE;simp only[WbL,Wc0,eq_str,WcA];rw[Wa2];simp only[Wb5,War];ext XaT
 ·rintro(h|h)
  ·exact YBF
  ·exact YBE
 ·rintro(h|h)
  ·exact YBF
  ·exact YBE
def Ly(h:a<=7):(decimal a).length<=7:=df Yad
theorem IB(T:Yas):a6 P w K mg base cN 1 A.uF A.uP ["step"] (VY A):=by
 refine T.Bg.ok yf Ycp Yab;obtain⟨a,x,rfl,hx,ok,pl,k⟩:=h;have nd:=yf.nd
 refine⟨_,(af (aF (i:=1) nd rfl Yaf YeT)
   (af (aM YkM (aj (au YeT)) az)
   (af (aM Yu3 (aj (au (a7 cQ (a7 cQ YaG aW) Yjl))) az)
   (af (aM YkM (af (aM (aC bY YeT YeT Ybo) (aj (au (a7 cQ aW Yjl))) az)
   (aj (au (a7 cQ (a7 cQ (a7 cQ aW Yjl) aW) Yjl)))) az)
   (aj (au YaG)))))),?_⟩
 ext XeR;refine⟨Zcz,?_⟩;refine Yjc
 ·obtain⟨t,rfl⟩:=Mf YvD;exact⟨ZaN,ZaD,hq,rfl,k H Yay⟩
 have n1:=fu e;refine Yq7;all_goals have sm:=ak (o:=.tup Yc6) Yay ht
 all_goals have hx1:dY _ a x:=hx.same sm
 all_goals have hq1:eA K _ a (AS x):=eA.of hx1
 all_goals have k1:=k _ sm
 ·have e1:tE (.str (wd x)) Yc6=true:=e;rw[Am]at e1;ext XdX
  ·obtain⟨d,rfl⟩:=Me e2;have hd:d<=1000000:=ok;have hl:=df hd;refine⟨Zb5,(by show 4+1<=sizeLine;decide),ZbH,DG hd,ZaM,?_⟩
   ·rw[oz];exact aY (m:=100) (by show 5+(Yoo).length<=_;omega) YeP
   ·have ee:(wd (YAK))++(" ":Str)++((toString (d:Int):String):Str)=sx (plainS (YAK)):=by rw[show wd (YAK)++(" ":Str)=sx (YqT)by show("from":Str)++(" ":Str)=_;decide+kernel,oz,gz];rfl
    rw[ee];exact k1
  ·obtain⟨d,rfl⟩:=Eo e2;have hd:d<=1000000:=ok;have hl:=df hd;refine⟨Zb5,(by show 6+1<=sizeLine;decide),ZbH,DG hd,ZaM,?_⟩
   ·rw[oz];exact aY (m:=100) (by show 7+(Yoo).length<=_;omega) YeP
   ·have ee:(wd (Yxi))++(" ":Str)++((toString (d:Int):String):Str)=sx (plainS (Yxi)):=by rw[show wd (Yxi)++(" ":Str)=sx (Ym0)by show("before":Str)++(" ":Str)=_;decide+kernel,oz,gz];rfl
    rw[ee];exact k1
 have e1:tE (.str (wd x)) Yc6=false:=e;rw[Am]at e1;have n2:=Yc7;refine YzD
 ·obtain⟨lo,hi,rfl⟩:=Sl YvD;have h1:=Ly ok.1;have h2:=Ly ok.2;refine⟨ZbH,a,Zbv,hq1,rfl,ZbZ⟩
  ·have e2:V.int ((lo:Nat):Int)=V.int ((hi:Nat):Int):=YaQ;have e3:lo=hi:=YxD;refine⟨ZcQ,?_⟩
   ·rw[oz];exact Yl7
   ·have ee:("rank ":Str)++((toString (lo:Int):String):Str)=sx (plainS Ym6):=by rw[oz,kS,gz,plainS,if_pos e3]
    rw[ee];exact k1
  ·have e2:¬(V.int ((lo:Nat):Int)=V.int ((hi:Nat):Int)):=YaH;have e3:lo≠hi:=λq=>e2 (by rw[q]);refine bx ⟨ZcQ,ZaM,ZbH,DG (by have:=ok.2;omega),ZaM,?_⟩
   ·rw[oz];exact Yl7
   ·rw[oz,kS "rank ",gz];exact aY (m:=100) (by show(YqS++Ytu).length+4<=_;rw[List.length_append];show 5+_+4<=_;omega) YeP
   ·rw[oz,oz,kS "rank ",kS " to ",gz,gz];exact aY (m:=100) (by show(YqS++Ytu++lit " to ").length+(decimal hi).length<=_;rw[List.length_append,List.length_append];show 5+_+4+_<=_;omega) YeP
   ·have ee:("rank ":Str)++((toString (lo:Int):String):Str)++(" to ":Str)++((toString (hi:Int):String):Str)=sx (plainS Ym6):=by rw[oz,oz,kS "rank ",kS " to ",gz,gz,gz,plainS,if_neg e3]
    rw[ee];exact k1
 ·have n3:=fu e;refine bx Yfg;have ee:wd x=sx (plainS x):=by
   cases x with
   |tt=>exact kS _
   |ff=>exact kS _
   |flag t=>exact Yqz
   |since d=>exact absurd YwF n2
   |before d=>exact absurd YnL n2
   |rank a b=>exact absurd rfl n3
   |not=>cases pl
   |and=>cases pl
   |or=>cases pl
  rw[ee];exact k1
def Ug(A:bL):Sp:=λvs H Q _=>∃o a b p q,vs=[.str (if o=true then "or" else "and"),Ybc,Yx6]/\dg A H a p/\dg A H b q/\Ykl+q.2.length<=1000000/\
 ∀H',Ya1->Q (tx (if o=true then p.2++Yp3++fZ q else fZ p++Yn7++iA q)) H'
theorem GF(T:Yas):a6 P w K mg base cN 2 A.rR A.r9 YkD (Ug A):=by
 refine T.zW.ok Gw Yav Yab;obtain⟨o,a,b,p,q,rfl,ha,hb,hl,k⟩:=h
 refine⟨_,(af (aM (aC bY Yau aW Ybo) (aj (au (a7 cQ (a7 cQ (ay (jT T) Yac rfl T.lH T.ja.kp T.l9 .nil aD (aa YaG YzQ)) aW) (ay (jT T) Yac rfl T.lH T.ja.kp T.l9 .nil aD (aa YaS (aa Yb1 ah)))))) az)
   (aj (au (a7 cQ (a7 cQ Ye8 aW) (ay (jT T) Yac rfl T.lH T.ja.kp T.l9 .nil aD (aa YaS YzQ)))))),?_⟩
 have l1:=sS p;have l2:=sR q;have l3:=sS q;cases o with
 |false=>
  refine⟨Zaa,ZaF,bC Ymr (λe=>absurd rfl (fu e))⟩;refine⟨Zbq,YbX⟩;have sm:=Yxx;refine⟨a,p,t,false,rfl,ha.same sm,YhD,YaP,ZaM,Zaa,Yap,λt2 ht2=>?_⟩
  ·exact aY (m:=1000100) (by show(fZ p).length+5<=_;omega) YeP
  have sm2:=ak (o:=Ybx) sm ht2;refine⟨b,q,t2,true,rfl,hb.same sm2,YhD,YaP,ZaM,?_⟩
  ·rw[kS,gz];exact aY (m:=1000100) (by show(z7 false p++Yn7).length+(iA q).length<=_;rw[List.length_append];show(fZ p).length+5+_<=_;omega) YeP
  ·rw[kS,gz,gz];exact k _ sm2
 |true=>
  refine⟨Zaa,ZaF,bC (λe=>absurd YvD Ya5) Ymr⟩;obtain⟨dx,kd,ha1,_⟩:=ha;refine bx ⟨Zce,ha1,ZcO,ZaM,Zbq,YbX⟩
  ·exact aY (m:=1000100) (by show Ykl+4<=_;omega) YeP
  have sm:=Yxx;refine⟨b,q,t,false,rfl,hb.same sm,YhD,YaP,ZaM,?_⟩
  ·rw[kS,gz];exact aY (m:=1000100) (by show(p.2++Yp3).length+(fZ q).length<=_;rw[List.length_append];show _+4+_<=_;omega) YeP
  ·rw[kS,gz,gz];exact k _ sm
end
section
open Vbnlad (Raw lit decimal)
def need:fY->Nat
 |.not=>1
 |.and=>2
 |.or=>2
 |_=>0
def UZ:Nat->Ymd->Prop
 |_,[]=>True
 |n,x::l=>need x<=n/\UZ (n+1-need x) l
def vE:∀(c:Raw)(n:Nat)(l:List fY),UZ YCG l->UZ n (cA c++l)
 |.tt,n,l,h=>⟨WaL _,h⟩
 |.ff,n,l,h=>⟨WaL _,h⟩
 |.flag i w,n,l,h=>⟨WaL _,h⟩
 |.since d,n,l,h=>⟨WaL _,h⟩
 |.before d,n,l,h=>⟨WaL _,h⟩
 |.rank a b,n,l,h=>⟨WaL _,h⟩
 |.not a,n,l,h=>by rw[cA,WaP];exact vE a n _ ⟨Weq 1 n,h⟩
 |.and a b,n,l,h=>by ext XeK
 |.or a b,n,l,h=>by ext XeK
def Po(c:Raw):UZ 0 (cA c):=by have:=vE c 0 [] Wbp;rwa [WaQ]at this
def cq:∀{l:List α}{m:List β}{y:β},Paired F l (m++[y])->∃l' x,l=l'++[x]/\Paired F l' m/\F x y
 |_,[],y,.cons h .nil=>⟨[],Zaa,.nil,h⟩
 |_,z::m,y,.cons h t=>by obtain⟨l',x,e,p,q⟩:=cq (m:=m) t;exact⟨_::l',x,by rw[e];rfl,.cons h p,q⟩
def dg.upd(hl:H l=YdB)(h:dg A H a p):dg A (upd H l o) a p:=by obtain⟨dx,k,e,q⟩:=h;exact⟨dx,k,ai (bS e hl Yaq) e,q⟩
def QP(A:bL):Sp:=λvs H Q _=>∃a,∃(ss:List Addr)(S:List fY)(c:Raw),vs=Yvz/\H a=YfQ/\Ywd/\S=cA c/\(∀x∈S,Bd x)/\YAI<=5000/\
 ∀H',Ya1->Q (tx (YC7)) H'
def TV{st:Yuf}{p:Kd×Yaw}(h:p∈st):Ykl<=total st:=by
 unfold total;induction st with
 |nil=>cases h
 |cons q r ih=>
  rw[Waw,Wcl];ext XgK
  ·omega
  ·have:=ih h;omega
theorem vm(T:Yas):a6 P w K mg base cN 3 A.oV A.pw ["steps"] (QP A):=by
 refine T.pO.ok ve Yat Yab;obtain⟨a,ss,S,c,rfl,ha,hS,eS,ok,hl,k⟩:=h;have nd:=ve.nd
 refine⟨_,(af Yox
   (af (cO PassesOwn.never rfl Yrp (Ye6) (af (aF (i:=3) nd rfl Yaf (aU bQ YaS aq Yal))
   (af (aM (aC bY Yba aW Ybo) (aj (aF (i:=4) nd rfl Yaf (a7 cQ aW (ay (jT T) Yac rfl T.lH T.ja.kp T.l9 .nil aD (aa Ye5 (aa Yb1 ah)))))) (aj (aM (aC fB Yba Yb1 YaO) (af (aF (i:=5) nd rfl Yaf Ye5)
   (af (aF (i:=6) nd rfl Yaf Ye5)
   (aj (aF (i:=4) nd rfl Yaf (ay (GF T) Yac rfl T.IV T.zW.kp T.JP .nil aD (aa Yba (aa YeJ Yhx))))))) (aj (aF (i:=4) nd rfl Yaf (ay (IB T) Yac rfl T.Kw T.Bg.kp T.KN .nil aD YaM))))))
   (aj (bp (fI PySem.F.plainAttrs_list PySem.F.slot_list_append PySem.F.type_list_append bF YaG (aa (cH T.YQ (M0 T) Yac rfl T.aan T.Qh .nil aD (aa Yba Yfk)) ah)))))))
   (aj (au (aw YeQ rfl))))),?_⟩
 refine Yqv;have nD:a≠D:=ao ha hD;ext XbC;have hlen:ss.length=YAI:=hS.length;refine bZ (xs:=YcE) (λi σ H'=>∃(o2 o3 o4 o5 o6:Option V)(as:List Addr),σ=[Yfd,Ydn,o2,o3,o4,o5,o6]/\Ya1/\H' D=Yfp/\Paired (dg A H') as ((YAH).foldl gb []).reverse/\UZ ((YAH).foldl gb []).length (S.drop i)/\Yw6<=i)
  ⟨Za5,[],rfl,sm0,ab,.nil,by rw[eS];exact Po c,YcH⟩ ?_ ?_ ?_
 ·rintro i σ H' hi ⟨o2,o3,o4,o5,o6,as,rfl,sm,hd,hp,hg,las⟩;exact YlD
 ·rintro i x σ H1 hx ⟨o2,o3,o4,o5,o6,as,rfl,sm,hd,hp,hg,las⟩;ext XaG;have hi:i<YAI:=by ext Xak
  have hs:S[i]? =some S[i]:=Ya7;obtain⟨q',hq',hst⟩:=bV hS hs;ext Xaj;generalize S[i]=y at hs hst;have hst1:dY H1 q y:=hst.same sm;have hdr:S.drop i=y::S.drop YcG:=by ext Xcv
  have htk:(S.take YcG).foldl gb []=gb ((YAH).foldl gb []) y:=by rw[take_snoc hs,List.foldl_append];rfl
  have oky:Bd y:=ok y (Ydh);have tot:total ((YAH).foldl gb [])<=150000:=by have:=Lc (YAH) [] λx hx=>ok x (List.mem_of_mem_take hx);have l2:(YAH).length<=5000:=YxC;have z:total ([]:Yuf)=0:=rfl;omega
  ext XgS;generalize (S.take i).foldl gb []=st at hp hg1 hg2 tot;refine⟨Zbd,ZaD,Zcy,?_⟩;refine Yjc
  ·have ey:=VH YvD;subst ey;obtain⟨p,r,rfl⟩:∃p r,st=p::r:=by
    cases st with
    |nil=>exact absurd hg1 YeP
    |cons p r=>exact⟨p,r,rfl⟩
   rw[List.reverse_cons]at hp;obtain⟨as',x,rfl,hp1,hp2⟩:=cq hp;have ed:((as'++[x]).map V.ref).dropLast=as'.map V.ref:=Yao;refine⟨Zaa,Ycs,D,ZaD,hd,Yfz,Zcn⟩;rw[ed]at ht ⊢;have s1:aN H (upd H1 D (Ydq)):=Ylc;have s2:=ak (o:=Ybx) s1 ht;have hp3:Paired (dg A (upd (upd H1 D (Ydq)) t (Ybx))) as' r.reverse:=Paired.gE hp1 λ_ _ z=>(dg.upd hd z).same YBL;have hd3:=bM (o:=Ybx) ht (ab (H:=H1) (a:=D) (o:=Ydq));have lp:Ykl<=150000:=Nat.le_trans (TV YfH) tot;have lw:=sR p;refine⟨x,p,t,true,rfl,(dg.upd hd hp2).same YBL,YhD,YaP,ZaM,?_⟩
   ·exact aY (m:=1000000) (by show 4+(iA p).length<=_;omega) YeP
   rw[kS,gz];refine⟨Za7,ZaE,Yfa⟩;have s4:=made nz ndz k4;have hd4:=s4 _ _ hd3;refine Yjo;refine⟨ZbR,_,as'++[z],rfl,aS (s2.trans s4) hD,Ymk,?_,hg2,Yg3⟩;rw[show gb YAk fY.not=(Kd.other,Yyg++iA p)::r from rfl,List.reverse_cons];exact Paired.snoc (Paired.gE hp3 λ_ _ z=>(z.same s4).upd hd4) (dg.upd hd4 ⟨dz,_,h4,by show kdOf "not"=Kd.other;decide+kernel⟩)
  have n1:=fu e;refine cV Yjd;all_goals have s1:=ak (o:=Ybx) sm ht
  all_goals have s1':=ak (o:=Ybx) Ydd ht
  all_goals have hp1:=Paired.gE hp λ_ _ z=>dg.same s1' z
  all_goals have hd1:=s1' _ _ hd
  ·have e1:tE YwD Yrw=true:=e;rw[Am]at e1;obtain⟨o,rfl⟩:∃o:Bool,y=if o=true then .or else .and:=by
    ext XdX
    ·exact⟨false,VI e2⟩
    ·exact⟨true,Zl e2⟩
   obtain⟨q1,p1,r,rfl⟩:∃q1 p1 r,st=q1::p1::r:=by
    have hg3:2<=st.length:=(by cases o<;>exact hg1);match st,hg3 with
    |q1::p1::r,_=>exact YxI
   rw[List.reverse_cons,List.reverse_cons]at hp1;obtain⟨as1,x1,rfl,hp2,hx1⟩:=cq hp1;obtain⟨as',x2,rfl,hp3,hx2⟩:=cq hp2;have ed:((as'++[x2]++[x1]).map V.ref).dropLast=(as'++[x2]).map V.ref:=Yao;have ed2:((as'++[x2]).map V.ref).dropLast=as'.map V.ref:=Yao;refine⟨Zaa,.inl ⟨Zcw,aV.of hd1⟩,D,ZaD,hd1,Yfz,?_⟩;rw[ed];have hd2:=ab (H:=upd H1 t (Ybx)) (a:=D) (o:=YmU);refine⟨Zaa,Yed,D,ZaD,hd2,Yfz,?_⟩;rw[ed2];have s3:aN H (upd (upd (upd H1 t (Ybx)) D (YmU)) D (Ydq)):=aS (aS s1 hD) hD;have hp4:=Paired.gE hp3 λ_ _ z=>dg.upd (o:=Ydq) hd2 (dg.upd (o:=YmU) hd1 z);have lt2:p1.2.length+q1.2.length<=150000:=by have e0:total YBJ=q1.2.length+(p1.2.length+total r):=rfl;omega
   refine⟨Zbl,o,x2,x1,p1,q1,(by cases o<;>rfl),dg.upd hd2 (dg.upd hd1 hx2),dg.upd hd2 (dg.upd hd1 hx1),YaP,λH3 s4'=>?_⟩;have s4:=s3.trans s4';have hd3:=s4' _ _ (ab (a:=D));ext Xd4;refine Yjo;refine⟨ZbR,_,as'++[z],rfl,aS (YqQ) hD,Ymk,ZbG,Yg3⟩
   ·have ew:gb YBJ Yvx=(kdOf (wd Yvx),if o=true then p1.2++Yp3++fZ q1 else fZ p1++Yn7++iA q1)::r:=by
     cases o
     ·have:kdOf (wd fY.and)=.and:=Ya5;simp only[Bool.false_eq_true,if_false,this];rfl
     ·have:kdOf (wd fY.or)=.or:=Ya5;simp only[if_true,this];rfl
    rw[ew,List.reverse_cons];exact Paired.snoc (Paired.gE hp4 λ_ _ z=>dg.upd hd4 ((z.same s4').same s5)) (dg.upd hd4 ⟨dz,_,h4,rfl⟩)
   ·cases o<;>exact hg2
  ·have e1:tE YwD Yrw=false:=e;rw[Am]at e1;have n2:=Yc7;have py:plainQ y=true/\kdOf (wd y)=.other/\gb st y=(.other,plainS y)::st/\need y=0:=by
    cases y with
    |not=>exact Yqz
    |and=>exact absurd YwF n2
    |or=>exact absurd YnL n2
    |_=>exact⟨rfl,by simp only[wd];decide+kernel,ZaI⟩
   refine⟨Zaa,q,y,rfl,hst1.same s1',oky,py.1,λH3 s3'=>?_⟩;have s3:=s1.trans s3';have hd3:=s3' _ _ hd1;have hp3:=Paired.gE hp1 λ_ _ z=>dg.same s3' z;ext Xd4;refine⟨D,ZaD,hd4,Yjt,?_⟩;refine⟨ZbR,_,as++[z],rfl,aS (s3.trans s5) hD,Ymk,ZbG,Ym2⟩
   ·rw[py.2.2.1,List.reverse_cons];exact Paired.snoc (Paired.gE hp3 λ_ _ z=>dg.upd hd4 (z.same s5)) (dg.upd hd4 ⟨dz,_,h4,py.2.1⟩)
   ·rw[py.2.2.1];rw[py.2.2.2]at hg2;exact hg2
 ·rintro σ H1 ⟨o2,o3,o4,o5,o6,as,rfl,sm,hd,hp,hg,las⟩;rw[List.length_map,hlen,List.take_length,eS,qD]at hp;obtain⟨as',x,rfl,hp1,dx,kd,hx,_⟩:=cq (m:=[]) hp;cases hp1;exact⟨Zaa,D,Zbv,aV.of hd,rfl,x,Zbh,hx,ZcO,k H1 sm⟩
end
section
open Vbnlad (Raw lit decimal parse)
def Ep[DecidableEq κ](kf:α->κ)(vf:α->V)(k:κ):∀l:Ydy,bg (l.map λx=>(kf x,vf x)) k=(l.find? λx=>decide (kf x=k)).map vf
 |[]=>rfl
 |x::l=>by
  rw[Waw,Wbj];by_cases h:kf x=k
  ·rw[gP (p:=(kf x,vf x)) h,Wa9 h];rfl
  ·rw[gQ (p:=(kf x,vf x)) h,Wa3 h];exact Ep kf vf k l
def iq(x:YBC):Key×V:=(YuN,V.int (x.key:Nat))
def JU(H:Hp)(fk:Addr)(fl:YjE):Prop:=H fk=some (.dK YqX)
theorem F9(fl:YjE)(t:Yaw):bg YqX Ygr=(fl.find? λx=>x.text==t).map λx=>V.int (x.key:Nat):=by have e:=Ep (λx:Vbnlad.Flag=>(Sum.inr (sx x.text):Key)) (λx=>V.int (x.key:Nat)) Ygr fl;refine e.trans ?_;congr 2;funext x;rw[Bool.eq_iff_iff,decide_eq_true_eq,beq_iff_eq,Sum.inr.injEq,Hv]
def nK{fl:YjE}{s:YaW}(hp:YsB)(t:Yaw):(bg YqX Ygr).isSome=(YAj).isSome:=by
 rw[F9,Wb2,Wa2];unfold bh;rw[WbQ,WbQ];ext XaT
 ·ext XdH;exact⟨x,hp.mem_iff.mp hx,e⟩
 ·ext XdH;exact⟨x,hp.mem_iff.mpr hx,e⟩
def jU(T:Yas):a6 P w K mg base cN 1 A.rT A.so Yge (v8 A.kQ Ylz λargs=>[("refusal",YiF),("steps",YiE),("signs",YnP)]):=by
 refine T.J1.ok Gz Ydt Yab;ext XcJ
 refine⟨_,(af Yfw
   (af Ygq
   (aj Ymz))),?_⟩
 refine⟨ZbO,T.fG,T.cI,Zaj⟩;refine⟨Zbm,T.fG,T.oQ,Zai⟩;refine⟨Zbm,T.fG,T.xA,Zao⟩;exact k _ (YgE) λb hb=>by rw[aA hb,aA hb,aA hb]
def HH(A:bL):Sp:=λvs H Q _=>∃p dx tl,vs=[Yij,.ref tl]/\H p=some (.ins A.bu dx [])/\
 ∀sl pl H',H' p=some (.ins A.bu dx [("tokens",.ref tl),("at",YmW),Yx2,("pending",.ref pl),("nesting",YmW)])->H' sl=some YEo->H' pl=some YEo->sl≠pl->H sl=none->H pl=none->
  (∀b,b≠p->b≠sl->b≠pl->H' b=H b)->Ykb
def IM(T:Yas):a6 P w K mg base cN 1 A.uL A.u5 YpP (HH A):=by
 refine T.K7.ok HY (λvs H Q E h=>by obtain⟨p,dx,tl,rfl,_⟩:=h;rfl) Yab;obtain⟨p,dx,tl,rfl,hp,k⟩:=h
 refine⟨_,(af Yfw
   (af YsO
   (af (bz Yau YgO rfl)
   (af (bz Yau YgO rfl)
   (aj YsO))))),?_⟩
 refine⟨ZbO,T.aI,T.oR,Zaj⟩;refine⟨ZbD,ab,T.aI,T.cB,Zai⟩;refine⟨WaL _,λsl hsl=>?_⟩;have n1:p≠sl:=ao ab hsl;refine⟨ZbD,ai n1 ab,T.aI,T.cu,Zao⟩;refine⟨WaL _,λpl hpl=>?_⟩;have n2:p≠pl:=ao ab hpl;have n3:sl≠pl:=λq=>by subst q;rw[aA Ymh,ab]at hpl;cases hpl
 refine⟨ZbD,ai n2 ab,T.aI,T.bj,Zas⟩;refine⟨ZbD,ab,T.aI,T.gh,ZbA⟩;refine YvG
 ·rw[aA Ymh,aA Ymh,aA n3,aA Ymh,ab]
 ·rw[aA Yxt,aA Yxt,ab]
 ·rw[aA Ymh,aA Ymh]at hsl;exact hsl
 ·ext Xed
 ·intro b h1 h2 h3;rw[aA h1,aA h1,aA h3,aA h1,aA h2,aA h1,aA h1]
def tD(s:YaW)(p:Nat×Yaw):Bool:=jm p.2&&(Yrn).isNone
def Ri(o:Option (Nat×Yaw)):Int:=match o with
 |some p=>(p.1:Nat)
 |none=> -1
def LO(t:Yaw):jm t=true↔isWord t/\t∉Vbnlad.RESERVED:=⟨Jn,λh=>by
 cases e:jm t with
 |true=>rfl
 |false=>exact absurd h (F8 e)⟩
def IT(s:YaW)(len:Nat):∀r:Toks,md r->missing s (r.filterMap cb)=(r.map v5++Yyj).find? (tD s)
 |[],_=>rfl
 |p::r,ok=>by
  have ih:=IT s len r ok.tail;rw[Waw,List.cons_append,Wbj];by_cases h:YxN/\conv p.2∉Vbnlad.RESERVED
  ·rw[WcN (Nr ok.head h)];unfold missing;rw[Wbj];have e:tD s (v5 p)=(bh s (conv p.2)).isNone:=by unfold tD v5;rw[(LO _).mpr h,Wcz]
   rw[e];cases(bh s (conv p.2)).isNone with
   |true=>rfl
   |false=>exact ih
  ·rw[Wdu (Nt ok.head h),ih];have e:tD s (v5 p)=false:=by unfold tD v5;rw[show jm (conv p.2)=false from Bool.eq_false_iff.mpr (λq=>h ((LO _).mp q)),Wcp]
   rw[e]
def Z2(A:bL):Sp:=λvs H Q _=>∃l L fk fl,∃s:YaW,vs=[Ykt,.ref fk]/\mf A H l L/\(∀p∈L,Sg p.2)/\JU H fk fl/\YsB/\Q (.int (Ri (L.find? (tD s)))) H
theorem xW(T:Yas):a6 P w K mg base cN 2 A.iS A.iW Yrx (Z2 A):=by
 refine T.ou.ok mq Yav Yab;obtain⟨l,L,fk,fl,st,rfl,⟨as,hl,hp⟩,hs,hf,pm,k⟩:=h;have nd:=mq.nd;ext XaK
 refine⟨_,(af (cO PassesOwn.never rfl Yrp (Ye6) (aj (aM (PW.pt (yE (ck (ay (oO T) Yac rfl T.rL T.mi.kp T.sC .nil aD YqZ)) (tm (gd (dh hu YeX YaG))))) (aj (au YeX)) az)))
   (aj (au YlR))),?_⟩
 refine⟨Zaa,l,rfl,⟨_,aV.of hl⟩,?_⟩;refine bZ (xs:=YbP) (λi σ H'=>∃o,σ=[some (Ykt),some (.ref fk),o]/\H'=H/\∀p∈L.take i,tD st p=false) ⟨none,ZaI,Ydx⟩ ?_ ?_ ?_
 ·rintro i σ H' _ ⟨o,rfl,rfl,_⟩;exact aV.of hl
 ·rintro i x σ H' hx ⟨o,rfl,rfl,hm⟩;ext XaG;have hi:i<Ykc:=by rw[<-hp.length];exact(Yly).1
  have hL:L[i]? =some L[i]:=Ya7;obtain⟨q',hq',dx,ho⟩:=bV hp hL;ext Xaj;generalize L[i]=y at hL ho;have hy:Sg y.2:=hs y (List.mem_of_getElem? hL);refine⟨Zb4,ho,T.wZ,T.nJ,rfl,y.2,rfl,hy,ZaH⟩
  ·refine⟨Zb4,ho,T.wZ,T.nJ,ZaF,fk,Zaa,bN.k (k:=Sum.inr (sx y.2)) hf,Zaa,Ybu⟩
   ·refine⟨Zb4,ho,T.wZ,T.uw,Zag⟩;have hz:tD st y=true:=by
     unfold tD;have e3:jm y.2=true:=e;have e4:(!(bg YqX (Sum.inr (sx y.2))).isSome)=true:=e2;rw[nK pm]at e4;rw[e3,Bool.true_and];cases hx:bh st y.2 with
     |none=>rfl
     |some z=>rw[hx]at e4;cases e4
    have ef:L.find? (tD st)=Ysw:=by
     have e5:L=L.take i++y::L.drop YcG:=by rw[List.getElem?_eq_getElem hi]at hL;injection hL with hL;rw[<-hL,List.getElem_cons_drop];exact(List.take_append_drop i L).symm
     rw[e5,List.find?_append,List.find?_eq_none.mpr Yol,List.find?_cons,hz];rfl
    rw[ef]at k;exact k
   ·ext Xco
    ·exact hm p hp
    ·unfold tD;have e4:(!(bg YqX (Sum.inr (sx p.2))).isSome)=false:=e2;rw[nK pm]at e4;cases hx:YBV with
     |none=>rw[hx]at e4;cases e4
     |some z=>exact Bool.and_false _
  ·ext Xco
   ·exact hm p hp
   ·unfold tD;have e3:jm p.2=false:=e;rw[e3];rfl
 ·rintro σ H' ⟨o,rfl,rfl,hm⟩;rw[List.length_map,hp.length,List.take_length]at hm;have ef:L.find? (tD st)=none:=List.find?_eq_none.mpr Yol;rw[ef]at k;ext Xcl
end
section
open Vbnlad (Raw lit decimal parse readRaw readCond)
def XD(A:bL)(H:Hp)(p:Addr)(rf:Int)(sl:Addr)(sg:V):Prop:=∃dx,H p=some (.ins A.kQ dx [("refusal",.int rf),Yx2,("signs",sg)])
def Ka(A:bL):Sp:=λvs H Q _=>∃t fk fl,∃s:YaW,vs=[tx YbY,.ref fk]/\Yby<=4096/\JU H fk fl/\YsB/\(∀x∈Yhd,x.text.length<=12)/\zU s/\
 (∀p sl H' rf,Ya1->XD A H' p rf sl (.str "")->readCond s t=.inl rf->rf<0->Ycd)/\
 (∀p sl ss H' c,Ya1->XD A H' p 0 sl (tx (YC7))->readRaw t=.inr c->YhA=none->readCond s t=.inr YAO->(YC7).length<=200->H' sl=YfQ->Paired (dY H') ss (cA c)->Ycd)
def Pw(s1:Yy9)(s2:aN H1 H2)(n1:H1 c.r=none)(n2:H1 c.sl=none)(n3:H1 c.pl=none)(fr:fW c H2 H3):aN H1 H3:=λb o e=>fr b o (ao e n1) (ao e n2) (ao e n3) (s2 b o e)
def gU(h:YBl=none):H b=none/\b≠a:=by
 by_cases e:b=a
 ·subst e;rw[ab]at h;cases h
 ·exact⟨by rw[aA e]at h;exact h,e⟩
def nx'(nx:H x=none)(ne:dx≠x):upd H dx o x=none:=by rw[aA (WaC ne)];exact nx
def A6(h:YhA=none)(hs:∀x∈Yhd,x.text.length<=12):NO c:=λp hp=>by
 have:=WaR.mp h p hp;unfold bh at this;have e:(s.flags.find? λx=>x.text==p.2).isSome=true:=by
  cases q:s.flags.find? λx=>x.text==p.2 with
  |none=>rw[q]at this;exact absurd rfl this
  |some y=>rfl
 obtain⟨x,hx,ex⟩:=WbQ.mp e;rw[<-WbV.mp ex];exact hs x hx
def A2(T:Yas):a6 P w K mg base cN 7 A.wK A.wR Ysq (Ka A):=by
 refine T.xi.ok AW Yat Yab;obtain⟨t,fk,fl,st,rfl,hl,hf,pm,sh,ko,k0,k1⟩:=h;have nd:=AW.nd;ext XaK
 refine⟨_,(af (aF (i:=2) nd rfl Yaf (ay (MW T) Yac rfl T.O8 T.Gp.kp T.Qa .nil aD Yq0))
   (af (aF (i:=3) nd rfl Yaf (cH T.UG (IM T) Yac rfl T.WJ T.K3 .nil aD YaM))
   (af (aM (eR (ck (cW Yba T.aI T.uy (uv T) Yac T.vN .nil aD))) (aj (au (cH T.wA (jU T) Yac rfl T.Al T.ma .nil aD (aa (a7 Iv YlR (cW Yba T.aI T.yU (yO T) Yac T.AK .nil aD)) (aa YgO YnK))))) az)
   (af (aF (i:=4) nd rfl Yaf (ay (xW T) Yac rfl T.y6 T.ou.kp T.zN .nil aD (aa YaS YeW)))
   (af (aM (aC Wt Ycg aq Ybo) (aj (au (cH T.wA (jU T) Yac rfl T.Al T.ma .nil aD (aa (a7 Iv YlR Ycg) (aa YgO YnK))))) az)
   (af (aF (i:=5) nd rfl Yaf (ay (vm T) Yac rfl T.xC T.pO.kp T.xK .nil aD YBM))
   (af (aM (aC nZ (aT fL rfl T.cP bR Yhx) (cy rfl T.AH) Ybo) (aj (au (cH T.wA (jU T) Yac rfl T.Al T.ma .nil aD (aa YlR (aa YgO YnK))))) az)
   (aj (au (cH T.wA (jU T) Yac rfl T.Al T.ma .nil aD (aa aq (aa Yfs Yhx)))))))))))),?_⟩
 refine⟨Zaa,ZcH,hl,λtl H1 s1 h1=>?_⟩;refine⟨Zaa,λx dx nx ndx nex=>⟨x,dx,tl,ZcG,λsl pl H2 h2 hsl hpl nsp nsl npl fr2=>⟨Zag⟩⟩⟩;have ok:md (Yg9):=TY t;obtain⟨tn,tc⟩:=QH t;obtain⟨nsl1,nslx⟩:=gU nsl;obtain⟨nsl2,nsld⟩:=gU nsl1;obtain⟨npl1,nplx⟩:=gU npl;obtain⟨npl2,npld⟩:=gU npl1;have s2:aN H1 H2:=λb o e=>by rw[fr2 b Yms (ao e nsl2) (ao e npl2)];exact YCf
 obtain⟨as,hl1,hp1⟩:=h1;have ntl:tl≠sl:=ao hl1 nsl2;have ntp:tl≠pl:=ao hl1 npl2;have R:cx A H2 YuB t.length (Yg9) [] [] 0 0:=⟨⟨[],[],⟨h2,mf.same s2 ⟨as,hl1,hp1⟩,hsl,.nil,hpl,nsp,ntl,ntp⟩,YaT,by show 0+(Yg9).length<=4096;omega⟩,YaT,ok,λp hp=>by have:=tc p hp;omega,T.Wy⟩
 have sgL:∀p∈(Yg9).map v5++[(Yby,[])],Sg p.2:=λp hp=>by
  ext Xcg
  ·obtain⟨q,hq,rfl⟩:=WaD.mp hp;exact Q3 (r:=[q]) (λz hz=>by rw[WaE.mp hz];exact ok q hq)
  ·rw[WaE.mp hp];intro d hd;cases hd
 refine⟨Zaa,x,Zbr,h2,rfl,YuB,Yby,Yg9,rfl,R,λH3 r3 S3 P3 n3 g3 fr3 R3 ep=>?_,λH3 cd n3 g3 fr3 R3 ep=>?_⟩
 ·ext Xha;ext Xb9;refine⟨Zbl,x,Zbr,ho3,rfl,YuB,Yby,r3,S3,P3,n3,g3,rfl,R3,ZaD,WaL _,λl4 hl4=>?_⟩;ext Xd6;refine k0 y l4 H5 _ (YqQ) ⟨dy,h5⟩ ?_ Yad;show readCond st t=.inl (-1000-((Uw t.length r3:Nat):Int));unfold readCond readRaw;rw[ep]
 ext Xha;have er:readRaw t=.inr cd:=ep;have emi:Yh7=((Yg9).map v5++[(Yby,[])]).find? (tD st):=by rw[Ko er];exact IT st t.length _ ok
 have ekn:=vC st cd;refine Yfg;refine⟨ZaE,tl,_,fk,fl,st,rfl,⟨as,s3 _ _ hl1,Paired.gE hp1 λ_ _ q=>q.same s3⟩,sgL,s3 _ _ (s1 _ _ hf),pm,?_⟩;rw[<-emi];refine⟨Zaa,Zb1⟩
 ·have ge:(0:Int)<=Ri (Yh7):=Waf e;cases hm:Yh7 with
  |none=>rw[hm]at ge;exact absurd ge YeP
  |some q=>rw[hm]at ekn;refine⟨ZaE,ZaD,WaL _,λl4 hl4=>?_⟩;ext Xd6;refine k0 y l4 H5 _ (YqQ) ⟨dy,h5⟩ ?_ (by show-6000-((q.1:Nat):Int)<0;omega);show readCond st t=.inl (-6000-((q.1:Nat):Int));ext Xdx
 ·have lt:¬(0:Int)<=Ri (Yh7):=Wag e;have hm:Yh7=none:=by
   cases hm:Yh7 with
   |none=>rfl
   |some q=>rw[hm]at lt;exact absurd (by show(0:Int)<=((q.1:Nat):Int);omega) lt
  rw[hm]at ekn;have shc:=A6 hm sh;have rok:=Ig er;ext Xb9;obtain⟨pre,ss,C3,b1,b2⟩:=R3.ex;have lo3:=R3.lo;have es:=kW ko cd 0 hm;refine bx (ba ⟨Zaa,x,Zbh,ho3,T.aI,T.cu,rfl,sl,ss,cA cd,cd,rfl,C3.qe,C3.ZY,rfl,kI cd rok shc,?_,λH4 s4=>?_⟩)
  ·simp only[WbK,Wee]at b1 b2;omega
  have lc:=kJ cd 0 rok shc;have lr:(cA cd).length<=5000:=by simp only[WbK,Wee]at b1 b2;omega
  refine⟨ZaE,aY (m:=150000) (by rw[hJ];omega) YeP,Zb1⟩
  ·have gt:(200:Int)<((b9 0 cd).length:Nat):=Waf e;refine⟨Zaa,WaL _,λl5 hl5=>?_⟩;have s5:=ak (o:=Ycx) ((s1.trans s3).trans s4) hl5;refine λy dy ny ndy ney=>⟨y,dy,Zb3⟩;have s6:=made ny ndy k6;refine k0 y l5 H6 (-20000) (Yu8) ⟨dy,h6⟩ ?_ YeP;ext Xdx;dsimp only;rw[es,Wap (show Vbnlad.LONG<_ from by unfold Vbnlad.LONG;omega)]
  ·have le:¬(200:Int)<((b9 0 cd).length:Nat):=Wag e;refine bx ⟨Zaa,x,Zbh,s4 _ _ ho3,T.aI,T.cu,ZaF,λy dy ny ndy ney=>⟨y,dy,Zb3⟩⟩;have s6:=made ny ndy k6;refine k1 y sl ss H6 cd (((s1.trans s3).trans s4).trans s6) ⟨dy,h6⟩ er hm ?_ Yad (s6 _ _ (s4 _ _ C3.qe)) (Paired.gE C3.ZY λ_ _ q=>(q.same s4).same s6);ext Xdx;dsimp only;rw[es,Wae (show ¬Vbnlad.LONG<_ from by unfold Vbnlad.LONG;omega)]
end
section
open Vbnlad (Raw)
def Nz{xs:YcT}{i j:Nat}(hi:i<=Ybp)(hj:j<=Ybp):GR xs YDB (some (j:Int))=(xs.drop i).take (j-i):=by unfold GR HT.qf;ext Xhc;have b:¬((j:Int)<0):=Yad;simp only[Wae a,Wae b,Wbl];rw[Wc9 hi,Wc9 hj]
def Oc(l:Yaw):(l.map λn=>((n:Nat):Int)).sum=((l.sum:Nat):Int):=by
 induction l with
 |nil=>rfl
 |cons a l ih=>rw[Waw,Wcl,Wcl,ih];omega
def Du(T:Yas):a6 P w K mg base cN 1 A.zw A.zG Yeh (v8 A.xo Ylz λargs=>[("full",YiF),("rank_bits",YiE),("flag_values",YnP)]):=by
 refine T.Qq.ok MH Ydt Yab;ext XcJ
 refine⟨_,(af Yfw
   (af Ygq
   (aj Ymz))),?_⟩
 refine⟨ZbO,ZcT,Zaj⟩;refine⟨Zbm,T.l7,T.vw,Zai⟩;refine⟨Zbm,T.l7,T.rE,Zao⟩;exact k _ (YgE) λb hb=>by rw[aA hb,aA hb,aA hb]
def acb(K:Yaj)(H:Hp)(fv:Yaw->Nat×Nat)(kvs:Yce):Prop:=∀t,(bg kvs Ygr=none/\fv t=(0,0))∨∃v,bg kvs Ygr=YcV/\Pr K H v (fv t)
def CC(K:Yaj)(A:bL)(H:Hp)(a:Addr)(W:Nat)(B:Yaw)(fv:Yaw->Nat×Nat):Prop:=∃dx rb fd kvs,H a=some (.ins A.xo dx [("full",YBd),("rank_bits",.ref rb),("flag_values",.ref fd)])/\H rb=some (.lst (B.map λn=>Yhu))/\B.length=8/\H fd=Yiz/\acb K H fv kvs
def CC.same(s:Ya1)(h:CC K A H a W B fv):CC K A H' a W B fv:=by
 obtain⟨dx,rb,fd,kvs,h1,h2,h3,h4,h5⟩:=h;refine⟨dx,rb,fd,kvs,YtS,s _ _ h2,h3,s _ _ h4,λt=>?_⟩;rcases h5 t with h|⟨v,e,p⟩
 ·exact YiC
 ·exact .inr ⟨v,e,p.same s⟩
def Yj(K:Yaj)(A:bL):Sp:=λvs H Q _=>∃a W B fv,∃lo hi:Nat,vs=[Ybc,.int (lo:Nat),.int (hi:Nat)]/\lo<=7/\hi<=7/\CC K A H a W B fv/\∀H',Ya1->Q (.int (Sx B lo hi:Nat)) H'
theorem vt(T:Yas):a6 P w K mg base cN 1 A.pd A.pE Yin (Yj K A):=by
 refine T.pT.ok Ez YaC Yab;obtain⟨a,W,B,fv,lo,hi,rfl,hlo,hhi,⟨dx,rb,fd,kvs,h1,h2,h3,h4,h5⟩,k⟩:=h;refine⟨_,(aj (au (aT (Xg rfl) rfl T.Zz Xs (aa (yH Ha Yak (qi YaG) (qi (a7 mO YaS aq))) ah)))),?_⟩;refine⟨Zce,h1,T.l7,T.vw,ZbM,Zbg,rb,Zaa,aV.of h2,YcB⟩;have e1:GR (B.map λn=>Yhu) (some (lo:Int)) (some ((hi:Int)+1))=(((Ytl).take Yxj).map λn=>((n:Nat):Int)).map V.int:=by have:=Nz (xs:=B.map λn=>Yhu) (i:=lo) (j:=hi+1) YaI YaI;rw[show((hi:Int)+1)=((hi+1:Nat):Int)by omega,this,List.map_map,<-Ywx,<-List.map_take];rfl
 refine⟨p,Zaa,aV.of (ab.trans (by rw[<-e1])),?_⟩;rw[Oc];exact k _ (ak Yay hp)
def holds(s:fY)(d:Nat):Bool:=match s with
 |.tt=>true
 |.since t=>decide (t<=d)
 |.before t=>decide (d<t)
 |_=>false
def V0(A:bL):Sp:=λvs H Q _=>∃a s,∃d:Nat,vs=[Ybc,YeK]/\YAD/\Q (.bl (holds s d)) H
def Cg(a b:Nat):decide ((a:Int)<=(b:Int))=decide (a<=b):=by simp
def dec_lt(a b:Nat):decide ((a:Int)<(b:Int))=decide (a<b):=by simp
def OU(T:Yas):a6 P w K mg base cN 1 A.B8 A.Cm YDm (V0 A):=by
 refine T.JX.ok FO Ybh Yab;obtain⟨a,x,d,rfl,hx,k⟩:=h;have nd:=FO.nd;ext XeR
 refine⟨_,(af (aF (i:=2) nd rfl Yaf YeT)
   (af (aM (aC bY YaS aW Ybo) (aj (au (Dh Wt YaG YeT Ybo))) az)
   (af (aM (aC bY YaS aW Ybo) (aj (au (Dh lF YaG YeT Ybo))) az)
   (aj (au (Dh bY YaS aW Ybo)))))),?_⟩
 refine⟨Zcz,?_⟩;refine Yjc
 ·obtain⟨t,rfl⟩:=Me YvD;refine YB6;have:=k;rw[holds,<-Cg]at this;exact this
 have n1:=fu e;refine YzD
 ·obtain⟨t,rfl⟩:=Eo YvD;refine YB6;have:=k;rw[holds,<-dec_lt]at this;exact this
 have n2:=fu e;refine bx ⟨Zaa,Zag⟩;have e2:decide (V.str (wd x)=V.str "true")=holds x d:=by
  cases x with
  |tt=>exact Wa9 rfl
  |since t=>exact Yqz
  |before t=>exact absurd rfl n2
  |_=>exact Wa3 YwV
 have:=k;rw[<-e2]at this;exact this
def Uc(K:Yaj)(A:bL):Sp:=λvs H Q _=>∃a s wa W B fv,∃d:Nat,vs=YpO/\YAD/\Bd s/\plainQ s=true/\Ywf/\∀v H',Ya1->Pr K H' v (kc W B fv d s)->YC9
theorem IA(T:Yas):a6 P w K mg base cN 2 A.uE A.uO Ysp (Uc K A):=by
 refine T.Bf.ok ye Yax Yab;obtain⟨a,x,wa,W,B,fv,d,rfl,hx,ok,pl,hw,k⟩:=h;have nd:=ye.nd;ext XaK;ext XeR;obtain⟨dx,rb,fd,kvs,h1,h2,h3,h4,h5⟩:=id hw
 refine⟨_,(af (aM (aC bY YeT aW Ybo) (aj (au (Wo hu YeX YeT (cy rfl T.U0) ⟨rfl,by rfl,by rfl,by rfl⟩))) az)
   (af (aM (aC bY YeT aW Ybo) (af (aF (i:=3) nd rfl Yaf (ay (vt T) Yac rfl T.xF T.pT.kp T.xO .nil aD (aa YaS (aa YeT (aa YeT ah)))))
   (aj (au (bG (aa Yba (aa (a7 EL YeX Yba) ah)))))) az)
   (af (aM (ck (ay (OU T) Yac rfl T.Rx T.JX.kp T.R9 .nil aD Yy4)) (aj (au YpS)) az)
   (aj (au (bG (aa aq YqZ))))))),?_⟩
 refine⟨Zcz,ZbZ⟩
 ·obtain⟨t,rfl⟩:=Mf YvD;refine⟨Zaa,wa,Zbh,h1,T.l7,T.rE,rfl,fd,rfl,.inl ⟨_,.inl h4⟩,ZaN,ZaD,hq,Zcw,bN.k (k:=Sum.inr (sx t)) h4,?_⟩;rcases h5 t with⟨e1,e2⟩|⟨v,e1,e2⟩
  ·rw[e1];exact k _ H Yay ⟨A.Et,rfl,by show eA K H _ [.int ((fv t).1:Nat),.int ((fv t).2:Nat)];rw[e2];exact T.Uu H⟩
  ·rw[e1];exact k v H Yay e2
 have n1:=fu e;refine bx (ba (cV ⟨Zcz,ZbZ⟩))
 ·obtain⟨lo,hi,rfl⟩:=Sl YvD;refine⟨ZaE,a,Zbv,hq,ZaF,a,Zbv,hq,rfl,wa,W,B,fv,lo,hi,rfl,ok.1,ok.2,hw,Yu7⟩;refine⟨ZaE,wa,Zbh,s1 _ _ h1,ZcT,ZaF,ZaD,Zcn⟩;refine YwI;dsimp only;rw[nE];rfl
 have n2:=fu e;refine bx (ba (cV ⟨ZaE,a,x,d,rfl,hx,ZaH⟩))
 ·refine YnU;refine Ysl;have e1:holds x d=true:=e;have e2:kc W B fv d x=(a4 W,0):=by
   cases x with
   |tt=>rfl
   |since q=>rw[kc,if_pos (Yi6)]
   |before q=>rw[kc,if_pos (Yi6)]
   |_=>cases e1
  rw[e2];rfl
 ·refine bx YnU;refine Ysl;have e1:holds x d=false:=e;have e2:kc W B fv d x=(0,a4 W):=by
   cases x with
   |tt=>cases e1
   |since q=>rw[kc,if_neg (Yc7)]
   |before q=>rw[kc,if_neg (Yc7)]
   |flag t=>exact Yqz
   |rank lo hi=>exact absurd rfl n2
   |_=>rfl
  rw[e2];rfl
end
section
open Vbnlad (Raw)
def Mq(hD:H D=some Yqa)(h:Yn9):eA K Yvg a xs:=by
 ext Xf6
 ·exact .inl (.inl (ai (bS h hD Yaq) h))
 ·exact .inl (.inr ⟨q,ai (bS h hD Yaq) h⟩)
 ·exact Yku
def Pr.upd(hD:H D=some Yqa)(h:Pr K H v p):Pr K Yvg v p:=by obtain⟨a,e,q⟩:=h;exact⟨a,e,Mq hD q⟩
def Fn(W:Nat)(B:Yaw)(fv:Yaw->Nat×Nat)(d:Nat):∀(c:Raw)(st:List (Nat×Nat)),∃x,(cA c).foldl Ym5 st=x::st
 |.tt,st=>⟨Zaa⟩
 |.ff,st=>⟨Zaa⟩
 |.flag i t,st=>⟨Zaa⟩
 |.since t,st=>⟨Zaa⟩
 |.before t,st=>⟨Zaa⟩
 |.rank a b,st=>⟨Zaa⟩
 |.not a,st=>by obtain⟨x,e⟩:=Fn W B fv d a st;rw[cA,Wa1,e];exact YeS
 |.and a b,st=>by ext XcE;exact YeS
 |.or a b,st=>by ext XcE;exact YeS
def xb(H:Hp)(a:Addr)(S:Ymd):Prop:=∃ss:Ybw,H a=YfQ/\Ywd
def xb.same(s:Ya1)(h:xb H a S):xb H' a S:=by obtain⟨ss,h1,h2⟩:=h;exact⟨ss,YtS,YyB⟩
def abq(K:Yaj)(A:bL):Sp:=λvs H Q _=>∃a wa W B fv,∃(c:Raw)(d:Nat),vs=YpO/\xb H a (cA c)/\(∀x∈cA c,Bd x)/\(cA c).length<=5000/\Ywf/\
 ∀v H',Ya1->Pr K H' v (((cA c).foldl Ym5 []).headD (0,0))->YC9
theorem BO(T:Yas):a6 P w K mg base cN 3 A.lM A.lX Yrz (abq K A):=by
 refine T.tR.ok qQ Yax Yab;obtain⟨a,wa,W,B,fv,c,d,rfl,⟨ss,ha,hS⟩,ok,hl,hw,k⟩:=h;have nd:=qQ.nd
 refine⟨_,(af Yov
   (af (cO PassesOwn.never rfl Yrp Ye2 (af (aF (i:=5) nd rfl Yaf (aU bQ Ycg aq Yal))
   (aj (aM Ywm (af (aF (i:=6) nd rfl Yaf Ya3)
   (aj (bp (fI PySem.F.plainAttrs_list PySem.F.slot_list_append PySem.F.type_list_append bF Yba (aa (bG (aa Yic (aa Yic ah))) ah))))) (aj (aM Ywm (af YCw
   (aj (bp (fI PySem.F.plainAttrs_list PySem.F.slot_list_append PySem.F.type_list_append bF Yba (aa (ay (SK T) Yac rfl T.WD T.Si.kp T.Xw .nil aD (aa Ya3 YhL)) ah))))) (aj (aM Ywm (af YCw
   (aj (bp (fI PySem.F.plainAttrs_list PySem.F.slot_list_append PySem.F.type_list_append bF Yba (aa (ay (Ai T) Yac rfl T.DB T.zY.kp T.DZ .nil aD (aa Ya3 YhL)) ah))))) (aj (bp (fI PySem.F.plainAttrs_list PySem.F.slot_list_append PySem.F.type_list_append bF Yba (aa (ay (IA T) Yac rfl T.Kv T.Bf.kp T.KL .nil aD (aa Ycg YiN)) ah))))))))))))
   (aj (au (aU a5 Yba aq Yal))))),?_⟩
 refine Yqv;ext XbC;have hlen:ss.length=(cA c).length:=hS.length;refine bZ (xs:=YcE) (λi σ H'=>∃(o4 o5 o6 o7:Option V)(vs:List V),σ=[Yfd,some (YeK),Yt6,Ydn,o4,o5,o6,o7]/\Ya1/\H' D=some (.lst vs)/\Paired (Pr K H') vs (((cA c).take i).foldl Ym5 []).reverse/\UZ (((cA c).take i).foldl Ym5 []).length ((cA c).drop i)/\Yd7<=i)
  ⟨none,none,none,ZcL,sm0,ab,.nil,Po c,YcH⟩ ?_ ?_ ?_
 ·rintro i σ H' hi ⟨o4,o5,o6,o7,vs,rfl,sm,hd,hp,hg,las⟩;exact YlD
 ·rintro i x σ H1 hx ⟨o4,o5,o6,o7,vs,rfl,sm,hd,hp,hg,las⟩;ext XaG;have hi:i<(cA c).length:=by ext Xak
  have hs:(cA c)[i]? =some (cA c)[i]:=Ya7;obtain⟨q',hq',hst⟩:=bV hS hs;ext Xaj;generalize (cA c)[i]=y at hs hst;have hst1:dY H1 q y:=hst.same sm;have hdr:(cA c).drop i=y::(cA c).drop YcG:=by ext Xcv
  have htk:((cA c).take YcG).foldl Ym5 []=eV W B fv d (((cA c).take i).foldl Ym5 []) y:=by rw[take_snoc hs,List.foldl_append];rfl
  have oky:Bd y:=ok y (Ydh);ext XgS;generalize ((cA c).take i).foldl (eV W B fv d) []=st at hp hg1 hg2;refine⟨Zbd,ZaD,Zcy,?_⟩;refine Yjc
  ·have ey:=VH YvD;subst ey;obtain⟨p,r,rfl⟩:∃p r,st=p::r:=by
    cases st with
    |nil=>exact absurd hg1 YeP
    |cons p r=>exact⟨p,r,rfl⟩
   rw[List.reverse_cons]at hp;obtain⟨vs',v,rfl,hp1,tv,rfl,hv⟩:=cq hp;ext Xes;have hd2:=ab (H:=H1) (a:=D) (o:=.lst vs');have hv2:eA K (upd H1 D (.lst vs')) tv _:=Mq hd hv;refine⟨Zaa,Yed,Zaa,tv,Zbv,hv2,ZaF,tv,Zbv,hv2,ZaX⟩;have hd3:=bM (o:=.tup [YDy,Yui]) ht hd2;refine⟨D,ZaD,hd3,Yr5,?_⟩;refine⟨ZbR,vs'++[Ysy],rfl,aS (ak (Ylc) ht) hD,ab,?_,hg2,Yg3⟩;rw[show eV W B fv d YAk fY.not=(p.2,p.1)::r from rfl,List.reverse_cons];exact Paired.snoc (Paired.gE hp1 λ_ _ z=>((z.upd hd).same YBL).upd hd3) ⟨ZcH,Mq hd3 (YhD)⟩
  have n1:=fu e;refine cV Yjc
  ·have ey:=VI YvD;subst ey;obtain⟨q1,p1,r,rfl⟩:∃q1 p1 r,st=q1::p1::r:=by
    have hg3:2<=st.length:=hg1;match st,hg3 with
    |q1::p1::r,_=>exact YxI
   ext XcW;rw[show eV W B fv d YBJ fY.and=P8 p1 q1::r from rfl,List.reverse_cons];exact YgQ
  have n2:=fu e;refine cV Yjc
  ·have ey:=Zl YvD;subst ey;obtain⟨q1,p1,r,rfl⟩:∃q1 p1 r,st=q1::p1::r:=by
    have hg3:2<=st.length:=hg1;match st,hg3 with
    |q1::p1::r,_=>exact YxI
   ext XcW;rw[show eV W B fv d YBJ fY.or=Ao p1 q1::r from rfl,List.reverse_cons];exact YgQ
  have n3:=fu e;have py:plainQ y=true/\eV W B fv d st y=kc W B fv d y::st/\need y=0:=by
   cases y with
   |not=>exact Yqz
   |and=>exact absurd rfl n2
   |or=>exact absurd rfl n3
   |_=>exact⟨ZaI,rfl⟩
  refine⟨Zaa,Ycs,Zbl,q,y,wa,W,B,fv,d,rfl,hst1,oky,py.1,hw.same sm,Yzy⟩;have hd4:=s2 _ _ hd;refine⟨D,ZaD,hd4,aP (n:=5000) Yad YeP,?_⟩;refine⟨ZbR,vs++[v],rfl,Yns,ab,ZbG,Ym2⟩
  ·rw[py.2.1,List.reverse_cons];exact Paired.snoc (Paired.gE hp λ_ _ z=>(z.same s2).upd hd4) (hv.upd hd4)
  ·rw[py.2.1];rw[py.2.2]at hg2;exact hg2
 ·rintro σ H1 ⟨o4,o5,o6,o7,vs,rfl,sm,hd,hp,hg,las⟩;ext Xdb;obtain⟨x,ex⟩:=Fn W B fv d c [];rw[ex]at hp k;obtain⟨vs',v,rfl,hp1,hv⟩:=cq (m:=[]) hp;cases hp1;exact⟨Zaa,D,Zbv,aV.of hd,rfl,k v H1 sm hv⟩
end
section
open Vbnlad (Raw and3 passes ruleValue flagsIn)
def kL:∀(c:Raw)(n:Nat),(∀p∈aJ c,p.2≠[])->(cA c).length<=(b9 n c).length
 |.tt,n,_=>by ext Xeb
 |.ff,n,_=>by ext Xeb
 |.flag i t,n,h=>Wdd.mpr (h (i,t) YwB)
 |.since d,n,_=>by ext Xeb
 |.before d,n,_=>by ext Xeb
 |.rank a b,n,_=>by ext Xeb
 |.not a,n,h=>by have:=kL a 2 h;simp only[cA,b9,Wad,Wa5];have e:(Vbnlad.lit "not ").length=4:=YeP;omega
 |.and a b,n,h=>by have h1:=kL a 1 YxV;have h2:=kL b 2 YxW;have e:(Vbnlad.lit " and ").length=5:=YeP;ext Xdq
 |.or a b,n,h=>by have h1:=kL a 0 YxV;have h2:=kL b 1 YxW;have e:(Vbnlad.lit " or ").length=4:=YeP;ext Xdq
structure aaV (s:YaW) (r:YfD) (c:Raw):Prop where
 ok:kP c
 ms:YhA=none
 cd:r.cond=nL s c
 sh:NO c
 ln:(cA c).length<=200
 dd:YvU<=r.last
 dl:r.last<=1000000
 rr:r.lo<=r.hi
 rl:r.hi<=7
def aE(l:Yaw):YcT:=l.map λn=>Yhu
def gO(A:bL)(H:Hp)(s:YaW)(a:Addr)(r:YfD):Prop:=∃dx sl kl c,H a=some (.ins A.pV dx [("first",.int (r.first:Nat)),("last",.int (r.last:Nat)),("lowest",.int (r.lo:Nat)),("highest",.int (r.hi:Nat)),Yx2,("flag_keys",.ref kl)])/\
 xb H sl (cA c)/\H kl=some (.lst (aE (Yfc)))/\aaV s r c
def gO.same(e:Ya1)(h:YoX):gO A H' s a r:=by ext XcA;exact⟨dx,sl,kl,c,e _ _ h1,h2.same e,e _ _ h3,h4⟩
structure xa (K:Yaj) (A:bL) (H:Hp) (s:YaW) (wa:Addr) (W:Nat) (rk:Nat->Nat) (F:Nat->Vbnlad.Facts):Prop where
 ex:∃B fv,Ywf/\Yxc/\Mb s W F fv
def xa.same(e:Ya1)(h:YmH):xa K A H' s wa W rk F:=by obtain⟨B,fv,h1,h2,h3⟩:=h.ex;exact⟨B,fv,h1.same e,h2,h3⟩
def xa.full(h:YmH):∃dx x y,H wa=some (.ins A.xo dx [("full",YBd),("rank_bits",x),("flag_values",y)]):=by obtain⟨B,fv,⟨dx,rb,fd,kvs,h1,_⟩,_,_⟩:=h.ex;exact⟨dx,_,_,h1⟩
def aab(h:u D Yre H):ZQ (ZX (tC v) (Pq i)) u D σ H:=h
def J9(K:Yaj)(A:bL):Sp:=λvs H Q _=>∃a s r wa W rk F,∃d:Nat,vs=YpO/\YoX/\YmH/\
 ∀v H',Ya1->Pr K H' v (qF W λk=>Yos)->YC9
theorem uu(T:Yas):a6 P w K mg base cN 4 A.wJ A.wQ Ysr (J9 K A):=by
 refine T.qA.ok AV YaZ Yab;obtain⟨a,st,r,wa,W,rk,F,d,rfl,⟨dx,sl,kl,c,ho,hst,hkl,rok⟩,hW,k⟩:=h;have nd:=AV.nd;obtain⟨B,fv,hw,hB,hf⟩:=hW.ex;obtain⟨dw,rb,fd,kvs,h1,h2,h3,h4,h5⟩:=id hw;have key:=Wd hB hf (day:=d) (r:=r) ⟨c,rfl,rok.ok,rok.ms,rok.cd⟩ rok.rl;rw[<-key]at k
 refine⟨_,(af YC2
   (af (aM (Ik my my Yak YaG Yak) (aj (aF (i:=3) nd rfl Yaf (ay (vt T) Yac rfl T.xF T.pT.kp T.xO .nil aD (aa YaS (aa Yak Ygd))))) az)
   (af (aM (aC bY Yba aq Ybo) (aj (au YpS)) az)
   (aj (au (ay (Ai T) Yac rfl T.DB T.zY.kp T.DZ .nil aD (aa (ay (BO T) Yac rfl T.DD T.tR.kp T.Eb .nil aD (aa Yak YiN)) (aa (bG (aa (a7 EL YeX Yba) Ye9)) ah)))))))),?_⟩
 refine aab (ba (cV (RU (p:=λi j=>YkT) (p':=λi j=>YkT) (r.first:Int) (d:Int) (r.last:Int) (λQ' q=>⟨Zce,ho,T.fV,T.qm,rfl,q⟩) (λQ' q=>⟨Zaa,q⟩) (λQ' q=>⟨Zce,ho,T.fV,T.tw,rfl,q⟩) (Yae))))
 ·have e1:YvU<=d/\d<=r.last:=by rw[Bool.and_eq_true,decide_eq_true_eq,decide_eq_true_eq]at e;omega
  refine⟨ZaE,a,Zbh,ho,T.fV,T.ux,ZaF,a,Zbh,ho,T.fV,T.rF,rfl,wa,W,B,fv,r.lo,r.hi,rfl,by have:=rok.rr;have:=rok.rl;omega,rok.rl,hw,Yu7⟩;refine Yjc
  ·have e2:YwQ=Yd4:=YaQ;have e3:Yue=0:=YxD;refine⟨Zaa,wa,Zbh,s1 _ _ h1,ZcT,ZaX⟩;refine YwI;unfold OF;dsimp only;rw[if_pos e1,if_pos e3];rfl
  ·have e2:¬(YwQ=Yd4):=YaH;have e3:Yue≠0:=λq=>e2 (by rw[q];rfl);refine bx ⟨Zce,s1 _ _ ho,T.fV,T.ql,ZbM,sl,wa,W,B,fv,c,d,rfl,hst.same s1,kI c rok.ok rok.sh,by have:=rok.ln;omega,hw.same s1,Yzy⟩;refine⟨Zaa,wa,Zbh,s2 _ _ (s1 _ _ h1),ZcT,ZaF,ZbS,Zcn⟩;have s3:=ak (o:=.tup [.int (Builtin.bitXor (a4 W:Nat) (Sx B r.lo r.hi:Nat)),.int (Sx B r.lo r.hi:Nat)]) YhK ht;refine⟨v,Ysy,_,(a4 W^^^Sx B r.lo r.hi,Yue),rfl,hv.same s3,⟨ZcH,eA.of (ab.trans (by dsimp only;rw[nE]))⟩,λv2 H3 s4 hv2=>?_⟩;refine k v2 H3 (((Ygc).trans s3).trans s4) ?_;unfold OF;dsimp only;rw[if_pos e1,if_neg e3];exact hv2
 ·have e1:¬(YvU<=d/\d<=r.last):=λq=>by
   have:(decide ((r.first:Int)<=(d:Int))&&decide ((d:Int)<=(r.last:Int)))=true:=by rw[Bool.and_eq_true,decide_eq_true_eq,decide_eq_true_eq];omega
   rw[this]at e;cases e
  refine bx (ba (cV ⟨Zaa,ZaF,bC Yhj (λe=>absurd rfl (YaH))⟩));refine YnU;refine Ysl;unfold OF;dsimp only;rw[if_neg e1,if_pos rfl];rfl
def QU(K:Yaj)(A:bL):Sp:=λvs H Q _=>∃a s wa W rk F,∃(rs:List Addr)(R:List Vbnlad.Rule)(d:Nat),vs=YpO/\H a=YpM/\Paired (gO A H s) rs R/\YmH/\
 ∀v H',Ya1->Pr K H' v (qF W λk=>passes (F k) d (rk k) R)->YC9
theorem vq(T:Yas):a6 P w K mg base cN 5 A.oZ A.pD YrA (QU K A):=by
 refine T.pQ.ok vj Ycu Yab;obtain⟨a,st,wa,W,rk,F,rs,R,d,rfl,ha,hR,hW,k⟩:=h;have nd:=vj.nd;obtain⟨dw,xw,yw,h1⟩:=hW.full
 refine⟨_,(af (aF (i:=3) nd rfl Yaf YpS)
   (af (cO PassesOwn.never rfl Yrp Ye2 (aj (aF (i:=3) nd rfl Yaf (ay (SK T) Yac rfl T.WD T.Si.kp T.Xw .nil aD (aa Yba (aa (ay (uu T) Yac rfl T.wB T.qA.kp T.w6 .nil aD (aa Ycg YiN)) ah))))))
   (YBy))),?_⟩
 refine YnU;have s0:=ak (o:=.tup [YBd,YmW]) Yay ht;refine YpU;have hlen:Yw1=YgR:=hR.length;refine bZ (xs:=YiK) (λi σ H'=>∃(v:V)(o4:Option V),σ=[Yfd,some (YeK),Yt6,YcV,o4]/\Ya1/\Pr K H' v (qF W λk=>(R.take i).foldl (λa r=>and3 a (Yos)) (Yb8)))
  ⟨_,Za8,s0,ZcH,eA.of YqH⟩ ?_ ?_ ?_
 ·have:=CN W;show YAW=some (HO.tup [.int (((qF W λ_=>Yb8).1:Nat)),.int (((qF W λ_=>Yb8).2:Nat))]);rw[this];rfl
 ·rintro i σ H' hi ⟨v,o4,rfl,sm,hv⟩;exact YlD
 ·rintro i x σ H1 hx ⟨v,o4,rfl,sm,hv⟩;ext XaG;have hi:i<YgR:=by ext Xak
  have hs:R[i]? =some R[i]:=Ya7;obtain⟨q',hq',hr1⟩:=bV hR hs;ext Xaj;generalize R[i]=y at hs hr1;refine⟨ZaE,ZaE,q,st,y,wa,W,rk,F,d,rfl,hr1.same sm,hW.same sm,λv2 H2 s2 hv2=>?_⟩;refine⟨v,v2,Zbr,hv.same s2,hv2,λv3 H3 s3 hv3=>?_⟩;refine⟨v3,Zaa,(YBn).trans s3,?_⟩;rw[P7]at hv3;ext XcV
 ·rintro σ H1 ⟨v,o4,rfl,sm,hv⟩;ext XgB;refine⟨Zaa,k v H1 sm ?_⟩;have e:(λk=>passes (F k) d (rk k) R)= λk=>R.foldl (λa r=>and3 a (Yos)) (Yb8):=by funext k;rw[lC,CK]
  rw[e];exact hv
end
section
open Vbnlad (Raw and3 passes ruleValue flagsIn factOf rulesOf)
def dictOf(kf:α->Nat)(vf:α->V)(l:Ydy):Yce:=l.map λx=>((Sum.inl ((kf x:Nat):Int):Key),vf x)
def de(kf:α->Nat)(vf:α->V)(l:Ydy):(YhJ).length=Yc9:=Waa ..
def cD{α:Type}(kf:α->Nat)(vf:α->V)(l:Ydy)(k:Int):
  (∃x∈l,bg (YhJ) YiS=some (vf x)/\((kf x:Nat):Int)=k)∨(bg (YhJ) YiS=none/\∀x∈l,((kf x:Nat):Int)≠k):=by
 have e:=Ep (λx:α=>(Sum.inl ((kf x:Nat):Int):Key)) vf YiS l;cases h:l.find? λx=>decide ((Sum.inl ((kf x:Nat):Int):Key)=Sum.inl k)with
 |none=>right;refine⟨e.trans (by rw[h];rfl),λx hx q=>?_⟩;have:=WaR.mp h x hx;simp[q]at this
 |some x=>left;have hx:=WaG h;have:=Wbv h;refine⟨x,hx,e.trans (by rw[h];rfl),?_⟩;ext Xbb
def jX{α:Type}{kf:α->Nat}{vf:α->V}{l:Ydy}(nd:(l.map kf).Nodup){x:α}(hx:x∈l):bg (YhJ) (YjW)=some (vf x):=by
 rcases cD kf vf l ((kf x:Nat):Int)with⟨y,hy,e,q⟩|⟨_,h⟩
 ·rw[e,cK nd y hy x hx Yad]
 ·exact absurd rfl (h x hx)
def jJ{κ:Type}[DecidableEq κ]{kvs:YdT}{k:κ}{v:V}(h:Yro=none):Yma=kvs++[(k,v)]:=by unfold putK;rw[x8,h];rfl
def ji(kf:α->Nat)(vf:α->V)(l:Ydy)(x:α):YhJ++[((Sum.inl ((kf x:Nat):Int):Key),vf x)]=dictOf kf vf (l++[x]):=by unfold dictOf;rw[Wal];rfl
structure NG where
 (a dx fa pa:Addr)
structure CG where
 (a dx ft fk ru ed na:Addr)
 (fl:YjE)
 (rl:List (YfD×Addr))
 (el:YzJ)
 (nl:List (YfE×NG))
def DL(l:YjE):Yce:=dictOf (λx=>x.key) Ymy l
def CH(l:List (YfD×Addr)):Yce:=Yup
def AI(l:YzJ):Yce:=Yup
def Ak(l:List (YfE×NG)):Yce:=dictOf (λp=>YhZ) (λp=>YnJ) l
def xI(l:Ybf):Yce:=dictOf (λp=>p.1) (λp=>.int (if p.2=true then 1 else 0)) l
def MV(l:List (YgK×V)):Yce:=dictOf (λp=>YhZ) (λp=>p.2) l
section
variable {P:Program} {w:World} {K:PySem.W.Frag} {mg:Str→Option Value} {base:Heap} {A:bL} {H H':Hp} {s s':Vbnlad.State}
def Kp(A:bL)(H H':Hp):Prop:=∀b u,(∀q,u≠ .dK q)->YxA->H b=YaY->H' b=YaY
def Kp.refl:Kp A H H:=λ_ _ _ _ e=>e
def Kp.trans(a:Kp A H1 H2)(b:Kp A H2 H3):Kp A H1 H3:=λx u h1 h2 e=>b x u h1 h2 (a x u h1 h2 e)
def Kp.same(e:Ya1):YdG:=λb u _ _ h=>e b u h
def Kp.dict(hd:H d=Yiz):Kp A H Yof:=λb u h1 _ e=>ai (bS e hd (h1 _)) e
def Kp.name(hd:H d=some (.ins A.eW dx fs)):Kp A H Yof:=λb u _ h2 e=>ai (bS e hd (h2 _ _)) e
def Kp.lst(k:YdG)(e:H b=YdB):H' b=YdB:=YAZ
def Kp.tab(k:YdG)(e:H b=YCz):H' b=YCz:=YAZ
def Kp.tup(k:YdG)(e:H b=YfP):H' b=YfP:=YAZ
def Kp.ins(k:YdG)(n:A.eW≠C)(e:H b=Ycv):H' b=Ycv:=k b _ YcX (by intro _ _ z;cases z;exact n rfl) e
def Kp.sqt(k:YdG)(h:eA K H b xs):eA K H' b xs:=by
 ext Xb8
 ·exact .inl (.inl (k.tup h))
 ·exact .inl (.inr ⟨o,k b _ YcX Yc2 h⟩)
 ·exact Yku
def Kp.pr(k:YdG)(h:Pr K H v p):Pr K H' v p:=by obtain⟨a,e,q⟩:=h;exact⟨a,e,k.sqt q⟩
def Kp.steps(k:YdG)(h:xb H a S):xb H' a S:=by obtain⟨ss,h1,h2⟩:=h;exact⟨ss,k.lst h1,Paired.gE h2 λ_ _ q=>k.tup q⟩
def Kp.rule(T:Yas)(k:YdG)(h:YoX):gO A H' s a r:=by ext XcA;exact⟨dx,sl,kl,c,k.ins T.O2 h1,k.steps h2,k.lst h3,h4⟩
def FG(A:bL)(H:Hp)(a:Addr)(e:YgK):Prop:=∃dx kl ks,H a=Ydl/\H kl=some (.lst (aE ks))/\ks.Perm e.rules
def Kp.ed(T:Yas)(k:YdG)(h:FG A H a e):FG A H' a e:=by obtain⟨dx,kl,ks,h1,h2,h3⟩:=h;exact⟨dx,kl,ks,k.ins T.IS h1,k.lst h2,h3⟩
def Di(s:YaW)(n:YfE)(e:YgK):Nat×Nat:=qF 1 λ_=>passes YzP n.day n.rank (YdL)
def FC(K:Yaj)(H:Hp)(s:YaW)(n:YfE)(pa:Addr):Prop:=∃pl:List (YgK×V),H pa=some (.dK (MV pl))/\(YAX).Nodup/\∀p∈pl,p.1∈Yec/\Pr K H p.2 (Di s n p.1)
structure xg (K:Yaj) (A:bL) (H:Hp) (s:YaW) (g:NG) (n:YfE):Prop where
 obj:H g.a=some (.ins A.eW g.dx [("day",.int (n.day:Nat)),("rank",.int (n.rank:Nat)),("facts",.ref g.fa),("passings",.ref g.pa)])
 Vy:∃fs,H g.fa=some YkX/\fs.Perm n.facts
 UA:FC K H s n g.pa
def FC.kp(k:YdG)(e:∀o,H pa=YaB->H' pa=YaB)(h:FC K H s n pa):FC K H' s n pa:=by obtain⟨pl,h1,h2,h3⟩:=h;exact⟨pl,e _ h1,h2,λp hp=>⟨(h3 p hp).1,k.pr (h3 p hp).2⟩⟩
def xg.kp(k:YdG)(e1:∀o,H g.a=YaB->H' g.a=YaB)(e2:∀o,H g.fa=YaB->H' g.fa=YaB)(e3:∀o,H g.pa=YaB->H' g.pa=YaB)(h:xg K A H s g n):xg K A H' s g n:=by obtain⟨fs,f1,f2⟩:=h.Vy;exact⟨e1 _ h.obj,⟨fs,e2 _ f1,f2⟩,h.UA.kp k e3⟩
structure FE (s s':YaW):Prop where
 fl:∀x∈Yhd,x∈s'.flags
 ru:∀r∈YtN,r∈s'.rules
 ed:∀e∈Yec,e∈s'.editions
def FE.rulesOf(g:FE s s')(o:xc s)(o':xc s')(he:e∈Yec):rulesOf s' e=YdL:=MN (cw o'.rk) g.ru (o.er e he).2.2
def FE.rule(g:FE s s')(o':xc s')(h:YoX):gO A H s' a r:=by ext XcA;exact⟨dx,sl,kl,c,Zb7,h3,{h4 with ms:=Nf o'.ft g.fl h4.ms,cd:=h4.cd.trans (vH o'.ft g.fl c h4.ms).symm}⟩
def FE.pass(g:FE s s')(o:xc s)(o':xc s')(h:FC K H s n pa):FC K H s' n pa:=by obtain⟨pl,h1,h2,h3⟩:=h;refine⟨pl,Zb7,λp hp=>⟨g.ed _ (h3 p hp).1,?_⟩⟩;unfold Di;rw[g.rulesOf o o' (h3 p hp).1];exact(h3 p hp).2
def FE.name(g:FE s s')(o:xc s)(o':xc s')(h:xg K A H s g0 n):xg K A H s' g0 n:=⟨h.obj,h.Vy,g.pass o o' h.UA⟩
def gr(G:CG):Ybw:=[G.ft,G.fk,G.ru,G.ed,G.na]
structure aG (K:Yaj) (A:bL) (H:Hp) (G:CG) (s:YaW):Prop where
 obj:H G.a=some (.ins A.sI G.dx [("flag_texts",.ref G.ft),("flag_keys",.ref G.fk),("rules",.ref G.ru),("editions",.ref G.ed),("names",.ref G.na)])
 Jd:H G.ft=Ypj
 Em:JU H G.fk G.fl
 GN:H G.ru=some (.dK YfO)
 F6:H G.ed=some (.dK Yd9)
 CI:H G.na=some (.dK (YoA))
 pf:G.fl.Perm s.flags
 pr:(G.rl.map Prod.fst).Perm s.rules
 pe:(G.el.map Prod.fst).Perm s.editions
 pn:(G.nl.map Prod.fst).Perm s.names
 ar:∀p∈G.rl,gO A H s p.2 p.1
 ae:∀p∈G.el,FG A H p.2 p.1
 an:∀p∈G.nl,xg K A H s p.2 p.1
 d1:(gr G).Nodup
 d2:∀p∈G.nl,p.2.fa∉gr G/\p.2.pa∉gr G
 d3:∀p∈G.nl,∀q∈G.nl,p.2.fa≠q.2.pa
 d4:∀p∈G.nl,∀q∈G.nl,(p.2.fa=q.2.fa∨p.2.pa=q.2.pa∨p.2.a=q.2.a)->p=q
 ok:xc s
 tab:H A.tb=YCz
def aG.same(C:YaF)(e:Ya1):YqA:=
 ⟨e _ _ C.obj,e _ _ C.Jd,e _ _ C.Em,e _ _ C.GN,e _ _ C.F6,e _ _ C.CI,Zcf,C.pn,λp hp=>(Yxe).same e,λp hp=>by
  obtain⟨dx,kl,ks,h1,h2,h3⟩:=C.ae p hp
  exact⟨dx,kl,ks,e _ _ h1,e _ _ h2,h3⟩,λp hp=>(YgM).kp (Kp.same e) (e _) (e _) (e _),Zba,C.ok,e _ _ C.tab⟩
end
end
section
open Vbnlad (Raw and3 passes ruleValue flagsIn factOf rulesOf place)
section
variable {P:Program} {w:World} {K:PySem.W.Frag} {mg:Str→Option Value} {base:Heap} {A:bL} {H H':Hp} {s s':Vbnlad.State} {G:CG}
def aG.top(C:YaF)(h:d∈gr G):∃kvs,H d=Yiz:=by
 simp only[gr,Wav,Wbt,WcJ]at h;rcases h with rfl|rfl|rfl|rfl|rfl
 ·exact⟨_,C.Jd⟩
 ·exact⟨_,C.Em⟩
 ·exact⟨_,C.GN⟩
 ·exact⟨_,C.F6⟩
 ·exact⟨_,C.CI⟩
def aG.names(C:YaF){d:Addr}(h:d∈gr G)(o:HO):∀p∈G.nl,xg K A Yof s p.2 p.1:=λp hp=>by
 obtain⟨kvs,hd⟩:=C.top h;have N:=YgM;refine N.kp (Kp.dict hd) YqW YqW YqW
 ·exact ai (bS N.obj hd Yaq) e
 ·exact ai (λq=>(Yoq).1 (q▸h)) e
 ·exact ai (λq=>(Yoq).2 (q▸h)) e
def aG.nes(C:YaF):G.ft≠G.fk/\G.ft≠G.ru/\G.ft≠G.ed/\G.ft≠G.na/\G.fk≠G.ru/\G.fk≠G.ed/\G.fk≠G.na/\G.ru≠G.ed/\G.ru≠G.na/\G.ed≠G.na:=by have:=C.d1;simp only[gr,Wa7,Wav,Wbt,WcJ,not_or,not_false_eq_true,List.nodup_nil,and_true]at this;obtain⟨⟨a,b,c,d⟩,⟨e,f,g⟩,⟨h,i⟩,j⟩:=this;exact⟨a,b,c,d,e,f,g,h,i,j⟩
def wo{α β:Type}{l:Ydy}{m:List β}{f:α->β}{key:β->Nat}{x:α}(h:(YvV).Perm m):((l++[x]).map f).Perm (place key (f x) m):=by rw[Wal];refine List.perm_append_comm.trans ?_;exact((List.Perm.cons (f x) h)).trans (wk key (f x) m).symm
def aG.Ze(T:Yas)(C:YaF)(x:YBC)(o':xc {s with flags:=Ylu}):
  aG K A YiI {G with fl:=G.fl++[x]} {s with flags:=Ylu}:=by
 ext Xbm;have g:FE s {s with flags:=Ylu}:=⟨λy hy=>Ymu,Yme,Yme⟩;have hk:upd H G.ft YrR G.fk=some (.dK (Yvd)):=ai Ymh C.Em;have kp:Kp A H YiI:=(Kp.dict C.Jd).trans (Kp.dict hk);refine⟨Yet,ai n1 ab,ab,ai (WaC n5) (ai Yxt C.GN),ai (WaC n6) (ai (WaC n3) C.F6),ai (WaC n7) (ai (WaC n4) C.CI),?_,C.pr,C.pe,C.pn,Zau,λp hp=>g.name C.ok o' ?_,Zba,o',YoW⟩
 ·have:=wo (l:=G.fl) (m:=Yhd) (f:=id) (key:=Vbnlad.Flag.key) (x:=x) (by rw[Wdc];exact C.pf);rw[Wdc]at this;exact this
 ·have N:=C.names (d:=G.ft) (by simp[gr]) YrR p hp;refine N.kp (Kp.dict hk) YqW YqW YqW
  ·exact ai (bS N.obj hk Yaq) e
  ·exact ai (λq=>(Yoq).1 Yny) e
  ·exact ai (λq=>(Yoq).2 Yny) e
def aG.Zc(T:Yas)(C:YaF)(r:YfD)(a:Addr)(hr:YoX)(o':xc {s with rules:=Yls}):
  aG K A Yr8 {G with rl:=G.rl++[(r,a)]} {s with rules:=Yls}:=by
 ext Xbm;have g:FE s {s with rules:=Yls}:=⟨Yme,λy hy=>Ymu,Yme⟩;have kp:Kp A H Yr8:=Kp.dict C.GN;refine⟨Yet,ai n2 C.Jd,ai n5 C.Em,ab,ai (WaC n8) C.F6,ai (WaC n9) C.CI,C.pf,wo (x:=(r,a)) C.pr,C.pe,C.pn,YcB,Yne,λp hp=>YgX,Zba,o',YoW⟩;ext Xcg
 ·exact Ykx
 ·rw[WaE.mp hp];exact g.rule o' (kp.rule T hr)
def aG.ab3(T:Yas)(C:YaF)(e:YgK)(a:Addr)(he:FG A H a e)(o':xc {s with editions:=Yi3}):
  aG K A Yr9 {G with el:=G.el++[(e,a)]} {s with editions:=Yi3}:=by
 ext Xbm;have g:FE s {s with editions:=Yi3}:=⟨Yme,Yme,λy hy=>Ymu⟩;have kp:Kp A H Yr9:=Kp.dict C.F6;refine⟨Yet,ai n3 C.Jd,ai n6 C.Em,ai n8 C.GN,ab,ai (WaC n10) C.CI,C.pf,C.pr,wo (x:=(e,a)) C.pe,C.pn,λp hp=>Ykx,YcB,λp hp=>YgX,Zba,o',YoW⟩;ext Xcg
 ·exact kp.ed T (C.ae p hp)
 ·rw[WaE.mp hp];exact kp.ed T he
def aG.Zd(T:Yas)(C:YaF)(n:YfE)(g0:NG)(hn:xg K A H s g0 n)(ne:g0.fa≠g0.pa)
(nf:g0.fa∉gr G/\(∀p∈G.nl,g0.fa≠p.2.fa/\g0.fa≠p.2.pa))(np:g0.pa∉gr G/\(∀p∈G.nl,g0.pa≠p.2.fa/\g0.pa≠p.2.pa))(na:∀p∈G.nl,g0.a≠p.2.a)(o':xc {s with names:=Ylt}):
  aG K A YrZ {G with nl:=G.nl++[(n,g0)]} {s with names:=Ylt}:=by
 ext Xbm;have g:FE s {s with names:=Ylt}:=⟨Yme,Yme,Yme⟩;have kp:Kp A H YrZ:=Kp.dict C.CI;have mem:∀{p:Vbnlad.Name×NG},p∈G.nl++[(n,g0)]->p∈G.nl∨p=(n,g0):=λhp=>by simpa using hp
 refine⟨Yet,ai n4 C.Jd,ai n7 C.Em,ai n9 C.GN,ai n10 C.F6,ab,Zcf,wo (x:=(n,g0)) C.pn,Zau,YcB,C.d1,YcB,λp hp q hq=>?_,λp hp q hq h=>?_,o',YoW⟩
 ·rcases mem hp with hp|rfl
  ·exact YgX
  ·refine g.name C.ok o' (hn.kp kp (λu e=>ai (bS hn.obj C.CI Yaq) e) (λu e=>ai (λq=>nf.1 Yny) e) (λu e=>ai (λq=>np.1 Yny) e))
 ·rcases mem hp with hp|rfl
  ·exact Yoq
  ·exact⟨nf.1,np.1⟩
 ·ext Xfz
  ·exact C.d3 p hp q hq
  ·exact WaC (np.2 p hp).1
  ·exact(nf.2 q hq).2
  ·exact ne
 ·ext Xfz
  ·exact C.d4 p hp q hq h
  ·ext Xeh
   ·exact absurd h.symm (nf.2 p hp).1
   ·exact absurd h.symm (np.2 p hp).2
   ·exact absurd h.symm (na p hp)
  ·ext Xeh
   ·exact absurd h (nf.2 q hq).1
   ·exact absurd h (np.2 q hq).2
   ·exact absurd h (na q hq)
  ·rfl
def aG.abH(C:YaF):(G.nl.map λp=>YhZ).Nodup:=by have h:=(YD9).nodup_iff.mpr Yo3;rw[Wax]at h;exact h
def aG.ZA(C:YaF):(G.fl.map λp=>p.key).Nodup:=(C.pf.map Vbnlad.Flag.key).nodup_iff.mpr (cw C.ok.fk)
def aG.pass(T:Yas)(C:YaF)(hp:p∈G.nl)(hl:H p.2.pa=some (.dK (MV pl)))(nd:(YAX).Nodup)(hv:∀q∈pl,q.1∈Yec/\Pr K H q.2 (Di s p.1 q.1))(he:e∈Yec)(ne:e∉pl.map Prod.fst)(hev:Pr K H v (Di s p.1 e)):aG K A (upd H p.2.pa (Yf8)) G s:=by
 have kp:Kp A H (upd H p.2.pa (Yf8)):=Kp.dict hl;have tn:∀t∈gr G,t≠p.2.pa:=λt ht q=>(Yoq).2 (q▸ht);ext Xas;have e1:∀o,H q.2.a=YaB->upd H p.2.pa (Yf8) q.2.a=YaB:=λo h=>ai (bS N.obj hl Yaq) h;have e2:∀o,H q.2.fa=YaB->upd H p.2.pa (Yf8) q.2.fa=YaB:=λo h=>ai (C.d3 q hq p hp) h;by_cases eq:q=p
 ·subst eq;obtain⟨fs,f1,f2⟩:=N.Vy;refine⟨e1 _ N.obj,⟨fs,e2 _ f1,f2⟩,pl++[(e,v)],ab,?_,Yx8⟩
  ·rw[Wal,Wci];refine⟨nd,Ydx,λa ha b hb=>?_⟩;have:b=e:=YuX;subst this;intro h;exact ne (h▸ha)
  ·rcases Wac.mp hx with hx|hx
   ·exact⟨(hv x hx).1,kp.pr (hv x hx).2⟩
   ·rw[WaE.mp hx];exact⟨he,kp.pr hev⟩
 ·exact N.kp kp e1 e2 λo h=>ai (λz=>eq (C.d4 q hq p hp (.inr (.inl z)))) h
def rN(G:CG)(p:YfE×NG)(x:Nat×Bool)(pa:Addr):CG:={G with nl:=G.nl.map λq=>if q.1.key=YhZ then({p.1 with facts:=YiZ},{p.2 with pa:=pa})else q}
def IY(s:YaW)(n:YfE)(x:Nat×Bool):YaW:={s with names:=s.names.map λy=>if y.key=n.key then{n with facts:=Yg2}else y}
theorem aG.learn(T:Yas)(C:YaF)(hp:p∈G.nl)(hf:H p.2.fa=some YkX)(pm:fs.Perm p.1.facts)(x:Nat×Bool)
(npa:upd H p.2.fa YtL pa=none)(o':xc (IY s p.1 x)):
  aG K A (YaV) (YBp) (IY s p.1 x):=by
 obtain⟨npa1,npa2⟩:=gU npa;have N:=YgM;have na1:p.2.a≠p.2.fa:=bS N.obj hf Yaq;have na2:p.2.a≠pa:=ao N.obj npa1;have ho:upd (upd H p.2.fa YtL) pa Ymi p.2.a=some (.ins A.eW p.2.dx _):=Ysm;have kp:Kp A H (YaV):=((Kp.dict hf).trans (Kp.same (ak YbG npa))).trans (Kp.name ho)
 have dk:∀{b:Addr}{kvs:List (Key×V)},b≠p.2.fa->H b=Yiz->(YaV) b=Yiz:=λh e=>ai (bS e N.obj Yaq) (ai YBK (ai h e))
 have tn:∀t∈gr G,t≠p.2.fa:=λt ht q=>(Yoq).1 (q▸ht);have g:FE s (IY s p.1 x):=⟨Yme,Yme,Yme⟩;have same:∀q∈G.nl,q.1.key=YhZ->q=p:=λq hq h=>cK C.abH q hq p hp h;have mem:∀{q':Vbnlad.Name×NG},q'∈(YBp).nl->(q'=Yrj)∨(q'∈G.nl/\q'≠p):=λ{q'} h=>by
  obtain⟨q,hq,rfl⟩:=List.mem_map.mp h;by_cases e:q.1.key=YhZ
  ·rw[if_pos e];exact YbW
  ·rw[if_neg e];exact .inr ⟨hq,λz=>e (by rw[z])⟩
 refine⟨Yet,dk Yhl C.Jd,dk Yhl C.Em,dk Yhl C.GN,dk Yhl C.F6,?_,Zcf,?_,Zau,Yh0,C.d1,Yh0,λq hq q2 hq2=>?_,λq hq q2 hq2 h=>?_,o',YoW⟩
 ·have e:Ak (YBp).nl=YoA:=by
   unfold Ak dictOf rN;ext Xdm;refine List.map_congr_left λq hq=>?_;ext XeJ;by_cases e:q.1.key=YhZ
   ·rw[if_pos e,same q hq e]
   ·rw[if_neg e]
  show _=some (HO.dK (Ak (YBp).nl));rw[e];exact dk Yhl C.CI
 ·unfold rN IY;dsimp only;ext Xdm;have e:(Prod.fst∘ λq:Vbnlad.Name×NG=>if q.1.key=YhZ then Yrj else q)=(λy:Vbnlad.Name=>if y.key=YhZ then{p.1 with facts:=YiZ}else y)∘Prod.fst:=by funext q;ext XeJ;split<;>rfl
  rw[e,<-List.map_map];exact C.pn.map _
 ·refine g.name C.ok o' ?_;rcases mem hq with rfl|⟨hq,nq⟩
  ·refine⟨ab,⟨fs++[x],ai (Ne.symm na1) (ai (Ne.symm npa2) ab),?_⟩,[],ai (Ne.symm na2) ab,Ydx,λy hy=>by cases hy⟩;exact List.perm_append_comm.trans ((pm.cons x).trans (wk Prod.fst x _).symm)
  ·have M:=C.an q hq;have z1:q.2.a≠p.2.a:=λz=>nq (C.d4 q hq p hp (.inr (.inr z)));refine M.kp kp YBG YBG YBG
   ·exact ai z1 (ai YBK (ai (bS M.obj hf Yaq) e))
   ·obtain⟨f',f1,_⟩:=M.Vy;exact ai (bS f1 N.obj Yaq) (ai YBK (ai (λz=>nq (C.d4 q hq p hp (.inl z))) e))
   ·obtain⟨l',l1,_⟩:=M.UA;exact ai (bS l1 N.obj Yaq) (ai YBK (ai (λz=>C.d3 p hp q hq z.symm) e))
 ·rcases mem hq with rfl|⟨hq,nq⟩
  ·refine⟨(Yoq).1,λh=>?_⟩;obtain⟨kvs,e⟩:=C.top h;rw[npa1]at e;cases e
  ·exact C.d2 q hq
 ·ext XdB
  ·exact Ne.symm npa2
  ·exact C.d3 p hp q2 hq2
  ·obtain⟨f',f1,_⟩:=(C.an q hq).Vy;exact ao f1 npa1
  ·exact C.d3 q hq q2 hq2
 ·ext XdB
  ·rfl
  ·ext Xeh
   ·exact absurd (C.d4 p hp q2 hq2 (YiC)).symm nq2
   ·obtain⟨l',l1,_⟩:=(C.an q2 hq2).UA;exact absurd h.symm (ao l1 npa1)
   ·exact absurd (C.d4 p hp q2 hq2 (.inr (Yku))).symm nq2
  ·ext Xeh
   ·exact absurd (C.d4 q hq p hp (YiC)) nq
   ·obtain⟨l',l1,_⟩:=(C.an q hq).UA;exact absurd h (ao l1 npa1)
   ·exact absurd (C.d4 q hq p hp (.inr (Yku))) nq
  ·exact C.d4 q hq q2 hq2 h
end
end
section
open Vbnlad (Raw and3 passes ruleValue flagsIn factOf rulesOf place)
def MZ(T:Yas):a6 P w K mg base cN 1 A.zx A.zH Yco (v8 A.pV (λargs=>∃a b c d e f,args=[a,b,c,d,e,f]) λargs=>[("first",YiF),("last",YiE),("lowest",YnP),("highest",args.getD 3 .fR),("steps",args.getD 4 .fR),("flag_keys",args.getD 5 .fR)]):=by
 refine T.Qr.ok MI (λvs H Q E h=>by obtain⟨p,dx,args,rfl,⟨x,y,z,u,v,t,rfl⟩,_⟩:=h;rfl) Yab;obtain⟨p,dx,args,rfl,⟨x,y,z,u,v,t,rfl⟩,hp,k⟩:=h
 refine⟨_,(af Yfw
   (af Ygq
   (af Ymz
   (af (bz Yau Ycg rfl)
   (af (bz Yau Yda rfl)
   (aj (bz Yau YeJ rfl))))))),?_⟩
 refine⟨ZbO,T.fV,T.qm,Zaj⟩;refine⟨Zbm,T.fV,T.tw,Zai⟩;refine⟨Zbm,T.fV,T.ux,Zao⟩;refine⟨Zbm,T.fV,T.rF,Zas⟩;refine⟨Zbm,T.fV,T.ql,ZbA⟩;refine⟨Zbm,T.fV,T.mQ,Zad⟩;exact k _ (YgE) λb hb=>by rw[aA hb,aA hb,aA hb,aA hb,aA hb,aA hb]
def GJ(T:Yas):a6 P w K mg base cN 1 A.rW A.sr Yem (v8 A.eQ (λargs=>∃a b c d,args=[a,b,c,d]) λargs=>[("key",YiF),("day",YiE),("keeps",YnP),("rule_keys",args.getD 3 .fR)]):=by
 refine T.J2.ok GA (λvs H Q E h=>by obtain⟨p,dx,args,rfl,⟨x,y,z,u,rfl⟩,_⟩:=h;rfl) Yab;obtain⟨p,dx,args,rfl,⟨x,y,z,u,rfl⟩,hp,k⟩:=h
 refine⟨_,(af Yfw
   (af Ygq
   (af Ymz
   (aj (bz Yau Ycg rfl))))),?_⟩
 refine⟨ZbO,T.bX,T.fS,Zaj⟩;refine⟨Zbm,T.bX,T.jM,Zai⟩;refine⟨Zbm,T.bX,T.xB,Zao⟩;refine⟨Zbm,T.bX,T.cM,Zas⟩;exact k _ (YgE) λb hb=>by rw[aA hb,aA hb,aA hb,aA hb]
def Mx(A:bL):Sp:=λvs H Q _=>∃p dx x y,vs=[Yij,x,y]/\H p=some (.ins A.eW dx [])/\
 ∀fa pa H',H' p=some (.ins A.eW dx [("day",x),("rank",y),("facts",.ref fa),("passings",.ref pa)])->H' fa=some Ymi->H' pa=some Ymi->fa≠pa->H fa=none->H pa=none->(∀b,b≠p->b≠fa->b≠pa->H' b=H b)->Ykb
def Na(T:Yas):a6 P w K mg base cN 1 A.zA A.zJ Yl2 (Mx A):=by
 refine T.Qt.ok MK (λvs H Q E h=>by obtain⟨p,dx,x,y,rfl,_⟩:=h;rfl) Yab;obtain⟨p,dx,x,y,rfl,hp,k⟩:=h
 refine⟨_,(af Yfw
   (af Ygq
   (af Yha
   (aj Yha)))),?_⟩
 refine⟨ZbO,ZcU,Zaj⟩;refine⟨Zbm,T.dW,T.yT,Zai⟩;refine λsl hsl=>?_;have n1:p≠sl:=ao ab hsl;refine⟨ZbD,ai n1 ab,T.dW,T.gD,Zao⟩;refine λpl hpl=>?_;have n2:p≠pl:=ao ab hpl;have n3:sl≠pl:=λq=>by subst q;rw[aA Ymh,ab]at hpl;cases hpl
 refine⟨ZbD,ai n2 ab,T.dW,T.fC,Zas⟩;refine YvG
 ·rw[aA Ymh,aA n3,aA Ymh,ab]
 ·rw[aA Yxt,ab]
 ·rw[aA Ymh,aA Ymh]at hsl;exact hsl
 ·ext Xed
 ·intro b h1 h2 h3;rw[aA h1,aA h3,aA h1,aA h2,aA h1,aA h1]
def neN{H:Hp}{a b:Addr}{u:HO}(h:H b=none)(e:H a=YaY):a≠b:=ao e h
def My(K:Yaj)(A:bL):Sp:=λvs H Q _=>∃p dx,vs=[Yij]/\H p=some (.ins A.sI dx [])/\∀G H',G.a=p->(H' A.tb=YCz->aG K A H' G Vbnlad.start)->YvK->Ykb
def Nb(T:Yas):a6 P w K mg base cN 1 A.zB A.zK Ycy (My K A):=by
 refine T.Qu.ok ML (λvs H Q E h=>by obtain⟨p,dx,rfl,_⟩:=h;rfl) Yab;obtain⟨p,dx,rfl,hp,k⟩:=h
 refine⟨_,(af Yha
   (af Yha
   (af Yha
   (af Yha
   (aj Yha))))),?_⟩
 refine λd1 h1=>?_;have m1:p≠d1:=neN h1 hp;refine⟨ZbD,ai m1 hp,T.bc,T.bU,Zaj⟩;refine λd2 h2=>?_;have m2:p≠d2:=neN h2 ab;have e12:d1≠d2:=neN h2 (ai Yrq ab);refine⟨ZbD,ai m2 ab,T.bc,T.eI,Zai⟩;refine λd3 h3=>?_;have m3:p≠d3:=neN h3 ab;have e13:d1≠d3:=neN h3 Yzs;have e23:d2≠d3:=neN h3 (ai YAP ab);refine⟨ZbD,ai m3 ab,T.bc,T.bT,Zao⟩;refine λd4 h4=>?_;have m4:p≠d4:=neN h4 ab;have e14:d1≠d4:=neN h4 YdY;have e24:d2≠d4:=neN h4 Yil;have e34:d3≠d4:=neN h4 (ai (WaC m3) ab);refine⟨ZbD,ai m4 ab,T.bc,T.bJ,Zas⟩;refine λd5 h5=>?_;have m5:p≠d5:=neN h5 ab;have e15:d1≠d5:=neN h5 (ai Yrq (ai e14 YdY));have e25:d2≠d5:=neN h5 (ai YAP (ai e24 Yil));have e35:d3≠d5:=neN h5 Ysc;have e45:d4≠d5:=neN h5 (ai (WaC m4) ab);refine⟨ZbD,ai m5 ab,T.bc,T.bI,ZbA⟩;refine k ⟨p,dx,d1,d2,d3,d4,d5,[],[],[],[]⟩ _ rfl ?_ ?_
 ·refine λht=>⟨YgE,ai Yrq (ai e15 (ai Yrq (ai e14 YdY))),ai YAP (ai e25 (ai YAP (ai e24 Yil))),ai (WaC m3) (ai e35 Ysc),ai (WaC m4) (ai e45 (ai (WaC m4) ab)),ai (WaC m5) ab,YCD,YCD,YCD,YCD,YfB,YfB,YfB,?_,YfB,YfB,YfB,Uk,ht⟩;simp[gr,e12,e13,e14,e15,e23,e24,e25,e34,e35,e45]
 ·intro b o hb e;have f1:b≠d1:=neN h1 e;have f2:b≠d2:=neN h2 (ai hb (ai f1 e));have f3:b≠d3:=neN h3 YvS;have f4:b≠d4:=neN h4 Ygh;have f5:b≠d5:=neN h5 (ai hb (ai f4 Ygh));exact ai hb (ai f5 (ai hb (ai f4 Ygh)))
end
section
open Vbnlad (Raw place putFlag keyOk dayOk within flagText? Answer)
def Nq(t:Yaw):YBt=(decide (Yby<=12)&&jm YbY):=by
 unfold flagText? jm;rw[Waa,Za];cases h:YoC with
 |false=>simp
 |true=>rw[SQ h];rw[show decide (1<=Yby)=Yua from rfl];cases decide (0<Yby)<;>cases decide (Yby<=12)<;>simp
def aaw(n:Int):keyOk n=(decide (1<=n)&&decide (n<=1000000000)):=rfl
def aaG(n:Int):dayOk n=(Ywt&&decide (n<=1000000)):=rfl
def Yv(n:Int):within n 0 Vbnlad.RANKS=(Ywt&&decide (n<=7)):=rfl
def Hi(h:keyOk n=true):((n.toNat:Nat):Int)=n:=by rw[aaw,WaJ,War,War]at h;omega
def lT(h:dayOk n=true):((n.toNat:Nat):Int)=n/\n.toNat<=1000000:=by rw[aaG,WaJ,War,War]at h;omega
def Ii(h:within n 0 Vbnlad.RANKS=true):((n.toNat:Nat):Int)=n/\n.toNat<=7:=by rw[Yv,WaJ,War,War]at h;omega
def Ow(K:Yaj)(A:bL):Sp:=λvs H Q _=>∃G s key t,vs=[Ybz,Yxs,tx YbY]/\YaF/\Yby<=4096/\
 ∀n s' H' G',G'.a=G.a->YdG->Yg8->putFlag s key t=YAN->YqC
def OX(T:Yas):a6 P w K mg base cN 2 A.Cc A.Cr Ylj (Ow K A):=by
 refine T.J0.ok FT Yat Yab;obtain⟨G,st,key,t,rfl,C,hl,k⟩:=h;have nd:=FT.nd;ext XaK;have kr:=λn e=>k n st H G rfl Kp.refl C e
 refine⟨_,(af Yjf
   (af (aM (PW.pt (A1 (aC nZ (aT fL rfl T.cP bR YaM) (cy rfl T.Jj) Ybo) (yD (eR (ck (ay (oO T) Yac rfl T.rL T.mi.kp T.sC .nil aD YaM)))))) YaD az)
   (af YgJ
   (af (aM (gd (BJ hu YaS Yak)) YaD az)
   (af (aM (aC bY YkF (cy rfl T.Nm) Ybo) YaD az)
   (af (jg hu Yak YaG YaS rfl)
   (af (jg hu Yak YaS YaG rfl)
   (YnE)))))))),?_⟩
 refine Yn3
 ·ext Xhb;exact⟨Zaa,kr _ (by unfold putFlag;rw[Wap Ybe])⟩
 ext XgH;have ok1:YBS=true:=by ext Xdd
 have nk:=Hi ok1;have hz:(sx YbY).length<=sizeLine:=aY (m:=4096) (by rw[hJ,Waa];exact hl) YeP;refine bx (ba (cV ⟨ZaE,hz,ZbS,bC (λe2=>?_) (λe2=>⟨Zaa,Yon,rfl,V9 t,Zaa,Yc1⟩)⟩))
 ·have e4:(12:Int)<((sx YbY).length:Nat):=Waf e2;rw[hJ,Waa]at e4;have e5:YBt=false:=by rw[Nq,Wa3 Yad,Wcp]
  exact YmO
 ·have e4:(!jm YbY)=true:=e3;have e5:YBt=false:=by rw[Nq,(by simpa using e4:jm YbY=false),Wdp]
  exact YmO
 have e4:¬(12:Int)<((sx YbY).length:Nat):=Wag e2;rw[hJ,Waa]at e4;have e5:(!jm YbY)=false:=e3;have ok2:YBt=true:=by rw[Nq,Wa9 Yad,(by simpa using e5:jm YbY=true)];rfl
 have sm:YoC=true:=by simp only[flagText?,WaJ]at ok2;exact ok2.2.1
 have et:=SQ sm;refine bx (ba (cV ⟨Zcd,ZcZ,bN.k (k:=YbE) C.Jd,Zaa,bC Yyq Yyq⟩))
 ·rcases cD YjX Ymy G.fl key with⟨x,hx,e7,e8⟩|⟨e7,_⟩
  ·exact⟨Zaa,kr _ (by unfold putFlag;rw[Wae Yho,Wae Ynz,Wap (Ax (C.pf.mem_iff.mp hx) e8)])⟩
  ·have e9:(bg YiY (YbE)).isSome=true:=e6;unfold DL at e9;ext Xgy
 have nok:bg YiY (YbE)=none/\∀x∈G.fl,((x.key:Nat):Int)≠key:=by
  rcases cD YjX Ymy G.fl key with⟨x,hx,e7,e8⟩|h
  ·have e9:(bg YiY (YbE)).isSome=false:=e6;unfold DL at e9;ext Xgy
  ·exact h
 have nos:∀x∈YtR,((x.key:Nat):Int)≠key:=λx hx=>nok.2 x Ysu;refine bx (ba (cV ⟨Zcd,T.eI,rfl,G.fk,Zaa,bN.k (k:=Yrc) C.Em,Zaa,YDW⟩))
 ·have e8:(YfU).isSome=true:=e7;rw[nK C.pf,et]at e8;have e9:Yzp=true:=by unfold bh at e8;rw[WbQ]at e8;exact WbP.mpr e8
  exact⟨Zaa,kr _ (by unfold putFlag;rw[Wae Yho,Wae Ynz,Wae YrM,Wap e9])⟩
 have e8:(YfU).isSome=false:=e7;have e80:YfU=none:=by
  cases q:YfU with
  |none=>rfl
  |some z=>rw[q]at e8;cases e8
 rw[nK C.pf,et]at e8;have not:∀x∈YtR,x.text≠t:=λx hx q=>by have:(bh st t).isSome=true:=WbQ.mpr ⟨x,hx,by simpa using q⟩;rw[this]at e8;cases e8
 have e9:Yzp=false:=Wea.mpr λx hx=>by simpa using not x hx
 have lf:(DL G.fl).length=YAU:=by unfold DL;rw[de,C.pf.length_eq]
 refine bx (ba (cV ⟨Zbp,Zar,ZcZ,C.Jd,ZaF,bC YBH YBH⟩))
 ·have e11:Yvn=V.int 24:=Waf e10;have e12:YAU=24:=by ext XdT
  exact⟨Zaa,kr _ (by unfold putFlag;rw[Wae Yho,Wae Ynz,Wae YrM,Wae (by rw[e9];decide),Wap YnA])⟩
 have e11:¬(Yvn=V.int 24):=Wag e10;have fn:=C.ok.fn;have e12:YAU<24:=by refine WcP fn λq=>e11 ?_;rw[lf,q];rfl
 have lk:(Yvd).length<sizeLine:=by rw[Waa,C.pf.length_eq];exact WcM e12 YeP
 refine bx (ba ⟨Zcd,Zcl,vW.k (k:=YbE) C.Jd Yzr,?_⟩);have hob:upd H G.ft (.dK (Yqi)) G.a=some _:=ai (bS C.obj C.Jd Yaq) C.obj;have Em:upd H G.ft (.dK (Yqi)) G.fk=some (.dK (Yvd)):=ai (WaC C.nes.1) C.Em;refine⟨Zbn,hob,T.bc,T.eI,ZaF,G.fk,Zaa,vW.k (k:=Yrc) Em lk,?_⟩;have o':=V5 C.ok (x:={key:=Ygj,text:=t}) ok2 (λy hy q=>nos y hy (by rw[<-nk];exact Wa6 Int.ofNat q)) not e12;have Cn:=C.Ze T {key:=Ygj,text:=t} o';have p1:Yqi=DL (G.fl++[{key:=Ygj,text:=t}]):=by rw[jJ nok.1,et];have:=ji YjX Ymy G.fl ({key:=Ygj,text:=t}:YBC);unfold DL;rw[<-this,nk]
 have p2:putK (Yvd) (Yrc) (Yxs)=(G.fl++[({key:=Ygj,text:=t}:YBC)]).map iq:=by rw[jJ e80,et,Wal];unfold iq;rw[Wd4];dsimp only;rw[nk]
 rw[p1,p2];refine k 0 _ _ _ ?_ ((Kp.dict C.Jd).trans (Kp.dict (ai (WaC C.nes.1) C.Em))) Cn (by unfold putFlag;rw[Wae Yho,Wae Ynz,Wae YrM,Wae (by rw[e9];decide),Wae (show ¬Vbnlad.FLAGS<=_ from by unfold Vbnlad.FLAGS;omega)]);rfl
def Aw(key first last lo hi:Int):Int:=if keyOk key=false then-1 else if(dayOk first&&YdO)=false then-2 else if(YeN&&YcO)=false then-3 else 0
def Uj:Sp:=λvs H Q _=>∃key first last lo hi,vs=[Yxs,.int first,.int last,.int lo,.int hi]/\Q (.int YC5) H
def Dn(T:Yas):a6 P w K mg base cN 2 A.mU A.mZ Yei Uj:=by
 refine T.vQ.ok C7 Yav Yab;obtain⟨key,first,last,lo,hi,rfl,k⟩:=h
 refine⟨_,(af (aM (eR (ck (ay (Ah T) Yac rfl T.DA T.zX.kp T.DY .nil aD Yq0))) YaD az)
   (af (aM (PW.pt (A1 Ylp (A1 YeR (yD (aC nZ YaG YaS Ybo))))) YaD az)
   (af (aM (PW.pt (A1 Ylq (A1 (eR (ck (ay (BM T) Yac rfl T.EV T.Ay.kp T.Fs .nil aD Yfk))) (yD (aC nZ Yba Ycg Ybo))))) YaD az)
   (YnE)))),?_⟩
 have or3:∀{a b:Bool}{x y:Int},(!a)=false->(!b)=false->¬(y<x)->(a&&(b&&decide (x<=y)))=true:=λ{a b x y} h1 h2 h3=>by rw[(by simpa using h1:a=true),(by simpa using h2:b=true),Wa9 (by omega:x<=y)];rfl
 unfold Aw at k;refine Yn3
 ·ext Xhb;rw[Wap Ybe]at k;ext Xcl
 ext XgH;rw[Wae (by simp at e1;simp[e1])]at k;refine YnV
 ·have e5:(!dayOk first)=true:=e2;rw[Wap (by rw[(by simpa using e5:dayOk first=false)];rfl)]at k;ext Xcl
 ·have e5:(!dayOk last)=true:=e3;rw[Wap (by rw[(by simpa using e5:dayOk last=false)];simp)]at k;ext Xcl
 ·have e5:last<first:=Waf e4;rw[Wap (by rw[Wa3 (by omega:¬first<=last)];simp)]at k;ext Xcl
 have o2:Ywj=true:=or3 e2 e3 (Wag e4);rw[Wae (by rw[o2];decide)]at k;refine YnV
 ·have e5:(!within lo 0 Vbnlad.RANKS)=true:=e2;rw[Wap (by rw[(by simpa using e5:YeN=false)];rfl)]at k;ext Xcl
 ·have e5:(!within hi 0 Vbnlad.RANKS)=true:=e3;rw[Wap (by rw[(by simpa using e5:YDJ=false)];simp)]at k;ext Xcl
 ·have e5:hi<lo:=Waf e4;rw[Wap (by rw[Wa3 (by omega:¬lo<=hi)];simp)]at k;ext Xcl
 have o3:(YeN&&YcO)=true:=or3 e2 e3 (Wag e4);rw[Wae (by rw[o3];decide)]at k;exact k
end
section
open Vbnlad (Raw place putRule keyOk dayOk within flagText? Answer flagsIn readCond readRaw)
def NK(key first last lo hi:Int):(Aw key first last lo hi<0/\∀s t,putRule s key first last lo hi t=(s,.number YC5))∨
  (Aw key first last lo hi=0/\YBS=true/\Ywj=true/\(YeN&&YcO)=true):=by
 unfold Aw putRule;by_cases h1:YBS=false
 ·left;refine⟨by rw[Wap h1];decide,λs t=>by rw[Wap h1,Wap h1]⟩
 by_cases h2:Ywj=false
 ·left;refine⟨by rw[Wae h1,Wap h2];decide,λs t=>by rw[Wae h1,Wap h2,Wae h1,Wap h2]⟩
 by_cases h3:(YeN&&YcO)=false
 ·left;refine⟨by rw[Wae h1,Wae h2,Wap h3];decide,λs t=>by rw[Wae h1,Wae h2,Wap h3,Wae h1,Wae h2,Wap h3]⟩
 ·right;refine⟨by rw[Wae h1,Wae h2,Wae h3],by simpa using h1,by simpa using h2,by simpa using h3⟩
def nQ:fY->Option (Yaw)
 |.flag t=>some t
 |_=>none
def mK:∀c:Raw,(cA c).filterMap nQ=(aJ c).map Prod.snd
 |.tt=>rfl
 |.ff=>rfl
 |.flag i t=>rfl
 |.since d=>rfl
 |.before d=>rfl
 |.rank a b=>rfl
 |.not a=>by rw[cA,Wbc,mK a,aJ];simp[nQ]
 |.and a b=>by rw[cA,Wbc,Wbc,mK a,mK b,aJ];simp[nQ]
 |.or a b=>by rw[cA,Wbc,Wbc,mK a,mK b,aJ];simp[nQ]
def Nu{fl:YjE}{s:YaW}(hp:YsB)(nt:(s.flags.map Vbnlad.Flag.text).Nodup){t:Yaw}(h:(YAj).isSome=true):bg YqX Ygr=some (.int (zf s t:Nat)):=by
 rw[F9];have e:fl.find? (λx=>x.text==t)=s.flags.find? λx=>x.text==t:=find_perm hp λx hx y hy h1 h2=>by
  have a:x.text=t:=by simpa using h1
  have b:y.text=t:=by simpa using h2
  exact cK nt x (hp.mem_iff.mp hx) y (hp.mem_iff.mp hy) (a.trans b.symm)
 rw[e];unfold zf bh at*;cases q:s.flags.find? λx=>x.text==t with
 |none=>rw[q]at h;cases h
 |some x=>rfl
def Ou(K:Yaj)(A:bL):Sp:=λvs H Q _=>∃G s key first last lo hi t,vs=[Ybz,Yxs,.int first,.int last,.int lo,.int hi,tx YbY]/\YaF/\Yby<=4096/\
 ∀n s' H' G',G'.a=G.a->YdG->Yg8->putRule s key first last lo hi t=YAN->YqC
theorem OV(T:Yas):a6 P w K mg base cN 8 A.Ca A.Cp YeG (Ou K A):=by
 refine T.JY.ok FQ YaZ Yab;obtain⟨G,st,key,first,last,lo,hi,t,rfl,C,hl,k⟩:=h;have nd:=FQ.nd;ext XaK
 refine⟨_,(af (aF (i:=7) nd rfl Yaf (ay (Dn T) Yac rfl T.EY T.vQ.kp T.Fv .nil aD (aa YaG (aa YaS (aa Yba (aa Ycg Yhx))))))
   (af (aM (aC lF Ypi aq Ybo) (aj (au Ypi)) az)
   (af YgJ
   (af (aF (i:=8) nd rfl Yaf (ay (A2 T) Yac rfl T.Dy T.xi.kp T.DW .nil aD (aa YeJ Ygd)))
   (af (aM (aC lF YsP aq Ybo) (aj (au YsP)) az)
   (af (aM (aC bY YkF (cy rfl T.Nk) Ybo) YaD az)
   (af (iJ (i:=9) (own:=[("step",10)]) rfl nd rfl rfl YcC (bq YsP) YbT (λ_ _ _ _ _=>aX (i:=10) nd rfl Yaf) (λ_ _ _ _ _=>qh (aC bY YyM aW Ybo)) (λ_ _ _ _ _=>(bw hu YoK YyM Yal)))
   (af (jg hu Yak YaG (cH T.YO (MZ T) Yac rfl T.aam T.Qg .nil aD (aa YaS (aa Yba (aa Ycg (aa Yda (aa YsP (aa (aT (qu rfl) rfl T.jL jk (aa (fA (JC rfl) rfl T.O3 JG Yuk) ah)) ah))))))) rfl)
   (YnE))))))))),?_⟩
 refine⟨ZaE,Zbl,key,first,last,lo,hi,Zag⟩;rcases NK key first last lo hi with⟨b1,b2⟩|⟨b0,okk,okd,okr⟩
 ·refine⟨Zbg,bC Yhj (λe=>absurd b1 (YaH))⟩;exact⟨Zaa,k _ st H G rfl Kp.refl C (b2 st t)⟩
 refine⟨Zbg,bC (λe=>absurd (YaQ) (by rw[b0];decide)) Ymr⟩;have i1:¬keyOk key=false:=by rw[okk];decide
 have i2:¬(dayOk first&&YdO)=false:=by rw[okd];decide
 have i3:¬(YeN&&YcO)=false:=by rw[okr];decide
 have nk:=Hi okk;rw[Bool.and_eq_true,Bool.and_eq_true,decide_eq_true_eq]at okd okr;have nf:=lT okd.1;have nl:=lT okd.2.1;have nlo:=Ii okr.1;have nhi:=Ii okr.2.1;refine bx (ba (cV ⟨Zcd,Zby,Yv8,Zaa,bC Yyq Yyq⟩))
 ·rcases cD Yd3 Yd6 G.rl key with⟨x,hx,e7,e8⟩|⟨e7,_⟩
  ·refine⟨Zaa,k _ st H G rfl Kp.refl C ?_⟩;unfold putRule;rw[if_neg i1,if_neg i2,if_neg i3,if_pos (Ax (C.pr.mem_iff.mp (List.mem_map_of_mem (f:=Prod.fst) hx)) e8)]
  ·have e9:(YoZ).isSome=true:=e6;unfold CH at e9;ext Xgy
 have nok:YoZ=none/\∀x∈G.rl,((x.1.key:Nat):Int)≠key:=by
  rcases cD Yd3 Yd6 G.rl key with⟨x,hx,e7,e8⟩|h
  ·have e9:(YoZ).isSome=false:=e6;unfold CH at e9;ext Xgy
  ·exact h
 have nos:∀x∈st.rules,((x.key:Nat):Int)≠key:=λx hx=>by obtain⟨p,hp,rfl⟩:=List.mem_map.mp (C.pr.mem_iff.mpr hx);exact nok.2 p hp
 have i4:¬(st.rules.any λx=>(x.key:Int)==key)=true:=by rw[CA nos];decide
 refine bx (ba ⟨Zcd,Zc2,C.Em,C.pf,C.ok.short,C.ok.ze,λrp sl H1 rf s1 hrp erd lt=>?_,λrp sl ss H1 c s1 hrp err hms erd l200 hsl hss=>?_⟩)
 ·ext XeY;refine YsH;refine⟨Zb0,k _ st H1 G rfl (YlQ) (YeA) ?_⟩;ext Xb1
 ext XeY;ext Xgt;refine YDH;have lf:(CH G.rl).length=YAT:=by have:=C.pr.length_eq;ext XbW;unfold CH;rw[de,this]
 refine bx (ba (cV ⟨Zbp,ZcM,Zby,C1.GN,ZaF,bC YBH YBH⟩))
 ·have e11:Yvo=V.int 64:=of_decide_eq_true e10;have e12:YAT=64:=by ext XdT
  refine⟨Zaa,k _ st H1 G rfl (YlQ) C1 ?_⟩;ext Xb1;dsimp only;rw[if_pos YnA]
 have e11:¬(Yvo=V.int 64):=of_decide_eq_false e10;have rn:=C.ok.rn;have e12:YAT<64:=by refine Nat.lt_of_le_of_ne rn λq=>e11 ?_;rw[lf,q];rfl
 have shc:=A6 hms C.ok.short;have fne:∀p∈aJ c,p.2≠[]:=λp hp q=>by
  have h1:=YyE;have h2:(YBV).isSome=true:=by
   cases z:YBV with
   |none=>rw[z]at h1;exact absurd rfl h1
   |some y=>rfl
  obtain⟨y,hy,ey⟩:=List.find?_isSome.mp h2;have ht:y.text=p.2:=by simpa using ey
  have fw:=C.ok.fw y hy;rw[ht,q]at fw;exact absurd fw YeP
 have ln:(cA c).length<=200:=Nat.le_trans (kL c 0 fne) l200;ext XgP;have fl2:YlC=((cA c).filterMap nQ).map (zf st):=by rw[iR,mK,List.map_map];rfl
 refine bx (ba ⟨Zaa,rp,Zbh,hrp,T.fG,T.oQ,ZcP⟩);refine gF (xs:=YcE) (λi H'=>H' D=some (.lst (aE ((((cA c).take i).filterMap nQ).map (zf st))))/\aN H1 H') ⟨ab,ak Ydd hD⟩ YvL ?_ ?_
 ·ext XdI;ext XaG;have hi':i<(cA c).length:=by ext Xak
  ext XbD;have ymem:y∈cA c:=Ydh;rw[take_snoc hs,List.filterMap_append,List.map_append];refine⟨ZaF,q,Zbv,Zcy,ZbZ⟩
  ·obtain⟨f,rfl⟩:=Mf YvD;have hf:f∈(aJ c).map Prod.snd:=by rw[<-mK];exact List.mem_filterMap.mpr ⟨_,ymem,rfl⟩
   obtain⟨p,hp,rfl⟩:=List.mem_map.mp hf;have hsome:(YBV).isSome=true:=by
    have h1:=YyE;cases z:YBV with
    |none=>rw[z]at h1;exact absurd rfl h1
    |some y=>rfl
   have g:=bN.k (k:=Sum.inr (sx p.2)) (sm _ _ C1.Em);rw[Nu C.pf C.ok.ft hsome]at g;refine⟨Zbp,sm _ _ C1.obj,T.bc,T.eI,ZaF,q,Zbv,eA.of hst1,rfl,G.fk,Zaa,g,_,hD',Zae,Ylc⟩
   ·unfold aE;rw[List.length_map,List.length_map];have:=List.length_filterMap_le nQ ((cA c).take i);ext Xa0;omega
   ·rw[ab];ext Xbe;rfl
  ·have hno:nQ y=none:=by
    cases y with
    |flag f=>exact absurd rfl (fu e)
    |_=>rfl
   refine Yu6;rw[List.filterMap_cons_none hno,List.filterMap_nil,List.map_nil,List.append_nil];exact hD'
 rintro H2 ⟨hD2,s2⟩;rw[List.length_map,hlen,List.take_length,<-fl2]at hD2;have C2:=C1.same s2;have hrp2:=s2 _ _ hrp;have lfl:(YlC).length<=200:=by rw[fl2,List.length_map];exact Nat.le_trans Ymn ln
 refine⟨ZaE,Zbl,rp,Zbh,hrp2,T.fG,T.oQ,ZaF,D,(YlC).map YtF,rfl,aV.of (by rw[hD2,List.map_map];rfl),Yz4,λp S n hp h1 h2 h3 hms2=>?_⟩;obtain⟨ms,m1,m2,m3⟩:=hms2;refine⟨p,ZcX⟩;have en:ns'=(Vbnlad.sorted (YlC)).map λn=>((n:Nat):Int):=YjT;subst en;have s3:=ak (o:=NP P w p S n) s2 hp;have s4:=ak (o:=.lst (((Vbnlad.sorted (YlC)).map λn=>((n:Nat):Int)).map V.int)) s3 hq;refine λx dx nx ndx nex=>⟨x,dx,[_,_,_,_,_,_],rfl,⟨_,_,Zbh⟩,Za6⟩;have s5:=made nx ndx k5;have s6:=YqQ;have C5:=C1.same s6;refine⟨Zbp,C5.obj,Zbu,vW.k (k:=YbE) C5.GN Ys9,?_⟩;have hrule:gO A H5 st x {key:=Ygj,first:=YBu,last:=last.toNat,lo:=lo.toNat,hi:=hi.toNat,cond:=nL st c}:=by
  refine⟨dx,sl,q,c,?_,⟨ss,s6 _ _ hsl,Paired.gE hss λ_ _ z=>z.same s6⟩,?_,⟨Ig err,hms,rfl,shc,ln,by show YBu<=last.toNat;have:=okd.2.2;omega,nl.2,by show lo.toNat<=hi.toNat;have:=okr.2.2;omega,nhi.2⟩⟩
  ·rw[h5];dsimp only;rw[nf.1,nl.1,nlo.1,nhi.1];rfl
  ·rw[s5 _ _ ab,List.map_map];rfl
 have o':=V3 C.ok (r:={key:=Ygj,first:=YBu,last:=last.toNat,lo:=lo.toNat,hi:=hi.toNat,cond:=nL st c}) YkZ e12;have Cn:=C5.Zc T _ x hrule o';have p1:putK YfO (YbE) Ypu=CH (G.rl++[Yf9]):=by rw[jJ nok.1];have:=ji Yd3 Yd6 G.rl Yf9;unfold CH;rw[<-this,nk]
 rw[p1];refine k 0 _ _ _ ?_ ((Kp.same (s1.trans s6)).trans (Kp.dict C5.GN)) Cn ?_
 ·rfl
 ·ext Xb1;dsimp only;rw[if_neg (show ¬Vbnlad.RULES<=_ from by unfold Vbnlad.RULES;omega)]
end
section
open Vbnlad (place distinct)
def unlock(hd:H d=YaY)(sm:aN YqF H'):aN H Yo2:=λb o e=>by
 by_cases h:b=d
 ·subst h;rw[hd]at e;injection e with e;rw[ab,e]
 ·exact ai h (sm b o (ai h e))
def Wk{α:Type}{l m:Ydy}(h:l.Perm m)(q:α->Bool):l.any q=m.any q:=by
 rw[Wa2,WbP,WbP];ext XaT
 ·ext XdH;exact⟨x,YA2,e⟩
 ·ext XdH;exact⟨x,h.mem_iff.mpr hx,e⟩
def QW(K:Yaj)(A:bL):Sp:=λvs H Q _=>∃G s day,vs=[Ybz,.int day]/\YaF/\∀H',Ya1->Q (.bl (s.editions.any λx=>((x.day:Nat):Int)==day)) H'
def Aq{α:Type}{kf:α->Nat}{vf:α->V}{l:Ydy}{i:Nat}{k:Key}{x:V}(h:(YhJ)[i]? =some (k,x)):∃p,l[i]? =some p/\x=vf p/\k=Sum.inl ((kf p:Nat):Int):=by obtain⟨p,hp,e⟩:=bE h;injection e with e1 e2;exact⟨p,hp,e2,e1⟩
theorem xX(T:Yas):a6 P w K mg base cN 1 A.iT A.iX YDo (QW K A):=by
 refine T.ox.ok mr Ybh Yab;obtain⟨G,st,day,rfl,C,k⟩:=h;have nd:=mr.nd;refine⟨_,(aj (au (aT (aaI rfl) rfl T.abC aaN (aa (YD (yI (own:=[("edition",2)]) rfl nd (LB Yak) YbT YoJ YcI (λ_ _ _ _ _=>(Dh bY (eX K rfl YaS rfl) YaG Ybo)))) ah)))),?_⟩;ext XdW;refine YtV;refine LH (n:=(YCC).length) (λi H'=>H' D=some (.lst ((G.el.take i).map λp=>V.bl (((p.1.day:Nat):Int)==day)))/\aN Yg1 H') ⟨ab,ak YbG hD⟩ Yvt YyK ?_ ?_
 ·ext Xa4;refine⟨ZcK,Zcw,hD',Zae,Ylc⟩
  ·ext Xe8;rw[List.length_take];omega
  ·rw[ab,take_snoc hp,List.map_append];have e:decide (V.int ((p.1.day:Nat):Int)=V.int day)=(((p.1.day:Nat):Int)==day):=by rw[Bool.eq_iff_iff];simp
   rw[List.map_singleton,<-e]
 ·rintro H' ⟨hD',sm⟩;have nD:D≠G.ed:=λq=>by subst q;rw[ab]at hD;cases hD
  have s2:=unlock C.F6 sm;rw[show(YCC).length=G.el.length from de _ _ _,List.take_length]at hD';refine⟨YBP,D,G.el.map λp=>((p.1.day:Nat):Int)==day,rfl,aV.of (by rw[aA nD,hD',List.map_map];rfl),?_⟩;have e:(G.el.map λp=>((p.1.day:Nat):Int)==day).any id=st.editions.any λx=>((x.day:Nat):Int)==day:=by rw[<-Wk C.pe,List.any_map,List.any_map];rfl
  rw[e];exact k _ s2
def qt:∀l:YdR,distinct l=true↔l.Nodup
 |[]=>by simp[distinct]
 |x::r=>by rw[distinct,WaJ,qt r,Wa7];simp
def XH(s:YaW)(ks:YdR):Int:=if(ks.all λk=>s.rules.any λr=>((r.key:Nat):Int)==k)=false then-6 else if distinct ks=false then-7 else if 8<YbL then-8 else 0
def abp(K:Yaj)(A:bL):Sp:=λvs H Q _=>∃G s a,∃ks:YdR,vs=[Ybz,Ybc]/\YaF/\aV K H a (YgC)/\YbL<=4000/\∀H',Ya1->Q (.int (XH s ks)) H'
def We(C:YaF)(k:Int):(bg YfO YiS).isSome=s.rules.any λr=>((r.key:Nat):Int)==k:=by
 ext Xe5
 ·unfold CH;rw[e7];exact(Ax (C.pr.mem_iff.mp Yln) e8).symm
 ·unfold CH;rw[e7];refine(CA λx hx=>?_).symm;ext Xeo
theorem yN(T:Yas):a6 P w K mg base cN 1 A.jx A.jC YtB (abp K A):=by
 refine T.p9.ok nR Yat Yab;obtain⟨G,st,a,ks,rfl,C,hS,hl,k⟩:=h;have nd:=nR.nd;ext XaK
 refine⟨_,(af (aM (eR (ck (aT (aaJ rfl) rfl T.abD aaO (aa (yI (own:=[("key",2)]) rfl nd (bq YaG) YbT YoJ YcI (λ_ _ _ _ _=>(aaf (BJ hu YaS YoK)))) ah)))) YaD az)
   (af (aM (aC lF (aT Vf rfl T.cP bR Yts) (aT a8 rfl T.cP bR YeW) Ybo) YaD az)
   (af (aM (aC nZ (aT a8 rfl T.cP bR YeW) (cy rfl T.vG) Ybo) YaD az)
   (YnE)))),?_⟩
 unfold XH at k;refine⟨Zaa,a,rfl,⟨_,hS⟩,YeD⟩;refine gF (xs:=YgC) (λi H'=>H' D=some (.lst ((ks.take i).map λk=>V.bl (st.rules.any λr=>((r.key:Nat):Int)==k)))/\Ya1) YoB YEd ?_ ?_
 ·ext XdI;ext XaS;refine⟨rfl,Zbn,sm _ _ C.obj,T.bc,Zby,bN.k (k:=Sum.inl z) (sm _ _ C.GN),_,hD',Ydi,?_,Ylc⟩;rw[ab,take_snoc hz,List.map_append,List.map_singleton,<-We C z]
 rintro H1 ⟨hD1,s1⟩;rw[List.length_map,List.take_length]at hD1;refine⟨D,ks.map λk=>st.rules.any λr=>((r.key:Nat):Int)==k,rfl,aV.of (by rw[hD1,List.map_map];rfl),ZaH⟩
 ·have e1:YkP=true:=e;rw[List.all_map]at e1;rw[if_pos Ybe]at k;exact⟨Zaa,k H1 s1⟩
 have e1:YkP=false:=e;rw[List.all_map]at e1;have e2:YfK=true:=by
  have:YlI=true:=by
   cases h:YlI with
   |true=>rfl
   |false=>rw[h]at e1;cases e1
  exact this
 rw[if_neg (by rw[e2];decide)]at k;refine bx (ba (cV ⟨Zaa,a,ks,rfl,s1.seq hS,YaP,λp S n hp h1 h2 h3 _=>?_⟩));have s2:=ak (o:=NP P w p S n) s1 hp;refine⟨p,S,n,ZcG,ZcA,.inl (s2.seq hS),Zb1⟩
 ·have e3:((n:Nat):Int)<((YgC).length:Nat):=YaQ;rw[List.length_map]at e3;have e4:YBv=false:=by
   cases h:YBv with
   |false=>rfl
   |true=>have:=h3.mp ((qt ks).mp h);omega
  rw[if_pos e4]at k;exact⟨Zaa,k _ s2⟩
 have e3:¬((n:Nat):Int)<((YgC).length:Nat):=YaH;rw[List.length_map]at e3;have e4:YBv=true:=(qt ks).mpr (h3.mpr Yad);rw[if_neg (by rw[e4];decide)]at k;refine bx (ba (cV ⟨ZcA,.inl (s2.seq hS),Zb1⟩))
 ·have e5:(8:Int)<((YgC).length:Nat):=YaQ;rw[List.length_map]at e5;rw[if_pos Yad]at k;exact⟨Zaa,k _ s2⟩
 ·have e5:¬(8:Int)<((YgC).length:Nat):=YaH;rw[List.length_map]at e5;rw[if_neg Yad]at k;exact k _ s2
end
section
open Vbnlad (place distinct putEdition putName keyOk dayOk within Answer nameOf factOf)
def LN(k:Int):tE (.int k) Ydb=within k 0 1:=by
 have h:tE (.int k) Ydb=(decide ((0:Int)=k)||decide ((1:Int)=k)):=by
  unfold tE;simp only[WbL,Wc0,WcA];have e:∀a b:Int,Vz (.int a) (.int b)=YyS:=λa b=>by ext Xg3
  rw[e,e]
 rw[h,Wa2];unfold within;simp only[Wb5,WaJ,War];ext XaT
 ·rintro(rfl|rfl)<;>decide
 ·rintro⟨h1,h2⟩;have h1':(0:Int)<=k:=h1;have h2':k<=(1:Int):=h2;omega
def tH(C:YaF)(k:Int):
  (∃p∈G.el,bg Yd9 YiS=Yf5/\((p.1.key:Nat):Int)=k/\p.1∈Yec)∨(bg Yd9 YiS=none/\∀x∈Yec,((x.key:Nat):Int)≠k):=by
 rcases cD YxB Yd6 G.el k with⟨x,hx,e7,e8⟩|⟨e7,e8⟩
 ·exact .inl ⟨x,hx,e7,e8,C.pe.mem_iff.mp Yln⟩
 ·refine YpF;obtain⟨p,hp,rfl⟩:=WaD.mp (C.pe.mem_iff.mpr hx);exact e8 p hp
def jV(C:YaF)(k:Int):
  (∃p∈G.nl,bg (YoA) YiS=Ycl/\((p.1.key:Nat):Int)=k/\p.1∈YrT)∨(bg (YoA) YiS=none/\∀x∈YrT,((x.key:Nat):Int)≠k):=by
 rcases cD YCp (λp=>V.ref p.2.a) G.nl k with⟨x,hx,e7,e8⟩|⟨e7,e8⟩
 ·exact .inl ⟨x,hx,e7,e8,C.pn.mem_iff.mp Yln⟩
 ·refine YpF;obtain⟨p,hp,rfl⟩:=WaD.mp (C.pn.mem_iff.mpr hx);exact e8 p hp
def qg(C:YaF)(k:Int):
  (∃p∈G.rl,bg YfO YiS=Yf5/\((p.1.key:Nat):Int)=k/\p.1∈YtN)∨(bg YfO YiS=none/\∀x∈YtN,((x.key:Nat):Int)≠k):=by
 ext Xe5
 ·exact .inl ⟨x,hx,e7,e8,C.pr.mem_iff.mp Yln⟩
 ·refine YpF;ext Xeo
def HI(h:(o.isSome)=false):o=none:=by cases o with
 |none=>rfl
 |some x=>cases h
def HG(K:Yaj)(A:bL):Sp:=λvs H Q _=>∃G s key day keeps a,∃ks:YdR,vs=[Ybz,Yxs,.int day,.int keeps,Ybc]/\YaF/\aV K H a (YgC)/\YbL<=4000/\
 ∀n s' H' G',G'.a=G.a->YdG->Yg8->putEdition s key day keeps ks=YAN->YqC
theorem IL(T:Yas):a6 P w K mg base cN 3 A.uI A.uZ Yie (HG K A):=by
 refine T.Bq.ok yj Yax Yab;obtain⟨G,st,key,day,keeps,a,ks,rfl,C,hS,hl,k⟩:=h;have nd:=yj.nd;ext XaK
 refine⟨_,(af Yjf
   (af YBk
   (af (aM Yu2 YaD az)
   (af YgJ
   (af (aM (ck (ay (xX T) Yac rfl T.y9 T.ox.kp T.zP .nil aD Ys2)) YaD az)
   (af (aF (i:=5) nd rfl Yaf (ay (yN T) Yac rfl T.AG T.p9.kp T.AJ .nil aD (aa Yau Yfk)))
   (af (aM (aC lF Yda aq Ybo) (aj (au Yda)) az)
   (af (aM (aC bY YkF (cy rfl T.GP) Ybo) YaD az)
   (af (jg hu Yak YaG (cH T.Rt (GJ T) Yac rfl T.UN T.JT .nil aD (aa YaG (aa YaS (aa Yba (aa (fA NF rfl T.Rr Tn Yfk) ah))))) rfl)
   (YnE)))))))))),?_⟩
 refine Yn3
 ·ext Xhb;exact⟨Zaa,k _ st H G rfl Kp.refl C (by unfold putEdition;rw[if_pos Ybe])⟩
 have ok1:YBS=true:=by ext XgH;ext Xdd
 have i1:¬keyOk key=false:=by rw[ok1];decide
 ext Xc0
 ·have e1:Yy6=true:=e;exact⟨Zaa,k _ st H G rfl Kp.refl C (by unfold putEdition;rw[if_neg i1,if_pos Ybe])⟩
 have ok2:dayOk day=true:=by have e1:Yy6=false:=e;ext Xdd
 have i2:¬dayOk day=false:=by rw[ok2];decide
 refine Yq7;all_goals have s1:=Yqj
 all_goals have C1:=YeA
 ·have e1:(!tE (.int keeps) Ydb)=true:=e;rw[LN]at e1;exact⟨Zaa,k _ st _ G rfl (YlQ) C1 (by unfold putEdition;rw[if_neg i1,if_neg i2,if_pos Ybe])⟩
 have ok3:within keeps 0 1=true:=by have e1:(!tE (.int keeps) Ydb)=false:=e;rw[LN]at e1;ext Xdd
 have i3:¬within keeps 0 1=false:=by rw[ok3];decide
 refine bx (ba (cV ⟨Zbn,ZcM,ZbJ,Zaa,bN.k (k:=YbE) C1.F6,ZaH⟩))
 ·rcases tH C1 key with⟨p,hp,e1,e2,e3⟩|⟨e1,_⟩
  ·exact⟨Zaa,k _ st _ G rfl (YlQ) C1 (by unfold putEdition;rw[if_neg i1,if_neg i2,if_neg i3,if_pos (Ax e3 e2)])⟩
  ·have e2:(bg Yd9 (YbE)).isSome=true:=e;ext Xax
 have vn:bg Yd9 (YbE)=none:=HI e;have nos:∀x∈YiP,((x.key:Nat):Int)≠key:=by
  rcases tH C1 key with⟨p,hp,e1,e2,e3⟩|⟨e1,h⟩
  ·rw[vn]at e1;cases e1
  ·exact h
 have i4:¬(st.editions.any λx=>(x.key:Int)==key)=true:=by rw[CA nos];decide
 refine bx (ba (cV ⟨Zbs,day,rfl,C1,λH2 s2=>⟨ZaH⟩⟩));all_goals have s12:=Ygc
 all_goals have C2:=C.same s12
 ·have e1:YgY=true:=e;exact⟨Zaa,k _ st _ G rfl (Kp.same s12) C2 (by unfold putEdition;rw[if_neg i1,if_neg i2,if_neg i3,if_neg i4,if_pos e1])⟩
 have ed:YgY=false:=e;have i5:¬(st.editions.any λx=>(x.day:Int)==day)=true:=by rw[ed];decide
 refine bx (ba ⟨Zbs,a,ks,rfl,C2,s12.seq hS,hl,λH3 s3=>?_⟩);ext Xdt;by_cases j6:YfK=false
 ·have er:XH st ks= -6:=by unfold XH;rw[if_pos j6]
  ext XgI;exact⟨Zaa,k _ st _ G rfl YwC C3 (by unfold putEdition;rw[if_neg i1,if_neg i2,if_neg i3,if_neg i4,if_neg i5,if_pos j6])⟩
 by_cases j7:YBv=false
 ·have er:XH st ks= -7:=by unfold XH;rw[if_neg j6,if_pos j7]
  ext XgI;exact⟨Zaa,k _ st _ G rfl YwC C3 (by unfold putEdition;rw[if_neg i1,if_neg i2,if_neg i3,if_neg i4,if_neg i5,if_neg j6,if_pos j7])⟩
 by_cases j8:8<YbL
 ·have er:XH st ks= -8:=by unfold XH;rw[if_neg j6,if_neg j7,if_pos j8]
  ext XgI;exact⟨Zaa,k _ st _ G rfl YwC C3 (by unfold putEdition;rw[if_neg i1,if_neg i2,if_neg i3,if_neg i4,if_neg i5,if_neg j6,if_neg j7,if_pos (show Vbnlad.INEDITION<_ from j8)])⟩
 have er:XH st ks=0:=by unfold XH;rw[if_neg j6,if_neg j7,if_neg j8]
 rw[er];refine⟨Zbg,bC Yqs Yhj⟩;have lf:(YCC).length=Yv5:=by have:=C.pe.length_eq;ext XbW;unfold AI;rw[de,this]
 refine bx (ba (cV ⟨Zbp,C3.obj,T.bc,ZbJ,Zaa,C3.F6,ZbZ⟩))
 ·have e11:Yvp=V.int 16:=YaQ;have e12:Yv5=16:=by ext XdT
  exact⟨Zaa,k _ st _ G rfl YwC C3 (by unfold putEdition;rw[if_neg i1,if_neg i2,if_neg i3,if_neg i4,if_neg i5,if_neg j6,if_neg j7,if_neg Yux,if_pos YnA])⟩
 have e11:¬(Yvp=V.int 16):=YaH;have en:=C.ok.en;have e12:Yv5<16:=by refine Nat.lt_of_le_of_ne en λq=>e11 ?_;rw[lf,q];rfl
 have nk:=Hi ok1;have ndy:=lT ok2;have kn:∀x∈ks,((x.toNat:Nat):Int)=x/\∃r∈st.rules,r.key=x.toNat:=λx hx=>by
  have h1:YfK=true:=by simpa using j6
  have h2:=List.all_eq_true.mp h1 x hx;obtain⟨r,hr,er⟩:=List.any_eq_true.mp h2;have:((r.key:Nat):Int)=x:=by simpa using er
  exact⟨YaP,r,hr,YaP⟩
 have kd:YtT:=(qt ks).mp (by simpa using j7);have ek:YgC=aE (YjD):=by unfold aE;ext Xdm;exact List.map_congr_left λx hx=>by show V.int x=V.int ((x.toNat:Nat):Int);rw[(kn x hx).1]
 have ndk:(YjD).Nodup:=by unfold List.Nodup;rw[List.pairwise_map];refine List.Pairwise.imp_of_mem (λ{a b} ha hb h q=>h ?_) kd;rw[<-(kn a ha).1,<-(kn b hb).1,q]
 have pk:(YjD).Perm (Yd2):=(iL ndk (λx hx=>bO.mpr hx) tU).symm;have kb:keeps=if(keeps==1)=true then 1 else 0:=by
  ext Xde;have h1:(0:Int)<=keeps:=ok3.1;have h2:keeps<=(1:Int):=ok3.2;by_cases q:keeps=1
  ·subst q;rfl
  ·have:keeps=0:=Yad;subst this;rfl
 refine bx (ba ⟨ZaE,ZaE,a,Zaa,.inl (s13.seq hS),λl hl2=>?_⟩);have s4:=ak (o:=.lst (YgC)) s13 hl2;refine λx dx nx ndx nex=>⟨x,dx,[_,_,_,_],rfl,⟨Zbh⟩,Za6⟩;have s5:=made nx ndx k5;have s6:=YqQ;have C5:=C.same s6;refine⟨Zbp,C5.obj,T.bc,Zcm,vW.k (k:=YbE) C5.F6 Ys9,?_⟩;have he:FG A H5 x {key:=Ygj,day:=Yw5,keeps:=keeps==1,rules:=Yd2}:=by
  refine⟨dx,l,YjD,ZbG,pk⟩
  ·rw[h5];dsimp only;rw[nk,ndy.1,<-kb];rfl
  ·rw[s5 _ _ ab,ek]
 have o':=Z4 C.ok (e:={key:=Ygj,day:=Yw5,keeps:=keeps==1,rules:=Yd2}) YkZ
  (λy hy z=>by
   have:YgY=true:=Ax (key:=Vbnlad.Edition.day) hy (by rw[<-ndy.1];exact congrArg Int.ofNat z);rw[this]at ed
   cases ed)
  ⟨bP _,by have:=tU (l:=YjD);rw[List.length_map]at this;show(Vbnlad.sorted _).length<=8;omega,λq hq=>by
   obtain⟨y,hy,rfl⟩:=List.mem_map.mp (bO.mp hq)
   exact(kn y hy).2⟩ e12
 have Cn:=C5.ab3 T _ x he o';have p1:putK Yd9 (YbE) Ypu=AI (G.el++[Yl8]):=by rw[jJ vn];have:=ji YxB Yd6 G.el Yl8;unfold AI;rw[<-this,nk]
 rw[p1];refine k 0 _ _ _ ?_ ((Kp.same s6).trans (Kp.dict C5.F6)) Cn ?_
 ·rfl
 ·unfold putEdition;rw[if_neg i1,if_neg i2,if_neg i3,if_neg i4,if_neg i5,if_neg j6,if_neg j7,if_neg Yux,if_neg (show ¬Vbnlad.EDITIONS<=_ from by unfold Vbnlad.EDITIONS;omega)]
def Ov(K:Yaj)(A:bL):Sp:=λvs H Q _=>∃G s key day rank,vs=[Ybz,Yxs,.int day,.int rank]/\YaF/\
 ∀n s' H' G',G'.a=G.a->YdG->Yg8->putName s key day rank=YAN->YqC
def OW(T:Yas):a6 P w K mg base cN 3 A.Cb A.Cq Yio (Ov K A):=by
 refine T.JZ.ok FR Yav Yab;obtain⟨G,st,key,day,rank,rfl,C,k⟩:=h;have nd:=FR.nd;ext XaK
 refine⟨_,(af Yjf
   (af YBk
   (af (aM Ylq YaD az)
   (af YgJ
   (af (aM (aC bY YkF (cy rfl T.Nl) Ybo) YaD az)
   (af (jg hu Yak YaG (cH T.YR (Na T) Yac rfl T.aao T.Qi .nil aD (aa YaS Ye9)) rfl)
   (YnE))))))),?_⟩
 refine Yn3
 ·ext Xhb;exact⟨Zaa,k _ st H G rfl Kp.refl C (by unfold putName;rw[Wap Ybe])⟩
 have ok1:YBS=true:=by ext XgH;ext Xdd
 have i1:¬keyOk key=false:=by rw[ok1];decide
 ext Xc0
 ·have e1:Yy6=true:=e;exact⟨Zaa,k _ st H G rfl Kp.refl C (by unfold putName;rw[Wae i1,Wap Ybe])⟩
 have ok2:dayOk day=true:=by have e1:Yy6=false:=e;ext Xdd
 have i2:¬dayOk day=false:=by rw[ok2];decide
 ext Xc0
 ·have e1:Yzv=true:=e;exact⟨Zaa,k _ st H G rfl Kp.refl C (by unfold putName;rw[Wae i1,Wae i2,Wap Ybe])⟩
 have ok3:within rank 0 Vbnlad.RANKS=true:=by have e1:Yzv=false:=e;ext Xdd
 have i3:¬within rank 0 Vbnlad.RANKS=false:=by rw[ok3];decide
 refine bx (ba (cV ⟨Zbn,Za1,bN.k (k:=YbE) C.CI,ZaH⟩))
 ·rcases jV C key with⟨p,hp,e1,e2,e3⟩|⟨e1,_⟩
  ·have e4:nameOf st key=Yxn:=Yzg;exact⟨Zaa,k _ st _ G rfl Kp.refl C (by unfold putName;rw[Wae i1,Wae i2,Wae i3,Wap (by rw[e4];rfl)])⟩
  ·have e2:(bg (YoA) (YbE)).isSome=true:=e;ext Xax
 have vn:bg (YoA) (YbE)=none:=HI e;have nos:∀x∈Yxm,((x.key:Nat):Int)≠key:=by
  rcases jV C key with⟨p,hp,e1,e2,e3⟩|⟨e1,h⟩
  ·rw[vn]at e1;cases e1
  ·exact h
 have e4:nameOf st key=none:=jW (key:=YkS) nos;have i4:¬(nameOf st key).isSome=true:=by rw[e4];decide
 have lf:(YoA).length=YnN:=by have:=C.pn.length_eq;rw[Waa]at this;unfold Ak;rw[de,this]
 refine bx (ba (cV ⟨Zbp,Za1,C.CI,ZbZ⟩))
 ·have e11:Yyz=V.int 100:=Waf e;have e12:YnN=100:=by ext XdT
  exact⟨Zaa,k _ st _ G rfl Kp.refl C (by unfold putName;rw[Wae i1,Wae i2,Wae i3,Wae i4,Wap YnA])⟩
 have e11:¬(Yyz=V.int 100):=Wag e;have nn:=C.ok.nn;have e12:YnN<100:=by refine WcP nn λq=>e11 ?_;rw[lf,q];rfl
 have nk:=Hi ok1;have ndy:=lT ok2;have nrk:=Ii ok3;refine bx (ba ⟨ZaE,λx dx nx ndx nex=>⟨x,dx,Zbr,ab,λfa pa H2 h2 hfa hpa nfp nfa npa fr2=>⟨Zag⟩⟩⟩);obtain⟨nfa1,nfax⟩:=gU nfa;obtain⟨nfa2,nfad⟩:=gU nfa1;obtain⟨npa1,npax⟩:=gU npa;obtain⟨npa2,npad⟩:=gU npa1;have s2:aN H H2:=λb o e=>by rw[fr2 b Yms (ao e nfa2) (ao e npa2)];exact YCf
 have C2:=C.same s2;refine⟨Zbp,C2.obj,T.bc,ZbU,vW.k (k:=YbE) C2.CI Yzr,?_⟩;have hn:xg K A H2 st ⟨x,dx,fa,pa⟩ {key:=Ygj,day:=Yw5,rank:=rank.toNat}:=by refine⟨?_,⟨[],hfa,YCD⟩,[],hpa,Ydx,YfB⟩;rw[h2,ndy.1,nrk.1]
 have fresh:∀{b:Addr},H b=none->(b∉gr G)/\∀p∈G.nl,b≠p.2.fa/\b≠p.2.pa:=λ{b} nb=>by
  refine⟨λh=>?_,YcB⟩
  ·ext XgN
  ·ext Xca
 have o':=V4 C.ok (n:={key:=Ygj,day:=Yw5,rank:=rank.toNat}) (λy hy z=>nos y hy (by rw[<-nk];exact Wa6 Int.ofNat z)) rfl ⟨ndy.2,nrk.2⟩ e12;have Cn:=C2.Zd T _ ⟨x,dx,fa,pa⟩ hn nfp (fresh nfa2) (fresh npa2) (λp hp=>WaC (ao (YgM).obj nx)) o';have p1:putK (YoA) (YbE) Ypu=Ak (G.nl++[Yk1]):=by rw[jJ vn];have:=ji YCp (λp=>V.ref p.2.a) G.nl Yk1;unfold Ak;rw[<-this,nk]
 rw[p1];refine k 0 _ _ _ ?_ ((Kp.same s2).trans (Kp.dict C2.CI)) Cn ?_
 ·rfl
 ·unfold putName;rw[Wae i1,Wae i2,Wae i3,Wae i4,Wae (show ¬Vbnlad.NAMES<=_ from by unfold Vbnlad.NAMES;omega)]
def VZ(K:Yaj)(A:bL):Sp:=λvs H Q _=>∃G s name flag val,vs=[Ybz,.int name,.int flag,.int val]/\YaF/\
 ∀n s' H' G',G'.a=G.a->YdG->Yg8->Vbnlad.learn s name flag val=YAN->YqC
theorem Ks(T:Yas):a6 P w K mg base cN 1 A.wL A.wU YiO (VZ K A):=by
 refine T.Ej.ok AX Yav Yab;obtain⟨G,st,name,flag,val,rfl,C,k⟩:=h;have nd:=AX.nd;ext XaK
 refine⟨_,(af (aM YtI YaD az)
   (af (aM YtH YaD az)
   (af (aM Yu2 YaD az)
   (af YCx
   (af (aM (gd (BJ hu YaS Ymc)) YaD az)
   (af (jg hu Ymc YaS Yba rfl)
   (af (bz Ycg gf rfl)
   (YnE)))))))),?_⟩
 refine Ysf
 ·ext XaU
  ·ext Xcn
  ·ext Xa3;exact⟨Zaa,k _ st _ G rfl Kp.refl C (by unfold Vbnlad.learn;rw[e4])⟩
 obtain⟨p,hp,vp,kp,mp⟩:∃p∈G.nl,Ybd=Ycl/\((p.1.key:Nat):Int)=name/\p.1∈Yxm:=by
  ext XcQ
  ·exact h
  ·ext Xck
 ext XaF;have ff:=cD YjX Ymy G.fl flag;refine bx (ba (cV ⟨Zcd,ZcZ,bN.k (k:=Yke) C.Jd,ZaH⟩))
 ·have e1:YEj=true:=e;ext Xhk
  ·unfold DL at e1;rw[e5]at e1;cases e1
  ·have e7:(st.flags.any λx=>((x.key:Nat):Int)==flag)=false:=CA λx hx=>e6 x Ysu;refine⟨Zaa,k _ st _ G rfl Kp.refl C ?_⟩;ext Xea;rw[if_pos e7]
 obtain⟨x,hx,ex⟩:∃x∈YtR,((x.key:Nat):Int)=flag:=by
  have e1:YEj=false:=e;ext Xhk
  ·exact⟨x,C.pf.mem_iff.mp hx,e6⟩
  ·unfold DL at e1;rw[e5]at e1;cases e1
 have i2:¬(st.flags.any λx=>(x.key:Int)==flag)=false:=by rw[Ax (key:=Vbnlad.Flag.key) hx ex];decide
 refine Yq7;all_goals have s1:=Yqj
 all_goals have C1:=YeA
 ·have e1:(!tE (.int val) Ydb)=true:=e;rw[LN]at e1;refine YtW;ext Xea;rw[if_neg i2,if_pos Ybe]
 have ok3:within val 0 1=true:=by have e1:(!tE (.int val) Ydb)=false:=e;rw[LN]at e1;ext Xdd
 have i3:¬within val 0 1=false:=by rw[ok3];decide
 ext Xc2;have N:=C1.an p hp;ext Xf7;have fd:=cD YtE YzN fs flag;have fnat:((flag.toNat:Nat):Int)=flag:=Yad;have asc:=(Ypp).1;refine⟨ZaE,Zbe,T.gD,rfl,ZcB,bN.k (k:=Yke) hfs,ZaH⟩
 ·have e1:(bg (xI fs) (Yke)).isSome=true:=e;ext Xhl
  ·refine YtW;have e7:(YAr).isSome=true:=by ext Xgu;exact⟨y,pfs.mem_iff.mp hy,Ym2⟩
   ext Xea;rw[if_neg i2,if_neg i3,if_pos e7]
  ·unfold xI at e1;rw[e5]at e1;cases e1
 have vn:bg (xI fs) (Yke)=none:=HI e;have nof:∀q∈fs,((q.1:Nat):Int)≠flag:=by
  ext Xhl
  ·unfold xI at vn;rw[e5]at vn;cases vn
  ·exact e6
 have YJ:∀q∈p.1.facts,q.1≠flag.toNat:=λq hq z=>nof q (pfs.mem_iff.mpr hq) Yad;have i4:¬(YAr).isSome=true:=by ext Xgu;rintro⟨q,hq,eq⟩;exact YJ q hq (by simpa using eq)
 have vb:val=if(val==1)=true then 1 else 0:=by
  ext Xde;have h1:(0:Int)<=val:=ok3.1;have h2:val<=(1:Int):=ok3.2;by_cases q:val=1
  ·subst q;rfl
  ·have:val=0:=Yad;subst this;rfl
 have ln:(xI fs).length<sizeLine:=by
  unfold xI;rw[de,pfs.length_eq];have h1:(Yli).Nodup:=fH asc;have h2:∀x∈Yli,x∈YzX:=λx hx=>by obtain⟨q,hq,rfl⟩:=List.mem_map.mp hx;obtain⟨y,hy,ey⟩:=(Ypp).2 q hq;exact YyC
  have h3:Yq5<=24:=by ext XaQ
  exact Nat.lt_of_le_of_lt h3 YeP
 refine bx (ba ⟨ZaE,Zbe,T.gD,ZaF,ZcB,vW.k (k:=Yke) hfs ln,?_⟩);have p1:putK (xI fs) (Yke) (.int val)=xI (fs++[Ynw]):=by rw[jJ vn];have:=ji YtE YzN fs Ynw;unfold xI;rw[<-this];dsimp only;rw[fnat,<-vb]
 rw[p1];refine λpa npa=>?_;have na1:p.2.a≠p.2.fa:=bS N.obj hfs Yaq;have na2:p.2.a≠pa:=neN npa (ai na1 N.obj);refine⟨Zaa,p.2.a,ZaG,Ysm,T.dW,T.fC,ZbA⟩;have o':=Ul C.ok mp (x:=Ynw) ⟨x,hx,by show x.key=flag.toNat;omega⟩ YJ;have Cn:=C1.learn T hp hfs pfs Ynw npa o';refine k 0 _ _ _ ?_ ?_ Cn ?_
 ·rfl
 ·exact(((YlQ).trans (Kp.dict hfs)).trans (Kp.same (ak YbG npa))).trans (Kp.name (Ysm))
 ·unfold Vbnlad.learn IY;rw[e4];dsimp only;rw[if_neg i2,if_neg i3,if_neg i4]
end
section
open Vbnlad (leans chain)
def Br(H:Hp)(G:CG)(a:Addr)(L:YuR):Prop:=∃as:Ybw,H a=Yfp/\Paired (λx e=>(e,x)∈G.el) as L
def FG.same(s:Ya1)(h:FG A H a e):FG A H' a e:=by obtain⟨dx,kl,ks,h1,h2,h3⟩:=h;exact⟨dx,kl,ks,YtS,s _ _ h2,h3⟩
def Br.same(s:Ya1)(h:Br H G a L):Br H' G a L:=by obtain⟨as,h1,h2⟩:=h;exact⟨as,YtS,h2⟩
def Kp.eds(T:Yas)(k:YdG)(h:Br H G a L):Br H' G a L:=by obtain⟨as,h1,h2⟩:=h;exact⟨as,k.lst h1,h2⟩
def FG.day(h:FG A H a e):∃dx kl,H a=Ydl:=by obtain⟨dx,kl,ks,h1,_⟩:=h;exact⟨dx,kl,h1⟩
def EK(h:Paired F as L):∀i,Paired F (as.take i) (L.take i):=by
 induction h with
 |nil=>intro i;simp;exact .nil
 |cons h _ ih=>
  intro i;cases i with
  |zero=>exact .nil
  |succ i=>exact .cons h (ih i)
def Ud(K:Yaj)(A:bL):Sp:=λvs H Q _=>∃G s a na L dx x y z,∃d:Nat,vs=[Ybc,.ref na]/\YaF/\Br H G a L/\Ykc<=16/\H na=some (.ins A.eW dx [("day",YeK),x,y,z])/\
 ∀p H',Ya1->H p=none->Br H' G p (bK d L)->Ycd
theorem ie(T:Yas):a6 P w K mg base cN 1 A.iU A.iY Ywa (Ud K A):=by
 refine T.fN.ok mw Ykq Yab;obtain⟨G,st,a,na,L,dx,x,y,z,d,rfl,C,⟨as,ha,hL⟩,hl,hn,k⟩:=h;have nd:=mw.nd
 refine⟨_,(af Yow
   (af (cO PassesOwn.never rfl Yrp (YgU) (af (bp (fI PySem.F.plainAttrs_list PySem.F.slot_list_append PySem.F.type_list_append bF YaS Ye9))
   (aj (aM (PW.pt (A1 (aC bY Yfs aq Ybo) (yD (aC Wt Ye8 Yfs Ybo)))) (aj Wj) az))))
   (Yva))),?_⟩
 refine Yqv;ext XbC;have hlen:Yw6=Ykc:=hL.length;refine bZ (xs:=YbP) (λi σ H'=>∃o3,σ=[Yfd,some (.ref na),Ydn,o3]/\Ya1/\H' D=some (.lst ((as.take i).map V.ref))/\bK d L=L.take i++bK d (L.drop i)) ⟨Za8,sm0,ab,rfl⟩ ?_ ?_ ?_
 ·rintro i σ H' _ ⟨o3,rfl,sm,hd,e⟩;exact YlD
 ·rintro i v σ H1 hx ⟨o3,rfl,sm,hd,el⟩;ext XaG;have hi:i<Ykc:=by ext Xak
  have hs:L[i]? =some L[i]:=Ya7;obtain⟨q',hq',he⟩:=bV hL hs;ext Xaj;have hdr:L.drop i=L[i]::L.drop YcG:=YAa;generalize L[i]=e at hs he hdr;obtain⟨dx2,kl,hob⟩:=(C.ae _ he).day;have s2:aN H (upd H1 D Yii):=Ylc;have eD:(as.take i).map V.ref++[V.ref q]=(as.take YcG).map V.ref:=by rw[take_snoc hq,List.map_append];rfl
  have hd2:upd H1 D Yii D=some (.lst ((as.take YcG).map V.ref)):=by rw[ab,eD]
  have stop:leans e d=false->bK d L=L.take YcG:=λh=>by rw[el,hdr,bK,h,take_snoc hs];rfl
  have fin:leans e d=false->Q Yle (upd H1 D Yii):=λh=>by refine k D _ s2 hD ⟨as.take YcG,hd2,?_⟩;rw[stop h];exact EK hL YcG
  refine⟨Zaa,Ycs,Zaa,D,ZaD,hd,Ydi,?_⟩;refine⟨Zb4,s2 _ _ hob,T.bX,T.xB,rfl,ZaF,bC (λe1=>?_) (λe1=>⟨Zaa,na,Zbh,s2 _ _ hn,ZcU,ZaF,q,Zbh,s2 _ _ hob,T.bX,T.jM,rfl,ZbS,Ybu⟩)⟩
  ·have e3:V.int YlB=Yd4:=Yi6;have e4:e.keeps=false:=by
    cases h:e.keeps with
    |false=>rfl
    |true=>rw[h]at e3;cases e3
   exact⟨Zaa,fin (by unfold leans;rw[e4,Bool.false_and])⟩
  ·have e3:((e.day:Nat):Int)<=((d:Nat):Int):=YgT;exact⟨Zaa,fin (by unfold leans;rw[decide_eq_false (by omega:¬d<e.day),Bool.and_false])⟩
  ·have e3:¬(((e.day:Nat):Int)<=((d:Nat):Int)):=Ygu;have e4:¬(V.int YlB=Yd4):=Yc7;have e5:e.keeps=true:=by
    cases h:e.keeps with
    |true=>rfl
    |false=>rw[h]at e4;exact absurd rfl e4
   refine⟨Zaa,s2,hd2,?_⟩;have h:leans e d=true:=(by unfold leans;rw[e5,decide_eq_true (by omega:d<e.day)];rfl);rw[el,hdr,bK,h,if_pos rfl,take_snoc hs,List.append_assoc];rfl
 ·rintro σ H1 ⟨o3,rfl,sm,hd,el⟩;rw[List.length_map,hlen]at el hd;rw[List.take_length,List.drop_length]at el;rw[<-hlen,List.take_length]at hd;refine⟨Zaa,k D H1 sm hD ⟨as,hd,?_⟩⟩;have e:bK d L=L:=by rw[el];simp[bK]
  rw[e];exact hL
end
def CV(m j:Nat):((m:Nat):Int)*2^(((j:Nat):Int)).toNat=((m*2^j:Nat):Int):=by rw[Wbl,Wdf,Int.natCast_pow];rfl
def abw(h:n<=20):2^n<=1048576:=WcF (by decide:1<=2) h
def bits_le(h:m<2^W):Builtin.Int.intBits ((m:Nat):Int)<=W:=intBits_le_iff.mpr (by rw[Wdl];exact h)
def Q2(h:m<2^(2^n))(hn:n<=20):XF ((m:Nat):Int) ((2^n:Nat):Int):=by have h1:=bits_le h;have h2:=abw hn;ext Xef
def Uv(kf:α->Nat)(vf:α->V)(hx:x∈l)(v:V):putK (YhJ) (YjW) v=dictOf kf (λy=>if kf y=kf x then v else vf y) l:=by
 unfold putK;have h:((YhJ).any λkv=>decide (kv.1=YjW))=true:=by rw[WbP];exact⟨_,WaX hx,Ydx⟩
 rw[Wap h];unfold dictOf;rw[Wax];refine Wa4 λy _=>?_;ext XeJ;by_cases e:kf y=kf x
 ·rw[Wap (by rw[e]),Wap e]
 ·have:¬((Sum.inl ((kf y:Nat):Int):Key)=YjW):=λq=>by injection q with q;omega
  rw[Wae this,Wae e]
def dj(u:Yaw):Yce:=dictOf (λk=>k) (λk=>.int (maskOf u k:Nat)) u.reverse
def J4(A:bL)(dx bd:Addr)(u:Yaw):HO:=.ins A.fO dx [("ways",.int (2^u.length:Nat)),("full",YxS),("bits",.ref bd)]
def Uh(A:bL):Sp:=λvs H Q _=>∃p dx bd u,∃k:Nat,vs=[Yij,.int (k:Nat)]/\H p=Yb6/\H bd=Yrm/\(k::u).Nodup/\Yaz<=20/\
 ∀H',(∀b o,b≠p->b≠bd->H b=YaB->H' b=YaB)->H' p=some (J4 A dx bd (k::u))->H' bd=some (.dK (dj (k::u)))->Ykb
theorem ES(T:Yas):a6 P w K mg base cN 1 A.pq A.pJ YDn (Uh A):=by
 refine T.G5.ok vk Yav Yab;obtain⟨p,dx,bd,u,kk,rfl,hp,hb,ndk,hl,k⟩:=h;have nd:=vk.nd;ext XaK
 refine⟨_,(af (cO PassesOwn.never rfl (bq (fA (RV rfl) rfl T.Rr Tn Ygd)) (Ye6) (aj (Yy hu Yak YaS (a7 Dj YuZ Yak) WV (λ_ _ _=>rfl))))
   (af (jg hu Yak YaG (a7 Dj Yak Yak) rfl)
   (af (eB Yau (a7 Dj Yak Yak) WV)
   (aj (eB Yau Yak gI))))),?_⟩
 have nu:=(List.nodup_cons.mp ndk).2;have nk:=(List.nodup_cons.mp ndk).1;have npb:p≠bd:=bS hp hb Yhi;refine⟨ZbQ,hp,T.bb,T.b8,rfl,bd,Zaa,.inl hb,λl hnl=>⟨l,rfl,⟨_,aV.of ab⟩,?_⟩⟩;have nlp:l≠p:=Ne.symm (ao hp hnl);have nlb:l≠bd:=Ne.symm (ao hb hnl);have ek:(dj u).map (λkv=>YCB)=u.reverse.map λx=>V.int (x:Nat):=by unfold dj dictOf;ext Xdm;rfl
 refine bZ (xs:=(dj u).map λkv=>YCB) (λi σ H'=>∃o2,σ=[some (Yij),some (.int (kk:Nat)),o2]/\(∀b o,b≠bd->upd H l (.lst ((dj u).map λkv=>YCB)) b=YaB->H' b=YaB)/\
   H' bd=some (.dK (dictOf (λk=>k) (λx=>.int ((if x∈Yhy then maskOf Yv0 x else maskOf u x:Nat):Nat)) u.reverse))) ⟨Za8,YsS,?_⟩ ?_ ?_ ?_
 ·rw[aA (Ne.symm nlb),hb];unfold dj;simp
 ·rintro i σ H' _ ⟨o2,rfl,fr,hbd⟩;exact aV.of (fr l _ nlb ab)
 ·rintro i v σ H1 hx ⟨o2,rfl,fr,hbd⟩;rw[ek]at hx;ext XaS;have hp1:H1 p=Yb6:=fr p _ npb (bM hnl hp);have zm:z∈u.reverse:=Yb0;have zu:z∈u:=List.mem_reverse.mp zm;have nr:u.reverse.Nodup:=(YuP).nodup_iff.mpr nu;have znt:z∉u.reverse.take i:=λq=>by have h1:=take_snoc hz;have h2:(u.reverse.take YcG).Nodup:=List.Nodup.sublist (Yiv) nr;rw[h1,List.nodup_append]at h2;exact h2.2.2 z q z Yao rfl
  have g:=bN.k (k:=Ycm) hbd;have nr2:(u.reverse.map λk=>k).Nodup:=by rw[List.map_id'];exact nr
  rw[jX (kf:=λk=>k) nr2 zm]at g;rw[if_neg znt]at g;have ml:maskOf u z<2^(2^Yaz):=JK _ _;refine⟨ZbQ,hp1,Zbk,g,ZbQ,hp1,Zbk,g,ZbQ,hp1,Zbc,ZaD,Q2 ml hl,ZaD,_,vW.k (k:=Ycm) hbd ?_,?_⟩
  ·rw[de,List.length_reverse];exact YCT
  ·refine⟨Zaa,λb o hb2 e=>ai hb2 (fr b o hb2 e),?_⟩;rw[ab];have e1:Builtin.bitOr ((maskOf u z:Nat):Int) (((maskOf u z:Nat):Int)*2^(((2^u.length:Nat):Nat):Int).toNat)=((maskOf Yv0 z:Nat):Int):=by rw[CV,vL,WA (show z≠kk from λq=>nk (q▸zu))]
   dsimp only;rw[e1];have e2:=Uv (λk:Nat=>k) (λx=>V.int ((if x∈Yhy then maskOf Yv0 x else maskOf u x:Nat):Nat)) zm (.int ((maskOf Yv0 z:Nat):Int));rw[e2];ext XeT;congr 1;dsimp only;rw[take_snoc hz];by_cases h:y=z
   ·subst h;ext Xg5
   ·rw[if_neg h];have:(y∈Yhy++[z])↔y∈Yhy:=(by simp[h]);simp only[this]
 ·rintro σ H1 ⟨o2,rfl,fr,hbd⟩;have hp1:H1 p=Yb6:=fr p _ npb (bM hnl hp);rw[ek,List.length_map,List.take_length]at hbd;have hbd2:H1 bd=some (.dK (dictOf (λk=>k) (λx=>.int (maskOf Yv0 x:Nat)) u.reverse)):=by rw[hbd];ext XeT;dsimp only;rw[if_pos hy]
  have fl:YvA<2^(2^Yaz):=JK _ _;have vn:bg (Yzh) (Sum.inl ((kk:Nat):Int))=none:=by
   rcases cD (λk:Nat=>k) YfV u.reverse ((kk:Nat):Int)with⟨y,hy,_,e⟩|⟨e,_⟩
   ·exact absurd (List.mem_reverse.mp hy) (by have:y=kk:=by omega
                                              rw[this];exact nk)
   ·exact e
  refine⟨ZbQ,hp1,Zay,ZbQ,hp1,Zbc,ZaD,Q2 fl hl,ZbQ,hp1,Zbk,vW.k (k:=Sum.inl ((kk:Nat):Int)) hbd2 (by rw[de,List.length_reverse];exact YCT),?_⟩;dsimp only;rw[CV,jJ vn,<-WB];have e3:Yzh++[((Sum.inl ((kk:Nat):Int):Key),V.int (maskOf Yv0 kk:Nat))]=dj Yv0:=by have:=ji (λk:Nat=>k) YfV u.reverse kk;unfold dj;rw[List.reverse_cons,<-this]
  rw[e3];have hp2:upd H1 bd (.dK (dj Yv0)) p=Yb6:=ai npb hp1;refine⟨ZbQ,hp2,Zay,ZbQ,hp2,Zay,ZbQ,hp2,Zbc,ZaD,Q2 fl hl,ZaD,_,_,hp2,Zas⟩;dsimp only;rw[CV,vL,<-W5 (k:=kk)];refine⟨ZbQ,ab,T.bb,T.cF,ZaF,p,Zbh,ab,Zbc,ZaD,_,_,ab,Zas⟩;refine k _ (λb o h1 h2 e=>ai h1 (ai h1 (ai h2 (fr b o h2 (bM hnl e))))) YqH (ai (Ne.symm npb) (ai (Ne.symm npb) ab));have e4:((2^u.length:Nat):Int)+((2^u.length:Nat):Int)=((2^(kk::u).length:Nat):Int):=by rw[List.length_cons,Nat.pow_succ];omega
  unfold J4;rw[<-e4];rfl
def ya(K:Yaj)(A:bL):Sp:=λvs H Q _=>∃p dx a u,vs=[Yij,Ybc]/\H p=some (YBe)/\aV K H a (aE u)/\a≠p/\YrS/\Yaz<=20/\
 ∀bd H',(∀b o,b≠p->H b=YaB->H' b=YaB)->H' p=Yb6->H' bd=Yrm->H bd=none->Ykb
def QO(h:YcS)(ne:a≠p)(fr:∀b o,b≠p->H b=YaB->H' b=YaB):aV K H' a xs:=by
 ext Xb8
 ·exact .inl (.inl (fr _ _ ne h))
 ·exact .inl (.inr ⟨o,fr _ _ ne h⟩)
 ·exact Yku
def iN(T:Yas):a6 P w K mg base cN 2 A.uJ A.u0 YtA (ya K A):=by
 refine T.K5.ok yk Yat Yab;obtain⟨p,dx,a,u,rfl,hp,ha,nap,nu,hl,k⟩:=h;have nd:=yk.nd
 refine⟨_,(af YsO
   (af YsO
   (af Yha
   (aj (cO WaM rfl (OP rfl T.Rq YeW) (Ye6) (aj (bp (dJ Yau T.bb T.EU (ES T) Yac T.GY .nil aD YaM)))))))),?_⟩
 refine⟨ZbD,hp,T.bb,T.cF,Zaj⟩;refine⟨ZbD,ab,T.bb,T.bD,Zai⟩;refine λbd hbd=>?_;have npb:p≠bd:=neN hbd ab;refine⟨ZbD,ai npb ab,T.bb,T.b8,Zao⟩;obtain⟨hbd1,_⟩:=gU hbd;obtain⟨hbd2,_⟩:=gU hbd1;have fr0:∀b o,b≠p->H b=YaB->upd (upd (upd (upd H p (.ins A.fO dx (gu "ways" (Yx7) []))) p (.ins A.fO dx YpY)) bd Ymi) p (.ins A.fO dx (gu "bits" (.ref bd) YpY)) b=YaB:=λb o h e=>ai h (ai (ao e hbd2) (ai h (ai h e)))
 refine⟨ZcA,QO ha nap fr0,?_⟩;refine Jm (n:=(aE u).length) (λi σ H'=>∃o2,σ=[some (Yij),Yfd,o2]/\YvK/\H' p=some (J4 A dx bd (YDe))/\H' bd=some (.dK (dj (YDe)))) ⟨Za8,fr0,ZbG⟩ ?_ ?_ ?_ ?_
 ·rw[Nat.sub_zero,Wb9];exact YgE
 ·rw[Nat.sub_zero,Wb9];exact ai (WaC npb) ab
 ·rintro i σ H' hi ⟨o2,rfl,fr,h1,h2⟩;refine⟨hi,aE u,(aE u)[(aE u).length-1-i],QO ha nap fr,Wam Yad⟩
 ·rintro σ H' _;exact Wau _
 ·rintro i σ H1 hi ⟨o2,rfl,fr,h1,h2⟩ x H' ⟨rfl,hx⟩;have e1:=hx (aE u) (QO ha nap fr);unfold aE at e1 hi;rw[Waa]at e1 hi;obtain⟨z,hz,rfl⟩:=bE e1;have hzl:Yaz-1-i<Yaz:=Yad;have ed:u.drop (Yaz-YcG)=z::u.drop (Yaz-i):=by have e2:Yaz-YcG=Yaz-1-i:=Yad;rw[e2,Wbh hzl];rw[Wam hzl]at hz;injection hz with hz;rw[hz,show Yaz-1-i+1=Yaz-i by omega]
  refine⟨Zaa,p,Zbr,h1,ZaF,p,dx,bd,YDe,z,rfl,Zb7,ZbG,λH2 fr2 g1 g2=>?_⟩
  ·rw[<-ed];exact Wcq (List.drop_sublist _ _) nu
  ·rw[WbY];omega
  ·refine⟨Zaa,λb o hb e=>fr2 b o hb (ao e hbd2) (fr b o hb e),ZbG⟩
   ·rw[ed];exact g1
   ·rw[ed];exact g2
 ·rintro σ H1 ⟨o2,rfl,fr,h1,h2⟩;unfold aE at h1 h2;rw[Waa,Nat.sub_self,List.drop_zero]at h1 h2;exact k bd H1 fr h1 h2 hbd2
section
open Vbnlad (rulesOf ruleOf factOf)
def BG(o:xc s)(hr:r∈YtN):ruleOf s r.key=some r:=by
 unfold ruleOf;cases h:s.rules.find? λx=>x.key==r.key with
 |none=>have:=WaR.mp h r hr;ext Xhj
 |some y=>
  have hy:=WaG h;have ky:y.key=r.key:=by simpa using Wbv h
  rw[cK (cw o.rk) y hy r hr ky]
def qz(H:Hp)(G:CG)(a:Addr)(R:Yd5):Prop:=∃rs:Ybw,H a=YpM/\YkA
def qz.same(e:Ya1)(h:qz H G a R):qz H' G a R:=by obtain⟨rs,h1,h2⟩:=h;exact⟨rs,e _ _ h1,h2⟩
def Oj(K:Yaj)(A:bL):Sp:=λvs H Q _=>∃G s ea e,vs=[Ybz,.ref ea]/\YaF/\FG A H ea e/\e∈Yec/\
 ∀p R H',Ya1->H p=none->qz H' G p R->R.Perm (YdL)->Ycd
theorem kM(T:Yas):a6 P w K mg base cN 1 A.B7 A.Ck Ywb (Oj K A):=by
 refine T.kE.ok FN Yat Yab;obtain⟨G,st,ea,e,rfl,C,⟨dx,kl,ks,h1,h2,h3⟩,he,k⟩:=h;have nd:=FN.nd;ext XaK;have er:=(YyX);refine⟨_,(aj (au (yI (own:=[("key",2)]) rfl nd (bq Ye8) YbT YoJ YcI (λ_ _ _ _ _=>(bw hu YoK YaS Yal))))),?_⟩;refine⟨ZcC,h1,T.bX,T.cM,rfl,kl,rfl,⟨_,aV.of h2⟩,YeD⟩;refine gF (xs:=aE ks) (λi H'=>∃rs:Ybw,H' D=YpM/\Paired (λx r=>(r,x)∈G.rl) rs ((ks.take i).filterMap (ruleOf st))/\Yw1<=i/\Ya1) ⟨[],ab,.nil,YcH,YBW⟩ (λi H' _ p=>by obtain⟨_,_,_,_,sm⟩:=p;exact aV.of (sm _ _ h2)) ?_ ?_
 ·rintro i x H' hx ⟨rs,hD',hp,hrl,sm⟩;ext XaS;have zm:z∈ks:=Yb0;obtain⟨r0,hr0,er0⟩:=er.2.2 z (h3.mem_iff.mp zm);have il:i<5000:=by have h4:=(Yb3).1;have:=h3.length_eq;have:=er.2.1;omega
  rcases qg C ((z:Nat):Int)with⟨p,hp1,e1,e2,e3⟩|⟨_,e2⟩
  ·have g:=bN.k (k:=Ycm) (sm _ _ C.GN);rw[e1]at g;have ez:ruleOf st z=Yxn:=by have:YhZ=z:=Yad;rw[<-this];exact BG C.ok e3
   refine⟨ZaF,ZaL,sm _ _ C.obj,Zbu,g,_,hD',Yjt,rs++[p.2],ZbG,Ym2,Ylc⟩
   ·ext Xd7
   ·rw[take_snoc hz,List.filterMap_append,List.filterMap_cons_some ez];exact Paired.snoc hp hp1
  ·exact absurd (by rw[er0]) (e2 r0 hr0)
 ·rintro H' ⟨rs,hD',hp,hrl,sm⟩;unfold aE at hp;rw[List.length_map,List.take_length]at hp;exact k D _ H' sm hD ⟨rs,hD',hp⟩ (h3.filterMap _)
def CJ(K:Yaj)(H:Hp)(s:YaW)(cur:Nat->YlG)(kvs:Yce):Prop:=∀t,match(YAj).bind (λx=>Ytf)with
 |none=>bg kvs Ygr=none
 |some q=>∃v,bg kvs Ygr=YcV/\Pr K H v q
def CJ.kp(k:YdG)(h:YjF):CJ K H' s cur kvs:=λt=>by
 have:=h t;cases e:(YAj).bind λx=>Ytf with
 |none=>ext Xe4;exact this
 |some q=>ext Xe4;obtain⟨v,h1,h2⟩:=this;exact⟨v,h1,k.pr h2⟩
def B4(o:xc s)(hx:x∈Yhd):bh s x.text=YeH:=by
 unfold bh;cases h:s.flags.find? λy=>y.text==x.text with
 |none=>have:=WaR.mp h x hx;ext Xhj
 |some y=>
  have hy:=WaG h;have ty:y.text=x.text:=by simpa using Wbv h
  rw[cK o.ft y hy x hx ty]
def CJ.put(o:xc s)(hx:x∈Yhd)(hv:Pr K H v q)(h:YjF):
  CJ K H s (λk=>if k=x.key then some q else cur k) (putK kvs (YuN) v):=λt=>by
 rw[N4];by_cases e:t=x.text
 ·subst e;rw[B4 o hx,WbD,Wap rfl];dsimp only;ext Xgm;exact⟨v,rfl,hv⟩
 ·have ne:¬((Sum.inr (sx t):Key)=YuN):=λz=>by injection z with z;exact e (Hv.mp z)
  rw[Wae ne];have:=h t;cases f:YAj with
  |none=>rw[f]at this;exact this
  |some y=>have hy:=WaG f;have ty:y.text=t:=(by simpa using Wbv f);have ky:y.key≠x.key:=λz=>e (by rw[<-ty,cK (cw o.fk) y hy x hx z]);rw[f]at this;simp only[WbD,Wae ky]at this ⊢;exact this
def Df(W rank:Nat):Yaw:=(Yhq).map λr=>if r=rank then a4 W else 0
theorem OI(W rank:Nat):Gn W (λ_=>rank) (Df W rank):=by
 refine⟨by simp[Df],λr hr=>?_⟩;unfold Df;rw[List.getElem?_map,List.getElem?_range hr,Option.map_some];congr 1;by_cases h:r=rank
 ·subst h;rw[if_pos rfl];exact bt λk _=>by simp
 ·rw[if_neg h];exact(i6.mpr λk _=>by simp;exact Ne.symm h).symm
def KH(u:Yaw)(i:Nat)(k:Nat):YlG:=if k∈Yhy then some (maskOf u k,YvA^^^maskOf u k)else none
def ZD(W:Nat)(b:Bool):Nat×Nat:=if b=true then(a4 W,0)else(0,a4 W)
def KG(u:Yaw)(fs:Ybf)(j:Nat)(k:Nat):YlG:=match factOf (fs.take j) k with
 |some b=>some (ZD YeV b)
 |none=>KH u u.length k
def PD(h:∀q∈l,q.1≠p.1)(k:Nat):factOf (l++[p]) k=if k=p.1 then some p.2 else factOf l k:=by
 ext Xfl;rw[WbI];by_cases e:k=p.1
 ·subst e;ext Xgm;have:l.find? (λx=>x.1==p.1)=none:=WaR.mpr λq hq=>by simpa using h q hq
  rw[this];simp
 ·rw[Wae e];cases l.find? λx=>x.1==k with
  |some x=>simp
  |none=>have:¬p.1=k:=WaC e;simp[this]
def PF(h:l.Perm m)(nd:(m.map Prod.fst).Nodup)(k:Nat):factOf l k=factOf m k:=by
 ext Xfl
 rw[find_perm h λx hx y hy a b=>by
  have e1:x.1=k:=by simpa using a
  have e2:y.1=k:=by simpa using b
  exact cK nd x (YA2) y (h.mem_iff.mp hy) (e1.trans e2.symm)]
def Pt(s:YaW)(cur:Nat->YlG)(t:Yaw):Nat×Nat:=((YAj).bind λx=>Ytf).getD (0,0)
def CJ.at(h:YjF):acb K H (Pt s cur) kvs:=λt=>by
 have:=h t;unfold Pt;cases e:(YAj).bind λx=>Ytf with
 |none=>ext Xe4;exact .inl ⟨this,rfl⟩
 |some q=>ext Xe4;obtain⟨v,h1,h2⟩:=this;exact .inr ⟨v,Zb7⟩
theorem U7(o:xc s)(hp:fs.Perm facts)(nd:(facts.map Prod.fst).Nodup):Mb s YeV (cG facts u) (Pt s Yu4):=λx hx=>by
 unfold Pt;rw[B4 o hx,Option.bind_some];unfold KG;rw[List.take_length,PF hp nd];cases e:factOf facts x.key with
 |some b=>
  have:Ype= λ_=>some b:=by funext k;unfold cG;rw[e]
  rw[this,Es];rfl
 |none=>
  unfold KH;rw[show u.reverse.take u.length=u.reverse by rw[<-List.length_reverse,List.take_length]];by_cases hm:x.key∈u
  ·have:Ype= λk=>some (cp u x.key k):=by funext k;unfold cG;rw[e];dsimp only;rw[if_pos hm]
   rw[this,CO];dsimp only;rw[if_pos (List.mem_reverse.mpr hm)];rfl
  ·have:Ype= λ_=>none:=by funext k;unfold cG;rw[e];dsimp only;rw[if_neg hm]
   rw[this,N8];dsimp only;rw[if_neg (λq=>hm (List.mem_reverse.mp q))];rfl
end
section
open Vbnlad (rulesOf ruleOf factOf)
def Ye(hd:H d=some (.jh od Ycn))(h:Yn9):eA K Yof a xs:=by
 ext Xf6
 ·exact YxU
 ·exact Yqq
 ·exact Yku
def CJ.unl(hd:H d=some (.jh od (.dK ks)))(h:YjF):Ywe:=λt=>by
 have:=h t;cases e:(YAj).bind λx=>Ytf with
 |none=>ext Xe4;exact this
 |some q=>ext Xe4;obtain⟨v,h1,a,h2,h3⟩:=this;exact⟨v,h1,a,h2,Ye hd h3⟩
def CJ.dct(hd:H d=some (.dK ks))(h:YjF):Ywe:=λt=>by
 have:=h t;cases e:(YAj).bind λx=>Ytf with
 |none=>ext Xe4;exact this
 |some q=>
  ext Xcs
  ·exact YxU
  ·exact Yqq
  ·exact Yku
def Yf(K:Yaj)(A:bL):Sp:=λvs H Q _=>∃G s p sa dx bd u,vs=[Ybz,YnJ,YvZ]/\YaF/\p∈G.nl/\H sa=Yb6/\H bd=Yrm/\bd≠G.ft/\YrS/\Yaz<=20/\Yzo/\
 ∀wa H',Ya1->H wa=none->xa K A H' s wa YeV (λ_=>YAB) (cG p.1.facts u)->Q (.ref wa) H'
theorem oN(T:Yas):a6 P w K mg base cN 3 A.rO A.rX YpC (Yf K A):=by
 refine T.mh.ok xq Yax Yab;obtain⟨G,st,p,sa,dx,bd,u,rfl,C,hp,hsa,hbd,nbf,nu,hul,huf,k⟩:=h;have nd:=xq.nd;ext XaK;have N:=YgM;ext Xf7;have mp:p.1∈Yxm:=C.pn.mem_iff.mp (List.mem_map_of_mem (f:=Prod.fst) hp);have nfa:=Ypp;have nfs:(fs.map Prod.fst).Nodup:=(YzB).nodup_iff.mpr (fH nfa.1);have lfs:Yte<=24:=by
  rw[pfs.length_eq];have h1:(Yli).Nodup:=fH nfa.1;have h2:∀x∈Yli,x∈YzX:=λx hx=>by obtain⟨q,hq,rfl⟩:=List.mem_map.mp hx;obtain⟨y,hy,ey⟩:=nfa.2 q hq;exact YyC
  ext XaQ
 have text:∀{H':Hp}{x:Vbnlad.Flag},x∈YtR->H' G.ft=Ypj->bN H' G.ft (.int ((x.key:Nat):Int)) (some (tx x.text)):=λ{H' x} hx h=>by have g:=bN.k (k:=Sum.inl ((x.key:Nat):Int)) h;ext XbX
 refine⟨_,(af YC1
   (af (Ae (cO PassesOwn.never rfl (Hf YeX) Ye2 (aj (jg hu Yba YuY (bG (aa (bw hu YeX Ycg Yal) (aa (a7 EL YeX (bw hu YeX Ycg Yal)) ah))) rfl))))
   (af (Ae (cO PassesOwn.never rfl (Hf Ye8) Ye2 (aj (jg hu Yba YuY (OQ (aC bY (bw hu Ye8 Ycg Yal) aq Ybo) YpS (bG (aa aq YqZ))) rfl))))
   (af (iJ (i:=5) (own:=[("rank",6)]) rfl nd rfl rfl YcC (Uz rfl T.SN (aa (a7 mO YqG aq) ah)) YbT Ywh YcI (λ_ _ _ _ _=>(OQ (aC bY YeJ (eX K rfl YaG rfl) Ybo) (eX K rfl YaS rfl) aq)))
   (aj (au (cH T.SO (Du T) Yac rfl T.WI T.Gh .nil aD (aa YeX (aa Yda Ye9))))))))),?_⟩
 refine λD hD=>?_;have nDb:D≠bd:=Ne.symm (ao hbd hD);have s0:aN H (upd H D Ymi):=YBW;refine⟨bd,_,ai (Ne.symm nDb) hbd,YgB,λod=>?_⟩;have hob:upd (upd H D Ymi) bd (.jh od Ydw) sa=Yb6:=ai (bS hsa hbd Yhi) (s0 _ _ hsa);refine⟨ZbX,hob,T.bb,T.b8,rfl,bd,od,rfl,.inl ⟨_,ab,?_⟩⟩;have fr0:∀b o,b≠bd->b≠D->H b=YaB->upd (upd H D Ymi) bd (.jh od Ydw) b=YaB:=λb o h1 h2 e=>ai h1 (ai h2 e);have lbd:(dj u).length=Yaz:=by unfold dj;rw[de,List.length_reverse]
 refine Jm (n:=(dj u).length) (λi σ H'=>∃(o4:Option V)(kvs:List (Key×V)),σ=Yyy/\(∀b o,b≠bd->b≠D->H b=YaB->H' b=YaB)/\H' bd=some (.jh od Ydw)/\H' D=Yiz/\YbM<=i/\CJ K H' st (KH u i) kvs)
  ⟨ZcL,fr0,ab,ai nDb ab,YcH,λt=>?_⟩ (λi σ H' hi q=>?_) (λσ H' q=>?_) ?_ ?_
 ·cases e:(bh st t).bind λx=>KH u 0 x.key with
  |none=>rfl
  |some q=>
   exfalso;cases f:bh st t with
   |none=>rw[f]at e;cases e
   |some x=>rw[f]at e;simp[KH]at e
 ·ext Xeq;exact⟨h,hi⟩
 ·ext Xeq;exact⟨h,YcH⟩
 ·rintro i σ H1 hi ⟨o4,kvs,rfl,fr,hb1,hD1,hk1,fv⟩ x H' ⟨eH,kx,vx,hkx,ex⟩;ext XdZ;have zu:z∈u:=List.mem_reverse.mp (Yb0);obtain⟨f,hf,rfl⟩:=huf z zu;have hsa1:H1 sa=Yb6:=fr sa _ (bS hsa hbd Yhi) (ao hsa hD) hsa;have hob1:H1 G.a=_:=fr G.a _ (bS C.obj hbd Yaq) (ao C.obj hD) C.obj;have hft1:H1 G.ft=Ypj:=fr G.ft _ (Ne.symm nbf) (ao C.Jd hD) C.Jd;have nr:(u.reverse.map λk=>k).Nodup:=by ext Xb6
  have g:bN H1 bd YpJ (some (Yew)):=by refine .inl ⟨dj u,Ypc,.inr ⟨od,hb1⟩,Zag⟩;exact(jX (kf:=λk=>k) (vf:=λk=>V.int (maskOf u k:Nat)) nr Yju).symm
  refine⟨ZbX,hsa1,Zbk,g,ZbX,hsa1,Zay,ZbX,hsa1,Zbk,g,ZaD,Zcn⟩;have s2:=ak (o:=Yje) Ydd ht;refine⟨Zbn,s2 _ _ hob1,T.bc,Zcl,text hf (s2 _ _ hft1),D,Zaa,vW.k (k:=YjN) (s2 _ _ hD1) (Nat.lt_of_le_of_lt hk1 (by rw[lbd]at hi;exact Nat.lt_of_lt_of_le hi (Nat.le_trans hul YeP))),?_⟩;refine⟨Zbr,Ypq,ai (Ne.symm nDb) (s2 _ _ hb1),ab,YpE,?_⟩;have kp:Kp A YzO (upd YzO D (.dK (putK kvs (YjN) (Ysy)))):=Kp.dict (s2 _ _ hD1);have hv:Pr K YzO (Ysy) Yr0:=⟨ZcH,eA.of (ab.trans (by rw[nE]))⟩;have F:=Ypx;have ec:(λk=>if k=f.key then some Yr0 else KH u i k)=KH u YcG:=by
   funext k;unfold KH;rw[take_snoc hz];by_cases e:k=f.key
   ·subst e;ext Xg5
   ·rw[if_neg e];have:(k∈Yhy++[f.key])↔k∈Yhy:=(by simp[e]);simp only[this]
  rw[ec]at F;exact F.kp kp
 rintro σ H1 ⟨o4,kvs,rfl,fr,hb1,hD1,hk1,fv⟩;refine⟨hb1,?_⟩;have sU:∀b o,b≠D->H b=YaB->upd H1 bd Ydw b=YaB:=λb o h e=>by
  by_cases q:b=bd
  ·subst q;rw[hbd]at e;injection e with e;rw[ab,e]
  ·exact ai q (fr b o q h e)
 have S1:aN H (upd H1 bd Ydw):=λb o e=>sU b o (ao e hD) e;have hD2:upd H1 bd Ydw D=Yiz:=ai nDb hD1;have fv2:CJ K (upd H1 bd Ydw) st (KH u u.length) kvs:=by rw[lbd]at fv;exact CJ.unl hb1 fv
 rw[lbd]at hk1;generalize upd H1 bd (.dK (dj u))=H2 at S1 hD2 fv2;clear fr hb1 hD1 fv sU hob fr0;have nDf:D≠p.2.fa:=Ne.symm (ao hfs hD);have hsa2:=S1 _ _ hsa;have hob2:=S1 _ _ C.obj;have hna2:=S1 _ _ N.obj;have hfs2:=S1 _ _ hfs;have hft2:=S1 _ _ C.Jd;have nff:G.ft≠p.2.fa:=λq=>(Yoq).1 (by rw[<-q];simp[gr]);refine⟨p.2.fa,_,hfs2,YgB,λod2=>?_⟩;refine⟨Zca,ai (bS hna2 hfs2 Yaq) hna2,T.dW,T.gD,rfl,p.2.fa,od2,rfl,.inl ⟨_,ab,?_⟩⟩;have lfd:(xI fs).length=Yte:=by unfold xI;rw[de]
 refine Jm (n:=(xI fs).length) (λj σ H'=>∃(o4:Option V)(kvs:List (Key×V)),σ=Yyy/\(∀b o,b≠p.2.fa->b≠D->H2 b=YaB->H' b=YaB)/\H' p.2.fa=some (.jh od2 YkX)/\H' D=Yiz/\YbM<=Yaz+j/\CJ K H' st (KG u fs j) kvs)
  ⟨_,kvs,rfl,λb o h1 _ e=>ai h1 e,ab,ai nDf hD2,hk1,?_⟩ (λi σ H' hi q=>?_) (λσ H' q=>?_) ?_ ?_
 ·have:KG u fs 0=KH u u.length:=rfl;rw[this];exact CJ.dct hfs2 fv2
 ·ext Xeq;exact⟨h,hi⟩
 ·ext Xeq;exact⟨h,YcH⟩
 ·rintro j σ H3 hj ⟨o4,kvs3,rfl,fr,hb3,hD3,hk3,fv3⟩ x H' ⟨eH,kx,vx,hkx,ex⟩;ext XdZ;have zm:z∈fs:=Yb0;obtain⟨f,hf,ef⟩:=nfa.2 z (pfs.mem_iff.mp zm);have hsa3:H3 sa=Yb6:=fr sa _ (bS hsa2 hfs2 Yhi) (ao hsa hD) hsa2;have hob3:H3 G.a=_:=fr G.a _ (bS hob2 hfs2 Yaq) (ao C.obj hD) hob2;have hna3:H3 p.2.a=_:=fr p.2.a _ (bS hna2 hfs2 Yaq) (ao N.obj hD) hna2;have hft3:H3 G.ft=Ypj:=fr G.ft _ nff (ao C.Jd hD) hft2;have g:bN H3 p.2.fa (.int ((z.1:Nat):Int)) (some (.int Yni)):=by refine .inl ⟨xI fs,Sum.inl ((z.1:Nat):Int),.inr ⟨od2,hb3⟩,Zag⟩;exact(jX (kf:=λq:Nat×Bool=>q.1) (vf:=λq=>V.int YfW) nfs zm).symm
  have tx3:∀{H':Hp},aN H3 H'->bN H' G.ft (.int ((z.1:Nat):Int)) (some (tx f.text)):=λ{H'} s=>by have:=text hf (s _ _ hft3);rw[ef]at this;exact this
  have put:∀(t:Addr)(q:Nat×Nat),H3 t=none->q=ZD YeV z.2->∃kvs':Yce,vW (upd H3 t (Yi9)) D (tx f.text) (Ysy) (Yb7)/\
    (∀b o,b≠p.2.fa->b≠D->H2 b=YaB->(Yb7) b=YaB)/\(Yb7) p.2.fa=some (.jh od2 YkX)/\kvs'.length<=Yaz+(j+1)/\CJ K (Yb7) st (KG u fs (j+1)) kvs':=by
   intro t q ht eq;have s2:=ak (o:=Yi9) (YoV) ht;refine⟨putK kvs3 (YjN) (Ysy),vW.k (k:=YjN) (s2 _ _ hD3) ?_,Ypq,ai (Ne.symm nDf) (s2 _ _ hb3),YpE,?_⟩
   ·rw[lfd]at hj;exact Nat.lt_of_le_of_lt (show kvs3.length<=44 by omega) YeP
   ·have F:=CJ.put C.ok hf (v:=Ysy) (q:=q) ⟨ZcH,YhD⟩ (fv3.kp (Kp.same (A:=A) s2));have ec:(λk=>if k=f.key then some q else KG u fs j k)=KG u fs (j+1):=by
     funext k;unfold KG;have nn:∀y∈fs.take j,y.1≠z.1:=λy hy q=>by have h2:((fs.take (j+1)).map Prod.fst).Nodup:=List.Nodup.sublist ((Yiv).map _) nfs;rw[take_snoc hz,List.map_append,List.nodup_append]at h2;exact h2.2.2 y.1 (YrG) z.1 Yao q
     rw[take_snoc hz,PD nn,ef];by_cases e:k=z.1
     ·rw[if_pos e,if_pos e,eq]
     ·rw[if_neg e,if_neg e]
    rw[ec]at F;exact F.kp (Kp.dict (A:=A) (s2 _ _ hD3))
  refine⟨Zca,hna3,T.dW,T.gD,ZaF,ZcB,g,ZbZ⟩
  ·have e1:V.int Yni=YtO:=YaQ;have e2:z.2=true:=by
    cases h:z.2 with
    |true=>rfl
    |false=>rw[h]at e1;cases e1
   refine⟨ZbX,hsa3,Zay,Zcn⟩;obtain⟨kvs',q1,q2,q3,q4,q5⟩:=put t (YvA,0) ht (by rw[e2];rfl);exact Yjk
  ·have e1:¬(V.int Yni=YtO):=YaH;have e2:z.2=false:=by
    cases h:z.2 with
    |false=>rfl
    |true=>rw[h]at e1;exact absurd rfl e1
   refine⟨ZbX,hsa3,Zay,Zcn⟩;obtain⟨kvs',q1,q2,q3,q4,q5⟩:=put t (0,YvA) ht (by rw[e2];rfl);exact Yjk
 rintro σ H3 ⟨o4,kvs3,rfl,fr,hb3,hD3,hk3,fv3⟩;refine⟨hb3,?_⟩;have S2:aN H (upd H3 p.2.fa YkX):=λb o e=>by
  have e2:=S1 b o e;by_cases q:b=p.2.fa
  ·subst q;rw[hfs2]at e2;ext XeO;rw[ab,e2]
  ·exact ai q (fr b o q (ao e hD) e2)
 have hD4:upd H3 p.2.fa YkX D=some (.dK kvs3):=ai nDf hD3;have fv4:CJ K (upd H3 p.2.fa YkX) st Yu4 kvs3:=by rw[lfd]at fv3;exact CJ.unl hb3 fv3
 generalize upd H3 p.2.fa (.dK (xI fs))=H4 at S2 hD4 fv4;refine⟨ZaD,8,rfl,YaT,YaT,λR hR=>?_⟩;refine WO (n:=8) (λi H'=>H' R=some (.lst ((YnS).take i|>.map λn=>Yhu))/\aN H4 H') ⟨ab,ak YbG hR⟩ ?_ ?_
 ·rintro i H' hi ⟨hR',sm⟩;have hb:(YnS)[i]? =some Yj9:=by unfold Df;rw[List.getElem?_map,List.getElem?_range hi,Option.map_some]
  rw[take_snoc hb,List.map_append];have fin:∀n:Nat,n=Yj9->∃acc,H' R=Yg7/\YnF<sizeLine/\(YzW) R=some (.lst (((YnS).take i|>.map λn=>Yhu)++[Yj9].map λn=>Yhu))/\aN H4 (YzW):=by rintro n rfl;refine⟨_,hR',aP (n:=5000) ?_ YeP,by rw[ab];rfl,aS sm hR⟩;ext Xek;omega
  refine⟨ZbM,Zaz,Zaa,sm _ _ (S2 _ _ N.obj),T.dW,T.yT,rfl,ZbZ⟩
  ·have e1:V.int (0+((i:Nat):Int))=YCi:=YaQ;have e2:i=YAB:=(by injection e1 with e1;omega);exact⟨ZbX,sm _ _ (S2 _ _ hsa),Zay,fin _ (by rw[if_pos e2])⟩
  ·have e1:¬(V.int (0+((i:Nat):Int))=YCi):=YaH;have e2:i≠YAB:=λq=>e1 (by rw[q,Int.zero_add]);exact fin 0 (by rw[if_neg e2])
 rintro H5 ⟨hR5,s5⟩;have hR5':H5 R=some (.lst ((YnS).map λn=>Yhu)):=hR5;have S3:=S2.trans s5;refine⟨ZbX,S3 _ _ hsa,Zay,ZaE,λx dx2 nx ndx nex=>⟨x,dx2,Zb3⟩⟩;have s6:=made nx ndx k6;have nxH:H x=none:=by
  cases e:H x with
  |none=>rfl
  |some o=>have:=S3 _ _ e;rw[nx]at this;cases this
 refine k x H6 (S3.trans s6) nxH ⟨YnS,Pt st Yu4,⟨dx2,R,D,kvs3,h6,s6 _ _ hR5',(OI _ _).1,s6 _ _ (s5 _ _ hD4),(fv4.kp (Kp.same (A:=A) (Yu8))).at⟩,OI _ _,U7 C.ok pfs (fH nfa.1)⟩
end
section
open Vbnlad (rulesOf ruleOf factOf passes chain statusOf available or3)
theorem Sm(facts:Ybf)(k:Nat):cG facts [] k=factOf facts:=by funext x;unfold cG;cases factOf facts x<;>rfl
def K4(G:CG)(H H':Hp):Prop:=∀b o,(∀p∈G.nl,b≠p.2.pa)->H b=YaB->H' b=YaB
def K4.same(s:Ya1):Ytk:=λb o _ e=>s b o e
def K4.trans(a:K4 G H H1)(b:K4 G H1 H2):K4 G H H2:=λx o h e=>b x o h (a x o h e)
def K4.kp(C:YaF)(f:Ytk):YdG:=λb o h1 _ e=>f b o (λp hp q=>by
 obtain⟨pl,l1,_⟩:=(YgM).UA;rw[<-q,e]at l1;injection l1 with l1
 exact h1 _ l1) e
def qM(C:YaF)(nx:H x=none)(ndx:H dx=none)(nex:dx≠x)(hl:aV K H l (aE u))(hlx:l≠x)(hld:l≠dx)(nu:YrS)(hu:Yaz<=20)
(k:∀bd H',Ya1->H' x=Yb6->H' bd=Yrm->bd≠G.ft->Ykb):ya K A [.ref x,Ykt] (upd (upd H dx (.own x)) x (YBe)) Q E:=by
 refine⟨x,dx,l,u,ZcG,?_,hlx,nu,hu,λbd H' fr h1 h2 h3=>?_⟩
 ·rcases hl with(h|⟨o,h⟩)|h
  ·exact .inl (.inl (ai hlx (ai hld h)))
  ·exact .inl (.inr ⟨o,ai hlx (ai hld h)⟩)
  ·exact Yku
 ·have sm:Ya1:=λb o e=>fr b o Yms (ai Yms (bM ndx e));refine k bd H' sm h1 h2 λq=>?_;have:=ai (o:=YBe) (ao C.Jd nx) (bM (o:=.own x) ndx C.Jd);rw[<-q,h3]at this;cases this
def Ke(K:Yaj)(A:bL):Sp:=λvs H Q _=>∃G s ea e p,vs=[Ybz,.ref ea,YnJ]/\YaF/\FG A H ea e/\e∈Yec/\p∈G.nl/\∀v H',Ytk->YqA->Pr K H' v (Di s p.1 e)->YC9
theorem BL(T:Yas):a6 P w K mg base cN 6 A.lJ A.lV Yev (Ke K A):=by
 refine T.tP.ok qO Yav Yab;ext XgX;have nd:=qO.nd;ext XaK;have N:=YgM;obtain⟨pl,hpl,npl,vpl⟩:=id N.UA;obtain⟨dxe,kl,hob⟩:=hea.day
 refine⟨_,(af (aM (gd (dh hu Ye8 YeX)) (af Ye7
   (aj (jg hu YeX Ye8 (ay (vq T) Yac rfl T.xE T.pQ.kp T.xN .nil aD (aa (ay (kM T) Yac rfl T.mR T.kE.kp T.nF .nil aD Yy4) (aa YeX Ye9))) rfl))) az)
   (aj (au (bw hu YeX Ye8 Yal)))),?_⟩
 refine⟨ZcC,hob,T.bX,T.fS,ZaF,Zbe,T.fC,rfl,p.2.pa,Zaa,bN.k (k:=Ycr) hpl,Zaa,Ybi⟩
 ·have vn:Yq8=none:=by
   have e2:(!(Yq8).isSome)=true:=e1;cases h:Yq8 with
   |none=>rfl
   |some z=>rw[h]at e2;cases e2
  ext Xdn;ext Xgt;refine qM (u:=[]) C1 nx ndx nex (aV.of ab) (ao ab nx) (ao ab ndx) Yao YeP λbd H2 s2 h2 h3 nbf=>⟨Zag⟩;ext XeQ;refine⟨G,st,p,x,dx,bd,[],rfl,C2,ZbF⟩;ext Xdt;refine⟨Zbs,ea,e,rfl,C3,hea.same s13,he,YCJ⟩;ext Xho;ext XgL;refine⟨Zca,(C4.an p hp).obj,Zcc,Paired.gE prs λ_ _ q=>C4.ar _ q,hW.same s4,λv H5 s5 hv=>?_⟩;ext Xhn;have hpl5:=s15 _ _ hpl;have hv2:Pr K H5 v (Di st p.1 e):=by
   have e3:(qF (2^([]:Yaw).length) λk=>passes (cG p.1.facts [] k) p.1.day p.1.rank R)=Di st p.1 e:=by unfold Di;refine qE λk _=>?_;rw[Sm,yK pR]
   rw[<-e3];exact hv
  have nin:e∉pl.map Prod.fst:=λq=>by
   obtain⟨y,hy,ey⟩:=List.mem_map.mp q;rcases cD Yk5 (λq=>q.2) pl ((e.key:Nat):Int)with⟨z,hz,e4,e5⟩|⟨_,e5⟩
   ·unfold MV at vn;rw[e4]at vn;cases vn
   ·exact e5 y hy (by rw[ey])
  have llen:(MV pl).length<sizeLine:=by
   unfold MV;rw[de];have h1:∀z∈YAX,z∈YiP:=λz hz=>by obtain⟨y,hy,rfl⟩:=List.mem_map.mp hz;exact(vpl y hy).1
   have h2:pl.length<=16:=by refine Nat.le_of_not_lt λq=>?_;have h4:=(iL npl h1 (by rw[List.length_map];have:=C.ok.en;omega)).length_eq;rw[List.length_map]at h4;have:=C.ok.en;omega
   exact Nat.lt_of_le_of_lt h2 YeP
  refine⟨Zca,(C5.an p hp).obj,T.dW,T.fC,ZaF,ea,Zbh,s15 _ _ hob,Zch,vW.k (k:=Ycr) hpl5 llen,?_⟩;have C6:=C5.pass T hp hpl5 npl (λq hq=>⟨(vpl q hq).1,(vpl q hq).2.same s15⟩) he nin hv2;have p1:putK (MV pl) (Ycr) v=MV (pl++[(e,v)]):=by rw[jJ vn];exact ji Yk5 (λq=>q.2) pl (e,v)
  rw[p1];have g:bN (upd H5 p.2.pa (Yf8)) p.2.pa (.int ((e.key:Nat):Int)) (YcV):=by have:=bN.k (k:=Ycr) (ab (H:=H5) (a:=p.2.pa) (o:=Yf8));rw[<-p1,N4,if_pos rfl,p1]at this;exact this
  have ne1:p.2.a≠p.2.pa:=bS N.obj hpl Yaq;have ne2:ea≠p.2.pa:=bS hob hpl Yaq;refine⟨Zca,(C6.an p hp).obj,T.dW,T.fC,ZaF,ea,Zbh,ai ne2 (s15 _ _ hob),Zch,g,?_⟩;exact k v _ (λb o h1 h2=>ai (h1 p hp) (s15 _ _ h2)) C6 ((Kp.dict (A:=A) hpl5).pr hv2)
 ·rcases cD Yk5 (λq=>q.2) pl ((e.key:Nat):Int)with⟨z,hz,e4,e5⟩|⟨e4,e5⟩
  ·have ez:z.1=e:=cK C.ok.ek z.1 (vpl z hz).1 e he Yad;have g:=bN.k (k:=Ycr) hpl;unfold MV at g;rw[e4]at g;refine bx ⟨Zaa,Zbe,T.fC,ZaF,ea,Zbh,hob,Zch,g,?_⟩;refine k z.2 H (K4.same Yay) C ?_;have:=(vpl z hz).2;rw[ez]at this;exact this
  ·have e2:(!(Yq8).isSome)=false:=e1;unfold MV at e2;rw[e4]at e2;cases e2
def Ld(t:Yyk):ZM (qF 1 λ_=>t)=((Vbnlad.code t:Nat):Int):=by rcases t with _|(_|_)<;>decide
def vI(h:e∈YBU):e∈Yec:=by unfold chain at h;exact(Wbf.mp (WbE.mp h)).1
def Au(o:xc s)(v:Nat):(YBU).length<=16:=by unfold chain;rw[Wcm];exact WaF (WaT ..) o.en
def wD:∀{L:List Vbnlad.Edition}{e:Vbnlad.Edition},e∈bK d L->e∈L
 |[],e,h=>by cases h
 |x::L,e,h=>by
  rw[bK]at h;ext XgK
  ·exact Wai ..
  ·split at h
   ·exact Waq _ (wD h)
   ·cases h
def Mt(K:Yaj)(A:bL):Sp:=λvs H Q _=>∃G s p a,∃view:Nat,vs=[Ybz,YnJ,YeI,Ybc]/\YaF/\p∈G.nl/\Br H G a (YsW)/\∀H',Ytk->YqA->Q (.int ((statusOf s p.1 view:Nat):Int)) H'
theorem Dk(T:Yas):a6 P w K mg base cN 7 A.zr A.zE Yk4 (Mt K A):=by
 refine T.zV.ok CZ Yav Yab;obtain⟨G,st,p,a,view,rfl,C,hp,hE,k⟩:=h;have nd:=CZ.nd;have N:=YgM;obtain⟨as,ha,hL⟩:=id hE
 refine⟨_,(af (aM (aC lF YaS Ye8 Ybo) (aj (au (cy rfl T.xG))) az)
   (af (aM (aC bY Yqu aq Ybo) (aj (au (cy rfl T.wG))) az)
   (af (aF (i:=4) nd rfl Yaf YjG)
   (af (cO PassesOwn.never rfl (bq (ay (ie T) Yac rfl T.iP T.fN.kp T.i7 .nil aD (aa Yba YeW))) (YeY) (aj (aF (i:=4) nd rfl Yaf (ay (Ai T) Yac rfl T.DB T.zY.kp T.DZ .nil aD (aa Ycg (aa (ay (BL T) Yac rfl T.Dz T.tP.kp T.DX .nil aD (aa Yau (aa Yda YeW))) ah))))))
   (aj (au (ay (Iy T) Yac rfl T.LG T.FF.kp T.L9 .nil aD Yfk))))))),?_⟩
 unfold statusOf at k;refine⟨ZaE,Zbe,T.iO,rfl,Zb1⟩
 ·have e1:((view:Nat):Int)<((p.1.day:Nat):Int):=YaQ;rw[if_pos Yad]at k;exact k H (K4.same Yay) C
 have e1:¬((view:Nat):Int)<((p.1.day:Nat):Int):=YaH;rw[if_neg Yad]at k;refine bx (ba (cV ⟨Zaa,a,Zcs⟩))
 ·have e2:Yff=Yd4:=YaQ;have e3:YfL=[]:=by ext XbB
  rw[e3]at k;exact k H (K4.same Yay) C
 have e2:¬(Yff=Yd4):=YaH;have k2:∀H',Ytk->YDl->Q (.int ((Vbnlad.code (available st (factOf p.1.facts) p.1.day p.1.rank (YfL)):Nat):Int)) H':=by
  cases hc:YfL with
  |nil=>ext Xa6
  |cons x r=>rw[hc]at k;exact k
 refine bx (ba ⟨Zcn⟩);have s1:=Yqj;ext Xgt;refine⟨Zbs,a,Zci,C1,hE.same s1,YyY,(C1.an p hp).obj,λlp H2 s2 nlp hl2=>?_⟩;obtain⟨as2,ha2,hL2⟩:=hl2;refine Ykv;ext XeQ;ext XgQ;refine bZ (xs:=Yi1) (λi σ H'=>∃(v:V)(o5:Option V),σ=[YgA,Ycl,Yyc,Yfd,YcV,o5]/\K4 G H2 H'/\YDl/\Pr K H' v (qF 1 λ_=>((YbB).take i).foldl (λa e=>or3 a (passes (factOf p.1.facts) p.1.day p.1.rank (YcF))) (YbR)))
  ⟨_,Za8,K4.same YbG,C2,ZcH,eA.of (s2 _ _ YqH)⟩ ?_ ?_ ?_
 ·show YAW=some (HO.tup [.int ((qF 1 λ_=>YbR).1:Nat),.int ((qF 1 λ_=>YbR).2:Nat)]);rw[Mj];rfl
 ·rintro i σ H' _ ⟨v,o5,rfl,fr,C3,hv⟩;exact aV.of ((fr.kp C2).lst ha2)
 ·rintro i x σ H3 hx ⟨v,o5,rfl,fr,C3,hv⟩;ext XaG;have hi:i<(YbB).length:=by ext Xak
  ext XbE;refine⟨ZaE,Zbs,q,e,p,rfl,C3,C3.ae _ he,hem,hp,λv2 H4 fr4 C4 hv2=>?_⟩;refine⟨v,v2,Zbr,(fr4.kp C3).pr hv,hv2,λv3 H5 s5 hv3=>?_⟩;refine⟨v3,Zaa,(fr.trans fr4).trans (K4.same s5),C4.same s5,?_⟩;unfold Di at hv3;rw[wO]at hv3;ext XcV
 ·rintro σ H3 ⟨v,o5,rfl,fr,C3,hv⟩;rw[List.length_map,hlen,List.take_length,pM,Wx]at hv;refine⟨Zaa,v,Zaa,hv,λH4 s4=>?_⟩;rw[Ld];exact k2 H4 ((K4.same s12).trans (fr.trans (K4.same s4))) (C3.same s4)
end
section
open Vbnlad (rulesOf ruleOf factOf passes chain statusOf ruleValue Answer)
theorem nY{ks R:Yaw}{ns':YdR}(hp:ns'.Perm (ks.map λn=>((n:Nat):Int)))(hs:YdU)(hk:ks.Perm R)(ha:K8 R):ns'=R.map λn=>((n:Nat):Int):=by
 have nk:YtT:=hk.nodup_iff.mpr (fH ha);have nd:(ks.map λn=>((n:Nat):Int)).Nodup:=by unfold List.Nodup;rw[List.pairwise_map];exact List.Pairwise.imp (λh q=>h Yad) nk
 rw[sorted_ints (λk=>hp.mem_iff) hs nd (λk=>Iff.rfl) hp.length_eq,Lo ha λx=>hk.mem_iff.symm]
def lB(o:xc s)(he:e∈Yec):(YdL).map Vbnlad.Rule.key=e.rules:=by
 have h:=(o.er e he).2.2;unfold rulesOf;generalize e.rules=l at h;induction l with
 |nil=>rfl
 |cons k l ih=>obtain⟨r,hr,rfl⟩:=h k Ycq;rw[WcN (BG o hr),Waw,ih λx hx=>Ypm]
def OE(h:r∈YdL):r∈YtN:=by obtain⟨k,_,e⟩:=WbX.mp h;exact WaG e
def QV(K:Yaj)(A:bL):Sp:=λvs H Q _=>∃G s,∃view:Nat,vs=[Ybz,YeI]/\YaF/\∀p H',Ya1->H p=none->Br H' G p (YsW)->Ycd
def FH(K:Yaj)(A:bL)(H:Hp)(G:CG)(s:YaW)(c:Yoa)(Q:VK):Prop:=∀p H' G' s'(a:Answer),G'.a=G.a->YdG->Yg8->H p=none->H' p=YoP->YsE=(s',a)->Ycd
def De(n:YfE)(r:YfD):Yyk:=ruleValue YzP n.day n.rank r
def Hd(n:YfE)(t:Yyk)(l:Yd5):Yaw:=(l.filter λr=>De n r==t).map λr=>r.key
def Of(K:Yaj)(A:bL):Sp:=λvs H Q _=>∃G s ea e p,vs=[Ybz,.ref ea,YnJ]/\YaF/\FG A H ea e/\e∈Yec/\p∈G.nl/\
 ∀t f1 f2 H',Ya1->H' t=some (.tup [.ref f1,.ref f2])->H' f1=some (.lst (aE (Hd p.1 (YbR) (YdL))))->H' f2=some (.lst (aE (Hd p.1 none (YdL))))->Q (Ysy) H'
theorem OC(n:YfE)(t:Yyk)(l:Yd5)(r:YfD):Hd n t (l++[r])=Hd n t l++(if(De n r==t)=true then[r.key]else[]):=by unfold Hd;rw[List.filter_append,List.map_append];congr 1;rw[List.filter_cons,List.filter_nil];cases De n r==t<;>rfl
def Hc(n:YfE)(t:Yyk)(l:Yd5):(Hd n t l).length<=Yc9:=by unfold Hd;rw[Waa];exact WaT ..
theorem AB(T:Yas):a6 P w K mg base cN 5 A.kg A.kq Yev (Of K A):=by
 refine T.sE.ok pW Yav Yab;ext XgX;have nd:=pW.nd;ext XaK;obtain⟨dxe,kl,ks,hob,hkl,pk⟩:=id hea;have er:=YyX;have lR:(YcF).length<=8:=by have:=congrArg List.length (lB C.ok he);ext XbW;have:=er.2.1;omega
 refine⟨_,(af Ye7
   (af (aF (i:=4) nd rfl Yaf YgO)
   (af (aF (i:=5) nd rfl Yaf YgO)
   (af (cO PassesOwn.never rfl (bq (aT wX rfl T.jL jk (aa Ye8 ah))) (YfC) (af (aF (i:=7) nd rfl Yaf (ay (Iy T) Yac rfl T.LG T.FF.kp T.L9 .nil aD (aa (ay (uu T) Yac rfl T.wB T.qA.kp T.w6 .nil aD (aa (bw hu Yak YeJ Yal) (aa YeX Ye9))) ah)))
   (aj (aM (aC bY Ypi (cy rfl T.oT) Ybo) (aj (bp (fI PySem.F.plainAttrs_list PySem.F.slot_list_append PySem.F.type_list_append bF Ycg Yj7))) (aj (aM (aC bY Ypi (cy rfl T.F7) Ybo) (aj (bp (fI PySem.F.plainAttrs_list PySem.F.slot_list_append PySem.F.type_list_append bF Yda Yj7))) az))))))
   (aj (au (bG (aa Ycg Yhx)))))))),?_⟩
 ext Xdn;refine qM (u:=[]) (YeA) nx ndx nex (aV.of ab) (ao ab nx) (ao ab ndx) Yao YeP λbd H2 s2 h2 h3 nbf=>⟨Zag⟩;have s12:=Ygc;refine⟨G,st,p,x,dx,bd,[],rfl,C.same s12,ZbF⟩;have s13:=s12.trans s3;refine⟨Ybv,λf1 nf1=>?_⟩;have s4:=ak (o:=Ycx) s13 nf1;refine⟨Ybv,λf2 nf2=>?_⟩;have s5:=ak (o:=Ycx) s4 nf2;have n12:f1≠f2:=neN nf2 ab;refine⟨ZcC,s5 _ _ hob,Za0,YqL,YmF⟩;have en:=nY pn sn pk er.1;rw[<-lB C.ok he,List.map_map]at en;subst en;have s6:=ak (o:=.lst (((YcF).map Yr2).map V.int)) s5 hq;refine Ylr;have nf1H:H f1=none:=by
  cases z:H f1 with
  |none=>rfl
  |some o=>have:=s13 _ _ z;rw[nf1]at this;cases this
 have nf2H:H f2=none:=by
  cases z:H f2 with
  |none=>rfl
  |some o=>have:=s4 _ _ z;rw[nf2]at this;cases this
 have nf1W:H3 f1=none:=nf1;have nf2W:H3 f2=none:=(gU nf2).1;have n1q:f1≠q:=neN hq (ai n12 ab);have n2q:f2≠q:=neN hq ab;have hS:((YcF).map Yr2).map V.int=(YcF).map λr=>V.int ((r.key:Nat):Int):=by ext Xdm;rfl
 rw[hS]at s6;rw[hS];have S36:aN H3 (YjS):=ak (ak (ak (YoV) nf1) nf2) hq
 refine bZ (xs:=(YcF).map λr=>YfG) (λi σ H'=>∃(o6 o7:Option V),σ=[YgA,YDf,Ycl,Yt6,some (.ref f1),some (.ref f2),o6,o7]/\(∀b o,b≠f1->b≠f2->(YjS) b=YaB->H' b=YaB)/\
   H' f1=some (.lst (aE (Hd p.1 (YbR) YlW)))/\H' f2=some (.lst (aE (Hd p.1 none YlW))))
  ⟨none,Za8,λ_ _ _ _ e=>e,ai n1q (ai n12 ab),ai n2q ab⟩ ?_ ?_ ?_
 ·rintro i σ H' _ ⟨o6,o7,rfl,fr,g1,g2⟩;exact aV.of (fr q _ (Ne.symm n1q) (Ne.symm n2q) ab)
 ·rintro i v σ H4 hx ⟨o6,o7,rfl,fr,g1,g2⟩;obtain⟨r,hr2,rfl⟩:=bE hx;have rm:=OE (List.mem_of_getElem? hr2);ext Xd1;have S04:=s13.trans S4;have C4:=C.same S04;obtain⟨pr,hpr,vpr,epr⟩:∃pr∈G.rl,bg YfO (Ypa)=some (Yxf)/\pr.1=r:=by
   rcases qg C4 ((r.key:Nat):Int)with⟨pr,h1,h2,h3,h4⟩|⟨_,h⟩
   ·exact⟨pr,Zb7,cK Yy2 pr.1 h4 r rm Yad⟩
   ·exact absurd rfl (h r rm)
  have g:=bN.k (k:=Ypa) C4.GN;rw[vpr]at g;have hra:=C4.ar pr hpr;rw[epr]at hra;refine⟨Zbp,C4.obj,Zbu,g,Zca,(C4.an p hp).obj,ZcU,ZaF,pr.2,st,r,wa,_,_,_,YCA,rfl,hra,hW.same S4,λv2 H5 s5' hv2=>?_⟩;refine⟨v2,Zaa,hv2,λH6 s6'=>?_⟩;have e3:(qF (2^([]:Yaw).length) λk=>ruleValue (cG p.1.facts [] k) p.1.day p.1.rank r)=qF 1 λ_=>De p.1 r:=by refine qE λk _=>?_;rw[Sm];rfl
  rw[e3,Ld];have S56:=s5'.trans s6';have g1':=S56 _ _ g1;have g2':=S56 _ _ g2;have lt1:(aE (Hd p.1 (YbR) YlW)).length<sizeLine:=aP (n:=5000) (by unfold aE;rw[List.length_map];have:=Hc p.1 (YbR) YlW;rw[List.length_take]at this;omega) YeP;have lt2:(aE (Hd p.1 none YlW)).length<sizeLine:=aP (n:=5000) (by unfold aE;rw[List.length_map];have:=Hc p.1 none YlW;rw[List.length_take]at this;omega) YeP;rw[take_snoc hr2,OC,OC];have addN:∀(l:List Nat)(k:Nat),aE l++[V.int (k:Nat)]=aE (l++[k]):=λl k=>by ext Xbe;rfl
  refine YxK
  ·have e2:Yen=Yd4:=Yi6;have e4:De p.1 r=YbR:=by
    ext XeO;ext XfA
    ·rw[h]at e2;cases e2
    ·rfl
    ·rw[h]at e2;cases e2
   refine⟨Zaa,.inl ⟨Zcw,aV.of g1'⟩,Zaa,f1,ZaD,g1',lt1,?_⟩;refine⟨Zbr,λb o h1 h2 z=>ai h1 (YpD),ZbG⟩
   ·rw[ab,e4,addN];rfl
   ·rw[aA (Ne.symm n12),g2',e4];simp
  ·have e2:¬(Yen=Yd4):=Yc7;refine cV ⟨Zaa,ZaF,bC (λe5=>?_) (λe5=>?_)⟩
   ·have e6:Yen=Yza:=of_decide_eq_true e5;have e4:De p.1 r=none:=by
     injection e6 with e6;ext XfA
     ·rfl
     ·rw[h]at e6;cases e6
     ·rw[h]at e6;cases e6
    refine⟨Zaa,.inl ⟨Zcw,aV.of g2'⟩,Zaa,f2,ZaD,g2',lt2,?_⟩;refine⟨Zbr,λb o h1 h2 z=>ai h2 (YpD),ZbG⟩
    ·rw[aA n12,g1',e4];simp
    ·rw[ab,e4,addN];rfl
   ·have e6:¬(Yen=Yza):=of_decide_eq_false e5;have e4:De p.1 r=Yb8:=by
     ext XfA
     ·rw[h]at e6;exact absurd rfl e6
     ·rw[h]at e2;exact absurd rfl e2
     ·rfl
    refine⟨Zbr,λb o h1 h2 z=>YpD,ZbG⟩
    ·rw[g1',e4];simp
    ·rw[g2',e4];simp
 ·rintro σ H4 ⟨o6,o7,rfl,fr,g1,g2⟩;rw[List.length_map,List.take_length]at g1 g2;ext Xd1;refine⟨ZaE,Zcn⟩;exact k t f1 f2 _ (ak (s13.trans S4) ht) ab (bM ht g1) (bM ht g2)
end
section
open Vbnlad (chain)
def Dg:∀{l:List β}{m:List α},l.Perm (m.map g)->∃m':Ydy,m'.Perm m/\l=m'.map g
 |[],m,h=>by have:=h.length_eq;rw[Waa]at this;exact⟨[],by rw[Wbg.mp this.symm],rfl⟩
 |b::l,m,h=>by obtain⟨a,ha,rfl⟩:=WaD.mp (h.mem_iff.mp Ycq);obtain⟨s,t,rfl⟩:=List.append_of_mem ha;have h1:(a::(s++t)).Perm (s++a::t):=List.perm_middle.symm;have h2:(g a::l).Perm (g a::(s++t).map g):=h.trans (h1.symm.map g);obtain⟨m',e1,e2⟩:=Dg h2.cons_inv;exact⟨a::m',(e1.cons a).trans h1,by rw[Waw,e2]⟩
def Iq:∀{l:List (α×Addr)},(∀p∈l,R p.2 p.1)->Paired R (l.map Prod.snd) (l.map Prod.fst)
 |[],_=>.nil
 |p::l,h=>.cons (h p Ycq) (Iq λq hq=>h q (Waq _ hq))
def IU{α:Type}{f:α->Nat}{S:Ydy}(nd:(S.map f).Nodup):∀{l m:List α},(∀x∈l,x∈S)->(∀x∈m,x∈S)->YvV=m.map f->l=m
 |[],[],_,_,_=>rfl
 |[],_::_,_,_,h=>by cases h
 |_::_,[],_,_,h=>by cases h
 |x::l,y::m,h1,h2,h=>by rw[Waw,Waw]at h;injection h with e1 e2;rw[cK nd x (h1 x Ycq) y (h2 y Ycq) e1,IU nd (λz hz=>h1 z (Waq _ hz)) (λz hz=>h2 z (Waq _ hz)) e2]
def ND{s:YaW}(o:xc s){view:Nat}{E:YuR}(hp:E.Perm (s.editions.filter λe=>YmI))(hs:E.Pairwise λa b=>b.day<=a.day):E=YsW:=by
 have asc2:K8 ((s.editions.filter λe=>YmI).map Vbnlad.Edition.day):=Wc1 (List.filter_sublist.map _) o.ed;have nd:(YD8).Nodup:=(hp.map _).nodup_iff.mpr (fH asc2);have asc1:K8 (YwR):=by
  rw[List.map_reverse];unfold K8;rw[List.pairwise_reverse];have h1:(YD8).Pairwise λa b=>b<=a:=by rw[Wcx];exact hs
  exact(h1.and nd).imp λh=>by have:=h.1;have:=h.2;omega
 have e1:YwR=(s.editions.filter λe=>YmI).map Vbnlad.Edition.day:=tM asc1 asc2 λx=>by rw[List.map_reverse,WbE];exact(hp.map _).mem_iff
 have e2:=IU (cw o.ed) (λx hx=>(Wbf.mp (hp.mem_iff.mp (WbE.mp hx))).1) (λx hx=>(Wbf.mp hx).1) e1;unfold chain;rw[<-e2,List.reverse_reverse]
def bf.okC{P:Program}{w:World}{K:Yaj}{mg:Str->Yci}{base:Heap}{x qual:Str}{st:Stmt}{f:Addr}{fd:FuncData}{N ps:YeB}{k:Nat}{sp:Sp}(F:YuK)(S:aB N ps (ax st))(len:∀vs H Q E,YlL->Yd7=Yez)
(hbody:∀(cdv:Value)(A:Around)(outer:List Env)(s:Shared)(H:Hp)(vs:List V)(Q:VK)(E:XK),fd.code=cdv->Yk8->YlL->
   ∃t,Tt (YmD).nox (Hn st) t/\t {nx:=λ_ H'=>Ykb,rt:=Q} (Ytt) H):Yt0:=by
 obtain⟨oc,od,kV,doc,pm,an,cdv,ct,osl,e,lk,hcd⟩:=F.ex;have ec:fd.code=cdv:=by rw[e]
 subst e;ext Xfr;obtain⟨t,h,q⟩:=hbody cdv A outer s H vs Q E ec hr hsp;exact⟨t,h.nox,q⟩
theorem cJ(T:Yas):a6 P w K mg base cN 1 A.kj A.gK YkQ (QV K A):=by
 obtain⟨c,ecd,hCd⟩:=T.X8;refine bf.okC T.cz pY Ybh (λcdv Ar outer s H vs Q E hcv hr h=>?_);obtain⟨G,st,view,rfl,C,k⟩:=h;have nd:=pY.nd;have hcode:cdv=YvC:=by rw[<-hcv];exact ecd
 have hdp:=Nat.lt_of_le_of_lt (Nat.le_trans YrO YrO) hr.dp
 refine⟨_,(af (Ae (iJ (i:=2) (own:=[("edition",3)]) rfl nd rfl rfl YcC (LB Yak) YbT Ywg (λ_ _ _ _ _=>qh (aC my (eX K rfl Yba rfl) YaG Ybo)) (λ_ _ _ _ _=>(pv 3))))
   (aj (au (MR rfl rfl T.jL hdp hcode rfl hCd rfl rfl rfl ⟨⟨Zbr⟩,λ_ _ _ _ _=>rfl,ZaI,YaT,ZaI,rfl,λ_ _=>rfl⟩ YaM)))),?_⟩
 ext XdW;have l16:G.el.length<=16:=by ext Xe8;omega
 refine YtV;refine LH (n:=(YCC).length) (λi H'=>H' D=some (.lst (((G.el.take i).filter λp=>decide (YCA<=view)).map λp=>V.ref p.2))/\aN Yg1 H') ⟨ab,ak YbG hD⟩ Yvt YyK ?_ ?_
 ·ext Xa4;rw[take_snoc hp,List.filter_append,List.map_append];refine⟨ZcK,Zb1⟩
  ·have e1:((p.1.day:Nat):Int)<=((view:Nat):Int):=YaQ;refine⟨Zaa,_,hD',Zae,Ylc⟩
   ·ext Xg7;have:=List.length_filter_le (λp:Vbnlad.Edition×Addr=>decide (YCA<=view)) (G.el.take i);ext Xa0;omega
   ·rw[ab,List.filter_cons,if_pos (decide_eq_true Yad)];rfl
  ·have e1:¬((p.1.day:Nat):Int)<=((view:Nat):Int):=YaH;refine Yu6;rw[List.filter_cons,if_neg (by rw[decide_eq_false (by omega:¬p.1.day<=view)];decide),List.filter_nil,List.map_nil,List.append_nil];exact hD'
 ·rintro H1 ⟨hD1,sm⟩;have nD:D≠G.ed:=λq=>by subst q;rw[ab]at hD;cases hD
  have s2:=unlock C.F6 sm;rw[show(YCC).length=G.el.length from de _ _ _,List.take_length]at hD1;refine⟨YBP,?_⟩;generalize hF:(G.el.filter λp=>decide (p.1.day<=view))=F at hD1;have hD2:upd H1 G.ed (.dK Yd9) D=some (.lst ((YDx).map V.ref)):=by rw[aA nD,hD1,List.map_map];rfl
  have C2:=C.same s2;have inF:∀p∈F,p∈G.el:=λp hp=>by rw[<-hF]at hp;exact(List.mem_filter.mp hp).1
  refine⟨Zaa,D,A.eQ,YDx,F.map (λp=>((p.1.day:Nat):Int)),rfl,C2.tab,hD2,T.bX,T.jM,?_,λD2 as' H3 s3 nD2 hD3 sb=>?_⟩
  ·have:∀l:YzJ,(∀p∈l,p∈G.el)->Paired (λa(k:Int)=>∃dx fs,upd H1 G.ed (.dK Yd9) a=some (.ins A.eQ dx fs)/\fs.lookup ("day":Str)=some (.int k)) (l.map Prod.snd) (l.map λp=>((p.1.day:Nat):Int)):=λl=>by
    induction l with
    |nil=>exact λ_=>.nil
    |cons p l ih=>intro h;obtain⟨dx,kl,e⟩:=(C2.ae p (h p YfH)).day;exact .cons ⟨dx,_,e,rfl⟩ (ih λq hq=>h q (List.mem_cons_of_mem _ hq))
   exact this F inF
  ·obtain⟨ps,hp1,rfl,hp3⟩:=sb;have ez:(F.map λp=>((p.1.day:Nat):Int)).zip (YDx)=F.map λp=>(((p.1.day:Nat):Int),p.2):=by rw[List.zip_map']
   rw[ez]at hp1;obtain⟨F',pF,rfl⟩:=Dg hp1;have eE:F'.map Prod.fst=YfL:=by
    refine ND C.ok ?_ ?_
    ·have h1:(F'.map Prod.fst).Perm (F.map Prod.fst):=pF.map _;refine h1.trans ?_;rw[<-hF];have h2:=C.pe.filter λe=>YmI;rw[List.filter_map]at h2;exact h2
    ·rw[List.pairwise_map]at hp3 ⊢;exact hp3.imp λ{a b} h=>by have:((b.1.day:Nat):Int)<=((a.1.day:Nat):Int):=h;omega
   have np:H D2=none:=by
    cases e:H D2 with
    |none=>rfl
    |some u=>rw[s2 _ _ e]at nD2;cases nD2
   refine k D2 H3 (s2.trans s3) np ⟨F'.map Prod.snd,ZbG⟩
   ·rw[hD3];simp only[List.map_map];rfl
   ·rw[<-eE];exact Iq λp hp=>inF p (pF.mem_iff.mp hp)
end
section
open Vbnlad (rulesOf ruleOf factOf passes chain statusOf ruleValue Answer nameOf dayOk)
def aG.fresh(C:YaF)(nb:H b=none):(b∉gr G)/\∀p∈G.nl,b≠p.2.fa/\b≠p.2.pa:=by
 refine⟨λh=>?_,YcB⟩
 ·ext XgN
 ·ext Xca
def aG.out(T:Yas)(C:YaF)(hd:H D=Yiz)(n:(D∉gr G)/\∀p∈G.nl,D≠p.2.fa/\D≠p.2.pa):aG K A Yvg G s:=by have kp:Kp A H Yvg:=Kp.dict hd;have tn:∀t∈gr G,t≠D:=λt ht q=>n.1 (q▸ht);ext Xas;exact N.kp kp (λu h=>ai (bS N.obj hd Yaq) h) (λu h=>ai (WaC (n.2 q hq).1) h) (λu h=>ai (WaC (n.2 q hq).2) h)
def abz(C:YaF)(hn:n∈YrT):∃p∈G.nl,p.1=n/\bg (YoA) (Ypb)=Ycl:=by
 rcases jV C ((n.key:Nat):Int)with⟨p,hp,e1,e2,e3⟩|⟨_,h⟩
 ·exact⟨p,hp,cK Yo3 p.1 e3 n hn Yad,e1⟩
 ·exact absurd rfl (h n hn)
def J7(s:YaW)(view:Nat)(l:List Vbnlad.Name):Yce:=dictOf YpG (λn=>.int ((statusOf s n view:Nat):Int)) l
def Og(K:Yaj)(A:bL):Sp:=λvs H Q _=>∃G s,∃view:Nat,vs=[Ybz,YeI]/\YaF/\
 ∀D H',Ytk->YqA->H D=none->H' D=some (.dK (J7 s view s.names))->Q Yle H'
theorem rC(T:Yas):a6 P w K mg base cN 8 A.uD A.uN YkQ (Og K A):=by
 refine T.nO.ok yd Ybh Yab;obtain⟨G,st,view,rfl,C,k⟩:=h;have nd:=yd.nd;ext XaK
 refine⟨_,(af (aF (i:=2) nd rfl Yaf (ay (cJ T) Yac rfl T.cR T.cz.kp T.cT .nil aD Yy4))
   (af YC1
   (af (cO PassesOwn.never rfl (bq (aT (JB rfl) rfl T.jL jk Ygd)) Ye2 (aj (jg hu Yba Ycg (ay (Dk T) Yac rfl T.FZ T.zV.kp T.Gg .nil aD (aa Yau (aa YuY YiN))) rfl)))
   (YBy)))),?_⟩
 refine⟨Zbs,view,rfl,C,YhM⟩;ext Xgt;refine λD hD=>?_;have hD0:H D=none:=by
  cases z:H D with
  |none=>rfl
  |some o=>have:=s1 _ _ z;rw[hD]at this;cases this
 have s2:=ak (o:=.dK []) s1 hD;have C2:=C.same s2;have s12:=ak (o:=.dK []) Ydd hD;have ek:(YoA).map (·.1)=((G.nl.map λp=>YhZ).map λn=>((n:Nat):Int)).map (Sum.inl:Int->Key):=by unfold Ak dictOf;ext XgA
 refine⟨Zbp,C2.obj,T.bc,T.bI,rfl,G.na,Zbr,.inl C2.CI,ek,YmF⟩;have pk:(G.nl.map λp=>YhZ).Perm (st.names.map Vbnlad.Name.key):=by have:=YD9;rw[List.map_map]at this;exact this
 have en:=nY pn sn pk C.ok.nk;rw[List.map_map]at en;subst en;have hS:(st.names.map ((λn=>((n:Nat):Int))∘Vbnlad.Name.key)).map V.int=st.names.map λn=>V.int ((n.key:Nat):Int):=by ext Xdm;rfl
 rw[hS];refine Ylr;have s3:=ak (o:=Yoz) (same_refl (upd H1 D Ymi)) hq;have nDq:D≠q:=neN hq ab;have fD:=C.fresh hD0;refine bZ (xs:=st.names.map λn=>V.int ((n.key:Nat):Int)) (λi σ H'=>∃o4,σ=[YgA,Yyc,some (.ref ip),Ydn,o4]/\(∀b o,b≠D->(∀p∈G.nl,b≠p.2.pa)->(upd (upd H1 D Ymi) q (Yoz)) b=YaB->H' b=YaB)/\YDl/\H' D=some (.dK (J7 st view (Yg6))))
  ⟨Za8,λ_ _ _ _ e=>e,(C1.same s12).same s3,ai nDq ab⟩ ?_ ?_ ?_
 ·rintro i σ H' _ ⟨o4,rfl,fr,C3,hD3⟩;refine aV.of (fr q _ (Ne.symm nDq) (λp hp z=>?_) ab);obtain⟨l',l1,_⟩:=(C2.an p hp).UA;rw[<-z,hq]at l1;cases l1
 ·rintro i v σ H3 hx ⟨o4,rfl,fr,C3,hD3⟩;obtain⟨n,hn,rfl⟩:=bE hx;have nm:=Yqp;obtain⟨p,hp,rfl,vp⟩:=abz C nm;have g:=bN.k (k:=Yng) C3.CI;rw[vp]at g;have kp3:∀{b:Addr}{o:HO},(∀z,o≠ .dK z)->H1 b=YaB->H3 b=YaB:=λ{b o} nk e=>by refine fr b o (ao e hD) (λp hp z=>?_) (s3 _ _ (s12 _ _ e));obtain⟨l',l1,_⟩:=(C1.an p hp).UA;rw[<-z,e]at l1;injection l1 with l1;exact nk _ l1
  have hip3:Br H3 G ip (YfL):=by obtain⟨as,h1,h2⟩:=hip;exact⟨as,kp3 (by intro z y;cases y) h1,h2⟩
  refine⟨Zbn,C3.obj,T.bc,ZbU,g,Zbs,p,ip,view,rfl,C3,hp,hip3,λH4 fr4 C4=>?_⟩;have hD4:=fr4 D _ (λp hp=>(fD.2 p hp).2) hD3;have vn:bg (J7 st view (Yg6)) (Yng)=none:=by
   rcases cD YpG Yqf (Yg6) ((p.1.key:Nat):Int)with⟨y,hy,e1,e2⟩|⟨e1,_⟩
   ·have h2:((st.names.take YcG).map Vbnlad.Name.key).Nodup:=List.Nodup.sublist ((Yiv).map _) Yo3;rw[take_snoc hn,List.map_append,List.nodup_append]at h2;exact absurd (by omega:y.key=YhZ) (h2.2.2 y.key (YrG) p.1.key Yao)
   ·exact e1
  refine⟨ZaE,D,Zaa,vW.k (k:=Yng) hD4 ?_,?_⟩
  ·unfold J7;rw[de,List.length_take];exact Nat.lt_of_le_of_lt (Nat.le_trans (Nat.min_le_right ..) C.ok.nn) YeP
  ·refine⟨Zaa,λb o h1 h2 e=>ai h1 (fr4 b o h2 (fr b o h1 h2 e)),C4.out T hD4 fD,?_⟩;rw[ab,jJ vn,take_snoc hn];congr 2;exact ji YpG Yqf (Yg6) p.1
 ·rintro σ H3 ⟨o4,rfl,fr,C3,hD3⟩;rw[List.length_map,List.take_length]at hD3;exact⟨Zaa,k D H3 (λb o h e=>fr b o (ao e hD0) h (s3 _ _ (s12 _ _ (s1 _ _ e)))) C3 hD0 hD3⟩
end
section
open Vbnlad (rulesOf ruleOf factOf passes chain statusOf ruleValue Answer nameOf dayOk within)
def Hy:(Yjx=3/\v<n.day)∨(Yjx=4/\YBU=[])∨(Yjx<=2/\∃e r,YBU=e::r):=by
 unfold statusOf;by_cases h:v<n.day
 ·exact .inl ⟨Wap h,h⟩
 ·rw[Wae h];cases hc:YBU with
  |nil=>exact .inr (.inl Ytb)
  |cons e r=>refine .inr (.inr ⟨?_,e,r,rfl⟩);dsimp only;rcases Vbnlad.available s YzP n.day n.rank (e::r)with _|(_|_)<;>decide
def Od(hn:Ywr=Yx3)(hd:Yp4=true)(h3:YkB≠3)(hc:YoF=e::r):
  Vbnlad.step s Yu5=(s,.status (YkB) e.key (Hd n (YbR) (YdL)) (Hd n none (YdL))):=by
 simp only[Vbnlad.step,hn,hd];rw[hc];rw[Wae YeP];generalize statusOf s n view.toNat=c at h3;split
 ·exact absurd rfl h3
 ·rename_i h;cases h
 ·rename_i h;cases h;rfl
def Mn(hn:Ywr=Yx3)(hd:Yp4=true)(h:YkB=3∨YoF=[]):
  Vbnlad.step s Yu5=(s,.status (YkB) 0 [] []):=by
 simp only[Vbnlad.step,hn,hd];rw[Wae YeP];rcases h with h|h
 ·rw[h];cases chain s view.toNat<;>rfl
 ·rw[h];generalize statusOf s n view.toNat=c;split
  ·rfl
  ·rfl
  ·rename_i q;cases q
def MC(c k:Nat)(F U:Yaw):(VbnladNeutral.shown (.status c k F U)).map V.int=([V.int (c:Nat),.int (k:Nat),.int (F.length:Nat)]++aE F++[.int (U.length:Nat)])++aE U:=by ext Xdl;rfl
def abK(k:Int):tE (.int k) YsC=(decide ((3:Int)=k)||decide ((4:Int)=k)):=by
 unfold tE;simp only[WbL,Wc0,WcA];have z:∀a b:Int,Vz (.int a) (.int b)=YyS:=λa b=>by ext Xg3
 rw[z,z]
def aH(l:Yaw):(aE l).length=Yc9:=Waa ..
def Ew(K:Yaj)(A:bL):Sp:=λvs H Q _=>∃G s name view,vs=Yo9/\YaF/\FH K A H G s Yu5 Q
def same_none(s:Ya1)(h:H' a=none):H a=none:=by
 cases z:H a with
 |none=>rfl
 |some o=>have:=s _ _ z;rw[h]at this;cases this
def Ni(C:YaF)(C':YqA)(f:Ytk)(h:H' a=none):H a=none:=by
 cases z:H a with
 |none=>rfl
 |some o=>
  by_cases q:∃p∈G.nl,a=p.2.pa
  ·obtain⟨p,hp,rfl⟩:=q;obtain⟨l',l1,_⟩:=(C'.an p hp).UA;rw[h]at l1;cases l1
  ·have:=f a o (λp hp e=>q ⟨p,hp,e⟩) z;rw[h]at this;cases this
theorem EM(T:Yas):a6 P w K mg base cN 8 A.oX A.pB YbS (Ew K A):=by
 refine T.xQ.ok vh Yat Yab;ext Xei;have nd:=vh.nd;ext XaK
 refine⟨_,(af YgI
   (af YBj
   (af (aF (i:=3) nd rfl Yaf Yfo)
   (af (aF (i:=4) nd rfl Yaf Ye3)
   (af (aF (i:=5) nd rfl Yaf (ay (Dk T) Yac rfl T.FZ T.zV.kp T.Gg .nil aD (aa Yau (aa Yba (aa YaS Yfk)))))
   (af (aM (aC fB Yda (bG (aa (cy rfl T.xG) (aa (cy rfl T.wG) ah))) YaO) (aj (au (aQ (aa Yda (aa aq (aa aq YdC)))))) az)
   (af (aF (i:=6) nd rfl Yaf (ay (AB T) Yac rfl T.BX T.sE.kp T.Cw .nil aD (aa Yau (aa (aU a5 Ycg aq Yal) Ye9))))
   (aj (au (a7 ic (a7 ic (a7 ic (aQ (aa Yda (aa (aw (aU a5 Ycg aq Yal) rfl) Ysd))) Yic) (aQ Ysd)) Yic)))))))))),?_⟩
 refine Ysf
 ·ext XaU
  ·ext Xcn
  ·ext XbI
 obtain⟨p,hp,vp,kp,mp⟩:∃p∈G.nl,Ybd=Ycl/\((p.1.key:Nat):Int)=name/\p.1∈Yxm:=by
  ext XcQ
  ·exact h
  ·ext Xck
 ext XaF;ext Xc0
 ·have e1:Ym7=true:=e;ext Xbw;simp only[Vbnlad.step,e4];rw[if_pos Ybe]
 have okd:Yp4=true:=by have e1:Ym7=false:=e;ext Xdd
 have nv:=lT okd;have g:=Yc5;rw[vp]at g;refine bx (ba ⟨Zbp,Zar,ZbU,g,?_⟩);refine⟨Zbs,Yp0,YiV,C,YhM⟩;ext Xgt;refine⟨ZaE,Zbs,p,ip,Yp0,YiV,C1,hp,hip,λH2 fr2 C2=>?_⟩;have hip2:=(fr2.kp C1).eds T hip;have K2:Kp A H H2:=(YlQ).trans (fr2.kp C1);have N2:∀{a:Addr},H2 a=none->H a=none:=λh=>same_none s1 (Ni C1 C2 fr2 h);refine Yjd;all_goals have s3:=ak (o:=.tup YsC) YhK ht
 all_goals have ein:=abK ((statusOf st p.1 view.toNat:Nat):Int)
 ·have e1:tE (Yfi) YsC=true:=e;rw[ein,Bool.or_eq_true,decide_eq_true_eq,decide_eq_true_eq]at e1;refine⟨Zaa,(by show 4<=sizeLine;decide),λl hl=>?_⟩;have s4:=ak (o:=.lst [Yfi,YmW,YmW,YmW]) s3 hl;refine k l _ G st (.status YAc 0 [] []) rfl (K2.trans (Kp.same s4)) (C2.same s4) (N2 (same_none s3 hl)) ab ?_;refine Mn e4 okd ?_;rcases Hy (s:=st) (n:=p.1) (v:=Yp0)with⟨h,_⟩|⟨_,h⟩|⟨h,_⟩
  ·exact YiC
  ·exact Yku
  ·omega
 have e1:tE (Yfi) YsC=false:=e;rw[ein,Bool.or_eq_false_iff,decide_eq_false_iff_not,decide_eq_false_iff_not]at e1;obtain⟨ed,rs,hc⟩:∃e r,Yc8=e::r:=by
  rcases Hy (s:=st) (n:=p.1) (v:=Yp0)with⟨h,_⟩|⟨h,_⟩|⟨_,h⟩
  ·omega
  ·omega
  ·exact h
 have edm:ed∈YiP:=vI (by rw[hc];exact List.mem_cons_self ..);have hip3:=hip2.same s3;obtain⟨as,ha,hL⟩:=hip3;rw[hc]at hL;cases hL with
 |cons hE hR=>
  rename_i a0 as0;have C3:=C2.same s3;refine bx (ba ⟨ZaE,ip,Zbv,aV.of ha,YpL,ZcW,a0,ed,p,rfl,C3,C3.ae _ hE,edm,hp,λtt f1 f2 H4 s4 htt hf1 hf2=>?_⟩);have ha4:=s4 _ _ ha;obtain⟨dxe,kl,hob⟩:=((C3.ae _ hE).same s4).day;have lR:(rulesOf st ed).length<=8:=by have:=congrArg List.length (lB C.ok edm);ext XbW;have:=(C.ok.er ed edm).2.1;omega
  have l1:=Hc p.1 (YbR) Ydc;have l2:=Hc p.1 none Ydc;have n1:=aH YoN;have n2:=aH Yx1;refine⟨ZaE,ip,Zbv,aV.of ha4,YpL,a0,Zbh,hob,T.bX,T.fS,ZaF,tt,Zbv,eA.of htt,rfl,f1,Zaa,.inl (aV.of hf1),YhY,YsR⟩;have t1:=ak (o:=.lst Ybl) (same_refl H4) hq1;refine⟨Zaa,tt,Zbv,eA.of (t1 _ _ htt),rfl,q1,f1,ZaD,ab,t1 _ _ hf1,aY (m:=100) (by show 3+_<=_;omega) YeP,Yhp⟩;have t2:=ak (o:=.lst (Ybl++aE YoN)) t1 hq2;refine⟨Zaa,tt,Zbv,eA.of (t2 _ _ htt),rfl,f2,Zaa,.inl (aV.of (t2 _ _ hf2)),Yag,λq3 hq3=>?_⟩;have t3:=ak (o:=.lst Yoy) t2 hq3;refine⟨q2,q3,ZaD,bM hq3 ab,ab,aY (m:=100) (by rw[List.length_append];show 3+_+1<=_;omega) YeP,λq4 hq4=>?_⟩;have t4:=ak (o:=.lst ((Ybl++aE YoN)++Yoy)) t3 hq4;refine⟨Zaa,tt,Zbv,eA.of (t4 _ _ htt),rfl,q4,f2,ZaD,ab,t4 _ _ hf2,aY (m:=100) (by rw[List.length_append,List.length_append];show 3+_+1+_<=_;omega) YeP,λq5 hq5=>?_⟩;have S:aN H2 _:=s3.trans (s4.trans t4);refine k q5 _ G st (.status YAc ed.key YoN Yx1) rfl (K2.trans (Kp.same (ak S hq5))) (C2.same (ak S hq5)) (N2 (same_none S hq5)) ?_ (Od e4 okd Yad hc);rw[ab,MC,n1,n2]
end
section
open Vbnlad (chain statusOf Answer nameOf dayOk within)
def kN(q:α->Bool)(l:Ydy)(x:α):(l++[x]).filter q=l.filter q++(if q x=true then[x]else[]):=by rw[Wdk,Wb8,Wew]
def Lq(l:Yaw):(Yz7).map V.int=Yrv++aE l:=by ext Xdl
def HF(K:Yaj)(A:bL):Sp:=λvs H Q _=>∃G s status view,vs=[Ybz,.int status,.int view]/\YaF/\FH K A H G s (.list status view) Q
def dv(l:Yaw)(k:Nat):aE l++[V.int (k:Nat)]=aE (l++[k]):=by unfold aE;rw[Wal];rfl
def Su(o:xc s)(hD:H D=some (.jh od (.dK (Yug))))(hn:n∈YrT):YiT:=.inl ⟨Yug,Ypb,.inr ⟨od,hD⟩,ZaU⟩
def HB(o:xc s)(hD:H D=some (.dK (Yug)))(hn:n∈YrT):YiT:=.inl ⟨Yug,Ypb,.inl hD,ZaU⟩
theorem IC(T:Yas):a6 P w K mg base cN 9 A.uG A.uQ YpB (HF K A):=by
 refine T.Bh.ok yg Yat Yab;obtain⟨G,st,status,view,rfl,C,k⟩:=h;have nd:=yg.nd;ext XaK;have GB:within status 0 4=false->∀l,H l=none->Q (Ykt) (upd H l (.lst [.int (-1)])):=λh l hl=>by ext Xby;rw[if_pos h]
 refine⟨_,(af (aM (PW.pt (A1 (aC lF YaG (cy rfl T.oT) Ybo) (yD (aC nZ YaG (cy rfl T.wG) Ybo)))) YaE az)
   (af YBj
   (af (aF (i:=3) nd rfl Ykh YlJ)
   (af (Ae (iJ (i:=4) (own:=[("key",5)]) rfl nd rfl rfl YcC (Hf Yba) YbT Yjp (λ_ _ _ _ _=>qh (aC bY (bw hu Yba Yda Yal) YaG Ybo)) (λ_ _ _ _ _=>(pv 5))))
   (aj (au (a7 ic (aQ YxE) Ycg))))))),?_⟩
 refine⟨Zbg,bC Yhj (λe=>⟨Zbg,Ybu⟩)⟩
 ·have e1:status<0:=YaQ;ext Xgd;rw[decide_eq_false (show ¬((0:Nat):Int)<=status by omega),Bool.false_and]
 ·have e1:4<status:=YgT;ext Xgd;rw[decide_eq_false (show ¬status<=((4:Nat):Int)by omega),Bool.and_false]
 have e1:¬status<0:=YaH;have e3:¬4<status:=Ygu;have okw:within status 0 4=true:=by unfold within;rw[decide_eq_true (show((0:Nat):Int)<=status by omega),decide_eq_true (show status<=((4:Nat):Int)by omega)];rfl
 have i1:¬within status 0 4=false:=by rw[okw];decide
 ext Xc0
 ·have e4:Ym7=true:=e;ext Xbw;ext Xao;rw[if_neg i1,if_pos YjP]
 have okd:Yp4=true:=by have e4:Ym7=false:=e;simpa using e4
 have i2:¬dayOk view=false:=by rw[okd];decide
 have nv:=lT okd;refine bx (ba ⟨Zbs,Yp0,YiV,C,λD H1 fr1 C1 nD hD=>?_⟩);have K1:Kp A H H1:=fr1.kp C;refine Yjw;have nLD:L≠D:=λq=>by subst q;rw[ab]at hL;cases hL
 have ln:(Yja).length=YnN:=by unfold J7;rw[de]
 refine LH (n:=(Yja).length) (λi H'=>H' L=some (.lst (aE (((Yg6).filter λn=>((statusOf st n view.toNat:Nat):Int)==status).map λn=>n.key)))/\aN (upd H1 D (.jh od (.dK (Yja)))) H') Yv3 Yvs YyJ ?_ ?_
 ·rintro i H2 hi ⟨hL2,sm⟩ x H' ⟨eH,kx,vx,hkx,ex⟩;ext Xbh;refine⟨ZbM,D,Zaa,Su C.ok (YBP) nm,Zaa,ZbZ⟩
  ·have e4:YqM=V.int status:=YaQ;have e5:(((statusOf st n view.toNat:Nat):Int)==status)=true:=(by injection e4 with e4;simpa using e4);refine YzV
   ·rw[aH,List.length_map];have:=List.length_filter_le (λn=>((statusOf st n view.toNat:Nat):Int)==status) (Yg6);ext Xa0;ext Xg9
   ·rw[ab,if_pos e5];ext Xay
  ·have e4:¬(YqM=V.int status):=YaH;have e5:¬(((statusOf st n view.toNat:Nat):Int)==status)=true:=λq=>e4 (by rw[(by simpa using q:((statusOf st n view.toNat:Nat):Int)=status)]);ext XdR
 rintro H2 ⟨hL2,sm⟩;ext Xdv;have hL3:upd H2 D (.dK (Yja)) L=_:=ai nLD hL2;have ll:((st.names.filter λn=>((statusOf st n view.toNat:Nat):Int)==status).map λn=>n.key).length<=100:=by ext Xg7;exact YoQ
 generalize upd H2 D (.dK (J7 st view.toNat st.names))=H3 at s3 hL3;generalize hF:((st.names.filter λn=>((statusOf st n view.toNat:Nat):Int)==status).map λn=>n.key)=F at hL3 ll;refine Yoj;have t1:=ak (o:=.lst YwN) s3 hq1;refine⟨Zaa,q1,L,ZaD,ab,bM hq1 hL3,aY (m:=1000) (by rw[aH];show 1+_<=_;omega) YeP,Yhp⟩;have t2:=ak (o:=.lst (YwN++aE F)) t1 hq2;refine k q2 _ G st (.row F) rfl (K1.trans (Kp.same t2)) (C1.same t2) (Ni C C1 fr1 (same_none t1 hq2)) ?_ ?_
 ·rw[ab,Lq,aH]
 ·ext Xao;rw[if_neg i1,if_neg i2,hF]
def chg(s:YaW)(v v':Nat)(n:YfE):Option YsQ:=if statusOf s n v=YnM then none else some (n.key,Yjx,YnM)
def Lj(l:List YsQ):YcT:=l.flatMap λx=>[V.int (x.1:Nat),.int (x.2.1:Nat),.int (x.2.2:Nat)]
def Li:∀l:List YsQ,(Lj l).length=3*l.length
 |[]=>rfl
 |a::l=>by have ih:=Li l;unfold Lj at*;rw[Wb3,Wad,ih];simp only[Was,WbK];omega
def Kk(l:List YsQ):(VbnladNeutral.shown (.changes l)).map V.int=Yrv++Lj l:=by unfold VbnladNeutral.shown Lj;rw[Waw,Wej];rfl
def RT(s:YaW)(v v':Nat)(l:List Vbnlad.Name):l.filterMap (chg s v v')=(l.filter λn=> !decide (Yjx=YnM)).map λn=>(n.key,Yjx,YnM):=by
 induction l with
 |nil=>rfl
 |cons n l ih=>
  rw[WbR,Wb8,ih];unfold chg;by_cases h:Yjx=YnM
  ·rw[Wap h,Wa9 h];rfl
  ·rw[Wae h,Wa3 h];rfl
def CU(K:Yaj)(A:bL):Sp:=λvs H Q _=>∃G s v v',vs=[Ybz,.int v,.int v']/\YaF/\FH K A H G s (.changes v v') Q
theorem Dm(T:Yas):a6 P w K mg base cN 9 A.mT A.mY Yqm (CU K A):=by
 refine T.vP.ok sY Yat Yab;obtain⟨G,st,v,v',rfl,C,k⟩:=h;have nd:=sY.nd;ext XaK
 refine⟨_,(af (aM Ylp YaE az)
   (af YBj
   (af (aF (i:=3) nd rfl Ykh (ay (rC T) Yac rfl T.uz T.nO.kp T.u6 .nil aD Yy4))
   (af (aF (i:=4) nd rfl Ykh YlJ)
   (af (Ae (iJ (i:=5) (own:=[("key",6)]) rfl nd rfl rfl YcC (Hf Yba) YbT Ywh (λ_ _ _ _ _=>qh (aC SI (bw hu Yba YeJ Yal) (bw hu Ycg YeJ Yal) Ybo)) (λ_ _ _ _ _=>(pv 6))))
   (af (aF (i:=7) nd rfl Yaf (aQ (aa (aT a8 rfl T.cP bR Yhx) ah)))
   (af (cO PassesOwn.never rfl (bq Yda) (YfC) (aj (bp (fI PySem.F.plainAttrs_list PySem.F.slot_list_extend PySem.F.type_list_extend vy Ypi (aa (aQ (aa YeJ (aa (bw hu Yba YeJ Yal) (aa (bw hu Ycg YeJ Yal) ah)))) ah)))))
   (aj (au Ypi))))))))),?_⟩
 refine Yn3
 ·have e4:(!dayOk v)=true:=e;refine Yn0;ext Xby;rw[if_pos YjP]
 have okd:dayOk v=true:=by have e4:(!dayOk v)=false:=e;simpa using e4
 have i1:¬dayOk v=false:=by rw[okd];decide
 have nv:=lT okd;ext Xc0
 ·have e4:(!dayOk v')=true:=e;ext Xbw;ext Xao;rw[if_neg i1,if_pos YjP]
 have okd2:dayOk v'=true:=by have e4:(!dayOk v')=false:=e;simpa using e4
 have i2:¬dayOk v'=false:=by rw[okd2];decide
 have nv2:=lT okd2;refine bx (ba ⟨Zbs,v.toNat,YiV,C,λD H1 fr1 C1 nD hD1=>?_⟩);refine⟨Zbs,v'.toNat,(by rw[nv2.1];rfl),C1,λD' H2 fr2 C2 nD' hD'=>?_⟩;have hD:H2 D=some (.dK (YhP)):=fr2 D _ (λp hp=>((C.fresh nD).2 p hp).2) hD1;have nDD:D'≠D:=Ne.symm (ao hD1 nD');have fr:=fr1.trans fr2;have K1:Kp A H H2:=fr.kp C;refine Yjw;have nLD:L≠D:=λq=>by subst q;rw[ab]at hL;cases hL
 have ln:(YhP).length=YnN:=by unfold J7;rw[de]
 refine LH (n:=(YhP).length) (λi H'=>H' L=some (.lst (aE (((Yg6).filter λn=> !decide (Ygt=Yf6)).map λn=>n.key)))/\aN (upd H2 D (.jh od (.dK (YhP)))) H') Yv3 Yvs YyJ ?_ ?_
 ·rintro i H3 hi ⟨hL2,sm⟩ x H' ⟨eH,kx,vx,hkx,ex⟩;ext Xbh;refine⟨ZbM,D,Zaa,Su C.ok (YBP) nm,ZaE,D',Zaa,HB C.ok (sm _ _ (ai nDD hD')) nm,ZbZ⟩
  ·have e4:Ygs=true:=e;have e5:(!decide (Ygt=Yf6))=true:=by rw[Bool.not_eq_true',decide_eq_false_iff_not]at e4 ⊢;exact λq=>e4 (by rw[q])
   refine YzV
   ·rw[aH,List.length_map];have:=List.length_filter_le (λn=> !decide (Ygt=Yf6)) (Yg6);ext Xa0;ext Xg9
   ·rw[ab,if_pos e5];ext Xay
  ·have e4:Ygs=false:=e;have e5:¬(!decide (Ygt=Yf6))=true:=λq=>by rw[Bool.not_eq_false',decide_eq_true_eq]at e4;rw[Bool.not_eq_true',decide_eq_false_iff_not]at q;injection e4 with e4;exact q Yad
   ext XdR
 rintro H3 ⟨hL2,sm⟩;ext Xdv;have hL3:upd H3 D (.dK (YhP)) L=_:=ai nLD hL2;generalize upd H3 D (.dK (J7 st v.toNat st.names))=H4 at s3 hL3;generalize hF:(st.names.filter λn=> !decide (statusOf st n v.toNat=statusOf st n v'.toNat))=F at hL3;have fm:∀n∈F,n∈Yxm:=λn hn=>by rw[<-hF]at hn;exact(List.mem_filter.mp hn).1
 have ll:F.length<=100:=by rw[<-hF];exact YoQ
 have hD4:=s3 _ _ hD;have hD4':=s3 _ _ hD';refine Yoj;have t1:=ak (o:=.lst [.int (((Ysn).length:Nat):Int)]) (same_refl H4) hq1;have eN:Ysn=F.map λn=>V.int ((n.key:Nat):Int):=by unfold aE;ext Xdm;rfl
 refine⟨Zaa,L,rfl,⟨_,aV.of (t1 _ _ hL3)⟩,?_⟩;refine bZ (xs:=Ysn) (λi σ H'=>∃o6,σ=[YgA,some (.int v),some (.int v'),Ydn,some (.ref D'),some (.ref L),o6,some (.ref q1)]/\aN H4 H'/\H' q1=some (.lst ([.int ((F.length:Nat):Int)]++Lj ((F.take i).map λn=>(n.key,Ygt,Yf6)))))
  ⟨Zaa,t1,?_⟩ ?_ ?_ ?_
 ·rw[ab,aH,List.length_map];rfl
 ·rintro i σ H' _ ⟨o6,rfl,sm,hq⟩;exact aV.of (sm _ _ hL3)
 ·rintro i x σ H5 hx ⟨o6,rfl,sm,hq⟩;rw[eN]at hx;obtain⟨n,hn,rfl⟩:=bE hx;have nm:=fm n (Yqp);have il:i<F.length:=(List.getElem?_eq_some_iff.mp hn).1;refine⟨Zaa,.inl ⟨Zcw,aV.of hq⟩,Zbl,D,Zaa,HB C.ok (sm _ _ hD4) nm,ZaE,D',Zaa,HB C.ok (sm _ _ hD4') nm,YhY,Yhp⟩;have hq':=bM (o:=.lst [.int ((n.key:Nat):Int),.int ((statusOf st n v.toNat:Nat):Int),.int ((statusOf st n v'.toNat:Nat):Int)]) hq2 hq;refine⟨q1,q2,ZaD,hq',ab,aY (m:=1000) (by rw[List.length_append,Li,List.length_map,List.length_take];show 1+_+3<=_;omega) YeP,?_⟩;refine⟨Zaa,aS (ak sm hq2) hq1,?_⟩;rw[ab,take_snoc hn,List.map_append];unfold Lj;rw[List.flatMap_append,List.append_assoc];rfl
 ·rintro σ H5 ⟨o6,rfl,sm,hq⟩;rw[aH,List.length_map,List.take_length]at hq;have t2:=s3.trans sm;refine⟨Zaa,k q1 _ G st (.changes (F.map λn=>(n.key,Ygt,Yf6))) rfl (K1.trans (Kp.same t2)) (C2.same t2) (Ni C C2 fr (same_none s3 hq1)) ?_ ?_⟩
  ·rw[hq,Kk,List.length_map]
  ·ext Xao;rw[if_neg i1,if_neg i2,<-hF,<-RT];rfl
end
section
open Vbnlad (chain judged nameOf dayOk speaks flagsIn factOf rulesOf unknown available)
def UT(s:YaW)(name view:Int):Int:=match judged s name view with
 |.inl c=>c
 |.inr _=>0
def Om(K:Yaj)(A:bL):Sp:=λvs H Q _=>∃G s name view,vs=Yo9/\YaF/\∀H',Ya1->Q (.int (Yud)) H'
theorem p6(T:Yas):a6 P w K mg base cN 2 A.kh A.ku YbS (Om K A):=by
 refine T.kF.ok AA Yat Yab;ext Xei;ext XaK
 refine⟨_,(af (aM YtI YaD az)
   (af YBk
   (af (aM (aC lF YaS (aw Yfo rfl) Ybo) YaD az)
   (af (aM (aC bY (aT a8 rfl T.cP bR (aa Ye3 ah)) aq Ybo) YaD az)
   (YnE))))),?_⟩
 unfold UT judged at k;refine Ysf
 ·ext XaU
  ·ext Xcn
  ·ext Xa3;rw[e4]at k;exact YxJ
 obtain⟨p,hp,vp,kp,mp⟩:∃p∈G.nl,Ybd=Ycl/\((p.1.key:Nat):Int)=name/\p.1∈Yxm:=by
  ext XcQ
  ·exact h
  ·ext Xck
 ext XaF;rw[e4]at k;dsimp only at k;ext Xc0
 ·have e1:Ym7=true:=e;rw[if_pos Ybe]at k;exact YxJ
 have okd:Yp4=true:=by have e1:Ym7=false:=e;ext Xdd
 rw[if_neg (by rw[okd];decide)]at k;have nv:=lT okd;have g:=Yc5;rw[vp]at g;refine bx (ba (cV ⟨Zcd,ZbU,g,Zaz,Zaa,(YgM).obj,ZcU,rfl,Zb1⟩))
 ·have e1:view<((p.1.day:Nat):Int):=YaQ;rw[if_pos e1]at k;exact YxJ
 have e1:¬view<((p.1.day:Nat):Int):=YaH;rw[if_neg e1]at k;refine bx (ba (cV ⟨Zbs,Yp0,YiV,C,YhM⟩));obtain⟨as,ha,hL⟩:=hip;refine⟨ip,Zcs⟩
 ·have e2:Yff=Yd4:=YaQ;have e3:Yc8=[]:=by ext XbB
  rw[e3]at k;exact⟨Zaa,k H1 s1⟩
 ·have e2:¬(Yff=Yd4):=YaH;cases hc:Yc8 with
  |nil=>ext Xa6
  |cons x r=>rw[hc]at k;exact k H1 s1
def Xh{σ:L2.St}{H:Hp}{ta tb tc:TE}{p p':Int->Int->Bool}(x y z:Int){Q:VK}(h1:∀Q',Q' (.int x) H->ta σ H Q')(h2:∀Q',Q' (.int y) H->tb σ H Q')(h3:∀Q',Q' (.int z) H->tc σ H Q')(h:Q (.bl (p x y&&p' y z)) H):
  Mm (NU λi j=>.bl (p i j)) YEg ta tb tc σ H Q:=by
 ext Xfx
 ·rw[e]at h;exact abJ h
 ·rw[e,Wcz]at h;exact abI (h3 _ ⟨y,z,ZaI,h⟩)
def T8(A:bL):Sp:=λvs H Q _=>∃ra na s r dx x y,∃d k:Nat,vs=[YCE,.ref na]/\gO A H s ra r/\H na=some (.ins A.eW dx [("day",YeK),("rank",.int (k:Nat)),x,y])/\Q (.bl (speaks r d k)) H
def MY(T:Yas):a6 P w K mg base cN 1 A.zt A.zF YsD (T8 A):=by
 refine T.Gr.ok MG Ycu Yab;obtain⟨ra,na,st,r,dxn,x,y,d,kk,rfl,⟨dx,sl,kl,c,ho,hst,hkl,rok⟩,hn,k⟩:=h;refine⟨_,(aj (au (Wr (yJ my my Yak Ye8 Yak) (Wm (yJ my my Yak Ye8 Yak))))),?_⟩;refine Xh (p:=λi j=>YkT) (p':=λi j=>YkT) (r.first:Int) (d:Int) (r.last:Int) (λQ' q=>⟨ZbT,T.qm,rfl,q⟩) (λQ' q=>⟨Zaa,na,Zbh,hn,ZcU,rfl,q⟩) (λQ' q=>⟨ZbT,T.tw,rfl,q⟩) ⟨ZaH⟩
 ·rw[Cg,Cg]at e;refine Xh (p:=λi j=>YkT) (p':=λi j=>YkT) (r.lo:Int) (kk:Int) (r.hi:Int) (λQ' q=>⟨ZbT,T.ux,rfl,q⟩) (λQ' q=>⟨Zaa,na,Zbh,hn,T.dW,T.yT,rfl,q⟩) (λQ' q=>⟨ZbT,T.rF,rfl,q⟩) ?_;rw[Cg,Cg];unfold speaks at k;rw[<-Bool.and_assoc,e,Wcz]at k;exact k
 ·rw[Cg,Cg]at e;unfold speaks at k;rw[<-Bool.and_assoc,e,Wcp]at k;exact k
end
section
open Vbnlad (chain speaks flagsIn factOf rulesOf unknown available looked passes or3)
def Tc(hp:fs.Perm facts)(k:Nat):(bg (xI fs) (Sum.inl ((k:Nat):Int))).isSome=(YDi).isSome:=by
 rcases cD YtE YzN fs ((k:Nat):Int)with⟨y,hy,e1,e2⟩|⟨e1,e2⟩
 ·unfold xI;rw[e1];symm;show _=true;ext Xfl;rw[Wb2,WbQ];exact⟨y,hp.mem_iff.mp hy,Ym2⟩
 ·unfold xI;rw[e1];symm;ext Xfl;rw[Wb2];cases h:facts.find? λx=>x.1==k with
  |none=>rfl
  |some y=>have hy:=WaG h;have ky:y.1=k:=(by simpa using Wbv h);exact absurd (by rw[ky]) (e2 y (hp.mem_iff.mpr hy))
def AZ(h:YoX):∀k∈Ya2,∃x∈Yhd,x.key=k:=λk hk=>by
 ext XcA;rw[h4.cd,iR]at hk;obtain⟨p,hp,rfl⟩:=WaD.mp hk;have h5:=WaR.mp h4.ms p hp;cases e:Yrn with
 |none=>rw[e]at h5;simp at h5
 |some x=>refine⟨x,WaG e,?_⟩;unfold zf;rw[e];rfl
def Aj{l:Yaw}{s:YaW}(o:xc s)(nd:l.Nodup)(h:∀k∈l,∃x∈Yhd,x.key=k):Yc9<=24:=by
 have h2:∀x∈l,x∈s.flags.map Vbnlad.Flag.key:=λx hx=>by obtain⟨y,hy,ey⟩:=h x hx;exact WaD.mpr ⟨y,hy,ey⟩
 refine WdA λq=>?_;have h4:=(iL nd h2 (by rw[Waa];have:=o.fn;omega)).length_eq;rw[Waa]at h4;have:=o.fn;omega
def ab2(s:YaW)(n:YfE)(e:YgK)(k:Nat):Prop:=∃r∈YdL,speaks r n.day n.rank=true/\k∈Ya2/\(factOf n.facts k).isNone=true
def QR(K:Yaj)(A:bL):Sp:=λvs H Q _=>∃G s p,∃view:Nat,vs=[Ybz,YnJ,YeI]/\YaF/\p∈G.nl/\
 ∀a H',Ya1->H a=none->H' a=some (.lst (aE (Yna)))->(∀k∈Yna,∃x∈Yhd,x.key=k)->Q YwE H'
theorem vo(T:Yas):a6 P w K mg base cN 2 A.oW A.pA YrB (QR K A):=by
 refine T.pP.ok vg Yat Yab;obtain⟨G,st,p,view,rfl,C,hp,k⟩:=h;have nd:=vg.nd;ext XaK;obtain⟨fs,hfs,pfs⟩:=(YgM).Vy
 refine⟨_,(af Yov
   (af (cO PassesOwn.never rfl Ykr Ye2 (aj (cO PassesOwn.never rfl (bq (ay (kM T) Yac rfl T.mR T.kE.kp T.nF .nil aD (aa Yau Yfk))) (YeY) (aj (aM (ck (ay (MY T) Yac rfl T.Pa T.Gr.kp T.Qc .nil aD (aa Yda YeW))) (aj (bp (fI PySem.F.plainAttrs_list PySem.F.slot_list_extend PySem.F.type_list_extend vy Yba (aa (yI (own:=[("key",6)]) rfl nd (bq (aw Yda rfl)) YbT Ywh (λ_ _ _ _ _=>qh (gd (dh hu YeJ (eX K rfl YaG rfl)))) (λ_ _ _ _ _=>(pv 6))) ah)))) az)))))
   (aj (au (aT (qu rfl) rfl T.jL jk (aa (fA (JC rfl) rfl T.O3 JG Ye9) ah)))))),?_⟩
 ext XcT;refine⟨Zbs,view,rfl,C.same s0,YhM⟩;have s01:=s0.trans s1;refine⟨ZcW,ip,Zci,C.same s01,hip,YyY,((C.same s01).an p hp).obj,λlp H2 s2 nlp hl2=>?_⟩;have s02:=s01.trans s2;have hD2:=s2 _ _ (s1 _ _ (ab (a:=D)));obtain⟨as2,ha2,hL2⟩:=hl2;generalize hLE:bK p.1.day (chain st view)=LE at hL2;have lem:∀e∈LE,e∈YiP:=λe he=>by rw[<-hLE]at he;exact vI (wD he)
 have lel:LE.length<=16:=by
  have h1:∀L:YuR,(bK p.1.day L).length<=Ykc:=λL=>by
   induction L with
   |nil=>exact YcH
   |cons x L ih=>
    rw[bK];split
    ·simp only[List.length_cons];omega
    ·simp
  rw[<-hLE];exact Nat.le_trans (h1 _) (YyY)
 have nlD:lp≠D:=Ne.symm (ao (s1 _ _ (ab (a:=D))) nlp);refine Ykv;have hlen:as2.length=LE.length:=hL2.length;refine bZ (xs:=Yi1) (λi σ H'=>∃(o4 o5 o6:Option V)(fl:List Nat),σ=[YgA,Ycl,Yyc,Ydn,o4,o5,o6]/\(∀b o,b≠D->H2 b=YaB->H' b=YaB)/\H' D=YuF/\fl.length<=192*i/\(∀k,k∈fl↔∃e∈LE.take i,ab2 st p.1 e k)/\YyG)
  ⟨none,none,ZcL,YsS,hD2,Ybv,Ydx,Ydx⟩ ?_ ?_ ?_
 ·rintro i σ H' _ ⟨o4,o5,o6,fl,rfl,fr,hd,_⟩;exact aV.of (fr lp _ nlD ha2)
 ·rintro i x σ H3 hx ⟨o4,o5,o6,fl,rfl,fr,hd,hln,mem,infl⟩;ext XaG;have hi:i<LE.length:=by ext Xak
  have hs:LE[i]? =some LE[i]:=Ya7;obtain⟨q',hq',he⟩:=bV hL2 hs;ext Xaj;generalize LE[i]=e at hs he;have hem:=lem e (Ydh);ext Xfu;have C3:=C.same S3;refine⟨Zbs,q,e,rfl,C3,C3.ae _ he,hem,YCJ⟩;ext XgL;refine⟨rp,rfl,⟨_,aV.of hrs⟩,?_⟩;have hd4:=s4 _ _ hd;have nrD:rp≠D:=Ne.symm (ao hd Zx);have hlr:Yw1=YgR:=prs.length;have lR:YgR<=8:=by have h1:=congrArg List.length (lB C.ok hem);rw[List.length_map]at h1;rw[pR.length_eq];have:=(C.ok.er e hem).2.1;omega
  refine bZ (xs:=YiK) (λj σ H'=>∃(o5 o6:Option V)(fl':List Nat),σ=[YgA,Ycl,Yyc,Ydn,some (.ref q),o5,o6]/\(∀b o,b≠D->H4 b=YaB->H' b=YaB)/\H' D=some (.lst (aE fl'))/\fl'.length<=192*i+24*j/\(∀k,k∈fl'↔k∈fl∨∃r∈R.take j,Yo7=true/\k∈Ya2/\(Yv6).isNone=true)/\(∀k∈fl',∃x∈YtR,x.key=k))
   ⟨_,_,fl,rfl,YsS,hd4,YaP,Ydx,infl⟩ ?_ ?_ ?_
  ·rintro j σ H' _ ⟨o5,o6,fl',rfl,fr',hd',_⟩;exact aV.of (fr' rp _ nrD hrs)
  ·rintro j x σ H5 hx ⟨o5,o6,fl',rfl,fr',hd',hln',mem',infl'⟩;ext XdJ;have hj:j<YgR:=(by rw[<-hlr];exact(Yc3).1);ext Xaq;have S5:aN H H5:=λb o z=>fr' b o (ao z hD) (s4 _ _ (S3 b o z));have C5:=C.same S5;have hr5:=C5.ar _ hrm;refine⟨ZaE,ra,p.2.a,st,r,_,_,_,YCA,YAB,rfl,hr5,(C5.an p hp).obj,Zaa,Ybi⟩
   ·have e2:Yo7=true:=e1;have hfi:=AZ hr5;obtain⟨dx,sl,kl,c,ho,hst,hkl,rok⟩:=id hr5;ext Xem;have hfs5:=S5 _ _ hfs;refine⟨Zaa,.inl ⟨Zcw,aV.of hd'⟩,ZbT,T.mQ,rfl,kl,rfl,⟨_,aV.of hkl⟩,λL hL=>?_⟩;refine gF (xs:=aE (Yfc)) (λm H'=>H' L=some (.lst (aE (((Yfc).take m).filter λk=>(Yv6).isNone)))/\aN H5 H') ⟨ab,ak (same_refl H5) hL⟩ (λm H' _ z=>aV.of (z.2 _ _ hkl)) ?_ ?_
    ·rintro m x H' hx ⟨hL',sm⟩;ext XaS;rw[take_snoc hz,kN];refine⟨ZbM,Zaz,Zaa,sm _ _ (C5.an p hp).obj,T.dW,T.gD,rfl,ZcB,bN.k (k:=Ycm) (sm _ _ hfs5),Zaa,Yc1⟩
     ·have e4:YAi=true:=e3;rw[Tc pfs]at e4;have e5:(YoE).isNone=true:=by
       cases h:YoE with
       |none=>rfl
       |some b=>rw[h]at e4;cases e4
      refine⟨Zaa,_,hL',Zae,aS sm hL⟩
      ·rw[aH];have:=List.length_filter_le Yj8 ((Yfc).take m);ext Xa0;omega
      ·rw[ab,if_pos e5];ext Xay
     ·have e4:YAi=false:=e3;rw[Tc pfs]at e4;have e5:¬(YoE).isNone=true:=λh=>by
       cases h2:YoE with
       |none=>rw[h2]at e4;cases e4
       |some b=>rw[h2]at h;cases h
      refine Yu6;rw[if_neg e5,List.append_nil];exact hL'
    rintro H6 ⟨hL6,s6⟩;unfold aE at hL6;rw[List.length_map,List.take_length]at hL6;have lfil:=List.length_filter_le Yj8 (Yfc);refine⟨D,L,ZaD,s6 _ _ hd',hL6,aY (m:=10000) (by rw[aH,List.length_map];omega) YeP,?_⟩;refine⟨_,_,fl'++(Yfc).filter Yj8,rfl,λb o h1 z=>ai h1 (s6 _ _ (fr' b o h1 z)),ZbG,λk=>?_,λk hk=>?_⟩
    ·rw[ab];ext Xbe
    ·rw[List.length_append];omega
    ·rw[List.mem_append,mem',take_snoc hsr];ext XaT
     ·rintro((h|⟨r',h1,h2⟩)|h)
      ·exact YiC
      ·exact .inr Yef
      ·have h':=List.mem_filter.mp h;exact .inr ⟨r,Yhh,e2,bO.mp h'.1,h'.2⟩
     ·rintro(h|⟨r',h1,h2⟩)
      ·exact .inl (YiC)
      ·ext Xbk
       ·exact .inl (YxT)
       ·ext Xda;exact .inr (List.mem_filter.mpr ⟨bO.mpr h2.2.1,h2.2.2⟩)
    ·rcases List.mem_append.mp hk with h|h
     ·exact infl' k h
     ·exact hfi k (bO.mp (List.mem_filter.mp h).1)
   ·have e2:Yo7=false:=e1;refine⟨_,_,fl',rfl,fr',hd',YaP,λk=>?_,infl'⟩;rw[mem',take_snoc hsr];ext XaT
    ·rintro(h|⟨r',h1,h2⟩)
     ·exact YiC
     ·exact .inr Yef
    ·rintro(h|⟨r',h1,h2⟩)
     ·exact YiC
     ·ext Xbk
      ·exact YxT
      ·rw[List.mem_singleton.mp h1,e2]at h2;cases h2.1
  ·rintro σ H5 ⟨o5,o6,fl',rfl,fr',hd',hln',mem',infl'⟩;rw[List.length_map,hlr]at mem' hln';rw[List.take_length]at mem';refine⟨_,_,_,fl',rfl,λb o h1 z=>fr' b o h1 (s4 _ _ (fr b o h1 z)),hd',YaP,λk=>?_,infl'⟩;rw[mem',mem,take_snoc hs];ext XaT
   ·rintro(⟨e',h1,h2⟩|⟨r',h1,h2⟩)
    ·exact⟨e',Yzl,h2⟩
    ·exact⟨e,Yhh,r',pR.mem_iff.mp h1,h2⟩
   ·rintro⟨e',h1,h2⟩;ext Xbk
    ·exact .inl ⟨e',Zb7⟩
    ·ext Xda;obtain⟨r',h3,h4⟩:=h2;exact .inr ⟨r',pR.mem_iff.mpr h3,h4⟩
 ·rintro σ H3 ⟨o4,o5,o6,fl,rfl,fr,hd,hln,mem,infl⟩;rw[List.length_map,hlen]at mem hln;rw[List.take_length]at mem;ext Xfu;refine⟨Zaa,Zak⟩;ext Xat;have su:Yrb=unknown st p.1.facts p.1.day p.1.rank (YfL):=by
   unfold unknown;refine v9 λk=>?_;rw[mem,F1,hLE,List.mem_filter,List.mem_flatMap];ext XaT
   ·rintro⟨e,he,r,hr1,hr2,hr3,hr4⟩;exact⟨⟨r,List.mem_flatMap.mpr ⟨e,he,List.mem_filter.mpr ⟨hr1,hr2⟩⟩,hr3⟩,hr4⟩
   ·rintro⟨⟨r,hr,hr3⟩,hr4⟩;obtain⟨e,he,hr1⟩:=List.mem_flatMap.mp hr;have hr2:=List.mem_filter.mp hr1;exact⟨e,he,r,hr2.1,hr2.2,hr3,hr4⟩
  have s4:=ak (o:=NP P w sp S n) S3 hsp;have s5:=ak (o:=.lst (((Yrb).map λn=>((n:Nat):Int)).map V.int)) s4 hq;refine k q _ s5 YxY ?_ ?_
  ·ext Xf2
  ·rw[<-su];exact λk hk=>infl k (bO.mp hk)
end
section
open Vbnlad (chain factOf rulesOf unknown available passes or3 judged nameOf dayOk surely)
def V2(K:Yaj)(A:bL):Sp:=λvs H Q _=>∃G s p sa dx bd u,∃view:Nat,vs=[Ybz,YnJ,YeI,YvZ]/\YaF/\p∈G.nl/\H sa=Yb6/\H bd=Yrm/\bd≠G.ft/\YrS/\Yaz<=20/\Yzo/\
 ∀H',Ya1->Q (.int ((yB YeV (dE s p.1.facts p.1.day p.1.rank (YsW) u):Nat):Int)) H'
theorem tu(T:Yas):a6 P w K mg base cN 6 A.mV A.nc Ylx (V2 K A):=by
 refine T.nG.ok sZ YaZ Yab;obtain⟨G,st,p,sa,dx,bd,u,view,rfl,C,hp,hsa,hbd,nbf,nu,hul,huf,k⟩:=h;have nd:=sZ.nd
 refine⟨_,(af (aF (i:=4) nd rfl Yaf (ay (oN T) Yac rfl T.rJ T.mh.kp T.sv .nil aD (aa Yau (aa YaG Ye9))))
   (af (aF (i:=5) nd rfl Yaf (bG (aa aq (aa Ymc ah))))
   (af (cO PassesOwn.never rfl Ykr (YfC) (aj (aF (i:=5) nd rfl Yaf (ay (Ai T) Yac rfl T.DB T.zY.kp T.DZ .nil aD (aa Yda (aa (ay (vq T) Yac rfl T.xE T.pQ.kp T.xN .nil aD (aa (ay (kM T) Yac rfl T.mR T.kE.kp T.nF .nil aD (aa Yau Yj7)) (aa Ye8 Yfk))) ah))))))
   (aj (au (aU bQ Yda aq Yal)))))),?_⟩
 refine⟨ZcV,p,sa,dx,bd,u,rfl,C,hp,hsa,hbd,nbf,nu,hul,huf,λwa H1 s1 nwa hW=>?_⟩;ext Xgt;obtain⟨dw,xw,yw,h1⟩:=hW.full;refine YnU;have s2:=ak (o:=.tup [YmW,YxS]) Ydd ht;have C2:=C1.same s2;refine⟨Zbs,view,rfl,C2,λip H3 s3 nip hip=>?_⟩;have C3:=C2.same s3;refine⟨ZcW,ip,Zci,C3,hip,YyY,(C3.an p hp).obj,λlp H4 s4 nlp hl4=>?_⟩;have C4:=C3.same s4;have S24:=YqR;have S14:=s2.trans S24;obtain⟨as2,ha2,hL2⟩:=hl4;refine Ykv;ext XgQ;refine bZ (xs:=Yi1) (λi σ H'=>∃(v:V)(o6:Option V),σ=[YgA,Ycl,Yyc,Yjy,Yt6,YcV,o6]/\aN H4 H'/\Pr K H' v (qF YeV λk=>((YbB).take i).foldl Yj0 (YbR)))
  ⟨_,Za8,same_refl _,ZcH,eA.of (S24 _ _ YqH)⟩ ?_ ?_ ?_
 ·show YAW=some (HO.tup [.int ((qF YeV λ_=>YbR).1:Nat),.int ((qF YeV λ_=>YbR).2:Nat)]);rw[Mj];rfl
 ·rintro i σ H' _ ⟨v,o6,rfl,sm,hv⟩;exact aV.of (sm _ _ ha2)
 ·rintro i x σ H5 hx ⟨v,o6,rfl,sm,hv⟩;ext XaG;have hi:i<(YbB).length:=by ext Xak
  ext XbE;have C5:=C4.same sm;refine⟨ZcV,q,e,rfl,C5,C5.ae _ he,hem,λrp R H6 s6 Zx hR pR=>?_⟩;ext XgL;have C6:=C5.same s6;refine⟨Zca,(C6.an p hp).obj,Zcc,Paired.gE prs λ_ _ q=>C6.ar _ q,hW.same (S14.trans (sm.trans s6)),λv2 H7 s7 hv2=>?_⟩;refine⟨v,v2,Zbr,hv.same (s6.trans s7),hv2,λv3 H8 s8 hv3=>?_⟩;refine⟨v3,Zaa,sm.trans (s6.trans (s7.trans s8)),?_⟩;rw[wO]at hv3;rw[take_snoc hs];simp only[List.foldl_append,List.foldl_cons,List.foldl_nil,<-yK pR];exact hv3
 ·rintro σ H5 ⟨v,o6,rfl,sm,tv,rfl,hv⟩;ext XgB;have e:(qF YeV λk=>(YbB).foldl Yj0 (YbR))=qF YeV (dE st p.1.facts p.1.day p.1.rank (YfL) u):=by refine qE λk _=>?_;rw[pM,Wx];rfl
  rw[e]at hv;exact⟨Zaa,tv,Zbv,hv,rfl,k H5 (s1.trans (S14.trans sm))⟩
def I0(C:YaF)(name view:Int):(Yud<0/\judged s name view=.inl (Yud))∨
  (Yud=0/\∃p∈G.nl,Ybd=Ycl/\((view.toNat:Nat):Int)=view/\judged s name view=.inr (p.1,YoF)):=by
 unfold UT judged;ext XaU
 ·have e4:Ywr=Yxn:=Yzg;rw[e4];dsimp only;by_cases h1:Yp4=false
  ·left;rw[Wap h1];exact⟨YaT,rfl⟩
  ·rw[Wae h1];have nv:=lT (by simpa using h1:Yp4=true);by_cases h2:view<((p.1.day:Nat):Int)
   ·left;rw[Wap h2];exact⟨YaT,rfl⟩
   ·rw[Wae h2];cases hc:YoF with
    |nil=>left;exact⟨by show(-4:Int)<0;decide,rfl⟩
    |cons e r=>right;exact⟨rfl,p,hp,e1,nv.1,rfl⟩
 ·have e4:Ywr=none:=jW (key:=YkS) h;left;rw[e4];exact⟨by show(-1:Int)<0;decide,rfl⟩
def Yg(K:Yaj)(A:bL):Sp:=λvs H Q _=>∃G s name view,vs=Yo9/\YaF/\FH K A H G s (.sure name view) Q
def Iz(T:Yas):a6 P w K mg base cN 7 A.uC A.uM YbS (Yg K A):=by
 refine T.Be.ok yc Yat Yab;ext Xei;have nd:=yc.nd;ext XaK
 refine⟨_,(af (aF (i:=3) nd rfl Yaf YlK)
   (af (aM (aC lF Yba aq Ybo) (aj (au (aQ Ye9))) az)
   (af YCx
   (af (aF (i:=5) nd rfl Yaf (ay (vo T) Yac rfl T.xD T.pP.kp T.xM .nil aD (aa Yau (aa Ycg YaM))))
   (af (aM (aC nZ (aT a8 rfl T.cP bR Yhx) (cy rfl T.vF) Ybo) YaE az)
   (af (aF (i:=6) nd rfl Yaf (cH T.vA (iN T) Yac rfl T.za T.jR .nil aD Yhx))
   (af (aF (i:=7) nd rfl Yaf (ay (tu T) Yac rfl T.vB T.nG.kp T.vM .nil aD (aa Yau (aa Ycg (aa YaS Yj7)))))
   (af (aM (aC bY Ypi (aw YeJ rfl) Ybo) (Yq9) az)
   (af (aM (aC bY Ypi aq Ybo) (Yq9) az)
   (Yq9)))))))))),?_⟩
 refine YqJ;ext Xgt;have num:∀{H':Hp}{l:Addr}{n:Int},Ya1->H' l=none->YwP=YAM->YbV:=λ{H' l n} s hl e=>YaL
 ext XeL
 ·ext Xd8
 refine YnY;ext Xc2;refine⟨ZcV,p,Zbz,C1,hp,λa H2 s2 na2 ha2 huf=>?_⟩;ext XeQ;generalize hU:unknown st p.1.facts p.1.day p.1.rank (chain st view.toNat)=u at ha2 huf;have nu:YrS:=by rw[<-hU];exact fP ..
 refine⟨ZcA,.inl (aV.of ha2),Zb1⟩
 ·have e1:(10:Int)<((aE u).length:Nat):=Waf e;rw[aH]at e1;refine⟨Zbq,λl hl=>num s12 hl ?_⟩;ext Xb4;rw[hU,Wap (show Vbnlad.SUREFLAGS<u.length by unfold Vbnlad.SUREFLAGS;omega)]
 have e1:¬(10:Int)<((aE u).length:Nat):=Wag e;rw[aH]at e1;have i1:¬Vbnlad.SUREFLAGS<Yaz:=by unfold Vbnlad.SUREFLAGS;omega
 refine Yr4;refine qM (u:=u) C2 nx ndx nex (aV.of ha2) (ao ha2 nx) (ao ha2 ndx) nu Yad λbd H3 s3 h3 hbd nbf=>⟨Zag⟩;ext Xdt;refine⟨ZaE,Zbs,p,x,dx,bd,u,Zbz,C3,hp,h3,hbd,nbf,nu,YaP,huf,λH4 s4=>?_⟩;have s14:=s13.trans s4;have code:=T4 st p.1.facts p.1.day p.1.rank (Yc8) hU.symm rfl;have step:YwP=(st,.number ((Vbnlad.code (surely st p.1.facts p.1.day p.1.rank (Yc8)):Nat):Int)):=by ext Xb4;rw[hU,Wae i1]
 rw[code]at step;generalize yB (2^u.length) (dE st p.1.facts p.1.day p.1.rank (chain st view.toNat) u)=y at step;refine⟨ZaE,x,Zbh,s4 _ _ h3,Zay,ZbZ⟩
 ·have e2:YfY=YD3:=Waf e;have e3:y=YvA:=by ext XeO;omega
  rw[Wap e3]at step;exact Ykw
 have e2:¬(YfY=YD3):=Wag e;rw[Wae (λq=>e2 (by rw[q]))]at step;refine YzD
 ·have e3:YfY=Yd4:=Waf e;have e4:y=0:=by injection e3 with e3;omega
  rw[Wap e4]at step;exact Ykw
 ·have e3:¬(YfY=Yd4):=Wag e;rw[Wae (λq=>e3 (by rw[q];rfl))]at step;exact Ykw
end
def ke(p:Ybf):YcT:=p.flatMap λq=>[V.int (q.1:Nat),.int YfW]
def yL(p:Ybf)(k:Nat)(b:Bool):ke (p++[(k,b)])=ke p++[V.int (k:Nat),.int (if b=true then 1 else 0)]:=by unfold ke;rw[Wb4];rfl
def mN:∀p:Ybf,(ke p).length=2*p.length
 |[]=>rfl
 |a::l=>by have ih:=mN l;unfold ke at*;rw[Wb3,Wad,ih];simp only[Was,WbK];omega
def Xe{xs:YcT}{i:Nat}(hi:i<=Ybp):GR xs YDB none=xs.drop i:=by unfold GR HT.qf;ext Xhc;simp only[Wae a,Wbl];rw[Wc9 hi];exact WdD (by rw[WbY];omega)
def mP(T:Yas):a6 P w K mg base cN 1 A.ph A.pI YfJ (v8 A.fX Ylz λargs=>[("pairs",YiF),("left",YiE),("later_keys",YnP)]):=by
 refine T.G4.ok EC Ydt Yab;ext XcJ
 refine⟨_,(af Yfw
   (af Ygq
   (aj Ymz))),?_⟩
 refine⟨ZbO,T.cS,T.gg,Zaj⟩;refine⟨Zbm,T.cS,T.gW,Zai⟩;refine⟨Zbm,T.cS,T.ij,Zao⟩;exact k _ (YgE) λb hb=>by rw[aA hb,aA hb,aA hb]
def G1(A:bL)(D:Addr)(u:Yaw)(H:Hp)(a:Addr)(x:Qw):Prop:=∃dx pl ll,H a=Yjj/\H pl=some (.lst (ke x.1))/\H ll=some (.lst (aE x.2))/\pl≠D/\ll≠D
def Qo(A:bL)(u:Yaw)(H:Hp)(a:Addr)(x:Qw):Prop:=∃dx pl ll,H a=Yjj/\H pl=some (.lst (ke x.1))/\H ll=some (.lst (aE x.2))
def G1.to(h:YDv):Qo A u H a x:=by obtain⟨dx,pl,ll,h1,h2,h3,_⟩:=h;exact⟨dx,pl,ll,Zb7,h3⟩
def G1.same(s:Ya1)(h:YDv):G1 A D u H' a x:=by obtain⟨dx,pl,ll,h1,h2,h3,h4,h5⟩:=h;exact⟨dx,pl,ll,YtS,s _ _ h2,s _ _ h3,h4,h5⟩
def G1.upd(hD:H D=some Yqa)(h:YDv):G1 A D u Yvg a x:=by obtain⟨dx,pl,ll,h1,h2,h3,h4,h5⟩:=h;exact⟨dx,pl,ll,ai (bS h1 hD Yaq) h1,ai h4 h2,ai h5 h3,h4,h5⟩
def Ue(K:Yaj)(A:bL):Sp:=λvs H Q _=>∃a sa dx bd u,∃(as:List Addr)(X:List Qw),vs=[Ybc,YvZ]/\H a=Yfp/\Paired (Qo A u H) as X/\H sa=Yb6/\H bd=Yrm/\YrS/\(∀x∈X,x.2.Sublist u/\x.1.length<=6)/\X.length<=729/\Yaz<=6/\
 ∀p as' H',Ya1->H p=none->H' p=some (Ydq)->Paired (Qo A u H') as' (X.flatMap λx=>YoY)->Ycd
theorem AD(T:Yas):a6 P w K mg base cN 3 A.ki A.kC Yry (Ue K A):=by
 refine T.sG.ok pX Yax Yab;obtain⟨a,sa,dx,bd,u,as,X,rfl,ha,hX,hsa,hbd,nu,hxs,hxl,hul,k⟩:=h;have nd:=pX.nd;ext XaK
 refine⟨_,(af Yow
   (af (cO PassesOwn.never rfl Yrp (YgU) (aj (cO PassesOwn.never rfl (YB rfl T.O4 YBM) (Rj (n:=2) rfl (rA Ye2 (rA (YeY) MQ))) (af (aF (i:=6) nd rfl Yaf (yH Ha Yfs (qi (a7 mO Ycg aq)) Yz))
   (af (aF (i:=7) nd rfl Yaf (a7 wz Yfs (a7 EL Ye8 (bw hu Ye8 Yda Yal))))
   (af (bp (fI PySem.F.plainAttrs_list PySem.F.slot_list_append PySem.F.type_list_append bF YaS (aa (cH T.yX (mP T) Yac rfl T.BZ T.pK .nil aD (aa Yzt (aa Ypi Yj7))) ah)))
   (aj (bp (fI PySem.F.plainAttrs_list PySem.F.slot_list_append PySem.F.type_list_append bF YaS (aa (cH T.yX (mP T) Yac rfl T.BZ T.pK .nil aD (aa Yzt (aa (a7 wz Yfs (bw hu Ye8 Yda Yal)) Yj7))) ah))))))))))
   (Yva))),?_⟩
 ext XcT;refine YpU;have hlen:Yw6=X.length:=hX.length;refine bZ (xs:=YbP) (λi σ H'=>∃(o3 o4 o5 o6 o7:Option V)(as':List Addr),σ=[Yfd,Yjy,Ydn,o3,o4,o5,o6,o7]/\Ya1/\H' D=some (Ydq)/\Paired (G1 A D u H') as' ((X.take i).flatMap λx=>YoY)/\as'.length<=12*i)
  ⟨Za5,[],rfl,s0,ab,.nil,Ybv⟩ ?_ ?_ ?_
 ·rintro i σ H' _ ⟨o3,o4,o5,o6,o7,as',rfl,sm,hd,hp,hl⟩;exact YlD
 ·rintro i v σ H1 hx ⟨o3,o4,o5,o6,o7,as',rfl,sm,hd,hp,hl⟩;ext XaG;have hi:i<X.length:=by ext Xak
  have hs:X[i]? =some X[i]:=Ya7;obtain⟨q',hq',hsup⟩:=bV hX hs;ext Xaj;generalize X[i]=x at hs hsup;obtain⟨hxsub,hx1⟩:=hxs x (Ydh);have hx2:x.2.length<=6:=Nat.le_trans hxsub.length_le hul;obtain⟨dxs,pl,ll,hob,hpl,hll⟩:=hsup;refine⟨Zb4,sm _ _ hob,T.cS,T.ij,rfl,ll,Zaa,aV.of (sm _ _ hll),?_⟩;refine Jm (n:=x.2.length) (λj σ H'=>∃(o4 o5 o6 o7:Option V)(as2:List Addr)(E2:List Qw),σ=[Yfd,Yjy,Ydn,some (.ref q),o4,o5,o6,o7]/\Ya1/\H' D=some (.lst (Yi1))/\YoY=E2++exts x.1 (x.2.drop j)/\Paired (G1 A D u H') as2 (((X.take i).flatMap λx=>YoY)++E2)/\as2.length<=12*i+2*j)
   ⟨ZbR,as',[],rfl,sm,hd,rfl,by rw[List.append_nil];exact hp,YaP⟩ ?_ ?_ ?_ ?_
  ·rintro j σ H' hj ⟨o4,o5,o6,o7,as2,E2,rfl,sm2,_⟩;exact⟨aE x.2,(aE x.2)[j]'(by rw[aH];exact hj),YuM,List.getElem?_eq_getElem _⟩
  ·rintro σ H' ⟨o4,o5,o6,o7,as2,E2,rfl,sm2,_⟩;exact⟨aE x.2,YuM,by rw[aH];exact YcH⟩
  ·rintro j σ H2 hj ⟨o4,o5,o6,o7,as2,E2,rfl,sm2,hd2,hE,hp2,hl2⟩ v H' ⟨tt,kx,ev,ntt,eH,hkx⟩;subst ev;subst eH;have e1:=hkx (aE x.2) (YuM);obtain⟨z,hz,rfl⟩:=bE e1;have hdr:x.2.drop j=z::x.2.drop (j+1):=by rw[List.drop_eq_getElem_cons hj];rw[List.getElem?_eq_getElem hj]at hz;injection hz with hz;rw[hz]
   have zu:z∈u:=hxsub.subset (Yb0);have nr:(u.reverse.map λk=>k).Nodup:=(by rw[List.map_id'];exact(YuP).nodup_iff.mpr nu);have t1:=ak (o:=Yzn) YhK ntt;have S1:=sm2.trans t1;have bits:∀{H':Hp},Ya1->Ypv:=λ{H'} s=>by have g:=bN.k (k:=Ycm) (s _ _ hbd);unfold dj at g;rw[jX (kf:=λk=>k) nr Yju]at g;exact g
   refine⟨tt,Zaa,YhD,rfl,Zbr,ZaM⟩;refine⟨Zb4,S1 _ _ hob,T.cS,T.ij,ZaF,ZbS,ll,Zaa,aV.of (S1 _ _ hll),λlk hlk=>?_⟩;have eC:GR (aE x.2) (some (((j:Nat):Int)+1)) none=aE (YdV):=by rw[show((j:Nat):Int)+1=((j+1:Nat):Int)by omega,Xe (by rw[aH];omega)];unfold aE;rw[List.map_drop]
   rw[eC];have t2:=ak (o:=YBc) t1 hlk;have S2:=sm2.trans t2;have nlkD:lk≠D:=Ne.symm (neN hlk (t1 _ _ hd2));refine⟨Zb4,S2 _ _ hob,T.cS,T.gW,ZaF,sa,Zbh,S2 _ _ hsa,Zay,ZbX,S2 _ _ hsa,Zbk,bits S2,ZaD,ZaM⟩;dsimp only;rw[nE,gN,YT rfl];have hd3:=t2 _ _ hd2;have hlk3:=ab (H:=upd H2 tt (Yzn)) (a:=lk) (o:=YBc);refine⟨Za7,Zb4,S2 _ _ hob,T.cS,T.gg,ZaF,Yap,YsR⟩;have t3:=ak (o:=.lst [Yfu,YmW]) t2 hq1;refine⟨pl,q1,ZaD,(sm2.trans t3) _ _ hpl,ab,Ypw,λc1 hc1=>?_⟩;have t4:=ak (o:=.lst (ke x.1++[Yfu,YmW])) t3 hc1;have nc1D:c1≠D:=Ne.symm (neN hc1 (t3 _ _ hd2));refine⟨ZaE,λy dy ny ndy ney=>⟨y,dy,Zbj,Za6⟩⟩;have t5:=made ny ndy k5;have T5:=t4.trans t5;have hd5:=T5 _ _ hd2;have lt5:(Yi1).length<sizeLine:=aP (n:=20000) YaI YeP;refine⟨D,ZaD,hd5,lt5,?_⟩;have sup1:G1 A D u H5 y Yll:=⟨dy,c1,lk,h5,by rw[t5 _ _ ab,yL];rfl,Yzc,nc1D,nlkD⟩;have S6:aN H (upd H5 D YrP):=aS (sm2.trans T5) hD;have lk6:upd H5 D YrP lk=some (YBc):=ai nlkD (Yzc);refine⟨Zaa,Yex,Zb4,S6 _ _ hob,T.cS,T.gg,ZaF,Yap,Yhp⟩;have t7:=ak (o:=.lst [Yfu,Yx7]) (same_refl (upd H5 D YrP)) hq2;refine⟨pl,q2,ZaD,(S6.trans t7) _ _ hpl,ab,Ypw,λc2 hc2=>?_⟩;have t8:=ak (o:=.lst (ke x.1++[Yfu,Yx7])) t7 hc2;have S8:=S6.trans t8;have nc2D:c2≠D:=Ne.symm (neN hc2 (t7 _ _ ab));refine⟨Zb4,S8 _ _ hob,T.cS,T.gW,ZaF,sa,Zbh,S8 _ _ hsa,Zbk,bits S8,ZbS,λy2 dy2 ny2 ndy2 ney2=>⟨y2,dy2,Zbj,ab,λH9 h9 k9=>⟨Zag⟩⟩⟩;have t9:=made ny2 ndy2 k9;have T9:=t8.trans t9;have hd9:=T9 _ _ (ab (H:=H5) (a:=D));refine⟨D,ZaD,hd9,aP (n:=20000) (by rw[List.length_append,List.length_map];show _+1<=_;omega) YeP,?_⟩;dsimp only at h9;rw[gN,WM rfl]at h9;have sup2:G1 A D u H9 y2 Yl3:=⟨dy2,c2,lk,h9,by rw[t9 _ _ ab,yL];rfl,T9 _ _ lk6,nc2D,nlkD⟩;refine⟨ZbR,as2++[y]++[y2],E2++[Yll,Yl3],rfl,aS (S6.trans T9) hD,ZbG,?_,by simp only[List.length_append,List.length_cons,List.length_nil];omega⟩
   ·rw[ab,List.map_append,List.map_append];rfl
   ·rw[hE,hdr,exts,List.append_assoc];rfl
   ·rw[show E2++[Yll,Yl3]=E2++[Yll]++[Yl3]by rw[List.append_assoc];rfl,<-List.append_assoc,<-List.append_assoc];refine Paired.snoc (Paired.snoc (Paired.gE hp2 λ_ _ z=>((((z.same T5).upd hd5).same T9).upd hd9)) (((sup1.upd hd5).same T9).upd hd9)) (sup2.upd hd9)
  ·rintro σ H2 ⟨o4,o5,o6,o7,as2,E2,rfl,sm2,hd2,hE,hp2,hl2⟩;rw[List.drop_length,exts,List.append_nil]at hE;refine⟨ZbR,_,as2,rfl,sm2,hd2,?_,YaP⟩;rw[take_snoc hs,List.flatMap_append];simp only[List.flatMap_cons,List.flatMap_nil,List.append_nil];rw[hE];exact hp2
 ·rintro σ H1 ⟨o3,o4,o5,o6,o7,as',rfl,sm,hd,hp,hl⟩;ext Xdb;exact⟨Zaa,k D as' H1 sm hD hd (Paired.gE hp λ_ _ z=>z.to)⟩
section
open Vbnlad (chain unknown settling judged picks within Answer)
theorem FK(l:Ybf):(VbnladNeutral.shown (.pairs l)).map V.int=Yrv++ke l:=by unfold VbnladNeutral.shown ke;rw[List.map_cons,List.map_flatMap];congr 2
def aaT(o:Option (Ybf)):Answer:=match o with
 |none=>.number (-7)
 |some p=>.pairs p
def Oi(K:Yaj)(A:bL):Sp:=λvs H Q _=>∃a sa dx bd u,∃(s:Vbnlad.State)(facts:List (Nat×Bool))(day rank:Nat)(l:List Vbnlad.Edition)(want:Bool),
 vs=[Ybc,YvZ,.int (((if want=true then yB YeV Yey else YvA^^^yB YeV Yey):Nat):Int)]/\u=Yan/\H a=YkH/\H sa=Yb6/\H bd=Yrm/\Yaz<=6/\
 ∀p H',Ya1->H p=none->H' p=some (.lst ((VbnladNeutral.shown (aaT (Yk2))).map V.int))->Ycd
theorem BK(T:Yas):a6 P w K mg base cN 4 A.lI A.lU Yml (Oi K A):=by
 refine T.tO.ok qN YjZ Yab;obtain⟨a,sa,dx,bd,u,st,facts,day,rank,l,want,rfl,eu,ha,hsa,hbd,hul,k⟩:=h;have nd:=qN.nd;have nu:YrS:=by rw[eu];exact fP ..
 have p3:3^Yaz<=729:=Nat.pow_le_pow_right (by decide:0<3) hul;generalize hwm:(if want=true then yB (2^u.length) (dE st facts day rank l u)else a4 (2^u.length)^^^yB (2^u.length) (dE st facts day rank l u))=wm;have mask:∀{x:Qw}{n:Nat},x∈YmV->(Yxv=true↔bm YeV Yn4&&& wm=bm YeV Yn4):=λ{x n} hx=>by rw[<-hwm];exact MF eu rfl (iK n u x hx).1 want
 refine⟨_,(af (aF (i:=3) nd rfl Yaf (aQ (aa (cH T.yX (mP T) Yac rfl T.BZ T.pK .nil aD (aa YgO (aa Ye8 Yq0))) ah)))
   (af (jK PassesOwn.never (aC nZ Yqu aq Ybo) (af (cO PassesOwn.never rfl (bq Yba) Ye2 (aj (aM (aC bY (a7 wz Ymc YaS) Ymc Ybo) (aj (au (a7 ic (aQ (aa (a7 SJ (aT a8 rfl T.cP bR (aa Ymc ah)) aq) ah)) Ymc))) az)))
   (aj (aF (i:=3) nd rfl Yaf (ay (AD T) Yac rfl T.BY T.sG.kp T.Cy .nil aD (aa Yba YeW))))))
   (YDY))),?_⟩
 refine⟨Ybv,λpl0 hpl0=>?_⟩;have s0:=ak (o:=Ycx) Yay hpl0;refine⟨ZbX,s0 _ _ hsa,Zay,Zaa,λy dy ny ndy ney=>⟨y,dy,Zbj,ab,λH1 h1 k1=>⟨rfl,Yag,λL0 hL0=>?_⟩⟩⟩;have s1:=s0.trans (made ny ndy k1);have s2:=ak (o:=.lst [.ref y]) s1 hL0;have hX0:Paired (Qo A u (upd H1 L0 (.lst [.ref y]))) [y] (bB 0 u):=by rw[show bB 0 u=[([],u)]by rw[bB]];refine .cons ⟨dy,pl0,a,bM hL0 (h1.trans ?_),bM hL0 ((made ny ndy k1) _ _ ab),bM hL0 (s1 _ _ ha)⟩ .nil;show some (HO.ins A.fX dy [("pairs",.ref pl0),("left",YxS),("later_keys",Ybc)])=_;rw[show bm YeV (fj u (([],u):Qw).1)=YvA from WN]
 refine⟨λm σ H'=>∃(n:Nat)(sp:Addr)(as:List Addr)(o4:Option V),m=Yaz+2-n/\σ=YnZ/\Ya1/\H' sp=Yfp/\Paired (Qo A u H') as (YmV)/\∀m,m<n->∀q∈picks m u,jS st facts day rank l want q=false,
  ⟨_,0,L0,[y],Za8,by rw[<-hwm];rfl,s2,ab,hX0,λm hm=>absurd hm (Nat.not_lt_zero m)⟩,?_⟩
 rintro m σ H2 ⟨n,sp,as,o4,rfl,rfl,sm,hsp,hpX,h0⟩;have hlen:Yw6=(YmV).length:=hpX.length;refine⟨Zaa,sp,Zaa,.inl (YBX),Zb1⟩
 ·have e1:(0:Int)<((YbP).length:Nat):=YaQ;rw[List.length_map,hlen]at e1;have hn:n<=Yaz:=by obtain⟨x,hx⟩:∃x,x∈YmV:=List.exists_mem_of_length_pos Yad;have:x.1∈Ytc:=(by rw[<-gB];exact List.mem_map_of_mem hx);exact LA this
  refine YyN;refine⟨Zaa,sp,rfl,⟨_,YBX⟩,?_⟩;refine bZ (xs:=YbP) (λi σ H'=>∃o4,σ=YnZ/\H'=H2/\∀x∈(YmV).take i,Yxv=false) ⟨Zaa,rfl,Ydx⟩ ?_ ?_ ?_
  ·rintro i σ H' _ ⟨o4,rfl,rfl,_⟩;exact YBX
  ·rintro i v σ H' hx ⟨o4,rfl,eH,hm⟩;subst eH;ext XaG;have hi:i<(YmV).length:=(by rw[<-hlen];exact(Yly).1);have hs:(YmV)[i]? =some (YmV)[i]:=Ya7;obtain⟨q',hq',hsup⟩:=bV hpX hs;ext Xaj;generalize hxx:(bB n u)[i]=x at hs hsup;have xm:=Ydh;obtain⟨dxs,pl,ll,hob,hpl,hll⟩:=hsup;refine⟨Zb4,hob,T.cS,T.gW,ZaF,ZaD,Zb4,hob,T.cS,T.gW,rfl,ZaF,Ybu⟩
   ·have e3:YjB=Yz8:=YgT;rw[gN]at e3;have e4:bm YeV Yn4&&& wm=bm YeV Yn4:=(by injection e3 with e3;omega);have e5:=(mask xm).mpr e4;have ef:(Ytc).find? (jS st facts day rank l want)=some x.1:=by
     have hsplit:YmV=(YmV).take i++x::(YmV).drop YcG:=by rw[<-hxx,List.getElem_cons_drop];exact(List.take_append_drop i _).symm
     rw[<-gB,hsplit,List.map_append,List.find?_append,List.find?_eq_none.mpr Yy1,List.map_cons,List.find?_cons,e5]
     ·rfl
     ·obtain⟨z,hz,rfl⟩:=List.mem_map.mp hy;rw[hm z hz];exact Bool.false_ne_true
    have eset:YvF=some x.1:=by rw[eu]at h0 ef;exact ME h0 ef
    rw[eset]at k;have xl:=(iK n u x xm).2;refine⟨Zb4,hob,T.cS,T.gg,rfl,pl,Zaa,.inl (aV.of hpl),ZaD,⟨YaT,YaT⟩,Yag,YsR⟩;have t1:=ak (o:=.lst [.int ((((ke x.1).length:Nat):Int)/2)]) YbG hq1;refine⟨Zb4,t1 _ _ hob,T.cS,T.gg,rfl,q1,pl,ZaD,ab,t1 _ _ hpl,aY (m:=100) (by rw[mN];show 1+_<=_;omega) YeP,Yhp⟩;refine k q2 _ (ak (sm.trans t1) hq2) (same_none (sm.trans t1) hq2) ?_;rw[ab];show _=some (HO.lst ((VbnladNeutral.shown (.pairs x.1)).map V.int));rw[FK,mN];have:(((2*x.1.length:Nat):Int)/2)=((x.1.length:Nat):Int):=Yad;dsimp only;rw[this]
   ·have e3:¬(YjB=Yz8):=Ygu;rw[gN]at e3;refine⟨Zaa,rfl,λy hy=>?_⟩;rw[take_snoc hs,List.mem_append,List.mem_singleton]at hy;rcases hy with hy|rfl
    ·exact hm y hy
    ·cases h:jS st facts day rank l want y.1 with
     |false=>rfl
     |true=>exact absurd (by rw[(mask xm).mp h]) e3
  ·rintro σ H' ⟨o4,rfl,eH,hm⟩;subst eH;rw[List.length_map,hlen,List.take_length]at hm;refine⟨ZaE,sp,sa,dx,bd,u,as,YmV,rfl,hsp,hpX,sm _ _ hsa,sm _ _ hbd,nu,λx hx=>⟨qj n u x hx,by have:=(iK n u x hx).2;omega⟩,Nat.le_trans (EZ n u) p3,hul,λp2 as2 H3 s3 np2 hp2 hX2=>?_⟩;refine⟨Yaz+2-YCG,YaP,n+1,p2,as2,Zaa,rfl,YBm,hp2,?_,λm hm2 q hq=>?_⟩
   ·rw[nX];exact hX2
   ·by_cases e2:m<n
    ·exact h0 m e2 q hq
    ·have e3:m=n:=Yad;subst e3;rw[<-gB]at hq;obtain⟨x,hx,rfl⟩:=List.mem_map.mp hq;exact hm x hx
 ·have e1:¬(0:Int)<((YbP).length:Nat):=YaH;rw[List.length_map,hlen]at e1;have e2:Ytc=[]:=by rw[<-gB,List.length_eq_zero_iff.mp (by omega:(YmV).length=0)];rfl
  have eset:YvF=none:=by rw[eu]at h0 e2;exact Kl h0 e2
  rw[eset]at k;exact⟨Zbq,λq hq=>k q _ (ak sm hq) (same_none sm hq) ab⟩
def Ua(K:Yaj)(A:bL):Sp:=λvs H Q _=>∃G s name view want,vs=[Ybz,.int name,.int view,.int want]/\YaF/\FH K A H G s YpI Q
def EN(T:Yas):a6 P w K mg base cN 7 A.oY A.pC Yky (Ua K A):=by
 refine T.xR.ok vi Yav Yab;obtain⟨G,st,name,view,want,rfl,C,k⟩:=h;have nd:=vi.nd;ext XaK
 refine⟨_,(af (aF (i:=4) nd rfl Yaf YlK)
   (af (aM (aC lF Ycg aq Ybo) (aj (au (aQ Yfk))) az)
   (af (aM Yu2 YaE az)
   (af (aF (i:=5) nd rfl Yaf Yfo)
   (af (aF (i:=6) nd rfl Yaf (ay (vo T) Yac rfl T.xD T.pP.kp T.xM .nil aD (aa Yau (aa Yda YaM))))
   (af (aM (aC nZ (aT a8 rfl T.cP bR Yj7) (cy rfl T.sN) Ybo) YaE az)
   (af (aF (i:=7) nd rfl Yaf (cH T.vA (iN T) Yac rfl T.za T.jR .nil aD Yj7))
   (af (aF (i:=8) nd rfl Yaf (ay (tu T) Yac rfl T.vB T.nG.kp T.vM .nil aD (aa Yau (aa Yda (aa YaS YhL)))))
   (af (aM (aC bY Yba aq Ybo) (aj (aF (i:=8) nd rfl Yaf (a7 EL (aw Ypi rfl) YDc))) az)
   (aj (au (ay (BK T) Yac rfl T.Dx T.tO.kp T.DV .nil aD (aa YeJ (aa Ypi (aa YDc ah))))))))))))))),?_⟩
 refine YqJ;have num:∀{H':Hp}{l:Addr}{n:Int},Ya1->H' l=none->Vbnlad.step st YpI=YAM->YbV:=λ{H' l n} s hl e=>YaL
 ext XeL
 ·ext Xd8
 refine YnY;refine Yq7;all_goals have s2:=ak (o:=.tup Ydb) s1 ht
 ·have e1:(!tE (.int want) Ydb)=true:=e;rw[LN]at e1;refine⟨Zbq,λl hl=>num s2 hl ?_⟩;ext Xb4;rw[Wap Ybe]
 have okw:within want 0 1=true:=by have e1:(!tE (.int want) Ydb)=false:=e;rw[LN]at e1;ext Xdd
 have iw:¬within want 0 1=false:=by rw[okw];decide
 have C2:=C.same s2;have g:=bN.k (k:=YyU) C2.CI;rw[vp]at g;refine bx (ba ⟨Zbp,C2.obj,T.bc,ZbU,g,?_⟩);refine⟨ZcV,p,Zbz,C2,hp,λa H3 s3 na3 ha3 huf=>?_⟩;have s13:=s2.trans s3;have C3:=C.same s13;generalize hU:unknown st p.1.facts p.1.day p.1.rank (chain st view.toNat)=u at ha3 huf;have nu:YrS:=by rw[<-hU];exact fP ..
 refine⟨ZcA,.inl (aV.of ha3),Zb1⟩
 ·have e1:(6:Int)<((aE u).length:Nat):=Waf e;rw[aH]at e1;refine⟨Zbq,λl hl=>num s13 hl ?_⟩;ext Xb4;rw[Wae iw,hU,Wap (show Vbnlad.SETTLEFLAGS<u.length by unfold Vbnlad.SETTLEFLAGS;omega)]
 have e1:¬(6:Int)<((aE u).length:Nat):=Wag e;rw[aH]at e1;have i1:¬Vbnlad.SETTLEFLAGS<Yaz:=by unfold Vbnlad.SETTLEFLAGS;omega
 refine Yr4;refine qM (u:=u) C3 nx ndx nex (aV.of ha3) (ao ha3 nx) (ao ha3 ndx) nu Yad λbd H4 s4 h4 hbd nbf=>⟨Zag⟩;ext Xho;refine⟨ZaE,Zbs,p,x,dx,bd,u,Zbz,C4,hp,h4,hbd,nbf,nu,YaP,huf,λH5 s5=>?_⟩;ext Xhn;have step:Vbnlad.step st YpI=(st,Ylb):=by ext Xb4;rw[Wae iw,hU,Wae i1];cases settling st p.1.facts p.1.day p.1.rank (Yc8) (want==1)<;>rfl
 have fin:∀{q:Addr}{H':Hp},aN H5 H'->H5 q=none->H' q=some (.lst ((VbnladNeutral.shown (Ylb)).map V.int))->Q (.ref q) H':=λ{q H'} s nq hq=>k q H' G st _ rfl (Kp.same (s15.trans s)) (C5.same s) (same_none s15 nq) hq step
 refine Yjc
 ·have e2:V.int want=Yd4:=Waf e;have e3:(want==1)=false:=by ext XeO;rw[e2];rfl
  rw[e3]at fin;refine⟨Zaa,x,Zbh,s5 _ _ h4,Zay,Zaa,ZaM⟩;refine⟨Zcb,false,?_,Za9⟩;rw[Wae YeP];show[V.ref a,V.ref x,V.int (Builtin.bitXor _ _)]=_;rw[nE]
 ·have e2:¬(V.int want=Yd4):=Wag e;have e3:(want==1)=true:=by
   unfold within at okw;rw[WaJ,War,War]at okw;have h1:(0:Int)<=want:=okw.1;have h2:want<=(1:Int):=okw.2;by_cases q:want=0
   ·exact absurd (by rw[q]) e2
   ·have:want=1:=Yad;subst this;rfl
  rw[e3]at fin;refine bx ⟨Zcb,true,rfl,Za9⟩
end
section
open Vbnlad (Raw flagsIn daysIn flagsOf turns)
def sW:fY->Option Nat
 |.since d=>some d
 |.before d=>some d
 |_=>none
def nW(s:YaW):∀c:Raw,(cA c).filterMap sW=daysIn YAO
 |.tt=>rfl
 |.ff=>rfl
 |.flag i t=>rfl
 |.since d=>rfl
 |.before d=>rfl
 |.rank a b=>rfl
 |.not a=>by rw[cA,Wbc,nW s a,nL,daysIn];simp[sW]
 |.and a b=>by ext Xgl
 |.or a b=>by ext Xgl
def Oq(K:Yaj)(A:bL):Sp:=λvs H Q _=>∃G s a R,vs=Yvz/\YaF/\qz H G a R/\YgR<=16/\
 ∀p H',Ya1->H p=none->H' p=some (.lst (aE (YfN)))->(∀k∈YfN,∃x∈Yhd,x.key=k)->Ycd
theorem tq(T:Yas):a6 P w K mg base cN 1 A.B9 A.Co Yw7 (Oq K A):=by
 refine T.sH.ok FP Yat Yab;ext XfV;have nd:=FP.nd
 refine⟨_,(af Yox
   (af (cO PassesOwn.never rfl Yrp (Ye6) (aj (bp (fI PySem.F.plainAttrs_list PySem.F.slot_list_extend PySem.F.type_list_extend vy YaG YqZ))))
   (Yjs))),?_⟩
 ext XcT;ext Xc7;refine bZ (xs:=YiK) (λj σ H'=>∃(o2:Option V)(fl:List Nat),σ=[Yfd,Ydn,o2]/\Ya1/\H' D=YuF/\fl.length<=24*j/\(∀k,k∈fl↔∃r∈R.take j,k∈Ya2)/\YyG)
  ⟨ZcL,s0,ab,Ybv,Ydx,Ydx⟩ ?_ ?_ ?_
 ·rintro j σ H' _ ⟨o2,fl,rfl,sm,_⟩;exact aV.of (sm _ _ hrs)
 ·rintro j x σ H1 hx ⟨o2,fl,rfl,sm,hd,hl,mem,infl⟩;ext XdJ;have hj:j<YgR:=by rw[<-hlr];exact(Yc3).1
  ext Xhd;have hfi:=AZ hr0;obtain⟨dx,sl,kl,c,ho,hst,hkl,rok⟩:=id hr0;ext Xem;refine⟨Zaa,Ycs,Zaa,ra,Zbh,sm _ _ ho,T.fV,T.mQ,rfl,D,kl,ZaD,hd,sm _ _ hkl,aY (m:=10000) (by have z1:=aH fl;have z2:=aH (Yfc);omega) YeP,?_⟩;refine⟨_,fl++Yfc,rfl,Ylc,?_,Ylw,λk=>?_,λk hk=>?_⟩
  ·rw[ab];ext Xbe
  ·rw[List.mem_append,mem,take_snoc hsr,bO];ext XaT
   ·rintro(⟨r',h1,h2⟩|h)
    ·exact Yef
    ·exact⟨r,Yhh,h⟩
   ·rintro⟨r',h1,h2⟩;ext Xbk
    ·exact .inl ⟨r',Zb7⟩
    ·ext Xda;exact .inr h2
  ·rcases List.mem_append.mp hk with h|h
   ·exact infl k h
   ·exact hfi k (bO.mp h)
 ·rintro σ H1 ⟨o2,fl,rfl,sm,hd,hl,mem,infl⟩;ext XcS;have su:Yrb=YfN:=by unfold flagsOf;refine v9 λk=>?_;rw[mem,List.mem_flatMap]
  have s4:=Yz5;refine k q _ (ak s4 hq) YxY ?_ ?_
  ·ext Xf2
  ·rw[<-su];exact λk hk=>infl k (bO.mp hk)
def QS(A:bL):Sp:=λvs H Q _=>∃s ra r,vs=[YCE]/\gO A H s ra r/\
 ∀p L H',Ya1->H p=none->H' p=some (.lst (aE L))->(∀d,d∈L↔d∈Yom)->Ykc<=202->Ycd
theorem xy(T:Yas):a6 P w K mg base cN 1 A.rP A.rY ["rule"] (QS A):=by
 refine T.sD.ok xt Ybh Yab;obtain⟨st,ra,r,rfl,⟨dx,sl,kl,c,ho,⟨ss,hsl,hss⟩,hkl,rok⟩,k⟩:=h;have nd:=xt.nd;ext XgP
 refine⟨_,(af (iJ (i:=1) (own:=[("step",2)]) rfl nd rfl rfl YcC (bq Yak) YbT YoJ (λ_ _ _ _ _=>qh (aC (Rk K rfl) (YD0) Yb1 YaO)) (λ_ _ _ _ _=>(YD0)))
   (aj (au (a7 ic YaG (aQ (aa Yak (aa (a7 mO Yak aq) ah))))))),?_⟩
 refine⟨ZbT,T.ql,ZcP⟩;refine gF (xs:=YcE) (λi H'=>H' D=some (.lst (aE (((cA c).take i).filterMap sW)))/\Ya1) YoB YvL ?_ ?_
 ·ext XdI;ext XaG;have hi':i<(cA c).length:=by ext Xak
  ext XbD;rw[take_snoc hs,List.filterMap_append];refine⟨ZaF,q,Zbv,Zcy,Yap,YAn⟩;all_goals have s2:=ak (o:=.tup Yc6) YjA ht
  all_goals have hst2:dY _ q y:=hst1.same s2
  ·have e1:tE YwD Yc6=true:=e;rw[Am]at e1;obtain⟨d,hd1,hd2⟩:∃d,sW y=some d/\Vp (AS y) 1=some (Ygx):=by
    ext XdX
    ·obtain⟨d,rfl⟩:=Me e2;exact⟨d,ZaI⟩
    ·obtain⟨d,rfl⟩:=Eo e2;exact⟨d,ZaI⟩
   refine⟨Zbd,ZaD,eA.of hst2,hd2,_,Yye,Zae,Yns⟩
   ·rw[aH];have:=List.length_filterMap_le sW ((cA c).take i);ext Xa0;have:=rok.ln;omega
   ·rw[ab,List.filterMap_cons_some hd1];ext Xay
  ·have e1:tE YwD Yc6=false:=e;rw[Am]at e1;have n2:=Yc7;have hno:sW y=none:=by
    cases y with
    |since d=>exact absurd YwF n2
    |before d=>exact absurd YnL n2
    |_=>rfl
   refine⟨?_,YBn⟩;rw[List.filterMap_cons_none hno,List.filterMap_nil,List.append_nil];exact Yye
 rintro H1 ⟨hD1,s1⟩;rw[List.length_map,hlen,List.take_length,nW st,<-rok.cd]at hD1;have ld:(Ym1).length<=200:=by rw[rok.cd,<-nW st];exact Nat.le_trans Ymn rok.ln
 refine⟨ZaE,ra,Zbh,s1 _ _ ho,T.fV,T.qm,ZaF,ra,Zbh,s1 _ _ ho,T.fV,T.tw,rfl,ZaD,Yap,YsR⟩;have t1:=ak (o:=.lst [.int ((r.first:Nat):Int),.int (((r.last:Nat):Int)+1)]) s1 hq1;refine⟨D,q1,ZaD,bM hq1 hD1,ab,aY (m:=1000) (by rw[aH];show _+2<=_;omega) YeP,Yhp⟩;refine k q2 (Ym1++[YvU,r.last+1]) _ (ak t1 hq2) (same_none t1 hq2) ?_ (λd=>?_) (by rw[List.length_append];show _+2<=_;omega)
 ·rw[ab];ext Xbe;rfl
 ·unfold turnsOf;simp only[List.mem_append,List.mem_cons,List.not_mem_nil,or_false];ext XaT
  ·rintro(h|h|h)
   ·exact .inr (Yku)
   ·exact YiC
   ·exact .inr (YiC)
  ·rintro(h|h|h)
   ·exact .inr (YiC)
   ·exact .inr (Yku)
   ·exact YiC
end
section
open Vbnlad (turns)
def QX(K:Yaj)(A:bL):Sp:=λvs H Q _=>∃G s a R,vs=Yvz/\YaF/\qz H G a R/\YgR<=16/\
 ∀p H',Ya1->H p=none->H' p=Yrr->Ycd
theorem Rm(T:Yas):a6 P w K mg base cN 2 A.Fe A.Fj Yw7 (QX K A):=by
 refine T.Md.ok HN Yat Yab;ext XfV;have nd:=HN.nd
 refine⟨_,(af (aF (i:=1) nd rfl Yaf (aQ YdC))
   (af (cO PassesOwn.never rfl Yrp (Ye6) (aj (bp (fI PySem.F.plainAttrs_list PySem.F.slot_list_extend PySem.F.type_list_extend vy YaG (aa (yI (own:=[("day",3)]) rfl nd (bq (ay (xy T) Yac rfl T.y8 T.sD.kp T.zO .nil aD YaM)) YbT Ywg (λ_ _ _ _ _=>qh (aC my Yba (cy rfl T.B3) Ybo)) (λ_ _ _ _ _=>(pv 3))) ah)))))
   (Yjs))),?_⟩
 refine⟨Yag,YeD⟩;have s0:=ak (o:=Yyo) Yay hD;ext Xc7;refine bZ (xs:=YiK) (λj σ H'=>∃(o2 o3:Option V)(fl:List Nat),σ=[Yfd,Ydn,o2,o3]/\Ya1/\H' D=YuF/\fl.length<=1+202*j/\(∀d,d∈fl↔(d=0∨∃r∈R.take j,d∈Yom)/\d<=1000000))
  ⟨none,none,[0],rfl,s0,ab,YcH,λd=>?_⟩ ?_ ?_ ?_
 ·simp;omega
 ·rintro j σ H' _ ⟨o2,o3,fl,rfl,sm,_⟩;exact aV.of (sm _ _ hrs)
 ·rintro j x σ H1 hx ⟨o2,o3,fl,rfl,sm,hd,hl,mem⟩;ext XdJ;have hj:j<YgR:=by rw[<-hlr];exact(Yc3).1
  ext Xhd;refine⟨Zaa,Ycs,Zaa,st,ra,r,rfl,hr0.same sm,λtp L H2 s2 ntp htp memL lL=>⟨tp,rfl,⟨_,aV.of htp⟩,Yx9⟩⟩;refine gF (xs:=aE L) (λm H'=>H' N=some (.lst (aE ((L.take m).filter λd=>YjL)))/\aN H2 H') ⟨ab,ak YhK hN⟩ (λm H' _ z=>aV.of (z.2 _ _ htp)) ?_ ?_
  ·rintro m x H' hx ⟨hN',sn⟩;ext XaS;rw[take_snoc hz,kN];refine⟨ZaF,Zb1⟩
   ·have e1:((z:Nat):Int)<=1000000:=YaQ;refine YzU
    ·rw[aH];have:=List.length_filter_le (λd=>YjL) (L.take m);ext Xa0;omega
    ·rw[ab,if_pos (decide_eq_true Yad)];ext Xay
   ·have e1:¬((z:Nat):Int)<=1000000:=YaH;refine⟨?_,sn⟩;rw[if_neg (by rw[decide_eq_false (by omega:¬z<=1000000)];decide),List.append_nil];exact hN'
  rintro H3 ⟨hN3,s3⟩;rw[aH,List.take_length]at hN3;have lfil:=List.length_filter_le (λd=>YjL) L;have z1:=aH fl;have z2:=aH (L.filter λd=>YjL);refine⟨D,N,ZaD,s3 _ _ (s2 _ _ hd),hN3,aY (m:=10000) Yad YeP,?_⟩;refine⟨_,_,fl++L.filter (λd=>YjL),rfl,aS (sm.trans (s2.trans s3)) hD,?_,Ylw,λd=>?_⟩
  ·rw[ab];ext Xbe
  ·rw[List.mem_append,mem,take_snoc hsr,List.mem_filter,memL,decide_eq_true_eq];ext XaT
   ·rintro(⟨h|⟨r',h1,h2⟩,h3⟩|⟨h,h3⟩)
    ·exact⟨YiC,h3⟩
    ·exact⟨.inr Yef,h3⟩
    ·exact⟨.inr ⟨r,Yhh,h⟩,h3⟩
   ·rintro⟨h|⟨r',h1,h2⟩,h3⟩
    ·exact .inl ⟨YiC,h3⟩
    ·ext Xbk
     ·exact .inl ⟨YxT,h3⟩
     ·ext Xda;exact .inr ⟨h2,h3⟩
 ·rintro σ H1 ⟨o2,o3,fl,rfl,sm,hd,hl,mem⟩;ext XcS;have su:Yrb=Ym8:=tM (bP _) (bP _) λd=>by rw[bO,mem];exact bW.symm
  have s4:=Yz5;refine k q _ (ak s4 hq) YxY ?_;ext Xf2
end
section
open Vbnlad (chain Answer dayOk)
def FJ(K:Yaj)(A:bL)(mk:Int->Yoa):Sp:=λvs H Q _=>∃G s na ra x,vs=Yfb/\aV K H na [.int x]/\YaF/\FH K A H G s (mk x) Q
def xp(K:Yaj)(A:bL)(mk:Int->Int->Yoa):Sp:=λvs H Q _=>∃G s na ra x y,vs=Yfb/\aV K H na YA4/\YaF/\FH K A H G s (mk x y) Q
def Zu(K:Yaj)(A:bL)(mk:Int->Int->Int->Yoa):Sp:=λvs H Q _=>∃G s na ra x y z,vs=Yfb/\Yk3/\YaF/\FH K A H G s (mk x y z) Q
def EO(T:Yas):a6 P w K mg base cN 9 A.fE A.pG Yai (xp K A .status):=by refine T.xS.ok EA YaC Yab;ext XaY;refine⟨_,(aj (au (ay (EM T) Yac rfl T.GK T.xQ.kp T.GU .nil aD Yo4))),?_⟩;exact Yn2
def IF(T:Yas):a6 P w K mg base cN 8 A.gZ A.uT Yai (xp K A .sure):=by refine T.Bk.ok HR YaC Yab;ext XaY;refine⟨_,(aj (au (ay (Iz T) Yac rfl T.Ku T.Be.kp T.KJ .nil aD Yo4))),?_⟩;exact Yn2
def Dq(T:Yas):a6 P w K mg base cN 10 A.eJ A.ng Yai (xp K A .list):=by refine T.vR.ok C8 YaC Yab;ext XaY;refine⟨_,(aj (au (ay (IC T) Yac rfl T.Kx T.Bh.kp T.KO .nil aD Yo4))),?_⟩;exact Yn2
def Dt(T:Yas):a6 P w K mg base cN 10 A.eP A.nj Yai (xp K A .changes):=by refine T.vU.ok Dd YaC Yab;ext XaY;refine⟨_,(aj (au (ay (Dm T) Yac rfl T.EX T.vP.kp T.Fu .nil aD Yo4))),?_⟩;exact Yn2
def ER(T:Yas):a6 P w K mg base cN 8 A.fF A.pH Yai (Zu K A .settle):=by refine T.xT.ok EB Yax Yab;ext Xds;refine⟨_,(aj (au (ay (EN T) Yac rfl T.GL T.xR.kp T.GV .nil aD Yst))),?_⟩;exact⟨ZbY,k⟩
end
section
open Vbnlad (chain Answer dayOk)
def NT(K:Yaj)(A:bL)(H:Hp)(G:CG)(s:YaW)(c:Yoa)(Q:VK):Prop:=∀p H' G' s'(a:Answer),G'.a=G.a->YdG->Yg8->(∀xs,H p≠YdB)->H' p=YoP->YsE=(s',a)->Ycd
def NT.toQ(k:YzI):FH K A H G s c Q:=λp H' G' s' a h1 h2 h3 h4 h5 h6=>k p H' G' s' a h1 h2 h3 (λxs e=>by rw[h4]at e;cases e) h5 h6
theorem NT.num(k:YzI)(eg:G'.a=G.a)(kp:YdG)(C':Yg8)(e:YsE=YAN):
  ∀l,H' l=none->YbV:=λl hl=>
 k l _ G' s' (Yc4) eg (kp.trans (Kp.same (ak YjA hl))) (C'.same (ak YjA hl)) (λxs q=>by rw[kp.lst q]at hl;cases hl) ab e
def Sv(K:Yaj)(A:bL)(mk:Int->Int->Int->Yoa):Sp:=λvs H Q _=>∃G s na ra x y z,vs=Yfb/\Yk3/\YaF/\NT K A H G s (mk x y z) Q
def IH(T:Yas):a6 P w K mg base cN 4 A.g7 A.uV Yai (Sv K A .name):=by refine T.Bm.ok HU Yax Yab;ext Xds;refine⟨_,(aj (au (aQ (aa (ay (OW T) Yac rfl T.Rz T.JZ.kp T.Sb .nil aD Yst) ah)))),?_⟩;exact⟨ZbY,Yfh⟩
def GG(T:Yas):a6 P w K mg base cN 2 A.gi A.si Yai (Sv K A .learn):=by refine T.zZ.ok Gy Yax Yab;ext Xds;refine⟨_,(aj (au (aQ (aa (ay (Ks T) Yac rfl T.Ng T.Ej.kp T.NM .nil aD Yst) ah)))),?_⟩;exact⟨ZbY,Yfh⟩
theorem GH(T:Yas):a6 P w K mg base cN 2 A.gj A.sj Yai (FJ K A .inForce):=by
 refine T.z3.ok xu Yav Yab;obtain⟨G,st,na,ra,v,rfl,hn,C,k⟩:=h;have nd:=xu.nd
 refine⟨_,(af (aM (eR (ck (ay (gX T) Yac rfl T.jN T.jb.kp T.jQ .nil aD YBN))) YaE az)
   (af (aF (i:=3) nd rfl Yaf (ay (cJ T) Yac rfl T.cR T.cz.kp T.cT .nil aD (aa Yau YBN)))
   (af (aM (aC bY Yqu aq Ybo) (Yq9) az)
   (aj (au (aQ (aa (aw (aU a5 Yba aq Yal) rfl) ah))))))),?_⟩
 have num:∀{H':Hp}{l:Addr}{n:Int},Ya1->H' l=none->Vbnlad.step st (.inForce v)=YAM->YbV:=λ{H' l n} s hl e=>YaL
 refine⟨Zaa,Zco,ZaE,Yae⟩
 ·have e1:(!dayOk v)=true:=e;refine Ye4;ext Xao;rw[if_pos Ybe]
 have okd:dayOk v=true:=by have e1:(!dayOk v)=false:=e;ext Xdd
 have i1:¬dayOk v=false:=by rw[okd];decide
 have nv:=lT okd;refine bx (ba ⟨ZaE,Zco,G,st,v.toNat,YiV,C,YhM⟩);obtain⟨as,ha,hL⟩:=hip;refine⟨Zaa,ip,Zcs⟩
 ·have e2:Yff=Yd4:=YaQ;have e3:chain st v.toNat=[]:=by ext XbB
  refine⟨Yag,YmG⟩;ext Xao;rw[if_neg i1,e3]
 ·have e2:¬(Yff=Yd4):=YaH;cases hc:chain st v.toNat with
  |nil=>ext Xa6
  |cons ed r=>
   rw[hc]at hL;cases hL with
   |cons hE hR=>rename_i a0 as0;obtain⟨dxe,kl,hob⟩:=((YeA).ae _ hE).day;refine bx ⟨Zaa,ip,Zbv,aV.of ha,YpL,a0,Zbh,hob,T.bX,T.fS,rfl,Yag,YmG⟩;ext Xao;rw[if_neg i1,hc]
end
def Zs(K:Yaj)(A:bL):Sp:=λvs H Q _=>∃G s na ra x y z,∃ks:YdR,vs=Yfb/\Yk3/\aV K H ra (YgC)/\YbL<=4000/\YaF/\NT K A H G s (.edition x y z ks) Q
def Dr(T:Yas):a6 P w K mg base cN 4 A.eK A.nh Yai (Zs K A):=by refine T.vS.ok C9 YaZ Yab;obtain⟨G,st,na,ra,x,y,z,ks,rfl,hn,hr2,hl,C,k⟩:=h;refine⟨_,(aj (au (aQ (aa (ay (IL T) Yac rfl T.Kz T.Bq.kp T.K0 .nil aD (aa Yau (aa YeQ (aa YeQ (aa YeQ YaM))))) ah)))),?_⟩;exact⟨Zbi,ZaP,ZaG,Zal,ZcW,x,y,z,ra,ks,rfl,C,hr2,hl,Yfh⟩
def Zr(K:Yaj)(A:bL):Sp:=λvs H Q _=>∃G s na ra x,∃t:Yaw,vs=Yfb/\aV K H na [.int x]/\YzE/\Yby<=4096/\YaF/\NT K A H G s (.flag x t) Q
def IJ(T:Yas):a6 P w K mg base cN 3 A.g9 A.uX Yai (Zr K A):=by refine T.Bo.ok HV YaC Yab;obtain⟨G,st,na,ra,x,t,rfl,hn,hr2,hl,C,k⟩:=h;refine⟨_,(aj (au (aQ (aa (ay (OX T) Yac rfl T.RB T.J0.kp T.Sd .nil aD (aa Yau (aa YeQ (aa Ygg ah)))) ah)))),?_⟩;exact⟨ZaE,Zco,Zaa,ra,ZcH,hr2,YaP,λH1 s1=>⟨G,st,x,ZaV⟩⟩
def Zq(K:Yaj)(A:bL):Sp:=λvs H Q _=>∃G s na ra a b c d e,∃t:Yaw,vs=Yfb/\aV K H na [.int a,.int b,.int c,.int d,.int e]/\YzE/\Yby<=4096/\YaF/\NT K A H G s (.rule a b c d e t) Q
def IG(T:Yas):a6 P w K mg base cN 9 A.g6 A.uU Yai (Zq K A):=by refine T.Bl.ok HS Ykq Yab;obtain⟨G,st,na,ra,a,b,c,d,e0,t,rfl,hn,hr2,hl,C,k⟩:=h;refine⟨_,(aj (au (aQ (aa (ay (OV T) Yac rfl T.Ry T.JY.kp T.Sa .nil aD (aa Yau (aa YeQ (aa YeQ (aa YeQ (aa YeQ (aa YeQ (aa Ygg ah)))))))) ah)))),?_⟩;exact⟨Zbi,ZaP,ZaG,ZaP,ZaG,ZaP,ZaG,Zal,Zaa,ra,ZcH,hr2,YaP,λH1 s1=>⟨G,st,a,b,c,d,e0,ZaV⟩⟩
def HK(t:Yaw):(VbnladNeutral.shown (.text t)).map V.int=[Yd4]++aE t:=by unfold VbnladNeutral.shown VbnladNeutral.ints aE;rw[Waw,Wax];rfl
theorem IE(T:Yas):a6 P w K mg base cN 4 A.gY A.uS Yai (FJ K A .text):=by
 refine T.Bj.ok HQ Yav Yab;obtain⟨G,st,na,ra,key,rfl,hn,C,k⟩:=h;ext XaK
 refine⟨_,(af YwW
   (aj (au (a7 ic (aQ YdC) (ay (LD T) Yac rfl T.Pb T.JW.kp T.Qe .nil aD (aa (ay (vm T) Yac rfl T.xC T.pO.kp T.xK .nil aD (aa YAf ah)) ah)))))),?_⟩
 refine⟨Zaa,Zco,Zbp,Zar,Zby,Yv8,ZaH⟩
 ·rcases qg C key with⟨p,hp,e1,e2,e3⟩|⟨e1,h⟩
  ·have e2:(!(YoZ).isSome)=true:=e;ext Xax
  ·refine Yn0;ext Xby;rw[jW (key:=YkR) h]
 obtain⟨p,hp,vp,kp,mp⟩:∃p∈G.rl,YoZ=Yf5/\((p.1.key:Nat):Int)=key/\p.1∈st.rules:=by
  rcases qg C key with h|⟨e1,h⟩
  ·exact h
  ·have e2:(!(YoZ).isSome)=false:=e;ext Xax
 have g:=Yv8;rw[vp]at g;obtain⟨dx,sl,kl,c,ho,⟨ss,hsl,hss⟩,hkl,rok⟩:=Yxe;refine YCM;have t0:=ak (o:=Yyo) Yay hq0;have g0:bN (upd H q0 (Yyo)) G.ru (Yxs) (Yf5):=by have:=bN.k (k:=YbE) (t0 _ _ C.GN);rw[vp]at this;exact this
 ext XgO;refine⟨Zbp,t0 _ _ C.obj,T.bc,T.bT,ZaF,na,Zbv,t0.seq hn,rfl,G.ru,Zaa,g0,p.2,Zbh,t0 _ _ ho,T.fV,T.ql,rfl,sl,ss,cA c,c,rfl,t0 _ _ hsl,Paired.gE hss λ_ _ z=>z.same t0,rfl,kI c rok.ok rok.sh,YaP,Yu7⟩;refine⟨YC7,rfl,YaP,λq1 H2 s2 nq1 hq1=>?_⟩;have t2:=t0.trans (Ygc);refine⟨q0,q1,ZaD,(Ygc) _ _ ab,ZbC⟩;ext Xcf
 ·rw[ab,HK];rfl
 ·ext Xao;rw[find_key (key:=YkR) Yy2 mp kp];dsimp only;rw[rok.cd,kW C.ok.ze c 0 rok.ms]
def Zt(K:Yaj)(A:bL):Sp:=λvs H Q _=>∃G s na ra,∃t:Yaw,vs=Yfb/\YzE/\Yby<=4096/\YaF/\FH K A H G s (.form t) Q
theorem II(T:Yas):a6 P w K mg base cN 8 A.g8 A.uW Yai (Zt K A):=by
 refine T.Bn.ok yi Yav Yab;obtain⟨G,st,na,ra,t,rfl,hra,hl,C,k⟩:=h;have nd:=yi.nd
 refine⟨_,(af (aF (i:=3) nd rfl Yaf (ay (A2 T) Yac rfl T.Dy T.xi.kp T.DW .nil aD (aa Ygg Ygd)))
   (af (aM (aC lF Yfs aq Ybo) (aj (au (aQ YBM))) az)
   (aj (au (a7 ic (aQ YdC) (ay (LD T) Yac rfl T.Pb T.JW.kp T.Qe .nil aD YBM)))))),?_⟩
 refine⟨Zaa,ra,ZcH,hra,YaP,Yu7⟩;ext Xgt;refine⟨Zbp,ZcM,Zc2,C1.Em,C.pf,C.ok.short,C.ok.ze,λrp sl H2 rf s2 hrp erd lt=>?_,λrp sl ss H2 c s2 hrp err hms erd l200 hsl hss=>?_⟩
 ·ext XeY;have s12:=Ygc;refine YsH;refine⟨Zb0,Yag,λl hl2=>?_⟩;refine k l _ G st (.number rf) rfl (Kp.same (ak s12 hl2)) (C.same (ak s12 hl2)) (same_none s12 hl2) ab ?_;simp only[Vbnlad.step,erd]
 ·ext XeY;have s12:=Ygc;refine YDH;refine YCM;have t0:=ak (o:=Yyo) YhK hq0;refine⟨Zaa,rp,Zbh,t0 _ _ hrp,T.fG,T.xA,rfl,YC7,rfl,YaP,λq1 H3 s3 nq1 hq1=>?_⟩;have t2:=s12.trans (t0.trans s3);refine⟨q0,q1,ZaD,s3 _ _ ab,ZbC⟩;ext Xcf
  ·rw[ab,HK];rfl
  ·simp only[Vbnlad.step,erd];rw[kW C.ok.ze c 0 hms]
section
open Vbnlad (nameOf)
theorem GI(T:Yas):a6 P w K mg base cN 1 A.gm A.sk Yai (FJ K A .facts):=by
 refine T.z4.ok xx Yav Yab;obtain⟨G,st,na,ra,name,rfl,hn,C,k⟩:=h;have nd:=xx.nd;ext XaK
 refine⟨_,(af YwW
   (af (aF (i:=3) nd rfl Yaf YAf)
   (af (aF (i:=4) nd rfl Yaf (aQ (aa (aT vK rfl T.cP bR Ye9) ah)))
   (af (cO PassesOwn.never rfl (bq (aT (JB rfl) rfl T.jL jk Ye9)) (YeY) (af (bp (fI PySem.F.plainAttrs_list PySem.F.slot_list_append PySem.F.type_list_append bF Ycg Yhx))
   (aj (bp (fI PySem.F.plainAttrs_list PySem.F.slot_list_append PySem.F.type_list_append bF Ycg (aa (bw hu Yba Yda Yal) ah))))))
   (aj (au Ycg)))))),?_⟩
 refine⟨Zaa,Zco,Zbp,Za1,Yc5,ZaH⟩
 ·ext XaU
  ·ext Xcn
  ·ext XbI
 obtain⟨p,hp,vp,kp,mp⟩:∃p∈G.nl,Ybd=Ycl/\((p.1.key:Nat):Int)=name/\p.1∈Yxm:=by
  ext XcQ
  ·exact h
  ·ext Xck
 ext XaF;have g:=Yc5;rw[vp]at g;have N:=YgM;ext Xf7;have asc:=(Ypp).1;have nfs:(fs.map Prod.fst).Nodup:=(YzB).nodup_iff.mpr (fH asc);have lfs:Yq5<=24:=by
  have:=Aj C.ok (fH asc) λk hk=>by obtain⟨q,hq,rfl⟩:=List.mem_map.mp hk;exact(Ypp).2 q hq
  ext XbW;exact this
 refine bx (ba ⟨Zbp,Zar,T.bI,ZaF,Zco,G.na,Zaa,g,Zbe,T.gD,Zag⟩);refine⟨Zaa,ZcB,hfs,Yag,YeD⟩;have s0:=ak (o:=Ys6) Yay hD;have ek:(xI fs).map (·.1)=((fs.map λq=>q.1).map λn=>((n:Nat):Int)).map (Sum.inl:Int->Key):=by unfold xI dictOf;ext XgA
 refine⟨Zaa,p.2.fa,Zbr,.inl (s0 _ _ hfs),ek,YmF⟩;have en:=nY pn sn (YzB) asc;rw[List.map_map]at en;subst en;have hS:(p.1.facts.map ((λn=>((n:Nat):Int))∘Prod.fst)).map V.int=p.1.facts.map λx=>V.int ((x.1:Nat):Int):=by ext Xdm;rfl
 rw[hS];have s1:=ak (o:=YoR) YbG hq;have nDq:D≠q:=neN hq ab;have lfd:(xI fs).length=Yq5:=by unfold xI;rw[de,pfs.length_eq]
 refine Ylr;refine bZ (xs:=p.1.facts.map λx=>V.int ((x.1:Nat):Int)) (λi σ H'=>∃o5,σ=[YgA,some (.ref na),some (YCE),some (.ref p.2.fa),Ydn,o5]/\(∀b o,b≠D->(upd (upd H D (Ys6)) q (YoR)) b=YaB->H' b=YaB)/\H' D=some (.lst (Yur++ke Ywi)))
  ⟨Za8,YsS,by rw[aA nDq,ab,lfd];rfl⟩ ?_ ?_ ?_
 ·rintro i σ H' _ ⟨o5,rfl,fr,hd⟩;exact aV.of (fr q _ (Ne.symm nDq) ab)
 ·rintro i v σ H1 hx ⟨o5,rfl,fr,hd⟩;obtain⟨x,hx1,rfl⟩:=bE hx;have il:i<Yq5:=(List.getElem?_eq_some_iff.mp hx1).1;have xm:=List.mem_of_getElem? hx1;ext XeD;have z1:=mN Ywi;rw[List.length_take]at z1;refine⟨Zaa,Ycs,Zaa,D,ZaD,hd,aP (n:=5000) (by rw[List.length_append];show 1+_<=_;omega) YeP,?_⟩;have gx:bN (upd H1 D (Ygy)) p.2.fa (.int ((x.1:Nat):Int)) (some (.int (if x.2=true then 1 else 0))):=by have hf2:=ai (o:=Ygy) (ao hfs hD) (S1 _ _ hfs);have:=bN.k (k:=Sum.inl ((x.1:Nat):Int)) hf2;unfold xI at this;rw[jX (kf:=λq:Nat×Bool=>q.1) nfs (pfs.mem_iff.mpr xm)]at this;exact this
  refine⟨Zaa,Yex,ZaE,ZcB,gx,D,ZaD,ab,aP (n:=5000) (by rw[List.length_append,List.length_append];show 1+_+1<=_;omega) YeP,?_⟩;refine⟨Zaa,λb o h1 z=>ai h1 (ai h1 (fr b o h1 z)),?_⟩;rw[ab,take_snoc hx1,yL];simp only[List.append_assoc];rfl
 ·rintro σ H1 ⟨o5,rfl,fr,hd⟩;rw[List.length_map,List.take_length]at hd;ext XeD;refine⟨Zaa,k D _ G st (.pairs p.1.facts) rfl (Kp.same S1) (C.same S1) hD ?_ ?_⟩
  ·rw[hd,FK]
  ·simp only[Vbnlad.step,e4]
end
section
open Vbnlad (flagsOf turns)
def Xa(V:Nat):((Yhq).map λr=>2^(r*V)).sum=jn V 8:=by simp[List.range,List.range.loop,jn];omega
def Y1{V:Nat}(hV:0<V):jn V 8<2^(8*V):=by
 have h1:=Ap V (λ_=>true) 8;have h2:0<bm V λ_=>true:=by have:=W6 V;have h3:1<2^V:=Nat.one_lt_two_pow Yad;unfold a4 at this;omega
 have h4:=JK (λk=>(λ_=>true) (k%V)) (8*V);have h5:jn V 8<=bm V (λ_=>true)*jn V 8:=Nat.le_mul_of_pos_left _ h2;rw[h1]at h5;exact Wbw h5 h4
def U2(V:Nat):a4 V*jn V 8=a4 (8*V):=Ap V (λ_=>true) 8
def MA(u:Yaw):Yaw:=(Yhq).map λr=>YvA*2^(r*2^Yaz)
def Sy(u:Yaw):Gn Yor (Az u) (MA u):=by refine⟨by simp[MA],λr hr=>?_⟩;unfold MA;rw[Wbd,WdZ hr,Wbb,Yl _ (Wcc Yao) r hr];rfl
def NA(u:Yaw)(i:Nat)(k:Nat):YlG:=if k∈u.take i then some (maskOf u k*jn YeV 8,a4 Yor^^^maskOf u k*jn YeV 8)else none
theorem U8(o:xc s):Mb s Yor (sJ u) (Pt s (NA u u.length)):=λx hx=>by
 unfold Pt;rw[B4 o hx,Option.bind_some];unfold NA;rw[List.take_length];by_cases hm:x.key∈u
 ·have:(λk=>sJ u k x.key)= λk=>some (cp u x.key (k%2^Yaz)):=by funext k;unfold sJ;rw[if_pos hm]
  rw[this,CO,if_pos hm,show maskOf u x.key*jn YeV 8=_ from Ap _ _ 8];rfl
 ·have:(λk=>sJ u k x.key)= λ_=>none:=by funext k;unfold sJ;rw[if_neg hm]
  rw[this,N8,if_neg hm];rfl
def Gm(K:Yaj)(A:bL)(H:Hp)(s:YaW)(a:Addr)(D u:Yaw):Prop:=∃dx fk dl sa sdx bd wa,H a=some (.ins A.aO dx [Yfr,YmA,YDG,("ways",.ref wa)])/\
 H fk=YkH/\H dl=some (.lst (aE D))/\H sa=some (J4 A sdx bd u)/\H bd=Yrm/\xa K A H s wa Yor (Az u) (sJ u)
def Gm.same(e:Ya1)(h:Gm K A H s a D u):Gm K A H' s a D u:=by obtain⟨dx,fk,dl,sa,sdx,bd,wa,h1,h2,h3,h4,h5,h6⟩:=h;exact⟨dx,fk,dl,sa,sdx,bd,wa,e _ _ h1,e _ _ h2,e _ _ h3,e _ _ h4,e _ _ h5,h6.same e⟩
def Ox(K:Yaj)(A:bL):Sp:=λvs H Q _=>∃G st a R H0 p dx,vs=[Yij,Ybz,Ybc]/\H p=some (.ins A.aO dx [])/\H0 p=none/\aN H0 H/\aG K A H0 G st/\qz H0 G a R/\YgR<=16/\(YfN).length<=8/\
 ∀H',aN H0 H'->Gm K A H' st p (Ym8) (YfN)->Ykb
def abv(h:n<=8):2^n<=256:=WcF (by decide:1<=2) h
def Nd{m n W V:Nat}(hm:m<2^W)(hn:n<2^V)(hW:W<=10000)(hV:V<=10000):ZJ ((m:Nat):Int) ((n:Nat):Int):=by have h3:(2:Nat)^20=1048576:=YeP;have h1:=bits_le hm;have h2:=bits_le hn;refine⟨ZbG⟩<;>rw[h3]<;>omega
def SA(h:m<2^W)(hW:W<=10000)(hn:n<=10000):XF ((m:Nat):Int) ((n:Nat):Int):=by have h1:=bits_le h;ext Xef
def CJ.ins(hd:H d=Ycv)(h:YjF):Ywe:=λt=>by
 have:=h t;cases e:(YAj).bind λx=>Ytf with
 |none=>ext Xe4;exact this
 |some q=>
  ext Xcs
  ·exact YxU
  ·exact Yqq
  ·exact Yku
theorem rD(T:Yas):a6 P w K mg base cN 4 A.lN A.lZ Yql (Ox K A):=by
 refine T.Ek.ok qR Yax Yab;obtain⟨G,st,a,R,H0,p,dx,rfl,hp,np,s0,C,RA,lR,lu,k⟩:=h;have nd:=qR.nd;ext XaK;generalize hR:flagsOf R=u at lu k;have nu:YrS:=by rw[<-hR];exact kU _
 have hV:0<2^u.length:=YrE;have hV8:=abv lu;have hfl:YvA<2^(2^Yaz):=JK _ _;have hel:=Y1 hV
 refine⟨_,(af (bz Yau (ay (tq T) Yac rfl T.wC T.sH.kp T.w8 .nil aD YaM) rfl)
   (af (bz Yau (ay (Rm T) Yac rfl T.UI T.Md.kp T.Vo .nil aD YaM) rfl)
   (af (bz Yau (cH T.vA (iN T) Yac rfl T.za T.jR .nil aD Ygd) rfl)
   (af (aF (i:=3) nd rfl Yaf (MS rfl rfl rfl T.Rr T.SN (aa (a7 mO YqG aq) ah)))
   (af (aF (i:=4) nd rfl Yaf (aT (Xg rfl) rfl T.Zz Xs (aa (yI (own:=[("rank",5)]) rfl nd (bq Yba) YbT Yjp YcI (λ_ _ _ _ _=>(a7 Dj aq (a7 Hg Yda (Yfn))))) ah)))
   (af (aF (i:=6) nd rfl Yaf (a7 Hg Yy3 Ycg))
   (af (aF (i:=7) nd rfl Yaf gf)
   (af (cO PassesOwn.never rfl (bq Yak) (aX (i:=8) nd rfl Yaf) (af (aF (i:=9) nd rfl Yaf (a7 Hg (bw hu Yy3 YDc Yal) Ycg))
   (aj (jg hu Ypi (bw hu Ye8 YDc Yal) (bG (aa (pv 9) (aa (a7 EL YeJ (pv 9)) ah))) rfl))))
   (af (iJ (i:=10) (own:=[("rank",5)]) rfl nd rfl rfl YcC (bq Yba) YbT Yjp YcI (λ_ _ _ _ _=>(a7 Dj (Yfn) (a7 Hg Yda (Yfn)))))
   (aj (bz Yau (cH T.SO (Du T) Yac rfl T.WI T.Gh .nil aD (aa YeJ (aa (pv 10) YhL))) rfl))))))))))),?_⟩
 refine⟨ZcW,a,R,rfl,C.same s0,RA.same s0,lR,λfk H1 s1 nfk Em huf=>?_⟩;rw[hR]at Em huf;refine⟨ZbD,s1 _ _ hp,T.aR,T.dN,Zaj⟩;have nkp:fk≠p:=Ne.symm (ao hp nfk);have t2:aN H0 (YfF):=aS (s0.trans s1) np;have hp2:(YfF) p=some (.ins A.aO dx [Yfr]):=ab;have hk2:(YfF) fk=YkH:=ai nkp Em;generalize upd H1 p (.ins A.aO dx (gu "flag_keys" (.ref fk) []))=H2 at t2 hp2 hk2;refine⟨ZcW,a,R,rfl,C.same t2,RA.same t2,lR,λdl H3 s3 ndl hdl=>?_⟩;refine⟨ZbD,s3 _ _ hp2,T.aR,T.iD,Zai⟩;have ndp:dl≠p:=Ne.symm (ao hp2 ndl);have t4:aN H0 (YbZ):=aS (t2.trans s3) np;have hp4:(YbZ) p=some (.ins A.aO dx [Yfr,YmA]):=ab;have hk4:(YbZ) fk=YkH:=ai nkp (s3 _ _ hk2);have hd4:(YbZ) dl=Yrr:=ai ndp hdl;generalize upd H3 p (.ins A.aO dx (gu "days" (.ref dl) [("flag_keys",.ref fk)]))=H4 at t4 hp4 hk4 hd4;refine⟨ZbQ,hp4,T.aR,T.dN,rfl,λsa sdx nx ndx nex=>?_⟩;refine qM (u:=u) (C.same t4) nx ndx nex (aV.of hk4) (ao hk4 nx) (ao hk4 ndx) nu Yad λbd H5 s5 hsa5 hbd5 nbf=>⟨Zag⟩;refine⟨ZbD,s5 _ _ hp4,T.aR,T.bH,Zao⟩;have nsp:sa≠p:=Ne.symm (ao hp4 nx);have hp5:=s5 _ _ hp4;have nbp:bd≠p:=λq=>by rw[q,hp5]at hbd5;cases hbd5
 have t6:aN H0 (YaK):=aS (t4.trans s5) np;have hp6:(YaK) p=some (.ins A.aO dx [Yfr,YmA,YDG]):=ab;have hk6:(YaK) fk=YkH:=ai nkp (s5 _ _ hk4);have hd6:(YaK) dl=Yrr:=ai ndp (s5 _ _ hd4);have hs6:(YaK) sa=some (J4 A sdx bd u):=ai nsp hsa5;have hb6:(YaK) bd=Yrm:=ai nbp hbd5;generalize upd H5 p (.ins A.aO dx (gu "spread" (.ref sa) [("flag_keys",.ref fk),("days",.ref dl)]))=H6 at t6 hp6 hk6 hd6 hs6 hb6;clear hp5 hbd5 hsa5 s5 nx ndx hp4 hk4 hd4 hdl s3 hk2 hp2 Em s1;refine⟨ZaD,8,rfl,YaT,λrl hrl=>?_⟩;have s7:=ak (o:=YCV) (same_refl H6) hrl;have hr7:=ab (H:=H6) (a:=rl) (o:=YCV);generalize upd H6 rl (.lst ((List.range 8).map λi=>V.int ((i:Nat):Int)))=H7 at s7 hr7;refine⟨Zaa,rl,rfl,⟨_,aV.of hr7⟩,λL hL=>?_⟩;refine gF (xs:=(Yhq).map λi=>YfZ) (λi H'=>H' L=some (.lst (((Yhq).take i).map λr=>V.int (((2^(r*2^Yaz):Nat)):Int)))/\aN H7 H') Yv3 (λi H' _ q=>aV.of (q.2 _ _ hr7)) ?_ ?_
 ·rintro i x H' hx ⟨hL',sm⟩;ext Xen;ext XgG;rw[take_snoc hz,List.map_append];refine⟨ZbM,p,Zbh,(s7.trans sm) _ _ hp6,Zav,Zaa,(s7.trans sm) _ _ hs6,Zcq⟩;ext Xfd;refine⟨ZaD,SA (m:=1) (W:=1) YeP YeP Yad,_,hL',Zae,aS sm hL⟩
  ·ext Xek;have:=i;have:i<8:=by ext Xg0
   omega
  ·rw[ab];congr 2;congr 1;have:=CV 1 (r*2^Yaz);rw[Nat.one_mul]at this;exact congrArg (λz=>[V.int z]) this
 rintro H8 ⟨hL8,s8⟩;have hL8':H8 L=some (.lst ((((Yhq).map λr=>2^(r*2^Yaz)).map λn=>((n:Nat):Int)).map V.int)):=by rw[hL8];simp[List.map_map,Function.comp_def]
 refine⟨L,Zaa,aV.of hL8',?_⟩;rw[Oc,Xa];have s68:=s7.trans s8;have hp8:=s68 _ _ hp6;have hs8:=s68 _ _ hs6;refine⟨ZbQ,hp8,Zav,Zaa,hs8,Zay,Zb5,Nd hfl hel Yad Yad,?_⟩;dsimp only;rw[<-Int.natCast_mul,U2];have text:∀{f:Vbnlad.Flag}{H':Hp},f∈YtR->H' G.ft=Ypj->bN H' G.ft YpJ (some (tx f.text)):=λ{f H'} hx h=>by have g:=bN.k (k:=Ypc) h;ext XbX
 refine λFD hFD=>?_;have s9:=ak (o:=.dK []) YDC hFD;have hk8:=s68 _ _ hk6;have hb8:=s68 _ _ hb6;have t8:=t6.trans s68;refine⟨ZbQ,s9 _ _ hp8,T.aR,T.dN,rfl,fk,rfl,⟨_,aV.of (s9 _ _ hk8)⟩,?_⟩;refine bZ (xs:=aE u) (λi σ H'=>∃(o8 o9:Option V)(kvs:List (Key×V)),σ=[some (Yij),YgA,Yfd,some (.ref rl),some (.int ((jn YeV 8:Nat):Int)),none,some (.int ((a4 Yor:Nat):Int)),some (.ref FD),o8,o9,none]/\aN H8 H'/\H' FD=Yiz/\YbM<=i/\CJ K H' st (NA u i) kvs)
  ⟨none,ZcL,s9,ab,YcH,λt=>?_⟩ ?_ ?_ ?_
 ·cases e:(bh st t).bind λx=>NA u 0 x.key with
  |none=>rfl
  |some q=>
   exfalso;cases f:bh st t with
   |none=>rw[f]at e;cases e
   |some x=>rw[f]at e;simp[NA]at e
 ·rintro i σ H' _ ⟨o8,o9,kvs,rfl,sm,_⟩;exact aV.of (sm _ _ hk8)
 ·rintro i x σ H' hx ⟨o8,o9,kvs,rfl,sm,hF',lk,fv⟩;ext XaS;have zu:z∈u:=Yb0;obtain⟨f,hf,rfl⟩:=huf z zu;have iu:i<Yaz:=(Yb3).1;have nr:(u.reverse.map λk=>k).Nodup:=by ext Xb6
  have g:bN H' bd YpJ (some (Yew)):=by have:=bN.k (k:=Ypc) (sm _ _ hb8);ext Xex
  refine⟨ZbQ,sm _ _ hp8,Zav,Zaa,sm _ _ hs8,Zbk,g,Zb5,Nd (JK _ _) hel Yad Yad,?_⟩;ext Xfd;refine⟨Zbl,ZaD,Zcn⟩;dsimp only;rw[nE];have s2:=ak (o:=Yji) YjA ht;refine⟨Zbn,s2 _ _ (sm _ _ (t8 _ _ C.obj)),T.bc,Zcl,text hf (s2 _ _ (sm _ _ (t8 _ _ C.Jd))),FD,Zaa,vW.k (k:=YjN) (s2 _ _ hF') (Nat.lt_of_le_of_lt lk (Nat.lt_of_lt_of_le iu (Nat.le_trans lu YeP))),?_⟩;refine⟨ZaG,aS (YBn) hFD,ab,YpE,?_⟩;have hv:Pr K (upd H' t (Yji)) (Ysy) Ykk:=⟨ZcH,YhD⟩;have F:=Ypx;have ec:(λk=>if k=f.key then some Ykk else NA u i k)=NA u YcG:=by
   funext k;unfold NA;rw[take_snoc hz];by_cases e:k=f.key
   ·subst e;ext Xg5
   ·rw[if_neg e];have:(k∈u.take i++[f.key])↔k∈u.take i:=(by simp[e]);simp only[this]
  rw[ec]at F;exact F.kp (Kp.dict (A:=A) (s2 _ _ hF'))
 rintro σ H9 ⟨o8,o9,kvs,rfl,sm9,hF9,lk9,fv9⟩;unfold aE at lk9 fv9;rw[List.length_map]at lk9 fv9;have s79:=s8.trans sm9;have hp9:=sm9 _ _ hp8;have hs9:=sm9 _ _ hs8;refine⟨Zaa,rl,rfl,⟨_,aV.of (s79 _ _ hr7)⟩,λB hB=>?_⟩;refine gF (xs:=(Yhq).map λi=>YfZ) (λi H'=>H' B=some (.lst (((MA u).take i).map λn=>Ynt))/\aN H9 H') ⟨ab,ak YbG hB⟩ (λi H' _ q=>aV.of ((s79.trans q.2) _ _ hr7)) ?_ ?_
 ·rintro i x H' hx ⟨hB',sm⟩;ext Xen;have i8:i<8:=by ext Xg0
  ext XgG;have hb:(MA u)[i]? =some (YvA*2^(r*2^Yaz)):=by unfold MA;rw[List.getElem?_map,hz,Option.map_some]
  rw[take_snoc hb,List.map_append];refine⟨ZaF,ZcJ,Zay,ZaE,ZcJ,Zcq⟩;ext Xfd;refine⟨ZaD,SA hfl Yad Yad,_,hB',Zae,aS sm hB⟩
  ·ext Xek;omega
  ·rw[ab];exact congrArg (λz=>some (HO.lst ((((MA u).take i).map λn=>Ynt)++[V.int z]))) (CV _ _)
 rintro H10 ⟨hB10,s10⟩;have hB10':H10 B=some (.lst ((MA u).map λn=>Ynt)):=hB10;refine⟨Zbl,λwa wdx nwa nwd nex2=>⟨wa,wdx,Zbj,ab,λH11 h11 k11=>⟨Zag⟩⟩⟩;have s11:=made nwa nwd k11;have s8b:=(sm9.trans s10).trans s11;have hp11:=s8b _ _ hp8;refine⟨ZbD,hp11,T.aR,T.iC,Zas⟩;have sF:∀{b:Addr}{o:HO},b≠p->H11 b=YaB->upd H11 p (.ins A.aO dx (gu "ways" (.ref wa) [Yfr,YmA,YDG])) b=YaB:=λn e=>ai n e;have nFp:FD≠p:=Ne.symm (ao hp8 hFD);have nBp:B≠p:=Ne.symm (ao hp9 hB);have nwp:wa≠p:=Ne.symm (ao (s10 _ _ hp9) nwa);refine k _ (aS (t8.trans s8b) np) ⟨dx,fk,dl,sa,sdx,bd,wa,ab,sF nkp (s8b _ _ hk8),sF ndp (s8b _ _ (s68 _ _ hd6)),sF nsp (s8b _ _ hs8),sF nbp (s8b _ _ hb8),⟨MA u,Pt st (NA u u.length),⟨wdx,B,FD,kvs,sF nwp h11,sF nBp (s11 _ _ hB10'),(Sy u).1,sF nFp ((s10.trans s11) _ _ hF9),(CJ.ins hp11 (fv9.kp (Kp.same (A:=A) (s10.trans s11)))).at⟩,Sy u,U8 C.ok⟩⟩
end
section
open Vbnlad (flagsOf turns flagsIn daysIn ruleValue passes and3)
def dF(u:Yaw)(d:Nat)(r:YfD):Nat:=yB Yor λk=>ruleValue (sJ u k) d (Az u k) r
def YW(d:Nat)(L:Yaw):tE (Ygx) (aE L)=decide (d∈L):=by
 unfold tE aE;rw[Wa2,WbP,War];ext XaT
 ·ext XdH;obtain⟨n,hn,rfl⟩:=Yth;have e2:(((n:Nat):Int)==((d:Nat):Int))=true:=e;have e3:=eq_of_beq e2;have:n=d:=Yad;exact this▸hn
 ·intro h;exact⟨_,WaX h,show(((d:Nat):Int)==((d:Nat):Int))=true from beq_self_eq_true _⟩
def U6(L:Yaw):(aE L).all A8=true:=by unfold aE;rw[Wbe];intro x hx;obtain⟨n,_,rfl⟩:=Yth;rfl
def Y7(h:K8 D)(h0:D[i]? =some d0)(h1:D[i+1]? =some d)(ht:t∈D)(l:d0<t)(g:t<=d):t=d:=by
 obtain⟨j,hj,rfl⟩:=List.mem_iff_getElem.mp ht;obtain⟨i0,e0⟩:=Wao.mp h0;obtain⟨i1,e1⟩:=Wao.mp h1;have P:=Wdn.mp h;rcases Wds j YcG with q|q|q
 ·rcases WcY j i with r|r
  ·have:=P j i hj i0 r;omega
  ·have:j=i:=Yad;subst this;omega
 ·subst q;exact e1
 ·have:=P YcG j i1 hj q;omega
def Xy(h:K8 D)(h0:0∈D):D[0]? =some 0:=by
 cases D with
 |nil=>cases h0
 |cons d r=>
  rcases Wav.mp h0 with q|q
  ·rw[<-q];rfl
  ·have:=(Wcd.mp h).1 0 q;omega
def Ql(hd:d0<=d)(h:∀t∈Yom,¬(d0<t/\t<=d)):YAE=dF u d0 r:=CL λk _=>Ie hd h
def QZ(K:Yaj)(A:bL):Sp:=λvs H Q _=>∃st a D u ra r,vs=[Ybc,YCE]/\YpR/\gO A H st ra r/\K8 D/\0∈D/\(∀t∈Yom,t<=1000000->t∈D)/\(∀d∈D,d<=1000000)/\D.length<=10000/\
 ∀p H',Ya1->H p=none->H' p=YeL->Ycd
theorem cX(T:Yas):a6 P w K mg base cN 5 A.dB A.dC YA5 (QZ K A):=by
 refine T.pU.ok gy YaC Yab;obtain⟨st,a,D,u,ra,r,rfl,⟨dx,fk,dl,sa,sdx,bd,wa,ho,Em,hdl,hsa,hbd,hW⟩,hr0,asc,z0,hT,hM,lD,k⟩:=h;have nd:=gy.nd
 refine⟨_,(af (aF (i:=2) nd rfl Yaf (ay (xy T) Yac rfl T.y8 T.sD.kp T.zO .nil aD YeW))
   (af Yov
   (af (aF (i:=4) nd rfl Yaf aq)
   (af (cO PassesOwn.never rfl (bq Yak) (YeY) (af (aM (PW.pt (A1 (aC bY Yda aq Ybo) (yD (aC fB Yda YaS YaO)))) (aj (aF (i:=4) nd rfl Yaf (aU bQ (ay (uu T) Yac rfl T.wB T.qA.kp T.w6 .nil aD (aa YaG (aa Yda Ygd))) aq Yal))) az)
   (aj (bp (fI PySem.F.plainAttrs_list PySem.F.slot_list_append PySem.F.type_list_append bF Yba Yfk)))))
   (YBy))))),?_⟩
 refine⟨Zaa,st,ra,r,rfl,hr0,λtp L H1 s1 ntp htp memL lL=>⟨Ybv,λrow hrow=>?_⟩⟩;have sA:=s1.trans (ak (o:=Ycx) Ydd hrow);have nrow:H row=none:=same_none s1 hrow;have htp2:upd H1 row YEo tp=some (.lst (aE L)):=bM hrow htp;have hro:=ab (H:=H1) (a:=row) (o:=Ycx);have nrt:row≠tp:=Ne.symm (ao htp hrow);generalize upd H1 row (.lst [])=H2 at sA htp2 hro;refine⟨Zce,sA _ _ ho,T.aR,T.iD,rfl,dl,rfl,⟨_,aV.of (sA _ _ hdl)⟩,?_⟩;refine bZ (xs:=aE D) (λi σ H'=>∃(al:Nat)(o5:Option V),σ=[Yfd,some (YCE),some (.ref tp),some (.ref row),some (.int ((al:Nat):Int)),o5]/\(∀b o,b≠row->H2 b=YaB->H' b=YaB)/\H' row=YxL/\∀d0,0<i->D[i-1]? =some d0->al=dF u d0 r)
  ⟨0,Za8,YsS,hro,λ_ h=>absurd h (Nat.lt_irrefl 0)⟩ ?_ ?_ ?_
 ·rintro i σ H' _ ⟨al,o5,rfl,fr,_⟩;exact aV.of (fr _ _ (ao hdl nrow) (sA _ _ hdl))
 ·rintro i x σ H3 hx ⟨al,o5,rfl,fr,hrow3,hal⟩;obtain⟨d,hz,rfl⟩:=bE hx;have sm:∀b o,H b=YaB->H3 b=YaB:=λb o e=>Yzf;have dm:d∈D:=Yb0;have id:i<D.length:=(Yb3).1;have hsm:aN H H3:=sm;refine⟨Zaa,ZaF,bC (λe1=>?_) (λe1=>⟨ZaE,tp,Zaa,.inl (aV.of (fr _ _ (Ne.symm nrt) htp2)),rfl,U6 _,Zaa,Ybu⟩)⟩
  ·ext XcZ
   ·ext Xa9;exact Yf3
   ·ext Xb5;exact rfl
  ·ext XcZ
   ·ext Xa9;exact Yf3
   ·ext Xb5;exact rfl
  ·have e3:¬(V.int ((d:Nat):Int)=Yd4):=Yc7;have e4:tE (Ygx) (aE L)=false:=e2;rw[YW]at e4;have e5:d∉turnsOf r:=λq=>of_decide_eq_false e4 ((memL d).mpr q);have i0:0<i:=by
    rcases Nat.eq_zero_or_pos i with q|q
    ·subst q;rw[Xy asc z0]at hz;injection hz with hz;exact absurd (by rw[<-hz];rfl) e3
    ·exact q
   have hp:D[i-1]? =some D[i-1]:=List.getElem?_eq_getElem Yad;have hz2:D[i-1+1]? =some d:=(by rw[Nat.sub_add_cancel i0];exact hz);have hlt:D[i-1]<d:=by obtain⟨_,e6⟩:=Yb3;have:=List.pairwise_iff_getElem.mp asc (i-1) i Yad id Yad;omega
   have eal:al=YAE:=by rw[hal _ i0 hp];refine(Ql (Nat.le_of_lt hlt) λt ht q=>?_).symm;have:=Y7 asc hp hz2 (hT t ht (by have:=hM d dm;omega)) q.1 q.2;exact e5 (this▸ht)
   have h4:H3 row=YxL:=(YoV) _ _ hrow3;refine bx YwH;refine⟨al,Zaa,λb o n e=>ai n ((YoV) _ _ (fr b o n e)),?_,λd0 _ e0=>?_⟩
   ·ext Xa9;exact congrArg Ylk ((congrArg (λz=>Yck++Yso) eal).trans (dv _ _))
   ·ext Xb5;exact eal
 ·rintro σ H3 ⟨al,o5,rfl,fr,hrow3,hal⟩;rw[aH,List.take_length]at hrow3;exact⟨Zaa,k row H3 (λb o e=>Yzf) nrow hrow3⟩
end
section
open Vbnlad (flagsOf turns flagsIn daysIn ruleValue passes and3)
def Sh(u:Yaw)(d:Nat):dG u d []=a4 Yor:=VC _
def Qm(u:Yaw)(d:Nat)(l:Yd5)(r:YfD):dG u d (l++[r])=dG u d l&&& dF u d r:=by unfold dG dF;rw[VD];refine CL λk _=>?_;have h1:=lC (sJ u k) d (Az u k) (l++[r]) (Yb8);have h2:=lC (sJ u k) d (Az u k) l (Yb8);rw[CK]at h1 h2;rw[<-h1,Wa1,h2];rfl
def LF(l:Ydy)(f:α->Nat):aE (YvV)=l.map λx=>V.int ((f x:Nat):Int):=by unfold aE;rw[Wax];rfl
def Ui(K:Yaj)(A:bL):Sp:=λvs H Q _=>∃st a D u rl rs S,vs=[Ybc,.ref rl]/\YpR/\H rl=YpM/\Paired (λx r=>H x=YeL) rs S/\D.length<=10000/\
 ∀p H',Ya1->H p=none->H' p=some (.lst (aE (D.map λd=>dG u d S)))->Ycd
theorem du(T:Yas):a6 P w K mg base cN 1 A.dR A.dU YA6 (Ui K A):=by
 refine T.qC.ok gT Yax Yab;obtain⟨st,a,D,u,rl,rs,S,rfl,⟨dx,fk,dl,sa,sdx,bd,wa,ho,Em,hdl,hsa,hbd,hW⟩,hrl,pS,lD,k⟩:=h;have nd:=gT.nd;obtain⟨wdx,wx,wy,hwa⟩:=hW.full
 refine⟨_,(af (iJ (i:=2) (own:=[("day",3)]) rfl nd rfl rfl YcC (bq Yak) YbT Ywg YcI (λ_ _ _ _ _=>(Yfn)))
   (af (cO PassesOwn.never rfl (bq YaG) Ye2 (aj (iJ (i:=2) (own:=[("before",5),("also",6)]) rfl nd rfl rfl YcC (aad rfl T.Zy (aa YaS Yfk)) YbT (λ_ _ _ _ _=>YC (n:=2) K rfl rfl (rA (YeY) (rA (YfC) MQ))) YcI (λ_ _ _ _ _=>(a7 wz Yda YeJ)))))
   (Yva))),?_⟩
 refine⟨Zce,ho,T.aR,T.iD,rfl,dl,rfl,⟨_,aV.of hdl⟩,Yx9⟩;refine gF (xs:=aE D) (λi H'=>H' N=some (.lst (Yvm))/\Ya1) Yv2 (λi H' _ q=>aV.of (q.2 _ _ hdl)) ?_ ?_
 ·rintro i x H' hx ⟨hN',sm⟩;obtain⟨d,hz,rfl⟩:=bE hx;rw[take_snoc hz,List.map_append];refine⟨ZaF,a,Zbh,sm _ _ ho,T.aR,T.iC,rfl,wa,Zbh,sm _ _ hwa,ZcT,Zcw,hN',Zab,aS sm hN⟩;rw[ab];exact congrArg Ylk ((congrArg (λz=>Yvm++Yso) (Sh u d).symm).trans (dv _ _))
 ext XfH;refine⟨Zaa,rl,rfl,⟨_,aV.of (s1 _ _ hrl)⟩,?_⟩;have hlen:Yw1=YAI:=pS.length;refine bZ (xs:=YiK) (λj σ H'=>∃(p:Addr)(o4:Option V),σ=[Yfd,some (.ref rl),some (Yij),none,o4,none,none]/\Ya1/\H p=none/\H' p=some (.lst (aE (D.map λd=>dG u d (S.take j)))))
  ⟨N,Za8,s1,hN,hN1⟩ ?_ ?_ ?_
 ·rintro j σ H' _ ⟨p,o4,rfl,sm,np,hp⟩;exact aV.of (sm _ _ hrl)
 ·rintro j x σ H2 hx ⟨p,o4,rfl,sm,np,hp⟩;ext XdJ;have hj:j<YAI:=by rw[<-hlen];exact(Yc3).1
  have hsr:S[j]? =some S[j]:=YAt;obtain⟨ra',hra',hrow0⟩:=bV pS hsr;ext XfY;generalize S[j]=r at hsr hrow0;have hrow:=sm _ _ hrow0;refine⟨ZaE,p,ra,Zbr,aV.of hp,aV.of hrow,λM hM=>?_⟩;refine LH (n:=D.length) (λi H'=>H' M=some (.lst (aE ((D.take i).map λd=>dG u d (S.take (j+1)))))/\aN H2 H') ⟨ab,ak YbG hM⟩ ?_ ?_ ?_ ?_
  ·rintro i H' hi ⟨hM',sn⟩;exact⟨ZbR,YxP,YuL,Yct,Yct⟩
  ·rintro H' ⟨hM',sn⟩;exact⟨_,_,YxP,YuL,.inl (by rw[aH,List.length_map];exact YcH)⟩
  ·rintro i H' hi ⟨hM',sn⟩ v H3 ⟨t,x,y,rfl,ht,rfl,hx,hy⟩;have hz:D[i]? =some D[i]:=Ya7;have ex:=hx _ (YxP);have ey:=hy _ (YuL);rw[LF,List.getElem?_map,hz,Option.map_some]at ex ey;generalize D[i]=d at hz ex ey;injection ex with ex;injection ey with ey;subst ex ey;have st2:=ak (o:=.tup [.int ((dG u d (S.take j):Nat):Int),.int ((dF u d r:Nat):Int)]) YjA ht;refine⟨t,Zaa,YhD,rfl,Zbr,ZaD,ZbM,ZaD,_,st2 _ _ hM',Zab,aS (sn.trans st2) hM⟩;ext Xa9;dsimp only;rw[gN,<-Qm,<-take_snoc hsr];ext Xay
  ·rintro H3 ⟨hM3,s3⟩;rw[List.take_length]at hM3;exact⟨M,Zaa,YBm,same_none sm hM,hM3⟩
 ·rintro σ H2 ⟨p,o4,rfl,sm,np,hp⟩;ext Xdb;exact⟨Zaa,k p H2 sm np hp⟩
end
section
open Vbnlad (flagsOf turns flagsIn Sit)
def JM(a b:Nat):Builtin.bitAnd ((a:Nat):Int) (-((b:Nat):Int)-1)=((a-(a&&& b):Nat):Int):=by
 have h1:((a&&& b:Nat))<=a:=Nat.and_le_left;have h2:¬((0:Int)<= -((b:Nat):Int)-1):=Yad;have h3:(0:Int)<=((a:Nat):Int):=Wce _;unfold Builtin.bitAnd;rw[Wa9 h3,Wa3 h2];have h4:(Builtin.bitNot (-((b:Nat):Int)-1)).toNat=b:=by ext Xf1;omega
 simp only[h4,Wbl];omega
def Xu(k:Nat):Ytq=k+1:=by
 have h1:Ytq<=k+1:=intBits_le_iff.mpr (by rw[Wdl];exact Nat.pow_lt_pow_right YeP (WbO k));have h2:¬Builtin.Int.intBits (((2^k:Nat)):Int)<=k:=λh=>by have:=intBits_le_iff.mp h;rw[Wdl]at this;exact WbH _ this
 omega
def Yn(m w:Nat):Builtin.bitAnd (((m:Nat):Int)/2^(((w:Nat):Int)).toNat) 1=if m.testBit w=true then 1 else 0:=by
 have e:((m:Nat):Int)/2^(((w:Nat):Int)).toNat=((m/2^w:Nat):Int):=by rw[Wbl,Int.natCast_ediv,Int.natCast_pow];rfl
 rw[e,show(1:Int)=((1:Nat):Int)from rfl,gN,Nat.and_one_is_mod,Nat.testBit_eq_decide_div_mod_eq];by_cases h:m/2^w%2=1
 ·rw[Wap (Wa9 h),h]
 ·rw[Wae (by rw[Wa3 h];decide)];have:m/2^w%2=0:=Yad;rw[this];rfl
def Gu:Option Sit->List V
 |none=>[]
 |some x=>aE ([x.day,x.rank,x.yes.length]++x.yes)
def Z3(K:Yaj)(A:bL):Sp:=λvs H Q _=>∃st a D u,∃pl:Nat,vs=[Ybc,.int (pl:Nat)]/\YpR/\YrS/\Yaz<=8/\
 ∀p H',Ya1->H p=none->H' p=some (.lst (aE ([(jH u 0 pl).rank,(jH u 0 pl).yes.length]++(jH u 0 pl).yes)))->Ycd
theorem oP(T:Yas):a6 P w K mg base cN 1 A.dQ A.dS YzF (Z3 K A):=by
 refine T.qB.ok gS Yav Yab;obtain⟨st,a,D,u,pl,rfl,⟨dx,fk,dl,sa,sdx,bd,wa,ho,Em,hdl,hsa,hbd,hW⟩,nu,lu,k⟩:=h;have nd:=gS.nd;ext XaK;have hV:0<2^u.length:=YrE;have hVi:(0:Int)<((2^u.length:Nat):Int):=Yad;have hV8:=abv lu
 refine⟨_,(af (aF (i:=2) nd rfl Yaf (a7 SJ YaG Yy3))
   (af (aF (i:=3) nd rfl Ykh (a7 aah YaG Yy3))
   (af (iJ (i:=4) (own:=[("key",5)]) rfl nd rfl rfl YcC (bq Yak) YbT Yjp (λ_ _ _ _ _=>qh (aC bY (a7 wz (a7 aag (bw hu (Yfn) Yda Yal) Yba) aq) aq Ybo)) (λ_ _ _ _ _=>(pv 5)))
   (aj (au (a7 ic (aQ (aa YaS YxE)) Ycg)))))),?_⟩
 refine⟨ZcS,⟨hVi,?_⟩,?_⟩
 ·omega
 refine⟨ZcS,hVi,?_⟩;dsimp only;have e1:((pl:Nat):Int)/((2^u.length:Nat):Int)=((pl/2^u.length:Nat):Int):=(Int.natCast_ediv ..).symm;have e2:((pl:Nat):Int)%((2^u.length:Nat):Int)=((pl%2^u.length:Nat):Int):=(Int.natCast_emod ..).symm;rw[e1,e2];refine⟨Zce,ho,T.aR,T.dN,rfl,fk,rfl,⟨_,aV.of Em⟩,Yx9⟩;refine gF (xs:=aE u) (λi H'=>H' N=some (.lst (aE ((u.take i).filter λx=>cp u x Yko)))/\Ya1) Yv2 (λi H' _ q=>aV.of (q.2 _ _ Em)) ?_ ?_
 ·rintro i x H' hx ⟨hN',sm⟩;ext XaS;have zu:z∈u:=Yb0;have nr:(u.reverse.map λk=>k).Nodup:=by ext Xb6
  have g:Ypv:=by have:=bN.k (k:=Ycm) (sm _ _ hbd);ext Xex
  have eb:(maskOf u z).testBit Yko=cp u z Yko:=by unfold maskOf;rw[gM,decide_eq_true (Nat.mod_lt _ hV),Bool.true_and]
  rw[take_snoc hz,kN];refine⟨ZaF,a,Zbh,sm _ _ ho,Zav,Zaa,sm _ _ hsa,Zbk,g,Zb5,Int.natCast_nonneg _,ZaM⟩;dsimp only;rw[Yn,eb];refine⟨ZbZ⟩
  ·have e3:YrX=YtO:=YaQ;have e4:cp u z Yko=true:=by
    cases h:cp u z Yko with
    |true=>rfl
    |false=>rw[h]at e3;cases e3
   refine⟨Zaa,_,hN',Zae,aS sm hN⟩
   ·rw[aH];have:=List.length_filter_le (λx=>cp u x Yko) (u.take i);ext Xa0;omega
   ·rw[ab,if_pos e4];ext Xay
  ·have e3:¬(YrX=YtO):=YaH;refine Yu6;rw[if_neg (λq=>e3 (by rw[if_pos q])),List.append_nil];exact hN'
 ext XfH;have ly:(u.filter λx=>cp u x Yko).length<=8:=Nat.le_trans Ynj lu;refine⟨ZaE,N,Zaa,.inl (aV.of hN1),Yap,Yh0⟩;have t1:=ak (o:=.lst [.int ((pl/2^u.length:Nat):Int),.int (((aE (u.filter λx=>cp u x Yko)).length:Nat):Int)]) Ydd hq;refine⟨Zaa,q,N,ZaD,ab,t1 _ _ hN1,aY (m:=100) (by rw[aH];show 2+_<=_;omega) YeP,Yhp⟩;refine k q2 _ (ak (s1.trans t1) hq2) (same_none (s1.trans t1) hq2) ?_;rw[ab,aH];ext Xbe;rfl
end
section
open Vbnlad (flagsOf turns flagsIn Sit)
def bitAnd_not(a b:Nat):Builtin.bitAnd ((a:Nat):Int) (Builtin.bitNot ((b:Nat):Int))=((a-(a&&& b):Nat):Int):=JM a b
def R6(h:m≠0):Builtin.bitAnd ((m:Nat):Int) (-((m:Nat):Int))=((m-(m&&& (m-1)):Nat):Int):=by rw[<-JM,show-((m:Nat):Int)= -(((m-1:Nat)):Int)-1 by omega]
def V1(K:Yaj)(A:bL):Sp:=λvs H Q _=>∃st a D u l r S1 S2,vs=[Ybc,Ykt,.ref r]/\YpR/\H l=some (.lst (aE (D.map λd=>dG u d S1)))/\H r=some (.lst (aE (D.map λd=>dG u d S2)))/\
 (∀x∈S1++S2,∀y∈YDh,y∈u)/\YrS/\Yaz<=8/\∀p H',Ya1->H p=none->H' p=some (.lst (Gu (oU u S1 S2 D)))->Ycd
theorem eT(T:Yas):a6 P w K mg base cN 2 A.fe A.fg Yqk (V1 K A):=by
 refine T.sQ.ok iE YaZ Yab;obtain⟨st,a,D,u,l,r,S1,S2,rfl,S,hl,hrr,hfl,nu,lu,k⟩:=h;obtain⟨dx,fk,dl,sa,sdx,bd,wa,ho,Em,hdl,hsa,hbd,hW⟩:=id S;have nd:=iE.nd
 refine⟨_,(af (cO PassesOwn.never rfl (YA rfl T.Zy (aa Yak YiN)) (Rj (n:=3) rfl (rA (YgU) (rA Ye2 (rA (YeY) MQ)))) (af (aF (i:=6) nd rfl Yaf (a7 wz Ycg (br ZN Yda)))
   (aj (aM (aC SI YeJ aq Ybo) (af (aF (i:=7) nd rfl Yaf (a7 Iv (oM PySem.F.plainAttrs_int PySem.F.slot_int_bit_length PySem.F.type_int_bit_length UE (a7 wz YeJ (br aZ YeJ))) aq))
   (aj (au (a7 ic (aQ Ye9) (dJ Yau T.aR T.oS (oP T) Yac T.qw .nil aD YhL))))) az))))
   (aj (au YgO))),?_⟩
 refine⟨Zce,ho,T.aR,T.iD,ZbM,dl,l,r,ZaG,aV.of hdl,aV.of hl,aV.of hrr,?_⟩;refine Jm (n:=D.length) (λi σ H'=>∃(o3 o4 o5 o6 o7:Option V),σ=[Yfd,some (Ykt),some (.ref r),o3,o4,o5,o6,o7]/\Ya1/\oU u S1 S2 D=oU u S1 S2 (D.drop i)) ⟨Za5,rfl,same_refl H,rfl⟩ ?_ ?_ ?_ ?_
 ·rintro i σ H' hi ⟨_,_,_,_,_,rfl,sm,_⟩;exact⟨ZbR,_,_,Yv9,YxQ,aV.of (sm _ _ hrr),List.getElem?_eq_getElem (by rw[aH];exact hi),Yct,Yct⟩
 ·rintro σ H' ⟨_,_,_,_,_,rfl,sm,_⟩;exact⟨_,Yv9,by rw[aH];exact YcH⟩
 ·rintro i σ H1 hi ⟨o3,o4,o5,o6,o7,rfl,sm,ef⟩ v H2 ⟨t,x,y,z,rfl,ht,rfl,hx,hy,hz⟩;have hd:D[i]? =some D[i]:=Ya7;have ex:=hx _ (Yv9);have ey:=hy _ (YxQ);have ez:=hz _ (aV.of (sm _ _ hrr));rw[LF,List.getElem?_map,hd,Option.map_some]at ey ez;unfold aE at ex;rw[List.getElem?_map,hd,Option.map_some]at ex;have hdr:D.drop i=D[i]::D.drop YcG:=YAa;generalize D[i]=d at hd ex ey ez hdr;injection ex with ex;injection ey with ey;injection ez with ez;subst ex ey ez;have s2:=sm.trans (Ygl);have s12:=Ygl;refine⟨t,Zaa,YhD,rfl,Zbr,Zbr,ZaD,Zbl,ZaM⟩;dsimp only;rw[bitAnd_not,Vl];generalize upd H1 t (.tup [.int ((d:Nat):Int),.int ((dG u d S1:Nat):Int),.int ((dG u d S2:Nat):Int)])=H2 at s2;refine Yjc
  ·have e1:(!decide (Yl0=Yd4))=true:=e;have e2:nM u d S1 S2≠0:=λq=>by rw[q]at e1;simp at e1
   obtain⟨j,j1,j2,j3⟩:=SU e2;refine⟨Zbl,ZaD,ZaF,rfl,ZaM⟩;dsimp only;rw[R6 e2,j3,Xu,show(((j+1:Nat)):Int)-1=((j:Nat):Int)by omega];refine⟨Zbq,Yh0⟩;have t1:=ak (o:=.lst [Ygx]) YhK hq;refine⟨ZaN,Zaa,t1 _ _ (s2 _ _ ho),ZaF,st,a,D,u,j,rfl,S.same (s2.trans t1),nu,lu,λq2 H3 s3 nq2 hq2=>?_⟩;have hq3:=s3 _ _ (ab (H:=H2) (a:=q) (o:=.lst [Ygx]));have ly:(jH u 0 j).yes.length<=8:=Nat.le_trans Ynj lu;refine⟨q,q2,ZaD,hq3,hq2,aY (m:=100) (by rw[aH];simp;omega) YeP,λq4 hq4=>?_⟩;refine k q4 _ (ak YEi hq4) (same_none YEi hq4) ?_;rw[ab,ef,hdr,U9 hfl j1 j2];rfl
  ·have e1:(!decide (Yl0=Yd4))=false:=e;have e2:nM u d S1 S2=0:=by have:decide (Yl0=Yd4)=true:=Ybe;ext XeP
   refine⟨_,Zbh,s2,?_⟩;rw[ef,hdr,oU,if_pos e2]
 ·rintro σ H1 ⟨o3,o4,o5,o6,o7,rfl,sm,ef⟩;rw[List.drop_length]at ef;refine⟨Ybv,λq hq=>k q _ (ak sm hq) (same_none sm hq) ?_⟩;rw[ab,ef];rfl
end
section
open Vbnlad (flagsOf turns flagsIn daysIn Sit breach compared)
def zi{α β:Type}{f:α->List β}{n:Nat}:∀{l:List α},(∀x∈l,(f x).length<=n)->(l.flatMap f).length<=n*l.length
 |[],_=>Wau _
 |x::l,h=>by have h1:=h x Ycq;have h2:=zi (f:=f) (n:=n) (l:=l) λy hy=>h y Yp5;rw[Wb3,Wad,Was,Nat.mul_succ];omega
def lay_ints:∀l:Yaw,PyData.canLayAll0 Yfy=true
 |[]=>rfl
 |n::l=>by rw[Waw,PyData.canLayAll0,lay_ints l];rfl
def Ju:∀l:Yaw,PyData.depthAll Yfy=0
 |[]=>by rw[Wb1,PyData.depthAll]
 |n::l=>by rw[Waw,PyData.depthAll,Ju l,PyData.depth];rfl
def shaped_ints(l:Yaw):SeqAt.shaped (.list Yfy)=true:=by unfold SeqAt.shaped;rw[PyData.canLay0,lay_ints,PyData.depth,Ju];rfl
def HL(n:Nat)(x y:Option Sit):(VbnladNeutral.shown (.compared n (x.toList++y.toList))).map V.int=[Ynt]++Gu x++Gu y:=by
 have one:∀z:Option Sit,(z.toList.flatMap λx=>[(x.day:Int),(x.rank:Int)]++Yip).map V.int=Gu z:=λz=>by
  cases z with
  |none=>rfl
  |some z=>show(([(z.day:Int),(z.rank:Int)]++VbnladNeutral.counted z.yes)++[]).map V.int=aE ([z.day,z.rank,z.yes.length]++z.yes);unfold VbnladNeutral.counted VbnladNeutral.ints aE;simp[Wax]
 show(((n:Nat):Int)::(x.toList++y.toList).flatMap λx=>[(x.day:Int),(x.rank:Int)]++Yip).map V.int=_;rw[Waw,Wb4,Wal,one,one];simp
def Ny:∀l:Yaw,J3 K H (aE l) Yfy
 |[]=>.nil
 |n::l=>.cons (.int _) (Ny l)
def Yu{H:Hp}{G:CG}{st:YaW}(C:aG K A H G st){rs:Ybw}{R:Yd5}(h:YkA){r:YfD}(hr:r∈R):∃x,gO A H st x r:=by obtain⟨i,hi⟩:=List.mem_iff_getElem?.mp hr;obtain⟨x,_,hx⟩:=bV h hi;exact⟨x,C.ar _ hx⟩
def Lh{H:Hp}{G:CG}{st:YaW}(C:aG K A H G st){rs:Ybw}{R:Yd5}(h:YkA)(l:YgR<=16):(Ym8).length<=4000:=by
 have h1:∀r∈R,(Yom).length<=202:=λr hr=>by
  obtain⟨x,dx,sl,kl,c,_,_,_,rok⟩:=Yu C h hr;have ld:(Ym1).length<=200:=by rw[rok.cd,<-nW st];exact WaF (Wbz ..) rok.ln
  show(Ym1).length+1+1<=202;omega
 have h2:=zi (f:=turnsOf) h1;have h3:(Ym8).length<=_:=tU;have h4:=WaT (λd=>decide (d<=Vbnlad.DAYS)) (0::R.flatMap turnsOf);rw[Was]at h4;have h5:((0::R.flatMap λr=>YvU::(r.last+1)::Ym1).filter λd=>decide (d<=Vbnlad.DAYS)).length<=(R.flatMap turnsOf).length+1:=h4;omega
def ur:∀{l1 l2:List α}{m1 m2:List β},Paired F l1 m1->Paired F l2 m2->Paired F (l1++l2) (m1++m2)
 |_,_,_,_,.nil,h=>h
 |_,_,_,_,.cons x r,h=>.cons x (ur r h)
def Kf(K:Yaj)(A:bL):Sp:=λvs H Q _=>∃G st la ra L R,vs=[Ybz,.ref la,YCE]/\aG K A H G st/\qz H G la L/\qz H G ra R/\Ykc<=8/\YgR<=8/\(YcM).length<=8/\
 ∀p H',Ya1->H p=none->H' p=some (.lst ((VbnladNeutral.shown (compared L R)).map V.int))->Ycd
theorem A3(T:Yas):a6 P w K mg base cN 6 A.wM A.wV YjI (Kf K A):=by
 refine T.xj.ok AY YaC Yab;obtain⟨G,st,la,ra,L,R,rfl,C,⟨Ls,hL,pL⟩,⟨Rs,hR,pR⟩,lL,lR,lu,k⟩:=h;have nd:=AY.nd;ext Xej;have pLR:=ur pL pR;have lD:=Nat.le_trans (Lh C pLR YvP) YAd
 refine⟨_,(af (aF (i:=3) nd rfl Ykh (cH T.A5 (rD T) Yac rfl T.DF T.tK .nil aD (aa Yau (aa (a7 ic YaG YaS) ah))))
   (af (aF (i:=4) nd rfl Yaf (dJ Yba T.aR T.dA (du T) Yac T.dX .nil aD (aa (yI (own:=[("rule",5)]) rfl nd (bq YaG) YbT Yjp YcI Yk0) ah)))
   (af (aF (i:=6) nd rfl Yaf (dJ Yba T.aR T.dA (du T) Yac T.dX .nil aD (aa (yI (own:=[("rule",5)]) rfl nd (bq YaS) YbT Yjp YcI Yk0) ah)))
   (af (aF (i:=7) nd rfl Yaf (dJ Yba T.aR T.eU (eT T) Yac T.fh .nil aD (aa Ycg Yj7)))
   (af (aF (i:=8) nd rfl Yaf (dJ Yba T.aR T.eU (eT T) Yac T.fh .nil aD (aa YeJ Yfk)))
   (af (aF (i:=9) nd rfl Yaf aq)
   (af (aM (aC YqI Ypi YgO Ybo) YvQ az)
   (af (aM (aC YqI YDc YgO Ybo) YvQ az)
   (aj (au (a7 ic (a7 ic (aQ Yuk) Ypi) YDc))))))))))),?_⟩
 refine⟨Zbl,la,ra,ZaD,hL,hR,YkO,Yh0⟩;have s1:=ak (o:=Ygo) Yay hq;have hq1:=ab (H:=H) (a:=q) (o:=Ygo);generalize upd H q (.lst (Ls.map V.ref++Rs.map V.ref))=H1 at s1 hq1;refine λx0 dx nx ndx nex=>⟨G,st,q,L++R,H1,x0,dx,ZcG,nx,λb o e=>YlZ,YeA,⟨Ls++Rs,by rw[hq1,List.map_append],pLR⟩,Ylw,lu,λH2 s2 S=>⟨Zag⟩⟩;have sH2:=Ygc;have nu:(YcM).Nodup:=jP _;ext XgD;have sSH2:aN H2 H2:=same_refl H2;refine⟨Zcp,hob,ZaF,la,rfl,⟨_,aV.of (sH2 _ _ hL)⟩,Yx9⟩;refine gF (xs:=Ls.map V.ref) (λi H'=>∃ps:Ybw,H' N=YB9/\aN H2 H'/\Yez=i/\Paired (λx r=>x≠N/\H' x=Ymf) ps (L.take i)) ⟨[],ab,ak YbG hN,rfl,.nil⟩ (λi H' _ q=>by obtain⟨_,_,z,_⟩:=q;exact aV.of (z _ _ (sH2 _ _ hL))) ?_ ?_
 ·ext XdV;have hi:i<Ykc:=by rw[<-lLs];exact(Yc3).1
  have hsr:L[i]? =some L[i]:=Ya7;obtain⟨ra2,hra2,hrm⟩:=bV pL hsr;ext XfX;have rin:L[i]∈L++R:=List.mem_append_left R (List.getElem_mem hi);generalize L[i]=r at hsr hrm rin;refine⟨ZaF,x0,Zbr,(sSH2.trans sm) _ _ hob,ZaF,ZaW,ra',r,rfl,S.same (sSH2.trans sm),(C.ar _ hrm).same (sH2.trans sm),ZaQ⟩;have nN:p≠N:=Ne.symm (ao hN' np);refine⟨_,s3 _ _ hN',Yjt,ps++[p],?_,aS (YBm) hN,YwM,?_⟩
  ·ext Xd7
  ·ext Xce
 rintro H3 ⟨ps,hN3,s3,_,pp⟩;rw[List.length_map,lLs,List.take_length]at pp;refine⟨ZaW,N,ps,L,rfl,S.same s3,hN3,Paired.gE pp λ_ _ z=>z.2,lD,λlp H4 s4 nlp hlp=>?_⟩;have sSH4:=YqR;have sH4:=sH2.trans sSH4;refine⟨Zcp,sSH4 _ _ hob,ZaF,ra,rfl,⟨_,aV.of (sH4 _ _ hR)⟩,λM hM=>?_⟩;refine gF (xs:=Rs.map V.ref) (λi H'=>∃ps:Ybw,H' M=YB9/\aN H4 H'/\Yez=i/\Paired (λx r=>x≠M/\H' x=Ymf) ps (R.take i)) Yyt (λi H' _ q=>by obtain⟨_,_,z,_⟩:=q;exact aV.of (z _ _ (sH4 _ _ hR))) ?_ ?_
 ·ext XdV;have hi:i<YgR:=by rw[<-lRs];exact(Yc3).1
  have hsr:R[i]? =some R[i]:=Ya7;obtain⟨ra2,hra2,hrm⟩:=bV pR hsr;ext XfX;have rin:R[i]∈L++R:=List.mem_append_right L (List.getElem_mem hi);generalize R[i]=r at hsr hrm rin;refine⟨ZaF,x0,Zbr,(sSH4.trans sm) _ _ hob,ZaF,ZaW,ra',r,rfl,S.same (sSH4.trans sm),(C.ar _ hrm).same (sH4.trans sm),ZaQ⟩;have nN:p≠M:=Ne.symm (ao hN' np);refine⟨_,s3 _ _ hN',Yjt,ps++[p],?_,aS (YBm) hM,YwM,?_⟩
  ·ext Xd7
  ·ext Xce
 rintro H5 ⟨ps2,hM5,s5,_,pp2⟩;rw[List.length_map,lRs,List.take_length]at pp2;have sSH5:=sSH4.trans s5;refine⟨ZaW,M,ps2,R,rfl,S.same sSH5,hM5,Paired.gE pp2 λ_ _ z=>z.2,lD,λrp H6 s6 Zx hrp=>?_⟩;have sSH6:=sSH5.trans s6;have hlp6:=(Yu8) _ _ hlp;have fl1:∀x∈L++R,∀y∈YDh,y∈YcM:=λx hx y hy=>fK.mpr ⟨x,hx,hy⟩;have fl2:∀x∈R++L,∀y∈YDh,y∈YcM:=λx hx y hy=>fK.mpr ⟨x,List.mem_append.mpr (List.mem_append.mp hx).symm,hy⟩;refine⟨Zcp,sSH6 _ _ hob,ZbM,ZaW,lp,rp,L,R,rfl,S.same sSH6,hlp6,hrp,fl1,nu,lu,λo1 H7 s7 no1 ho1=>?_⟩;have sSH7:=sSH6.trans s7;refine⟨Zcp,sSH7 _ _ hob,ZbM,ZaW,rp,lp,R,L,rfl,S.same sSH7,s7 _ _ hrp,s7 _ _ hlp6,fl2,nu,lu,λo2 H8 s8 no2 ho2=>?_⟩;have sH8:=(sH2.trans sSH7).trans s8;have ho1':=s8 _ _ ho1;rw[<-DS]at ho1';rw[wI,QE,<-DS]at ho2;have cmp:∀{H':Hp}{o t:Addr}{z:Option Sit},H' o=some (.lst (Gu z))->H' t=some YEo->∃d e,Dp K H' (.ref o) d/\Dp K H' (Ysy) e/\YDr=true/\YDq=true/\YDt=z.isNone:=λ{H' o t z} h1 h2=>by
  cases z with
  |none=>exact Yjr
  |some z=>exact Yjn
 have lsv:∀z:Sit,z.yes.length<=8->(Gu (some z)).length<=11:=λz h=>by show(aE _).length<=11;rw[aH,List.length_append];simp;omega
 have lx:∀{a b:List Vbnlad.Rule},(YhI).length<=8->(Gu (Yh2)).length<=11:=λ{a b} h=>by
  cases e:Yh2 with
  |none=>exact Ybv
  |some z=>refine lsv z ?_;rw[qI]at e;obtain⟨d,_,hz⟩:=List.mem_flatMap.mp (List.mem_of_find?_eq_some e);obtain⟨j,_,rfl⟩:=List.mem_map.mp hz;exact Nat.le_trans Ynj h
 have l1:=lx lu;have l2:=lx (a:=R) (b:=L) (by rw[wI];exact lu);have comp:compared L R=.compared ((if(breach L R).isNone=true then 1 else 0)+(if(breach R L).isNone=true then 2 else 0)) ((breach L R).toList++(breach R L).toList):=rfl;rw[comp,HL]at k;generalize breach L R=x at ho1' k l1;generalize breach R L=y at ho2 k l2;refine⟨Zaa,Ybv,YbX⟩;have s9:=ak (o:=Ycx) YDC ht;obtain⟨d,e,q1,q2,q3,q4,q5⟩:=cmp (s9 _ _ ho1') ab;refine⟨d,e,q1,q2,q3,q4,Zaa,?_⟩;rw[q5];generalize upd H8 t (.lst [])=H9 at s9;refine Ybi
 ·refine⟨Zbg,Ybv,λt2 ht2=>?_⟩;ext XbG
  ·refine⟨Zbg,Yag,Yh0⟩;have t1:=ak (o:=.lst [.int (1+2)]) s10 hq;refine YnX;have t2:=ak (o:=.lst ([.int (1+2)]++Gu x)) t1 hp;ext Xch
  ·refine bx ⟨Zbq,Yh0⟩;have t1:=ak (o:=.lst [Yx7]) s10 hq;refine YnX;have t2:=ak (o:=.lst ([Yx7]++Gu x)) t1 hp;ext Xch
 ·refine bx (ba (cV ⟨Zaa,Ybv,λt2 ht2=>?_⟩));ext XbG
  ·refine⟨Zbg,Yag,Yh0⟩;have t1:=ak (o:=.lst [.int (0+2)]) s10 hq;refine YnX;have t2:=ak (o:=.lst ([.int (0+2)]++Gu x)) t1 hp;ext Xch
  ·refine bx ⟨Zbq,Yh0⟩;have t1:=ak (o:=Yyo) s10 hq;refine YnX;have t2:=ak (o:=.lst ([YmW]++Gu x)) t1 hp;ext Xch
end
section
open Vbnlad (flagsOf turns flagsIn daysIn Sit breach compared rulesOf editionOf situations allows)
def wH(h:a.Perm b):flagsOf a=flagsOf b:=tM (bP _) (bP _) λx=>by show x∈flagsOf a↔x∈flagsOf b;rw[fK,fK];simp only[h.mem_iff]
def QD(h:a.Perm b):turns a=turns b:=tM (bP _) (bP _) λx=>by show x∈turns a↔x∈turns b;rw[bW,bW];simp only[h.mem_iff]
def Gi(h:a.Perm b)(x:Sit):allows a x=allows b x:=by unfold allows;rw[yK h]
theorem Gf(h:a.Perm a')(g:b.Perm b'):Yh2=breach a' b':=by rw[qI,qI,wH (h.append g),QD (h.append g)];congr 1;funext x;rw[Gi h,Gi g]
def KI(h:a.Perm a')(g:b.Perm b'):compared a b=compared a' b':=by unfold compared;rw[Gf h g,Gf g h]
def Lw(s:YaW)(k:Int):Option Vbnlad.Rule:=s.rules.find? λr=>(r.key:Int)==k
def QY(K:Yaj)(A:bL):Sp:=λvs H Q _=>∃G s lk rk,vs=[Ybz,.int lk,.int rk]/\YaF/\FH K A H G s Ysv Q
theorem Dl(T:Yas):a6 P w K mg base cN 7 A.mS A.mX Ydg (QY K A):=by
 refine T.vO.ok sX Yat Yab;obtain⟨G,st,lk,rk,rfl,C,k⟩:=h;have nd:=sX.nd;ext XaK;have num:∀{H':Hp}{l:Addr}{n:Int},Ya1->H' l=none->Vbnlad.step st Ysv=YAM->YbV:=λ{H' l n} s hl e=>YaL
 refine⟨_,(af YgI
   (af (aM YtH YaE az)
   (af (aF (i:=3) nd rfl Yaf (aQ (aa Yfo ah)))
   (af (aF (i:=4) nd rfl Yaf (aQ (aa YuZ ah)))
   (af (aM (aC nZ Yf4 (cy rfl T.sO) Ybo) YaE az)
   (Yjq)))))),?_⟩
 have qe:Vbnlad.step st Ysv=match Lw st lk with
  |none=>(st,Ys0)
  |some x=>match Lw st rk with
   |none=>(st,YyZ)
   |some y=>if Vbnlad.RULEFLAGS<(flagsOf [x,y]).length then(st,.number (-3))else(st,compared [x] [y]):=rfl
 refine⟨Zcd,Zby,bN.k (k:=Ykn) C.GN,ZaH⟩
 ·rcases qg C lk with⟨p,hp,e1,e2,e3⟩|⟨e1,h⟩
  ·have e2:YEk=true:=e;ext Xax
  ·have e4:Lw st lk=none:=jW (key:=YkR) h;refine Ye4;rw[qe,e4]
 obtain⟨pl,hpl,vpl,kpl,mpl⟩:∃p∈G.rl,bg YfO (Ykn)=Yf5/\((p.1.key:Nat):Int)=lk/\p.1∈st.rules:=by
  rcases qg C lk with h|⟨e1,h⟩
  ·exact h
  ·have e2:YEk=false:=e;ext Xax
 have fpl:Lw st lk=some pl.1:=find_key (key:=YkR) Yy2 mpl kpl;refine bx (ba (cV ⟨Zcd,Zby,bN.k (k:=Ykm) C.GN,ZaH⟩))
 ·rcases qg C rk with⟨p,hp,e1,e2,e3⟩|⟨e1,h⟩
  ·have e2:YEl=true:=e;ext Xax
  ·have e4:Lw st rk=none:=jW (key:=YkR) h;refine Ye4;rw[qe,fpl];dsimp only;rw[e4]
 obtain⟨pr,hpr,vpr,kpr,mpr⟩:∃p∈G.rl,bg YfO (Ykm)=Yf5/\((p.1.key:Nat):Int)=rk/\p.1∈st.rules:=by
  rcases qg C rk with h|⟨e1,h⟩
  ·exact h
  ·have e2:YEl=false:=e;ext Xax
 have fpr:Lw st rk=some pr.1:=find_key (key:=YkR) Yy2 mpr kpr;rw[fpl,fpr]at qe;dsimp only at qe;have g1:=bN.k (k:=Ykn) C.GN;rw[vpl]at g1;refine bx (ba ⟨Zbp,Zar,T.bT,ZaF,G.ru,Zaa,g1,Yag,λla hla=>?_⟩);have s1:=ak (o:=YzL) Yay hla;have hla1:=ab (H:=H) (a:=la) (o:=YzL);generalize upd H la (.lst [.ref pl.2])=H1 at s1 hla1;have g2:=bN.k (k:=Ykm) (YeA).GN;rw[vpr]at g2;refine⟨Zbp,(YeA).obj,Zbu,g2,Yag,λra hra=>?_⟩;have s2:=ak (o:=.lst [Yxf]) s1 hra;have hra2:=ab (H:=H1) (a:=ra) (o:=.lst [Yxf]);have hla2:upd H1 ra (.lst [Yxf]) la=some (YzL):=bM hra hla1;generalize upd H1 ra (.lst [.ref pr.2])=H2 at s2 hra2 hla2;refine⟨ZaE,la,ra,ZaD,hla2,hra2,Yap,Yh0⟩;have s3:=ak (o:=.lst [.ref pl.2,Yxf]) s2 hq;have s23:=ak (o:=.lst [.ref pl.2,Yxf]) YhK hq;refine⟨G,st,q,[pl.1,pr.1],rfl,C.same s3,⟨[pl.2,pr.2],ab,.cons hpl (.cons hpr .nil)⟩,(by show 2<=16;decide),YB7⟩;refine⟨Zcr,Zb1⟩
 ·have e1:(8:Int)<((aE (YjK)).length:Nat):=YaQ;rw[aH]at e1;refine YvE;rw[qe,if_pos (show Vbnlad.RULEFLAGS<(YjK).length by unfold Vbnlad.RULEFLAGS;omega)]
 have e1:¬(8:Int)<((aE (YjK)).length:Nat):=YaH;rw[aH]at e1;rw[if_neg (show ¬Vbnlad.RULEFLAGS<(YjK).length by unfold Vbnlad.RULEFLAGS;omega)]at qe;have s5:=YqR;have s25:=s23.trans s4;refine bx ⟨ZcV,la,ra,[pl.1],[pr.1],rfl,C.same s5,⟨[pl.2],s25 _ _ hla2,.cons hpl .nil⟩,⟨[pr.2],s25 _ _ hra2,.cons hpr .nil⟩,(by show 1<=8;decide),(by show 1<=8;decide),(by show(YjK).length<=8;omega),λp H6 s6 np hp=>?_⟩;exact YgP
def Ot(K:Yaj)(A:bL):Sp:=λvs H Q _=>∃G s lk rk,vs=[Ybz,.int lk,.int rk]/\YaF/\FH K A H G s YpK Q
theorem BN(T:Yas):a6 P w K mg base cN 7 A.lK A.lW Ydg (Ot K A):=by
 refine T.tQ.ok qP Yat Yab;obtain⟨G,st,lk,rk,rfl,C,k⟩:=h;have nd:=qP.nd;ext XaK;have num:∀{H':Hp}{l:Addr}{n:Int},Ya1->H' l=none->Vbnlad.step st YpK=YAM->YbV:=λ{H' l n} s hl e=>YaL
 refine⟨_,(af YgI
   (af (aM YtH YaE az)
   (af (aF (i:=3) nd rfl Yaf (ay (kM T) Yac rfl T.mR T.kE.kp T.nF .nil aD (aa Yau (aa Yfo ah))))
   (af (aF (i:=4) nd rfl Yaf (ay (kM T) Yac rfl T.mR T.kE.kp T.nF .nil aD (aa Yau (aa YuZ ah))))
   (af (aM (aC nZ Yf4 (cy rfl T.jO) Ybo) YaE az)
   (Yjq)))))),?_⟩
 have qe:Vbnlad.step st YpK=match editionOf st lk with
  |none=>(st,Ys0)
  |some x=>match editionOf st rk with
   |none=>(st,YyZ)
   |some y=>if Vbnlad.EDITIONFLAGS<(flagsOf (YyP++rulesOf st y)).length then(st,.number (-3))else(st,compared (YyP) (rulesOf st y)):=rfl
 refine⟨Zcd,ZbJ,Zaa,bN.k (k:=Ykn) C.F6,ZaH⟩
 ·rcases tH C lk with⟨p,hp,e1,e2,e3⟩|⟨e1,h⟩
  ·have e2:YEm=true:=e;ext Xax
  ·have e4:editionOf st lk=none:=YA0;refine Ye4;rw[qe,e4]
 obtain⟨pl,hpl,vpl,kpl,mpl⟩:∃p∈G.el,bg Yd9 (Ykn)=Yf5/\((p.1.key:Nat):Int)=lk/\p.1∈YiP:=by
  rcases tH C lk with h|⟨e1,h⟩
  ·exact h
  ·have e2:YEm=false:=e;ext Xax
 have fpl:editionOf st lk=some pl.1:=find_key (key:=Yh9) C.ok.ek mpl kpl;refine bx (ba (cV ⟨Zcd,ZbJ,Zaa,bN.k (k:=Ykm) C.F6,ZaH⟩))
 ·rcases tH C rk with⟨p,hp,e1,e2,e3⟩|⟨e1,h⟩
  ·have e2:YEn=true:=e;ext Xax
  ·have e4:editionOf st rk=none:=YA0;refine Ye4;rw[qe,fpl];dsimp only;rw[e4]
 obtain⟨pr,hpr,vpr,kpr,mpr⟩:∃p∈G.el,bg Yd9 (Ykm)=Yf5/\((p.1.key:Nat):Int)=rk/\p.1∈YiP:=by
  rcases tH C rk with h|⟨e1,h⟩
  ·exact h
  ·have e2:YEn=false:=e;ext Xax
 have fpr:editionOf st rk=some pr.1:=find_key (key:=Yh9) C.ok.ek mpr kpr;rw[fpl,fpr]at qe;dsimp only at qe;have g1:=bN.k (k:=Ykn) C.F6;rw[vpl]at g1;have len8:∀{e:Vbnlad.Edition},e∈YiP->(YcF).length<=8:=λ{e} he=>Nat.le_trans Ymn (YyX).2.1;refine bx (ba ⟨Zcd,Zcm,g1,G,st,pl.2,pl.1,rfl,C,C.ae pl hpl,mpl,λla L H1 s1 nla hL pmL=>?_⟩);ext Xgt;have g2:=bN.k (k:=Ykm) C1.F6;rw[vpr]at g2;refine⟨Zbn,ZcM,Zcm,g2,G,st,pr.2,pr.1,rfl,C1,C1.ae pr hpr,mpr,λra R H2 s2 nra hR pmR=>?_⟩;have t2:=Ygc;have hL2:=hL.same s2;obtain⟨Ls,hLs,pL⟩:=id hL2;obtain⟨Rs,hRs,pR⟩:=id hR;have lL:Ykc<=8:=by rw[pmL.length_eq];exact len8 mpl
 have lR:YgR<=8:=by rw[pmR.length_eq];exact len8 mpr
 ext Xej;refine⟨ZaE,la,ra,ZaD,hLs,hRs,YkO,Yh0⟩;have s3:=ak (o:=Ygo) t2 hq;have s23:=ak (o:=Ygo) YhK hq;have ef:YcM=flagsOf (rulesOf st pl.1++rulesOf st pr.1):=wH (pmL.append pmR);refine⟨G,st,q,L++R,rfl,C.same s3,⟨Ls++Rs,ab.trans (by rw[List.map_append]),ur pL pR⟩,YvP,YB7⟩;refine⟨Zcr,Zb1⟩
 ·have e1:(6:Int)<((aE (YcM)).length:Nat):=YaQ;rw[aH,ef]at e1;refine YvE;rw[qe,if_pos Ykj]
 have e1:¬(6:Int)<((aE (YcM)).length:Nat):=YaH;rw[aH]at e1;rw[<-ef,if_neg (show ¬Vbnlad.EDITIONFLAGS<(YcM).length by unfold Vbnlad.EDITIONFLAGS;omega),<-KI pmL pmR]at qe;have s5:=YqR;have s25:=s23.trans s4;refine bx ⟨ZcV,la,ra,L,R,rfl,C.same s5,hL2.same s25,hR.same s25,lL,lR,Yad,λp H6 s6 np hp=>?_⟩;exact YgP
end
section
open Vbnlad (flagsOf turns flagsIn daysIn Sit breach compared rulesOf ruleOf editionOf core passes ruleValue and3)
def Sf(u:Yaw)(d:Nat)(r:YfD):dG u d [r]=YAE:=by unfold dG dF;refine CL λk _=>?_;have h1:=lC (sJ u k) d (Az u k) [r] (Yb8);rw[CK]at h1;rw[<-h1];show and3 (Yb8) _=_;rw[CK]
def LU{kept rest:Yd5}{r:YfD}:core kept (r::rest)=if(breach (kept++rest) [r]).isNone=true then core kept rest else core (kept++[r]) rest:=by rw[core]
def RK(h:∀x∈S++[r],x∈R):(oU (YfN) S [r] (Ym8)).isNone=(breach S [r]).isNone:=by rw[Wa2,RY,Tr (jP _) (λx hx y hy=>fK.mpr ⟨x,h x hx,hy⟩) (YmJ) (λx hx t ht hl=>bW.mpr ⟨.inr ⟨x,h x hx,ht⟩,hl⟩) λd hd=>(bW.mp hd).2]
def FA(H:Hp)(st:YaW)(RD:Addr)(D u ks:Yaw):Prop:=∃ps:List (Nat×Addr),H RD=some (.dK (dictOf Prod.fst Yd6 ps))/\ps.map Prod.fst=ks/\∀p∈ps,∀r,ruleOf st p.1=some r->H p.2=YeL
def FA.same{H H':Hp}{st:YaW}{RD:Addr}{D u ks:Yaw}(s:Ya1)(h:FA H st RD D u ks):FA H' st RD D u ks:=by obtain⟨ps,h1,h2,h3⟩:=h;exact⟨ps,YtS,h2,λp hp r hr=>s _ _ (h3 p hp r hr)⟩
def FA.get{H:Hp}{st:YaW}{RD:Addr}{D u ks:Yaw}(h:FA H st RD D u ks)(nk:YtT){r:YfD}(hr:ruleOf st r.key=some r)(hk:r.key∈ks):∃x,H x=YeL/\∀H',Ya1->bN H' RD (.int ((r.key:Nat):Int)) (some Ypu):=by obtain⟨ps,h1,h2,h3⟩:=h;rw[<-h2]at hk nk;obtain⟨p,hp,ep⟩:=WaD.mp hk;refine⟨p.2,h3 p hp r (by rw[ep];exact hr),λH' s=>?_⟩;have g:=bN.k (k:=Ypa) (YtS);rw[<-ep,jX (kf:=Prod.fst) (vf:=λp:Nat×Addr=>V.ref p.2) nk hp]at g;rw[<-ep];exact g
theorem Vb{kept rest:Yd5}{r:YfD}(nd:((kept++r::rest).map Vbnlad.Rule.key).Nodup):((kept++r::rest).map Vbnlad.Rule.key).filter (λk=>Yv7)=(kept++rest).map Vbnlad.Rule.key:=by
 rw[List.map_append,List.map_cons]at nd;have h1:=List.nodup_append.mp nd;have h2:=List.nodup_cons.mp h1.2.1;rw[List.map_append,List.map_cons,List.filter_append,List.filter_cons,if_neg Yao,List.map_append];congr 1
 ·ext XeF;exact h1.2.2 k hk r.key YfH q
 ·ext XeF;exact h2.1 (q▸hk)
def Y5(h1:H' o=some (.lst (Gu z)))(h2:H' t=some YEo):∃d e,Dp K H' (.ref o) d/\Dp K H' (Ysy) e/\YDr=true/\YDq=true/\YDt=z.isNone:=by
 cases z with
 |none=>exact Yjr
 |some z=>exact Yjn
def Yi(K:Yaj)(A:bL):Sp:=λvs H Q _=>∃G s ek,vs=[Ybz,.int ek]/\YaF/\FH K A H G s (.core ek) Q
theorem ID(T:Yas):a6 P w K mg base cN 6 A.uH A.uR YrC (Yi K A):=by
 refine T.Bi.ok yh Ybh Yab;obtain⟨G,st,ek,rfl,C,k⟩:=h;have nd:=yh.nd;ext XaK;have num:∀{H':Hp}{l:Addr}{n:Int},Ya1->H' l=none->YCP=YAM->YbV:=λ{H' l n} s hl e=>YaL
 have qe:YCP=match editionOf st ek with
  |none=>(st,Ys0)
  |some x=>if Vbnlad.EDITIONFLAGS<(flagsOf (YyP)).length then(st,YyZ)else(st,.row ((core [] (YyP)).map λr=>r.key)):=rfl
 refine⟨_,(af YgI
   (af (aF (i:=2) nd rfl Yaf Yfo)
   (af (aF (i:=3) nd rfl Yaf (ay (kM T) Yac rfl T.mR T.kE.kp T.nF .nil aD Ys2))
   (af (aM (aC nZ (aT a8 rfl T.cP bR (aa (ay (tq T) Yac rfl T.wC T.sH.kp T.w8 .nil aD Ye9) ah)) (cy rfl T.jO) Ybo) YaE az)
   (af (aF (i:=4) nd rfl Yaf (cH T.A5 (rD T) Yac rfl T.DF T.tK .nil aD (aa Yau Ye9)))
   (af (aF (i:=5) nd rfl Ykh gf)
   (af (cO PassesOwn.never rfl (bq YeX) (aX (i:=6) nd rfl Ykh) (aj (jg hu Yda YeJ (dJ Ycg T.aR T.cZ (cX T) Yac T.dD .nil aD (aa (bw hu Yak YeJ Yal) ah)) rfl)))
   (af (aF (i:=7) nd rfl Yaf (aT wX rfl T.jL jk YqZ))
   (af (cO PassesOwn.never rfl (bq (aT wX rfl T.jL jk YqZ)) (aX (i:=6) nd rfl Ykh) (af (iJ (i:=8) (own:=[("other",9)]) rfl nd rfl rfl YcC (bq Ypi) YbT Yuv (λ_ _ _ _ _=>qh (aC SI (pv 9) YeJ Ybo)) (λ_ _ _ _ _=>(pv 9)))
   (af (aF (i:=10) nd rfl Yaf (dJ Ycg T.aR T.dA (du T) Yac T.dX .nil aD (aa (yI (own:=[("other",9)]) rfl nd (bq YDc) YbT Yuv YcI (λ_ _ _ _ _=>(bw hu Yda (pv 9) Yal))) ah)))
   (aj (aM (aC YqI (dJ Ycg T.aR T.eU (eT T) Yac T.fh .nil aD (aa (pv 10) (aa (bw hu Yda YeJ Yal) ah))) YgO Ybo) (aj (aF (i:=7) nd rfl Yaf YDc)) az)))))
   (aj (au (a7 ic (aQ (aa (aT a8 rfl T.cP bR YhL) ah)) Ypi)))))))))))),?_⟩
 refine⟨Zcd,ZbJ,Zaa,YCN,ZaH⟩
 ·rcases tH C ek with⟨p,hp,e1,e2,e3⟩|⟨e1,h⟩
  ·have e2:(!(YuJ).isSome)=true:=e;ext Xax
  ·have e4:editionOf st ek=none:=YA0;refine Ye4;rw[qe,e4]
 obtain⟨pe,hpe,vpe,kpe,mpe⟩:∃p∈G.el,YuJ=Yf5/\((p.1.key:Nat):Int)=ek/\p.1∈YiP:=by
  rcases tH C ek with h|⟨e1,h⟩
  ·exact h
  ·have e2:(!(YuJ).isSome)=false:=e;ext Xax
 have fpe:editionOf st ek=some pe.1:=find_key (key:=Yh9) C.ok.ek mpe kpe;rw[fpe]at qe;dsimp only at qe;obtain⟨e,ea⟩:=pe;dsimp only at hpe vpe kpe mpe fpe qe;have er:=C.ok.er e mpe;have rk:=lB C.ok mpe;have l8:(YcF).length<=8:=by have:=congrArg List.length rk;ext XbW;omega
 have g1:=YCN;rw[vpe]at g1;refine bx (ba ⟨Zbp,Zar,Zcm,g1,?_⟩);refine⟨Zbs,ea,e,rfl,C,C.ae _ hpe,mpe,λa R H1 s1 na hR pm=>?_⟩;obtain⟨Rs,hRs,pR⟩:=id hR;have lR:YgR<=8:=by rw[pm.length_eq];exact l8
 have ef:YfN=flagsOf (YcF):=wH pm;refine⟨ZcW,a,R,rfl,YeA,hR,YaP,λfp H2 s2 nfp hfp hin=>?_⟩;have s02:=Ygc;refine⟨Zcr,ZbS,Ybi⟩
 ·have e2:(6:Int)<((aE (YfN)).length:Nat):=Yi6;rw[aH,ef]at e2;refine⟨Zbq,λl hl=>num s02 hl ?_⟩;rw[qe,if_pos Ykj]
 have e2:¬(6:Int)<((aE (YfN)).length:Nat):=Yc7;rw[aH]at e2;rw[<-ef,if_neg (show ¬Vbnlad.EDITIONFLAGS<(YfN).length by unfold Vbnlad.EDITIONFLAGS;omega)]at qe;have lu:(YfN).length<=8:=Yad;have nu:(YfN).Nodup:=jP _;have lD:=Nat.le_trans (Lh C pR Yad) YAd;refine bx (ba ⟨ZaE,λx0 dx nx ndx nex=>⟨G,st,a,R,H2,x0,dx,ZcG,nx,λb o e=>YlZ,C.same s02,hR.same s2,YaP,lu,λH3 s3 S=>⟨Zag⟩⟩⟩);have s03:=s02.trans s3;have C3:=C.same s03;ext XgD;obtain⟨edx,kl,ks,hedo,hkl,pks⟩:=C3.ae _ hpe;have nks:YtT:=pks.nodup_iff.mpr (fH er.1);have lks:YbL<=8:=by rw[pks.length_eq];exact er.2.1
 refine λRD hRD=>?_;have s4:=ak (o:=.dK []) (YoV) hRD;have hRD4:=ab (H:=H3) (a:=RD) (o:=.dK []);generalize upd H3 RD (.dK [])=H4 at s4 hRD4;refine⟨ZcC,s4 _ _ hedo,T.bX,T.cM,rfl,kl,rfl,⟨_,aV.of (s4 _ _ hkl)⟩,?_⟩;refine bZ (xs:=aE ks) (λi σ H'=>∃o6,σ=[YgA,some (.int ek),YDf,Yfd,some (.ref x0),some (.ref RD),o6,none,none,none,none]/\aN H3 H'/\FA H' st RD (Ym8) (YfN) (ks.take i))
  ⟨Za8,s4,[],hRD4,rfl,λ_ h=>by cases h⟩ ?_ ?_ ?_
 ·rintro i σ H' _ ⟨o6,rfl,sm,_⟩;exact aV.of (sm _ _ hkl)
 ·rintro i x σ H5 hx ⟨o6,rfl,sm,ps,h1,h2,h3⟩;ext XaS;have zm:z∈ks:=Yb0;obtain⟨r0,hr0,er0⟩:=er.2.2 z (pks.mem_iff.mp zm);have il:i<8:=by have h4:=(Yb3).1;omega
  rcases qg C3 ((z:Nat):Int)with⟨p,hp1,e3,e4,e5⟩|⟨_,e3⟩
  ·have pz:YhZ=z:=Yad;have ez:ruleOf st z=Yxn:=(by rw[<-pz];exact BG C.ok e5);have C5:=C3.same sm;have g:=bN.k (k:=Ycm) C5.GN;rw[e3]at g;have rin:p.1∈R:=pm.mem_iff.mpr (List.mem_filterMap.mpr ⟨z,pks.mem_iff.mp zm,ez⟩);refine⟨Zcp,sm _ _ hob,ZaF,ZaL,C5.obj,Zbu,g,st,x0,Ym8,YfN,p.2,p.1,rfl,S.same sm,C5.ar _ hp1,bP _,YmJ,λt ht hl=>bW.mpr ⟨.inr ⟨p.1,rin,ht⟩,hl⟩,λd hd=>(bW.mp hd).2,lD,λrp H6 s6 Zx hrp=>?_⟩;have lps:Yez=i:=by have:=congrArg List.length h2;rw[List.length_map,List.length_take]at this;have h4:=(Yb3).1;omega
   refine⟨ZaE,RD,Zaa,vW.k (k:=Ycm) (s6 _ _ h1) (by rw[de];exact Nat.lt_of_le_of_lt (show Yez<=8 by omega) YeP),?_⟩;have vn:bg (dictOf Prod.fst (λp:Nat×Addr=>V.ref p.2) ps) (Ycm)=none:=by
    rcases cD (λp:Nat×Addr=>p.1) Yd6 ps ((z:Nat):Int)with⟨y,hy,_,ey⟩|⟨ey,_⟩
    ·exfalso;have yz:y.1=z:=Yad;have ym:z∈ks.take i:=(by rw[<-h2,<-yz];exact YrG);have h4:(ks.take YcG).Nodup:=List.Nodup.sublist (Yiv) nks;rw[take_snoc hz,List.nodup_append]at h4;exact h4.2.2 z ym z Yao rfl
    ·exact ey
   rw[jJ vn];have rne:∀{b:Addr}{l:List V},H6 b=some (.lst l)->b≠RD:=λ{b l} hb q=>by rw[q,s6 _ _ h1]at hb;cases hb
   refine⟨Zaa,aS (sm.trans s6) hRD,ps++[(z,rp)],ZbG,?_⟩
   ·rw[ab];exact congrArg (λz=>some (HO.dK z)) (ji (λp:Nat×Addr=>p.1) Yd6 ps (z,rp))
   ·rw[List.map_append,h2,take_snoc hz];rfl
   ·intro y hy r' hr';rcases List.mem_append.mp hy with hy|hy
    ·have:=s6 _ _ (h3 y hy r' hr');exact ai (rne this) this
    ·have ey:y=(z,rp):=List.mem_singleton.mp hy;subst ey;rw[ez]at hr';injection hr' with hr';subst hr';exact ai (rne hrp) hrp
  ·exact absurd (by rw[er0]) (e3 r0 hr0)
 rintro σ H5 ⟨o6,rfl,s5,RA0⟩;unfold aE at RA0;rw[List.length_map,List.take_length]at RA0;have eq:(List.map V.int (List.map (λn:Nat=>((n:Nat):Int)) e.rules))=aE ((YcF).map Vbnlad.Rule.key):=by rw[rk,List.map_map];rfl
 generalize hrs:rulesOf st e=rs at rk l8 pm eq;refine⟨ZcC,s5 _ _ hedo,Za0,YqL,λns' sp0 pn sn hsp0=>?_⟩;ext Xhp;have s6:=ak (o:=YdN) s5 hsp0;have hsp6:=ab (H:=H5) (a:=sp0) (o:=YdN);have RA6:=RA0.same (ak (o:=YdN) (same_refl H5) hsp0);generalize upd H5 sp0 (.lst (aE (rs.map Vbnlad.Rule.key)))=H6 at s6 hsp6 RA6;refine⟨ZcC,s6 _ _ hedo,Za0,aV.of (by rw[s6 _ _ hkl,List.map_map];rfl),YmF⟩;ext Xhp;have s67:=ak (o:=YdN) (same_refl H6) hq;have hq7:=ab (H:=H6) (a:=q) (o:=YdN);generalize upd H6 q (.lst (aE (rs.map Vbnlad.Rule.key)))=H7 at s67 hq7;have s7:=s6.trans s67;have RA:=RA6.same s67;have hsp7:=s67 _ _ hsp6;clear RA0 RA6 hsp6;have nkey:(Yrt).Nodup:=by rw[rk];exact fH er.1
 have rof:∀r∈rs,ruleOf st r.key=some r/\r.key∈ks/\r∈R:=λr hr=>by
  rw[<-hrs]at hr;obtain⟨z,hz,ez⟩:=List.mem_filterMap.mp hr;have e6:r.key=z:=by have:=List.find?_some ez;ext Xbb
  refine⟨by rw[e6];exact ez,by rw[e6];exact pks.mem_iff.mpr hz,pm.mem_iff.mpr (hrs▸hr)⟩
 refine⟨q,rfl,⟨_,aV.of hq7⟩,?_⟩;refine bZ (xs:=aE (Yrt)) (λi σ H'=>∃(sp:Addr)(kept:List Vbnlad.Rule)(o6 o8 o10:Option V),σ=[YgA,some (.int ek),YDf,Yfd,some (.ref x0),some (.ref RD),o6,some (.ref sp),o8,none,o10]/\aN H7 H'/\H' sp=some (.lst (aE ((kept++Yw2).map Vbnlad.Rule.key)))/\core [] rs=core kept (Yw2)/\kept.Sublist (rs.take i))
  ⟨sp0,[],_,none,Za8,same_refl H7,hsp7,rfl,List.nil_sublist _⟩ ?_ ?_ ?_
 ·rintro i σ H' _ ⟨sp,kept,o6,o8,o10,rfl,sm,_⟩;exact aV.of (sm _ _ hq7)
 ·rintro i x σ H8 hx ⟨sp,kept,o6,o8,o10,rfl,s8,hsp,hc,sub⟩;ext XaS;obtain⟨r,hr,rfl⟩:=bE hz;have hi:i<Yw1:=(List.getElem?_eq_some_iff.mp hr).1;have hdr:Yw2=r::rs.drop YcG:=by rw[List.drop_eq_getElem_cons hi];rw[List.getElem?_eq_getElem hi]at hr;injection hr with hr;rw[hr]
  have rm:r∈rs:=List.mem_of_getElem? hr;have subs:(kept++Yw2).Sublist rs:=by have:=sub.append (List.Sublist.refl (Yw2));rw[List.take_append_drop]at this;exact this
  have ndk:((kept++Yw2).map Vbnlad.Rule.key).Nodup:=List.Nodup.sublist (subs.map _) nkey;rw[hdr]at hsp hc subs ndk;have fl:=Vb ndk;have lst8:((kept++r::YBo).map Vbnlad.Rule.key).length<=8:=by ext Xg7;exact Nat.le_trans subs.length_le l8
  generalize hstay:(kept++r::rs.drop (i+1)).map Vbnlad.Rule.key=xV at hsp fl lst8;refine⟨Zaa,sp,rfl,⟨_,YBX⟩,Yx9⟩;refine gF (xs:=aE xV) (λj H'=>H' N=some (.lst (aE ((xV.take j).filter λk=>Yv7)))/\aN H8 H') Yv2 (λj H' _ z=>aV.of (z.2 _ _ hsp)) ?_ ?_
  ·rintro j x H' hx ⟨hN',sn⟩;obtain⟨y,hy,rfl⟩:=bE hx;rw[take_snoc hy,kN];refine⟨ZbM,ZaF,Yc1⟩
   ·have e4:(!decide (YfY=YfG))=true:=e3;have e5:y≠r.key:=λw=>by rw[w]at e4;simp at e4
    refine YzU
    ·rw[aH];have:=List.length_filter_le (λk=>Yv7) (xV.take j);ext Xa0;omega
    ·rw[ab,if_pos (decide_eq_true e5)];ext Xay
   ·have e4:(!decide (YfY=YfG))=false:=e3;have e5:y=r.key:=by have:decide (YfY=YfG)=true:=YjP;ext XeP
    refine⟨?_,sn⟩;rw[if_neg (by rw[decide_eq_false (λw=>w e5)];decide),List.append_nil];exact hN'
  rintro H9 ⟨hN9,s9⟩;rw[aH,List.take_length,fl]at hN9;have s79:=s8.trans s9;have s39:=s7.trans s79;have subS:(kept++YBo).Sublist rs:=List.Sublist.trans (List.Sublist.append_left (List.sublist_cons_self _ _) _) subs;have inS:∀y∈kept++YBo,y∈rs:=λy hy=>subS.subset hy;have lS:(kept++YBo).length<=8:=Nat.le_trans subS.length_le l8;generalize hS':kept++rs.drop (i+1)=S' at hN9 inS lS;refine⟨Zcp,s39 _ _ hob,ZaF,N,rfl,⟨_,aV.of hN9⟩,λM hM=>?_⟩;refine gF (xs:=aE (S'.map Vbnlad.Rule.key)) (λj H'=>∃xs:Ybw,H' M=some (.lst (xs.map V.ref))/\aN H9 H'/\Ybp=j/\Paired (λx r=>H7 x=some (.lst (aE ((Ym8).map λd=>dF (YfN) d r)))) xs (S'.take j)) Yyt (λj H' _ z=>by obtain⟨_,_,y,_⟩:=z;exact aV.of (y _ _ hN9)) ?_ ?_
  ·rintro j x H' hx ⟨xs,hM',sn,lx,px⟩;obtain⟨y,hy,rfl⟩:=bE hx;obtain⟨ry,hry,rfl⟩:=bE hy;obtain⟨q1,q2,q3⟩:=rof ry (inS ry (List.mem_of_getElem? hry));have hj:j<S'.length:=(List.getElem?_eq_some_iff.mp hry).1;obtain⟨xr,hxr,gx⟩:=RA.get nks q1 q2;refine⟨ZbM,RD,Zaa,gx _ (s79.trans sn),_,hM',Yjt,xs++[xr],?_,aS sn hM,by rw[List.length_append,lx];rfl,?_⟩
   ·ext Xd7
   ·rw[take_snoc hry];exact Paired.snoc px hxr
  rintro H10 ⟨xs,hM10,s10,_,px⟩;rw[aH,List.length_map,List.take_length]at px;have s710:=s79.trans s10;have s310:=s7.trans s710;refine⟨st,x0,Ym8,YfN,M,xs,S',rfl,S.same s310,hM10,Paired.gE px λ_ _ z=>s710 _ _ z,lD,λbo H11 s11 nbo hbo=>?_⟩;have s711:=s710.trans s11;have s311:=s7.trans s711;obtain⟨q1,q2,q3⟩:=rof r rm;obtain⟨xk,hxk,gk⟩:=RA.get nks q1 q2;have hxk1:H11 xk=some (.lst (aE ((Ym8).map λd=>dG (YfN) d [r]))):=by rw[s711 _ _ hxk];simp only[Sf]
  have inR:∀y∈S'++[r],y∈R:=λy hy=>by
   rcases List.mem_append.mp hy with hy|hy
   ·exact(rof y (inS y hy)).2.2
   ·rw[List.mem_singleton.mp hy];exact q3
  refine⟨Zcp,s311 _ _ hob,rfl,Zbl,RD,Zaa,gk _ s711,st,x0,Ym8,YfN,bo,xk,S',[r],rfl,S.same s311,hbo,hxk1,λy hy f hf=>fK.mpr ⟨y,inR y hy,hf⟩,nu,lu,λfo H12 s12 nfo hfo=>?_⟩;refine⟨Ybv,YbX⟩;have s13:=ak (o:=Ycx) (same_refl H12) ht;obtain⟨d,e',w1,w2,w3,w4,w5⟩:=Y5 (K:=K) (s13 _ _ hfo) ab;refine⟨d,e',w1,w2,w3,w4,Zaa,?_⟩;rw[w5,RK inR];have s813:aN H8 (upd H12 t YEo):=((s9.trans s10).trans (s11.trans s12)).trans s13;have s713:=s8.trans s813;refine Yc1
  ·refine⟨Zaa,N,kept,ZaG,s713,ZbG,?_⟩
   ·rw[hS'];exact(((s10.trans s11).trans s12).trans s13) _ _ hN9
   ·rw[hc,LU,hS',if_pos e3]
   ·exact List.Sublist.trans sub (by rw[take_snoc hr];exact List.sublist_append_left _ _)
  ·refine⟨sp,kept++[r],ZaG,s713,ZbG,?_⟩
   ·rw[List.append_assoc,List.singleton_append,hstay];exact s813 _ _ hsp
   ·rw[hc,LU,hS',if_neg (by rw[e3];decide)]
   ·rw[take_snoc hr];exact List.Sublist.append sub (List.Sublist.refl _)
 ·rintro σ H8 ⟨sp,kept,o6,o8,o10,rfl,s8,hsp,hc,sub⟩;rw[aH,List.length_map,List.drop_length,List.append_nil]at hsp;rw[aH,List.length_map,List.drop_length]at hc;rw[aH,List.length_map,List.take_length]at sub;have hcore:core [] rs=kept:=by rw[hc,core]
  have s08:=s03.trans (s7.trans s8);have lk:kept.length<=8:=Nat.le_trans sub.length_le l8;refine⟨Zaa,sp,Zaa,.inl (YBX),Yag,Yhp⟩;have t1:=ak (o:=.lst [.int (((aE (kept.map Vbnlad.Rule.key)).length:Nat):Int)]) YDC hq2;refine⟨Zaa,q2,sp,ZaD,ab,t1 _ _ hsp,aY (m:=100) (by rw[aH,List.length_map];show 1+_<=_;omega) YeP,λq4 hq4=>?_⟩;refine k q4 _ G st _ rfl (Kp.same (s08.trans (ak t1 hq4))) (C.same (s08.trans (ak t1 hq4))) (same_none (s08.trans t1) hq4) ?_ qe;rw[ab,hrs,hcore,Lq,aH]
end
def Ds(T:Yas):a6 P w K mg base cN 8 A.eO A.ni Yai (xp K A .compareRules):=by refine T.vT.ok Dc YaC Yab;ext XaY;refine⟨_,(aj (au (ay (Dl T) Yac rfl T.EW T.vO.kp T.Ft .nil aD Yo4))),?_⟩;exact Yn2
def BP(T:Yas):a6 P w K mg base cN 8 A.di A.lY Yai (xp K A .compareEditions):=by refine T.tS.ok Bx YaC Yab;ext XaY;refine⟨_,(aj (au (ay (BN T) Yac rfl T.DC T.tQ.kp T.Ea .nil aD Yo4))),?_⟩;exact Yn2
def IK(T:Yas):a6 P w K mg base cN 7 A.hG A.uY Yai (FJ K A .core):=by refine T.Bp.ok HW Yav Yab;obtain⟨G,st,na,ra,x,rfl,hn,C,k⟩:=h;refine⟨_,(aj (au (ay (ID T) Yac rfl T.Ky T.Bi.kp T.KP .nil aD (aa Yau YBN)))),?_⟩;exact⟨ZaE,Zco,G,st,x,rfl,C,k⟩
section
open Vbnlad (Answer flagsOf breach compared core rulesOf editionOf settling unknown judged statusOf chain Sit)
def OM(s:YaW)(k:Int)(w:Yaw):∃n,(Vbnlad.putFlag s k w).2=Yc4:=by
 unfold Vbnlad.putFlag
 repeat' split
 all_goals exact YeS
def OJ(s:YaW)(a b c d e:Int)(w:Yaw):∃n,(Vbnlad.putRule s a b c d e w).2=Yc4:=by
 unfold Vbnlad.putRule
 repeat' split
 all_goals exact YeS
def Ij(s:YaW)(a b c:Int)(l:YdR):∃n,(Vbnlad.putEdition s a b c l).2=Yc4:=by
 unfold Vbnlad.putEdition
 repeat' split
 all_goals exact YeS
def OL(s:YaW)(a b c:Int):∃n,(Vbnlad.putName s a b c).2=Yc4:=by
 unfold Vbnlad.putName
 repeat' split
 all_goals exact YeS
def UQ(s:YaW)(a b c:Int):∃n,(Vbnlad.learn s a b c).2=Yc4:=by
 unfold Vbnlad.learn
 repeat' split
 all_goals exact YeS
def SY(l:Yaw):(Yz7).length=Yc9+1:=by ext XdK
def Pc(l:Yaw):(VbnladNeutral.shown (.text l)).length=Yc9+1:=by unfold VbnladNeutral.shown VbnladNeutral.ints;simp
def DH{α:Type}{f:α->YdR}{n:Nat}{l:Ydy}(h:∀x∈l,(f x).length<=n):(l.flatMap f).length<=n*l.length:=zi h
def JD:∀(rest kept:List Vbnlad.Rule),(core kept rest).length<=kept.length+rest.length
 |[],kept=>by rw[core];simp
 |r::rest,kept=>by
  rw[core];split
  ·have:=JD rest kept;rw[Was];omega
  ·have:=JD rest (kept++[r]);rw[Wad]at this;simp only[Was,WbK]at this ⊢;omega
def DI{a b:Yd5}(h:(YhI).length<=8):(VbnladNeutral.shown (compared a b)).length<=100:=by
 have one:∀{a b:List Vbnlad.Rule},(YhI).length<=8->∀z,Yh2=some z->z.yes.length<=8:=λ{a b} h z e=>by rw[qI]at e;obtain⟨d,_,hz⟩:=WbF.mp (WaG e);obtain⟨j,_,rfl⟩:=WaD.mp hz;exact WaF (WaT _ _) h
 have h1:=one h;have h2:=one (a:=b) (b:=a) (by rw[wI];exact h);have comp:compared a b=.compared ((if(Yh2).isNone=true then 1 else 0)+(if(breach b a).isNone=true then 2 else 0)) YuA:=rfl;rw[comp];show(_::List.flatMap (λx:Sit=>[(x.day:Int),(x.rank:Int)]++Yip) YuA).length<=100;have hl:((Yh2).toList++(breach b a).toList).length<=2:=by rw[Wad];cases breach a b<;>cases breach b a<;>simp
 have:=DH (f:=λx:Sit=>[(x.day:Int),(x.rank:Int)]++Yip) (n:=11) (l:=(Yh2).toList++(breach b a).toList) λx hx=>by
  have hy:x.yes.length<=8:=by
   rcases Wac.mp hx with hx|hx
   ·exact h1 x (by simpa using hx)
   ·exact h2 x (by simpa using hx)
  unfold VbnladNeutral.counted VbnladNeutral.ints;simp;omega
 rw[Was];omega
def Ts{H:Hp}{G:CG}{s:YaW}(C:YaF)(c:Yoa):(VbnladNeutral.shown (YsE).2).length<=10000:=by
 have num:∀{a:Answer},(∃n,a=Yc4)->(VbnladNeutral.shown a).length<=10000:=λ{a} h=>by obtain⟨n,rfl⟩:=h;show 1<=10000;decide
 have n1:∀n:Int,(VbnladNeutral.shown (Yc4)).length<=10000:=λn=>num ⟨n,rfl⟩;have l8:∀{e:Vbnlad.Edition},e∈Yec->(YdL).length<=8:=λ{e} he=>WaF (Wbz ..) (YyX).2.1;cases c with
 |flag k w=>exact num (OM s k w)
 |rule a b c d e w=>exact num (OJ s a b c d e w)
 |edition a b c l=>exact num (Ij s a b c l)
 |name a b c=>exact num (OL s a b c)
 |learn a b c=>exact num (UQ s a b c)
 |text k=>
  ext Xao;split
  ·exact n1 _
  ·rename_i r hr;obtain⟨p,hp,ep⟩:=WaD.mp (C.pr.mem_iff.mpr (WaG hr));obtain⟨dx,sl,kl,c,ho,_,hkl,rok⟩:=Yxe;rw[<-ep,rok.cd,kW C.ok.ze c 0 rok.ms,Pc];ext XgO;omega
 |form w=>
  ext Xao;split
  ·exact n1 _
  ·rename_i c hc;rw[Pc];unfold Vbnlad.readCond at hc
   repeat' split at hc
   all_goals first|cases hc|skip
   rename_i h;unfold Vbnlad.LONG at h;omega
 |facts k=>
  ext Xao;split
  ·exact n1 _
  ·rename_i n hn;have mn:n∈YrT:=WaG hn;have nf:=C.ok.nf n mn;have h1:n.facts.length<=24:=by
    have:=Aj C.ok (fH nf.1) λk hk=>by obtain⟨q,hq,rfl⟩:=WaD.mp hk;exact nf.2 q hq
    rwa [Waa]at this
   show(_::List.flatMap YmE n.facts).length<=10000;have:=DH (f:=λx:Nat×Bool=>[(x.1:Int),if x.2=true then 1 else 0]) (n:=2) (l:=n.facts) λ_ _=>Wau _;rw[Was];omega
 |inForce v=>
  ext Xao;split
  ·exact n1 _
  ·split
   ·exact n1 _
   ·exact n1 _
 |status a b=>
  have st1:∀c e(x y:List Nat),x.length<=8->y.length<=8->(VbnladNeutral.shown (.status c e x y)).length<=10000:=λc e x y hx hy=>by ext XdK;omega
  ext Xao
  repeat' split
  all_goals first|exact n1 _|exact st1 _ _ _ _ (WaL _) (WaL _)|skip
  rename_i e r he _;have me:e∈Yec:=vI (v:=b.toNat) (by rw[he];exact Wai ..);have h8:=l8 me;refine st1 _ _ _ _ ?_ ?_
  ·rw[Waa];exact WaF (WaT _ _) h8
  ·rw[Waa];exact WaF (WaT _ _) h8
 |sure a b=>
  ext Xao;split
  ·exact n1 _
  ·split
   ·exact n1 _
   ·exact n1 _
 |settle a b c=>
  ext Xao
  repeat' split
  all_goals first|exact n1 _|skip
  rename_i n l _ _ hu _ p hp;unfold Vbnlad.SETTLEFLAGS at hu;have lp:p.length<=(unknown s n.facts n.day n.rank l).length:=by unfold settling at hp;obtain⟨m,_,hm⟩:=List.exists_of_findSome?_eq_some hp;have hm2:=WaG hm;rw[<-gB]at hm2;obtain⟨x,hx,rfl⟩:=WaD.mp hm2;have:=(iK _ _ x hx).1.length_le;rwa [Waa]at this
  show(_::List.flatMap YmE p).length<=10000;have:=DH (f:=λx:Nat×Bool=>[(x.1:Int),if x.2=true then 1 else 0]) (n:=2) (l:=p) λ_ _=>Wau _;rw[Was];omega
 |compareRules a b=>
  ext Xao
  repeat' split
  all_goals first|exact n1 _|skip
  rename_i h;unfold Vbnlad.RULEFLAGS at h;exact WaF (DI (by show(flagsOf [_,_]).length<=8;omega)) YeP
 |compareEditions a b=>
  ext Xao
  repeat' split
  all_goals first|exact n1 _|skip
  rename_i h;unfold Vbnlad.EDITIONFLAGS at h;exact WaF (DI Yad) YeP
 |core a=>
  ext Xao
  repeat' split
  all_goals first|exact n1 _|skip
  rename_i e he _;have me:e∈Yec:=WaG he;rw[SY,Waa];have h1:=JD (YdL) [];have h2:=l8 me;rw[WbK]at h1;omega
 |list a b=>
  ext Xao
  repeat' split
  all_goals first|exact n1 _|skip
  rw[SY,Waa];have:=WaT (λn=>(statusOf s n b.toNat:Int)==a) s.names;ext Xg9
 |changes a b=>
  ext Xao
  repeat' split
  all_goals first|exact n1 _|skip
  show(_::List.flatMap (λx:Nat×Nat×Nat=>[(x.1:Int),(x.2.1:Int),(x.2.2:Int)]) _).length<=10000;rw[Was];have h3:=DH (f:=λx:Nat×Nat×Nat=>[(x.1:Int),(x.2.1:Int),(x.2.2:Int)]) (n:=3) (l:=s.names.filterMap λn=>if statusOf s n a.toNat=Yty then none else YmB) λ_ _=>Wau _;have h4:=Wbz (λn:Vbnlad.Name=>if statusOf s n a.toNat=Yty then none else YmB) s.names;ext Xg9
end
def len0(h:Yc9=0):l=[]:=Wbg.mp h
def cf(h:Yc9=n+1):∃x r,l=x::r/\YcN=n:=by
 cases l with
 |nil=>cases h
 |cons x r=>exact⟨x,r,rfl,by simpa using h⟩
def Aa:∀{t:List Int},YdS=true->t.map V.int=aE (Ydp)
 |[],_=>rfl
 |z::t,h=>by
  rw[WcR,WaJ]at h;have hz:(0:Int)<=z:=by have:=h.1;unfold VbnladNeutral.natural at this;rw[WaJ,War,War]at this;exact this.1
  have ih:=Aa h.2;show V.int z::t.map V.int=V.int ((z.toNat:Nat):Int)::aE (Ydp);rw[ih,Int.toNat_of_nonneg hz]
def text_len(t:YdR):(Ydp).length=Yby:=Waa ..
def numsOf(i:Nat):Nat:=[1,5,1,0,3,3,3,1,1,2,2,3,2,2,1,2,2].getD i 0
def Ra(i:Nat):Bool:=decide (i=0∨i=1∨i=3∨i=4)
def DR(i:Nat)(xs t:YdR):List (YdR):=(((i:Nat):Int)::xs)::(if Ra i=true then[t]else[])
def Uo(h:PyVbnlad.shape p=some (n,k)):∃i,i<17/\p=((i:Nat):Int)/\n=Yc0/\k=if Ra i=true then 1 else 0:=by
 unfold PyVbnlad.shape at h;by_cases e0:p=0
 ·rw[Wap e0]at h;ext Xae;exact⟨0,YaT,e0,Zap⟩
 rw[Wae e0]at h;by_cases e1:p=1
 ·rw[Wap e1]at h;ext Xae;exact⟨1,YaT,e1,Zap⟩
 rw[Wae e1]at h;by_cases e2:p=2
 ·rw[Wap e2]at h;ext Xae;exact⟨2,YaT,e2,Zap⟩
 rw[Wae e2]at h;by_cases e3:p=3
 ·rw[Wap e3]at h;ext Xae;exact⟨3,YaT,e3,Zap⟩
 rw[Wae e3]at h;by_cases e4:p=4
 ·rw[Wap e4]at h;ext Xae;exact⟨4,YaT,e4,Zap⟩
 rw[Wae e4]at h;by_cases e5:p=5
 ·rw[Wap e5]at h;ext Xae;exact⟨5,YaT,e5,Zap⟩
 rw[Wae e5]at h;by_cases e6:p=6
 ·rw[Wap e6]at h;ext Xae;exact⟨6,YaT,e6,Zap⟩
 rw[Wae e6]at h;by_cases e7:p=7
 ·rw[Wap e7]at h;ext Xae;exact⟨7,YaT,e7,Zap⟩
 rw[Wae e7]at h;by_cases e8:p=8
 ·rw[Wap e8]at h;ext Xae;exact⟨8,YaT,e8,Zap⟩
 rw[Wae e8]at h;by_cases e9:p=9
 ·rw[Wap e9]at h;ext Xae;exact⟨9,YaT,e9,Zap⟩
 rw[Wae e9]at h;by_cases e10:p=10
 ·rw[Wap e10]at h;ext Xae;exact⟨10,YaT,e10,Zap⟩
 rw[Wae e10]at h;by_cases e11:p=11
 ·rw[Wap e11]at h;ext Xae;exact⟨11,YaT,e11,Zap⟩
 rw[Wae e11]at h;by_cases e12:p=12
 ·rw[Wap e12]at h;ext Xae;exact⟨12,YaT,e12,Zap⟩
 rw[Wae e12]at h;by_cases e13:p=13
 ·rw[Wap e13]at h;ext Xae;exact⟨13,YaT,e13,Zap⟩
 rw[Wae e13]at h;by_cases e14:p=14
 ·rw[Wap e14]at h;ext Xae;exact⟨14,YaT,e14,Zap⟩
 rw[Wae e14]at h;by_cases e15:p=15
 ·rw[Wap e15]at h;ext Xae;exact⟨15,YaT,e15,Zap⟩
 rw[Wae e15]at h;by_cases e16:p=16
 ·rw[Wap e16]at h;ext Xae;exact⟨16,YaT,e16,Zap⟩
 rw[Wae e16]at h;cases h
def iz(A:bL):YcT:=Ycc
def VG:YcT:=Ybj
def VF(h:i<17):VG[i]? =some (V.int ((numsOf i:Nat):Int)):=by have:∀j:Fin 17,VG[j.val]? =some (V.int ((numsOf j.val:Nat):Int)):=Ya5;exact this ⟨i,h⟩
def Z9(h:i<17):tE (.int ((i:Nat):Int)) Yhv=Ra i:=by have:∀j:Fin 17,tE (.int ((j.val:Nat):Int)) Yhv=Ra j.val:=Ya5;exact this ⟨i,h⟩
structure NZ (P:Program) (w:World) (K:Yaj) (mg:Str->Yci) (base:Heap) (f:Addr) (sp:Sp):Prop where
 ex:∃k fd ps,k<=10/\a6 P w K mg base cN k f fd ps sp/\YtC=true/\YzK
def NY(K:Yaj)(A:bL)(i:Nat)(sp:Sp):Prop:=∀(G:CG)(s:Vbnlad.State)(na ra:Addr)(xs t:List Int)(c:Vbnlad.Call)(H:Hp)(Q:VK),Ybp=Yc0->aV K H na (xs.map V.int)->aV K H ra (t.map V.int)->YwO=Ycf->VbnladNeutral.asked1 (DR i xs t)=true->YaF->YzI->sp Yfb H Q E0
def Xq(T:Yas):∃f sp,(iz A)[0]? =YbF/\Ya9/\NY K A 0 sp:=by refine⟨A.g9,Zr K A,rfl,⟨ZaZ,IJ T,T.Bo.kp,T.KY⟩,?_⟩;ext Xac;ext Xal;have hc:some (Vbnlad.Call.flag x0 (Ydp))=Ycf:=hc;ext Xan;have ha:(_&&Ypf)=true:=ha;ext Xfm;have h1:=ha.2.1;have h2:=ha.2.2;rw[Aa h1]at hr;exact⟨ZbE,Ydp,rfl,hn,Zb2,k⟩
def Xn(T:Yas):∃f sp,(iz A)[1]? =YbF/\Ya9/\NY K A 1 sp:=by refine⟨A.g6,Zq K A,rfl,⟨ZaZ,IG T,T.Bl.kp,T.KS⟩,?_⟩;ext Xac;ext XbU;have hc:some (Vbnlad.Call.rule x0 x1 x2 x3 x4 (Ydp))=Ycf:=hc;ext Xan;have ha:(_&&(_&&(_&&(_&&(_&&Ypf)))))=true:=ha;ext Xfm;have h1:=ha.2.2.2.2.2.1;have h2:=ha.2.2.2.2.2.2;rw[Aa h1]at hr;exact⟨ZbE,x1,x2,x3,x4,Ydp,rfl,hn,Zb2,k⟩
def Xl(T:Yas):∃f sp,(iz A)[2]? =YbF/\Ya9/\NY K A 2 sp:=by refine⟨A.gY,FJ K A .text,rfl,⟨ZaZ,IE T,T.Bj.kp,T.KQ⟩,?_⟩;ext Xac;ext Xal;have hc:some (Vbnlad.Call.text x0)=Ycf:=hc;ext XbQ
def Xp(T:Yas):∃f sp,(iz A)[3]? =YbF/\Ya9/\NY K A 3 sp:=by refine⟨A.g8,Zt K A,rfl,⟨ZaZ,II T,T.Bn.kp,T.KW⟩,?_⟩;ext Xac;obtain rfl:=len0 lx;have hc:some (Vbnlad.Call.form (Ydp))=Ycf:=hc;ext Xan;have ha:Ypf=true:=ha;ext Xfm;have h1:=ha.1;have h2:=ha.2;rw[Aa h1]at hr;exact⟨G,s,na,ra,Ydp,rfl,Zb2,k.toQ⟩
def PY(T:Yas):∃f sp,(iz A)[4]? =YbF/\Ya9/\NY K A 4 sp:=by refine⟨A.eK,Zs K A,rfl,⟨ZaZ,Dr T,T.vS.kp,T.Fx⟩,?_⟩;ext Xac;ext Xew;have hc:some (Vbnlad.Call.edition x0 x1 x2 t)=Ycf:=hc;ext Xan;have ha:(_&&(_&&(_&&(t.all (λ(z:Int)=>VbnladNeutral.whole32 z)&&decide (Yby<=16)))))=true:=ha;ext Xfm;exact⟨ZbE,x1,x2,ZcH,hn,hr,YaP,C,k⟩
def Xo(T:Yas):∃f sp,(iz A)[5]? =YbF/\Ya9/\NY K A 5 sp:=by refine⟨A.g7,Sv K A .name,rfl,⟨ZaZ,IH T,T.Bm.kp,T.KU⟩,?_⟩;ext Xac;ext Xew;have hc:some (Vbnlad.Call.name x0 x1 x2)=Ycf:=hc;ext Xan;exact⟨ZcN,k⟩
def Vi(T:Yas):∃f sp,(iz A)[6]? =YbF/\Ya9/\NY K A 6 sp:=by refine⟨A.gi,Sv K A .learn,rfl,⟨ZaZ,GG T,T.zZ.kp,T.JQ⟩,?_⟩;ext Xac;ext Xew;have hc:some (Vbnlad.Call.learn x0 x1 x2)=Ycf:=hc;ext Xan;exact⟨ZcN,k⟩
def Vk(T:Yas):∃f sp,(iz A)[7]? =YbF/\Ya9/\NY K A 7 sp:=by refine⟨A.gm,FJ K A .facts,rfl,⟨ZaZ,GI T,T.z4.kp,T.JS⟩,?_⟩;ext Xac;ext Xal;have hc:some (Vbnlad.Call.facts x0)=Ycf:=hc;ext XbQ
def Vj(T:Yas):∃f sp,(iz A)[8]? =YbF/\Ya9/\NY K A 8 sp:=by refine⟨A.gj,FJ K A .inForce,rfl,⟨ZaZ,GH T,T.z3.kp,T.JR⟩,?_⟩;ext Xac;ext Xal;have hc:some (Vbnlad.Call.inForce x0)=Ycf:=hc;ext XbQ
def RW(T:Yas):∃f sp,(iz A)[9]? =YbF/\Ya9/\NY K A 9 sp:=by refine⟨A.fE,xp K A .status,rfl,⟨ZaZ,EO T,T.xS.kp,T.GW⟩,?_⟩;ext Xgw;have hc:some (Vbnlad.Call.status x0 x1)=Ycf:=hc;ext Xfc
def Xm(T:Yas):∃f sp,(iz A)[10]? =YbF/\Ya9/\NY K A 10 sp:=by refine⟨A.gZ,xp K A .sure,rfl,⟨ZaZ,IF T,T.Bk.kp,T.KR⟩,?_⟩;ext Xgw;have hc:some (Vbnlad.Call.sure x0 x1)=Ycf:=hc;ext Xfc
def RX(T:Yas):∃f sp,(iz A)[11]? =YbF/\Ya9/\NY K A 11 sp:=by refine⟨A.fF,Zu K A .settle,rfl,⟨ZaZ,ER T,T.xT.kp,T.GX⟩,?_⟩;ext Xac;ext Xew;have hc:some (Vbnlad.Call.settle x0 x1 x2)=Ycf:=hc;ext Xan;exact⟨ZcN,k.toQ⟩
def PZ(T:Yas):∃f sp,(iz A)[12]? =YbF/\Ya9/\NY K A 12 sp:=by refine⟨A.eO,xp K A .compareRules,rfl,⟨ZaZ,Ds T,T.vT.kp,T.Fy⟩,?_⟩;ext Xgw;have hc:some (Vbnlad.Call.compareRules x0 x1)=Ycf:=hc;ext Xfc
def NI(T:Yas):∃f sp,(iz A)[13]? =YbF/\Ya9/\NY K A 13 sp:=by refine⟨A.di,xp K A .compareEditions,rfl,⟨ZaZ,BP T,T.tS.kp,T.Ed⟩,?_⟩;ext Xgw;have hc:some (Vbnlad.Call.compareEditions x0 x1)=Ycf:=hc;ext Xfc
def Xr(T:Yas):∃f sp,(iz A)[14]? =YbF/\Ya9/\NY K A 14 sp:=by refine⟨A.hG,FJ K A .core,rfl,⟨ZaZ,IK T,T.Bp.kp,T.KZ⟩,?_⟩;ext Xac;ext Xal;have hc:some (Vbnlad.Call.core x0)=Ycf:=hc;ext XbQ
def PX(T:Yas):∃f sp,(iz A)[15]? =YbF/\Ya9/\NY K A 15 sp:=by refine⟨A.eJ,xp K A .list,rfl,⟨ZaZ,Dq T,T.vR.kp,T.Fw⟩,?_⟩;ext Xgw;have hc:some (Vbnlad.Call.list x0 x1)=Ycf:=hc;ext Xfc
def P6(T:Yas):∃f sp,(iz A)[16]? =YbF/\Ya9/\NY K A 16 sp:=by refine⟨A.eP,xp K A .changes,rfl,⟨ZaZ,Dt T,T.vU.kp,T.Fz⟩,?_⟩;ext Xgw;have hc:some (Vbnlad.Call.changes x0 x1)=Ycf:=hc;ext Xfc
def Tj(T:Yas)(h:i<17):∃f sp,(iz A)[i]? =YbF/\Ya9/\NY K A i sp:=by
 match i,h with
 |0,_=>exact Xq T
 |1,_=>exact Xn T
 |2,_=>exact Xl T
 |3,_=>exact Xp T
 |4,_=>exact PY T
 |5,_=>exact Xo T
 |6,_=>exact Vi T
 |7,_=>exact Vk T
 |8,_=>exact Vj T
 |9,_=>exact RW T
 |10,_=>exact Xm T
 |11,_=>exact RX T
 |12,_=>exact PZ T
 |13,_=>exact NI T
 |14,_=>exact Xr T
 |15,_=>exact PX T
 |16,_=>exact P6 T
 |n+17,h=>omega
def VE(c:List (YdR)):PyVbnlad.whole c=c:=by unfold PyVbnlad.whole;split<;>rfl
theorem PV(l:YdR):PyVbnlad.calls l=YeM:=by
 unfold PyVbnlad.calls;cases h:YeM with
 |none=>rfl
 |some cs=>show some (cs.map PyVbnlad.whole)=some cs;congr 1;have:PyVbnlad.whole=id:=funext VE;rw[this,List.map_id]
def Xk(h:Ykz=some (c,t)):
  ∃i,i<17/\p=((i:Nat):Int)/\Yc0<=YcN/\((Ra i=false/\c=DR i (YsU) []/\t=YyQ)∨
   (Ra i=true/\∃(n:Int)(r2:List Int),YyQ=n::r2/\0<=n/\n.toNat<=YBQ/\c=DR i (YsU) (r2.take n.toNat)/\t=r2.drop n.toNat)):=by
 rw[PyFlat.call]at h;cases hs:PyVbnlad.shape p with
 |none=>rw[hs]at h;cases h
 |some nk=>
  obtain⟨n,k⟩:=nk;rw[hs]at h;dsimp only at h;obtain⟨i,h17,rfl,rfl,rfl⟩:=Uo hs;split at h
  ·cases h
  ·rename_i hlen;refine⟨i,h17,rfl,YaP,?_⟩;cases hq:Ra i with
   |false=>rw[hq]at h;have h2:some ((((i:Nat):Int)::YsU)::[],YyQ)=some (c,t):=h;injection h2 with h2;injection h2 with h3 h4;refine .inl ⟨Zag,h4.symm⟩;unfold DR;rw[hq,<-h3];rfl
   |true=>
    rw[hq]at h;refine .inr ⟨Zag⟩;cases hd:YyQ with
    |nil=>ext XdF
    |cons n r2=>
     rw[hd,Wap rfl]at h;simp only[PyFlat.rows,PyFlat.row]at h;by_cases hn:0<=n/\n.toNat<=YBQ
     ·rw[Wap hn]at h;dsimp only at h;injection h with h2;injection h2 with h3 h4;refine⟨n,r2,rfl,hn.1,hn.2,?_,h4.symm⟩;unfold DR;rw[hq,<-h3];rfl
     ·rw[Wae hn]at h;cases h
def call_of(h:i<17)(lx:Ybp=Yc0):∃c,YwO=Ycf:=by
 match i,h with
 |0,_=>ext Xgv
 |1,_=>ext XbU;exact YeS
 |2,_=>ext Xgv
 |3,_=>obtain rfl:=len0 lx;exact YeS
 |4,_=>ext Xew;exact YeS
 |5,_=>ext Xew;exact YeS
 |6,_=>ext Xew;exact YeS
 |7,_=>ext Xgv
 |8,_=>ext Xgv
 |9,_=>ext Xfb
 |10,_=>ext Xfb
 |11,_=>ext Xew;exact YeS
 |12,_=>ext Xfb
 |13,_=>ext Xfb
 |14,_=>ext Xgv
 |15,_=>ext Xfb
 |16,_=>ext Xfb
 |n+17,h=>omega
def aG.jh(C:YaF)(hR:H R=some (.jh od Ytm))(o:HO):aG K A (upd H R o) G s:=by
 have f:∀{b:Addr}{v:HO},v≠ .jh od Ytm->H b=YcV->upd H R o b=YcV:=λ{b v} n e=>ai (bS e hR n) e;have fq:∀{b:Addr}{ys:List V},eA K H b ys->eA K (upd H R o) b ys:=λ{b ys} h=>by
  ext Xf6
  ·exact .inl (.inl (f Yaq h))
  ·exact .inl (.inr ⟨q,f Yaq h⟩)
  ·exact Yku
 refine⟨f Yaq C.obj,f Yaq C.Jd,f Yaq C.Em,f Yaq C.GN,f Yaq C.F6,f Yaq C.CI,Zcf,C.pn,YcB,YcB,YcB,Zba,C.ok,f Yaq C.tab⟩
 ·obtain⟨dx,sl,kl,c,h1,⟨ss,h2,h2'⟩,h3,h4⟩:=Yxe;exact⟨dx,sl,kl,c,f Yaq h1,⟨ss,f Yaq h2,Paired.gE h2' λ_ _ q=>f Yaq q⟩,f Yaq h3,h4⟩
 ·obtain⟨dx,kl,ks,h1,h2,h3⟩:=C.ae p hp;exact⟨dx,kl,ks,f Yaq h1,f Yaq h2,h3⟩
 ·have N:=YgM;obtain⟨fs,f1,f2⟩:=N.Vy;obtain⟨pl,l1,l2,l3⟩:=N.UA;refine⟨f Yaq N.obj,⟨fs,f Yaq f1,f2⟩,pl,f Yaq l1,l2,λq hq=>⟨(l3 q hq).1,?_⟩⟩;obtain⟨a,e,h⟩:=(l3 q hq).2;exact⟨a,e,fq h⟩
theorem vY:upd (upd H R a) R b=upd H R b:=by
 funext x;by_cases h:x=R
 ·subst h;rw[ab,ab]
 ·rw[aA h,aA h,aA h]
def KpR(A:bL)(R:Addr)(H H':Hp):Prop:=∀b u,b≠R->(∀q,u≠ .dK q)->YxA->H b=YaY->H' b=YaY
def KpR.sql(k:KpR A R H H')(n:H R=none)(h:aV K H b xs):aV K H' b xs:=by
 ext Xb8
 ·exact .inl (.inl (YDS))
 ·exact .inl (.inr ⟨o,YDS⟩)
 ·exact Yku
def Lu(s:Ya1):aN (upd H R o) (upd H' R o):=λb u e=>by
 by_cases h:b=R
 ·subst h;rw[ab]at e ⊢;exact e
 ·rw[aA h]at e ⊢;exact s _ _ e
def Vh(h:PyFlat.calls PyVbnlad.shape f YAk=some cs):∃f' c t cs',Ykz=some (c,t)/\PyFlat.calls PyVbnlad.shape f' t=some cs'/\cs=c::cs':=by
 cases f with
 |zero=>ext Xgz;cases h
 |succ f=>
  ext Xgz;cases hc:Ykz with
  |none=>rw[hc]at h;cases h
  |some ct=>
   obtain⟨c,t⟩:=ct;rw[hc]at h;dsimp only at h;cases hr:PyFlat.calls PyVbnlad.shape f t with
   |none=>rw[hr]at h;cases h
   |some cs'=>rw[hr]at h;ext Xcj;exact⟨f,c,t,cs',rfl,hr,h.symm⟩
def Vg(h:PyFlat.calls PyVbnlad.shape f []=some cs):cs=[]:=by
 cases f with
 |zero=>ext Xgz;ext Xcj;exact h.symm
 |succ f=>ext Xgz;ext Xcj;exact h.symm
def Bw(K:Yaj)(tb:Addr):Sp:=λvs H Q _=>∃a l,vs=Yvz/\H tb=YCz/\aV K H a (Yj3)/\PyVbnlad.answers_asked l=true/\∀p H',H' tb=YCz->H' p=some (.lst ((YoH).map V.int))->Ycd
theorem Rn(T:Yas):a6 P w K mg base cN 11 A.Ff A.Fl Yw8 (Bw K A.tb):=by
 refine T.Vu.ok HP Ycp Yab;obtain⟨a,l,rfl,htb,hl,hask,k⟩:=h;have nd:=HP.nd;obtain⟨cs0,hcs0,hl400,hasks0⟩:∃cs,YeM=some cs/\cs.length<=400/\∀c∈cs,VbnladNeutral.asked1 c=true:=by
  unfold PyVbnlad.answers_asked at hask;rw[PV]at hask;cases h:YeM with
  |none=>rw[h]at hask;cases hask
  |some cs=>rw[h]at hask;dsimp only at hask;rw[Bool.and_eq_true]at hask;have h2:=hask.2;unfold VbnladNeutral.asked at h2;rw[Bool.and_eq_true,List.all_eq_true]at h2;have h1:=hask.1;unfold PyFlat.atMost at h1;exact⟨cs,rfl,of_decide_eq_true h1,h2.1⟩
 have hans0:YoH=PyFlat.told (PyFlat.played VbnladNeutral.step VbnladNeutral.start cs0):=by unfold PyVbnlad.answers;rw[PV,hcs0]
 refine⟨_,(af (aF (i:=1) nd rfl Yaf (Wn T.YS (Nb T) Yac rfl T.aap T.Qj .nil aD))
   (af Yow
   (af YC2
   (af (jK PassesOwn.never (aC lF Yba (aT a8 rfl T.cP bR Yq0) Ybo) (af (aF (i:=4) nd rfl Yaf (aU a5 Yau Yba Yal))
   (af (aF (i:=5) nd rfl Yaf (a7 mO (a7 mO Yba aq) (aU bQ (cy rfl T.GO) Ycg Yal)))
   (af (aF (i:=6) nd rfl Yaf (yH Ha Yau (qi (a7 mO Yba aq)) (qi Yda)))
   (af (aF (i:=7) nd rfl Yaf YgO)
   (af (aM (aC fB Ycg (cy rfl T.RI) YaO) (af (aF (i:=7) nd rfl Yaf (yH Ha Yau (qi (a7 mO Yda aq)) (qi (a7 mO (a7 mO Yda aq) (aU a5 Yau Yda Yal)))))
   (aj (Il (i:=5) nd rfl Yaf (a7 mO aq (aT a8 rfl T.cP bR YhL)) gI))) az)
   (af (aF (i:=8) nd rfl Yaf (aU bQ (cy rfl T.Y0) Ycg Yal))
   (af (Ae (aF (i:=9) nd rfl Yaf (Wq (i:=8) rfl Yaf aD (aa YaG (aa YeJ YhL)))))
   (af (bp (fI PySem.F.plainAttrs_list PySem.F.slot_list_append PySem.F.type_list_append bF YaS (aa (aT a8 rfl T.cP bR Yuk) ah)))
   (af (bp (fI PySem.F.plainAttrs_list PySem.F.slot_list_extend PySem.F.type_list_extend vy YaS Yuk))
   (aj (aF (i:=3) nd rfl Yaf Yda))))))))))))
   (Yva))))),?_⟩
 refine λx dx nx ndx nex=>⟨x,dx,ZcG,λG0 H1 eG0 C0 fr=>⟨Zag⟩⟩;subst eG0;have s1:Yy9:=λb o e=>fr b o Yms (YlZ);have C0:=C0 (s1 _ _ htb);refine⟨Ybv,λR hR=>?_⟩;have nR0:H R=none:=same_none s1 hR
 refine⟨λm σ H'=>∃(G:CG)(s:Vbnlad.State)(ix:Nat)(res:List Int)(cs:List (List (List Int)))(f:Nat)(o4 o5 o6 o7 o8 o9:Option V),m=Yc9-ix/\σ=[Yfd,YgA,some (.ref R),some (.int ((ix:Nat):Int)),o4,o5,o6,o7,o8,o9]/\KpR A R H H'/\(∀o,aG K A (upd H' R o) G s)/\H' R=some Yek/\ix<=Yc9/\PyFlat.calls PyVbnlad.shape f (l.drop ix)=some cs/\(∀c∈cs,VbnladNeutral.asked1 c=true)/\YoH=res++PyFlat.told (PyFlat.played VbnladNeutral.step s cs)/\res.length+10001*cs.length<=10001*400,
  ⟨_,G0,Vbnlad.start,0,[],cs0,Yc9,Za5,none,ZaI,λb u n1 _ _ e=>ai n1 (s1 _ _ e),λo=>by rw[vY];exact C0.same (ak Ydd hR),ab,Ybv,hcs0,hasks0,hans0,?_⟩,?_⟩
 ·show 0+_<=_;omega
 rintro m σ H' ⟨G,s,ix,res,cs,f0,o4,o5,o6,o7,o8,o9,rfl,rfl,kp,hC,hR',ixl,hcs,hasks,hans,hlen⟩;have ha:aV K H' a (Yj3):=kp.sql nR0 hl;refine⟨ZaE,a,Zaa,.inl ha,Zb1⟩
 ·have e1:((ix:Nat):Int)<((Yj3).length:Nat):=YaQ;rw[List.length_map]at e1;have ilt:ix<Yc9:=Yad;have hdr:l.drop ix=l[ix]::l.drop (ix+1):=List.drop_eq_getElem_cons ilt;have hp:l[ix]? =some l[ix]:=List.getElem?_eq_getElem ilt;rw[hdr]at hcs;obtain⟨f,c,t0,cs',hcall,hcs',rfl⟩:=Vh hcs;generalize l[ix]=pp at hcs hp hcall;have hrl:(l.drop (ix+1)).length=Yc9-(ix+1):=List.length_drop ..;generalize hrr:l.drop (ix+1)=r at hcs hcall hrl hdr;obtain⟨i,hi17,rfl,hnl,hcase⟩:=Xk hcall;have hask:=hasks c YfH;refine YyN;have hat:(Yj3)[ix]? =some (YfZ):=by rw[List.getElem?_map,hp];rfl
  refine⟨ZaE,a,Zbv,ha,at_of rfl hat,?_⟩;refine⟨Zbg,A.oy,Zbv,T.GC _,at_of rfl (VF hi17),ZaM⟩;dsimp only;have e5:((ix:Nat):Int)+1+((numsOf i:Nat):Int)=((ix+1+numsOf i:Nat):Int):=Yad;have e4:((ix:Nat):Int)+1=((ix+1:Nat):Int):=Yad;rw[e5];have n5:Yc0<=5:=by have:∀j:Fin 17,numsOf j.val<=5:=YeP;exact this ⟨i,hi17⟩
  refine⟨ZaE,ZaD,Zbl,a,Zaa,ha,λna CI=>?_⟩;have ecut:GR (Yj3) (some (((ix:Nat):Int)+1)) (some ((ix+1+numsOf i:Nat):Int))=(YsU).map V.int:=by rw[e4,Nz YaI YaI,<-Ywx,hrr,<-List.map_take];congr 2;omega
  rw[ecut];have lxs:(YsU).length=Yc0:=by rw[List.length_take];omega
  generalize hxs:r.take (numsOf i)=xs at lxs hcase;have s3:=ak (o:=Ynu) YjA CI;have hna3:=ab (H:=H') (a:=na) (o:=Ynu);have nna:na≠R:=Ne.symm (ao hR' CI);generalize upd H' na (.lst (xs.map V.int))=H3 at s3 hna3;refine⟨Ybv,λr0 hr0=>?_⟩;have s4:=ak (o:=Ycx) s3 hr0;have hna4:upd H3 r0 YEo na=some (Ynu):=bM hr0 hna3;have hr04:=ab (H:=H3) (a:=r0) (o:=Ycx);have nr0:r0≠R:=Ne.symm (ao (s3 _ _ hR') hr0);generalize upd H3 r0 (.lst [])=H4 at s4 hna4 hr04;have ha4:aV K H4 a (Yj3):=s4.seq ha;refine⟨Zaa,A.Bu,Zaa,.inr (T.Rh _),Zc1⟩;rw[if_neg YeP,Z9 hi17];rcases hcase with⟨hq,rfl,rfl⟩|⟨hq,cn,r2,hd2,hc0,hc1,rfl,rfl⟩
  ·rw[hq,if_neg YeP];refine bx (ba ?_);ext XbZ;refine YqK;refine⟨R,_,s4 _ _ hR',YgB,λod=>?_⟩;refine YnW;have C5:aG K A (upd H4 R (.jh od Yek)) G s:=(hC _).same (Lu s4);obtain⟨vc,hvc⟩:=call_of (t:=([]:YdR)) hi17 lxs;refine hU G s na r0 xs ([]:YdR) vc _ _ lxs (aV.of (ai nna hna4)) (aV.of (ai nr0 hr04)) hvc hask C5 ?_;ext XcG;have npR:p≠R:=λq=>by rw[q,hR6]at hp;cases hp
   ext Xc4;have qe:VbnladNeutral.step s (DR i xs ([]:YdR))=(s',Ybb):=by ext XfD
   refine⟨Zaa,Yc9-(ix+1+Yc0),YaP,G',s',(ix+1+Yc0),ZbV,λb u n1 n2 n3 e=>ai n1 (kp6 b u n2 n3 (ai n1 (s4 _ _ (kp b u n1 n2 n3 e)))),Zcv,by rw[(show l.drop (ix+1+Yc0)=r.drop (Yc0)by rw[<-hrr,List.drop_drop])];exact hcs',Yqc,ZbG⟩
   ·ext Xg6
   ·ext XbK
   ·ext XdG
  ·rw[hq,if_pos rfl];have d1:l.drop (ix+1+Yc0)=cn::r2:=(by rw[<-hd2,<-hrr,List.drop_drop]);have d2:l.drop (ix+1+Yc0+1)=r2:=by have:=congrArg (List.drop 1) d1;rw[List.drop_drop]at this;exact this
   have l2:YBQ=Yc9-(ix+1+Yc0+1):=(by rw[<-d2,List.length_drop]);have enl:ix+1+Yc0<Yc9:=by refine Nat.lt_of_not_le λq=>?_;rw[List.drop_eq_nil_of_le q]at d1;cases d1
   have hcn:(Yj3)[ix+1+Yc0]? =some (V.int cn):=by
    rw[List.getElem?_map];have:l[ix+1+Yc0]? =some cn:=by have:=List.getElem?_drop (xs:=l) (i:=ix+1+Yc0) (j:=0);rw[d1]at this;exact this.symm
    rw[this];rfl
   refine⟨ZaE,ZaD,ZaE,ZaD,ZaE,a,Zbv,ha4,at_of rfl hcn,ZbS,a,Zaa,ha4,λra hra=>?_⟩;have ecut2:GR (Yj3) (some (((ix+1+numsOf i:Nat):Int)+1)) (some (((ix+1+numsOf i:Nat):Int)+1+cn))=(r2.take cn.toNat).map V.int:=by rw[show(((ix+1+numsOf i:Nat):Int)+1+cn)=((ix+1+Yc0+1+cn.toNat:Nat):Int)by omega,show(((ix+1+numsOf i:Nat):Int)+1)=((ix+1+Yc0+1:Nat):Int)by omega,Nz YaI YaI,<-Ywx,d2,<-List.map_take];congr 2;omega
   dsimp only;rw[ecut2];have lt2:(r2.take cn.toNat).length=cn.toNat:=YxC;have dr3:l.drop Yqt=r2.drop cn.toNat:=by rw[<-d2,List.drop_drop];congr 1;omega
   generalize r2.take cn.toNat=tt at lt2 hask hans hasks;have s5:=ak (o:=YuS) s4 hra;have hna5:upd H4 ra (YuS) na=some (Ynu):=bM hra hna4;have hra5:=ab (H:=H4) (a:=ra) (o:=YuS);have nra:ra≠R:=Ne.symm (ao (s4 _ _ hR') hra);generalize upd H4 ra (.lst (tt.map V.int))=H5 at s5 hna5 hra5;refine⟨ZaE,ra,Zaa,.inl (aV.of hra5),ZaD,ZaM⟩;dsimp only;rw[List.length_map,lt2,show((ix+1+numsOf i:Nat):Int)+(1+((cn.toNat:Nat):Int))=((ix+1+Yc0+(1+cn.toNat):Nat):Int)by omega];ext XbZ;refine YqK;refine⟨R,_,s5 _ _ hR',YgB,λod=>?_⟩;refine YnW;have C5:aG K A (upd H5 R (.jh od Yek)) G s:=(hC _).same (Lu s5);obtain⟨vc,hvc⟩:=call_of (t:=tt) hi17 lxs;refine hU G s na ra xs tt vc _ _ lxs (aV.of (ai nna hna5)) (aV.of (ai nra hra5)) hvc hask C5 ?_;ext XcG;have npR:p≠R:=λq=>by rw[q,hR6]at hp;cases hp
   ext Xc4;have qe:VbnladNeutral.step s (DR i xs tt)=(s',Ybb):=by ext XfD
   refine⟨Zaa,Yc9-Yqt,YaP,G',s',Yqt,ZbV,λb u n1 n2 n3 e=>ai n1 (kp6 b u n2 n3 (ai n1 (s5 _ _ (kp b u n1 n2 n3 e)))),Zcv,by rw[dr3];exact hcs',Yqc,ZbG⟩
   ·ext Xg6
   ·ext XbK
   ·ext XdG
 ·have e1:¬((ix:Nat):Int)<((Yj3).length:Nat):=YaH;rw[List.length_map]at e1;rw[List.drop_eq_nil_of_le Yad]at hcs;have:=Vg hcs;subst this;rw[PyFlat.played]at hans;have hans:YoH=res:=by rw[hans];exact List.append_nil _
  have ht:H' A.tb=YCz:=by
   have h:=(hC YEo).tab;by_cases q:A.tb=R
   ·rw[q,ab]at h;cases h
   ·rw[aA q]at h;exact h
  exact⟨Zaa,k R H' ht (by rw[hans];exact hR')⟩
def aaB{P:Program}{w:World}{K:Yaj}{mg:Str->Yci}{h:Heap}{fa:Addr}(KX:Yx4)(hmg:mg "answers"=some (.ref fa)){c0 c1 c2 c3 c4 c5 c6 c7 c8 c9 c10 c11 f0 f1 f2 f3 f4 f5 f6 f7 f8 f9 f10 f11 f12 f13 f14 f15 f16 f17 f18 f19 f20 f21 f22 f23 f24 f25 f26 f27 f28 f29 f30 f31 f32 f33 f34 f35 f36 f37 f38 f39 f40 f41 f42 f43 f44 f45 f46 f47 f48 f49 f50 f51 f52 f53 f54 f55 f56 f57 f58 f59 f60 f61 f62 f63 f64 f65 f66 f67 f68 f69 f70 f71 f72 f73 f74 f75 f76 f77 f78 f79 f80 f81 f82 f83 f84 f85 f86 f87 f88 f89 f90 f91 f92 f93 f94 f95 f96 f97 f98 f99 f100 f101 f102 f103 f104 f105 t0 t1 t2 t3 t4:Addr}{d0 d1 d2 d3 d4 d5 d6 d7 d8 d9 d10 d11 d12 d13 d14 d15 d16 d17 d18 d19 d20 d21 d22 d23 d24 d25 d26 d27 d28 d29 d30 d31 d32 d33 d34 d35 d36 d37 d38 d39 d40 d41 d42 d43 d44 d45 d46 d47 d48 d49 d50 d51 d52 d53 d54 d55 d56 d57 d58 d59 d60 d61 d62 d63 d64 d65 d66 d67 d68 d69 d70 d71 d72 d73 d74 d75 d76 d77 d78 d79 d80 d81 d82 d83 d84 d85 d86 d87 d88 d89 d90 d91 d92 d93 d94 d95 d96 d97 d98 d99 d100 d101 d102 d103 d104 d105:FuncData}
(h0:mg "Spread"=some (.ref c0))(h1:x5 K c0)(h2:Mk K c0 f5)(h3:aL K c0 "ways")(h4:aL K c0 "full")(h5:aL K c0 "bits")(h6:mg "Ways"=some (.ref c1))(h7:x5 K c1)(h8:Mk K c1 f7)(h9:aL K c1 "full")(h10:aL K c1 "rank_bits")(h11:aL K c1 "flag_values")(h12:mg "Situations"=some (.ref c2))(h13:x5 K c2)(h14:Mk K c2 f29)(h15:aL K c2 "flag_keys")(h16:aL K c2 "days")(h17:aL K c2 "spread")(h18:aL K c2 "ways")(h19:mg "Token"=some (.ref c3))(h20:x5 K c3)(h21:Mk K c3 f38)(h22:aL K c3 "place")(h23:aL K c3 "signs")(h24:mg "Reader"=some (.ref c4))(h25:x5 K c4)(h26:Mk K c4 f43)(h27:aL K c4 "tokens")(h28:aL K c4 "at")(h29:aL K c4 "steps")(h30:aL K c4 "pending")(h31:aL K c4 "nesting")(h32:mg "Part"=some (.ref c5))(h33:x5 K c5)(h34:Mk K c5 f56)(h35:aL K c5 "kind")(h36:aL K c5 "signs")(h37:mg "Reading"=some (.ref c6))(h38:x5 K c6)(h39:Mk K c6 f61)(h40:aL K c6 "refusal")(h41:aL K c6 "steps")(h42:aL K c6 "signs")(h43:mg "Rule"=some (.ref c7))(h44:x5 K c7)(h45:Mk K c7 f64)(h46:aL K c7 "first")(h47:aL K c7 "last")(h48:aL K c7 "lowest")(h49:aL K c7 "highest")(h50:aL K c7 "steps")(h51:aL K c7 "flag_keys")(h52:mg "Edition"=some (.ref c8))(h53:x5 K c8)(h54:Mk K c8 f65)(h55:aL K c8 "key")(h56:aL K c8 "day")(h57:aL K c8 "keeps")(h58:aL K c8 "rule_keys")(h59:mg "Name"=some (.ref c9))(h60:x5 K c9)(h61:Mk K c9 f66)(h62:aL K c9 "day")(h63:aL K c9 "rank")(h64:aL K c9 "facts")(h65:aL K c9 "passings")(h66:mg "Code"=some (.ref c10))(h67:x5 K c10)(h68:Mk K c10 f67)(h69:aL K c10 "flag_texts")(h70:aL K c10 "flag_keys")(h71:aL K c10 "rules")(h72:aL K c10 "editions")(h73:aL K c10 "names")(h74:mg "Supposal"=some (.ref c11))(h75:x5 K c11)(h76:Mk K c11 f84)(h77:aL K c11 "pairs")(h78:aL K c11 "left")(h79:aL K c11 "later_keys")(h80:mg "is_key"=some (.ref f0))(h81:bf K "is_key" "is_key" Ia f0 d0)(h82:mg "is_day"=some (.ref f1))(h83:bf K "is_day" "is_day" Ib f1 d1)(h84:mg "is_rank"=some (.ref f2))(h85:bf K "is_rank" "is_rank" EF f2 d2)(h86:Ysk=some (.ref f3))(h87:bf K "editions_in_play" "editions_in_play" j5 f3 d3)(h88:mg "editions_looked_at"=some (.ref f4))(h89:bf K "editions_looked_at" "editions_looked_at" iH f4 d4)(h90:bf K "__init__" "Spread.__init__" uj f5 d5)(h91:Meth K c0 "double" f6)(h92:bf K "double" "Spread.double" oK f6 d6)(h93:bf K "__init__" "Ways.__init__" yr f7 d7)(h94:mg "both"=some (.ref f8))(h95:bf K "both" "both" Q7 f8 d8)(h96:mg "either"=some (.ref f9))(h97:bf K "either" "either" Ic f9 d9)(h98:mg "bits_of_ranks"=some (.ref f10))(h99:bf K "bits_of_ranks" "bits_of_ranks" oG f10 d10)(h100:mg "holds_on"=some (.ref f11))(h101:bf K "holds_on" "holds_on" BB f11 d11)(h102:mg "plain_value"=some (.ref f12))(h103:bf K "plain_value" "plain_value" tX f12 d12)(h104:mg "condition_value"=some (.ref f13))(h105:bf K "condition_value" "condition_value" lh f13 d13)(h106:mg "rule_value"=some (.ref f14))(h107:bf K "rule_value" "rule_value" wb f14 d14)(h108:mg "passing_value"=some (.ref f15))(h109:bf K "passing_value" "passing_value" oF f15 d15)(h110:mg "ways_of_name"=some (.ref f16))(h111:bf K "ways_of_name" "ways_of_name" qT f16 d16)(h112:mg "rules_of"=some (.ref f17))(h113:bf K "rules_of" "rules_of" BA f17 d17)(h114:mg "verdict"=some (.ref f18))(h115:bf K "verdict" "verdict" ED f18 d18)(h116:mg "passing_of_name"=some (.ref f19))(h117:bf K "passing_of_name" "passing_of_name" k8 f19 d19)(h118:mg "status_of"=some (.ref f20))(h119:bf K "status_of" "status_of" yp f20 d20)(h120:mg "rules_by_verdict"=some (.ref f21))(h121:bf K "rules_by_verdict" "rules_by_verdict" jZ f21 d21)(h122:mg "status_answer"=some (.ref f22))(h123:bf K "status_answer" "status_answer" oC f22 d22)(h124:mg "statuses_on"=some (.ref f23))(h125:bf K "statuses_on" "statuses_on" tW f23 d23)(h126:mg "list_answer"=some (.ref f24))(h127:bf K "list_answer" "list_answer" tZ f24 d24)(h128:mg "changes_answer"=some (.ref f25))(h129:bf K "changes_answer" "changes_answer" mD f25 d25)(h130:mg "flags_of"=some (.ref f26))(h131:bf K "flags_of" "flags_of" BC f26 d26)(h132:mg "turning_days"=some (.ref f27))(h133:bf K "turning_days" "turning_days" qU f27 d27)(h134:mg "days_of"=some (.ref f28))(h135:bf K "days_of" "days_of" EG f28 d28)(h136:bf K "__init__" "Situations.__init__" lz f29 d29)(h137:Meth K c2 "allowed_by_rule" f30)(h138:bf K "allowed_by_rule" "Situations.allowed_by_rule" dt f30 d30)(h139:Meth K c2 "allowed_by_all" f31)(h140:bf K "allowed_by_all" "Situations.allowed_by_all" dI f31 d31)(h141:Meth K c2 "first_beyond" f32)(h142:bf K "first_beyond" "Situations.first_beyond" fb f32 d32)(h143:Meth K c2 "rank_and_flags" f33)(h144:bf K "rank_and_flags" "Situations.rank_and_flags" dH f33 d33)(h145:mg "comparison"=some (.ref f34))(h146:bf K "comparison" "comparison" wg f34 d34)(h147:mg "compare_answer"=some (.ref f35))(h148:bf K "compare_answer" "compare_answer" mC f35 d35)(h149:mg "editions_answer"=some (.ref f36))(h150:bf K "editions_answer" "editions_answer" lg f36 d36)(h151:mg "core_answer"=some (.ref f37))(h152:bf K "core_answer" "core_answer" ua f37 d37)(h153:bf K "__init__" "Token.__init__" wj f38 d38)(h154:mg "token_end"=some (.ref f39))(h155:bf K "token_end" "token_end" yo f39 d39)(h156:mg "tokens_of"=some (.ref f40))(h157:bf K "tokens_of" "tokens_of" yn f40 d40)(h158:mg "is_flag_word"=some (.ref f41))(h159:bf K "is_flag_word" "is_flag_word" qX f41 d41)(h160:mg "worth_of"=some (.ref f42))(h161:bf K "worth_of" "worth_of" By f42 d42)(h162:bf K "__init__" "Reader.__init__" um f43 d43)(h163:Meth K c4 "sees" f44)(h164:bf K "sees" "Reader.sees" uk f44 d44)(h165:Meth K c4 "stop_place" f45)(h166:bf K "stop_place" "Reader.stop_place" js f45 d45)(h167:Meth K c4 "read_condition" f46)(h168:bf K "read_condition" "Reader.read_condition" gc f46 d46)(h169:Meth K c4 "read_unit" f47)(h170:bf K "read_unit" "Reader.read_unit" j9 f47 d47)(h171:Meth K c4 "read_plain_unit" f48)(h172:bf K "read_plain_unit" "Reader.read_plain_unit" fQ f48 d48)(h173:Meth K c4 "read_day" f49)(h174:bf K "read_day" "Reader.read_day" lA f49 d49)(h175:Meth K c4 "read_ranks" f50)(h176:bf K "read_ranks" "Reader.read_ranks" jt f50 d50)(h177:Meth K c4 "read_number" f51)(h178:bf K "read_number" "Reader.read_number" iI f51 d51)(h179:Meth K c4 "read_joint" f52)(h180:bf K "read_joint" "Reader.read_joint" ju f52 d52)(h181:Meth K c4 "close_joints" f53)(h182:bf K "close_joints" "Reader.close_joints" ib f53 d53)(h183:Meth K c4 "close_nots" f54)(h184:bf K "close_nots" "Reader.close_nots" jv f54 d54)(h185:Meth K c4 "close_bracket" f55)(h186:bf K "close_bracket" "Reader.close_bracket" gA f55 d55)(h187:bf K "__init__" "Part.__init__" yu f56 d56)(h188:mg "signs_within"=some (.ref f57))(h189:bf K "signs_within" "signs_within" qV f57 d57)(h190:mg "plain_signs"=some (.ref f58))(h191:bf K "plain_signs" "plain_signs" tY f58 d58)(h192:mg "joined_signs"=some (.ref f59))(h193:bf K "joined_signs" "joined_signs" qW f59 d59)(h194:mg "written_signs"=some (.ref f60))(h195:bf K "written_signs" "written_signs" oA f60 d60)(h196:bf K "__init__" "Reading.__init__" rh f61 d61)(h197:mg "unknown_flag_place"=some (.ref f62))(h198:bf K "unknown_flag_place" "unknown_flag_place" iF f62 d62)(h199:mg "reading_of"=some (.ref f63))(h200:bf K "reading_of" "reading_of" wc f63 d63)(h201:bf K "__init__" "Rule.__init__" yt f64 d64)(h202:bf K "__init__" "Edition.__init__" rj f65 d65)(h203:bf K "__init__" "Name.__init__" yx f66 d66)(h204:bf K "__init__" "Code.__init__" yy f67 d67)(h205:mg "add_flag"=some (.ref f68))(h206:bf K "add_flag" "add_flag" BF f68 d68)(h207:mg "bounds_refusal"=some (.ref f69))(h208:bf K "bounds_refusal" "bounds_refusal" mE f69 d69)(h209:mg "add_rule"=some (.ref f70))(h210:bf K "add_rule" "add_rule" BD f70 d70)(h211:mg "has_edition_of_day"=some (.ref f71))(h212:bf K "has_edition_of_day" "has_edition_of_day" iG f71 d71)(h213:mg "rule_keys_refusal"=some (.ref f72))(h214:bf K "rule_keys_refusal" "rule_keys_refusal" jr f72 d72)(h215:mg "add_edition"=some (.ref f73))(h216:bf K "add_edition" "add_edition" ui f73 d73)(h217:mg "add_name"=some (.ref f74))(h218:bf K "add_name" "add_name" BE f74 d74)(h219:mg "learn_fact"=some (.ref f75))(h220:bf K "learn_fact" "learn_fact" we f75 d75)(h221:mg "sign_of"=some (.ref f76))(h222:bf K "sign_of" "sign_of" EE f76 d76)(h223:mg "signs_of"=some (.ref f77))(h224:bf K "signs_of" "signs_of" Bz f77 d77)(h225:mg "row_of"=some (.ref f78))(h226:bf K "row_of" "row_of" HZ f78 d78)(h227:mg "question_refusal"=some (.ref f79))(h228:bf K "question_refusal" "question_refusal" j0 f79 d79)(h229:mg "speaks_of"=some (.ref f80))(h230:bf K "speaks_of" "speaks_of" yq f80 d80)(h231:mg "unknown_flags"=some (.ref f81))(h232:bf K "unknown_flags" "unknown_flags" oB f81 d81)(h233:mg "available_bits"=some (.ref f82))(h234:bf K "available_bits" "available_bits" mF f82 d82)(h235:mg "sure_answer"=some (.ref f83))(h236:bf K "sure_answer" "sure_answer" tV f83 d83)(h237:bf K "__init__" "Supposal.__init__" oJ f84 d84)(h238:mg "longer_supposals"=some (.ref f85))(h239:bf K "longer_supposals" "longer_supposals" j4 f85 d85)(h240:mg "settling_answer"=some (.ref f86))(h241:bf K "settling_answer" "settling_answer" k7 f86 d86)(h242:mg "settle_answer"=some (.ref f87))(h243:bf K "settle_answer" "settle_answer" oE f87 d87)(h244:mg "answer_flag"=some (.ref f88))(h245:bf K "answer_flag" "answer_flag" ug f88 d88)(h246:mg "answer_rule"=some (.ref f89))(h247:bf K "answer_rule" "answer_rule" ud f89 d89)(h248:mg "answer_text"=some (.ref f90))(h249:bf K "answer_text" "answer_text" ub f90 d90)(h250:mg "answer_form"=some (.ref f91))(h251:bf K "answer_form" "answer_form" uf f91 d91)(h252:mg "answer_edition"=some (.ref f92))(h253:bf K "answer_edition" "answer_edition" mH f92 d92)(h254:mg "answer_name"=some (.ref f93))(h255:bf K "answer_name" "answer_name" ue f93 d93)(h256:mg "answer_learn"=some (.ref f94))(h257:bf K "answer_learn" "answer_learn" qY f94 d94)(h258:mg "answer_facts"=some (.ref f95))(h259:bf K "answer_facts" "answer_facts" rg f95 d95)(h260:mg "answer_force"=some (.ref f96))(h261:bf K "answer_force" "answer_force" qZ f96 d96)(h262:mg "answer_status"=some (.ref f97))(h263:bf K "answer_status" "answer_status" oH f97 d97)(h264:mg "answer_sure"=some (.ref f98))(h265:bf K "answer_sure" "answer_sure" uc f98 d98)(h266:mg "answer_settle"=some (.ref f99))(h267:bf K "answer_settle" "answer_settle" oI f99 d99)(h268:mg "answer_compare"=some (.ref f100))(h269:bf K "answer_compare" "answer_compare" mI f100 d100)(h270:mg "answer_editions"=some (.ref f101))(h271:bf K "answer_editions" "answer_editions" lj f101 d101)(h272:mg "answer_core"=some (.ref f102))(h273:bf K "answer_core" "answer_core" uh f102 d102)(h274:mg "answer_list_of"=some (.ref f103))(h275:bf K "answer_list_of" "answer_list_of" mG f103 d103)(h276:mg "answer_changes"=some (.ref f104))(h277:bf K "answer_changes" "answer_changes" mJ f104 d104)(h278:mg "answers"=some (.ref f105))(h279:bf K "answers" "answers" EH f105 d105)(h280:∃u,mg "GREATEST_KEY"=YaY/\YD4)(h281:∃u,mg "LAST_DAY"=YaY/\RelV (.int 1000000) u)(h282:∃u,mg "HIGHEST_RANK"=YaY/\YsG)(h283:∃u,mg "LONGEST_FLAG"=YaY/\RelV (.int 12) u)(h284:∃u,mg "LONGEST_CONDITION"=YaY/\RelV (.int 200) u)(h285:∃u,mg "DEEPEST_NESTING"=YaY/\RelV (.int 40) u)(h286:∃u,mg "MOST_FLAGS"=YaY/\RelV (.int 24) u)(h287:∃u,mg "MOST_RULES"=YaY/\RelV (.int 64) u)(h288:∃u,mg "MOST_EDITIONS"=YaY/\RelV (.int 16) u)(h289:∃u,YCb=YaY/\YsF)(h290:∃u,mg "MOST_NAMES"=YaY/\RelV (.int 100) u)(h291:∃u,YCa=YaY/\RelV (.int 10) u)(h292:∃u,YzZ=YaY/\YsI)(h293:∃u,Yz0=YaY/\YsF)(h294:∃u,YAo=YaY/\YsI)(h295:∃u,mg "NEITHER"=YaY/\RelV (.ref t0) u)(h296:∀H:Hp,eA K H t0 [Yd4,Yd4])(h297:∃u,mg "NOT_AVAILABLE"=YaY/\RelV (YmW) u)(h298:∃u,mg "AVAILABLE"=YaY/\RelV (Yx7) u)(h299:∃u,mg "UNDECIDED"=YaY/\RelV (.int 2) u)(h300:∃u,mg "NOT_YET_NAMED"=YaY/\RelV (.int 3) u)(h301:∃u,mg "NO_EDITION"=YaY/\RelV (.int 4) u)(h302:∃u,mg "KEPT_WORDS"=YaY/\RelV (.ref t1) u)(h303:∀H:Hp,eA K H t1 YbD)(h304:∃u,mg "MOST_DIGITS"=YaY/\YsG)(h305:∃u,mg "LETTERS"=YaY/\YqN)(h306:∃u,mg "DIGITS"=YaY/\YCj)(h307:∃u,mg "STRAY"=YaY/\RelV (.str "?") u)(h308:∃u,mg "CALLS"=YaY/\RelV (.ref t2) u)(h309:∀H:Hp,eA K H t2 [V.ref f88,V.ref f89,V.ref f90,V.ref f91,V.ref f92,V.ref f93,V.ref f94,V.ref f95,V.ref f96,V.ref f97,V.ref f98,V.ref f99,V.ref f100,V.ref f101,V.ref f102,V.ref f103,V.ref f104])(h310:∃u,mg "WHOLE_NUMBERS"=YaY/\RelV (.ref t3) u)(h311:∀H:Hp,eA K H t3 Ybj)(h312:∃u,mg "WITH_ROW"=YaY/\RelV (.ref t4) u)(h313:∀H:Hp,eA K H t4 Yhv)(h314:c3≠c4)(h315:c9≠c7)(h316:c9≠c8)(h317:c9≠c10)(h318:mg "all"=none)(h319:mg "any"=none)(h320:mg "enumerate"=none)(h321:mg "int"=none)(h322:mg "len"=none)(h323:mg "list"=none)(h324:mg "ord"=none)(h325:mg "range"=none)(h326:mg "reversed"=none)(h327:mg "set"=none)(h328:mg "sorted"=none)(h329:mg "str"=none)(h330:mg "sum"=none)(h331:mg "zip"=none):
  ∃(fd:FuncData)(fi:Addr)(oi:Obj)(fdi:FuncData),(∀(s:Shared)(us:List Value),Yw0=(Yw8:YeB).length->BindsTo s fd Yn5 ((Yw8:YeB).zip us))/\Ysk=some (.ref fi)/\K.lookup fi=some oi/\oi.data=.func fdi/\
   ∀c tb,fdi.code=YvC->Yiu->∀base:Heap,a6 P w K mg base cN 11 fa fd Yw8 (Bw K tb):=by
 obtain⟨oc,od,kV,doc,pm,an,cdv,ct,osl,e1,lk,hcd⟩:=id h279.ex;obtain⟨oc2,od2,kV2,doc2,pm2,an2,cdv2,ct2,osl2,e2,lk2,hcd2⟩:=id h87.ex;have e3:=hmg.symm.trans h278;have e4:=Value.ref.inj (Wbi e3);refine⟨d105,f3,_,d3,λs us hu=>?_,h86,lk2,rfl,λc tb ec hc base=>?_⟩
 ·rw[e1];exact match us,hu with|[_],_=>.of_eq rfl
 ·have htc:∃c,(d3).code=YvC/\∀h,Yx4->Yiu:=by
   refine⟨c,ec,λh2 X2=>?_⟩;rw[e2]at ec;have ec:cdv2=YvC:=ec;rw[ec]at hcd2;obtain⟨o,vs,file,tf,flags,tg,inF,text,tt,g1,g2⟩:=hc;unfold PySem.W.codeIn at hcd2;cases q:K.lookup c with
   |none=>simp[q]at hcd2
   |some o2=>have q2:=KX _ _ q;rw[g1]at q2;cases q2;exact⟨o,vs,file,tf,flags,tg,inF,text,tt,X2 _ _ q,g2⟩
  have T:Txt K mg ⟨tb,c0,c1,c2,c3,c4,c5,c6,c7,c8,c9,c10,c11,f0,f1,f2,f3,f4,f5,f6,f7,f8,f9,f10,f11,f12,f13,f14,f15,f16,f17,f18,f19,f20,f21,f22,f23,f24,f25,f26,f27,f28,f29,f30,f31,f32,f33,f34,f35,f36,f37,f38,f39,f40,f41,f42,f43,f44,f45,f46,f47,f48,f49,f50,f51,f52,f53,f54,f55,f56,f57,f58,f59,f60,f61,f62,f63,f64,f65,f66,f67,f68,f69,f70,f71,f72,f73,f74,f75,f76,f77,f78,f79,f80,f81,f82,f83,f84,f85,f86,f87,f88,f89,f90,f91,f92,f93,f94,f95,f96,f97,f98,f99,f100,f101,f102,f103,f104,f105,d0,d1,d2,d3,d4,d5,d6,d7,d8,d9,d10,d11,d12,d13,d14,d15,d16,d17,d18,d19,d20,d21,d22,d23,d24,d25,d26,d27,d28,d29,d30,d31,d32,d33,d34,d35,d36,d37,d38,d39,d40,d41,d42,d43,d44,d45,d46,d47,d48,d49,d50,d51,d52,d53,d54,d55,d56,d57,d58,d59,d60,d61,d62,d63,d64,d65,d66,d67,d68,d69,d70,d71,d72,d73,d74,d75,d76,d77,d78,d79,d80,d81,d82,d83,d84,d85,d86,d87,d88,d89,d90,d91,d92,d93,d94,d95,d96,d97,d98,d99,d100,d101,d102,d103,d104,d105,t0,t1,t2,t3,t4⟩:=⟨h0,Zb7,h3,h4,h5,h6,h7,h8,h9,h10,h11,h12,h13,h14,h15,h16,h17,h18,h19,h20,h21,h22,h23,h24,h25,h26,h27,h28,h29,h30,h31,h32,h33,h34,h35,h36,h37,h38,h39,h40,h41,h42,h43,h44,h45,h46,h47,h48,h49,h50,h51,h52,h53,h54,h55,h56,h57,h58,h59,h60,h61,h62,h63,h64,h65,h66,h67,h68,h69,h70,h71,h72,h73,h74,h75,h76,h77,h78,h79,h80,h81,(h81.binds λ_ _ _ _ _ _ us hl=>match us,hl with|[_],_=>rfl),h82,h83,(h83.binds λ_ _ _ _ _ _ us hl=>match us,hl with|[_],_=>rfl),h84,h85,(h85.binds λ_ _ _ _ _ _ us hl=>match us,hl with|[_],_=>rfl),h86,h87,(h87.binds λ_ _ _ _ _ _ us hl=>match us,hl with|[_,_],_=>rfl),h88,h89,(h89.binds λ_ _ _ _ _ _ us hl=>match us,hl with|[_,_],_=>rfl),h90,(h90.binds λ_ _ _ _ _ _ us hl=>match us,hl with|[_,_],_=>rfl),h91,h92,(h92.binds λ_ _ _ _ _ _ us hl=>match us,hl with|[_,_],_=>rfl),h93,(h93.binds λ_ _ _ _ _ _ us hl=>match us,hl with|[_,_,_,_],_=>rfl),h94,h95,(h95.binds λ_ _ _ _ _ _ us hl=>match us,hl with|[_,_],_=>rfl),h96,h97,(h97.binds λ_ _ _ _ _ _ us hl=>match us,hl with|[_,_],_=>rfl),h98,h99,(h99.binds λ_ _ _ _ _ _ us hl=>match us,hl with|[_,_,_],_=>rfl),h100,h101,(h101.binds λ_ _ _ _ _ _ us hl=>match us,hl with|[_,_],_=>rfl),h102,h103,(h103.binds λ_ _ _ _ _ _ us hl=>match us,hl with|[_,_,_],_=>rfl),h104,h105,(h105.binds λ_ _ _ _ _ _ us hl=>match us,hl with|[_,_,_],_=>rfl),h106,h107,(h107.binds λ_ _ _ _ _ _ us hl=>match us,hl with|[_,_,_],_=>rfl),h108,h109,(h109.binds λ_ _ _ _ _ _ us hl=>match us,hl with|[_,_,_],_=>rfl),h110,h111,(h111.binds λ_ _ _ _ _ _ us hl=>match us,hl with|[_,_,_],_=>rfl),h112,h113,(h113.binds λ_ _ _ _ _ _ us hl=>match us,hl with|[_,_],_=>rfl),h114,h115,(h115.binds λ_ _ _ _ _ _ us hl=>match us,hl with|[_],_=>rfl),h116,h117,(h117.binds λ_ _ _ _ _ _ us hl=>match us,hl with|[_,_,_],_=>rfl),h118,h119,(h119.binds λ_ _ _ _ _ _ us hl=>match us,hl with|[_,_,_,_],_=>rfl),h120,h121,(h121.binds λ_ _ _ _ _ _ us hl=>match us,hl with|[_,_,_],_=>rfl),h122,h123,(h123.binds λ_ _ _ _ _ _ us hl=>match us,hl with|[_,_,_],_=>rfl),h124,h125,(h125.binds λ_ _ _ _ _ _ us hl=>match us,hl with|[_,_],_=>rfl),h126,h127,(h127.binds λ_ _ _ _ _ _ us hl=>match us,hl with|[_,_,_],_=>rfl),h128,h129,(h129.binds λ_ _ _ _ _ _ us hl=>match us,hl with|[_,_,_],_=>rfl),h130,h131,(h131.binds λ_ _ _ _ _ _ us hl=>match us,hl with|[_],_=>rfl),h132,h133,(h133.binds λ_ _ _ _ _ _ us hl=>match us,hl with|[_],_=>rfl),h134,h135,(h135.binds λ_ _ _ _ _ _ us hl=>match us,hl with|[_],_=>rfl),h136,(h136.binds λ_ _ _ _ _ _ us hl=>match us,hl with|[_,_,_],_=>rfl),h137,h138,(h138.binds λ_ _ _ _ _ _ us hl=>match us,hl with|[_,_],_=>rfl),h139,h140,(h140.binds λ_ _ _ _ _ _ us hl=>match us,hl with|[_,_],_=>rfl),h141,h142,(h142.binds λ_ _ _ _ _ _ us hl=>match us,hl with|[_,_,_],_=>rfl),h143,h144,(h144.binds λ_ _ _ _ _ _ us hl=>match us,hl with|[_,_],_=>rfl),h145,h146,(h146.binds λ_ _ _ _ _ _ us hl=>match us,hl with|[_,_,_],_=>rfl),h147,h148,(h148.binds λ_ _ _ _ _ _ us hl=>match us,hl with|[_,_,_],_=>rfl),h149,h150,(h150.binds λ_ _ _ _ _ _ us hl=>match us,hl with|[_,_,_],_=>rfl),h151,h152,(h152.binds λ_ _ _ _ _ _ us hl=>match us,hl with|[_,_],_=>rfl),h153,(h153.binds λ_ _ _ _ _ _ us hl=>match us,hl with|[_,_,_],_=>rfl),h154,h155,(h155.binds λ_ _ _ _ _ _ us hl=>match us,hl with|[_,_],_=>rfl),h156,h157,(h157.binds λ_ _ _ _ _ _ us hl=>match us,hl with|[_],_=>rfl),h158,h159,(h159.binds λ_ _ _ _ _ _ us hl=>match us,hl with|[_],_=>rfl),h160,h161,(h161.binds λ_ _ _ _ _ _ us hl=>match us,hl with|[_],_=>rfl),h162,(h162.binds λ_ _ _ _ _ _ us hl=>match us,hl with|[_,_],_=>rfl),h163,h164,(h164.binds λ_ _ _ _ _ _ us hl=>match us,hl with|[_],_=>rfl),h165,h166,(h166.binds λ_ _ _ _ _ _ us hl=>match us,hl with|[_],_=>rfl),h167,h168,(h168.binds λ_ _ _ _ _ _ us hl=>match us,hl with|[_],_=>rfl),h169,h170,(h170.binds λ_ _ _ _ _ _ us hl=>match us,hl with|[_],_=>rfl),h171,h172,(h172.binds λ_ _ _ _ _ _ us hl=>match us,hl with|[_],_=>rfl),h173,h174,(h174.binds λ_ _ _ _ _ _ us hl=>match us,hl with|[_,_],_=>rfl),h175,h176,(h176.binds λ_ _ _ _ _ _ us hl=>match us,hl with|[_],_=>rfl),h177,h178,(h178.binds λ_ _ _ _ _ _ us hl=>match us,hl with|[_,_,_],_=>rfl),h179,h180,(h180.binds λ_ _ _ _ _ _ us hl=>match us,hl with|[_],_=>rfl),h181,h182,(h182.binds λ_ _ _ _ _ _ us hl=>match us,hl with|[_,_],_=>rfl),h183,h184,(h184.binds λ_ _ _ _ _ _ us hl=>match us,hl with|[_],_=>rfl),h185,h186,(h186.binds λ_ _ _ _ _ _ us hl=>match us,hl with|[_],_=>rfl),h187,(h187.binds λ_ _ _ _ _ _ us hl=>match us,hl with|[_,_,_],_=>rfl),h188,h189,(h189.binds λ_ _ _ _ _ _ us hl=>match us,hl with|[_,_],_=>rfl),h190,h191,(h191.binds λ_ _ _ _ _ _ us hl=>match us,hl with|[_],_=>rfl),h192,h193,(h193.binds λ_ _ _ _ _ _ us hl=>match us,hl with|[_,_,_],_=>rfl),h194,h195,(h195.binds λ_ _ _ _ _ _ us hl=>match us,hl with|[_],_=>rfl),h196,(h196.binds λ_ _ _ _ _ _ us hl=>match us,hl with|[_,_,_,_],_=>rfl),h197,h198,(h198.binds λ_ _ _ _ _ _ us hl=>match us,hl with|[_,_],_=>rfl),h199,h200,(h200.binds λ_ _ _ _ _ _ us hl=>match us,hl with|[_,_],_=>rfl),h201,(h201.binds λ_ _ _ _ _ _ us hl=>match us,hl with|[_,_,_,_,_,_,_],_=>rfl),h202,(h202.binds λ_ _ _ _ _ _ us hl=>match us,hl with|[_,_,_,_,_],_=>rfl),h203,(h203.binds λ_ _ _ _ _ _ us hl=>match us,hl with|[_,_,_],_=>rfl),h204,(h204.binds λ_ _ _ _ _ _ us hl=>match us,hl with|[_],_=>rfl),h205,h206,(h206.binds λ_ _ _ _ _ _ us hl=>match us,hl with|[_,_,_],_=>rfl),h207,h208,(h208.binds λ_ _ _ _ _ _ us hl=>match us,hl with|[_,_,_,_,_],_=>rfl),h209,h210,(h210.binds λ_ _ _ _ _ _ us hl=>match us,hl with|[_,_,_,_,_,_,_],_=>rfl),h211,h212,(h212.binds λ_ _ _ _ _ _ us hl=>match us,hl with|[_,_],_=>rfl),h213,h214,(h214.binds λ_ _ _ _ _ _ us hl=>match us,hl with|[_,_],_=>rfl),h215,h216,(h216.binds λ_ _ _ _ _ _ us hl=>match us,hl with|[_,_,_,_,_],_=>rfl),h217,h218,(h218.binds λ_ _ _ _ _ _ us hl=>match us,hl with|[_,_,_,_],_=>rfl),h219,h220,(h220.binds λ_ _ _ _ _ _ us hl=>match us,hl with|[_,_,_,_],_=>rfl),h221,h222,(h222.binds λ_ _ _ _ _ _ us hl=>match us,hl with|[_],_=>rfl),h223,h224,(h224.binds λ_ _ _ _ _ _ us hl=>match us,hl with|[_],_=>rfl),h225,h226,(h226.binds λ_ _ _ _ _ _ us hl=>match us,hl with|[_],_=>rfl),h227,h228,(h228.binds λ_ _ _ _ _ _ us hl=>match us,hl with|[_,_,_],_=>rfl),h229,h230,(h230.binds λ_ _ _ _ _ _ us hl=>match us,hl with|[_,_],_=>rfl),h231,h232,(h232.binds λ_ _ _ _ _ _ us hl=>match us,hl with|[_,_,_],_=>rfl),h233,h234,(h234.binds λ_ _ _ _ _ _ us hl=>match us,hl with|[_,_,_,_],_=>rfl),h235,h236,(h236.binds λ_ _ _ _ _ _ us hl=>match us,hl with|[_,_,_],_=>rfl),h237,(h237.binds λ_ _ _ _ _ _ us hl=>match us,hl with|[_,_,_,_],_=>rfl),h238,h239,(h239.binds λ_ _ _ _ _ _ us hl=>match us,hl with|[_,_],_=>rfl),h240,h241,(h241.binds λ_ _ _ _ _ _ us hl=>match us,hl with|[_,_,_],_=>rfl),h242,h243,(h243.binds λ_ _ _ _ _ _ us hl=>match us,hl with|[_,_,_,_],_=>rfl),h244,h245,(h245.binds λ_ _ _ _ _ _ us hl=>match us,hl with|[_,_,_],_=>rfl),h246,h247,(h247.binds λ_ _ _ _ _ _ us hl=>match us,hl with|[_,_,_],_=>rfl),h248,h249,(h249.binds λ_ _ _ _ _ _ us hl=>match us,hl with|[_,_,_],_=>rfl),h250,h251,(h251.binds λ_ _ _ _ _ _ us hl=>match us,hl with|[_,_,_],_=>rfl),h252,h253,(h253.binds λ_ _ _ _ _ _ us hl=>match us,hl with|[_,_,_],_=>rfl),h254,h255,(h255.binds λ_ _ _ _ _ _ us hl=>match us,hl with|[_,_,_],_=>rfl),h256,h257,(h257.binds λ_ _ _ _ _ _ us hl=>match us,hl with|[_,_,_],_=>rfl),h258,h259,(h259.binds λ_ _ _ _ _ _ us hl=>match us,hl with|[_,_,_],_=>rfl),h260,h261,(h261.binds λ_ _ _ _ _ _ us hl=>match us,hl with|[_,_,_],_=>rfl),h262,h263,(h263.binds λ_ _ _ _ _ _ us hl=>match us,hl with|[_,_,_],_=>rfl),h264,h265,(h265.binds λ_ _ _ _ _ _ us hl=>match us,hl with|[_,_,_],_=>rfl),h266,h267,(h267.binds λ_ _ _ _ _ _ us hl=>match us,hl with|[_,_,_],_=>rfl),h268,h269,(h269.binds λ_ _ _ _ _ _ us hl=>match us,hl with|[_,_,_],_=>rfl),h270,h271,(h271.binds λ_ _ _ _ _ _ us hl=>match us,hl with|[_,_,_],_=>rfl),h272,h273,(h273.binds λ_ _ _ _ _ _ us hl=>match us,hl with|[_,_,_],_=>rfl),h274,h275,(h275.binds λ_ _ _ _ _ _ us hl=>match us,hl with|[_,_,_],_=>rfl),h276,h277,(h277.binds λ_ _ _ _ _ _ us hl=>match us,hl with|[_,_,_],_=>rfl),h278,h279,(h279.binds λ_ _ _ _ _ _ us hl=>match us,hl with|[_],_=>rfl),h280,h281,h282,h283,h284,h285,h286,h287,h288,h289,h290,h291,h292,h293,h294,h295,h296,h297,h298,h299,h300,h301,h302,h303,h304,h305,h306,h307,h308,h309,h310,h311,h312,h313,htc,h314,h315,h316,h317,h318,h319,h320,h321,h322,h323,h324,h325,h326,h327,h328,h329,h330,h331⟩
  rw[e4];exact Rn T
end Ce
namespace L2
open PySem PySem.Spec PyProof.Rows
section
open PySem.W (WData Codec OpenSpec Well WellAll ReadsW ReadsAllW)
mutual
inductive Dw (K:Yaj) (H:Hp):V->WData->Prop
 |fR:Dw K H .fR .none
 |bl (b:Bool):Dw K H (.bl b) (.bool b)
 |int (i:Int):Dw K H (.int i) (.int i)
 |str (x:Str):Dw K H (.str x) (.str x)
 |NX (b:Array UInt8):Dw K H (.NX b) (.bytes b.toList)
 |lst {a:Addr} {xs:List V} {ds:List WData}:aV K H a xs->tT K H xs ds->Dw K H (.ref a) (.list ds)
 |tup {a:Addr} {xs:List V} {ds:List WData}:eA K H a xs->tT K H xs ds->Dw K H (.ref a) (.tuple ds)
inductive tT (K:Yaj) (H:Hp):YcT->List WData->Prop
 |nil:tT K H [] []
 |cons {v:V} {vs:List V} {d:WData} {ds:List WData}:Dw K H v d->tT K H vs ds->tT K H (v::vs) (d::ds)
end
def Td{K:Yaj}{H:Hp}:∀ns:YdR,tT K H YlV (ns.map WData.int)
 |[]=>.nil
 |n::r=>.cons (.int n) (Td r)
def Tb{K:Yaj}{H:Hp}:∀(ns:List Int)(xs:List V),tT K H xs (ns.map WData.int)->xs=ns.map V.int
 |[],xs,h=>by cases h;rfl
 |n::r,xs,h=>by
  cases h with
  |cons h1 h2=>cases h1;rw[Tb r _ h2]<;>rfl
section
variable {P:Program} {w:World} {K:PySem.W.Frag} {H:Hp} {h:Heap} {R:PySem.W.WRecords} {cl:Str→Option Addr}
def Z1(cg:YeE)(KX:Yx4)(q:YcS):∃(its:List Value)(o:Obj)(n:Nat),Yoc/\Yds=YaB/\o.cls=Ybr/\o.data=YkJ:=by
 rcases q with q|⟨o,its,n,e,hc,_,hd,_,hv⟩
 ·obtain⟨_,its,n,hv,e⟩:=(show fM P w H h a Ytm from q.ok cg);exact⟨its,_,n,hv,e,ZaI⟩
 ·exact YoO
def Z0(cg:YeE)(KX:Yx4)(q:Yn9):∃(its:List Value)(o:Obj)(n:Nat),Yoc/\Yds=YaB/\o.cls=Yb2/\o.data=YkJ:=by
 rcases q with q|⟨o,its,n,e,hc,hd,_,hv⟩
 ·obtain⟨_,its,hv,o,e,hc,n,hd⟩:=(show fM P w H h a YB5 from q.ok cg);exact⟨its,o,n,hv,e,hc,hd⟩
 ·exact YoO
mutual
def Dw.reads(cg:YeE)(KX:Yx4):∀(d:WData)(v:V)(u:Value),Dw K H v d->YhF->∃as,ReadsW R cl h u d as
 |.none,_,_,x,r=>by cases x;cases r;exact⟨_,ReadsW.none⟩
 |.bool b,_,_,x,r=>by cases x;cases r;exact⟨_,ReadsW.bool b⟩
 |.int i,_,_,x,r=>by cases x;ext XaR;exact⟨_,ReadsW.int i t⟩
 |.str s,_,_,x,r=>by cases x;ext XaR;exact⟨_,ReadsW.str s t⟩
 |.bytes b,_,_,x,r=>by cases x;ext XaR;exact⟨_,ReadsW.bytes _ t⟩
 |.list ds,_,_,x,r=>by
   cases x with
   |lst hs ha=>cases r;obtain⟨its,o,n,rv,ho,hc,hd⟩:=Z1 cg KX hs;ext XfU;exact⟨_,ReadsW.list ho hc hd hr⟩
 |.tuple ds,_,_,x,r=>by
   cases x with
   |tup hs ha=>cases r;obtain⟨its,o,n,rv,ho,hc,hd⟩:=Z0 cg KX hs;ext XfU;exact⟨_,ReadsW.tuple ho hc hd hr⟩
 |.float _,_,_,x,_=>by cases x
 |.dict _,_,_,x,_=>by cases x
 |.bytearray _,_,_,x,_=>by cases x
 |.set _,_,_,x,_=>by cases x
 |.frozenset _,_,_,x,_=>by cases x
 |.obj _ _,_,_,x,_=>by cases x
def Dw.readsAll(cg:YeE)(KX:Yx4):∀(ds:List WData)(vs:List V)(us:List Value),tT K H vs ds->YnH->∃as,ReadsAllW R cl h us ds as
 |[],_,_,x,r=>by cases x;cases r;exact⟨_,ReadsAllW.nil⟩
 |d::ds,_,_,x,r=>by
  cases x with
  |cons h1 h2=>
   cases r with
   |cons r1 r2=>obtain⟨as,q1⟩:=Dw.reads cg KX d _ _ h1 r1;obtain⟨bs,q2⟩:=Dw.readsAll cg KX ds _ _ h2 r2;exact⟨_,ReadsAllW.cons q1 q2⟩
end
end
mutual
def SE:WData->Bool
 |.none=>true
 |.bool _=>true
 |.int _=>true
 |.str _=>true
 |.bytes _=>true
 |.list xs=>GD xs
 |.tuple xs=>GD xs
 |_=>false
def GD:List WData->Bool
 |[]=>true
 |x::r=>SE x&&GD r
end
def OO{α:Type}{f:α->WData}(h:∀a,SE (f a)=true):∀l:Ydy,GD (YvV)=true
 |[]=>rfl
 |x::r=>by show(SE (f x)&&GD (r.map f))=true;rw[h x,OO h r]<;>rfl
def yF:∀(c:Codec)(a:c.denote),SE (c.enc a)=true
 |.unit,_=>rfl
 |.bool,_=>rfl
 |.int _ _,_=>rfl
 |.nat _ _,_=>rfl
 |.u8,_=>rfl
 |.bytes _ _,_=>rfl
 |.text _ _ _ _,_=>rfl
 |.list _ _ c,a=>OO (λx=>yF c x) a
 |.pair c d,a=>by show(YDs&&(SE (d.enc a.2)&&true))=true;rw[yF c a.1,yF d a.2]<;>rfl
 |.triple c d e,a=>by show(YDs&&(SE (d.enc a.2.1)&&(SE (e.enc a.2.2)&&true)))=true;rw[yF c a.1,yF d a.2.1,yF e a.2.2]<;>rfl
 |.option c,none=>rfl
 |.option c,some x=>yF c x
def Lz:∀(cs:List Codec)(a:Codec.denoteAll cs),GD (Codec.encAll cs a)=true
 |[],_=>rfl
 |c::cs,a=>by show(YDs&&GD (Codec.encAll cs a.2))=true;rw[yF c a.1,Lz cs a.2]<;>rfl
def Bt:∀{xs:List WData}{d:WData},d∈xs->YAF<=WData.weightAll xs
 |[],d,h=>absurd h Yao
 |x::r,d,h=>by
  show YAF<=x.weight+1+WData.weightAll r;rcases Wav.mp h with e|m
  ·rw[e];omega
  ·have z:=Bt m;omega
def toV:Value->V
 |.none=>.fR
 |.bool b=>.bl b
 |.int i _=>Yoh
 |.str x _=>Yx5
 |.bytes b _=>.NX b
 |.ref a=>Ybc
 |_=>.fR
def Vt(A:Ybw):Value->Prop
 |.none=>True
 |.bool _=>True
 |.int _ _=>True
 |.str _ _=>True
 |.bytes _ _=>True
 |.ref a=>a∈A
 |_=>False
theorem Vt.mono(h:∀a∈A,a∈B):∀{u:Value},Vt A u->Vt B u:=λ{u} x=>by
 cases u with
 |ref a=>exact h a x
 |none=>trivial
 |bool b=>trivial
 |int i t=>trivial
 |str s t=>trivial
 |bytes b t=>trivial
 |_=>exact YsZ
def Wf(x:Vt A u):RelV (toV u) u:=by
 cases u with
 |ref a=>rfl
 |none=>rfl
 |bool b=>rfl
 |int i t=>exact Ygb
 |str s t=>exact Ygb
 |bytes b t=>exact Ygb
 |_=>exact YsZ
def va:∀{vs:List Value},(∀u∈vs,Vt A u)->Vals Ykf vs
 |[],_=>.nil
 |u::r,h=>.cons (Wf (h u Ycq)) (va λx hx=>Ypm)
def xU(h:Heap)(A:Ybw)(a:Addr):Prop:=∃vs:YbN,Yd7<=sizeLine/\YkK/\
 (Yds=some {cls:=Ybr,data:=YbH}∨Yds=some {cls:=Yb2,data:=YbH})
def xU.mono(k:∀a∈A,a∈B)(x:YtQ):xU h B a:=by obtain⟨vs,h1,h2,h3⟩:=x;exact⟨vs,h1,λu hu=>(h2 u hu).mono k,h3⟩
def sT:∀{vs:List Value}{ds:List WData},YlE->Yd7=ds.length
 |_,_,.nil=>rfl
 |_,_,.cons _ b=>by show _+1=_+1;rw[sT b]
def La(x:Well P h v (.list ds)):∃(a:Addr)(vs:List Value),v=Ybc/\Yds=some {cls:=Ybr,data:=YbH}/\YlE:=by
 cases x with
 |list ho hall=>exact⟨Zbr,ho,hall⟩
def Ht(x:Well P h v (.tuple ds)):∃(a:Addr)(vs:List Value),v=Ybc/\Yds=some {cls:=Yb2,data:=YbH}/\YlE:=by
 cases x with
 |tuple ho hall=>exact⟨Zbr,ho,hall⟩
def Lb(x:WellAll P h us (d::ds)):∃(v:Value)(vs:List Value),us=v::vs/\Well P h v d/\YlE:=by
 cases x with
 |cons a b=>exact⟨Zbr,a,b⟩
def SX(h:n<=1048576):n<=sizeLine:=WaF h YeP
section
variable {P:Params} {h:Heap}
mutual
def Xz:∀(d:WData)(v:Value),Well P h v d->SE d=true->YAF<=1048576->∃A:Ybw,Vt A v/\∀a∈A,xU h A a
 |.none,_,x,_,_=>by ext XbH
 |.bool b,_,x,_,_=>by ext XbH
 |.int i,_,x,_,_=>by ext XbH
 |.str s,_,x,_,_=>by ext XbH
 |.bytes b,_,x,_,_=>by ext XbH
 |.list ds,_,x,p,z=>by
   obtain⟨a,vs,rfl,ho,hall⟩:=La x;ext XaM
   ·rw[e];exact⟨ZbB,.inl ho⟩
   ·exact(h2 b m).mono k
 |.tuple ds,_,x,p,z=>by
   obtain⟨a,vs,rfl,ho,hall⟩:=Ht x;ext XaM
   ·rw[e];exact⟨ZbB,.inr ho⟩
   ·exact(h2 b m).mono k
 |.float _,_,_,p,_=>YaN
 |.dict _,_,_,p,_=>YaN
 |.bytearray _,_,_,p,_=>YaN
 |.set _,_,_,p,_=>YaN
 |.frozenset _,_,_,p,_=>YaN
 |.obj _ _,_,_,p,_=>YaN
def Eg:∀(ds:List WData)(vs:List Value),YlE->GD ds=true->(∀d∈ds,YAF<=1048576)->∃A:Ybw,(∀u∈vs,Vt A u)/\∀a∈A,xU h A a
 |[],_,x,_,_=>by cases x;exact⟨[],λu m=>absurd m Yao,λa m=>absurd m Yao⟩
 |d::ds,_,x,p,z=>by
  ext XcR;obtain⟨A,a1,a2⟩:=Xz d v x1 q.1 (z d Ycq);obtain⟨B,b1,b2⟩:=Eg ds vs x2 q.2 λe he=>z e (Waq _ he);have kA:∀b∈A,b∈A++B:=λb hb=>Wac.mpr (.inl hb);have kB:∀b∈B,b∈A++B:=λb hb=>Wac.mpr (.inr hb);refine⟨A++B,λu hu=>?_,Yf1⟩
  ·rcases Wav.mp hu with e|m
   ·rw[e];exact a1.mono kA
   ·exact(b1 u m).mono kB
  ·rcases Wac.mp hb with m|m
   ·exact(a2 b m).mono kA
   ·exact(b2 b m).mono kB
end
end
def YY(o:Obj):Option HO:=match o.data with
 |.seq vs _=>if(o.cls==YiU)=true then some (.jh o (.lst (vs.toList.map toV)))else some (.jh o (.tup (vs.toList.map toV)))
 |_=>none
def xY(K:Yaj)(h:Heap)(A:Ybw):Hp:=λb=>if b∈A then(if(Ytw).isNone=true then(YdX).bind YY else none)else none
def ZG(H:Hp):Prop:=∀b,H b=none∨∃o u,H b=YlT
def Pl(vs:YbN):YY {cls:=Ybr,data:=YbH}=some (.jh {cls:=Ybr,data:=YbH} (.lst Ykf)):=by show(if(YiU==YiU)=true then some (HO.jh {cls:=Ybr,data:=YbH} (.lst Yiq))else some (HO.jh {cls:=Ybr,data:=YbH} (.tup Yiq)))=_;rw[Wap (beq_self_eq_true _)]
def Pk(vs:YbN):YY {cls:=Yb2,data:=YbH}=some (.jh {cls:=Yb2,data:=YbH} (.tup Ykf)):=by show(if(Value.type "tuple"==YiU)=true then some (HO.jh {cls:=Yb2,data:=YbH} (.lst Yiq))else some (HO.jh {cls:=Yb2,data:=YbH} (.tup Yiq)))=_;rw[Wae YeP]
section
variable {P:Program} {w:World} {K:PySem.W.Frag} {h:Heap} {A:List Addr}
def Hq(hb:b∈A)(hk:Ytw=none)(e:YdX=YaB):xY K h A b=YY o:=by unfold xY;rw[Wap hb,hk,Wap (show(none:Option Obj).isNone=true from rfl),e]<;>rfl
def YI(q:xY K h A b=YaY):b∈A/\Ytw=none:=by
 unfold xY at q;by_cases hb:b∈A
 ·rw[Wap hb]at q;cases hk:Ytw with
  |none=>exact⟨hb,rfl⟩
  |some o=>rw[hk,Wae Yao]at q;cases q
 ·rw[Wae hb]at q;cases q
def Ho(ar:∀a∈A,YtQ)(q:xY K h A b=YaY):Ytw=none/\∃vs:YbN,Yd7<=sizeLine/\YkK/\
  ((YdX=some {cls:=Ybr,data:=YbH}/\u=.jh {cls:=Ybr,data:=YbH} (.lst Ykf))∨
   (YdX=some {cls:=Yb2,data:=YbH}/\u=.jh {cls:=Yb2,data:=YbH} (.tup Ykf))):=by
 obtain⟨hb,hk⟩:=YI q;obtain⟨vs,h1,h2,h3⟩:=ar b hb;refine⟨hk,vs,Zb7,?_⟩;rcases h3 with e|e
 ·rw[Hq hb hk e,Pl]at q;exact .inl ⟨e,(Wbi q).symm⟩
 ·rw[Hq hb hk e,Pk]at q;exact .inr ⟨e,(Wbi q).symm⟩
def Vq(ar:∀a∈A,YtQ):ZG Ytx:=λb=>by
 cases q:xY K h A b with
 |none=>exact YbW
 |some u=>
  obtain⟨_,vs,_,_,⟨_,e⟩|⟨_,e⟩⟩:=Ho ar q
  ·exact .inr ⟨_,_,by rw[e]⟩
  ·exact .inr ⟨_,_,by rw[e]⟩
def Y8(ar:∀a∈A,YtQ):xP P w Ytx h:=λb u q=>by
 obtain⟨_,vs,h1,h2,⟨e,rfl⟩|⟨e,rfl⟩⟩:=Ho ar q
 ·exact⟨e,by rw[Waa];exact h1,vs,_,va h2,e⟩
 ·exact⟨e,by rw[Waa];exact h1,vs,va h2,_,e,ZaF⟩
def Hb{c c':Value}{vs us:YbN}(e:(some {cls:=c,data:=YbH}:Option Obj)=some {cls:=c',data:=.seq us.toArray}):c=c'/\vs=us:=by have e1:=Wbi e;have e2:c=c':=Wa6 Obj.cls e1;have e3:Data.seq vs.toArray=Data.seq us.toArray:=Wa6 Obj.data e1;injection e3 with e4;refine⟨e2,?_⟩;have e5:=Wa6 Array.toList e4;simpa using e5
def ac2(KX:Yx4)(ar:∀a∈A,YtQ){a:Addr}{vs:YbN}(ha:a∈A)(e:Yds=some {cls:=Ybr,data:=YbH}):YkK/\aV K Ytx a Ykf:=by
 obtain⟨us,h1,h2,h3⟩:=ar a ha;have hu:us=vs:=by
  rcases h3 with q|q
  ·rw[e]at q;exact(Hb q).2.symm
  ·rw[e]at q;exact YtZ
 subst hu;refine⟨h2,?_⟩;cases hk:K.lookup a with
 |none=>exact .inl (.inr ⟨_,by rw[Hq ha hk e,Pl]⟩)
 |some o=>ext Xgi;exact .inr ⟨_,us.toArray,_,hk,ZaI,rfl,Zct⟩
def ac1(KX:Yx4)(ar:∀a∈A,YtQ){a:Addr}{vs:YbN}(ha:a∈A)(e:Yds=some {cls:=Yb2,data:=YbH}):YkK/\eA K Ytx a Ykf:=by
 obtain⟨us,h1,h2,h3⟩:=ar a ha;have hu:us=vs:=by
  rcases h3 with q|q
  ·rw[e]at q;exact YtZ
  ·rw[e]at q;exact(Hb q).2.symm
 subst hu;refine⟨h2,?_⟩;cases hk:K.lookup a with
 |none=>exact .inl (.inr ⟨_,by rw[Hq ha hk e,Pk]⟩)
 |some o=>ext Xgi;exact .inr ⟨_,us.toArray,_,hk,ZaI,Zct⟩
mutual
def aaE{Pm:Params}(KX:Yx4)(ar:∀a∈A,YtQ):∀(d:WData)(v:Value),Well Pm h v d->SE d=true->Vt A v->Dw K Ytx (toV v) d
 |.none,_,x,_,_=>by cases x;exact .fR
 |.bool b,_,x,_,_=>by cases x;exact .bl b
 |.int i,_,x,_,_=>by cases x;exact Yoh
 |.str s,_,x,_,_=>by cases x;exact .str s
 |.bytes b,_,x,_,_=>by cases x;have z:=Dw.NX (K:=K) (H:=xY K h A) b.toArray;exact z
 |.list ds,_,x,p,hu=>by obtain⟨a,vs,rfl,ho,hall⟩:=La x;obtain⟨h2,hs⟩:=ac2 KX ar hu ho;exact .lst hs YC4
 |.tuple ds,_,x,p,hu=>by obtain⟨a,vs,rfl,ho,hall⟩:=Ht x;obtain⟨h2,hs⟩:=ac1 KX ar hu ho;exact .tup hs YC4
 |.float _,_,_,p,_=>YaN
 |.dict _,_,_,p,_=>YaN
 |.bytearray _,_,_,p,_=>YaN
 |.set _,_,_,p,_=>YaN
 |.frozenset _,_,_,p,_=>YaN
 |.obj _ _,_,_,p,_=>YaN
def Nw(KX:Yx4)(ar:∀a∈A,YtQ):∀(ds:List WData)(vs:List Value),WellAll Pm h vs ds->GD ds=true->YkK->tT K Ytx Ykf ds
 |[],_,x,_,_=>by cases x;exact .nil
 |d::ds,_,x,p,hu=>by ext XcR;exact .cons (aaE KX ar d v x1 q.1 (hu _ Ycq)) (Nw KX ar ds vs x2 q.2 λu m=>hu u (Waq _ m))
end
end
mutual
def aaD{K:Yaj}{H:Hp}{tb:Addr}{o:HO}(n:H tb=YiQ):∀{v:V}{d:WData},Dw K H v d->Dw K (upd H tb o) v d
 |_,_,.fR=>.fR
 |_,_,.bl b=>.bl b
 |_,_,.int i=>Yoh
 |_,_,.str x=>Yx5
 |_,_,.NX b=>.NX b
 |_,_,.lst hs ha=>.lst (by
   rcases hs with(h|⟨q,h⟩)|h
   ·exact .inl Yuz
   ·exact .inl Yrl
   ·exact Yku) (Hl n ha)
 |_,_,.tup hs ha=>.tup (by
   rcases hs with(h|⟨q,h⟩)|h
   ·exact .inl Yuz
   ·exact .inl Yrl
   ·exact Yku) (Hl n ha)
def Hl{K:Yaj}{H:Hp}{tb:Addr}{o:HO}(n:H tb=YiQ):∀{vs:List V}{ds:List WData},tT K H vs ds->tT K (upd H tb o) vs ds
 |_,_,.nil=>.nil
 |_,_,.cons h r=>.cons (aaD n h) (Hl n r)
end
def Xi{P:Program}{w:World}{K:Yaj}{mg mb:Str->Yci}{CX:XU}{k:Nat}{fa tb:Addr}{lp:Pos}{lq:Str}{fd:FuncData}{ps:YeB}{sp:Sp}{s1:Shared}{vals:YbN}{ds:List WData}{R:PySem.W.WRecords}{cl:Str->YBD}{d0:WData}
(KX:K.In s1.heap)(hns:s1.heap.Ns mainGlobals mg)(hb:s1.heap.Ns builtinsNs mb)(hbb:∀x:Str,x≠"__name__"->mb x=Ypn)(hlim:s1.heap.NoLimit)(hg:s1.gens= #[])(hbm:acd s1.heap mg)
(htb:s1.heap.get? tb=some {cls:=.none,data:=.fields #[]})(htk:K.lookup tb=YiQ)(hct:isCodeTable s1.heap tb)
(hwl:WellAll w.params s1.heap vals ds)(hpl:GD ds=true)(hwt:∀d∈ds,YAF<=1048576)(hr:mj k callerA)
(F:∀base:Heap,a6 P w K mg base CX k fa fd ps sp)(hbind:∀(s:Shared)(us:List Value),Yw0=Yez->BindsTo s fd Yn5 Yog)(hlen:ds.length=Yez)
(hsp:∀(H:Hp)(xs:List V),H tb=Ymt->tT K H xs ds->sp xs H (λv H'=>H' tb=Ymt/\Dw K H' v d0) λ_ _ _=>False)
(hCX:∀H e s',CX [] H s1 (λ_ _ _=>False) e s'->False):
  codeAny YlN callerA (.call (.ref fa) ⟨vals,[]⟩) (λr s'=>∃u as,r=.ok (.ret u)/\ReadsW R cl s'.heap u d0 as/\OldK s1.heap s'.heap/\s'.os=s1.os/\YBb) s1:=by
 obtain⟨A,ho,ar⟩:=Eg ds vals hwl hpl hwt;have hO:ZG (xY K s1.heap A):=Vq ar;have hok0:xP P w (xY K s1.heap A) s1.heap:=Y8 ar;have hS:=Nw KX ar ds vals hwl hpl ho;have hV:=va ho;have hK:∀b u,xY K s1.heap A b=YaY->Ytw=YiQ:=λb u q=>(Ho ar q).1;have sq:∀{b:Addr}{u:HO}{o:Obj},xY K s1.heap A b=YaY->Yt7=YaB->∃(c:Value)(vs:List Value),o={cls:=c,data:=YbH}:=λ{b u o} q e=>by
  obtain⟨_,vs,_,_,⟨e2,_⟩|⟨e2,_⟩⟩:=Ho ar q
  ·rw[e2]at e;exact⟨_,vs,(Wbi e).symm⟩
  ·rw[e2]at e;exact⟨_,vs,(Wbi e).symm⟩
 generalize xY K s1.heap A=H0 at hO hok0 hS hK sq;have nt:H0 tb=YiQ:=by
  cases q:H0 tb with
  |none=>rfl
  |some u=>obtain⟨c,vs,e⟩:=sq q htb;cases e
 obtain⟨H,eH⟩:∃H,H=upd H0 tb (.Fo lp lq):=YeS;have hT:H tb=Ymt:=by rw[eH,ab]
 have up:∀{b:Addr}{u:HO},H0 b=YaY->H b=YaY:=λe=>by rw[eH,aA (ao e nt)];exact e
 have dn:∀{b:Addr},b≠tb->H b=H0 b:=λn=>by rw[eH,aA n]
 have cg:xP P w H s1.heap:=λb u e=>by
  by_cases q:b=tb
  ·subst q;rw[hT]at e;cases e;exact⟨#[],htb,YbW⟩
  ·rw[dn q]at e;exact(hok0 b u e).xV (λ_ _ _ r=>r) (λ_ r=>up r) λ_ _ r=>up r
 have hSH:tT K H (vals.map toV) ds:=by rw[eH];exact Hl nt hS
 have noA:∀{b:Addr}{o:Obj},Yt7=YaB->(∀vs n,o.data≠ .seq vs n)->(∀vs,o.data≠ .fields vs)->H b=YiQ:=λ{b o} e d1 d2=>by
  have nb:b≠tb:=λq=>by rw[q,htb]at e;cases e;exact d2 _ rfl
  rw[dn nb];cases q:H0 b with
  |none=>rfl
  |some u=>obtain⟨c,vs,rfl⟩:=sq q e;exact absurd rfl (d1 _ _)
 have base_of:∀{b:Addr}{o:Obj},Yt7=YaB->H b=YiQ->(YsY).get? b=YaB:=λe n=>WY e n;have nsK:∀{b:Addr}{m:Str->Option Value},s1.heap.Ns b m->(YsY).Ns b m:=λ{b m} ⟨o,es,ep,e,d,r⟩=>⟨o,es,ep,base_of e (noA e (λ_ _ z=>by rw[d]at z;cases z) λ_ z=>by rw[d]at z;cases z),d,r⟩
 have hKb:K.In (YsY):=λb o e=>base_of (KX b o e) (by
  have nb:b≠tb:=λq=>by rw[q,htk]at e;cases e
  rw[dn nb];cases q:H0 b with
  |none=>rfl
  |some u=>rw[hK b u q]at e;cases e)
 have hM:Mod K mg (YsY):=⟨hKb,nsK hns,⟨mb,nsK hb,hbb⟩,let⟨mc,h1,h2⟩:=hlim;⟨mc,nsK h1,h2⟩,by
  obtain⟨bm,o,b1,b2,b3,b4,b5,b6,b7⟩:=hbm
  exact⟨bm,o,b1,b2,b3,base_of b4 (noA b4 (λ_ _ z=>by rw[b7]at z;cases z) λ_ z=>by rw[b7]at z;cases z),b5,b6,b7⟩⟩
 have e0:Sj P w K mg (YsY) callerA [] s1 H:=⟨rfl,hM,λb o e=>YH e,Wed (UW _ _),Wbp,λb hb=>absurd (show b∈([]:Ybw)from hb) Yao,cg,.of_eq hg⟩;have hl:vals.length=Yez:=by rw[sT hwl];exact hlen
 refine Wc8 ((F _).run callerA [] s1 H ⟨vals,[]⟩ vals (vals.map toV) _ _ hr e0 (hbind s1 vals hl) hV (hsp H _ hT hSH)) λr s' x=>?_;cases r with
 |error e=>exact(hCX H e s' x).elim
 |ok fl=>
  cases fl with
  |next=>exact YsZ
  |brk=>exact YsZ
  |cont=>exact YsZ
  |ret u=>
   obtain⟨v,H',os,bare,un,hok',r',q0,q⟩:=x;obtain⟨ps',hps,_⟩:=hok' tb _ q0;have kept:∀b o,b≠tb->Yt7=YaB->s'.heap.get? b=YaB:=λb o nb e=>by
    cases q2:H b with
    |none=>exact un.keep b o e q2 (by intro z;exact YtY) Yao
    |some u2=>
     rw[dn nb]at q2;rcases hO b with z|⟨ob,u3,z⟩
     ·rw[q2]at z;cases z
     ·have z2:=un.Jl b ob _ (up z);obtain⟨e1,_⟩:=cg b _ (up z);obtain⟨e2,_⟩:=hok' b _ z2;rw[e]at e1;cases e1;exact e2
   have KX':K.In s'.heap:=λb o e=>kept b o (λz=>by rw[z,htk]at e;cases e) (KX b o e);obtain⟨as,hrd⟩:=Dw.reads (R:=R) (cl:=cl) hok' KX' d0 v u q r';refine⟨u,as,rfl,hrd,⟨λb o e=>?_,λb o e=>?_⟩,os,bare⟩
   ·by_cases nb:b=tb
    ·subst nb;rw[htb]at e;cases e;exact .inr (.inl ⟨hct,rfl,#[],ps',rfl,by rw[hps];simp⟩)
    ·exact .inl (kept b o nb e)
   ·by_cases nb:b=tb
    ·subst nb;exact⟨_,hps⟩
    ·exact⟨o,kept b o nb e⟩
def IZ(h:WData.layableAll ds=true):∀d∈ds,YAF<=1048576:=λd hd=>(PySem.W.layableW_iff.mp (Wbe.mp h d hd)).2.2
def Js:∀(cs:List Codec)(a:Codec.denoteAll cs),(Codec.encAll cs a).length=cs.length
 |[],_=>rfl
 |c::cs,a=>by show(Codec.encAll cs a.2).length+1=cs.length+1;rw[Js cs a.2]
def VO{r:OpenSpec}{k:Nat}{q:Program}{loose:YeB}{XP:(Str->Yci)->Heap->Prop}{YP:World->Heap->Prop}{d:DefRec}{K:Params->Yaj}{ps:YeB}{sp:Yaj->Addr->Sp}{lp:Pos}{lq:Str}{nm:Str}
(hwell:r.wellSaid=true)(hdf:d.params.defaults=[])(hlen:r.args.length=Yez)(hr:mj k callerA)(hf:∃e,(recsOf q).find? (λe=>e.name==nm)=some e)(hN:∀w:World,PySem.W.noTabs (YnI)=true)
(hY:∀(w:World)(h:Heap),YP w h->(YnI).In h)
(F:∀(w:World)(mg:Str->Option Value)(fa:Addr)(h:Heap),(YnI).In h->h.Ns mainGlobals mg->mg d.name=some (.ref fa)->
   ∃(fd:FuncData)(fi:Addr)(oi:Obj)(fdi:FuncData),(∀(s:Shared)(us:List Value),Yw0=Yez->BindsTo s fd Yn5 Yog)/\mg nm=some (.ref fi)/\(YnI).lookup fi=some oi/\oi.data=.func fdi/\
    ∀c tb,fdi.code=YvC->Yiu->∀base:Heap,a6 r.prog w (YnI) mg base cN k fa fd ps (sp (YnI) tb))
(hsp:∀(K:PySem.W.Frag)(tb:Addr)(H:Hp)(xs:List V)(a:Codec.denoteAll r.args),H tb=Ymt->Codec.withinAll r.args a=true->Codec.app r.args r.asked a=true->tT K H xs (Codec.encAll r.args a)->
   sp K tb xs H (λv H'=>H' tb=Ymt/\Dw K H' v (Yvk)) λ_ _ _=>False):
  PySem.W.WalkOS q loose XP YP r d [] (λf vs=>PySem.call f vs):=by
 intro w Lv s1 mg mb G Y fa o pm cd doc dV kV ho hd hcd hD hmg hg args vals as hpre hlay hrd hwl hlo;obtain⟨a,e1,e2⟩:=PySem.W.os_pre_some hpre;obtain⟨e3,hwi⟩:=Codec.encAll_of_decAll r.args args a e1;subst e3;have KX:=hY w _ Y;obtain⟨fd,fi,oi,fdi,hb,hmi,hli,hdi,hF⟩:=F w mg fa _ KX G.T.g hmg;obtain⟨ei,hfi⟩:=hf;obtain⟨c,tb,ec,B⟩:=PySem.W.based_of_top G.T hfi hmi (KX _ _ hli) hdi;have hcd2:PySem.W.CodeHd s1.heap c tb:=PySem.W.CodeHd.of B.code B.tab;have hfn:=hF c tb ec hcd2;have htk:(YnI).lookup tb=YiQ:=by
  cases e:(YnI).lookup tb with
  |none=>rfl
  |some o2=>have e2:=KX tb o2 e;rw[B.tab.2]at e2;cases e2;exact absurd (show false=true from Wbe.mp (hN w) _ (PySem.W.mem_of_lookupK e)) WaN
 obtain⟨bm,ob,b1,b2,b3,b4,b5,b6⟩:=G.T.bmain;have hbG:bm≠mainGlobals:=λz=>by obtain⟨o2,es,ep,e,hd2,_⟩:=G.T.g;rw[z,e]at b3;cases b3;rw[hd2]at b6;cases b6
 refine PySem.W.enter_call (Wc8 (Xi (R:=[]) (cl:=classAt Lv.heap) (d0:=Yvk) KX G.T.g G.T.b G.T.builtins G.T.nolimit hg ⟨bm,ob,b1,b2,hbG,b3,b4,b5,b6⟩ B.tab.2 htk B.tab.isCodeTable hwl (Lz _ _) (IZ hlay) hr hfn hb (by rw[Js];exact hlen)
  (λH xs hO hS=>hsp _ tb H xs a hO hwi e2 hS) λH e s' z=>z) λr' s' hq=>?_)
 obtain⟨u,as',rfl,h1,h2,h3,h4⟩:=hq;exact⟨.inl ⟨u,_,as',rfl,λ_=>rfl,h1,(OpenSpec.post_iff hwell hwi _ _).mpr rfl,λz=>Bool.noConfusion (show false=true from z)⟩,h2,h3,h4⟩
end
end L2
end
open PySem PySem.W PyProof.Rows
set_option maxHeartbeats 0 in
theorem PySem.Challenge.cw_codeeditions_s01_answers_holds : PySem.Challenge.rw_codeeditions_s01_answers.Holds := by
 refine Hx.hd.2 ⟨?_⟩
 delta Hx.hd
 dsimp only
 k_fillS
 refine L2.VO (r:=PySem.Challenge.rw_codeeditions_s01_answers) (k:=11) (ps:=["calls"]) (sp:=Ce.Bw) (lp:=Ce.WS) (lq:=Ce.abG) (nm:="editions_in_play") (by decide+kernel) rfl rfl ⟨rfl,by decide,by decide⟩ ⟨_,rfl⟩ (λw=>by kernel_rfl) (λw h Y=>PySem.W.kIn_of Y) ?F ?S
 case F=>
  intro w mg fa h KX G hmg
  refine' Ce.aaB KX hmg ?_ ?_ ?_ ?_ ?_ ?_ ?_ ?_ ?_ ?_ ?_ ?_ ?_ ?_ ?_ ?_ ?_ ?_ ?_ ?_ ?_ ?_ ?_ ?_ ?_ ?_ ?_ ?_ ?_ ?_ ?_ ?_ ?_ ?_ ?_ ?_ ?_ ?_ ?_ ?_ ?_ ?_ ?_ ?_ ?_ ?_ ?_ ?_ ?_ ?_ ?_ ?_ ?_ ?_ ?_ ?_ ?_ ?_ ?_ ?_ ?_ ?_ ?_ ?_ ?_ ?_ ?_ ?_ ?_ ?_ ?_ ?_ ?_ ?_ ?_ ?_ ?_ ?_ ?_ ?_ ?_ ?_ ?_ ?_ ?_ ?_ ?_ ?_ ?_ ?_ ?_ ?_ ?_ ?_ ?_ ?_ ?_ ?_ ?_ ?_ ?_ ?_ ?_ ?_ ?_ ?_ ?_ ?_ ?_ ?_ ?_ ?_ ?_ ?_ ?_ ?_ ?_ ?_ ?_ ?_ ?_ ?_ ?_ ?_ ?_ ?_ ?_ ?_ ?_ ?_ ?_ ?_ ?_ ?_ ?_ ?_ ?_ ?_ ?_ ?_ ?_ ?_ ?_ ?_ ?_ ?_ ?_ ?_ ?_ ?_ ?_ ?_ ?_ ?_ ?_ ?_ ?_ ?_ ?_ ?_ ?_ ?_ ?_ ?_ ?_ ?_ ?_ ?_ ?_ ?_ ?_ ?_ ?_ ?_ ?_ ?_ ?_ ?_ ?_ ?_ ?_ ?_ ?_ ?_ ?_ ?_ ?_ ?_ ?_ ?_ ?_ ?_ ?_ ?_ ?_ ?_ ?_ ?_ ?_ ?_ ?_ ?_ ?_ ?_ ?_ ?_ ?_ ?_ ?_ ?_ ?_ ?_ ?_ ?_ ?_ ?_ ?_ ?_ ?_ ?_ ?_ ?_ ?_ ?_ ?_ ?_ ?_ ?_ ?_ ?_ ?_ ?_ ?_ ?_ ?_ ?_ ?_ ?_ ?_ ?_ ?_ ?_ ?_ ?_ ?_ ?_ ?_ ?_ ?_ ?_ ?_ ?_ ?_ ?_ ?_ ?_ ?_ ?_ ?_ ?_ ?_ ?_ ?_ ?_ ?_ ?_ ?_ ?_ ?_ ?_ ?_ ?_ ?_ ?_ ?_ ?_ ?_ ?_ ?_ ?_ ?_ ?_ ?_ ?_ ?_ ?_ ?_ ?_ ?_ ?_ ?_ ?_ ?_ ?_ ?_ ?_ ?_ ?_ ?_ ?_ ?_ ?_ ?_ ?_ ?_ ?_ ?_ ?_ ?_ ?_ ?_ ?_ ?_ ?_ ?_ ?_ ?_ ?_ ?_ ?_ ?_ ?_ ?_ ?_ ?_ ?_ ?_ ?_ ?_ ?_ ?_ ?_
  all_goals first
   |exact PySem.W.mg_of KX G (by k_is)
   |(show PySem.W.findIn _ _ _=some none;k_is)
   |exact⟨⟨_,_,_,_,_,_,_,_,_,rfl,by k_is,by k_is⟩,by k_is⟩
   |exact⟨by k_is,by k_is,by k_is,by k_is⟩
   |exact⟨by k_is,by k_is,by k_is⟩
   |exact PySem.W.mg_none_of KX G (by k_is)
   |exact⟨_,PySem.W.mg_of KX G (by k_is),⟨_,rfl⟩⟩
   |exact⟨_,PySem.W.mg_of KX G (by k_is),rfl⟩
   |(refine λH=>.inr ⟨_,_,_,by k_is,rfl,rfl,by decide,?_⟩;repeat' first|exact .nil|refine .cons ?_ ?_|exact⟨_,rfl⟩|rfl)
   |decide
   |skip
 case S=>
  intro K tb H xs a htb hwi hask hx
  cases hx with
  |cons h1 h2=>
   cases h2
   cases h1 with
   |lst hs ha=>
    have e:=L2.Tb a.1 _ ha
    subst e
    exact⟨_,a.1,rfl,htb,hs,hask,λp H' ht hp=>⟨ht,.lst (L2.aV.of hp) (L2.Td _)⟩⟩
