import PyProof.Rows.All
import Lean
import PyProof.EqAt
import PyProof.EqKinds
import PyProof.TupleCall
import PyProof.NeKinds
import PyProof.ZipIter
import PyProof.WalksEnum
import PyProof.CompUse
import PyProof.ListRange
import PyProof.Rows.SetFrom
import PyProof.Rows.SortWalk
import PyProof.Rows.SeqMore2
import PyProof.SetRoads
import KE.KRevIter
import PyProof.WalksMore
import PyProof.AutoRange
import PyProof.ListNew
import PyProof.Wp
import PyProof.Logic
import PyProof.StationsW
import PyProof.ExcClass2
import OpenK.KGet
import PyProof.Rows.SortRunsK
import PyProof.Rows.SortShellK
import KE.KDictSum
import PyProof.DictTruth
import PyProof.RangeIter
import PyProof.RaisesMany
import PyProof.AutoListH
import PyProof.Draws
import PySem.Challenge.RW_lotmeal_k25_bettered
import KE.KIsAll
import KE.KTurns
import KE.KItem
import KE.LcSums
import KE.IntBitsLaws
set_option Elab.async false
set_option compiler.extract_closed false
open Lean in
local macro_rules(kind:=Lean.Parser.Command.declaration)|x=>if["def","abbrev"].contains x[1][0].getAtomVal&&x[0][4].isNone then pure<|x.modifyArg 0 (·.setArg 4 (mkNullNode #[mkNode `Lean.Parser.Command.noncomputable #[mkAtom ""]])) else Macro.throwUnsupported
set_option linter.all false
set_option maxRecDepth 100000
set_option maxHeartbeats 4000000
set_option maxHeartbeats 0 in
theorem wSd0 : PySem.Challenge.rw_lotmeal_k25_bettered.wellSaid = true := by kernel_rfl
local macro_rules|`(tactic|obtain $p:rcasesPatMed:_:=$e)=>`(tactic|(refine Classical.byContradiction fun hn=>?_;obtain $p:rcasesPatMed:=$e<;>(refine hn ?_;clear hn)))
local macro_rules|`(term|'O')=>`(term|by lia)|`(term|'Q')=>`(term|by decide)|`(term|'Z')=>`(term|by omega)|`(term|'J')=>`(term|by simp_all)|`(term|'X')=>`(term|by rfl)|`(term|'Y')=>`(term|by simp)|`(term|'W')=>`(term|by decide +kernel)|`(term|'H')=>`(term|(λ_ _ h=>by repeat first|exact h.1▸rfl|obtain⟨_,h⟩:=h))
local macro_rules|`(tactic|ac_rfl)=>`(tactic|(with_reducible conv=>arg 5;whnf))
local macro_rules|`(tactic|nofun)=>`(tactic|(try dsimp -zeta only))
abbrev vn:=PySem.Value
abbrev adG:=PySem.Addr
abbrev adJ:=PySem.Shared
abbrev afU:=PySem.Program
abbrev afV:=PySem.World
abbrev afW:=PySem.Stmt
def aa:=@List.length_map
def ab:=@PySem.wpAny_bind
def ar:=@List.getElem?_eq_getElem
def ba:=@List.mem_of_getElem?
def br:=@Nat.le_refl
def ff:=@List.mem_cons
def gr:=@List.getElem?_eq_some_iff
def gz:=@List.map_map
def ir:=@List.getD_eq_getElem?_getD
def i4:=@List.mem_append_right
def i8:=@List.mem_map
def l8:=@List.getElem?_map
def l9:=@List.mem_range
def mf:=@PySem.Heap.get?_push_of_some
def nt:=@PySem.Heap.lt_size
def qr:=@List.mem_append
def rf:=@if_neg
def ue:=@PyProof.Rows.wpS_bind
def uu:=@if_pos
def vc:=@List.length_append
def wb:=@List.getElem?_append_right
def xw:=@List.mem_append_left
def xy:=@List.length_range
def zd:=@Nat.zero_le
def ze:=@Nat.lt_of_lt_of_le
def zw:=@List.append_nil
def AE:=@List.nodup_cons
def AL:=@PyProof.Rows.wpS_pure
def AM:=@Bool.false_ne_true
def AN:=@List.nodup_append
def AS:=@Nat.ne_of_lt
def BB:=@List.mem_singleton
def BN:=@PySem.Heap.get?_push_size
def BS:=@Int.toNat_natCast
def BY:=@List.mem_filter
def B0:=@List.map_append
def Cc:=@beq_iff_eq
def Cf:=@List.getElem?_append_left
def Cn:=@Nat.le_trans
def Co:=@List.size_toArray
def Cs:=@PyProof.Rows.KeyOrd.kle_trans
def CS:=@List.append_assoc
def DD:=@Array.getElem?_toList
def DO:=@List.getElem_of_mem
def EM:=@List.mem_of_mem_take
def EN:=@PySem.F.plainAttrs_list
def EO:=@decide_eq_true
def ES:=@Classical.byContradiction
def ET:=@Nat.lt_or_ge
def EU:=@List.take_append_drop
def FF:=@List.getElem?_set_ne
def GG:=@Option.some.inj
def GS:=@of_decide_eq_true
def ID:=@Bool.and_eq_true
def IF:=@List.length_cons
def IS:=@Array.toList_append
def JJ:=@List.map_cons
def Lm:=@Int.mul_le_mul_of_nonneg_right
def Lo:=@PyProof.Rows.KeyOrd.kle_of_klt
def LB:=@List.length_take
def LF:=@List.lookup_cons
def LG:=@decide_eq_false
def LH:=@PyProof.Rows.callWith_type1
def LM:=@List.idxOf_lt_length_iff
def LP:=@Nat.lt_of_le_of_lt
def LS:=@Int.emod_lt_of_pos
def Mc:=@List.contains_iff_mem
def Me:=@List.getElem?_range
def MW:=@List.mem_cons_of_mem
def Na:=@List.sum_cons
def Nd:=@PySem.Heap.get?_update_self
def Nl:=@List.Perm.append_left
def NG:=@PyProof.Rows.wpS_forRange
def NH:=@PyProof.Rows.KeyOrd.kle_refl
def NJ:=@Array.length_toList
def NL:=@List.getElem?_toArray
def NO:=@decide_eq_true_eq
def Of:=@PySem.wpAny_setState_of
def OE:=@List.getElem?_of_mem
def OF:=@PySem.Heap.get?_update_other
def OK:=@List.pairwise_iff_getElem
def ON:=@Int.ediv_mul_cancel
def OP:=@PySem.Heap.SameBut.update
def OR:=@PySem.F.slot_list_append
def Pc:=@PySem.F.type_list_append
def Pd:=@List.getElem?_eq_none
def Pe:=@List.length_filter_le
def Pf:=@List.getElem?_zipWith
def Po:=@List.ext_getElem?
def PM:=@Array.toList_push
def RI:=@List.pairwise_map
def Sk:=@Int.le_of_lt
def Sm:=@PySem.wpAny_holding
def SI:=@List.length_set
def SO:=@PySem.wpAny_ite_split
def TM:=@Int.emod_nonneg
def US:=@PySem.wpAny_call_entry
def VT:=@List.Perm.append_right
def WA:=@PySem.wpAny_newObj_type
def WE:=@Array.getElem?_eq_getElem
def WI:=@List.mem_or_eq_of_mem_set
def WJ:=@Nat.not_lt_zero
def WS:=@Nat.zero_add
def YA:=@List.length_singleton
def YE:=@List.mem_cons_self
def YI:=@PySem.wpAny_truthy_bool
def YO:=@PySem.Heap.get?_push_ne
def YU:=@Nat.le_of_lt_succ
def Zl:=@Int.mul_lt_mul_of_pos_right
def Zp:=@List.reverse_append
def Zs:=@Option.map_eq_some_iff
def aaa:=@List.getElem?_set_self
def aab:=@List.perm_ext_iff_of_nodup
def aat:=@List.filter_cons
def aba:=@PyProof.Rows.wpS_modify
def abc:=@Nat.lt_irrefl
def adm:=@List.perm_append_comm
def adv:=@Nat.le_of_ble_eq_true
def adK:=@Int.natAbs_dvd_natAbs
def adL:=@PyProof.Rows.wpS_mono
def adM:=@List.mem_iff_getElem?
def adN:=@PySem.Obj.data_mapFields
def adO:=@Int.mul_nonneg
def adP:=@List.mem_of_mem_drop
def adQ:=@PySem.wpAny_rule
def adR:=@PySem.wpAny_passesOwn
def adS:=@Int.zero_add
def adT:=@List.filterMap_cons
def adU:=@Ne.symm
def adV:=@PySem.mem_of_lookup
def adW:=@List.filter_eq_self
def adX:=@PySem.wpAny_callSpecial?_slot
def adY:=@Nat.le_add_right
def adZ:=@List.all_eq_true
def ad0:=@List.take_length
def ad1:=@List.getElem_mem
def ad2:=@List.nodup_range
def ad3:=@List.drop_eq_nil_of_le
def ad4:=@List.filter_append
def ad5:=@List.getElem?_drop
def ad6:=@Nat.ne_of_gt
def ad7:=@PySem.PassesOwn.never
def ad8:=@Nat.succ_pos
def ad9:=@PySem.F.called_set
def aea:=@List.sum_append
def aeb:=@List.take_sublist
def aec:=@Nat.lt_succ_of_lt
def aed:=@Nat.le_of_succ_le
def aee:=@Int.gcd_dvd_right
def aef:=@Array.getElem?_eq_some_iff
def aeg:=@Array.perm_iff_toList_perm
def aeh:=@Array.toList_reverse
def aei:=@Int.natAbs_mul
def aej:=@List.mem_take_iff_getElem
def aek:=@Nat.lt_succ_self
def ael:=@List.length_drop
def aem:=@Int.gcd_dvd_left
def aen:=@PySem.wpAny_askSetting
def aeo:=@List.mem_flatMap
def aep:=@List.take_append
def aeq:=@Nat.le_succ
def aer:=@PySem.wpAny_of_eq
def aes:=@Int.mul_add
def aet:=@Nat.le_of_lt
def aeu:=@Option.isSome_iff_exists
def aev:=@Nat.sub_self
def aew:=@PySem.wpAny_Call_Name_kw
def aex:=@List.foldl_cons
def aey:=@PySem.pushCells_keeps
def aez:=@PySem.plainId_quiet
def aeA:=@PySem.codeAny_builtin
def aeB:=@PySem.wpAny_specialOf
def aeC:=@PyProof.Rows.F.plain_set_update_loop
def aeD:=@List.Perm.of_eq
def aeE:=@decide_eq_false_iff_not
def aeF:=@List.take_succ_eq_append_getElem
def aeG:=@List.range_succ_eq_map
def aeH:=@List.getElem_take
def aeI:=@Nat.mod_lt
def aeJ:=@List.map_id
def aeK:=@List.reverse_cons
def aeL:=@Bool.not_eq_true'
def aeM:=@PySem.Heap.size_push
def aeN:=@Bool.and_false
def aeO:=@Int.dvd_natAbs
def aeP:=@List.take_zero
def aeQ:=@PySem.wpAny_fieldsOf
def aeR:=@PySem.codeAny_mono
def aeS:=@PySem.W.kia_one
def aeT:=@Nat.succ_le_succ
def aeU:=@PySem.wpAny_isInstance
def aeV:=@PySem.Heap.size_update
def aeW:=@List.getElem_map
def aeX:=@List.take_append_of_le_length
def aeY:=@Nat.pow_le_pow_right
def aeZ:=@List.pairwise_append
def ae0:=@List.Pairwise.of_map
def ae1:=@PySem.F.slot_list_reversed
def ae2:=@Bool.or_eq_false_iff
def ae3:=@Int.le_of_dvd
def ae4:=@PySem.wpAny_attempt
def ae5:=@Array.getElem?_setIfInBounds
def ae6:=@PySem.wpAny_mono
def ae7:=@PySem.call_meets
def ae8:=@PySem.wpAny_execs_nil
def ae9:=@Bool.eq_iff_iff
def afa:=@PySem.W.plainGet_of
def afb:=@beq_eq_false_iff_ne
def afc:=@List.filter_map
def afd:=@Array.getD_eq_getD_getElem?
def afe:=@PySem.wpAny_setEntries_of
def aff:=@Int.le_refl
def afg:=@List.length_pos_iff
def afh:=@List.mem_filterMap
def afi:=@PySem.W.callWith_K
def afj:=@Int.lt_or_le
def afk:=@Bool.false_eq_true
def afl:=@Nat.add_sub_cancel
def afm:=@Array.size_extract
def afn:=@PyProof.Rows.pairsOf_size
def afo:=@Nat.add_right_comm
def afp:=@of_decide_eq_false
def afq:=@List.sum_singleton
def afr:=@List.contains_cons
def afs:=@Int.mul_neg_of_neg_of_pos
def aft:=@List.extract_eq_take_drop
def afu:=@PyProof.Rows.wpS_get
def afv:=@PySem.wpAny_seqItems
def afw:=@List.getElem?_eq_none_iff
def afx:=@PySem.F.plain_extend_loop
def afy:=@PySem.wpAny_pyIter_list
def afz:=@PySem.W.kitx_list
def afA:=@bne_self_eq_false
def afB:=@PySem.wpAny_pyIter_slot
def afC:=@List.drop_sublist
def afD:=@List.filter_congr
def afE:=@PySem.wpAny_standAt
def afF:=@PySem.sizeLine_eq
def afG:=@List.all_cons
def afH:=@PySem.signature?_of
def afI:=@PyProof.Rows.wpS_lift
def afJ:=@List.map_drop
def afK:=@Int.ediv_le_self
def afL:=@List.not_mem_nil
def afM:=@List.isEmpty_iff
def afN:=@decide_eq_decide
def afO:=@List.isEmpty_map
def afP:=@Nat.le_of_eq
def afQ:=@List.of_mem_zip
def afR:=@Nat.min_self
def afS:=@List.set_set
def afT:=@Nat.min_eq_left
open PySem.W (Frag codeIn emptyDict findIn fnOf hasDictIn instObj isFn keepIn kia_one lookIn mg_of nsIn plainGet)
abbrev LI:=List Int
abbrev LL:=List LI
theorem cw : 1000<PySem.sizeLine:='Q'
namespace L2
open PySem PySem.W
section
def vE (tb:String->Option Builtin)(p:afU)(w:afV)(gW:Nat)(ann:Option vn):Nat->SharedT->Thread->Option SharedT
 |0,_,_=>none
 |n+1,s,t=>match through t with
  |true=>some s
  |false=>match stepOk gW ann t with
   |false=>none
   |true=>match stepT (denote tb) p w s t with
    |some (s',t')=>vE tb p w gW ann n s' t'
    |none=>none
theorem KJ:∀{n:Nat} {s s':SharedT} {t:Thread},vE tb p w gW ann n s t=some s'->topRun tb p w gW ann n s.abs t=some s'.abs
 |0,_,_,_,h=>by cases h
 |n+1,s,s',t,h=>by
  unfold vE at h;unfold topRun;cases ht:through t with
  |true=>rw[ht]at h;cases h;rfl
  |false=>
   rw[ht]at h;cases hk:stepOk gW ann t with
   |false=>rw[hk]at h;cases h
   |true=>
    rw[hk]at h;cases hs:stepT (denote tb) p w s t with
    |none=>rw[hs]at h;cases h
    |some r=>obtain⟨pV,adA⟩:=r;rw[hs]at h;rw[stepT_spec hs];exact KJ h
end
def treeOf (l:List Obj):Nat->Nat->Nat->BT
 |0,_,_=>.nil
 |f+1,a,b=>match l[b]? with
  |some o=>.node o (treeOf l f (2*a) (a+b)) (treeOf l f (2*a) (2*a+b))
  |none=>.nil
theorem Wu {Yf:adJ->α}{Ya:afV->α}{mV:Params->BT}(abG:∀w,(fencedOpening treeTable p w N).map (λs=>(s.heap,s.gens,s.drawn,s.toks))=some (absHeap (mV w.params) gW life,EW,PL,PN))(size:∀w:afV,((absHeap (mV w.params) gW life).isNs mainGlobals&&EW.size==0,(absHeap (mV w.params) gW life).nsMap mainGlobals "__annotations__")=(true,ann))(run:∀w,(λos=>(vE treeTable p w gW ann M ⟨mV w.params,gW,life,EW,PL,PN,os⟩ (topStub p)).map λst=>((staticsOk (importedModules p.main.body) (absHeap (mV w.params) gW life) st.abs.heap&&namesBound p st.abs.heap&&gensDone st.abs&&laidKept (absHeap (mV w.params) gW life) st.abs.heap),openSeen q loose (importedModules p.main.body) Xt g0 st.abs,Yf st.abs))=λ_=>some (true,openGood q loose,Ya w))(le:Nat.ble M N=true):LeftO p q loose Xt Yf Ya N g0:=λw=>by
 obtain⟨⟨h,gs,d,k,os⟩,e,e'⟩:_:=Zs.mp (abG w);obtain⟨rfl,rfl,rfl,rfl⟩:h=absHeap (mV w.params) gW life/\gs=EW/\d=PL/\k=PN:='J'
 obtain⟨z1,z3⟩:=Prod.mk.inj (size w);obtain⟨st,hr,hl⟩:=Zs.mp (congrFun (run w) os);obtain⟨l1,hl⟩:=Prod.mk.inj hl;obtain⟨l2,l3⟩:=Prod.mk.inj hl;have r:=topRun_mono (N-M) _ _ _ _ (KJ hr);rw[show M+(N-M)=N by simp_all]at r;have t:topFrom treeTable p w N ⟨absHeap (mV w.params) gW life,gs,d,k,os⟩=some st.abs:=by
  unfold topFrom;rw[z1,absHeap_size,z3];have r':topRun treeTable p w gW ann N ⟨absHeap (mV w.params) gW life,gs,d,k,os⟩ (topStub p)=some st.abs:=r
  simp_all
 unfold openEnds
 simp_all
noncomputable def sG (P:Params):BT:=treeOf (boot_heap P).objs.toList 12 1 0
theorem boot_abs (P:Params):absHeap (sG P) 11 {}=boot_heap P:=by kernel_rfl
theorem Wv (w:afV):((absHeap (sG w.params) 11 {}).isNs mainGlobals&&(Array.mk []:Array GenState).size==0,(absHeap (sG w.params) 11 {}).nsMap mainGlobals "__annotations__")=(true,some (.ref 6)):=by kernel_rfl
noncomputable def nQ (p:afU) (w:afV) (N:Nat) (os:OsState):Option SharedT:=vE treeTable p w 11 (some (.ref 6)) N ⟨sG w.params,11,{},Array.mk [],boot_drawn,boot_toks,os⟩ (topStub p)
noncomputable def DQ (p:afU) (w:afV) (st:SharedT):Bool:=staticsOk (importedModules p.main.body) (absHeap (sG w.params) 11 {}) st.abs.heap&&namesBound p st.abs.heap&&gensDone st.abs&&laidKept (absHeap (sG w.params) 11 {}) st.abs.heap
theorem Ww {Yf:adJ->α}{Ya:afV->α}{N:Nat}(e:opening p=plainProg p.main.scope.names)(hN:Nat.ble 600 N=true)(f:∀s,fenceModules? p s=some s)(r1:∀w,(λos=>(nQ p w N os).map λst=>DQ p w st)=λ_=>some true)(r2:∀w,(λos=>(nQ p w N os).map λst=>openSeen q loose (importedModules p.main.body) Xt g0 st.abs)=λ_=>some (openGood q loose))(r3:∀w,(λos=>(nQ p w N os).map λst=>Yf st.abs)=λ_=>some (Ya w)):LeftO p q loose Xt Yf Ya N g0:=
 Wu (λw=>(boot_open e hN f w).trans rfl) Wv (λw=>funext λos=>by
  have a:=congrFun (r1 w) os;have b:=congrFun (r2 w) os;have c:=congrFun (r3 w) os;show(nQ p w N os).map (λst=>(DQ p w st,openSeen q loose (importedModules p.main.body) Xt g0 st.abs,Yf st.abs))=_;cases h:nQ p w N os with
  |none=>rw[h]at a;cases a
  |some st=>
   simp_all) 'J'
def QG (s:afW):Arguments:=match s with
 | .FunctionDef _ a _ _ _ _ _ _ _ _=>a
 |_=>{posonlyargs:=[],args:=[],vararg:=none,kwonlyargs:=[],kw_defaults:=[],kwarg:=none,defaults:=[]}
def QH (s:afW):List afW:=match s with
 | .FunctionDef _ _ b _ _ _ _ _ _ _=>b
 |_=>[]
def QI (s:afW):Scope:=match s with
 | .FunctionDef _ _ _ _ _ _ sc _ _ _=>sc
 |_=>{kind:=.function,names:=[],isGenerator:=false,isCoroutine:=false}
def kE (s:afW)(j:Nat):afW:=match s with
 | .ClassDef _ _ _ b _ _ _ _ _ _ _=>b.getD j (.Pass ⟨0,0,0,0⟩)
 |_=>.Pass ⟨0,0,0,0⟩
def ay (P:Params)(x:Str)(n:Nat)(v:vn):DictEntry:=.mk (PyData.keyHash P x) (.str x n) v
def aF:Obj:=Obj.mk (.type "tuple") none (.seq #[] 0) #[]
def oF (x:Array vn):Obj:=Obj.mk (.type "tuple") none (.seq x 0) #[]
def QJ (x:Array vn):Obj:=Obj.mk (.type "code") none (.fields x) #[]
def bF (n:Str)(a l k r x:Nat)(y z:vn)(v u:Nat):Obj:=QJ #[.str n a,.str n (a+1),.str "/claim/cut.py" (a+2),.int l 0,.int k 0,.int 0 0,.int 0 0,.int 3 0,.ref r,.bool true,.int 181 0,.ref x,.none,y,z,.ref v,.int u 0,.int l 0,.str "/claim/cut.py" (u+1)]
def bG (n:Str)(s:afW)(d m c:vn):Obj:=Obj.mk (.type "function") none (.func (FuncData.mk n n (QG s) (.stmts (QH s)) (QI s) 3 [] d .none .none m none c .none 0)) #[]
def QK:Nat->List Str->List vn
 |_,[] => []
 |a,x::l=>.str x a::QK (a+1) l
def cJ (a:Nat)(l:List Str):Obj:=oF (QK a l).toArray
def kF (n q:Str)(a l k r x:Nat)(y z:vn)(v u:Nat):Obj:=QJ #[.str n a,.str q (a+1),.str "/claim/cut.py" (a+2),.int l 0,.int k 0,.int 0 0,.int 0 0,.int 3 0,.ref r,.bool true,.int 181 0,.ref x,.none,y,z,.ref v,.int u 0,.int l 0,.str "/claim/cut.py" (u+1)]
def kG (n q:Str)(s:afW)(d m c:vn):Obj:=Obj.mk (.type "function") none (.func (FuncData.mk n q (QG s) (.stmts (QH s)) (QI s) 3 [] d .none .none m none c .none 0)) #[]
end L2
namespace iV
open PySem PySem.W L2
abbrev pr:afU:=PySem.Challenge.rw_lotmeal_k25_bettered.row.prog
def tp (i:Nat):afW:=pr.main.body.getD i (.Pass ⟨0,0,0,0⟩)
def m0:vn:=.str "lotmeal.errors" 187
def m1:vn:=.str "lotmeal.fractions" 305
def m2:vn:=.str "lotmeal.tables" 373
def m3:vn:=.str "lotmeal.judged" 409
def m4:vn:=.str "lotmeal.better" 447
def m5:vn:=.str "law_lotmeal_k25_bettered" 545
noncomputable def hK:Params->Frag:=λP=>
 (nat_lit 2,boot_o_2 P)::
 (nat_lit 3,(Obj.mk (.type "dict") none (.dict #[(ay P "__name__" 165 (.str "law_lotmeal_k25_bettered" 545)),(ay P "__doc__" 166 .none),(ay P "__package__" 167 .none),(ay P "__loader__" 168 (.builtin "__main__.__loader__#opaque")),(ay P "__spec__" 169 .none),(ay P "__annotations__" 170 (.ref 6)),(ay P "__builtins__" 171 (.ref 4)),(ay P "__file__" 173 (.str "/claim/cut.py" 172)),(ay P "__cached__" 174 .none),(ay P "LotError" 206 (.ref 24)),(ay P "NoNumber" 222 (.ref 37)),(ay P "TooGreat" 238 (.ref 49)),(ay P "NoAsker" 254 (.ref 61)),(ay P "NoThing" 279 (.ref 80)),(ay P "Twice" 304 (.ref 99)),(ay P "is_whole" 313 (.ref 108)),(ay P "common_part" 322 (.ref 115)),(ay P "fraction" 332 (.ref 123)),(ay P "plus" 340 (.ref 130)),(ay P "sum_of" 349 (.ref 137)),(ay P "common_bottom" 358 (.ref 144)),(ay P "bottom_of_all" 364 (.ref 149)),(ay P "parts_of" 372 (.ref 156)),(ay P "MOST" 376 (.int 6 375)),(ay P "MOST_COUNT" 378 (.int 9 377)),(ay P "check_orders" 384 (.ref 161)),(ay P "table_of" 390 (.ref 166)),(ay P "full_order" 396 (.ref 171)),(ay P "first_left" 402 (.ref 176)),(ay P "dealt_of" 408 (.ref 181)),(ay P "wishes" 416 (.ref 186)),(ay P "over_pairs" 422 (.ref 191)),(ay P "full_things" 428 (.ref 196)),(ay P "lined_up" 434 (.ref 201)),(ay P "ring_among" 440 (.ref 206)),(ay P "judged" 446 (.ref 211)),(ay P "Market" 538 (.ref 272)),(ay P "bettered" 544 (.ref 281)),(ay P "_law_cell_at" 554 (.ref 288)),(ay P "_law_stream" 565 (.ref 295)),(ay P "_law_order" 577 (.ref 302)),(ay P "_law_orders" 587 (.ref 309)),(ay P "_law_counts" 597 (.ref 316)),(ay P "_law_divisor" 605 (.ref 323)),(ay P "_law_lowest" 614 (.ref 330)),(ay P "_law_turn_deal" 620 (.ref 335)),(ay P "_law_any_deal" 626 (.ref 340)),(ay P "_law_drawn" 632 (.ref 345)),(ay P "_law_full" 638 (.ref 350)),(ay P "_law_plus" 646 (.ref 357)),(ay P "_law_under" 654 (.ref 364)),(ay P "_law_sums" 666 (.ref 371)),(ay P "_law_no_less" 676 (.ref 378)),(ay P "_law_tabled" 682 (.ref 383)),(ay P "_law_whole" 689 (.ref 390)),(ay P "_law_is_row" 698 (.ref 397)),(ay P "_law_column" 708 (.ref 404)),(ay P "_law_are_shares" 719 (.ref 411)),(ay P "_law_wishes" 725 (.ref 416)),(ay P "_law_left" 738 (.ref 423)),(ay P "_law_no_ring" 744 (.ref 428)),(ay P "_law_better" 756 (.ref 435)),(ay P "_law_alone" 762 (.ref 440)),(ay P "law" 768 (.ref 445))] 64) #[]))::
 (nat_lit 15,(oF #[(.type "ValueError")]))::
 (nat_lit 22,aF)::
 (nat_lit 23,(Obj.mk (.type "dict") none (.dict #[(ay P "__module__" 196 (.str "lotmeal.errors" 187)),(ay P "__firstlineno__" 200 (.int 2 199)),(ay P "__static_attributes__" 201 (.ref 22)),(ay P "__weakref__" 203 (.ref 25)),(ay P "__doc__" 204 .none)] 3) #[]))::
 (nat_lit 24,(Obj.mk (.type "type") none (.cls (ClassData.mk "LotError" [(.type "ValueError")] [(.ref 24),(.type "ValueError"),(.type "Exception"),(.type "BaseException"),(.type "object")] 23 "LotError" true [] [(.ref 37),(.ref 49),(.ref 61),(.ref 80),(.ref 99)] false none false)) #[(some (.ref 15)),none,(some (.str "LotError" 189)),(some (.str "LotError" 197)),(some (.builtin "ValueError.__new__")),(some (.bool true))]))::
 (nat_lit 25,(Obj.mk (.type "getset_descriptor") none (.fields #[(.str "__weakref__" 202),(.ref 24),(.builtin "ExceptionGroup.__weakref__"),.none]) #[]))::
 (nat_lit 28,(oF #[(.ref 24)]))::
 (nat_lit 35,aF)::
 (nat_lit 36,(Obj.mk (.type "dict") none (.dict #[(ay P "__module__" 214 (.str "lotmeal.errors" 187)),(ay P "__firstlineno__" 218 (.int 4 217)),(ay P "__static_attributes__" 219 (.ref 35)),(ay P "__doc__" 220 .none)] 2) #[]))::
 (nat_lit 37,(Obj.mk (.type "type") none (.cls (ClassData.mk "NoNumber" [(.ref 24)] [(.ref 37),(.ref 24),(.type "ValueError"),(.type "Exception"),(.type "BaseException"),(.type "object")] 36 "NoNumber" true [] [] false none false)) #[(some (.ref 28)),none,(some (.str "NoNumber" 207)),(some (.str "NoNumber" 215)),(some (.builtin "ValueError.__new__")),(some (.bool true))]))::
 (nat_lit 40,(oF #[(.ref 24)]))::
 (nat_lit 47,aF)::
 (nat_lit 48,(Obj.mk (.type "dict") none (.dict #[(ay P "__module__" 230 (.str "lotmeal.errors" 187)),(ay P "__firstlineno__" 234 (.int 6 233)),(ay P "__static_attributes__" 235 (.ref 47)),(ay P "__doc__" 236 .none)] 2) #[]))::
 (nat_lit 49,(Obj.mk (.type "type") none (.cls (ClassData.mk "TooGreat" [(.ref 24)] [(.ref 49),(.ref 24),(.type "ValueError"),(.type "Exception"),(.type "BaseException"),(.type "object")] 48 "TooGreat" true [] [] false none false)) #[(some (.ref 40)),none,(some (.str "TooGreat" 223)),(some (.str "TooGreat" 231)),(some (.builtin "ValueError.__new__")),(some (.bool true))]))::
 (nat_lit 52,(oF #[(.ref 24)]))::
 (nat_lit 59,aF)::
 (nat_lit 60,(Obj.mk (.type "dict") none (.dict #[(ay P "__module__" 246 (.str "lotmeal.errors" 187)),(ay P "__firstlineno__" 250 (.int 8 249)),(ay P "__static_attributes__" 251 (.ref 59)),(ay P "__doc__" 252 .none)] 2) #[]))::
 (nat_lit 61,(Obj.mk (.type "type") none (.cls (ClassData.mk "NoAsker" [(.ref 24)] [(.ref 61),(.ref 24),(.type "ValueError"),(.type "Exception"),(.type "BaseException"),(.type "object")] 60 "NoAsker" true [] [] false none false)) #[(some (.ref 52)),none,(some (.str "NoAsker" 239)),(some (.str "NoAsker" 247)),(some (.builtin "ValueError.__new__")),(some (.bool true))]))::
 (nat_lit 64,(oF #[(.ref 24)]))::
 (nat_lit 71,aF)::
 (nat_lit 73,(cJ 270 ["self", "asker"]))::
 (nat_lit 74,aF)::
 (nat_lit 76,(kF "__init__" "NoThing.__init__" 267 12 2 71 72 (.ref 73) (.ref 74) 75 272))::
 (nat_lit 77,(kG "__init__" "NoThing.__init__" (kE (tp 5) 0) .none m0 (.ref 76)))::
 (nat_lit 78,(cJ 275 ["asker"]))::
 (nat_lit 79,(Obj.mk (.type "dict") none (.dict #[(ay P "__module__" 262 (.str "lotmeal.errors" 187)),(ay P "__firstlineno__" 266 (.int 10 265)),(ay P "__init__" 274 (.ref 77)),(ay P "__static_attributes__" 276 (.ref 78)),(ay P "__doc__" 277 .none)] 2) #[]))::
 (nat_lit 80,(Obj.mk (.type "type") none (.cls (ClassData.mk "NoThing" [(.ref 24)] [(.ref 80),(.ref 24),(.type "ValueError"),(.type "Exception"),(.type "BaseException"),(.type "object")] 79 "NoThing" true [] [] false none false)) #[(some (.ref 64)),none,(some (.str "NoThing" 255)),(some (.str "NoThing" 263)),(some (.builtin "ValueError.__new__")),(some (.bool true))]))::
 (nat_lit 83,(oF #[(.ref 24)]))::
 (nat_lit 90,aF)::
 (nat_lit 92,(cJ 295 ["self", "asker"]))::
 (nat_lit 93,aF)::
 (nat_lit 95,(kF "__init__" "Twice.__init__" 292 17 2 90 91 (.ref 92) (.ref 93) 94 297))::
 (nat_lit 96,(kG "__init__" "Twice.__init__" (kE (tp 6) 0) .none m0 (.ref 95)))::
 (nat_lit 97,(cJ 300 ["asker"]))::
 (nat_lit 98,(Obj.mk (.type "dict") none (.dict #[(ay P "__module__" 287 (.str "lotmeal.errors" 187)),(ay P "__firstlineno__" 291 (.int 15 290)),(ay P "__init__" 299 (.ref 96)),(ay P "__static_attributes__" 301 (.ref 97)),(ay P "__doc__" 302 .none)] 2) #[]))::
 (nat_lit 99,(Obj.mk (.type "type") none (.cls (ClassData.mk "Twice" [(.ref 24)] [(.ref 99),(.ref 24),(.type "ValueError"),(.type "Exception"),(.type "BaseException"),(.type "object")] 98 "Twice" true [] [] false none false)) #[(some (.ref 83)),none,(some (.str "Twice" 280)),(some (.str "Twice" 288)),(some (.builtin "ValueError.__new__")),(some (.bool true))]))::
 (nat_lit 102,aF)::
 (nat_lit 104,(cJ 310 ["number"]))::
 (nat_lit 105,aF)::
 (nat_lit 107,(bF "is_whole" 307 21 1 102 103 (.ref 104) (.ref 105) 106 311))::
 (nat_lit 108,(bG "is_whole" (tp 8) .none m1 (.ref 107)))::
 (nat_lit 109,aF)::
 (nat_lit 111,(cJ 317 ["one", "other", "rest"]))::
 (nat_lit 112,aF)::
 (nat_lit 114,(bF "common_part" 314 23 2 109 110 (.ref 111) (.ref 112) 113 320))::
 (nat_lit 115,(bG "common_part" (tp 9) .none m1 (.ref 114)))::
 (nat_lit 116,(oF #[(.int 1 323)]))::
 (nat_lit 117,aF)::
 (nat_lit 119,(cJ 327 ["top", "bottom", "part"]))::
 (nat_lit 120,aF)::
 (nat_lit 122,(bF "fraction" 324 29 2 117 118 (.ref 119) (.ref 120) 121 330))::
 (nat_lit 123,(bG "fraction" (tp 10) (.ref 116) m1 (.ref 122)))::
 (nat_lit 124,aF)::
 (nat_lit 126,(cJ 336 ["one", "other"]))::
 (nat_lit 127,aF)::
 (nat_lit 129,(bF "plus" 333 38 2 124 125 (.ref 126) (.ref 127) 128 338))::
 (nat_lit 130,(bG "plus" (tp 11) .none m1 (.ref 129)))::
 (nat_lit 131,aF)::
 (nat_lit 133,(cJ 344 ["some", "total", "one"]))::
 (nat_lit 134,aF)::
 (nat_lit 136,(bF "sum_of" 341 40 1 131 132 (.ref 133) (.ref 134) 135 347))::
 (nat_lit 137,(bG "sum_of" (tp 12) .none m1 (.ref 136)))::
 (nat_lit 138,aF)::
 (nat_lit 140,(cJ 353 ["some", "least", "one"]))::
 (nat_lit 141,aF)::
 (nat_lit 143,(bF "common_bottom" 350 45 1 138 139 (.ref 140) (.ref 141) 142 356))::
 (nat_lit 144,(bG "common_bottom" (tp 13) .none m1 (.ref 143)))::
 (nat_lit 145,aF)::
 (nat_lit 148,(bF "bottom_of_all" 359 50 1 145 146 .none .none 147 362))::
 (nat_lit 149,(bG "bottom_of_all" (tp 14) .none m1 (.ref 148)))::
 (nat_lit 150,aF)::
 (nat_lit 152,(cJ 368 ["one", "bottom"]))::
 (nat_lit 153,aF)::
 (nat_lit 155,(bF "parts_of" 365 52 2 150 151 (.ref 152) (.ref 153) 154 370))::
 (nat_lit 156,(bG "parts_of" (tp 15) .none m1 (.ref 155)))::
 (nat_lit 157,aF)::
 (nat_lit 160,(bF "check_orders" 379 57 2 157 158 .none .none 159 382))::
 (nat_lit 161,(bG "check_orders" (tp 19) .none m2 (.ref 160)))::
 (nat_lit 162,aF)::
 (nat_lit 165,(bF "table_of" 385 64 2 162 163 .none .none 164 388))::
 (nat_lit 166,(bG "table_of" (tp 20) .none m2 (.ref 165)))::
 (nat_lit 167,aF)::
 (nat_lit 170,(bF "full_order" 391 73 2 167 168 .none .none 169 394))::
 (nat_lit 171,(bG "full_order" (tp 21) .none m2 (.ref 170)))::
 (nat_lit 172,aF)::
 (nat_lit 175,(bF "first_left" 397 77 2 172 173 .none .none 174 400))::
 (nat_lit 176,(bG "first_left" (tp 22) .none m2 (.ref 175)))::
 (nat_lit 177,aF)::
 (nat_lit 180,(bF "dealt_of" 403 79 2 177 178 .none .none 179 406))::
 (nat_lit 181,(bG "dealt_of" (tp 23) .none m2 (.ref 180)))::
 (nat_lit 182,aF)::
 (nat_lit 185,(bF "wishes" 411 82 2 182 183 .none .none 184 414))::
 (nat_lit 186,(bG "wishes" (tp 25) .none m3 (.ref 185)))::
 (nat_lit 187,aF)::
 (nat_lit 190,(bF "over_pairs" 417 90 2 187 188 .none .none 189 420))::
 (nat_lit 191,(bG "over_pairs" (tp 26) .none m3 (.ref 190)))::
 (nat_lit 192,aF)::
 (nat_lit 195,(bF "full_things" 423 92 2 192 193 .none .none 194 426))::
 (nat_lit 196,(bG "full_things" (tp 27) .none m3 (.ref 195)))::
 (nat_lit 197,aF)::
 (nat_lit 200,(bF "lined_up" 429 94 2 197 198 .none .none 199 432))::
 (nat_lit 201,(bG "lined_up" (tp 28) .none m3 (.ref 200)))::
 (nat_lit 202,aF)::
 (nat_lit 205,(bF "ring_among" 435 104 2 202 203 .none .none 204 438))::
 (nat_lit 206,(bG "ring_among" (tp 29) .none m3 (.ref 205)))::
 (nat_lit 207,aF)::
 (nat_lit 210,(bF "judged" 441 113 2 207 208 .none .none 209 444))::
 (nat_lit 211,(bG "judged" (tp 30) .none m3 (.ref 210)))::
 (nat_lit 219,aF)::
 (nat_lit 222,(kF "__init__" "Market.__init__" 461 128 4 219 220 .none .none 221 464))::
 (nat_lit 223,(kG "__init__" "Market.__init__" (kE (tp 32) 0) .none m4 (.ref 222)))::
 (nat_lit 224,aF)::
 (nat_lit 227,(kF "wanting" "Market.wanting" 467 136 1 224 225 .none .none 226 470))::
 (nat_lit 228,(kG "wanting" "Market.wanting" (kE (tp 32) 1) .none m4 (.ref 227)))::
 (nat_lit 229,aF)::
 (nat_lit 232,(kF "owners" "Market.owners" 473 139 2 229 230 .none .none 231 476))::
 (nat_lit 233,(kG "owners" "Market.owners" (kE (tp 32) 2) .none m4 (.ref 232)))::
 (nat_lit 234,aF)::
 (nat_lit 237,(kF "gone" "Market.gone" 479 142 1 234 235 .none .none 236 482))::
 (nat_lit 238,(kG "gone" "Market.gone" (kE (tp 32) 3) .none m4 (.ref 237)))::
 (nat_lit 239,aF)::
 (nat_lit 241,(cJ 488 ["self", "one"]))::
 (nat_lit 242,aF)::
 (nat_lit 244,(kF "giver" "Market.giver" 485 145 2 239 240 (.ref 241) (.ref 242) 243 490))::
 (nat_lit 245,(kG "giver" "Market.giver" (kE (tp 32) 4) .none m4 (.ref 244)))::
 (nat_lit 246,aF)::
 (nat_lit 248,(cJ 496 ["self", "gone", "rows", "passed", "asker", "one"]))::
 (nat_lit 249,aF)::
 (nat_lit 251,(kF "ring" "Market.ring" 493 148 1 246 247 (.ref 248) (.ref 249) 250 502))::
 (nat_lit 252,(kG "ring" "Market.ring" (kE (tp 32) 5) .none m4 (.ref 251)))::
 (nat_lit 253,aF)::
 (nat_lit 255,(cJ 508 ["self", "one", "giver"]))::
 (nat_lit 256,aF)::
 (nat_lit 258,(kF "source" "Market.source" 505 160 3 253 254 (.ref 255) (.ref 256) 257 511))::
 (nat_lit 259,(kG "source" "Market.source" (kE (tp 32) 6) .none m4 (.ref 258)))::
 (nat_lit 260,aF)::
 (nat_lit 263,(kF "leave" "Market.leave" 514 163 2 260 261 .none .none 262 517))::
 (nat_lit 264,(kG "leave" "Market.leave" (kE (tp 32) 7) .none m4 (.ref 263)))::
 (nat_lit 265,aF)::
 (nat_lit 268,(kF "trade" "Market.trade" 520 167 1 265 266 .none .none 267 523))::
 (nat_lit 269,(kG "trade" "Market.trade" (kE (tp 32) 8) .none m4 (.ref 268)))::
 (nat_lit 270,(cJ 526 ["got", "orders", "owned", "spare", "wanted"]))::
 (nat_lit 271,(Obj.mk (.type "dict") none (.dict #[(ay P "__module__" 456 (.str "lotmeal.better" 447)),(ay P "__firstlineno__" 460 (.int 126 459)),(ay P "__init__" 466 (.ref 223)),(ay P "wanting" 472 (.ref 228)),(ay P "owners" 478 (.ref 233)),(ay P "gone" 484 (.ref 238)),(ay P "giver" 492 (.ref 245)),(ay P "ring" 504 (.ref 252)),(ay P "source" 513 (.ref 259)),(ay P "leave" 519 (.ref 264)),(ay P "trade" 525 (.ref 269)),(ay P "__static_attributes__" 531 (.ref 270)),(ay P "__dict__" 533 (.ref 273)),(ay P "__weakref__" 535 (.ref 274)),(ay P "__doc__" 536 .none)] 4) #[]))::
 (nat_lit 272,(Obj.mk (.type "type") none (.cls (ClassData.mk "Market" [(.type "object")] [(.ref 272),(.type "object")] 271 "Market" true [] [] false none false)) #[none,none,(some (.str "Market" 449)),(some (.str "Market" 457)),(some (.builtin "object.__new__")),(some (.bool true))]))::
 (nat_lit 273,(Obj.mk (.type "getset_descriptor") none (.fields #[(.str "__dict__" 532),(.ref 272),(.builtin "function.__dict__"),(.builtin "function.__dict__#set")]) #[]))::
 (nat_lit 274,(Obj.mk (.type "getset_descriptor") none (.fields #[(.str "__weakref__" 534),(.ref 272),(.builtin "ExceptionGroup.__weakref__"),.none]) #[]))::
 (nat_lit 277,aF)::
 (nat_lit 280,(bF "bettered" 539 179 2 277 278 .none .none 279 542))::
 (nat_lit 281,(bG "bettered" (tp 33) .none m4 (.ref 280)))::
 (nat_lit 282,aF)::
 (nat_lit 284,(cJ 550 ["_law_script", "_law_k"]))::
 (nat_lit 285,aF)::
 (nat_lit 287,(bF "_law_cell_at" 547 188 2 282 283 (.ref 284) (.ref 285) 286 552))::
 (nat_lit 288,(bG "_law_cell_at" (tp 35) .none m5 (.ref 287)))::
 (nat_lit 289,aF)::
 (nat_lit 291,(cJ 558 ["_law_cell", "_law_many", "_law_drawn_here", "_law_found", "_law_k"]))::
 (nat_lit 292,aF)::
 (nat_lit 294,(bF "_law_stream" 555 192 2 289 290 (.ref 291) (.ref 292) 293 563))::
 (nat_lit 295,(bG "_law_stream" (tp 36) .none m5 (.ref 294)))::
 (nat_lit 296,aF)::
 (nat_lit 298,(cJ 569 ["_law_cell", "_law_many", "_law_some", "_law_left_here", "_law_order_here", "_law_k"]))::
 (nat_lit 299,aF)::
 (nat_lit 301,(bF "_law_order" 566 199 2 296 297 (.ref 298) (.ref 299) 300 575))::
 (nat_lit 302,(bG "_law_order" (tp 37) .none m5 (.ref 301)))::
 (nat_lit 303,aF)::
 (nat_lit 305,(cJ 581 ["_law_cells", "_law_many", "_law_orders_here", "_law_cell"]))::
 (nat_lit 306,aF)::
 (nat_lit 308,(bF "_law_orders" 578 208 2 303 304 (.ref 305) (.ref 306) 307 585))::
 (nat_lit 309,(bG "_law_orders" (tp 38) .none m5 (.ref 308)))::
 (nat_lit 310,aF)::
 (nat_lit 312,(cJ 591 ["_law_cell", "_law_many", "_law_found", "_law_one"]))::
 (nat_lit 313,aF)::
 (nat_lit 315,(bF "_law_counts" 588 216 2 310 311 (.ref 312) (.ref 313) 314 595))::
 (nat_lit 316,(bG "_law_counts" (tp 39) .none m5 (.ref 315)))::
 (nat_lit 317,aF)::
 (nat_lit 319,(cJ 601 ["_law_one", "_law_other"]))::
 (nat_lit 320,aF)::
 (nat_lit 322,(bF "_law_divisor" 598 221 2 317 318 (.ref 319) (.ref 320) 321 603))::
 (nat_lit 323,(bG "_law_divisor" (tp 40) .none m5 (.ref 322)))::
 (nat_lit 324,aF)::
 (nat_lit 326,(cJ 609 ["_law_top", "_law_bottom", "_law_by"]))::
 (nat_lit 327,aF)::
 (nat_lit 329,(bF "_law_lowest" 606 225 2 324 325 (.ref 326) (.ref 327) 328 612))::
 (nat_lit 330,(bG "_law_lowest" (tp 41) .none m5 (.ref 329)))::
 (nat_lit 331,aF)::
 (nat_lit 334,(bF "_law_turn_deal" 615 228 3 331 332 .none .none 333 618))::
 (nat_lit 335,(bG "_law_turn_deal" (tp 42) .none m5 (.ref 334)))::
 (nat_lit 336,aF)::
 (nat_lit 339,(bF "_law_any_deal" 621 243 3 336 337 .none .none 338 624))::
 (nat_lit 340,(bG "_law_any_deal" (tp 43) .none m5 (.ref 339)))::
 (nat_lit 341,aF)::
 (nat_lit 344,(bF "_law_drawn" 627 253 3 341 342 .none .none 343 630))::
 (nat_lit 345,(bG "_law_drawn" (tp 44) .none m5 (.ref 344)))::
 (nat_lit 346,aF)::
 (nat_lit 349,(bF "_law_full" 633 270 2 346 347 .none .none 348 636))::
 (nat_lit 350,(bG "_law_full" (tp 45) .none m5 (.ref 349)))::
 (nat_lit 351,aF)::
 (nat_lit 353,(cJ 642 ["_law_one", "_law_other"]))::
 (nat_lit 354,aF)::
 (nat_lit 356,(bF "_law_plus" 639 272 2 351 352 (.ref 353) (.ref 354) 355 644))::
 (nat_lit 357,(bG "_law_plus" (tp 46) .none m5 (.ref 356)))::
 (nat_lit 358,aF)::
 (nat_lit 360,(cJ 650 ["_law_one", "_law_other"]))::
 (nat_lit 361,aF)::
 (nat_lit 363,(bF "_law_under" 647 274 2 358 359 (.ref 360) (.ref 361) 362 652))::
 (nat_lit 364,(bG "_law_under" (tp 47) .none m5 (.ref 363)))::
 (nat_lit 365,aF)::
 (nat_lit 367,(cJ 658 ["_law_counts_here", "_law_order_here", "_law_row", "_law_total", "_law_found", "_law_one"]))::
 (nat_lit 368,aF)::
 (nat_lit 370,(bF "_law_sums" 655 276 3 365 366 (.ref 367) (.ref 368) 369 664))::
 (nat_lit 371,(bG "_law_sums" (tp 48) .none m5 (.ref 370)))::
 (nat_lit 372,aF)::
 (nat_lit 374,(cJ 670 ["_law_mine", "_law_theirs", "_law_here", "_law_there"]))::
 (nat_lit 375,aF)::
 (nat_lit 377,(bF "_law_no_less" 667 283 2 372 373 (.ref 374) (.ref 375) 376 674))::
 (nat_lit 378,(bG "_law_no_less" (tp 49) .none m5 (.ref 377)))::
 (nat_lit 379,aF)::
 (nat_lit 382,(bF "_law_tabled" 677 288 1 379 380 .none .none 381 680))::
 (nat_lit 383,(bG "_law_tabled" (tp 50) .none m5 (.ref 382)))::
 (nat_lit 384,aF)::
 (nat_lit 386,(cJ 686 ["_law_found"]))::
 (nat_lit 387,aF)::
 (nat_lit 389,(bF "_law_whole" 683 293 1 384 385 (.ref 386) (.ref 387) 388 687))::
 (nat_lit 390,(bG "_law_whole" (tp 51) .none m5 (.ref 389)))::
 (nat_lit 391,aF)::
 (nat_lit 393,(cJ 693 ["_law_row", "_law_many", "_law_share"]))::
 (nat_lit 394,aF)::
 (nat_lit 396,(bF "_law_is_row" 690 295 2 391 392 (.ref 393) (.ref 394) 395 696))::
 (nat_lit 397,(bG "_law_is_row" (tp 52) .none m5 (.ref 396)))::
 (nat_lit 398,aF)::
 (nat_lit 400,(cJ 702 ["_law_shares", "_law_one", "_law_total", "_law_row"]))::
 (nat_lit 401,aF)::
 (nat_lit 403,(bF "_law_column" 699 304 2 398 399 (.ref 400) (.ref 401) 402 706))::
 (nat_lit 404,(bG "_law_column" (tp 53) .none m5 (.ref 403)))::
 (nat_lit 405,aF)::
 (nat_lit 407,(cJ 712 ["_law_found", "_law_counts_here", "_law_askers", "_law_row", "_law_thing"]))::
 (nat_lit 408,aF)::
 (nat_lit 410,(bF "_law_are_shares" 709 309 3 405 406 (.ref 407) (.ref 408) 409 717))::
 (nat_lit 411,(bG "_law_are_shares" (tp 54) .none m5 (.ref 410)))::
 (nat_lit 412,aF)::
 (nat_lit 415,(bF "_law_wishes" 720 319 3 412 413 .none .none 414 723))::
 (nat_lit 416,(bG "_law_wishes" (tp 55) .none m5 (.ref 415)))::
 (nat_lit 417,aF)::
 (nat_lit 419,(cJ 729 ["_law_counts_here", "_law_shares", "_law_wishes_here", "_law_found", "_law_asker", "_law_better_here", "_law_one"]))::
 (nat_lit 420,aF)::
 (nat_lit 422,(bF "_law_left" 726 327 3 417 418 (.ref 419) (.ref 420) 421 736))::
 (nat_lit 423,(bG "_law_left" (tp 56) .none m5 (.ref 422)))::
 (nat_lit 424,aF)::
 (nat_lit 427,(bF "_law_no_ring" 739 333 2 424 425 .none .none 426 742))::
 (nat_lit 428,(bG "_law_no_ring" (tp 57) .none m5 (.ref 427)))::
 (nat_lit 429,aF)::
 (nat_lit 431,(cJ 748 ["_law_counts_here", "_law_orders_here", "_law_found", "_law_shares", "_law_asker", "_law_mine"]))::
 (nat_lit 432,aF)::
 (nat_lit 434,(bF "_law_better" 745 338 4 429 430 (.ref 431) (.ref 432) 433 754))::
 (nat_lit 435,(bG "_law_better" (tp 58) .none m5 (.ref 434)))::
 (nat_lit 436,aF)::
 (nat_lit 439,(bF "_law_alone" 757 346 1 436 437 .none .none 438 760))::
 (nat_lit 440,(bG "_law_alone" (tp 59) .none m5 (.ref 439)))::
 (nat_lit 441,aF)::
 (nat_lit 444,(bF "law" 763 351 1 441 442 .none .none 443 766))::
 (nat_lit 445,(bG "law" (tp 60) .none m5 (.ref 444)))::[]
def hA:List adG:=[2,3,15,22,23,24,25,28,35,36,37,40,47,48,49,52,59,60,61,64,71,73,74,76,77,78,79,80,83,90,92,93,95,96,97,98,99,102,104,105,107,108,109,111,112,114,115,116,117,119,120,122,123,124,126,127,129,130,131,133,134,136,137,138,140,141,143,144,145,148,149,150,152,153,155,156,157,160,161,162,165,166,167,170,171,172,175,176,177,180,181,182,185,186,187,190,191,192,195,196,197,200,201,202,205,206,207,210,211,219,222,223,224,227,228,229,232,233,234,237,238,239,241,242,244,245,246,248,249,251,252,253,255,256,258,259,260,263,264,265,268,269,270,271,272,273,274,277,280,281,282,284,285,287,288,289,291,292,294,295,296,298,299,301,302,303,305,306,308,309,310,312,313,315,316,317,319,320,322,323,324,326,327,329,330,331,334,335,336,339,340,341,344,345,346,349,350,351,353,354,356,357,358,360,361,363,364,365,367,368,370,371,372,374,375,377,378,379,382,383,384,386,387,389,390,391,393,394,396,397,398,400,401,403,404,405,407,408,410,411,412,415,416,417,419,420,422,423,424,427,428,429,431,432,434,435,436,439,440,441,444,445]
theorem zq (P:Params):hA=(hK P).map (·.1):=by kernel_rfl
def hV:afU:={pr with main:={pr.main with body:=[1,2,3,4,5,6,8,9,11,12,13,14,15,17,18,19,20,21,22,23,25,26,27,28,29,30,32,33,35,36,37,38,39,40,41,42,43,44,45,46,47,48,49,50,51,52,53,54,55,56,57,58,59,60].map tp}}
def hX (s:adJ):Bool:=xlAt hV [] s&&recOk (RowW.records PySem.Challenge.rw_lotmeal_k25_bettered.row.toRowW) s
noncomputable abbrev hH:Hook:=kHook hK hA zq
theorem h1:opening pr=plainProg pr.main.scope.names:=by kernel_rfl
theorem h2 (s:adJ):fenceModules? pr s=some s:=by kernel_rfl
theorem h3 (w:afV):(λos=>(nQ pr w 6484 os).map λst=>DQ pr w st)=λ_=>some true:=by kernel_rfl
theorem h4 (w:afV):(λos=>(nQ pr w 6484 os).map λst=>openSeen hV ["fraction"] (importedModules pr.main.body) hX true st.abs)=λ_=>some (openGood hV ["fraction"]):=by kernel_rfl
theorem h5 (w:afV):(λos=>(nQ pr w 6484 os).map λst=>hH.obs st.abs)=λ_=>some (hH.val w):=by kernel_rfl
theorem hL:LeftO pr hV ["fraction"] hX hH.obs hH.val 6484:=Ww h1 'Q' h2 h3 h4 h5
end iV
namespace L2
open PySem PySem.Spec PyProof.Rows
abbrev Key:=Sum Int Str
def zr:Key->vn->Bool
 | .inl k,v=>Value.isInt k v
 | .inr x,v=>Value.isStrOf x v
def acn (w:afV):Key->Int
 | .inl k=>hashInt k
 | .inr x=>hashStr w x
theorem mw:∀{k:Key} {v:vn},zr k v=true->(∃i t,k=Sum.inl i/\v=Value.int i t)\/(∃x t,k=Sum.inr x/\v=Value.str x t)
 | .inl i,v,h=>by
  obtain⟨t,e⟩:=Value.isInt_shape h
  simp_all
 | .inr x,v,h=>by
  obtain⟨t,e⟩:=Value.isStrOf_shape h
  simp_all
theorem Wx (i:Int)(t:Tok):zr (.inl i) (.int i t)=true:=by simp[zr,Value.isInt]
theorem aaw (a b:Int):decide ((Sum.inl a:Key)=Sum.inl b)=(a==b):=by
 grind
theorem aax (a b:Str):decide ((Sum.inr a:Key)=Sum.inr b)=decide (a=b):=by
 simp_all
theorem aay (a:Int)(b:Str):decide ((Sum.inl a:Key)=Sum.inr b)=false:=LG (λq=>nomatch q)
theorem aaz (a:Str)(b:Int):decide ((Sum.inr a:Key)=Sum.inl b)=false:=LG (λq=>nomatch q)
def uy (prog:afU)(w:afV):PySem.KeyKind prog w Key where
 is:=zr
 hash:=acn w
 inj:=λv a b ha hb=>by
  obtain⟨i,t,rfl,rfl⟩|⟨x,t,rfl,rfl⟩:=mw ha
  ·obtain⟨j,u,rfl,e⟩|⟨y,u,rfl,e⟩:=mw hb
   ·injection e with e1 _;rw[e1]
   ·exact nomatch e
  ·obtain⟨j,u,rfl,e⟩|⟨y,u,rfl,e⟩:=mw hb
   ·exact nomatch e
   ·injection e with e1 _;rw[e1]
 byValue:=λk v h=>by
  obtain⟨i,t,rfl,rfl⟩|⟨x,t,rfl,rfl⟩:=mw h<;>rfl
 pyHash:=λhv h=>by
  obtain⟨i,t,rfl,rfl⟩|⟨x,t,rfl,rfl⟩:=mw hv
  ·exact wpAny_pyHash_int h
  ·exact wpAny_pyHash_str h
 eqBool:=λhu hv h=>by
  obtain⟨i,t,rfl,rfl⟩|⟨x,t,rfl,rfl⟩:=mw hu
  ·obtain⟨j,u,rfl,rfl⟩|⟨y,u,rfl,rfl⟩:=mw hv
   ·rw[aaw]at h;exact wpAny_eqBool_int h
   ·rw[aay]at h;exact SeqAt.EqAt.int_str i t y u _ _ _ _ h
  ·obtain⟨j,u,rfl,rfl⟩|⟨y,u,rfl,rfl⟩:=mw hv
   ·rw[aaz]at h;exact SeqAt.EqAt.str_int x t j u _ _ _ _ h
   ·rw[aax]at h;exact wpAny_eqBool_str h
 «strs»:=λk x t v h=>by
  obtain⟨i,u,rfl,e⟩|⟨y,u,rfl,e⟩:=mw h
  ·exact nomatch e
  ·injection e with e1 _
   subst e1;cases v<;>rfl
theorem Jk (prog:afU)(w:afV)(i:Int)(t:Tok):(uy prog w).is (.inl i) (.int i t)=true:=Wx i t
inductive V where
 |aY|bl (b:Bool)|int (i:Int)|str (x:Str)|jt (b:Array UInt8)|oG (b:UInt64)|ref (a:adG)|ty (n:String)
 deriving DecidableEq
def RelV:V->vn->Prop
 | .aY,u=>u=Value.none
 | .bl b,u=>u=Value.bool b
 | .int i,u=>∃t,u=Value.int i t
 | .str x,u=>∃t,u=Value.str x t
 | .jt b,u=>∃t,u=Value.bytes b t
 | .oG b,u=>∃t,u=Value.float b t
 | .ref a,u=>u=Value.ref a
 | .ty n,u=>u=Value.type n
abbrev Vals:List V->List vn->Prop:=Paired RelV
theorem Vals.length (r:Vals xs us):xs.length=us.length:=Paired.length r
theorem Vals.get:∀{xs:List V} {us:List vn} {i:Nat} {x:V},Vals xs us->xs[i]?=some x->∃u,us[i]?=some u/\RelV x u
 |_,_,_,_,.nil,e=>by simp at e
 |_,_,0,_,.cons r _,e=>'J'
 |_,_,i+1,x,.cons _ t,e=>by
  obtain⟨u,h1,h2⟩:=Vals.get (i:=i) (x:=x) t (by assumption)
  simp_all
theorem Vals.set (r:RelV x u):∀{xs:List V} {us:List vn} (i:Nat),Vals xs us->Vals (xs.set i x) (us.set i u)
 |_,_,_,.nil=>.nil
 |_,_,0,.cons _ t=>.cons r t
 |_,_,i+1,.cons q t=>.cons q (Vals.set r i t)
theorem Vals.append:∀{xs ys:List V} {us ws:List vn},Vals xs us->Vals ys ws->Vals (xs++ys) (us++ws)
 |_,_,_,_,.nil=>λs=>s
 |_,_,_,_,.cons r t=>λs=>.cons r (Vals.append t s)
theorem Vals.take:∀{xs:List V} {us:List vn} (n:Nat),Vals xs us->Vals (xs.take n) (us.take n)
 |_,_,0,_=>.nil
 |_,_,_+1,.nil=>.nil
 |_,_,n+1,.cons r t=>.cons r (Vals.take n t)
theorem Vals.drop:∀{xs:List V} {us:List vn} (n:Nat),Vals xs us->Vals (xs.drop n) (us.drop n)
 |_,_,0,r=>r
 |_,_,_+1,.nil=>.nil
 |_,_,n+1,.cons _ t=>Vals.drop n t
def mX:Option V->Option vn->Prop
 |some v,some u=>RelV v u
 |none,none=>True
 |_,_=>False
def KV {κ:Type}:List (κ×V)->List (κ×vn)->Prop:=Paired λ(p : κ×V) (q : κ×vn)=>p.1=q.1/\RelV p.2 q.2
def kV:Key->V
 | .inl i=>.int i
 | .inr x=>.str x
inductive HO where
 |lst (xs:List V)
 |tup (xs:List V)
 |dK (eu:List (Key×V))|dT (eu:List (List Key×V))
 |set (S:Int->Bool) (n:Nat)
 |ins (C dx:adG) (fs:List (Str×V))
 |own (x:adG)
 |xd (fs:List (Str×V))
 |met (f x:adG)
 |bT (lo hi:Int)
 |eS (o:Obj) (u:HO)
 |qm (ps:Array vn)
 |ext (φ:Heap->Prop)
abbrev Hp:=adG->Option HO
def upd (H:Hp)(a:adG)(o:HO):Hp:=λb=>if b=a then some o else H b
theorem bM:upd H a o a=some o:=by unfold upd;rw[uu rfl]
theorem aH (h:b≠a):upd H a o b=H b:=by unfold upd;rw[rf h]
theorem j8 {H:Hp}(h:H a=some o)(h':H b=none):a≠b:=by
 lia
section
variable (P:afU) (w:afV)
def ie (H:Hp)(h:Heap)(a:adG):HO->Prop
 | .lst xs=>xs.length<=sizeLine/\∃(its:List vn) (n:Nat),Vals xs its/\h.get? a=some {cls:=.type "list",data:=.seq its.toArray n}
 | .tup xs=>xs.length<=sizeLine/\∃its:List vn,Vals xs its/\IsTup h a its.toArray
 | .dK eu=>eu.length<=sizeLine/\(a==sysModules)=false/\∃vs,KV eu vs/\h.DictOf (uy P w) a vs
 | .dT eu=>eu.length<=sizeLine/\(a==sysModules)=false/\∃xs:List (List Key×adG×vn),
   Paired (λ(p:List Key×V) (q:List Key×adG×vn)=>p.1=q.1/\H q.2.1=some (.tup (p.1.map kV))/\RelV p.2 q.2.2) eu xs /\
   ∃o es ep,h.get? a=some o/\o.ExactDict/\o.data=.dict es ep/\es.toList=xs.map (entryOfKey (tupleKind (uy P w)))/\(xs.map (·.1)).Nodup
 | .set S n=>h.SetOf (intKind P w) a S n
 | .ins C dx fs=>H dx=some (.own a)/\fs.length<=1000/\dx≠a/\h.get? a=some (instObj C dx) /\
   ∃mA,h.Ns1 dx mA/\(∀f,mX (fs.lookup f) (mA f))/\PySem.Within mA (fs.map (·.1))
 | .own _=>∃o,h.get? a=some o
 | .xd fs=>∃mA,h.Ns1 a mA/\∀f,mX (fs.lookup f) (mA f)
 | .bT lo hi=>∃t u v,h.get? a=some {cls:=.type "range",data:=.fields #[.int lo t,.int hi u,.int 1 v]}
 | .eS o u=>h.get? a=some o/\ie H h a u
 | .qm ps=>h.get? a=some {cls:=.none,data:=.fields ps}
 | .met f x=>h.get? a=some (PySem.W.methodObj (.ref f) (.ref x))
 | .ext φ => φ h/\(∃o,h.get? a=some o)/\∀h1 h2:Heap,φ h1->(∀o,h1.get? a=some o->h2.get? a=some o)->φ h2
def dU (H:Hp)(h:Heap):Prop:=∀a o,H a=some o->ie P w H h a o
end
section
variable {a:adG}
theorem ie.lt (x:ie P w H h a o):a<h.objs.size:=by
 cases o with
 |lst xs=>obtain⟨_,_,_,_,e⟩:=x;exact nt e
 |tup xs=>obtain⟨_,_,_,p⟩:=x;exact p.lt
 |dK eu=>obtain⟨_,_,_,_,o,_,_,e,_⟩:=x;exact nt e
 |dT eu=>obtain⟨_,_,_,_,o,_,_,e,_⟩:=x;exact nt e
 |set S n=>obtain⟨o,_,_,_,e,_⟩:=x;exact nt e
 |ins C dx fs=>obtain⟨_,_,_,e,_⟩:=x;exact nt e
 |own y=>obtain⟨_,e⟩:=x;exact nt e
 |xd fs=>obtain⟨_,⟨_,_,_,e,_⟩,_⟩:=x;exact nt e
 |bT lo hi=>obtain⟨_,_,_,e⟩:=x;exact nt e
 |eS ob u=>obtain⟨e,_⟩:=x;exact nt e
 |qm ps=>exact nt (x)
 |met f y=>exact nt (x)
 |ext φ => obtain⟨_,⟨_,e⟩,_⟩:=x;exact nt e
theorem Paired.PQ:∀{PR:List α} {l₂:List β},Paired F PR l₂->(∀a b,F a b->G a b)->Paired G PR l₂
 |_,_,.nil=>λ_=>.nil
 |_,_,.cons r t=>λf=>.cons (f _ _ r) (Paired.PQ t f)
theorem ie.mY (x:ie P w H h a o)(k:∀b u,(b=a\/H b=some (.own a))->h.get? b=some u->h'.get? b=some u)(ho:∀b,H b=some (.own a)->H' b=some (.own a))(ht:∀b xs,H b=some (.tup xs)->H' b=some (.tup xs)):ie P w H' h' a o:=by
 induction o with
 |lst xs=>obtain⟨z,its,n,r,e⟩:=x;exact⟨z,its,n,r,k _ _ (.inl rfl) e⟩
 |tup xs=>obtain⟨z,its,r,ob,e,c⟩:=x;exact⟨z,its,r,ob,k _ _ (.inl rfl) e,c⟩
 |dK eu=>obtain⟨z,y,vs,r,ob,es,ep,e,c⟩:=x;exact⟨z,y,vs,r,ob,es,ep,k _ _ (.inl rfl) e,c⟩
 |dT eu=>
  obtain⟨z,y,xs,r,ob,es,ep,e,c⟩:=x;exact⟨z,y,xs,Paired.PQ r λp q z=>⟨z.1,ht _ _ z.2.1,z.2.2⟩,ob,es,ep,k _ _ (.inl rfl) e,c⟩
 |set S n=>obtain⟨ob,es,ep,t,e,c⟩:_:=x;exact⟨ob,es,ep,t,k _ _ (.inl rfl) e,c⟩
 |ins C dx fs=>
  obtain⟨d,z,ne,e,mA,⟨od,es,ep,e2,c⟩,r⟩:_:=x;exact⟨ho _ d,z,ne,k _ _ (.inl rfl) e,mA,⟨od,es,ep,k _ _ (.inr d) e2,c⟩,r⟩
 |own y=>obtain⟨ob,e⟩:=x;exact⟨ob,k _ _ (.inl rfl) e⟩
 |xd fs=>obtain⟨mA,⟨od,es,ep,e,c⟩,r⟩:_:=x;exact⟨mA,⟨od,es,ep,k _ _ (.inl rfl) e,c⟩,r⟩
 |bT lo hi=>obtain⟨t,u,v,e⟩:_:=x;exact⟨t,u,v,k _ _ (.inl rfl) e⟩
 |eS ob u ih=>obtain⟨e,q⟩:=x;exact⟨k _ _ (.inl rfl) e,ih q⟩
 |qm ps=>
  have e:=x;exact k a _ (.inl rfl) e
 |met f y=>
  have e:=x;exact k a _ (.inl rfl) e
 |ext φ => obtain⟨p,⟨o,e⟩,st⟩:=x;exact⟨st _ _ p λo q=>k _ _ (.inl rfl) q,⟨o,k _ _ (.inl rfl) e⟩,st⟩
theorem dU.lt (x:dU P w H h)(e:H a=some o):a<h.objs.size:=(x a o e).lt
theorem dU.fresh (x:dU P w H h)(e:h.objs.size<=a):H a=none:=by
 cases q:H a with
 |none=>rfl
 |some u=>exact absurd (ze (x.lt q) e) (abc _)
theorem dU.kept (x:dU P w H h)(k:∀b u,h.get? b=some u->h'.get? b=some u):dU P w H h':=λa o e=>
 (x a o e).mY (λb u _ q=>k b u q) (λ_ q=>q) λ_ _ q=>q
theorem dU.laid (x:dU P w H h)(k:∀b u,h.get? b=some u->h'.get? b=some u)(hp:h.objs.size<=a)(new:ie P w (upd H a o) h' a o):dU P w (upd H a o) h':=λb u e=>by
 have hn:=x.fresh hp;by_cases hb:b=a
 ·subst hb;rw[bM]at e;cases e;exact new
 ·rw[aH hb]at e;exact(x b u e).mY (λc v _ q=>k c v q) (λc q=>by rw[aH (j8 q hn)];exact q) λc xs q=>by rw[aH (j8 q hn)];exact q
end
def Rd (H:Hp)(a:adG)(u:HO):Prop:=H a=some u\/∃o,H a=some (.eS o u)
theorem Rd.ok (r:Rd H a u)(x:dU P w H h):ie P w H h a u:=by
 obtain r|⟨o,r⟩:=r
 ·exact x a u r
 ·obtain⟨_,q⟩:=x a _ r;exact q
def Af:Option HO->Prop
 |some (.lst _)=>True
 |some (.dK _)=>True
 |some (.dT _)=>True
 |some (.set _ _)=>True
 |some (.ins _ _ _)=>True
 |some (.ext _)=>True
 |_=>False
section
theorem dU.write (ok:dU P w H h)(mu:Af (H x))(he:e=x\/H e=some (.own x))(k:∀b u,b≠e->h.get? b=some u->h'.get? b=some u)(vW:∃u,h'.get? e=some u)(new:ie P w (upd H x o') h' x o'):dU P w (upd H x o') h':=λb u q=>by
 have aco:∀c y,H c=some (.own y)->c≠x:=λc y r z=>by subst z;rw[r]at mu;exact mu
 have acp:∀c xs,H c=some (.tup xs)->c≠x:=λc xs r z=>by subst z;rw[r]at mu;exact mu
 by_cases hb:b=x
 ·subst hb;rw[bM]at q;cases q;exact new
 ·rw[aH hb]at q;by_cases hbe:b=e
  ·have q':H b=some (.own x):=by
    lia
   rw[q]at q';cases q';obtain⟨v,hv⟩:=vW;exact⟨v,'J'⟩
  ·refine(ok b u q).mY (λc v hc r=>k c v ?_ r) (λc r=>by rw[aH (aco c b r)];exact r) λc xs r=>by rw[aH (acp c xs r)];exact r
   grind
end
structure Un (fs ex:List adG) (H H':Hp) (h h':Heap):Prop where
 keep:∀b o,h.get? b=some o->H b=none->b∉fs->b∉ex->h'.get? b=some o
 slot:∀b o,h.get? b=some o->H b=none->b∈fs->b∉ex->∃sl,h'.get? b=some {o with slots:=sl}
 free:∀b o,h.get? b=some o->H b=none->b∉ex->H' b=none
 there:∀b o,h.get? b=some o->b∉ex->∃o',h'.get? b=some o'
 lL:∀b xs,H b=some (.tup xs)->H' b=some (.tup xs)
 ku:∀b o u,H b=some (.eS o u)->H' b=some (.eS o u)
 lM:∀b ps,H b=some (.qm ps)->∃more,H' b=some (.qm (ps++more))
section
variable {h:Heap}{a:adG}
theorem Un.any (u:Un fs ex H H1 h h1)(q:h.get? b=some ob)(n:H b=none)(hx:b∉ex):∃sl,h1.get? b=some {ob with slots:=sl}:=by
 by_cases hb:b∈fs
 ·exact u.slot b ob q n hb hx
 ·exact⟨ob.slots,u.keep b ob q n hb hx⟩
theorem Un.kept (k:∀b u,h.get? b=some u->h'.get? b=some u):Un fs ex H H h h':=
 ⟨λb ob q _ _ _=>k b ob q,λb ob q _ _ _=>⟨ob.slots,k b ob q⟩,λ_ _ _ n _=>n,λb ob q _=>⟨ob,k b ob q⟩,λ_ _ q=>q,λ_ _ _ q=>q,λ_ ps q=>⟨#[],by assumption⟩⟩
theorem Un.refl:Un fs ex H H h h:=Un.kept λ_ _ q=>q
theorem Un.laid (k:∀b u,h.get? b=some u->h'.get? b=some u)(hp:h.objs.size<=a)(hn:H a=none):Un fs ex H (upd H a o) h h' where
 keep:=λb u q _ _ _=>k b u q
 slot:=λb u q _ _ _=>⟨u.slots,k b u q⟩
 free:=λb u q n _=>by rw[aH (AS (ze (nt q) hp))];exact n
 there:=λb u q _=>⟨u,k b u q⟩
 lL:=λb xs q=>by rw[aH (j8 q hn)];exact q
 ku:=λb u xs q=>by rw[aH (j8 q hn)];exact q
 lM:=λb ps q=>⟨#[],by rw[aH (j8 q hn),q];simp⟩
theorem Un.write (mu:Af (H x))(he:e=x\/H e=some (.own x))(k:∀b u,b≠e->h.get? b=some u->h'.get? b=some u)(vW:∃u,h'.get? e=some u):Un fs ex H (upd H x o) h h':=by
 have hx:∀b,H b=none->b≠x:=λb n z=>by subst z;rw[n]at mu;exact mu
 have hb:∀b,H b=none->b≠e:=λb n z=>by
  simp_all
 have hm:∀b u,H b=some u->¬Af (some u)->b≠x:=λb u q nm z=>'J'
 refine⟨λb u q n _ _=>k b u (hb b n) q,λb u q n _ _=>⟨u.slots,k b u (hb b n) q⟩,λb u q n _=>by rw[aH (hx b n)];exact n,λb u q _=>?_,
  λb xs q=>by rw[aH (hm b _ q λz=>z)];exact q,λb u xs q=>by rw[aH (hm b _ q λz=>z)];exact q,λb ps q=>⟨#[],by rw[aH (hm b _ q λz=>z),q];simp⟩⟩
 grind
end
def Ag (h:Heap)(H:Hp):List adG:=(List.range h.objs.size).filter λa=>(H a).isSome
def ox (h:Heap)(H:Hp):Heap:=PySem.W.hideAll h (Ag h H)
theorem Wy (h:Heap)(H:Hp):(ox h H).objs.size=h.objs.size:=PySem.W.hideAll_size _ _
theorem Xq (e:h.get? b=some o)(n:H b=none):(ox h H).get? b=some o:=
 PySem.W.hideAll_get _ e λhm=>by
  have q:=(BY.mp hm).2
  simp_all
theorem YH (e:(ox h H).get? b=some o):h.get? b=some o/\H b=none:=by
 have e':=PySem.W.of_hideAll (Ag h H) e;refine⟨e',?_⟩;cases q:H b with
 |none=>rfl
 |some x=>
  have hm:b∈Ag h H:=BY.mpr ⟨l9.mpr (nt e'),by simp[q]⟩;have z:(ox h H).get? b=none:=PySem.W.hideAll_none (Ag h H) hm
  simp_all
structure Mod (K:Frag) (mg:Str->Option vn) (base:Heap):Prop where
 vX:K.In base
 glob:base.Ns mainGlobals mg
 blt:∃mb,base.Ns builtinsNs mb/\∀x:Str,x ≠ "__name__"->mb x=bootBuiltins x
 nolimit:base.NoLimit
structure Cx where
 prog:afU
 w:afV
 K:Frag
 mg:Str->Option vn
 base:Heap
 A:Around
 N:List Str
 dY:adJ
 vF:Hp
 env:Env
 outer:List Env
 stack:List Env
 ex:List adG
 fn:Str->Bool
 calm:Bool
 pn:List (adG×Obj)
 xe:vn->adJ->Prop
def fG (l:List Env):List adG:=l.filterMap (·.frame)
abbrev Cx.fs (X:Cx):List adG:=fG X.outer
def iW (sc:Scope)(x:Str):Prop:=sc.names.lookup x=some .local\/sc.names.lookup x=some .cell\/sc.names.lookup x=some .free
def Loc (sc:Scope)(x:Str):Prop:=sc.names.lookup x=some .local\/sc.names.lookup x=some .cell
def Look (env:Env)(h:Heap)(m:Str->Option vn)(x:Str)(u:vn):Prop:=
 (env.kindOf x=some .local/\m x=some u)\/((env.kindOf x=some .cell\/env.kindOf x=some .free)/\∃c,env.cells.lookup x=some c/\h.IsCell c (some u))
structure Cx.Ok (X:Cx):Prop where
 mod:Mod X.K X.mg X.base
 kind:X.env.scope.kind=.function
 glob:X.env.globals=mainGlobals
 blt:X.env.builtins=builtinsNs
 above:X.dY.heap.objs.size<=X.env.locals
 inj:∀x y c,X.env.cells.lookup x=some c->X.env.cells.lookup y=some c->x=y
 has:∀x,(X.env.kindOf x=some .cell\/X.env.kindOf x=some .free)->∃c,X.env.cells.lookup x=some c
 vY:∀x c,X.fn x=true->X.env.cells.lookup x=some c->X.dY.heap.objs.size<=c
 hd:X.calm=true->X.A.handled=none
 frames:X.A.frames=some X.stack
 qo:X.stack=X.outer\/(X.stack=X.env::X.outer/\X.env.frame=some X.env.locals)
 QL:∀b∈X.ex,b≠X.env.locals/\∀x c,X.env.cells.lookup x=some c->c≠b
 bs:∀b o,X.base.get? b=some o->X.dY.heap.get? b=some o/\X.vF b=none
 oH:X.base.objs.size<=X.dY.heap.objs.size
 vG:∀b o,X.base.get? b=some o->b∉X.ex
 zO:∀b∈X.ex,b∉X.fs
 jP:X.dY.heap.FunFrames X.base X.outer
 qp:∀b∈X.fs,X.vF b=none
structure Inv (X:Cx) (pins:List (adG×Obj)) (σ:List (Option V)) (H:Hp) (s:adJ):Prop where
 ok:X.Ok
 os:s.os=X.dY.os
 bare:AllBare s.gens
 base:Un X.fs X.ex X.vF H X.dY.heap s.heap
 loc:∃m,s.heap.Ns X.env.locals m/\∀(i:Nat) (x:Str) (v:V),X.N[i]?=some x->σ[i]?=some (some v)->iW X.env.scope x->∃u,RelV v u/\Look X.env s.heap m x u
 cell:∀x c,X.env.cells.lookup x=some c->∃v,s.heap.IsCell c v
 free:H X.env.locals=none
 lE:∀x c,X.env.cells.lookup x=some c->H c=none
 pin:∀p∈X.pn++pins,s.heap.get? p.1=some p.2/\H p.1=none/\p.1≠X.env.locals/\p.1∉X.fs/\∀v,p.2.data≠.cell v
 aO:dU X.prog X.w H s.heap
 len : σ.length=X.N.length
section
variable {X:Cx}
theorem Cx.Ok.acq (ok:X.Ok)(e:X.base.get? b=some o):b∉X.fs:=λhb=>by
 have:=(ok.jP.mem hb).1
 simp_all
theorem Inv.bs (I:Inv X pins σ H s):∀b o,X.base.get? b=some o->s.heap.get? b=some o/\H b=none:=λb o e=>
 ⟨I.base.keep b o (I.ok.bs b o e).1 (I.ok.bs b o e).2 (I.ok.acq e) (I.ok.vG b o e),I.base.free b o (I.ok.bs b o e).1 (I.ok.bs b o e).2 (I.ok.vG b o e)⟩
theorem Inv.bk (I:Inv X pins σ H s):∀b o,X.base.get? b=some o->s.heap.get? b=some o:=λb o e=>(I.bs b o e).1
theorem Inv.mod (I:Inv X pins σ H s):Mod X.K X.mg X.base:=I.ok.mod
theorem Inv.dB (I:Inv X pins σ H s):X.K.In s.heap:=I.ok.mod.vX.keeps I.bk
theorem Inv.lt (I:Inv X pins σ H s):X.env.locals<s.heap.objs.size:=by obtain⟨_,hn,_⟩:=I.loc;exact hn.lt
theorem Inv.sz (I:Inv X pins σ H s):X.dY.heap.objs.size<=s.heap.objs.size:=Cn I.ok.above (aet I.lt)
theorem Inv.acr (I:Inv X pins σ H s){a:adG}(h:s.heap.objs.size<=a):a∉X.fs:=λhb=>by
 obtain⟨_,o,ho,_⟩:=I.ok.jP.mem hb;exact absurd (ze (nt ho) (Cn I.sz h)) (abc _)
theorem Inv.qu (I:Inv X pins σ H s):∀x c,X.env.cells.lookup x=some c->c≠X.env.locals:=λx c e z=>by
 obtain⟨v,o,ho,hd⟩:=I.cell x c e;obtain⟨m,⟨o',es,ep,ju,qw,_⟩,_⟩:=I.loc;rw[z,ju]at ho;cases ho;rw[qw]at hd;cases hd
theorem Inv.jP (I:Inv X pins σ H s):s.heap.FunFrames X.base X.outer:=by
 have all:∀(l),(∀b∈fG l,b∈X.fs)->X.dY.heap.FunFrames X.base l->s.heap.FunFrames X.base l:=by
  intro l
  induction l with
  |nil=>intro _ _;trivial
  |cons env r ih=>
   intro hs hl;obtain⟨hk,⟨L,o,hf,hn,ho,hd⟩,hr⟩:_:=hl;have hL:=hs L (by unfold fG;rw[adT,hf];exact YE);obtain⟨sl,e⟩:=I.base.slot L o ho (I.ok.qp L hL) hL λz=>I.ok.zO L z hL
   exact⟨hk,⟨L,_,hf,hn,e,hd⟩,ih (λb hb=>hs b (by unfold fG;rw[adT,hf];exact MW _ hb)) hr⟩
 exact all X.outer (λ_ hb=>hb) I.ok.jP
theorem Inv.stack (I:Inv X pins σ H s):s.heap.FunFrames X.base X.stack:=by
 obtain e|⟨e,hf⟩:=I.ok.qo
 ·rw[e];exact I.jP
 ·rw[e];obtain⟨m,hn,_⟩:=I.loc;refine .cons (by rw[I.ok.kind];decide) hf hn ?_ I.jP;exact Heap.get?_none_of_le (Cn I.ok.oH I.ok.above)
theorem Inv.uR (I:Inv X pins σ H s):∀b∈fG X.stack,b∈X.env.locals::X.fs:=λb hb=>by
 obtain e|⟨e,hf⟩:=I.ok.qo
 ·simp_all
 ·rw[e]at hb;unfold fG at hb;rw[adT,hf]at hb;exact hb
theorem Inv.KL (I:Inv X pins σ H s):∀b∈fG X.stack,H b=none:=λb hb=>by
 obtain e|hb:=ff.mp (I.uR b hb)
 ·rw[e];exact I.free
 ·obtain⟨_,o,ho,_⟩:=I.ok.jP.mem hb;exact I.base.free b o ho (I.ok.qp b hb) λz=>I.ok.zO b z hb
theorem Inv.step {ch:List adG}(I:Inv X pins σ H s)(lY:∀b∈ch,(b∈X.ex\/X.dY.heap.objs.size<=b)/\b≠X.env.locals/\(∀x c,X.env.cells.lookup x=some c->c≠b)/\∀p∈X.pn++pins,p.1≠b)(keep:∀b o,b≠X.env.locals->b∉X.fs->b∉ch->s.heap.get? b=some o->H b=none->h'.get? b=some o)(slot:∀b o,b≠X.env.locals->b∈X.fs->b∉ch->s.heap.get? b=some o->H b=none->∃sl,h'.get? b=some {o with slots:=sl})(free:∀b o,b∉ch->s.heap.get? b=some o->H b=none->H' b=none)(there:∀b o,b∉ch->s.heap.get? b=some o->∃o',h'.get? b=some o')(lL:∀b xs,H b=some (.tup xs)->H' b=some (.tup xs))(ku:∀b o u,H b=some (.eS o u)->H' b=some (.eS o u))(lM:∀b ps,H b=some (.qm ps)->∃more,H' b=some (.qm (ps++more)))(ns:∀m,s.heap.Ns X.env.locals m->h'.Ns X.env.locals m)(aO:dU X.prog X.w H' h')(hg:AllBare g'):
  Inv X pins σ H' {s with heap:=h',gens:=g',drawn:=d',toks:=t'}:=by
 have QM:∀b o,X.dY.heap.get? b=some o->b≠X.env.locals:=λb o e=>AS (ze (nt e) I.ok.above)
 have Ah:∀b o,X.dY.heap.get? b=some o->b∉X.ex->b∉ch:=λb o e hx hb=>by
  obtain z|z:=(lY b hb).1
  ·exact hx z
  ·exact absurd (ze (nt e) z) (abc _)
 have cellK:∀x c,X.env.cells.lookup x=some c->∀v,s.heap.IsCell c v->h'.IsCell c v:=λx c e v ⟨o,ho,hd⟩=>by
  have vZ:=λz=>(lY c z).2.2.1 x c e rfl
  by_cases hc:c∈X.fs
  ·obtain⟨sl,q⟩:=slot c o (I.qu x c e) hc vZ ho (I.lE x c e);exact⟨_,q,hd⟩
  ·exact⟨o,keep c o (I.qu x c e) hc vZ ho (I.lE x c e),hd⟩
 refine⟨I.ok,I.os,hg,⟨λb o e n hb hx=>?_,λb o e n hb hx=>?_,λb o e n hx=>?_,λb o e hx=>?_,λb xs e=>lL b xs (I.base.lL b xs e),λb o xs e=>ku b o xs (I.base.ku b o xs e),λb ps e=>?_⟩,?_,λx c e=>?_,?_,λx c e=>?_,λp hp=>?_,aO,I.len⟩
 ·exact keep b o (QM b o e) hb (Ah b o e hx) (I.base.keep b o e n hb hx) (I.base.free b o e n hx)
 ·obtain⟨sl,e1⟩:=I.base.slot b o e n hb hx;obtain⟨sl',e2⟩:=slot b _ (QM b o e) hb (Ah b o e hx) e1 (I.base.free b o e n hx);exact⟨sl',e2⟩
 ·obtain⟨o',e1⟩:=I.base.there b o e hx;exact free b o' (Ah b o e hx) e1 (I.base.free b o e n hx)
 ·obtain⟨o',e1⟩:=I.base.there b o e hx;exact there b o' (Ah b o e hx) e1
 ·obtain⟨m1,e1⟩:=I.base.lM b ps e;obtain⟨m2,e2⟩:=lM b _ e1;exact⟨m1++m2,by rw[e2,Array.append_assoc]⟩
 ·obtain⟨m,hn,hl⟩:=I.loc;refine⟨m,ns m hn,λi x v e1 e2 e3=>?_⟩;obtain⟨u,r,l⟩:=hl i x v e1 e2 e3;refine⟨u,r,?_⟩;obtain l|⟨k,c,e,z⟩:_:=l
  ·exact .inl l
  ·exact .inr ⟨k,c,e,cellK x c e _ z⟩
 ·obtain⟨v,z⟩:=I.cell x c e;exact⟨v,cellK x c e v z⟩
 ·obtain⟨m,⟨o,_,_,ho,_⟩,_⟩:=I.loc;exact free _ o (λz=>(lY _ z).2.1 rfl) ho I.free
 ·obtain⟨v,o,ho,hd⟩:=I.cell x c e;exact free c o (λz=>(lY c z).2.2.1 x c e rfl) ho (I.lE x c e)
 ·obtain⟨e,n,ne,nf,d⟩:_:=I.pin p hp;have vZ:=λz=>(lY p.1 z).2.2.2 p hp rfl
  exact⟨keep p.1 p.2 ne nf vZ e n,free p.1 p.2 vZ e n,ne,nf,d⟩
theorem Inv.un (I:Inv X pins σ H s)(u:Un X.fs [] H H' s.heap h')(aO:dU X.prog X.w H' h'):Inv X pins σ H' {s with heap:=h',toks:=t'}:=by
 obtain⟨m,⟨o,es,ep,ho,r⟩,_⟩:_:=id I.loc;obtain⟨sl,hL⟩:=u.any ho I.free 'Y';exact I.step (g':=s.gens) (d':=s.drawn) (ch:=[]) (λ_ z=>nomatch z) (λb o _ hb _ e n=>u.keep b o e n hb 'Y') (λb o _ hb _ e n=>u.slot b o e n hb 'Y') (λb o _ e n=>u.free b o e n 'Y') (λb o _ e=>u.there b o e 'Y') u.lL u.ku u.lM (λm' hm=>by
  obtain⟨o',oI,GF,ju,r'⟩:_:=hm;rw[ho]at ju;cases ju;exact⟨_,oI,GF,hL,r'⟩) aO I.bare
theorem Inv.call (I:Inv X pins σ H s)(u:Un (fG X.stack) ch H H' s.heap h')(aO:dU X.prog X.w H' h')(hg:AllBare g')(lY:∀b∈ch,(b∈X.ex\/X.dY.heap.objs.size<=b)/\b≠X.env.locals/\(∀x c,X.env.cells.lookup x=some c->c≠b)/\∀p∈X.pn++pins,p.1≠b):
  Inv X pins σ H' {s with heap:=h',gens:=g',drawn:=d',toks:=t'}:=by
 obtain⟨m,⟨o,es,ep,ho,r⟩,_⟩:_:=id I.loc;obtain⟨sl,hL⟩:=u.any ho I.free λz=>(lY _ z).2.1 rfl
 exact I.step lY (λb o hL hb hc e n=>u.keep b o e n (λz=>(ff.mp (I.uR b z)).elim hL hb) hc) (λb o _ _ hc e n=>u.any e n hc) (λb o hc e n=>u.free b o e n hc) (λb o hc e=>u.there b o e hc) u.lL u.ku u.lM (λm' hm=>by
  obtain⟨o',oI,GF,ju,r'⟩:_:=hm;rw[ho]at ju;cases ju;exact⟨_,oI,GF,hL,r'⟩) aO hg
theorem Inv.turned (I:Inv X pins σ H s)(k:∀b o,b≠it->s.heap.get? b=some o->h'.get? b=some o)(hn:H it=none)(hL:it≠X.env.locals)(h1:it∈X.ex\/X.dY.heap.objs.size<=it)(h2:∀x c,X.env.cells.lookup x=some c->c≠it)(h3:∀p∈X.pn++pins,p.1≠it):Inv X pins σ H {s with heap:=h',toks:=t'}:=by
 refine I.step (g':=s.gens) (d':=s.drawn) (ch:=[it]) (λb hb=>?_) (λb o _ _ hc e _=>k b o (λz=>hc (by simp[z])) e) (λb o _ _ hc e _=>⟨o.slots,k b o (λz=>hc (by simp[z])) e⟩) (λ_ _ _ _ n=>n)
  (λb o hc e=>⟨o,k b o (λz=>hc (by simp[z])) e⟩) (λ_ _ e=>e) (λ_ _ _ e=>e) (λb ps e=>⟨#[],by assumption⟩) (λm hm=>?_) (λb u e=>?_) I.bare
 ·grind
 ·obtain⟨o,es,ep,ho,r⟩:=hm;exact⟨o,es,ep,k _ o (adU hL) ho,r⟩
 ·refine(I.aO b u e).mY (λc v hc q=>k c v ?_ q) (λ_ q=>q) λ_ _ q=>q
  lia
theorem Inv.tok (I:Inv X pins σ H s)(t:Nat):Inv X pins σ H {s with toks:=t}:=I.un (h':=s.heap) (t':=t) Un.refl I.aO
theorem Inv.kept (I:Inv X pins σ H s)(k:∀b u,s.heap.get? b=some u->h'.get? b=some u):Inv X pins σ H {s with heap:=h',toks:=t'}:=I.un (Un.kept k) (I.aO.kept k)
theorem Inv.laid {a:adG}(I:Inv X pins σ H s)(k:∀b u,s.heap.get? b=some u->h'.get? b=some u)(hp:s.heap.objs.size<=a)(new:ie X.prog X.w (upd H a o) h' a o):
  Inv X pins σ (upd H a o) {s with heap:=h',toks:=t'}:=I.un (Un.laid k hp (I.aO.fresh hp)) (I.aO.laid k hp new)
theorem Inv.write (I:Inv X pins σ H s)(mu:Af (H x))(he:e=x\/H e=some (.own x))(k:∀b u,b≠e->s.heap.get? b=some u->h'.get? b=some u)(vW:∃u,h'.get? e=some u)(new:ie X.prog X.w (upd H x o) h' x o):Inv X pins σ (upd H x o) {s with heap:=h',toks:=t'}:=I.un (Un.write mu he k vW) (I.aO.write mu he k vW new)
theorem Inv.KN (I:Inv X pins σ H s)(h:∀p∈abH,s.heap.get? p.1=some p.2/\H p.1=none/\p.1≠X.env.locals/\p.1∉X.fs/\∀v,p.2.data≠.cell v):Inv X abH σ H s:=
 ⟨I.ok,I.os,I.bare,I.base,I.loc,I.cell,I.free,I.lE,λp hp=>(qr.mp hp).elim (λz=>I.pin p (xw _ z)) (h p),I.aO,I.len⟩
theorem JW {N:List Str}(hN:N.Nodup){j:Nat}(a:N[i]?=some x)(b:N[j]?=some x):i=j:=by
 obtain⟨h1,e1⟩:=gr.mp a;obtain⟨h2,e2⟩:=gr.mp b;exact(List.getElem_inj hN).mp (e1.trans e2.symm)
theorem Jw (I:Inv X pins σ H s)(hN:X.N.Nodup)(hi:X.N[i]?=some x)(hx:Loc X.env.scope x)(r:RelV v u)(h:∀s',Inv X pins (σ.set i (some v)) H s'->(∃a,Heap.SameBut a s.heap s'.heap/\(a=X.env.locals\/X.env.cells.lookup x=some a))->Q () s')(hf:X.fn x=true\/X.env.scope.names.lookup x=some .local:=by first|exact .inl rfl|exact .inr rfl|assumption):wpAny M A (storeName X.env x u) Q E s:=by
 obtain⟨m,hn,hl⟩:_:=id I.loc;have acs:(X.env.scope.kind==.class||(X.env.scope.kind==.module&&X.env.locals != X.env.globals))=false:=by rw[I.ok.kind];rfl
 have PU:i < σ.length:=by rw[I.len];exact(gr.mp hi).1
 have qu:=I.qu;have tracked:∀{a:adG} {h':Heap},(∃o,s.heap.get? a=some o/\H a=none)->Heap.SameBut a s.heap h'->dU X.prog X.w H h':=λ{a h'} ha hs b ob e=>by
  obtain⟨_,_,ot⟩:_:=ha;refine(I.aO b ob e).mY (λc w' hc q=>(hs.2 c ?_).trans q) (λ_ q=>q) λ_ _ q=>q
  rintro rfl;obtain rfl|hc:=hc
  ·rw[ot]at e;cases e
  ·rw[ot]at hc;cases hc
 obtain hk|hk:=hx
 ·refine wpAny_storeName_local hk hn (λh' hn' hs=>?_) acs;obtain⟨oL,_,_,oJ,_⟩:_:=id hn;refine h _ ⟨I.ok,I.os,I.bare,⟨λb o e n hb hx=>?_,λb o e n hb hx=>?_,I.base.free,λb o e hx=>?_,I.base.lL,I.base.ku,I.base.lM⟩,⟨_,hn',λj y v' e1 e2 e3=>?_⟩,λy c e=>?_,I.free,I.lE,λp hp=>?_,tracked ⟨oL,oJ,I.free⟩ hs,by simpa using I.len⟩ ⟨_,hs,.inl rfl⟩
  ·exact(hs.2 b (AS (ze (nt e) I.ok.above))).trans (I.base.keep b o e n hb hx)
  ·obtain⟨sl,e1⟩:=I.base.slot b o e n hb hx;exact⟨sl,(hs.2 b (AS (ze (nt e) I.ok.above))).trans e1⟩
  ·obtain⟨o',e1⟩:=I.base.there b o e hx;exact⟨o',(hs.2 b (AS (ze (nt e) I.ok.above))).trans e1⟩
  ·by_cases hj:j=i
   ·subst hj;rw[hi]at e1;cases e1;rw[aaa PU]at e2;cases e2;exact⟨u,r,.inl ⟨hk,'Y'⟩⟩
   ·rw[FF (adU hj)]at e2;obtain⟨u',r',q⟩:_:=hl j y v' e1 e2 e3;refine⟨u',r',?_⟩;obtain⟨k,e⟩|⟨k,c,e,z⟩:_:=q
    ·refine .inl ⟨k,?_⟩;have:y≠x:=λe=>hj (JW hN e1 (e▸hi))
     simp[this,e]
    ·exact .inr ⟨k,c,e,z.sameBut hs (qu y c e)⟩
  ·obtain⟨w',z⟩:=I.cell y c e;exact⟨w',z.sameBut hs (qu y c e)⟩
  ·obtain⟨e,n,ne,nf,d⟩:_:=I.pin p hp;exact⟨(hs.2 p.1 ne).trans e,n,ne,nf,d⟩
 ·have GH:X.fn x=true:=by
   obtain z|z:=hf
   ·exact z
   ·rw[z]at hk;cases hk
  obtain⟨c,hc⟩:=I.ok.has x (.inl hk);obtain⟨w',z⟩:=I.cell x c hc;refine wpAny_storeName_cell I.ok.kind hk hc z (λh' kH hs=>?_);obtain⟨oc,QN,acu⟩:=id z;refine h {s with heap:=h'} ⟨I.ok,I.os,I.bare,⟨λb o e n hb hx=>?_,λb o e n hb hx=>?_,I.base.free,λb o e hx=>?_,I.base.lL,I.base.ku,I.base.lM⟩,⟨m,hn.sameBut hs (adU (qu x c hc)),λj y v' e1 e2 e3=>?_⟩,λy c' e=>?_,I.free,I.lE,λp hp=>?_,tracked ⟨oc,QN,I.lE x c hc⟩ hs,by simpa using I.len⟩ ⟨c,hs,.inr hc⟩
  ·exact(hs.2 b (AS (ze (nt e) (I.ok.vY x c GH hc)))).trans (I.base.keep b o e n hb hx)
  ·obtain⟨sl,e1⟩:=I.base.slot b o e n hb hx;exact⟨sl,(hs.2 b (AS (ze (nt e) (I.ok.vY x c GH hc)))).trans e1⟩
  ·obtain⟨o',e1⟩:=I.base.there b o e hx;exact⟨o',(hs.2 b (AS (ze (nt e) (I.ok.vY x c GH hc)))).trans e1⟩
  ·by_cases hj:j=i
   ·subst hj;rw[hi]at e1;cases e1;rw[aaa PU]at e2;cases e2;exact⟨u,r,.inr ⟨.inl hk,c,hc,kH⟩⟩
   ·rw[FF (adU hj)]at e2;obtain⟨u',r',q⟩:=hl j y v' e1 e2 e3;refine⟨u',r',?_⟩;obtain q|⟨k,c',e,z'⟩:_:=q
    ·exact .inl q
    ·refine .inr ⟨k,c',e,z'.sameBut hs ?_⟩;rintro rfl;exact hj (JW hN e1 (I.ok.inj _ _ _ e hc▸hi))
  ·by_cases QO:c'=c
   ·subst QO;exact⟨_,kH⟩
   ·obtain⟨w2,z2⟩:=I.cell y c' e;exact⟨w2,z2.sameBut hs QO⟩
  ·obtain⟨e,n,ne,nf,d⟩:_:=I.pin p hp;refine⟨(hs.2 p.1 ?_).trans e,n,ne,nf,d⟩;intro q;rw[q,QN]at e;have q':=GG e;exact d w' (by rw[<- q'];exact acu)
theorem yc (I:Inv X pins σ H s)(hN:X.N.Nodup)(hi:X.N[i]?=some x)(hx:Loc X.env.scope x)(r:RelV v u)(h:∀s',Inv X pins (σ.set i (some v)) H s'->Q () s')(hf:X.fn x=true\/X.env.scope.names.lookup x=some .local:=by first|exact .inl rfl|exact .inr rfl|assumption):wpAny M A (storeName X.env x u) Q E s:=
 Jw I hN hi hx r (λs' I' _=>h s' I') hf
theorem Inv.OI (I:Inv X pins σ H s)(ho:s'.os=s.os)(u:Un (fG X.stack) ch H H' s.heap s'.heap)(aO:dU X.prog X.w H' s'.heap)(hg:AllBare s'.gens)(lY:∀b∈ch,(b∈X.ex\/X.dY.heap.objs.size<=b)/\b≠X.env.locals/\(∀x c,X.env.cells.lookup x=some c->c≠b)/\∀p∈X.pn++pins,p.1≠b):Inv X pins σ H' s':=by
 obtain⟨h',g',d',t',o'⟩:=s';have e:=ho;subst e;exact I.call (g':=g') (t':=t') (d':=d') u aO hg lY
end
abbrev XK:=vn->Option adG->Hp->Prop
abbrev St:=List (Option V)
abbrev VK:=V->Hp->Prop
abbrev TE:=St->Hp->VK->Prop
abbrev TT:=St->Hp->(Bool->Hp->Prop)->Prop
abbrev TA:=St->Hp->(List V->Hp->Prop)->Prop
structure Ends where
 nx:St->Hp->Prop
 rt:VK
 bk:St->Hp->Prop:=λ_ _=>False
 ct:St->Hp->Prop:=λ_ _=>False
abbrev TS:=Ends->St->Hp->Prop
def EP (X:Cx)(pins:List (adG×Obj))(σ:St)(Q:VK)(u:vn)(s':adJ):Prop:=∃v H',Inv X pins σ H' s'/\RelV v u/\Q v H'
def TP (X:Cx)(pins:List (adG×Obj))(σ:St)(Q:Bool->Hp->Prop)(b:Bool)(s':adJ):Prop:=∃H',Inv X pins σ H' s'/\Q b H'
def AP (X:Cx)(pins:List (adG×Obj))(σ:St)(Q:List V->Hp->Prop)(us:List vn)(s':adJ):Prop:=∃vs H',Inv X pins σ H' s'/\Vals vs us/\Q vs H'
def SP (X:Cx)(pins:List (adG×Obj))(D:Ends)(f:Flow)(s':adJ):Prop:=
 match f with
 | .next=>∃aD H',Inv X pins aD H' s'/\D.nx aD H'
 | .brk=>∃aD H',Inv X pins aD H' s'/\D.bk aD H'
 | .cont=>∃aD H',Inv X pins aD H' s'/\D.ct aD H'
 | .ret u=>∃v aD H',Inv X pins aD H' s'/\RelV v u/\D.rt v H'
def PE (X:Cx)(e:Expr)(t:TE):Prop:=
 ∀(pins:List (adG×Obj)) (s:adJ) (σ:St) (H:Hp) (Q:VK),Inv X pins σ H s->t σ H Q->wpAny (model X.prog X.w) X.A (eval e X.env) (EP X pins σ Q) X.xe s
def PT (X:Cx)(e:Expr)(t:TT):Prop:=
 ∀(pins:List (adG×Obj)) (s:adJ) (σ:St) (H:Hp) (Q:Bool->Hp->Prop),Inv X pins σ H s->t σ H Q->wpAny (model X.prog X.w) X.A (isTrue e X.env (eval e X.env)) (TP X pins σ Q) X.xe s
def PW (X:Cx)(e:Expr)(t:TT):Prop:=
 ∀(whole:Sem vn) (pins:List (adG×Obj)) (s:adJ) (σ:St) (H:Hp) (Q:Bool->Hp->Prop),Inv X pins σ H s->t σ H Q->wpAny (model X.prog X.w) X.A (isTrue e X.env whole) (TP X pins σ Q) X.xe s
theorem PW.pt (h:PW X e t):PT X e t:=h _
def PA (X:Cx)(es:List Expr)(t:TA):Prop:=
 ∀(pos:Pos) (pins:List (adG×Obj)) (s:adJ) (σ:St) (H:Hp) (Q:List V->Hp->Prop),Inv X pins σ H s->t σ H Q->wpAny (model X.prog X.w) X.A (spliced (backTo pos (starEach es X.env))) (AP X pins σ Q) X.xe s
def PS (X:Cx)(st:afW)(t:TS):Prop:=
 ∀(pins:List (adG×Obj)) (s:adJ) (σ:St) (H:Hp) (D:Ends),Inv X pins σ H s->t D σ H->wpAny (model X.prog X.w) X.A (exec st X.env) (SP X pins D) X.xe s
def gw (X:Cx)(st:List afW)(t:TS):Prop:=
 ∀(pins:List (adG×Obj)) (s:adJ) (σ:St) (H:Hp) (D:Ends),Inv X pins σ H s->t D σ H->wpAny (model X.prog X.w) X.A (execs st X.env) (SP X pins D) X.xe s
theorem aJ {t:Sem α}{Q Q' : α->adJ->Prop}(h:wpAny M A t Q E s)(hQ:∀a s,Q a s->Q' a s):wpAny M A t Q' E s:=ae6 h hQ λ_ _ x=>x
section
variable {X:Cx}
def dG (i:Nat):TE:=λσ H Q=>∃v,σ[i]?=some (some v)/\Q v H
def tC (v:V):TE:=λ_ H Q=>Q v H
theorem lu {pos:Pos}(hN:X.N[i]?=some x)(hv:iW X.env.scope x)(hd:(x==("__debug__":Str))=false:=by decide)(jU:(x==("__classdict__":Str))=false:=by decide):PE X (.Name x pos) (dG i):=by
 intro pins s σ H Q I h;obtain⟨v,e,h⟩:_:=h;obtain⟨m,hn,hl⟩:_:=I.loc;obtain⟨u,r,l⟩:_:=hl i x v hN e hv;have fin:EP X pins σ Q u s:=⟨v,H,I,r,h⟩
 obtain⟨hk,hm⟩|⟨hk,c,hc,OJ⟩:_:=l
 ·exact wpAny_Name (wpAny_loadName_local I.ok.kind hk hn hm fin) hd
 ·obtain hk|hk:=hk
  ·exact wpAny_Name (wpAny_loadName_cell I.ok.kind hk hc OJ fin) hd
  ·exact wpAny_Name (wpAny_loadName_free I.ok.kind hk hc OJ fin jU) hd
theorem yJ:PE X (.Constant (.int i) j pos) (tC (.int i)):=λ_ _ _ H _ I h=>wpAny_Constant_int ⟨.int i,H,I.tok _,⟨_,rfl⟩,h⟩
theorem OL:PE X (.Constant (.bool b) j pos) (tC (.bl b)):=λ_ _ _ H _ I h=>Constant_bool ⟨.bl b,H,I,rfl,h⟩
theorem MB:PE X (.Constant .none j pos) (tC .aY):=λ_ _ _ H _ I h=>Constant_none ⟨.aY,H,I,rfl,h⟩
theorem MC:PE X (.Constant (.str x) j pos) (tC (.str x)):=λ_ _ _ H _ I h=>Calls.Constant_str ⟨.str x,H,I.tok _,⟨_,rfl⟩,h⟩
def Gl (X:Cx)(x:Str):Prop:=X.env.kindOf x=some .globalImplicit
theorem C6 {σ:St}(I:Inv X pins σ H s)(hg:Gl X x)(hm:X.mg x=some u)(h:Q u s)(hd:(x==("__debug__":Str))=false:=by decide):wpAny (model X.prog X.w) X.A (eval (.Name x pos) X.env) Q E s:=
 Calls.Name_function_global I.ok.kind hg (Calls.loadGlobal_global (by rw[I.ok.glob];exact I.mod.glob.keeps I.bk) hm h) hd
theorem mK {E:vn->adJ->Prop}{σ:St}{pos:Pos}(I:Inv X pins σ H s)(hg:Gl X x)(hm:X.mg x=none)(hv:bootBuiltins x=some u)(h:Q u s)(hn:x ≠ "__name__":=by decide)(hd:(x==("__debug__":Str))=false:=by decide):wpAny (model X.prog X.w) X.A (eval (.Name x pos) X.env) Q E s:=by
 obtain⟨mb,h1,h2⟩:_:=I.mod.blt;exact Calls.Name_function_global I.ok.kind hg (Calls.loadGlobal_builtin (by rw[I.ok.glob];exact I.mod.glob.keeps I.bk) hm (by rw[I.ok.blt];exact h1.keeps I.bk) ((h2 x hn).trans hv) h) hd
theorem YJ (hg:Gl X x)(hm:X.mg x=some u)(r:RelV v u)(hd:(x==("__debug__":Str))=false:=by decide):PE X (.Name x pos) (tC v):=
 λ_ _ _ H _ I h=>C6 I hg hm ⟨v,H,I,r,h⟩ hd
theorem YK {pos:Pos}(hg:Gl X x)(hm:X.mg x=none)(hv:bootBuiltins x=some u)(r:RelV v u)(hn:x ≠ "__name__":=by decide)(hd:(x==("__debug__":Str))=false:=by decide):PE X (.Name x pos) (tC v):=
 λ_ _ _ H _ I h=>mK I hg hm hv ⟨v,H,I,r,h⟩ hn hd
def tB (t:TE):TT:=λσ H Q=>t σ H λx H1=>∃c,x=.bl c/\Q c H1
theorem MD (h:PE X e t)(he:∀whole,isTrue e X.env whole=(do let v<-whole;standAt e.pos;holding [v] (truthy v)):=by intro _;rfl):PT X e (tB t):=by
 intro pins s σ H Q I hw;refine isTrue_plain (aJ (h pins s σ H _ I hw) λv s1 z9=>?_) (he _);obtain⟨x,H1,I1,r1,q1⟩:=z9;obtain⟨d,rfl,q⟩:_:=q1;cases r1;exact YI ⟨H1,I1,q⟩
def vH (t u:TT):TT:=λσ H Q=>t σ H λc H1=>if c=true then u σ H1 Q else Q false H1
def GI (t u:TT):TT:=λσ H Q=>t σ H λc H1=>if c=true then Q true H1 else u σ H1 Q
def FQ (t:TT):TT:=λσ H Q=>t σ H λc H1=>Q (!c) H1
theorem KO (ha:PT X a tA):PW X (.BoolOp .And [a] pos) tA:=by
 intro wh pins s σ H Q I h;refine isTrue_and (aJ (ha pins s σ H Q I h) λc s1 e=>?_);cases c with
 |true=>exact isTrue_and_nil e
 |false=>exact e
theorem aaA (ha:PT X a tA):PW X (.BoolOp .Or [a] pos) tA:=by
 intro wh pins s σ H Q I h;refine isTrue_or (aJ (ha pins s σ H Q I h) λc s1 e=>?_);cases c with
 |false=>exact isTrue_or_nil e
 |true=>exact e
theorem yK (ha:PT X a tA)(hb:PW X (.BoolOp .And (b::rest) pos) GJ):PW X (.BoolOp .And (a::b::rest) pos) (vH tA GJ):=by
 intro wh pins s σ H Q I h;refine isTrue_and (aJ (ha pins s σ H _ I h) λc s1 z9=>?_);obtain⟨H1,I1,q1⟩:=z9;cases c with
 |true=>exact hb wh pins s1 σ H1 Q I1 q1
 |false=>exact⟨H1,I1,q1⟩
theorem OM (ha:PT X a tA)(hb:PW X (.BoolOp .Or (b::rest) pos) GJ):PW X (.BoolOp .Or (a::b::rest) pos) (GI tA GJ):=by
 intro wh pins s σ H Q I h;refine isTrue_or (aJ (ha pins s σ H _ I h) λc s1 z9=>?_);obtain⟨H1,I1,q1⟩:=z9;cases c with
 |true=>exact⟨H1,I1,q1⟩
 |false=>exact hb wh pins s1 σ H1 Q I1 q1
theorem ME (ha:PT X a tA):PT X (.UnaryOp .Not a pos) (FQ tA):=by
 intro pins s σ H Q I h;exact isTrue_not (ha pins s σ H (λc H1=>Q (!c) H1) I h)
def EX (ta tb:TE):TE:=λσ H Q=>ta σ H λx H1=>∃c,x=.bl c/\if c=true then tb σ H1 Q else Q (.bl false) H1
def FR (ta tb:TE):TE:=λσ H Q=>ta σ H λx H1=>∃c,x=.bl c/\if c=true then Q (.bl true) H1 else tb σ H1 Q
def OO (ta:TE):TE:=λσ H Q=>ta σ H λx H1=>∃c,x=.bl c/\Q (.bl (!c)) H1
theorem aaB (h:PE X a t):PE X (.BoolOp op [a] pos) t:=λpins s σ H Q I hw=>BoolOp_one (h pins s σ H Q I hw)
theorem MF (ha:PE X a ta)(hb:PE X (.BoolOp .And (b::rest) pos) tb):PE X (.BoolOp .And (a::b::rest) pos) (EX ta tb):=by
 intro pins s σ H Q I h;refine BoolOp_and (aJ (ha pins s σ H _ I h) λv s1 z9=>?_);obtain⟨x,H1,I1,r1,q1⟩:=z9;obtain⟨c,rfl,q1⟩:_:=q1;cases r1;refine YI ?_;cases c with
 |true=>exact hb pins s1 σ H1 Q I1 q1
 |false=>exact⟨.bl false,H1,I1,rfl,q1⟩
theorem OQ (ha:PE X a ta)(hb:PE X (.BoolOp .Or (b::rest) pos) tb):PE X (.BoolOp .Or (a::b::rest) pos) (FR ta tb):=by
 intro pins s σ H Q I h;refine BoolOp_or (aJ (ha pins s σ H _ I h) λv s1 z9=>?_);obtain⟨x,H1,I1,r1,q1⟩:=z9;obtain⟨c,rfl,q1⟩:_:=q1;cases r1;refine YI ?_;cases c with
 |false=>exact hb pins s1 σ H1 Q I1 q1
 |true=>exact⟨.bl true,H1,I1,rfl,q1⟩
theorem aaC (ha:PE X a ta):PE X (.UnaryOp .Not a pos) (OO ta):=by
 intro pins s σ H Q I h;refine UnaryOp_ (aJ (ha pins s σ H _ I h) λv s1 z9=>?_);obtain⟨x,H1,I1,r1,q1⟩:=z9;obtain⟨c,rfl,q1⟩:_:=q1;cases r1;exact not_of (YI ⟨.bl (!c),H1,I1,rfl,q1⟩)
def GK (t:TT)(ta tb:TE):TE:=λσ H Q=>t σ H λc H1=>if c=true then ta σ H1 Q else tb σ H1 Q
theorem CC (hc:PT X c tA)(ha:PE X a ta)(hb:PE X b tb):PE X (.IfExp c a b pos) (GK tA ta tb):=by
 intro pins s σ H Q I h;refine wpAny_IfExp (aJ (hc pins s σ H _ I h) λd s1 z9=>?_);obtain⟨H1,I1,q1⟩:=z9;cases d with
 |true=>exact ha pins s1 σ H1 Q I1 q1
 |false=>exact hb pins s1 σ H1 Q I1 q1
end
def aK (K:Frag)(H:Hp)(a:adG)(xs:List V):Prop:=
 Rd H a (.lst xs) \/
  ∃(o:Obj) (its:Array vn) (n:Nat),K.lookup a=some o/\o.cls=.type "list"/\o.dict=none/\o.data=.seq its n/\its.size<=sizeLine/\Vals xs its.toList
def cO (K:Frag)(H:Hp)(a:adG)(xs:List V):Prop:=
 Rd H a (.tup xs) \/
  ∃(o:Obj) (its:Array vn) (n:Nat),K.lookup a=some o/\o.cls=.type "tuple"/\o.data=.seq its n/\its.size<=sizeLine/\Vals xs its.toList
def acv:vn->Option V
 | .none=>some .aY
 | .bool b=>some (.bl b)
 | .int i _=>some (.int i)
 | .str x _=>some (.str x)
 | .bytes b _=>some (.jt b)
 | .float b _=>some (.oG b)
 | .ref a=>some (.ref a)
 | .type n=>some (.ty n)
 |_=>none
theorem RelV.abs (r:RelV x u):acv u=some x:=by
 cases x with
 |aY=>cases r;rfl
 |bl _=>cases r;rfl
 |int _=>obtain⟨t,rfl⟩:=r;rfl
 |str _=>obtain⟨t,rfl⟩:=r;rfl
 |jt _=>obtain⟨t,rfl⟩:=r;rfl
 |oG _=>obtain⟨t,rfl⟩:=r;rfl
 |ref _=>cases r;rfl
 |ty _=>cases r;rfl
theorem RelV.inj {x y:V}{u:vn}(r:RelV x u)(q:RelV y u):x=y:=GG (r.abs.symm.trans q.abs)
theorem Vals.inj:∀{xs ys:List V} {us:List vn},Vals xs us->Vals ys us->xs=ys
 |_,_,_,.nil,.nil=>rfl
 |_,_,_,.cons r t,.cons r' t'=>by rw[r.inj r',Vals.inj t t']
section
variable {σ:St}
theorem aK.of {K:Frag}(h:H a=some (.lst xs)):aK K H a xs:=.inl (.inl h)
theorem cO.of {K:Frag}(h:H a=some (.tup xs)):cO K H a xs:=.inl (.inl h)
theorem Inv.list (I:Inv X pins σ H s)(h:aK X.K H a xs):∃its,Vals xs its/\PlainL s.heap a its.toArray/\xs.length<=sizeLine:=by
 obtain h|⟨o,its,n,hk,hc,hd,hs,hz,r⟩:_:=h
 ·obtain⟨z,its,n,r,e⟩:_:=h.ok I.aO;exact⟨its,r,⟨_,n,e,rfl,rfl,rfl⟩,z⟩
 ·refine⟨its.toList,r,⟨o,n,I.dB a o hk,hc,hd,'Z'⟩,?_⟩;have e:=r.length
  simp_all
theorem Inv.tuple (I:Inv X pins σ H s)(h:cO X.K H a xs):∃its,Vals xs its/\IsTup s.heap a its.toArray/\xs.length<=sizeLine:=by
 obtain h|⟨o,its,n,hk,hc,hs,hz,r⟩:_:=h
 ·obtain⟨z,its,r,p⟩:_:=h.ok I.aO
  grind
 ·refine⟨its.toList,r,⟨o,I.dB a o hk,hc,n,'Z'⟩,?_⟩;have e:=r.length
  simp_all
theorem Inv.JX (I:Inv X pins σ H s)(h:aK X.K H a xs)(h':aK X.K H a ys):xs=ys:=by
 obtain⟨its,r,⟨o,n,e,_,_,d⟩,_⟩:_:=I.list h;obtain⟨its',r',⟨o',n',e',_,_,d'⟩,_⟩:_:=I.list h';rw[e]at e';cases e';rw[d]at d'
 injection d' with d1 _
 have:its=its':=by simpa using congrArg Array.toList d1
 subst this;exact r.inj r'
theorem Inv.Wz (I:Inv X pins σ H s)(h:cO X.K H a xs)(h':cO X.K H a ys):xs=ys:=by
 obtain⟨its,r,⟨o,e,_,n,d⟩,_⟩:_:=I.tuple h;obtain⟨its',r',⟨o',e',_,n',d'⟩,_⟩:_:=I.tuple h';rw[e]at e';cases e';rw[d]at d'
 injection d' with d1 _
 have:its=its':='J'
 subst this;exact r.inj r'
end
abbrev Cx.jl (X:Cx)(E:vn->adJ->Prop):Cx:={X with xe:=E}
abbrev Cx.v7 (X:Cx):Cx:=X.jl λ_ _=>False
theorem Cx.Ok.jl {X:Cx}(ok:X.Ok)(E:vn->adJ->Prop):(X.jl E).Ok:=
 ⟨ok.mod,ok.kind,ok.glob,ok.blt,ok.above,ok.inj,ok.has,ok.vY,ok.hd,ok.frames,ok.qo,ok.QL,ok.bs,ok.oH,ok.vG,ok.zO,ok.jP,ok.qp⟩
theorem Cx.Ok.nX {X:Cx}(ok:(X.jl E).Ok):X.Ok:=
 ⟨ok.mod,ok.kind,ok.glob,ok.blt,ok.above,ok.inj,ok.has,ok.vY,ok.hd,ok.frames,ok.qo,ok.QL,ok.bs,ok.oH,ok.vG,ok.zO,ok.jP,ok.qp⟩
section
variable {σ:St}
theorem Inv.jl (I:Inv X pins σ H s)(E:vn->adJ->Prop):Inv (X.jl E) pins σ H s:=⟨I.ok.jl E,I.os,I.bare,I.base,I.loc,I.cell,I.free,I.lE,I.pin,I.aO,I.len⟩
theorem Inv.nX (I:Inv (X.jl E) pins σ H s):Inv X pins σ H s:=⟨I.ok.nX,I.os,I.bare,I.base,I.loc,I.cell,I.free,I.lE,I.pin,I.aO,I.len⟩
theorem SP.nX (h:SP (X.jl E) pins D f s'):SP X pins D f s':=by
 cases f with
 |next=>obtain⟨aD,H',I,q⟩:=h;exact⟨aD,H',I.nX,q⟩
 |brk=>obtain⟨aD,H',I,q⟩:=h;exact⟨aD,H',I.nX,q⟩
 |cont=>obtain⟨aD,H',I,q⟩:=h;exact⟨aD,H',I.nX,q⟩
 |ret u=>obtain⟨v,aD,H',I,r,q⟩:=h;exact⟨v,aD,H',I.nX,r,q⟩
theorem gw.v7 {st:List afW}(h:gw X.v7 st t):gw X st t:=λpins s σ H D I hw=>
 ae6 (h pins s σ H D (I.jl _) hw) (λ_ _ q=>q.nX) λ_ _ z=>False.elim z
end
section
variable {st:afW}
def zt:TS:=λD σ H=>D.nx σ H
def dZ (t u:TS):TS:=λD σ H=>t {D with nx:=u D} σ H
theorem yr:gw X [] zt:=λ_ _ σ H _ I h=>ae8 ⟨σ,H,I,h⟩
theorem cX (h1:PS X st t)(h2:gw X rest u):gw X (st::rest) (dZ t u):=by
 intro pins s σ H D I h;refine wpAny_execs_cons (aJ (h1 pins s σ H {D with nx:=u D} I h) λf s1 q=>?_);cases f with
 |next=>
  obtain⟨aD,H',I',q⟩:_:=q;exact h2 pins s1 aD H' D I' q
 |ret v=>exact q
 |brk=>exact q
 |cont=>exact q
theorem fu (h1:PS X st t):gw X [st] t:=by
 intro pins s σ H D I h;refine wpAny_execs_cons (aJ (h1 pins s σ H D I h) λf s1 q=>?_);cases f with
 |next=>exact ae8 q
 |ret v=>exact q
 |brk=>exact q
 |cont=>exact q
theorem Inv.quiet {σ:St}(I:Inv X pins σ H s):interactive X.env=false:=by simp[interactive,I.ok.kind]
def pN (te:TE):TS:=λD σ H=>te σ H λ_ H1=>D.nx σ H1
theorem ki (he:PE X e te)(hs:swapsWith e none pos.line X.env=pure false:=by rfl):PS X (.Expr e pos) (pN te):=by
 intro pins s σ H D I h;exact wpAny_Expr_any (aJ (he pins s σ H _ I h) λv s1 z9=>by obtain⟨x,H1,I1,r1,q1⟩:=z9;exact⟨σ,H1,I1,q1⟩) I.quiet hs
def vI (te:TE):TS:=λD σ H=>te σ H D.rt
theorem jb (he:PE X e te):PS X (.Return (some e) pos) (vI te):=by
 intro pins s σ H D I h;exact wpAny_Return_some (aJ (he pins s σ H _ I h) λv s1 z9=>by obtain⟨x,H1,I1,r1,q1⟩:_:=z9;exact⟨x,σ,H1,I1,r1,q1⟩)
def zP (c:TT)(t u:TS):TS:=λD σ H=>c σ H λb H1=>if b=true then t D σ H1 else u D σ H1
theorem vi (hc:PT X c tc)(ha:gw X a t)(hb:gw X b u):PS X (.If c a b pos) (zP tc t u):=by
 intro pins s σ H D I h;refine wpAny_If (aJ (hc pins s σ H _ I h) λd s1 z9=>?_);obtain⟨H1,I1,q1⟩:=z9;cases d with
 |true=>exact ha pins s1 σ H1 D I1 q1
 |false=>exact hb pins s1 σ H1 D I1 q1
def yL:TS:=λ_ _ _=>False
theorem B8:gw X fb yL:=λ_ _ _ _ _ _ h=>h.elim
end
abbrev TG:=V->St->Hp->(St->Hp->Prop)->Prop
abbrev v8:=List V->St->Hp->(St->Hp->Prop)->Prop
def PG (X:Cx)(target:Expr)(t:TG):Prop:=
 ∀(pins:List (adG×Obj)) (s:adJ) (σ:St) (H:Hp) (v:V) (u:vn) (Q:St->Hp->Prop),Inv X pins σ H s->RelV v u->t v σ H Q ->
  wpAny (model X.prog X.w) X.A (assign target X.env u) (λ_ s'=>∃aD H',Inv X pins aD H' s'/\Q aD H') X.xe s
def Ai (X:Cx)(ts:List Expr)(t:v8):Prop:=
 ∀(pins:List (adG×Obj)) (s:adJ) (σ:St) (H:Hp) (vs:List V) (us:List vn) (Q:St->Hp->Prop),Inv X pins σ H s->Vals vs us->t vs σ H Q ->
  wpAny (model X.prog X.w) X.A (assignInOrder ((assignEach ts X.env).map (·.2)) us) (λ_ s'=>∃aD H',Inv X pins aD H' s'/\Q aD H') X.xe s
abbrev PV:=V->V->V->Hp->(Hp->Prop)->Prop
def PX (X:Cx)(t:PV):Prop:=
 ∀(pins:List (adG×Obj)) (s:adJ) (σ:St) (H:Hp) (o i v:V) (ov iv u:vn) (Q:Hp->Prop),Inv X pins σ H s->RelV o ov->RelV i iv->RelV v u->t o i v H Q ->
  wpAny (model X.prog X.w) X.A (setItem ov iv u) (λ_ s'=>∃H',Inv X pins σ H' s'/\Q H') X.xe s
section
variable {pos:Pos}
def eK (i:Nat):TG:=λv σ H Q=>Q (σ.set i (some v)) H
theorem i7 (hN:X.N.Nodup)(hi:X.N[i]?=some x)(hx:Loc X.env.scope x)(hf:X.fn x=true\/X.env.scope.names.lookup x=some .local:=by first|exact .inl rfl|exact .inr rfl|assumption):PG X (.Name x pos) (eK i):=by
 intro pins s σ H v u Q I r h;exact wpAny_assign_Name (yc I hN hi hx r (λs' I'=>⟨_,H,I',h⟩) hf)
def FT:v8:=λvs σ H Q=>vs=[]/\Q σ H
def sH (t:TG)(u:v8):v8:=λvs σ H Q=>∃v r,vs=v::r/\t v σ H λaD H'=>u r aD H' Q
theorem yu:Ai X [] FT:=by
 intro pins s σ H vs us Q I r h;obtain⟨e,h⟩:=h;subst e;cases r;exact assignInOrder_nil ⟨σ,H,I,h⟩
theorem kc (h1:PG X e t)(h2:Ai X es u)(hs:(assignEach (e::es) X.env).map (·.2)=assign e X.env::(assignEach es X.env).map (·.2):=by rfl):Ai X (e::es) (sH t u):=by
 intro pins s σ H vs us Q I r h;obtain⟨v,vr,e1,h⟩:_:=h;subst e1;cases r with
 |cons r rr=>
  rw[hs];refine assignInOrder_cons (aJ (h1 pins s σ H _ _ _ I r h) λ_ s1 z9=>?_);obtain⟨aq,H1,I1,q1⟩:=z9;exact h2 pins s1 aq H1 _ _ Q I1 rr q1
def FU (K:Frag)(n:Nat)(t:v8):TG:=λv σ H Q=>∃a xs,v=.ref a/\cO K H a xs/\xs.length=n/\t xs σ H Q
theorem yM {k:Nat}(hc:X.calm=true)(h:Ai X es t)(hn:(assignEach es X.env).length=n:=by rfl)(iw:(assignEach es X.env).findIdx? (·.1)=none:=by rfl):PG X (.Tuple es k pos) (FU X.K n t):=by
 intro pins s σ H v u Q I r hw;obtain⟨a,xs,e1,hq,hl,hw⟩:_:=hw;subst e1;cases r;obtain⟨its,rv,ht,hz⟩:_:=I.tuple hq;refine assign_Tuple_tuple (I.ok.hd hc) ht (by simp[hn,<- hl,rv.length]) iw λh' hx=>?_
 have I1:=I.kept (t':=s.toks) λb o e=>hx b o (AS (nt e)) e
 exact h pins _ σ H xs _ Q I1 'Z' hw
def FV (to ti:TE)(t:PV):TG:=λv σ H Q=>to σ H λo H1=>ti σ H1 λi H2=>t o i v H2 λH3=>Q σ H3
theorem nY (ho:PE X o to)(hi:PE X i ti)(hs:PX X t)(ha:∀v,assign (.Subscript o i pos) X.env v=(do
   let ov<-holding [v] (eval o X.env)
   let iv<-holding [v,ov] (eval i X.env)
   standAt pos
   holding [v,ov,iv] (setItem ov iv v)
   release [v,ov,iv] []):=by intro _;rfl):PG X (.Subscript o i pos) (FV to ti t):=by
 intro pins s σ H v u Q I r h;refine ab (Sm (aJ (ho pins s σ H _ I h) λov s1 z9=>?_));obtain⟨x,H1,I1,r1,q1⟩:=z9;refine ab (Sm (aJ (hi pins s1 σ H1 _ I1 q1) λiv s2 z9=>?_));obtain⟨y,H2,I2,r2,q2⟩:=z9;refine ab (afE (ab (Sm (aJ (hs pins s2 σ H2 x y v ov iv u _ I2 r1 r2 r q2) λ_ s3 z9=>?_))));obtain⟨H3,I3,q3⟩:=z9;exact wpAny_release ⟨σ,H3,I3,q3⟩
def lN (te:TE)(g:TG):TS:=λD σ H=>te σ H λx H1=>g x σ H1 D.nx
theorem rY (he:PE X e te)(hg:PG X tg g)(hs:swapsWithSole [tg] e pos.line X.env=pure false:=by rfl)(hw:swappedStores [tg] e X.env=pure none:=by rfl)(h1:(assignEach [tg] X.env).map (·.2)=[assign tg X.env]:=by rfl):PS X (.Assign [tg] e pos) (lN te g):=by
 intro pins s σ H D I h;refine wpAny_Assign_stores (aJ (he pins s σ H _ I h) λv s1 z9=>?_) hs hw;obtain⟨x,H1,I1,r1,q1⟩:=z9;rw[h1];exact aJ (hg pins s1 σ H1 x v _ I1 r1 q1) λ_ s2 q=>q
theorem hU (hN:X.N.Nodup)(hi:X.N[i]?=some x)(hx:Loc X.env.scope x)(he:PE X e te)(hs:swapsWith e (some (.Name x pos')) pos.line X.env=pure false:=by rfl)(hf:X.fn x=true\/X.env.scope.names.lookup x=some .local:=by first|exact .inl rfl|exact .inr rfl|assumption):
  PS X (.Assign [.Name x pos'] e pos) (lN te (eK i)):=by
 intro pins s σ H D I h;refine wpAny_Assign_Name (aJ (he pins s σ H _ I h) λv s1 z9=>?_) hs;obtain⟨y,H1,I1,r1,q1⟩:=z9;exact yc I1 hN hi hx r1 (λs2 I2=>⟨_,H1,I2,q1⟩) hf
def PY (i j:Nat)(ta:TA):TS:=λD σ H=>ta σ H λvs H1=>∃v w,vs=[v,w]/\D.nx ((σ.set i (some v)).set j (some w)) H1
theorem aaD (hc:X.calm=true)(hN:X.N.Nodup)(hi:X.N[i]?=some x)(hj:X.N[j]?=some y)(bY:i≠j)(hx:X.env.scope.names.lookup x=some .local)(hy:X.env.scope.names.lookup y=some .local)(ha:PA X [a,b] ta)(hw:swappedStores [.Tuple [.Name x px,.Name y py] kt pt] (.Tuple [a,b] k2 tj) X.env=pure (some [x,y]))(hs:swapsWithSole [.Tuple [.Name x px,.Name y py] kt pt] (.Tuple [a,b] k2 tj) pos.line X.env=pure false:=by rfl):
  PS X (.Assign [.Tuple [.Name x px,.Name y py] kt pt] (.Tuple [a,b] k2 tj) pos) (PY i j ta):=by
 intro pins s σ H D I h;refine ab (afE ?_);refine ab (wpAny_pure ?_);refine ab (Tuple_ (aJ (ha _ pins s σ H _ I h) λus s1 z9=>?_));obtain⟨vs,H1,I1,r1,q1⟩:=z9;obtain⟨v,w,e1,q1⟩:_:=q1;subst e1;obtain⟨u1,u2,rfl,rv,qz⟩:∃u1 u2,us=[u1,u2]/\RelV v u1/\RelV w u2:=by
  cases r1 with
  |cons p q=>
   cases q with
   |cons p' q'=>
    cases q'
    grind
 refine WA ?_ (by show 2<=sizeLine;decide);have I2:Inv X pins σ H1 {s1 with heap:=s1.heap.push {cls:=.type "tuple",data:=.seq [u1,u2].toArray}}:=I1.kept (t':=s1.toks) λb o e=>mf _ e
 rw[hw];refine ab (wpAny_pure ?_);refine ab (adQ (ab (unpackItems_tuple (items:=#[u1,u2]) (I.ok.hd hc) (IsTup.new s1.heap _) λh' kI=>?_)));have I3:=I2.kept (h':=h') (t':=s1.toks) λb o e=>kI b o (AS (nt e)) e
 refine ab (assignInOrder_cons (wpAny_bindName (yc I3 hN hj (.inl hy) qz (λs2 I4=>?_) (.inr hy))));refine assignInOrder_cons (wpAny_bindName (yc I4 hN hi (.inl hx) rv (λs3 I5=>assignInOrder_nil (wpAny_pure ?_)) (.inr hx)));rw[List.set_comm _ _ (adU bY)]at I5;exact⟨_,H1,I5,q1⟩
end
section
def MG (c:TT)(tb:TS):TS:=λD σ H=>∃W:Nat->St->Hp->Prop,(∃m,W m σ H)/\∀m σ H,W m σ H ->
 c σ H λb H1=>if b=true then ∃N:St->Hp->Prop,(∀aD H',N aD H'->∃m',m'<m/\W m' aD H')/\tb {D with nx:=N,ct:=N,bk:=D.nx} σ H1 else D.nx σ H1
theorem CD (hp:PassesOwn (model X.prog X.w) X.A X.env X.xe)(hc:PT X c tc)(hb:gw X body tb):PS X (.While c body [] pos) (MG tc tb):=by
 intro pins s σ H D I h;obtain⟨W,⟨m0,w0⟩,turn⟩:_:=h;refine wpAny_While (codeAny_whileLoop (λn s'=>∃aD H',Inv X pins aD H' s'/\W n aD H') ?_ m0 ⟨σ,H,I,w0⟩);intro n s1 z9;obtain⟨aq,H1,I1,w1⟩:_:=z9;refine adR hp (aJ (hc pins s1 aq H1 _ I1 (turn n aq H1 w1)) λb s2 z9=>?_);obtain⟨H2,I2,q2⟩:=z9;cases b with
 |true=>
  obtain⟨N,hN,q2⟩:=q2;refine adR hp (aJ (hb pins s2 aq H2 _ I2 q2) λf s3 q3=>?_);cases f with
  |next=>
   obtain⟨kJ,H3,I3,n3⟩:=q3;obtain⟨m',hm,w3⟩:=hN kJ H3 n3;exact⟨m',hm,kJ,H3,I3,w3⟩
  |cont=>
   obtain⟨kJ,H3,I3,n3⟩:=q3;obtain⟨m',hm,w3⟩:=hN kJ H3 n3;exact⟨m',hm,kJ,H3,I3,w3⟩
  |brk=>exact q3
  |ret v=>exact q3
 |false=>
  exact ae8 ⟨aq,H2,I2,q2⟩
end
structure It where
 go:Nat->Hp->Prop
 v9:Nat->Hp->V->Hp->Prop
 stop:Nat->Hp->Prop
def jm (X:Cx)(pins:List (adG×Obj))(H:Hp)(b:adG):Prop:=
 H b=none/\b≠X.env.locals/\b∉X.fs/\(b∈X.ex\/X.dY.heap.objs.size<=b)/\(∀x c,X.env.cells.lookup x=some c->c≠b)/\∀p∈X.pn++pins,p.1≠b
theorem Inv.vJ {σ:St}{b:adG}(I:Inv X pins σ H s)(hb:s.heap.objs.size<=b)(hn:H' b=none):jm X pins H' b:=by
 refine⟨hn,ad6 (ze I.lt hb),I.acr hb,.inr (Cn I.sz hb),λx c e z=>?_,λp hp z=>?_⟩
 ·obtain⟨v,q⟩:=I.cell x c e;exact absurd (ze q.lt 'J') (abc _)
 ·exact absurd (ze (nt (I.pin p hp).1) 'J') (abc _)
structure Turn (P:afU) (w:afV) (K:Frag) (tg:Expr) (J:It) (fp:List adG) (it:adG) (tn:Nat->Heap->Prop):Prop where
 mem:it∈fp
 obj:∀i h,tn i h->∀b∈fp,∃o,h.get? b=some o/\∀v,o.data≠.cell v
 keep:∀i h h',tn i h->(∀b∈fp,∀o,h.get? b=some o->h'.get? b=some o)->tn i h'
 item:∀(X:Cx),X.prog=P->X.w=w->X.K=K->X.calm=true->∀(i:Nat) (pins:List (adG×Obj)) (s:adJ) (σ:St) (H:Hp) (E:vn->adJ->Prop),Inv X pins σ H s->(∀b∈fp,jm X pins H b)->tn i s.heap->J.go i H ->
  wpAny (model P w) X.A (pyNext (.ref it)) (λr s1=>∃u,r=some u /\
   wpAny (model P w) X.A (letOwnedTupleGo tg (.ref it) u) (λ_ s2=>∃x H',Inv X pins σ H' s2/\RelV x u/\J.v9 i H x H'/\tn (i+1) s2.heap/\∀b∈fp,H' b=none) E s1) E s
 done:∀(X:Cx),X.prog=P->X.w=w->X.K=K->X.calm=true->∀(i:Nat) (pins:List (adG×Obj)) (s:adJ) (σ:St) (H:Hp) (E:vn->adJ->Prop),Inv X pins σ H s->(∀b∈fp,jm X pins H b)->tn i s.heap->J.stop i H ->
  wpAny (model P w) X.A (pyNext (.ref it)) (λr s1=>r=none/\Inv X pins σ H s1) E s
 self:∀(A:Around) (i:Nat) (s:adJ) (Q:vn->adJ->Prop) (E:vn->adJ->Prop),tn i s.heap->Q (.ref it) s->wpAny (model P w) A (pyIter (.ref it)) Q E s
abbrev TI:=St->Hp->(It->Hp->Prop)->Prop
def QP (X:Cx)(pins:List (adG×Obj))(σ:St)(tg:Expr)(R:It->Hp->Prop)(Aj:vn)(s2:adJ):Prop:=
 ∃(it:adG) (fp:List adG) (tn:Nat->Heap->Prop) (J:It) (H':Hp),Aj=.ref it/\Inv X pins σ H' s2/\Turn X.prog X.w X.K tg J fp it tn/\tn 0 s2.heap/\(∀b∈fp,jm X pins H' b)/\R J H'
def PI (X:Cx)(tg iter:Expr)(wi:TI):Prop:=
 ∀(pins:List (adG×Obj)) (s:adJ) (σ:St) (H:Hp) (R:It->Hp->Prop),Inv X pins σ H s->wi σ H R ->
  wpAny (model X.prog X.w) X.A (eval iter X.env) (λv s1=>wpAny (model X.prog X.w) X.A (pyIter v) (QP X pins σ tg R) X.xe s1) X.xe s
theorem OS (ho:s.heap.get? it=some o)(hc:o.cls=.type n)(hd:o.data=.fields vs)(hn:["enumerate", "zip", "dict_itemiterator", "dict_reverseitemiterator", "odict_iterator", "itertools.zip_longest", "itertools.pairwise"].contains n=false)(hQ:Q () s):wpAny M A (letOwnedTupleGo tg (.ref it) u) Q E s:=by
 cases tg<;>first
  |exact wpAny_pure hQ
  |(cases u<;>first
    |exact wpAny_pure hQ
    |(refine ab (wpAny_load ho ?_)
      rw[hc,hd];show wpAny M A (if(["enumerate", "zip", "dict_itemiterator", "dict_reverseitemiterator", "odict_iterator", "itertools.zip_longest", "itertools.pairwise"].contains n&&vs[0]?==some (rawInt _))=true then _ else _) Q E s;rw[rf 'O'];exact wpAny_pure hQ))
def wc (K:Frag)(a:adG):It:=
 ⟨λi H=>∃xs x,aK K H a xs/\xs[i]?=some x,λi H x H'=>H'=H/\∀xs,aK K H a xs->xs[i]?=some x,λi H=>∃xs,aK K H a xs/\xs.length<=i⟩
def Ak (lo:Int)(n:Nat):It:=⟨λi _=>i<n,λi H x H'=>H'=H/\x=.int (lo+i),λi _=>n<=i⟩
theorem WB {K:Frag}(a it:adG):Turn P w K tg (wc K a) [it] it (λi h=>h.IsListIter it a i) where
 mem:='Y'
 obj:=λi h st b hb=>by
  obtain⟨o,e,c,d⟩:_:=st
  simp_all
 keep:=λi h h' st k=>st.at λo e=>k it 'Y' o e
 item:=by
  intro X hP hw hK hc i pins s σ H E I hf st hg;subst hP hw hK;obtain⟨xs,x,hq,hx⟩:_:=hg;obtain⟨its,rv,p,hz⟩:_:=I.list hq;obtain⟨u,hu,ru⟩:_:=rv.get hx;obtain⟨f0,f1,f2,f3,f4,f5⟩:_:=hf it 'Y';refine wpAny_pyNext_list_item st p.isList (x:=u) 'J' λh' ai sb=>?_
  have I1:=I.turned (t':=s.toks) (λb o hb e=>(sb.2 b hb).trans e) f0 f1 f3 f4 f5;obtain⟨o,e,c,d⟩:_:=id ai;exact⟨u,rfl,OS e c d 'Q' ⟨x,H,I1,ru,⟨rfl,λys hy=>by rw[I.JX hy hq];exact hx⟩,ai,λb hb=>(hf b hb).1⟩⟩
 done:=by
  intro X hP hw hK hc i pins s σ H E I hf st hg;subst hP hw hK;obtain⟨xs,hq,hx⟩:_:=hg;obtain⟨its,rv,p,hz⟩:_:=I.list hq;obtain⟨f0,f1,f2,f3,f4,f5⟩:_:=hf it 'Y';have hl:=rv.length;exact wpAny_pyNext_list_end (I.ok.hd hc) st p.isList 'J' λh' eb=>⟨rfl,I.turned (t':=s.toks) (λb o hb e=>eb b o hb e) f0 f1 f3 f4 f5⟩
 self:=λ_ _ _ _ _ st h=>wpAny_pyIter_listiter st h
theorem VU {K:Frag}(it:adG)(lo:Int)(n:Nat):Turn P w K tg (Ak lo n) [it] it (λi h=>IsRangeIter h it (lo+(i:Nat)*1) ((n:Int)-(i:Nat)) 1) where
 mem:='Y'
 obj:=λi h st b hb=>by
  simp_all
 keep:=λi h h' st k=>k it 'Y' _ st
 item:=by
  intro X hP hw hK hc i pins s σ H E I hf st hg;subst hP hw hK;obtain⟨f0,f1,f2,f3,f4,f5⟩:_:=hf it 'Y';have W:=Walks.range (prog:=X.prog) (w:=X.w) (I.ok.hd hc) it lo 1 n;refine W.item i s _ _ hg st λv h' tk hv ai kk=>?_
  obtain⟨t,rfl⟩:=hv;have I1:Inv X pins σ H {s with heap:=h',toks:=tk}:=I.turned (λb o hb e=>kk b o 'J' e) f0 f1 f3 f4 f5;refine⟨_,rfl,OS ai rfl rfl 'Q' ⟨.int (lo+i),H,I1,⟨t,?_⟩,⟨rfl,rfl⟩,ai,λb hb=>(hf b hb).1⟩⟩
  simp_all
 done:=by
  intro X hP hw hK hc i pins s σ H E I hf st hg;obtain⟨f0,f1,f2,f3,f4,f5⟩:=hf it 'Y';exact wpAny_pyNext_range_end (I.ok.hd hc) st (by have:n<=i:=hg;lia) λh' eb=>⟨rfl,I.turned (t':=s.toks) (λb o hb e=>eb b o hb e) f0 f1 f3 f4 f5⟩
 self:=λ_ _ _ _ _ st h=>wpAny_pyIter_rangeiter st h
section
def sI (K:Frag)(tl:TE):TI:=λσ H R=>tl σ H λx H1=>∃a,x=.ref a/\(∃xs,aK K H1 a xs)/\R (wc K a) H1
theorem uz (hl:PE X l tl):PI X tg l (sI X.K tl):=by
 intro pins s σ H R I h;refine aJ (hl pins s σ H _ I h) λv s1 z9=>?_
 obtain⟨x,H1,I1,r1,q1⟩:=z9;obtain⟨a,e,⟨xs,hq⟩,q⟩:_:=q1;subst e;cases r1;obtain⟨its,rv,p,hz⟩:_:=I1.list hq;refine afy p.isList ?_;refine⟨s1.heap.objs.size,[s1.heap.objs.size],_,_,H1,rfl,I1.kept (t':=s1.toks) λb o e=>mf _ e,WB a _,⟨_,BN _ rfl,rfl,rfl⟩,λb hb=>?_,q⟩;have e:b=s1.heap.objs.size:='J'
 subst e;exact I1.vJ (br _) (I1.aO.fresh (br _))
theorem Xr {σ:St}{lo:Int}(I:Inv X pins σ H s)(h1 : -(2^62)<=lo)(h2:lo<2^62)(h3 : -(2^62)<=hi)(h4:hi<2^62)(q:R (Ak lo (hi-lo).toNat) H):wpAny (model X.prog X.w) X.A (pyIter (.ref s.heap.objs.size)) (QP X pins σ tg R) E {s with heap:=s.heap.push {cls:=.type "range",data:=.fields #[.int lo t,.int hi u,.int 1 v]},toks:=tk}:=by
 refine wpAny_pyIter_range (IsRange.new ..) (small_one h1 h2 h3 h4) ?_;have I1:Inv X pins σ H {s with heap:=s.heap.push {cls:=.type "range",data:=.fields #[.int lo t,.int hi u,.int 1 v]},toks:=tk}:=I.kept λb o e=>mf _ e
 refine⟨(s.heap.push {cls:=.type "range",data:=.fields #[.int lo t,.int hi u,.int 1 v]}).objs.size,[(s.heap.push {cls:=.type "range",data:=.fields #[.int lo t,.int hi u,.int 1 v]}).objs.size],_,_,H,rfl,
  I1.kept (t':=tk) λb o e=>mf _ e,VU _ lo (hi-lo).toNat,?_,λb hb=>?_,q⟩
 ·have e1:lo+((0:Nat))*1=lo:='Y'
  have e2:(((hi-lo).toNat))-((0:Nat))=Builtin.Range.rangeSize lo hi 1:=by rw[rangeSize_one];split<;>lia
  show IsRangeIter _ _ (lo+((0:Nat))*1) ((((hi-lo).toNat))-((0:Nat))) 1;rw[e1,e2];exact BN _ rfl
 ·have e:b=(s.heap.push {cls:=.type "range",data:=.fields #[.int lo t,.int hi u,.int 1 v]}).objs.size:='J'
  subst e;exact I1.vJ (br _) (I1.aO.fresh (br _))
def OT (ta:TA):TI:=λσ H R=>ta σ H λvs H1=>∃j:Int,vs=[.int j] /\ -(2^62)<=j/\j<2^62/\R (Ak 0 j.toNat) H1
theorem WC (hg:Gl X "range")(hm:X.mg "range"=none)(ha:PA X [a] ta)(hs:starEach [a] X.env=[(false,eval a X.env)]:=by rfl):PI X tg (.Call (.Name "range" p) [a] [] pos) (OT ta):=by
 intro pins s σ H R I h;refine Call_ (mK I hg hm boot_range (LH (aJ (ha pos pins s σ H _ I h) λus s1 z9=>?_) hs rfl));obtain⟨vs,H1,I1,r1,q1⟩:=z9;obtain⟨j,e,q1,q2,q⟩:_:=q1;subst e;cases r1 with
 |cons r rr=>
  cases rr
  obtain⟨t,rfl⟩:=r;exact call_range_1 (Xr I1 'O' 'O' q1 q2 'J')
def vK (wi:TI)(g:TG)(tb:TS):TS:=λD σ H=>wi σ H λJ H1=>∃W:Nat->Nat->St->Hp->Prop,(∃m,W 0 m σ H1)/\∀i m σ H,W i m σ H ->
 (J.stop i H/\D.nx σ H)\/(J.go i H/\∃N:St->Hp->Prop,(∀aD H',N aD H'->∃m',m'<m/\W (i+1) m' aD H')/\∀x H',J.v9 i H x H'->g x σ H' λdg H2=>tb {D with nx:=N,ct:=N,bk:=D.nx} dg H2)
def rZ (fp:List adG)(h:Heap):List (adG×Obj):=fp.filterMap λb=>(h.get? b).map λo=>(b,o)
theorem rG (hb:b∈fp)(e:h.get? b=some o):(b,o)∈rZ fp h:=afh.mpr ⟨b,hb,'J'⟩
theorem WD (hp:p∈rZ fp h):p.1∈fp/\h.get? p.1=some p.2:=by
 obtain⟨b,hb,e⟩:_:=afh.mp hp;cases q:h.get? b with
 |none=>rw[q]at e;cases e
 |some o=>
  grind
theorem Inv.pinned {σ:St}(I:Inv X pins σ H s)(hf:∀b∈fp,jm X pins H b)(ho:∀b∈fp,∃o,s.heap.get? b=some o/\∀v,o.data≠.cell v):Inv X (pins++rZ fp s.heap) σ H s:=
 I.KN λp hp=>(qr.mp hp).elim (λz=>I.pin p (i4 _ z)) λz=>by
  obtain⟨hb,e⟩:=WD z;obtain⟨f0,f1,f2,_⟩:_:=hf p.1 hb
  grind
theorem Inv.uj {σ:St}(I:Inv X (pins++pl) σ H s):Inv X pins σ H s:=I.KN λp hp=>I.pin p (i4 _ (xw _ hp))
theorem yN (hp:PassesOwn (model X.prog X.w) X.A X.env X.xe)(hc:X.calm=true)(hi:PI X tg iter wi)(hg:PG X tg g)(hb:gw X body tb)(hs:∀x,foldedSetIterable iter X.env x=pure x:=by intro _;rfl):PS X (.For tg iter body [] pos) (vK wi g tb):=by
 intro pins s σ H D I h;refine wpAny_For (aJ (hi pins s σ H _ I h) λv s1 h1=>aJ h1 λAj s2 h2=>?_) hs;obtain⟨it,fp,tn,J,H2,e,I2,T,a7,f2,W,⟨m0,w0⟩,turn⟩:_:=h2;subst e;have stat:∀{H':Hp},(∀b∈fp,H' b=none)->∀b∈fp,jm X pins H' b:=λhn b hb=>⟨hn b hb,(f2 b hb).2⟩
 refine codeAny_forLoop_any (λn s'=>∃i aD H',Inv X pins aD H' s'/\tn i s'.heap/\(∀b∈fp,H' b=none)/\W i n aD H') ?_ m0 ⟨0,σ,H2,I2,a7,λb hb=>(f2 b hb).1,w0⟩;intro n s3 z9;obtain⟨i,kJ,H3,I3,fS,QQ,w3⟩:_:=z9;obtain⟨stop,qn⟩|⟨go,N,hN,step⟩:=turn i n kJ H3 w3
 ·refine adR hp (aJ (T.done X rfl rfl rfl hc i pins s3 kJ H3 X.xe I3 (stat QQ) fS stop) λr s4 z9=>?_);obtain⟨hr,I4⟩:=z9;subst hr;exact ae8 ⟨kJ,H3,I4,qn⟩
 ·refine adR hp (aJ (T.item X rfl rfl rfl hc i pins s3 kJ H3 X.xe I3 (stat QQ) fS go) λr s4 z9=>?_);obtain⟨u,hr,h4⟩:=z9;subst hr;refine adR hp (aJ h4 λ_ s5 z9=>?_);obtain⟨x,H5,I5,r5,y5,ng,qA⟩:=z9;have I5':=I5.pinned (stat qA) (T.obj _ _ ng);refine adR hp (aJ (hg _ s5 kJ H5 x u _ I5' r5 (step x H5 y5)) λ_ s6 z9=>?_);obtain⟨σ6,H6,I6,q6⟩:=z9;refine adR hp (aJ (hb _ s6 σ6 H6 _ I6 q6) λf s7 q7=>?_);have again:∀{kK:St} {H7:Hp},Inv X (pins++rZ fp s5.heap) kK H7 s7->N kK H7->∃m,m<n/\∃i aD H',Inv X pins aD H' s7/\tn i s7.heap/\(∀b∈fp,H' b=none)/\W i m aD H':=λ{kK H7} I7 n7=>by
   obtain⟨m',hm,w7⟩:=hN kK H7 n7;refine⟨m',hm,i+1,kK,H7,I7.uj,T.keep _ _ _ ng λb hb o e=>(I7.pin (b,o) (i4 _ (i4 _ (rG hb e)))).1,λb hb=>?_,w7⟩;obtain⟨o,e,d⟩:=T.obj _ _ ng b hb;exact(I7.pin (b,o) (i4 _ (i4 _ (rG hb e)))).2.1
  cases f with
  |next=>obtain⟨kK,H7,I7,n7⟩:=q7;exact again I7 n7
  |cont=>obtain⟨kK,H7,I7,n7⟩:=q7;exact again I7 n7
  |brk=>obtain⟨kK,H7,I7,q7⟩:=q7;exact⟨kK,H7,I7.uj,q7⟩
  |ret v=>obtain⟨x7,kK,H7,I7,r7,q7⟩:=q7;exact⟨x7,kK,H7,I7.uj,r7,q7⟩
end
theorem Xs {K:Frag}{g:TG}{tb:TS}{D:Ends}(Pv:Nat->St->Hp->Prop)(h0:Pv 0 σ H)(hl:∀i σ H,i<=xs.length->Pv i σ H->aK K H a xs)(hs:∀i x σ H,xs[i]?=some x->Pv i σ H->g x σ H λdg H2=>tb {D with nx:=Pv (i+1),ct:=Pv (i+1),bk:=D.nx} dg H2)(hd:∀σ H,Pv xs.length σ H->D.nx σ H):
  ∃W:Nat->Nat->St->Hp->Prop,(∃m,W 0 m σ H)/\∀i m σ H,W i m σ H ->
   ((wc K a).stop i H/\D.nx σ H)\/((wc K a).go i H/\∃N,(∀aD H',N aD H'->∃m',m'<m/\W (i+1) m' aD H')/\∀x H',(wc K a).v9 i H x H'->g x σ H' λdg H2=>tb {D with nx:=N,ct:=N,bk:=D.nx} dg H2):=by
 refine⟨λi m σ H=>m=xs.length-i/\i<=xs.length/\Pv i σ H,⟨xs.length,'Y',zd _,h0⟩,?_⟩;rintro i m σ H ⟨rfl,hi,p⟩;have q:=hl i σ H hi p;by_cases bC:i<xs.length
 ·refine .inr ⟨⟨xs,xs[i],q,by simp[bC]⟩,Pv (i+1),λaD H' p'=>⟨xs.length-(i+1),'O',rfl,bC,p'⟩,λx H' y=>?_⟩;obtain⟨e,y⟩:=y
  grind
 ·have e:i=xs.length:='O'
  subst e;exact .inl ⟨⟨xs,q,br _⟩,hd σ H p⟩
abbrev R2:=V->V->Hp->VK->Prop
def cS (X:Cx)(f:vn->vn->Sem vn)(r:R2):Prop:=
 ∀(pins:List (adG×Obj)) (s:adJ) (σ:St) (H:Hp) (x y:V) (v u:vn) (Q:VK),Inv X pins σ H s->RelV x v->RelV y u->r x y H Q ->
  wpAny (model X.prog X.w) X.A (f v u) (EP X pins σ Q) X.xe s
def GL (X:Cx)(f:vn->Sem vn)(r:V->Hp->VK->Prop):Prop:=
 ∀(pins:List (adG×Obj)) (s:adJ) (σ:St) (H:Hp) (x:V) (v:vn) (Q:VK),Inv X pins σ H s->RelV x v->r x H Q ->
  wpAny (model X.prog X.w) X.A (f v) (EP X pins σ Q) X.xe s
def fA (X:Cx)(f:vn)(r:List V->Hp->VK->Prop):Prop:=
 ∀(pins:List (adG×Obj)) (s:adJ) (σ:St) (H:Hp) (xs:List V) (us:List vn) (Q:VK),Inv X pins σ H s->Vals xs us->r xs H Q ->
  wpAny (model X.prog X.w) X.A (call f us) (EP X pins σ Q) X.xe s
def jv (r:R2)(ta tb:TE):TE:=λσ H Q=>ta σ H λx H1=>tb σ H1 λy H2=>r x y H2 Q
def tUn (r:V->Hp->VK->Prop)(ta:TE):TE:=λσ H Q=>ta σ H λx H1=>r x H1 Q
def rI (C:Int->Int->Prop)(g:Int->Int->V):R2:=λx y H Q=>∃i j,x=.int i/\y=.int j/\C i j/\Q (g i j) H
def qB (g:Int->Int->V):R2:=λx y H Q=>∃i j,x=.int i/\y=.int j/\Q (g i j) H
def rU (g:Int->V):V->Hp->VK->Prop:=λx H Q=>∃i,x=.int i/\Q (g i) H
section
theorem FW (ha:PE X a ta)(hb:PE X b tb){σ:St}{R:V->V->Hp->Prop}(I:Inv X pins σ H s)(h:ta σ H λx H1=>tb σ H1 λy H2=>R x y H2){f:vn->vn->Sem vn}(hf:∀v u s2 x y H2,Inv X pins σ H2 s2->RelV x v->RelV y u->R x y H2->wpAny (model X.prog X.w) X.A (f v u) Q X.xe s2):
  wpAny (model X.prog X.w) X.A (eval a X.env) (λv bA=>wpAny (model X.prog X.w) X.A (eval b X.env) (λu pV=>wpAny (model X.prog X.w) X.A (f v u) Q X.xe pV) X.xe bA) X.xe s:=by
 refine aJ (ha pins s σ H _ I h) λv s1 z9=>?_
 obtain⟨x,H1,I1,r1,q1⟩:=z9;refine aJ (hb pins s1 σ H1 _ I1 q1) λu s2 z9=>?_
 obtain⟨y,H2,I2,r2,q2⟩:=z9
 grind
theorem sJ (ho:cS X (binaryOp op) r)(ha:PE X a ta)(hb:PE X b tb):PE X (.BinOp a op b pos) (jv r ta tb):=by
 intro pins s σ H Q I h;exact wpAny_BinOp (FW ha hb I h λv u s2 x y H2 I2 rx ry q=>ho pins s2 σ H2 x y v u Q I2 rx ry q)
theorem abI (ho:GL X (unaryOp op) r)(ha:PE X a ta):PE X (.UnaryOp op a pos) (tUn r ta):=by
 intro pins s σ H Q I h;exact UnaryOp_ (aJ (ha pins s σ H _ I h) λv s1 z9=>by obtain⟨x,H1,I1,r1,q1⟩:_:=z9;exact ho pins s1 σ H1 x v Q I1 r1 q1)
theorem we {g:Int->Int->Int}(rule:∀i j t u s Q E,C i j->Q (.int (g i j) s.toks) {s with toks:=s.toks+1}->wpAny (model X.prog X.w) X.A (f (.int i t) (.int j u)) Q E s):
  cS X f (rI C λi j=>.int (g i j)):=by
 intro pins s σ H x y v u Q I rx ry h;obtain⟨i,j,rfl,rfl,hc,q⟩:_:=h;obtain⟨t,rfl⟩:=rx;obtain⟨t',rfl⟩:=ry;exact rule i j t t' s _ _ hc ⟨.int (g i j),H,I.tok _,⟨_,rfl⟩,q⟩
theorem PZ {g:Int->Int->Int}(rule:∀i j t u s Q E,Q (.int (g i j) s.toks) {s with toks:=s.toks+1}->wpAny (model X.prog X.w) X.A (f (.int i t) (.int j u)) Q E s):
  cS X f (qB λi j=>.int (g i j)):=by
 intro pins s σ H x y v u Q I rx ry h;obtain⟨i,j,rfl,rfl,q⟩:_:=h;obtain⟨t,rfl⟩:=rx;obtain⟨t',rfl⟩:=ry;exact rule i j t t' s _ _ ⟨.int (g i j),H,I.tok _,⟨_,rfl⟩,q⟩
theorem FX {g:Int->Int->Bool}(rule:∀i j t u s Q E,Q (.bool (g i j)) s->wpAny (model X.prog X.w) X.A (f (.int i t) (.int j u)) Q E s):
  cS X f (qB λi j=>.bl (g i j)):=by
 intro pins s σ H x y v u Q I rx ry h;obtain⟨i,j,rfl,rfl,q⟩:_:=h;obtain⟨t,rfl⟩:=rx;obtain⟨t',rfl⟩:=ry;exact rule i j t t' s _ _ ⟨.bl (g i j),H,I,rfl,q⟩
def P0 (i j:Int):Prop:=0<=j/\j<=1000000/\i.natAbs<2^64
def zQ (i j:Int):Prop:=(-(2^64)<i/\i<2^64)\/(-(2^64)<j/\j<2^64)
theorem zQ.ok (h:zQ i j):IntMulOk i j:=by
 obtain⟨h1,h2⟩|⟨h1,h2⟩:=h
 ·exact .of_left (intBits_le_64 h1 h2)
 ·exact .of_right (intBits_le_64 h1 h2)
theorem MJ:cS X (binaryOp .Add) (qB λi j=>.int (i+j)):=PZ λ_ _ _ _ _ _ _ q=>add_int q
theorem yO:cS X (binaryOp .Sub) (qB λi j=>.int (i-j)):=PZ λ_ _ _ _ _ _ _ q=>sub_int q
theorem aaE:cS X (binaryOp .Mult) (rI zQ λi j=>.int (i*j)):=we λ_ _ _ _ _ _ _ hc q=>mul_int q hc.ok
theorem aaF:cS X (binaryOp .Mod) (rI (λ_ j=>0<j) λi j=>.int (i%j)):=we λi j _ _ _ _ _ hc q=>by
 have h1:(0:Int)<j:=hc;exact mod_int' 'O' (by rw[Int.fmod_eq_emod_of_nonneg i 'O'];exact q)
theorem aaG:cS X (binaryOp .Pow) (rI P0 λi j=>.int (i^j.toNat)):=we λ_ _ _ _ _ _ _ hc q=>pow_int_small hc.1 hc.2.1 hc.2.2 q
theorem unI {g:Int->Int}(rule:∀i t s Q E,Q (.int (g i) s.toks) {s with toks:=s.toks+1}->wpAny (model X.prog X.w) X.A (f (.int i t)) Q E s):
  GL X f (rU λi=>.int (g i)):=by
 intro pins s σ H x v Q I rx h;obtain⟨i,rfl,q⟩:=h;obtain⟨t,rfl⟩:=rx;exact rule i t s _ _ ⟨.int (g i),H,I.tok _,⟨_,rfl⟩,q⟩
theorem aaH:GL X (unaryOp .USub) (rU λi=>.int (-i)):=unI λ_ _ _ _ _ q=>neg_int q
end
def FY:V->V->Bool
 | .aY,.aY=>true | .aY,.int _=>true | .int _,.aY=>true | .aY,.bl _=>true | .bl _,.aY=>true | .aY,.str _=>true | .str _,.aY=>true
 | .int _,.int _=>true | .bl _,.bl _=>true | .str _,.str _=>true | .jt _,.jt _=>true
 | .int _,.str _=>true | .str _,.int _=>true | .bl _,.str _=>true | .str _,.bl _=>true
 |_,_=>false
def rEq:R2:=λx y H Q=>FY x y=true/\Q (.bl (decide (x=y))) H
def rNe:R2:=λx y H Q=>FY x y=true/\Q (.bl (!decide (x=y))) H
theorem KP:decide (V.int i=V.int j)=(i==j):=by
 grind
theorem MK:decide (V.bl i=V.bl j)=(i==j):=by
 grind
theorem KQ:decide (V.str i=V.str j)=(i==j):=by
 grind
theorem KR:decide (V.jt i=V.jt j)=(i.toList==j.toList):=by
 rw[ae9]
 simp_all
section
theorem cM {σ:St}(I:Inv X pins σ H s)(q:Q (.bl k) H)(e:k=k'):EP X pins σ Q (.bool k') s:=by
 subst e;exact⟨.bl k,H,I,rfl,q⟩
theorem zu:cS X (compareOp .Eq) rEq:=by
 intro pins s σ H x y v u Q I rx ry h;obtain⟨hs,q⟩:=h;cases x with
 |aY=>
  cases rx
  cases y with
  |aY=>cases ry;exact PySem.EqNone.eq_none_none (cM I q 'Y')
  |bl j=>cases ry;exact PySem.EqNone.eq_none_bool (cM I q 'Y')
  |int j=>obtain⟨t',rfl⟩:=ry;exact PySem.EqNone.eq_none_int (cM I q 'Y')
  |str j=>obtain⟨t',rfl⟩:=ry;exact PySem.EqNone.eq_none_str (cM I q 'Y')
  |_=>exact absurd (show false=true from hs) AM
 |bl i=>
  cases rx
  cases y with
  |aY=>cases ry;exact PySem.EqNone.eq_bool_none (cM I q 'Y')
  |bl j=>cases ry;exact eq_bool (cM I q MK)
  |str j=>obtain⟨t',rfl⟩:=ry;exact PySem.EqMixed.eq_bool_str (cM I q 'Y')
  |_=>exact absurd (show false=true from hs) AM
 |int i=>
  obtain⟨t,rfl⟩:=rx;cases y with
  |aY=>cases ry;exact PySem.EqNone.eq_int_none (cM I q 'Y')
  |int j=>obtain⟨t',rfl⟩:=ry;exact eq_int (cM I q KP)
  |str j=>obtain⟨t',rfl⟩:=ry;exact PySem.EqMixed.eq_int_str (cM I q 'Y')
  |_=>exact absurd (hs) AM
 |str i=>
  obtain⟨t,rfl⟩:=rx;cases y with
  |aY=>cases ry;exact PySem.EqNone.eq_str_none (cM I q 'Y')
  |bl j=>cases ry;exact PySem.EqMixed.eq_str_bool (cM I q 'Y')
  |int j=>obtain⟨t',rfl⟩:=ry;exact PySem.EqMixed.eq_str_int (cM I q 'Y')
  |str j=>obtain⟨t',rfl⟩:=ry;exact eq_str (cM I q KQ)
  |_=>exact absurd (hs) AM
 |jt i=>
  obtain⟨t,rfl⟩:=rx;cases y with
  |jt j=>obtain⟨t',rfl⟩:=ry;exact PySem.W.eq_bytes (cM I q KR)
  |_=>exact absurd (hs) AM
 |_=>cases y<;>exact absurd (hs) AM
theorem abJ:cS X (compareOp .NotEq) rNe:=by
 intro pins s σ H x y v u Q I rx ry h;obtain⟨hs,q⟩:=h;cases x with
 |aY=>
  cases rx
  cases y with
  |aY=>cases ry;exact PySem.EqNone.ne_none_none (cM I q 'Y')
  |bl j=>cases ry;exact PySem.EqNone.ne_none_bool (cM I q 'Y')
  |int j=>obtain⟨t',rfl⟩:=ry;exact PySem.EqNone.ne_none_int (cM I q 'Y')
  |str j=>obtain⟨t',rfl⟩:=ry;exact PySem.EqNone.ne_none_str (cM I q 'Y')
  |_=>exact absurd (show false=true from hs) AM
 |bl i=>
  cases rx
  cases y with
  |aY=>cases ry;exact PySem.EqNone.ne_bool_none (cM I q 'Y')
  |bl j=>cases ry;exact ne_bool (cM I q (congrArg not MK))
  |str j=>obtain⟨t',rfl⟩:=ry;exact PySem.EqMixed.ne_bool_str (cM I q 'Y')
  |_=>exact absurd (show false=true from hs) AM
 |int i=>
  obtain⟨t,rfl⟩:=rx;cases y with
  |aY=>cases ry;exact PySem.EqNone.ne_int_none (cM I q 'Y')
  |int j=>obtain⟨t',rfl⟩:=ry;exact ne_int (cM I q (congrArg not KP))
  |str j=>obtain⟨t',rfl⟩:=ry;exact PySem.EqMixed.ne_int_str (cM I q 'Y')
  |_=>exact absurd (hs) AM
 |str i=>
  obtain⟨t,rfl⟩:=rx;cases y with
  |aY=>cases ry;exact PySem.EqNone.ne_str_none (cM I q 'Y')
  |bl j=>cases ry;exact PySem.EqMixed.ne_str_bool (cM I q 'Y')
  |int j=>obtain⟨t',rfl⟩:=ry;exact PySem.EqMixed.ne_str_int (cM I q 'Y')
  |str j=>obtain⟨t',rfl⟩:=ry;exact ne_str (cM I q (congrArg not KQ))
  |_=>exact absurd (hs) AM
 |jt i=>
  obtain⟨t,rfl⟩:=rx;cases y with
  |jt j=>obtain⟨t',rfl⟩:=ry;exact PySem.W.ne_bytes (cM I q (congrArg not KR))
  |_=>exact absurd (hs) AM
 |_=>cases y<;>exact absurd (hs) AM
theorem OU:cS X (compareOp .Lt) (qB λi j=>.bl (decide (i<j))):=FX λ_ _ _ _ _ _ _ q=>lt_int q
theorem EY:cS X (compareOp .Gt) (qB λi j=>.bl (decide (j<i))):=FX λ_ _ _ _ _ _ _ q=>gt_int q
theorem abK:cS X (compareOp .GtE) (qB λi j=>.bl (decide (j<=i))):=FX λ_ _ _ _ _ _ _ q=>ge_int q
theorem YL:cS X (compareOp .IsNot) (λx y H Q=>y=.aY/\Q (.bl (!decide (x=.aY))) H):=by
 intro pins s σ H x y v u Q I rx ry h;obtain⟨rfl,q⟩:=h;cases ry;refine isnot_none_gen (cM I q ?_);cases x<;>first
  |(cases rx;rfl)
  |(obtain⟨t,rfl⟩:=rx;rfl)
theorem gG (b:Expr)(h:op≠.In:=by decide)(h2:op≠.NotIn:=by decide):behindInMarks op b=false:=by
 have e1:(op==CmpOp.In)=false:='J'
 have e2:(op==CmpOp.NotIn)=false:='J'
 cases b<;>simp[behindInMarks,e1,e2]
theorem YM (ho:cS X (compareOp op) r)(ha:PE X a ta)(hb:PE X b tb)(hm:behindInMarks op b=false):PE X (.Compare a [op] [b] pos) (jv r ta tb):=by
 intro pins s σ H Q I h;exact wpAny_Compare1 (FW ha hb I h λv u s2 x y H2 I2 rx ry q=>ho pins s2 σ H2 x y v u Q I2 rx ry q) hm
def EZ (t:TE):TT:=λσ H Q=>t σ H λx H'=>∃k,x=.bl k/\Q k H'
theorem C7 (ho:cS X (compareOp op) r)(ha:PE X a ta)(hb:PE X b tb)(hm:behindInMarks op b=false):PT X (.Compare a [op] [b] pos) (EZ (jv r ta tb)):=by
 intro pins s σ H Q I h;refine wpAny_isTrue_Compare1 (aJ (ha pins s σ H _ I h) λv s1 ⟨x,H1,I1,r1,q1⟩=>aJ (hb pins s1 σ H1 _ I1 q1) λu s2 ⟨y,H2,I2,r2,q2⟩=>
  aJ (ho pins s2 σ H2 x y v u _ I2 r1 r2 q2) λc s3 z9=>?_) hm
 obtain⟨z,H3,I3,r3,k,e,q3⟩:=z9;subst e;cases r3;exact YI ⟨H3,I3,q3⟩
theorem yP:(sizeLine:Nat)<2^63:='Q'
theorem vals1 (r:Vals [x] us):∃u,us=[u]/\RelV x u:=by
 cases r with
 |cons r1 r2=>cases r2;exact⟨_,rfl,r1⟩
theorem Xu:fA X (.builtin "abs") (λxs H Q=>∃i,xs=[.int i]/\Q (.int (if i<0 then -i else i)) H):=by
 intro pins s σ H xs us Q I r h;obtain⟨i,rfl,q⟩:_:=h;obtain⟨u,rfl,t,rfl⟩:=vals1 r;exact call_abs_int λu tk=>⟨.int (if i<0 then -i else i),H,I.tok _,⟨_,rfl⟩,q⟩
theorem WG:fA X (.type "int") (λxs H Q=>(∃i,xs=[.int i]/\Q (.int i) H)\/∃k,xs=[.bl k]/\Q (.int (if k then 1 else 0)) H):=by
 intro pins s σ H xs us Q I r h;obtain⟨i,rfl,q⟩|⟨k,rfl,q⟩:_:=h
 ·obtain⟨u,rfl,t,rfl⟩:=vals1 r;exact call_int_int ⟨.int i,H,I,⟨_,rfl⟩,q⟩
 ·obtain⟨u,rfl,r1⟩:=vals1 r;cases r1;exact call_int_bool ⟨.int (if k then 1 else 0),H,I.tok _,⟨_,rfl⟩,q⟩
end
structure pW (h:Heap) (x dx C:adG) (mA:Str->Option vn):Prop where
 obj:h.get? x=some (instObj C dx)
 ns:h.Ns1 dx mA
 ne:dx≠x
theorem WH {h:Heap}(n:h.Ns1 dx mA):∃od,h.get? dx=some od/\∀name,lookIn name od=some (mA name):=by
 obtain⟨o,es,ep,ho,hd,hk,_,hm⟩:_:=n;refine⟨o,ho,λname=>?_⟩;have e:=hm name;unfold nsFind findBy at e;rw[<- Array.find?_toList]at e;unfold lookIn;rw[hd];dsimp only;split
 ·simp_all
 ·rename_i q
  have a:es.toList.any (·.refKey)=false:=by
   rw[List.any_eq_false];intro y hy;obtain⟨z,t,acw⟩:=hk y (Array.mem_toList_iff.mp hy);simp[DictEntry.refKey,acw]
  grind
theorem pW.look (I:pW h x dx C mA):∃od,PySem.W.InstAt h x (instObj C dx) C (some od)/\∀name,lookIn name od=some (mA name):=
 by obtain⟨od,ho,hl⟩:=WH I.ns;exact⟨od,⟨I.obj,rfl,rfl,ho⟩,hl⟩
section
variable {s:adJ}{K:Frag}
theorem get_map (X:K.In s.heap)(I:pW s.heap x dx C mA)(hg:plainGet K C name=true)(hh:hasDictIn K C=true)(ha:findIn K (.ref C) name=some none)(hv:mA name=some v)(lZ:PySem.W.handedIn v=true)(h:Q v {s with toks:=s.toks+1}):
  wpAny (model prog w) A (getAttr (.ref x) name expr) Q E s:=by
 obtain⟨od,J,hl⟩:_:=I.look;exact PySem.W.get_value X J (afa hg).1 (PySem.W.findObj_own hh ha rfl 'J') lZ h
theorem Xv (X:K.In s.heap)(I:pW s.heap x dx C mA)(hg:plainGet K C name=true)(hf:findIn K (.ref C) name=some (some (.ref f)))(ht:isFn K (.ref f)=true)(hv:mA name=none)(h:Q (.ref f,[.ref x]) s):
  wpAny (model prog w) A (getMethod (.ref x) name pl) Q E s:=by
 obtain⟨od,J,hl⟩:_:=I.look;exact PySem.W.method_fn X J (afa hg).1 (afa hg).2 hf (Cc.mp ht) (by show(lookIn name od).map (·.isSome)=some false;rw[hl,hv];rfl) h
theorem YN (X:K.In s.heap)(I:pW s.heap x dx C mA)(hs:findIn K (.ref C) "__setattr__"=some (some (.builtin "object.__setattr__")))(hp:PySem.W.plainOver K C=true)(ht:PySem.W.takerIn K C name=some none)(hh:hasDictIn K C=true)(hw:PySem.Within mA ns)(cT:ns.length<=sizeLine)(h:∀h',pW h' x dx C (λy=>if y=name then some v else mA y)->Heap.SameBut dx s.heap h'->Q () {s with heap:=h',toks:=s.toks+2}):
  wpAny (model prog w) A (setAttr (.ref x) name v) Q E s:=by
 obtain⟨od,J,hl⟩:_:=I.look;refine PySem.W.set_plain X J hs (PySem.W.osa_open X J hp ht λb=>?_);obtain⟨cd,hc,qw⟩:_:=PySem.W.any_some hh;have hx:=I.obj;refine ab (wpAny_pure (ab (ab (wpAny_loadPart hx (ab (PySem.W.Looks.here (PySem.W.looks_clsIn X hc) ?_))))));rw[qw];refine wpAny_pure (ab (wpAny_pure (ab ?_)));refine wpAny_nsSet1 I.ns λh' Al du=>?_
 obtain⟨oD,esD,epD,hoD,hdD,hcD⟩:_:=Al.count (PySem.Within.cons name v hw);refine ab (wpAny_lookBehind hoD (by rw[hdD];exact pastItsLine_dict (Cn hcD 'J')) ?_);exact wpAny_pure (h _ ⟨(du.2 _ (adU I.ne)).trans I.obj,Al,I.ne⟩ du)
theorem Xw (X:K.In s.heap)(hm:PySem.W.makesIn K C=true)(hi:findIn K (.ref C) "__init__"=some (some (.ref f)))(hf:PySem.W.typeIn K (.ref f)=some (.type "function"))(h:codeAny (model prog w) (A.under (.builtin "type.__call__" ⟨.ref C::vs,kw⟩)) (.call (.ref f) ⟨.ref (s.heap.objs.size+1)::vs,kw⟩) (PySem.W.InitBack (s.heap.objs.size+1) R)
   {s with heap:=(s.heap.push emptyDict).push (instObj C s.heap.objs.size)}):
  codeAny (model prog w) A (.call (.ref C) ⟨vs,kw⟩) R s:=by
 obtain⟨hh,g,d,t,os⟩:=s;exact PySem.W.make_core (PySem.W.makes_of X hm) (PySem.W.looks_findIn X hi) (λself=>PySem.W.bind_fn X self hf) (.inl rfl) h
end
def gJ (f:Str)(v:V):List (Str×V)->List (Str×V)
 |[] => [(f,v)]
 |(g,x)::r=>if g=f then (g,v)::r else (g,x)::gJ f v r
theorem Jl (f g:Str)(v:V):∀fs,(gJ f v fs).lookup g=if g=f then some v else fs.lookup g
 |[] => by
  show List.lookup g [(f,v)]=_
  grind
 |(k,x)::r=>by
  have ih:=Jl f g v r;rw[show gJ f v ((k,x)::r)=(if k=f then (k,v)::r else (k,x)::gJ f v r)from rfl]
  grind
theorem B9 (f:Str)(v:V):∀fs,f∈(gJ f v fs).map (·.1)/\∀g,g∈fs.map (·.1)->g∈(gJ f v fs).map (·.1)
 |[] => ⟨by simp[gJ],λg h=>by simp at h⟩
 |(k,x)::r=>by
  obtain⟨i1,i2⟩:=B9 f v r;rw[show gJ f v ((k,x)::r)=(if k=f then (k,v)::r else (k,x)::gJ f v r)from rfl]
  grind
theorem Jm (f:Str)(v:V):∀fs,(gJ f v fs).length<=fs.length+1
 |[] => by simp[gJ]
 |(k,x)::r=>by
  have ih:=Jm f v r;rw[show gJ f v ((k,x)::r)=(if k=f then (k,v)::r else (k,x)::gJ f v r)from rfl]
  grind
theorem mX.some_of (r:mX (some v) o):∃u,o=some u/\RelV v u:=by
 cases o with
 |none=>exact(r).elim
 |some u=>exact⟨u,rfl,r⟩
theorem mX.none_of (r:mX none o):o=none:=by
 cases o with
 |none=>rfl
 |some u=>exact(r).elim
theorem WK (r:RelV v u):PySem.W.handedIn u=true:=by
 cases v with
 |aY=>cases (r);rfl
 |bl b=>cases (r);rfl
 |int i=>obtain⟨t,e⟩:=(r);cases e;rfl
 |str x=>obtain⟨t,e⟩:=(r);cases e;rfl
 |jt b=>obtain⟨t,e⟩:=(r);cases e;rfl
 |oG b=>obtain⟨t,e⟩:=(r);cases e;rfl
 |ref a=>cases (r);rfl
 |ty n=>cases (r);rfl
section
theorem yv (aO:dU P w H h)(e:H a=some (.ins C dx fs)):∃mA,pW h a dx C mA/\(∀f,mX (fs.lookup f) (mA f))/\PySem.Within mA (fs.map (·.1))/\fs.length<=1000/\H dx=some (.own a):=by
 obtain⟨d,z,ne,ob,mA,n,r,q⟩:_:=(aO a _ e)
 exact⟨mA,⟨ob,n,ne⟩,r,q,z,d⟩
end
structure iX (K:Frag) (C:adG):Prop where
 pg:plainGet K C Str.empty=true
 hd:hasDictIn K C=true
 po:PySem.W.plainOver K C=true
 sa:findIn K (.ref C) "__setattr__"=some (some (.builtin "object.__setattr__"))
theorem iX.get {K:Frag}{C:adG}(c:iX K C)(f:Str):plainGet K C f=true:=c.pg
def jK (K:Frag)(C:adG)(f:Str):Prop:=findIn K (.ref C) f=some none
theorem jK.abL {K:Frag}(n:jK K C f):PySem.W.takerIn K C f=some none:=by
 unfold PySem.W.takerIn;rw[n]
 rfl
structure Meth (K:Frag) (C:adG) (m:Str) (f:adG):Prop where
 at_:findIn K (.ref C) m=some (some (.ref f))
 fn:isFn K (.ref f)=true
 kp:keepIn K (.ref f)=true
section
variable {σ:St}
theorem VV (I:Inv X pins σ H s)(e:H a=some (.ins C dx fs))(c:iX X.K C)(n:jK X.K C f)(l:fs.lookup f=some v)(h:∀u s',Inv X pins σ H s'->RelV v u->Q u s'):wpAny (model X.prog X.w) A (getAttr (.ref a) f b) Q E s:=by
 obtain⟨mA,O,r,_,_,_⟩:_:=yv I.aO e;obtain⟨u,hu,ru⟩:_:=mX.some_of (by rw[<- l];exact r f);exact get_map I.dB O (c.get f) c.hd n hu (WK ru) (h u _ (I.tok _) ru)
theorem Jo (I:Inv X pins σ H s)(e:H a=some (.ins C dx fs))(c:iX X.K C)(k:Meth X.K C m g)(l:fs.lookup m=none)(h:Q (.ref g,[.ref a]) s):wpAny (model X.prog X.w) A (getMethod (.ref a) m pl) Q E s:=by
 obtain⟨mA,O,r,_,_,_⟩:_:=yv I.aO e;have hn:mA m=none:=mX.none_of (by grind);exact Xv I.dB O (c.get m) k.at_ k.fn hn h
theorem VW (I:Inv X pins σ H s)(e:H a=some (.ins C dx fs))(c:iX X.K C)(n:jK X.K C f)(hl:fs.length<1000)(ry:RelV y u)(h:∀s',Inv X pins σ (upd H a (.ins C dx (gJ f y fs))) s'->Q () s'):wpAny (model X.prog X.w) A (setAttr (.ref a) f u) Q E s:=by
 obtain⟨mA,O,r,wi,_,ho⟩:_:=yv I.aO e;have hz:(fs.map (·.1)).length<=sizeLine:=by rw[aa,afF];lia
 refine YN I.dB O c.sa c.po n.abL c.hd wi hz λh' O' sb=>h _ ?_
 have hd:∃o,h'.get? dx=some o:=by obtain⟨o,_,_,e',_⟩:_:=O'.ns;exact⟨o,e'⟩
 refine I.write (by rw[e];exact True.intro) (.inr ho) (λb q hb z=>(sb.2 b hb).trans z) hd ?_;refine⟨by rw[aH O.ne];exact ho,?_,O.ne,O'.obj,_,O'.ns,λg=>?_,λg hg=>?_⟩
 ·have:=Jm f y fs;lia
 ·rw[Jl];by_cases q:g=f
  ·rw[uu q,uu q];exact ry
  ·simp_all
 ·by_cases q:g=f
  ·rw[q];exact(B9 f y fs).1
  ·refine(B9 f y fs).2 g (wi g λz=>hg ?_)
   simp_all
theorem Inv.made (I:Inv X pins σ H s):Inv X pins σ (upd (upd H s.heap.objs.size (.own (s.heap.objs.size+1))) (s.heap.objs.size+1) (.ins C s.heap.objs.size []))
  {s with heap:=(s.heap.push emptyDict).push (instObj C s.heap.objs.size)}:=by
 have e1:(s.heap.push emptyDict).get? s.heap.objs.size=some emptyDict:=BN s.heap rfl;have e2:((s.heap.push emptyDict).push (instObj C s.heap.objs.size)).get? (s.heap.objs.size+1)=some (instObj C s.heap.objs.size):=by
  have:=BN (s.heap.push emptyDict) (o:=instObj C s.heap.objs.size) rfl
  simp_all
 have e3:(s.heap.push emptyDict).Ns s.heap.objs.size (λ_=>none):=⟨emptyDict,#[],_,e1,rfl,(λe he=>absurd he 'Y'),λ_=>rfl⟩
 have I1:=I.laid (o:=.own (s.heap.objs.size+1)) (h':=s.heap.push emptyDict) (t':=s.toks) (λb u q=>mf _ q) (br _) ⟨_,e1⟩;refine I1.laid (t':=s.toks) (λb u q=>mf _ q) (afP (aeM _ _)) ?_;have ne:s.heap.objs.size≠s.heap.objs.size+1:=AS (aek _);refine⟨by rw[aH ne,bM],zd _,ne,e2,λ_=>none,(Heap.Ns1.of_empty e3).at λo q=>mf _ q,λ_=>True.intro,λy hy=>absurd rfl hy⟩
theorem YQ (hb:attributeBase e f env (eval e env)=eval e env)(h:wpAny (model prog w) A (eval e env) (λo bA=>wpAny (model prog w) A (getAttr o f true) Q E bA) E s):wpAny (model prog w) A (eval (.Attribute e f pos) env) Q E s:=
 Attribute_any_ h (by rw[arm_eval_Attribute,hb])
end
def P1 (K:Frag)(ta:TE)(f:Str):TE:=λσ H Q=>ta σ H λx H1=>∃a C dx fs v,x=.ref a/\H1 a=some (.ins C dx fs)/\iX K C/\jK K C f/\fs.lookup f=some v/\Q v H1
def P4 (K:Frag)(ta tv:TE)(f:Str):TS:=λD σ H=>tv σ H λy H1=>ta σ H1 λx H2=>∃a C dx fs,x=.ref a/\H2 a=some (.ins C dx fs)/\iX K C/\jK K C f/\fs.length<1000 /\
 D.nx σ (upd H2 a (.ins C dx (gJ f y fs)))
section
theorem mL (he:PE X e ta)(hb:attributeBase e f X.env (eval e X.env)=eval e X.env):PE X (.Attribute e f pos) (P1 X.K ta f):=by
 intro pins s σ H Q I h;refine YQ hb (aJ (he pins s σ H _ I h) λu s1 z9=>?_);obtain⟨x,H1,I1,rx,a,C,dx,fs,v,ex,ea,c,n,l,q⟩:=z9;subst ex;obtain rfl:u=Value.ref a:=rx;exact VV I1 ea c n l λu' s2 I2 ru=>⟨v,H1,I2,ru,q⟩
theorem sd (ha:PE X o ta)(hv:PE X value tv)(hs:swapsWith value (some (.Attribute o f pos')) pos.line X.env=pure false):PS X (.Assign [.Attribute o f pos'] value pos) (P4 X.K ta tv f):=by
 intro pins s σ H D I h;refine plainObj_wpAny_Assign_Attribute (aJ (hv pins s σ H _ I h) λu s1 ⟨y,H1,I1,ry,q⟩=>aJ (ha pins s1 σ H1 _ I1 q) λov s2 z9=>?_) hs;obtain⟨x,H2,I2,rx,a,C,dx,fs,ex,ea,c,n,l,q2⟩:=z9;subst ex;obtain rfl:ov=Value.ref a:=rx;exact VW I2 ea c n l ry λs3 I3=>⟨σ,_,I3,q2⟩
end
section
variable {σ:St}
inductive jQ (K:Frag) (H:Hp):V->vn->Prop where
 |aY:jQ K H .aY (.type "NoneType")
 |bl (x:Bool):jQ K H (.bl x) (.type "bool")
 |int (i:Int):jQ K H (.int i) (.type "int")
 |str (x:Str):jQ K H (.str x) (.type "str")
 |oG (x:UInt64):jQ K H (.oG x) (.type "float")
 |lst {a:adG} {xs:List V} (e:H a=some (.lst xs)):jQ K H (.ref a) (.type "list")
 |eS {a:adG} {o:Obj} {xs:List V} (e:H a=some (.eS o (.lst xs))):jQ K H (.ref a) (.type "list")
 |tup {a:adG} {xs:List V} (e:H a=some (.tup xs)):jQ K H (.ref a) (.type "tuple")
 |dK {a:adG} {eu:List (Key×V)} (e:H a=some (.dK eu)):jQ K H (.ref a) (.type "dict")
 |dT {a:adG} {eu:List (List Key×V)} (e:H a=some (.dT eu)):jQ K H (.ref a) (.type "dict")
 |ins {a C dx:adG} {fs:List (Str×V)} (e:H a=some (.ins C dx fs)) (cl:iX K C) (ha:findIn K (.ref C) "__class__"=some (some (.builtin "object.__class__")))
   (hn:PySem.W.specialIn K (.builtin "object.__class__") "__get__"=some (some (.builtin "getset_descriptor.__get__"))) (QR:PySem.W.takesIn K (.builtin "object.__class__")=some true)
   (hm:PySem.W.mroIn K C (.type "object")=some true):jQ K H (.ref a) (.ref C)
theorem xX (I:Inv X pins σ H s)(rx:RelV x u)(ty:jQ X.K H x t)(e:PySem.W.kitOne X.K t c=some b)(h:∀tk,Q (.bool b) {s with toks:=tk}):
  wpAny (model X.prog X.w) A (call (.builtin "isinstance") [u,c]) Q E s:=by
 cases ty with
 |aY=>cases (rx);exact aeS PySem.W.kitx_none I.dB True.intro e (λz=>nomatch z) h
 |bl y=>cases (rx);exact aeS PySem.W.kitx_bool I.dB True.intro e (λz=>nomatch z) h
 |int i=>obtain⟨t,q⟩:=(rx);cases q;exact aeS PySem.W.kitx_int I.dB True.intro e (λz=>nomatch z) h
 |str y=>obtain⟨t,q⟩:=(rx);cases q;exact aeS PySem.W.kitx_str I.dB True.intro e (λz=>nomatch z) h
 |oG y=>obtain⟨t,q⟩:=(rx);cases q;exact aeS PySem.W.kitx_float I.dB True.intro e (λz=>nomatch z) h
 | @lst a xs ea=>
  cases (rx)
  obtain⟨_,_,n,_,h1⟩:=(I.aO a _ ea)
  exact aeS afz I.dB ⟨_,h1,rfl⟩ e (λz=>nomatch z) h
 | @eS a ob xs ea=>
  cases (rx)
  obtain⟨_,_,_,n,_,h1⟩:_:=(I.aO a _ ea)
  exact aeS afz I.dB ⟨_,h1,rfl⟩ e (λz=>nomatch z) h
 | @tup a xs ea=>
  cases (rx)
  obtain⟨_,_,_,p⟩:=(I.aO a _ ea)
  obtain⟨o,h1,h2,_⟩:=p;exact aeS PySem.W.kitx_tuple I.dB ⟨o,h1,h2⟩ e (λz=>nomatch z) h
 | @dK a eu ea=>
  cases (rx)
  obtain⟨_,_,vs,_,p⟩:=(I.aO a _ ea)
  obtain⟨o,es,ep,h1,h2,_⟩:=p;exact aeS PySem.W.kitx_dict I.dB ⟨o,h1,h2.1⟩ e (λz=>nomatch z) h
 | @dT a eu ea=>
  cases (rx)
  obtain⟨_,_,xs,_,o,es,ep,h1,h2,_⟩:=(I.aO a _ ea)
  exact aeS PySem.W.kitx_dict I.dB ⟨o,h1,h2.1⟩ e (λz=>nomatch z) h
 | @ins a C dx fs ea cl ha hn QR hm=>
  cases (rx)
  obtain⟨mA,O,_⟩:=yv I.aO ea;obtain⟨od,J,_⟩:_:=O.look;exact aeS (PySem.W.kitx_own (cl.get _) cl.hd ha hn QR hm) I.dB J e (λz=>nomatch z) h
end
structure dA (k:Nat) (A:Around):Prop where
 hd:A.handled=none
 dp:A.depth+3*k+5<recursionLimit
 un:A.units+16*k+200<cLine
theorem dA.mono (r:dA k A)(h:j<=k):dA j A:=⟨r.hd,by have:=r.dp;lia,by have:=r.un;lia⟩
theorem dA.deeper (r:dA (k+1) A)(env:Env):dA k (A.deeper env):=
 ⟨r.hd,by have:=r.dp;show A.depth+1+3*k+5<_;lia,by have:=r.un;show A.units+3+16*k+200<_;lia⟩
theorem VX {A:Around}:(A.under (.builtin "type.__call__" ⟨.ref C::us,kw⟩)).depth=A.depth+1:=by
 first|rfl|simp[Around.under]
theorem VY {A:Around}:(A.under (.builtin "type.__call__" ⟨.ref C::us,kw⟩)).units=A.units+1:=by
 first|rfl|simp[Around.under]
theorem dA.make (r:dA (k+1) A)(C:adG)(us:List vn)(kw:List (Str×vn)):dA k (A.under (.builtin "type.__call__" ⟨.ref C::us,kw⟩)):=
 ⟨r.hd,by have:=r.dp;rw[VX];lia,by have:=r.un;rw[VY];lia⟩
theorem dA.depth (r:dA k A):A.depth<recursionLimit:=by have:=r.dp;lia
theorem dA.units (r:dA k A):A.units+64<cLine:=by have:=r.un;lia
def d8:TA:=λ_ H Q=>Q [] H
def dR (ta:TE)(tr:TA):TA:=λσ H Q=>ta σ H λx H1=>tr σ H1 λxs H2=>Q (x::xs) H2
section
theorem cG:PA X [] d8:=λ_ _ _ _ H Q I h=>Calls.spliced_nil ⟨[],H,I,.nil,h⟩
theorem cf (ha:PE X e te)(hr:PA X es t)(hs:starEach (e::es) X.env=(false,eval e X.env)::starEach es X.env:=by rfl):PA X (e::es) (dR te t):=by
 intro pos pins s σ H Q I h;rw[hs];refine Calls.spliced_cons (aJ (ha pins s σ H _ I h) λu s1 z9=>?_);obtain⟨x,H1,I1,r1,q1⟩:=z9;exact aJ (hr pos pins s1 σ H1 _ I1 q1) λus s2 z9=>by obtain⟨xs,H2,I2,r2,q2⟩:_:=z9;exact⟨x::xs,H2,I2,.cons r1 r2,q2⟩
def FZ (t:TA):TE:=λσ H Q=>t σ H λxs H1=>xs.length<=sizeLine/\∀p,H1 p=none->Q (.ref p) (upd H1 p (.tup xs))
def P5 (t:TA):TE:=λσ H Q=>t σ H λxs H1=>xs.length<=sizeLine/\∀p,H1 p=none->Q (.ref p) (upd H1 p (.lst xs))
theorem yQ (h:PA X es t):PE X (.Tuple es x1 pos) (FZ t):=by
 intro pins s σ H Q I hq;refine wpAny_Tuple_spliced (aJ (h pos pins s σ H _ I hq) λus s1 ⟨xs,H1,I1,r,z,q⟩=>⟨by rw[<- r.length];exact z,?_⟩);have hf:=I1.aO.fresh (br _);refine⟨.ref s1.heap.objs.size,upd H1 s1.heap.objs.size (.tup xs),I1.laid (t':=s1.toks) (λb u e=>mf _ e) (br _) ?_,rfl,q _ hf⟩;exact⟨z,us,r,⟨_,BN _ rfl,rfl,_,rfl⟩⟩
theorem DR (h:PA X es t):PE X (.List es pos) (P5 t):=by
 intro pins s σ H Q I hq;refine wpAny_List_spliced (aJ (h pos pins s σ H _ I hq) λus s1 ⟨xs,H1,I1,r,z,q⟩=>⟨by rw[<- r.length];exact z,?_⟩);have hf:=I1.aO.fresh (br _);refine⟨.ref s1.heap.objs.size,upd H1 s1.heap.objs.size (.lst xs),I1.laid (t':=s1.toks) (λb u e=>mf _ e) (br _) ?_,rfl,q _ hf⟩;exact⟨z,us,0,r,BN _ rfl⟩
end
abbrev Sp:=List V->Hp->VK->XK->Prop
abbrev qC:=List Env->Hp->adJ->XK->vn->adJ->Prop
structure pX (P:afU) (w:afV) (K:Frag) (mg:Str->Option vn) (base:Heap) (A:Around) (outer:List Env) (s:adJ) (H:Hp):Prop where
 frames:A.frames=some outer
 mod:Mod K mg base
 bs:∀b o,base.get? b=some o->s.heap.get? b=some o/\H b=none
 oH:base.objs.size<=s.heap.objs.size
 jP:s.heap.FunFrames base outer
 qp:∀b∈fG outer,H b=none
 aO:dU P w H s.heap
 bare:AllBare s.gens
def CE (outer:List Env)(P:afU)(w:afV)(H:Hp)(s:adJ)(Q:VK)(u:vn)(s':adJ):Prop:=
 ∃v H',s'.os=s.os/\AllBare s'.gens/\Un (fG outer) [] H H' s.heap s'.heap/\dU P w H' s'.heap/\RelV v u/\Q v H'
def CR (CX:qC)(outer:List Env)(P:afU)(w:afV)(H:Hp)(s:adJ)(Q:VK)(E:XK)(r:Result)(s':adJ):Prop:=
 match r with
 | .ok (.ret u)=>CE outer P w H s Q u s'
 | .ok _=>False
 | .error e=>CX outer H s E e s'
structure bQ (P:afU) (w:afV) (K:Frag) (mg:Str->Option vn) (base:Heap) (CX:qC) (k:Nat) (f:adG) (fd:FuncData) (ps:List Str) (sp:Sp):Prop where
 len:∀vs H Q E,sp vs H Q E->vs.length=ps.length
 run:∀(A:Around) (outer:List Env) (s:adJ) (H:Hp) (args:Args) (us:List vn) (vs:List V) (Q:VK) (E:XK),dA k A->pX P w K mg base A outer s H->BindsTo s fd args (ps.zip us)->Vals vs us->sp vs H Q E ->
  codeAny (model P w) A (.call (.ref f) args) (CR CX outer P w H s Q E) s
theorem bQ.imp {K:Frag}(F:bQ P w K mg base CX k f fd ps sp)(h:∀vs H Q E,sp' vs H Q E->sp vs H Q E):bQ P w K mg base CX k f fd ps sp':=
 ⟨λvs H Q E q=>F.len vs H Q E (h _ _ _ _ q),λA outer s H args us vs Q E hr he hb hv hs=>F.run A outer s H args us vs Q E hr he hb hv (h _ _ _ _ hs)⟩
theorem pX.make {K:Frag}(e:pX P w K mg base A outer s H)(C:adG)(us:List vn)(kw:List (Str×vn)):
  pX P w K mg base (A.under (.builtin "type.__call__" ⟨.ref C::us,kw⟩)) outer s H:=⟨by first|exact e.frames|(simpa [Around.under]using e.frames),e.mod,e.bs,e.oH,e.jP,e.qp,e.aO,e.bare⟩
section
variable {σ:St}
theorem Inv.P6 (I:Inv X pins σ H s):pX X.prog X.w X.K X.mg X.base X.A X.stack s H:=
 ⟨I.ok.frames,I.ok.mod,I.bs,Cn I.ok.oH I.sz,I.stack,I.KL,I.aO,I.bare⟩
theorem Inv.after (I:Inv X pins σ H s)(h:CE X.stack X.prog X.w H s Q u s'):EP X pins σ Q u s':=by
 obtain⟨v,H',os,bare,un,aO,r,q⟩:_:=h;obtain⟨hh,g,d,t,os'⟩:=s';obtain rfl:os'=s.os:=os;exact⟨v,H',I.call (h':=hh) (g':=g) (d':=d) (t':=t) un aO bare (λb z=>absurd z 'Y'),r,q⟩
end
def sL (sp:Sp)(fT:List V)(E:XK)(t:TA):TE:=λσ H Q=>t σ H λvs H1=>sp (vs++fT) H1 Q E
def zv (C:adG)(m:Str)(sp:Sp)(fT:List V)(E:XK)(ta:TE)(t:TA):TE:=λσ H Q=>ta σ H λx H1=>∃a dx fs,x=.ref a/\H1 a=some (.ins C dx fs)/\fs.lookup m=none /\
 t σ H1 λvs H2=>sp (x::(vs++fT)) H2 Q E
def abM (C:adG)(sp:Sp)(fT:List V)(E:XK)(t:TA):TE:=λσ H Q=>t σ H λvs H1=>∀x dx,H1 x=none->H1 dx=none->dx≠x ->
 sp (.ref x::(vs++fT)) (upd (upd H1 dx (.own x)) x (.ins C dx [])) (λv H2=>v=.aY/\Q (.ref x) H2) E
def Binds (K:Frag)(fd:FuncData)(ps:List Str)(ds:List vn):Prop:=
 ∀(s:adJ) (us:List vn),K.In s.heap->(us++ds).length=ps.length->BindsTo s fd ⟨us,[]⟩ (ps.zip (us++ds))
theorem Binds.all {K:Frag}(h:∀us,us.length=ps.length->bindArgs fd ⟨us,[]⟩=pure (ps.zip us)):Binds K fd ps []:=λs us _ hl=>by
 rw[zw]at hl ⊢;exact .of_eq (h us hl)
def Passes (CX:qC)(X:Cx)(E:XK):Prop:=∀(pins:List (adG×Obj)) (σ:St) (H:Hp) (s:adJ) (e:vn) (s':adJ),Inv X pins σ H s->CX X.stack H s E e s'->X.xe e s'
section
variable {p pos apos:Pos}
theorem DT {σ:St}(F:bQ X.prog X.w X.K X.mg X.base CX k f fd ps sp)(hr:dA k X.A)(hb:Binds X.K fd ps ds)(hd:Vals fT ds)(hx:Passes CX X E)(I:Inv X pins σ H s)(r:Vals vs us)(h:sp (vs++fT) H Q E):wpAny (model X.prog X.w) X.A (call (.ref f) us) (EP X pins σ Q) X.xe s:=by
 have r2:=r.append hd;have hl:(us++ds).length=ps.length:=by rw[<- r2.length];exact F.len _ _ _ _ h
 refine wpAny_call (aeR (F.run X.A X.stack s H ⟨us,[]⟩ (us++ds) (vs++fT) Q E hr I.P6 (hb s us I.dB hl) r2 h) λr s' hq=>?_);cases r with
 |error e=>exact hx pins σ H s e s' I hq
 |ok fl=>
  cases fl with
  |ret u=>exact I.after hq
  |next=>exact False.elim hq
  |brk=>exact False.elim hq
  |cont=>exact False.elim hq
theorem KS (F:bQ X.prog X.w X.K X.mg X.base CX k f fd ps sp)(hr:dA k X.A)(hg:Gl X x)(hm:X.mg x=some (.ref f))(hk:keepIn X.K (.ref f)=true)(hb:Binds X.K fd ps ds)(hd:Vals fT ds)(hx:Passes CX X E)(ha:PA X (e::es) t)(fc:(x==("__debug__":Str))=false:=by decide)(he:starEach (e::es) X.env=(false,eval e X.env)::starEach es X.env:=by rfl)(dv:(backTo pos (starEach es X.env)).any (·.1)=false:=by rfl):
  PE X (.Call (.Name x p) (e::es) [] pos) (sL sp fT E t):=by
 intro pins s σ H Q I h;refine aew (C6 I hg hm ?_ fc);refine afi I.ok.mod.vX hk (aJ (ha pos pins s σ H _ I h) λus s1 ⟨vs,H1,I1,r,q⟩=>⟨I1.dB,?_⟩) he dv;exact DT F hr hb hd hx I1 r q
theorem C8 {pl:Sem Bool}(he:PE X o ta)(c:iX X.K C)(hm:Meth X.K C m f)(F:bQ X.prog X.w X.K X.mg X.base CX k f fd ps sp)(hr:dA k X.A)(hb:Binds X.K fd ps ds)(hd:Vals fT ds)(hx:Passes CX X E)(ha:PA X (e::es) t)(iw:starEach (e::es) X.env=(false,eval e X.env)::starEach es X.env:=by rfl)(dv:(backTo pos (starEach es X.env)).any (·.1)=false:=by rfl)(ht:eval (.Call (.Attribute o m apos) (e::es) [] pos) X.env=(do
   let ov<-eval o X.env
   standAt apos.atName
   let (f,first)<-holding [ov] (getMethod ov m pl)
   callWith pos f first (backTo pos (starEach (e::es) X.env)) (backToKw pos (keywordEach [] X.env))):=by rfl):
  PE X (.Call (.Attribute o m apos) (e::es) [] pos) (zv C m sp fT E ta t):=by
 intro pins s σ H Q I h;refine PySem.W.methodCall_KW (aJ (he pins s σ H _ I h) λu s1 z9=>?_) ht;obtain⟨x,H1,I1,rx,a,dx,fs,ex,ea,l,q⟩:=z9;subst ex;obtain rfl:u=Value.ref a:=rx;refine Jo I1 ea c hm l ?_;refine afi I.ok.mod.vX hm.kp (aJ (ha pos pins s1 σ H1 _ I1 q) λus s2 ⟨vs,H2,I2,r,q2⟩=>⟨I2.dB,?_⟩) iw dv;exact DT (vs:=.ref a::vs) F hr hb hd hx I2 (.cons rfl r) q2
theorem CF (he:PE X o ta)(c:iX X.K C)(hm:Meth X.K C m f)(F:bQ X.prog X.w X.K X.mg X.base CX k f fd ps sp)(hr:dA k X.A)(hb:Binds X.K fd ps ds)(hd:Vals fT ds)(hx:Passes CX X E)(ht:eval (.Call (.Attribute o m apos) [] [] pos) X.env=(do
   let ov<-eval o X.env
   standAt apos.atName
   let (f,first)<-holding [ov] (getMethod ov m pl)
   callWith pos f first (backTo pos (starEach [] X.env)) (backToKw pos (keywordEach [] X.env))):=by rfl):
  PE X (.Call (.Attribute o m apos) [] [] pos) (zv C m sp fT E ta d8):=by
 intro pins s σ H Q I h;refine PySem.W.methodCall_KW (aJ (he pins s σ H _ I h) λu s1 z9=>?_) ht;obtain⟨x,H1,I1,rx,a,dx,fs,ex,ea,l,q⟩:=z9;subst ex;obtain rfl:u=Value.ref a:=rx;refine Jo I1 ea c hm l ?_;exact PySem.W.callWith_K0 I1.dB hm.kp (DT (vs:=[.ref a]) F hr hb hd hx I1 (.cons rfl .nil) q)
structure Mk (K:Frag) (C f:adG):Prop where
 makes:PySem.W.makesIn K C=true
 init:findIn K (.ref C) "__init__"=some (some (.ref f))
 fn:isFn K (.ref f)=true
 kp:keepIn K (.ref C)=true
theorem Xx {σ:St}(M:Mk X.K C f)(F:bQ X.prog X.w X.K X.mg X.base CX k f fd ps sp)(hr:dA (k+1) X.A)(hb:Binds X.K fd ps ds)(hd:Vals fT ds)(hx:Passes CX X E)(I:Inv X pins σ H s)(r:Vals vs us)(h:∀x dx,H x=none->H dx=none->dx≠x->sp (.ref x::(vs++fT)) (upd (upd H dx (.own x)) x (.ins C dx [])) (λv H2=>v=.aY/\Q (.ref x) H2) E):
  wpAny (model X.prog X.w) X.A (call (.ref C) us) (EP X pins σ Q) X.xe s:=by
 have hq:=h (s.heap.objs.size+1) s.heap.objs.size (I.aO.fresh (aeq _)) (I.aO.fresh (br _)) (AS (aek _));have I2:=Inv.made (C:=C) I;have r2:Vals (V.ref (s.heap.objs.size+1)::(vs++fT)) (Value.ref (s.heap.objs.size+1)::(us++ds)):=.cons rfl (r.append hd);have hl:(Value.ref (s.heap.objs.size+1)::us++ds).length=ps.length:=by
  have e:=r2.length;rw[F.len _ _ _ _ hq]at e
  simp_all
 refine wpAny_call (Xw I.dB M.makes M.init (Cc.mp M.fn) (aeR (F.run _ X.stack _ _ ⟨Value.ref (s.heap.objs.size+1)::us,[]⟩ (Value.ref (s.heap.objs.size+1)::(us++ds)) _ _ E (hr.make C us [])
  (I2.P6.make C us []) (hb _ (Value.ref (s.heap.objs.size+1)::us) I2.dB hl) r2 hq) λr s' nh=>?_))
 cases r with
 |error e=>exact hx pins σ _ _ e s' I2 nh
 |ok fl=>
  cases fl with
  |ret u=>
   obtain⟨v,H',I3,rv,ev,q3⟩:_:=I2.after nh;subst ev;exact⟨rv,⟨V.ref (s.heap.objs.size+1),H',I3,rfl,q3⟩⟩
  |next=>exact False.elim nh
  |brk=>exact False.elim nh
  |cont=>exact False.elim nh
theorem YR (M:Mk X.K C f)(F:bQ X.prog X.w X.K X.mg X.base CX k f fd ps sp)(hr:dA (k+1) X.A)(hg:Gl X x)(hm:X.mg x=some (.ref C))(hb:Binds X.K fd ps ds)(hd:Vals fT ds)(hx:Passes CX X E)(ha:PA X (e::es) t)(fc:(x==("__debug__":Str))=false:=by decide)(he:starEach (e::es) X.env=(false,eval e X.env)::starEach es X.env:=by rfl)(dv:(backTo pos (starEach es X.env)).any (·.1)=false:=by rfl):
  PE X (.Call (.Name x p) (e::es) [] pos) (abM C sp fT E t):=by
 intro pins s σ H Q I h;refine aew (C6 I hg hm ?_ fc);refine afi I.ok.mod.vX M.kp (aJ (ha pos pins s σ H _ I h) λus s1 ⟨vs,H1,I1,r,q⟩=>⟨I1.dB,?_⟩) he dv;exact Xx M F hr hb hd hx I1 r q
end
theorem bH {p:Prop} [Decidable p](h:decide p=true:=by rfl):p:=GS h
structure aZ (N P:List Str) (sc:Scope):Prop where
 kind:sc.kind=.function
 co:sc.isCoroutine=false
 gen:sc.isGenerator=false
 nd:N.Nodup
 pre:N.take P.length=P
 par:∀x∈P,sc.names.lookup x=some .local\/sc.names.lookup x=some .cell
 aaI:∀y∈sc.names,y.2≠.free
theorem scA {N P:List Str}{sc:Scope}(a:sc.kind=.function:=by rfl)(b:sc.isCoroutine=false:=by rfl)(c:sc.isGenerator=false:=by rfl)(d:N.Nodup:=by decide +kernel)(e:N.take P.length=P:=by rfl)(f:∀x∈P,sc.names.lookup x=some .local\/sc.names.lookup x=some .cell:=by decide +kernel)(g:∀y∈sc.names,y.2≠.free:=by decide +kernel):aZ N P sc:=⟨a,b,c,d,e,f,g⟩
theorem Jx {kindOf:Str->Option NameKind}:∀{binds:List (Str×vn)} {m:Str->Option vn},(∀v,(x,v)∉binds)->bindL kindOf binds m x=m x
 |[],_,_=>rfl
 |(n,v)::r,m,h=>by
  unfold bindL;rw[Jx λw hw=>h w (MW _ hw)];split
  ·grind
  ·rfl
theorem Jy {kindOf:Str->Option NameKind}:∀{binds:List (Str×vn)} {m:Str->Option vn},(∀v,(x,v)∉binds)->bindC kindOf binds m x=m x
 |[],_,_=>rfl
 |(n,v)::r,m,h=>by
  unfold bindC;rw[Jy λw hw=>h w (MW _ hw)];split
  ·rfl
  ·grind
theorem Jz {kindOf:Str->Option NameKind}:∀{P:List Str} {vs:List vn} {i:Nat} {m:Str->Option vn},P.Nodup->P[i]?=some x->vs[i]?=some v->kindOf x=some .local ->
  bindL kindOf (P.zip vs) m x=some v
 |[],_,_,_,_,h,_,_=>by simp at h
 |_::_,[],_,_,_,_,h,_=>by simp at h
 |p::P,w::vs,0,m,nd,h1,h2,hk=>by
  simp at h1 h2;subst h1;subst h2;show bindL kindOf ((p,w)::P.zip vs) m p=_;unfold bindL;rw[Jx λv hv=>(AE.mp nd).1 (afQ hv).1,uu hk];simp
 |p::P,w::vs,i+1,m,nd,h1,h2,hk=>by
  show bindL kindOf ((p,w)::P.zip vs) m x=_;exact Jz (i:=i) (AE.mp nd).2 (by assumption) (by assumption) hk
theorem JA {kindOf:Str->Option NameKind}:∀{P:List Str} {vs:List vn} {i:Nat} {m:Str->Option vn},P.Nodup->P[i]?=some x->vs[i]?=some v->kindOf x≠some .local ->
  bindC kindOf (P.zip vs) m x=some v
 |[],_,_,_,_,h,_,_=>by simp at h
 |_::_,[],_,_,_,_,h,_=>by simp at h
 |p::P,w::vs,0,m,nd,h1,h2,hk=>by
  simp at h1 h2;subst h1;subst h2;show bindC kindOf ((p,w)::P.zip vs) m p=_;unfold bindC;rw[Jy λv hv=>(AE.mp nd).1 (afQ hv).1,rf hk];simp
 |p::P,w::vs,i+1,m,nd,h1,h2,hk=>by
  show bindC kindOf ((p,w)::P.zip vs) m x=_;exact JA (i:=i) (AE.mp nd).2 (by assumption) (by assumption) hk
def start (N:List Str)(vs:List V):St:=vs.map some++List.replicate (N.length-vs.length) none
def lO (CX:qC)(P:afU)(w:afV)(K:Frag)(mg:Str->Option vn)(base:Heap)(N:List Str)(qual:Str)(scope:Scope)(f:adG)(cd:vn)(A:Around)(outer:List Env)(s:adJ)(H:Hp)(E:XK):Cx where
 prog:=P
 w:=w
 K:=K
 mg:=mg
 base:=base
 A:=A.deeper (envOfC qual scope s.heap.objs.size f cd)
 N:=N
 dY:=s
 vF:=H
 env:=envOfC qual scope s.heap.objs.size f cd
 outer:=outer
 stack:=envOfC qual scope s.heap.objs.size f cd::outer
 ex:=[]
 calm:=true
 fn:=λ_=>true
 pn:=[]
 xe:=λe s'=>wpAny (model P w) (A.deeper (envOfC qual scope s.heap.objs.size f cd)) (leaving (envOfC qual scope s.heap.objs.size f cd) e) (λ_ GN=>CX outer H s E e GN) (λe' GN=>CX outer H s E e' GN) s'
theorem CG {sc:Scope}(h:sc.names.lookup x=some .cell):∃c,(cellsFrom n sc.names []).lookup x=some c:=by
 have q:=PySem.W.cellsFrom_some sc.names n [] (.inl h);exact aeu.mp q
theorem WL {K:Frag}(S:aZ N ps scope)(hd:A.handled=none)(e0:pX P w K mg base A outer s H)(hl:vs.length=ps.length)(r:Vals vs us)(x:InCallC s s.heap.objs.size (bindL (envOfC qual scope s.heap.objs.size f cd).kindOf (ps.zip us) λ_=>none) (cellsFrom (s.heap.objs.size+1) scope.names []) (bindC (envOfC qual scope s.heap.objs.size f cd).kindOf (ps.zip us) λ_=>none) s1):
  Inv (lO CX P w K mg base N qual scope f cd A outer s H E) [] (start N vs) H s1:=by
 have dv:ps.length<=N.length:=by have:=congrArg List.length S.pre;rw[LB]at this;lia
 obtain⟨h1,tk,rfl,hk⟩:=x.done;have wg:∀b,b∉(lO CX P w K mg base N qual scope f cd A outer s H E).ex:=λb z=>absurd (show b∈([])from z) 'Y'
 refine⟨⟨e0.mod,S.kind,rfl,rfl,br _,λy z c h1 h2=>?_,λy hy=>?_,λy c _ h=>?_,λ_=>hd,Around.frames_deeper e0.frames,.inr ⟨rfl,rfl⟩,λb z=>absurd z (wg b),e0.bs,e0.oH,λb _ _=>wg b,λb z=>absurd z (wg b),e0.jP,e0.qp⟩,
  rfl,e0.bare,Un.kept hk,⟨_,x.toInCall.ns,λi y v h1 h2 h3=>?_⟩,λy c h=>⟨_,x.cell y c h⟩,e0.aO.fresh (br _),λy c h=>?_,λp hp=>absurd (show p∈([])from hp) 'Y',e0.aO.kept hk,?_⟩
 ·exact name_of_addr x.apart (adV h1) (adV h2)
 ·obtain hy|hy:=hy
  ·exact CG hy
  ·exact absurd rfl (S.aaI _ (adV hy))
 ·exact aet (x.above y c (adV h))
 ·have hi:i<vs.length:=by
   unfold start at h2
   grind
  have ha:vs[i]?=some v:=by
   unfold start at h2
   grind
  obtain⟨u,hu,rv⟩:_:=r.get ha;have hp:ps[i]?=some y:=by
   rw[<- S.pre,List.getElem?_take_of_lt 'O'];exact h1
  have QS:ps.Nodup:=by rw[<- S.pre];exact S.nd.sublist (aeb _ _)
  refine⟨u,rv,?_⟩;obtain k|k:=S.par y (ba hp)
  ·exact .inl ⟨k,Jz QS hp hu k⟩
  ·obtain⟨c,e⟩:=CG k;refine .inr ⟨.inl k,c,e,?_⟩;have q:=x.cell y c e;rw[JA QS hp hu (by show scope.names.lookup y≠_;rw[k];decide)]at q;exact q
 ·exact e0.aO.fresh (aet (x.above y c (adV h)))
 ·unfold start;show _=N.length
  simp_all
theorem abN {K:Frag}{kV:vn}(lk:K.lookup f=some ⟨oc,od,.func (fnOf name qual params body scope dV kV doc pm an aL ct),iY⟩)(jU:codeIn K aL qual=true)(S:aZ N ps scope)(len:∀vs H Q E,sp vs H Q E->vs.length=ps.length)(E9:∀(A:Around) (outer:List Env) (s:adJ) (H:Hp) (vs:List V) (Q:VK) (E:XK),dA k (A.deeper (envOfC qual scope s.heap.objs.size f aL))->sp vs H Q E ->
   ∃t,gw (lO CX P w K mg base N qual scope f aL A outer s H E) body t/\t {nx:=λ_ H'=>Q .aY H',rt:=Q} (start N vs) H):
  bQ P w K mg base CX (k+1) f (fnOf name qual params body scope dV kV doc pm an aL ct) ps sp:=by
 refine⟨len,λA outer s H args us vs Q E hr e0 hb r oK=>?_⟩;have hl:=len _ _ _ _ oK;have KX:=e0.mod.vX.keeps λb o e=>(e0.bs b o e).1
 have lim:=e0.mod.nolimit.keeps λb o e=>(e0.bs b o e).1
 have abO:∀y∈ps.zip us,scope.names.lookup y.1=some .local\/(scope.names.lookup y.1=some .cell/\((cellsFrom (s.heap.objs.size+1) scope.names []).lookup y.1).isSome=true):=λ⟨n,v⟩ hy=>by
  obtain q|q:=S.par n (afQ hy).1
  ·exact .inl q
  ·exact .inr ⟨q,PySem.W.cellsFrom_some _ _ _ (.inl q)⟩
 refine codeAny_call_function hr.depth (KX _ _ lk) rfl S.co S.gen rfl (PySem.W.codeRec_of KX jU) (hb _ _ _ _ ?_);refine wpAny_newFunctionEnv_cells S.kind abO λenv he s1 x=>?_
 subst he;refine⟨lim.keeps x.toInCall.keep,codeAny_func ?_⟩;obtain⟨t,ht,hq⟩:_:=E9 A outer s H vs Q E (hr.deeper _) oK;have I:Inv (lO CX P w K mg base N qual scope f aL A outer s H E) [] (start N vs) H s1:=WL S hr.hd e0 hl r x;refine ae6 (ht [] s1 (start N vs) H _ I hq) (λfl s' hs=>?_) λe s' hs=>hs
 have fin:∀{aD:St} {H':Hp} {v:V} {u:vn},Inv (lO CX P w K mg base N qual scope f aL A outer s H E) [] aD H' s'->RelV v u->Q v H'->CE outer P w H s Q u s':=
  λ{aD H' v u} J rv q=>⟨v,H',J.os,J.bare,J.base,J.aO,rv,q⟩
 cases fl with
 |ret u=>
  obtain⟨v,aD,H',J,rv,q⟩:_:=hs;exact fin J rv q
 |next=>
  obtain⟨aD,H',J,q⟩:=hs;exact fin (v:=V.aY) J rfl q
 |brk=>
  obtain⟨_,_,_,q⟩:=hs;exact False.elim q
 |cont=>
  obtain⟨_,_,_,q⟩:=hs;exact False.elim q
section
variable {p pos:Pos}{id:String}
def me (r:List V->Hp->VK->Prop)(t:TA):TE:=λσ H Q=>t σ H λvs H1=>r vs H1 Q
theorem uk (hc:fA X (.builtin id) r)(hg:Gl X x)(hm:X.mg x=none)(hv:bootBuiltins x=some (.builtin id))(ha:PA X (e::es) t)(hn:x ≠ "__name__":=by decide)(fc:(x==("__debug__":Str))=false:=by decide)(he:starEach (e::es) X.env=(false,eval e X.env)::starEach es X.env:=by rfl)(dv:(backTo pos (starEach es X.env)).any (·.1)=false:=by rfl):PE X (.Call (.Name x p) (e::es) [] pos) (me r t):=by
 intro pins s σ H Q I h;refine aew (mK I hg hm hv ?_ hn fc);exact PyProof.Rows.callWith_builtin1 (aJ (ha pos pins s σ H _ I h) λus s1 z9=>by obtain⟨vs,H1,I1,r1,q1⟩:_:=z9;exact hc pins s1 σ H1 vs us Q I1 r1 q1) he dv
theorem xY (hc:fA X (.type T) r)(hg:Gl X x)(hm:X.mg x=none)(hv:bootBuiltins x=some (.type T))(ha:PA X (e::es) t)(hn:x ≠ "__name__":=by decide)(fc:(x==("__debug__":Str))=false:=by decide)(he:starEach (e::es) X.env=(false,eval e X.env)::starEach es X.env:=by rfl)(dv:(backTo pos (starEach es X.env)).any (·.1)=false:=by rfl):PE X (.Call (.Name x p) (e::es) [] pos) (me r t):=by
 intro pins s σ H Q I h;refine aew (mK I hg hm hv ?_ hn fc);exact LH (aJ (ha pos pins s σ H _ I h) λus s1 ⟨vs,H1,I1,r1,q1⟩=>hc pins s1 σ H1 vs us Q I1 r1 q1) he dv
end
end L2
namespace HT
open PySem PyProof.Rows
section
def fU (n d:Nat):Option Int->Nat
 |none=>d
 |some v=>if v<0 then (v+(n:Int)).toNat else min v.toNat n
theorem YS (n d k:Nat):fU n d (some (k:Int))=min k n:=by
 rfl
end
end HT
namespace L2
open PySem PySem.Spec PyProof.Rows
abbrev TO:=St->Hp->(Option Int->Hp->Prop)->Prop
def PO (X:Cx)(e:Option Expr)(t:TO):Prop:=
 ∀(pins:List (adG×Obj)) (s:adJ) (σ:St) (H:Hp) (Q:Option Int->Hp->Prop),Inv X pins σ H s->t σ H Q ->
  wpAny (model X.prog X.w) X.A (evalPart e X.env) (λu s'=>∃o H',Inv X pins σ H' s'/\IsPart u o/\Q o H') X.xe s
def KU:TO:=λ_ H Q=>Q none H
def OV (t:TE):TO:=λσ H Q=>t σ H λx H1=>∃i,x=.int i/\Q (some i) H1
theorem intsAre_of:∀{us:List vn},Vals (ns.map V.int) us->IntsAre us ns:=by
 induction ns with
 |nil=>intro us r;cases r;exact .nil
 |cons n ns ih=>
  intro us r;cases r with
  |cons r1 r2=>
   obtain⟨t,e⟩:=r1;subst e;exact .cons n t (ih r2)
section
variable {lo:Option Expr}
theorem KW:PO X none KU:=by
 intro pins s σ H Q I h;exact wpAny_pure ⟨none,H,I,.none,h⟩
theorem KY (h:PE X e te):PO X (some e) (OV te):=by
 intro pins s σ H Q I hw;refine aJ (h pins s σ H _ I hw) λu s1 z9=>?_
 obtain⟨x,H1,I1,r1,q1⟩:=z9;obtain⟨i,rfl,q⟩:=q1;obtain⟨t,rfl⟩:=r1;exact⟨some i,H1,I1,.int i t,q⟩
def QT (X:Cx)(r:V->Option Int->Option Int->Hp->VK->Prop):Prop:=
 ∀(pins:List (adG×Obj)) (s:adJ) (σ:St) (H:Hp) (x:V) (v vl vu:vn) (lo hi:Option Int) (sl:adG) (Q:VK),Inv X pins σ H s->RelV x v->s.heap.IsSliceOf sl vl vu .none->IsPart vl lo->IsPart vu hi->r x lo hi H Q ->
  ∃T id,typeLookup (.type T) "__getitem__"=pure (some (.builtin id))/\s.TypeIs v T/\wpAny (model X.prog X.w) X.A (getItem v (.ref sl)) (EP X pins σ Q) X.xe s
def QU (r:V->Option Int->Option Int->Hp->VK->Prop)(te:TE)(tl th:TO):TE:=λσ H Q=>te σ H λx H1=>tl σ H1 λl H2=>th σ H2 λu H3=>r x l u H3 Q
theorem JY (hr:QT X r)(he:PE X e te)(hl:PO X lo tl)(hu:PO X hi th):PE X (.Subscript e (.Slice lo hi none p2) pos) (QU r te tl th):=by
 intro pins s σ H Q I h;refine Subscript_ (aJ (he pins s σ H _ I h) λv s1 z9=>?_);obtain⟨x,H1,I1,r1,q1⟩:=z9;refine wpAny_Slice (aJ (hl pins s1 σ H1 _ I1 q1) λvl s2 ⟨l,H2,I2,pl,q2⟩=>aJ (hu pins s2 σ H2 _ I2 q2) λvu s3 z9=>?_);obtain⟨u,H3,I3,pu,q3⟩:=z9;refine wpAny_pure ?_;have I4:Inv X pins σ H3 {s3 with heap:=s3.heap.push {cls:=.type "slice",data:=.fields #[vl,vu,.none]}}:=I3.kept (t':=s3.toks) λb ob q=>mf _ q
 obtain⟨T,id,hT,ht,hg⟩:_:=hr pins {s3 with heap:=s3.heap.push {cls:=.type "slice",data:=.fields #[vl,vu,.none]}} σ H3 x v vl vu l u s3.heap.objs.size Q I4 r1 (Heap.IsSliceOf.new ..) pl pu q3;exact tail_any ht hT hg (by with_unfolding_all rfl)
def sS (xs:List V)(lo hi:Option Int):List V:=(xs.drop (HT.fU xs.length 0 lo)).take (HT.fU xs.length xs.length hi-HT.fU xs.length 0 lo)
theorem Vx (xs:List V)(lo hi:Option Int):(sS xs lo hi).length<=xs.length:=by
 unfold sS;rw[LB,ael];lia
end
def fh (n:Nat)(i:Int):Option Nat:=if 0<=i then (if i<n then some i.toNat else none)else if -(n:Int)<=i then some (i+n).toNat else none
def aP {α:Type}(xs:List α)(i:Int):Option α:=(fh xs.length i).bind λj=>xs[j]?
theorem uA (h:fh n i=some j):seqIndex? i n=some j/\j<n /\ -(n:Int)<=i/\i<n:=by
 unfold fh at h;by_cases h0 : 0<=i
 ·rw[uu h0]at h;by_cases h1:i<n
  ·rw[uu h1]at h;have e:=GG h;exact⟨by rw[seqIndex_of h0 h1,e],'O','O',h1⟩
  ·simp_all
 ·rw[rf h0]at h;by_cases h1 : -(n)<=i
  ·rw[uu h1]at h;have e:=GG h;exact⟨by rw[seqIndex_neg 'O' h1,e],'O',h1,'O'⟩
  ·simp_all
theorem KZ {xs:List α}{v : α}(h:aP xs i=some v):∃j,seqIndex? i xs.length=some j/\xs[j]?=some v/\j<xs.length /\ -(xs.length:Int)<=i/\i<xs.length:=by
 unfold aP at h;cases e:fh xs.length i with
 |none=>rw[e]at h;cases h
 |some j=>
  obtain⟨h1,h2,h3,h4⟩:=uA e
  simp_all
theorem dh {xs:List α}{j:Nat}{v : α}(h:xs[j]?=some v):aP xs (j:Int)=some v:=by
 have hj:=(gr.mp h).1;have e:fh xs.length (j)=some j:=by
  unfold fh
  simp_all
 unfold aP;rw[e];exact h
def yw (b:Expr):Prop:=∀o i,subscripted b false o i=operate [o,i] (getItem o i)
def wk (X:Cx)(r:R2):Prop:=
 ∀(value slice:Expr) (pins:List (adG×Obj)) (s:adJ) (σ:St) (H:Hp) (x y:V) (v u:vn) (Q:VK),Inv X pins σ H s->RelV x v->RelV y u->r x y H Q ->
  subscripted slice false v u=operate [v,u] (getItem v u)->wpAny (model X.prog X.w) X.A (subscriptTail value slice v u) (EP X pins σ Q) X.xe s
def QV (X:Cx)(id:String)(r:V->List V->Hp->VK->Prop):Prop:=
 ∀(pins:List (adG×Obj)) (s:adJ) (σ:St) (H:Hp) (x:V) (xs:List V) (v:vn) (us:List vn) (Q:VK),Inv X pins σ H s->RelV x v->Vals xs us->r x xs H Q ->
  wpAny (model X.prog X.w) X.A (call (.builtin id) (v::us)) (EP X pins σ Q) X.xe s
section
theorem lF (hr:wk X r)(ha:PE X a ta)(hb:PE X b tb)(hs:yw b):PE X (.Subscript a b pos) (jv r ta tb):=by
 intro pins s σ H Q I h;exact Subscript_ (FW ha hb I h λv u s2 x y H2 I2 rx ry q=>hr a b pins s2 σ H2 x y v u Q I2 rx ry q (hs _ _))
def zR (K:Frag):R2:=λx y H Q=>∃p xs i v,x=.ref p/\y=.int i/\aK K H p xs/\aP xs i=some v/\Q v H
def F0 (K:Frag):R2:=λx y H Q=>∃p xs i v,x=.ref p/\y=.int i/\cO K H p xs/\aP xs i=some v/\Q v H
theorem nR:wk X (zR X.K):=by
 intro value slice pins s σ H x y v u Q I rx ry h hs;obtain⟨p,xs,i,z,rfl,rfl,hq,he,q⟩:_:=h;cases rx;obtain⟨t,rfl⟩:=ry;obtain⟨its,r,pl,hz⟩:_:=I.list hq;obtain⟨j,h1,h2,h3,h4,h5⟩:_:=KZ he;obtain⟨w,ew,qz⟩:_:=r.get h2;have hl:=r.length;have hn:=yP;have fin:EP X pins σ Q w s:=⟨z,H,I,qz,q⟩
 by_cases h0 : 0<=i
 ·have hj:i.toNat=j:=by
   rw[seqIndex_of h0 h5]at h1
   simp_all
  exact item_listR pl.isList h0 'O' 'J' fin hs
 ·have hj:(i+(its.toArray.size)).toNat=j:=by
   rw[seqIndex_neg 'O' h4]at h1
   simp_all
  exact subscriptTail_builtinR pl.isList.typeIs slot_list_getitem.lookup
   (wpAny_getItem_list_neg pl.isList 'O' 'J' 'O' 'J' ⟨rfl,fin⟩) hs
theorem aaJ:wk X (F0 X.K):=by
 intro value slice pins s σ H x y v u Q I rx ry h hs;obtain⟨p,xs,i,z,rfl,rfl,hq,he,q⟩:_:=h;cases rx;obtain⟨t,rfl⟩:=ry;obtain⟨its,r,pl,hz⟩:_:=I.tuple hq;obtain⟨j,h1,h2,h3,h4,h5⟩:_:=KZ he;obtain⟨w,ew,qz⟩:_:=r.get h2;have hl:=r.length;have hn:=yP;have fin:EP X pins σ Q w s:=⟨z,H,I,qz,q⟩
 exact subscriptTail_builtinR pl.typeIs slot_tuple_getitem.lookup
  (getItem_tuple (j:=j) pl 'O' 'O' 'J' 'J' ⟨rfl,fin⟩) hs
theorem VZ (its:List vn)(n j:Nat)(u:vn):Obj.mapSeq (·.setIfInBounds j u) {cls:=.type "list",data:=.seq its.toArray n}={cls:=.type "list",data:=.seq (its.set j u).toArray n}:=by
 simp[Obj.mapSeq]
theorem Inv.lst {pins:List (adG×Obj)}{σ:St}{H:Hp}{s:adJ}{p:adG}{xs:List V}(I:Inv X pins σ H s)(h:H p=some (.lst xs)):
  ∃(its:List vn) (n:Nat),Vals xs its/\s.heap.get? p=some {cls:=.type "list",data:=.seq its.toArray n}/\xs.length<=sizeLine:=by
 obtain⟨z,its,n,r,e⟩:_:=I.aO p _ h;exact⟨its,n,r,e,z⟩
theorem Inv.aaK {σ:St}{its:List vn}(I:Inv X pins σ H s)(h:H p=some (.lst xs))(ho:s.heap.get? p=some {cls:=.type "list",data:=.seq its.toArray n})(hf:f {cls:=.type "list",data:=.seq its.toArray n}={cls:=.type "list",data:=.seq its'.toArray n'})(r:Vals ys its')(hz:ys.length<=sizeLine)(t:Nat):
  Inv X pins σ (upd H p (.lst ys)) {s with heap:=s.heap.update p f,toks:=t}:=by
 have e:(s.heap.update p f).get? p=some {cls:=.type "list",data:=.seq its'.toArray n'}:=by
  rw[Nd f ho (by rw[hf]<;>rfl),hf]
 refine I.write (by rw[h];trivial) (.inl rfl) (λb u hb q=>(OF _ _ (adU hb)).trans q) ⟨_,e⟩ ?_;exact⟨hz,its',n',r,e⟩
def Fb:V->V->V->Hp->(Hp->Prop)->Prop:=λo i v H Q=>∃p xs k j,o=.ref p/\i=.int k/\H p=some (.lst xs)/\fh xs.length k=some j/\Q (upd H p (.lst (xs.set j v)))
theorem set_list:PX X Fb:=by
 intro pins s σ H o i v ov iv u Q I ro ri rv h;obtain⟨p,xs,k,j,rfl,rfl,hp,hj,q⟩:_:=h;cases ro;obtain⟨t,rfl⟩:=ri;obtain⟨its,n,r,ho,hz⟩:_:=I.lst hp;obtain⟨h1,h2,h3,h4⟩:_:=uA hj;have hl:=r.length;have hn:=yP;have I':=
  I.aaK hp ho (VZ its n j u) (r.set rv j) 'J' s.toks
 by_cases h0 : 0<=k
 ·have hk:k.toNat=j:=by
   rw[seqIndex_of h0 h4]at h1
   simp_all
  exact PySem.W.ki_setAt ho h0 'O' 'J' (by grind)
 ·have hk:(k+(its.toArray.size)).toNat=j:=by
   rw[seqIndex_neg 'O' h3]at h1
   simp_all
  exact PySem.W.ki_setBack ho 'O' 'J' 'O' (by grind)
theorem U9 (lo hi:Option Int)(n:Nat):(sliceBounds lo hi none n).1=((HT.fU n 0 lo:Nat):Int)/\(sliceBounds lo hi none n).2.1=((HT.fU n n hi:Nat):Int)/\(sliceBounds lo hi none n).2.2=1:=by
 refine⟨?_,?_,rfl⟩
 ·cases lo with
  |none=>simp[sliceBounds,HT.fU]
  |some i=>
   simp only[sliceBounds,HT.fU,Option.getD_none]
   grind
 ·cases hi with
  |none=>simp[sliceBounds,HT.fU]
  |some i=>
   simp[sliceBounds,HT.fU]
   grind
theorem UD (its:List vn)(lo hi:Option Int):slicePick its.toArray lo hi none=((its.drop (HT.fU its.length 0 lo)).take (HT.fU its.length its.length hi-HT.fU its.length 0 lo)).toArray:=by
 obtain⟨h1,h2,h3⟩:_:=U9 lo hi its.toArray.size;unfold slicePick;rw[h1,h2,h3];simp only[sliceRange_one,pick_run]<;>rfl
def P7 (K:Frag):V->Option Int->Option Int->Hp->VK->Prop:=λx lo hi H Q=>∃a xs,x=.ref a/\aK K H a xs/\∀p,H p=none->Q (.ref p) (upd H p (.lst (sS xs lo hi)))
theorem K0:QT X (P7 X.K):=by
 intro pins s σ H x v vl vu lo hi sl Q I rx hs pl pu h;obtain⟨a,xs,rfl,hx,q⟩:_:=h;cases rx;obtain⟨its,r,ht,hz⟩:_:=I.list hx;have hlen:=r.length;refine⟨"list",_,slot_list_getitem.lookup,ht.isList.typeIs,?_⟩;refine wpAny_getItem_list_slice ht.isList hs pl pu .none 'Y' ?_ 'J';rw[UD,<- hlen];refine⟨.ref s.heap.objs.size,_,I.laid (t':=s.toks) (λb ob q=>mf _ q) (br _) ?_,rfl,q _ (I.aO.fresh (br _))⟩;exact⟨Cn (Vx xs lo hi) hz,_,0,(r.drop (HT.fU xs.length 0 lo)).take (HT.fU xs.length xs.length hi-HT.fU xs.length 0 lo),BN _ rfl⟩
def iP:V->Bool
 | .aY=>true
 | .bl _=>true
 | .int _=>true
 | .str _=>true
 |_=>false
def jV:V->V->Bool
 | .aY,.aY=>true
 | .bl a,.bl b=>a==b
 | .bl a,.int b=>(if a then 1 else 0)==b
 | .int a,.bl b=>a==(if b then 1 else 0)
 | .int a,.int b=>a==b
 | .str a,.str b=>a==b
 |_,_=>false
theorem ML (ry:RelV y u)(rx:RelV x v)(fy:iP y=true)(fx:iP x=true):SeqAt.EqAt A s u v (jV y x):=by
 cases y with
 |aY=>
  cases ry
  cases x with
  |aY=>cases rx;exact SeqAt.EqAt.same _
  |bl b=>cases rx;exact SeqAt.EqAt.none_bool b
  |int b=>obtain⟨t,rfl⟩:=rx;exact SeqAt.EqAt.none_int b t
  |str b=>obtain⟨t,rfl⟩:=rx;exact SeqAt.EqAt.none_str b t
  |_=>exact absurd (show false=true from fx) AM
 |bl a=>
  cases ry
  cases x with
  |aY=>cases rx;exact SeqAt.EqAt.bool_none a
  |bl b=>cases rx;exact SeqAt.EqAt.bool_bool a b
  |int b=>obtain⟨t,rfl⟩:=rx;exact SeqAt.EqAt.bool_int a b t
  |str b=>obtain⟨t,rfl⟩:=rx;exact SeqAt.EqAt.bool_str a b t
  |_=>exact absurd (show false=true from fx) AM
 |int a=>
  obtain⟨t',rfl⟩:=ry;cases x with
  |aY=>cases rx;exact SeqAt.EqAt.int_none a t'
  |bl b=>cases rx;exact SeqAt.EqAt.int_bool a t' b
  |int b=>obtain⟨t,rfl⟩:=rx;exact SeqAt.EqAt.int_int a t' b t
  |str b=>obtain⟨t,rfl⟩:=rx;exact SeqAt.EqAt.int_str a t' b t
  |_=>exact absurd (show false=true from fx) AM
 |str a=>
  obtain⟨t',rfl⟩:=ry;cases x with
  |aY=>cases rx;exact SeqAt.EqAt.str_none a t'
  |bl b=>cases rx;exact SeqAt.EqAt.str_bool a t' b
  |int b=>obtain⟨t,rfl⟩:=rx;exact SeqAt.EqAt.str_int a t' b t
  |str b=>obtain⟨t,rfl⟩:=rx;exact SeqAt.EqAt.str_str a t' b t
  |_=>exact absurd (fx) AM
 |_=>exact absurd (fy) AM
def iz (x:V)(u:vn):Bool:=match u with
 | .none=>jV .aY x
 | .bool b=>jV (.bl b) x
 | .int i _=>jV (.int i) x
 | .str z _=>jV (.str z) x
 |_=>false
theorem MM (r:RelV y u)(f:iP y=true):iz x u=jV y x:=by
 cases y with
 |aY=>cases r;rfl
 |bl b=>cases r;rfl
 |int i=>obtain⟨t,rfl⟩:=r;rfl
 |str z=>obtain⟨t,rfl⟩:=r;rfl
 |_=>exact absurd (f) AM
theorem uB:∀{xs:List V} {us:List vn},Vals xs us->xs.all iP=true->us.any (iz x)=xs.any λy=>jV y x
 |_,_,.nil=>λ_=>rfl
 |y::xs,u::us,.cons r t=>λf=>by
  rw[afG,ID]at f;rw[List.any_cons,List.any_cons,MM r f.1,uB t f.2]
theorem um (rx:RelV x v)(fx:iP x=true):∀{xs:List V} {us:List vn},Vals xs us->xs.all iP=true->∀u∈us,SeqAt.EqAt A s u v (iz x u)
 |_,_,.nil,_=>λu hu=>by cases hu
 |y::xs,u::us,.cons r t,f=>λu' hu=>by
  rw[afG,ID]at f;obtain rfl|hu:=ff.mp hu
  ·rw[MM r f.1];exact ML r rx f.1 fx
  ·exact um rx fx t f.2 u' hu
def Am (x:V)(xs:List V):Bool:=xs.any λy=>jV y x
def GO (K:Frag)(neg:Bool):R2:=λx y H Q=>∃p xs,y=.ref p/\(aK K H p xs\/cO K H p xs)/\iP x=true/\xs.all iP=true/\Q (.bl (if neg then !Am x xs else Am x xs)) H
theorem WM:cS X (compareOp .In) (GO X.K false):=by
 intro pins s σ H x y v u Q I rx ry h;obtain⟨p,xs,rfl,hq,fx,fs,q⟩:_:=h;cases ry;obtain hq|hq:=hq
 ·obtain⟨its,r,pl,hz⟩:=I.list hq;refine SeqAt.in_listAt (iz x) pl.isList (λw hw=>um rx fx r fs w 'J') ⟨.bl _,H,I,rfl,?_⟩;rw[show its.toArray.any (iz x)=its.any (iz x) by simp,uB r fs];exact q
 ·obtain⟨its,r,pl,hz⟩:=I.tuple hq;refine SeqAt.in_tupleAt (iz x) pl (λw hw=>um rx fx r fs w 'J') ⟨.bl _,H,I,rfl,?_⟩;rw[show its.toArray.any (iz x)=its.any (iz x) by simp,uB r fs];exact q
theorem Va:cS X (compareOp .NotIn) (GO X.K true):=by
 intro pins s σ H x y v u Q I rx ry h;obtain⟨p,xs,rfl,hq,fx,fs,q⟩:_:=h;cases ry;obtain hq|hq:=hq
 ·obtain⟨its,r,pl,hz⟩:=I.list hq;refine SeqAt.notIn_listAt (iz x) pl.isList (λw hw=>um rx fx r fs w 'J') ⟨.bl _,H,I,rfl,?_⟩;rw[show its.toArray.any (iz x)=its.any (iz x) by simp,uB r fs];exact q
 ·obtain⟨its,r,pl,hz⟩:=I.tuple hq;refine SeqAt.notIn_tupleAt (iz x) pl (λw hw=>um rx fx r fs w 'J') ⟨.bl _,H,I,rfl,?_⟩;rw[show its.toArray.any (iz x)=its.any (iz x) by simp,uB r fs];exact q
theorem Vb:fA X (.builtin "len") (λxs H Q=>∃p ys,xs=[.ref p]/\(aK X.K H p ys\/cO X.K H p ys)/\Q (.int ys.length) H):=by
 intro pins s σ H xs us Q I r h;obtain⟨p,ys,rfl,hq,q⟩:_:=h;obtain⟨u,rfl,rx⟩:=vals1 r;cases rx;have hn:=yP;obtain hq|hq:=hq
 ·obtain⟨its,r',pl,hz⟩:=I.list hq;have hlen:=r'.length;exact Calls.call_len_list pl.isList (by grind) ⟨.int ys.length,H,I.tok _,⟨s.toks+1,'J'⟩,q⟩
 ·obtain⟨its,r',pl,hz⟩:=I.tuple hq;have hlen:=r'.length;exact len_tuple pl (by grind) ⟨.int ys.length,H,I.tok _,⟨s.toks+1,'J'⟩,q⟩
theorem Vc:fA X (.type "list") (λxs H Q=>∃p ys,xs=[.ref p]/\(aK X.K H p ys\/cO X.K H p ys)/\∀l,H l=none->Q (.ref l) (upd H l (.lst ys))):=by
 intro pins s σ H xs us Q I r h;obtain⟨p,ys,rfl,hq,q⟩:_:=h;obtain⟨u,rfl,rx⟩:=vals1 r;cases rx;have fin:∀(its),Vals ys its->ys.length<=sizeLine->∀(h') (c'),(∀b o',s.heap.get? b=some o'->h'.get? b=some o') ->
   h'.get? s.heap.objs.size=some {cls:=.type "list",dict:=none,data:=.seq its.toArray c',slots:=#[]}->EP X pins σ Q (.ref s.heap.objs.size) {s with heap:=h'}:=λits r' hz h' c' kp e=>
  ⟨.ref s.heap.objs.size,_,I.laid (t':=s.toks) kp (br _) (show ie X.prog X.w _ h' _ (.lst ys)from⟨hz,its,c',r',e⟩),rfl,q _ (I.aO.fresh (br _))⟩
 obtain hq|hq:=hq
 ·obtain⟨its,r',pl,hz⟩:=I.list hq;have hlen:=r'.length;obtain⟨o,ho,hc,n,hd⟩:=pl.isList;exact call_list_seq p (.inl rfl) ho hc hd (λh' c' kp e=>fin its r' hz h' c' kp e) 'J'
 ·obtain⟨its,r',pl,hz⟩:=I.tuple hq;have hlen:=r'.length;obtain⟨o,ho,hc,n,hd⟩:=pl;exact call_list_seq p (.inr rfl) ho hc hd (λh' c' kp e=>fin its r' hz h' c' kp e) 'J'
def QW (K:Frag)(T:String)(x:V)(H:Hp):Prop:=match x with
 | .str _=>T="str"
 | .int _=>T="int"
 | .ref p=>(T="list"/\∃xs,aK K H p xs)\/(T="tuple"/\∃o,K.lookup p=some o/\o.cls=.type "tuple"/\o.dict=none) \/
   (T="dict"/\((∃eu,H p=some (.dK eu))\/∃eu,H p=some (.dT eu)))\/(T="set"/\∃S n,H p=some (.set S n))
 |_=>False
theorem aaL {σ:St}(I:Inv X pins σ H s)(r:RelV x v)(ty:QW X.K T x H):
  s.TypeIs v T/\∀a,v=.ref a->∃ob,s.heap.get? a=some ob/\ob.dict=none:=by
 cases x with
 |str z=>
  obtain⟨t,rfl⟩:=r;cases (ty);exact⟨typeIs_str s z t,λ_ e=>nomatch e⟩
 |int i=>
  obtain⟨t,rfl⟩:=r;cases (ty);exact⟨typeIs_int s i t,λ_ e=>nomatch e⟩
 |ref p=>
  cases r
  obtain⟨rfl,xs,hq⟩|⟨rfl,o,hk,hc,hd⟩|⟨rfl,hk⟩|⟨rfl,S,n,hk⟩:=ty
  ·obtain⟨its,_,pl,_⟩:=I.list hq;refine⟨pl.isList.typeIs,λa e=>?_⟩;cases e;obtain⟨o,n,e,c,hd,_⟩:=pl;exact⟨o,e,hd⟩
  ·refine⟨⟨o,I.dB p o hk,hc⟩,λa e=>?_⟩;cases e;exact⟨o,I.dB _ o hk,hd⟩
  ·have z:∃o,s.heap.get? p=some o/\o.ExactDict:=by
    obtain⟨eu,hk⟩|⟨eu,hk⟩:_:=hk
    ·obtain⟨_,_,_,_,o,_,_,e,ex,_⟩:=I.aO p _ hk;exact⟨o,e,ex⟩
    ·obtain⟨_,_,_,_,o,_,_,e,ex,_⟩:=I.aO p _ hk;exact⟨o,e,ex⟩
   obtain⟨o,e,ex⟩:=z;refine⟨⟨o,e,ex.1⟩,λa e2=>?_⟩;cases e2;exact⟨o,e,ex.2.1⟩
  ·obtain⟨o,_,_,_,e,ex,_⟩:_:=I.aO p _ hk;refine⟨⟨o,e,ex.1⟩,λa e2=>?_⟩;cases e2;exact⟨o,e,ex.2.1⟩
 |_=>exact False.elim ty
def ni (K:Frag)(T:String)(r:V->List V->Hp->VK->Prop)(to:TE)(t:TA):TE:=λσ H Q=>to σ H λx H1=>QW K T x H1/\t σ H1 λxs H2=>r x xs H2 Q
variable {apos sU:Pos}{id:String}
theorem kr (pa:PlainAttrs T)(slot:Slot T name id)(GP:typeOf (.builtin id)=pure (.type "method_descriptor"))(hm:QV X id r)(ho:PE X o to)(ha:PA X (e::es) t)(jf:attributeBase o name X.env (eval o X.env)=eval o X.env:=by rfl)(jn:((backTo sU (starEach (e::es) X.env)).all (λx=>!x.1)&&(backToKw sU (keywordEach [] X.env)).all (λx=>x.1.isSome)
   && decide ((e::es).length+([]:List Keyword).length+(if([]:List Keyword).isEmpty then 0 else 1)<30))=true:=by rfl)(hline:(apos.endLine==sU.line)=true:=by rfl)(hs:starEach (e::es) X.env=(false,eval e X.env)::starEach es X.env:=by rfl)(MN:(backTo sU (starEach es X.env)).any (·.1)=false:=by rfl):
  PE X (.Call (.Attribute o name apos) (e::es) [] sU) (ni X.K T r to t):=by
 intro pins s σ H Q I h;refine wpAny_Call_method_late jf jn hline rfl (aJ (ho pins s σ H _ I h) λv s1 z9=>?_);obtain⟨x,H1,I1,r1,ty,q1⟩:=z9;obtain⟨h1,h2⟩:=aaL I1 r1 ty;refine⟨T,id,pa,slot,GP,h1,h2,?_⟩;have hA:=ha sU pins s1 σ H1 _ I1 q1;rw[hs]at hA ⊢;refine Calls.callWith_builtin (by assumption) (Calls.evalArgs_plain ?_);exact aJ hA λus s2 z9=>by obtain⟨vs,H2,I2,r2,q2⟩:_:=z9;exact hm pins s2 σ H2 x vs v us Q I2 r1 r2 q2
end
def An (X:Cx)(id:String)(r:V->List V->Hp->VK->Prop):Prop:=
 ∀(pins:List (adG×Obj)) (s:adJ) (σ:St) (H:Hp) (x:V) (xs:List V) (v:vn) (us:List vn) (Q:VK),Inv X pins σ H s->RelV x v->Vals xs us->r x xs H Q ->
  wpAny (model X.prog X.w) X.A (call (.builtin id) (v::us)) (EP X pins σ Q) X.xe s
theorem Vals.one {x:V}{us:List vn}(h:Vals [x] us):∃u,us=[u]/\RelV x u:=by
 cases h with|cons r h=>cases h;exact⟨_,rfl,r⟩
theorem Vals.two {x y:V}{us:List vn}(h:Vals [x,y] us):∃u v,us=[u,v]/\RelV x u/\RelV y v:=by
 cases h with|cons r h=>cases h with|cons q h=>cases h;exact⟨_,_,rfl,r,q⟩
theorem Vals.eraseIdx:∀{xs:List V} {us:List vn} (i:Nat),Vals xs us->Vals (xs.eraseIdx i) (us.eraseIdx i)
 |_,_,_,.nil=>.nil
 |_,_,0,.cons _ t=>t
 |_,_,i+1,.cons r t=>.cons r (Vals.eraseIdx i t)
theorem Vals.rep (h:Vals xs us):∀k,Vals (List.replicate k xs).flatten (List.replicate k us).flatten
 |0=>.nil
 |k+1=>Vals.append h (Vals.rep h k)
theorem JB {α:Type}:∀(l:List α) i,(l.eraseIdx i).length<=l.length
 |[],_=>br _
 |_::_,0=>aeq _
 |_::r,i+1=>aeT (JB r i)
theorem foldl_rep (its:List vn):∀k acc,
  List.foldl (λx1 x2=>x1++x2) acc.toArray (List.replicate k its.toArray)=(acc++(List.replicate k its).flatten).toArray
 |0=>λacc=>'Y'
 |k+1=>λacc=>by
  have e:acc.toArray++its.toArray=(acc++its).toArray:='Y'
  have e2:(acc++its)++(List.replicate k its).flatten=acc++(List.replicate (k+1) its).flatten:=by
   grind
  rw[<- e2,<- foldl_rep its k (acc++its),<- e,List.replicate_succ,aex]
section
variable {σ:St}
theorem Inv.F5 {its:List vn}(I:Inv X pins σ H s)(hH:H l=some (.lst xs))(e:s.heap.get? l=some {cls:=.type "list",data:=.seq its.toArray n})(hf:f its.toArray=its'.toArray)(hv:Vals ys its')(hz:ys.length<=sizeLine):
  Inv X pins σ (upd H l (.lst ys)) {s with heap:=s.heap.update l (Obj.mapSeq f),toks:=t'}:=by
 have q:=PySem.IsL.update e f;rw[hf]at q;refine I.write (by rw[hH];exact trivial) (.inl rfl) (λb' u hb hu=>(OF s.heap (Obj.mapSeq f) (adU hb)).trans hu) ⟨_,q⟩ ?_;exact⟨hz,its',_,hv,q⟩
theorem Inv.zS (I:Inv X pins σ H s)(hv:Vals ys its)(hz:ys.length<=sizeLine):
  Inv X pins σ (upd H s.heap.objs.size (.lst ys)) {s with heap:=s.heap.push {cls:=.type "list",data:=.seq its.toArray},toks:=t'}:=
 I.laid (λ_ _ q=>mf _ q) (br _) ⟨hz,its,0,hv,BN _ rfl⟩
theorem Inv.fresh (I:Inv X pins σ H s):H s.heap.objs.size=none:=I.aO.fresh (br _)
theorem Inv.vL (I:Inv X pins σ H s)(hH:H l=some (.lst xs)):xs.length<=sizeLine/\∃(its:List vn) (n:Nat),Vals xs its/\xs.length=its.length/\s.heap.get? l=some {cls:=.type "list",data:=.seq its.toArray n}:=by
 obtain⟨z,its,n,r,e⟩:_:=I.aO l _ hH;exact⟨z,its,n,r,r.length,e⟩
theorem JZ (h:n<=sizeLine):Builtin.List.listTooLong n=false:=by
 unfold Builtin.List.listTooLong
 simp_all
end
section
def yx:V->List V->Hp->VK->Prop:=λx vs H Q=>∃l xs y,x=.ref l/\vs=[y]/\H l=some (.lst xs)/\xs.length<sizeLine/\Q .aY (upd H l (.lst (xs++[y])))
theorem nL:An X "list.append" yx:=by
 intro pins s σ H x vs v us Q I rx rv h;obtain⟨l,xs,y,rfl,rfl,hH,hz,q⟩:_:=h;cases rx;obtain⟨u,rfl,ru⟩:=rv.one;obtain⟨z,its,n,r,hl,e⟩:_:=I.vL hH;refine ae7 F.slot_list_append ⟨_,e,rfl⟩ F.entry_list_append (F.args_list_append_2 _ _) (PySem.list_append l its.toArray n u 'J') ⟨e,?_⟩;refine⟨.aY,_,I.F5 (its':=its++[u]) hH e 'Y' (r.append (.cons ru .nil)) ?_,rfl,q⟩
 grind
def C9:V->List V->Hp->VK->Prop:=λx vs H Q=>∃l b xs zs,x=.ref l/\vs=[.ref b]/\H l=some (.lst xs)/\H b=some (.lst zs)/\xs.length+zs.length<=sizeLine/\Q .aY (upd H l (.lst (xs++zs)))
theorem JC:An X "list.extend" C9:=by
 intro pins s σ H x vs v us Q I rx rv h;obtain⟨l,b,xs,zs,rfl,rfl,hH,hB,hz,q⟩:_:=h;cases rx;obtain⟨u,rfl,ru⟩:=rv.one;cases ru;obtain⟨z,its,n,r,hl,e⟩:_:=I.vL hH;obtain⟨z2,ig,n2,r2,oM,e2⟩:_:=I.vL hB;have cT:its.toArray.size+ig.toArray.size<=sizeLine:='J'
 have Fc:¬(!its.toArray.isEmpty&&Builtin.List.listTooLong (its.toArray.size+ig.toArray.size))=true:=by
  rw[JZ cT,aeN]
  simp_all
 refine ae7 F.slot_list_extend ⟨_,e,rfl⟩ F.entry_list_extend (F.args_list_extend_2 _ _)
  (AutoSeq1.list_extend_list_list_0 l its.toArray n b ig.toArray n2 Fc 'O' 'O') ⟨e,e2,?_⟩
 refine⟨.aY,_,I.F5 (its':=its++ig) hH e 'Y' (r.append r2) ?_,rfl,q⟩
 simp_all
def DU:V->List V->Hp->VK->Prop:=λx vs H Q=>∃l xs i k y,x=.ref l/\vs=[.int i]/\H l=some (.lst xs) /\ -(2^63)<=i/\i<2^63/\seqIndex? i xs.length=some k/\xs[k]?=some y/\Q y (upd H l (.lst (xs.eraseIdx k)))
theorem J0:An X "list.pop" DU:=by
 intro pins s σ H x vs v us Q I rx rv h;obtain⟨l,xs,i,k,y,rfl,rfl,hH,h1,h2,hk,hy,q⟩:_:=h;cases rx;obtain⟨u,rfl,ru⟩:=rv.one;obtain⟨t,rfl⟩:=ru;obtain⟨z,its,n,r,hl,e⟩:_:=I.vL hH;obtain⟨w,hw,qz⟩:_:=r.get hy;refine ae7 F.slot_list_pop ⟨_,e,rfl⟩ F.entry_list_pop (F.args_list_pop_2 _ _)
  (MeetsSeq.list_pop_at l its.toArray n i t k w (fitsIndex_both h1 h2) (by rw[Co,<- hl];exact hk) (by rw[<- DD];exact hw) (by rw[Co];lia)) ⟨e,?_⟩
 refine⟨y,_,I.F5 (its':=its.eraseIdx k) hH e ?_ (r.eraseIdx k) ?_,qz,q⟩
 ·show its.toArray.eraseIdxIfInBounds k=(its.eraseIdx k).toArray;rw[List.eraseIdxIfInBounds_toArray]
 ·have:=JB xs k;lia
def P8:R2:=λx y H Q=>∃l k xs,x=.ref l/\y=.int k/\H l=some (.lst xs) /\ -(2^63)<=k/\k<2^63/\xs.length*k.toNat<=sizeLine /\
 ∀p,H p=none->Q (.ref p) (upd H p (.lst (List.replicate k.toNat xs).flatten))
theorem len_rep {α:Type}(xs:List α)(k:Nat):(List.replicate k xs).flatten.length=k*xs.length:=by
 simp_all
theorem aaM:cS X (binaryOp .Mult) P8:=by
 intro pins s σ H x y v u Q I rx ry h;obtain⟨l,k,xs,rfl,rfl,hH,h1,h2,hz,q⟩:_:=h;cases rx;obtain⟨t,rfl⟩:=ry;obtain⟨z,its,n,r,hl,e⟩:_:=I.vL hH;have hlen:its.toArray.size*k.toNat<=sizeLine:='J'
 have acx:¬its.toArray.size*k.toNat>(2^63-1)/8:=by
  have:(sizeLine)<=(2^63-1)/8:='Q'
  lia
 have F6:¬(!Builtin.List.listFitsIndex k)=true:=by
  rw[fitsIndex_both h1 h2]
  simp_all
 have Fc:¬Builtin.List.listTooLong (its.toArray.size*k.toNat)=true:=by
  rw[JZ hlen]
  simp_all
 have acy:List.foldl (λx1 x2=>x1++x2) #[] (List.replicate (if its.toArray.isEmpty=true then 0 else k.toNat) its.toArray)=(List.replicate k.toNat its).flatten.toArray:=by
  have f0:∀m,List.foldl (λx1 x2=>x1++x2) #[] (List.replicate m its.toArray)=(List.replicate m its).flatten.toArray:=λm=>by
   have:=foldl_rep its m []
   assumption
  rw[f0];cases its with
  |nil=>simp
  |cons a r'=>rw[rf 'Y']
 refine wpAny_binaryOp_repeat_ref 'Q' ⟨_,e,rfl⟩ (λs'=>typeIs_int s' k t) noFill_list_mul F.fills_int_mul F.slot_int_rmul repeat_list F.slot_int_index.lookup
  (ae7 F.slot_int_rmul (typeIs_int s k t) F.entry_int_rmul (F.args_int_rmul_2 _ _) (int___rmul___int_list k t l its.toArray n)
   ⟨e,rfl,⟨_,e,rfl⟩,ae7 F.slot_list_mul ⟨_,e,rfl⟩ F.entry_list_mul (F.args_list_mul_2 _ _) (AutoListH.list___mul___list_int_3 l its.toArray n k t F6 acx Fc) ⟨e,?_⟩⟩)
 rw[acy];exact⟨.ref _,_,I.zS (t':=s.toks) (r.rep k.toNat) (by rw[len_rep,Nat.mul_comm];exact hz),rfl,q _ I.fresh⟩
end
end L2
namespace QX
open PySem PySem.W PySem.Calls PyProof.Rows
theorem T8:∀ns vs,WellAll P h vs (ns.map WData.int)->IntsAre vs ns:=by
 intro ns
 induction ns with
 |nil=>
  intro vs w;cases w;exact .nil
 |cons n ns ih=>
  intro vs w;cases w with
  |cons a b=>
   cases a
   exact .cons _ _ (ih _ b)
theorem WN {l:OpenLaw}(hn:l.most=some n)(zT:l.row.toRowW.claim.pre args=true)(GQ:WellAll P h vals args):
  ∃a vs ns,vals=[Value.ref a]/\args=[WData.list (ns.map WData.int)]/\h.get? a=some {cls:=.type "list",data:=.seq vs.toArray}/\IntsAre vs ns/\ns.length<=n:=by
 have hsh:=(pre_splitW zT).1;have hc:l.pre.holds [] {args:=args}=true:=(pre_splitW zT).2;obtain⟨d,r,rfl,h1,h2⟩:_:=hasAllW_cons hsh;obtain rfl:=hasAllW_nil h2;obtain⟨xs,rfl,h3⟩:=hasW_list h1;obtain⟨ns,rfl⟩:=items_int h3;have hlen:ns.length<=n:=by
  have h4:(WTm.not (.lt (.lit (.int (n))) (.len (.arg 0)))).holds [] {args:=[.list (ns.map .int)]}=true:=by
   have h4:=(holds_andW hc).1
   simp_all
  have h5:=condW_of h4 (w_not (w_lt w_lit (w_len_list (w_arg rfl))))
  simp_all
 cases GQ with
 |cons w1 w2=>
  cases w2
  cases w1 with
  |list ho fQ=>exact⟨_,_,ns,rfl,rfl,ho,T8 ns _ fQ,hlen⟩
theorem WO (l:OpenLaw)(args:List WData):l.row.toRowW.claim.post args (.bool true) args=true:=
 postW_of
  (show WShape.has [] (.bool true) .bool=true by first|rfl|decide|simp[WShape.has])
  (w_eq_bool (w_res rfl) w_lit) rfl
theorem Vy {l:OpenLaw}(hn:l.most=some n)(wm:d.params.defaults=[])(call:∀w dY bA mg mb fa o pm cd doc a vs ns,
   Ground q loose [] XP w dY mg mb bA.heap->YP w bA.heap ->
   bA.heap.get? fa=some o->o.data=.func (docDef d.name d.params d.body d.scope pm cd doc)->bA.heap.CodeRec cd d.name->mg d.name=some (.ref fa) ->
   bA.heap.get? a=some {cls:=.type "list",data:=.seq vs.toArray}->IntsAre vs ns->ns.length<=n->bA.gens=#[] ->
   codeAny (model l.prog w) callerA (.call (.ref fa) ⟨[.ref a],[]⟩) (λr s'=>r=.ok (.ret (.bool true))/\OldK bA.heap s'.heap/\s'.os=bA.os/\AllBare s'.gens) bA):
  WalkO q loose XP YP l.row.toRowW d [] (λf vs=>PySem.call f vs):=by
 intro w dY bA mg mb G Y fa o pm cd doc dV kV ho hd jU hD wo hg args vals as zT adB hrd GQ hlo;obtain rfl:dV=.none:=Dflts.none hD wm;obtain rfl:kV=.none:=Dflts.noKw hD;obtain⟨a,vs,ns,rfl,rfl,F7,hints,hlen⟩:_:=WN hn zT GQ;refine enter_call (aeR (call w dY bA mg mb fa o pm cd doc a vs ns G Y ho (fd_plain hd) jU wo F7 hints hlen hg) λr s' hq=>?_);obtain⟨rfl,h2,h3,h4⟩:=hq;exact⟨.inl ⟨.bool true,.bool true,[],rfl,λ_=>rfl,.bool true,WO l _,λ_=>⟨List.Pairwise.nil,λ_ hm=>(nomatch hm)⟩⟩,h2,h3,h4⟩
end QX
namespace L2
open PySem PySem.Spec PyProof.Rows
theorem JD:∀{vs:List vn} {ns:LI},IntsAre vs ns->Vals (ns.map V.int) vs
 |_,_,.nil=>.nil
 |_,_,.cons n t h=>.cons ⟨t,rfl⟩ (JD h)
def F8 (H:Hp):Prop:=∀b,H b=none\/∃o xs,H b=some (.eS o (.lst xs))
theorem Xy {K:Frag}(KX:K.In bA.heap)(kL:bA.heap.Ns mainGlobals mg)(hb:bA.heap.Ns builtinsNs mb)(wq:∀x:Str,x ≠ "__name__"->mb x=bootBuiltins x)(acz:bA.heap.NoLimit)(hg:bA.gens=#[])(ha:bA.heap.get? a=some {cls:=.type "list",data:=.seq vs.toArray})(hi:IntsAre vs ns)(hl:ns.length<=sizeLine)(hr:dA k callerA)(F:∀base,K.In base->base.Ns mainGlobals mg->bQ P w K mg base CX k fa fd [x] sp)(abP:∀(s:adJ) (u:vn),BindsTo s fd ⟨[u],[]⟩ [(x,u)])(oK:∀H,F8 H->aK K H a (ns.map V.int)->sp [.ref a] H (λv _=>v=.bl true) λ_ _ _=>False)(GR:∀H e s',CX [] H bA (λ_ _ _=>False) e s'->False):
  codeAny (model P w) callerA (.call (.ref fa) ⟨[.ref a],[]⟩) (λr s'=>r=.ok (.ret (.bool true))/\OldK bA.heap s'.heap/\s'.os=bA.os/\AllBare s'.gens) bA:=by
 have rv:=JD hi;have acA:=hi.length;have core:∀H,F8 H->aK K H a (ns.map V.int)->dU P w H bA.heap->(∀b,H b≠none->b=a)->(H a≠none->K.lookup a=none) ->
   codeAny (model P w) callerA (.call (.ref fa) ⟨[.ref a],[]⟩) (λr s'=>r=.ok (.ret (.bool true))/\OldK bA.heap s'.heap/\s'.os=bA.os/\AllBare s'.gens) bA:=by
  intro H hO hS aO hA hK;have La:∀{b:adG} {o:Obj},bA.heap.get? b=some o->H b=none->(ox bA.heap H).get? b=some o:=λe n=>Xq e n
  have wg:∀{b:adG} {o:Obj} {es:Array DictEntry} {ep:Nat},bA.heap.get? b=some o->o.data=.dict es ep->H b=none:=λ{b o es ep} e d=>by
   cases q:H b with
   |none=>rfl
   |some u=>
    have e':b=a:=hA b (by rw[q];simp);subst e';rw[ha]at e;cases e;have d':=d;cases d'
  have Ao:∀{b:adG} {m:Str->Option vn},bA.heap.Ns b m->(ox bA.heap H).Ns b m:=λ{b m} z9=>by obtain⟨o,es,ep,e,d,r⟩:_:=z9;exact⟨o,es,ep,La e (wg e d),d,r⟩
  have QY:=λb o e=>La (KX b o e) (by
   cases q:H b with
   |none=>rfl
   |some u=>
    have e':=hA b (by rw[q];simp);subst e';rw[hK (by rw[q];simp)]at e;cases e)
  have hM:Mod K mg (ox bA.heap H):=⟨QY,Ao kL,⟨mb,Ao hb,wq⟩,by obtain⟨mc,h1,h2⟩:=acz;exact⟨mc,Ao h1,h2⟩⟩
  have e0:pX P w K mg (ox bA.heap H) callerA [] bA H:=⟨rfl,hM,λb o e=>YH e,afP (Wy _ _),trivial,λb hb=>absurd (show b∈([])from hb) 'Y',aO,.of_eq hg⟩
  refine aeR ((F _ QY (Ao kL)).run callerA [] bA H ⟨[.ref a],[]⟩ [.ref a] [.ref a] _ _ hr e0 (abP bA (.ref a)) (.cons rfl .nil) (oK H hO hS)) λr s' h=>?_
  cases r with
  |error e=>exact(GR H e s' h).elim
  |ok fl=>
   cases fl with
   |next=>exact False.elim h
   |brk=>exact False.elim h
   |cont=>exact False.elim h
   |ret u=>
    obtain⟨v,H',os,bare,un,acB,r',q⟩:_:=h;have q':=q;subst q';obtain rfl:u=Value.bool true:=r';refine⟨rfl,OldK.of_keep λb o e=>?_,os,bare⟩;cases q:H b with
    |none=>exact un.keep b o e q (by intro z;exact absurd (show b∈([])from z) 'Y') 'Y'
    |some u=>
     obtain z|⟨ob,xs,z⟩:=hO b
     ·rw[q]at z;cases z
     ·have z2:=un.ku b ob _ z;obtain⟨e1,_⟩:=aO b _ z;obtain⟨e2,_⟩:=acB b _ z2;rw[e]at e1;cases e1;exact e2
 cases hk:K.lookup a with
 |some o=>
  have e:=KX a o hk;rw[ha]at e;cases e;refine core (λ_=>none) (λ_=>.inl rfl) (.inr ⟨_,vs.toArray,_,hk,rfl,rfl,rfl,by rw[Co,acA];exact hl,by simpa using rv⟩) (λb u z=>by have z':=z;cases z') (λb z=>absurd rfl z) λz=>absurd rfl z
 |none=>
  refine core (λb=>if b=a then some (.eS {cls:=.type "list",data:=.seq vs.toArray} (.lst (ns.map V.int)))else none) (λb=>?_) (.inl (.inr ⟨{cls:=.type "list",data:=.seq vs.toArray},uu rfl⟩)) (λb u z=>?_) (λb z=>?_) λ_=>hk
  ·by_cases hb:b=a
   ·exact .inr ⟨_,_,uu hb⟩
   ·exact .inl (rf hb)
  ·by_cases hb:b=a
   ·have z':=(uu hb).symm.trans z;cases z';subst hb;exact⟨ha,by rw[aa];exact hl,vs,_,rv,ha⟩
   ·have z':=(rf hb).symm.trans z;cases z'
  ·by_cases hb:b=a
   ·exact hb
   ·exact absurd (rf hb) z
theorem YT {l:PySem.W.OpenLaw}{K:Params->Frag}{CX:afV->qC}{sp:afV->Sp}(hn:l.most=some n)(Al:n<=sizeLine)(wm:d.params.defaults=[])(hr:dA k callerA)(hY:∀w h,YP w h->(K w.params).In h)(F:∀w mg fa h,(K w.params).In h->h.Ns mainGlobals mg->mg d.name=some (.ref fa) ->
   ∃fd,(∀s u,BindsTo s fd ⟨[u],[]⟩ [(x,u)]) /\
    ∀base,(K w.params).In base->base.Ns mainGlobals mg->bQ l.prog w (K w.params) mg base (CX w) k fa fd [x] (sp w))(oK:∀w H a (ns:LI),ns.length<=n->F8 H->aK (K w.params) H a (ns.map V.int)->sp w [.ref a] H (λv _=>v=.bl true) λ_ _ _=>False)(GR:∀w H s e s',CX w [] H s (λ_ _ _=>False) e s'->False):
  PySem.W.WalkO q loose XP YP l.row.toRowW d [] (λf vs=>PySem.call f vs):=by
 refine QX.Vy hn wm λw dY bA mg mb fa o pm cd doc a vs ns G Y ho hd jU wo F7 hints hlen hg=>?_
 have KX:=hY w _ Y;obtain⟨fd,hb,hF⟩:_:=F w mg fa _ KX G.T.g wo;exact Xy KX G.T.g G.T.b G.T.builtins G.T.nolimit hg F7 hints (Cn hlen Al) hr hF hb (λH hO hS=>oK w H a ns hlen hO hS) λH e s'=>GR w H bA e s'
def eV (s:afW):Arguments:=match s with
 | .FunctionDef _ a _ _ _ _ _ _ _ _=>a
 |_=>{posonlyargs:=[],args:=[],vararg:=none,kwonlyargs:=[],kw_defaults:=[],kwarg:=none,defaults:=[]}
def dw (s:afW):List afW:=match s with
 | .FunctionDef _ _ b _ _ _ _ _ _ _=>b
 |_=>[]
def aA (s:afW):Scope:=match s with
 | .FunctionDef _ _ _ _ _ _ sc _ _ _=>sc
 |_=>{kind:=.function,names:=[],isGenerator:=false,isCoroutine:=false}
abbrev bx:qC:=λ_ _ _ _ _ _=>False
abbrev E0:XK:=λ_ _ _=>False
theorem mQ:Passes bx X E0:=λ_ _ _ _ _ _ _ h=>h.elim
structure qD (K:Frag) (x qual:Str) (st:afW) (f:adG) (fd:FuncData):Prop where
 ex:∃(oc:vn) (od:Option adG) (kV doc pm:vn) (an:Option adG) (aL ct:vn) (iY:Array (Option vn)),
  fd=fnOf x qual (eV st) (dw st) (aA st) .none kV doc pm an aL ct/\K.lookup f=some ⟨oc,od,.func fd,iY⟩/\codeIn K aL qual=true
 kp:keepIn K (.ref f)=true
section
variable {K:Frag}
theorem qD.binds {st:afW}(F:qD K x qual st f fd)(h:∀kV doc pm an aL ct us,us.length=ps.length->bindArgs (fnOf x qual (eV st) (dw st) (aA st) .none kV doc pm an aL ct) ⟨us,[]⟩=pure (ps.zip us)):Binds K fd ps []:=by
 obtain⟨oc,od,kV,doc,pm,an,aL,ct,iY,rfl,lk,jU⟩:_:=F.ex;exact .all (h kV doc pm an aL ct)
theorem aaN {st:afW}{kV:vn}(l:K.lookup f=some ⟨oc,od,.func (fnOf x qual (eV st) (dw st) (aA st) .none kV doc pm an aL ct),iY⟩)(c:codeIn K aL qual=true)(k:keepIn K (.ref f)=true):qD K x qual st f (fnOf x qual (eV st) (dw st) (aA st) .none kV doc pm an aL ct):=⟨⟨oc,od,kV,doc,pm,an,aL,ct,iY,rfl,l,c⟩,k⟩
end
section
variable {X:Cx}
theorem pv (i:Nat){pos:Pos}(hN:X.N[i]?=some x:=by rfl)(hv:iW X.env.scope x:=by first|exact Or.inl rfl|exact Or.inr (Or.inl rfl)|exact Or.inr (Or.inr rfl))(hd:(x==("__debug__":Str))=false:=by decide)(jU:(x==("__classdict__":Str))=false:=by decide):PE X (.Name x pos) (dG i):=lu hN hv hd jU
end
theorem lQ {B:Prop}(h:B):if false=true then A else B:=by
 simp_all
theorem lR {B:Prop}(h:A):if true=true then A else B:=by
 simp_all
def aj (H H':Hp):Prop:=∀b o,H b=some o->H' b=some o
theorem aj.refl (H:Hp):aj H H:=λ_ _ h=>h
theorem aj.trans (a:aj H H1)(b:aj H1 H2):aj H H2:=λc o h=>b c o (a c o h)
theorem aj.free (e:aj H H')(h:H' l=Option.none):H l=Option.none:=by
 cases q:H l with
 |none=>rfl
 |some o=>
  rw[e l o q]at h;cases h
theorem aj.seq {K:Frag}(e:aj H H')(h:aK K H a xs):aK K H' a xs:=by
 obtain (h|⟨o,h⟩)|h:=h
 ·exact .inl (.inl (e _ _ h))
 ·exact .inl (.inr ⟨o,e _ _ h⟩)
 ·exact .inr h
abbrev cU:vn->adJ->Prop:=λ_ _=>False
theorem GU {m:Sem α}{Q : α->adJ->Prop}(h:wpAny M A m Q cU s):wpAny M A m Q E s:=
 ae6 h (λ_ _ q=>q) λ_ _ z=>z.elim
abbrev mG (ifs:List Expr)(env:Env):Sem Bool:=
 forIn ifs true λc r=>if r=true then do let ok<-isTrue c env (eval c env);pure (ForInStep.yield ok)else pure (ForInStep.yield r)
theorem MO (I:Nat->adJ->Prop)(turn:∀n s,I n s->wpAny (model P w) A (pyNext it) (λr s1=>match r with
   |none=>R (.ok .next) s1
   |some v=>wpAny (model P w) A (letOwnedTupleGo tg it v) (λ_ s2=>wpAny (model P w) A (assign tg env v) (λ_ s3=>
     wpAny (model P w) A (mG ifs env) (λok s4=>if ok=true then wpAny (model P w) A (eval elt env) (λx s5=>
       wpAny (model P w) A (call (.builtin "list.append") [acc,x]) (λ_ s6=>∃m,m<n/\I m s6) cU s5) cU s4
      else ∃m,m<n/\I m s4) cU s3) cU s2) cU s1) cU s)(n:Nat)(h:I n s):codeAny (model P w) A (.compLoop (.ListComp elt [⟨tg,iter,ifs,0⟩] sc pos) 0 it acc env) R s:=by
 refine codeAny_loop rfl I (λn s hI=>?_) n h;refine wpAny_noted (GU ?_);refine ab (afE (ab (aJ (turn n s hI) λr s1 h1=>?_)));cases r with
 |none=>exact wpAny_pure h1
 |some v=>
  refine ab (aJ h1 λ_ s2 h2=>ab (aJ h2 λ_ s3 h3=>ab (aJ h3 λok s4 h4=>?_)));cases ok with
  |false=>exact wpAny_pure ⟨rfl,h4⟩
  |true=>exact ab (ab (aJ h4 λx s5 h5=>ab (aJ h5 λ_ s6 h6=>wpAny_pure (wpAny_pure ⟨rfl,h6⟩))))
theorem uC:∀names n acc y,(∃c,acc.lookup y=some c)->∃c,(cellsFrom n names acc).lookup y=some c
 |[],_,_,_,h=>h
 |(name,kind)::r,n,acc,y,⟨c,h⟩=>by
  unfold cellsFrom;split
  ·refine uC r _ _ y ?_
   grind
  ·exact uC r _ _ y ⟨c,h⟩
theorem yR:∀names n acc y,(y,NameKind.cell)∈names->∃c,(cellsFrom n names acc).lookup y=some c
 |[] => λ_ _ _ h=>nomatch h
 |(name,kind)::r=>λn acc y h=>by
  unfold cellsFrom;obtain e|h:=ff.mp h
  ·cases e
   exact uC r _ _ _ ⟨n,'J'⟩
  ·split
   ·exact yR r _ _ y h
   ·exact yR r _ _ y h
theorem uf:∀names n acc y c,(cellsFrom n names acc).lookup y=some c->acc.lookup y=some c\/(n<=c/\(y,NameKind.cell)∈names)
 |[] => λ_ _ _ _ h=>.inl h
 |(name,kind)::r=>λn acc y c h=>by
  unfold cellsFrom at h;split at h
  ·rename_i hk
   obtain q|⟨q1,q2⟩:=uf r _ _ y c h
   ·grind
   ·grind
  ·obtain q|⟨q1,q2⟩:=uf r _ _ y c h
   ·simp_all
   ·simp_all
theorem DV:∀names n acc y,(y,NameKind.cell)∉names->(cellsFrom n names acc).lookup y=acc.lookup y
 |[] => λ_ _ _ _=>rfl
 |(name,kind)::r=>λn acc y h=>by
  unfold cellsFrom;have hr:=λz=>h (.tail _ z)
  split
  ·rename_i hk
   rw[DV r _ _ y hr,LF]
   grind
  ·exact DV r _ _ y hr
theorem DW:∀names (n:Nat) (acc:List (Str×adG)),(∀y c,acc.lookup y=some c->c<n)->(∀y z c,acc.lookup y=some c->acc.lookup z=some c->y=z) ->
  ∀y z c,(cellsFrom n names acc).lookup y=some c->(cellsFrom n names acc).lookup z=some c->y=z
 |[] => λ_ _ _ h=>h
 |(name,kind)::r=>λn acc h1 h2=>by
  unfold cellsFrom;split
  ·refine DW r _ _ (λy c e=>?_) λy z c e e'=>?_
   ·grind
   ·grind
  ·exact DW r _ _ h1 h2
theorem yy:∀names h acc y c,(cellsFrom h.objs.size names acc).lookup y=some c->acc.lookup y=some c\/(pushCells h names).IsCell c none
 |[] => λ_ _ _ _ e=>.inl e
 |(name,kind)::r=>λh acc y c e=>by
  unfold cellsFrom at e;unfold pushCells;split
  ·rename_i hk
   rw[uu hk]at e;rw[show h.objs.size+1=(h.push {cls:=.type "cell",data:=.cell none}).objs.size from(aeM ..).symm]at e;obtain q|q:=yy r _ _ y c e
   ·rw[LF]at q;split at q
    ·cases q
     exact .inr (Heap.IsCell.keeps ⟨_,BN _ rfl,rfl⟩ (aey r _))
    ·simp_all
   ·simp_all
  ·rename_i hk
   rw[rf hk]at e;exact yy r _ _ y c e
theorem Ji {code:vn}(hQ:Q (newEnv scope s.heap.objs.size globals (cellsFrom (s.heap.objs.size+1) scope.names cl) qual func code (some env) builtins) {s with heap:=pushCells (s.heap.push {cls:=.type "dict",data:=.dict #[]}) scope.names}):
  wpAny M A (newFunctionEnv scope globals cl [] qual func code (some env) builtins) Q E s:=by
 refine ab (wpAny_alloc ?_);refine ab (wpAny_layCells _ (λname kind cells=>'X') _ _ _ _ ?_);rw[aeM ..];exact ab (wpAny_pure (wpAny_pure hQ))
def dM (X:Cx)(own:List Str)(fr:List Nat)(sc:Scope)(cl:List (Str×adG))(C:adG)(s:adJ)(H:Hp)(ex:List adG)(pn:List (adG×Obj)):Cx where
 prog:=X.prog
 w:=X.w
 K:=X.K
 mg:=X.mg
 base:=X.base
 A:=X.A
 N:=own++fr.map λj=>X.N.getD j ""
 dY:=s
 vF:=H
 env:=compEnvC sc (cellsFrom (C+1) sc.names cl) C X.env
 outer:=X.stack
 stack:=X.stack
 ex:=ex
 fn:=λy=>(cl.lookup y).isNone
 calm:=X.calm
 pn:=pn
 xe:=cU
def mH (own:List Str)(fr:List Nat)(σ:St):St:=own.map (λ_=>none)++fr.map λj=>(σ[j]?).join
structure hJ (X:Cx) (sc:Scope) (cl:List (Str×adG)) (fr:List Nat):Prop where
 P9:closureFor sc X.env=pure cl
 kind:sc.kind=.function
 cells:∀y,(y,NameKind.cell)∈sc.names->cl.lookup y=none
 names:∀y∈sc.names,y.2=.local->sc.names.lookup y.1=some .local
 sub:∀y c,cl.lookup y=some c->X.env.cells.lookup y=some c
 has:∀y,((relabel sc X.env).names.lookup y=some .cell\/(relabel sc X.env).names.lookup y=some .free)->(∃c,cl.lookup y=some c)\/(y,NameKind.cell)∈sc.names
 frN:∀j∈fr,∃y,X.N[j]?=some y/\((relabel sc X.env).names.lookup y=some .cell\/(relabel sc X.env).names.lookup y=some .free)/\iW X.env.scope y/\X.env.scope.names.lookup y≠some .local/\∃c,cl.lookup y=some c
def Ap (wi:TI)(g:TG)(tt:TT)(te:TE)(own:List Str)(fr:List Nat):TE:=λσ H Q=>wi σ H λJ H1=>∀acc,H1 acc=none ->
 ∃W:Nat->Nat->List V->St->Hp->Prop,(∃m,W 0 m [] (mH own fr σ) (upd H1 acc (.lst [])))/\∀i m ys aq H2,W i m ys aq H2->H2 acc=some (.lst ys)/\ys.length<sizeLine /\
  ((J.stop i H2/\Q (.ref acc) H2)\/(J.go i H2/\∃N:List V->St->Hp->Prop,(∀zs dg H3,N zs dg H3->∃m',m'<m/\W (i+1) m' zs dg H3) /\
   ∀x H3,J.v9 i H2 x H3->g x aq H3 λdg H4=>tt dg H4 λb H5=>if b=true then te dg H5 (λy H6=>H6 acc=some (.lst ys)/\N (ys++[y]) dg (upd H6 acc (.lst (ys++[y]))))else N ys dg H5))
theorem YV {N:List Str}(h:N[j]?=some y):N.getD j ""=y:='J'
theorem lcInv {σ:St}{fp:List adG}(L:hJ X sc cl fr)(I:Inv X pins σ H s)(Aq:∀b∈fp,jm X pins H b)(bC:∀b∈fp,b<s.heap.objs.size)(kL:h4.Ns s.heap.objs.size λ_=>none)(kp:∀b o,s.heap.get? b=some o->h4.get? b=some o)(qE:∀y c,(cellsFrom (s.heap.objs.size+1) sc.names cl).lookup y=some c->cl.lookup y=some c\/h4.IsCell c none):Inv (dM X own fr sc cl s.heap.objs.size s H fp (X.pn++pins)) [] (mH own fr σ) H {s with heap:=h4,toks:=tk}:=by
 have noL:∀{b:adG} {o:Obj},s.heap.get? b=some o->b≠s.heap.objs.size:=λe=>AS (nt e)
 have hex:∀b∈(dM X own fr sc cl s.heap.objs.size s H fp (X.pn++pins)).ex,b∈fp:=λb z=>z
 have qo:∀b,b≠X.env.locals->b∉X.fs->b∉fG X.stack:=λb h1 h2 z=>(ff.mp (I.uR b z)).elim h1 h2
 have MP:=λy c e=>I.cell y c (L.sub y c e)
 have split:∀y c,(cellsFrom (s.heap.objs.size+1) sc.names cl).lookup y=some c->cl.lookup y=some c\/s.heap.objs.size+1<=c:=λy c e=>(uf _ _ _ y c e).imp id And.left
 refine⟨⟨I.ok.mod,L.kind,I.ok.glob,I.ok.blt,br _,DW _ _ _ (λy c e=>by obtain⟨v,q⟩:=MP y c e;exact aec q.lt) (λy z c h1 h2=>I.ok.inj y z c (L.sub y c h1) (L.sub z c h2)),λy hy=>(L.has y hy).elim (uC _ _ _ y) (yR _ _ _ y),λy c hy e=>?_,I.ok.hd,I.ok.frames,.inl rfl,
   λb hb=>⟨AS (bC b (hex b hb)),λy c e=>(split y c e).elim (λq=>(Aq b (hex b hb)).2.2.2.2.1 y c (L.sub y c q)) λq=>ad6 (ze (bC b (hex b hb)) (aed q))⟩,I.bs,Cn I.ok.oH I.sz,λb o e z=>?_,λb z=>?_,I.stack,I.KL⟩,
  rfl,I.bare,Un.kept kp,⟨_,kL,λi y v h1 h2 h3=>?_⟩,λy c e=>?_,I.aO.fresh (br _),λy c e=>(split y c e).elim (λq=>I.lE y c (L.sub y c q)) λq=>I.aO.fresh (aed q),λp hp=>?_,I.aO.kept kp,?_⟩
 ·have fV:(cl.lookup y).isNone=true:=hy;obtain q|q:=split y c e
  ·rw[q]at fV;cases fV
  ·exact aed q
 ·obtain q|q:=(Aq b (hex b z)).2.2.2.1
  ·exact I.ok.vG b o e q
  ·exact absurd (ze (nt (I.ok.bs b o e).1) q) (abc _)
 ·exact qo b (Aq b (hex b z)).2.1 (Aq b (hex b z)).2.2.1
 ·have wt:(own++fr.map λj=>X.N.getD j "")[i]?=some y:=h1;have oN:(own.map (λ_=>none)++fr.map λj=>(σ[j]?).join)[i]?=some (some v):=h2;by_cases hi:i<own.length
  ·rw[Cf (by simpa using hi),l8]at oN;cases q:own[i]? with
   |none=>rw[q]at oN;cases oN
   |some z=>rw[q]at oN;cases oN
  ·rw[wb 'O',l8]at wt;rw[wb (by simpa using hi),l8,aa]at oN;cases q:fr[i-own.length]? with
   |none=>rw[q]at wt;cases wt
   |some j=>
    rw[q]at wt oN;obtain⟨y',n1,n2,n3,n4,c',e'⟩:_:=L.frN j (ba q);have ey:y'=y:=by
     have this:X.N.getD j ""=y:=GG wt;rw[YV n1]at this;exact this
    subst ey;have ev : σ[j]?=some (some v):=by
     have z:(σ[j]?).join=some v:=GG oN;cases q2 : σ[j]? with
     |none=>rw[q2]at z;cases z
     |some o=>rw[q2]at z;exact congrArg some z
    obtain⟨m,_,hl⟩:_:=I.loc;obtain⟨u,r,l⟩:=hl j y' v n1 ev n3;refine⟨u,r,.inr ⟨n2,?_⟩⟩;obtain⟨k,_⟩|⟨_,c,e,z⟩:_:=l
    ·exact absurd k n4
    ·have:=L.sub y' c' e';rw[e]at this;cases this;obtain⟨o,ho,hd⟩:=z;exact⟨_,(DV _ _ _ y' λz=>by rw[L.cells y' z]at e';cases e').trans e',o,kp _ o ho,hd⟩
 ·obtain q|q:=qE y c e
  ·obtain⟨v,o,ho,hd⟩:_:=MP y c q;exact⟨v,o,kp c o ho,hd⟩
  ·exact⟨none,q⟩
 ·have Ar:p∈X.pn++pins:=by
   have z:p∈(X.pn++pins)++[]:=hp;simpa using z
  obtain⟨e,n,ne,nf,d⟩:_:=I.pin p Ar;exact⟨kp _ _ e,n,noL e,qo _ ne nf,d⟩
 ·show(own.map (λ_=>(none))++fr.map λj=>(σ[j]?).join).length=(own++fr.map λj=>X.N.getD j "").length;simp
theorem OW
  (L:hJ X sc cl fr)(hc:X.calm=true)(hi:PI X tg iter wi)(hg:∀C s H ex pn,PG (dM X own fr sc cl C s H ex pn) tg g)(ht:∀C s H ex pn (pins:List (adG×Obj)) (s1:adJ) (aq:St) (H1:Hp) (Q:Bool->Hp->Prop),Inv (dM X own fr sc cl C s H ex pn) pins aq H1 s1->tt aq H1 Q ->
   wpAny (model X.prog X.w) X.A (mG ifs (compEnvC sc (cellsFrom (C+1) sc.names cl) C X.env)) (TP (dM X own fr sc cl C s H ex pn) pins aq Q) cU s1)(he:∀C s H ex pn,PE (dM X own fr sc cl C s H ex pn) elt te)(hs:∀x,foldedSetIterable iter X.env x=pure x:=by intro _;rfl):
  PE X (.ListComp elt [⟨tg,iter,ifs,0⟩] sc pos) (Ap wi g tt te own fr):=by
 intro pins s σ H Q I h;refine wpAny_comprehension_free rfl hs L.P9 L.kind L.names (aJ (hi pins s σ H _ I h) λv s1 h1=>aJ h1 λAj s2 h2=>?_);obtain⟨it,fp,tn,J,H2,e,I2,T,a7,f2,h2⟩:_:=h2;subst e;refine WA ?_;have I3:=I2.zS (t':=s2.toks) .nil (zd _);have n2:=I2.fresh;obtain⟨W,⟨m0,w0⟩,turn⟩:_:=h2 _ n2;have wu:∀b∈fp,b<s2.heap.objs.size:=λb hb=>by
  obtain⟨o,eo,_⟩:=T.obj 0 _ a7 b hb;exact nt eo
 have eE:∀b∈fp,jm X pins (upd H2 s2.heap.objs.size (.lst [])) b:=λb hb=>⟨by rw[aH (AS (wu b hb))];exact(f2 b hb).1,(f2 b hb).2⟩
 generalize gQ:({s2 with heap:=s2.heap.push {cls:=.type "list",data:=.seq ([]).toArray}}:adJ)=s3 at I3;have fS:tn 0 s3.heap:=by
  rw[<- gQ];exact T.keep 0 _ _ a7 λb hb o eo=>mf _ eo
 have qG:∀b∈fp,b<s3.heap.objs.size:=λb hb=>by
  obtain⟨o,eo,_⟩:=T.obj 0 _ fS b hb;exact nt eo
 generalize tq:upd H2 s2.heap.objs.size (.lst [])=H3 at I3 eE w0;generalize s2.heap.objs.size=acc at turn w0 tq ⊢;refine Ji ?_;have kL:(pushCells (s3.heap.push {cls:=.type "dict",data:=.dict #[]}) sc.names).Ns s3.heap.objs.size λ_=>none:=(Heap.Ns.new s3.heap (.type "dict")).keeps (aey _ _)
 have kp:∀b o,s3.heap.get? b=some o->(pushCells (s3.heap.push {cls:=.type "dict",data:=.dict #[]}) sc.names).get? b=some o:=λb o eo=>aey _ _ b o (mf _ eo)
 have qE:=λy c e=>
  yy sc.names (s3.heap.push {cls:=.type "dict",data:=.dict #[]}) cl y c (by rw[aeM];exact e)
 generalize hh4:pushCells (s3.heap.push {cls:=.type "dict",data:=.dict #[]}) sc.names=h4 at kL kp qE;have I4:=lcInv (own:=own) (tk:=s3.toks) L I3 eE qG kL kp qE;have wz:=T.keep 0 _ _ fS λb hb o eo=>kp b o eo
 have stat:∀{H':Hp},(∀b∈fp,H' b=none)->∀b∈fp,jm (dM X own fr sc cl s3.heap.objs.size s3 H3 fp (X.pn++pins)) [] H' b:=λ{H'} hn b hb=>
  ⟨hn b hb,AS (qG b hb),λz=>(ff.mp (I3.uR b z)).elim (eE b hb).2.1 (eE b hb).2.2.1,.inl hb,λy c e=>(uf _ _ _ y c e).elim (λq=>(eE b hb).2.2.2.2.1 y c (L.sub y c q)) λq=>ad6 (ze (qG b hb) (aed q.1)),λp hp=>(eE b hb).2.2.2.2.2 p (by
   have z:p∈(X.pn++pins)++[]:=hp;simpa using z)⟩
 have loop:codeAny (model X.prog X.w) X.A (.compLoop (.ListComp elt [⟨tg,iter,ifs,0⟩] sc pos) 0 (.ref it) (.ref acc) (compEnvC sc (cellsFrom (s3.heap.objs.size+1) sc.names cl) s3.heap.objs.size X.env))
   (compPost (model X.prog X.w) X.A X.xe none (EP X pins σ Q) (.ref acc) s3.heap.objs.size) {s3 with heap:=h4,toks:=s3.toks}:=by
  refine MO (λn s'=>∃i ys aq H1,Inv (dM X own fr sc cl s3.heap.objs.size s3 H3 fp (X.pn++pins)) [] aq H1 s'/\tn i s'.heap/\(∀b∈fp,H1 b=none)/\W i n ys aq H1) ?_ m0 ⟨0,[],_,H3,I4,wz,λb hb=>(eE b hb).1,w0⟩;intro n s5 z9;obtain⟨i,ys,nj,H5,I5,ng,qA,w5⟩:_:=z9;obtain⟨dS,hlen,hh⟩:=turn i n ys nj H5 w5;obtain⟨stop,qn⟩|⟨go,N,hN,step⟩:=hh
  ·refine aJ (T.done (dM X own fr sc cl s3.heap.objs.size s3 H3 fp (X.pn++pins)) rfl rfl rfl hc i [] s5 nj H5 cU I5 (stat qA) ng stop) λr s6 z9=>?_
   obtain⟨hr,I6⟩:=z9;subst hr;obtain⟨m6,GV,_⟩:=id I6.loc;refine⟨m6,GV,λh7 nk=>⟨.ref acc,H5,?_,rfl,qn⟩⟩;have old:∀b o,s3.heap.get? b=some o->b≠s3.heap.objs.size:=λb o eo=>AS (nt eo)
   have u6:=I6.base;have u7:Un (fG X.stack) fp H3 H5 s3.heap h7:=
    ⟨λb o eo nn hb hx=>(nk.2 b (old b o eo)).trans (u6.keep b o eo nn hb hx),λb o eo nn hb hx=>by
     obtain⟨sl,q⟩:=u6.slot b o eo nn hb hx;exact⟨sl,(nk.2 b (old b o eo)).trans q⟩,u6.free,λb o eo hx=>by
     obtain⟨o',q⟩:=u6.there b o eo hx;exact⟨o',(nk.2 b (old b o eo)).trans q⟩,u6.lL,u6.ku,u6.lM⟩
   have fC:H5 s3.heap.objs.size=none:=I6.free;have F9:=λb ob eb=>by
    refine(I6.aO b ob eb).mY (λc w' kH q=>(nk.2 c ?_).trans q) (λ_ q=>q) λ_ _ q=>q
    rintro rfl;obtain z|z:=kH
    ·rw[<- z,fC]at eb;cases eb
    ·rw[fC]at z;cases z
   exact I3.OI (s':={s6 with heap:=h7}) I6.os u7 F9 I6.bare λb hb=>⟨(eE b hb).2.2.2.1,(eE b hb).2.1,(eE b hb).2.2.2.2.1,(eE b hb).2.2.2.2.2⟩
  ·refine aJ (T.item (dM X own fr sc cl s3.heap.objs.size s3 H3 fp (X.pn++pins)) rfl rfl rfl hc i [] s5 nj H5 cU I5 (stat qA) ng go) λr s6 z9=>?_
   obtain⟨u,hr,h6⟩:=z9;subst hr;refine aJ h6 λ_ s7 z9=>?_
   obtain⟨x,H7,I7,r7,y7,qI,GW⟩:=z9;have GX:=I7.pinned (stat GW) (T.obj _ _ qI);refine aJ (hg _ _ _ _ _ _ s7 nj H7 x u _ GX r7 (step x H7 y7)) λ_ s8 z9=>?_
   obtain⟨nr,H8,I8,q8⟩:=z9;have again:∀{zs:List V} {kM:St} {H9:Hp} {s9:adJ},Inv (dM X own fr sc cl s3.heap.objs.size s3 H3 fp (X.pn++pins)) ([]++rZ fp s7.heap) kM H9 s9->N zs kM H9 ->
     ∃m,m<n/\∃i ys aq H1,Inv (dM X own fr sc cl s3.heap.objs.size s3 H3 fp (X.pn++pins)) [] aq H1 s9/\tn i s9.heap/\(∀b∈fp,H1 b=none)/\W i m ys aq H1:=λ{zs kM H9 s9} I9 n9=>by
    obtain⟨m',hm,w9⟩:=hN zs kM H9 n9;refine⟨m',hm,i+1,zs,kM,H9,I9.uj,T.keep _ _ _ qI λb hb o e=>(I9.pin (b,o) (i4 _ (i4 _ (rG hb e)))).1,λb hb=>?_,w9⟩;obtain⟨o,e,d⟩:=T.obj _ _ qI b hb;exact(I9.pin (b,o) (i4 _ (i4 _ (rG hb e)))).2.1
   refine aJ (ht _ _ _ _ _ _ s8 nr H8 _ I8 q8) λok s9 z9=>?_
   obtain⟨H9,I9,q9⟩:=z9;cases ok with
   |false=>exact again I9 (by simpa using q9)
   |true=>
    refine aJ (he _ _ _ _ _ _ s9 nr H9 _ I9 q9) λz jw z9=>?_
    obtain⟨y,nu,GY,GZ,Hd,He⟩:=z9;refine aJ (nL _ jw nr nu (.ref acc) [y] (.ref acc) [z] (λ_ H'=>N (ys++[y]) nr H') GY rfl (.cons GZ .nil) ⟨acc,ys,y,rfl,rfl,Hd,hlen,He⟩) λ_ s11 ⟨_,H11,Hf,_,Hg⟩=>again Hf Hg
 rw[<- gQ]at loop ⊢;exact codeAny_compStart_list loop (GU (T.self _ 0 _ _ _ wz (by rw[gQ];rw[gQ]at loop;exact loop)))
theorem YW {n:Int}(h:n.natAbs<2^k)(hk : 0<k):n.natAbs.log2<k:=by
 by_cases z:n.natAbs=0
 ·simp_all
 ·exact(Nat.log2_lt z).mpr h
section
variable {X:Cx}
def OX (i j:Int):Prop:=i.natAbs<2^8000/\j.natAbs<2^8000
theorem YX:cS X (binaryOp .Mult) (rI OX λi j=>.int (i*j)):=we λ_ _ _ _ _ _ _ hc q=>
 mul_int q (IntMulOk.of_le (intBits_le_iff.mpr hc.1) (intBits_le_iff.mpr hc.2) 'Q')
def vj (_ j:Int):Prop:=0<j/\j.natAbs<2^8000
theorem Xz:cS X (binaryOp .FloorDiv) (rI vj λi j=>.int (i/j)):=we λi j _ _ _ _ _ hc q=>by
 have h1:(0:Int)<j:=hc.1;refine floordiv_int 'O' (by rw[Int.fdiv_eq_ediv_of_nonneg i 'O'];exact q) (.inl (PyProof.noPylong_of_log2 ?_));exact Nat.lt_trans (YW hc.2 'Q') 'Q'
theorem V0 (h0 : 0<=hi)(h1:hi<2^30)(c0 : 0<c)(c1:c<2^30):Builtin.Range.small 0 hi c=true:=by
 unfold Builtin.Range.small;rw[rangeSize_pos 'Z' h0];have a0 : 0<=(hi+c-1)/c:=Int.ediv_nonneg 'Z' 'Z';have a2:(hi+c-1)/c<=hi+c-1:=afK _ 'Z';have a3:=adO a0 'Z';have cc:=c0;simp[Builtin.Range.rangeFitsLong,Bool.or_eq_true,NO,cc];omega
theorem Bm:∀{ns:LI} {its:List vn},Vals (ns.map V.int) its->∃xs:List (Int×Tok),its=xs.map (λp=>Value.int p.1 p.2)/\xs.map (·.1)=ns
 |[],_,.nil=>⟨[],rfl,rfl⟩
 |n::ns,_,.cons r t=>by
  obtain⟨tk,rfl⟩:=r;obtain⟨xs,rfl,rfl⟩:=Bm t;exact⟨(n,tk)::xs,rfl,rfl⟩
def acC (K:Frag):List V->Hp->VK->Prop:=λxs H Q=>∃(p:adG) (ns:LI),xs=[.ref p]/\aK K H p (ns.map V.int)/\Q (.int ns.sum) H
theorem J1 (hc:X.calm=true):fA X (.builtin "sum") (acC X.K):=by
 intro pins s σ H xs us Q I r h;obtain⟨p,ns,rfl,hq,q⟩:_:=h;cases r with
 |cons r1 rr=>
  cases rr
  cases r1
  obtain⟨its,rv,pl,hz⟩:_:=I.list hq;obtain⟨zs,rfl,rfl⟩:_:=Bm rv;refine PySem.sum_intListG (xs:=zs.toArray) (I.ok.hd hc) (by simpa [PySem.intItems]using pl.isList) λh' tk t' hk=>⟨.int _,H,I.kept (t':=tk) hk,⟨t',rfl⟩,?_⟩
  rw[PySem.preSum_eq,List.take_of_length_le 'Y'];exact q
end
inductive Dv where
 |fl (v:V)
 |lst (ds:List Dv)
 |tup (ds:List Dv)
mutual
noncomputable def bZ:Dv->Dv->Bool
 | .fl x,.fl y=>jV x y
 | .lst a,.lst b=>gK a b
 | .tup a,.tup b=>gK a b
 |_,_=>false
noncomputable def gK:List Dv->List Dv->Bool
 |[],[] => true
 |x::r,y::q=>bZ x y&&gK r q
 |_,_=>false
end
mutual
noncomputable def dH:Dv->Nat
 | .fl _=>0
 | .lst a=>eZ a+1
 | .tup a=>eZ a+1
noncomputable def eZ:List Dv->Nat
 |[] => 0
 |x::r=>max (dH x) (eZ r)
end
mutual
noncomputable def Hv (K:Frag)(H:Hp):Dv->V->Prop
 | .fl v,x=>x=v/\iP v=true
 | .lst ds,x=>∃a xs,x=.ref a/\aK K H a xs/\aG K H ds xs
 | .tup ds,x=>∃a xs,x=.ref a/\cO K H a xs/\aG K H ds xs
noncomputable def aG (K:Frag)(H:Hp):List Dv->List V->Prop
 |[],xs=>xs=[]
 |d::ds,xs=>∃x r,xs=x::r/\Hv K H d x/\aG K H ds r
end
theorem J4 (h:iP v=true):jV v v=true:=by
 cases v<;>first|rfl|(simp[jV];done)|(exact absurd h 'Q')|(cases h)
section
variable {σ:St}
theorem J5 (I:Inv X pins σ H s)(h1:aK X.K H a xs)(h2:cO X.K H a ys):False:=by
 obtain⟨i1,_,p1,_⟩:=I.list h1;obtain⟨i2,_,p2,_⟩:=I.tuple h2;exact SeqAt.ne_of_list_tuple p1.isList p2 rfl
mutual
theorem Dc (I:Inv X pins σ H s):∀(d e:Dv) (x:V),Hv X.K H d x->Hv X.K H e x->bZ d e=true
 | .fl v,.fl w,x,h1,h2=>by
  obtain⟨rfl,f⟩:=h1;obtain⟨rfl,_⟩:=h2;exact J4 f
 | .fl v,.lst es,x,h1,h2=>by
  obtain⟨rfl,f⟩:=h1;obtain⟨a,xs,rfl,_⟩:=h2;cases f
 | .fl v,.tup es,x,h1,h2=>by
  obtain⟨rfl,f⟩:=h1;obtain⟨a,xs,rfl,_⟩:=h2;cases f
 | .lst ds,.fl v,x,h2,h1=>by
  obtain⟨rfl,f⟩:=h1;obtain⟨a,xs,rfl,_⟩:=h2;cases f
 | .tup ds,.fl v,x,h2,h1=>by
  obtain⟨rfl,f⟩:=h1;obtain⟨a,xs,rfl,_⟩:=h2;cases f
 | .lst ds,.lst es,x,h1,h2=>by
  obtain⟨a,xs,rfl,q,r⟩:=h1;obtain⟨b,ys,e,q',r'⟩:=h2;cases e;have:=I.JX q q';subst this;exact CH I ds es xs r r'
 | .tup ds,.tup es,x,h1,h2=>by
  obtain⟨a,xs,rfl,q,r⟩:=h1;obtain⟨b,ys,e,q',r'⟩:=h2;cases e;have:=I.Wz q q';subst this;exact CH I ds es xs r r'
 | .lst ds,.tup es,x,h1,h2=>by
  obtain⟨a,xs,rfl,q,r⟩:=h1;obtain⟨b,ys,e,q',r'⟩:=h2;cases e;exact(J5 I q q').elim
 | .tup ds,.lst es,x,h1,h2=>by
  obtain⟨a,xs,rfl,q,r⟩:=h1;obtain⟨b,ys,e,q',r'⟩:=h2;cases e;exact(J5 I q' q).elim
theorem CH (I:Inv X pins σ H s):∀(ds es:List Dv) (xs:List V),aG X.K H ds xs->aG X.K H es xs->gK ds es=true
 |[],[],_,_,_=>rfl
 |[],e::es,xs,h1,h2=>by
  obtain rfl:xs=[]:=h1;obtain⟨x,r,z,_⟩:=h2;cases z
 |d::ds,[],xs,h1,h2=>by
  obtain rfl:xs=[]:=h2;obtain⟨x,r,z,_⟩:=h1;cases z
 |d::ds,e::es,xs,h1,h2=>by
  obtain⟨x,r,rfl,a,b⟩:=h1;obtain⟨x',r',z,a',b'⟩:=h2;cases z;show(bZ d e&&gK ds es)=true;rw[Dc I d e x a a',CH I ds es r b b']
  rfl
end
theorem aG.length {K:Frag}:∀{ds:List Dv} {xs:List V},aG K H ds xs->ds.length=xs.length
 |[],xs,h=>by
  obtain rfl:xs=[]:=h
  rfl
 |d::ds,xs,h=>by
  obtain⟨x,r,rfl,_,b⟩:=h;rw[IF,IF,aG.length b]
theorem o8:∀{ds es:List Dv},ds.length≠es.length->gK ds es=false
 |[],[],h=>absurd rfl h
 |[],_::_,_=>rfl
 |_::_,[],_=>rfl
 |d::ds,e::es,h=>by
  show(bZ d e&&gK ds es)=false;rw[o8 'J',aeN]
def pO (ds es:List Dv)(j:Nat):Bool:=match ds[j]?,es[j]? with
 |some d,some e=>bZ d e
 |_,_=>false
theorem oZ:∀{ds es:List Dv},ds.length=es.length->(List.range ds.length).all (pO ds es)=gK ds es
 |[],[],_=>rfl
 |[],_::_,h=>by cases h
 |_::_,[],h=>by cases h
 |d::ds,e::es,h=>by
  rw[IF,aeG,afG,List.all_map];congr 1;exact oZ 'J'
mutual
theorem aaO (I:Inv X pins σ H s):∀(d e:Dv) (A:Around) (x y:V) (u v:vn),A.units+dH d<cLine->Hv X.K H d x->Hv X.K H e y->RelV x u->RelV y v->SeqAt.EqAt A s u v (bZ d e)
 | .fl a,.fl b=>λA x y u v hu h1 h2 rx ry=>by
  obtain⟨rfl,f1⟩:=h1;obtain⟨rfl,f2⟩:=h2;exact ML rx ry f1 f2
 | .fl a,.lst es=>λA x y u v hu h1 h2 rx ry=>by
  obtain⟨rfl,f1⟩:=h1;obtain⟨b,ys,rfl,q,r⟩:=h2;cases ry;obtain⟨its,_,pl,_⟩:=I.list q;have bw:A.units<cLine:=hu;cases x with
  |aY=>cases rx;exact SeqAt.EqAt.none_list pl.isList bw
  |bl c=>cases rx;exact SeqAt.EqAt.bool_list c pl.isList bw
  |int c=>obtain⟨t,rfl⟩:=rx;exact SeqAt.EqAt.int_list c t pl.isList bw
  |str c=>obtain⟨t,rfl⟩:=rx;exact SeqAt.EqAt.str_list c t pl.isList bw
  |_=>cases f1
 | .fl a,.tup es=>λA x y u v hu h1 h2 rx ry=>by
  obtain⟨rfl,f1⟩:=h1;obtain⟨b,ys,rfl,q,r⟩:=h2;cases ry;obtain⟨its,_,pl,_⟩:=I.tuple q;have bw:A.units<cLine:=hu;cases x with
  |aY=>cases rx;exact SeqAt.EqAt.none_tuple pl bw
  |bl c=>cases rx;exact SeqAt.EqAt.bool_tuple c pl bw
  |int c=>obtain⟨t,rfl⟩:=rx;exact SeqAt.EqAt.int_tuple c t pl bw
  |str c=>obtain⟨t,rfl⟩:=rx;exact SeqAt.EqAt.str_tuple c t pl bw
  |_=>cases f1
 | .lst ds,.fl b=>λA x y u v hu h1 h2 rx ry=>by
  obtain⟨rfl,f2⟩:=h2;obtain⟨a,xs,rfl,q,r⟩:=h1;cases rx;obtain⟨its,_,pl,_⟩:=I.list q;have bw:A.units<cLine:=LP (adY _ _) hu;cases y with
  |aY=>cases ry;exact SeqAt.EqAt.list_none pl.isList bw
  |bl c=>cases ry;exact SeqAt.EqAt.list_bool c pl.isList bw
  |int c=>obtain⟨t,rfl⟩:=ry;exact SeqAt.EqAt.list_int c t pl.isList bw
  |str c=>obtain⟨t,rfl⟩:=ry;exact SeqAt.EqAt.list_str c t pl.isList bw
  |_=>cases f2
 | .tup ds,.fl b=>λA x y u v hu h1 h2 rx ry=>by
  obtain⟨rfl,f2⟩:=h2;obtain⟨a,xs,rfl,q,r⟩:=h1;cases rx;obtain⟨its,_,pl,_⟩:=I.tuple q;have bw:A.units<cLine:=LP (adY _ _) hu;cases y with
  |aY=>cases ry;exact SeqAt.EqAt.tuple_none pl bw
  |bl c=>cases ry;exact SeqAt.EqAt.tuple_bool c pl bw
  |int c=>obtain⟨t,rfl⟩:=ry;exact SeqAt.EqAt.tuple_int c t pl bw
  |str c=>obtain⟨t,rfl⟩:=ry;exact SeqAt.EqAt.tuple_str c t pl bw
  |_=>cases f2
 | .lst ds,.tup es=>λA x y u v hu h1 h2 rx ry=>by
  obtain⟨a,xs,rfl,q,r⟩:=h1;obtain⟨b,ys,rfl,q',r'⟩:=h2;cases rx;cases ry;obtain⟨_,_,p1,_⟩:=I.list q;obtain⟨_,_,p2,_⟩:=I.tuple q';exact SeqAt.EqAt.list_tuple p1.isList p2 (LP (adY _ _) hu)
 | .tup ds,.lst es=>λA x y u v hu h1 h2 rx ry=>by
  obtain⟨a,xs,rfl,q,r⟩:=h1;obtain⟨b,ys,rfl,q',r'⟩:=h2;cases rx;cases ry;obtain⟨_,_,p1,_⟩:=I.tuple q;obtain⟨_,_,p2,_⟩:=I.list q';exact SeqAt.EqAt.tuple_list p1 p2.isList (LP (adY _ _) hu)
 | .lst ds,.lst es=>λA x y u v hu h1 h2 rx ry=>by
  obtain⟨a,xs,rfl,q,r⟩:=id h1;obtain⟨b,ys,rfl,q',r'⟩:=id h2;cases rx;cases ry;by_cases cy:a=b
  ·subst cy;rw[Dc I _ _ _ h1 h2];exact SeqAt.EqAt.same _
  obtain⟨i1,v1,p1,_⟩:=I.list q;obtain⟨i2,v2,p2,_⟩:=I.list q';have bw:A.units<cLine:=LP (adY _ _) hu;have l1:=r.length;have l2:=r'.length;have m1:=v1.length;have m2:=v2.length;refine .of_refs cy ?_;show SeqAt.RcAt A s (.ref a) (.ref b) (gK ds es);by_cases hl:ds.length=es.length
  ·have z:=SeqAt.RcAt.lists (e:=pO ds es) p1.isList p2.isList (by simp;omega) bw (λj g1 g2=>pC I ds es A.in1 xs ys i1 i2 (by show A.units+1+eZ ds<cLine;have:A.units+(eZ ds+1)<cLine:=hu;omega) r r' v1 v2 j (by simpa using g1) (by simpa using g2));rw[Co,<- m1,<- l1,oZ hl]at z;exact z
  ·rw[o8 hl];exact .lists_lengths p1.isList p2.isList (by simp;omega) bw
 | .tup ds,.tup es=>λA x y u v hu h1 h2 rx ry=>by
  obtain⟨a,xs,rfl,q,r⟩:=id h1;obtain⟨b,ys,rfl,q',r'⟩:=id h2;cases rx;cases ry;by_cases cy:a=b
  ·subst cy;rw[Dc I _ _ _ h1 h2];exact SeqAt.EqAt.same _
  obtain⟨i1,v1,p1,_⟩:=I.tuple q;obtain⟨i2,v2,p2,_⟩:=I.tuple q';have bw:A.units<cLine:=LP (adY _ _) hu;have l1:=r.length;have l2:=r'.length;have m1:=v1.length;have m2:=v2.length;refine .of_refs cy ?_;show SeqAt.RcAt A s (.ref a) (.ref b) (gK ds es);have z:=SeqAt.RcAt.tuples (e:=pO ds es) p1 p2 bw (λj g1 g2=>pC I ds es A.in1 xs ys i1 i2 (by show A.units+1+eZ ds<cLine;have:A.units+(eZ ds+1)<cLine:=hu;omega) r r' v1 v2 j (by simpa using g1) (by simpa using g2));have zz:((List.range (min i1.toArray.size i2.toArray.size)).all (pO ds es)&&i1.toArray.size==i2.toArray.size)=gK ds es:=by
   rw[Co,Co,<- m1,<- m2,<- l1,<- l2];by_cases hl:ds.length=es.length
   ·rw[hl,afR,<- hl,oZ hl];simp[hl]
   ·rw[o8 hl,afb.mpr hl,aeN]
  rw[zz]at z;exact z
theorem pC (I:Inv X pins σ H s):∀(ds es:List Dv) (A:Around) (xs ys:List V) (us vs:List vn),A.units+eZ ds<cLine->aG X.K H ds xs->aG X.K H es ys->Vals xs us->Vals ys vs ->
  ∀(j:Nat) (h1:j<us.length) (h2:j<vs.length),SeqAt.EqAt A s us[j] vs[j] (pO ds es j)
 |[],es=>λA xs ys us vs hu h1 h2 r1 r2 j g1 g2=>by
  obtain rfl:xs=[]:=h1;cases r1;exact absurd g1 (WJ _)
 |d::ds,[] => λA xs ys us vs hu h1 h2 r1 r2 j g1 g2=>by
  obtain rfl:ys=[]:=h2;cases r2;exact absurd g2 (WJ _)
 |d::ds,e::es=>λA xs ys us vs hu h1 h2 r1 r2 j g1 g2=>by
  obtain⟨x,r,rfl,a,b⟩:=h1;obtain⟨y,q,rfl,a',b'⟩:=h2;cases r1 with
  |cons c1 t1=>cases r2 with
   |cons c2 t2=>
    have hm:eZ (d::ds)=max (dH d) (eZ ds):=rfl;rw[hm]at hu;cases j with
    |zero=>exact aaO I d e A x y _ _ (LP (Nat.add_le_add_left (Nat.le_max_left _ _) _) hu) a a' c1 c2
    |succ j=>exact pC I ds es A r q _ _ (LP (Nat.add_le_add_left (Nat.le_max_right _ _) _) hu) b b' t1 t2 j (by simpa using g1) (by simpa using g2)
end
def Qa (K:Frag)(neg:Bool):R2:=λx y H Q=>∃d e,((∃ds es,d=.lst ds/\e=.lst es)\/∃ds es,d=.tup ds/\e=.tup es)/\Hv K H d x/\Hv K H e y/\dH d<=50/\Q (.bl (if neg then !bZ d e else bZ d e)) H
theorem DX (hr:X.A.units+64<cLine):cS X (compareOp .Eq) (Qa X.K false):=by
 intro pins s σ H x y v u Q I rx ry h;obtain⟨d,e,hk,h1,h2,hd,q⟩:_:=h;have bw:X.A.units<cLine:='O'
 obtain⟨ds,es,rfl,rfl⟩|⟨ds,es,rfl,rfl⟩:_:=hk
 ·obtain⟨a,xs,rfl,q1,r⟩:=h1;obtain⟨b,ys,rfl,q2,r'⟩:=h2;cases rx;cases ry;obtain⟨i1,v1,p1,_⟩:=I.list q1;obtain⟨i2,v2,p2,_⟩:=I.list q2;have l1:=r.length;have l2:=r'.length;have m1:=v1.length;have m2:=v2.length;have qw:eZ ds+1<=50:=hd;by_cases hl:ds.length=es.length
  ·refine SeqAt.eq_listAt p1.isList p2.isList (by simp;lia) bw (λj g1 g2=>pC I ds es X.A.in1 xs ys i1 i2 (by show X.A.units+1+eZ ds<cLine;lia) r r' v1 v2 j (by simpa using g1) (by simpa using g2)) ?_;rw[Co,<- m1,<- l1,oZ hl];exact⟨.bl _,H,I,rfl,q⟩
  ·refine SeqAt.eq_list_lengthsAt p1.isList p2.isList (by simp;lia) bw ⟨.bl _,H,I,rfl,?_⟩;have z:bZ (.lst ds) (.lst es)=false:=o8 hl;rw[z]at q;exact q
 ·obtain⟨a,xs,rfl,q1,r⟩:=h1;obtain⟨b,ys,rfl,q2,r'⟩:=h2;cases rx;cases ry;obtain⟨i1,v1,p1,_⟩:=I.tuple q1;obtain⟨i2,v2,p2,_⟩:=I.tuple q2;have l1:=r.length;have l2:=r'.length;have m1:=v1.length;have m2:=v2.length;have qw:eZ ds+1<=50:=hd;refine SeqAt.eq_tupleAt p1 p2 bw (λj g1 g2=>pC I ds es X.A.in1 xs ys i1 i2 (by show X.A.units+1+eZ ds<cLine;lia) r r' v1 v2 j (by simpa using g1) (by simpa using g2)) ⟨.bl _,H,I,rfl,?_⟩;have zz:((List.range (min i1.toArray.size i2.toArray.size)).all (pO ds es)&&i1.toArray.size==i2.toArray.size)=gK ds es:=by
   rw[Co,Co,<- m1,<- m2,<- l1,<- l2];by_cases hl:ds.length=es.length
   ·rw[hl,afR,<- hl,oZ hl];simp[hl]
   ·rw[o8 hl,afb.mpr hl,aeN]
  rw[zz];exact q
theorem MQ (hr:X.A.units+64<cLine):cS X (compareOp .NotEq) (Qa X.K true):=by
 intro pins s σ H x y v u Q I rx ry h;obtain⟨d,e,hk,h1,h2,hd,q⟩:_:=h;have bw:X.A.units<cLine:='Z'
 obtain⟨ds,es,rfl,rfl⟩|⟨ds,es,rfl,rfl⟩:_:=hk
 ·obtain⟨a,xs,rfl,q1,r⟩:=h1;obtain⟨b,ys,rfl,q2,r'⟩:=h2;cases rx;cases ry;obtain⟨i1,v1,p1,_⟩:=I.list q1;obtain⟨i2,v2,p2,_⟩:=I.list q2;have l1:=r.length;have l2:=r'.length;have m1:=v1.length;have m2:=v2.length;have qw:eZ ds+1<=50:=hd;by_cases hl:ds.length=es.length
  ·refine SeqAt.RcNeAt.lists p1.isList p2.isList (by simp;omega) bw (λj g1 g2=>pC I ds es X.A.in1 xs ys i1 i2 (by show X.A.units+1+eZ ds<cLine;omega) r r' v1 v2 j (by simpa using g1) (by simpa using g2)) _ _ _ _ ?_;rw[Co,<- m1,<- l1,oZ hl];exact⟨.bl _,H,I,rfl,q⟩
  ·refine SeqAt.RcNeAt.lists_lengths p1.isList p2.isList (by simp;omega) bw _ _ _ _ ⟨.bl _,H,I,rfl,?_⟩;have z:bZ (.lst ds) (.lst es)=false:=o8 hl;rw[z]at q;exact q
 ·obtain⟨a,xs,rfl,q1,r⟩:=h1;obtain⟨b,ys,rfl,q2,r'⟩:=h2;cases rx;cases ry;obtain⟨i1,v1,p1,_⟩:=I.tuple q1;obtain⟨i2,v2,p2,_⟩:=I.tuple q2;have l1:=r.length;have l2:=r'.length;have m1:=v1.length;have m2:=v2.length;have qw:eZ ds+1<=50:=hd;refine SeqAt.RcNeAt.tuples p1 p2 bw (λj g1 g2=>pC I ds es X.A.in1 xs ys i1 i2 (by show X.A.units+1+eZ ds<cLine;omega) r r' v1 v2 j (by simpa using g1) (by simpa using g2)) _ _ _ _ ⟨.bl _,H,I,rfl,?_⟩;have zz:((List.range (min i1.toArray.size i2.toArray.size)).all (pO ds es)&&i1.toArray.size==i2.toArray.size)=gK ds es:=by
   rw[Co,Co,<- m1,<- m2,<- l1,<- l2];by_cases hl:ds.length=es.length
   ·rw[hl,afR,<- hl,oZ hl];simp[hl]
   ·rw[o8 hl,afb.mpr hl,aeN]
  rw[zz];exact q
end
end L2
namespace L2
open PySem PySem.Spec PyProof.Rows
structure fE (K:Frag) (x qual:Str) (st:afW) (dV:vn) (f:adG) (fd:FuncData):Prop where
 ex:∃(oc:vn) (od:Option adG) (kV doc pm:vn) (an:Option adG) (aL ct:vn) (iY:Array (Option vn)),
  fd=fnOf x qual (eV st) (dw st) (aA st) dV kV doc pm an aL ct/\K.lookup f=some ⟨oc,od,.func fd,iY⟩/\codeIn K aL qual=true
 kp:keepIn K (.ref f)=true
structure Kn (P:afU) (w:afV) (K:Frag) (mg:Str->Option vn) (base:Heap) (CX:qC) (k:Nat) (x:Str) (f:adG) (fd:FuncData) (ps:List Str) (sp:Sp):Prop where
 ok:bQ P w K mg base CX k f fd ps sp
 QZ:mg x=some (.ref f)
 kp:keepIn K (.ref f)=true
 bd:Binds K fd ps []
section
variable {K:Frag}
theorem fE.ok {st:afW}(F:fE K x qual st dV f fd)(S:aZ N ps (aA st))(len:∀vs H Q E,sp vs H Q E->vs.length=ps.length)(E9:∀aL A outer s H vs Q E,dA k (A.deeper (envOfC qual (aA st) s.heap.objs.size f aL))->sp vs H Q E ->
   ∃t,gw (lO bx P w K mg base N qual (aA st) f aL A outer s H E).v7 (dw st) t/\t {nx:=λ_ H'=>Q .aY H',rt:=Q} (start N vs) H):bQ P w K mg base bx (k+1) f fd ps sp:=by
 obtain⟨oc,od,kV,doc,pm,an,aL,ct,iY,rfl,lk,jU⟩:_:=F.ex;refine abN lk jU S len λA outer s H vs Q E hr oK=>?_
 obtain⟨t,h,q⟩:=E9 aL A outer s H vs Q E hr oK;exact⟨t,h.v7,q⟩
theorem Lb {st:afW}{kV:vn}(l:K.lookup f=some ⟨oc,od,.func (fnOf x qual (eV st) (dw st) (aA st) dV kV doc pm an aL ct),iY⟩)(c:codeIn K aL qual=true)(k:keepIn K (.ref f)=true):fE K x qual st dV f (fnOf x qual (eV st) (dw st) (aA st) dV kV doc pm an aL ct):=⟨⟨oc,od,kV,doc,pm,an,aL,ct,iY,rfl,l,c⟩,k⟩
theorem fE.binds {st:afW}(F:fE K x qual st dV f fd)(h:∀kV doc pm an aL ct us,us.length=ps.length->bindArgs (fnOf x qual (eV st) (dw st) (aA st) dV kV doc pm an aL ct) ⟨us,[]⟩=pure (ps.zip us)):Binds K fd ps []:=by
 obtain⟨oc,od,kV,doc,pm,an,aL,ct,iY,rfl,lk,jU⟩:_:=F.ex;exact .all (h kV doc pm an aL ct)
end
section
variable {p pos:Pos}
theorem Fe (F:Kn X.prog X.w X.K X.mg X.base bx k x f fd ps sp)(hr:dA k X.A)(hg:Gl X x)(ha:PA X (e::es) t)(fc:(x==("__debug__":Str))=false:=by decide)(he:starEach (e::es) X.env=(false,eval e X.env)::starEach es X.env:=by rfl)(dv:(backTo pos (starEach es X.env)).any (·.1)=false:=by rfl):
  PE X (.Call (.Name x p) (e::es) [] pos) (sL sp [] E0 t):=KS F.ok hr hg F.QZ F.kp F.bd .nil mQ ha fc he dv
end
section
variable {K:Frag}
theorem Ca (hj : σ[j]?=some (some (.ref a)))(hx:aK K H a xs)(Pv:Nat->St->Hp->Prop)(h0:Pv 0 σ H)(hk:∀i σ H,i<=xs.length->Pv i σ H->aK K H a xs)(hs:∀i x σ H,xs[i]?=some x->Pv i σ H->g x σ H λdg H2=>tb {D with nx:=Pv (i+1),ct:=Pv (i+1),bk:=D.nx} dg H2)(hd:∀σ H,Pv xs.length σ H->D.nx σ H):vK (sI K (dG j)) g tb D σ H:=
 ⟨_,hj,a,rfl,⟨xs,hx⟩,Xs Pv h0 hk hs hd⟩
end
def abQ (K:Frag):R2:=λx y H Q=>∃l b xs zs,x=.ref l/\y=.ref b/\aK K H l xs/\aK K H b zs/\xs.length+zs.length<=sizeLine/\∀p,H p=none->Q (.ref p) (upd H p (.lst (xs++zs)))
section
theorem OY (pins:List (adG×Obj))(s1:adJ)(aq:St)(H1:Hp)(Q:Bool->Hp->Prop)(I:Inv Y pins aq H1 s1)(h:Q true H1):wpAny (model Y.prog Y.w) Y.A (mG [] Y.env) (TP Y pins aq Q) cU s1:=
 wpAny_pure ⟨H1,I,h⟩
theorem OZ (ht:PT Y c tt)(hx:Y.xe=cU)(pins:List (adG×Obj))(s1:adJ)(aq:St)(H1:Hp)(Q:Bool->Hp->Prop)(I:Inv Y pins aq H1 s1)(h:tt aq H1 Q):wpAny (model Y.prog Y.w) Y.A (mG [c] Y.env) (TP Y pins aq Q) cU s1:=by
 have z:=ht pins s1 aq H1 Q I h
 simp_all
end
def Lc:TT:=λ_ H Q=>Q true H
section
theorem Ld:cS X (binaryOp .Add) (abQ X.K):=by
 intro pins s σ H x y v u Q I rx ry h;obtain⟨l,b,xs,zs,rfl,rfl,hH,hB,hz,q⟩:_:=h;cases rx;cases ry;obtain⟨its,r,⟨⟨cl,dd,da,sl⟩,n,e,c1,c2,d1⟩,z⟩:_:=I.list hH;obtain⟨ig,r2,⟨⟨cl2,dd2,da2,sl2⟩,n2,e2,c3,c4,d2⟩,z2⟩:_:=I.list hB;subst c1 d1 c3 d2;have l1:=r.length;have l2:=r2.length;refine concat_meets ⟨_,e,rfl⟩ ⟨_,e2,rfl⟩ noFill_list_add seq_list_add PySem.F.slot_list_add PySem.F.entry_list_add (PySem.F.args_list_add_2 _ _) (list_addW l b its.toArray ig.toArray n n2 dd dd2 sl sl2 'J') ⟨e,e2,?_⟩;have ea:its.toArray++ig.toArray=(its++ig).toArray:='Y'
 rw[ea];exact⟨.ref _,_,I.zS (t':=s.toks) (r.append r2) 'J',rfl,q _ I.fresh⟩
end
end L2
namespace L2
open PySem
theorem UE:bootBuiltins "isinstance"=some (.builtin "isinstance"):='W'
theorem aaP:bootBuiltins "abs"=some (.builtin "abs"):='W'
theorem MR:bootBuiltins "len"=some (.builtin "len"):='W'
theorem MS:bootBuiltins "sum"=some (.builtin "sum"):='W'
theorem aaQ:bootBuiltins "min"=some (.builtin "min"):='W'
theorem JE:bootBuiltins "sorted"=some (.builtin "sorted"):='W'
theorem aaR:bootBuiltins "any"=some (.builtin "any"):='W'
theorem DY:bootBuiltins "int"=some (.type "int"):='W'
theorem Le:bootBuiltins "bool"=some (.type "bool"):='W'
theorem uD:bootBuiltins "list"=some (.type "list"):='W'
theorem XA:bootBuiltins "tuple"=some (.type "tuple"):='W'
theorem aaS:bootBuiltins "zip"=some (.type "zip"):='W'
theorem Vd:bootBuiltins "enumerate"=some (.type "enumerate"):='W'
end L2
namespace L2
open PySem PySem.Spec PyProof.Rows
def gk (cells:List (Str×adG)):List (Str×NameKind)->List (Str×adG)->List (Str×adG)
 |[],cs=>cs
 |(n,k)::r,cs=>gk cells r (if k==.free then (n,(cells.lookup n).getD 0)::cs else cs)
theorem Lf (h:∀p∈sc.names,p.2=.free->∃c,env.cells.lookup p.1=some c):closureFor sc env=pure (gk env.cells sc.names []):=by
 have key:∀(names) (cs),(∀p∈names,p.2=.free->∃c,env.cells.lookup p.1=some c) ->
   (forIn names cs λx t=>match x with
    |(name,kind)=>if(kind==NameKind.free)=true then do
       let a<-cellOf env name
       pure (ForInStep.yield ((name,a)::t))
      else pure (ForInStep.yield t))=(pure (gk env.cells names cs)):=by
  intro names
  induction names with
  |nil=>intro cs _;rfl
  |cons p r ih=>
   intro cs hp;obtain⟨n,k⟩:=p;rw[List.forIn_cons];cases hk:k==NameKind.free with
   |true=>
    obtain⟨c,hc⟩:=hp (n,k) (.head _) (Cc.mp hk);have kH:=hc;have e1:cellOf env n=pure c:=by unfold cellOf;rw[kH]
    have e2:gk env.cells ((n,k)::r) cs=gk env.cells r ((n,c)::cs):=by
     show gk env.cells r (if(k==NameKind.free)=true then _ else _)=_;rw[hk,kH,uu rfl]
     rfl
    rw[e2,<- ih ((n,c)::cs) λq hq=>hp q (.tail _ hq)];simp only[hk,e1]
    rfl
   |false=>
    have e2:gk env.cells ((n,k)::r) cs=gk env.cells r cs:=by
     show gk env.cells r (if(k==NameKind.free)=true then _ else _)=_;rw[hk,rf 'Q']
    rw[e2,<- ih cs λq hq=>hp q (.tail _ hq)];simp only[hk]
    rfl
 simp only[closureFor];rw[key sc.names [] h]
 rfl
theorem Cb:∀names cs,(∀p∈names,p.2=.free->∃c,cells.lookup p.1=some c)->(∀y c,cs.lookup y=some c->cells.lookup y=some c) ->
  ∀y c,(gk cells names cs).lookup y=some c->cells.lookup y=some c
 |[] => λ_ _ h=>h
 |(n,k)::r=>λcs hp h=>by
  refine Cb r _ (λq hq=>hp q (.tail _ hq)) λy c e=>?_
  split at e
  ·rename_i hk
   obtain⟨c0,hc⟩:=hp (n,k) (.head _) (Cc.mp hk)
   grind
  ·simp_all
theorem Jp:∀names cs y,(∃c,cs.lookup y=some c)->∃c,(gk cells names cs).lookup y=some c
 |[],_,_,h=>h
 |(n,k)::r,cs,y,⟨c,h⟩=>by
  refine Jp r _ y ?_
  grind
theorem k7:∀names cs y,(y,NameKind.free)∈names->∃c,(gk cells names cs).lookup y=some c
 |[] => λ_ _ h=>nomatch h
 |(n,k)::r=>λcs y h=>by
  obtain e|h:=ff.mp h
  ·have e1:=congrArg (·.1) e;refine Jp r _ _ ?_
   simp_all
  ·exact k7 r _ y h
theorem mem_of_lookup {κ β:Type} [BEq κ] [LawfulBEq κ]{l:List (κ×β)}{y : κ}{k : β}(h:l.lookup y=some k):(y,k)∈l:=by
 induction l with
 |nil=>cases h
 |cons p r ih=>
  grind
section
variable {K:Frag}
structure YY (N:List Str) (cK sc:Scope) (fr:List Nat):Prop where
 kind:sc.kind=.function
 O1:cK.kind=.function
 aaT:∀y∈sc.names,y.2≠.cell
 loc:∀y∈sc.names,y.2=.local->sc.names.lookup y.1=some .local
 qJ:∀y∈sc.names,y.2=.free->cK.names.lookup y.1=some .cell
 fG:∀j∈fr,sc.names.lookup (N.getD j "")=some .free/\j<N.length
theorem rA {env:Env}:∀{names:List (Str×NameKind)} {y:Str} {k:NameKind},(names.map λ(n,k)=>if(k==NameKind.free&&env.scope.kind==.function&&env.kindOf n==some .cell)then (n,NameKind.cell)else (n,k)).lookup y=some k ->
  ∃k0,names.lookup y=some k0/\(k=k0\/(k=.cell/\k0=.free))
 |[],_,_,h=>by cases h
 |(n,k0)::r,y,k,h=>by
  rw[JJ]at h;simp only at h;split at h
  ·rename_i hc
   rw[LF]at h ⊢;split at h
   ·simp_all
   ·exact rA h
  ·rw[LF]at h ⊢;split at h
   ·simp_all
   ·exact rA h
theorem tY {env:Env}:∀{names:List (Str×NameKind)} {y:Str},names.lookup y=some .free ->
  (names.map λ(n,k)=>if(k==NameKind.free&&env.scope.kind==.function&&env.kindOf n==some .cell)then (n,NameKind.cell)else (n,k)).lookup y=some .cell \/
  (names.map λ(n,k)=>if(k==NameKind.free&&env.scope.kind==.function&&env.kindOf n==some .cell)then (n,NameKind.cell)else (n,k)).lookup y=some .free
 |[],_,h=>by cases h
 |(n,k0)::r,y,h=>by
  rw[JJ];rw[LF]at h;simp only;split at h
  ·grind
  ·rename_i hy
   split
   ·rw[LF,hy];exact tY h
   ·rw[LF,hy];exact tY h
structure XB (N:List Str) (cK sc:Scope) (fr:List Nat):Prop where
 kind:sc.kind=.function
 O1:cK.kind=.function
 own:∀y∈sc.names,y.2=.cell->∀z∈sc.names,z.2=.free->z.1≠y.1
 loc:∀y∈sc.names,y.2=.local->sc.names.lookup y.1=some .local
 qJ:∀y∈sc.names,y.2=.free->cK.names.lookup y.1=some .cell
 fG:∀j∈fr,sc.names.lookup (N.getD j "")=some .free/\j<N.length
theorem B2:∀names cs y,(∀z∈names,z.2=.free->z.1≠y)->cs.lookup y=none->(gk cells names cs).lookup y=none
 |[] => λ_ _ _ h=>h
 |(n,k)::r=>λcs y hn h=>by
  refine B2 r _ y (λz hz=>hn z (.tail _ hz)) ?_;split
  ·rename_i hk
   have iZ:=hn (n,k) (.head _) (Cc.mp hk)
   grind
  ·exact h
theorem A4 {env:Env}:∀{names:List (Str×NameKind)} {y:Str},names.lookup y=some .cell ->
  (names.map λ(n,k)=>if(k==NameKind.free&&env.scope.kind==.function&&env.kindOf n==some .cell)then (n,NameKind.cell)else (n,k)).lookup y=some .cell
 |[],_,h=>by cases h
 |(n,k0)::r,y,h=>by
  rw[JJ];rw[LF]at h;simp only;split at h
  ·simp_all
  ·rename_i hy
   split
   ·rw[LF,hy];exact A4 h
   ·rw[LF,hy];exact A4 h
theorem Ge (L:XB N cK sc fr):hJ ((lO CX P w K mg base N qual cK f cd A outer s H E).jl XE) sc (gk (cellsFrom (s.heap.objs.size+1) cK.names []) sc.names []) fr:=by
 have ot:∀p∈sc.names,p.2=.free->∃c,(cellsFrom (s.heap.objs.size+1) cK.names []).lookup p.1=some c:=λp hp e=>CG (L.qJ p hp e)
 refine⟨Lf ot,L.kind,λy hy=>B2 _ _ y (L.own _ hy rfl) rfl,L.loc,Cb _ _ ot (λ_ _ e=>nomatch e),λy hy=>?_,λj hj=>?_⟩
 ·have hk:sc.names.lookup y=some .free\/sc.names.lookup y=some .cell:=by
   obtain hy|hy:=hy
   ·obtain⟨k0,h1,h2⟩:=rA hy
    grind
   ·obtain⟨k0,h1,h2⟩:=rA hy;lia
  exact hk.imp (λq=>k7 _ _ y (mem_of_lookup q)) mem_of_lookup
 ·obtain⟨h1,h2⟩:=L.fG j hj;have hm:=mem_of_lookup h1;have h3:=L.qJ _ hm rfl;refine⟨N.getD j "",?_,?_,.inr (.inl h3),?_,k7 _ _ _ hm⟩
  ·show N[j]?=some (N.getD j "")
   simp_all
  ·exact tY h1
  ·intro z;have z':cK.names.lookup (N.getD j "")=some .local:=z;lia
theorem lcs (L:YY N cK sc fr):hJ ((lO CX P w K mg base N qual cK f cd A outer s H E).jl XE) sc (gk (cellsFrom (s.heap.objs.size+1) cK.names []) sc.names []) fr:=
 Ge ⟨L.kind,L.O1,λy hy e=>absurd e (L.aaT y hy),L.loc,L.qJ,L.fG⟩
theorem cg {sc:Scope}{fr:List Nat}(a:sc.kind=.function:=by rfl)(b:cK.kind=.function:=by rfl)(c:∀y∈sc.names,y.2≠.cell:=by decide +kernel)(d:∀y∈sc.names,y.2=.local->sc.names.lookup y.1=some .local:=by decide +kernel)(e:∀y∈sc.names,y.2=.free->cK.names.lookup y.1=some .cell:=by decide +kernel)(g:∀j∈fr,sc.names.lookup (N.getD j "")=some .free/\j<N.length:=by decide +kernel):hJ ((lO CX P w K mg base N qual cK f cd A outer s H E).jl XE) sc (gk (cellsFrom (s.heap.objs.size+1) cK.names []) sc.names []) fr:=lcs ⟨a,b,c,d,e,g⟩
end
structure J6 (N:List Str) (cK sc:Scope) (fr:List Nat):Prop where
 kind:sc.kind=.function
 own:∀y∈sc.names,y.2=.cell->∀z∈sc.names,z.2=.free->z.1≠y.1
 loc:∀y∈sc.names,y.2=.local->sc.names.lookup y.1=some .local
 qJ:∀y∈sc.names,y.2=.free->cK.names.lookup y.1=some .cell\/cK.names.lookup y.1=some .free
 fG:∀j∈fr,sc.names.lookup (N.getD j "")=some .free/\j<N.length
theorem acD
  (L:J6 (pY++qK.map λj=>X.N.getD j "") cK sc fr)(wA:∀y,(y,NameKind.free)∈cK.names->∃c,tu.lookup y=some c):
  hJ (dM X pY qK cK tu C s H ex pn) sc (gk (cellsFrom (C+1) cK.names tu) sc.names []) fr:=by
 have ot:∀p∈sc.names,p.2=.free->∃c,(cellsFrom (C+1) cK.names tu).lookup p.1=some c:=λp hp e=>by
  obtain q|q:=L.qJ p hp e
  ·exact yR _ _ _ _ (mem_of_lookup q)
  ·exact uC _ _ _ _ (wA _ (mem_of_lookup q))
 refine⟨Lf ot,L.kind,λy hy=>B2 _ _ y (L.own _ hy rfl) rfl,L.loc,Cb _ _ ot (λ_ _ e=>nomatch e),λy hy=>?_,λj hj=>?_⟩
 ·have hk:sc.names.lookup y=some .free\/sc.names.lookup y=some .cell:=by
   obtain hy|hy:=hy
   ·obtain⟨k0,h1,h2⟩:=rA hy
    grind
   ·obtain⟨k0,h1,h2⟩:=rA hy
    simp_all
  exact hk.imp (λq=>k7 _ _ y (mem_of_lookup q)) mem_of_lookup
 ·obtain⟨h1,h2⟩:=L.fG j hj;have hm:=mem_of_lookup h1;have hv:(relabel cK X.env).names.lookup ((pY++qK.map λj=>X.N.getD j "").getD j "")=some .cell\/(relabel cK X.env).names.lookup ((pY++qK.map λj=>X.N.getD j "").getD j "")=some .free:=by
   obtain q|q:=L.qJ _ hm rfl
   ·exact .inl (A4 q)
   ·exact tY q
  refine⟨_,?_,tY h1,.inr hv,λz=>?_,k7 _ _ _ hm⟩
  ·show(pY++qK.map λj=>X.N.getD j "")[j]?=some _
   simp_all
  ·have z':(relabel cK X.env).names.lookup ((pY++qK.map λj=>X.N.getD j "").getD j "")=some .local:=z;lia
section
variable {K:Frag}
theorem YZ (h:X.K=K):wk X (F0 K):=h▸aaJ
theorem J7 (h:X.K=K):wk X (zR K):=h▸nR
theorem WQ (h:X.K=K):fA X (.builtin "len") (λxs H Q=>∃p ys,xs=[.ref p]/\(aK K H p ys\/cO K H p ys)/\Q (.int ys.length) H):=h▸Vb
end
theorem aj.tup {K:Frag}{H H':Hp}{a:adG}{xs:List V}(e:aj H H')(h:cO K H a xs):cO K H' a xs:=by
 obtain (h|⟨o,h⟩)|h:=h
 ·exact .inl (.inl (e _ _ h))
 ·exact .inl (.inr ⟨o,e _ _ h⟩)
 ·exact .inr h
theorem aj.upd (e:aj H H')(hp:H p=none):aj H (L2.upd H' p o):=λb u h=>by
 rw[aH (j8 h hp)];exact e b u h
theorem aj.new (hp:H p=none):aj H (L2.upd H p o):=(aj.refl H).upd hp
theorem lg {a:Int}(h0 : 0<=a)(h:a<2^60):a.natAbs<2^8000:=by
 lia
section
variable {K:Frag}
theorem qD.d {st:afW}(F:qD K x qual st f fd):fE K x qual st .none f fd:=⟨F.ex,F.kp⟩
end
section
theorem XC (r:Vals (bs.map V.bl) its):PyProof.Rows.LSm.BoolsAre its bs:=by
 induction bs generalizing its with
 |nil=>cases r;exact .nil
 |cons y ys ih=>
  cases r with
  |cons r1 rr=>
   cases r1
   exact .cons _ (ih rr)
end
inductive Tr where
 |fz (d:Dv)
 |ow (ts:List Tr)
 |tp (ts:List Tr)
mutual
noncomputable def Ow (K:Frag)(G H:Hp):Tr->V->List adG->Prop
 | .fz d,v,fp=>fp=[]/\Hv K G d v
 | .ow ts,v,fp=>∃a vs fq,v=.ref a/\H a=some (.lst vs)/\aT K G H ts vs fq/\fp=a::fq
 | .tp ts,v,fp=>∃a vs fq,v=.ref a/\H a=some (.tup vs)/\aT K G H ts vs fq/\fp=a::fq
noncomputable def aT (K:Frag)(G H:Hp):List Tr->List V->List adG->Prop
 |[],vs,fp=>vs=[]/\fp=[]
 |t::ts,vs,fp=>∃v r f1 f2,vs=v::r/\fp=f1++f2/\Ow K G H t v f1/\aT K G H ts r f2
end
mutual
noncomputable def er:Tr->Dv
 | .fz d=>d
 | .ow ts=>.lst (fj ts)
 | .tp ts=>.tup (fj ts)
noncomputable def fj:List Tr->List Dv
 |[] => []
 |t::ts=>er t::fj ts
end
theorem pD:∀ts,fj ts=ts.map er
 |[] => rfl
 |t::ts=>by rw[fj,pD ts];rfl
mutual
theorem Hv.mono {K:Frag}{G G':Hp}(e:aj G G'):∀{d:Dv} {v:V},Hv K G d v->Hv K G' d v
 | .fl _,_,h=>h
 | .lst ds,_,⟨a,xs,h1,h2,h3⟩=>⟨a,xs,h1,e.seq h2,aG.mono e h3⟩
 | .tup ds,_,⟨a,xs,h1,h2,h3⟩=>⟨a,xs,h1,e.tup h2,aG.mono e h3⟩
theorem aG.mono {K:Frag}{G G':Hp}(e:aj G G'):∀{ds:List Dv} {vs:List V},aG K G ds vs->aG K G' ds vs
 |[],_,h=>h
 |_::_,_,⟨x,r,h1,h2,h3⟩=>⟨x,r,h1,h2.mono e,aG.mono e h3⟩
end
mutual
theorem Ow.mono {K:Frag}{G G' H H':Hp}(e:aj G G')(e':aj H H'):∀{t:Tr} {v:V} {fp:List adG},Ow K G H t v fp->Ow K G' H' t v fp
 | .fz _,_,_,⟨h1,h2⟩=>⟨h1,h2.mono e⟩
 | .ow _,_,_,⟨a,vs,fq,h1,h2,h3,h4⟩=>⟨a,vs,fq,h1,e' _ _ h2,aT.mono e e' h3,h4⟩
 | .tp _,_,_,⟨a,vs,fq,h1,h2,h3,h4⟩=>⟨a,vs,fq,h1,e' _ _ h2,aT.mono e e' h3,h4⟩
theorem aT.mono {K:Frag}{G G' H H':Hp}(e:aj G G')(e':aj H H'):∀{ts:List Tr} {vs:List V} {fp:List adG},aT K G H ts vs fp->aT K G' H' ts vs fp
 |[],_,_,h=>h
 |_::_,_,_,⟨v,r,f1,f2,h1,h2,h3,h4⟩=>⟨v,r,f1,f2,h1,h2,h3.mono e e',aT.mono e e' h4⟩
end
mutual
theorem Ow.frame {K:Frag}{G H:Hp}{a:adG}{o:HO}:∀{t:Tr} {v:V} {fp:List adG},Ow K G H t v fp->a∉fp->Ow K G (upd H a o) t v fp
 | .fz _,_,_,h,_=>h
 | .ow _,_,_,⟨b,vs,fq,h1,h2,h3,h4⟩,n=>by
  subst h4;refine⟨b,vs,fq,h1,?_,aT.frame h3 λz=>n (.tail _ z),rfl⟩;rw[aH λz=>n (by rw[z];exact .head _)];exact h2
 | .tp _,_,_,⟨b,vs,fq,h1,h2,h3,h4⟩,n=>by
  subst h4;refine⟨b,vs,fq,h1,?_,aT.frame h3 λz=>n (.tail _ z),rfl⟩;rw[aH λz=>n (by rw[z];exact .head _)];exact h2
theorem aT.frame {K:Frag}{G H:Hp}{a:adG}{o:HO}:∀{ts:List Tr} {vs:List V} {fp:List adG},aT K G H ts vs fp->a∉fp->aT K G (upd H a o) ts vs fp
 |[],_,_,h,_=>h
 |_::_,_,_,⟨v,r,f1,f2,h1,h2,h3,h4⟩,n=>by
  subst h2;exact⟨v,r,f1,f2,h1,rfl,h3.frame λz=>n (xw _ z),aT.frame h4 λz=>n (i4 _ z)⟩
end
mutual
theorem Ow.there {K:Frag}{G H:Hp}:∀{t:Tr} {v:V} {fp:List adG},Ow K G H t v fp->∀a∈fp,∃o,H a=some o
 | .fz _,_,_,⟨h,_⟩,a,ha=>by subst h;cases ha
 | .ow _,_,_,⟨b,vs,fq,h1,h2,h3,h4⟩,a,ha=>by
  subst h4;obtain rfl|ha:=ff.mp ha
  ·exact⟨_,h2⟩
  ·exact aT.there h3 a ha
 | .tp _,_,_,⟨b,vs,fq,h1,h2,h3,h4⟩,a,ha=>by
  subst h4;obtain rfl|ha:=ff.mp ha
  ·exact⟨_,h2⟩
  ·exact aT.there h3 a ha
theorem aT.there {K:Frag}{G H:Hp}:∀{ts:List Tr} {vs:List V} {fp:List adG},aT K G H ts vs fp->∀a∈fp,∃o,H a=some o
 |[],_,_,⟨_,h⟩,a,ha=>by subst h;cases ha
 |_::_,_,_,⟨v,r,f1,f2,h1,h2,h3,h4⟩,a,ha=>by
  subst h2;obtain ha|ha:=qr.mp ha
  ·exact h3.there a ha
  ·exact aT.there h4 a ha
end
mutual
theorem Ow.hv {K:Frag}{G H G':Hp}(e:aj G G'):∀{t:Tr} {v:V} {fp:List adG},Ow K G H t v fp->(∀a∈fp,G' a=H a)->Hv K G' (er t) v
 | .fz _,_,_,⟨_,h⟩,_=>h.mono e
 | .ow _,_,_,⟨b,vs,fq,h1,h2,h3,h4⟩,q=>by
  subst h4;exact⟨b,vs,h1,aK.of ((q b (.head _)).trans h2),aT.hv e h3 λa ha=>q a (.tail _ ha)⟩
 | .tp _,_,_,⟨b,vs,fq,h1,h2,h3,h4⟩,q=>by
  subst h4;exact⟨b,vs,h1,cO.of ((q b (.head _)).trans h2),aT.hv e h3 λa ha=>q a (.tail _ ha)⟩
theorem aT.hv {K:Frag}{G H G':Hp}(e:aj G G'):∀{ts:List Tr} {vs:List V} {fp:List adG},aT K G H ts vs fp->(∀a∈fp,G' a=H a)->aG K G' (fj ts) vs
 |[],_,_,⟨h,_⟩,_=>h
 |_::_,_,_,⟨v,r,f1,f2,h1,h2,h3,h4⟩,q=>by
  subst h2;exact⟨v,r,h1,h3.hv e λa ha=>q a (xw _ ha),aT.hv e h4 λa ha=>q a (i4 _ ha)⟩
end
theorem aT.length {K:Frag}:∀{ts:List Tr} {vs:List V} {fp:List adG},aT K G H ts vs fp->ts.length=vs.length
 |[],_,_,z9=>by obtain⟨h,_⟩:=z9;simp_all
 |_::_,_,_,z9=>by obtain⟨v,r,f1,f2,h1,h2,h3,h4⟩:=z9;subst h1;rw[IF,IF,aT.length h4]
theorem aT.append {K:Frag}:∀{ts us:List Tr} {vs ws:List V} {f1 f2:List adG},aT K G H ts vs f1->aT K G H us ws f2->aT K G H (ts++us) (vs++ws) (f1++f2)
 |[],us,_,ws,_,f2,z9,q=>by obtain⟨h,h'⟩:=z9;simp_all
 |_::_,us,_,ws,_,f2,z9,q=>by
  obtain⟨v,r,g1,g2,h1,h2,h3,h4⟩:=z9;subst h1 h2;exact⟨v,r++ws,g1,g2++f2,rfl,'J',h3,aT.append h4 q⟩
theorem aG.jW {K:Frag}:∀{ds:List Dv} {vs:List V},aG K G ds vs->aT K G H (ds.map .fz) vs []
 |[],_,h=>⟨h,rfl⟩
 |_::_,_,⟨x,r,h1,h2,h3⟩=>⟨x,r,[],[],h1,rfl,⟨rfl,h2⟩,aG.jW h3⟩
structure Step (G H G' H':Hp):Prop where
 g:aj G G'
 h:aj H H'
 s:aj G' H'
 n:∀a,G a=none->G' a≠none->H a=none
theorem Step.refl (s:aj G H):Step G H G H:=⟨aj.refl _,aj.refl _,s,λa h h'=>absurd h h'⟩
theorem Step.trans (a:Step G H G1 H1)(b:Step G1 H1 G2 H2):Step G H G2 H2:=
 ⟨a.g.trans b.g,a.h.trans b.h,b.s,λx h h'=>by
  cases q:G1 x with
  |none=>exact a.h.free (b.n x q h')
  |some o=>exact a.n x h 'J'⟩
theorem aj.acE (s:aj G H):aj (L2.upd G p o) (L2.upd H p o):=λb u h=>by
 unfold L2.upd at h ⊢;split
 ·simp_all
 ·rename_i e;rw[rf e]at h;exact s b u h
theorem Step.new (s:aj G H)(hp:H p=none):Step G H (upd G p o) (upd H p o):=
 ⟨aj.new (s.free hp),aj.new hp,s.acE,λa h h'=>by
  grind [aH]⟩
theorem Step.jR (s:aj G H)(hp:H p=none):Step G H G (upd H p o):=
 ⟨aj.refl _,aj.new hp,s.trans (aj.new hp),λa h h'=>absurd h h'⟩
structure Nw (H G':Hp) (fq:List adG):Prop where
 n:∀a∈fq,H a=none
 g:∀a∈fq,G' a=none
 d:fq.Nodup
theorem Nw.nil:Nw H G []:=⟨λ_ h=>(nomatch h),λ_ h=>(nomatch h),.nil⟩
def Kv (K:Frag)(G H:Hp)(t:Tr)(Q:VK):Prop:=∀v G' H' fq,Step G H G' H'->Ow K G' H' t v fq->Nw H G' fq->Q v H'
theorem Kv.step {K:Frag}(k:Kv K G H t Q)(e:Step G H G1 H1):Kv K G1 H1 t Q:=λv G' H' fq st o w=>
 k v G' H' fq (e.trans st) o ⟨λa ha=>e.h.free (w.n a ha),w.g,w.d⟩
def cR (G H:Hp)(fq:List adG):Hp:=λa=>if a∈fq then H a else G a
theorem dE (h:a∈fq):cR G H fq a=H a:=by unfold cR;rw[uu h]
theorem o9 (h:a∉fq):cR G H fq a=G a:=by unfold cR;rw[rf h]
theorem gh (h:∀a∈fq,G a=none):aj G (cR G H fq):=λb o e=>by
 grind [o9]
theorem gi (s:aj G H):aj (cR G H fq) H:=λb o e=>by
 by_cases q:b∈fq
 ·rw[dE q]at e;exact e
 ·rw[o9 q]at e;exact s b o e
theorem Step.eS {G H G' H':Hp}{fq:List adG}(e:Step G H G' H')(w:Nw H G' fq):Step G H (cR G' H' fq) H':=
 ⟨e.g.trans (gh w.g),e.h,gi e.s,λa h h'=>by
  by_cases q:a∈fq
  ·exact w.n a q
  ·rw[o9 q]at h';exact e.n a h h'⟩
structure aU (ι:Type) where
 cx : ι->Cx
 P:afU
 w:afV
 K:Frag
 mg:Str->Option vn
 base:Heap
 room:Nat
 hP:∀i,(cx i).prog=P
 hw:∀i,(cx i).w=w
 hK:∀i,(cx i).K=K
 hm:∀i,(cx i).mg=mg
 hb:∀i,(cx i).base=base
 hr:∀i,dA room (cx i).A
 calm:∀i,(cx i).calm=true
abbrev En:=List (Option Tr)
def aX (K:Frag)(G:Hp)(ρ:En)(σ:St):Prop:=∀(j:Nat) (d:Dv),ρ[j]?=some (some (Tr.fz d))->∃v,σ[j]?=some (some v)/\Hv K G d v
theorem aX.mono {K:Frag}(e:aj G G')(r:aX K G ρ σ):aX K G' ρ σ:=λj d h=>by
 obtain⟨v,h1,h2⟩:=r j d h;exact⟨v,h1,h2.mono e⟩
section
def Ev (F:aU ι)(e:Expr)(ρ:En)(t:Tr):Prop:=∃τ:TE,(∀i,PE (F.cx i) e τ)/\∀σ G H Q,aj G H->aX F.K G ρ σ->Kv F.K G H t Q->τ σ H Q
def Et (F:aU ι)(e:Expr)(ρ:En)(b:Bool):Prop:=∃τ:TT,(∀i,PT (F.cx i) e τ)/\∀σ G H Q,aj G H->aX F.K G ρ σ->(∀G' H',Step G H G' H'->Q b H')->τ σ H Q
def jy (F:aU ι)(es:List Expr)(ρ:En)(ts:List Tr):Prop:=∃τ:TA,(∀i,PA (F.cx i) es τ)/\∀σ G H Q,aj G H->aX F.K G ρ σ ->
 (∀vs G' H' fq,Step G H G' H'->aT F.K G' H' ts vs fq->Nw H G' fq->Q vs H')->τ σ H Q
variable {F:aU ι}
theorem Ev.use (h:Ev F e ρ t):∃τ,(∀i,PE (F.cx i) e τ)/\∀σ G H (Q:VK),aj G H->aX F.K G ρ σ->(∀v G' H',Step G H G' H'->Hv F.K G' (er t) v->Q v H')->τ σ H Q:=by
 obtain⟨τ,p,q⟩:_:=h;refine⟨τ,p,λσ G H Q s r k=>q σ G H Q s r λv G' H' fq st o w=>?_⟩;exact k v (cR G' H' fq) H' (st.eS w) (o.hv (gh w.g) λa ha=>dE ha)
theorem Ev.fz (h:Ev F e ρ t):Ev F e ρ (.fz (er t)):=by
 obtain⟨τ,p,q⟩:=h.use;exact⟨τ,p,λσ G H Q s r k=>q σ G H Q s r λv G' H' st hv=>k v G' H' [] st ⟨rfl,hv⟩ .nil⟩
theorem Ev.as (h:Ev F e ρ t)(ed:er t=d):Ev F e ρ (.fz d):=ed▸h.fz
theorem jy.use (h:jy F es ρ ts):∃τ,(∀i,PA (F.cx i) es τ)/\∀σ G H (Q:List V->Hp->Prop),aj G H->aX F.K G ρ σ->(∀vs G' H',Step G H G' H'->aG F.K G' (fj ts) vs->Q vs H')->τ σ H Q:=by
 obtain⟨τ,p,q⟩:_:=h;refine⟨τ,p,λσ G H Q s r k=>q σ G H Q s r λv G' H' fq st o w=>?_⟩;exact k v (cR G' H' fq) H' (st.eS w) (o.hv (gh w.g) λa ha=>dE ha)
theorem ao:jy F [] ρ []:=⟨d8,λi=>cG,λσ G H Q s r k=>k [] G H [] (.refl s) ⟨rfl,rfl⟩ .nil⟩
theorem Nw.app (w1:Nw H G1 f1)(w2:Nw H1 G2 f2)(hh:aj H H1)(th:∀a∈f1,∃o,H1 a=some o)(hg:∀a,G1 a=none->G2 a≠none->H1 a=none):Nw H G2 (f1++f2):=
 ⟨λa ha=>(qr.mp ha).elim (w1.n a) λz=>hh.free (w2.n a z),λa ha=>(qr.mp ha).elim (λz=>by
   cases q:G2 a with
   |none=>rfl
   |some o=>
    obtain⟨u,hu⟩:=th a z;have:=hg a (w1.g a z) 'J'
    simp_all) (w2.g a),
  AN.mpr ⟨w1.d,w2.d,λa ha b hb e=>by
   subst e;obtain⟨u,hu⟩:=th a ha;rw[w2.n a hb]at hu;cases hu⟩⟩
theorem ah (ha:Ev F e ρ t)(hr:jy F es ρ ts)(hs:∀i,starEach (e::es) (F.cx i).env=(false,eval e (F.cx i).env)::starEach es (F.cx i).env:=by intro _;rfl):jy F (e::es) ρ (t::ts):=by
 obtain⟨τ,p,q⟩:_:=ha;obtain⟨bJ,p',q'⟩:=hr;refine⟨dR τ bJ,λi=>cf (p i) (p' i) (hs i),λσ G H Q s r k=>?_⟩;refine q σ G H _ s r λv G1 H1 f1 s1 o1 w1=>q' σ G1 H1 _ s1.s (r.mono s1.g) λvs G2 H2 f2 s2 o2 w2=>?_
 exact k (v::vs) G2 H2 (f1++f2) (s1.trans s2) ⟨v,vs,f1,f2,rfl,rfl,o1.mono s2.g s2.h,o2⟩ (w1.app w2 s1.h (λa ha=>o1.there a ha) s2.n)
end
end L2
namespace L2
open PySem PySem.Spec PyProof.Rows
abbrev di (n:Int):Dv:=.fl (.int n)
abbrev db (b:Bool):Dv:=.fl (.bl b)
abbrev dn:Dv:=.fl .aY
abbrev ds (x:Str):Dv:=.fl (.str x)
abbrev dis (ns:LI):Dv:=.lst (ns.map di)
abbrev ti (n:Int):Tr:=.fz (di n)
abbrev tb (b:Bool):Tr:=.fz (db b)
abbrev tn:Tr:=.fz dn
abbrev tx (x:Str):Tr:=.fz (ds x)
theorem Kv.sc {K:Frag}(k:Kv K G H (.fz (.fl v)) Q)(s:aj G H)(f:iP v=true):Q v H:=k v G H [] (.refl s) ⟨rfl,rfl,f⟩ .nil
theorem Kv.dat {K:Frag}(k:Kv K G H (.fz d) Q)(s:aj G H)(h:Hv K G d v):Q v H:=k v G H [] (.refl s) ⟨rfl,h⟩ .nil
theorem Kv.lst {K:Frag}{G H:Hp}{ts:List Tr}{vs:List V}{Q:VK}(k:Kv K G H (.ow ts) Q)(s:aj G H)(h:aT K G H ts vs []){p:adG}(hp:H p=none):Q (.ref p) (upd H p (.lst vs)):=
 k (.ref p) G _ [p] (.jR s hp) ⟨p,vs,[],rfl,bM,h.mono (aj.refl _) (aj.new hp),rfl⟩ ⟨λa ha=>'J',λa ha=>by rw[BB.mp ha];exact s.free hp,'Y'⟩
theorem aS {K:Frag}(h:Hv K G (.fl v) x):x=v:=h.1
section
variable {F:aU ι}{ρ:En}{pos:Pos}
theorem ae (j:Nat)(h : ρ[j]?=some (some (.fz d)))(hN:∀i,(F.cx i).N[j]?=some x:=by intro _;rfl)(hv:∀i,iW (F.cx i).env.scope x:=by intro _;first|exact Or.inl rfl|exact Or.inr (Or.inl rfl)|exact Or.inr (Or.inr rfl))(hd:(x==("__debug__":Str))=false:=by decide)(hc:(x==("__classdict__":Str))=false:=by decide):Ev F (.Name x pos) ρ (.fz d):=
 ⟨dG j,λi=>lu (hN i) (hv i) hd hc,λσ G H Q s r k=>by
  obtain⟨v,h1,h2⟩:=r j d h;exact⟨v,h1,k.dat s h2⟩⟩
theorem ak:Ev F (.Constant (.int n) j pos) ρ (ti n):=⟨_,λi=>yJ,λσ G H Q s r k=>k.sc s rfl⟩
theorem vk:Ev F (.Constant (.bool n) j pos) ρ (tb n):=⟨_,λi=>OL,λσ G H Q s r k=>k.sc s rfl⟩
theorem aaU:Ev F (.Constant .none j pos) ρ tn:=⟨_,λi=>MB,λσ G H Q s r k=>k.sc s rfl⟩
theorem DZ:Ev F (.Constant (.str n) j pos) ρ (tx n):=⟨_,λi=>MC,λσ G H Q s r k=>k.sc s rfl⟩
theorem Dd (hm:F.mg x=some u)(r:RelV v u)(f:iP v=true)(hg:∀i,Gl (F.cx i) x:=by intro _;rfl)(hd:(x==("__debug__":Str))=false:=by decide):Ev F (.Name x pos) ρ (.fz (.fl v)):=
 ⟨tC v,λi=>YJ (hg i) ((F.hm i).symm▸hm) r hd,λσ G H Q s _ k=>k.sc s f⟩
theorem nZ (ho:∀i,cS (F.cx i) (binaryOp op) r)(ha:Ev F a ρ ta)(hb:Ev F b ρ tb')(h:∀G H x y Q,aj G H->Hv F.K G (er ta) x->Hv F.K G (er tb') y->Kv F.K G H t Q->r x y H Q):Ev F (.BinOp a op b pos) ρ t:=by
 obtain⟨τ,p,q⟩:=ha.use;obtain⟨bJ,p',q'⟩:=hb.use;refine⟨jv r τ bJ,λi=>sJ (ho i) (p i) (p' i),λσ G H Q s rr k=>?_⟩;refine q σ G H _ s rr λx G1 H1 s1 hx=>q' σ G1 H1 _ s1.s (rr.mono s1.g) λy G2 H2 s2 hy=>?_
 exact h G2 H2 x y Q s2.s (hx.mono s2.g) hy (k.step (s1.trans s2))
theorem eI (ha:Ev F a ρ (ti i))(hb:Ev F b ρ (ti j)):Ev F (.BinOp a .Add b pos) ρ (ti (i+j)):=nZ (λ_=>MJ) ha hb λG H x y Q s hx hy k=>⟨i,j,aS hx,aS hy,k.sc s rfl⟩
theorem D0 (ha:Ev F a ρ (ti i))(hb:Ev F b ρ (ti j)):Ev F (.BinOp a .Sub b pos) ρ (ti (i-j)):=nZ (λ_=>yO) ha hb λG H x y Q s hx hy k=>⟨i,j,aS hx,aS hy,k.sc s rfl⟩
theorem kn (ha:Ev F a ρ (ti i))(hb:Ev F b ρ (ti j))(hc:OX i j):Ev F (.BinOp a .Mult b pos) ρ (ti (i*j)):=nZ (λ_=>YX) ha hb λG H x y Q s hx hy k=>⟨i,j,aS hx,aS hy,hc,k.sc s rfl⟩
theorem hW (ha:Ev F a ρ (ti i))(hb:Ev F b ρ (ti j))(hc:vj i j):Ev F (.BinOp a .FloorDiv b pos) ρ (ti (i/j)):=nZ (λ_=>Xz) ha hb λG H x y Q s hx hy k=>⟨i,j,aS hx,aS hy,hc,k.sc s rfl⟩
theorem dP (ha:Ev F a ρ (ti i))(hb:Ev F b ρ (ti j))(hc : 0<j):Ev F (.BinOp a .Mod b pos) ρ (ti (i%j)):=nZ (λ_=>aaF) ha hb λG H x y Q s hx hy k=>⟨i,j,aS hx,aS hy,hc,k.sc s rfl⟩
theorem aaV (ha:Ev F a ρ (ti i))(hb:Ev F b ρ (ti j))(hc:P0 i j):Ev F (.BinOp a .Pow b pos) ρ (ti (i^j.toNat)):=nZ (λ_=>aaG) ha hb λG H x y Q s hx hy k=>⟨i,j,aS hx,aS hy,hc,k.sc s rfl⟩
theorem yS (ha:Ev F a ρ (ti i)):Ev F (.UnaryOp .USub a pos) ρ (ti (-i)):=by
 obtain⟨τ,p,q⟩:_:=ha.use;exact⟨_,λi=>abI aaH (p i),λσ G H Q s rr k=>q σ G H _ s rr λx G1 H1 s1 hx=>⟨i,aS hx,(k.step s1).sc s1.s rfl⟩⟩
theorem se (ha:Ev F a ρ ta)(hb:Ev F b ρ tb')(ea:er ta=.lst xs)(eb:er tb'=.lst ys)(hz:xs.length+ys.length<=sizeLine):Ev F (.BinOp a .Add b pos) ρ (.ow ((xs++ys).map .fz)):=
 nZ (λi=>F.hK i▸Ld) ha hb λG H x y Q s hx hy k=>by
  rw[ea]at hx;rw[eb]at hy;obtain⟨l,vs,rfl,h1,h2⟩:=hx;obtain⟨l',ws,rfl,h3,h4⟩:=hy;refine⟨l,l',vs,ws,rfl,rfl,s.seq h1,s.seq h3,by rw[<- h2.length,<- h4.length];exact hz,λp hp=>?_⟩;refine k.lst s ?_ hp;rw[B0];exact h2.jW.append h4.jW
theorem uU {c:Bool}(ho:∀i,cS (F.cx i) (compareOp op) r)(ha:Ev F a ρ ta)(hb:Ev F b ρ tb')(h:∀G H x y (Q:VK),aj G H->Hv F.K G (er ta) x->Hv F.K G (er tb') y->Q (.bl c) H->r x y H Q)(hm:behindInMarks op b=false):Ev F (.Compare a [op] [b] pos) ρ (tb c):=by
 obtain⟨τ,p,q⟩:_:=ha.use;obtain⟨bJ,p',q'⟩:_:=hb.use;refine⟨jv r τ bJ,λi=>YM (ho i) (p i) (p' i) hm,λσ G H Q s rr k=>?_⟩;refine q σ G H _ s rr λx G1 H1 s1 hx=>q' σ G1 H1 _ s1.s (rr.mono s1.g) λy G2 H2 s2 hy=>?_
 exact h G2 H2 x y Q s2.s (hx.mono s2.g) hy ((k.step (s1.trans s2)).sc s2.s rfl)
theorem lz {c:Bool}(ho:∀i,cS (F.cx i) (compareOp op) r)(ha:Ev F a ρ ta)(hb:Ev F b ρ tb')(h:∀G H x y (Q:VK),aj G H->Hv F.K G (er ta) x->Hv F.K G (er tb') y->Q (.bl c) H->r x y H Q)(hm:behindInMarks op b=false):Et F (.Compare a [op] [b] pos) ρ c:=by
 obtain⟨τ,p,q⟩:_:=ha.use;obtain⟨bJ,p',q'⟩:=hb.use;refine⟨EZ (jv r τ bJ),λi=>C7 (ho i) (p i) (p' i) hm,λσ G H Q s rr k=>?_⟩;refine q σ G H _ s rr λx G1 H1 s1 hx=>q' σ G1 H1 _ s1.s (rr.mono s1.g) λy G2 H2 s2 hy=>?_
 exact h G2 H2 x y _ s2.s (hx.mono s2.g) hy ⟨c,rfl,k G2 H2 (s1.trans s2)⟩
theorem pP (ha:Ev F a ρ (ti i))(hb:Ev F b ρ (ti j)):Et F (.Compare a [.Lt] [b] pos) ρ (decide (i<j)):=lz (λ_=>OU) ha hb (λG H x y Q s hx hy k=>⟨i,j,aS hx,aS hy,k⟩) (gG _)
theorem lH (ha:Ev F a ρ (ti i))(hb:Ev F b ρ (ti j)):Et F (.Compare a [.Gt] [b] pos) ρ (decide (j<i)):=lz (λ_=>EY) ha hb (λG H x y Q s hx hy k=>⟨i,j,aS hx,aS hy,k⟩) (gG _)
theorem gI (ha:Ev F a ρ (ti i))(hb:Ev F b ρ (ti j)):Et F (.Compare a [.Eq] [b] pos) ρ (decide (i=j)):=lz (λ_=>zu) ha hb (λG H x y Q s hx hy k=>by
 rw[aS hx,aS hy];exact⟨rfl,'J'⟩) (gG _)
theorem vm (ha:Ev F a ρ (ti i))(hb:Ev F b ρ (ti j)):Et F (.Compare a [.NotEq] [b] pos) ρ (!decide (i=j)):=lz (λ_=>abJ) ha hb (λG H x y Q s hx hy k=>by
 rw[aS hx,aS hy];exact⟨rfl,'J'⟩) (gG _)
theorem Ff (ha:Ev F a ρ (ti i))(hb:Ev F b ρ (ti j)):Ev F (.Compare a [.Lt] [b] pos) ρ (tb (decide (i<j))):=uU (λ_=>OU) ha hb (λG H x y Q s hx hy k=>⟨i,j,aS hx,aS hy,k⟩) (gG _)
theorem abR (ha:Ev F a ρ (ti i))(hb:Ev F b ρ (ti j)):Ev F (.Compare a [.Gt] [b] pos) ρ (tb (decide (j<i))):=uU (λ_=>EY) ha hb (λG H x y Q s hx hy k=>⟨i,j,aS hx,aS hy,k⟩) (gG _)
theorem abS (ha:Ev F a ρ (ti i))(hb:Ev F b ρ (ti j)):Ev F (.Compare a [.GtE] [b] pos) ρ (tb (decide (j<=i))):=uU (λ_=>abK) ha hb (λG H x y Q s hx hy k=>⟨i,j,aS hx,aS hy,k⟩) (gG _)
theorem abT (ha:Ev F a ρ (ti i))(hb:Ev F b ρ (ti j)):Ev F (.Compare a [.Eq] [b] pos) ρ (tb (decide (i=j))):=uU (λ_=>zu) ha hb (λG H x y Q s hx hy k=>by
 rw[aS hx,aS hy];exact⟨rfl,'J'⟩) (gG _)
def uV (d e:Dv):Prop:=(∃xs ys,d=.lst xs/\e=.lst ys)\/∃xs ys,d=.tup xs/\e=.tup ys
theorem yT (ha:Ev F a ρ ta)(hb:Ev F b ρ tb')(hk:uV (er ta) (er tb'))(hd:dH (er ta)<=50):Et F (.Compare a [.Eq] [b] pos) ρ (bZ (er ta) (er tb')):=
 lz (λi=>F.hK i▸DX (F.hr i).units) ha hb (λG H x y Q s hx hy k=>⟨_,_,hk,hx.mono s,hy.mono s,hd,k⟩) (gG _)
theorem iM (ha:Ev F a ρ ta)(hb:Ev F b ρ tb')(hk:uV (er ta) (er tb'))(hd:dH (er ta)<=50):Et F (.Compare a [.NotEq] [b] pos) ρ (!bZ (er ta) (er tb')):=
 lz (λi=>F.hK i▸MQ (F.hr i).units) ha hb (λG H x y Q s hx hy k=>⟨_,_,hk,hx.mono s,hy.mono s,hd,k⟩) (gG _)
theorem yU (ha:Ev F a ρ ta)(hb:Ev F b ρ tb')(hk:uV (er ta) (er tb'))(hd:dH (er ta)<=50):Ev F (.Compare a [.Eq] [b] pos) ρ (tb (bZ (er ta) (er tb'))):=
 uU (λi=>F.hK i▸DX (F.hr i).units) ha hb (λG H x y Q s hx hy k=>⟨_,_,hk,hx.mono s,hy.mono s,hd,k⟩) (gG _)
theorem nN {K:Frag}:∀{ns:LI} {vs:List V},aG K G (ns.map di) vs->vs=ns.map V.int
 |[],_,h=>h
 |_::_,_,z9=>by obtain⟨x,r,h1,h2,h3⟩:=z9;subst h1;rw[aS h2,nN h3];rfl
theorem ke {K:Frag}:∀{ns:LI},aG K G (ns.map di) (ns.map V.int)
 |[] => rfl
 |_::_=>⟨_,_,rfl,⟨rfl,rfl⟩,ke⟩
theorem J8 (n:Int):∀ns:LI,Am (.int n) (ns.map V.int)=ns.any λm=>m==n
 |[] => rfl
 |m::ms=>by
  show(jV (.int m) (.int n)||Am (.int n) (ms.map V.int))=_;rw[J8 n ms];rfl
theorem WR (ns:LI):(ns.map V.int).all iP=true:=by rw[List.all_map];exact adZ.mpr λ_ _=>rfl
theorem Ve (n:Int)(ns:LI):(ns.any λm=>m==n)=ns.contains n:=by
 grind
theorem MT (eb:er tb'=dis ns)(s:aj G H)(hx:Hv F.K G (er (ti n)) x)(hy:Hv F.K G (er tb') y)(k:Q (.bl (if neg then !ns.contains n else ns.contains n)) H):GO F.K neg x y H Q:=by
 rw[eb]at hy;obtain⟨l,vs,rfl,h1,h2⟩:=hy;have:=nN h2;subst this;rw[aS hx];refine⟨l,_,rfl,.inl (s.seq h1),rfl,WR ns,?_⟩;rw[J8,Ve];exact k
theorem zx (ha:Ev F a ρ (ti n))(hb:Ev F b ρ tb')(eb:er tb'=dis ns)(hm:behindInMarks .In b=false):Et F (.Compare a [.In] [b] pos) ρ (ns.contains n):=
 lz (λi=>F.hK i▸WM) ha hb (λG H x y Q s hx hy k=>MT eb s hx hy k) hm
theorem nO (ha:Ev F a ρ (ti n))(hb:Ev F b ρ tb')(eb:er tb'=dis ns)(hm:behindInMarks .NotIn b=false):Et F (.Compare a [.NotIn] [b] pos) ρ (!ns.contains n):=
 lz (λi=>F.hK i▸Va) ha hb (λG H x y Q s hx hy k=>MT eb s hx hy k) hm
theorem fN {c:Bool}(h:Ev F e ρ (tb c))(he:∀i whole,isTrue e (F.cx i).env whole=(do let v<-whole;standAt e.pos;holding [v] (truthy v)):=by intro _ _;rfl):Et F e ρ c:=by
 obtain⟨τ,p,q⟩:=h;exact⟨tB τ,λi=>MD (p i) (he i),λσ G H Q s r k=>q σ G H _ s r λv G' H' fq st o w=>⟨c,aS o.2,k G' H' st⟩⟩
def Ew (F:aU ι)(e:Expr)(ρ:En)(b:Bool):Prop:=∃τ:TT,(∀i,PW (F.cx i) e τ)/\∀σ G H Q,aj G H->aX F.K G ρ σ->(∀G' H',Step G H G' H'->Q b H')->τ σ H Q
theorem Ew.et (h:Ew F e ρ p):Et F e ρ p:=by obtain⟨τ,a,b⟩:=h;exact⟨τ,λi=>(a i).pt,b⟩
theorem CI:PW X e (λ_ _ _=>False):=λ_ _ _ _ _ _ _ h=>h.elim
theorem nS (h:Et F a ρ p):Ew F (.BoolOp .And [a] pos) ρ p:=by obtain⟨τ,x,y⟩:_:=h;exact⟨τ,λi=>KO (x i),y⟩
theorem lA (h:Et F a ρ p):Ew F (.BoolOp .Or [a] pos) ρ p:=let ⟨τ,x,y⟩:=h;⟨τ,λi=>aaA (x i),y⟩
theorem oe {rest:List Expr}(h:Et F a ρ p)(h2:p=true->Ew F (.BoolOp .And (b::rest) pos) ρ q):Ew F (.BoolOp .And (a::b::rest) pos) ρ (p&&q):=by
 obtain⟨τ,x,y⟩:_:=h;cases p with
 |false=>exact⟨vH τ _,λi=>yK (x i) CI,λσ G H Q s r k=>y σ G H _ s r λG' H' st=>lQ (k G' H' st)⟩
 |true=>
  obtain⟨bJ,x',y'⟩:=h2 rfl;exact⟨vH τ bJ,λi=>yK (x i) (x' i),λσ G H Q s r k=>y σ G H _ s r λG1 H1 s1=>lR (y' σ G1 H1 _ s1.s (r.mono s1.g) λG2 H2 s2=>k G2 H2 (s1.trans s2))⟩
theorem jh {rest:List Expr}(h:Et F a ρ p)(h2:p=false->Ew F (.BoolOp .Or (b::rest) pos) ρ q):Ew F (.BoolOp .Or (a::b::rest) pos) ρ (p||q):=by
 obtain⟨τ,x,y⟩:_:=h;cases p with
 |true=>exact⟨GI τ _,λi=>OM (x i) CI,λσ G H Q s r k=>y σ G H _ s r λG' H' st=>lR (k G' H' st)⟩
 |false=>
  obtain⟨bJ,x',y'⟩:=h2 rfl;exact⟨GI τ bJ,λi=>OM (x i) (x' i),λσ G H Q s r k=>y σ G H _ s r λG1 H1 s1=>lQ (y' σ G1 H1 _ s1.s (r.mono s1.g) λG2 H2 s2=>k G2 H2 (s1.trans s2))⟩
theorem ko (h:Et F a ρ p):Et F (.UnaryOp .Not a pos) ρ (!p):=by
 obtain⟨τ,x,y⟩:=h;exact⟨FQ τ,λi=>ME (x i),λσ G H Q s r k=>y σ G H _ s r k⟩
theorem yd:PE X e (λ_ _ _=>False):=λ_ _ _ _ _ _ h=>h.elim
theorem uW (h:Ev F a ρ t):Ev F (.BoolOp op [a] pos) ρ t:=by obtain⟨τ,x,y⟩:_:=h;exact⟨τ,λi=>aaB (x i),y⟩
theorem D3 {rest:List Expr}(h:Ev F a ρ (tb p))(h2:p=true->Ev F (.BoolOp .And (b::rest) pos) ρ (tb q)):Ev F (.BoolOp .And (a::b::rest) pos) ρ (tb (p&&q)):=by
 obtain⟨τ,x,y⟩:_:=h.use;cases p with
 |false=>exact⟨EX τ _,λi=>MF (x i) yd,λσ G H Q s r k=>y σ G H _ s r λv G' H' st hv=>⟨false,aS hv,lQ ((k.step st).sc st.s rfl)⟩⟩
 |true=>
  obtain⟨bJ,x',y'⟩:=h2 rfl;exact⟨EX τ bJ,λi=>MF (x i) (x' i),λσ G H Q s r k=>y σ G H _ s r λv G1 H1 s1 hv=>⟨true,aS hv,lR (y' σ G1 H1 _ s1.s (r.mono s1.g) (k.step s1))⟩⟩
theorem O2 {rest:List Expr}(h:Ev F a ρ (tb p))(h2:p=false->Ev F (.BoolOp .Or (b::rest) pos) ρ (tb q)):Ev F (.BoolOp .Or (a::b::rest) pos) ρ (tb (p||q)):=by
 obtain⟨τ,x,y⟩:_:=h.use;cases p with
 |true=>exact⟨FR τ _,λi=>OQ (x i) yd,λσ G H Q s r k=>y σ G H _ s r λv G' H' st hv=>⟨true,aS hv,lR ((k.step st).sc st.s rfl)⟩⟩
 |false=>
  obtain⟨bJ,x',y'⟩:=h2 rfl;exact⟨FR τ bJ,λi=>OQ (x i) (x' i),λσ G H Q s r k=>y σ G H _ s r λv G1 H1 s1 hv=>⟨false,aS hv,lQ (y' σ G1 H1 _ s1.s (r.mono s1.g) (k.step s1))⟩⟩
theorem MU (h:Ev F a ρ (tb p)):Ev F (.UnaryOp .Not a pos) ρ (tb (!p)):=by
 obtain⟨τ,x,y⟩:_:=h.use;exact⟨OO τ,λi=>aaC (x i),λσ G H Q s r k=>y σ G H _ s r λv G' H' st hv=>⟨p,aS hv,(k.step st).sc st.s rfl⟩⟩
theorem cu (h:jy F es ρ ts)(hz:ts.length<=sizeLine):Ev F (.List es pos) ρ (.ow ts):=by
 obtain⟨τ,x,y⟩:_:=h;refine⟨P5 τ,λi=>DR (x i),λσ G H Q s r k=>y σ G H _ s r λvs G1 H1 fq s1 o w=>⟨by rw[<- o.length];exact hz,λp hp=>?_⟩⟩;have np:p∉fq:=λz=>by
  obtain⟨u,hu⟩:=o.there p z
  simp_all
 exact k (.ref p) G1 _ (p::fq) (s1.trans (.jR s1.s hp)) ⟨p,vs,fq,rfl,bM,o.mono (aj.refl _) (aj.new hp),rfl⟩
  ⟨λa ha=>(ff.mp ha).elim (λz=>by rw[z];exact s1.h.free hp) (w.n a),λa ha=>(ff.mp ha).elim (λz=>by rw[z];exact s1.s.free hp) (w.g a),AE.mpr ⟨np,w.d⟩⟩
theorem oh (h:jy F es ρ ts)(hz:ts.length<=sizeLine):Ev F (.Tuple es x1 pos) ρ (.tp ts):=by
 obtain⟨τ,x,y⟩:_:=h;refine⟨FZ τ,λi=>yQ (x i),λσ G H Q s r k=>y σ G H _ s r λvs G1 H1 fq s1 o w=>⟨by rw[<- o.length];exact hz,λp hp=>?_⟩⟩;have np:p∉fq:=λz=>by
  obtain⟨u,hu⟩:=o.there p z
  simp_all
 exact k (.ref p) G1 _ (p::fq) (s1.trans (.jR s1.s hp)) ⟨p,vs,fq,rfl,bM,o.mono (aj.refl _) (aj.new hp),rfl⟩
  ⟨λa ha=>(ff.mp ha).elim (λz=>by rw[z];exact s1.h.free hp) (w.n a),λa ha=>(ff.mp ha).elim (λz=>by rw[z];exact s1.s.free hp) (w.g a),AE.mpr ⟨np,w.d⟩⟩
theorem kj (h:jy F es ρ ts)(ed:fj ts=dd)(hz:ts.length<=sizeLine):Ev F (.Tuple es x1 pos) ρ (.fz (.tup dd)):=ed▸(oh h hz).fz
theorem aG.get {K:Frag}{G:Hp}:∀{ds:List Dv} {vs:List V} {j:Nat} {d:Dv},aG K G ds vs->ds[j]?=some d->∃v,vs[j]?=some v/\Hv K G d v
 |_::_,_,0,_,z9,h=>by obtain⟨x,r,h1,h2,h3⟩:=z9;simp_all
 |_::_,_,j+1,d,z9,h=>by
  obtain⟨x,r,h1,h2,h3⟩:=z9;obtain⟨v,q1,q2⟩:=aG.get h3 h
  simp_all
theorem aG.at {K:Frag}{ds:List Dv}(h:aG K G ds vs)(hk:aP ds k=some d):∃v,aP vs k=some v/\Hv K G d v:=by
 unfold aP at hk ⊢;rw[<- h.length];cases q:fh ds.length k with
 |none=>rw[q]at hk;cases hk
 |some j=>rw[q]at hk;exact h.get hk
theorem bz (ha:Ev F a ρ ta)(hb:Ev F b ρ (ti k))(ea:er ta=.lst xs)(hk:aP xs k=some d)(hs:yw b:=by exact λ_ _=>rfl):Ev F (.Subscript a b pos) ρ (.fz d):=by
 obtain⟨τ,p,q⟩:_:=ha.use;obtain⟨bJ,p',q'⟩:=hb.use;refine⟨jv (zR F.K) τ bJ,λi=>lF (J7 (F.hK i)) (p i) (p' i) hs,λσ G H Q s rr k=>?_⟩;refine q σ G H _ s rr λx G1 H1 s1 hx=>q' σ G1 H1 _ s1.s (rr.mono s1.g) λy G2 H2 s2 hy=>?_
 rw[ea]at hx;obtain⟨l,vs,rfl,h1,h2⟩:=hx;obtain⟨v,h3,h4⟩:=h2.at hk;exact⟨l,vs,_,v,rfl,aS hy,(s2.g.trans s2.s).seq h1,h3,(k.step (s1.trans s2)).dat s2.s (h4.mono s2.g)⟩
theorem bU (ha:Ev F a ρ ta)(hb:Ev F b ρ (ti k))(ea:er ta=.tup xs)(hk:aP xs k=some d)(hs:yw b:=by exact λ_ _=>rfl):Ev F (.Subscript a b pos) ρ (.fz d):=by
 obtain⟨τ,p,q⟩:_:=ha.use;obtain⟨bJ,p',q'⟩:=hb.use;refine⟨jv (F0 F.K) τ bJ,λi=>lF (YZ (F.hK i)) (p i) (p' i) hs,λσ G H Q s rr k=>?_⟩;refine q σ G H _ s rr λx G1 H1 s1 hx=>q' σ G1 H1 _ s1.s (rr.mono s1.g) λy G2 H2 s2 hy=>?_
 rw[ea]at hx;obtain⟨l,vs,rfl,h1,h2⟩:=hx;obtain⟨v,h3,h4⟩:=h2.at hk;exact⟨l,vs,_,v,rfl,aS hy,(s2.g.trans s2.s).tup h1,h3,(k.step (s1.trans s2)).dat s2.s (h4.mono s2.g)⟩
def cutD {α:Type}(xs:List α)(lo hi:Option Int):List α:=(xs.drop (HT.fU xs.length 0 lo)).take (HT.fU xs.length xs.length hi-HT.fU xs.length 0 lo)
theorem aG.drop {K:Frag}:∀{ds:List Dv} {vs:List V} (n:Nat),aG K G ds vs->aG K G (ds.drop n) (vs.drop n)
 |ds,vs,0,h=>h
 |[],_,n+1,h=>by rw[h];exact rfl
 |_::_,_,n+1,z9=>by obtain⟨x,r,h1,h2,h3⟩:=z9;subst h1;exact aG.drop n h3
theorem aG.take {K:Frag}:∀{ds:List Dv} {vs:List V} (n:Nat),aG K G ds vs->aG K G (ds.take n) (vs.take n)
 |ds,vs,0,h=>'X'
 |[],_,n+1,h=>by rw[h];exact rfl
 |_::_,_,n+1,⟨x,r,h1,h2,h3⟩=>by subst h1;exact⟨x,r.take n,rfl,h2,aG.take n h3⟩
theorem aG.cut {K:Frag}{ds:List Dv}(h:aG K G ds vs)(lo hi:Option Int):aG K G (cutD ds lo hi) (sS vs lo hi):=by
 unfold cutD sS;rw[h.length];exact(h.drop _).take _
def Eo (F:aU ι)(e:Option Expr)(ρ:En)(o:Option Int):Prop:=∃τ:TO,(∀i,PO (F.cx i) e τ)/\∀σ G H Q,aj G H->aX F.K G ρ σ->(∀G' H',Step G H G' H'->Q o H')->τ σ H Q
theorem De:Eo F none ρ none:=⟨KU,λ_=>KW,λσ G H Q s r k=>k G H (.refl s)⟩
theorem uF (h:Ev F e ρ (ti n)):Eo F (some e) ρ (some n):=by
 obtain⟨τ,x,y⟩:=h.use;exact⟨OV τ,λi=>KY (x i),λσ G H Q s r k=>y σ G H _ s r λv G' H' st hv=>⟨n,aS hv,k G' H' st⟩⟩
theorem ye {lo:Option Expr}(ha:Ev F a ρ ta)(ea:er ta=.lst xs)(hl:Eo F lo ρ l)(hu:Eo F hi ρ u):Ev F (.Subscript a (.Slice lo hi none p2) pos) ρ (.ow ((cutD xs l u).map .fz)):=by
 obtain⟨τ,p,q⟩:_:=ha.use;obtain⟨Hh,p1,q1⟩:_:=hl;obtain⟨τ2,Q0,q2⟩:=hu;refine⟨QU (P7 F.K) τ Hh τ2,λi=>JY (F.hK i▸K0) (p i) (p1 i) (Q0 i),λσ G H Q s rr k=>?_⟩;refine q σ G H _ s rr λx G1 H1 s1 hx=>q1 σ G1 H1 _ s1.s (rr.mono s1.g) λG2 H2 s2=>q2 σ G2 H2 _ s2.s (rr.mono (s1.trans s2).g) λG3 H3 s3=>?_
 rw[ea]at hx;obtain⟨b,vs,rfl,h1,h2⟩:=hx;have st:=s2.trans s3;exact⟨b,vs,rfl,(st.g.trans st.s).seq h1,λp hp=>(k.step (s1.trans st)).lst st.s ((h2.mono st.g).cut l u).jW hp⟩
theorem uo {id:String}(hc:∀i,fA (F.cx i) (.builtin id) r)(hm:F.mg x=none)(hv:bootBuiltins x=some (.builtin id))(ha:jy F (e::es) ρ ts)(h:∀G H xs Q,aj G H->aG F.K G (fj ts) xs->Kv F.K G H t Q->r xs H Q){p':Pos}(hg:∀i,Gl (F.cx i) x:=by intro _;rfl)(hn:x ≠ "__name__":=by decide)(fc:(x==("__debug__":Str))=false:=by decide)(he:∀i,starEach (e::es) (F.cx i).env=(false,eval e (F.cx i).env)::starEach es (F.cx i).env:=by intro _;rfl)(dv:∀i,(backTo pos (starEach es (F.cx i).env)).any (·.1)=false:=by intro _;rfl):Ev F (.Call (.Name x p') (e::es) [] pos) ρ t:=by
 obtain⟨τ,y,z⟩:_:=ha.use;refine⟨me r τ,λi=>uk (hc i) (hg i) ((F.hm i).symm▸hm) hv (y i) hn fc (he i) (dv i),λσ G H Q s rr k=>z σ G H _ s rr λvs G1 H1 s1 hx=>?_⟩;exact h G1 H1 vs Q s1.s hx (k.step s1)
theorem J9 (hc:∀i,fA (F.cx i) (.type T) r)(hm:F.mg x=none)(hv:bootBuiltins x=some (.type T))(ha:jy F (e::es) ρ ts)(h:∀G H xs Q,aj G H->aG F.K G (fj ts) xs->Kv F.K G H t Q->r xs H Q){p':Pos}(hg:∀i,Gl (F.cx i) x:=by intro _;rfl)(hn:x ≠ "__name__":=by decide)(fc:(x==("__debug__":Str))=false:=by decide)(he:∀i,starEach (e::es) (F.cx i).env=(false,eval e (F.cx i).env)::starEach es (F.cx i).env:=by intro _;rfl)(dv:∀i,(backTo pos (starEach es (F.cx i).env)).any (·.1)=false:=by intro _;rfl):Ev F (.Call (.Name x p') (e::es) [] pos) ρ t:=by
 obtain⟨τ,y,z⟩:_:=ha.use;refine⟨me r τ,λi=>xY (hc i) (hg i) ((F.hm i).symm▸hm) hv (y i) hn fc (he i) (dv i),λσ G H Q s rr k=>z σ G H _ s rr λvs G1 H1 s1 hx=>?_⟩;exact h G1 H1 vs Q s1.s hx (k.step s1)
theorem iQ {K:Frag}(h:aG K G [d] xs):∃x,xs=[x]/\Hv K G d x:=by
 obtain⟨x,r,h1,h2,h3⟩:_:=h;exact⟨x,by rw[h1,h3],h2⟩
theorem pZ {K:Frag}(h:aG K G [d,d'] xs):∃x y,xs=[x,y]/\Hv K G d x/\Hv K G d' y:=by
 obtain⟨x,r,h1,h2,h3⟩:_:=h;obtain⟨y,rfl,h4⟩:_:=iQ h3
 grind
theorem bV (hm:F.mg "len"=none)(ha:Ev F e ρ ta)(ea:er ta=.lst xs\/er ta=.tup xs){p':Pos}(hg:∀i,Gl (F.cx i) "len":=by intro _;rfl)(hs:∀i,starEach [e] (F.cx i).env=[(false,eval e (F.cx i).env)]:=by intro _;rfl):Ev F (.Call (.Name "len" p') [e] [] pos) ρ (ti xs.length):=
 uo (λi=>WQ (F.hK i)) hm MR (ah ha ao hs) (λG H vs Q s hx k=>by
  obtain⟨x,rfl,eF⟩:=iQ hx
  replace hx:=eF
  obtain ea|ea:=ea
  ·rw[ea]at hx;obtain⟨l,ys,rfl,h1,h2⟩:=hx;exact⟨l,ys,rfl,.inl (s.seq h1),by rw[<- h2.length];exact k.sc s rfl⟩
  ·rw[ea]at hx;obtain⟨l,ys,rfl,h1,h2⟩:=hx;exact⟨l,ys,rfl,.inr (s.tup h1),by rw[<- h2.length];exact k.sc s rfl⟩) hg 'Q' 'Q' hs (λ_=>rfl)
theorem nT (hm:F.mg "list"=none)(ha:Ev F e ρ ta)(ea:er ta=.lst xs\/er ta=.tup xs){p':Pos}(hg:∀i,Gl (F.cx i) "list":=by intro _;rfl)(hs:∀i,starEach [e] (F.cx i).env=[(false,eval e (F.cx i).env)]:=by intro _;rfl):Ev F (.Call (.Name "list" p') [e] [] pos) ρ (.ow (xs.map .fz)):=
 J9 (λi=>F.hK i▸Vc) hm uD (ah ha ao hs) (λG H vs Q s hx k=>by
  obtain⟨x,rfl,eF⟩:=iQ hx
  replace hx:=eF
  obtain ea|ea:=ea
  ·rw[ea]at hx;obtain⟨l,ys,rfl,h1,h2⟩:=hx;exact⟨l,ys,rfl,.inl (s.seq h1),λp hp=>k.lst s h2.jW hp⟩
  ·rw[ea]at hx;obtain⟨l,ys,rfl,h1,h2⟩:=hx;exact⟨l,ys,rfl,.inr (s.tup h1),λp hp=>k.lst s h2.jW hp⟩) hg 'Q' 'Q' hs (λ_=>rfl)
theorem MV (hm:F.mg "sum"=none)(ha:Ev F e ρ ta)(ea:er ta=dis ns){p':Pos}(hg:∀i,Gl (F.cx i) "sum":=by intro _;rfl)(hs:∀i,starEach [e] (F.cx i).env=[(false,eval e (F.cx i).env)]:=by intro _;rfl):Ev F (.Call (.Name "sum" p') [e] [] pos) ρ (ti ns.sum):=
 uo (λi=>F.hK i▸J1 (F.calm i)) hm MS (ah ha ao hs) (λG H vs Q s hx k=>by
  obtain⟨x,rfl,eF⟩:=iQ hx
  replace hx:=eF
  rw[ea]at hx;obtain⟨l,ys,rfl,h1,h2⟩:=hx;have:=nN h2;subst this;exact⟨l,ns,rfl,s.seq h1,k.sc s rfl⟩) hg 'Q' 'Q' hs (λ_=>rfl)
theorem Ea (hm:F.mg "abs"=none)(ha:Ev F e ρ (ti n)){p':Pos}(hg:∀i,Gl (F.cx i) "abs":=by intro _;rfl)(hs:∀i,starEach [e] (F.cx i).env=[(false,eval e (F.cx i).env)]:=by intro _;rfl):Ev F (.Call (.Name "abs" p') [e] [] pos) ρ (ti (if n<0 then -n else n)):=
 uo (λi=>Xu) hm aaP (ah ha ao hs) (λG H vs Q s hx k=>by
  obtain⟨x,rfl,eF⟩:=iQ hx
  replace hx:=eF
  exact⟨n,by rw[aS hx],k.sc s rfl⟩) hg 'Q' 'Q' hs (λ_=>rfl)
def Q1:Dv->vn
 | .fl .aY=>.type "NoneType"
 | .fl (.bl _)=>.type "bool"
 | .fl (.int _)=>.type "int"
 | .fl (.str _)=>.type "str"
 | .fl _=>.none
 | .lst _=>.type "list"
 | .tup _=>.type "tuple"
def Qb (K:Frag)(d:Dv)(n:String)(b:Bool):List V->Hp->VK->Prop:=λxs H Q=>∃x,xs=[x,.ty n]/\Hv K H d x/\PySem.W.kitOne K (Q1 d) (.type n)=some b/\Q (.bl b) H
theorem XD {b:Bool}:fA X (.builtin "isinstance") (Qb X.K d n b):=by
 intro pins s σ H xs us Q I r h;obtain⟨x,rfl,hx,hb,q⟩:_:=h;cases r with
 |cons r1 rr=>cases rr with
  |cons r2 rr=>
   cases rr
   cases (r2)
   have fin:∀tk,EP X pins σ Q (.bool b) {s with toks:=tk}:=λtk=>⟨.bl b,H,I.tok tk,rfl,q⟩
   cases d with
   |fl v=>
    obtain⟨rfl,f⟩:=hx;cases x with
    |aY=>exact xX I r1 .aY hb fin
    |bl y=>exact xX I r1 (.bl y) hb fin
    |int y=>exact xX I r1 (.int y) hb fin
    |str y=>exact xX I r1 (.str y) hb fin
    |jt y=>cases f
    |oG y=>cases f
    |ref y=>cases f
    |ty y=>cases f
   |lst ds=>
    obtain⟨a,xs,rfl,h1,_⟩:=hx;cases r1;obtain⟨its,_,⟨o,n,h2,h3,_⟩,_⟩:=I.list h1;exact aeS afz I.dB ⟨o,h2,h3⟩ hb (λz=>nomatch z) fin
   |tup ds=>
    obtain⟨a,xs,rfl,h1,_⟩:=hx;cases r1;obtain⟨its,_,⟨o,h2,h3,_⟩,_⟩:=I.tuple h1;exact aeS PySem.W.kitx_tuple I.dB ⟨o,h2,h3⟩ hb (λz=>nomatch z) fin
theorem pH (hm:F.mg "isinstance"=none)(i3:F.mg x=none)(hv:bootBuiltins x=some (.type n))(ha:Ev F e ρ ta)(hk:PySem.W.kitOne F.K (Q1 (er ta)) (.type n)=some bo){p' p2:Pos}(hg:∀i,Gl (F.cx i) "isinstance":=by intro _;rfl)(jz:∀i,Gl (F.cx i) x:=by intro _;rfl)(hn:x ≠ "__name__":=by decide)(hd:(x==("__debug__":Str))=false:=by decide)(hs:∀i,starEach [e,.Name x p2] (F.cx i).env=[(false,eval e (F.cx i).env),(false,eval (.Name x p2) (F.cx i).env)]:=by intro _;rfl):Ev F (.Call (.Name "isinstance" p') [e,.Name x p2] [] pos) ρ (tb bo):=by
 obtain⟨τ,y,z⟩:_:=ha.use;refine⟨me (Qb F.K (er ta) n bo) (dR τ (dR (tC (.ty n)) d8)),λi=>uk (F.hK i▸XD) (hg i) ((F.hm i).symm▸hm) UE (cf (y i) (cf (YK (jz i) ((F.hm i).symm▸i3) hv rfl hn hd) cG rfl) (hs i)) 'Q' 'Q' (hs i) rfl,λσ G H Q s rr k=>z σ G H _ s rr λvs G1 H1 s1 hx=>?_⟩;exact⟨vs,rfl,hx.mono s1.s,hk,(k.step s1).sc s1.s rfl⟩
def spT (K:Frag)(R:List Dv->Tr->Prop):Sp:=λvs H Q _=>∃G ds t,aj G H/\aG K G ds vs/\R ds t/\Kv K G H t Q
theorem aW (Fn:Kn F.P F.w F.K F.mg F.base bx k x f fd ps (spT F.K R))(hk:k<=F.room)(ha:jy F (e::es) ρ ts)(hR:R (fj ts) t){p':Pos}(hg:∀i,Gl (F.cx i) x:=by intro _;rfl)(fc:(x==("__debug__":Str))=false:=by decide)(he:∀i,starEach (e::es) (F.cx i).env=(false,eval e (F.cx i).env)::starEach es (F.cx i).env:=by intro _;rfl)(dv:∀i,(backTo pos (starEach es (F.cx i).env)).any (·.1)=false:=by intro _;rfl):Ev F (.Call (.Name x p') (e::es) [] pos) ρ t:=by
 obtain⟨τ,y,z⟩:_:=ha.use;refine⟨sL (spT F.K R) [] E0 τ,λi=>?_,λσ G H Q s rr k=>z σ G H _ s rr λvs G1 H1 s1 hx=>?_⟩
 ·have kN:Kn (F.cx i).prog (F.cx i).w (F.cx i).K (F.cx i).mg (F.cx i).base bx k x f fd ps (spT F.K R):=by
   rw[F.hP i,F.hw i,F.hK i,F.hm i,F.hb i];omega
  exact Fe kN ((F.hr i).mono hk) (hg i) (y i) fc (he i) (dv i)
 ·rw[zw];exact⟨G1,_,t,s1.s,hx,hR,k.step s1⟩
end
def bu (K:Frag)(G H:Hp):En->St->List adG->Prop
 |[],σ,fp=>σ=[]/\fp=[]
 |none::ρ,σ,fp=>∃o r,σ=o::r/\bu K G H ρ r fp
 |some t::ρ,σ,fp=>∃v r f1 f2,σ=some v::r/\fp=f1++f2/\Ow K G H t v f1/\bu K G H ρ r f2
theorem bu.mono {K:Frag}(e:aj G G')(e':aj H H'):∀{ρ:En} {σ:St} {fp:List adG},bu K G H ρ σ fp->bu K G' H' ρ σ fp
 |[],_,_,h=>h
 |none::_,_,_,z9=>by obtain⟨o,r,h1,h2⟩:=z9;exact⟨o,r,h1,bu.mono e e' h2⟩
 |some _::_,_,_,z9=>by obtain⟨v,r,f1,f2,h1,h2,h3,h4⟩:=z9;exact⟨v,r,f1,f2,h1,h2,h3.mono e e',bu.mono e e' h4⟩
theorem bu.frame {K:Frag}:∀{ρ:En} {σ:St} {fp:List adG},bu K G H ρ σ fp->a∉fp->bu K G (upd H a o) ρ σ fp
 |[],_,_,h=>λ_=>h
 |none::_,_,_,⟨o,r,h1,h2⟩=>λn=>⟨o,r,h1,bu.frame h2 n⟩
 |some _::_,_,_,⟨v,r,f1,f2,h1,h2,h3,h4⟩=>λn=>by
  subst h2;exact⟨v,r,f1,f2,h1,rfl,h3.frame λz=>n (xw _ z),bu.frame h4 λz=>n (i4 _ z)⟩
theorem bu.there {K:Frag}:∀{ρ:En} {σ:St} {fp:List adG},bu K G H ρ σ fp->∀a∈fp,∃o,H a=some o
 |[],_,_,z9,a,ha=>by obtain⟨_,h⟩:=z9;simp_all
 |none::_,_,_,z9,a,ha=>by obtain⟨o,r,h1,h2⟩:=z9;exact bu.there h2 a ha
 |some _::_,_,_,z9,a,ha=>by
  obtain⟨v,r,f1,f2,h1,h2,h3,h4⟩:=z9;subst h2;obtain ha|ha:=qr.mp ha
  ·exact h3.there a ha
  ·exact bu.there h4 a ha
theorem bu.off {K:Frag}(r:bu K G H ρ σ fp)(s1:Step G H G1 H1)(g:∀a∈fp,G a=none):∀a∈fp,G1 a=none:=λa ha=>by
 cases q:G1 a with
 |none=>rfl
 |some u=>
  obtain⟨u',bw⟩:=r.there a ha;have:=s1.n a (g a ha) 'J'
  simp_all
theorem bu.tD {K:Frag}:∀{ρ:En} {σ:St} {fp:List adG},bu K G H ρ σ fp->aX K G ρ σ
 |[],_,_,_,j=>λd h=>'J'
 |none::_,_,_,z9,0=>λd h=>by obtain⟨o,r,h1,h2⟩:=z9;cases h
 |none::_,_,_,z9,j+1=>λd h=>by obtain⟨o,r,h1,h2⟩:=z9;subst h1;exact bu.tD h2 j d h
 |some _::_,_,_,z9,0=>λd h=>by obtain⟨v,r,f1,f2,h1,h2,h3,h4⟩:=z9;cases h;subst h1;exact⟨v,rfl,h3.2⟩
 |some _::_,_,_,z9,j+1=>λd h=>by obtain⟨v,r,f1,f2,h1,h2,h3,h4⟩:=z9;subst h1;exact bu.tD h4 j d h
def pk (ρ:En):En:=ρ.map (Option.map λt=>.fz (er t))
theorem bu.pk {K:Frag}(e:aj G G'):∀{ρ:En} {σ:St} {fp:List adG},bu K G H ρ σ fp->(∀a∈fp,G' a=H a)->aX K G' (pk ρ) σ
 |[],_,_,_,_,j=>λd h=>by cases j<;>cases h
 |none::_,_,_,z9,_,0=>λd h=>by obtain⟨o,r,h1,h2⟩:=z9;cases h
 |none::_,_,_,z9,q,j+1=>λd h=>by obtain⟨o,r,h1,h2⟩:=z9;subst h1;exact bu.pk e h2 q j d h
 |some _::_,_,_,z9,q,0=>λd h=>by
  obtain⟨v,r,f1,f2,h1,h2,h3,h4⟩:=z9;cases h;subst h1 h2;exact⟨v,rfl,h3.hv e λa ha=>q a (xw _ ha)⟩
 |some _::_,_,_,z9,q,j+1=>λd h=>by
  obtain⟨v,r,f1,f2,h1,h2,h3,h4⟩:=z9;subst h1 h2;exact bu.pk e h4 (λa ha=>q a (i4 _ ha)) j d h
theorem bu.split {K:Frag}:∀{ρ:En} {σ:St} {fp:List adG} {j:Nat} {t:Tr},bu K G H ρ σ fp->ρ[j]?=some (some t) ->
  ∃v f fr,σ[j]?=some (some v)/\Ow K G H t v f/\bu K G H (ρ.set j none) σ fr/\fp.Perm (f++fr)
 |none::_,_,_,0,_,_,h=>by cases h
 |none::_,_,_,j+1,t,z9,h=>by
  obtain⟨o,r,h1,h2⟩:=z9;subst h1;obtain⟨v,f,fr,q1,q2,q3,q4⟩:_:=bu.split (j:=j) h2 h;exact⟨v,f,fr,q1,q2,⟨o,r,rfl,q3⟩,q4⟩
 |some _::_,_,_,0,t,z9,h=>by
  obtain⟨v,r,f1,f2,h1,h2,h3,h4⟩:=z9;cases h;subst h1 h2;exact⟨v,f1,f2,rfl,h3,⟨some v,r,rfl,h4⟩,.refl _⟩
 |some _::_,_,_,j+1,t,z9,h=>by
  obtain⟨v,r,f1,f2,h1,h2,h3,h4⟩:=z9;subst h1 h2;obtain⟨v',f,fr,q1,q2,q3,q4⟩:_:=bu.split h4 h;refine⟨v',f,f1++fr,q1,q2,⟨v,r,f1,fr,rfl,rfl,h3,q3⟩,?_⟩;refine(Nl f1 q4).trans ?_;rw[<- CS,<- CS];exact VT fr adm
theorem bu.forget {K:Frag}:∀{ρ:En} {σ:St} {fp:List adG} (j:Nat),bu K G H ρ σ fp->∃fr,bu K G H (ρ.set j none) σ fr/\fr.Sublist fp
 |[],_,_,_,h=>⟨_,h,.refl _⟩
 |none::_,_,_,0,z9=>by obtain⟨o,r,h1,h2⟩:=z9;exact⟨_,⟨o,r,h1,h2⟩,.refl _⟩
 |none::_,_,_,j+1,z9=>by
  obtain⟨o,r,h1,h2⟩:=z9;obtain⟨fr,q1,q2⟩:=bu.forget j h2;exact⟨fr,⟨o,r,h1,q1⟩,q2⟩
 |some _::_,_,_,0,z9=>by obtain⟨v,r,f1,f2,h1,h2,h3,h4⟩:=z9;exact⟨f2,⟨some v,r,h1,h4⟩,h2▸List.sublist_append_right _ _⟩
 |some _::_,_,_,j+1,z9=>by
  obtain⟨v,r,f1,f2,h1,h2,h3,h4⟩:=z9;obtain⟨fr,q1,q2⟩:=bu.forget j h4;exact⟨f1++fr,⟨v,r,f1,fr,h1,rfl,h3,q1⟩,h2▸List.Sublist.append (.refl _) q2⟩
theorem bu.put {K:Frag}:∀{ρ:En} {σ:St} {fr:List adG} {j:Nat} {t:Tr} {v:V} {f:List adG},bu K G H ρ σ fr->ρ[j]?=some none->Ow K G H t v f ->
  ∃fp,bu K G H (ρ.set j (some t)) (σ.set j (some v)) fp/\fp.Perm (f++fr)
 |none::_,_,fr,0,t,v,f,z9,_,w=>by obtain⟨o,r,h1,h2⟩:=z9;subst h1;exact⟨_,⟨v,r,f,fr,rfl,rfl,w,h2⟩,.refl _⟩
 |none::_,_,_,j+1,t,v,f,z9,h,w=>by
  obtain⟨o,r,h1,h2⟩:=z9;subst h1;obtain⟨fp,q1,q2⟩:=bu.put (j:=j) h2 h w;exact⟨fp,⟨o,_,rfl,q1⟩,q2⟩
 |some _::_,_,_,0,_,_,_,_,h,_=>by cases h
 |some _::_,_,_,j+1,t,v,f,z9,h,w=>by
  obtain⟨v',r,f1,f2,h1,h2,h3,h4⟩:=z9;subst h1 h2;obtain⟨fp,q1,q2⟩:=bu.put h4 h w;refine⟨f1++fp,⟨v',_,f1,fp,rfl,rfl,h3,q1⟩,?_⟩;refine(Nl f1 q2).trans ?_;rw[<- CS,<- CS];exact VT f2 adm
structure fk (K:Frag) (G0 H0 G H:Hp) (ρ:En) (σ:St) (fp:List adG):Prop where
 st:Step G0 H0 G H
 own:bu K G H ρ σ fp
 g:∀a∈fp,G a=none
 n:∀a∈fp,H0 a=none
 d:fp.Nodup
def RS (K:Frag)(G0 H0 G H:Hp)(ρ:En)(σ:St):Prop:=∃fp,fk K G0 H0 G H ρ σ fp
theorem xR {α:Type}{ρ:List (Option α)}(h:j < ρ.length):(ρ.set j none)[j]?=some none:='J'
theorem fk.forget {K:Frag}(r:fk K G0 H0 G H ρ σ fp)(j:Nat):∃fr,fk K G0 H0 G H (ρ.set j none) σ fr/\fr.Sublist fp:=by
 obtain⟨fr,q1,q2⟩:=r.own.forget j;exact⟨fr,⟨r.st,q1,λa ha=>r.g a (q2.subset ha),λa ha=>r.n a (q2.subset ha),r.d.sublist q2⟩,q2⟩
theorem RS.forget {K:Frag}(r:RS K G0 H0 G H ρ σ)(j:Nat):RS K G0 H0 G H (ρ.set j none) σ:=by
 obtain⟨fp,r⟩:=r;obtain⟨fr,q,_⟩:=r.forget j;exact⟨fr,q⟩
theorem fk.set {K:Frag}(r:fk K G0 H0 G H ρ σ fp)(hj:j < ρ.length)(e:Step G H G1 H1)(o:Ow K G1 H1 t v fq)(w:Nw H G1 fq):
  RS K G0 H0 G1 H1 (ρ.set j (some t)) (σ.set j (some v)):=by
 obtain⟨fr,r1,sub⟩:_:=r.forget j;have acF:=r1.own.mono e.g e.h;obtain⟨jA,q1,q2⟩:=acF.put (xR hj) o;rw[afS]at q1;have dis:∀a∈fq,∀b∈fr,a≠b:=λa ha b hb z=>by
  subst z;obtain⟨u,hu⟩:=r1.own.there a hb;rw[w.n a ha]at hu;cases hu
 refine⟨jA,r.st.trans e,q1,λa ha=>?_,λa ha=>?_,q2.nodup_iff.mpr (AN.mpr ⟨w.d,r1.d,dis⟩)⟩
 ·obtain z|z:=qr.mp (q2.mem_iff.mp ha)
  ·exact w.g a z
  ·cases q:G1 a with
   |none=>rfl
   |some u=>
    obtain⟨u',bw⟩:=r1.own.there a z;have:=e.n a (r1.g a z) 'J'
    simp_all
 ·obtain z|z:=qr.mp (q2.mem_iff.mp ha)
  ·exact r.st.h.free (w.n a z)
  ·exact r1.n a z
def less (H:Hp)(fp:List adG):Hp:=λa=>if a∈fp then none else H a
theorem Lg (h:a∈fp):less H fp a=none:=by unfold less;rw[uu h]
theorem Ka (h:a∉fp):less H fp a=H a:=by unfold less;rw[rf h]
theorem XF:aj (less H fp) H:=λb o e=>by
 by_cases q:b∈fp
 ·rw[Lg q]at e;cases e
 ·rw[Ka q]at e;exact e
theorem JF (s:aj G H)(h:∀a∈fp,G a=none):aj G (less H fp):=λb o e=>by
 by_cases q:b∈fp
 ·simp_all
 ·rw[Ka q];exact s b o e
theorem fk.rebase {K:Frag}(r:fk K G0 H0 G H ρ σ fp):fk K G (less H fp) G H ρ σ fp:=
 ⟨⟨aj.refl _,XF,r.st.s,λa h h'=>absurd h h'⟩,r.own,r.g,λa ha=>Lg ha,r.d⟩
theorem fk.base {K:Frag}(r:fk K G0 H0 G H ρ σ fp):Step G0 H0 G (less H fp):=
 ⟨r.st.g,JF r.st.h r.n,JF r.st.s r.g,r.st.n⟩
theorem RS.under {K:Frag}(e:Step G0 H0 G1 H1)(r:RS K G1 H1 G H ρ σ):RS K G0 H0 G H ρ σ:=by
 obtain⟨fp,r⟩:=r;exact⟨fp,e.trans r.st,r.own,r.g,λa ha=>e.h.free (r.n a ha),r.d⟩
inductive Out where
 |nx (ρ:En)
 |rt (t:Tr)
def zU (K:Frag)(G0 H0:Hp)(D:Ends):Out->Prop
 | .nx ρ => ∀σ G H,RS K G0 H0 G H ρ σ->D.nx σ H
 | .rt t=>∀v G H fq,Step G0 H0 G H->Ow K G H t v fq->Nw H0 G fq->D.rt v H
theorem zU.under {K:Frag}(e:Step G0 H0 G1 H1)(p:zU K G0 H0 D o):zU K G1 H1 D o:=by
 cases o with
 |nx ρ => exact λσ G H r=>p σ G H (r.under e)
 |rt t=>exact λv G H fq s o w=>p v G H fq (e.trans s) o ⟨λa ha=>e.h.free (w.n a ha),w.g,w.d⟩
def Q2 (K:Frag)(τ:TS)(ρ:En)(o:Out):Prop:=∀D σ G0 H0 G H,RS K G0 H0 G H ρ σ->zU K G0 H0 D o->τ D σ H
section
def Rn (F:aU ι)(st:afW)(ρ:En)(o:Out):Prop:=∃τ:TS,(∀i,PS (F.cx i) st τ)/\Q2 F.K τ ρ o
def bE (F:aU ι)(fb:List afW)(ρ:En)(o:Out):Prop:=∃τ:TS,(∀i,gw (F.cx i) fb τ)/\Q2 F.K τ ρ o
def bO (F:aU ι)(e:Expr)(ρ:En)(t:Tr):Prop:=∃τ:TE,(∀i,PE (F.cx i) e τ)/\∀σ G H fp Q,aj G H->bu F.K G H ρ σ fp->(∀a∈fp,G a=none)->Kv F.K G H t Q->τ σ H Q
def gC (F:aU ι)(e:Expr)(ρ:En)(b:Bool):Prop:=∃τ:TT,(∀i,PT (F.cx i) e τ)/\∀σ G H fp Q,aj G H->bu F.K G H ρ σ fp->(∀a∈fp,G a=none)->(∀G' H',Step G H G' H'->Q b H')->τ σ H Q
variable {F:aU ι}{ρ:En}{pos:Pos}{st:afW}
theorem Ev.s (h:Ev F e ρ t):bO F e ρ t:=by obtain⟨τ,x,y⟩:=h;exact⟨τ,x,λσ G H fp Q s r _ k=>y σ G H Q s r.tD k⟩
theorem Et.s (h:Et F e ρ p):gC F e ρ p:=by obtain⟨τ,x,y⟩:=h;exact⟨τ,x,λσ G H fp Q s r _ k=>y σ G H Q s r.tD k⟩
mutual
noncomputable def Cl:Tr->Prop
 | .fz (.fl _)=>True
 | .fz _=>False
 | .ow ts=>vM ts
 | .tp ts=>vM ts
noncomputable def vM:List Tr->Prop
 |[] => True
 |t::ts=>Cl t/\vM ts
end
mutual
theorem Ow.cl {K:Frag}{G G' H:Hp}:∀{t:Tr} {v:V} {fp:List adG},Cl t->Ow K G H t v fp->Ow K G' H t v fp
 | .fz (.fl _),_,_,_,h=>h
 | .fz (.lst _),_,_,c,_=>c.elim
 | .fz (.tup _),_,_,c,_=>c.elim
 | .ow _,_,_,c,⟨b,vs,fq,h1,h2,h3,h4⟩=>⟨b,vs,fq,h1,h2,aT.cl c h3,h4⟩
 | .tp _,_,_,c,⟨b,vs,fq,h1,h2,h3,h4⟩=>⟨b,vs,fq,h1,h2,aT.cl c h3,h4⟩
theorem aT.cl {K:Frag}{G G' H:Hp}:∀{ts:List Tr} {vs:List V} {fp:List adG},vM ts->aT K G H ts vs fp->aT K G' H ts vs fp
 |[],_,_,_,h=>h
 |_::_,_,_,⟨c1,c2⟩,⟨v,r,f1,f2,h1,h2,h3,h4⟩=>⟨v,r,f1,f2,h1,h2,h3.cl c1,aT.cl c2 h4⟩
end
theorem yz:∀ns:LI,vM (ns.map λn=>Tr.fz (di n))
 |[] => True.intro
 |_::ns=>⟨True.intro,yz ns⟩
theorem Ev.pk (h:Ev F e (pk ρ) t)(c:Cl t):bO F e ρ t:=by
 obtain⟨τ,x,y⟩:=h;refine⟨τ,x,λσ G H fp Q s r hg k=>?_⟩;refine y σ (cR G H fp) H Q (gi s) (r.pk (gh hg) λa ha=>dE ha) λv G' H' fq st o w=>?_
 refine k v G H' fq ⟨aj.refl _,st.h,s.trans st.h,λa h h'=>absurd h h'⟩ (o.cl c) ⟨w.n,λa ha=>s.free (w.n a ha),w.d⟩
theorem Et.pk (h:Et F e (pk ρ) p):gC F e ρ p:=by
 obtain⟨τ,x,y⟩:=h;refine⟨τ,x,λσ G H fp Q s r hg k=>?_⟩;refine y σ (cR G H fp) H Q (gi s) (r.pk (gh hg) λa ha=>dE ha) λG' H' st=>?_
 exact k G H' ⟨aj.refl _,st.h,s.trans st.h,λa h h'=>absurd h h'⟩
theorem nU:bE F [] ρ (.nx ρ):=⟨zt,λ_=>yr,λD σ G0 H0 G H r k=>k σ G H r⟩
theorem ax (h1:Rn F st ρ (.nx ρ1))(h2:bE F fb ρ1 o):bE F (st::fb) ρ o:=by
 obtain⟨τ,x,y⟩:=h1;obtain⟨bJ,x',y'⟩:=h2;exact⟨dZ τ bJ,λi=>cX (x i) (x' i),λD σ G0 H0 G H r k=>y _ σ G0 H0 G H r λaq G1 H1 r1=>y' D aq G0 H0 G1 H1 r1 k⟩
theorem yA (h1:Rn F st ρ (.rt t)):bE F (st::fb) ρ (.rt t):=by
 obtain⟨τ,x,y⟩:=h1;exact⟨dZ τ yL,λi=>cX (x i) B8,λD σ G0 H0 G H r k=>y _ σ G0 H0 G H r k⟩
theorem az (h1:Rn F st ρ o):bE F [st] ρ o:=by
 obtain⟨τ,x,y⟩:=h1;exact⟨τ,λi=>fu (x i),y⟩
theorem aV (j:Nat){x:Str}{pos':Pos}(he:bO F e ρ t)(hN:∀i,(F.cx i).N.Nodup)(hj:Nat.blt j ρ.length=true:=by rfl)(hi:∀i,(F.cx i).N[j]?=some x:=by intro _;rfl)(hx:∀i,Loc (F.cx i).env.scope x:=by intro _;first|exact Or.inl rfl|exact Or.inr rfl)(hs:∀i,swapsWith e (some (.Name x pos')) pos.line (F.cx i).env=pure false:=by intro _;rfl)(hf:∀i,(F.cx i).fn x=true\/(F.cx i).env.scope.names.lookup x=some .local:=by intro _;first|exact .inl rfl|exact .inr rfl):
  Rn F (.Assign [.Name x pos'] e pos) ρ (.nx (ρ.set j (some t))):=by
 obtain⟨τ,y,z⟩:_:=he;refine⟨lN τ (eK j),λi=>hU (hN i) (hi i) (hx i) (y i) (hs i) (hf i),λD σ G0 H0 G H r k=>?_⟩;obtain⟨fp,r⟩:=r;exact z σ G H fp _ r.st.s r.own r.g λv G1 H1 fq s1 o w=>k _ G1 H1 (r.set (adv hj) s1 o w)
theorem cA (he:bO F e ρ t):Rn F (.Return (some e) pos) ρ (.rt t):=by
 obtain⟨τ,y,z⟩:_:=he;refine⟨vI τ,λi=>jb (y i),λD σ G0 H0 G H r k=>?_⟩;obtain⟨fp,r⟩:=r;exact z σ G H fp _ r.st.s r.own r.g λv G1 H1 fq s1 o w=>k v G1 H1 fq (r.st.trans s1) o ⟨λa ha=>r.st.h.free (w.n a ha),w.g,w.d⟩
theorem kl (j:Nat){p':Pos}(h : ρ[j]?=some (some t))(hN:∀i,(F.cx i).N[j]?=some x:=by intro _;rfl)(hv:∀i,iW (F.cx i).env.scope x:=by intro _;first|exact Or.inl rfl|exact Or.inr (Or.inl rfl)|exact Or.inr (Or.inr rfl))(hd:(x==("__debug__":Str))=false:=by decide)(hc:(x==("__classdict__":Str))=false:=by decide):Rn F (.Return (some (.Name x p')) pos) ρ (.rt t):=by
 refine⟨vI (dG j),λi=>jb (lu (hN i) (hv i) hd hc),λD σ G0 H0 G H r k=>?_⟩;obtain⟨fp,r⟩:=r;obtain⟨v,f,fr,q1,q2,q3,q4⟩:_:=r.own.split h;have sub:∀a∈f,a∈fp:=λa ha=>q4.mem_iff.mpr (xw _ ha)
 exact⟨v,q1,k v G H f r.st q2 ⟨λa ha=>r.n a (sub a ha),λa ha=>r.g a (sub a ha),(AN.mp (q4.nodup_iff.mp r.d)).1⟩⟩
theorem Y0 (he:bO F e ρ t)(hs:∀i,swapsWith e none pos.line (F.cx i).env=pure false:=by intro _;rfl):Rn F (.Expr e pos) ρ (.nx ρ):=by
 obtain⟨τ,y,z⟩:=he;refine⟨pN τ,λi=>ki (y i) (hs i),λD σ G0 H0 G H r k=>?_⟩;obtain⟨fp,r⟩:=r;refine z σ G H fp _ r.st.s r.own r.g λv G1 H1 fq s1 o w=>k σ G1 H1 ⟨fp,r.st.trans s1,r.own.mono s1.g s1.h,r.own.off s1 r.g,r.n,r.d⟩
theorem vo (hc:gC F c ρ p)(h1:p=true->bE F A ρ o)(h2:p=false->bE F B ρ o):Rn F (.If c A B pos) ρ o:=by
 obtain⟨τ,y,z⟩:_:=hc;have key:∀{G0 H0 G H G1 H1:Hp} {σ:St} {fp:List adG},fk F.K G0 H0 G H ρ σ fp->Step G H G1 H1->RS F.K G0 H0 G1 H1 ρ σ:=λ{G0 H0 G H G1 H1 σ fp} r s1=>⟨fp,r.st.trans s1,r.own.mono s1.g s1.h,r.own.off s1 r.g,r.n,r.d⟩
 cases p with
 |true=>
  obtain⟨bJ,x',y'⟩:=h1 rfl;refine⟨zP τ bJ yL,λi=>vi (y i) (x' i) B8,λD σ G0 H0 G H r k=>?_⟩;obtain⟨fp,r⟩:=r;exact z σ G H fp _ r.st.s r.own r.g λG1 H1 s1=>lR (y' D σ G0 H0 G1 H1 (key r s1) k)
 |false=>
  obtain⟨bJ,x',y'⟩:=h2 rfl;refine⟨zP τ yL bJ,λi=>vi (y i) B8 (x' i),λD σ G0 H0 G H r k=>?_⟩;obtain⟨fp,r⟩:=r;exact z σ G H fp _ r.st.s r.own r.g λG1 H1 s1=>lQ (y' D σ G0 H0 G1 H1 (key r s1) k)
theorem yf {α:Type}:∀{l:List α} {j:Nat} {v : α},l[j]?=some v->l.set j v=l
 |_::_,0,_,h=>'J'
 |_::_,j+1,_,h=>by rw[List.set_cons_succ,yf (j:=j) h]
theorem V1 (j:Nat)(hj : ρ[j]?=some (some t))(h:bE F fb (ρ.set j (some (.fz (er t)))) o):bE F fb ρ o:=by
 obtain⟨τ,x,y⟩:=h;refine⟨τ,x,λD σ G0 H0 G H r k=>?_⟩;obtain⟨fp,r⟩:=r;obtain⟨v,f,fr,q1,q2,q3,q4⟩:_:=r.own.split hj;have nd:=AN.mp (q4.nodup_iff.mp r.d);have sub:∀a∈f,a∈fp:=λa ha=>q4.mem_iff.mpr (xw _ ha)
 have Qc:∀a∈fr,a∈fp:=λa ha=>q4.mem_iff.mpr (i4 _ ha)
 have sm:aj G (cR G H f):=gh λa ha=>r.g a (sub a ha)
 have lt:j < ρ.length:=by
  grind
 obtain⟨jA,p1,p2⟩:=(q3.mono sm (aj.refl _)).put (t:=.fz (er t)) (xR lt) ⟨rfl,q2.hv sm λa ha=>dE ha⟩;rw[afS,yf q1]at p1;refine y D σ G0 H0 (cR G H f) H ⟨jA,⟨r.st.g.trans sm,r.st.h,gi r.st.s,λa h h'=>?_⟩,p1,λa ha=>?_,λa ha=>r.n a (Qc a (p2.mem_iff.mp ha)),p2.nodup_iff.mpr nd.2.1⟩ k
 ·by_cases z:a∈f
  ·exact r.n a (sub a z)
  ·rw[o9 z]at h';exact r.st.n a h h'
 ·have z:=p2.mem_iff.mp ha;rw[o9 λz'=>nd.2.2 a z' a z rfl];exact r.g a (Qc a z)
theorem fk.chg {K:Frag}(r:fk K G0 H0 G H ρ σ fp)(hj : ρ[j]?=some (some t))(s1:Step G H G1 H1):
  ∃v f,σ[j]?=some (some v)/\Ow K G H t v f/\Ow K G1 H1 t v f/\f.Nodup/\(∀a∈f,a∈fp)/\∀l o t' f',l∈f->Ow K G1 (upd H1 l o) t' v f'->f'.Nodup->(∀a∈f',a∈f\/(H a=none/\G1 a=none))->RS K G0 H0 G1 (upd H1 l o) (ρ.set j (some t')) σ:=by
 obtain⟨v,f,fr,q1,q2,q3,q4⟩:_:=r.own.split hj;have fH:=AN.mp (q4.nodup_iff.mp r.d);have oO:∀a∈f,a∈fp:=λa ha=>q4.mem_iff.mpr (xw _ ha)
 have Hi:∀a∈fr,a∈fp:=λa ha=>q4.mem_iff.mpr (i4 _ ha)
 have lt:j < ρ.length:=by
  grind
 have lG:∀a∈fp,G1 a=none:=λa ha=>by
  cases q:G1 a with
  |none=>rfl
  |some u=>
   obtain⟨u',bw⟩:=r.own.there a ha;have:=s1.n a (r.g a ha) 'J'
   simp_all
 refine⟨v,f,q1,q2,q2.mono s1.g s1.h,fH.1,oO,λl o t' f' hl ow nw hw=>?_⟩;have new:∀a,H a=none->a∉fp:=λa ha hb=>by
  obtain⟨u,hu⟩:=r.own.there a hb
  simp_all
 have q3':bu K G1 (upd H1 l o) (ρ.set j none) σ fr:=(q3.mono s1.g s1.h).frame λz=>fH.2.2 l hl l z rfl
 obtain⟨jA,Q3,Q0⟩:_:=q3'.put (xR lt) ow;rw[afS,yf q1]at Q3;have acG:∀a∈jA,a∈fp\/(H a=none/\G1 a=none):=λa ha=>by
  grind
 refine⟨jA,⟨(r.st.trans s1).g,λb u hb=>?_,λb u hb=>?_,(r.st.trans s1).n⟩,Q3,λa ha=>?_,λa ha=>?_,?_⟩
 ·have gR:=(r.st.trans s1).h b u hb;rw[aH λz=>?_]
  ·omega
  ·subst z;rw[r.n _ (oO _ hl)]at hb;cases hb
 ·have gR:=s1.s b u hb;rw[aH λz=>?_]
  ·omega
  ·simp_all
 ·grind
 ·exact(acG a ha).elim (r.n a) λz=>r.st.h.free z.1
 ·grind
theorem fk.mut {K:Frag}(r:fk K G0 H0 G H ρ σ fp)(hj : ρ[j]?=some (some (.ow us)))(s1:Step G H G1 H1):
  ∃l vs fq,σ[j]?=some (some (.ref l))/\H l=some (.lst vs)/\H1 l=some (.lst vs)/\aT K G1 H1 us vs fq/\fq.Nodup/\(∀a∈fq,a∈fp)/\∀As ws fw,aT K G1 H1 As ws fw->fw.Nodup->(∀a∈fw,a∈fq\/(H a=none/\G1 a=none))->RS K G0 H0 G1 (upd H1 l (.lst ws)) (ρ.set j (some (.ow As))) σ:=by
 obtain⟨v,f,q1,q2,q3,nd,oO,q⟩:_:=r.chg hj s1;obtain⟨l,vs,fq,rfl,hl,ol,rfl⟩:_:=q3;obtain⟨l',ny,Q4,e1,Au,_,e2⟩:_:=q2;cases e1;have ev:ny=vs:=by
  have:=s1.h _ _ Au;rw[hl]at this;cases this;rfl
 subst ev;have tE:=AE.mp nd;refine⟨l,ny,fq,q1,Au,hl,ol,tE.2,λa ha=>oO a (.tail _ ha),λAs ws fw ow nw hw=>?_⟩;have Q5:=λz=>(hw l z).elim tE.1 λz=>by rw[z.1]at Au;cases Au
 exact q l (.lst ws) (.ow As) (l::fw) (.head _) ⟨l,ws,fw,rfl,bM,ow.frame Q5,rfl⟩ (AE.mpr ⟨Q5,nw⟩) λa ha=>(ff.mp ha).elim (λz=>.inl (z▸.head _)) λz=>(hw a z).imp (λz=>.tail _ z) id
theorem jF (j:Nat){p1 p2 p3:Pos}(h : ρ[j]?=some (some (.ow us)))(he:bO F e ρ t)(hz:us.length<sizeLine)(hN:∀i,(F.cx i).N[j]?=some x:=by intro _;rfl)(hv:∀i,iW (F.cx i).env.scope x:=by intro _;first|exact Or.inl rfl|exact Or.inr (Or.inl rfl)|exact Or.inr (Or.inr rfl))(hd:(x==("__debug__":Str))=false:=by decide)(hc:(x==("__classdict__":Str))=false:=by decide)(jf:∀i,attributeBase (.Name x p1) "append" (F.cx i).env (eval (.Name x p1) (F.cx i).env)=eval (.Name x p1) (F.cx i).env:=by intro _;rfl)(jn:∀i,((backTo p3 (starEach [e] (F.cx i).env)).all (λx=>!x.1)&&(backToKw p3 (keywordEach [] (F.cx i).env)).all (λx=>x.1.isSome)&&decide (([e]:List Expr).length+([]:List Keyword).length+(if([]:List Keyword).isEmpty then 0 else 1)<30))=true:=by intro _;rfl)(hline:(p2.endLine==p3.line)=true:=by rfl)(hs:∀i,starEach [e] (F.cx i).env=[(false,eval e (F.cx i).env)]:=by intro _;rfl)(jB:∀i,swapsWith (.Call (.Attribute (.Name x p1) "append" p2) [e] [] p3) none pos.line (F.cx i).env=pure false:=by intro _;rfl):
  Rn F (.Expr (.Call (.Attribute (.Name x p1) "append" p2) [e] [] p3) pos) ρ (.nx (ρ.set j (some (.ow (us++[t]))))):=by
 obtain⟨τ,y,z⟩:_:=he;refine⟨pN (ni F.K "list" yx (dG j) (dR τ d8)),λi=>ki (F.hK i▸kr EN OR Pc nL (lu (hN i) (hv i) hd hc) (cf (y i) cG (hs i)) (jf i) (jn i) hline (hs i) rfl) (jB i),λD σ G0 H0 G H r k=>?_⟩;obtain⟨fp,r⟩:=r;obtain⟨l0,Av,Aw,c1,c2,_⟩:_:=r.mut h (.refl r.st.s);refine⟨_,c1,.inl ⟨rfl,_,aK.of c2⟩,?_⟩;refine z σ G H fp _ r.st.s r.own r.g λv1 G1 H1 f1 s1 o1 w1=>?_
 obtain⟨l,vs,fq,d1,d2,d3,d4,d5,d6,d7⟩:_:=r.mut h s1;rw[c1]at d1;cases d1;refine⟨l0,vs,v1,rfl,rfl,d3,by rw[<- d4.length];exact hz,k σ G1 _ (d7 (us++[t]) (vs++[v1]) (fq++(f1++[])) (d4.append ⟨v1,[],f1,[],rfl,rfl,o1,rfl,rfl⟩) ?_ λa ha=>?_)⟩
 ·rw[zw];refine AN.mpr ⟨d5,w1.d,λa ha b hb e=>?_⟩;subst e;obtain⟨u,hu⟩:=r.own.there a (d6 a ha);rw[w1.n a hb]at hu;cases hu
 ·rw[zw]at ha;exact(qr.mp ha).imp id λz=>⟨w1.n a z,w1.g a z⟩
theorem WT (j:Nat){p1 p2 p3:Pos}(h : ρ[j]?=some (some (.ow us)))(he:bO F e ρ (.ow ny))(hz:us.length+ny.length<=sizeLine)(hN:∀i,(F.cx i).N[j]?=some x:=by intro _;rfl)(hv:∀i,iW (F.cx i).env.scope x:=by intro _;first|exact Or.inl rfl|exact Or.inr (Or.inl rfl)|exact Or.inr (Or.inr rfl))(hd:(x==("__debug__":Str))=false:=by decide)(hc:(x==("__classdict__":Str))=false:=by decide)(jf:∀i,attributeBase (.Name x p1) "extend" (F.cx i).env (eval (.Name x p1) (F.cx i).env)=eval (.Name x p1) (F.cx i).env:=by intro _;rfl)(jn:∀i,((backTo p3 (starEach [e] (F.cx i).env)).all (λx=>!x.1)&&(backToKw p3 (keywordEach [] (F.cx i).env)).all (λx=>x.1.isSome)&&decide (([e]:List Expr).length+([]:List Keyword).length+(if([]:List Keyword).isEmpty then 0 else 1)<30))=true:=by intro _;rfl)(hline:(p2.endLine==p3.line)=true:=by rfl)(hs:∀i,starEach [e] (F.cx i).env=[(false,eval e (F.cx i).env)]:=by intro _;rfl)(jB:∀i,swapsWith (.Call (.Attribute (.Name x p1) "extend" p2) [e] [] p3) none pos.line (F.cx i).env=pure false:=by intro _;rfl):
  Rn F (.Expr (.Call (.Attribute (.Name x p1) "extend" p2) [e] [] p3) pos) ρ (.nx (ρ.set j (some (.ow (us++ny))))):=by
 obtain⟨τ,y,z⟩:_:=he;refine⟨pN (ni F.K "list" C9 (dG j) (dR τ d8)),λi=>ki (F.hK i▸kr EN PySem.F.slot_list_extend PySem.F.type_list_extend JC (lu (hN i) (hv i) hd hc) (cf (y i) cG (hs i)) (jf i) (jn i) hline (hs i) rfl) (jB i),λD σ G0 H0 G H r k=>?_⟩;obtain⟨fp,r⟩:=r;obtain⟨l0,Av,Aw,c1,c2,_⟩:_:=r.mut h (.refl r.st.s);refine⟨_,c1,.inl ⟨rfl,_,aK.of c2⟩,?_⟩;refine z σ G H fp _ r.st.s r.own r.g λv1 G1 H1 f1 s1 o1 w1=>?_
 obtain⟨l,vs,fq,d1,d2,d3,d4,d5,d6,d7⟩:_:=r.mut h s1;rw[c1]at d1;cases d1;obtain⟨b,zs,fz',rfl,hb,ob,rfl⟩:_:=o1;have wd:=AE.mp w1.d;refine⟨l0,b,vs,zs,rfl,rfl,d3,hb,by rw[<- d4.length,<- ob.length];exact hz,k σ G1 _ (d7 (us++ny) (vs++zs) (fq++fz') (d4.append ob) ?_ λa ha=>?_)⟩
 ·refine AN.mpr ⟨d5,wd.2,λa ha b hb e=>?_⟩;subst e;obtain⟨u,hu⟩:=r.own.there a (d6 a ha);rw[w1.n a (.tail _ hb)]at hu;cases hu
 ·exact(qr.mp ha).imp id λz=>⟨w1.n a (.tail _ z),w1.g a (.tail _ z)⟩
end
end L2
namespace L2
open PySem PySem.Spec PyProof.Rows
def Ax (K:Frag)(G:Hp)(J:It)(its:List Dv):Prop:=∀k G1 H1,aj G G1->aj G1 H1 ->
 (∀d,its[k]?=some d->J.go k H1/\∀x H3,J.v9 k H1 x H3->∃G3,Step G1 H1 G3 H3/\Hv K G3 d x)/\(k=its.length->J.stop k H1)
def a8 {α:Type}:List Nat->List α->List (Option α)->List (Option α)
 |j::js,v::vs,σ => a8 js vs (σ.set j (some v))
 |_,_,σ => σ
def i9 {α:Type}:List Nat->List (Option α)->List (Option α)
 |[],ρ => ρ
 |j::js,ρ => i9 js (ρ.set j none)
theorem RS.i9 {K:Frag}:∀{ρ:En} {σ:St} (js:List Nat),RS K G0 H0 G H ρ σ->RS K G0 H0 G H (L2.i9 js ρ) σ
 |_,_,[],r=>r
 |_,_,j::js,r=>RS.i9 js (r.forget j)
def Fg (ρ ρ':En):Prop:=∃fs,L2.i9 fs ρ=ρ'
theorem Fg.rs {K:Frag}(f:Fg ρ ρ')(r:RS K G0 H0 G H ρ σ):RS K G0 H0 G H ρ' σ:=by
 obtain⟨fs,rfl⟩:=f;exact r.i9 fs
theorem RS.a8 {K:Frag}:∀{js:List Nat} {ds:List Dv} {vs:List V} {ρ:En} {σ:St},(∀j∈js,j < ρ.length)->aG K G ds vs->RS K G0 H0 G H ρ σ->RS K G0 H0 G H (L2.a8 js (ds.map .fz) ρ) (L2.a8 js vs σ)
 |[],_,_,_,_,_,_,r=>r
 |_::_,[],_,_,_,_,h,r=>by rw[h];exact r
 |j::js,d::ds,_,ρ,σ,hj,z9,z8=>by
  obtain⟨x,q,h1,h2,h3⟩:=z9;obtain⟨fp,r⟩:=z8;subst h1;have r':RS K G0 H0 G H (ρ.set j (some (.fz d))) (σ.set j (some x)):=r.set (hj j (.head _)) (.refl r.st.s) ⟨rfl,h2⟩ .nil;exact RS.a8 (js:=js) (λi hi=>'J') h3 r'
theorem aX.set {K:Frag}(r:aX K G ρ σ)(hj:j < σ.length)(h:Hv K G d v):aX K G (ρ.set j (some (.fz d))) (σ.set j (some v)):=λi e hi=>by
 by_cases q:i=j
 ·subst q;rw[aaa (by
   obtain z|z:=ET i ρ.length
   ·exact z
   ·rw[Pd (by rw[SI];exact z)]at hi;cases hi)]at hi
  cases hi
  exact⟨v,by rw[aaa hj],h⟩
 ·rw[FF (adU q)]at hi;obtain⟨u,h1,h2⟩:=r i e hi;exact⟨u,by rw[FF (adU q)];exact h1,h2⟩
theorem uc:∀js (vs:List α) σ,(a8 js vs σ).length=σ.length
 |[],_,_=>rfl
 |_::_,[],_=>rfl
 |j::js,v::vs,σ => by
  show(a8 js vs (σ.set j (some v))).length=_;rw[uc js vs,SI]
theorem aX.a8 {K:Frag}:∀{js:List Nat} {ds:List Dv} {vs:List V} {ρ:En} {σ:St},(∀j∈js,j < σ.length)->aG K G ds vs->aX K G ρ σ->aX K G (L2.a8 js (ds.map .fz) ρ) (L2.a8 js vs σ)
 |[],_,_,_,_,_,_,r=>r
 |_::_,[],_,_,_,_,h,r=>by rw[h];exact r
 |j::js,d::ds,_,ρ,σ,hj,z9,r=>by
  obtain⟨x,q,h1,h2,h3⟩:=z9;subst h1;exact aX.a8 (js:=js) (λi hi=>'J') h3 (r.set (hj j (.head _)) h2)
section
def bb (F:aU ι)(tg iter:Expr)(ρ:En)(its:List Dv):Prop:=∃wi:TI,(∀i,PI (F.cx i) tg iter wi)/\∀σ G H (R:It->Hp->Prop),aj G H->aX F.K G ρ σ->(∀J G' H',Step G H G' H'->Ax F.K G' J its->R J H')->wi σ H R
def zV (F:aU ι)(tg iter:Expr)(ρ:En)(its:List Dv):Prop:=∃wi:TI,(∀i,PI (F.cx i) tg iter wi)/\∀σ G H fp (R:It->Hp->Prop),aj G H->bu F.K G H ρ σ fp->(∀a∈fp,G a=none)->(∀J G' H',Step G H G' H'->Ax F.K G' J its->R J H')->wi σ H R
def iA (F:aU ι)(tg:Expr)(js:List Nat)(sp:Dv->Option (List Dv)):Prop:=∃g:TG,(∀i,PG (F.cx i) tg g)/\∀d dd v σ G H Q,sp d=some dd->aj G H->Hv F.K G d v->(∀vs,aG F.K G dd vs->Q (a8 js vs σ) H)->g v σ H Q
def uS (F:aU ι)(fb:List afW):TS:=λD σ H=>∃τ:TS,(∀i,gw (F.cx i) fb τ)/\τ D σ H
theorem O3 (i : ι):gw (F.cx i) fb (uS F fb):=λpins s σ H D I ⟨τ,h,q⟩=>h i pins s σ H D I q
def uT (F:aU ι)(e:Expr):TT:=λσ H Q=>∃τ:TT,(∀i,PT (F.cx i) e τ)/\τ σ H Q
theorem vp (i : ι):PT (F.cx i) e (uT F e):=λpins s σ H D I ⟨τ,h,q⟩=>h i pins s σ H D I q
def uE (F:aU ι)(e:Expr):TE:=λσ H Q=>∃τ:TE,(∀i,PE (F.cx i) e τ)/\τ σ H Q
theorem dJ (i : ι):PE (F.cx i) e (uE F e):=λpins s σ H D I ⟨τ,h,q⟩=>h i pins s σ H D I q
variable {F:aU ι}{tg:Expr}{pos:Pos}{js:List Nat}
theorem bb.s (h:bb F tg iter ρ its):zV F tg iter ρ its:=by obtain⟨w,x,y⟩:=h;exact⟨w,x,λσ G H fp R s r _ k=>y σ G H R s r.tD k⟩
theorem bp (j:Nat)(hN:∀i,(F.cx i).N.Nodup)(hi:∀i,(F.cx i).N[j]?=some x:=by intro _;rfl)(hx:∀i,Loc (F.cx i).env.scope x:=by intro _;first|exact Or.inl rfl|exact Or.inr rfl)(hf:∀i,(F.cx i).fn x=true\/(F.cx i).env.scope.names.lookup x=some .local:=by intro _;first|exact .inl rfl|exact .inr rfl):iA F (.Name x pos) [j] (λd=>some [d]):=
 ⟨eK j,λi=>i7 (hN i) (hi i) (hx i) (hf i),λd dd v σ G H Q e s h k=>by
  cases e
  exact k [v] ⟨v,[],rfl,h,rfl⟩⟩
def Fh (n:Nat):Dv->Option (List Dv)
 | .tup ds=>if ds.length=n then some ds else none
 |_=>none
theorem cm (ha:Ev F e ρ ta)(ea:er ta=.lst xs):bb F tg e ρ xs:=by
 obtain⟨τ,p,q⟩:_:=ha.use;refine⟨sI F.K τ,λi=>F.hK i▸uz (p i),λσ G H R s r k=>q σ G H _ s r λx G1 H1 s1 hx=>?_⟩;rw[ea]at hx;obtain⟨l,vs,rfl,h1,h2⟩:=hx;refine⟨l,rfl,⟨vs,s1.s.seq h1⟩,k _ G1 H1 s1 λj G2 H2 sg sh=>⟨λd hd=>?_,λhz=>⟨vs,(sg.trans sh).seq h1,by rw[<- h2.length,hz];exact br _⟩⟩⟩;obtain⟨v,q1,q2⟩:_:=h2.get hd;refine⟨⟨vs,v,(sg.trans sh).seq h1,q1⟩,?_⟩;rintro x H3 ⟨rfl,hx⟩;have:=hx vs ((sg.trans sh).seq h1);rw[q1]at this;cases this;exact⟨G2,.refl sh,q2.mono sg⟩
abbrev jo (lo:Int)(n:Nat):List Dv:=(List.range n).map λk=>di (lo+(k:Nat))
theorem Y1 {K:Frag}(lo:Int)(n:Nat):Ax K G (Ak lo n) (jo lo n):=λk G1 H1 sg sh=>by
 refine⟨λd hd=>?_,λhz=>by show n<=k;rw[hz];simp⟩;rw[l8]at hd;obtain hk|hk:=ET k n
 ·rw[Me hk]at hd;cases hd;refine⟨hk,?_⟩;rintro x H3 ⟨rfl,rfl⟩;exact⟨G1,.refl sh,rfl,rfl⟩
 ·simp_all
theorem fM (hm:F.mg "range"=none)(ha:Ev F a ρ (ti n))(hb : -(2^62)<=n/\n<2^62){p:Pos}(hg:∀i,Gl (F.cx i) "range":=by intro _;rfl)(hs:∀i,starEach [a] (F.cx i).env=[(false,eval a (F.cx i).env)]:=by intro _;rfl):bb F tg (.Call (.Name "range" p) [a] [] pos) ρ (jo 0 n.toNat):=by
 obtain⟨τ,p,q⟩:_:=ha.use;refine⟨OT (dR τ d8),λi=>WC (hg i) ((F.hm i).symm▸hm) (cf (p i) cG (hs i)) (hs i),λσ G H R s r k=>q σ G H _ s r λx G1 H1 s1 hx=>?_⟩;exact⟨n,by rw[aS hx],hb.1,hb.2,k _ G1 H1 s1 (Y1 0 n.toNat)⟩
theorem Gf (h:js.all (λj=>Nat.blt j n)=true):∀j∈js,j<n:=λj hj=>adv (adZ.mp h j hj)
theorem Qd (hx:(F.cx i).xe=cU):PassesOwn (model (F.cx i).prog (F.cx i).w) (F.cx i).A (F.cx i).env (F.cx i).xe:=by rw[hx];exact ad7
theorem Jq (hi:zV F tg iter ρ its)(hg:iA F tg js sp)(inv:Nat->En)(m:Nat)(hm:m<=its.length)(h0:inv 0=ρ)(hlen:∀k,js.all (λj=>Nat.blt j (inv k).length)=true)(step:∀k d,k<m->its[k]?=some d->∃dd i5,sp d=some dd/\bE F body (a8 js (dd.map .fz) (inv k)) (.nx i5)/\Fg i5 (inv (k+1)))(fin:(m=its.length/\o=.nx (inv m))\/∃d dd t,its[m]?=some d/\sp d=some dd/\bE F body (a8 js (dd.map .fz) (inv m)) (.rt t)/\o=.rt t)(hx:∀i,(F.cx i).xe=cU:=by intro _;rfl)(hs:∀i x,foldedSetIterable iter (F.cx i).env x=pure x:=by intro _ _;rfl):Rn F (.For tg iter body [] pos) ρ o:=by
 obtain⟨wi,p,q⟩:=hi;obtain⟨g,pg,qg⟩:=hg;subst h0;refine⟨vK wi g (uS F body),λi=>yN (Qd (hx i)) (F.calm i) (p i) (pg i) (O3 i) (hs i),λD σ G0 H0 G H r k=>?_⟩;obtain⟨fp,r⟩:=r;refine q σ G H fp _ r.st.s r.own r.g λJ G1 H1 s1 it=>?_
 have r1:fk F.K G0 H0 G1 H1 (inv 0) σ fp:=⟨r.st.trans s1,r.own.mono s1.g s1.h,r.own.off s1 r.g,r.n,r.d⟩
 have kb:=k.under r1.base;refine⟨λk m' aD H'=>m'=its.length-k/\k<=m/\∃G',RS F.K G1 (less H1 fp) G' H' (inv k) aD,⟨_,rfl,zd _,G1,fp,r1.rebase⟩,?_⟩;rintro n m' aD H' ⟨rfl,hn,G',r'⟩;obtain⟨jA,r'⟩:=r';obtain⟨i1,i2⟩:=it n G' H' r'.st.g r'.st.s;by_cases bC:n<m
 ·have hd:its[n]?=some its[n]:=ar 'Z';obtain⟨j1,j2⟩:=i1 _ hd;refine .inr ⟨j1,λdg H2=>∃G2,RS F.K G1 (less H1 fp) G2 H2 (inv (n+1)) dg,λdg H2 z=>⟨its.length-(n+1),'Z',rfl,bC,z⟩,λx H3 y=>?_⟩;obtain⟨G3,s3,h3⟩:=j2 x H3 y;obtain⟨dd,i5,e1,⟨τ,pb,qb⟩,e2⟩:=step n _ bC hd;refine qg _ dd x aD G3 H3 _ e1 s3.s h3 λvs nB=>⟨τ,pb,qb _ _ G1 (less H1 fp) G3 H3 (RS.a8 (Gf (hlen n)) nB ⟨jA,r'.st.trans s3,r'.own.mono s3.g s3.h,λa ha=>?_,r'.n,r'.d⟩) λσ4 G4 H4 r4=>⟨G4,e2.rs r4⟩⟩
  cases q:G3 a with
  |none=>rfl
  |some u=>
   obtain⟨u',bw⟩:=r'.own.there a ha;have:=s3.n a (r'.g a ha) (by rw[q];exact λz=>nomatch z);rw[bw]at this;cases this
 ·have en:n=m:='O'
  subst en;obtain⟨e,rfl⟩|⟨d,dd,t,hd,e1,⟨τ,pb,qb⟩,rfl⟩:=fin
  ·refine .inl ⟨i2 e,kb aD G' H' ⟨jA,r'⟩⟩
  ·obtain⟨j1,j2⟩:=i1 d hd;refine .inr ⟨j1,λ_ _=>False,λ_ _ z=>z.elim,λx H3 y=>?_⟩;obtain⟨G3,s3,h3⟩:=j2 x H3 y;refine qg d dd x aD G3 H3 _ e1 s3.s h3 λvs nB=>⟨τ,pb,qb _ _ G1 (less H1 fp) G3 H3 (RS.a8 (Gf (hlen n)) nB ⟨jA,r'.st.trans s3,r'.own.mono s3.g s3.h,λa ha=>?_,r'.n,r'.d⟩) kb⟩
   cases q:G3 a with
   |none=>rfl
   |some u=>
    obtain⟨u',bw⟩:=r'.own.there a ha;have:=s3.n a (r'.g a ha) (by rw[q];exact λz=>nomatch z);rw[bw]at this;cases this
theorem dQ (hi:zV F tg iter ρ its)(hg:iA F tg js sp)(inv:Nat->En)(h0:inv 0=ρ)(hlen:∀k,js.all (λj=>Nat.blt j (inv k).length)=true)(step:∀k d,its[k]?=some d->∃dd i5,sp d=some dd/\bE F body (a8 js (dd.map .fz) (inv k)) (.nx i5)/\Fg i5 (inv (k+1)))(hx:∀i,(F.cx i).xe=cU:=by intro _;rfl)(hs:∀i x,foldedSetIterable iter (F.cx i).env x=pure x:=by intro _ _;rfl):Rn F (.For tg iter body [] pos) ρ (.nx (inv its.length)):=
 Jq hi hg inv its.length (br _) h0 hlen (λk d _ h=>step k d h) (.inl ⟨rfl,rfl⟩) hx hs
theorem uq (hi:zV F tg iter ρ its)(hg:iA F tg js sp)(hlen:js.all (λj=>Nat.blt j ρ.length)=true)(ok:Dv->Bool)(step:∀d∈its,∃dd,sp d=some dd/\(ok d=true->∃i5,bE F body (a8 js (dd.map .fz) ρ) (.nx i5)/\Fg i5 ρ)/\(ok d=false->bE F body (a8 js (dd.map .fz) ρ) (.rt t)))(good:its.all ok=true->bE F fb ρ o)(bad:its.all ok=false->o=.rt t)(hx:∀i,(F.cx i).xe=cU:=by intro _;rfl)(hs:∀i x,foldedSetIterable iter (F.cx i).env x=pure x:=by intro _ _;rfl):bE F (.For tg iter body [] pos::fb) ρ o:=by
 cases fQ:its.all ok with
 |true=>
  refine ax (dQ hi hg (λ_=>ρ) rfl (λ_=>hlen) (λk d h=>?_) hx hs) (good fQ);obtain⟨dd,e,s1,_⟩:_:=step d (ba h);obtain⟨i5,q1,q2⟩:_:=s1 (adZ.mp fQ d (ba h));exact⟨dd,i5,e,q1,q2⟩
 |false=>
  rw[bad fQ];have:∃m d,m<its.length/\its[m]?=some d/\ok d=false/\∀k e,k<m->its[k]?=some e->ok e=true:=by
   clear step good bad hi
   induction its with
   |nil=>cases fQ
   |cons x xs ih=>
    rw[afG]at fQ;cases eF:ok x with
    |false=>exact⟨0,x,'Y',rfl,eF,λk e hk=>absurd hk (WJ _)⟩
    |true=>
     rw[eF,Bool.true_and]at fQ;obtain⟨m,d,h1,h2,h3,h4⟩:_:=ih fQ;refine⟨m+1,d,by simpa using h1,h2,h3,λk e hk he=>?_⟩;cases k with
     |zero=>cases he;exact eF
     |succ k=>exact h4 k e 'O' he
  obtain⟨m,d,h1,h2,h3,h4⟩:_:=this;refine yA (Jq hi hg (λ_=>ρ) m (aet h1) rfl (λ_=>hlen) (λk e hk he=>?_) (.inr ?_) hx hs)
  ·obtain⟨dd,e',s1,_⟩:_:=step e (ba he);obtain⟨i5,q1,q2⟩:=s1 (h4 k e hk he);exact⟨dd,i5,e',q1,q2⟩
  ·obtain⟨dd,e',_,s2⟩:_:=step d (ba h2);exact⟨d,dd,t,h2,e',s2 h3,rfl⟩
theorem XG (inv:Nat->En)(n:Nat)(h0:inv 0=ρ)(turn:∀k,k<n->gC F c (inv k) true/\bE F body (inv k) (.nx (inv (k+1))))(stop:gC F c (inv n) false)(hx:∀i,(F.cx i).xe=cU:=by intro _;rfl):Rn F (.While c body [] pos) ρ (.nx (inv n)):=by
 subst h0;refine⟨MG (uT F c) (uS F body),λi=>CD (Qd (hx i)) (vp i) (O3 i),λD σ G0 H0 G H r k=>?_⟩;refine⟨λm' aD H'=>∃j G',j<=n/\m'=n-j/\RS F.K G0 H0 G' H' (inv j) aD,⟨_,0,G,zd _,rfl,r⟩,?_⟩;intro m' aD H' z9;obtain⟨j,G',hj,rfl,fp,r'⟩:_:=z9;have key:∀{G1 H1:Hp},Step G' H' G1 H1->RS F.K G0 H0 G1 H1 (inv j) aD:=λ{G1 H1} s1=>⟨fp,r'.st.trans s1,r'.own.mono s1.g s1.h,r'.own.off s1 r'.g,r'.n,r'.d⟩
 by_cases bC:j<n
 ·obtain⟨⟨τ,x,y⟩,⟨bJ,x',y'⟩⟩:=turn j bC;refine⟨τ,x,y aD G' H' fp _ r'.st.s r'.own r'.g λG1 H1 s1=>lR ⟨λdg H2=>∃G2,RS F.K G0 H0 G2 H2 (inv (j+1)) dg,λdg H2 z9=>by obtain⟨G2,z⟩:=z9;exact⟨n-(j+1),'O',j+1,G2,bC,rfl,z⟩,bJ,x',?_⟩⟩;exact y' _ aD G0 H0 G1 H1 (key s1) λσ4 G4 H4 r4=>⟨G4,r4⟩
 ·have e:j=n:='O'
  subst e;obtain⟨τ,x,y⟩:=stop;exact⟨τ,x,y aD G' H' fp _ r'.st.s r'.own r'.g λG1 H1 s1=>lQ (k aD G1 H1 (key s1))⟩
theorem Vz {α:Type}(S : α->En)(Pp : α->Prop)(p : α->Bool)(μ : α->Nat)(hc:∀a,Pp a->gC F c (S a) (p a))(hb:∀a,Pp a->p a=true->∃a',Pp a'/\μ a' < μ a/\bE F body (S a) (.nx (S a')))(a0 : α)(h0:Pp a0)(hx:∀i,(F.cx i).xe=cU:=by intro _;rfl):∃a',Pp a'/\p a'=false/\Rn F (.While c body [] pos) (S a0) (.nx (S a')):=by
 have:∀(m) (a),μ a<=m->Pp a->∃(n:Nat) (f:Nat->α),f 0=a/\(∀k,k<n->Pp (f k)/\p (f k)=true/\bE F body (S (f k)) (.nx (S (f (k+1)))))/\Pp (f n)/\p (f n)=false:=by
  intro m
  induction m with
  |zero=>
   intro a hm ha;cases hp:p a with
   |false=>exact⟨0,λ_=>a,rfl,λk hk=>absurd hk (WJ _),ha,hp⟩
   |true=>
    obtain⟨a',_,h2,_⟩:_:=hb a ha hp;omega
  |succ m ih=>
   intro a hm ha;cases hp:p a with
   |false=>exact⟨0,λ_=>a,rfl,λk hk=>absurd hk (WJ _),ha,hp⟩
   |true=>
    obtain⟨a',h1,h2,h3⟩:_:=hb a ha hp;obtain⟨n,f,f0,f1,f2,f3⟩:_:=ih a' 'O' h1;refine⟨n+1,λk=>match k with|0=>a|k+1=>f k,rfl,λk hk=>?_,f2,f3⟩;cases k with
    |zero=>exact⟨ha,hp,by show bE F body (S a) (.nx (S (f 0)));rw[f0];exact h3⟩
    |succ k=>exact f1 k 'O'
 obtain⟨n,f,f0,f1,f2,f3⟩:_:=this (μ a0) a0 (br _) h0;refine⟨f n,f2,f3,XG (λk=>S (f k)) n (by rw[f0]) (λk hk=>?_) (by have:=hc _ f2;rw[f3]at this;exact this) hx⟩;obtain⟨g1,g2,g3⟩:=f1 k hk;exact⟨by have:=hc _ g1;rw[g2]at this;exact this,g3⟩
structure acH where
 C:adG
 s:adJ
 H:Hp
 ex:List adG
 pn:List (adG×Obj)
def cB (F:aU ι)(own:List Str)(fr:List Nat)(sc:Scope)(cl : ι->List (Str×adG)):aU (ι×acH) where
 cx i:=dM (F.cx i.1) own fr sc (cl i.1) i.2.C i.2.s i.2.H i.2.ex i.2.pn
 P:=F.P
 w:=F.w
 K:=F.K
 mg:=F.mg
 base:=F.base
 room:=F.room
 hP i:=F.hP i.1
 hw i:=F.hw i.1
 hK i:=F.hK i.1
 hm i:=F.hm i.1
 hb i:=F.hb i.1
 hr i:=F.hr i.1
 calm i:=F.calm i.1
def cH (own:List Str)(fr:List Nat)(ρ:En):En:=own.map (λ_=>none)++fr.map λj=>(ρ[j]?).join
theorem MX {K:Frag}(r:aX K G ρ σ):aX K G (cH own fr ρ) (mH own fr σ):=λi d h=>by
 unfold cH at h;unfold mH;by_cases hi:i<own.length
 ·grind
 ·rw[wb 'J',l8,aa]at h;rw[wb 'J',l8,aa];cases q:fr[i-own.length]? with
  |none=>rw[q]at h;cases h
  |some j=>
   rw[q]at h;have hj : ρ[j]?=some (some (.fz d)):=by
    grind
   obtain⟨v,h1,h2⟩:_:=r j d hj
   simp_all
def El {κ:Type}(F:aU κ)(ifs:List Expr)(ρ:En)(b:Bool):Prop:=∃tt:TT,(∀i (pins:List (adG×Obj)) (s1:adJ) (aq:St) (H1:Hp) (Q:Bool->Hp->Prop),Inv (F.cx i) pins aq H1 s1->tt aq H1 Q ->
   wpAny (model (F.cx i).prog (F.cx i).w) (F.cx i).A (mG ifs (F.cx i).env) (TP (F.cx i) pins aq Q) cU s1)/\∀σ G H Q,aj G H->aX F.K G ρ σ->(∀G' H',Step G H G' H'->Q b H')->tt σ H Q
theorem sf:El F [] ρ true:=⟨Lc,λi pins s1 aq H1 Q I h=>OY pins s1 aq H1 Q I h,λσ G H Q s r k=>k G H (.refl s)⟩
theorem hZ (h:Et F c ρ p)(hx:∀i,(F.cx i).xe=cU:=by intro _;rfl):El F [c] ρ p:=by obtain⟨τ,x,y⟩:=h;exact⟨τ,λi pins s1 aq H1 Q I h=>OZ (x i) (hx i) pins s1 aq H1 Q I h,y⟩
def uL {κ:Type}(F:aU κ)(ifs:List Expr):TT:=λσ H Q=>∃tt:TT,(∀i (pins:List (adG×Obj)) (s1:adJ) (aq:St) (H1:Hp) (Q:Bool->Hp->Prop),Inv (F.cx i) pins aq H1 s1->tt aq H1 Q ->
   wpAny (model (F.cx i).prog (F.cx i).w) (F.cx i).A (mG ifs (F.cx i).env) (TP (F.cx i) pins aq Q) cU s1)/\tt σ H Q
def Ay (F:aU ι)(own:List Str)(fr:List Nat)(sc:Scope)(cl : ι->List (Str×adG))(elt tg iter:Expr)(ifs:List Expr)(τ:TE):Prop:=∃wi g tt te,τ=Ap wi g tt te own fr/\(∀i,PI (F.cx i) tg iter wi)/\(∀i,PG ((cB F own fr sc cl).cx i) tg g) /\
 (∀i (pins:List (adG×Obj)) (s1:adJ) (aq:St) (H1:Hp) (Q:Bool->Hp->Prop),Inv ((cB F own fr sc cl).cx i) pins aq H1 s1->tt aq H1 Q->wpAny (model ((cB F own fr sc cl).cx i).prog ((cB F own fr sc cl).cx i).w) ((cB F own fr sc cl).cx i).A (mG ifs ((cB F own fr sc cl).cx i).env) (TP ((cB F own fr sc cl).cx i) pins aq Q) cU s1) /\
 ∀i,PE ((cB F own fr sc cl).cx i) elt te
def gD (F:aU ι)(own:List Str)(fr:List Nat)(sc:Scope)(cl : ι->List (Str×adG))(elt tg iter:Expr)(ifs:List Expr)(ρ:En)(t:Tr):Prop:=∃τ,Ay F own fr sc cl elt tg iter ifs τ/\∀σ G H Q,aj G H->aX F.K G ρ σ->Kv F.K G H t Q->τ σ H Q
theorem Q6 (hi:bb F tg iter ρ its)(hg:iA (cB F own fr sc cl) tg js sp)(gS:∀j∈js,j<own.length)(p:Nat->Bool)(f:Nat->Tr)(hz:its.length<sizeLine)(step:∀k d,its[k]?=some d->∃dd,sp d=some dd/\El (cB F own fr sc cl) ifs (a8 js (dd.map .fz) (cH own fr ρ)) (p k)/\(p k=true->Ev (cB F own fr sc cl) elt (a8 js (dd.map .fz) (cH own fr ρ)) (f k)))(jO:∀dd:List Dv,i9 js (a8 js (dd.map .fz) (cH own fr ρ))=cH own fr ρ):gD F own fr sc cl elt tg iter ifs ρ (.ow (((List.range its.length).filter p).map f)):=by
 obtain⟨wi,pi,qi⟩:_:=hi;obtain⟨g,pg,qg⟩:_:=hg;refine⟨_,⟨wi,g,uL (cB F own fr sc cl) ifs,uE (cB F own fr sc cl) elt,rfl,pi,pg,λi pins s1 aq H1 Q I h=>by
   obtain⟨tt,h1,h2⟩:_:=h;exact h1 i pins s1 aq H1 Q I h2,λi=>dJ i⟩,λσ G H Q s r k=>?_⟩
 refine qi σ G H _ s r λJ G1 H1 s1 it acc dS=>?_
 have k1:=k.step s1;have MY:∀{G':Hp} {js':List Nat} {ρ':En} {aD:St},aX F.K G' ρ' aD->aX F.K G' (i9 js' ρ') aD:=by
  intro G' js'
  induction js' with
  |nil=>intro ρ' aD z;exact z
  |cons j js' ih=>
   intro ρ' aD z;refine ih (ρ':=ρ'.set j none) λi d hd=>?_
   by_cases q:j=i
   ·subst q;rw[List.getElem?_set]at hd;simp at hd
   ·rw[FF q]at hd;exact z i d hd
 refine⟨λi m ys aq H2=>m=its.length-i/\i<=its.length/\aq.length=own.length+fr.length/\H2 acc=some (.lst ys)/\∃G2 fq,Step G1 H1 G2 H2/\aT F.K G2 H2 (((List.range i).filter p).map f) ys fq/\Nw H1 G2 (acc::fq)/\aX F.K G2 (cH own fr ρ) aq,
  ⟨_,rfl,zd _,by simp[mH],bM,G1,[],.jR s1.s dS,⟨rfl,rfl⟩,⟨λa ha=>by rw[BB.mp ha];exact dS,λa ha=>by rw[BB.mp ha];exact s1.s.free dS,'Y'⟩,(MX r).mono s1.g⟩,?_⟩
 rintro i m ys aq H2 ⟨rfl,hi,tG,kO,G2,fq,s2,o2,w2,r2⟩;have hlen:ys.length<sizeLine:=by
  rw[<- o2.length,aa];have:=Pe p (List.range i);rw[xy]at this;lia
 refine⟨kO,hlen,?_⟩;obtain⟨i1,i2⟩:=it i G2 H2 s2.g s2.s;by_cases bC:i<its.length
 ·have hd:=ar bC;obtain⟨j1,j2⟩:=i1 _ hd;obtain⟨dd,e1,el,ev⟩:=step i _ hd;refine .inr ⟨j1,λzs dg H3=>dg.length=own.length+fr.length/\H3 acc=some (.lst zs)/\∃G3 fq,Step G1 H1 G3 H3/\aT F.K G3 H3 (((List.range (i+1)).filter p).map f) zs fq/\Nw H1 G3 (acc::fq)/\aX F.K G3 (cH own fr ρ) dg,
   λzs dg H3 z=>⟨its.length-(i+1),'O',rfl,bC,z⟩,λx H3 y=>?_⟩
  obtain⟨G3,s3,h3⟩:_:=j2 x H3 y;refine qg _ dd x aq G3 H3 _ e1 s3.s h3 λvs nB=>?_
  have hjl:∀j∈js,j<aq.length:=λj hj=>by have:=gS j hj;lia
  have rr:=aX.a8 hjl nB (r2.mono s3.g);have vt:∀{Ga Ha Gb Hb:Hp} {fs:List adG},Step Ga Ha Gb Hb->(∀a∈fs,Ga a=none)->(∀a∈fs,∃o,Ha a=some o)->∀a∈fs,Gb a=none:=λ{Ga Ha Gb Hb fs} st h1 h2 a ha=>by
   cases q:Gb a with
   |none=>rfl
   |some u=>
    obtain⟨u',bw⟩:=h2 a ha;have:=st.n a (h1 a ha) (by rw[q];exact λz=>nomatch z);rw[bw]at this;cases this
  have qL:∀a∈acc::fq,∃o,H2 a=some o:=λa ha=>(ff.mp ha).elim (λz=>⟨_,z▸kO⟩) (o2.there a)
  have er:(List.range (i+1)).filter p=(List.range i).filter p++if p i=true then [i]else []:=by
   rw[List.range_succ,ad4];congr 1;simp[aat]
  obtain⟨tt,pt,qt⟩:_:=el;refine⟨tt,pt,qt _ G3 H3 _ s3.s rr λG5 H5 s5=>?_⟩;have gT:=s3.trans s5;cases hp:p i with
  |false=>
   refine lQ ⟨by rw[uc];exact tG,gT.h _ _ kO,G5,fq,s2.trans gT,?_,⟨w2.n,vt gT w2.g qL,w2.d⟩,?_⟩
   ·rw[er,hp,rf 'Q',zw];exact o2.mono gT.g gT.h
   ·have:=MY (js':=js) (rr.mono s5.g);rwa [jO dd]at this
  |true=>
   obtain⟨te,pe,qe⟩:_:=ev hp;refine lR ⟨te,pe,qe _ G5 H5 _ s5.s (rr.mono s5.g) λv G6 H6 f6 s6 o6 w6=>?_⟩;have iB:=gT.trans s6;have Hj:=iB.h _ _ kO;have qM:∀a∈f6,a∉acc::fq:=λa ha hb=>by
    obtain⟨u,hu⟩:=qL a hb;have:=gT.h _ _ hu;rw[w6.n a ha]at this;cases this
   have qN:=AE.mp w2.d;have g6:=vt iB w2.g qL;refine⟨Hj,by rw[uc];exact tG,bM,G6,fq++(f6++[]),⟨(s2.trans iB).g,λb u hb=>?_,λb u hb=>?_,(s2.trans iB).n⟩,?_,⟨λa ha=>?_,λa ha=>?_,?_⟩,?_⟩
   ·rw[aH λz=>by subst z;rw[dS]at hb;cases hb];exact(s2.trans iB).h b u hb
   ·rw[aH λz=>by subst z;rw[g6 _ (.head _)]at hb;cases hb];exact s6.s b u hb
   ·rw[er,hp,uu rfl,B0];refine aT.append ((o2.mono iB.g iB.h).frame qN.1) ⟨v,[],f6,[],rfl,rfl,o6.frame λz=>qM _ z (.head _),rfl,rfl⟩
   ·rw[zw]at ha;obtain z|z:=ff.mp ha
    ·exact w2.n a (z▸.head _)
    ·obtain z|z:=qr.mp z
     ·exact w2.n a (.tail _ z)
     ·exact(s2.trans gT).h.free (w6.n a z)
   ·rw[zw]at ha;obtain z|z:=ff.mp ha
    ·exact g6 a (z▸.head _)
    ·obtain z|z:=qr.mp z
     ·exact g6 a (.tail _ z)
     ·exact w6.g a z
   ·rw[zw];refine AE.mpr ⟨λz=>?_,AN.mpr ⟨qN.2,w6.d,λa ha b hb z=>?_⟩⟩
    ·obtain z|z:=qr.mp z
     ·exact qN.1 z
     ·exact qM _ z (.head _)
    ·subst z;exact qM a hb (.tail _ ha)
   ·have:=MY (js':=js) (rr.mono (s5.trans s6).g);rwa [jO dd]at this
 ·have e:i=its.length:='O'
  subst e;refine .inl ⟨i2 rfl,k1 (.ref acc) G2 H2 (acc::fq) s2 ⟨acc,ys,fq,rfl,kO,o2,rfl⟩ w2⟩
theorem zy (L:∀i,hJ (F.cx i) sc (cl i) fr)(hi:bb F tg iter ρ its)(hg:iA (cB F own fr sc cl) tg js sp)(gS:∀j∈js,j<own.length)(p:Nat->Bool)(f:Nat->Tr)(hz:its.length<sizeLine)(step:∀k d,its[k]?=some d->∃dd,sp d=some dd/\El (cB F own fr sc cl) ifs (a8 js (dd.map .fz) (cH own fr ρ)) (p k)/\(p k=true->Ev (cB F own fr sc cl) elt (a8 js (dd.map .fz) (cH own fr ρ)) (f k)))(jO:∀dd:List Dv,i9 js (a8 js (dd.map .fz) (cH own fr ρ))=cH own fr ρ)(hs:∀i x,foldedSetIterable iter (F.cx i).env x=pure x:=by intro _ _;rfl):
  Ev F (.ListComp elt [⟨tg,iter,ifs,0⟩] sc pos) ρ (.ow (((List.range its.length).filter p).map f)):=by
 obtain⟨τ,⟨wi,g,tt,te,rfl,h1,h2,h3,h4⟩,h5⟩:_:=Q6 hi hg gS p f hz step jO;exact⟨_,λi=>OW (L i) (F.calm i) (h1 i) (λC s H ex pn=>h2 (i,⟨C,s,H,ex,pn⟩)) (λC s H ex pn=>h3 (i,⟨C,s,H,ex,pn⟩)) (λC s H ex pn=>h4 (i,⟨C,s,H,ex,pn⟩)) (hs i),h5⟩
end
structure IxD (k:Nat) (qual:Str) (sc:Scope) (f:adG) where
 aL:vn
 A:Around
 outer:List Env
 s:adJ
 H:Hp
 E:XK
 hr:dA k (A.deeper (envOfC qual sc s.heap.objs.size f aL))
def iR (P:afU)(w:afV)(K:Frag)(mg:Str->Option vn)(base:Heap)(N:List Str)(qual:Str)(sc:Scope)(f:adG)(k:Nat):aU (IxD k qual sc f) where
 cx i:=(lO bx P w K mg base N qual sc f i.aL i.A i.outer i.s i.H i.E).v7
 P:=P
 w:=w
 K:=K
 mg:=mg
 base:=base
 room:=k
 hP _:=rfl
 hw _:=rfl
 hK _:=rfl
 hm _:=rfl
 hb _:=rfl
 hr i:=i.hr
 calm _:=rfl
def Hk (N:List Str)(dd:List Dv):En:=dd.map (λd=>some (.fz d))++List.replicate (N.length-dd.length) none
theorem Kb {K:Frag}:∀n,bu K G H (List.replicate n none) (List.replicate n none) []
 |0=>⟨rfl,rfl⟩
 |n+1=>⟨none,List.replicate n none,rfl,Kb n⟩
theorem JG {K:Frag}:∀{dd:List Dv} {vs:List V},aG K G dd vs->bu K G H (dd.map (λd=>some (.fz d))++List.replicate n none) (vs.map some++List.replicate n none) []
 |[],_,h=>by rw[h];exact Kb n
 |_::_,_,z9=>by obtain⟨x,r,h1,h2,h3⟩:=z9;subst h1;exact⟨x,_,[],[],rfl,rfl,⟨rfl,h2⟩,JG h3⟩
theorem Fi {K:Frag}{st:afW}(Fd:fE K x qual st dV f fd)(S:aZ N ps (aA st))(hl:∀dd t,R dd t->dd.length=ps.length)(hb:∀dd t,R dd t->∃o,(o=.rt t\/(t=tn/\∃ρ',o=.nx ρ'))/\bE (iR P w K mg base N qual (aA st) f k) (dw st) (Hk N dd) o):bQ P w K mg base bx (k+1) f fd ps (spT K R):=by
 refine Fd.ok S (λvs H Q E z9=>by obtain⟨G,dd,t,s,h1,h2,h3⟩:_:=z9;rw[<- h1.length];exact hl dd t h2) λaL A outer s H vs Q E hr h=>?_
 obtain⟨G,dd,t,s',h1,h2,h3⟩:_:=h;obtain⟨o,ho,τ,x,y⟩:_:=hb dd t h2;refine⟨τ,x ⟨aL,A,outer,s,H,E,hr⟩,y _ (start N vs) G H G H ⟨[],.refl s',?_,λ_ z=>(nomatch z),λ_ z=>(nomatch z),.nil⟩ ?_⟩
 ·unfold start Hk;rw[<- h1.length];exact JG h1
 ·obtain rfl|⟨rfl,ρ',rfl⟩:=ho
  ·exact λv G1 H1 fq s1 o1 w1=>h3 v G1 H1 fq s1 o1 w1
  ·exact λσ G1 H1 z9=>by obtain⟨fp,r⟩:=z9;exact h3 .aY G1 H1 [] r.st ⟨rfl,rfl,rfl⟩ .nil
def Q7 (K:Frag)(l1 l2:adG)(xs ys:List V):It:=
 ⟨λi H=>aK K H l1 xs/\aK K H l2 ys/\i<min xs.length ys.length,λi H x H'=>∃T vx vy,H T=none/\xs[i]?=some vx/\ys[i]?=some vy/\x=.ref T/\H'=upd H T (.tup [vx,vy]),λi H=>aK K H l1 xs/\aK K H l2 ys/\i=min xs.length ys.length⟩
def Q8 (K:Frag)(l:adG)(xs:List V):It:=
 ⟨λi H=>aK K H l xs/\i<xs.length,λi H x H'=>∃T v,H T=none/\xs[i]?=some v/\x=.ref T/\H'=upd H T (.tup [.int (i:Nat),v]),λi H=>aK K H l xs/\i=xs.length⟩
section
variable {σ:St}
theorem Inv.Dg {fs:List adG}(I:Inv X pins σ H s)(k:∀b o,b∉fs->s.heap.get? b=some o->h'.get? b=some o)(hf:∀b∈fs,jm X pins H b):Inv X pins σ H {s with heap:=h',toks:=t'}:=by
 have Hl:∀b u,H b=some u->b∉fs:=λb u e z=>by rw[(hf b z).1]at e;cases e
 refine I.step (g':=s.gens) (d':=s.drawn) (λb hb=>?_) (λb o _ _ hc e _=>k b o hc e) (λb o _ _ hc e _=>⟨o.slots,k b o hc e⟩) (λ_ _ _ _ n=>n)
  (λb o hc e=>⟨o,k b o hc e⟩) (λ_ _ e=>e) (λ_ _ _ e=>e) (λb ps e=>⟨#[],by rw[e];simp⟩) (λm hm=>?_) (λb u e=>?_) I.bare
 ·obtain⟨f0,f1,f2,f3,f4,f5⟩:=hf b hb;exact⟨f3,f1,f4,f5⟩
 ·obtain⟨o,es,ep,ho,r⟩:=hm;exact⟨o,es,ep,k _ o (λz=>(hf _ z).2.1 rfl) ho,r⟩
 ·refine(I.aO b u e).mY (λc v hc q=>k c v ?_ q) (λ_ q=>q) λ_ _ q=>q
  obtain z|z:=hc
  ·rw[z];exact Hl b u e
  ·exact Hl c _ z
theorem Inv.Lh {fs:List adG}{T:adG}(I:Inv X pins σ H s)(k:∀b o,b∉fs->s.heap.get? b=some o->h'.get? b=some o)(hf:∀b∈fs,jm X pins H b)(hT:s.heap.objs.size<=T)(new:ie X.prog X.w (upd H T (.tup vs)) h' T (.tup vs)):Inv X pins σ (upd H T (.tup vs)) {s with heap:=h',toks:=t'}:=by
 have hn:=I.aO.fresh hT;have Hl:∀b u,H b=some u->b∉fs:=λb u e z=>by rw[(hf b z).1]at e;cases e
 have ne:∀b o,s.heap.get? b=some o->b≠T:=λb o e z=>by subst z;exact absurd (ze (nt e) hT) (abc _)
 refine I.step (g':=s.gens) (d':=s.drawn) (λb hb=>?_) (λb o _ _ hc e _=>k b o hc e) (λb o _ _ hc e _=>⟨o.slots,k b o hc e⟩) (λb o _ e n=>by rw[aH (ne b o e)];exact n)
  (λb o hc e=>⟨o,k b o hc e⟩) (λ_ _ e=>by rw[aH (j8 e hn)];exact e) (λ_ _ _ e=>by rw[aH (j8 e hn)];exact e) (λb ps e=>⟨#[],by rw[aH (j8 e hn),e];simp⟩) (λm hm=>?_) (λb u e=>?_) I.bare
 ·obtain⟨f0,f1,f2,f3,f4,f5⟩:=hf b hb
  grind
 ·obtain⟨o,es,ep,ho,r⟩:=hm;exact⟨o,es,ep,k _ o (λz=>(hf _ z).2.1 rfl) ho,r⟩
 ·by_cases hb:b=T
  ·subst hb;rw[bM]at e;cases e;exact new
  ·rw[aH hb]at e;refine(I.aO b u e).mY (λc v hc q=>k c v ?_ q) (λc q=>by rw[aH (j8 q hn)];exact q) λc xs q=>by rw[aH (j8 q hn)];exact q
   grind
end
theorem XH {K:Frag}{TI TO:adG}(D:ZipApart z TI TO i1 i2 l1 l2):
  Turn P w K (.Tuple elts kk pos) (Q7 K l1 l2 xs ys) [z,TI,TO,i1,i2] z (λi h=>IsZip h z TI TO .none/\IsPair h TI (.ref i1) (.ref i2)/\(∃a b,IsPair h TO a b)/\h.IsListIter i1 l1 i/\h.IsListIter i2 l2 i) where
 mem:='Y'
 obj:=by
  rintro i h ⟨h1,h2,⟨a,c,h3⟩,⟨o1,h4,_,h5⟩,⟨o2,h6,_,h7⟩⟩ b hb;simp[ff,afL,or_false]at hb;obtain rfl|rfl|rfl|rfl|rfl:=hb
  ·exact⟨_,h1,λv z=>by cases z⟩
  ·exact⟨_,h2,λv z=>by cases z⟩
  ·exact⟨_,h3,λv z=>by cases z⟩
  ·exact⟨_,h4,λv z=>by rw[h5]at z;cases z⟩
  ·exact⟨_,h6,λv z=>by rw[h7]at z;cases z⟩
 keep:=by
  rintro i h h' ⟨h1,h2,⟨a,c,h3⟩,h4,h5⟩ k;exact⟨k _ 'Y' _ h1,k _ 'Y' _ h2,⟨a,c,k _ 'Y' _ h3⟩,h4.at λo e=>k _ 'Y' o e,h5.at λo e=>k _ 'Y' o e⟩
 item:=by
  intro X hP hw hK hc i pins s σ H E I hf st hg;subst hP hw hK;obtain⟨gU,wB,bC⟩:=hg;obtain⟨jS,kQ,p1,wC⟩:_:=I.list gU;obtain⟨ig,wD,p2,Q9⟩:_:=I.list wB;have e1:=kQ.length;have e2:=wD.length;have W:=WalksT.zip2 (prog:=X.prog) (w:=X.w) (A:=X.A) (I.ok.hd hc) z TI TO i1 i2 l1 l2 D jS.toArray ig.toArray;refine W.item i s _ _ (by simp;lia) ⟨st.1,st.2.1,st.2.2.1,st.2.2.2.1,st.2.2.2.2,p1.isList,p2.isList⟩ λT vals h' tk Hm qO Gg vN hk=>⟨.ref T,rfl,W.go elts kk pos i T _ _ _ vN λh'' oy vO=>?_⟩
  obtain⟨x,y,hx,hy,rfl⟩:_:=Hm;have wG:xs[i]?=some (xs[i]'(by omega)):=ar _;have Ra:ys[i]?=some (ys[i]'(by omega)):=ar _;obtain⟨u,hu,ru⟩:_:=kQ.get wG;obtain⟨u',bw,ru'⟩:_:=wD.get Ra;have ex:x=u:=by
   have:jS[i]?=some x:=by simpa using hx
   rw[hu]at this;exact(GG this).symm
  have ey:y=u':=by
   have:ig[i]?=some y:=by simpa using hy
   rw[bw]at this;exact(GG this).symm
  subst ex ey;have sub:∀b∈[z,TO,i1,i2],b∈[z,TI,TO,i1,i2]:=λb hb=>by
   simp[ff,afL,or_false]at hb ⊢;obtain rfl|rfl|rfl|rfl:=hb<;>simp
  have Hn:=Gg.at λo e=>vO T o (W.apart i T _ vN) e
  refine⟨.ref T,upd H T (.tup [xs[i]'(by omega),ys[i]'(by omega)]),I.Lh (λb o hb e=>vO b o hb (hk b o hb e)) (λb hb=>hf b (sub b hb)) qO ⟨by show 2<=sizeLine;decide,[x,y],.cons ru (.cons ru' .nil),Hn⟩,rfl,
   ⟨T,_,_,I.aO.fresh qO,wG,Ra,rfl,rfl⟩,⟨oy.1,oy.2.1,oy.2.2.1,oy.2.2.2.1,oy.2.2.2.2.1⟩,λb hb=>?_⟩
  obtain⟨o,eo,_⟩:∃o,s.heap.get? b=some o/\True:=by
   obtain⟨g1,g2,⟨a,c,g3⟩,⟨o1,g4,_⟩,⟨o2,g6,_⟩⟩:_:=st;simp[ff,afL,or_false]at hb;obtain rfl|rfl|rfl|rfl|rfl:=hb
   ·exact⟨_,g1,trivial⟩
   ·exact⟨_,g2,trivial⟩
   ·exact⟨_,g3,trivial⟩
   ·exact⟨_,g4,trivial⟩
   ·exact⟨_,g6,trivial⟩
  rw[aH (AS (ze (nt eo) qO))];exact(hf b hb).1
 done:=by
  intro X hP hw hK hc i pins s σ H E I hf st hg;subst hP hw hK;obtain⟨gU,wB,rfl⟩:=hg;obtain⟨jS,kQ,p1,wC⟩:=I.list gU;obtain⟨ig,wD,p2,Q9⟩:=I.list wB;have e1:=kQ.length;have e2:=wD.length;have W:=WalksT.zip2 (prog:=X.prog) (w:=X.w) (I.ok.hd hc) z TI TO i1 i2 l1 l2 D jS.toArray ig.toArray;have en:min jS.toArray.size ig.toArray.size=min xs.length ys.length:=by simp[Co];lia
  refine W.done s _ _ (by rw[en];exact⟨st.1,st.2.1,st.2.2.1,st.2.2.2.1,st.2.2.2.2,p1.isList,p2.isList⟩) λh' tk hk=>⟨rfl,I.Dg hk λb hb=>hf b ?_⟩
  simp[ff,or_false]at hb ⊢;obtain rfl|rfl|rfl|rfl:=hb<;>simp
 self:=λA i s Q E st h=>wpAny_pyIter_zip st.1 h
theorem WU {K:Frag}(Rb:e≠it)(hle:l≠e)(qP:l≠it):
  Turn P w K (.Tuple elts kk pos) (Q8 K l xs) [e,it] e (λi h=>(∃old,IsEnum h e it i old)/\h.IsListIter it l i) where
 mem:='Y'
 obj:=by
  rintro i h ⟨⟨old,h1⟩,⟨o1,h4,_,h5⟩⟩ b hb
  grind
 keep:=by
  rintro i h h' ⟨⟨old,h1⟩,h4⟩ k;exact⟨⟨old,k _ 'Y' _ h1⟩,h4.at λo e=>k _ 'Y' o e⟩
 item:=by
  intro X hP hw hK hc i pins s σ H E I hf st hg;subst hP hw hK;obtain⟨gU,bC⟩:=hg;obtain⟨jS,kQ,p1,wC⟩:_:=I.list gU;have e1:=kQ.length;have W:=WalksT.enumerate (prog:=X.prog) (w:=X.w) (A:=X.A) (I.ok.hd hc) e it l Rb hle qP jS.toArray;refine W.item i s _ _ 'J' ⟨st.1,st.2,p1.isList⟩ λT vals h' tk Hm qO Gg vN hk=>⟨.ref T,rfl,W.go elts kk pos i T _ _ _ vN λh'' oy vO=>?_⟩
  obtain⟨t,x,hx,rfl⟩:=Hm;have wG:xs[i]?=some (xs[i]'(by omega)):=ar _;obtain⟨u,hu,ru⟩:_:=kQ.get wG;have ex:x=u:=by
   simp_all
  subst ex;have Hn:=Gg.at λo e=>vO T o (W.apart i T _ vN) e
  refine⟨.ref T,upd H T (.tup [.int (i),xs[i]'(by omega)]),I.Lh (λb o hb e=>vO b o hb (hk b o hb e)) hf qO ⟨by show 2<=sizeLine;decide,[.int (i) t,x],.cons ⟨t,rfl⟩ (.cons ru .nil),Hn⟩,rfl,
   ⟨T,_,I.aO.fresh qO,wG,rfl,rfl⟩,⟨oy.1,oy.2.1⟩,λb hb=>?_⟩
  obtain⟨o,eo,_⟩:∃o,s.heap.get? b=some o/\True:=by
   obtain⟨⟨old,g1⟩,⟨o1,g4,_⟩⟩:_:=st
   grind
  rw[aH (AS (ze (nt eo) qO))];exact(hf b hb).1
 done:=by
  intro X hP hw hK hc i pins s σ H E I hf st hg;subst hP hw hK;obtain⟨gU,rfl⟩:=hg;obtain⟨jS,kQ,p1,wC⟩:=I.list gU;have e1:=kQ.length;have W:=WalksT.enumerate (prog:=X.prog) (w:=X.w) (I.ok.hd hc) e it l Rb hle qP jS.toArray;have en:jS.toArray.size=xs.length:='J'
  exact W.done s _ _ (by rw[en];exact⟨st.1,st.2,p1.isList⟩) λh' tk hk=>⟨rfl,I.Dg hk hf⟩
 self:=λA i s Q E st h=>by
  obtain⟨⟨old,h1⟩,_⟩:_:=st;exact wpAny_pyIter_enum h1 h
def Gh (K:Frag)(ta:TA):TI:=λσ H R=>ta σ H λvs H1=>∃l1 l2 xs ys,vs=[.ref l1,.ref l2]/\aK K H1 l1 xs/\aK K H1 l2 ys/\R (Q7 K l1 l2 xs ys) H1
def Gj (K:Frag)(ta:TA):TI:=λσ H R=>ta σ H λvs H1=>∃l xs,vs=[.ref l]/\aK K H1 l xs/\R (Q8 K l xs) H1
section
variable {elts:List Expr}{kk:Nat}{tp:Pos}
theorem MZ {p pos:Pos}(hg:Gl X "zip")(hm:X.mg "zip"=none)(ha:PA X [a,b] ta)(hs:starEach [a,b] X.env=[(false,eval a X.env),(false,eval b X.env)]:=by rfl)(du:starEach [b] X.env=[(false,eval b X.env)]:=by rfl):
  PI X (.Tuple elts kk tp) (.Call (.Name "zip" p) [a,b] [] pos) (Gh X.K ta):=by
 intro pins s σ H R I h;refine Call_ (mK I hg hm aaS (LH (aJ (ha pos pins s σ H _ I h) λus s1 z9=>?_) 'J' (by rw[du];rfl)));obtain⟨vs,H1,I1,r1,q1⟩:=z9;obtain⟨l1,l2,xs,ys,rfl,gU,wB,q⟩:_:=q1;obtain⟨u1,u2,rfl,c1,c2⟩:=r1.two;cases c1;cases c2;obtain⟨jS,kQ,p1,wC⟩:_:=I1.list gU;obtain⟨ig,wD,p2,Q9⟩:_:=I1.list wB;have Az:l1<s1.heap.objs.size:=by obtain⟨o,n,e,_⟩:=p1;exact nt e
 have wu:l2<s1.heap.objs.size:=by obtain⟨o,n,e,_⟩:=p2;exact nt e
 refine call_zip_2 p1.isList p2.isList λh' hz hTI hTO hi1 hi2 cT hk=>wpAny_pyIter_zip hz ?_
 have I2:=I1.kept (t':=s1.toks) hk;refine⟨s1.heap.objs.size+4,[s1.heap.objs.size+4,s1.heap.objs.size+2,s1.heap.objs.size+3,s1.heap.objs.size,s1.heap.objs.size+1],_,_,H1,rfl,I2,XH (PySem.W.ktu_apart _ _ _ Az wu),⟨hz,hTI,⟨_,_,hTO⟩,hi1,hi2⟩,λb hb=>?_,q⟩;have nC:s1.heap.objs.size<=b:=by
  grind
 obtain⟨f0,f1,f2,f3,f4,f5⟩:_:=I1.vJ (H':=H1) nC (I1.aO.fresh nC);exact⟨f0,f1,f2,f3,f4,f5⟩
theorem Li (hg:Gl X "enumerate")(hm:X.mg "enumerate"=none)(ha:PA X [a] ta)(hs:starEach [a] X.env=[(false,eval a X.env)]:=by rfl):
  PI X (.Tuple elts kk tp) (.Call (.Name "enumerate" p) [a] [] pos) (Gj X.K ta):=by
 intro pins s σ H R I h;refine Call_ (mK I hg hm Vd (LH (aJ (ha pos pins s σ H _ I h) λus s1 z9=>?_) hs rfl));obtain⟨vs,H1,I1,r1,q1⟩:=z9;obtain⟨l,xs,rfl,gU,q⟩:_:=q1;obtain⟨u1,rfl,c1⟩:=r1.one;cases c1;obtain⟨jS,kQ,p1,wC⟩:_:=I1.list gU;have Az:l<s1.heap.objs.size:=by obtain⟨o,n,e,_⟩:_:=p1;exact nt e
 refine call_enumerate_list p1.isList λh' hE hI cT hk=>wpAny_pyIter_enum hE ?_
 have I2:=I1.kept (t':=s1.toks) hk;refine⟨s1.heap.objs.size+1,[s1.heap.objs.size+1,s1.heap.objs.size],_,_,H1,rfl,I2,WU (Nat.succ_ne_self _) (PySem.W.ktu_ne 1 Az) (AS Az),⟨⟨_,hE⟩,hI⟩,λb hb=>?_,q⟩;have nC:s1.heap.objs.size<=b:=by
  grind
 obtain⟨f0,f1,f2,f3,f4,f5⟩:_:=I1.vJ (H':=H1) nC (I1.aO.fresh nC);exact⟨f0,f1,f2,f3,f4,f5⟩
end
section
variable {F:aU ι}{elts:List Expr}{kk:Nat}{tp pos:Pos}
def iS (xs ys:List Dv):List Dv:=List.zipWith (λx y=>.tup [x,y]) xs ys
def gL (xs:List Dv):List Dv:=(List.range xs.length).zipWith (λk x=>.tup [di (k:Nat),x]) xs
theorem Lj (hm:F.mg "zip"=none)(ha:Ev F a ρ ta)(hb:Ev F b ρ tb')(ea:er ta=.lst xs)(eb:er tb'=.lst ys){p:Pos}(hg:∀i,Gl (F.cx i) "zip":=by intro _;rfl)(hs:∀i,starEach [a,b] (F.cx i).env=[(false,eval a (F.cx i).env),(false,eval b (F.cx i).env)]:=by intro _;rfl)(du:∀i,starEach [b] (F.cx i).env=[(false,eval b (F.cx i).env)]:=by intro _;rfl):
  bb F (.Tuple elts kk tp) (.Call (.Name "zip" p) [a,b] [] pos) ρ (iS xs ys):=by
 obtain⟨τ,p,q⟩:_:=(ah ha (ah hb ao du) (λi=>'J')).use;refine⟨Gh F.K τ,λi=>F.hK i▸MZ (hg i) ((F.hm i).symm▸hm) (p i) (hs i) (du i),λσ G H R s r k=>q σ G H _ s r λvs G1 H1 s1 hx=>?_⟩;obtain⟨x,y,rfl,h1,h2⟩:_:=pZ hx;rw[ea]at h1;rw[eb]at h2;obtain⟨l1,us,rfl,g1,g2⟩:_:=h1;obtain⟨l2,ws,rfl,g3,g4⟩:_:=h2;have e1:=g2.length;have e2:=g4.length;refine⟨l1,l2,us,ws,rfl,s1.s.seq g1,s1.s.seq g3,k _ G1 H1 s1 λj G2 H2 sg sh=>⟨λd hd=>?_,λhz=>?_⟩⟩
 ·unfold iS at hd;rw[Pf]at hd;cases qx:xs[j]? with
  |none=>rw[qx]at hd;cases hd
  |some dx=>
   cases qy:ys[j]? with
   |none=>rw[qx,qy]at hd;cases hd
   |some dy=>
    rw[qx,qy]at hd;cases hd;obtain⟨vx,x1,x2⟩:_:=g2.get qx;obtain⟨vy,y1,y2⟩:_:=g4.get qy;have lx:=(gr.mp x1).1;have ly:=(gr.mp y1).1;refine⟨⟨(sg.trans sh).seq g1,(sg.trans sh).seq g3,'O'⟩,?_⟩;intro x H3 z9;obtain⟨T,wx,wy,hT,z1,z2,rfl,rfl⟩:_:=z9;rw[x1]at z1;rw[y1]at z2;cases z1;cases z2;refine⟨_,.new sh hT,T,_,rfl,cO.of bM,_,_,rfl,(x2.mono sg).mono (aj.new (sh.free hT)),_,_,rfl,(y2.mono sg).mono (aj.new (sh.free hT)),rfl⟩
 ·refine⟨(sg.trans sh).seq g1,(sg.trans sh).seq g3,?_⟩;rw[hz];unfold iS
  simp_all
theorem rJ (hm:F.mg "enumerate"=none)(ha:Ev F a ρ ta)(ea:er ta=.lst xs){p:Pos}(hg:∀i,Gl (F.cx i) "enumerate":=by intro _;rfl)(hs:∀i,starEach [a] (F.cx i).env=[(false,eval a (F.cx i).env)]:=by intro _;rfl):bb F (.Tuple elts kk tp) (.Call (.Name "enumerate" p) [a] [] pos) ρ (gL xs):=by
 obtain⟨τ,p,q⟩:_:=(ah ha ao hs).use;refine⟨Gj F.K τ,λi=>F.hK i▸Li (hg i) ((F.hm i).symm▸hm) (p i) (hs i),λσ G H R s r k=>q σ G H _ s r λvs G1 H1 s1 hx=>?_⟩;obtain⟨x,rfl,h1⟩:=iQ hx;rw[ea]at h1;obtain⟨l1,us,rfl,g1,g2⟩:=h1;have e1:=g2.length;refine⟨l1,us,rfl,s1.s.seq g1,k _ G1 H1 s1 λj G2 H2 sg sh=>⟨λd hd=>?_,λhz=>?_⟩⟩
 ·unfold gL at hd;rw[Pf]at hd;cases qx:xs[j]? with
  |none=>
   simp_all
  |some dx=>
   have lj:=(gr.mp qx).1;rw[qx,Me lj]at hd;cases hd;obtain⟨vx,x1,x2⟩:_:=g2.get qx;refine⟨⟨(sg.trans sh).seq g1,'O'⟩,?_⟩;intro x H3 z9;obtain⟨T,wx,hT,z1,rfl,rfl⟩:_:=z9;rw[x1]at z1;cases z1;exact⟨_,.new sh hT,T,_,rfl,cO.of bM,_,_,rfl,⟨rfl,rfl⟩,_,_,rfl,(x2.mono sg).mono (aj.new (sh.free hT)),rfl⟩
 ·refine⟨(sg.trans sh).seq g1,?_⟩;rw[hz];unfold gL
  simp_all
theorem Jr {ds:List Dv}(e:Fh n (.tup ds)=some dd):ds.length=n/\dd=ds:=by
 have e':(if ds.length=n then some ds else none)=some dd:=e
 grind
theorem iO (j1 j2:Nat){y:Str}{px py:Pos}(hN:∀i,(F.cx i).N.Nodup)(h1:∀i,(F.cx i).N[j1]?=some x:=by intro _;rfl)(h2:∀i,(F.cx i).N[j2]?=some y:=by intro _;rfl)(hx:∀i,Loc (F.cx i).env.scope x:=by intro _;first|exact Or.inl rfl|exact Or.inr rfl)(hy:∀i,Loc (F.cx i).env.scope y:=by intro _;first|exact Or.inl rfl|exact Or.inr rfl)(fx:∀i,(F.cx i).fn x=true\/(F.cx i).env.scope.names.lookup x=some .local:=by intro _;first|exact .inl rfl|exact .inr rfl)(fy:∀i,(F.cx i).fn y=true\/(F.cx i).env.scope.names.lookup y=some .local:=by intro _;first|exact .inl rfl|exact .inr rfl):
  iA F (.Tuple [.Name x px,.Name y py] kk tp) [j1,j2] (Fh 2):=
 ⟨FU F.K 2 (sH (eK j1) (sH (eK j2) FT)),λi=>F.hK i▸yM (F.calm i) (kc (i7 (hN i) (h1 i) (hx i) (fx i)) (kc (i7 (hN i) (h2 i) (hy i) (fy i)) yu)),λd dd v σ G H Q e s h k=>by
  cases d with
  |fl _=>cases e
  |lst _=>cases e
  |tup ds=>
   obtain⟨hl,rfl⟩:=Jr e;obtain⟨a,vs,rfl,q1,q2⟩:=h;have hv:vs.length=2:=by rw[<- q2.length];exact hl
   refine⟨a,vs,rfl,s.tup q1,hv,?_⟩
   match vs,hv with
   |[v1,v2],_=>exact⟨v1,[v2],rfl,v2,[],rfl,rfl,k [v1,v2] q2⟩⟩
theorem uX (j1 j2 j3:Nat){y z:Str}{px py pz:Pos}(hN:∀i,(F.cx i).N.Nodup)(h1:∀i,(F.cx i).N[j1]?=some x:=by intro _;rfl)(h2:∀i,(F.cx i).N[j2]?=some y:=by intro _;rfl)(h3:∀i,(F.cx i).N[j3]?=some z:=by intro _;rfl)(hx:∀i,Loc (F.cx i).env.scope x:=by intro _;first|exact Or.inl rfl|exact Or.inr rfl)(hy:∀i,Loc (F.cx i).env.scope y:=by intro _;first|exact Or.inl rfl|exact Or.inr rfl)(hz:∀i,Loc (F.cx i).env.scope z:=by intro _;first|exact Or.inl rfl|exact Or.inr rfl)(fx:∀i,(F.cx i).fn x=true\/(F.cx i).env.scope.names.lookup x=some .local:=by intro _;first|exact .inl rfl|exact .inr rfl)(fy:∀i,(F.cx i).fn y=true\/(F.cx i).env.scope.names.lookup y=some .local:=by intro _;first|exact .inl rfl|exact .inr rfl)(fz:∀i,(F.cx i).fn z=true\/(F.cx i).env.scope.names.lookup z=some .local:=by intro _;first|exact .inl rfl|exact .inr rfl):
  iA F (.Tuple [.Name x px,.Name y py,.Name z pz] kk tp) [j1,j2,j3] (Fh 3):=
 ⟨FU F.K 3 (sH (eK j1) (sH (eK j2) (sH (eK j3) FT))),λi=>F.hK i▸yM (F.calm i) (kc (i7 (hN i) (h1 i) (hx i) (fx i)) (kc (i7 (hN i) (h2 i) (hy i) (fy i)) (kc (i7 (hN i) (h3 i) (hz i) (fz i)) yu))),λd dd v σ G H Q e s h k=>by
  cases d with
  |fl _=>cases e
  |lst _=>cases e
  |tup ds=>
   obtain⟨hl,rfl⟩:=Jr e;obtain⟨a,vs,rfl,q1,q2⟩:=h;have hv:vs.length=3:=by rw[<- q2.length];exact hl
   refine⟨a,vs,rfl,s.tup q1,hv,?_⟩
   match vs,hv with
   |[v1,v2,v3],_=>exact⟨v1,[v2,v3],rfl,v2,[v3],rfl,v3,[],rfl,rfl,k [v1,v2,v3] q2⟩⟩
theorem Y2 (he:bO F e ρ t)(hg:iA F tg js sp)(hd:sp (er t)=some dd)(hj:js.all (λj=>Nat.blt j ρ.length)=true:=by rfl)(hs:∀i,swapsWithSole [tg] e pos.line (F.cx i).env=pure false:=by intro _;rfl)(hw:∀i,swappedStores [tg] e (F.cx i).env=pure none:=by intro _;rfl)(h1:∀i,(assignEach [tg] (F.cx i).env).map (·.2)=[assign tg (F.cx i).env]:=by intro _;rfl):Rn F (.Assign [tg] e pos) ρ (.nx (a8 js (dd.map .fz) ρ)):=by
 obtain⟨τ,y,z⟩:_:=he;obtain⟨g,pg,qg⟩:_:=hg;refine⟨lN τ g,λi=>rY (y i) (pg i) (hs i) (hw i) (h1 i),λD σ G0 H0 G H r k=>?_⟩;obtain⟨fp,r⟩:=r;refine z σ G H fp _ r.st.s r.own r.g λv G1 H1 fq s1 o w=>?_
 refine qg (er t) dd v σ (cR G1 H1 fq) H1 _ hd (gi s1.s) (o.hv (gh w.g) λa ha=>dE ha) λvs nB=>k _ (cR G1 H1 fq) H1 (RS.a8 (Gf hj) nB ⟨fp,r.st.trans (s1.eS w),r.own.mono (s1.eS w).g s1.h,λa ha=>?_,r.n,r.d⟩)
 cases q:cR G1 H1 fq a with
 |none=>rfl
 |some u=>
  obtain⟨u',bw⟩:=r.own.there a ha;have:=(s1.eS w).n a (r.g a ha) 'J'
  simp_all
theorem aaW (j1 j2:Nat){x y:Str}{px py pt:Pos}{kt k2 tj}(ha:bO F a ρ (ti m))(hb:bO F b ρ (ti n))(hN:∀i,(F.cx i).N.Nodup)(mh:Nat.blt j1 ρ.length=true:=by rfl)(oP:Nat.blt j2 ρ.length=true:=by rfl)(hi:∀i,(F.cx i).N[j1]?=some x:=by intro _;rfl)(hj:∀i,(F.cx i).N[j2]?=some y:=by intro _;rfl)(bY:j1≠j2:=by decide)(hx:∀i,(F.cx i).env.scope.names.lookup x=some .local:=by intro _;rfl)(hy:∀i,(F.cx i).env.scope.names.lookup y=some .local:=by intro _;rfl)(hw:∀i,swappedStores [.Tuple [.Name x px,.Name y py] kt pt] (.Tuple [a,b] k2 tj) (F.cx i).env=pure (some [x,y]):=by intro _;rfl)(hs:∀i,swapsWithSole [.Tuple [.Name x px,.Name y py] kt pt] (.Tuple [a,b] k2 tj) pos.line (F.cx i).env=pure false:=by intro _;rfl)(st1:∀i,starEach [a,b] (F.cx i).env=(false,eval a (F.cx i).env)::starEach [b] (F.cx i).env:=by intro _;rfl)(a7:∀i,starEach [b] (F.cx i).env=(false,eval b (F.cx i).env)::starEach [] (F.cx i).env:=by intro _;rfl):
  Rn F (.Assign [.Tuple [.Name x px,.Name y py] kt pt] (.Tuple [a,b] k2 tj) pos) ρ (.nx ((ρ.set j1 (some (ti m))).set j2 (some (ti n)))):=by
 obtain⟨τ,y1,z1⟩:_:=ha;obtain⟨bJ,y2,z2⟩:_:=hb;refine⟨PY j1 j2 (dR τ (dR bJ d8)),λi=>aaD (F.calm i) (hN i) (hi i) (hj i) bY (hx i) (hy i) (cf (y1 i) (cf (y2 i) cG (a7 i)) (st1 i)) (hw i) (hs i),λD σ G0 H0 G H r k=>?_⟩;obtain⟨fp,r⟩:=r;have key:∀{G1 H1:Hp},Step G H G1 H1->∀a∈fp,G1 a=none:=λ{G1 H1} s1 a ha=>by
  cases q:G1 a with
  |none=>rfl
  |some u=>
   obtain⟨u',bw⟩:=r.own.there a ha;have:=s1.n a (r.g a ha) 'J'
   simp_all
 refine z1 σ G H fp _ r.st.s r.own r.g λv G1 H1 fq s1 o w=>z2 σ G1 H1 fp _ s1.s (r.own.mono s1.g s1.h) (key s1) λv' G2 H2 Q4 s2 o' w'=>?_
 have e1:=aS o.2;have e2:=aS o'.2;subst e1 e2;refine⟨_,_,rfl,?_⟩;have kR:=s1.trans s2;obtain⟨fp1,r1⟩:=(⟨r.st.trans kR,r.own.mono kR.g kR.h,key kR,r.n,r.d⟩:fk F.K G0 H0 G2 H2 ρ σ fp).set (t:=ti m) (adv mh) (.refl kR.s) ⟨rfl,rfl,rfl⟩ .nil;exact k _ G2 H2 (r1.set 'J' (.refl kR.s) ⟨rfl,rfl,rfl⟩ .nil)
end
theorem Kc
  (L:hJ X sc cl fr)(hc:X.calm=true)(hi:PI X tg iter wi)(hg:∀C s H ex pn,PG (dM X own fr sc cl C s H ex pn) tg g)(ht:∀C s H ex pn (pins:List (adG×Obj)) (s1:adJ) (aq:St) (H1:Hp) (Q:Bool->Hp->Prop),Inv (dM X own fr sc cl C s H ex pn) pins aq H1 s1->tt aq H1 Q ->
   wpAny (model X.prog X.w) X.A (mG ifs (compEnvC sc (cellsFrom (C+1) sc.names cl) C X.env)) (TP (dM X own fr sc cl C s H ex pn) pins aq Q) cU s1)(he:∀C s H ex pn,PE (dM X own fr sc cl C s H ex pn) elt te)(hN0:X.N.Nodup)(hj0:X.N[j0]?=some y0)(hx0:Loc X.env.scope y0)(jB:swapsWith (.ListComp elt [⟨tg,iter,ifs,0⟩] sc pos) (some (.Name y0 py)) p8.line X.env=pure true)(hf0:X.fn y0=true\/X.env.scope.names.lookup y0=some .local)(hs:∀x,foldedSetIterable iter X.env x=pure x:=by intro _;rfl):
  PS X (.Assign [.Name y0 py] (.ListComp elt [⟨tg,iter,ifs,0⟩] sc pos) p8) (lN (Ap wi g tt te own fr) (eK j0)):=by
 intro pins s σ H D I h;rw[exec_Assign_Name_used _ _ _ _ jB];refine ab (afE (ab ?_));refine ab (ae6 (wpAny_comprehension_free rfl hs L.P9 L.kind L.names (aJ (hi pins s σ H _ I h) λv s1 h1=>aJ h1 λAj s2 h2=>?_)) (λ_ s' hq=>wpAny_pure (wpAny_pure hq)) λ_ _ e=>e);obtain⟨it,fp,tn,J,H2,e,I2,T,a7,f2,h2⟩:_:=h2;subst e;refine WA ?_;have I3:=I2.zS (t':=s2.toks) .nil (zd _);have n2:=I2.fresh;obtain⟨W,⟨m0,w0⟩,turn⟩:_:=h2 _ n2;have wu:∀b∈fp,b<s2.heap.objs.size:=λb hb=>by
  obtain⟨o,eo,_⟩:=T.obj 0 _ a7 b hb;exact nt eo
 have eE:∀b∈fp,jm X pins (upd H2 s2.heap.objs.size (.lst [])) b:=λb hb=>⟨by rw[aH (AS (wu b hb))];exact(f2 b hb).1,(f2 b hb).2⟩
 generalize gQ:({s2 with heap:=s2.heap.push {cls:=.type "list",data:=.seq ([]).toArray}}:adJ)=s3 at I3;have fS:tn 0 s3.heap:=by
  rw[<- gQ];exact T.keep 0 _ _ a7 λb hb o eo=>mf _ eo
 have qG:∀b∈fp,b<s3.heap.objs.size:=λb hb=>by
  obtain⟨o,eo,_⟩:=T.obj 0 _ fS b hb;exact nt eo
 generalize tq:upd H2 s2.heap.objs.size (.lst [])=H3 at I3 eE w0;generalize s2.heap.objs.size=acc at turn w0 tq ⊢;refine Ji ?_;have kL:(pushCells (s3.heap.push {cls:=.type "dict",data:=.dict #[]}) sc.names).Ns s3.heap.objs.size λ_=>none:=(Heap.Ns.new s3.heap (.type "dict")).keeps (aey _ _)
 have kp:∀b o,s3.heap.get? b=some o->(pushCells (s3.heap.push {cls:=.type "dict",data:=.dict #[]}) sc.names).get? b=some o:=λb o eo=>aey _ _ b o (mf _ eo)
 have qE:=λy c e=>
  yy sc.names (s3.heap.push {cls:=.type "dict",data:=.dict #[]}) cl y c (by rw[aeM];exact e)
 generalize hh4:pushCells (s3.heap.push {cls:=.type "dict",data:=.dict #[]}) sc.names=h4 at kL kp qE;have I4:=lcInv (own:=own) (tk:=s3.toks) L I3 eE qG kL kp qE;have wz:=T.keep 0 _ _ fS λb hb o eo=>kp b o eo
 have stat:∀{H':Hp},(∀b∈fp,H' b=none)->∀b∈fp,jm (dM X own fr sc cl s3.heap.objs.size s3 H3 fp (X.pn++pins)) [] H' b:=λ{H'} hn b hb=>
  ⟨hn b hb,AS (qG b hb),λz=>(ff.mp (I3.uR b z)).elim (eE b hb).2.1 (eE b hb).2.2.1,.inl hb,λy c e=>(uf _ _ _ y c e).elim (λq=>(eE b hb).2.2.2.2.1 y c (L.sub y c q)) λq=>ad6 (ze (qG b hb) (aed q.1)),λp hp=>(eE b hb).2.2.2.2.2 p (by
   have z:p∈(X.pn++pins)++[]:=hp;simpa using z)⟩
 have loop:codeAny (model X.prog X.w) X.A (.compLoop (.ListComp elt [⟨tg,iter,ifs,0⟩] sc pos) 0 (.ref it) (.ref acc) (compEnvC sc (cellsFrom (s3.heap.objs.size+1) sc.names cl) s3.heap.objs.size X.env))
   (compPost (model X.prog X.w) X.A X.xe (some (assign (.Name y0 py) X.env)) (λ_ s'=>SP X pins D .next s') (.ref acc) s3.heap.objs.size) {s3 with heap:=h4,toks:=s3.toks}:=by
  refine MO (λn s'=>∃i ys aq H1,Inv (dM X own fr sc cl s3.heap.objs.size s3 H3 fp (X.pn++pins)) [] aq H1 s'/\tn i s'.heap/\(∀b∈fp,H1 b=none)/\W i n ys aq H1) ?_ m0 ⟨0,[],_,H3,I4,wz,λb hb=>(eE b hb).1,w0⟩;intro n s5 z9;obtain⟨i,ys,nj,H5,I5,ng,qA,w5⟩:_:=z9;obtain⟨dS,hlen,hh⟩:=turn i n ys nj H5 w5;obtain⟨stop,qn⟩|⟨go,N,hN,step⟩:=hh
  ·refine aJ (T.done (dM X own fr sc cl s3.heap.objs.size s3 H3 fp (X.pn++pins)) rfl rfl rfl hc i [] s5 nj H5 cU I5 (stat qA) ng stop) λr s6 z9=>?_
   obtain⟨hr,I6⟩:=z9;subst hr;obtain⟨m6,GV,_⟩:=id I6.loc;have back:∀h7,Heap.SameBut s3.heap.objs.size s6.heap h7->Inv X pins σ H5 {s6 with heap:=h7}:=λh7 nk=>by
    have old:∀b o,s3.heap.get? b=some o->b≠s3.heap.objs.size:=λb o eo=>AS (nt eo)
    have u6:=I6.base;have u7:Un (fG X.stack) fp H3 H5 s3.heap h7:=
     ⟨λb o eo nn hb hx=>(nk.2 b (old b o eo)).trans (u6.keep b o eo nn hb hx),λb o eo nn hb hx=>by
      obtain⟨sl,q⟩:=u6.slot b o eo nn hb hx;exact⟨sl,(nk.2 b (old b o eo)).trans q⟩,u6.free,λb o eo hx=>by
      obtain⟨o',q⟩:=u6.there b o eo hx;exact⟨o',(nk.2 b (old b o eo)).trans q⟩,u6.lL,u6.ku,u6.lM⟩
    have fC:H5 s3.heap.objs.size=none:=I6.free;have F9:=λb ob eb=>by
     refine(I6.aO b ob eb).mY (λc w' kH q=>(nk.2 c ?_).trans q) (λ_ q=>q) λ_ _ q=>q
     rintro rfl;obtain z|z:=kH
     ·rw[<- z,fC]at eb;cases eb
     ·rw[fC]at z;cases z
    exact I3.OI (s':={s6 with heap:=h7}) I6.os u7 F9 I6.bare λb hb=>⟨(eE b hb).2.2.2.1,(eE b hb).2.1,(eE b hb).2.2.2.2.1,(eE b hb).2.2.2.2.2⟩
   have fC0:=I6.free;refine wpAny_assign_Name (Jw (v:=.ref acc) (back s6.heap (Heap.SameBut.refl ..)) hN0 hj0 hx0 rfl (λs7 I7 z9=>?_) hf0);obtain⟨a,sb,ha⟩:=z9;have aC:s3.heap.objs.size≠a:=by
    obtain rfl|ha:=ha
    ·exact ad6 I3.lt
    ·obtain⟨v0,q0⟩:=I3.cell y0 a ha;exact ad6 q0.lt
   refine⟨m6,GV.sameBut sb aC,λh8 sb8=>⟨_,H5,?_,qn⟩⟩;exact Inv.Dg (t':=s7.toks) (fs:=[s3.heap.objs.size]) I7 (λb o hb e=>(sb8.2 b (λz=>hb (by rw[z];exact .head _))).trans e) (λb hb=>by
    rw[BB.mp hb];exact I3.vJ (H':=H5) (br _) fC0)
  ·refine aJ (T.item (dM X own fr sc cl s3.heap.objs.size s3 H3 fp (X.pn++pins)) rfl rfl rfl hc i [] s5 nj H5 cU I5 (stat qA) ng go) λr s6 z9=>?_
   obtain⟨u,hr,h6⟩:=z9;subst hr;refine aJ h6 λ_ s7 z9=>?_
   obtain⟨x,H7,I7,r7,y7,qI,GW⟩:=z9;have GX:=I7.pinned (stat GW) (T.obj _ _ qI);refine aJ (hg _ _ _ _ _ _ s7 nj H7 x u _ GX r7 (step x H7 y7)) λ_ s8 z9=>?_
   obtain⟨nr,H8,I8,q8⟩:=z9;have again:∀{zs:List V} {kM:St} {H9:Hp} {s9:adJ},Inv (dM X own fr sc cl s3.heap.objs.size s3 H3 fp (X.pn++pins)) ([]++rZ fp s7.heap) kM H9 s9->N zs kM H9 ->
     ∃m,m<n/\∃i ys aq H1,Inv (dM X own fr sc cl s3.heap.objs.size s3 H3 fp (X.pn++pins)) [] aq H1 s9/\tn i s9.heap/\(∀b∈fp,H1 b=none)/\W i m ys aq H1:=λ{zs kM H9 s9} I9 n9=>by
    obtain⟨m',hm,w9⟩:=hN zs kM H9 n9;refine⟨m',hm,i+1,zs,kM,H9,I9.uj,T.keep _ _ _ qI λb hb o e=>(I9.pin (b,o) (i4 _ (i4 _ (rG hb e)))).1,λb hb=>?_,w9⟩;obtain⟨o,e,d⟩:=T.obj _ _ qI b hb;exact(I9.pin (b,o) (i4 _ (i4 _ (rG hb e)))).2.1
   refine aJ (ht _ _ _ _ _ _ s8 nr H8 _ I8 q8) λok s9 z9=>?_
   obtain⟨H9,I9,q9⟩:=z9;cases ok with
   |false=>exact again I9 (by simpa using q9)
   |true=>
    refine aJ (he _ _ _ _ _ _ s9 nr H9 _ I9 q9) λz jw z9=>?_
    obtain⟨y,nu,GY,GZ,Hd,He⟩:=z9;refine aJ (nL _ jw nr nu (.ref acc) [y] (.ref acc) [z] (λ_ H'=>N (ys++[y]) nr H') GY rfl (.cons GZ .nil) ⟨acc,ys,y,rfl,rfl,Hd,hlen,He⟩) λ_ s11 ⟨_,H11,Hf,_,Hg⟩=>again Hf Hg
 rw[<- gQ]at loop ⊢;exact codeAny_compStart_list loop (GU (T.self _ 0 _ _ _ wz (by rw[gQ];rw[gQ]at loop;exact loop)))
section
variable {F:aU ι}{pos p8 py:Pos}
theorem vP (h:gD F own fr sc cl elt tg iter ifs ρ t):∃τ,Ay F own fr sc cl elt tg iter ifs τ/\∀σ G H fp Q,aj G H->bu F.K G H ρ σ fp->(∀a∈fp,G a=none)->Kv F.K G H t Q->τ σ H Q:=
 by obtain⟨τ,v,y⟩:_:=h;exact⟨τ,v,λσ G H fp Q s r _ k=>y σ G H Q s r.tD k⟩
theorem acI (h:gD F own fr sc cl elt tg iter ifs (pk ρ) t)(c:Cl t):∃τ,Ay F own fr sc cl elt tg iter ifs τ/\∀σ G H fp Q,aj G H->bu F.K G H ρ σ fp->(∀a∈fp,G a=none)->Kv F.K G H t Q->τ σ H Q:=by
 obtain⟨τ,x,y⟩:_:=h;refine⟨τ,x,λσ G H fp Q s r hg k=>?_⟩;refine y σ (cR G H fp) H Q (gi s) (r.pk (gh hg) λa ha=>dE ha) λv G' H' fq st o w=>?_
 refine k v G H' fq ⟨aj.refl _,st.h,s.trans st.h,λa h h'=>absurd h h'⟩ (o.cl c) ⟨w.n,λa ha=>s.free (w.n a ha),w.d⟩
theorem so (j:Nat){x:Str}(h:∃τ,Ay F own fr sc cl elt tg iter ifs τ/\∀σ G H fp Q,aj G H->bu F.K G H ρ σ fp->(∀a∈fp,G a=none)->Kv F.K G H t Q->τ σ H Q)(L:∀i,hJ (F.cx i) sc (cl i) fr)(hN:∀i,(F.cx i).N.Nodup)(hj:Nat.blt j ρ.length=true:=by rfl)(hi:∀i,(F.cx i).N[j]?=some x:=by intro _;rfl)(hx:∀i,Loc (F.cx i).env.scope x:=by intro _;first|exact Or.inl rfl|exact Or.inr rfl)(jB:∀i,swapsWith (.ListComp elt [⟨tg,iter,ifs,0⟩] sc pos) (some (.Name x py)) p8.line (F.cx i).env=pure true:=by intro _;rfl)(hf:∀i,(F.cx i).fn x=true\/(F.cx i).env.scope.names.lookup x=some .local:=by intro _;first|exact .inl rfl|exact .inr rfl)(hs:∀i x,foldedSetIterable iter (F.cx i).env x=pure x:=by intro _ _;rfl):
  Rn F (.Assign [.Name x py] (.ListComp elt [⟨tg,iter,ifs,0⟩] sc pos) p8) ρ (.nx (ρ.set j (some t))):=by
 obtain⟨τ,⟨wi,g,tt,te,rfl,h1,h2,h3,h4⟩,z⟩:_:=h;refine⟨_,λi=>Kc (L i) (F.calm i) (h1 i) (λC s H ex pn=>h2 (i,⟨C,s,H,ex,pn⟩)) (λC s H ex pn=>h3 (i,⟨C,s,H,ex,pn⟩)) (λC s H ex pn=>h4 (i,⟨C,s,H,ex,pn⟩)) (hN i) (hi i) (hx i) (jB i) (hf i) (hs i),λD σ G0 H0 G H r k=>?_⟩;obtain⟨fp,r⟩:=r;exact z σ G H fp _ r.st.s r.own r.g λv G1 H1 fq s1 o w=>k _ G1 H1 (r.set (adv hj) s1 o w)
theorem gD.as (h:gD F own fr sc cl elt tg iter ifs ρ t)(e:er t=d):gD F own fr sc cl elt tg iter ifs ρ (.fz d):=by
 obtain⟨τ,v,q⟩:=h;refine⟨τ,v,λσ G H Q s r k=>q σ G H Q s r λv G' H' fq st o w=>?_⟩;exact k v (cR G' H' fq) H' [] (st.eS w) ⟨rfl,e▸o.hv (gh w.g) λa ha=>dE ha⟩ .nil
theorem gD.to (h:gD F own fr sc cl elt tg iter ifs ρ t)(e:t=t'):gD F own fr sc cl elt tg iter ifs ρ t':=e▸h
end
section
variable {F:aU ι}{pos:Pos}
theorem abU {id:String}(slot:Slot "list" nm id)(GP:typeOf (.builtin id)=pure (.type "method_descriptor"))(hm:∀i,QV (F.cx i) id r)(ho:Ev F o ρ to)(eo:er to=.lst xs)(ha:jy F (e::es) ρ ts)(h:∀G H x vs Q,aj G H->Hv F.K G (er to) x->aG F.K G (fj ts) vs->Kv F.K G H t Q->r x vs H Q){apos:Pos}(jf:∀i,attributeBase o nm (F.cx i).env (eval o (F.cx i).env)=eval o (F.cx i).env:=by intro _;rfl)(jn:∀i,((backTo pos (starEach (e::es) (F.cx i).env)).all (λx=>!x.1)&&(backToKw pos (keywordEach [] (F.cx i).env)).all (λx=>x.1.isSome)&&decide ((e::es).length+([]:List Keyword).length+(if([]:List Keyword).isEmpty then 0 else 1)<30))=true:=by intro _;rfl)(hline:(apos.endLine==pos.line)=true:=by rfl)(hs:∀i,starEach (e::es) (F.cx i).env=(false,eval e (F.cx i).env)::starEach es (F.cx i).env:=by intro _;rfl)(MN:∀i,(backTo pos (starEach es (F.cx i).env)).any (·.1)=false:=by intro _;rfl):
  Ev F (.Call (.Attribute o nm apos) (e::es) [] pos) ρ t:=by
 obtain⟨τ,p,q⟩:_:=ho.use;obtain⟨bJ,p',q'⟩:=ha.use;refine⟨ni F.K "list" r τ bJ,λi=>F.hK i▸kr EN slot GP (hm i) (p i) (p' i) (jf i) (jn i) hline (hs i) (MN i),λσ G H Q s rr k=>?_⟩;refine q σ G H _ s rr λx G1 H1 s1 hx=>⟨?_,q' σ G1 H1 _ s1.s (rr.mono s1.g) λvs G2 H2 s2 hv=>h G2 H2 x vs Q s2.s (hx.mono s2.g) hv (k.step (s1.trans s2))⟩
 rw[eo]at hx;obtain⟨l,us,rfl,h1,h2⟩:=hx;exact .inl ⟨rfl,_,s1.s.seq h1⟩
theorem JH {K:Frag}:∀{bs:List Bool} {vs:List V},aG K G (bs.map db) vs->vs=bs.map V.bl
 |[],_,h=>h
 |_::_,_,z9=>by obtain⟨x,r,h1,h2,h3⟩:=z9;subst h1;rw[aS h2,JH h3];rfl
theorem Je {α β:Type}(l:List α)(d : α)(f : α->β):(List.range l.length).map (λk=>f ((l[k]?).getD d))=l.map f:=by
 refine Po λi=>?_
 grind
theorem M0:∀ds,fj (ds.map .fz)=ds
 |[] => rfl
 |d::ds=>by show d::fj (ds.map .fz)=_;rw[M0 ds]
theorem mM (ds:List Dv):er (.ow (ds.map .fz))=.lst ds:=by show Dv.lst _=_;rw[M0]
theorem Ev.to (h:Ev F e ρ t)(q:t=t'):Ev F e ρ t':=q▸h
theorem Et.to (h:Et F e ρ p)(z:p=q):Et F e ρ q:=z▸h
theorem bO.to (h:bO F e ρ t)(q:t=t'):bO F e ρ t':=q▸h
theorem jL (hc:gC F c ρ p)(hp:p=true)(h1:bE F A ρ o):Rn F (.If c A B pos) ρ o:=vo hc (λ_=>h1) λh=>'J'
theorem uY (hc:gC F c ρ p)(hp:p=false)(h1:bE F B ρ o):Rn F (.If c A B pos) ρ o:=vo hc (λh=>'J') λ_=>h1
theorem dq (hc:gC F c ρ p)(hp:p=false):Rn F (.If c A [] pos) ρ (.nx ρ):=uY hc hp nU
def Qe (dd:List Dv)(t:Tr):Prop:=∃ns:LI,ns.length<=63/\dd=[dis ns]/\t=tb true
def zC (K:Frag):Sp:=λvs H Q _=>∃(a:adG) (ns:LI),vs=[.ref a]/\aK K H a (ns.map V.int)/\ns.length<=63/\∀H',Q (.bl true) H'
theorem aaX {K:Frag}(F:bQ P w K mg base bx k f fd ["_law_script"] (spT K Qe)):bQ P w K mg base bx k f fd ["_law_script"] (zC K):=
 F.imp λvs H Q E z9=>by obtain⟨a,ns,e,h1,h2,h3⟩:_:=z9;exact⟨H,[dis ns],tb true,aj.refl _,⟨.ref a,[],e,⟨a,_,rfl,h1,ke⟩,rfl⟩,⟨ns,h2,rfl,rfl⟩,λv G' H' fq st o w=>by rw[aS o.2];exact h3 H'⟩
end
end L2
namespace dC
def gc (a b:Int):Int:=(Int.gcd a b:Int)
theorem sr (h:b≠0) : 0<gc a b:=by
 grind [Int.gcd_pos_of_ne_zero_right,gc]
theorem Ke (a b:Int):gc a b∣a:=aem ..
theorem Kf (a b:Int):gc a b∣b:=aee ..
theorem Lk (a:Int):gc a 0=(a.natAbs:Int):=by unfold gc;rw[Int.gcd_zero_right]
theorem Ln (a:Int):gc b (a%b)=gc a b:=by
 unfold gc;congr 1;apply Nat.dvd_antisymm
 ·refine Int.dvd_gcd ?_ (aem ..);have h1:(↑(Int.gcd b (a%b)))∣b:=aem ..;have h2:(↑(Int.gcd b (a%b)))∣a%b:=aee ..;have:=Int.dvd_add (Int.dvd_trans h1 (Int.dvd_mul_right b (a/b))) h2;rwa [Int.mul_ediv_add_emod]at this
 ·refine Int.dvd_gcd (aee ..) ?_;have h1:(↑(Int.gcd a b))∣a:=aem ..;have h2:(↑(Int.gcd a b))∣b:=aee ..;rw[Int.emod_def]
  grind [Int.dvd_sub,Int.dvd_trans,Int.dvd_mul_right]
theorem aaY (a b:Int):gc (a.natAbs:Int) (b.natAbs:Int)=gc a b:=by
 rfl
theorem Dh (h : 0<b):gc a b<=b:=ae3 h (Kf a b)
def lT (t b:Int):Int:=(if b<0 then -t else t)/gc t b
def lB (t b:Int):Int:=(b.natAbs:Int)/gc t b
theorem M6 {t b:Int}(h : 0<b):lT t b=t/gc t b:=by unfold lT;rw[rf 'O']
theorem M9 (h : 0<b):lB t b=b/gc t b:=by grind [lB]
theorem Eb (t b:Int):lT t b*gc t b=if b<0 then -t else t:=by
 refine ON ?_;split
 ·simp_all [Ke]
 ·exact Ke t b
theorem Ec (t b:Int):lB t b*gc t b=(b.natAbs:Int):=by
 refine ON ?_;exact aeO.mpr (Kf t b)
theorem Fj (h:b≠0) : 1<=lB t b:=by
 have h1:=Ec t b;have h2:=sr (a:=t) h;have h3 : 0<lB t b:=Int.pos_of_mul_pos_left 'O' h2;lia
theorem abV (h:b≠0):lB t b<=(b.natAbs:Int):=afK _ 'O'
theorem aaZ (h:b≠0):(lT t b).natAbs<=t.natAbs:=by
 have h1:=Eb t b;have h2:=sr (a:=t) h;have h3:(lT t b*gc t b).natAbs=t.natAbs:=by rw[h1];split<;>omega
 rw[aei]at h3;have h4 : 1<=(gc t b).natAbs:='Z'
 calc (lT t b).natAbs=(lT t b).natAbs*1:='O'
  _<=(lT t b).natAbs*(gc t b).natAbs:=Nat.mul_le_mul_left _ h4
  _=t.natAbs:=h3
theorem Di (h:b≠0):lT t b*b=t*lB t b:=by
 grind [Eb,Ec]
theorem Cd (h:b≠0):Int.gcd (lT t b) (lB t b)=1:=by
 have h1:=Eb t b;have h2:=Ec t b;have h3:=sr (a:=t) h;have Ho:((Int.gcd (lT t b) (lB t b):Int))∣lT t b:=aem ..;have hd2:((Int.gcd (lT t b) (lB t b):Int))∣lB t b:=aee ..;have e1:((Int.gcd (lT t b) (lB t b)))*gc t b∣t:=by
  have:=Int.mul_dvd_mul Ho (Int.dvd_refl (gc t b));rw[h1]at this;split at this
  ·simp_all
  ·lia
 have e2:((Int.gcd (lT t b) (lB t b)))*gc t b∣b:=by
  have:=Int.mul_dvd_mul hd2 (Int.dvd_refl (gc t b));rw[h2]at this;exact aeO.mp this
 have e3:=Int.dvd_coe_gcd e1 e2;have e4:=ae3 h3 e3;have e5 : 0<Int.gcd (lT t b) (lB t b):=Int.gcd_pos_of_ne_zero_right _ (by grind);by_cases hh:Int.gcd (lT t b) (lB t b)=1
 ·lia
 ·have e6:(2)<=((Int.gcd (lT t b) (lB t b)):Int):='O'
  have : 2*gc t b<=((Int.gcd (lT t b) (lB t b)))*gc t b:=Lm e6 'O';lia
theorem CJ (hb:b≠0)(hq : 0<q)(hg:Int.gcd p q=1)(h:p*b=t*q):p=lT t b/\q=lB t b:=by
 have c:=Di (t:=t) hb;have g:=Cd (t:=t) hb;have k:=Fj (t:=t) hb;have e:p*lB t b=lT t b*q:=by
  apply Int.eq_of_mul_eq_mul_right hb
  grind
 have d1:q∣lB t b:=by
  have z:q∣p*lB t b:='J'
  have z':q.natAbs∣p.natAbs*(lB t b).natAbs:=by rw[<- aei];exact adK.mpr z
  have cp:Nat.Coprime q.natAbs p.natAbs:=by
   grind [Int.gcd]
  exact adK.mp (cp.dvd_of_dvd_mul_left z')
 have d2:lB t b∣q:=by
  have z:lB t b∣lT t b*q:=by grind [Int.dvd_mul_left]
  have z':(lB t b).natAbs∣(lT t b).natAbs*q.natAbs:=by rw[<- aei];exact adK.mpr z
  have cp:Nat.Coprime (lB t b).natAbs (lT t b).natAbs:=by
   grind [Int.gcd]
  exact adK.mp (cp.dvd_of_dvd_mul_left z')
 have eq:=Int.dvd_antisymm 'O' 'O' d1 d2
 grind [Int.eq_of_mul_eq_mul_right]
theorem acJ (hb:b≠0)(nC:b'≠0)(h:t*b'=t'*b):lT t b=lT t' b'/\lB t b=lB t' b':=by
 refine CJ nC (by have:=Fj (t:=t) hb;lia) (Cd hb) ?_;have c:=Di (t:=t) hb;apply Int.eq_of_mul_eq_mul_right hb
 grind
end dC
namespace dC
def lc (m b:Int):Int:=m*b/gc m b
theorem zD (hm : 0<m)(hb : 0<b):lc m b=(Int.lcm m b:Int):=by
 grind [lc,gc,Int.gcd_mul_lcm,Int.gcd_pos_of_ne_zero_right,Int.mul_ediv_cancel_left]
theorem Ed (hm : 0<m)(hb : 0<b) : 0<lc m b:=by
 grind [zD,Int.lcm_pos]
theorem acK (hm : 0<m)(hb : 0<b):m∣lc m b:=by grind [zD,Int.dvd_lcm_left]
theorem acL (hm : 0<m)(hb : 0<b):b∣lc m b:=by grind [zD,Int.dvd_lcm_right]
theorem XI (hm : 0<m)(hb : 0<b)(h1:m∣n)(h2:b∣n):lc m b∣n:=by
 rw[zD hm hb];have:=Int.lcm_dvd (aeO.mpr h1) (aeO.mpr h2);exact aeO.mp (Int.natCast_dvd_natCast.mpr this)
def iC (m:Int)(bs:LI):Int:=bs.foldl lc m
theorem yB:∀{bs:LI} {m:Int},0<m->(∀b∈bs,0<b)->0<iC m bs
 |[],_,h,_=>h
 |b::bs,m,h,hb=>yB (bs:=bs) (Ed h (hb b (.head _))) λc hc=>hb c (.tail _ hc)
theorem Dj:∀{bs:LI} {m:Int},0<m->(∀b∈bs,0<b)->m∣iC m bs/\∀b∈bs,b∣iC m bs
 |[],m,_,_=>⟨Int.dvd_refl _,λ_ h=>nomatch h⟩
 |c::bs,m,h,hb=>by
  have hc:=hb c (.head _);obtain⟨h1,h2⟩:=Dj (Ed h hc) λx hx=>hb x (.tail _ hx)
  refine⟨Int.dvd_trans (acK h hc) h1,λb tH=>?_⟩;obtain rfl|tH:=ff.mp tH
  ·exact Int.dvd_trans (acL h hc) h1
  ·exact h2 b tH
theorem xZ:∀{bs:LI} {m n:Int},0<m->(∀b∈bs,0<b)->m∣n->(∀b∈bs,b∣n)->iC m bs∣n
 |[],_,_,_,_,h,_=>h
 |c::bs,m,n,h,hb,h1,h2=>xZ (bs:=bs) (Ed h (hb c (.head _))) (λx hx=>hb x (.tail _ hx)) (XI h (hb c (.head _)) h1 (h2 c (.head _))) λx hx=>h2 x (.tail _ hx)
theorem V2 (m:Int)(bs:LI)(b:Int):iC m (bs++[b])=lc (iC m bs) b:=by grind [iC]
end dC
namespace L2
open PySem PySem.Spec PyProof.Rows
theorem mI {lo:Int}(h:(jo lo n)[j]?=some d):j<n/\d=di (lo+(j:Int)):=by
 grind
theorem gF {α β:Type}{f : α->β}{l:List α}{j:Nat}{d : β}(h:(l.map f)[j]?=some d):∃x,l[j]?=some x/\d=f x:=by
 grind
theorem kg {α:Type}{l:List α}{x : α}(h:l[i]?=some x):l.take (i+1)=l.take i++[x]:=by rw[List.take_succ,h];rfl
theorem bE.fg {F:aU ι}(h:bE F fb ρ (.nx ρ1))(f:Fg ρ1 ρ2):bE F fb ρ (.nx ρ2):=by
 obtain⟨τ,x,y⟩:=h;exact⟨τ,x,λD σ G0 H0 G H r k=>y D σ G0 H0 G H r λaD G' H' r'=>k aD G' H' (f.rs r')⟩
theorem oW {F:aU ι}(j:Nat)(hj : ρ[j]?=some (some t))(e:er t=d)(h:bE F fb (ρ.set j (some (.fz d))) o):bE F fb ρ o:=V1 j hj (e▸h)
theorem xS {F:aU ι}{α:Type}(S : α->En)(Pp : α->Prop)(p : α->Bool)(μ : α->Nat)(a0 : α)(e:S a0=ρ)(h0:Pp a0)(hc:∀a,Pp a->gC F c (S a) (p a))(hb:∀a,Pp a->p a=true->∃a',Pp a'/\μ a' < μ a/\bE F body (S a) (.nx (S a')))(fin:∀a,Pp a->p a=false->bE F fb (S a) o)(hx:∀i,(F.cx i).xe=cU:=by intro _;rfl):bE F (.While c body [] pos::fb) ρ o:=by
 subst e;obtain⟨a',h1,h2,h3⟩:=Vz S Pp p μ hc hb a0 h0 hx;exact ax h3 (fin a' h1 h2)
def eY (ns:LI)(k:Int):Int:=ns.getD k.toNat 0
theorem cell_in (h0 : 0<=k)(h:k<ns.length):aP (ns.map di) k=some (di (eY ns k)):=by
 grind [dh,eY]
theorem cell_out (h0 : 0<=k)(h:ns.length<=k):eY ns k=0:=by
 unfold eY
 simp_all
theorem Ee {a:Int}(h:a.natAbs<2^4000):a.natAbs<2^8000:=ze h (aeY 'Q' 'Q')
theorem yg (f : α->β)(l:List α)(a b:Option Int):cutD (l.map f) a b=(cutD l a b).map f:=by
 unfold cutD
 simp_all
mutual
noncomputable def iD:Dv->Bool
 | .fl v=>iP v
 | .lst ds=>p9 ds
 | .tup ds=>p9 ds
noncomputable def p9:List Dv->Bool
 |[] => true
 |d::ds=>iD d&&p9 ds
end
mutual
theorem ur:∀{d:Dv},iD d=true->bZ d d=true
 | .fl v,h=>J4 h
 | .lst ds,h=>Ce h
 | .tup ds,h=>Ce h
theorem Ce:∀{ds:List Dv},p9 ds=true->gK ds ds=true
 |[],_=>rfl
 |d::ds,h=>by
  have h':(iD d&&p9 ds)=true:=h;rw[ID]at h';show(bZ d d&&gK ds ds)=true;rw[ur h'.1,Ce h'.2]
  rfl
end
theorem CK {α:Type}{f : α->Dv}(h:∀a,iD (f a)=true):∀l:List α,p9 (l.map f)=true
 |[] => rfl
 |a::l=>by
  show(iD (f a)&&p9 (l.map f))=true;rw[h a,CK h l]
  rfl
theorem uG:∀{ds:List Dv},(∀d∈ds,dH d<=n)->eZ ds<=n
 |[],_=>zd _
 |d::ds,h=>Nat.max_le.mpr ⟨h d (.head _),uG λx hx=>h x (.tail _ hx)⟩
theorem Dk (l:LI):iD (dis l)=true:=CK (λ_=>rfl) l
theorem jI (l:LI):dH (dis l)<=1:=by
 show eZ _+1<=1;have:eZ (l.map di)<=0:=uG λd hd=>by
  obtain⟨_,_,rfl⟩:=i8.mp hd;exact br _
 lia
theorem uH {ds:List Dv}(h:∀d∈ds,dH d<=n):dH (.lst ds)<=n+1:=aeT (uG h)
theorem Y3 {ds:List Dv}(h:∀d∈ds,dH d<=n):dH (.tup ds)<=n+1:=aeT (uG h)
theorem Dl {α:Type}{f : α->Dv}(h:∀a,iD (f a)=true)(l:List α):iD (.lst (l.map f))=true:=CK h l
end L2
namespace L2
open PySem PySem.Spec PyProof.Rows
theorem aT.setAt {K:Frag}:∀{us:List Tr} {vs:List V} {fq:List adG} {m:Nat} {t:Tr} {v:V} {f:List adG},aT K G H us vs fq->m<us.length->Ow K G H t v f->fq.Nodup->f.Nodup->(∀a∈f,a∉fq) ->
  ∃fw,aT K G H (us.set m t) (vs.set m v) fw/\fw.Nodup/\∀a∈fw,a∈fq\/a∈f
 |u::us,_,_,0,t,v,f,z9,_,o,nd,nf,dj=>by
  obtain⟨w,r,f1,f2,h1,h2,h3,h4⟩:=z9;subst h1 h2;have fH:=AN.mp nd;refine⟨f++f2,⟨v,r,f,f2,rfl,rfl,o,h4⟩,AN.mpr ⟨nf,fH.2.1,λa ha b hb e=>dj a ha (e▸i4 _ hb)⟩,λa ha=>?_⟩
  grind
 |u::us,_,_,m+1,t,v,f,z9,hm,o,nd,nf,dj=>by
  obtain⟨w,r,f1,f2,h1,h2,h3,h4⟩:=z9;subst h1 h2;have fH:=AN.mp nd;obtain⟨fw,q1,q2,q3⟩:_:=aT.setAt h4 (Nat.lt_of_succ_lt_succ hm) o fH.2.1 nf λa ha z=>dj a ha (i4 _ z)
  refine⟨f1++fw,⟨w,_,f1,fw,rfl,rfl,h3,q1⟩,AN.mpr ⟨fH.1,q2,λa ha b hb e=>?_⟩,λa ha=>?_⟩
  ·grind
  ·grind
theorem yh {F:aU ι}{ρ:En}{pos:Pos}(j:Nat){p1 p2:Pos}(h : ρ[j]?=some (some (.ow us)))(hn:bO F nE ρ (ti n))(hm:fh us.length n=some m)(he:bO F e ρ t)(hN:∀i,(F.cx i).N[j]?=some x:=by intro _;rfl)(hv:∀i,iW (F.cx i).env.scope x:=by intro _;first|exact Or.inl rfl|exact Or.inr (Or.inl rfl)|exact Or.inr (Or.inr rfl))(hd:(x==("__debug__":Str))=false:=by decide)(hc:(x==("__classdict__":Str))=false:=by decide)(hs:∀i,swapsWithSole [.Subscript (.Name x p1) nE p2] e pos.line (F.cx i).env=pure false:=by intro _;rfl)(hw:∀i,swappedStores [.Subscript (.Name x p1) nE p2] e (F.cx i).env=pure none:=by intro _;rfl)(h1:∀i,(assignEach [.Subscript (.Name x p1) nE p2] (F.cx i).env).map (·.2)=[assign (.Subscript (.Name x p1) nE p2) (F.cx i).env]:=by intro _;rfl)(hps:∀i,PG (F.cx i) (.Subscript (.Name x p1) nE p2) (FV (dG j) (uE F nE) Fb)):
  Rn F (.Assign [.Subscript (.Name x p1) nE p2] e pos) ρ (.nx (ρ.set j (some (.ow (us.set m t))))):=by
 obtain⟨τ,y,z⟩:_:=he;obtain⟨wH,yn,zn⟩:_:=hn;refine⟨lN τ (FV (dG j) (uE F nE) Fb),λi=>rY (y i) (hps i) (hs i) (hw i) (h1 i),λD σ G0 H0 G H r k=>?_⟩;obtain⟨fp,r⟩:=r;refine z σ G H fp _ r.st.s r.own r.g λv1 G1 H1 f1 s1 o1 w1=>?_
 have r1:fk F.K G0 H0 G1 H1 ρ σ fp:=⟨r.st.trans s1,r.own.mono s1.g s1.h,r.own.off s1 r.g,r.n,r.d⟩
 obtain⟨l0,Av,Aw,c1,c2,_⟩:=r1.mut h (.refl r1.st.s);refine⟨_,c1,wH,yn,zn σ G1 H1 fp _ r1.st.s r1.own r1.g λvn G2 H2 f2 s2 o2 w2=>?_⟩;obtain⟨l,vs,fq,d1,d2,d3,d4,d5,d6,d7⟩:_:=r.mut h (s1.trans s2);rw[c1]at d1;cases d1;have hm':=(uA hm).2.1;have nf:∀a∈f1,a∉fq:=λa ha hb=>by
  obtain⟨u,hu⟩:=r.own.there a (d6 a hb);rw[w1.n a ha]at hu;cases hu
 obtain⟨fw,q1,q2,q3⟩:_:=d4.setAt hm' (o1.mono s2.g s2.h) d5 w1.d nf;refine⟨l0,vs,n,m,rfl,aS o2.2,d3,by rw[<- d4.length];exact hm,k σ G2 _ (d7 (us.set m t) (vs.set m v1) fw q1 q2 λa ha=>(q3 a ha).imp id λz=>⟨w1.n a z,?_⟩)⟩;cases q:G2 a with
 |none=>rfl
 |some u=>
  obtain⟨u',bw⟩:=o1.there a z;have:=s2.n a (w1.g a z) (by rw[q];exact λz=>nomatch z);rw[bw]at this;cases this
def aa0 (ta:TA):TE:=λσ H Q=>ta σ H λvs H1=>∃j:Int,vs=[.int j]/\∀p,H1 p=none->Q (.ref p) (upd H1 p (.bT 0 j))
section
theorem WV (hg:Gl X "range")(hm:X.mg "range"=none)(ha:PA X [a] ta)(hs:starEach [a] X.env=[(false,eval a X.env)]:=by rfl):PE X (.Call (.Name "range" p) [a] [] pos) (aa0 ta):=by
 intro pins s σ H Q I h;refine Call_ (mK I hg hm boot_range (LH (aJ (ha pos pins s σ H _ I h) λus s1 z9=>?_) hs rfl));obtain⟨vs,H1,I1,r1,q1⟩:=z9;obtain⟨j,e,q⟩:_:=q1;subst e;cases r1 with
 |cons r rr=>
  cases rr
  obtain⟨t,rfl⟩:=r;refine call_range_1 ⟨.ref _,_,I1.laid (t':=s1.toks+1+1) (λb ob q=>mf _ q) (br _) ?_,rfl,q _ (I1.aO.fresh (br _))⟩;exact⟨_,_,_,BN _ rfl⟩
theorem UG (hc:X.calm=true):fA X (.type "list") (λxs H Q=>∃p n,xs=[.ref p]/\H p=some (.bT 0 n)/\0<=n/\n<2^20/\∀l,H l=none->Q (.ref l) (upd H l (.lst ((List.range n.toNat).map λi=>.int (0+((i:Nat):Int)))))):=by
 intro pins s σ H xs us Q I r h;obtain⟨p,n,rfl,hH,h0,h1,q⟩:_:=h;obtain⟨u,rfl,rx⟩:=vals1 r;cases rx;obtain⟨t,u,v,e⟩:=(show ie X.prog X.w H s.heap p (.bT 0 n)from I.aO p _ hH)
 have abW:Builtin.Range.rangeSize 0 n 1=(n.toNat):=by rw[rangeSize_pos 'Q' h0];lia
 refine call_list_range (n:=n.toNat) (I.ok.hd hc) e (V0 h0 'O' 'Q' 'Q') abW 'O' λh' tk gM c' kp e' it=>?_
 refine⟨.ref s.heap.objs.size,_,I.laid (t':=tk) kp (br _) ?_,rfl,q _ (I.aO.fresh (br _))⟩;have hs:sizeLine=16777216:=afF;refine⟨by grind,gM.toList,c',?_,'Z'⟩;obtain⟨i1,i2⟩:=it;have gen:∀(l) (k),(∀j v,l[j]?=some v->∃t,v=Value.int (0+((k+j:Nat):Int)) t)->Vals ((List.range l.length).map λi=>V.int (0+((k+i:Nat)))) l:=by
  intro l
  induction l with
  |nil=>intro k _;exact .nil
  |cons a l ih=>
   intro k hk;rw[IF,aeG,JJ,gz];obtain⟨t,ht⟩:=hk 0 a rfl;refine .cons ⟨t,by rw[ht]⟩ ?_;have:=ih (k+1) (λj v hj=>by
    obtain⟨t,ht⟩:=hk (j+1) v hj
    grind)
   refine(List.map_congr_left λi _=>?_)▸this
   grind
 have g0:=gen gM.toList 0 λj v hj=>by
  simp_all
 simp_all
def acM (K:Frag):List V->Hp->VK->Prop:=λxs H Q=>∃(p:adG) (bs:List Bool),xs=[.ref p]/\aK K H p (bs.map V.bl)/\Q (.bl (bs.any id)) H
theorem range_any (bs:List Bool):((List.range bs.length).any λi=>(bs[i]?).getD false)=bs.any id:=by
 have:=congrArg (λl:List Bool=>l.any id) (Je bs false id)
 simp_all
theorem XJ (hc:X.calm=true):fA X (.builtin "any") (acM X.K):=by
 intro pins s σ H xs us Q I r h;obtain⟨p,bs,rfl,hq,q⟩:_:=h;cases r with
 |cons r1 rr=>
  cases rr
  cases r1
  obtain⟨its,rv,pl,hz⟩:_:=I.list hq;have hb:=XC rv;have hl:=pl.isList;have bC:p<s.heap.objs.size:=by obtain⟨_,e,_⟩:=hl;exact nt e
  refine call_any_walk (afy hl ?_);refine⟨s.heap.objs.size,[s.heap.objs.size,p],[s.heap.objs.size],its.toArray.size,_,_,λi=>(bs[i]?).getD false,rfl,Walks.list (A:=X.A.in1) (I.ok.hd hc) _ p (AS bC) its.toArray,
   ⟨⟨_,BN _ rfl,rfl,rfl⟩,hl.push _⟩,λi v s' Q' E' hP hQ=>?_,λh' tk hk=>?_⟩
  ·obtain⟨b,e,rfl⟩:=hb.get i v 'J';simp[e]at hQ;exact YI hQ
  ·have e:((List.range its.toArray.size).any λi=>(bs[i]?).getD false)=bs.any id:=by
    rw[Co,hb.length];exact range_any bs
   rw[e];exact⟨.bl _,H,I.kept (t':=tk) (LSm.kept_iter hk),rfl,q⟩
def unlike (ns:LI):Nat:=(firstMet (λi=>ns.getD i 0) ns.length).length
theorem UH (hc:X.calm=true):fA X (.type "set") (λxs H Q=>∃(p:adG) (ns:LI),xs=[.ref p]/\aK X.K H p (ns.map V.int)/\ns.length<1000/\∀l S,H l=none->Q (.ref l) (upd H l (.set S (unlike ns)))):=by
 intro pins s σ H xs us Q I r h;obtain⟨p,ns,rfl,hq,hz,q⟩:_:=h;obtain⟨u,rfl,rx⟩:=vals1 r;cases rx;obtain⟨its,rv,pl,_⟩:_:=I.list hq;have hi:=intsAre_of rv;have hl:=rv.length;rw[aa]at hl;refine call_set_list (I.ok.hd hc) pl.isList 'Z' (by rw[Co,<- hl];exact ze (Nat.succ_lt_succ hz) 'Q') λh' tk hs kp=>?_
 have cT:its.toArray.size=ns.length:='J'
 rw[cT]at hs;exact⟨.ref s.heap.objs.size,_,I.laid (t':=tk) (o:=.set _ (unlike ns)) (λb o e=>kp b o (nt e) e) (br _) hs,rfl,q _ _ (I.aO.fresh (br _))⟩
theorem UI:fA X (.builtin "len") (λxs H Q=>∃p S n,xs=[.ref p]/\H p=some (.set S n)/\Q (.int n) H):=by
 intro pins s σ H xs us Q I r h;obtain⟨p,S,n,rfl,hH,q⟩:_:=h;obtain⟨u,rfl,rx⟩:=vals1 r;cases rx;obtain⟨o,es,ep,t,h1,h2,h3,_,_,h4,h5,h6⟩:_:=(I.aO p _ hH)
 subst h6;refine call_len_set h1 h2 h3 h5 (by have:es.size<4096:=h4;lia) ⟨.int _,H,I.tok _,⟨_,rfl⟩,q⟩
theorem Vf (h:ns.Nodup):unlike ns=ns.length:=by
 have gen:∀i,i<=ns.length->firstMet (λi=>ns.getD i 0) i=ns.take i:=by
  intro i
  induction i with
  |zero=>intro _;rw[firstMet_zero];simp
  |succ i ih=>
   intro hi;rw[firstMet_succ,ih 'O'];have hx:ns[i]?=some (ns[i]'(by lia)):=ar _;rw[kg hx];have e:ns.getD i 0=ns[i]'(by lia):=by rw[ir,hx];rfl
   rw[e];unfold step_dedup;have:((ns.take i).any (·==ns[i]'(by lia)))=false:=by
    rw[Bool.eq_false_iff];intro z;obtain⟨y,hy,hyy⟩:=List.any_eq_true.mp z;have fV:y=ns[i]'(by lia):=by simpa using hyy
    subst fV;obtain⟨j,hj,Rc⟩:=List.mem_iff_getElem.mp hy;rw[aeH]at Rc;rw[LB]at hj;have:=(List.getElem_inj h).mp Rc;lia
   rw[this]
   rfl
 unfold unlike;rw[gen ns.length (br _),ad0]
def aa1 (K:Frag):V->List V->Hp->VK->Prop:=λx vs H Q=>∃(l:adG) (ns:LI) (n:Int),x=.ref l/\vs=[.int n]/\aK K H l (ns.map V.int)/\n∈ns/\Q (.int (ns.idxOf n:Nat)) H
theorem XM:An X "list.index" (aa1 X.K):=by
 intro pins s σ H x vs v us Q I rx rv h;obtain⟨l,ns,n,rfl,rfl,hq,hn,q⟩:_:=h;cases rx;obtain⟨u,rfl,ru⟩:=rv.one;obtain⟨t,rfl⟩:=ru;obtain⟨its,r,pl,hz⟩:_:=I.list hq;have hi:=intsAre_of r;have hlen:=hi.length;have hs:=afF;rw[aa]at hz;obtain⟨⟨cls,dd,data,sl⟩,ho,hc,m,hd⟩:_:=id pl.isList;subst hc hd;have hj:=LM.mpr hn;refine ae7 PySem.F.slot_list_index ⟨_,ho,rfl⟩ PySem.F.entry_list_index (PySem.F.args_list_index_2 _ _)
  (SeqAt.list_indexAt l its.toArray m dd sl (.int n t) (isInt n) (ns.idxOf n) 'J' 'O' ?_ ?_) ⟨ho,λy hy=>(eq_isInt n t hi y 'J').at _ _,⟨.int _,H,I.tok _,⟨_,rfl⟩,q⟩⟩
 ·show isInt n its[ns.idxOf n]=true;rw[isInt_at n hi _ 'Z' hj]
  simp_all
 ·intro j gS bC;show isInt n its[j]=false;rw[isInt_at n hi j 'Z' 'O'];exact ne_of_lt_idxOf bC _
end
section
variable {F:aU ι}{ρ:En}{pos:Pos}
theorem nV (l:LI):(l.map di).map Tr.fz=l.map λn=>Tr.fz (di n):='J'
theorem xT {n:Int}(hm:F.mg "list"=none)(i3:F.mg "range"=none)(ha:Ev F a ρ (ti n))(h0 : 0<=n)(h1:n<2^20){p1 p2 kx:Pos}(hg:∀i,Gl (F.cx i) "list":=by intro _;rfl)(jz:∀i,Gl (F.cx i) "range":=by intro _;rfl)(hs:∀i,starEach [a] (F.cx i).env=[(false,eval a (F.cx i).env)]:=by intro _;rfl)(du:∀i,starEach [.Call (.Name "range" p2) [a] [] kx] (F.cx i).env=[(false,eval (.Call (.Name "range" p2) [a] [] kx) (F.cx i).env)]:=by intro _;rfl):
  Ev F (.Call (.Name "list" p1) [.Call (.Name "range" p2) [a] [] kx] [] pos) ρ (.ow (((List.range n.toNat).map λi=>(0+((i:Nat):Int))).map λn=>.fz (di n))):=by
 obtain⟨τ,p,q⟩:_:=ha.use;refine⟨_,λi=>xY (UG (F.calm i)) (hg i) ((F.hm i).symm▸hm) uD (cf (WV (jz i) ((F.hm i).symm▸i3) (cf (p i) cG (hs i)) (hs i)) cG (du i)) 'Q' 'Q' (du i) rfl,λσ G H Q s rr k=>q σ G H _ s rr λx G1 H1 s1 hx=>?_⟩;refine⟨n,by rw[aS hx],λp0 Rf=>⟨p0,n,rfl,bM,h0,h1,λl hl=>?_⟩⟩;have k2:=k.step (s1.trans (Step.jR (o:=.bT 0 n) s1.s Rf));have e:((List.range n.toNat).map λi=>V.int (0+((i:Nat):Int)))=((List.range n.toNat).map λi=>(0+((i:Nat):Int))).map V.int:=by rw[gz];rfl
 rw[e];refine k2.lst (s1.s.trans (aj.new Rf)) ?_ hl;rw[<- nV];exact ke.jW
theorem Nb {bs:List Bool}(hm:F.mg "any"=none)(ha:Ev F e ρ ta)(ea:er ta=.lst (bs.map db)){p':Pos}(hg:∀i,Gl (F.cx i) "any":=by intro _;rfl)(hs:∀i,starEach [e] (F.cx i).env=[(false,eval e (F.cx i).env)]:=by intro _;rfl):Ev F (.Call (.Name "any" p') [e] [] pos) ρ (tb (bs.any id)):=
 uo (λi=>F.hK i▸XJ (F.calm i)) hm aaR (ah ha ao hs) (λG H vs Q s hx k=>by
  obtain⟨x,rfl,eF⟩:=iQ hx;rw[ea]at eF;obtain⟨l,ys,rfl,h1,h2⟩:=eF;have:=JH h2;subst this;exact⟨l,bs,rfl,s.seq h1,k.sc s rfl⟩) hg 'Q' 'Q' hs (λ_=>rfl)
theorem Nc:bootBuiltins "set"=some (.type "set"):='W'
theorem WW (hm:F.mg "len"=none)(i3:F.mg "set"=none)(ha:Ev F a ρ ta)(ea:er ta=dis ns)(hz:ns.length<1000){p1 p2 kx:Pos}(hg:∀i,Gl (F.cx i) "len":=by intro _;rfl)(jz:∀i,Gl (F.cx i) "set":=by intro _;rfl)(hs:∀i,starEach [a] (F.cx i).env=[(false,eval a (F.cx i).env)]:=by intro _;rfl)(du:∀i,starEach [.Call (.Name "set" p2) [a] [] kx] (F.cx i).env=[(false,eval (.Call (.Name "set" p2) [a] [] kx) (F.cx i).env)]:=by intro _;rfl):
  Ev F (.Call (.Name "len" p1) [.Call (.Name "set" p2) [a] [] kx] [] pos) ρ (ti (unlike ns:Nat)):=by
 obtain⟨τ,p,q⟩:_:=ha.use;refine⟨me _ (dR (me (λxs H Q=>∃(p:adG) (ns:LI),xs=[.ref p]/\aK F.K H p (ns.map V.int)/\ns.length<1000/\∀l S,H l=none->Q (.ref l) (upd H l (.set S (unlike ns)))) (dR τ d8)) d8),λi=>uk UI (hg i) ((F.hm i).symm▸hm) MR (cf (xY (F.hK i▸UH (F.calm i)) (jz i) ((F.hm i).symm▸i3) Nc (cf (p i) cG (hs i)) 'Q' 'Q' (hs i) rfl) cG (du i)) 'Q' 'Q' (du i) rfl,λσ G H Q s rr k=>q σ G H _ s rr λx G1 H1 s1 hx=>?_⟩;rw[ea]at hx;obtain⟨l,ys,rfl,h1,h2⟩:_:=hx;have:=nN h2;subst this;refine⟨l,ns,rfl,s1.s.seq h1,hz,λl0 S tI=>⟨l0,S,_,rfl,bM,?_⟩⟩;exact(k.step (s1.trans (Step.jR s1.s tI))).sc (s1.s.trans (aj.new tI)) rfl
theorem Kg (ho:Ev F o ρ to)(eo:er to=dis ns)(ha:Ev F e ρ (ti n))(hn:n∈ns){apos:Pos}(jf:∀i,attributeBase o "index" (F.cx i).env (eval o (F.cx i).env)=eval o (F.cx i).env:=by intro _;rfl)(jn:∀i,((backTo pos (starEach [e] (F.cx i).env)).all (λx=>!x.1)&&(backToKw pos (keywordEach [] (F.cx i).env)).all (λx=>x.1.isSome)&&decide (([e]:List Expr).length+([]:List Keyword).length+(if([]:List Keyword).isEmpty then 0 else 1)<30))=true:=by intro _;rfl)(hline:(apos.endLine==pos.line)=true:=by rfl)(hs:∀i,starEach [e] (F.cx i).env=[(false,eval e (F.cx i).env)]:=by intro _;rfl):Ev F (.Call (.Attribute o "index" apos) [e] [] pos) ρ (ti (ns.idxOf n:Nat)):=
 abU PySem.F.slot_list_index PySem.F.type_list_index (λi=>F.hK i▸XM) ho eo (ah ha ao hs) (λG H x vs Q s hx hv k=>by
  rw[eo]at hx;obtain⟨l,us,rfl,h1,h2⟩:=hx;have:=nN h2;subst this;obtain⟨y,rfl,hy⟩:=iQ hv;exact⟨l,ns,n,rfl,by rw[aS hy],s.seq h1,hn,k.sc s rfl⟩) jf jn hline hs (λ_=>rfl)
theorem Y4 (ha:Ev F a ρ (.fz (.fl v))):Et F (.Compare a [.IsNot] [.Constant .none j p'] pos) ρ (!decide (v=.aY)):=
 lz (λ_=>YL) ha aaU (λG H x y Q s hx hy k=>⟨aS hy,by rw[aS hx];exact k⟩) (gG _)
theorem aT.erase {K:Frag}:∀{us:List Tr} {vs:List V} {fq:List adG} {m:Nat} {u:Tr},aT K G H us vs fq->us[m]?=some u->fq.Nodup->∃v f fw,vs[m]?=some v/\Ow K G H u v f/\aT K G H (us.eraseIdx m) (vs.eraseIdx m) fw/\fw.Nodup/\f.Nodup/\(∀a∈fw,a∈fq)/\(∀a∈f,a∈fq)/\∀a∈f,a∉fw
 |t::us,_,_,0,u,z9,hu,nd=>by
  obtain⟨v,r,f1,f2,h1,h2,h3,h4⟩:=z9;cases hu;subst h1 h2;have fH:=AN.mp nd;exact⟨v,f1,f2,rfl,h3,h4,fH.2.1,fH.1,λa ha=>i4 _ ha,λa ha=>xw _ ha,λa ha hb=>fH.2.2 a ha a hb rfl⟩
 |t::us,_,_,m+1,u,z9,hu,nd=>by
  obtain⟨v,r,f1,f2,h1,h2,h3,h4⟩:=z9;subst h1 h2;have fH:=AN.mp nd;obtain⟨v',f,fw,q1,q2,q3,q4,q5,q6,q7,q8⟩:_:=aT.erase h4 hu fH.2.1;refine⟨v',f,f1++fw,q1,q2,⟨v,_,f1,fw,rfl,rfl,h3,q3⟩,AN.mpr ⟨fH.1,q4,λa ha b hb e=>fH.2.2 a ha b (q6 b hb) e⟩,q5,λa ha=>?_,λa ha=>i4 _ (q7 a ha),λa ha hb=>?_⟩
  ·obtain z|z:=qr.mp ha
   ·exact xw _ z
   ·exact i4 _ (q6 a z)
  ·obtain z|z:=qr.mp hb
   ·exact fH.2.2 a z a (q7 a ha) rfl
   ·exact q8 a ha z
theorem UJ (j j2:Nat){y:Str}{p1 p2 p3 p4 p5 p6:Pos}(qQ:j≠j2)(h : ρ[j]?=some (some (.ow us)))(h2 : ρ[j2]?=some (some (.ow ws)))(hn:bO F nE ρ (ti n))(hm:fh ws.length n=some m)(hb : -(2^62)<=n/\n<2^62)(hu:ws[m]?=some (.fz d))(hz:us.length<sizeLine)(hN:∀i,(F.cx i).N[j]?=some x:=by intro _;rfl)(wI:∀i,(F.cx i).N[j2]?=some y:=by intro _;rfl)(hv:∀i,iW (F.cx i).env.scope x:=by intro _;first|exact Or.inl rfl|exact Or.inr (Or.inl rfl)|exact Or.inr (Or.inr rfl))(wK:∀i,iW (F.cx i).env.scope y:=by intro _;first|exact Or.inl rfl|exact Or.inr (Or.inl rfl)|exact Or.inr (Or.inr rfl))(hd:(x==("__debug__":Str))=false:=by decide)(hc:(x==("__classdict__":Str))=false:=by decide)(hd2:(y==("__debug__":Str))=false:=by decide)(qR:(y==("__classdict__":Str))=false:=by decide)(jf:∀i,attributeBase (.Name x p1) "append" (F.cx i).env (eval (.Name x p1) (F.cx i).env)=eval (.Name x p1) (F.cx i).env:=by intro _;rfl)(Ef:∀i,attributeBase (.Name y p4) "pop" (F.cx i).env (eval (.Name y p4) (F.cx i).env)=eval (.Name y p4) (F.cx i).env:=by intro _;rfl)(jn:∀i,((backTo p3 (starEach [.Call (.Attribute (.Name y p4) "pop" p5) [nE] [] p6] (F.cx i).env)).all (λx=>!x.1)&&(backToKw p3 (keywordEach [] (F.cx i).env)).all (λx=>x.1.isSome)&&decide (([.Call (.Attribute (.Name y p4) "pop" p5) [nE] [] p6]:List Expr).length+([]:List Keyword).length+(if([]:List Keyword).isEmpty then 0 else 1)<30))=true:=by intro _;rfl)(Fl:∀i,((backTo p6 (starEach [nE] (F.cx i).env)).all (λx=>!x.1)&&(backToKw p6 (keywordEach [] (F.cx i).env)).all (λx=>x.1.isSome)&&decide (([nE]:List Expr).length+([]:List Keyword).length+(if([]:List Keyword).isEmpty then 0 else 1)<30))=true:=by intro _;rfl)(hline:(p2.endLine==p3.line)=true:=by rfl)(Eg:(p5.endLine==p6.line)=true:=by rfl)(hs:∀i,starEach [.Call (.Attribute (.Name y p4) "pop" p5) [nE] [] p6] (F.cx i).env=[(false,eval (.Call (.Attribute (.Name y p4) "pop" p5) [nE] [] p6) (F.cx i).env)]:=by intro _;rfl)(du:∀i,starEach [nE] (F.cx i).env=[(false,eval nE (F.cx i).env)]:=by intro _;rfl)(jB:∀i,swapsWith (.Call (.Attribute (.Name x p1) "append" p2) [.Call (.Attribute (.Name y p4) "pop" p5) [nE] [] p6] [] p3) none pos.line (F.cx i).env=pure false:=by intro _;rfl):
  Rn F (.Expr (.Call (.Attribute (.Name x p1) "append" p2) [.Call (.Attribute (.Name y p4) "pop" p5) [nE] [] p6] [] p3) pos) ρ (.nx ((ρ.set j2 (some (.ow (ws.eraseIdx m)))).set j (some (.ow (us++[.fz d]))))):=by
 obtain⟨wH,yn,zn⟩:_:=hn;refine⟨pN (ni F.K "list" yx (dG j) (dR (ni F.K "list" DU (dG j2) (dR wH d8)) d8)),λi=>ki (F.hK i▸kr EN OR Pc nL (lu (hN i) (hv i) hd hc) (cf (kr EN PySem.F.slot_list_pop PySem.F.type_list_pop J0 (lu (wI i) (wK i) hd2 qR) (cf (yn i) cG (du i)) (Ef i) (Fl i) Eg (du i) rfl) cG (hs i)) (jf i) (jn i) hline (hs i) rfl) (jB i),λD σ G0 H0 G H r k=>?_⟩;obtain⟨fp,r⟩:=r;obtain⟨l0,Av,Aw,c1,c2,_⟩:_:=r.mut h (.refl r.st.s);obtain⟨l2,vs2,Rh,e1,e2,_⟩:=r.mut h2 (.refl r.st.s);refine⟨_,c1,.inl ⟨rfl,_,aK.of c2⟩,_,e1,.inl ⟨rfl,_,aK.of e2⟩,?_⟩;refine zn σ G H fp _ r.st.s r.own r.g λvn G1 H1 f1 s1 o1 w1=>?_
 obtain⟨l,vs,fq,d1,d2,d3,d4,d5,d6,d7⟩:_:=r.mut h2 s1;rw[e1]at d1;cases d1;obtain⟨v,f,fw,g1,g2,g3,g4,g5,g6,g7,g8⟩:_:=d4.erase hu d5;obtain⟨rfl,lZ⟩:=g2;obtain⟨Hq,ix2,ix3,ix4⟩:=uA hm;refine⟨l2,vs,n,m,v,rfl,by rw[aS o1.2],d3,'O','O',by rw[<- d4.length];exact Hq,g1,?_⟩;have r2:=d7 (ws.eraseIdx m) (vs.eraseIdx m) fw g3 g4 λa ha=>.inl (g6 a ha)
 obtain⟨fp2,r2⟩:=r2;have oQ:(ρ.set j2 (some (.ow (ws.eraseIdx m))))[j]?=some (some (.ow us)):=by rw[FF (adU qQ)];exact h
 obtain⟨l3,Ri,fq3,b1,b2,b3,b4,b5,b6,b7⟩:_:=r2.mut oQ (.refl r2.st.s);rw[c1]at b1;cases b1;refine⟨l0,Ri,v,rfl,rfl,b2,by rw[<- b4.length];exact hz,k σ G1 _ ?_⟩;exact b7 (us++[.fz d]) (Ri++[v]) (fq3++([]++[])) (b4.append (us:=[.fz d]) ⟨v,[],[],[],rfl,rfl,⟨rfl,lZ⟩,rfl,rfl⟩) (by simpa using b5) λa ha=>.inl (by simpa using ha)
end
theorem lh {k:Nat}(h:(gL xs)[k]?=some d):∃x,xs[k]?=some x/\d=.tup [di (k:Nat),x]:=by
 unfold gL at h;rw[Pf]at h;cases hx:xs[k]? with
 |none=>
  rw[hx]at h;cases q2:(List.range xs.length)[k]? with
  |none=>rw[q2]at h;cases h
  |some z=>rw[q2]at h;cases h
 |some x=>
  have lj:=(gr.mp hx).1;rw[hx,Me lj]at h;cases h;exact⟨x,rfl,rfl⟩
theorem lr (xs:List Dv):(gL xs).length=xs.length:=by grind [gL]
theorem pI {α:Type}(l:List α)(f : α->Int):er (.ow (l.map λk=>Tr.fz (di (f k))))=dis (l.map f):=by
 show Dv.lst _=Dv.lst _;rw[pD,gz,gz];rfl
abbrev aE (l:LI):Tr:=.ow (l.map λn=>.fz (di n))
abbrev ji (L:LL):Tr:=.ow (L.map aE)
theorem bP (l:LI):er (aE l)=dis l:=by
 show Dv.lst _=_;rw[pD,gz];rfl
theorem nP (L:LL):er (ji L)=.lst (L.map dis):=by
 show Dv.lst _=_;rw[pD,gz];congr 1;exact List.map_congr_left λl _=>bP l
theorem XN (L:LL):iD (.lst (L.map dis))=true:=Dl Dk L
theorem Kh (L:LL):dH (.lst (L.map dis))<=2:=uH λd hd=>by
 obtain⟨m,_,rfl⟩:=i8.mp hd;exact jI m
def gn (c:LI)(os:LL):Dv:=.tup [dis c,.lst (os.map dis)]
theorem Y5 (c:LI)(os:LL):iD (gn c os)=true:=by
 show(iD (dis c)&&(iD (.lst (os.map dis))&&true))=true;rw[Dk,XN];rfl
theorem Lp (c:LI)(os:LL):dH (gn c os)<=3:=Y3 λd hd=>by
 obtain rfl|hd:=ff.mp hd
 ·exact Cn (jI c) 'Q'
 ·rw[BB.mp hd];exact Kh os
def jj (n:Nat)(o:LI):LI:=((List.range n).filter λk=>!o.contains (0+((k:Nat):Int))).map λk=>0+((k:Nat):Int)
def aN (n:Nat)(o:LI):LI:=o++[(n:Int)]++jj n o
theorem Cg (n:Nat)(o:LI):(jj n o).length<=n:=by
 unfold jj
 grind
structure dX (c:LI) (os:LL):Prop where
 c6:c.length<=6
 cnt:∀x∈c,0<=x/\x<=9
 o1 : 1<=os.length
 o6:os.length<=6
 nd:∀o∈os,o.Nodup
 bT:∀o∈os,∀x∈o,0<=x/\x<c.length
theorem Ci {n:Nat}{l:LI}(nd:l.Nodup)(h:∀x∈l,0<=x/\x<n):l.length<=n:=by
 have sub:l ⊆ (List.range n).map λk=>((k:Nat)):=λx hx=>by
  obtain⟨h0,h1⟩:=h x hx;exact i8.mpr ⟨x.toNat,l9.mpr 'O','O'⟩
 have:=nd.length_le_of_subset sub
 simp_all
theorem dX.gN {os:LL}(h:dX c os)(ho:o∈os):o.length<=6:=Cn (Ci (h.nd o ho) (h.bT o ho)) h.c6
theorem bb.to {F:aU ι}(h:bb F tg iter ρ a)(e:a=b):bb F tg iter ρ b:=e▸h
theorem Js {α:Type}:∀{l:List α} {m:Nat} (h:m<l.length),(l[m]::l.eraseIdx m).Perm l
 |x::l,0,_=>.refl _
 |x::l,m+1,h=>by
  have h':m<l.length:='J'
  exact(List.Perm.swap ..).trans ((Js h').cons x)
theorem Cj {α β:Type}(f : α->β):∀(l:List α) m,(l.map f).eraseIdx m=(l.eraseIdx m).map f
 |[],_=>rfl
 |_::_,0=>rfl
 |x::l,m+1=>by
  show f x::(l.map f).eraseIdx m=f x::(l.eraseIdx m).map f;rw[Cj f l m]
theorem Lq {F:aU ι}(ha:Ev F a ρ (ti i))(hb:Ev F b ρ (ti j))(hc:zQ i j):Ev F (.BinOp a .Mult b pos) ρ (ti (i*j)):=nZ (λ_=>aaE) ha hb λG H x y Q s hx hy k=>⟨i,j,aS hx,aS hy,hc,k.sc s rfl⟩
theorem XO {F:aU ι}(f:Fg ρ1 ρ2):bE F [] ρ1 (.nx ρ2):=bE.fg nU f
section
variable {F:aU ι}{ρ:En}{pos:Pos}
theorem fk.move {K:Frag}(r:fk K G0 H0 G H ρ σ fp)(qQ:j≠j2)(h : ρ[j]?=some (some (.ow us)))(h2 : ρ[j2]?=some (some t)):
  ∃l vs v,σ[j]?=some (some (.ref l))/\σ[j2]?=some (some v)/\H l=some (.lst vs)/\us.length=vs.length/\RS K G0 H0 G (upd H l (.lst (vs++[v]))) ((ρ.set j2 none).set j (some (.ow (us++[t])))) σ:=by
 obtain⟨v2,f2,fr2,a1,a2,a3,a4⟩:_:=r.own.split h2;obtain⟨v,f,fr,b1,b2,b3,b4⟩:_:=a3.split (by rw[FF (adU qQ)];exact h);obtain⟨l,vs,fq,rfl,hl,ol,rfl⟩:_:=b2;have pm:=a4.trans (Nl _ b4);have nd:=pm.nodup_iff.mp r.d;have AA:=AN.mp nd;have AB:=AN.mp AA.2.1;have nd3:=AE.mp AB.1;have lf2:=λz=>AA.2.2 l z l (xw _ (.head _)) rfl
 have lfr:=λz=>AB.2.2 l (.head _) l z rfl
 have Rj:=pm.mem_iff.mpr (i4 _ (xw _ (.head _)));have lt:j<(ρ.set j2 none).length:=by
  rw[SI];obtain z|z:=ET j ρ.length
  ·exact z
  ·rw[Pd z]at h;cases h
 have own:Ow K G (upd H l (.lst (vs++[v2]))) (.ow (us++[t])) (.ref l) (l::(fq++(f2++[]))):=
  ⟨l,vs++[v2],fq++(f2++[]),rfl,bM,(ol.frame nd3.1).append ⟨v2,[],f2,[],rfl,rfl,a2.frame lf2,rfl,rfl⟩,rfl⟩
 obtain⟨jA,p1,p2⟩:_:=(b3.frame lfr).put (xR lt) own;rw[afS,yf b1]at p1;have Hr:jA.Perm fp:=by
  refine p2.trans (List.Perm.trans ?_ pm.symm);rw[zw];have:((l::(fq++f2))++fr).Perm ((f2++(l::fq))++fr):=VT fr (by
   show((l::fq)++f2).Perm (f2++(l::fq));exact adm)
  rw[CS]at this;exact this
 refine⟨l,vs,v2,b1,a1,hl,ol.length,jA,⟨r.st.g,λb u hb=>?_,λb u hb=>?_,r.st.n⟩,p1,λa ha=>r.g a (Hr.mem_iff.mp ha),λa ha=>r.n a (Hr.mem_iff.mp ha),Hr.nodup_iff.mpr r.d⟩
 ·have gR:=r.st.h b u hb;rw[aH λz=>?_]
  ·exact gR
  ·subst z;rw[r.n _ Rj]at hb;cases hb
 ·have gR:=r.st.s b u hb;rw[aH λz=>?_]
  ·exact gR
  ·subst z;rw[r.g _ Rj]at hb;cases hb
theorem Vg (j j2:Nat){y:Str}{p1 p2 p3 p4:Pos}(qQ:j≠j2)(h : ρ[j]?=some (some (.ow us)))(h2 : ρ[j2]?=some (some t))(hz:us.length<sizeLine)(hN:∀i,(F.cx i).N[j]?=some x:=by intro _;rfl)(wI:∀i,(F.cx i).N[j2]?=some y:=by intro _;rfl)(hv:∀i,iW (F.cx i).env.scope x:=by intro _;first|exact Or.inl rfl|exact Or.inr (Or.inl rfl)|exact Or.inr (Or.inr rfl))(wK:∀i,iW (F.cx i).env.scope y:=by intro _;first|exact Or.inl rfl|exact Or.inr (Or.inl rfl)|exact Or.inr (Or.inr rfl))(hd:(x==("__debug__":Str))=false:=by decide)(hc:(x==("__classdict__":Str))=false:=by decide)(hd2:(y==("__debug__":Str))=false:=by decide)(qR:(y==("__classdict__":Str))=false:=by decide)(jf:∀i,attributeBase (.Name x p1) "append" (F.cx i).env (eval (.Name x p1) (F.cx i).env)=eval (.Name x p1) (F.cx i).env:=by intro _;rfl)(jn:∀i,((backTo p3 (starEach [.Name y p4] (F.cx i).env)).all (λx=>!x.1)&&(backToKw p3 (keywordEach [] (F.cx i).env)).all (λx=>x.1.isSome)&&decide (([.Name y p4]:List Expr).length+([]:List Keyword).length+(if([]:List Keyword).isEmpty then 0 else 1)<30))=true:=by intro _;rfl)(hline:(p2.endLine==p3.line)=true:=by rfl)(hs:∀i,starEach [.Name y p4] (F.cx i).env=[(false,eval (.Name y p4) (F.cx i).env)]:=by intro _;rfl)(jB:∀i,swapsWith (.Call (.Attribute (.Name x p1) "append" p2) [.Name y p4] [] p3) none pos.line (F.cx i).env=pure false:=by intro _;rfl):
  Rn F (.Expr (.Call (.Attribute (.Name x p1) "append" p2) [.Name y p4] [] p3) pos) ρ (.nx ((ρ.set j2 none).set j (some (.ow (us++[t]))))):=by
 refine⟨pN (ni F.K "list" yx (dG j) (dR (dG j2) d8)),λi=>ki (F.hK i▸kr EN OR Pc nL (lu (hN i) (hv i) hd hc) (cf (lu (wI i) (wK i) hd2 qR) cG (hs i)) (jf i) (jn i) hline (hs i) rfl) (jB i),λD σ G0 H0 G H r k=>?_⟩;obtain⟨fp,r⟩:=r;obtain⟨l,vs,v,c1,c2,c3,c4,c5⟩:_:=r.move qQ h h2;exact⟨_,c1,.inl ⟨rfl,_,aK.of c3⟩,_,c2,l,vs,v,rfl,rfl,c3,by rw[<- c4];exact hz,k σ G _ c5⟩
theorem XQ (l:List α)(a b:Nat):cutD l (some (a:Int)) (some (b:Int))=(l.drop (min a l.length)).take (min b l.length-min a l.length):=by
 rfl
theorem CL {α β:Type}(q : α->Bool)(h : α->β)(d : β):∀l:List α,((List.range l.length).filter λk=>((l[k]?).map q).getD false).map (λk=>((l[k]?).map h).getD d)=(l.filter q).map h
 |[] => rfl
 |a::l=>by
  have ih:=CL q h d l;rw[IF,aeG,aat,aat,afc];show List.map _ (if q a=true then _ else _)=_;cases q a with
  |true=>
   show h a::((_:List Nat).map Nat.succ).map _=h a::_;rw[gz,<- ih];rfl
  |false=>
   show((_:List Nat).map Nat.succ).map _=_;rw[gz];exact ih
theorem zW {α:Type}(l:List α)(g : α->Dv)(q : α->Bool)(h : α->Tr)(hi:bb F tg iter ρ (l.map g))(hg:iA (cB F own fr sc cl) tg js sp)(gS:∀j∈js,j<own.length)(hz:l.length<sizeLine)(step:∀a∈l,∃dd,sp (g a)=some dd/\El (cB F own fr sc cl) ifs (a8 js (dd.map .fz) (cH own fr ρ)) (q a)/\(q a=true->Ev (cB F own fr sc cl) elt (a8 js (dd.map .fz) (cH own fr ρ)) (h a)))(jO:∀dd:List Dv,i9 js (a8 js (dd.map .fz) (cH own fr ρ))=cH own fr ρ):gD F own fr sc cl elt tg iter ifs ρ (.ow ((l.filter q).map h)):=by
 have:=Q6 (ifs:=ifs) hi hg gS (λk=>((l[k]?).map q).getD false) (λk=>((l[k]?).map h).getD tn) 'J' (λk d hd=>by
  obtain⟨a,ha,rfl⟩:_:=gF hd;obtain⟨dd,s1,s2,s3⟩:_:=step a (ba ha);refine⟨dd,s1,?_,?_⟩
  ·simp_all
  ·rw[ha];exact s3) jO
 rw[aa,CL]at this;omega
theorem zX {α:Type}(l:List α)(g : α->Dv)(h : α->Tr)(hi:bb F tg iter ρ (l.map g))(hg:iA (cB F own fr sc cl) tg js sp)(gS:∀j∈js,j<own.length)(hz:l.length<sizeLine)(step:∀a∈l,∃dd,sp (g a)=some dd/\Ev (cB F own fr sc cl) elt (a8 js (dd.map .fz) (cH own fr ρ)) (h a))(jO:∀dd:List Dv,i9 js (a8 js (dd.map .fz) (cH own fr ρ))=cH own fr ρ):gD F own fr sc cl elt tg iter [] ρ (.ow (l.map h)):=by
 have:=zW l g (λ_=>true) h hi hg gS hz (λa ha=>by obtain⟨dd,s1,s2⟩:=step a ha;exact⟨dd,s1,sf,λ_=>s2⟩) jO;rwa [adW.mpr λ_ _=>rfl]at this
theorem oi {α:Type}(l:List α)(g : α->Dv)(q : α->Bool)(h : α->Tr)(L:∀i,hJ (F.cx i) sc (cl i) fr)(hi:bb F tg iter ρ (l.map g))(hg:iA (cB F own fr sc cl) tg js sp)(gS:∀j∈js,j<own.length)(hz:l.length<sizeLine)(step:∀a∈l,∃dd,sp (g a)=some dd/\El (cB F own fr sc cl) ifs (a8 js (dd.map .fz) (cH own fr ρ)) (q a)/\(q a=true->Ev (cB F own fr sc cl) elt (a8 js (dd.map .fz) (cH own fr ρ)) (h a)))(jO:∀dd:List Dv,i9 js (a8 js (dd.map .fz) (cH own fr ρ))=cH own fr ρ)(hs:∀i x,foldedSetIterable iter (F.cx i).env x=pure x:=by intro _ _;rfl):Ev F (.ListComp elt [⟨tg,iter,ifs,0⟩] sc pos) ρ (.ow ((l.filter q).map h)):=by
 have:=zy (ifs:=ifs) (pos:=pos) L hi hg gS (λk=>((l[k]?).map q).getD false) (λk=>((l[k]?).map h).getD tn) 'J' (λk d hd=>by
  obtain⟨a,ha,rfl⟩:_:=gF hd;obtain⟨dd,s1,s2,s3⟩:_:=step a (ba ha);refine⟨dd,s1,?_,?_⟩
  ·simp_all
  ·rw[ha];exact s3) jO hs
 rw[aa,CL]at this;omega
theorem fO {α:Type}(l:List α)(g : α->Dv)(h : α->Tr)(L:∀i,hJ (F.cx i) sc (cl i) fr)(hi:bb F tg iter ρ (l.map g))(hg:iA (cB F own fr sc cl) tg js sp)(gS:∀j∈js,j<own.length)(hz:l.length<sizeLine)(step:∀a∈l,∃dd,sp (g a)=some dd/\Ev (cB F own fr sc cl) elt (a8 js (dd.map .fz) (cH own fr ρ)) (h a))(jO:∀dd:List Dv,i9 js (a8 js (dd.map .fz) (cH own fr ρ))=cH own fr ρ)(hs:∀i x,foldedSetIterable iter (F.cx i).env x=pure x:=by intro _ _;rfl):Ev F (.ListComp elt [⟨tg,iter,[],0⟩] sc pos) ρ (.ow (l.map h)):=by
 have:=oi (pos:=pos) l g (λ_=>true) h L hi hg gS hz (λa ha=>by obtain⟨dd,s1,s2⟩:=step a ha;exact⟨dd,s1,sf,λ_=>s2⟩) jO hs;rwa [adW.mpr λ_ _=>rfl]at this
theorem eG {α:Type}(l:List α)(h : α->Tr):er (.ow (l.map h))=.lst (l.map λa=>er (h a)):=by
 show Dv.lst (fj _)=_;rw[pD,gz];rfl
end
end L2
namespace L2
open PySem PySem.Spec PyProof.Rows dC
section
variable {F:aU ι}{pos:Pos}
theorem CM (Fn:Kn F.P F.w F.K F.mg F.base bx k x f fd ps (spT F.K R))(B:Binds F.K fd ps [.int n tk])(hk:k<=F.room)(ha:jy F (e::es) ρ ts)(hR:R (fj ts++[di n]) t){p':Pos}(hg:∀i,Gl (F.cx i) x:=by intro _;rfl)(fc:(x==("__debug__":Str))=false:=by decide)(he:∀i,starEach (e::es) (F.cx i).env=(false,eval e (F.cx i).env)::starEach es (F.cx i).env:=by intro _;rfl)(dv:∀i,(backTo pos (starEach es (F.cx i).env)).any (·.1)=false:=by intro _;rfl):Ev F (.Call (.Name x p') (e::es) [] pos) ρ t:=by
 obtain⟨τ,y,z⟩:_:=ha.use;refine⟨sL (spT F.K R) [.int n] E0 τ,λi=>?_,λσ G H Q s rr k=>z σ G H _ s rr λvs G1 H1 s1 hx=>?_⟩
 ·have kN:Kn (F.cx i).prog (F.cx i).w (F.cx i).K (F.cx i).mg (F.cx i).base bx k x f fd ps (spT F.K R):=by
   rw[F.hP i,F.hw i,F.hK i,F.hm i,F.hb i];omega
  exact KS kN.ok ((F.hr i).mono hk) (hg i) kN.QZ kN.kp (by rw[F.hK i];exact B) (.cons ⟨tk,rfl⟩ .nil) mQ (y i) fc (he i) (dv i)
 ·have app:∀{ds:List Dv} {vs:List V},aG F.K G1 ds vs->aG F.K G1 (ds++[di n]) (vs++[.int n]):=by
   intro ds
   induction ds with
   |nil=>intro vs h;have h':=h;subst h';exact⟨_,_,rfl,⟨rfl,rfl⟩,rfl⟩
   |cons d ds ih=>intro vs ⟨x,r,h1,h2,h3⟩;subst h1;exact⟨x,_,rfl,h2,ih h3⟩
  exact⟨G1,_,t,s1.s,app hx,hR,k.step s1⟩
theorem Y6 (hm:F.mg "int"=none)(ha:Ev F e ρ (tb q)){p':Pos}(hg:∀i,Gl (F.cx i) "int":=by intro _;rfl)(hs:∀i,starEach [e] (F.cx i).env=[(false,eval e (F.cx i).env)]:=by intro _;rfl):Ev F (.Call (.Name "int" p') [e] [] pos) ρ (ti (if q then 1 else 0)):=
 J9 (λi=>WG) hm DY (ah ha ao hs) (λG H vs Q s hx k=>by
  obtain⟨x,rfl,eF⟩:=iQ hx;exact .inr ⟨q,by rw[aS eF],k.sc s rfl⟩) hg 'Q' 'Q' hs (λ_=>rfl)
end
abbrev dF (p:Int×Int):Dv:=.tup [di p.1,di p.2]
abbrev tF (p:Int×Int):Tr:=.fz (dF p)
def fW (W s:Int):Int×Int:=(lT s W,lB s W)
theorem gj (h : 0<W) : 0<(fW W s).2:=by have:=Fj (t:=s) (show W≠0 by lia);show 0<lB s W;lia
theorem Fm (h : 0<W):(fW W s).2<=W:=by have:=abV (t:=s) (show W≠0 by lia);show lB s W<=W;lia
theorem Eh (h : 0<W):(fW W s).1.natAbs<=s.natAbs:=aaZ (show W≠0 by omega)
theorem i6 (h : 0<W):(fW W s).1*W=s*(fW W s).2:=Di (show W≠0 by omega)
theorem aa2 (h : 0<W):Int.gcd (fW W s).1 (fW W s).2=1:=Cd (show W≠0 by omega)
theorem JI (h : 0<W)(hs : 0<=s) : 0<=(fW W s).1:=by
 have c:=i6 (s:=s) h;have p:=gj (s:=s) h;obtain z|z:=afj (fW W s).1 0
 ·have:=afs z h;have : 0<=s*(fW W s).2:=adO hs 'O';lia
 ·exact z
theorem rN (h : 0<W)(hb:b≠0)(e:t*W=s*b):(lT t b,lB t b)=fW W s:=by
 obtain⟨h1,h2⟩:=acJ hb (show W≠0 by lia) e;show _=(_,_)
 simp_all
theorem Dn (h : 0<W):(lT ((fW W s).1*(fW W t).2+(fW W t).1*(fW W s).2) ((fW W s).2*(fW W t).2),lB ((fW W s).1*(fW W t).2+(fW W t).1*(fW W s).2) ((fW W s).2*(fW W t).2))=fW W (s+t):=by
 have p1:=gj (s:=s) h;have p2:=gj (s:=t) h;have c1:=i6 (s:=s) h;have c2:=i6 (s:=t) h;refine rN h (by have:=Int.mul_pos p1 p2;lia) ?_
 grind
theorem yV (h : 0<W)(e:fW W s=fW W t):s=t:=by
 have c1:=i6 (s:=s) h;have c2:=i6 (s:=t) h;rw[e]at c1;have p:=gj (s:=t) h;have:s*(fW W t).2=t*(fW W t).2:=by rw[<- c1,<- c2]
 exact Int.eq_of_mul_eq_mul_right 'O' this
theorem rO (h : 0<W):fW W 0=(0,1):=by
 have:=CJ (b:=W) (p:=0) (q:=1) 'Z' 'Q' 'Q' (by rw[Int.zero_mul,Int.zero_mul]);show(_,_)=_;rw[<- this.1,<- this.2]
theorem abX (h : 0<W):(fW W s).1*(fW W t).2<(fW W t).1*(fW W s).2↔s<t:=by
 have p1:=gj (s:=s) h;have p2:=gj (s:=t) h;have c1:=i6 (s:=s) h;have c2:=i6 (s:=t) h;generalize (fW W s).1=a at *;generalize (fW W s).2=b at *;generalize (fW W t).1=c at *;generalize (fW W t).2=d at *;have bd:=Int.mul_pos p1 p2;have e1:a*d*W=s*(b*d):=by grind
 have e2:c*b*W=t*(b*d):=by grind
 constructor
 ·intro z;have:=Zl z h
  simp_all
 ·intro z;have:=Zl z bd;rw[<- e1,<- e2]at this;exact Int.lt_of_mul_lt_mul_right this 'O'
end L2
namespace L2
open PySem PySem.Spec PyProof.Rows
section
variable {F:aU ι}{ρ:En}{pos:Pos}
theorem Rn.to {st:afW}(h:Rn F st ρ (.nx ρ1))(e : ρ1=ρ2):Rn F st ρ (.nx ρ2):=e▸h
theorem V3 (j j2:Nat){x y:Str}{pos' p4 p5 p6:Pos}(qQ:j≠j2)(h2 : ρ[j2]?=some (some (.ow ws)))(hn:bO F nE ρ (ti n))(hm:fh ws.length n=some m)(hb : -(2^62)<=n/\n<2^62)(hu:ws[m]?=some (.fz d))(hN:∀i,(F.cx i).N.Nodup)(hj:Nat.blt j ρ.length=true:=by rfl)(hi:∀i,(F.cx i).N[j]?=some x:=by intro _;rfl)(wI:∀i,(F.cx i).N[j2]?=some y:=by intro _;rfl)(hx:∀i,Loc (F.cx i).env.scope x:=by intro _;first|exact Or.inl rfl|exact Or.inr rfl)(wK:∀i,iW (F.cx i).env.scope y:=by intro _;first|exact Or.inl rfl|exact Or.inr (Or.inl rfl)|exact Or.inr (Or.inr rfl))(hd2:(y==("__debug__":Str))=false:=by decide)(qR:(y==("__classdict__":Str))=false:=by decide)(Ef:∀i,attributeBase (.Name y p4) "pop" (F.cx i).env (eval (.Name y p4) (F.cx i).env)=eval (.Name y p4) (F.cx i).env:=by intro _;rfl)(Fl:∀i,((backTo p6 (starEach [nE] (F.cx i).env)).all (λx=>!x.1)&&(backToKw p6 (keywordEach [] (F.cx i).env)).all (λx=>x.1.isSome)&&decide (([nE]:List Expr).length+([]:List Keyword).length+(if([]:List Keyword).isEmpty then 0 else 1)<30))=true:=by intro _;rfl)(Eg:(p5.endLine==p6.line)=true:=by rfl)(du:∀i,starEach [nE] (F.cx i).env=[(false,eval nE (F.cx i).env)]:=by intro _;rfl)(hs:∀i,swapsWith (.Call (.Attribute (.Name y p4) "pop" p5) [nE] [] p6) (some (.Name x pos')) pos.line (F.cx i).env=pure false:=by intro _;rfl)(hf:∀i,(F.cx i).fn x=true\/(F.cx i).env.scope.names.lookup x=some .local:=by intro _;first|exact .inl rfl|exact .inr rfl):
  Rn F (.Assign [.Name x pos'] (.Call (.Attribute (.Name y p4) "pop" p5) [nE] [] p6) pos) ρ (.nx ((ρ.set j2 (some (.ow (ws.eraseIdx m)))).set j (some (.fz d)))):=by
 obtain⟨wH,yn,zn⟩:_:=hn;refine⟨lN (ni F.K "list" DU (dG j2) (dR wH d8)) (eK j),λi=>hU (hN i) (hi i) (hx i) (F.hK i▸kr EN PySem.F.slot_list_pop PySem.F.type_list_pop J0 (lu (wI i) (wK i) hd2 qR) (cf (yn i) cG (du i)) (Ef i) (Fl i) Eg (du i) rfl) (hs i) (hf i),λD σ G0 H0 G H r k=>?_⟩;obtain⟨fp,r⟩:=r;obtain⟨l2,vs2,Rh,e1,e2,_⟩:_:=r.mut h2 (.refl r.st.s);refine⟨_,e1,.inl ⟨rfl,_,aK.of e2⟩,?_⟩;refine zn σ G H fp _ r.st.s r.own r.g λvn G1 H1 f1 s1 o1 w1=>?_
 obtain⟨l,vs,fq,d1,d2,d3,d4,d5,d6,d7⟩:_:=r.mut h2 s1;rw[e1]at d1;cases d1;obtain⟨v,f,fw,g1,g2,g3,g4,g5,g6,g7,g8⟩:_:=d4.erase hu d5;obtain⟨rfl,lZ⟩:=g2;obtain⟨Hq,ix2,ix3,ix4⟩:=uA hm;refine⟨l2,vs,n,m,v,rfl,by rw[aS o1.2],d3,'O','O',by rw[<- d4.length];exact Hq,g1,?_⟩;have r2:=d7 (ws.eraseIdx m) (vs.eraseIdx m) fw g3 g4 λa ha=>.inl (g6 a ha)
 obtain⟨fp2,r2⟩:=r2;have oQ:j<(ρ.set j2 (some (.ow (ws.eraseIdx m)))).length:=by rw[SI];exact adv hj
 exact k _ G1 _ (r2.set oQ (.refl r2.st.s) ⟨rfl,lZ⟩ .nil)
end
theorem aG.zY {K:Frag}:∀{ds es:List Dv} {vs ws:List V},aG K G ds vs->aG K G es ws->aG K G (ds++es) (vs++ws)
 |[],_,_,_,h,q=>by rw[h];exact q
 |_::_,_,_,ws,⟨x,r,h1,h2,h3⟩,q=>by subst h1;exact⟨x,r++ws,rfl,h2,aG.zY h3 q⟩
theorem vv (N2:List Str)(L:J6 N2 cK sc fr)(wA:∀y,(y,NameKind.free)∈cK.names->∃c,tu.lookup y=some c)(eN:(pY++qK.map λj=>X.N.getD j "")=N2:=by rfl):
  hJ (dM X pY qK cK tu C s H ex pn) sc (gk (cellsFrom (C+1) cK.names tu) sc.names []) fr:=by
 subst eN;exact acD L wA
def Md (f:List adG)(H H2:Hp):Prop:=∀b o,b∉f->H b=some o->H2 b=some o
theorem Md.refl:Md f H H:=λ_ _ _ h=>h
theorem Md.trans (a:Md f H H1)(b:Md f H1 H2):Md f H H2:=λx o n h=>b x o n (a x o n h)
theorem Md.upd (hl:l∈f):Md f H (L2.upd H l o):=λb u n h=>by
 rw[aH (show b≠l from λz=>n (z▸hl))];exact h
theorem Md.new (hl:H l=none):Md f H (L2.upd H l o):=λb u n h=>by
 rw[aH (λz=>'J')];exact h
mutual
theorem Ow.agree {K:Frag}{G H H2:Hp}:∀{t:Tr} {v:V} {fp:List adG},Ow K G H t v fp->(∀a∈fp,H2 a=H a)->Ow K G H2 t v fp
 | .fz _,_,_,h,_=>h
 | .ow _,_,_,⟨b,vs,fq,h1,h2,h3,h4⟩,n=>by
  subst h4;exact⟨b,vs,fq,h1,(n b (.head _)).trans h2,aT.agree h3 λa z=>n a (.tail _ z),rfl⟩
 | .tp _,_,_,⟨b,vs,fq,h1,h2,h3,h4⟩,n=>by
  subst h4;exact⟨b,vs,fq,h1,(n b (.head _)).trans h2,aT.agree h3 λa z=>n a (.tail _ z),rfl⟩
theorem aT.agree {K:Frag}{G H H2:Hp}:∀{ts:List Tr} {vs:List V} {fp:List adG},aT K G H ts vs fp->(∀a∈fp,H2 a=H a)->aT K G H2 ts vs fp
 |[],_,_,h,_=>h
 |_::_,_,_,⟨v,r,f1,f2,h1,h2,h3,h4⟩,n=>by
  subst h2;exact⟨v,r,f1,f2,h1,rfl,h3.agree λa z=>n a (xw _ z),aT.agree h4 λa z=>n a (i4 _ z)⟩
end
theorem bu.agree {K:Frag}:∀{ρ:En} {σ:St} {fp:List adG},bu K G H ρ σ fp->(∀a∈fp,H2 a=H a)->bu K G H2 ρ σ fp
 |[],_,_,h,_=>h
 |none::_,_,_,z9,n=>by obtain⟨o,r,h1,h2⟩:=z9;exact⟨o,r,h1,bu.agree h2 n⟩
 |some _::_,_,_,z9,n=>by
  obtain⟨v,r,f1,f2,h1,h2,h3,h4⟩:=z9;subst h2;exact⟨v,r,f1,f2,h1,rfl,h3.agree λa z=>n a (xw _ z),bu.agree h4 λa z=>n a (i4 _ z)⟩
theorem aa3 {F:aU ι}{cl : ι->List (Str×adG)}{pos p8 py:Pos}(j:Nat)(h:gD F own fr sc cl elt tg iter ifs ρ t)(L:∀i,hJ (F.cx i) sc (cl i) fr)(hN:∀i,(F.cx i).N.Nodup)(hi:∀i,(F.cx i).N[j]?=some x:=by intro _;rfl)(hx:∀i,Loc (F.cx i).env.scope x:=by intro _;first|exact Or.inl rfl|exact Or.inr rfl)(jB:∀i,swapsWith (.ListComp elt [⟨tg,iter,ifs,0⟩] sc pos) (some (.Name x py)) p8.line (F.cx i).env=pure true:=by intro _;rfl)(hf:∀i,(F.cx i).fn x=true\/(F.cx i).env.scope.names.lookup x=some .local:=by intro _;first|exact .inl rfl|exact .inr rfl)(hs:∀i x,foldedSetIterable iter (F.cx i).env x=pure x:=by intro _ _;rfl):
  ∃τ,(∀i,PS (F.cx i) (.Assign [.Name x py] (.ListComp elt [⟨tg,iter,ifs,0⟩] sc pos) p8) τ)/\∀D σ G H,aj G H->aX F.K G ρ σ->(∀v G' H' fq,Step G H G' H'->Ow F.K G' H' t v fq->Nw H G' fq->D.nx (σ.set j (some v)) H')->τ D σ H:=by
 obtain⟨τ,⟨wi,g,tt,te,rfl,h1,h2,h3,h4⟩,z⟩:_:=h;refine⟨_,λi=>Kc (L i) (F.calm i) (h1 i) (λC s H ex pn=>h2 (i,⟨C,s,H,ex,pn⟩)) (λC s H ex pn=>h3 (i,⟨C,s,H,ex,pn⟩)) (λC s H ex pn=>h4 (i,⟨C,s,H,ex,pn⟩)) (hN i) (hi i) (hx i) (jB i) (hf i) (hs i),λD σ G H s r k=>?_⟩;exact z σ G H _ s r λv G1 H1 fq s1 o w=>k v G1 H1 fq s1 o w
end L2
namespace L2
open PySem PySem.Spec PyProof.Rows
section
def abY (K:Frag):List V->Hp->VK->Prop:=λxs H Q=>∃(p:adG) (ns:LI) (m:Int),xs=[.ref p]/\aK K H p (ns.map V.int)/\(m∈ns/\∀a∈ns,m<=a)/\Q (.int m) H
theorem WX (hc:X.calm=true):fA X (.builtin "min") (abY X.K):=by
 intro pins s σ H xs us Q I r h;obtain⟨p,ns,m,rfl,hq,hm,q⟩:_:=h;cases r with
 |cons r1 rr=>
  cases rr
  cases r1
  obtain⟨its,rv,pl,hz⟩:_:=I.list hq;obtain⟨zs,rfl,rfl⟩:_:=Bm rv;have iZ : 0<zs.toArray.size:=by
   grind
  refine PySem.min_intList (I.ok.hd hc) (by simpa [PySem.intItems]using pl.isList) iZ λv h' tk hv hk=>?_
  obtain⟨t,rfl⟩:=PySem.intItems_at hv;obtain⟨h1,h2⟩:=PySem.argBest_lt (PySem.numAt zs.toArray) (zs.toArray.size-1);generalize PySem.argBest (λi j=>decide (PySem.numAt zs.toArray i<PySem.numAt zs.toArray j)) (zs.toArray.size-1)=b at *;have e:PySem.numAt zs.toArray b=m:=by
   have i1:PySem.numAt zs.toArray b∈zs.map (·.1):=by
    rw[PySem.numAt_eq]
    grind
   obtain⟨j,hj,ej⟩:_:=PySem.mem_getD hm.1;have e2:PySem.numAt zs.toArray j=m:=by rw[PySem.numAt_eq];exact ej
   grind
  rw[e];exact⟨.int m,H,I.kept (t':=tk) hk,⟨t,rfl⟩,q⟩
end
section
variable {F:aU ι}
theorem aa4 (ha:Ev F a ρ (.fz (.fl u)))(hb:Ev F b ρ (.fz (.fl v)))(hs:FY u v=true):Et F (.Compare a [.Eq] [b] pos) ρ (decide (u=v)):=
 lz (λ_=>zu) ha hb (λG H x y Q s hx hy k=>by rw[aS hx,aS hy];exact⟨hs,k⟩) (gG _)
end
theorem gC.to {F:aU ι}(h:gC F e ρ p)(z:p=q):gC F e ρ q:=z▸h
theorem bE.to {F:aU ι}(h:bE F fb ρ o)(z:o=o'):bE F fb ρ o':=z▸h
theorem Lr {K:Frag}(h:Hv K G d v):∀n,aT K G H (List.replicate n (.fz d)) (List.replicate n v) []
 |0=>⟨rfl,rfl⟩
 |n+1=>⟨v,_,[],[],rfl,rfl,⟨rfl,h⟩,Lr h n⟩
theorem XR {α:Type}(v : α):∀n,(List.replicate n [v]).flatten=List.replicate n v
 |0=>rfl
 |n+1=>'J'
theorem aa5 {F:aU ι}(ha:Ev F a ρ (.ow [.fz d]))(hb:Ev F b ρ (ti n))(h0 : 0<=n)(h1:n<=1000):Ev F (.BinOp a .Mult b pos) ρ (.ow (List.replicate n.toNat (.fz d))):=by
 obtain⟨τa,pa,qa⟩:_:=ha;obtain⟨τb,pb,qb⟩:_:=hb;refine⟨jv P8 τa τb,λi=>sJ aaM (pa i) (pb i),λσ G H Q s r k=>?_⟩;refine qa σ G H _ s r λx G1 H1 fq s1 o1 w1=>qb σ G1 H1 _ s1.s (r.mono s1.g) λy G2 H2 Rh s2 o2 w2=>?_
 obtain⟨l,vs,Q4,rfl,hl,ol,rfl⟩:_:=o1;obtain⟨v,r',f1,f2,rfl,rfl,⟨rfl,hv⟩,rfl,rfl⟩:_:=ol;have big:=cw;refine⟨l,n,[v],rfl,aS o2.2,s2.h _ _ hl,'O','O',by grind,λp hp=>?_⟩;rw[XR];exact k _ G2 _ [p] ((s1.trans s2).trans (.jR s2.s hp)) ⟨p,_,[],rfl,bM,Lr (hv.mono s2.g) _,rfl⟩ ⟨λa ha=>by rw[BB.mp ha];exact(s1.h.trans s2.h).free hp,λa ha=>by rw[BB.mp ha];exact s2.s.free hp,AE.mpr ⟨(λz=>nomatch z),.nil⟩⟩
theorem BD (xs:Array Nat)(j k:Nat)(h0:∀i,i<k->i<xs.size->xs.getD i j<j)(h9:∀i,k<=i->i<xs.size->¬xs.getD i j<j):∀fuel lo hi,hi<=xs.size->lo<=k->k<=hi->hi-lo<=fuel->SetTable.below.go xs j fuel lo hi=k
 |0=>λlo hi _ h2 h3 h4=>by
  have:lo=k:='O'
  subst this
  rfl
 |fuel+1=>λlo hi h1 h2 h3 h4=>by
  unfold SetTable.below.go;by_cases h:lo<hi
  ·rw[uu h];dsimp only;by_cases hm:(lo+hi)/2<k
   ·rw[uu (h0 _ hm 'O')];exact BD xs j k h0 h9 fuel _ hi h1 'Z' h3 'Z'
   ·rw[rf (h9 _ 'Z' 'Z')];exact BD xs j k h0 h9 fuel lo _ 'Z' h2 'Z' 'Z'
  ·rw[rf h];lia
theorem Ck (hk:k<=xs.size)(h0:∀i,i<k->i<xs.size->xs.getD i j<j)(h9:∀i,k<=i->i<xs.size->¬xs.getD i j<j):SetTable.below xs j=k:=
 BD xs j k h0 h9 _ 0 _ (br _) (zd _) hk 'O'
theorem getD_list (ns:List Nat)(i j:Nat):ns.toArray.getD i j=ns.getD i j:=by
 simp_all
section
theorem WY (a:vn)(h:Q₁ (.ref s.heap.objs.size) {s with heap:=s.heap.push {cls:=.type "set",dict:=none,data:=.set #[] 0 (.fresh 0 0 (!w.params.followText "set-order"))}}):
  codeAny (model prog w) A (.call (.builtin "set.__new__") ⟨[.type "set",a],[]⟩) (wants Q₁ E) s:=by
 refine codeAny_of_tree ?_;refine ab (aer (F.newCall_set_1 a) (wpAny_pure ⟨aez F.plain_set_new _,aeA F.entry_set_new ?_⟩));unfold Builtin.«set.__new__» Builtin.Frozenset.newClass;have acN:=sub_set_self;obtain⟨hp,g,d,tk,os⟩:=s
 wp_walk
 refine aen (wpAny_pure ?_);refine ab (wpAny_alloc (wpAny_pure ?_));exact wpAny_pure h
end
section
def sV (b:Bool):Obj:={cls:=.type "set",dict:=none,data:=.set #[] 0 (.fresh 0 0 b)}
end
theorem rD:Slot "set_iterator" "__next__" "set_iterator.__next__":=
 .of (owner :="set_iterator") (n :="__next__") 'X' 'W' 'W' 'W'
  (by first|exact .inl 'W'|exact .inr 'W') (by kernel_rfl)
theorem Ja:entryFor table "set_iterator.__next__"=some Builtin.«set_iterator.__next__»:=entryFor_of_tree (by kernel_rfl)
theorem JK:Manifest.owners.lookup (String.ofList ['r', 'o', 't', 'a', 'r', 'e', 't', 'i', '_', 't', 'e', 's'].reverse)=some Manifest.sig_set_iterator:=by kernel_rfl
theorem Jf (a:vn):argsOk "set_iterator.__next__" ⟨[a],[]⟩:=by
 unfold argsOk;rw[afH (n:=['_', '_', 't', 'x', 'e', 'n', '_', '_']) (by kernel_rfl) JK];kernel_rfl
theorem Jg:Slot "set_iterator" "__iter__" "set_iterator.__iter__":=
 .of (owner :="set_iterator") (n :="__iter__") 'X' 'W' 'W' 'W'
  (by first|exact .inl 'W'|exact .inr 'W') (by kernel_rfl)
theorem Uj:entryFor table "set_iterator.__iter__"=some Builtin.«dict_keyiterator.__iter__»:=
 entryFor_alias (id' :="dict_keyiterator.__iter__") (by kernel_rfl) rfl 'W' (by kernel_rfl)
theorem UK (a:vn):argsOk "set_iterator.__iter__" ⟨[a],[]⟩:=by
 unfold argsOk;rw[afH (n:=['_', '_', 'r', 'e', 't', 'i', '_', '_']) (by kernel_rfl) JK];kernel_rfl
theorem Uk:entryFor table "set.__iter__"=some Builtin.«frozenset.__iter__»:=
 entryFor_alias (id' :="frozenset.__iter__") (by kernel_rfl) rfl 'W' (by kernel_rfl)
theorem Ls (next:Nat->Nat):∀fuel k (left:List α) out,fuel=left.length->(pickOrder.go next fuel k left out).toList.Perm (out.toList++left)
 |0=>λk left out h=>by
  have:=List.eq_nil_of_length_eq_zero h.symm;subst this;unfold pickOrder.go;rw[zw]
 |fuel+1=>λk left out h=>by
  have bC:next k%left.length<left.length:=aeI _ 'O'
  unfold pickOrder.go;rw[ar bC];have ih:=Ls next fuel (k+1) (left.eraseIdx (next k%left.length)) (out.push left[next k%left.length]) (by rw[List.length_eraseIdx_of_lt bC];lia)
  refine ih.trans ?_;rw[PM,CS];refine Nl _ ?_;have e:left=left.take (next k%left.length)++left[next k%left.length]::left.drop (next k%left.length+1):=by rw[List.getElem_cons_drop,EU]
  conv=>rhs;rw[e]
  rw[List.eraseIdx_eq_take_drop_succ];rw[List.singleton_append];exact(List.perm_middle).symm
theorem WZ (next:Nat->Nat)(xs:Array α):(pickOrder next xs).toList.Perm xs.toList:=by
 have:=Ls next xs.size 0 xs.toList #[] 'Y'
 simpa [pickOrder]using this
section
theorem XS (hT:s.TypeIs (.ref r) "set")(h:Q false s):wpAny (model prog w) A (Builtin.List.listLengthHint (.ref r)) Q E s:=by
 refine ab (aeB hT PySem.F.slot_set_len.lookup ?_);generalize Hs:("set.__len__")=id0
 wp_delta
 subst Hs;refine ab (aeU (b:=true) hT (by kernel_rfl) ?_);refine SO (λcy=>absurd cy 'Q') (λ_=>?_);refine SO (λ_=>?_) (λcy=>absurd 'W' cy);refine ab (wpAny_typeOf hT ?_);exact wpAny_pure h
end
end L2
namespace So
open PySem PyProof.Rows
abbrev GC:=Option (Option Nat)×Nat×Nat
abbrev SM:=StateT SortSt Sem
def Gk:Bool->Keyed->Array Keyed->Nat->Nat->Nat->SM (Option Nat):=sortPriv% PySem.Builtin.gallop
def mLo:Array Keyed->Array Keyed->SM (Array Keyed):=sortPriv% PySem.Builtin.mergeLo
def mHi:Array Keyed->Array Keyed->SM (Array Keyed):=sortPriv% PySem.Builtin.mergeHi
def Gm (left:Bool)(key:Keyed)(arr:Array Keyed)(base i:Nat):SM (Option Bool):=do
 let x<-elem' arr (base+i)
 if left=true then lt' x key else do
  let r<-lt' key x
  pure (r.map λb=>!b)
section
theorem Lv {st:SortSt}(p:Nat->Bool)(wL:∀(i:Nat) (Q:Option Bool->SortSt->Prop),i<n->Q (some (p i)) st->wpS (model prog w) A E s (Gm left key arr base i) Q st)(mono:∀i j,i<=j->j<n->p j=true->p i=true)(hh:hint<n)(h:∀k,k<=n->(∀i,i<k->p i=true)->(∀i,k<=i->i<n->p i=false)->Q (some k) st):
  wpS (model prog w) A E s (Gk left key arr base n hint) Q st:=by
 have Fo:∀i j,i<=j->j<n->p i=false->p j=false:=λi j h1 h2 h3=>by
  cases e:p j with
  |false=>rfl
  |true=>rw[mono i j h1 h2 e]at h3;cases h3
 refine ue (wL hint _ hh ?_);have bin:∀lo hi,lo<=hi->hi<=n->(∀i,i<lo->p i=true)->(∀i,hi<=i->i<n->p i=false) ->
   ∀f,(∀(x lo hi) (Q),hi<=n ->
    (hi<=lo->Q (.done (none,lo,hi)) st)->(lo<hi->p (lo+(hi-lo)/2)=true->Q (.yield (none,lo+(hi-lo)/2+1,hi)) st)->(lo<hi->p (lo+(hi-lo)/2)=false->Q (.yield (none,lo,lo+(hi-lo)/2)) st) ->
    wpS (model prog w) A E s (f x (none,lo,hi)) Q st) ->
   wpS (model prog w) A E s (forIn [0:n] ((none,lo,hi):GC) f) (λc ai=>ai=st/\∃lo,c=(none,lo,lo)/\lo<=n/\(∀i,i<lo->p i=true)/\(∀i,lo<=i->i<n->p i=false)) st:=by
  intro lo hi h1 h2 h3 h4 f hf;refine NG (I:=λx c ai=>ai=st/\∃lo hi,c=(none,lo,hi)/\lo<=hi/\hi<=n/\hi-lo<=n-x/\(∀i,i<lo->p i=true)/\(∀i,hi<=i->i<n->p i=false)) ?_ ?_ ⟨rfl,lo,hi,rfl,h1,h2,'Z',h3,h4⟩
  ·rintro x c ai _ hx ⟨rfl,lo,hi,rfl,a1,a2,a3,a4,a5⟩;refine hf x lo hi _ a2 (λz=>?_) (λz e=>?_) (λz e=>?_)
   ·have:lo=hi:='Z'
    subst this;exact⟨rfl,lo,rfl,a2,a4,a5⟩
   ·exact⟨rfl,_,_,rfl,'Z',a2,'Z',λi iE=>mono i (lo+(hi-lo)/2) 'Z' 'Z' e,a5⟩
   ·exact⟨rfl,_,_,rfl,'Z','Z','Z',a4,λi b1 b2=>Fo (lo+(hi-lo)/2) i b1 b2 e⟩
  ·rintro c ai ⟨rfl,lo,hi,rfl,a1,a2,a3,a4,a5⟩;have:lo=hi:='Z'
   subst this;exact⟨rfl,lo,rfl,a2,a4,a5⟩
 cases hp:p hint with
 |true=>
  refine ue (adL (NG (I:=λx c ai=>ai=st/\∃l o,c=(none,l,o)/\o=2*l+1/\x<=l/\hint+l<n/\p (hint+l)=true)
   (Q:=λc ai=>ai=st/\∃l o,c=(none,l,o)/\l<o/\hint+l<n/\p (hint+l)=true/\(n-hint<=o\/p (hint+o)=false)) ?_ ?_ ⟨rfl,0,1,rfl,rfl,br _,hh,hp⟩) ?_)
  ·rintro x c ai _ hx ⟨rfl,l,o,rfl,a1,a2,a3,a4⟩;dsimp only;by_cases iF:o>=n-hint
   ·rw[uu iF];exact AL ⟨rfl,l,o,rfl,'Z',a3,a4,.inl iF⟩
   ·rw[rf iF];refine ue (wL (hint+o) _ 'Z' ?_);cases e:p (hint+o)with
    |true=>
     exact AL ⟨rfl,o,2*o+1,rfl,rfl,'Z','Z',e⟩
    |false=>
     exact AL ⟨rfl,l,o,rfl,'Z',a3,a4,.inr e⟩
  ·rintro c ai ⟨rfl,l,o,rfl,a1,a2,a3,a4⟩;exact⟨rfl,l,o,rfl,'Z',a3,a4,.inl 'Z'⟩
  ·rintro c ai ⟨rfl,l,o,rfl,a1,a2,a3,a4⟩;dsimp only;refine ue (adL (bin (hint+l+1) (hint+min o (n-hint)) 'Z' 'Z' (λi hi=>mono i (hint+l) 'O' 'Z' a3) (λi b1 b2=>?_) _ (λx lo hi Q hn k1 k2 k3=>?_)) ?_)
   ·obtain z|z:=a4
    ·omega
    ·by_cases ho:hint+o<=i
     ·exact Fo (hint+o) i ho b2 z
     ·omega
   ·dsimp only;by_cases iF:lo>=hi
    ·rw[uu iF];exact AL (k1 iF)
    ·rw[rf iF];refine ue (wL _ _ 'Z' ?_);dsimp only;cases e:p (lo+(hi-lo)/2)with
     |true=>simp only[if_true];exact AL (k2 'Z' e)
     |false=>simp only[afk];exact AL (k3 'Z' e)
   ·rintro c ai ⟨rfl,lo,rfl,b1,b2,b3⟩;exact AL (h lo b1 b2 b3)
 |false=>
  refine ue (adL (NG (I:=λx c ai=>ai=st/\∃l o,c=(none,l,o)/\o=2*l+1/\x<=l/\l<=hint/\p (hint-l)=false)
   (Q:=λc ai=>ai=st/\∃l o,c=(none,l,o)/\l<o/\l<=hint/\p (hint-l)=false/\(hint+1<=o\/(o<=hint/\p (hint-o)=true))) ?_ ?_ ⟨rfl,0,1,rfl,rfl,br _,zd _,hp⟩) ?_)
  ·rintro x c ai _ hx ⟨rfl,l,o,rfl,a1,a2,a3,a4⟩;dsimp only;by_cases iF:o>=hint+1
   ·rw[uu iF];exact AL ⟨rfl,l,o,rfl,'Z',a3,a4,.inl iF⟩
   ·rw[rf iF];refine ue (wL (hint-o) _ 'Z' ?_);cases e:p (hint-o)with
    |true=>
     exact AL ⟨rfl,l,o,rfl,'Z',a3,a4,.inr ⟨'Z',e⟩⟩
    |false=>
     exact AL ⟨rfl,o,2*o+1,rfl,rfl,'Z','Z',e⟩
  ·rintro c ai ⟨rfl,l,o,rfl,a1,a2,a3,a4⟩;exact⟨rfl,l,o,rfl,'Z',a3,a4,.inl 'Z'⟩
  ·rintro c ai ⟨rfl,l,o,rfl,a1,a2,a3,a4⟩;refine ue (adL (bin (hint+1-min o (hint+1)) (hint-l) 'Z' 'Z' (λi hi=>?_) (λi b1 b2=>Fo (hint-l) i b1 b2 a3) _ (λx lo hi Q hn k1 k2 k3=>?_)) ?_)
   ·obtain z|z:=a4
    ·omega
    ·exact mono i (hint-o) 'Z' 'Z' z.2
   ·dsimp only;by_cases iF:lo>=hi
    ·rw[uu iF];exact AL (k1 iF)
    ·rw[rf iF];refine ue (wL _ _ 'Z' ?_);cases e:p (lo+(hi-lo)/2)with
     |true=>simp[if_true];exact AL (k2 'Z' e)
     |false=>simp[if_false];exact AL (k3 'Z' e)
   ·rintro c ai ⟨rfl,lo,rfl,b1,b2,b3⟩;exact AL (h lo b1 b2 b3)
end
section
def kf (κ:KeyKind)(x:Keyed) : κ.α:=(κ.keyOf x.1).getD κ.dflt
def fI (κ:KeyKind)(l:List Keyed):Prop:=l.Pairwise λx y=>κ.kle (kf κ x) (kf κ y)
def Kd (κ:KeyKind)(l:List Keyed):Prop:=∀x∈l,(κ.keyOf x.1).isSome=true
structure MI (κ:KeyKind) (a b out:List Keyed) (ia ib:Nat):Prop where
 p:(out++(a.drop ia++b.drop ib)).Perm (a++b)
 x:fI κ (out++a.drop ia)
 y:fI κ (out++b.drop ib)
def Gd (κ:KeyKind)(a b m:List Keyed):Prop:=m.Perm (a++b)/\fI κ m
theorem dI:fI κ (l++r)↔fI κ l/\fI κ r/\∀x∈l,∀y∈r,κ.kle (kf κ x) (kf κ y):=aeZ
theorem MI.zE (h:MI κ a b out ia ib)(hb:b.length<=ib):Gd κ a b (out++a.drop ia++b.drop ib):=by
 have e:=ad3 hb;have p:=h.p;rw[e,zw]at p ⊢;exact⟨p,h.x⟩
theorem MI.abZ (h:MI κ a b out ia ib)(ha:a.length<=ia):Gd κ a b (out++a.drop ia++b.drop ib):=by
 have e:=ad3 ha;have p:=h.p;rw[e,List.nil_append]at p;rw[e,zw];exact⟨p,h.y⟩
theorem MI.ab0 (h:MI κ a b out ia ib)(hl:∀x∈b.drop ib,∀y∈a.drop ia,κ.kle (kf κ x) (kf κ y)):Gd κ a b (out++b.drop ib++a.drop ia):=by
 refine⟨?_,?_⟩
 ·refine List.Perm.trans ?_ h.p
  grind
 ·have hx:=dI.mp h.x;refine dI.mpr ⟨h.y,hx.2.1,λx kI y hy=>?_⟩
  grind
theorem MI.vz (h:MI κ a b out ia ib)(k:Nat)(hl:∀x∈(a.drop ia).take k,∀y∈b.drop ib,κ.kle (kf κ x) (kf κ y)):MI κ a b (out++(a.drop ia).take k) (ia+k) ib:=by
 have e:(a.drop ia).take k++a.drop (ia+k)=a.drop ia:=by rw[<- List.drop_drop];exact EU k _
 have hy:=dI.mp h.y;have hx:=dI.mp h.x;refine⟨?_,?_,?_⟩
 ·have:=h.p
  grind
 ·rw[CS,e];exact h.x
 ·rw[dI,dI];have hs:fI κ ((a.drop ia).take k):=List.Pairwise.sublist (aeb k _) hx.2.1
  grind
theorem MI.vA (h:MI κ a b out ia ib)(k:Nat)(hl:∀x∈(b.drop ib).take k,∀y∈a.drop ia,κ.kle (kf κ x) (kf κ y)):MI κ a b (out++(b.drop ib).take k) ia (ib+k):=by
 have e:(b.drop ib).take k++b.drop (ib+k)=b.drop ib:=by rw[<- List.drop_drop];exact EU k _
 have hy:=dI.mp h.y;have hx:=dI.mp h.x;refine⟨?_,?_,?_⟩
 ·refine List.Perm.trans ?_ h.p;generalize (b.drop ib).take k=B1 at e;rw[<- e];rw[CS];refine Nl _ ?_;rw[<- CS,<- CS];exact VT _ adm
 ·rw[dI,dI];have hs:=List.Pairwise.sublist (aeb k _) hy.2.1;refine⟨⟨hx.1,hs,λx kI y fV=>hy.2.2 x kI y (EM fV)⟩,hx.2.1,λx kI y fV=>?_⟩;obtain z|z:=qr.mp kI
  ·exact hx.2.2 x z y fV
  ·exact hl x z y fV
 ·rw[CS,e];exact h.y
theorem rP {l:List Keyed}(h:l[i]?=some x):l.drop i=x::l.drop (i+1):=by
 obtain⟨h1,rfl⟩:=gr.mp h
 simp_all
theorem pd {l:List Keyed}(h:fI κ (l.drop i))(e:l[i]?=some x):∀y∈l.drop i,κ.kle (kf κ x) (kf κ y):=λy hy=>by
 rw[rP e]at h hy;obtain rfl|z:=ff.mp hy
 ·exact NH _
 ·exact(List.pairwise_cons.mp h).1 y z
theorem MI.sM {y:Keyed}(h:MI κ a b out ia ib)(e:a[ia]?=some y)(hl:∀z∈b.drop ib,κ.kle (kf κ y) (kf κ z)):MI κ a b (out++[y]) (ia+1) ib:=by
 have:=h.vz 1 (by rw[rP e];intro x hx z hz;rw[List.take_succ_cons,aeP,BB]at hx;rw[hx];exact hl z hz);rw[rP e]at this;exact this
theorem MI.sN {y:Keyed}(h:MI κ a b out ia ib)(e:b[ib]?=some y)(hl:∀z∈a.drop ia,κ.kle (kf κ y) (kf κ z)):MI κ a b (out++[y]) ia (ib+1):=by
 have:=h.vA 1 (by rw[rP e];intro x hx z hz;rw[List.take_succ_cons,aeP,BB]at hx;rw[hx];exact hl z hz);rw[rP e]at this;exact this
end
abbrev eX (st:SortSt)(g:Nat):SortSt:=SortSt.mk' (kindOf st) (arrOf st) (pendingOf st) g (failedOf st)
theorem rQ {α:Type}(a:Array α)(i:Nat):(a.extract i a.size).toList=a.toList.drop i:=by
 rw[Array.toList_extract,aft,List.take_of_length_le 'J']
theorem Lw {α:Type}(a:Array α)(i k:Nat):(a.extract i (i+k)).toList=(a.toList.drop i).take k:='J'
structure jC (prog:afU) (w:afV) (A:Around) (E:vn->adJ->Prop) (s:adJ) (kd:SortKind) (κ:KeyKind):Prop where
 lt:∀(st:SortSt) (x y:Keyed) (Q:Option Bool->SortSt->Prop),kindOf st=kd->(κ.keyOf x.1).isSome=true->(κ.keyOf y.1).isSome=true->Q (some (κ.blt (kf κ x) (kf κ y))) st->wpS (model prog w) A E s (lt' x y) Q st
section
theorem dO {st:SortSt}(e:arr[i]?=some x)(h:Q x st):wpS (model prog w) A E s (elem' arr i) Q st:=by
 rw[elem'_eq,e];exact AL h
theorem byL (C:jC prog w A E s kd κ){st:SortSt}(hk:kindOf st=kd)(e:arr[base+i]?=some x)(k1:(κ.keyOf key.1).isSome=true)(k2:(κ.keyOf x.1).isSome=true)(h:Q (some (κ.blt (kf κ x) (kf κ key))) st):
  wpS (model prog w) A E s (Gm true key arr base i) Q st:=by
 refine ue (dO e ?_);exact C.lt st x key _ hk k2 k1 h
theorem byR (C:jC prog w A E s kd κ){st:SortSt}(hk:kindOf st=kd)(e:arr[base+i]?=some x)(k1:(κ.keyOf key.1).isSome=true)(k2:(κ.keyOf x.1).isSome=true)(h:Q (some (!κ.blt (kf κ key) (kf κ x))) st):
  wpS (model prog w) A E s (Gm false key arr base i) Q st:=by
 refine ue (dO e ?_);exact ue (C.lt st key x _ hk k1 k2 (AL h))
def kA (κ:KeyKind)(arr:Array Keyed)(i:Nat) : κ.α:=match arr[i]? with|some x=>kf κ x|none=>κ.dflt
theorem cv (e:arr[i]?=some x):kA κ arr i=kf κ x:=by unfold kA;rw[e]
theorem fB {α:Type}{arr:Array α}(h:i<arr.size):∃x,arr[i]?=some x/\x∈arr.toList:=⟨arr[i],getElem?_pos arr i h,'Y'⟩
theorem oj (h:fI κ arr.toList)(bY:i<=j)(hj:j<arr.size) : κ.kle (kA κ arr i) (kA κ arr j):=by
 have li:i<arr.toList.length:=by grind
 have lj:j<arr.toList.length:='Z'
 have ei:arr[i]?=some arr.toList[i]:='J'
 have ej:arr[j]?=some arr.toList[j]:='Y'
 rw[cv ei,cv ej];obtain z|z:=ET i j
 ·exact OK.mp h i j li lj z
 ·have:i=j:='O'
  subst this;exact NH _
theorem mem_mid {arr:Array Keyed}(h:x∈(arr.toList.drop i).take k):∃j,j<k/\arr[i+j]?=some x:=by
 obtain⟨n,hn,e⟩:_:=DO h;rw[LB]at hn;refine⟨n,'O',?_⟩;rw[<- DD,<- ad5,<- e];rw[aeH,ar]
theorem Cm (C:jC prog w A E s kd κ){st:SortSt}(hk:kindOf st=kd)(k1:(κ.keyOf key.1).isSome=true)(ka:Kd κ arr.toList)(hn:base+n<=arr.size)(hh:hint<n)(wM:∀i j,i<=j->j<n->κ.kle (kA κ arr (base+i)) (kA κ arr (base+j)))(h:∀k,k<=n->(∀i,i<k->κ.kle (kA κ arr (base+i)) (kf κ key))->(∀i,k<=i->i<n->κ.klt (kf κ key) (kA κ arr (base+i)))->Q (some k) st):
  wpS (model prog w) A E s (Gk false key arr base n hint) Q st:=by
 refine Lv (λi=>!κ.blt (kf κ key) (kA κ arr (base+i))) (λi Q hi hq=>?_) (λi j bY hj e=>?_) hh (λk tJ h1 h2=>h k tJ (λi hi=>?_) (λi b1 b2=>?_))
 ·obtain⟨x,ex,mx⟩:_:=fB (arr:=arr) (i:=base+i) 'O';rw[cv ex]at hq;exact byR C hk ex k1 (ka x mx) hq
 ·have e' : κ.blt (kf κ key) (kA κ arr (base+j))=false:='J'
  have:=Cs (wM i j bY hj) e';unfold KeyOrd.kle at this
  simp_all
 ·show κ.blt _ _=false
  simp_all
 ·show κ.blt _ _=true
  simp_all
theorem CN (C:jC prog w A E s kd κ){st:SortSt}(hk:kindOf st=kd)(k1:(κ.keyOf key.1).isSome=true)(ka:Kd κ arr.toList)(hn:base+n<=arr.size)(hh:hint<n)(wM:∀i j,i<=j->j<n->κ.kle (kA κ arr (base+i)) (kA κ arr (base+j)))(h:∀k,k<=n->(∀i,i<k->κ.klt (kA κ arr (base+i)) (kf κ key))->(∀i,k<=i->i<n->κ.kle (kf κ key) (kA κ arr (base+i)))->Q (some k) st):
  wpS (model prog w) A E s (Gk true key arr base n hint) Q st:=by
 refine Lv (λi=>κ.blt (kA κ arr (base+i)) (kf κ key)) (λi Q hi hq=>?_) (λi j bY hj e=>?_) hh (λk tJ h1 h2=>h k tJ (λi hi=>h1 i hi) (λi b1 b2=>h2 i b1 b2))
 ·obtain⟨x,ex,mx⟩:=fB (arr:=arr) (i:=base+i) 'Z';rw[cv ex]at hq;exact byL C hk ex k1 (ka x mx) hq
 ·exact KeyOrd.klt_of_kle_of_klt (wM i j bY hj) e
end
section
theorem Y7 (C:jC prog w A E s kd κ){st:SortSt}(hk:kindOf st=kd)(ka:Kd κ a.toList)(kb:Kd κ b.toList)(sa:fI κ a.toList)(sb:fI κ b.toList)(na : 0<a.size)(nb : 0<b.size)(h0:∀x y,b[0]?=some x->a[0]?=some y->κ.kle (kf κ x) (kf κ y))(hl:∀x∈b.toList,∀y,a[a.size-1]?=some y->κ.kle (kf κ x) (kf κ y))(h:∀(m:Array Keyed) g,Gd κ a.toList b.toList m.toList->Q m (eX st g)):wpS (model prog w) A E s (mLo a b) Q st:=by
 have la:a.toList.length=a.size:=NJ;have lb:b.toList.length=b.size:=NJ;have ga:∀{i x},a[i]?=some x->a.toList[i]?=some x:=λ{i x} e=>by rw[DD];exact e
 have gb:∀{i x},b[i]?=some x->b.toList[i]?=some x:=λ{i x} e=>by rw[DD];exact e
 have dl:∀(out:Array Keyed) ia ib,(out++a.extract ia a.size++b.extract ib b.size).toList=out.toList++a.toList.drop ia++b.toList.drop ib:=λout ia ib=>by
  rw[IS,IS,rQ,rQ]
 have ll:∀(out:Array Keyed) ia ib,(out++b.extract ib b.size++a.extract ia a.size).toList=out.toList++b.toList.drop ib++a.toList.drop ia:=λout ia ib=>by
  rw[IS,IS,rQ,rQ]
 have last:∀{out:Array Keyed} {ia ib},MI κ a.toList b.toList out.toList ia ib->ia+1=a.size->Gd κ a.toList b.toList (out++b.extract ib b.size++a.extract ia a.size).toList:=λ{out ia ib} mi e=>by
  rw[ll];refine mi.ab0 λx hx y hy=>?_
  obtain⟨z,ez,_⟩:=fB (arr:=a) (i:=ia) 'Z';rw[rP (ga ez),ad3 'Z',BB]at hy;rw[hy];exact hl x (adP hx) z (by rw[show a.size-1=ia by omega];exact ez)
 refine ue (afI (adQ ⟨rfl,?_⟩))
 ac_rfl
 obtain⟨x0,e0,m0⟩:=fB nb;refine ue (dO e0 ?_)
 ac_rfl
 obtain⟨y0,f0,_⟩:=fB na;have wN:MI κ a.toList b.toList [x0] 0 1:=by
  have:MI κ a.toList b.toList [] 0 0:=⟨List.Perm.refl _,sa,sb⟩
  refine this.sN (gb e0) λz hz=>Cs (h0 x0 y0 e0 f0) (pd (i:=0) sa (ga f0) z hz)
 by_cases gR:(1==b.size)=true
 ·rw[uu gR];have:=(Cc.mp gR).symm;exact AL (h _ (gallopOf st) (by rw[dl];exact wN.zE 'Z'))
 rw[rf gR];have acO : 1≠b.size:=λz=>gR (Cc.mpr z)
 by_cases nD:(0+1==a.size)=true
 ·rw[uu nD];have:=(Cc.mp nD)
  exact AL (h _ (gallopOf st) (last wN this))
 rw[rf nD];have acP : 0+1≠a.size:=λz=>nD (Cc.mpr z)
 refine ue (afu ?_)
 ac_rfl
 generalize gallopOf st=mg0;refine ue (adL (NG (I:=λt c ai=>(∃g,ai=eX st g)/\∃out ia ib mg,c=(none,out,ia,ib,mg)/\MI κ a.toList b.toList out.toList ia ib/\ia+1<a.size/\ib<b.size/\t<=ia+ib)
  (Q:=λc ai=>(∃g,ai=eX st g)/\∃m,c.1=some m/\Gd κ a.toList b.toList m.toList) ?_ ?_ ⟨⟨gallopOf st,rfl⟩,_,0,1,_,rfl,wN,'Z','Z','Z'⟩) ?_)
 rotate_left
 ·intro c ai z9;obtain⟨_,out,ia,ib,mg,rfl,mi,h1,h2,h3⟩:_:=z9;omega
 ·rintro c ai ⟨⟨g,rfl⟩,m,e,gd⟩;dsimp only;rw[e];exact AL (h m g gd)
 intro t c ai _ ht z9;obtain⟨⟨g,rfl⟩,out,ia,ib,mg,rfl,mi,h1,h2,h3⟩:_:=z9
 ac_rfl
 nofun
 refine ue (adL (NG (I:=λq c ai=>ai=eX st g/\∃out ia ib ac bc,c=(none,out,ia,ib,ac,bc)/\MI κ a.toList b.toList out.toList ia ib/\ia+1<a.size/\ib<b.size/\t+q<=ia+ib)
  (Q:=λc ai=>ai=eX st g/\((∃m,c.1=some m/\Gd κ a.toList b.toList m.toList)\/∃out ia ib ac bc,c=(none,out,ia,ib,ac,bc)/\MI κ a.toList b.toList out.toList ia ib/\ia+1<a.size/\ib<b.size/\t+1<=ia+ib)) ?_ ?_ ⟨rfl,out,ia,ib,0,0,rfl,mi,h1,h2,'Z'⟩) ?_)
 rotate_left
 ·intro c ai z9;obtain⟨_,out,ia,ib,ac,bc,rfl,mi,h1,h2,h3⟩:_:=z9;omega
 rotate_left
 ·clear mi h1 h2 h3;intro q c ai _ hq z9;obtain⟨rfl,out,ia,ib,ac,bc,rfl,mi,h1,h2,h3⟩:_:=z9
  ac_rfl
  nofun
  obtain⟨xb,eb,mb⟩:=fB h2;obtain⟨xa,ea,ma⟩:=fB (arr:=a) (i:=ia) 'Z';have sA:=(dI.mp mi.x).2.1;have sB:=(dI.mp mi.y).2.1;refine ue (dO eb (ue (dO ea (ue (C.lt _ xb xa _ hk (kb _ mb) (ka _ ma) ?_)))))
  nofun
  cases bC : κ.blt (kf κ xb) (kf κ xa)with
  |true=>
   rw[uu rfl];refine ue (dO eb ?_)
   ac_rfl
   have ck:MI κ a.toList b.toList (out.push xb).toList ia (ib+1):=by
    rw[PM];exact mi.sN (gb eb) λz hz=>Cs (Lo bC) (pd sA (ga ea) z hz)
   by_cases hz:(ib+1==b.size)=true
   ·rw[uu hz];have:=Cc.mp hz;exact AL ⟨rfl,.inl ⟨_,rfl,by rw[dl];exact ck.zE 'Z'⟩⟩
   ·rw[rf hz];have iG:ib+1≠b.size:=λz=>hz (Cc.mpr z)
    split
    ·exact AL ⟨rfl,.inr ⟨_,_,_,_,_,rfl,ck,h1,'Z','Z'⟩⟩
    ·exact AL ⟨rfl,_,_,_,_,_,rfl,ck,h1,'Z','Z'⟩
  |false=>
   rw[rf 'Q'];refine ue (dO ea ?_)
   ac_rfl
   have ck:MI κ a.toList b.toList (out.push xa).toList (ia+1) ib:=by
    rw[PM];exact mi.sM (ga ea) λz hz=>Cs bC (pd sB (gb eb) z hz)
   by_cases hz:(ia+1+1==a.size)=true
   ·rw[uu hz];exact AL ⟨rfl,.inl ⟨_,rfl,last ck (Cc.mp hz)⟩⟩
   ·rw[rf hz];have iG:ia+1+1≠a.size:=λz=>hz (Cc.mpr z)
    split
    ·exact AL ⟨rfl,.inr ⟨_,_,_,_,_,rfl,ck,'Z',h2,'Z'⟩⟩
    ·exact AL ⟨rfl,_,_,_,_,_,rfl,ck,'Z',h2,'Z'⟩
 clear mi h1 h2 h3;intro c ai z9;obtain⟨rfl,⟨m,e,gd⟩|⟨out,ia,ib,ac,bc,rfl,mi,h1,h2,h3⟩⟩:_:=z9
 ·obtain⟨c1,c2⟩:=c;simp only at e;subst e
  ac_rfl
  nofun
  exact AL ⟨⟨g,rfl⟩,m,rfl,gd⟩
 ac_rfl
 nofun
 refine ue (afI (adQ ⟨rfl,?_⟩))
 ac_rfl
 refine ue (adL (NG (I:=λq c ai=>(∃g,ai=eX st g)/\∃out ia ib mg ac bc,c=(none,out,ia,ib,mg,ac,bc)/\MI κ a.toList b.toList out.toList ia ib/\ia+1<a.size/\ib<b.size/\t+1+q<=ia+ib)
  (Q:=λc ai=>(∃g,ai=eX st g)/\((∃m,c.1=some m/\Gd κ a.toList b.toList m.toList)\/∃out ia ib mg ac bc,c=(none,out,ia,ib,mg,ac,bc)/\MI κ a.toList b.toList out.toList ia ib/\ia+1<a.size/\ib<b.size/\t+1<=ia+ib)) ?_ ?_ ⟨⟨g,rfl⟩,out,ia,ib,_,ac,bc,rfl,mi,h1,h2,'Z'⟩) ?_)
 rotate_left
 ·intro c ai z9;obtain⟨_,out,ia,ib,mg,ac,bc,rfl,mi,h1,h2,h3⟩:_:=z9;omega
 ·rintro c ai ⟨⟨g,rfl⟩,⟨m,e,gd⟩|⟨out,ia,ib,mg,ac,bc,rfl,mi,h1,h2,h3⟩⟩
  ·obtain⟨c1,c2⟩:=c;simp only at e;subst e
   ac_rfl
   nofun
   exact AL ⟨⟨g,rfl⟩,m,rfl,gd⟩
  ·ac_rfl
   nofun
   ac_rfl
   exact ue (aba (AL ⟨⟨_,rfl⟩,out,ia,ib,_,rfl,mi,h1,h2,h3⟩))
 clear mi h1 h2 h3;intro q c ai _ hq z9;obtain⟨⟨g,rfl⟩,out,ia,ib,mg,ac,bc,rfl,mi,h1,h2,h3⟩:_:=z9
 (extract_lets +onlyGivenNames -merge -underBinder Y8 Y9 Za Zb Zc Zd Ze Zf Zg Zh XT;subst Y8 Y9 Za Zb Zc Zd Ze Zf Zg Zh XT)
 nofun
 extract_lets +onlyGivenNames -merge -underBinder Nf
 obtain⟨jp,fX⟩:∃z,z=Nf:=⟨Nf,rfl⟩
 rw[<- fX]
 suffices J:∀mg,wpS (model prog w) A E s (jp () mg) _ (eX st g) by
  nofun
  split
  ·ac_rfl;exact J _
  ·exact J _
 intro mg;rw[fX]
 nofun
 refine ue (aba ?_);obtain⟨xb,eb,mb⟩:=fB h2;refine ue (dO eb ?_);refine ue (Cm C (key:=xb) hk (kb _ mb) ka 'Z' 'Z' (λi j bY hj=>oj sa 'Z' 'Z') λk k1 k2 k3=>?_)
 nofun
 nofun
 (rw[show k=id k from rfl];extract_lets +onlyGivenNames -merge -underBinder ab1;subst ab1;(try dsimp -zeta only[id]))
 extract_lets +onlyGivenNames -merge -underBinder Ng
 obtain⟨wO,ky⟩:∃z,z=Ng:=⟨Ng,rfl⟩
 rw[<- ky];have sB:=(dI.mp mi.y).2.1
 suffices J2:∀(out:Array Keyed) (ia:Nat),MI κ a.toList b.toList out.toList ia ib->ia+1<a.size->t+1+q<=ia+ib->κ.klt (kf κ xb) (kA κ a ia)->wpS (model prog w) A E s (wO () out ia) _ (eX st mg) by
  by_cases kS:k>0
  ·rw[uu kS]
   ac_rfl
   have ck:MI κ a.toList b.toList (out++a.extract ia (ia+k)).toList (ia+k) ib:=by
    rw[IS,Lw];refine mi.vz k λx hx z hz=>?_
    obtain⟨j,hj,ex⟩:=mem_mid hx;have:=k2 j hj;rw[cv ex]at this;exact Cs this (pd sB (gb eb) z hz)
   by_cases hz:(ia+k+1==a.size)=true
   ·rw[uu hz];exact AL ⟨⟨_,rfl⟩,.inl ⟨_,rfl,last ck (Cc.mp hz)⟩⟩
   ·rw[rf hz];have iG:ia+k+1≠a.size:=λz=>hz (Cc.mpr z)
    by_cases hy:(ia+k==a.size)=true
    ·rw[uu hy];have:=Cc.mp hy;exact AL ⟨⟨_,rfl⟩,.inl ⟨_,rfl,by rw[dl];exact ck.abZ 'Z'⟩⟩
    ·rw[rf hy];have fV:ia+k≠a.size:=λz=>hy (Cc.mpr z)
     exact J2 _ _ ck 'Z' 'Z' (k3 k (br _) 'Z')
  ·rw[rf kS];exact J2 _ _ mi h1 h3 (k3 0 'Z' 'Z')
 clear mi h1 h3 k1 k2 k3 sB;intro out ia mi h1 h3 bC;rw[ky]
 nofun
 obtain⟨xa,ea,ma⟩:=fB (arr:=a) (i:=ia) 'Z';rw[cv ea]at bC;have sA:=(dI.mp mi.x).2.1;refine ue (dO eb ?_)
 ac_rfl
 have ck:MI κ a.toList b.toList (out.push xb).toList ia (ib+1):=by
  rw[PM];exact mi.sN (gb eb) λz hz=>Cs (Lo bC) (pd sA (ga ea) z hz)
 by_cases hz:(ib+1==b.size)=true
 ·rw[uu hz];have:=Cc.mp hz;exact AL ⟨⟨_,rfl⟩,.inl ⟨_,rfl,by rw[dl];exact ck.zE 'Z'⟩⟩
 rw[rf hz];have iG:ib+1≠b.size:=λz=>hz (Cc.mpr z)
 refine ue (dO ea ?_);refine ue (CN C (key:=xa) hk (ka _ ma) kb 'Z' 'Z' (λi j bY hj=>oj sb 'Z' 'Z') λk k1 k2 k3=>?_)
 nofun
 nofun
 (rw[show k=id k from rfl];extract_lets +onlyGivenNames -merge -underBinder ab2;subst ab2;(try dsimp -zeta only[id]))
 extract_lets +onlyGivenNames -merge -underBinder Nh
 obtain⟨Ht,vQ⟩:∃z,z=Nh:=⟨Nh,rfl⟩
 rw[<- vQ]
 suffices J3:∀(out:Array Keyed) (ib:Nat),MI κ a.toList b.toList out.toList ia ib->ib<b.size->t+1+q<=ia+ib->κ.kle (kf κ xa) (kA κ b ib)->wpS (model prog w) A E s (Ht () out ib) _ (eX st mg) by
  by_cases kS:k>0
  ·rw[uu kS]
   ac_rfl
   have tK:MI κ a.toList b.toList (out.push xb++b.extract (ib+1) (ib+1+k)).toList ia (ib+1+k):=by
    rw[IS,Lw];refine ck.vA k λx hx z hz=>?_
    obtain⟨j,hj,ex⟩:=mem_mid hx;have:=k2 j hj;rw[cv ex]at this;exact Cs (Lo this) (pd sA (ga ea) z hz)
   by_cases hy:(ib+1+k==b.size)=true
   ·rw[uu hy];have:=Cc.mp hy;exact AL ⟨⟨_,rfl⟩,.inl ⟨_,rfl,by rw[dl];exact tK.zE 'Z'⟩⟩
   ·rw[rf hy];have fV:ib+1+k≠b.size:=λz=>hy (Cc.mpr z)
    exact J3 _ _ tK 'Z' 'Z' (k3 k (br _) 'Z')
  ·rw[rf kS];exact J3 _ _ ck 'Z' 'Z' (k3 0 'Z' 'Z')
 intro out ib mi h2 h3 hle;rw[vQ]
 nofun
 obtain⟨xc,ec,mc⟩:=fB h2;rw[cv ec]at hle;have sB:=(dI.mp mi.y).2.1;refine ue (dO ea ?_)
 ac_rfl
 have ck:MI κ a.toList b.toList (out.push xa).toList (ia+1) ib:=by
  rw[PM];exact mi.sM (ga ea) λz hz=>Cs hle (pd sB (gb ec) z hz)
 by_cases hz:(ia+1+1==a.size)=true
 ·rw[uu hz];exact AL ⟨⟨_,rfl⟩,.inl ⟨_,rfl,last ck (Cc.mp hz)⟩⟩
 ·rw[rf hz];have iG:ia+1+1≠a.size:=λz=>hz (Cc.mpr z)
  split
  ·exact AL ⟨⟨_,rfl⟩,.inr ⟨_,_,_,_,_,_,rfl,ck,'Z',h2,'Z'⟩⟩
  ·exact AL ⟨⟨_,rfl⟩,_,_,_,_,_,_,rfl,ck,'Z',h2,'Z'⟩
end
structure MH (κ:KeyKind) (a b r:List Keyed) (na nb:Nat):Prop where
 p:((a.take na++b.take nb)++r).Perm (a++b)
 x:fI κ (a.take na++r)
 y:fI κ (b.take nb++r)
section
theorem MH.vz (h:MH κ a b r na nb)(t:Nat)(ht:t<=na)(hl:∀x∈b.take nb,∀y∈(a.take na).drop t,κ.kle (kf κ x) (kf κ y)):MH κ a b ((a.take na).drop t++r) t nb:=by
 have e:a.take t++(a.take na).drop t=a.take na:=by
  have:=EU t (a.take na)
  grind
 have hx:=h.x;have hp:=h.p;have hy:=dI.mp h.y;rw[<- e]at hx hp;rw[CS]at hx;have hx2:=dI.mp hx;refine⟨List.Perm.trans ?_ hp,hx,dI.mpr ⟨hy.1,hx2.2.1,λx kI y fV=>?_⟩⟩
 ·grind
 ·grind
theorem MH.vA (h:MH κ a b r na nb)(t:Nat)(ht:t<=nb)(hl:∀x∈a.take na,∀y∈(b.take nb).drop t,κ.kle (kf κ x) (kf κ y)):MH κ a b ((b.take nb).drop t++r) na t:=by
 have e:b.take t++(b.take nb).drop t=b.take nb:=by
  have:=EU t (b.take nb)
  grind
 have hy:=h.y;have hp:=h.p;have hx:=dI.mp h.x;rw[<- e]at hy hp;rw[CS]at hy;have hy2:=dI.mp hy;refine⟨?_,dI.mpr ⟨hx.1,hy2.2.1,λx kI y fV=>?_⟩,hy⟩
 ·grind
 ·grind
theorem x9 {l:List Keyed}(e:l[n]?=some x):(l.take (n+1)).drop n=[x]:=by
 obtain⟨h1,rfl⟩:=gr.mp e;rw[aeF h1,List.drop_append_of_le_length (by grind),ad3 (by grind),List.nil_append]
theorem MH.sM {y:Keyed}(h:MH κ a b r (na+1) nb)(e:a[na]?=some y)(hl:∀z∈b.take nb,κ.kle (kf κ z) (kf κ y)):MH κ a b (y::r) na nb:=by
 have:=h.vz na (aeq _) (by rw[x9 e];intro x hx z hz;rw[BB.mp hz];exact hl x hx);rwa [x9 e]at this
theorem MH.sN {y:Keyed}(h:MH κ a b r na (nb+1))(e:b[nb]?=some y)(hl:∀z∈a.take na,κ.kle (kf κ z) (kf κ y)):MH κ a b (y::r) na nb:=by
 have:=h.vA nb (aeq _) (by rw[x9 e];intro x hx z hz;rw[BB.mp hz];exact hl x hx);rwa [x9 e]at this
theorem MH.done (h:MH κ a b r na nb)(hz:na=0\/nb=0):Gd κ a b (a.take na++b.take nb++r):=by
 refine⟨h.p,?_⟩;obtain rfl|rfl:=hz
 ·exact h.y
 ·rw[aeP,zw];exact h.x
theorem MH.first (h:MH κ a b r na nb)(hl:∀x∈b.take nb,∀y∈a.take na,κ.kle (kf κ x) (kf κ y)):Gd κ a b (b.take nb++a.take na++r):=by
 refine⟨(VT _ adm).trans h.p,?_⟩;have hy:=dI.mp h.y;rw[CS];refine dI.mpr ⟨hy.1,h.x,λx hx y fV=>?_⟩
 grind
theorem pJ {arr:Array Keyed}(h:x∈arr.toList.take n):∃j,j<n/\arr[j]?=some x:=by
 obtain⟨m,hm,e⟩:_:=DO h;rw[LB]at hm;refine⟨m,'O',?_⟩;rw[<- DD,<- e,aeH,ar]
theorem Ei {arr:Array Keyed}(h:x∈(arr.toList.take n).drop t):∃j,t<=j/\j<n/\arr[j]?=some x:=by
 obtain⟨m,hm,e⟩:_:=DO h;rw[ael,LB]at hm;refine⟨t+m,'O','Z',?_⟩;rw[<- DD,<- e,List.getElem_drop,aeH,ar]
theorem uZ {α:Type}(a:Array α)(n:Nat):(a.extract 0 n).toList=a.toList.take n:=by
 simp_all
theorem u9 {α:Type}(a:Array α)(t n:Nat):(a.extract t n).toList=(a.toList.take n).drop t:=by
 rw[Array.toList_extract,aft,List.drop_take]
end
section
theorem Zi (C:jC prog w A E s kd κ){st:SortSt}(hk:kindOf st=kd)(ka:Kd κ a.toList)(kb:Kd κ b.toList)(sa:fI κ a.toList)(sb:fI κ b.toList)(na0 : 0<a.size)(nb0 : 0<b.size)(h0:∀x y,b[0]?=some x->a[0]?=some y->κ.kle (kf κ x) (kf κ y))(hl:∀x∈b.toList,∀y,a[a.size-1]?=some y->κ.kle (kf κ x) (kf κ y))(h:∀(m:Array Keyed) g,Gd κ a.toList b.toList m.toList->Q m (eX st g)):wpS (model prog w) A E s (mHi a b) Q st:=by
 have la:a.toList.length=a.size:=NJ;have lb:b.toList.length=b.size:=NJ;have ga:∀{i x},a[i]?=some x->a.toList[i]?=some x:=λ{i x} e=>by rw[DD];exact e
 have gb:∀{i x},b[i]?=some x->b.toList[i]?=some x:=λ{i x} e=>by rw[DD];exact e
 have Qf:∀{n j:Nat} {x y:Keyed},x∈a.toList.take n->a[j]?=some y->n<=j+1->κ.kle (kf κ x) (kf κ y):=λ{n j x y} hx ey hn=>by
  obtain⟨i,hi,ex⟩:=pJ hx;have:=oj (arr:=a) (κ:=κ) sa (i:=i) (j:=j) 'Z' (aef.mp ey).1;rwa [cv ex,cv ey]at this
 have Qg:∀{n j:Nat} {x y:Keyed},x∈b.toList.take n->b[j]?=some y->n<=j+1->κ.kle (kf κ x) (kf κ y):=λ{n j x y} hx ey hn=>by
  obtain⟨i,hi,ex⟩:=pJ hx;have:=oj (arr:=b) (κ:=κ) sb (i:=i) (j:=j) 'Z' (aef.mp ey).1;rwa [cv ex,cv ey]at this
 have dl:∀(out:Array Keyed) na nb,(a.extract 0 na++b.extract 0 nb++out.reverse).toList=a.toList.take na++b.toList.take nb++out.toList.reverse:=λout na nb=>by
  rw[IS,IS,uZ,uZ,aeh]
 have first:∀{out:Array Keyed} {na nb},MH κ a.toList b.toList out.toList.reverse na nb->nb=1->Gd κ a.toList b.toList (b.extract 0 nb++a.extract 0 na++out.reverse).toList:=λ{out na nb} mi e=>by
  rw[IS,IS,uZ,uZ,aeh];refine mi.first λx hx y hy=>?_
  obtain⟨i,hi,ex⟩:=pJ hx;have hi0:i=0:='Z'
  subst hi0;obtain⟨j,hj,ey⟩:=pJ hy;obtain⟨y0,f0,_⟩:=fB na0;have:=oj (arr:=a) (κ:=κ) sa (i:=0) (j:=j) 'Z' (aef.mp ey).1;rw[cv f0,cv ey]at this;exact Cs (h0 x y0 ex f0) this
 refine ue (afI (adQ ⟨rfl,?_⟩))
 ac_rfl
 obtain⟨x0,e0,m0⟩:=fB (arr:=a) (i:=a.size-1) 'Z';refine ue (dO e0 ?_)
 ac_rfl
 have wN:MH κ a.toList b.toList [x0] (a.size-1) b.size:=by
  have:MH κ a.toList b.toList [] (a.size-1+1) b.size:=by
   refine⟨?_,?_,?_⟩
   ·rw[zw,List.take_of_length_le 'Z',List.take_of_length_le 'Z']
   ·rw[zw,List.take_of_length_le 'Z'];exact sa
   ·rw[zw,List.take_of_length_le 'Z'];exact sb
  exact this.sM (ga e0) λz hz=>hl z (EM hz) x0 e0
 have Gp:=wN;by_cases gR:(a.size-1==0)=true
 ·rw[uu gR];have:=Cc.mp gR;exact AL (h _ (gallopOf st) (by rw[dl];exact Gp.done (.inl this)))
 rw[rf gR];have acO:a.size-1≠0:=λz=>gR (Cc.mpr z)
 by_cases nD:(b.size==1)=true
 ·rw[uu nD];exact AL (h _ (gallopOf st) (first Gp (Cc.mp nD)))
 rw[rf nD];have acP:b.size≠1:=λz=>nD (Cc.mpr z)
 refine ue (afu ?_)
 ac_rfl
 generalize gallopOf st=mg0;refine ue (adL (NG (I:=λt c ai=>(∃g,ai=eX st g)/\∃out na nb mg,c=(none,na,nb,out,mg)/\MH κ a.toList b.toList out.toList.reverse na nb/\0<na/\1<nb/\na<=a.size/\nb<=b.size/\na+nb+t<=a.size+b.size)
  (Q:=λc ai=>(∃g,ai=eX st g)/\∃m,c.1=some m/\Gd κ a.toList b.toList m.toList) ?_ ?_ ⟨⟨gallopOf st,rfl⟩,_,_,_,_,rfl,Gp,'Z','Z','Z','Z','Z'⟩) ?_)
 rotate_left
 ·rintro c ai ⟨_,out,na,nb,mg,rfl,mi,h1,h2,h3,h4,h5⟩;omega
 ·rintro c ai ⟨⟨g,rfl⟩,m,e,gd⟩;dsimp only;rw[e];exact AL (h m g gd)
 intro t c ai _ ht z9;obtain⟨⟨g,rfl⟩,out,na,nb,mg,rfl,mi,h1,h2,h3,h4,h5⟩:_:=z9
 ac_rfl
 nofun
 refine ue (adL (NG (I:=λq c ai=>ai=eX st g/\∃out na nb ac bc,c=(none,na,nb,out,ac,bc)/\MH κ a.toList b.toList out.toList.reverse na nb/\0<na/\1<nb/\na<=a.size/\nb<=b.size/\na+nb+t+q<=a.size+b.size)
  (Q:=λc ai=>ai=eX st g/\((∃m,c.1=some m/\Gd κ a.toList b.toList m.toList)\/∃out na nb ac bc,c=(none,na,nb,out,ac,bc)/\MH κ a.toList b.toList out.toList.reverse na nb/\0<na/\1<nb/\na<=a.size/\nb<=b.size/\na+nb+t+1<=a.size+b.size)) ?_ ?_ ⟨rfl,out,na,nb,0,0,rfl,mi,h1,h2,h3,h4,'Z'⟩) ?_)
 rotate_left
 ·intro c ai z9;obtain⟨_,out,na,nb,ac,bc,rfl,mi,h1,h2,h3,h4,h5⟩:_:=z9;omega
 rotate_left
 ·clear mi h1 h2 h3 h4 h5;intro q c ai _ hq z9;obtain⟨rfl,out,na,nb,ac,bc,rfl,mi,h1,h2,h3,h4,h5⟩:_:=z9
  ac_rfl
  nofun
  obtain⟨na,rfl⟩:∃n,na=n+1:=⟨na-1,'Z'⟩
  obtain⟨nb,rfl⟩:∃n,nb=n+1:=⟨nb-1,'Z'⟩
  obtain⟨xb,eb,mb⟩:=fB (arr:=b) (i:=nb) 'Z';obtain⟨xa,ea,ma⟩:=fB (arr:=a) (i:=na) 'Z';simp only[afl];refine ue (dO eb (ue (dO ea (ue (C.lt _ xb xa _ hk (kb _ mb) (ka _ ma) ?_)))))
  nofun
  cases bC : κ.blt (kf κ xb) (kf κ xa)with
  |true=>
   rw[uu rfl]
   nofun
   refine ue (dO ea ?_)
   nofun
   have ck:MH κ a.toList b.toList (out.push xa).toList.reverse na (nb+1):=by
    rw[PM,Zp];exact mi.sM (ga ea) λz hz=>Cs (Qg hz eb (br _)) (Lo bC)
   by_cases hz:(na==0)=true
   ·rw[uu hz];exact AL ⟨rfl,.inl ⟨_,rfl,by rw[dl];exact ck.done (.inl (Cc.mp hz))⟩⟩
   ·rw[rf hz];have iG:na≠0:=λz=>hz (Cc.mpr z)
    split
    ·exact AL ⟨rfl,.inr ⟨_,_,_,_,_,rfl,ck,'Z','Z','Z','Z','Z'⟩⟩
    ·exact AL ⟨rfl,_,_,_,_,_,rfl,ck,'Z','Z','Z','Z','Z'⟩
  |false=>
   rw[rf 'Q']
   nofun
   refine ue (dO eb ?_)
   nofun
   have ck:MH κ a.toList b.toList (out.push xb).toList.reverse (na+1) nb:=by
    rw[PM,Zp];exact mi.sN (gb eb) λz hz=>Cs (Qf hz ea (br _)) bC
   by_cases hz:(nb==1)=true
   ·rw[uu hz];exact AL ⟨rfl,.inl ⟨_,rfl,first ck (Cc.mp hz)⟩⟩
   ·rw[rf hz];have iG:nb≠1:=λz=>hz (Cc.mpr z)
    split
    ·exact AL ⟨rfl,.inr ⟨_,_,_,_,_,rfl,ck,'Z','Z','Z','Z','Z'⟩⟩
    ·exact AL ⟨rfl,_,_,_,_,_,rfl,ck,'Z','Z','Z','Z','Z'⟩
 clear mi h1 h2 h3 h4 h5;rintro c ai ⟨rfl,⟨m,e,gd⟩|⟨out,na,nb,ac,bc,rfl,mi,h1,h2,h3,h4,h5⟩⟩
 ·obtain⟨c1,c2⟩:=c;simp only at e;subst e
  ac_rfl
  nofun
  exact AL ⟨⟨g,rfl⟩,m,rfl,gd⟩
 ac_rfl
 nofun
 refine ue (afI (adQ ⟨rfl,?_⟩))
 ac_rfl
 refine ue (adL (NG (I:=λq c ai=>(∃g,ai=eX st g)/\∃out na nb mg ac bc,c=(none,na,nb,out,mg,ac,bc)/\MH κ a.toList b.toList out.toList.reverse na nb/\0<na/\1<nb/\na<=a.size/\nb<=b.size/\na+nb+t+1+q<=a.size+b.size)
  (Q:=λc ai=>(∃g,ai=eX st g)/\((∃m,c.1=some m/\Gd κ a.toList b.toList m.toList)\/∃out na nb mg ac bc,c=(none,na,nb,out,mg,ac,bc)/\MH κ a.toList b.toList out.toList.reverse na nb/\0<na/\1<nb/\na<=a.size/\nb<=b.size/\na+nb+t+1<=a.size+b.size)) ?_ ?_ ⟨⟨g,rfl⟩,out,na,nb,_,ac,bc,rfl,mi,h1,h2,h3,h4,'Z'⟩) ?_)
 rotate_left
 ·intro c ai z9;obtain⟨_,out,na,nb,mg,ac,bc,rfl,mi,h1,h2,h3,h4,h5⟩:_:=z9;omega
 ·intro c ai z9;obtain⟨⟨g,rfl⟩,⟨m,e,gd⟩|⟨out,na,nb,mg,ac,bc,rfl,mi,h1,h2,h3,h4,h5⟩⟩:_:=z9
  ·obtain⟨c1,c2⟩:=c;simp only at e;subst e
   ac_rfl
   nofun
   exact AL ⟨⟨g,rfl⟩,m,rfl,gd⟩
  ·ac_rfl
   nofun
   ac_rfl
   exact ue (aba (AL ⟨⟨_,rfl⟩,out,na,nb,_,rfl,mi,h1,h2,h3,h4,h5⟩))
 clear mi h1 h2 h3 h4 h5;intro q c ai _ hq z9;obtain⟨⟨g,rfl⟩,out,na,nb,mg,ac,bc,rfl,mi,h1,h2,h3,h4,h5⟩:_:=z9
 (extract_lets +onlyGivenNames -merge -underBinder Zj Zk Zm Zn Zo Zq Zr Zt Zu Zv XU;subst Zj Zk Zm Zn Zo Zq Zr Zt Zu Zv XU)
 nofun
 extract_lets +onlyGivenNames -merge -underBinder Ni
 obtain⟨jp,fX⟩:∃z,z=Ni:=⟨Ni,rfl⟩
 rw[<- fX]
 suffices J:∀mg,wpS (model prog w) A E s (jp () mg) _ (eX st g) by
  nofun
  split
  ·ac_rfl;exact J _
  ·exact J _
 intro mg;rw[fX]
 nofun
 refine ue (aba ?_);obtain⟨xb,eb,mb⟩:=fB (arr:=b) (i:=nb-1) 'Z';refine ue (dO eb ?_);refine ue (Cm C (key:=xb) hk (kb _ mb) ka 'Z' 'Z' (λi j bY hj=>oj sa 'Z' 'Z') λk k1 k2 k3=>?_);simp only[WS]at k2 k3
 nofun
 nofun
 (extract_lets +onlyGivenNames -merge -underBinder Zw Zx;subst Zw Zx)
 extract_lets +onlyGivenNames -merge -underBinder Nj
 obtain⟨wO,ky⟩:∃z,z=Nj:=⟨Nj,rfl⟩
 rw[<- ky]
 suffices J2:∀(na:Nat) (out:Array Keyed),MH κ a.toList b.toList out.toList.reverse na nb->0<na->na<=a.size->na+nb+t+1+q<=a.size+b.size->(∀i,i<na->κ.kle (kA κ a i) (kf κ xb))->wpS (model prog w) A E s (wO () na out) _ (eX st mg) by
  by_cases kS:na-k>0
  ·rw[uu kS]
   ac_rfl
   have ck:MH κ a.toList b.toList (out++(a.extract k na).reverse).toList.reverse k nb:=by
    rw[IS,aeh,Zp,List.reverse_reverse,u9];refine mi.vz k 'Z' λx hx y hy=>?_
    obtain⟨j,mh,oP,ey⟩:=Ei hy;have:=k3 j mh oP;rw[cv ey]at this;exact Cs (Qg hx eb 'Z') (Lo this)
   by_cases hz:(k==0)=true
   ·rw[uu hz];exact AL ⟨⟨_,rfl⟩,.inl ⟨_,rfl,by rw[dl];exact ck.done (.inl (Cc.mp hz))⟩⟩
   ·rw[rf hz];have iG:k≠0:=λz=>hz (Cc.mpr z)
    exact J2 _ _ ck 'Z' 'Z' 'Z' k2
  ·rw[rf kS];have:k=na:='Z'
   subst this;exact J2 _ _ mi h1 h3 'Z' k2
 clear mi h1 h3 h5 k1 k2 k3;intro na out mi h1 h3 h5 hle;rw[ky]
 ac_rfl
 obtain⟨nb,rfl⟩:∃n,nb=n+1:=⟨nb-1,'Z'⟩
 simp -zeta only[afl]at eb ⊢;refine ue (dO eb ?_)
 ac_rfl
 have ck:MH κ a.toList b.toList (out.push xb).toList.reverse na nb:=by
  rw[PM,Zp];refine mi.sN (gb eb) λz hz=>?_
  obtain⟨i,hi,ez⟩:=pJ hz;have:=hle i hi;rwa [cv ez]at this
 by_cases hz:(nb==1)=true
 ·rw[uu hz];exact AL ⟨⟨_,rfl⟩,.inl ⟨_,rfl,first ck (Cc.mp hz)⟩⟩
 rw[rf hz];have iG:nb≠1:=λz=>hz (Cc.mpr z)
 obtain⟨xa,ea,ma⟩:=fB (arr:=a) (i:=na-1) 'Z';refine ue (dO ea ?_);refine ue (CN C (key:=xa) hk (ka _ ma) kb 'Z' 'Z' (λi j bY hj=>oj sb 'Z' 'Z') λk k1 k2 k3=>?_);simp only[WS]at k2 k3
 nofun
 nofun
 (extract_lets +onlyGivenNames -merge -underBinder Zy Zz;subst Zy Zz)
 extract_lets +onlyGivenNames -merge -underBinder Nk
 obtain⟨Ht,vQ⟩:∃z,z=Nk:=⟨Nk,rfl⟩
 rw[<- vQ]
 suffices J3:∀(nb:Nat) (out:Array Keyed),MH κ a.toList b.toList out.toList.reverse na nb->1<nb->nb<=b.size->na+nb+t+1+q+1<=a.size+b.size->(∀i,i<nb->κ.kle (kA κ b i) (kf κ xa))->wpS (model prog w) A E s (Ht () nb out) _ (eX st mg) by
  by_cases kS:nb-k>0
  ·rw[uu kS]
   ac_rfl
   have tK:MH κ a.toList b.toList (out.push xb++(b.extract k nb).reverse).toList.reverse na k:=by
    rw[IS,aeh,Zp,List.reverse_reverse,u9];refine ck.vA k 'Z' λx hx y hy=>?_
    obtain⟨j,mh,oP,ey⟩:=Ei hy;have:=k3 j mh oP;rw[cv ey]at this;exact Cs (Qf hx ea 'Z') this
   by_cases hy:(k==1)=true
   ·rw[uu hy];exact AL ⟨⟨_,rfl⟩,.inl ⟨_,rfl,first tK (Cc.mp hy)⟩⟩
   ·rw[rf hy];have fV:k≠1:=λz=>hy (Cc.mpr z)
    by_cases hx:(k==0)=true
    ·rw[uu hx];exact AL ⟨⟨_,rfl⟩,.inl ⟨_,rfl,by rw[dl];exact tK.done (.inr (Cc.mp hx))⟩⟩
    ·rw[rf hx];have kI:k≠0:=λz=>hx (Cc.mpr z)
     exact J3 _ _ tK 'Z' 'Z' 'Z' λi hi=>Lo (k2 i hi)
  ·rw[rf kS];have:k=nb:='Z'
   subst this;exact J3 _ _ ck 'Z' 'Z' 'Z' λi hi=>Lo (k2 i hi)
 clear mi ck h2 h4 h5 k1 k2 k3 hz iG eb;intro nb out mi h2 h4 h5 acQ;rw[vQ]
 ac_rfl
 obtain⟨na,rfl⟩:∃n,na=n+1:=⟨na-1,'Z'⟩
 simp only[afl]at ea ⊢;refine ue (dO ea ?_)
 nofun
 have ck:MH κ a.toList b.toList (out.push xa).toList.reverse na nb:=by
  rw[PM,Zp];refine mi.sM (ga ea) λz hz=>?_
  obtain⟨i,hi,ez⟩:=pJ hz;have:=acQ i hi;rwa [cv ez]at this
 by_cases hz:(na==0)=true
 ·rw[uu hz];exact AL ⟨⟨_,rfl⟩,.inl ⟨_,rfl,by rw[dl];exact ck.done (.inl (Cc.mp hz))⟩⟩
 ·rw[rf hz];have iG:na≠0:=λz=>hz (Cc.mpr z)
  split
  ·exact AL ⟨⟨_,rfl⟩,.inr ⟨_,_,_,_,_,_,rfl,ck,'Z',h2,'Z',h4,'O'⟩⟩
  ·exact AL ⟨⟨_,rfl⟩,_,_,_,_,_,_,rfl,ck,'Z',h2,'Z',h4,'O'⟩
end
structure SB (kd:SortKind) (a0:Array Keyed) (p:Array (Nat×Nat×Nat)) (lo:Nat) (x0:Array Keyed) (st:SortSt):Prop where
 perm:(arrOf st).Perm a0
 kind:kindOf st=kd
 fail:failedOf st=none
 pend:pendingOf st=p
 low:∀i,i<lo->(arrOf st)[i]?=x0[i]?
def SS (κ:KeyKind)(xs:Array Keyed)(lo n:Nat):Prop:=∀i j,i<=j->j<n->κ.kle (kA κ xs (lo+i)) (kA κ xs (lo+j))
def DS (κ:KeyKind)(xs:Array Keyed)(lo n:Nat):Prop:=∀i j,i<=j->j<n->κ.kle (kA κ xs (lo+j)) (kA κ xs (lo+i))
section
variable {lo:Nat}{st:SortSt}
theorem SB.size (h:SB kd a0 p lo x0 st):(arrOf st).size=a0.size:=h.perm.size_eq
theorem SB.set (h:SB kd a0 p lo x0 st)(hp:xs.Perm (arrOf st))(hl:∀i,i<lo->xs[i]?=(arrOf st)[i]?):SB kd a0 p lo x0 (setArr st xs):=
 ⟨hp.trans h.perm,h.kind,h.fail,h.pend,λi hi=>(hl i hi).trans (h.low i hi)⟩
theorem SB.keys (h:SB kd a0 p lo x0 st)(k:Kd κ a0.toList):Kd κ (arrOf st).toList:=λx hx=>k x ((aeg.mp h.perm).mem_iff.mp hx)
theorem ph (e:xs[i]?=ys[j]?):kA κ xs i=kA κ ys j:=by unfold kA;rw[e]
theorem Cp (hj:j<=xs.size)(k:Nat):kA κ (mirror xs i j ((j-i)/2)) k=if i<=k/\k<j then kA κ xs (i+j-1-k)else kA κ xs k:=by
 have e:=getElem?_mirror_all (i:=i) hj k;split
 ·rename_i z;rw[uu z]at e;exact ph e
 ·rename_i z;rw[rf z]at e;exact ph e
theorem xV {xs:Array Keyed}(hj:j<=xs.size)(k:Nat)(hk:k<i):(mirror xs i j ((j-i)/2))[k]?=xs[k]?:=by
 rw[getElem?_mirror_all hj,rf 'O']
theorem uI (hj:j<=xs.size)(he:∀k,i<=k->k<j->kA κ xs k=kA κ xs (j-1))(k:Nat):kA κ (mirror xs i j ((j-i)/2)) k=kA κ xs k:=by
 rw[Cp hj]
 grind
theorem JL (hs:src<xs.size)(hd:d<=src)(k:Nat):kA κ (bubble xs src d) k=if k=src-d then kA κ xs src else if src-d<k/\k<=src then kA κ xs (k-1)else kA κ xs k:=by
 have e:=getElem?_bubble hs d hd k;split
 ·rename_i z;rw[uu z]at e;exact ph e
 ·rename_i z
  rw[rf z]at e;split
  ·rename_i z2;rw[uu z2]at e;exact ph e
  ·rename_i z2;rw[rf z2]at e;exact ph e
theorem V4 {xs:Array Keyed}(hs:src<xs.size)(hd:d<=src)(k:Nat)(hk:k<src-d):(bubble xs src d)[k]?=xs[k]?:=by
 rw[getElem?_bubble hs d hd,rf 'O',rf 'O']
end
section
variable {lo:Nat}
theorem su (C:jC prog w A E s kd κ)(k0:Kd κ a0.toList){st:SortSt}(hB:SB kd a0 p lo x0 st)(hi:i<a0.size)(hj:j<a0.size)(h:Q (some (κ.blt (kA κ (arrOf st) i) (kA κ (arrOf st) j))) st):wpS (model prog w) A E s (ltAt' i j) Q st:=by
 obtain⟨x,ex,mx⟩:_:=fB (by rw[hB.size];exact hi);obtain⟨y,ey,my⟩:=fB (by rw[hB.size];exact hj);rw[cv ex,cv ey]at h;refine ue (afu ?_);exact ue (dO ex (ue (dO ey (C.lt st x y _ hB.kind (hB.keys k0 x mx) (hB.keys k0 y my) h))))
theorem Nm (C:jC prog w A E s kd κ)(k0:Kd κ a0.toList){st:SortSt}(hB:SB kd a0 p lo x0 st)(n1 : 1<=n)(hn:n<=ik)(hr:lo+ik<=a0.size)(hs:SS κ (arrOf st) lo n)(f:Nat->(Option (Option Nat)×Nat)->SM (ForInStep (Option (Option Nat)×Nat)))(hf:∀(x n:Nat) (Q:ForInStep (Option (Option Nat)×Nat)->SortSt->Prop),1<=n->n<ik->(κ.klt (kA κ (arrOf st) (lo+n)) (kA κ (arrOf st) (lo+n-1))->Q (.done (none,n)) st)->(κ.kle (kA κ (arrOf st) (lo+n-1)) (kA κ (arrOf st) (lo+n))->Q (.yield (none,n+1)) st)->wpS (model prog w) A E s (f x (none,n)) Q st):
  wpS (model prog w) A E s (forIn [n:ik] ((none,n):Option (Option Nat)×Nat) f) (λc ai=>ai=st/\∃m,c=(none,m)/\n<=m/\m<=ik/\SS κ (arrOf st) lo m/\(m=ik\/κ.klt (kA κ (arrOf st) (lo+m)) (kA κ (arrOf st) (lo+m-1)))) st:=by
 refine NG (I:=λt c ai=>ai=st/\c=(none,t)/\SS κ (arrOf st) lo t) ?_ ?_ ⟨rfl,rfl,hs⟩
 ·rintro t c ai h1 h2 ⟨rfl,rfl,tL⟩;refine hf t t _ 'O' h2 (λz=>⟨rfl,t,rfl,h1,'O',tL,.inr z⟩) (λz=>⟨rfl,rfl,λi j bY hj=>?_⟩);by_cases e:j<t
  ·exact tL i j bY e
  ·by_cases e2:i=j
   ·subst e2;exact NH _
   ·refine Cs (tL i (j-1) 'O' 'O') ?_
    grind
 ·simp_all
theorem Np (C:jC prog w A E s kd κ)(k0:Kd κ a0.toList){st:SortSt}(hB:SB kd a0 p lo x0 st)(n1 : 1<=ik)(hr:lo+ik<=a0.size)(h:∀m ai,SB kd a0 p lo x0 ai->1<=m->m<=ik->SS κ (arrOf ai) lo m->Q (some m) ai):wpS (model prog w) A E s (countRun' lo ik) Q st:=by
 have s1:SS κ (arrOf st) lo 1:=λi j bY hj=>by
  have:i=j:='Z'
  subst this;exact NH _
 refine ue (adL (Nm C k0 hB (br 1) n1 hr s1 _ λx n Q h1 h2 q1 q2=>?_) ?_)
 ·ac_rfl
  refine ue (su C k0 hB 'Z' 'Z' ?_)
  nofun
  cases e : κ.blt (kA κ (arrOf st) (lo+n)) (kA κ (arrOf st) (lo+n-1))with
  |true=>rw[uu rfl];exact AL (q1 e)
  |false=>rw[rf 'Q'];ac_rfl;exact AL (q2 e)
 intro c ai z9;obtain⟨rfl,n,rfl,m1,m2,hs,Hu⟩:_:=z9
 ac_rfl
 nofun
 by_cases hz:(n==ik)=true
 ·rw[uu hz];exact AL (h n _ hB m1 m2 hs)
 rw[rf hz];have iG:n≠ik:=λz=>hz (Cc.mpr z)
 have bC:=Hu.resolve_left iG
 extract_lets +onlyGivenNames -merge -underBinder O4
 obtain⟨jp,fX⟩:∃z,z=O4:=⟨O4,rfl⟩
 rw[<- fX]
 suffices J:∀st,SB kd a0 p lo x0 st->DS κ (arrOf st) lo (n+1)->wpS (model prog w) A E s (jp ()) Q st by
  by_cases hg:n>1
  ·rw[uu hg];refine ue (su C k0 hB 'Z' 'Z' ?_)
   nofun
   cases e : κ.blt (kA κ (arrOf ai) lo) (kA κ (arrOf ai) (lo+n-1))with
   |true=>rw[uu rfl];exact AL (h n _ hB m1 m2 hs)
   |false=>
    have cT:lo+n<=(arrOf ai).size:=by rw[hB.size];omega
    have all:∀k,lo<=k->k<lo+n->kA κ (arrOf ai) k=kA κ (arrOf ai) (lo+n-1):=λk b1 b2=>by
     have c1:=hs 0 (k-lo) 'Z' 'Z';have c2:=hs (k-lo) (n-1) 'Z' 'Z';rw[show lo+(k-lo)=k by omega]at c1 c2;rw[show lo+(n-1)=lo+n-1 by omega]at c2;exact KeyOrd.kle_antisymm c2 (Cs (show κ.kle _ _ from e) c1)
    refine ue (aba (J _ (hB.set (mirror_perm _ _ _ _) λi hi=>xV cT i hi) λi j bY hj=>?_));show κ.kle (kA κ (mirror (arrOf ai) _ _ _) _) (kA κ (mirror (arrOf ai) _ _ _) _);rw[uI cT all,uI cT all];by_cases hjn:j<n
    ·rw[all (lo+i) 'Z' 'Z',all (lo+j) 'Z' 'Z'];exact NH _
    ·have:j=n:='Z'
     subst this;by_cases e2:i=j
     ·subst e2;exact NH _
     ·rw[all (lo+i) 'Z' 'Z'];exact Lo bC
  ·have:n=1:='Z'
   subst this;refine J _ hB λi j bY hj=>?_
   by_cases e2:i=j
   ·subst e2;exact NH _
   ·have i0:i=0:='Z'
    have j1:j=1:='Z'
    subst i0 j1;exact Lo bC
 intro st hB hd;rw[fX]
 nofun
 refine ue (afI (adQ ⟨rfl,?_⟩))
 ac_rfl
 refine ue (adL (NG (I:=λt c ai=>∃q,c=(none,t,q)/\SB kd a0 p lo x0 ai/\DS κ (arrOf ai) lo t/\q+1<=t/\∀i,t-(q+1)<=i->i<t->kA κ (arrOf ai) (lo+i)=kA κ (arrOf ai) (lo+t-1))
  (Q:=λc ai=>∃t q,c=(none,t,q)/\1<=t/\t<=ik/\SB kd a0 p lo x0 ai/\DS κ (arrOf ai) lo t/\q+1<=t/\∀i,t-(q+1)<=i->i<t->kA κ (arrOf ai) (lo+i)=kA κ (arrOf ai) (lo+t-1)) ?_ ?_ ⟨0,rfl,hB,hd,'Z',λi b1 b2=>by rw[show lo+i=lo+(n+1)-1 by omega]⟩) ?_)
 ·intro t c ai t1 t2 z9;obtain⟨q,rfl,hB,hd,hq,he⟩:_:=z9;have cT:lo+t<=(arrOf ai).size:=by rw[hB.size];omega
  ac_rfl
  nofun
  refine ue (su C k0 hB 'Z' 'Z' ?_)
  nofun
  extract_lets +onlyGivenNames -merge -underBinder Nq
  obtain⟨j1,mh⟩:∃z,z=Nq:=⟨Nq,rfl⟩
  rw[<- mh];cases e : κ.blt (kA κ (arrOf ai) (lo+t)) (kA κ (arrOf ai) (lo+t-1))with
  |true=>
   rw[uu rfl]
   extract_lets +onlyGivenNames -merge -underBinder Nr
   obtain⟨j2,oP⟩:∃z,z=Nr:=⟨Nr,rfl⟩
   rw[<- oP];have step:∀xs:Array Keyed,(∀k,kA κ xs k=kA κ (arrOf ai) k)->DS κ xs lo (t+1):=λxs hk i j bY hj=>by
    rw[hk,hk];by_cases Hw:j<t
    ·exact hd i j bY Hw
    ·have:j=t:='Z'
     subst this;by_cases e2:i=j
     ·subst e2;exact NH _
     ·refine Cs (Lo e) ?_;have:=hd i (j-1) 'Z' 'Z';rwa [show lo+(j-1)=lo+j-1 by omega]at this
   have jX:∀k,lo+t-(q+1)<=k->k<lo+t->kA κ (arrOf ai) k=kA κ (arrOf ai) (lo+t-1):=λk b1 b2=>by
    have:=he (k-lo) 'Z' 'Z';rwa [show lo+(k-lo)=k by omega]at this
   split
   ·refine ue (aba ?_);rw[oP]
    ac_rfl
    rw[mh]
    ac_rfl
    exact AL ⟨0,rfl,hB.set (mirror_perm _ _ _ _) λi hi=>xV cT i 'Z',step _ (uI cT jX),'Z',λi b1 b2=>by rw[show lo+i=lo+(t+1)-1 by omega]⟩
   ·rw[oP]
    ac_rfl
    rw[mh]
    ac_rfl
    exact AL ⟨0,rfl,hB,step _ (λ_=>rfl),'Z',λi b1 b2=>by rw[show lo+i=lo+(t+1)-1 by omega]⟩
  |false=>
   refine ue (su C k0 hB 'Z' 'Z' ?_)
   nofun
   cases e2 : κ.blt (kA κ (arrOf ai) (lo+t-1)) (kA κ (arrOf ai) (lo+t))with
   |true=>
    exact AL ⟨t,q,rfl,'Z','Z',hB,hd,hq,he⟩
   |false=>
    ac_rfl
    rw[mh]
    ac_rfl
    have eq:=KeyOrd.kle_antisymm e2 e;refine AL ⟨q+1,rfl,hB,λi j bY hj=>?_,'Z',λi b1 b2=>?_⟩
    ·by_cases Hw:j<t
     ·exact hd i j bY Hw
     ·have:j=t:='Z'
      subst this;by_cases e3:i=j
      ·subst e3;exact NH _
      ·rw[eq];have:=hd i (j-1) 'Z' 'Z';rwa [show lo+(j-1)=lo+j-1 by omega]at this
    ·rw[show lo+(t+1)-1=lo+t by omega];by_cases hit:i=t
     ·subst hit;rfl
     ·rw[eq];exact he i 'Z' 'Z'
 ·rintro c ai ⟨q,rfl,hB,hd,hq,he⟩;rw[show max (n+1) ik=ik by omega]at hd hq he ⊢;exact⟨ik,q,rfl,'Z',br _,hB,hd,hq,he⟩
 clear hB hd;intro c ai z9;obtain⟨t,q,rfl,t1,t2,hB,hd,hq,he⟩:_:=z9;have cT:lo+t<=(arrOf ai).size:=by rw[hB.size];omega
 (extract_lets +onlyGivenNames -merge -underBinder ZA ZC ZD ZE;subst ZA ZC ZD ZE)
 nofun
 extract_lets +onlyGivenNames -merge -underBinder Nt
 obtain⟨j3,Rk⟩:∃z,z=Nt:=⟨Nt,rfl⟩
 rw[<- Rk]
 suffices J3:∀st,SB kd a0 p lo x0 st->DS κ (arrOf st) lo t->wpS (model prog w) A E s (j3 ()) Q st by
  split
  ·have jX:∀k,lo+t-(q+1)<=k->k<lo+t->kA κ (arrOf ai) k=kA κ (arrOf ai) (lo+t-1):=λk b1 b2=>by
    have:=he (k-lo) 'Z' 'Z';rwa [show lo+(k-lo)=k by omega]at this
   refine ue (aba (J3 _ (hB.set (mirror_perm _ _ _ _) λi hi=>xV cT i 'Z') λi j bY hj=>?_));show κ.kle (kA κ (mirror (arrOf ai) _ _ _) _) (kA κ (mirror (arrOf ai) _ _ _) _);rw[uI cT jX,uI cT jX];exact hd i j bY hj
  ·exact J3 _ hB hd
 intro st hB hd;rw[Rk]
 nofun
 have cT:lo+t<=(arrOf st).size:=by rw[hB.size];omega
 refine ue (aba ?_);have nF:=hB.set (mirror_perm _ _ _ _) λi hi=>xV cT i hi
 refine ue (adL (Nm C k0 nF t1 t2 hr (λi j bY hj=>?_) _ λx n Q h1 h2 q1 q2=>?_) ?_)
 ·rw[Cp cT,Cp cT,uu 'Z',uu 'Z'];have:=hd (t-1-j) (t-1-i) 'Z' 'Z';rwa [show lo+(t-1-i)=lo+(lo+t)-1-(lo+i) by omega,show lo+(t-1-j)=lo+(lo+t)-1-(lo+j) by omega]at this
 ·ac_rfl
  refine ue (su C k0 nF 'Z' 'Z' ?_)
  nofun
  cases e : κ.blt (kA κ (arrOf (setArr st (mirror (arrOf st) lo (lo+t) ((lo+t-lo)/2)))) (lo+n)) (kA κ (arrOf (setArr st (mirror (arrOf st) lo (lo+t) ((lo+t-lo)/2)))) (lo+n-1))with
  |true=>rw[uu rfl];exact AL (q1 e)
  |false=>rw[rf 'Q'];ac_rfl;exact AL (q2 e)
 ·rintro c ai ⟨rfl,m,rfl,b1,b2,hs,_⟩
  ac_rfl
  nofun
  exact AL (h m _ nF 'Z' b2 hs)
theorem Nu (C:jC prog w A E s kd κ)(k0:Kd κ a0.toList){st:SortSt}(hB:SB kd a0 p lo x0 st)(hn:lo+n<=a0.size)(aO:ok<=n)(hs:SS κ (arrOf st) lo ok)(h:∀ai,SB kd a0 p lo x0 ai->SS κ (arrOf ai) lo n->Q true ai):wpS (model prog w) A E s (binarySort' lo n ok) Q st:=by
 refine ue (adL (NG (I:=λt c ai=>c=(none,())/\SB kd a0 p lo x0 ai/\SS κ (arrOf ai) lo (min t n))
  (Q:=λc ai=>c=(none,())/\SB kd a0 p lo x0 ai/\SS κ (arrOf ai) lo n) ?_ ?_ ⟨rfl,hB,λi j bY hj=>?_⟩) ?_)
 ·intro t c ai t1 t2 z9;obtain⟨rfl,hB,hs⟩:_:=z9;rw[show min t n=t by lia]at hs
  ac_rfl
  refine ue (adL (NG (I:=λx c a7=>a7=ai/\∃l r,c=(none,l,r)/\l<=r/\r<=t/\r-l<=t-x/\(∀i,i<l->κ.kle (kA κ (arrOf ai) (lo+i)) (kA κ (arrOf ai) (lo+t)))/\(∀i,r<=i->i<t->κ.klt (kA κ (arrOf ai) (lo+t)) (kA κ (arrOf ai) (lo+i))))
   (Q:=λc a7=>a7=ai/\∃l,c=(none,l,l)/\l<=t/\(∀i,i<l->κ.kle (kA κ (arrOf ai) (lo+i)) (kA κ (arrOf ai) (lo+t)))/\(∀i,l<=i->i<t->κ.klt (kA κ (arrOf ai) (lo+t)) (kA κ (arrOf ai) (lo+i)))) ?_ ?_ ⟨rfl,0,t,rfl,'O','O','O',λi z=>'O',λi z1 z2=>'O'⟩) ?_)
  ·intro x c a7 _ hx z9;obtain⟨rfl,l,r,rfl,a1,a2,a3,a4,a5⟩:_:=z9
   ac_rfl
   nofun
   by_cases hg:l>=r
   ·rw[uu hg];have:l=r:='O'
    subst this;exact AL ⟨rfl,l,rfl,a2,a4,a5⟩
   ·rw[rf hg]
    ac_rfl
    refine ue (su C k0 hB 'O' 'O' ?_)
    nofun
    cases e : κ.blt (kA κ (arrOf a7) (lo+t)) (kA κ (arrOf a7) (lo+(l+r)/2))with
    |true=>
     ac_rfl
     exact AL ⟨rfl,l,(l+r)/2,rfl,'O','O','O',a4,λi z1 z2=>KeyOrd.klt_of_klt_of_kle e (hs _ _ z1 z2)⟩
    |false=>
     ac_rfl
     exact AL ⟨rfl,(l+r)/2+1,r,rfl,'O','O','O',λi z=>Cs (hs i ((l+r)/2) 'O' 'O') e,a5⟩
  ·intro c a7 z9;obtain⟨rfl,l,r,rfl,a1,a2,a3,a4,a5⟩:_:=z9;have:l=r:='O'
   subst this;exact⟨rfl,l,rfl,a2,a4,a5⟩
  ·intro c a7 z9;obtain⟨rfl,l,rfl,a2,a4,a5⟩:_:=z9
   ac_rfl
   nofun
   have cT:lo+t<(arrOf a7).size:=by rw[hB.size];lia
   refine ue (aba (AL ⟨rfl,hB.set (bubble_perm _ _ _) λi hi=>V4 cT 'O' i 'O',?_⟩));intro i j bY hj;show κ.kle (kA κ (bubble (arrOf a7) (lo+t) (lo+t-(lo+l))) _) (kA κ (bubble (arrOf a7) (lo+t) (lo+t-(lo+l))) _);rw[JL cT 'O',JL cT 'O',show lo+t-(lo+t-(lo+l))=lo+l by lia]
   repeat' split
   all_goals first
    |(exfalso;lia)
    |exact NH _
    |exact a4 _ 'O'
    |exact hs _ _ 'O' 'O'
    |(have z:=a5 (j-1) 'O' 'O';rw[show lo+(j-1)=lo+j-1 by lia]at z;exact Lo z)
    |(have z:=hs (i-1) (j-1) 'O' 'O';rw[show lo+(i-1)=lo+i-1 by lia,show lo+(j-1)=lo+j-1 by lia]at z;exact z)
    |(have z:=hs i (j-1) 'O' 'O';rw[show lo+(j-1)=lo+j-1 by lia]at z;exact z)
 ·rintro c ai ⟨rfl,hB,hs⟩;rw[show min (max (max ok 1) n) n=n by lia]at hs;exact⟨rfl,hB,hs⟩
 ·by_cases e:ok=0
  ·have:i=j:='O'
   subst this;exact NH _
  ·exact hs i j bY 'O'
 ·rintro c ai ⟨rfl,hB,hs⟩
  ac_rfl
  nofun
  exact AL (h ai hB hs)
theorem Ki {α:Type}(sa:Nat):∀m k (xs:Array α),sa+k+m.length<=xs.size->((m.zipIdx k).foldl (λa x=>a.setIfInBounds (sa+x.2) x.1) xs).toList=xs.toList.take (sa+k)++m++xs.toList.drop (sa+k+m.length)
 |[] => λk xs h=>by
  simp_all
 |x::m=>λk xs h=>by
  rw[List.zipIdx_cons,aex,Ki sa m (k+1) _ (by grind),Array.toList_setIfInBounds];have hl:sa+k<xs.toList.length:=by grind
  rw[show sa+(k+1)=sa+k+1 by lia,aeF 'J',List.getElem_set_self,List.take_set_of_le (br _),List.drop_set_of_lt 'O',IF,show sa+k+1+m.length=sa+k+(m.length+1) by lia];simp
theorem rR {arr:Array Keyed}(h:x∈(arr.extract i n).toList):∃j,i<=j/\j<n/\arr[j]?=some x:=by
 rw[u9]at h;exact Ei h
theorem yC (h:∀a b,i<=a->a<=b->b<n->κ.kle (kA κ arr a) (kA κ arr b))(hn:n<=arr.size):fI κ (arr.extract i n).toList:=by
 unfold fI;rw[OK];intro a b ha hb cy;have get:∀c (hc),arr[i+c]?=some ((arr.extract i n).toList[c]):=λc hc=>by
  simp_all
 have lb:b<(arr.extract i n).size:='Z'
 rw[afm]at lb;have:=h (i+a) (i+b) 'O' 'O' 'O';rwa [cv (get a ha),cv (get b hb)]at this
end
section
theorem Lx (h1:SS κ arr 0 n1)(h2:SS κ arr n1 (n-n1))(h:∀i j,i<n1->n1<=j->j<n->κ.kle (kA κ arr i) (kA κ arr j)):∀i j,i<=j->j<n->κ.kle (kA κ arr i) (kA κ arr j):=λi j bY hj=>by
 by_cases z1:j<n1
 ·have:=h1 i j bY z1
  simp_all
 ·by_cases z2:i<n1
  ·simp_all
  ·have:=h2 (i-n1) (j-n1) 'O' 'O'
   simp_all
structure Gq (kd:SortKind) (κ:KeyKind) (a0:Array Keyed) (st:SortSt):Prop where
 perm:(arrOf st).Perm a0
 fail:failedOf st=none
 one:(pendingOf st).size=1
 wM:∀i j,i<=j->j<a0.size->κ.kle (kA κ (arrOf st) i) (kA κ (arrOf st) j)
theorem VA (C:jC prog w A E s kd κ)(k0:Kd κ a0.toList){st:SortSt}(hB:SB kd a0 #[(0,n1,pw),(n1,a0.size-n1,q)] 0 x0 st)(h1 : 1<=n1)(h2:n1<a0.size)(s1:SS κ (arrOf st) 0 n1)(s2:SS κ (arrOf st) n1 (a0.size-n1))(h:∀ai,Gq kd κ a0 ai->Q true ai):wpS (model prog w) A E s (mergeAt' 0) Q st:=by
 have sz:=hB.size;have kk:=hB.keys k0;refine ue (afu ?_)
 nofun
 have e0:(pendingOf st)[0]?=some (0,n1,pw):=by rw[hB.pend];rfl
 have e1:(pendingOf st)[0+1]?=some (n1,a0.size-n1,q):=by rw[hB.pend];rfl
 obtain⟨P,eP,hP⟩:∃P,((pendingOf st).setIfInBounds 0 (0,n1+(a0.size-n1),pw)).eraseIdxIfInBounds (0+1)=P/\P.size=1:=⟨_,rfl,by rw[hB.pend];simp[Array.eraseIdxIfInBounds]⟩
 show wpS (model prog w) A E s (match((pendingOf st)[0]?,(pendingOf st)[0+1]?)with|_=>_) Q st;rw[e0,e1]
 nofun
 refine ue ?_;rw[eP];unfold wpS;rw[StateT.run_set];refine wpAny_pure ⟨rfl,?_⟩;show wpS (model prog w) A E s _ Q (SortSt.mk' (kindOf st) (arrOf st) P (gallopOf st) (failedOf st));obtain⟨xb,eb,mb⟩:=fB (arr:=arrOf st) (i:=n1) 'Z';refine ue (dO eb ?_);refine ue (Cm C (arr:=arrOf st) (key:=xb) hB.kind (kk _ mb) kk 'Z' 'Z' (λi j bY hj=>s1 i j bY hj) λk k1 k2 k3=>?_);simp only[WS]at k2 k3
 nofun
 have up:∀i j,n1<=i->i<=j->j<a0.size->κ.kle (kA κ (arrOf st) i) (kA κ (arrOf st) j):=λi j z1 z2 z3=>by
  have:=s2 (i-n1) (j-n1) 'Z' 'Z';rwa [show n1+(i-n1)=i by omega,show n1+(j-n1)=j by omega]at this
 have dn:∀i j,i<=j->j<n1->κ.kle (kA κ (arrOf st) i) (kA κ (arrOf st) j):=λi j z1 z2=>by
  have:=s1 i j z1 z2;rwa [WS,WS]at this
 by_cases hz:(n1-k==0)=true
 ·rw[uu hz];have iG:=Cc.mp hz;refine AL (h _ ⟨hB.perm,hB.fail,hP,Lx s1 s2 λi j z1 z2 z3=>?_⟩);have:=k2 i 'Z';rw[<- cv (κ:=κ) eb]at this;exact Cs this (up n1 j (br _) z2 z3)
 rw[rf hz];have iG:n1-k≠0:=λz=>hz (Cc.mpr z)
 obtain⟨xa,ea,ma⟩:=fB (arr:=arrOf st) (i:=0+k+(n1-k)-1) 'Z';refine ue (dO ea ?_);rw[show 0+k+(n1-k)-1=n1-1 by omega]at ea;refine ue (CN C (arr:=arrOf st) (key:=xa) hB.kind (kk _ ma) kk 'Z' 'Z' (λi j bY hj=>s2 i j bY hj) λl l1 l2 l3=>?_)
 nofun
 by_cases hy:(l==0)=true
 ·rw[uu hy];have fV:=Cc.mp hy;refine AL (h _ ⟨hB.perm,hB.fail,hP,Lx s1 s2 λi j z1 z2 z3=>?_⟩);have:=l3 (j-n1) 'Z' 'Z';rw[<- cv (κ:=κ) ea,show n1+(j-n1)=j by omega]at this;exact Cs (dn i (n1-1) 'Z' 'Z') this
 rw[rf hy];have fV:l≠0:=λz=>hy (Cc.mpr z)
 (extract_lets +onlyGivenNames -merge -underBinder aa6 aa7;subst aa6 aa7)
 extract_lets +onlyGivenNames -merge -underBinder Fp
 obtain⟨jp,fX⟩:∃z,z=Fp:=⟨Fp,rfl⟩
 rw[<- fX];unfold Fp at fX;rw[WS]at fX ⊢;have sA:fI κ ((arrOf st).extract k n1).toList:=yC (λa b z1 z2 z3=>dn a b z2 z3) 'Z';have sB:fI κ ((arrOf st).extract n1 (n1+l)).toList:=yC (λa b z1 z2 z3=>up a b z1 z2 'Z') 'Z';have Rl:Kd κ ((arrOf st).extract k n1).toList:=λx hx=>by
  obtain⟨j,_,_,e⟩:=rR hx;exact kk x (by have:=ba (by rw[DD];exact e:(arrOf st).toList[j]?=some x);exact this)
 have Rm:Kd κ ((arrOf st).extract n1 (n1+l)).toList:=λx hx=>by
  obtain⟨j,_,_,e⟩:=rR hx;exact kk x (by have:=ba (by rw[DD];exact e:(arrOf st).toList[j]?=some x);exact this)
 have zA:((arrOf st).extract k n1).size=n1-k:=by rw[afm];omega
 have zB:((arrOf st).extract n1 (n1+l)).size=l:=by rw[afm];omega
 have gA:∀i,i<n1-k->((arrOf st).extract k n1)[i]?=(arrOf st)[k+i]?:=λi hi=>by rw[Array.getElem?_extract,uu 'Z']
 have gB:∀i,i<l->((arrOf st).extract n1 (n1+l))[i]?=(arrOf st)[n1+i]?:=λi hi=>by rw[Array.getElem?_extract,uu 'Z']
 have first:∀x y,((arrOf st).extract n1 (n1+l))[0]?=some x->((arrOf st).extract k n1)[0]?=some y->κ.kle (kf κ x) (kf κ y):=λx y ex ey=>by
  rw[gB 0 'Z']at ex;rw[gA 0 'Z']at ey;have:=k3 k (br _) 'Z';rw[<- cv (κ:=κ) eb]at this;rw[<- cv (κ:=κ) ex,<- cv (κ:=κ) ey];exact Lo this
 have last:∀x∈((arrOf st).extract n1 (n1+l)).toList,∀y,((arrOf st).extract k n1)[((arrOf st).extract k n1).size-1]?=some y->κ.kle (kf κ x) (kf κ y):=λx hx y ey=>by
  obtain⟨j,j1,j2,e⟩:_:=rR hx;rw[zA,gA _ 'Z',show k+(n1-k-1)=n1-1 by omega,ea]at ey;cases ey;have:=l2 (j-n1) 'Z';rw[show n1+(j-n1)=j by omega,cv e]at this;exact Lo this
 suffices J:∀(m:Array Keyed) g,Gd κ ((arrOf st).extract k n1).toList ((arrOf st).extract n1 (n1+l)).toList m.toList->wpS (model prog w) A E s (jp m) Q (eX (SortSt.mk' (kindOf st) (arrOf st) P (gallopOf st) (failedOf st)) g) by
  split
  ·exact ue (Y7 C (a:=(arrOf st).extract k n1) (b:=(arrOf st).extract n1 (n1+l)) hB.kind Rl Rm sA sB (by rw[zA];omega) (by rw[zB];omega) first last J)
  ·exact ue (Zi C (a:=(arrOf st).extract k n1) (b:=(arrOf st).extract n1 (n1+l)) hB.kind Rl Rm sA sB (by rw[zA];omega) (by rw[zB];omega) first last J)
 intro m g gd;rw[fX]
 nofun
 have lm:m.toList.length=(n1-k)+l:=by
  rw[gd.1.length_eq,vc,NJ,NJ,zA,zB]
 have eL:=Ki k m.toList 0 (arrOf st) 'Z';rw[Nat.add_zero,lm,show k+(n1-k+l)=n1+l by omega]at eL;refine ue (aba (ue (afu ?_)));have fin:∀xs:Array Keyed,xs.toList=(arrOf st).toList.take k++m.toList++(arrOf st).toList.drop (n1+l)->xs.Perm a0/\∀i j,i<=j->j<a0.size->κ.kle (kA κ xs i) (kA κ xs j):=λxs ex=>by
  have hp:xs.toList.Perm (arrOf st).toList:=by
   rw[ex];have e1:(arrOf st).toList=(arrOf st).toList.take k++(((arrOf st).extract k n1).toList++((arrOf st).extract n1 (n1+l)).toList)++(arrOf st).toList.drop (n1+l):=by
    rw[u9,u9];have t1:(arrOf st).toList.take k++((arrOf st).toList.take n1).drop k=(arrOf st).toList.take n1:=by
     have:=EU k ((arrOf st).toList.take n1);rwa [List.take_take,afT 'Z']at this
    have t2:(arrOf st).toList.take n1++((arrOf st).toList.take (n1+l)).drop n1=(arrOf st).toList.take (n1+l):=by
     have:=EU n1 ((arrOf st).toList.take (n1+l));rwa [List.take_take,afT 'Z']at this
    rw[<- CS,t1,t2,EU]
   exact(VT _ (Nl _ gd.1)).trans (by rw[<- e1])
  refine⟨(aeg.mpr hp).trans hB.perm,λi j bY hj=>?_⟩;have hs:fI κ xs.toList:=by
   rw[ex];have mm:∀x∈m.toList,(∃j,k<=j/\j<n1/\(arrOf st)[j]?=some x)\/(∃j,n1<=j/\j<n1+l/\(arrOf st)[j]?=some x):=λx hx=>by
    obtain z|z:=qr.mp (gd.1.mem_iff.mp hx)
    ·exact .inl (rR z)
    ·exact .inr (rR z)
   have mT:∀x∈(arrOf st).toList.take k,∃j,j<k/\(arrOf st)[j]?=some x:=λx hx=>pJ hx
   have mD:∀x∈(arrOf st).toList.drop (n1+l),∃j,n1+l<=j/\j<a0.size/\(arrOf st)[j]?=some x:=λx hx=>by
    rw[<- rQ]at hx;obtain⟨j,j1,j2,e⟩:_:=rR hx;exact⟨j,j1,'Z',e⟩
   refine dI.mpr ⟨dI.mpr ⟨?_,gd.2,λx hx y hy=>?_⟩,?_,λx hx y hy=>?_⟩
   ·rw[<- uZ];exact yC (λa b z1 z2 z3=>dn a b z2 'Z') 'Z'
   ·obtain⟨i,i1,ei⟩:=mT x hx;rw[<- cv (κ:=κ) ei];obtain⟨j,j1,j2,ej⟩|⟨j,j1,j2,ej⟩:_:=mm y hy
    ·rw[<- cv (κ:=κ) ej];exact dn i j 'Z' j2
    ·rw[<- cv (κ:=κ) ej];have:=k2 i i1;rw[<- cv (κ:=κ) eb]at this;exact Cs this (up n1 j (br _) j1 'Z')
   ·rw[<- rQ];exact yC (λa b z1 z2 z3=>up a b 'Z' z2 'Z') (br _)
   ·obtain⟨j,j1,j2,ej⟩:=mD y hy;rw[<- cv (κ:=κ) ej];have tail:∀i,i<n1->κ.kle (kA κ (arrOf st) i) (kA κ (arrOf st) j):=λi hi=>by
     have:=l3 (j-n1) 'Z' 'Z';rw[<- cv (κ:=κ) ea,show n1+(j-n1)=j by lia]at this;exact Cs (dn i (n1-1) 'Z' 'Z') this
    obtain z|z:=qr.mp hx
    ·obtain⟨i,i1,ei⟩:_:=mT x z;rw[<- cv (κ:=κ) ei];exact tail i 'Z'
    ·obtain⟨i,i1,i2,ei⟩|⟨i,i1,i2,ei⟩:=mm x z
     ·rw[<- cv (κ:=κ) ei];exact tail i i2
     ·rw[<- cv (κ:=κ) ei];exact up i j i1 'O' j2
  refine oj hs bY ?_;rw[<- NJ,hp.length_eq,NJ];omega
 obtain⟨f1,f2⟩:=fin _ eL;have:=AL (M:=model prog w) (A:=A) (E:=E) (s:=s) (a:=true) (Q:=Q) (h (SortSt.mk' (kindOf st) ((m.toList.zipIdx 0).foldl (λa x=>a.setIfInBounds (k+x.2) x.1) (arrOf st)) P g (failedOf st)) ⟨f1,hB.fail,hP,f2⟩);show wpS (model prog w) A E s (pure (failedOf st).isNone) Q _;have e:(failedOf st).isNone=true:=by rw[hB.fail];rfl
 rw[e];exact this
end
theorem ZF {n:Nat}(h2 : 2<=n)(h:n<128):n<=2*minRun' n n 0/\minRun' n n 0<=n:=by
 obtain⟨f,rfl⟩:∃f,n=f+2:=⟨n-2,'O'⟩
 have e:minRun' (f+2) (f+2) 0=if f+2<64 then f+2+0 else if(f+2)/2<64 then (f+2)/2+max 0 ((f+2)%2)else minRun' f ((f+2)/2/2) (max (max 0 ((f+2)%2)) ((f+2)/2%2)):=by
  rw[minRun'_succ,minRun'_succ]
 rw[e];split
 ·lia
 ·rw[uu 'O'];lia
section
theorem XW (C:jC prog w A E s kd κ)(k0:Kd κ a0.toList){st:SortSt}(hB:SB kd a0 #[] 0 a0 st)(h2 : 2<=a0.size)(zZ:a0.size<128)(h:∀ai,(arrOf ai).Perm a0->failedOf ai=none->(∀i j,i<=j->j<a0.size->κ.kle (kA κ (arrOf ai) i) (kA κ (arrOf ai) j))->Q () ai):wpS (model prog w) A E s sortRuns' Q st:=by
 obtain⟨m1,m2⟩:=ZF h2 zZ;refine ue (afu ?_);rw[hB.size]
 ac_rfl
 obtain⟨mr,Ro⟩:∃mr,minRun' a0.size a0.size 0=mr:=⟨_,rfl⟩
 rw[Ro]at m1 m2;rw[show(sortPriv% PySem.Builtin.minRun) a0.size a0.size 0=mr from Ro];refine ue (adL (NG (I:=λt c ai=>(t=0/\c=(none,0)/\SB kd a0 #[] 0 a0 ai) \/
   (t=1/\∃n1,c=(none,n1)/\1<=n1/\n1<=a0.size/\mr<=n1/\SB kd a0 #[(0,n1,0)] 0 a0 ai/\SS κ (arrOf ai) 0 n1) \/
   (2<=t/\∃n1 pw,c=(none,a0.size)/\1<=n1/\n1<a0.size/\SB kd a0 #[(0,n1,pw),(n1,a0.size-n1,0)] 0 a0 ai/\SS κ (arrOf ai) 0 n1/\SS κ (arrOf ai) n1 (a0.size-n1)))
  (Q:=λc ai=>c.1=none/\((SB kd a0 #[(0,a0.size,0)] 0 a0 ai/\SS κ (arrOf ai) 0 a0.size)\/∃n1 pw,1<=n1/\n1<a0.size/\SB kd a0 #[(0,n1,pw),(n1,a0.size-n1,0)] 0 a0 ai/\SS κ (arrOf ai) 0 n1/\SS κ (arrOf ai) n1 (a0.size-n1))) ?_ ?_ (.inl ⟨rfl,rfl,hB⟩)) ?_)
 ·rintro t c ai _ ht (⟨rfl,rfl,hB⟩|⟨rfl,n1,rfl,b1,b2,b3,hB,s1⟩|⟨t2,n1,pw,rfl,b1,b2,hB,s1,s2⟩)
  ·ac_rfl
   rw[rf (by show ¬0>=a0.size;lia)];refine ue (Np C k0 hB (by show 1<=a0.size-0;lia) (by show 0+(a0.size-0)<=a0.size;lia) λm a7 nF r1 r2 hs=>?_)
   nofun
   (rw[show m=id m from rfl];extract_lets +onlyGivenNames -merge -underBinder acR;subst acR;(try dsimp -zeta only[id]))
   extract_lets +onlyGivenNames -merge -underBinder O5
   obtain⟨jp,fX⟩:∃z,z=O5:=⟨O5,rfl⟩
   rw[<- fX]
   suffices J:∀n a7,SB kd a0 #[] 0 a0 a7->1<=n->n<=a0.size->mr<=n->SS κ (arrOf a7) 0 n->wpS (model prog w) A E s (jp () n) _ a7 by
    by_cases bC:m<mr
    ·rw[uu bC];refine ue (afI (adQ ⟨rfl,?_⟩))
     ac_rfl
     rw[show min (a0.size-0) mr=mr by lia];refine ue (Nu C k0 nF 'Z' 'Z' hs λfS Hy gQ=>?_);rw[rf 'Q']
     ac_rfl
     exact J _ _ Hy 'O' m2 (br _) gQ
    ·rw[rf bC];exact J _ _ nF r1 'Z' 'Z' hs
   intro n a7 hB r1 r2 r3 hs;rw[fX]
   nofun
   refine ue (afu ?_)
   skip
   extract_lets +onlyGivenNames -merge -underBinder O6
   obtain⟨wO,ky⟩:∃z,z=O6:=⟨O6,rfl⟩
   rw[<- ky];rw[show(pendingOf a7).back?=none by rw[hB.pend];rfl]
   nofun
   rw[ky]
   nofun
   refine ue (aba ?_)
   ac_rfl
   refine AL (.inr (.inl ⟨rfl,n,by show(none,0+n)=(none,n);rw[WS],r1,r2,r3,⟨hB.perm,hB.kind,hB.fail,?_,hB.low⟩,hs⟩));show(pendingOf a7).push _=_;rw[hB.pend];rfl
  ·ac_rfl
   by_cases full:n1>=a0.size
   ·rw[uu (full)];have:n1=a0.size:='O'
    subst this;exact AL ⟨rfl,.inl ⟨hB,s1⟩⟩
   rw[rf (full)];have hB1:SB kd a0 #[(0,n1,0)] n1 (arrOf ai) ai:=⟨hB.perm,hB.kind,hB.fail,hB.pend,λ_ _=>rfl⟩
   refine ue (Np C k0 hB1 (by show 1<=a0.size-n1;omega) (by show n1+(a0.size-n1)<=a0.size;omega) λm a7 nF r1 r2 hs=>?_)
   nofun
   (rw[show m=id m from rfl];extract_lets +onlyGivenNames -merge -underBinder acS;subst acS;(try dsimp -zeta only[id]))
   extract_lets +onlyGivenNames -merge -underBinder O7
   obtain⟨jp,fX⟩:∃z,z=O7:=⟨O7,rfl⟩
   rw[<- fX]
   suffices J:∀a7,SB kd a0 #[(0,n1,0)] n1 (arrOf ai) a7->SS κ (arrOf a7) n1 (a0.size-n1)->wpS (model prog w) A E s (jp () (a0.size-n1)) _ a7 by
    by_cases bC:m<mr
    ·rw[uu bC];refine ue (afI (adQ ⟨rfl,?_⟩))
     ac_rfl
     rw[show min (a0.size-n1) mr=a0.size-n1 by lia];refine ue (Nu C k0 nF 'Z' 'Z' hs λfS Hy gQ=>?_)
     ac_rfl
     exact J _ Hy gQ
    ·rw[rf bC];have:m=a0.size-n1:='Z'
     subst this;exact J _ nF hs
   intro a7 hB hs;have s1':SS κ (arrOf a7) 0 n1:=λi j bY hj=>by
    have:=s1 i j bY hj;rwa [ph (hB.low (0+i) 'Z'),ph (hB.low (0+j) 'Z')]
   rw[fX]
   nofun
   refine ue (afu ?_)
   skip
   extract_lets +onlyGivenNames -merge -underBinder Nv
   obtain⟨wO,ky⟩:∃z,z=Nv:=⟨Nv,rfl⟩
   rw[<- ky];rw[show(pendingOf a7).back?=some (0,n1,0) by rw[hB.pend];rfl]
   nofun
   ac_rfl
   generalize (sortPriv% PySem.Builtin.power) a0.size (2*0+n1) (2*0+n1+n1+(a0.size-n1)) a0.size=pw;refine ue (adL (NG (I:=λt c ai=>ai=a7/\c=(none,())) ?_ (λc ai z=>z) ⟨rfl,rfl⟩) ?_)
   ·rintro t c fS _ _ ⟨rfl,rfl⟩;refine ue (afu ?_);show wpS (model prog w) A E s (match if(pendingOf fS).size>1 then (pendingOf fS)[(pendingOf fS).size-2]? else none with|_=>_) _ fS;rw[rf (by rw[hB.pend];show ¬1>1;omega)];exact AL ⟨rfl,rfl⟩
   ·rintro c fS ⟨rfl,rfl⟩
    ac_rfl
    nofun
    refine ue (aba ?_);rw[ky]
    nofun
    refine ue (aba ?_)
    ac_rfl
    refine AL (.inr (.inr ⟨br _,n1,pw,by show(none,n1+(a0.size-n1))=(none,a0.size);rw[show n1+(a0.size-n1)=a0.size by omega],b1,'Z',⟨hB.perm,hB.kind,hB.fail,?_,λi hi=>'Z'⟩,s1',hs⟩));show((pendingOf fS).modify ((pendingOf fS).size-1) _).push _=_;rw[hB.pend];rfl
  ·ac_rfl
   rw[uu (by show a0.size>=a0.size;exact br _)];exact AL ⟨rfl,.inr ⟨n1,pw,b1,b2,hB,s1,s2⟩⟩
 ·rintro c ai (⟨z,_⟩|⟨z,_⟩|⟨t2,n1,pw,rfl,b1,b2,hB,s1,s2⟩)
  ·omega
  ·omega
  ·exact⟨rfl,.inr ⟨n1,pw,b1,b2,hB,s1,s2⟩⟩
 ·rintro c ai ⟨e,Hu⟩;obtain⟨c1,c2⟩:=c;subst e
  ac_rfl
  nofun
  refine ue (adL (NG (I:=λt c a7=>c=(none,())/\((t=0/\a7=ai)\/(Gq kd κ a0 a7)))
   (Q:=λc a7=>c=(none,())/\Gq kd κ a0 a7) ?_ ?_ ⟨rfl,.inl ⟨rfl,rfl⟩⟩) ?_)
  ·rintro t c a7 _ ht ⟨rfl,z⟩
   nofun
   refine ue (afu ?_);obtain⟨rfl,rfl⟩|f:=z
   ·obtain⟨hB,hs⟩|⟨n1,pw,b1,b2,hB,s1,s2⟩:_:=Hu
    ·have Hz:(pendingOf a7).size=1:=by rw[hB.pend];rfl
     ac_rfl
     rw[uu (by show(pendingOf a7).size<=1;lia)];exact AL ⟨rfl,⟨hB.perm,hB.fail,by rw[hB.pend];rfl,λi j bY hj=>by have:=hs i j bY hj;rwa [WS,WS]at this⟩⟩
    ·have AD:(pendingOf a7).size=2:=by rw[hB.pend];rfl
     ac_rfl
     rw[rf (by show ¬(pendingOf a7).size<=1;lia)]
     ac_rfl
     refine ue ?_;rw[rf (c:=(pendingOf a7).size-2>0) 'Z',rf (by rw[Option.any_none];decide),AD];refine VA C k0 hB b1 b2 s1 s2 λfS f=>?_
     exact AL ⟨rfl,.inr f⟩
   ·ac_rfl
    rw[uu (by show(pendingOf a7).size<=1;rw[f.one];decide)];exact AL ⟨rfl,f⟩
  ·rintro c a7 ⟨rfl,z⟩;obtain⟨z,_⟩|f:=z
   ·omega
   ·exact⟨rfl,f⟩
  ·rintro c a7 ⟨rfl,f⟩
   ac_rfl
   nofun
   exact AL (h a7 f.perm f.fail f.wM)
end
def lexLt:LI->LI->Bool
 |[],[] => false
 |[],_::_=>true
 |_::_,[] => false
 |x::xs,y::ys=>if x=y then lexLt xs ys else decide (x<y)
theorem Dp:∀a,lexLt a a=false
 |[] => rfl
 |x::xs=>by unfold lexLt;rw[uu rfl];exact Dp xs
theorem Ej:∀a b c,lexLt a b=true->lexLt b c=true->lexLt a c=true
 |[],[],_=>λh _=>by cases h
 |[],_::_,[] => λ_ h=>by cases h
 |[],_::_,_::_=>λ_ _=>rfl
 |_::_,[],_=>λh _=>by cases h
 |_::_,_::_,[] => λ_ h=>by cases h
 |x::xs,y::ys,z::zs=>λh1 h2=>by
  unfold lexLt at h1 h2 ⊢;by_cases e1:x=y
  ·subst e1;rw[uu rfl]at h1;by_cases e2:x=z
   ·subst e2;rw[uu rfl]at h2 ⊢;exact Ej xs ys zs h1 h2
   ·simp_all
  ·grind
theorem Em:∀a b c,lexLt a c=true->lexLt a b=true\/lexLt b c=true
 |[],[],c,h=>.inr h
 |[],_::_,_,_=>.inl rfl
 |_::_,_,[],h=>by cases h
 |_::_,[],_::_,_=>.inr rfl
 |x::xs,y::ys,z::zs,h=>by
  unfold lexLt at h ⊢;by_cases e1:x=y
  ·subst e1;rw[uu rfl];by_cases e2:x=z
   ·subst e2;rw[uu rfl]at h ⊢;exact Em xs ys zs h
   ·simp_all
  ·lia
theorem Dq:∀a b,lexLt a b=false->lexLt b a=false->a=b
 |[],[] => λ_ _=>rfl
 |[],_::_=>λh _=>by cases h
 |_::_,[] => λ_ h=>by cases h
 |x::xs,y::ys=>λh1 h2=>by
  unfold lexLt at h1 h2;by_cases e1:x=y
  ·subst e1;rw[uu rfl]at h1 h2;rw[Dq xs ys h1 h2]
  ·lia
def intsOf:List vn->Option (LI)
 |[] => some []
 | .int n _::r=>(intsOf r).map (n :: ·)
 |_::_=>none
def eJ (h:Heap):vn->Option (LI)
 | .ref t=>match h.get? t with
  |some ⟨.type "tuple",_,.seq vs _,_⟩=>intsOf vs.toList
  |_=>none
 |_=>none
def kT (h:Heap):KeyKind:={α:=LI,blt:=lexLt,irrefl:=Dp,trans:=Ej,negTrans:=Em,total:=Dq,keyOf:=eJ h,dflt:=[]}
theorem ints_of (h:IntsAre vs ns):intsOf vs=some ns:=by
 induction h with
 |nil=>rfl
 |cons n t _ ih=>show(intsOf _).map _=_;rw[ih];rfl
theorem Ly:∀{vs:List vn} {ns:LI},intsOf vs=some ns->IntsAre vs ns
 |[],_,h=>by cases h;exact .nil
 | .int n t::r,_,h=>by
  have h':(intsOf r).map (n :: ·)=some _:=h;cases e:intsOf r with
  |none=>rw[e]at h';cases h'
  |some ms=>rw[e]at h';cases h';exact .cons n t (Ly e)
 | .none::_,_,h=>by cases h
 | .ellipsis::_,_,h=>by cases h
 | .notImplemented::_,_,h=>by cases h
 | .bool _::_,_,h=>by cases h
 | .float _ _::_,_,h=>by cases h
 | .str _ _::_,_,h=>by cases h
 | .bytes _ _::_,_,h=>by cases h
 | .type _::_,_,h=>by cases h
 | .builtin _::_,_,h=>by cases h
 | .ref _::_,_,h=>by cases h
theorem Nx (p:IsTup h t ws.toArray)(q:IntsAre ws ns):eJ h (.ref t)=some ns:=by
 obtain⟨⟨c,d,dt,sl⟩,ho,hc,n,hd⟩:_:=p;subst hc hd;show(match h.get? t with|some ⟨.type "tuple",_,.seq vs _,_⟩=>intsOf vs.toList|_=>none)=_;rw[ho];exact ints_of q
theorem yW (e:eJ h v=some ns):∃t ws,v=.ref t/\IsTup h t ws.toArray/\IntsAre ws ns:=by
 unfold eJ at e;split at e
 next t=>
  split at e
  next o d vs n sl ho=>exact⟨t,vs.toList,rfl,⟨_,ho,rfl,n,'X'⟩,Ly e⟩
  next=>cases e
 next=>cases e
section
theorem Cr (p:IsTup s.heap t ws)(h:Q ws s):wpAny (model prog w) A (Builtin.List.listItems (.ref t)) Q E s:=by
 obtain⟨o,ho,hc,n,hd⟩:_:=p;exact listItems_at ho hd h
theorem ZG (h:Q (decide (a<b)) s):wpAny (model prog w) A (oneLt' false (.int a t) (.int b u)) Q E s:=by
 rw[oneLt'_eq];refine ab ?_;exact wpAny_lt_int (YI h)
theorem ZH (h:Q (decide (a<b)) s):wpAny (model prog w) A (oneLt' c (.int a t) (.int b u)) Q E s:=by
 cases c with
 |true=>exact oneLt_int h
 |false=>exact ZG h
theorem ZI {g:((vn×vn)×Nat)->(Option Bool×Unit)->Sem (ForInStep (Option Bool×Unit))}(hg:∀(m n:Int) (t t':Tok) (i:Nat) (Q:ForInStep (Option Bool×Unit)->adJ->Prop),(m≠n->Q (.done (some (decide (m<n)),())) s)->(m=n->Q (.yield (none,())) s)->wpAny (model prog w) A (g ((.int m t,.int n t'),i) (none,())) Q E s):
  ∀{us vs:List vn} {ms ns:LI},IntsAre us ms->IntsAre vs ns->∀(k:Nat) (Q:Option Bool×Unit->adJ->Prop),(lexLt ms ns=decide (us.length<vs.length)->Q (none,()) s)->Q (some (lexLt ms ns),()) s ->
   wpAny (model prog w) A (forIn ((us.zip vs).zipIdx k) ((none,()):Option Bool×Unit) g) Q E s:=by
 intro us vs ms ns hu
 induction hu generalizing vs ns with
 |nil=>
  intro hv k Q h _;cases hv with
  |nil=>exact wpAny_pure (h rfl)
  |cons n t hr=>exact wpAny_pure (h (by rw[EO 'Y'];rfl))
 |cons m t hu ih=>
  intro hv k Q h h2;cases hv with
  |nil=>exact wpAny_pure (h (by rw[LG 'Y'];rfl))
  |cons n t' hv=>
   rw[List.zip_cons_cons,List.zipIdx_cons,List.forIn_cons];unfold lexLt at h h2;refine ab (hg m n t t' k _ (λe=>?_) (λe=>?_))
   ·rw[rf e]at h2;exact wpAny_pure h2
   ·rw[uu e]at h h2;exact ih hv (k+1) Q (λz=>h (by rw[z];simp)) h2
theorem XX:jC prog w A E s (tuples' true) (kT s.heap) where
 lt st x y Q hk k1 k2 h:=by
  obtain⟨ms,e1⟩:=aeu.mp k1;obtain⟨ns,e2⟩:=aeu.mp k2;have f1:kf (kT s.heap) x=ms:=by unfold kf;rw[e1];rfl
  have f2:kf (kT s.heap) y=ns:=by unfold kf;rw[e2];rfl
  rw[f1,f2]at h;obtain⟨t,us,ex,px,ix⟩:_:=yW e1;obtain⟨t',vs,ey,py,iy⟩:_:=yW e2;rw[lt'_eq];refine ue (afu ?_);rw[hk,ex,ey];refine ue (afI (ae4 ?_));refine ab (Cr px (ab (Cr py ?_)));refine ab (ZI (λm n t t' i Q q1 q2=>?_) ix iy 0 _ (λe=>?_) ?_)
  ·refine ab (wpAny_eqBool_int ?_);by_cases e:m=n
   ·rw[show(m==n)=true by simpa using e];exact wpAny_pure (q2 e)
   ·rw[show(m==n)=false by simpa using e];exact ab (ZH (wpAny_pure (q1 e)))
  ·refine wpAny_pure ⟨rfl,AL ?_⟩;rw[Co,Co,<- e];exact h
  ·exact wpAny_pure ⟨rfl,AL h⟩
theorem Ny:∀{vs:List vn},(∀v∈vs,∃n ns,eJ s.heap v=some (n::ns))->∀Q,(∀fs:List (Int×Tok),fs.length=vs.length->Q (fs.map λp=>some (.int p.1 p.2)) s) ->
  wpAny (model prog w) A (vs.mapM firstOfTuple') Q E s
 |[] => λ_ Q h=>by exact wpAny_pure (h [] rfl)
 |v::vs=>λhv Q h=>by
  obtain⟨n,ns,e⟩:=hv v (.head _);obtain⟨t,ws,rfl,pt,it⟩:=yW e;cases it with
  |cons _ tk it=>
   rw[List.mapM_cons];refine ab ?_;obtain⟨o,ho,hc,m,hd⟩:_:=id pt;refine ab (wpAny_typeOf ⟨o,ho,hc⟩ ?_);refine ab (Cr pt (wpAny_pure ?_));refine ab (Ny (λv lZ=>hv v (.tail _ lZ)) _ λfs hf=>wpAny_pure ?_);exact h ((n,tk)::fs) 'J'
theorem JM:∀(fs:List (Int×Tok)),(fs.map λp=>Value.int p.1 p.2).mapM typeOf=pure (fs.map λ_=>Value.type "int")
 |[] => by simp
 |p::fs=>by
  rw[JJ,List.mapM_cons,JM fs]
  rfl
theorem W2 (hv:∀v∈vs,∃n ns,eJ s.heap v=some (n::ns))(ne:vs≠[])(h:Q (tuples' true) s):wpAny (model prog w) A (keyKind' vs.toArray) Q E s:=by
 rw[keyKind'_eq,List.mapM_toArray];refine ab ?_;refine ab (Ny hv _ λfs hf=>wpAny_pure ?_);rw[uu 'Y'];refine ab (adQ ?_);have e1:((fs.map λp=>some (Value.int p.1 p.2)).toArray.filterMap id)=(fs.map λp=>Value.int p.1 p.2).toArray:=by
  simp[List.filterMap_map]
 rw[e1,oneTypeOnly'_eq,List.mapM_toArray,JM];simp only[map_pure,pure_bind];have h0:(fs.map λ_=>Value.type "int").toArray[0]?=some (Value.type "int"):=by
  cases fs with
  |nil=>
   cases vs with
   |nil=>exact absurd rfl ne
   |cons _ _=>cases hf
  |cons p fs=>simp
 have fQ:((fs.map λ_=>Value.type "int").toArray.all λx=>x==Value.type "int")=true:=by
  simp only[List.all_toArray,List.all_map,adZ];intro _ _
  rfl
 rw[h0];simp[fQ];exact wpAny_pure h
end
def qc (h:Heap)(v:vn):LI:=(eJ h v).getD []
def qd (h:Heap)(l:List vn):Prop:=l.Pairwise λx y=>lexLt (qc h y) (qc h x)=false
section
theorem CO (e:eJ h v=some ns)(k:∀t o,v=.ref t->h.get? t=some o->o.cls=.type "tuple"->h'.get? t=some o):eJ h' v=some ns:=by
 obtain⟨t,ws,rfl,⟨o,ho,hc,n,hd⟩,it⟩:_:=yW e;exact Nx ⟨o,k t o rfl ho hc,hc,n,hd⟩ it
theorem mem_zip_self {α:Type}:∀{l:List α} {p : α×α},p∈l.zip l->p.1=p.2/\p.1∈l
 |x::l,p,h=>by
  obtain rfl|z:=ff.mp h
  ·simp_all
  ·have:=mem_zip_self z
   grind
theorem Lz {α:Type}:∀l:List α,(l.zip l).map Prod.snd=l
 |[] => rfl
 |x::l=>by rw[List.zip_cons_cons,JJ,Lz l]
theorem JN (hp:xs.Perm (pairsOf vs))(hs:∀i j,i<=j->j<(pairsOf vs).size->(kT h).kle (kA (kT h) xs i) (kA (kT h) xs j)):
  (xs.map (·.2)).toList.Perm vs/\qd h (xs.map (·.2)).toList:=by
 have hl:xs.toList.Perm (vs.zip vs):=by
  have:=aeg.mp hp;unfold pairsOf at this
  simp_all
 refine⟨?_,?_⟩
 ·rw[Array.toList_map];have:=hl.map Prod.snd;rwa [Lz]at this
 ·unfold qd;rw[Array.toList_map,RI,OK];intro i j hi hj bY;have oQ:j<(pairsOf vs).size:=by rw[<- hp.size_eq];exact hj
  have:=hs i j 'O' oQ;have gt:∀c (hc),kA (kT h) xs c=qc h (xs.toList[c]).2:=λc hc=>by
   have e:xs[c]?=some (xs.toList[c]):='J'
   rw[cv e];have:=(mem_zip_self (hl.mem_iff.mp (ad1 hc))).1;rw[<- this]
   rfl
  rw[gt i hi,gt j hj]at this;exact this
theorem Jb (ho:s.heap.get? a=some (seqObj "list" vs.toArray n))(hv:∀v∈vs,∃n ns,eJ s.heap v=some (n::ns))(zZ:vs.length<128)(h:∀out:Array vn,out.toList.Perm vs->qd s.heap out.toList->P (.done (.ret .none)) {s with heap:=sortedHeap s.heap a vs out}):wpAny (model prog w) A (Builtin.«list.sort» ⟨[.ref a],[]⟩) P E s:=by
 rw[list_sort_plain];have ha:a<s.heap.objs.size:=nt ho;refine ab (listItems_at ho rfl (ab (listUpdate_at ho rfl ?_)));obtain⟨e1,wQ⟩:∃e1,(s.heap.update a (Obj.mapSeq λ_=>#[])).get? a=some (seqObj "list" #[] e1):=⟨_,get?_update_seq ho (λ_=>#[])⟩
 refine ab (seqEpoch_at wQ rfl (ab (wpAny_newTuple (ab (wpAny_newList (Sm ?_))))));obtain⟨hB,eB⟩:∃hB,hB=((s.heap.update a (Obj.mapSeq λ_=>#[])).push (seqObj "tuple" vs.toArray 0)).push (seqObj "list" #[] 0):=⟨_,rfl⟩
 have qS:hB.get? a=some (seqObj "list" #[] e1):=by
  rw[eB,YO _ _ _ (by rw[size_push',aeV];exact AS (aec ha)),YO _ _ _ (by rw[aeV];exact AS ha)];exact wQ
 have keep:∀t o,s.heap.get? t=some o->t≠a->hB.get? t=some o:=λt o e ne=>by
  have lt:=nt e;rw[eB,YO _ _ _ (by rw[size_push',aeV];exact AS (aec lt)),YO _ _ _ (by rw[aeV];exact AS lt),(OP ..).2 t ne];exact e
 have keys:∀v ns,eJ s.heap v=some ns->eJ hB v=some ns:=λv ns e=>CO e λt o _ ht hc=>keep t o ht λz=>by
  rw[z,ho]at ht;cases ht;exact absurd (Value.type.inj hc) 'Q'
 have fin:∀out:Array vn,out.toList.Perm vs->qd hB out.toList->P (.done (.ret .none)) {s with heap:=sortedHeap s.heap a vs out}:=λout hp hs=>by
  refine h out hp (hs.imp_of_mem λ{x y} hx hy z=>?_);obtain⟨n1,ns1,q1⟩:=hv x (hp.mem_iff.mp hx);obtain⟨n2,ns2,q2⟩:=hv y (hp.mem_iff.mp hy);unfold qc at z ⊢;rw[keys _ _ q1,keys _ _ q2]at z;rw[q1,q2];exact z
 have last:∀out,out.size<=1000->sortedHeap s.heap a vs out=hB.update a (Obj.mapSeq λ_=>out):=λout _=>by rw[eB];rfl
 rw[<- eB];have cT:vs.toArray.size=vs.length:='Y'
 have line:=afF;by_cases h2:vs.toArray.size<2
 ·rw[uu h2,uu h2];refine ab (wpAny_pure ?_);refine ab (wpAny_pure ?_);have pp:(pairsOf vs).Perm (pairsOf vs):=Array.Perm.refl _;obtain⟨f1,f2⟩:=JN pp λi j bY hj=>by
   rw[afn]at hj;have:i=j:='O'
   subst this;exact NH _
  have sz:((pairsOf vs).map (·.2)).size=vs.length:=by rw[Array.size_map,afn]
  refine ab (seqEpoch_at (s:={s with heap:=hB}) qS rfl ?_);refine ab (listUpdate_at (s:={s with heap:=hB}) qS rfl ?_ (hsz2:=by show((pairsOf vs).map (·.2)).size<=_;lia));simp only[afA,afk,if_false];have:=fin _ f1 f2;rw[last _ 'O']at this;exact wpAny_pure this
 ·rw[rf h2,rf h2];refine ab (W2 (λv lZ=>?_) (λz=>by rw[z]at h2;simp at h2) ?_)
  ·obtain⟨n,ns,e⟩:_:=hv v lZ;exact⟨n,ns,keys _ _ e⟩
  have k0:Kd (kT hB) (pairsOf vs).toList:=λx hx=>by
   unfold pairsOf at hx;rw[Array.toList_zip]at hx;obtain⟨n,ns,e⟩:_:=hv x.1 (mem_zip_self hx).2;show(eJ hB x.1).isSome=true;rw[keys _ _ e];rfl
  have run:=XW (prog:=prog) (w:=w) (A:=A) (E:=E) (s:={s with heap:=hB}) XX k0 (st:=SortSt.mk' (tuples' true) (pairsOf vs) #[] 7 none) ⟨Array.Perm.refl _,rfl,rfl,rfl,λ_ z=>absurd z (WJ _)⟩
   (Q:=λ_ ai=>(arrOf ai).Perm (pairsOf vs)/\failedOf ai=none/\∀i j,i<=j->j<(pairsOf vs).size->(kT hB).kle (kA (kT hB) (arrOf ai) i) (kA (kT hB) (arrOf ai) j)) (by rw[afn];lia) (by rw[afn];lia) λai p1 p2 p3=>⟨p1,p2,p3⟩
  refine ab (ae6 run ?_ λ_ _ e=>e);rintro⟨⟨⟩,ai⟩ s' ⟨rfl,hp,hf,hs⟩;obtain⟨f1,f2⟩:=JN hp hs;have sz:((arrOf ai).map (·.2)).size=vs.length:=by rw[Array.size_map,hp.size_eq,afn]
  refine ab (seqEpoch_at qS rfl ?_);refine ab (listUpdate_at qS rfl ?_);rw[hf];simp[afA];have:=fin _ f1 f2;rw[last _ (by show((arrOf ai).map (·.2)).size<=1000;lia)]at this;exact wpAny_pure this
theorem VB (hl:s.heap.IsList l vs.toArray)(hv:∀v∈vs,∃n ns,eJ s.heap v=some (n::ns))(zZ:vs.length<128)(h:∀out,out.toList.Perm vs->qd s.heap out.toList->Q (.ref (s.heap.objs.size+1)) {s with heap:=sortedAll s.heap vs out}):wpAny (model prog w) A (call (.builtin "sorted") [.ref l]) Q E s:=by
 refine Calls.call_function_entry kind_sorted plain_sorted entry_sorted (args_sorted1 _) ?_;refine ab (wpAny_pure (ab (collect_list hl (ab (wpAny_newList ?_)))));have z1:((s.heap.push (seqObj "list" #[] 0)).update s.heap.objs.size (Obj.mapSeq (·++vs.toArray))).objs.size=s.heap.objs.size+1:=by
  simp_all
 obtain⟨hC,eC⟩:∃hC,hC=((s.heap.push (seqObj "list" #[] 0)).update s.heap.objs.size (Obj.mapSeq (·++vs.toArray))).push (seqObj "list" vs.toArray 0):=⟨_,rfl⟩
 have oJ:hC.get? (s.heap.objs.size+1)=some (seqObj "list" vs.toArray 0):=by
  rw[eC,<- z1];exact BN _ rfl
 have keep:∀t o,s.heap.get? t=some o->hC.get? t=some o:=λt o e=>by
  have lt:=nt e;rw[eC,YO _ _ _ (by grind),(OP ..).2 t (AS lt),YO _ _ _ (AS lt)];exact e
 have keys:∀v ns,eJ s.heap v=some ns->eJ hC v=some ns:=λv ns e=>CO e λt o _ ht _=>keep t o ht
 rw[z1,<- eC];refine ab (Sm (US slot_list_sort ⟨_,oJ,rfl⟩ entry_list_sort (Jb oJ (λv lZ=>?_) zZ λout p1 p2=>⟨_,rfl,?_⟩) (args_list_sort _)))
 ·grind
 ·refine wpAny_pure ⟨_,rfl,?_⟩;have:=h out p1 (p2.imp_of_mem λ{x y} hx hy z=>?_)
  ·unfold sortedAll at this
   simp_all
  ·obtain⟨n1,ns1,q1⟩:=hv x (p1.mem_iff.mp hx);obtain⟨n2,ns2,q2⟩:=hv y (p1.mem_iff.mp hy);unfold qc at z ⊢
   grind
end
end So
namespace L2
open PySem PySem.Spec PyProof.Rows
def addrOf:vn->adG
 | .ref a=>a
 |_=>0
theorem Ct (h:l.Perm (ks.map Value.ref)):∃as:List adG,as.Perm ks/\l=as.map Value.ref:=by
 refine⟨l.map addrOf,?_,?_⟩
 ·have:=h.map addrOf;rw[gz]at this;rwa [show ks.map (addrOf∘Value.ref)=ks from(List.map_congr_left λ_ _=>rfl).trans (aeJ ks)]at this
 ·rw[gz];refine((List.map_congr_left λv hv=>?_).trans (aeJ l)).symm;obtain⟨a,_,rfl⟩:=i8.mp (h.mem_iff.mp hv)
  rfl
theorem Cu:∀as:List adG,Vals (as.map V.ref) (as.map Value.ref)
 |[] => .nil
 |a::as=>.cons rfl (Cu as)
theorem Kj {K:Frag}:∀{ns:LI} {vs:List V} {fq:List adG},aT K G H (ns.map λn=>Tr.fz (di n)) vs fq->vs=ns.map V.int/\fq=[]
 |[],vs,fq,h=>h
 |n::ns,vs,fq,h=>by
  obtain⟨v,r,f1,f2,rfl,rfl,⟨rfl,h1⟩,h2⟩:=h;obtain⟨rfl,rfl⟩:=Kj h2;rw[aS h1]
  simp_all
def HA (K:Frag)(R:List Tr->Bool->Prop):Sp:=λvs H Q _=>∃(G:Hp) (ts:List Tr) (fp:List adG) (b:Bool),aj G H/\aT K G H ts vs fp/\(∀a∈fp,G a=none)/\fp.Nodup/\R ts b/\∀H',Md fp H H'->Q (.bl b) H'
theorem W3 {K:Frag}{G H:Hp}(l:LI):aT K G H (l.map λn=>Tr.fz (di n)) (l.map V.int) []:=by
 have:=(ke (K:=K) (G:=G) (ns:=l)).jW (H:=H);rw[nV]at this;exact this
end L2
namespace Ts
open PySem PySem.SetTable
def qT (m:Nat)(p:Probe):Probe:=if p.more>0 then {p with j:=p.j+1,more:=p.more-1} else
 {p with j:=(leap m p.i p.perturb).1,more:=runEnd m (leap m p.i p.perturb).1-(leap m p.i p.perturb).1,i:=(leap m p.i p.perturb).1,perturb:=(leap m p.i p.perturb).2}
def fY (m i pt:Nat):Probe:={j:=i,more:=runEnd m i-i,i:=i,perturb:=pt,dummy:=none}
def p0 (m:Nat)(h:Int):Probe:=fY m (bits h%(m+1)) (bits h)
def go (m:Nat):Nat->Probe->Probe
 |0,p=>p
 |n+1,p=>go m n (qT m p)
theorem va (m:Nat):∀a b p,go m (a+b) p=go m b (go m a p)
 |0=>λb p=>by rw[WS];rfl
 |a+1=>λb p=>by rw[afo];exact va m a b _
theorem yX (m i pt:Nat):∀k r j,k<=r->go m k ⟨j,r,i,pt,none⟩=⟨j+k,r-k,i,pt,none⟩
 |0=>λr j _=>rfl
 |k+1=>λr j h=>by
  show go m k (qT m _)=_;have e:qT m ⟨j,r,i,pt,none⟩=⟨j+1,r-1,i,pt,none⟩:=by unfold qT;rw[uu (show r>0 by lia)]
  rw[e,yX m i pt k (r-1) (j+1) 'O',show j+1+k=j+(k+1) by lia,show r-1-k=r-(k+1) by lia]
theorem Qh (m i:Nat):runEnd m i-i<=9:=by unfold runEnd;split<;>lia
theorem Nz {m i:Nat}(h:i<=m):i<=runEnd m i/\runEnd m i<=m:=by unfold runEnd;split<;>lia
theorem Dr (m i pt:Nat):go m (runEnd m i-i+1) (fY m i pt)=fY m (leap m i pt).1 (leap m i pt).2:=by
 rw[va];unfold fY;rw[yX m i pt _ _ _ (br _),aev]
 rfl
def lp (m:Nat):Nat->Nat×Nat->Nat×Nat
 |0,s=>s
 |n+1,s=>lp m n (leap m s.1 s.2)
theorem O8 (m:Nat):∀L i pt,∃n,n<=10*L/\go m n (fY m i pt)=fY m (lp m L (i,pt)).1 (lp m L (i,pt)).2
 |0=>λi pt=>⟨0,'O',rfl⟩
 |L+1=>λi pt=>by
  obtain⟨n,h1,h2⟩:_:=O8 m L (leap m i pt).1 (leap m i pt).2;have:=Qh m i;exact⟨runEnd m i-i+1+n,'O',by rw[va,Dr,h2];rfl⟩
theorem NA (m:Nat):∀a b s,lp m (a+b) s=lp m b (lp m a s)
 |0=>λb s=>by rw[WS];rfl
 |a+1=>λb s=>by rw[afo];exact NA m a b _
theorem O9 (m:Nat):∀L s,(lp m L s).2=s.2/32^L
 |0,s=>by show s.2=s.2/32^0;rw[Nat.pow_zero,Nat.div_one]
 |L+1,s=>by
  show(lp m L _).2=_;rw[O9 m L,Nat.pow_succ,Nat.mul_comm,<- Nat.div_div_eq_div_mul]
  rfl
theorem Pb (m:Nat):∀L s,s.1<=m->(lp m L s).1<=m
 |0=>λs h=>h
 |L+1=>λs h=>Pb m L _ (YU (aeI _ (ad8 m)))
def it (m:Nat):Nat->Nat->Nat
 |0,i=>i
 |k+1,i=>it m k ((i*5+1)%(m+1))
theorem yY (m:Nat):∀a b i,it m (a+b) i=it m b (it m a i)
 |0,b,i=>by rw[WS];rfl
 |a+1,b,i=>by rw[afo];exact yY m a b _
theorem LA (m:Nat):∀k i,lp m k (i,0)=(it m k i,0)
 |0,i=>rfl
 |k+1,i=>by
  show lp m k ((i*5+1+0/32)%(m+1),0/32)=_;exact LA m k _
def Good (m:Nat):Prop:=m=7\/m=31\/m=127
theorem orb (hm:Good m):it m (m+1) 0=0/\∀j,j<=m->∃a,a<=m/\it m a 0=j:=by
 have key:∀m,it m (m+1) 0=0->((List.range (m+1)).all λj=>((List.range (m+1)).map λa=>it m a 0).contains j)=true->it m (m+1) 0=0/\∀j,j<=m->∃a,a<=m/\it m a 0=j:=λm h1 h2=>⟨h1,λj hj=>by
  have:=adZ.mp h2 j (l9.mpr 'O')
  grind⟩
 obtain rfl|rfl|rfl:=hm<;>exact key _ 'W' 'W'
theorem cover (hm:Good m)(hp:pt<2^64)(hi:i<=m)(hj:j<=m):∃L,L<=m+13/\(lp m L (i,pt)).1=j:=by
 obtain⟨o1,o2⟩:=orb hm;have z:(lp m 13 (i,pt)).2=0:=by
  rw[O9];exact Nat.div_eq_of_lt (ze hp 'Q')
 have l:=Pb m 13 (i,pt) hi;generalize hs:lp m 13 (i,pt)=s at z l;obtain⟨i',pt'⟩:=s;subst z;obtain⟨a,ha,ea⟩:=o2 i' l;obtain⟨b,hb,eb⟩:_:=o2 j hj;have:∃k,k<=m/\it m k i'=j:=by
  obtain h|h:=Nat.le_total a b
  ·exact⟨b-a,'O',by rw[<- ea,<- yY,show a+(b-a)=b by lia,eb]⟩
  ·obtain h|h:=Nat.eq_or_lt_of_le h
   ·subst h;exact⟨0,'O',by show i'=j;rw[<- ea,eb]⟩
   ·exact⟨m+1-a+b,'O',by rw[<- ea,<- yY,show a+(m+1-a+b)=(m+1)+b by lia,yY,o1,eb]⟩
 obtain⟨k,hk,e⟩:_:=this;exact⟨13+k,'O',by rw[NA,hs,LA,e]⟩
theorem HB:∀n (ns:List Nat),(∀j,j<n->j∈ns)->n<=ns.length
 |0=>λ_ _=>zd _
 |n+1=>λns h=>by
  have:=HB n (ns.erase n) λj hj=>(List.mem_erase_of_ne 'O').mpr (h j 'O')
  grind
theorem least {p:Nat->Prop}:∀{n:Nat},p n->∃k,k<=n/\p k/\∀i,i<k->¬p i:=by
 intro n
 induction n using Nat.strongRecOn with
 |_ n ih=>
  intro hn;by_cases h:∃i,i<n/\p i
  ·obtain⟨i,hi,pi⟩:_:=h;obtain⟨k,h1,h2,h3⟩:_:=ih i hi pi;exact⟨k,'O',h2,h3⟩
  ·exact⟨n,br _,hn,λi hi pi=>h ⟨i,hi,pi⟩⟩
def mj (m:Nat)(ns:List Nat)(h:Int)(j:Nat):Prop:=∃n,n<10*turns m/\(go m n (p0 m h)).j=j/\∀k,k<n->(go m k (p0 m h)).j∈ns
theorem mj.mono (r:mj m ns h j)(s:∀x∈ns,x∈ns'):mj m ns' h j:=
 by obtain⟨n,a,b,c⟩:=r;exact⟨n,a,b,λk hk=>s _ (c k hk)⟩
theorem LC (h:Int):bits h<2^64:=by
 unfold bits;lia
theorem W4 (hm:Good m)(h:Int)(hl:ns.length<=m):∃j,j∉ns/\j<=m/\mj m ns h j:=by
 obtain⟨j0,h0,h1⟩:∃j,j<=m/\j∉ns:=by
  apply ES;intro z;have:=HB (m+1) ns λj hj=>ES λq=>z ⟨j,'O',q⟩
  lia
 obtain⟨L,hL,eL⟩:_:=cover (i:=bits h%(m+1)) hm (LC h) (YU (aeI _ (ad8 m))) h0;obtain⟨n,hn,en⟩:_:=O8 m L (bits h%(m+1)) (bits h);have hpn:(go m n (p0 m h)).j∉ns:=by
  show(go m n (fY m _ _)).j∉ns;rw[en];show(lp m L _).1∉ns
  simp_all
 obtain⟨k,k1,k2,k3⟩:_:=least (p:=λn=>(go m n (p0 m h)).j∉ns) hpn;refine⟨(go m k (p0 m h)).j,k2,?_,k,?_,rfl,λi hi=>ES λq=>k3 i hi q⟩
 ·have key:∀n i pt,i<=m->(go m n (fY m i pt)).j<=m:=by
   intro n
   induction n using Nat.strongRecOn with
   |_ n ih=>
    intro i pt hi;have:=Nz hi;obtain h|h:=ET (runEnd m i-i) n
    ·rw[show n=runEnd m i-i+1+(n-(runEnd m i-i+1)) by lia,va,Dr];exact ih _ 'O' _ _ (YU (aeI _ (ad8 m)))
    ·grind [fY,yX]
  exact key k _ _ (YU (aeI _ (ad8 m)))
 ·show k<10*(m+15);lia
theorem Cv {t:SetTable}{ns:List Nat}(hp:t.place=ns.toArray)(up:ns.Pairwise (· < ·))(hi:ns[i]?=some j):t.slot j=.live i:=by
 have hl:=(gr.mp hi).1;have ej:=(gr.mp hi).2;have hb:below t.place j=i:=by
  rw[hp];refine L2.Ck (by grind) (λq h1 h2=>?_) λq h1 h2=>?_
  ·rw[L2.getD_list,ir,ar h2];have:=OK.mp up q i h2 hl h1
   simp_all
  ·rw[L2.getD_list,ir,ar h2];show ¬ns[q]<j;obtain h|h:=Nat.eq_or_lt_of_le h1
   ·simp_all
   ·have:=OK.mp up i q hl h2 h;lia
 unfold slot
 simp_all
theorem V5 {t:SetTable}{ns:List Nat}(hp:t.place=ns.toArray)(hd:t.dummies=#[])(hj:j∉ns):t.slot j=.empty:=by
 unfold slot;rw[rf,rf]
 ·rw[hd,show has #[] j=false from rfl];exact AM
 ·intro z;have z:=eq_of_beq z;rw[hp,NL]at z;exact hj (ba z)
theorem HC (t:SetTable)(hashAt:Nat->Int)(h:Int):∀n fuel p,n<fuel->(∀k,k<n->∃i,t.slot (go t.mask k p).j=.live i/\hashAt i≠h)->probe.go t hashAt h fuel p=probe.go t hashAt h (fuel-n) (go t.mask n p)
 |0,fuel=>λp _ _=>rfl
 |n+1,0=>λp hf _=>'O'
 |n+1,fuel+1=>λp hf hk=>by
  obtain⟨i,h1,h2⟩:=hk 0 (ad8 n);have e:probe.go t hashAt h (fuel+1) p=probe.go t hashAt h fuel (qT t.mask p):=by
   conv=>lhs;unfold probe.go
   rw[show t.slot p.j=.live i from h1];dsimp only;rw[rf 'J']
   rfl
  rw[e,HC t hashAt h n fuel (qT t.mask p) 'O' λk tJ=>hk (k+1) 'O'];rw[show fuel+1-(n+1)=fuel-n by lia]
  rfl
abbrev Ent:=Nat×Int×vn
structure Tb (led:Bool) (t:SetTable) (L:List Ent):Prop where
 place:t.place=(L.map (·.1)).toArray
 wR:t.dummies=#[]
 plain:t.plain=true
 led:t.led=led
 mask:Good t.mask
 room:L.length*5<t.mask*3
 up:(L.map (·.1)).Pairwise (· < ·)
 le:∀e∈L,e.1<=t.mask
 nd:(L.map (·.2.1)).Nodup
 wU:∀e∈L,mj t.mask (L.map (·.1)) e.2.1 e.1
theorem Tb.lt {led:Bool}(T:Tb led t L):L.length<=t.mask:=by have:=T.room;lia
theorem Tb.fits {led:Bool}(T:Tb led t L):t.fits (L.map (·.2)).toArray.size=true:=by
 unfold SetTable.fits SetTable.fill;rw[T.place,T.wR];have:=T.lt
 simp_all
theorem Tb.hit {led:Bool}(T:Tb led t L)(hh:∀i e,L[i]?=some e->hashAt i=e.2.1)(hi:L[i]?=some e):∃nx,t.probe hashAt e.2.1 (t.probeStart e.2.1)=some (.candidate e.1 i nx):=by
 obtain⟨n,h1,h2,h3⟩:_:=T.wU e (ba hi);obtain⟨n0,k1,k2,k3⟩:_:=least (p:=λn=>(go t.mask n (p0 t.mask e.2.1)).j=e.1) h2;have qP:(L.map (·.1))[i]?=some e.1:=by rw[l8,hi];rfl
 have key:=HC t hashAt e.2.1 n0 (10*turns t.mask) (p0 t.mask e.2.1) 'O' λk hk=>by
  have hm:=h3 k 'O';obtain⟨q,hq,eq⟩:_:=DO hm;have nh:q<L.length:=by rw[aa]at hq;exact hq
  have e1:(L.map (·.1))[q]?=some (go t.mask k (p0 t.mask e.2.1)).j:=by rw[ar hq,eq]
  refine⟨q,Cv T.place T.up e1,λz=>?_⟩;rw[hh q L[q] (ar nh)]at z;have hil:=(gr.mp hi).1;have ei:=(gr.mp hi).2;have:q=i:=by
   refine(List.getElem_inj (h₀:=by rw[aa];exact nh) (h₁:=by rw[aa];exact hil) T.nd).mp ?_;rw[aeW,aeW,z,ei]
  subst this;rw[e1]at qP;exact k3 k hk (GG qP)
 refine⟨t.advance (go t.mask n0 (p0 t.mask e.2.1)),?_⟩;show probe.go t hashAt e.2.1 (10*turns t.mask) (p0 t.mask e.2.1)=_;rw[key,show 10*turns t.mask-n0=(10*turns t.mask-n0-1)+1 by lia];unfold probe.go;rw[k2,Cv T.place T.up qP];dsimp only;rw[hh i e hi,uu 'Y']
theorem Tb.miss {led:Bool}(T:Tb led t L)(hh:∀i e,L[i]?=some e->hashAt i=e.2.1)(hn:h∉L.map (·.2.1)):∃j,t.probe hashAt h (t.probeStart h)=some (.empty j none)/\j∉L.map (·.1)/\j<=t.mask/\mj t.mask (L.map (·.1)) h j:=by
 obtain⟨j,j1,j2,r⟩:=W4 (ns:=L.map (·.1)) T.mask h (by rw[aa];exact T.lt);refine⟨j,?_,j1,j2,r⟩;obtain⟨n,h1,h2,h3⟩:=r;have dn:∀n i pt,(go t.mask n (fY t.mask i pt)).dummy=none:=by
  have:∀n p,(go t.mask n p).dummy=p.dummy:=by
   intro n
   induction n with
   |zero=>intro p;rfl
   |succ n ih=>
    grind [go,qT]
  exact λn i pt=>this n _
 have key:=HC t hashAt h n (10*turns t.mask) (p0 t.mask h) 'O' λk hk=>by
  have hm:=h3 k 'O';obtain⟨q,hq,eq⟩:=DO hm;have nh:q<L.length:=by grind
  have e1:(L.map (·.1))[q]?=some (go t.mask k (p0 t.mask h)).j:='J'
  refine⟨q,Cv T.place T.up e1,λz=>?_⟩
  grind
 show probe.go t hashAt h (10*turns t.mask) (p0 t.mask h)=_;rw[key,show 10*turns t.mask-n=(10*turns t.mask-n-1)+1 by lia];unfold probe.go;rw[h2,V5 T.place T.wR j1]
 grind [p0]
theorem NB (j:Nat):∀ns:List Nat,ns.Pairwise (· < ·)->∃k,k<=ns.length/\(∀x∈ns.take k,x<j)/\∀x∈ns.drop k,¬x<j
 |[],_=>⟨0,br _,(λx h=>nomatch h),λx h=>nomatch h⟩
 |n::ns,h=>by
  rw[List.pairwise_cons]at h;by_cases hn:n<j
  ·obtain⟨k,h1,h2,h3⟩:_:=NB j ns h.2;refine⟨k+1,'J',λx hx=>?_,h3⟩
   grind
  ·refine⟨0,zd _,(λx h=>nomatch h),λx hx=>?_⟩
   grind
theorem XY {ns:List Nat}(h0:k<=ns.length)(h1:∀x∈ns.take k,x<j)(h2:∀x∈ns.drop k,¬x<j):below ns.toArray j=k:=by
 refine L2.Ck 'Z' (λq a b=>?_) λq a b=>?_
 ·exact h1 _ (adM.mpr ⟨q,'J'⟩)
 ·exact h2 _ (adM.mpr ⟨q-k,'J'⟩)
def fR (L:List Ent)(k:Nat)(e:Ent):List Ent:=L.take k++[e]++L.drop k
theorem Ds:x∈fR L k e↔x=e\/x∈L:=by
 unfold fR
 conv=>rhs;rw[<- EU k L,qr]
 grind
theorem Kk (L:List Ent)(k:Nat)(e:Ent):(fR L k e).Perm (e::L):=by
 unfold fR;rw[CS,List.singleton_append];refine List.perm_middle.trans ?_
 simp_all
theorem Tb.put {led:Bool}(T:Tb led t L)(hn:h∉L.map (·.2.1))(j1:j∉L.map (·.1))(j2:j<=t.mask)(r:mj t.mask (L.map (·.1)) h j):
  ∃k,t.put j=({t with place:=((fR L k (j,h,x)).map (·.1)).toArray},k)/\SetTable.insertAt (L.map (·.2)).toArray k (h,x)=((fR L k (j,h,x)).map (·.2)).toArray /\
   ((fR L k (j,h,x)).length*5<t.mask*3->Tb led {t with place:=((fR L k (j,h,x)).map (·.1)).toArray} (fR L k (j,h,x)))/\((fR L k (j,h,x)).map (·.1)).Pairwise (· < ·)/\((fR L k (j,h,x)).map (·.2.1)).Nodup:=by
 obtain⟨k,k0,k1,k2⟩:_:=NB j _ T.up;have hb:below t.place j=k:=by rw[T.place];exact XY k0 k1 k2
 have up:((fR L k (j,h,x)).map (·.1)).Pairwise (· < ·):=by
  unfold fR;rw[B0,B0,List.map_take,afJ];rw[aeZ,aeZ];have hT:=T.up
  grind
 have nd:((fR L k (j,h,x)).map (·.2.1)).Nodup:=by
  refine((Kk L k (j,h,x)).map (·.2.1)).nodup_iff.mpr ?_;rw[JJ,AE];exact⟨hn,T.nd⟩
 refine⟨k,?_,?_,λhr=>?_,up,nd⟩
 ·unfold SetTable.put;have hh:has t.dummies j=false:=by rw[T.wR];rfl
  have:insertAt t.place k j=((fR L k (j,h,x)).map (·.1)).toArray:=by
   apply Array.ext';rw[SetTable.toList_insertAt,T.place];unfold fR
   simp_all
  simp_all
 ·apply Array.ext'
  simp_all [SetTable.toList_insertAt,fR]
 ·refine⟨rfl,T.wR,T.plain,T.led,T.mask,hr,up,λe he=>?_,nd,λe he=>?_⟩
  ·obtain rfl|he:=Ds.mp he
   ·omega
   ·exact T.le e he
  ·have sub:∀y∈L.map (·.1),y∈(fR L k (j,h,x)).map (·.1):=λy hy=>by
    obtain⟨q,hq,rfl⟩:=i8.mp hy;exact i8.mpr ⟨q,Ds.mpr (.inr hq),rfl⟩
   obtain rfl|he:=Ds.mp he
   ·exact r.mono sub
   ·exact(T.wU e he).mono sub
structure Ow (m:Nat) (hs:LI) (ss:List Nat) (owner:Array (Option Nat)):Prop where
 len:ss.length=hs.length
 size:owner.size=m+1
 nd:ss.Nodup
 le:∀s∈ss,s<=m
 own:∀(j i:Nat),j<=m->(owner[j]?=some (some i)↔ss[i]?=some j)
 emp:∀(j:Nat),j<=m->(owner[j]?=some none↔j∉ss)
 wU:∀(i s:Nat) (h:Int),ss[i]?=some s->hs[i]?=some h->mj m ss h s
theorem Ow.HD (O:Ow m hs ss owner)(hj:j<=m):(owner.getD j (some 0)).isNone=true↔j∉ss:=by
 rw[<- O.emp j hj];have:j<owner.size:=by rw[O.size];lia
 simp_all
theorem W5 (O:Ow m hs ss owner):∀fuel L i pt,i<=m->L<fuel->(lp m L (i,pt)).1∉ss ->
  ∃n,n<10*fuel/\layClean.free m owner fuel i pt=some (go m n (fY m i pt)).j/\(go m n (fY m i pt)).j∉ss/\(go m n (fY m i pt)).j<=m/\∀k,k<n->(go m k (fY m i pt)).j∈ss:=by
 intro fuel
 induction fuel with
 |zero=>intro L i pt _ h;lia
 |succ fuel ih=>
  intro L i pt hi hL hn;have r:=Nz hi;have r9:=Qh m i;have at_:∀k,k<=runEnd m i-i->(go m k (fY m i pt)).j=i+k:=λk hk=>by
   unfold fY;rw[yX m i pt k _ _ hk]
  unfold layClean.free;cases hf:(List.range (runEnd m i+1-i)).find? λk=>(owner.getD (i+k) (some 0)).isNone with
  |some k=>
   obtain⟨h1,h2,h3⟩:=List.find?_range_eq_some.mp hf;have hk:=l9.mp h2;have e:=at_ k 'Z';refine⟨k,'Z',by rw[e],by rw[e];exact(O.HD 'Z').mp h1,by rw[e];omega,λq hq=>?_⟩;rw[at_ q 'Z'];have:=h3 q hq;exact ES λz=>by
    rw[(O.HD 'Z').mpr z]at this;cases this
  |none=>
   have h3:=List.find?_range_eq_none.mp hf;have Rp:∀k,k<=runEnd m i-i->i+k∈ss:=λk hk=>ES λz=>by
    have:=h3 k 'Z';rw[(O.HD 'Z').mpr z]at this;cases this
   cases L with
   |zero=>exact absurd (Rp 0 (zd _)) hn
   |succ L=>
    obtain⟨n,a1,a2,a3,a4,a5⟩:_:=ih L (leap m i pt).1 (leap m i pt).2 (YU (aeI _ (ad8 m))) 'O' hn;have eg:∀q,go m (runEnd m i-i+1+q) (fY m i pt)=go m q (fY m (leap m i pt).1 (leap m i pt).2):=λq=>by rw[va,Dr]
    refine⟨runEnd m i-i+1+n,'O',by rw[eg];exact a2,by rw[eg];exact a3,by rw[eg];exact a4,λq hq=>?_⟩;obtain z|z:=ET (runEnd m i-i) q
    ·rw[show q=runEnd m i-i+1+(q-(runEnd m i-i+1)) by omega,eg];exact a5 _ 'Z'
    ·rw[at_ q z];exact Rp q z
theorem Kl {α β:Type}{f g : α->Option β}:∀{l:List α},(∀x∈l,f x=g x)->l.filterMap f=l.filterMap g
 |[] => λ_=>rfl
 |a::l=>λh=>by
  rw[adT,adT,h a (YE ..),Kl λx hx=>h x (MW _ hx)]
def zF (m:Nat)(acc:Option (Array (Option Nat)×Nat))(h:Int):Option (Array (Option Nat)×Nat):=do
 let (owner,k)<-acc
 let j<-layClean.free m owner (turns m) (bits h%(m+1)) (bits h)
 pure (owner.setIfInBounds j (some k),k+1)
theorem ZJ (hm:Good m)(O:Ow m hs ss owner)(h:Int)(hl:hs.length<=m):∃j,zF m (some (owner,ss.length)) h=some (owner.setIfInBounds j (some ss.length),ss.length+1)/\Ow m (hs++[h]) (ss++[j]) (owner.setIfInBounds j (some ss.length)):=by
 obtain⟨j0,h0,h1⟩:∃j,j<=m/\j∉ss:=by
  apply ES;intro z;have:=HB (m+1) ss λj hj=>ES λq=>z ⟨j,'O',q⟩
  have:=O.len;lia
 obtain⟨L,hL,eL⟩:_:=cover (pt:=bits h) (i:=bits h%(m+1)) hm (LC h) (YU (aeI _ (ad8 m))) h0;obtain⟨n,a1,a2,a3,a4,a5⟩:_:=W5 O (turns m) L (bits h%(m+1)) (bits h) (YU (aeI _ (ad8 m))) (by show L<m+15;lia) 'J';generalize hj:(go m n (fY m (bits h%(m+1)) (bits h))).j=j at a2 a3 a4;refine⟨j,?_,?_⟩
 ·unfold zF
  simp_all
 ·have sj:j<owner.size:=by rw[O.size];lia
  refine⟨by rw[vc,vc,O.len];rfl,by rw[Array.size_setIfInBounds];exact O.size,?_,λs hs=>?_,λq i hq=>?_,λq hq=>?_,λi s h' e1 e2=>?_⟩
  ·rw[AN];exact⟨O.nd,AE.mpr ⟨(λz=>nomatch z),.nil⟩,λa ha b hb z=>'J'⟩
  ·obtain hs|hs:=qr.mp hs
   ·exact O.le s hs
   ·simp_all
  ·rw[ae5];by_cases e:j=q
   ·grind
   ·rw[rf e,O.own q i hq]
    grind
  ·rw[ae5];by_cases e:j=q
   ·simp_all
   ·rw[rf e,O.emp q hq]
    grind
  ·have sub:∀x∈ss,x∈ss++[j]:=λx hx=>xw _ hx
   obtain hi|hi:=ET i ss.length
   ·rw[Cf hi]at e1;rw[Cf (by rw[<- O.len];exact hi)]at e2;exact(O.wU i s h' e1 e2).mono sub
   ·rw[wb hi]at e1;rw[wb (by rw[<- O.len];exact hi)]at e2;have q1:=BB.mp (ba e1);have q2:=BB.mp (ba e2);subst q1 q2;exact⟨n,a1,hj,λk hk=>sub _ (a5 k hk)⟩
theorem LD (hm:Good m):∀rest hs ss owner,Ow m hs ss owner->hs.length+rest.length<=m+1->∃HE Ep,rest.foldl (zF m) (some (owner,ss.length))=some (Ep,HE.length)/\Ow m (hs++rest) HE Ep
 |[] => λhs ss owner O _=>⟨ss,owner,rfl,'J'⟩
 |h::rest=>λhs ss owner O hl=>by
  rw[IF]at hl;obtain⟨j,h1,h2⟩:=ZJ hm O h 'O';obtain⟨HE,Ep,h3,h4⟩:_:=LD hm rest (hs++[h]) (ss++[j]) _ h2 (by grind)
  grind
theorem XZ (hm:Good m)(hs:Array Int)(hl:hs.size<=m+1):∃ss owner,layClean m hs=some owner/\Ow m hs.toList ss owner:=by
 have O0:Ow m [] [] (Array.replicate (m+1) none):=by
  refine⟨rfl,Array.size_replicate,.nil,(λs h=>nomatch h),λj i hj=>?_,λj hj=>?_,λi s h e=>by cases e⟩
  ·grind
  ·grind
 obtain⟨ss,owner,h1,h2⟩:_:=LD hm hs.toList [] [] _ O0 'J';refine⟨ss,owner,?_,'J'⟩;show(hs.foldl (zF m) (some (Array.replicate (m+1) none,0)) |>.map (·.1))=some owner
 simp_all
theorem ZK (hm:Good m){L:List Ent}(hl:L.length<=m+1)(nd:(L.map (·.2.1)).Nodup)(fg mv:Nat)(led plain:Bool):
  ∃(L':List Ent) (order:Array Nat),laid m fg mv led plain ((L.map (·.2)).toArray.map (·.1))=some ({mask:=m,place:=(L'.map (·.1)).toArray,dummies:=#[],finger:=fg,led:=led,moves:=mv,plain:=plain},order)/\order.filterMap ((L.map (·.2)).toArray[·]?)=(L'.map (·.2)).toArray/\(L'.map (·.2)).Perm (L.map (·.2)) /\
   (L'.map (·.1)).Pairwise (· < ·)/\(∀e∈L',e.1<=m)/\∀e∈L',mj m (L'.map (·.1)) e.2.1 e.1:=by
 have eh:((L.map (·.2)).toArray.map (·.1)).toList=L.map (·.2.1):='Y'
 obtain⟨ss,owner,h1,O⟩:_:=XZ hm ((L.map (·.2)).toArray.map (·.1)) (by simpa using hl);rw[eh]at O;have sl:ss.length=L.length:=by rw[O.len,aa]
 obtain⟨live,Fq⟩:∃live,live=(List.range (m+1)).filterMap λj=>(owner.getD j none).map (j,·):=⟨_,rfl⟩
 have mem:∀j i,(j,i)∈live↔ss[i]?=some j:=λj i=>by
  rw[Fq,afh]
  constructor
  ·rintro⟨q,hq,e⟩;have hq:=l9.mp hq;have sq:q<owner.size:=by rw[O.size];lia
   rw[afd,WE sq,Option.getD_some]at e;obtain⟨i',e1,e2⟩:=Zs.mp e;cases e2;exact(O.own j i 'O').mp (by rw[WE sq,e1])
  ·intro e;have hj:=O.le j (ba e);have sq:j<owner.size:=by rw[O.size];lia
   refine⟨j,l9.mpr 'O',?_⟩;have:=(O.own j i hj).mpr e;rw[afd,this]
   rfl
 have lt:∀q∈live,q.2<L.length:=λq hq=>by
  have:=(gr.mp ((mem q.1 q.2).mp hq)).1;lia
 have up:(live.map (·.1)).Pairwise (· < ·):=by
  rw[Fq,RI,List.pairwise_filterMap];refine(List.pairwise_lt_range).imp λ{a b} cy x hx y hy=>?_
  obtain⟨_,_,rfl⟩:=Zs.mp hx;obtain⟨_,_,rfl⟩:=Zs.mp hy;exact cy
 obtain⟨L',AF⟩:∃L',L'=live.map λq=>(q.1,(L.getD q.2 (0,0,.none)).2):=⟨_,rfl⟩
 have e1:L'.map (·.1)=live.map (·.1):=by rw[AF,gz];rfl
 have gd:∀i,i<L.length->∃e,L[i]?=some e/\L.getD i (0,0,.none)=e:=λi hi=>⟨L[i],ar hi,by rw[ir,ar hi];rfl⟩
 have qh:∀e,e∈L'↔∃(i:Nat) (e0:Ent),ss[i]?=some e.1/\L[i]?=some e0/\e.2=e0.2:=λe=>by
  rw[AF,i8]
  constructor
  ·rintro⟨q,hq,rfl⟩;obtain⟨e0,z1,z2⟩:=gd q.2 (lt q hq);exact⟨q.2,e0,(mem q.1 q.2).mp hq,z1,by show(L.getD q.2 _).2=_;rw[z2]⟩
  ·rintro⟨i,e0,z1,z2,z3⟩;refine⟨(e.1,i),(mem e.1 i).mpr z1,?_⟩;rw[ir,z2,Option.getD_some,<- z3]
 have Rq:(L'.map (·.2.1)).Nodup:=by
  rw[AF,gz];unfold List.Nodup;rw[RI];rw[RI]at up;refine up.imp_of_mem λ{a b} ha hb cy z=>?_
  obtain⟨ea,a1,a2⟩:=gd a.2 (lt a ha);obtain⟨eb,b1,b2⟩:=gd b.2 (lt b hb);have z':ea.2.1=eb.2.1:=by rw[<- a2,<- b2];exact z
  have:a.2=b.2:=by
   refine(List.getElem_inj (h₀:=by rw[aa];exact lt a ha) (h₁:=by rw[aa];exact lt b hb) nd).mp ?_;rw[aeW,aeW,(gr.mp a1).2,(gr.mp b1).2,z']
  have s1:=(mem a.1 a.2).mp ha;have s2:=(mem b.1 b.2).mp hb;rw[this,s2]at s1;have:=GG s1;lia
 refine⟨L',(live.map (·.2)).toArray,?_,?_,?_,by rw[e1];exact up,λe he=>?_,λe he=>?_⟩
 ·unfold laid;rw[h1];dsimp [Option.bind_eq_bind,Option.bind_some,Option.pure_def];rw[<- Fq,e1]
 ·apply Array.ext';rw[Array.toList_filterMap];rw[List.filterMap_map,AF,gz,show ∀(f),live.map f=live.filterMap (some∘f)from λf=>by rw[List.filterMap_eq_map]];refine Kl λq hq=>?_
  obtain⟨e0,z1,z2⟩:_:=gd q.2 (lt q hq);show(L.map (·.2)).toArray[q.2]?=some (L.getD q.2 (0,0,.none)).2;rw[NL,l8,z1,z2]
  rfl
 ·have AA:(L'.map (·.2)).Nodup:=by
   have:(L'.map (·.2)).map (·.1)=L'.map (·.2.1):=by rw[gz];rfl
   rw[<- this]at Rq;exact ae0 _ (λa b cy z=>cy (by rw[z])) Rq
  have AB:(L.map (·.2)).Nodup:=by
   have:(L.map (·.2)).map (·.1)=L.map (·.2.1):=by rw[gz];rfl
   rw[<- this]at nd;exact ae0 _ (λa b cy z=>cy (by rw[z])) nd
  refine(aab AA AB).mpr λx=>?_
  rw[i8,i8]
  constructor
  ·rintro⟨e,he,rfl⟩;obtain⟨i,e0,_,z2,z3⟩:=(qh e).mp he;exact⟨e0,ba z2,z3.symm⟩
  ·rintro⟨e0,he,rfl⟩;obtain⟨i,hi,ei⟩:=DO he;have z2:L[i]?=some e0:=by rw[ar hi,ei]
   exact⟨(ss[i]'(by lia),e0.2),(qh _).mpr ⟨i,e0,ar 'O',z2,rfl⟩,rfl⟩
 ·obtain⟨i,e0,z1,_,_⟩:=(qh e).mp he;exact O.le _ (ba z1)
 ·obtain⟨i,e0,z1,z2,z3⟩:=(qh e).mp he;have:=O.wU i e.1 e.2.1 z1 (by rw[l8,z2,z3];rfl);refine this.mono λs hs=>?_
  obtain⟨q,hq,eq⟩:=DO hs;rw[e1];exact i8.mpr ⟨(s,q),(mem s q).mpr (by rw[ar hq,eq]),rfl⟩
end Ts
namespace Ts
open PySem PySem.Spec PyProof.Rows
def hP (p:Nat×Nat):Int:=reduceHash (Builtin.Tuple.tupleHashOf [hashInt (p.1:Int),hashInt (p.2:Int)])
def mZ:List (Nat×Nat):=(List.range 7).flatMap λa=>(List.range 7).map λb=>(a,b)
theorem NC (hp:p.1<=6/\p.2<=6)(hq:q.1<=6/\q.2<=6)(h:hP p=hP q):p=q:=by
 have key:(mZ.all λp=>mZ.all λq=>decide (hP p=hP q->p=q))=true:='W'
 have mem:∀p,p.1<=6/\p.2<=6->p∈mZ:=λp h=>aeo.mpr ⟨p.1,l9.mpr 'O',i8.mpr ⟨p.2,l9.mpr 'O',rfl⟩⟩
 grind
abbrev kP (p:Nat×Nat):List L2.Key:=[.inl (p.1:Int),.inl (p.2:Int)]
def gE (h:Heap)(p:Nat×Nat)(a:adG):Prop:=∃o n t u,h.get? a=some o/\o.cls=.type "tuple"/\o.data=.seq #[.int (p.1:Int) t,.int (p.2:Int) u] n
theorem gE.key (x:gE h p a):IsTupleKey (L2.uy prog w) h (kP p) a:=by
 obtain⟨o,n,t,u,h1,h2,h3⟩:_:=x;exact⟨o,_,n,h1,h2,h3,.cons (L2.Jk _ _ _ _) (.cons (L2.Jk _ _ _ _) .nil)⟩
theorem gE.typeIs {s:adJ}(x:gE s.heap p a):s.TypeIs (.ref a) "tuple":=by obtain⟨o,_,_,_,ho,hc,_⟩:_:=x;exact⟨o,ho,hc⟩
theorem gE.at (x:gE h p a)(e:∀o,h.get? a=some o->h'.get? a=some o):gE h' p a:=by obtain⟨o,n,t,u,ho,r⟩:=x;exact⟨o,n,t,u,e o ho,r⟩
section
theorem ab3 (x:gE s.heap p a)(h:Q true s):wpAny (model prog w) A (hashByValue 8 (.ref a)) Q E s:=by
 have hT:=x.typeIs;obtain⟨o,n,t,u,ho,_,hd⟩:_:=x;refine ab (aeB hT F.slot_tuple_hash.lookup ?_);refine ab (afv ho hd ?_);refine ab ?_;rw[<- Array.forIn_toList];refine wpAny_forIn_list _ (λrest r s'=>r.1=none/\s'=s/\∀v∈rest,∃i t,v=Value.int i t) _ ?_ ?_ _ _ ⟨rfl,rfl,λv hv=>?_⟩
 ·rintro v rest r s' ⟨hr,rfl,fQ⟩;obtain⟨i,t',rfl⟩:=fQ v YE;refine ab (wpAny_pure ?_)
  grind [wpAny_pure]
 ·grind [wpAny_pure]
 ·grind
theorem ofClass (x:gE s.heap p a)(h:Q false s):wpAny (model prog w) A (ofAClassStatement 8 (.ref a)) Q E s:=by
 have hT:=x.typeIs;obtain⟨o,n,t,u,ho,_,hd⟩:_:=x;unfold ofAClassStatement;refine ab (wpAny_typeOf hT ?_);refine ab (wpAny_pure ?_);refine ab (afv ho hd ?_);refine ab ?_;rw[<- Array.forIn_toList];refine wpAny_forIn_list _ (λrest r s'=>r.1=none/\s'=s/\∀v∈rest,∃i t,v=Value.int i t) _ ?_ ?_ _ _ ⟨rfl,rfl,λv hv=>?_⟩
 ·rintro v rest r s' ⟨hr,rfl,fQ⟩;obtain⟨i,t',rfl⟩:=fQ v YE;refine ab (wpAny_pure ?_)
  grind [wpAny_pure]
 ·grind [wpAny_pure]
 ·grind
theorem seen (x:gE s.heap p a)(hl:∀v∈l,∃q b,v=.ref b/\gE s.heap q b)(h:Q false s):wpAny (model prog w) A (searchCouldBeSeen (.ref a) l) Q E s:=by
 refine ab ?_;refine wpAny_forIn_list _ (λrest r s'=>r.1=none/\s'=s/\∀v∈rest,∃q b,v=.ref b/\gE s.heap q b) _ ?_ ?_ _ _ ⟨rfl,rfl,hl⟩
 ·rintro v rest r s' ⟨hr,rfl,fQ⟩;obtain⟨q,b,rfl,xb⟩:_:=fQ v YE;dsimp only;by_cases cy:(a==b)=true
  ·rw[uu (by rw[cy];rfl)];exact wpAny_pure ⟨rfl,rfl,λu bw=>fQ u (MW _ bw)⟩
  ·rw[rf (by rw[Bool.not_eq_true]at cy;rw[cy];exact AM)];refine ab (wpAny_eqIsQuiet_tuple (knd:=L2.uy prog w) x.key ?_);refine ab (wpAny_eqIsQuiet_tuple xb.key ?_);refine ab (ofClass x ?_);refine ab (ofClass xb ?_);exact wpAny_pure ⟨rfl,rfl,λu bw=>fQ u (MW _ bw)⟩
 ·rintro⟨r1,r2⟩ s' ⟨hr,rfl,_⟩;subst hr;exact wpAny_pure h
def iT (led:Bool)(h:Heap)(S:adG)(L:List Ent):Prop:=∃o t ep,h.get? S=some o/\o.ExactSet/\o.data=.set (L.map (·.2)).toArray ep t/\Tb led t L
theorem iT.at (x:iT led h a L)(e:∀o,h.get? a=some o->h'.get? a=some o):iT led h' a L:=
 by obtain⟨o,t,ep,ho,r⟩:=x;exact⟨o,t,ep,e o ho,r⟩
def Ek (h:Heap)(e:Int×vn)(p:Nat×Nat):Prop:=(p.1<=6/\p.2<=6)/\∃a,e=(hP p,.ref a)/\gE h p a
theorem JO {L:List Ent}(i:Nat)(e:Ent)(h:L[i]?=some e):(((L.map (·.2)).toArray[i]?).map (·.1)).getD 0=e.2.1:=by
 simp_all
theorem Qi (h:Good m):(m%2==0)=false:=by obtain rfl|rfl|rfl:=h<;>rfl
theorem V6 (hu:A.units<cLine)(ho:s.heap.get? S=some o)(hd:o.data=.set (L.map (·.2)).toArray ep t)(T:Tb led t L)(hE:∀e∈L,∃q,Ek s.heap e.2 q)(x:gE s.heap p a)(sp:p.1<=6/\p.2<=6)(he:e∈L)(hh:e.2.1=hP p)(h:Q (.there none) s):
  wpAny (model prog w) A (setSearch S (.ref a) (hP p) true) Q E s:=by
 obtain⟨i,hi,ei⟩:_:=DO he;have iE:L[i]?=some e:='J'
 obtain⟨nx,hp⟩:=T.hit JO iE;rw[hh]at hp;obtain⟨q,sq,b,eb,xb⟩:_:=hE e he;have pq:=NC sq sp (by rw[<- hh,eb]);subst pq;refine ab (Of ho hd T.fits ?_);dsimp only;rw[rf (by show ¬(t.mask%2==0)=true;rw[Qi T.mask];exact AM)];have Ar:t.probe (λi=>(((L.map (·.2)).toArray[i]?).map (·.1)).getD 0) (hP q) ((none:Option SetTable.Probe).getD (t.probeStart (hP q)))=some (.candidate e.1 i nx):=hp;refine ab (wpAny_pure ?_);show wpAny _ _ (match t.probe (λi=>(((L.map (·.2)).toArray[i]?).map (·.1)).getD 0) (hP q) ((none).getD (t.probeStart (hP q)))with|some met=>_|_=>_) _ _ _;rw[Ar];dsimp only;have tail:wpAny (model prog w) A (do
   let some (_,y):=(L.map (·.2)).toArray[i]? | unsupported "internal:set-entry"
   let equal<-holding [y] (eqBool y (.ref a))
   let (oI,_,t')<-setState S
   if true&&equal then return .there none
   let some same:=t'.sameMemory t.moves t.mask|unsupported "set.changed-during-lookup:is-the-new-block-at-the-old-address"
   let ab4<-match(if same then t'.slot e.1 else .empty)with
    | .live i'=>match oI[i']? with
     |some (_,y')=>do pure (if<-isSame y' y then some i' else none)
     |none=>pure none
    |_=>pure none
   match ab4 with
   |none=>rule "set.search.anew"; setSearchFrom S (.ref a) (hP q) true 99999 none
   |some i'=>if equal then return .there (some i')else setSearchFrom S (.ref a) (hP q) true 99999 (some nx)) Q E s:=by
  have eg:(L.map (·.2)).toArray[i]?=some (hP q,.ref b):='J'
  rw[eg];refine ab (Sm (wpAny_eqBool_tuple hu xb.key x.key ?_));rw[EO rfl];refine ab (Of ho hd T.fits ?_);exact wpAny_pure h
 by_cases hl:t.led=true
 ·rw[rf (by rw[hl];decide)];exact tail
 ·rw[uu (by simpa using hl)];refine ab (seen x (λv hv=>?_) ?_)
  ·obtain⟨y,hy,rfl⟩:=i8.mp hv;have hy:=(Array.mem_filter.mp (Array.mem_toList_iff.mp hy)).1;have fV:y∈L.map (·.2):=by simpa using hy
   obtain⟨e',jX,rfl⟩:=i8.mp fV;obtain⟨q',_,b',eb',xb'⟩:_:=hE e' jX
   grind
  ·exact tail
theorem VC (ho:s.heap.get? S=some o)(hd:o.data=.set (L.map (·.2)).toArray ep t)(T:Tb led t L)(hn:h0∉L.map (·.2.1))(h:∀j,j∉L.map (·.1)->j<=t.mask->mj t.mask (L.map (·.1)) h0 j->Q (.free j false) s):
  wpAny (model prog w) A (setSearch S (.ref a) h0 true) Q E s:=by
 obtain⟨j,hp,j1,j2,r⟩:_:=T.miss JO hn;refine ab (Of ho hd T.fits ?_);dsimp only;rw[rf (by show ¬(t.mask%2==0)=true;rw[Qi T.mask];exact AM)];refine ab (wpAny_pure ?_);have Ar:t.probe (λi=>(((L.map (·.2)).toArray[i]?).map (·.1)).getD 0) h0 ((none:Option SetTable.Probe).getD (t.probeStart h0))=some (.empty j none):=hp;show wpAny _ _ (match t.probe (λi=>(((L.map (·.2)).toArray[i]?).map (·.1)).getD 0) h0 ((none).getD (t.probeStart h0))with|some met=>_|_=>_) _ _ _
 grind [wpAny_pure]
end
theorem V7 {t:SetTable}{L:List Ent}(hm:t.mask=7/\L.length=5\/t.mask=31/\L.length=19)(nd:(L.map (·.2.1)).Nodup)(hp:t.plain=true):∃(L':List Ent) (t':SetTable) (order:Array Nat),t.relaid ((L.map (·.2)).toArray.map (·.1)) (SetTable.grown L.length)=some (t',order)/\order.filterMap ((L.map (·.2)).toArray[·]?)=(L'.map (·.2)).toArray/\(L'.map (·.2)).Perm (L.map (·.2))/\Tb t.led t' L'/\SetTable.sizeAbove (SetTable.grown L.length)<=1000:=by
 have key:∀m,SetTable.sizeAbove (SetTable.grown L.length)-1=m->Good m->L.length*5<m*3->∃(L':List Ent) (t':SetTable) (order:Array Nat),t.relaid ((L.map (·.2)).toArray.map (·.1)) (SetTable.grown L.length)=some (t',order)/\order.filterMap ((L.map (·.2)).toArray[·]?)=(L'.map (·.2)).toArray/\(L'.map (·.2)).Perm (L.map (·.2))/\Tb t.led t' L':=by
  intro m em gm hr;obtain⟨L',order,h1,h2,h3,h4,h5,h6⟩:_:=ZK gm 'O' nd t.finger (t.movedTo m) t.led t.plain;have hl:L'.length=L.length:=by
   have:=h3.length_eq;rw[aa,aa]at this;exact this
  refine⟨L',{mask:=m,place:=(L'.map (·.1)).toArray,dummies:=#[],finger:=t.finger,led:=t.led,moves:=t.movedTo m,plain:=t.plain},order,?_,h2,h3,⟨rfl,rfl,hp,rfl,gm,by rw[hl];exact hr,h4,h5,?_,h6⟩⟩
  ·unfold SetTable.relaid;rw[em];exact h1
  ·have:=h3.map (·.1);rw[gz,gz]at this;exact this.nodup_iff.mpr nd
 obtain⟨h1,h2⟩|⟨h1,h2⟩:_:=hm
 ·have e:SetTable.sizeAbove (SetTable.grown L.length)=32:=by rw[h2];decide
  obtain⟨L',t',order,a⟩:=key 31 (by rw[e]) (.inr (.inl rfl)) 'O';exact⟨L',t',order,a.1,a.2.1,a.2.2.1,a.2.2.2,'O'⟩
 ·have e:SetTable.sizeAbove (SetTable.grown L.length)=128:=by rw[h2];decide
  obtain⟨L',t',order,a⟩:=key 127 (by rw[e]) (.inr (.inr rfl)) 'O';exact⟨L',t',order,a.1,a.2.1,a.2.2.1,a.2.2.2,'O'⟩
section
theorem ZL (hu:A.units<cLine)(hS:iT led s.heap S L)(hE:∀e∈L,∃q,Ek s.heap e.2 q)(x:gE s.heap p a)(sp:p.1<=6/\p.2<=6)(hh:hP p∈L.map (·.2.1))(h:Q false s):
  wpAny (model prog w) A (setAddHashed S (.ref a) (hP p)) Q E s:=by
 obtain⟨o,t,ep,ho,hex,hd,T⟩:_:=hS;obtain⟨e,he,eh⟩:=i8.mp hh;refine Sm ?_;refine ab (Of ho hd T.fits ?_);refine ab (V6 hu ho hd T hE x sp he eh ?_);exact wpAny_pure h
theorem ZM (hS:iT led s.heap S L)(hl:L.length<70)(x:gE s.heap p a)(hh:hP p∉L.map (·.2.1))(h:∀h' L',Heap.SameBut S s.heap h'->iT led h' S L'->(L'.map (·.2)).Perm ((hP p,.ref a)::L.map (·.2))->Q true {s with heap:=h'}):
  wpAny (model prog w) A (setAddHashed S (.ref a) (hP p)) Q E s:=by
 obtain⟨o,t,ep,ho,hex,hd,T⟩:=hS;have big:=afF;refine Sm ?_;refine ab (Of ho hd T.fits ?_);dsimp only;refine ab (VC ho hd T hh λj j1 j2 r=>?_);refine ab (Of ho hd T.fits ?_);obtain⟨k,k1,k2,k3,k4,k5⟩:=T.put hh j1 j2 r;generalize hN:fR L k (j,hP p,Value.ref a)=N at k1 k2 k3 k4 k5;have pm:(N.map (·.2)).Perm ((hP p,.ref a)::L.map (·.2)):=by grind [Kk]
 have nl:N.length=L.length+1:=by
  have:=pm.length_eq
  grind
 rw[k1];rw[uu (T.plain)];refine ab (ab3 x ?_);rw[uu rfl];have tp:({t with place:=(N.map (·.1)).toArray}:SetTable).plain=true:=T.plain;have tl:({t with place:=(N.map (·.1)).toArray}:SetTable).led=led:=T.led;have tm:({t with place:=(N.map (·.1)).toArray}:SetTable).mask=t.mask:=rfl;have tpl:({t with place:=(N.map (·.1)).toArray}:SetTable).place=(N.map (·.1)).toArray:=rfl;have tdu:({t with place:=(N.map (·.1)).toArray}:SetTable).dummies=#[]:=T.wR;generalize HF:({t with place:=(N.map (·.1)).toArray}:SetTable)=t1 at k3 tp tl tm tpl tdu;rw[k2];have cT:(N.map (·.2)).toArray.size=N.length:=by grind
 refine ab (wpAny_storeSet_of ho hd ?_ 'O');have hg:(s.heap.update S (Obj.putSet (N.map (·.2)).toArray t1)).get? S=some {o with data:=.set (N.map (·.2)).toArray (ep+1) t1}:=by
  have:=Nd (Obj.putSet (N.map (·.2)).toArray t1) ho (by rw[putSet_of _ _ hd];rfl)
  grind [putSet_of]
 have fill:t1.fill=N.length:=by grind [SetTable.fill]
 have full:t1.tooFull=decide (t.mask*3<=N.length*5):=by
  grind [SetTable.tooFull]
 by_cases hf:t.mask*3<=N.length*5
 ·rw[uu (by grind)];have r0:=T.room;have hm:t1.mask=7/\N.length=5\/t1.mask=31/\N.length=19:=by
   obtain z|z|z:=T.mask<;>lia
  have F6:t1.fits (N.map (·.2)).toArray.size=true:=by
   grind [SetTable.fits]
  obtain⟨L',t',order,a1,a2,a3,a4,a5⟩:_:=V7 hm k5 tp;have l':L'.length=N.length:=by
   have:=a3.length_eq
   grind
  refine ab ?_;refine ab (Of hg rfl F6 ?_);dsimp only;have eg:(L.map (·.2)).toArray.size+1=N.length:='J'
  rw[eg,rf 'O',a1];have hre:∀{Q':(Array (Int×vn)×SetTable)->adJ->Prop} {s1:adJ},Q' ((L'.map (·.2)).toArray,t') s1->wpAny (model prog w) A (do
    let some (t,order):=(some (t',order))|unsupported "internal:set-table-without-room"
    let oI:=order.filterMap ((N.map (·.2)).toArray[·]?)
    if oI.size != (N.map (·.2)).toArray.size then unsupported "internal:set-table-lost-an-element"
    pure (oI,t)) Q' E s1:=λ{Q' s1} hq=>by
   grind [wpAny_pure]
  refine ab (hre ?_);refine wpAny_storeSet_of hg rfl ?_ (by grind);refine wpAny_pure ?_;have jz:=Nd (Obj.putSet (L'.map (·.2)).toArray t') hg 'X';rw[tl]at a4;exact h _ L' ((OP ..).trans (OP ..)) ⟨_,_,_,jz,hex,rfl,a4⟩ (a3.trans pm)
 ·rw[rf 'O'];exact wpAny_pure (h _ N (OP ..) ⟨_,_,_,hg,hex,rfl,k3 'O'⟩ pm)
end
theorem oq {α:Type} [DecidableEq α]:∀(l m:List α),l.Nodup->(∀x∈l,x∈m)->l.length<=m.length
 |[] => λm _ _=>zd _
 |a::l=>λm nd h=>by
  rw[AE]at nd;have:=oq l (m.erase a) nd.2 λx hx=>(List.mem_erase_of_ne (λz:x=a=>nd.1 (z▸hx))).mpr (h x (MW _ hx))
  grind
structure Acc (as:List adG) (ps:List (Nat×Nat)) (i:Nat) (L:List Ent):Prop where
 src:∀e∈L,∃(j:Nat) (a:adG) (p:Nat×Nat),j<i/\as[j]?=some a/\ps[j]?=some p/\e.2=(hP p,.ref a)
 all:∀(j:Nat) (p:Nat×Nat),j<i->ps[j]?=some p->hP p∈L.map (·.2.1)
structure nG (h:Heap) (as:List adG) (ps:List (Nat×Nat)):Prop where
 len:ps.length=as.length
 small:∀p∈ps,p.1<=6/\p.2<=6
 wV:∀(j:Nat) (a:adG) (p:Nat×Nat),as[j]?=some a->ps[j]?=some p->gE h p a
theorem nG.at (x:nG h as ps)(e:∀a∈as,∀o,h.get? a=some o->h'.get? a=some o):nG h' as ps:=
 ⟨x.len,x.small,λj a p h1 h2=>(x.wV j a p h1 h2).at (e a (ba h1))⟩
theorem Acc.len (c:Acc as ps i L)(x:nG h as ps)(nd:(L.map (·.2.1)).Nodup):L.length<=49:=by
 have:=oq (L.map (·.2.1)) (mZ.map hP) nd λz hz=>by
  obtain⟨e,he,rfl⟩:=i8.mp hz;obtain⟨j,a,p,_,_,hp,ee⟩:=c.src e he;have sm:=x.small p (ba hp);rw[ee];exact i8.mpr ⟨p,aeo.mpr ⟨p.1,l9.mpr 'O',i8.mpr ⟨p.2,l9.mpr 'O',rfl⟩⟩,rfl⟩
 rw[aa,aa]at this;exact this
theorem Acc.ek (c:Acc as ps i L)(x:nG h as ps):∀e∈L,∃q,Ek h e.2 q:=λe he=>by
 obtain⟨j,a,p,_,ha,hp,ee⟩:_:=c.src e he;exact⟨p,x.small p (ba hp),a,ee,x.wV j a p ha hp⟩
section
variable {St:Nat->Heap->Prop}
theorem V8 (W:Walks prog w A.in1 I fp wr n P St)(S:adG)(wW:S∉fp)(hu:A.units+1<cLine)(hn:n=as.length)(Gr:∀i v,P i v->∃a,as[i]?=some a/\v=.ref a)(Qj:∀a∈as,a∉wr/\a≠S):
  ∀(k i:Nat) (s:adJ) (L:List Ent),n-i=k->i<=n->St i s.heap->nG s.heap as ps->iT led s.heap S L->Acc as ps i L ->
   (∀h' tk L',(∀b o,b∉wr->b≠S->s.heap.get? b=some o->h'.get? b=some o)->iT led h' S L'->Acc as ps n L'->R (.ok (.ret .none)) {s with heap:=h',toks:=tk}) ->
   codeAny (model prog w) A (.builtin "set.update.loop" ⟨[.ref S,.ref I],[]⟩) R s:=by
 have Rr:=λh=>wW (W.sub _ h)
 intro k
 induction k with
 |zero=>
  intro i s L hk hi iw kU hS hA hR;have Rt:i=n:='O'
  refine aeA F.entry_set_update_loop ?_;rw[Around.under_plainId aeC _];show wpAny _ A.in1 (pyNext (.ref I) >>= _) _ _ s;refine ab (W.done s _ _ (Rt▸iw) λh' tk hm=>?_);exact wpAny_pure (hR h' tk L (λb o hb _ e=>hm b o hb e) (hS.at λo e=>hm S o Rr e) (Rt▸hA))
 |succ k ih=>
  intro i s L hk hi iw kU hS hA hR;have bC:i<n:='O'
  refine aeA F.entry_set_update_loop ?_;refine ab (W.item i s _ _ bC iw λv h1 tk1 hPi Qk hm=>?_);obtain⟨a,ha,rfl⟩:=Gr i v hPi;have gY:=hS.at λo e=>hm S o Rr e
  have tM:=kU.at λb hb o e=>hm b o (Qj b hb).1 e
  obtain⟨p,hp⟩:∃p,ps[i]?=some p:=⟨_,ar (by rw[kU.len];lia)⟩
  have xp:=tM.wV i a p ha hp;have sp:=tM.small p (ba hp);have nd:(L.map (·.2.1)).Nodup:=by obtain⟨_,_,_,_,_,_,T⟩:=gY;exact T.nd
  have ll:=hA.len tM nd;have ek:=hA.ek tM;refine ab (Sm ?_);refine Sm ?_;refine ab (wpAny_pyHash_tuple (by show A.units+1<cLine;exact hu) xp.key ?_);by_cases hh:hP p∈L.map (·.2.1)
  ·refine ZL (by show A.units+1<cLine;exact hu) gY ek xp sp hh ?_;refine wpAny_pure ⟨aez aeC _,ih (i+1) _ L 'O' bC Qk tM gY ⟨λe he=>?_,λj q hj hq=>?_⟩ λh3 tN L3 HG tO HH=>?_⟩
   ·obtain⟨j,a',q,hj,r⟩:=hA.src e he;exact⟨j,a',q,'O',r⟩
   ·obtain z|z:=ET j i
    ·exact hA.all j q z hq
    ·have:j=i:='O'
     subst this;rw[hp]at hq;cases hq;exact hh
   ·exact hR h3 tN L3 (λb o hb qU e=>HG b o hb qU (hm b o hb e)) tO HH
  ·refine ZM gY 'O' xp hh λh2 L2 HI hS2 pm=>?_
   refine wpAny_pure ⟨aez aeC _,ih (i+1) _ L2 'O' bC (W.frame _ h1 h2 Qk λb hb o e=>?_) (tM.at λb hb o e=>?_) hS2 ⟨λe he=>?_,λj q hj hq=>?_⟩ λh3 tN L3 HG tO HH=>?_⟩
   ·rw[HI.2 b (λh:b=S=>wW (by rw[<- h];exact hb))];exact e
   ·rw[HI.2 b (Qj b hb).2];exact e
   ·have he2:=pm.mem_iff.mp (i8.mpr ⟨e,he,rfl⟩);obtain z|z:=ff.mp he2
    ·exact⟨i,a,p,aek i,ha,hp,z⟩
    ·obtain⟨e',jX,ee⟩:=i8.mp z;obtain⟨j,a',q,hj,h4,h5,h6⟩:=hA.src e' jX;exact⟨j,a',q,'O',h4,h5,by rw[<- ee,h6]⟩
   ·have mem:∀z,z∈L2.map (·.2.1)↔z=hP p\/z∈L.map (·.2.1):=λz=>by
     have:=(pm.map (·.1)).mem_iff (a:=z);rw[gz,JJ,ff,gz]at this;exact this
    rw[mem];obtain z|z:=ET j i
    ·exact .inr (hA.all j q z hq)
    ·have:j=i:='O'
     subst this;rw[hp]at hq;cases hq;exact .inl rfl
   ·exact hR h3 tN L3 (λb o hb qU e=>HG b o hb qU (by
     rw[HI.2 b qU];exact hm b o hb e)) tO HH
end
section
variable {A:Around}
theorem VD (e:h.get? a=some (L2.sV b)):iT b h a []:=
 ⟨_,_,_,e,⟨rfl,rfl,rfl⟩,rfl,⟨rfl,rfl,rfl,rfl,(.inl rfl),(show 0*5<7*3 by decide),.nil,(λe h=>nomatch h),.nil,λe h=>nomatch h⟩⟩
theorem V9 {Q:vn->adJ->Prop}(hh:A.handled=none)(hu:A.units+4<cLine)(hl:s.heap.IsList l (as.map Value.ref).toArray)(kU:nG s.heap as ps)(hS:s.heap.get? S=some (L2.sV led))(hlS:l≠S)(haS:∀a∈as,a≠S)(h:∀h' tk L,(∀b o,b≠S->s.heap.get? b=some o->h'.get? b=some o)->iT led h' S L->Acc as ps as.length L->Q .none {s with heap:=h',toks:=tk}):
  wpAny (model prog w) A.in1 (Builtin.«set.__init__» ⟨[.ref S,.ref l],[]⟩) (λfin s'=>∃r,fin=.done (.ret r)/\Q r s') E s:=by
 obtain⟨ol,tP,wA,nl,hdl⟩:_:=id hl;obtain⟨adC,adw,adx,adu⟩:=ol;subst wA;subst hdl;have adD:=F.sub_list_set;have adE:=F.sub_list_frozenset;unfold Builtin.«set.__init__» noKeywords Builtin.Frozenset.updateFrom;generalize hPI:pyIter=PI;obtain⟨h0,g0,d0,t0,o0⟩:=s
 wp_walk
 subst hPI;refine afy hl ?_;refine ab (wpAny_runValue ?_);have hh3:A.in1.in1.handled=none:=by simp[hh]
 have acT:=AS (nt tP);have wX:=AS (nt hS);have cT:(as.map Value.ref).toArray.size=as.length:=by grind
 have aI:∀a∈as,a≠h0.objs.size:=λa ha=>by
  obtain⟨j,hj,ej⟩:=DO ha;obtain⟨o,_,_,_,ho,_⟩:_:=kU.wV j a _ (by grind) (ar (by rw[kU.len];exact hj));exact AS (nt ho)
 refine V8 (led:=led) (ps:=ps) (Walks.list hh3 h0.objs.size l acT (as.map Value.ref).toArray) S (by grind) (by grind) cT (λi v hv=>?_) (λa ha=>⟨by grind,haS a ha⟩) _ 0 _ [] rfl (zd _) ?_ (kU.at λa ha o e=>mf _ e) ?_ ⟨(λe h=>nomatch h),λj p h=>nomatch h⟩ λh' tk L hk gY tQ=>?_
 ·grind
 ·exact⟨⟨_,BN _ rfl,rfl,rfl⟩,hl.push _⟩
 ·exact VD (b:=led) (mf _ hS)
 ·refine wpAny_pure ?_;rw[cT]at tQ;refine wpAny_pure ⟨_,rfl,h h' tk L (λb o hb e=>hk b o ?_ hb (mf _ e)) gY tQ⟩
  simp_all [AS,nt]
set_option maxHeartbeats 3200000 in
theorem Wa (hh:A.handled=none)(hu:A.units+8<cLine)(hl:s.heap.IsList l (as.map Value.ref).toArray)(kU:nG s.heap as ps)(h:∀(h':Heap) (tk:Nat) (L:List Ent),iT (!w.params.followText "set-order") h' s.heap.objs.size L->Acc as ps as.length L->(∀b o,s.heap.get? b=some o->h'.get? b=some o)->Q (.ref s.heap.objs.size) {s with heap:=h',toks:=tk}):
  wpAny (model prog w) A (call (.type "set") [.ref l]) Q E s:=by
 obtain⟨c,tl,adF⟩:=ad9.mro;have ady:=ad9.made;have acN:=ad9.sub;refine wpAny_call (codeAny_of_tree ?_);show wpAny _ _ (callAny (.type "set") _) _ _ _;refine wpAny_pure ⟨Code.quiet_builtin _ 'W',aeA F.entry_type_call ?_⟩;rw[Around.under_plain (weight_type_call_type "set" [.ref l] []) rfl];have h1:=ad9.notType;have h2:=ad9.canCreate;have hct:=F.typeCall_set_1 (.ref l)
 repeat (any_goals (first|assumption|wp_step))
 refine aeR (L2.WY (.ref l) (E:=E) (Q₁:=λobj bA=>obj=.ref s.heap.objs.size/\bA={s with heap:=s.heap.push (L2.sV (!w.params.followText "set-order"))}) ⟨rfl,rfl⟩) λr bA hr=>?_
 cases r with
 |error e=>exact hr
 |ok fl=>
  cases fl with
  |ret obj=>
   obtain⟨rfl,rfl⟩:=hr;have hS:(s.heap.push (L2.sV (!w.params.followText "set-order"))).get? s.heap.objs.size=some (L2.sV (!w.params.followText "set-order")):=BN _ rfl;have hT:Shared.TypeIs {s with heap:=s.heap.push (L2.sV (!w.params.followText "set-order"))} (.ref s.heap.objs.size) "set":=⟨_,hS,rfl⟩
   have qP:=ad9.init.lookup;have hbi:=ad9.init.bind (.ref s.heap.objs.size)
   repeat (any_goals (first|assumption|wp_step))
   refine aeR (codeAny_call_builtin (R:=wants (λr pV=>r=.none/\∃h' tk L,pV={s with heap:=h',toks:=tk}/\iT (!w.params.followText "set-order") h' s.heap.objs.size L/\Acc as ps as.length L/\(∀b o,s.heap.get? b=some o->h'.get? b=some o)) E)
    ad9.init.plain F.entry_set_init (check_set_init_1 hT ?_)) λacU pV Fs=>?_
   ·refine ae6 (V9 (A:=A.in1) (ps:=ps) (by simp[hh]) (by show A.units+1+4<cLine;lia) (hl.push _) (kU.at λa ha o e=>mf _ e) hS ?_ (λa ha=>?_) (Q:=λr pV=>r=.none/\∃h' tk L,pV={s with heap:=h',toks:=tk}/\iT (!w.params.followText "set-order") h' s.heap.objs.size L/\Acc as ps as.length L/\(∀b o,s.heap.get? b=some o->h'.get? b=some o)) λh' tk L hk gY tQ=>?_) (λfin s' x=>?_) λe s' x=>x
    ·obtain⟨ol,tP,_⟩:=hl;exact AS (nt tP)
    ·obtain⟨j,hj,ej⟩:=DO ha;obtain⟨o,_,_,_,ho,_⟩:=kU.wV j a _ (by rw[ar hj,ej]) (ar (by rw[kU.len];exact hj));exact AS (nt ho)
    ·exact⟨rfl,h',tk,L,rfl,gY,tQ,λb o e=>hk b o (AS (nt e)) (mf _ e)⟩
    ·obtain⟨r,rfl,x⟩:=x;exact x
   ·cases acU with
    |error e=>exact Fs
    |ok ab5=>
     cases ab5 with
     |ret r=>
      obtain⟨rfl,h',tk,L,rfl,gY,tQ,tJ⟩:=Fs
      repeat (any_goals (first|assumption|wp_step))
      exact h _ _ L gY tQ tJ
     |_=>exact Fs.elim
  |_=>exact hr.elim
end
def kq (w:afV)(a:adG)(ep:Nat)(L:List Ent):List (Int×vn):=if w.params.followText "set-order" then (pickOrder (w.params.setOrder a ep) (L.map (·.2)).toArray).toList else L.map (·.2)
theorem ub (w:afV)(a:adG)(ep:Nat)(L:List Ent):(kq w a ep L).Perm (L.map (·.2)):=by
 unfold kq;split
 ·exact(L2.WZ _ _).trans 'Y'
 ·rfl
def slotAt (b:Bool)(L:List Ent):Nat->Nat
 |0=>0
 |i+1=>if b then 0 else (L.map (·.1)).getD i 0+1
def mJ (h:Heap)(it a:adG)(slot i n ep:Nat):Prop:=∃o,h.get? it=some o/\o.cls=.type "set_iterator"/\o.data=.fields #[.int slot 0,.int i 0,.ref a,.int n 0,.int ep 0]
def jT (led:Bool)(h:Heap)(a:adG)(L:List Ent)(ep:Nat):Prop:=
 ∃o t,h.get? a=some o/\o.ExactSet/\o.data=.set (L.map (·.2)).toArray ep t/\Tb led t L/\t.fits (L.map (·.2)).toArray.size=true
theorem jT.at (x:jT led h a L ep)(e:∀o,h.get? a=some o->h'.get? a=some o):jT led h' a L ep:=
 by obtain⟨o,t,ho,r⟩:=x;exact⟨o,t,e o ho,r⟩
theorem mJ.at {it:adG}(x:mJ h it a slot i n ep)(e:∀o,h.get? it=some o->h'.get? it=some o):mJ h' it a slot i n ep:=
 by obtain⟨o,ho,r⟩:=x;exact⟨o,e o ho,r⟩
theorem mJ.typeIs {s:adJ}{it:adG}(x:mJ s.heap it a slot i n ep):s.TypeIs (.ref it) "set_iterator":=
 by obtain⟨o,ho,hc,_⟩:=x;exact⟨o,ho,hc⟩
theorem jT.typeIs {s:adJ}(x:jT led s.heap a L ep):s.TypeIs (.ref a) "set":=
 by obtain⟨o,t,ho,hc,_⟩:=x;exact⟨o,ho,hc.1⟩
theorem Wb (up:(L.map (·.1)).Pairwise (· < ·))(hi:i<=L.length):SetTable.below (L.map (·.1)).toArray (slotAt false L i)=i:=by
 have key:=λp q hp hq h=>OK.mp up p q hp hq h
 have hl:(L.map (·.1)).length=L.length:=aa ..;refine L2.Ck (by rw[Co,hl];exact hi) (λq h1 h2=>?_) (λq h1 h2=>?_)
 ·rw[L2.getD_list,ir,ar h2];cases i with
  |zero=>lia
  |succ i=>
   have iE:i<(L.map (·.1)).length:='O'
   show _<(L.map (·.1)).getD i 0+1;rw[ir,ar iE];show(L.map (·.1))[q]<(L.map (·.1))[i]+1;obtain h|h:=ET q i
   ·have:=key q i h2 iE h;lia
   ·have e:q=i:='O'
    subst e;lia
 ·rw[L2.getD_list,ir,ar h2];cases i with
  |zero=>
   show ¬(L.map (·.1))[q]<0;lia
  |succ i=>
   have iE:i<(L.map (·.1)).length:='O'
   show ¬_<(L.map (·.1)).getD i 0+1;rw[ir,ar iE];show ¬(L.map (·.1))[q]<(L.map (·.1))[i]+1;have:=key i q iE h2 'O';lia
section
theorem X0 (hs:jT (!w.params.followText "set-order") s.heap a L ep)(hQ:Q (.ref s.heap.objs.size) {s with heap:=s.heap.push {cls:=.type "set_iterator",data:=.fields #[.int (0:Nat) 0,.int (0:Nat) 0,.ref a,.int (L.length:Nat) 0,.int ep 0]}}):
  wpAny (model prog w) A (pyIter (.ref a)) Q E s:=by
 obtain⟨o,t,ho,hex,hd,T,hf⟩:_:=id hs;refine afB hs.typeIs PySem.F.slot_set_iter (US PySem.F.slot_set_iter hs.typeIs L2.Uk ?_ (PySem.F.args_set_iter_1 _));unfold Builtin.«frozenset.__iter__» Builtin.Frozenset.slot0 slotArgs;simp only[bind_assoc];refine ab (wpAny_pure ?_)
 try dsimp only
 refine ab (wpAny_pure ?_);refine ab (ab (afe ho hd hf (wpAny_pure ?_)));refine ab (ab (Of ho hd hf ?_));refine ab (ab (aen (wpAny_pure ?_)));refine wpAny_pure ?_;refine SO (λcy=>?_) (λ_=>?_)
 ·exfalso;rw[ID]at cy;have h2:(!t.plain&&decide ((L.map (·.2)).toArray.size>1))=true:=cy.2;rw[T.plain]at h2;cases h2
 ·refine ab (wpAny_pure ?_);refine ab (wpAny_setEpoch_of ho hd hf ?_);refine ab (WA (wpAny_pure ⟨_,rfl, "set_iterator",_,⟨_,BN _ rfl,rfl⟩,L2.rD.lookup,?_⟩));simpa [rawInt]using hQ
theorem Ko (hs:jT (!w.params.followText "set-order") s.heap a L ep)(hi:i<=L.length)(hQ:Q ((kq w a ep L)[i]?.map λe=>(e.2,slotAt (w.params.followText "set-order") L (i+1))) s):
  wpAny (model prog w) A (setNext a (slotAt (w.params.followText "set-order") L i) i ep) Q E s:=by
 obtain⟨o,t,ho,hex,hd,T,hf⟩:_:=id hs;refine ab (Of ho hd hf ?_);dsimp only;refine ab (ab (aen (wpAny_pure ?_)));show wpAny _ _ (if w.params.followText "set-order"=true then _ else _) _ _ _;unfold kq at hQ;cases hb:w.params.followText "set-order" with
 |true=>
  rw[hb]at hQ;simp only[afA]at hQ ⊢;refine ab ?_;refine ab (Of ho hd hf ?_);refine ab (ab (aen (wpAny_pure ?_)));show wpAny _ _ (if w.params.followText "set-order"=true then _ else _) _ _ _;rw[hb,uu rfl];refine ab (aen (wpAny_pure ?_));refine wpAny_pure ?_;have e0:∀i,slotAt true L i=0:=λi=>by cases i<;>rfl
  rw[e0,DD]at hQ;rw[e0];exact hQ
 |false=>
  rw[hb]at hQ T;rw[rf AM];simp only[afk,↓reduceIte]at hQ;refine SO (λcy=>?_) (λ_=>?_)
  ·exfalso;have h2:(!t.plain&&decide ((L.map (·.2)).toArray.size>1))=true:=cy;rw[T.plain]at h2;cases h2
  ·have hl:=T.led;have tR:∀{Q':Unit->adJ->Prop},Q' () s->wpAny (model prog w) A (if(!t.led && !(L.map (·.2)).toArray.isEmpty)=true then unsupported "set:maker-not-led" else pure ()) Q' E s:=λhq=>by
    rw[rf (by rw[hl];exact AM)];exact wpAny_pure hq
   refine ab (tR ?_);rw[T.place,Wb T.up hi];obtain h|h:=ET i L.length
   ·have e1:(L.map (·.2)).toArray[i]?=some L[i].2:=by
     rw[NL,l8,ar h]
     rfl
    have e2:(L.map (·.1)).toArray[i]?=some L[i].1:=by
     rw[NL,l8,ar h]
     rfl
    have e3:(L.map (·.2))[i]?=some L[i].2:=by rw[<- NL];exact e1
    have e4:slotAt false L (i+1)=L[i].1+1:=by
     show(L.map (·.1)).getD i 0+1=_;rw[ir,l8,ar h]
     rfl
    rw[e1,e2];rw[e3,e4]at hQ;exact wpAny_pure hQ
   ·have e1:(L.map (·.2)).toArray[i]?=none:=by
     rw[NL,afw,aa];exact h
    have e3:(L.map (·.2))[i]?=none:=by rw[<- NL];exact e1
    rw[e1];rw[e3]at hQ;exact wpAny_pure hQ
theorem T9 {it:adG}(hit:mJ s.heap it a (slotAt (w.params.followText "set-order") L i) i L.length ep)(hs:jT (!w.params.followText "set-order") s.heap a L ep)(hx:(kq w a ep L)[i]?=some e)(iZ:a≠it)(hQ:∀h',mJ h' it a (slotAt (w.params.followText "set-order") L (i+1)) (i+1) L.length ep->Heap.SameBut it s.heap h'->Q (some e.2) {s with heap:=h'}):
  wpAny (model prog w) A (pyNext (.ref it)) Q E s:=by
 obtain⟨o,ho,hc,hd⟩:_:=id hit;obtain⟨os,t,HJ,acV,HK,T,hf⟩:_:=id hs;have hi:i<L.length:=by
  have:=(gr.mp hx).1;rw[(ub w a ep L).length_eq,aa]at this;omega
 refine ab (ae4 (adX hit.typeIs L2.rD
  (US L2.rD hit.typeIs L2.Ja ?_ (L2.Jf _))))
 refine ab (wpAny_pure ?_);refine ab (aeQ ho hd ?_);refine ab (afe HJ HK hf ?_);rw[rf 'J'];dsimp [BS];refine ab (Ko hs (aet hi) ?_);rw[hx];refine ab (wpAny_setField ho hd 'Y' ?_);have wQ:(s.heap.update it (Obj.mapFields (·.setIfInBounds 0 (rawInt ((slotAt (w.params.followText "set-order") L (i+1))))))).get? it=some _:=Nd _ ho (Obj.isFreed_of_fields (adN hd _));refine ab (wpAny_setField wQ (adN hd _) 'Y' ?_);refine wpAny_pure ⟨_,rfl,wpAny_pure (hQ _ ?_ ?_)⟩
 ·refine⟨_,Nd _ wQ (Obj.isFreed_of_fields (adN (adN hd _) _)),?_,?_⟩
  ·rw[Obj.cls_mapFields,Obj.cls_mapFields,hc]
  ·rw[adN (adN hd _)]
   rfl
 ·exact(OP ..).trans (OP ..)
theorem Ul {it:adG}(hh:A.handled=none)(hit:mJ s.heap it a (slotAt (w.params.followText "set-order") L i) i L.length ep)(hs:jT (!w.params.followText "set-order") s.heap a L ep)(hi:i=L.length)(hQ:∀h',Heap.ExtBut it s.heap h'->Q none {s with heap:=h'}):wpAny (model prog w) A (pyNext (.ref it)) Q E s:=by
 obtain⟨o,ho,hc,hd⟩:_:=id hit;obtain⟨os,t,HJ,acV,HK,T,hf⟩:_:=id hs;refine ab (ae4 (adX hit.typeIs L2.rD
  (US L2.rD hit.typeIs L2.Ja ?_ (L2.Jf _))))
 refine ab (wpAny_pure ?_);refine ab (aeQ ho hd ?_);refine ab (afe HJ HK hf ?_);rw[rf 'J'];dsimp [BS];refine ab (Ko hs (afP hi) ?_);rw[show(kq w a ep L)[i]?=none by rw[afw,(ub w a ep L).length_eq,aa,hi];exact br _];refine ab (wpAny_setField ho hd 'Y' ?_);refine ab ?_;refine ab (WA ?_ (by size_fits));refine ab (aer (by first|rfl|(simp[firstArgMember];rfl)) ?_);refine WA ?_ (by size_fits);refine ab (wpAny_handled ?_);rw[hh];refine ab (wpAny_pure (wpAny_throw ?_));refine ab (aeU ⟨_,BN _ rfl,rfl⟩ isSubtype_stop ?_);exact wpAny_pure (hQ _ (((OP ..).extBut.push _).push _))
theorem W6 (hh:A.handled=none)(iZ:a≠I):
  Walks prog w A I [I,a] [I] L.length (λi v=>∃x,(kq w a ep L)[i]?=some (x,v)) (λi h=>mJ h I a (slotAt (w.params.followText "set-order") L i) i L.length ep/\jT (!w.params.followText "set-order") h a L ep) where
 sub:=λb hb=>'J'
 frame:=λ_ _ _ st hk=>⟨st.1.at λo e=>hk I 'Y' o e,st.2.at λo e=>hk a 'Y' o e⟩
 item:=λi s Q E hi st hQ=>by
  have hl:i<(kq w a ep L).length:=by rw[(ub w a ep L).length_eq,aa];exact hi
  obtain⟨⟨x,v⟩,hx⟩:∃p,(kq w a ep L)[i]?=some p:=⟨_,ar hl⟩
  refine T9 st.1 st.2 hx iZ λh' acW tL=>?_
  exact hQ v h' s.toks ⟨x,hx⟩ ⟨acW,st.2.at λo e=>tL.extBut a o iZ e⟩ λb o hb e=>tL.extBut b o (λh=>hb (by simp[h])) e
 done:=λs Q E st hQ=>Ul hh st.1 st.2 rfl λh' jX=>hQ h' s.toks λb o hb e=>jX b o (λh=>hb (by simp[h])) e
 self:=λi s Q E st hQ=>by
  refine afB st.1.typeIs L2.Jg (US L2.Jg st.1.typeIs L2.Uj ?_ (L2.UK _));exact wpAny_pure ⟨_,rfl, "set_iterator",_,st.1.typeIs,L2.rD.lookup,hQ⟩
theorem ZN:
  PySem.W.KdlSrc prog w "set" a a L.length (λi v=>∃x,(kq w a ep L)[i]?=some (x,v)) (λh=>jT (!w.params.followText "set-order") h a L ep) where
 type:=λ_ hm=>hm.typeIs
 there:=λ_ hm=>by obtain⟨_,_,ho,_⟩:_:=hm;exact⟨nt ho,nt ho⟩
 keep:=λ_ _ hm hk=>hm.at λo e=>hk a (.inl rfl) o e
 notList:='Q'
 notTuple:='Q'
 hint:=λ_ _ _ _ hm hq=>L2.XS hm.typeIs hq
 iter:=λ_ _ hh hm=>⟨_,_,(λ_ _ hq=>X0 hm hq),W6 hh (by obtain⟨_,_,ho,_⟩:=hm;exact AS (nt ho)),⟨⟨_,BN _ rfl,rfl,rfl⟩,hm.at λo e=>mf _ e⟩⟩
end
end Ts
namespace L2
open PySem PySem.Spec PyProof.Rows
def qV (x y:LI):Prop:=So.lexLt y x=false
def lS (ds:LL):LL:=ds.mergeSort λa b=>!So.lexLt b a
theorem ug (ds:LL):(lS ds).Perm ds:=List.mergeSort_perm ..
theorem ZO (ds:LL):(lS ds).Pairwise qV:=by
 have:=List.pairwise_mergeSort (le:=λa b:LI=>!So.lexLt b a) (λa b c h1 h2=>by
  cases h:So.lexLt c a with
  |false=>rfl
  |true=>
   obtain z|z:=So.Em c b a h
   ·simp_all
   ·simp_all) (λa b=>by
  simp[Bool.or_eq_true];cases h:So.lexLt b a with
  |false=>exact .inl rfl
  |true=>
   right
   cases z:So.lexLt a b with
   |false=>rfl
   |true=>
    have:=So.Ej a b a z h;rw[So.Dp]at this;cases this) ds
 exact this.imp λh=>by simpa [qV]using h
theorem Jt {b:LL}(p:a.Perm b)(ha:a.Pairwise qV)(hb:b.Pairwise qV):a=b:=List.Perm.eq_of_pairwise (λx y _ _ h1 h2=>So.Dq x y h2 h1) ha hb p
abbrev dT (d:LI):Dv:=.tup (d.map di)
theorem Dt:∀{as:List adG} {its:List vn},Vals (as.map V.ref) its->its=as.map Value.ref
 |[],_,r=>by cases r;rfl
 |a::as,_,r=>by
  cases r with
  |cons h t=>cases h;rw[Dt t];rfl
structure HL (K:Frag) (H:Hp) (as:List adG) (ds:LL):Prop where
 len:as.length=ds.length
 at_:∀(j:Nat) (a:adG) (d:LI),as[j]?=some a->ds[j]?=some d->cO K H a (d.map V.int)
theorem Du {K:Frag}:∀{ds:LL} {ys:List V},aG K G (ds.map dT) ys->∃as,ys=as.map V.ref/\HL K G as ds
 |[],_,h=>by cases h;exact⟨[],rfl,rfl,λj a d h=>nomatch h⟩
 |d::ds,_,h=>by
  obtain⟨y,ys,rfl,⟨a,vs,rfl,h1,h2⟩,h3⟩:_:=h;obtain⟨as,rfl,T⟩:=Du h3;have:=nN h2;subst this;refine⟨a::as,rfl,by rw[IF,IF,T.len],λj a' d' e1 e2=>?_⟩;cases j with
  |zero=>cases e1;cases e2;exact h1
  |succ j=>exact T.at_ j a' d' e1 e2
theorem CP {K:Frag}:∀{qs:List (adG×LI)},(∀q∈qs,cO K G q.1 (q.2.map V.int))->aG K G (qs.map λq=>dT q.2) (qs.map λq=>V.ref q.1)
 |[] => λ_=>rfl
 |q::qs=>λh=>⟨_,_,rfl,⟨q.1,_,rfl,h q (YE ..),ke⟩,CP λx hx=>h x (MW _ hx)⟩
section
variable {σ:St}
theorem Dw (I:Inv X pins σ H s)(h:cO X.K H a (d.map V.int)):So.eJ s.heap (.ref a)=some d:=by
 obtain⟨its,r,p,_⟩:_:=I.tuple h;exact So.Nx p (intsAre_of r)
def aa8 (K:Frag):List V->Hp->VK->Prop:=λxs H Q=>∃(p:adG) (as:List adG) (ds:LL),xs=[.ref p]/\aK K H p (as.map V.ref)/\HL K H as ds/\(∀d∈ds,d≠[])/\ds.length<128 /\
  ∀(l:adG) (qs:List (adG×LI)),H l=none->qs.Perm (as.zip ds)->(qs.map (·.2)).Pairwise qV->Q (.ref l) (upd H l (.lst (qs.map λq=>.ref q.1)))
theorem aa9 {as:List adG}{ds:LL}{kd:adG->LI}(hl:as.length=ds.length)(h:∀(j:Nat) a d,as[j]?=some a->ds[j]?=some d->kd a=d):as.zip ds=as.map λa=>(a,kd a):=by
 refine Po λi=>?_
 rw[l8];obtain hi|hi:=ET i as.length
 ·have iE:i<ds.length:='O'
  rw[ar hi,ar 'J',List.getElem_zip];show some (as[i],ds[i])=some (as[i],kd as[i]);rw[h i as[i] ds[i] (ar hi) (ar iE)]
 ·simp_all
theorem Vh:fA X (.builtin "sorted") (aa8 X.K):=by
 intro pins s σ H xs us Q I r h;obtain⟨p,as,ds,rfl,hq,T,ne,hz,q⟩:_:=h;obtain⟨u,rfl,rx⟩:=vals1 r;cases rx;obtain⟨its,rv,pl,iG⟩:_:=I.list hq;have:=Dt rv;subst this;have big:=cw;have hl:=T.len;obtain⟨kd,AG⟩:∃kd,kd=λa=>So.qc s.heap (.ref a):=⟨_,rfl⟩
 have wY:∀(j) (a) (d),as[j]?=some a->ds[j]?=some d->kd a=d:=λj a d e1 e2=>by
  rw[AG];show(So.eJ s.heap (.ref a)).getD []=d;rw[Dw I (T.at_ j a d e1 e2)];rfl
 refine So.VB pl.isList (λv hv=>?_) (by rw[aa];lia) λout p1 p2=>?_
 ·obtain⟨a,ha,rfl⟩:=i8.mp hv;obtain⟨j,hj,ej⟩:=DO ha;have e1:as[j]?=some a:=by rw[ar hj,ej]
  have e2:ds[j]?=some (ds[j]'(by lia)):=ar 'O';have k:=Dw I (T.at_ j a _ e1 e2);cases hd:ds[j]'(by lia)with
  |nil=>exact absurd hd (ne _ (ad1 _))
  |cons n ns=>exact⟨n,ns,by rw[k,hd]⟩
 ·obtain⟨bs,pm,eo⟩:_:=Ct p1;obtain⟨e,he⟩:=sortedAll_at s.heap (as.map Value.ref) out;have hb:=pm.length_eq;have fin:=q (s.heap.objs.size+1) (bs.map λa=>(a,kd a)) (I.aO.fresh (aeq _)) (by rw[aa9 hl wY];exact pm.map _) (by
   rw[gz,RI];unfold So.qd at p2;rw[eo,RI]at p2;refine p2.imp λ{x y} z=>?_
   rw[AG];exact z)
  rw[gz]at fin;refine⟨.ref (s.heap.objs.size+1),_,I.laid (t':=s.toks) (λb o e=>sortedAll_old e) (aeq _) ?_,rfl,fin⟩;exact⟨by rw[aa];lia,out.toList,e,by rw[eo];exact Cu bs,by exact he⟩
end
abbrev lP (p:Nat×Nat):LI:=[(p.1:Int),(p.2:Int)]
section
variable {σ:St}
theorem abb (I:Inv X pins σ H s)(h:cO X.K H a ((lP p).map V.int)):Ts.gE s.heap p a:=by
 obtain⟨its,r,⟨o,h1,h2,n,h3⟩,_⟩:_:=I.tuple h;cases r with
 |cons e1 r=>
  cases r with
  |cons e2 r=>
   cases r
   obtain⟨t,rfl⟩:=e1;obtain⟨u,rfl⟩:=e2;exact⟨o,n,t,u,h1,h2,h3⟩
def zG (w:afV)(l:adG)(L:List Ts.Ent):HO:=.ext λh=>Ts.iT (!w.params.followText "set-order") h l L
def Pg (K:Frag)(w:afV):List V->Hp->VK->Prop:=λxs H Q=>∃(p:adG) (as:List adG) (ps:List (Nat×Nat)),xs=[.ref p]/\aK K H p (as.map V.ref)/\HL K H as (ps.map lP)/\(∀p∈ps,p.1<=6/\p.2<=6) /\
  ∀l L,H l=none->Ts.Acc as ps as.length L->(L.map (·.2.1)).Nodup->L.length<=49->Q (.ref l) (upd H l (zG w l L))
theorem W7 (hc:X.calm=true)(hu:X.A.units+64<cLine):fA X (.type "set") (Pg X.K X.w):=by
 intro pins s σ H xs us Q I r h;obtain⟨p,as,ps,rfl,hq,T,sm,q⟩:_:=h;obtain⟨u,rfl,rx⟩:=vals1 r;cases rx;obtain⟨its,rv,pl,_⟩:_:=I.list hq;have:=Dt rv;subst this;have hP:Ts.nG s.heap as ps:=⟨by rw[T.len,aa],sm,λj a p e1 e2=>abb I (T.at_ j a _ e1 (by rw[l8,e2];rfl))⟩
 refine Ts.Wa (I.ok.hd hc) 'O' pl.isList hP λh' tk L hs hA kp=>?_
 have nd:(L.map (·.2.1)).Nodup:=by obtain⟨_,_,_,_,_,_,T⟩:_:=id hs;exact T.nd
 refine⟨.ref s.heap.objs.size,_,I.laid (t':=tk) kp (br _) ?_,rfl,q _ L (I.aO.fresh (br _)) hA nd (hA.len hP nd)⟩;refine⟨hs,?_,λh1 h2 x e=>x.at e⟩;obtain⟨o,_,_,ho,_⟩:_:=hs;exact⟨o,ho⟩
def ND (K:Frag)(w:afV):List V->Hp->VK->Prop:=λxs H Q=>∃(p:adG) (L:List Ts.Ent) (rs:List (adG×(Nat×Nat))),xs=[.ref p]/\H p=some (zG w p L)/\L.map (·.2.2)=rs.map (λr=>Value.ref r.1)/\(∀r∈rs,cO K H r.1 ((lP r.2).map V.int))/\rs.length<128 /\
  ∀(l:adG) (qs:List (adG×LI)),H l=none->qs.Perm (rs.map λr=>(r.1,lP r.2))->(qs.map (·.2)).Pairwise qV->Q (.ref l) (upd H l (.lst (qs.map λq=>.ref q.1)))
theorem Vi (hc:X.calm=true):fA X (.builtin "sorted") (ND X.K X.w):=by
 intro pins s σ H xs us Q I r h;obtain⟨p,L,rs,rfl,hp,hL,hr,hz,q⟩:_:=h;obtain⟨u,rfl,rx⟩:=vals1 r;cases rx;have hS:=(I.aO p _ hp).1;obtain⟨o,t,ep,h1,h2,h3,h4⟩:_:=hS;have hE:Ts.jT (!X.w.params.followText "set-order") s.heap p L ep:=⟨o,t,h1,h2,h3,h4,h4.fits⟩
 have big:=cw;have Ll:L.length=rs.length:=by
  have:=congrArg List.length hL;rw[aa,aa]at this;exact this
 have tup:=λr qW=>Dw I (hr r qW)
 refine Calls.call_function_entry kind_sorted plain_sorted entry_sorted (args_sorted1 _) ?_;refine ab (wpAny_pure ?_);refine ab (PySem.W.kdu_collect (Ts.ZN) (I.ok.hd hc) hE 'O' λh' tk acc hk dS=>?_);have ha:acc.toList.length=L.length:=by rw[NJ,dS.1]
 have Gr:acc.toList=(Ts.kq X.w p ep L).map (·.2):=by
  apply Po;intro j;obtain hj|hj:=ET j acc.toList.length
  ·obtain⟨x,hx⟩:=dS.2 j acc.toList[j] (by rw[<- DD];exact ar hj);rw[ar hj,l8,hx]
   rfl
  ·rw[Pd hj,Pd (by rw[aa,(Ts.ub X.w p ep L).length_eq,aa,<- ha];exact hj)]
 have pv:acc.toList.Perm (rs.map λr=>Value.ref r.1):=by
  rw[Gr,<- hL];have:=(Ts.ub X.w p ep L).map (·.2);rw[gz]at this;exact this
 have pv':acc.toList.Perm ((rs.map (·.1)).map Value.ref):=by rw[gz];exact pv
 obtain⟨ks,pk,ea⟩:_:=Ct pv';have known:∀a∈ks,∃r∈rs,r.1=a:=λa hm=>by
  obtain⟨r,h1,h2⟩:=i8.mp (pk.mem_iff.mp hm);exact⟨r,h1,h2⟩
 refine ab (wpAny_newList ?_ (by rw[ha];lia));have oJ:(h'.push (seqObj "list" acc.toList.toArray 0)).get? h'.objs.size=some (seqObj "list" acc.toList.toArray 0):=BN _ rfl;have Ft:∀v ns,So.eJ s.heap v=some ns->So.eJ (h'.push (seqObj "list" acc.toList.toArray 0)) v=some ns:=λv ns e=>So.CO e λt o _ ht _=>mf _ (hk t o ht)
 refine ab (Sm (US slot_list_sort ⟨_,oJ,rfl⟩ entry_list_sort (So.Jb oJ (λv hv=>?_) (by rw[ha];lia) λout p1 p2=>⟨_,rfl,wpAny_pure ⟨_,rfl,?_⟩⟩) (args_list_sort _)))
 ·rw[ea]at hv;obtain⟨a,hm,rfl⟩:_:=i8.mp hv;obtain⟨r,qW,rfl⟩:_:=known a hm;exact⟨_,_,Ft _ _ (tup r qW)⟩
 ·rw[ea]at p1;obtain⟨bs,pm,eo⟩:_:=Ct p1;obtain⟨e,heL⟩:=sortedHeap_at (out:=out) oJ;have I1:=I.kept (t':=tk) hk;obtain⟨kd,AG⟩:∃kd,kd=λa=>(So.eJ s.heap (.ref a)).getD []:=⟨_,rfl⟩
  have wY:∀r∈rs,kd r.1=lP r.2:=λr qW=>by rw[AG];show(So.eJ s.heap (.ref r.1)).getD []=_;rw[tup r qW];rfl
  have lt:bs.length=rs.length:=by rw[pm.length_eq,pk.length_eq,aa]
  have fin:=q h'.objs.size (bs.map λa=>(a,kd a)) (I1.aO.fresh (br _)) (by
   have:=(pm.trans pk).map λa=>(a,kd a)
   rw[gz]at this;refine this.trans (aeD (List.map_congr_left λr qW=>?_));show(r.1,kd r.1)=_;rw[wY r qW]) (by
   rw[gz,RI];unfold So.qd at p2;rw[eo,RI]at p2;refine p2.imp_of_mem λ{x y} hx hy z=>?_
   obtain⟨rx,Ru,rfl⟩:=known x (pm.mem_iff.mp hx);obtain⟨ry,Rv,rfl⟩:=known y (pm.mem_iff.mp hy);unfold So.qc at z;rw[Ft _ _ (tup rx Ru),Ft _ _ (tup ry Rv)]at z;show So.lexLt (kd ry.1) (kd rx.1)=false;rw[wY rx Ru,wY ry Rv];exact z)
  rw[gz]at fin;refine⟨.ref h'.objs.size,_,I1.laid (t':=tk) (λb o eb=>?_) (br _) ?_,rfl,fin⟩
  ·have lt:=nt eb;rw[sortedHeap_old (AS lt) (by rw[size_push'];exact aec lt),YO _ _ _ (AS lt)];exact eb
  ·refine⟨by rw[aa];lia,out.toList,e,?_,by rw[Array.toArray_toList];exact heL⟩;rw[eo];exact Cu bs
end
def kz (ps:List (Nat×Nat)):List (Nat×Nat):=Ts.mZ.filter λp=>ps.contains p
theorem ZP:(Ts.mZ.map lP).Pairwise qV:=by
 have key:((Ts.mZ.map lP).Pairwise λx y=>So.lexLt y x=false):='W'
 exact key
theorem ZQ:Ts.mZ.Nodup:='W'
theorem Kp:p∈Ts.mZ↔p.1<=6/\p.2<=6:=by
 constructor
 ·intro h;obtain⟨a,ha,h⟩:=aeo.mp h
  grind
 ·intro h;exact aeo.mpr ⟨p.1,l9.mpr 'O',i8.mpr ⟨p.2,l9.mpr 'O',rfl⟩⟩
section
variable {F:aU ι}{pos:Pos}
theorem VE (hm:F.mg "sorted"=none)(i3:F.mg "set"=none)(ha:Ev F a ρ ta)(ea:er ta=.lst ((ps.map lP).map dT))(sm:∀p∈ps,p.1<=6/\p.2<=6){p1 p2 kx:Pos}(hg:∀i,Gl (F.cx i) "sorted":=by intro _;rfl)(jz:∀i,Gl (F.cx i) "set":=by intro _;rfl)(hs:∀i,starEach [a] (F.cx i).env=[(false,eval a (F.cx i).env)]:=by intro _;rfl)(du:∀i,starEach [.Call (.Name "set" p2) [a] [] kx] (F.cx i).env=[(false,eval (.Call (.Name "set" p2) [a] [] kx) (F.cx i).env)]:=by intro _;rfl):
  Ev F (.Call (.Name "sorted" p1) [.Call (.Name "set" p2) [a] [] kx] [] pos) ρ (.ow (((kz ps).map lP).map λd=>.fz (dT d))):=by
 obtain⟨τ,p,q⟩:_:=ha.use;refine⟨me (ND F.K F.w) (dR (me (Pg F.K F.w) (dR τ d8)) d8),λi=>uk (F.hK i▸F.hw i▸Vi (F.calm i)) (hg i) ((F.hm i).symm▸hm) JE (cf (xY (F.hK i▸F.hw i▸W7 (F.calm i) (F.hr i).units) (jz i) ((F.hm i).symm▸i3) Nc (cf (p i) cG (hs i)) 'Q' 'Q' (hs i) rfl) cG (du i)) 'Q' 'Q' (du i) rfl,λσ G H Q s rr k=>q σ G H _ s rr λv G1 H1 s1 hx=>?_⟩;rw[ea]at hx;obtain⟨l,ys,rfl,h1,h2⟩:_:=hx;obtain⟨as,rfl,T⟩:_:=Du h2;have pl:ps.length=as.length:=by rw[T.len,aa]
 refine⟨l,as,ps,rfl,s1.s.seq h1,⟨T.len,λj a d e1 e2=>aj.tup s1.s (T.at_ j a d e1 e2)⟩,sm,λl0 L tI hA nd hL=>?_⟩;have ex:∀e∈L,∃r:adG×(Nat×Nat),e.2=(Ts.hP r.2,Value.ref r.1)/\cO F.K G1 r.1 ((lP r.2).map V.int)/\r.2∈ps:=λe he=>by
  obtain⟨j,a,p,_,e1,e2,e3⟩:_:=hA.src e he;exact⟨(a,p),e3,T.at_ j a _ e1 (by rw[l8,e2];rfl),ba e2⟩
 obtain⟨rs,hrs⟩:∃rs:List (adG×(Nat×Nat)),L.map (·.2)=rs.map (λr=>(Ts.hP r.2,Value.ref r.1))/\∀r∈rs,cO F.K G1 r.1 ((lP r.2).map V.int)/\r.2∈ps:=by
  clear hA nd hL
  induction L with
  |nil=>exact⟨[],rfl,λr h=>nomatch h⟩
  |cons e L ih=>
   obtain⟨rs,i1,i2⟩:=ih λx hx=>ex x (MW _ hx)
   obtain⟨r,r1,r2⟩:=ex e (YE ..);refine⟨r::rs,by rw[JJ,JJ,i1,r1],λx hx=>?_⟩;obtain rfl|hx:=ff.mp hx
   ·exact r2
   ·exact i2 x hx
 obtain⟨wZ,w4⟩:=hrs;have eh:L.map (·.2.1)=(rs.map (·.2)).map Ts.hP:=by
  have:=congrArg (List.map (·.1)) wZ;rw[gz,gz]at this;rw[gz];exact this
 have ev:L.map (·.2.2)=rs.map (λr=>Value.ref r.1):=by
  have:=congrArg (List.map (·.2)) wZ;rw[gz,gz]at this;exact this
 have rl:rs.length=L.length:=by
  have:=congrArg List.length ev;rw[aa,aa]at this;exact this.symm
 refine⟨l0,L,rs,rfl,bM,ev,λr hr=>aj.tup (s1.s.trans (aj.new tI)) (w4 r hr).1,'O',λl2 qs oM pm pw=>?_⟩;have k2:=k.step (s1.trans (Step.jR (o:=zG F.w l0 L) s1.s tI));have ndk:(rs.map (·.2)).Nodup:=by
  rw[eh]at nd;exact ae0 _ (λa b cy z=>cy (by rw[z])) nd
 have mem:∀x,x∈rs.map (·.2)↔x∈kz ps:=λx=>by
  unfold kz;rw[BY,Kp]
  constructor
  ·intro h;obtain⟨r,hr,rfl⟩:=i8.mp h;exact⟨sm _ (w4 r hr).2,by simpa using (w4 r hr).2⟩
  ·rintro⟨h1,h2⟩;have h2:x∈ps:=by simpa using h2
   obtain⟨j,hj,ej⟩:=DO h2;have:=hA.all j x 'O' (by rw[ar hj,ej]);rw[eh]at this;obtain⟨y,hy,e⟩:=i8.mp this;obtain⟨r,hr,rfl⟩:=i8.mp hy;have:=Ts.NC (sm _ (w4 r hr).2) h1 e;rw[<- this];exact hy
 have pp:=(aab ndk (ZQ.sublist List.filter_sublist)).mpr mem;have e2:qs.map (·.2)=(kz ps).map lP:=Jt (by
  refine(pm.map (·.2)).trans ?_;rw[gz];have:=pp.map lP;rw[gz]at this;exact this) pw (by
  refine ZP.sublist ?_;exact List.Sublist.map _ List.filter_sublist)
 refine k2.lst (s1.s.trans (aj.new tI)) ?_ oM;rw[<- e2,gz];have:=(CP λq hq=>by
  have hq:=pm.mem_iff.mp hq;obtain⟨r,hr,rfl⟩:=i8.mp hq;exact(w4 r hr).1).jW (H:=upd H1 l0 (zG F.w l0 L))
 rw[gz]at this;exact this
theorem Wc {ds:LL}(hm:F.mg "sorted"=none)(ha:Ev F a ρ ta)(ea:er ta=.lst (ds.map dT))(ne:∀d∈ds,d≠[])(hz:ds.length<128){p':Pos}(hg:∀i,Gl (F.cx i) "sorted":=by intro _;rfl)(hs:∀i,starEach [a] (F.cx i).env=[(false,eval a (F.cx i).env)]:=by intro _;rfl):Ev F (.Call (.Name "sorted" p') [a] [] pos) ρ (.ow ((lS ds).map λd=>.fz (dT d))):=
 uo (λi=>F.hK i▸Vh) hm JE (ah ha ao hs) (λG H vs Q s hx k=>by
  obtain⟨x,rfl,eF⟩:=iQ hx;rw[ea]at eF;obtain⟨l,ys,rfl,h1,h2⟩:=eF;obtain⟨as,rfl,T⟩:=Du h2;refine⟨l,as,ds,rfl,s.seq h1,⟨T.len,λj a d e1 e2=>aj.tup s (T.at_ j a d e1 e2)⟩,ne,hz,λl2 qs oM pm pw=>?_⟩;have e2:=Jt ((pm.map (·.2)).trans (by rw[List.map_snd_zip (afP T.len.symm)];exact(ug ds).symm)) pw (ZO ds);refine k.lst s ?_ oM;rw[<- e2,gz];have:=(CP λq hq=>by
   have hq:=pm.mem_iff.mp hq;obtain⟨j,hj,ej⟩:=DO hq;have e1:as[j]?=some q.1:=by grind
   have e3:ds[j]?=some q.2:=by grind
   exact T.at_ j q.1 q.2 e1 e3).jW (H:=H)
  rw[gz]at this;exact this) hg 'Q' 'Q' hs (by intro _;rfl)
end
theorem slot_lri_next:Slot "list_reverseiterator" "__next__" "list_reverseiterator.__next__":=
 .of (owner :="list_reverseiterator") (n :="__next__") 'X' 'W' 'W' 'W'
  (by first|exact .inl 'W'|exact .inr 'W') 'X'
theorem entry_lri_next:entryFor table "list_reverseiterator.__next__"=some Builtin.«list_reverseiterator.__next__»:=entryFor_of_tree (by kernel_rfl)
theorem owner_lri:Manifest.owners.lookup (String.ofList ['r', 'o', 't', 'a', 'r', 'e', 't', 'i', 'e', 's', 'r', 'e', 'v', 'e', 'r', '_', 't', 's', 'i', 'l'].reverse)=some Manifest.sig_list_reverseiterator:=by kernel_rfl
theorem Jh (a:vn):argsOk "list_reverseiterator.__next__" ⟨[a],[]⟩:=by
 unfold argsOk;rw[afH (n:=['_', '_', 't', 'x', 'e', 'n', '_', '_']) (by kernel_rfl) owner_lri];kernel_rfl
theorem slot_lri_iter:Slot "list_reverseiterator" "__iter__" "list_reverseiterator.__iter__":=
 .of (owner :="list_reverseiterator") (n :="__iter__") rfl 'W' 'W' 'W'
  (by first|exact .inl 'W'|exact .inr 'W') rfl
theorem entry_lri_iter:entryFor table "list_reverseiterator.__iter__"=some Builtin.«dict_keyiterator.__iter__»:=
 entryFor_alias (id' :="dict_keyiterator.__iter__") (by kernel_rfl) rfl 'W' (by kernel_rfl)
theorem UL (a:vn):argsOk "list_reverseiterator.__iter__" ⟨[a],[]⟩:=by
 unfold argsOk;rw[afH (n:=['_', '_', 'r', 'e', 't', 'i', '_', '_']) (by kernel_rfl) owner_lri];kernel_rfl
theorem Wd:typeLookup (.type "list_reverseiterator") "__len__"=pure none:='X'
theorem X1:typeLookup (.type "list_reverseiterator") "__length_hint__"=pure (some (.builtin "list_reverseiterator.__length_hint__")):='X'
theorem sub_lri_reversed:isSubtype (.type "list_reverseiterator") (.type "reversed")=pure false:='X'
def oA (l:adG)(x:Int):Obj:={cls:=.type "list_reverseiterator",data:=.fields #[.ref l,rawInt x]}
section
theorem X3 {i:Nat}(hI:s.heap.get? I=some (oA l (items.size-1-i:Int)))(hl:s.heap.get? l=some {cls:=.type "list",dict:=none,data:=.seq items n,slots:=#[]})(hi:i<items.size)(hv:items[items.size-1-i]?=some v)(hQ:∀h',h'.get? I=some (oA l (items.size-1-(i+1:Nat):Int))->Heap.SameBut I s.heap h'->Q (some v) {s with heap:=h'}):wpAny (model prog w) A (pyNext (.ref I)) Q E s:=by
 have hT:s.TypeIs (.ref I) "list_reverseiterator":=⟨_,hI,rfl⟩
 refine ab (ae4 (adX hT slot_lri_next (US slot_lri_next hT entry_lri_next ?_ (Jh _))));refine ab (wpAny_pure ?_);refine ab (ab (aeQ hI rfl ?_));refine wpAny_pure ?_;show wpAny _ _ (if((items.size:Int)-1-i)<0 then _ else _) _ _ _;rw[rf 'O'];refine ab (ab (aeQ hI rfl ?_));refine wpAny_pure ?_;refine ab (afv hl rfl ?_);dsimp only;rw[show((items.size:Int)-1-i).toNat=items.size-1-i by lia,hv];refine ab (wpAny_setField_rec hI (show 1<2 by decide) λh' h1 h2=>?_);refine wpAny_pure ⟨_,rfl,wpAny_pure (hQ h' ?_ h2)⟩;rw[h1];rw[show(items.size:Int)-1-i-1=items.size-1-(i+1) by lia]
 rfl
theorem ZR (hh:A.handled=none)(hI:s.heap.get? I=some (oA l (-1)))(hQ:∀h',Heap.ExtBut I s.heap h'->Q none {s with heap:=h'}):wpAny (model prog w) A (pyNext (.ref I)) Q E s:=by
 have hT:s.TypeIs (.ref I) "list_reverseiterator":=⟨_,hI,rfl⟩
 refine ab (ae4 (adX hT slot_lri_next (US slot_lri_next hT entry_lri_next ?_ (Jh _))));refine ab (wpAny_pure ?_);refine ab (ab (aeQ hI rfl ?_));refine wpAny_pure ?_;refine ab (adQ ?_);refine ab ?_;refine ab ?_;refine ab (WA ?_ (by size_fits));refine ab (aer (by first|rfl|(simp[firstArgMember];rfl)) ?_);refine WA ?_ (by size_fits);refine ab (wpAny_handled ?_);rw[hh];refine ab (wpAny_pure (wpAny_throw ?_));refine ab (aeU ⟨_,BN _ rfl,rfl⟩ isSubtype_stop ?_);refine wpAny_pure (hQ _ λb o hb e=>mf _ (mf _ e))
def w8 (I l:adG)(items:Array vn)(c:Nat)(i:Nat)(h:Heap):Prop:=h.get? I=some (oA l (items.size-1-i:Int))/\h.get? l=some {cls:=.type "list",dict:=none,data:=.seq items c,slots:=#[]}
theorem W8 (hh:A.handled=none)(iZ:l≠I):Walks prog w A I [I,l] [I] items.size (λi v=>items[items.size-1-i]?=some v) (w8 I l items c) where
 sub:=λb hb=>'J'
 frame:=λ_ _ _ st hk=>⟨hk I 'Y' _ st.1,hk l 'Y' _ st.2⟩
 item:=λi s Q E hi st hQ=>by
  obtain⟨v,hv⟩:∃v,items[items.size-1-i]?=some v:=⟨_,WE 'Z'⟩
  refine X3 st.1 st.2 hi hv λh' h1 h2=>?_
  exact hQ v h' s.toks hv ⟨h1,(h2.2 l iZ).trans st.2⟩ λb o hb e=>(h2.2 b (λh=>hb (by simp[h]))).trans e
 done:=λs Q E st hQ=>ZR hh (by rw[st.1];congr 2;lia) λh' jX=>hQ h' s.toks λb o hb e=>jX b o (λh=>hb (by simp[h])) e
 self:=λi s Q E st hQ=>by
  have hT:s.TypeIs (.ref I) "list_reverseiterator":=⟨_,st.1,rfl⟩
  refine afB hT slot_lri_iter (US slot_lri_iter hT entry_lri_iter ?_ (UL _));exact wpAny_pure ⟨_,rfl, "list_reverseiterator",_,hT,slot_lri_next.lookup,hQ⟩
theorem X8 (hT:s.TypeIs (.ref r) "list_reverseiterator")(h:Q false s):wpAny (model prog w) A (Builtin.List.listLengthHint (.ref r)) Q E s:=by
 refine ab (aeB hT Wd ?_);refine SO (λcy=>absurd cy 'Q') (λ_=>?_);refine SO (λcy=>absurd cy 'Q') (λ_=>?_);refine ab (aeB hT X1 ?_);generalize Hs:("list_reverseiterator.__length_hint__")=id0;subst Hs;refine ab (aeU (b:=true) hT (by kernel_rfl) ?_);refine SO (λcy=>absurd cy 'Q') (λ_=>?_);refine SO (λ_=>?_) (λcy=>absurd 'W' cy);refine SO (λcy=>absurd cy 'Q') (λ_=>?_);exact wpAny_pure h
end
section
theorem We (hh:A.handled=none)(st:w8 I l items c 0 s.heap)(iZ:l≠I)(wX:S≠I)(HM:S≠l)(hS:s.heap.get? S=some {cls:=.type "list",data:=.seq #[] c₀})(hn:items.size<=sizeLine)(hR:∀h' tk gM c',(∀b o,b≠S->b≠I->s.heap.get? b=some o->h'.get? b=some o)->h'.get? S=some {cls:=.type "list",dict:=none,data:=.seq gM c',slots:=#[]}->ItemsOf (λi v=>items[items.size-1-i]?=some v) gM items.size->R (.ok (.ret res)) {s with heap:=h',toks:=tk}):
  wpAny (model prog w) A.in1 (Builtin.List.listExtendWith (.ref S) (.ref I) res)
   (λfin s'=>match fin with | .done f=>R (.ok f) s' | .again c'=>c'.quiet=true/\codeAny (model prog w) A c' R s') (λe s'=>R (.error e) s') s:=by
 have wW:S∉[I,l]:='J'
 have W:=W8 (prog:=prog) (w:=w) (A:=A.in1) (items:=items) (c:=c) hh iZ;have hT:s.TypeIs (.ref I) "list_reverseiterator":=⟨_,st.1,rfl⟩
 have key:∀(h) (c₁ tk),w8 I l items c 0 h->(∀b o,b≠S->s.heap.get? b=some o->h.get? b=some o) ->
   h.get? S=some {cls:=.type "list",data:=.seq #[] c₁}->codeAny (model prog w) A (.builtin "list.extend.loop" ⟨[.ref S,.ref I,res],[]⟩) R {s with heap:=h,toks:=tk}:=by
  intro h c₁ tk iw hk ab6;refine codeAny_extend_loopS W.toS hn S wW res items.size 0 _ #[] c₁ rfl (zd _) iw ab6 (ItemsOf.nil _) λs' gM c' hm gY dS=>?_
  rw[Moved.eq_with hm];refine hR s'.heap s'.toks gM c' (λb o hb Rx e=>hm.heap b o (λadG=>?_) (hk b o hb e)) gY dS
  simp_all
 refine ab (wpAny_typeOf hT ?_);have h1:Builtin.List.listSameRef (.ref S) (.ref I)=false:=by simp[Builtin.List.listSameRef,wX]
 have h2:(Value.type "list_reverseiterator"== Value.type "list")=false:='Q'
 have h3:(Value.type "list_reverseiterator"== Value.type "tuple")=false:='Q'
 simp[h1];refine ab (W.self 0 s _ _ st ?_);refine ab (Sm (X8 hT ?_));refine SO (λ_=>?_) (λ_=>wpAny_pure ⟨aez afx _,key _ c₀ _ st (λb o _ e=>e) hS⟩);refine ab (adQ ?_);refine ab ?_;refine ab (wpAny_updateSeq hS rfl ?_);have zH:=Nd (Obj.mapSeq (·.push Value.none)) hS rfl;refine wpAny_updateSeq zH rfl ?_;have ab7:=Nd (Obj.mapSeq (·.pop)) zH rfl;refine wpAny_pure ⟨aez afx _,key _ _ _ ?_ (λb o hb e=>?_) ab7⟩
 ·refine W.frame 0 _ _ st λb hb o e=>?_
  have qU:b≠S:=λh=>wW (h▸hb)
  exact(OF _ _ (adU qU)).trans ((OF _ _ (adU qU)).trans e)
 ·exact(OF _ _ (adU hb)).trans ((OF _ _ (adU hb)).trans e)
theorem Yb (hh:A.handled=none)(st:w8 I l items c 0 s.heap)(iZ:l≠I)(wX:S≠I)(HM:S≠l)(hS:s.heap.get? S=some {cls:=.type "list",data:=.seq #[]})(hn:items.size<=sizeLine)(hR:∀h' tk gM c',(∀b o,b≠S->b≠I->s.heap.get? b=some o->h'.get? b=some o)->h'.get? S=some {cls:=.type "list",dict:=none,data:=.seq gM c',slots:=#[]}->ItemsOf (λi v=>items[items.size-1-i]?=some v) gM items.size->R (.ok (.ret .none)) {s with heap:=h',toks:=tk}):
  wpAny (model prog w) A.in1 (Builtin.«list.__init__» ⟨[.ref S,.ref I],[]⟩)
   (λfin s'=>match fin with | .done f=>R (.ok f) s' | .again c'=>c'.quiet=true/\codeAny (model prog w) A c' R s') (λe s'=>R (.error e) s') s:=by
 refine ab ?_;refine ab (afv hS rfl (wpAny_pure ?_));refine ab (wpAny_updateSeq hS rfl ?_);have zH:=Nd (Obj.mapSeq (λ_=>(#[]))) hS rfl;have HN:∀b o,b≠S->s.heap.get? b=some o->(s.heap.update S (Obj.mapSeq (λ_=>(#[])))).get? b=some o:=
  λb o hb e=>(OF _ _ (adU hb)).trans e
 refine ab (wpAny_letGo ?_);refine We hh ⟨HN _ _ wX.symm st.1,HN _ _ HM.symm st.2⟩ iZ wX HM zH hn (λh' tk gM c' hk gY dS=>?_);exact hR h' tk gM c' (λb o hb Rx e=>hk b o hb Rx (HN b o hb e)) gY dS
end
section
theorem UM (hh:A.handled=none)(st:w8 I l items c 0 s.heap)(iZ:l≠I)(hn:items.size<=sizeLine)(hQ:∀h' tk gM c',(∀b o,b≠I->s.heap.get? b=some o->h'.get? b=some o)->h'.get? s.heap.objs.size=some {cls:=.type "list",dict:=none,data:=.seq gM c',slots:=#[]}->ItemsOf (λi v=>items[items.size-1-i]?=some v) gM items.size->Q (.ref s.heap.objs.size) {s with heap:=h',toks:=tk}):
  wpAny (model prog w) A (call (.type "list") [.ref I]) Q E s:=by
 refine callType_codes (Q₁:=λobj bA=>obj=.ref s.heap.objs.size/\bA={s with heap:=s.heap.push {cls:=.type "list",data:=.seq #[]}}) PySem.F.called_list (PySem.F.typeCall_list_1 _) PySem.F.entry_list_init
  (code_list_new _ ⟨rfl,rfl⟩) λobj bA h₁ => ?_
 obtain⟨rfl,rfl⟩:=h₁;have hS:(s.heap.push {cls:=.type "list",data:=.seq #[]}).get? s.heap.objs.size=some {cls:=.type "list",data:=.seq #[]}:=BN _ rfl;refine⟨⟨_,hS,rfl⟩,PySem.F.args_list_init_2 _ _,Yb hh ⟨mf _ st.1,mf _ st.2⟩ iZ (ad6 (nt st.1)) (ad6 (nt st.2)) hS hn (λh' tk gM c' hk gY dS=>?_)⟩;exact⟨rfl,hQ h' tk gM c' (λb o hb e=>hk b o (AS (nt e)) hb (mf _ e)) gY dS⟩
theorem TY (hl:s.heap.get? l=some {cls:=.type "list",dict:=none,data:=.seq items c,slots:=#[]})(h:Q₁ (.ref s.heap.objs.size) {s with heap:=s.heap.push (oA l (items.size-1:Int))}):
  codeAny (model prog w) A (.call (.builtin "reversed.__new__") ⟨[.type "reversed",.ref l],[]⟩) (wants Q₁ E) s:=by
 have hT:s.TypeIs (.ref l) "list":=⟨_,hl,rfl⟩
 refine codeAny_of_tree ?_;refine ab (aer (F.newCall_reversed_1 _) (wpAny_pure ⟨aez F.plain_reversed_new _,aeA F.entry_reversed_new ?_⟩));refine ab (aer (newClass_reversed _) ?_)
 try dsimp only
 refine ab (aer (a:=()) (by first|rfl|kernel_rfl) ?_);refine ab (aer (by first|rfl|kernel_rfl) ?_)
 try dsimp only
 refine ab (aeB hT ae1.lookup ?_)
 try dsimp only
 refine ab (aer (ae1.bind _) ?_)
 try dsimp only
 first
 |rw[rf (show ¬((Value.builtin "list.__reversed__"== Value.none)=true)from AM)]
 |(show wpAny _ _ (if(Value.builtin "list.__reversed__"== Value.none)=true then _ else _) _ _ _;rw[rf (AM)])
 refine ab (adQ ?_);refine ab (ae7 ae1 hT F.entry_list_reversed (F.args_list_reversed_1 _) (PySem.AutoListH.list___reversed___list_0 l items c) ⟨hl,?_⟩)
 first
 |exact wpAny_pure h
 |exact ab (wpAny_pure (wpAny_pure h))
theorem call_reversed_list (hl:s.heap.get? l=some {cls:=.type "list",dict:=none,data:=.seq items c,slots:=#[]})(h:Q (.ref s.heap.objs.size) {s with heap:=s.heap.push (oA l (items.size-1:Int))}):wpAny (model prog w) A (call (.type "reversed") [.ref l]) Q E s:=by
 refine callType_other (Q₁:=λobj bA=>obj=.ref s.heap.objs.size/\bA={s with heap:=s.heap.push (oA l (items.size-1))}) 'W' F.create_reversed ⟨_,_,F.mro_reversed⟩ F.made_reversed sub_lri_reversed (F.typeCall_reversed_1 _) (TY hl ⟨rfl,rfl⟩) ?_;rintro obj bA ⟨rfl,rfl⟩;exact⟨⟨_,BN _ rfl,rfl⟩,h⟩
end
theorem Kq:∀{xs:List V} {us:List vn},Vals xs us->Vals xs.reverse us.reverse
 |_,_,.nil=>.nil
 |_,_,.cons h t=>by rw[aeK,aeK];exact Paired.snoc (Kq t) h
def Kr (ta:TA):TE:=λσ H Q=>ta σ H λvs H1=>∃l xs,vs=[.ref l]/\H1 l=some (.lst xs)/\∀S,H1 S=none->Q (.ref S) (upd H1 S (.lst xs.reverse))
theorem Wg {p p2 pos oB:Pos}(hc:X.calm=true)(hg:Gl X "list")(hm:X.mg "list"=none)(jz:Gl X "reversed")(i3:X.mg "reversed"=none)(ha:PA X [a] ta)(hs:starEach [a] X.env=[(false,eval a X.env)]:=by rfl)(gQ:starEach [.Call (.Name "reversed" p2) [a] [] oB] X.env=[(false,eval (.Call (.Name "reversed" p2) [a] [] oB) X.env)]:=by rfl):
  PE X (.Call (.Name "list" p) [.Call (.Name "reversed" p2) [a] [] oB] [] pos) (Kr ta):=by
 intro pins s σ H Q I h;refine Call_ (mK I hg hm uD (LH ?_ gQ rfl));refine Calls.spliced_cons (Call_ (mK I jz i3 boot_reversed (LH (aJ (ha oB pins s σ H _ I h) λus s1 ⟨vs,H1,I1,r1,q1⟩=>?_) hs rfl)));obtain⟨l,xs,rfl,hH,q⟩:_:=q1;obtain⟨u,rfl,rx⟩:=vals1 r1;cases rx;obtain⟨hz,its,c,rv,hl⟩:_:=(I1.aO l _ hH)
 have ln:=rv.length;refine call_reversed_list hl (Calls.spliced_nil ?_);have lt:=nt hl;refine UM (I.ok.hd hc) ⟨?_,mf _ hl⟩ (AS lt) (by rw[Co];lia) λh' tk acc c' hk hS dS=>?_
 ·rw[BN _ rfl];congr 2;lia
 ·have sz:(s1.heap.push (oA l (its.toArray.size-1))).objs.size=s1.heap.objs.size+1:=size_push' ..;have ea:acc.toList=its.reverse:=by
   refine Po λi=>?_
   have HP:its.toArray.size=its.length:=Co ..;obtain hi|hi:=ET i its.length
   ·have iE:i<acc.size:=by rw[dS.1,HP];exact hi
    have:its.toArray[its.toArray.size-1-i]?=some acc[i]:=dS.2 i acc[i] (WE iE);rw[NL,HP]at this;rw[DD,WE iE,List.getElem?_reverse hi,this]
   ·rw[Pd (l:=its.reverse) (by rw[List.length_reverse];exact hi),DD,Array.getElem?_eq_none (by rw[dS.1,HP];exact hi)]
  have kp:=λb o e=>hk b o (AS (nt e)) (mf _ e)
  refine⟨.ref _,_,I1.laid (t':=tk) kp (by rw[sz];exact aeq _) ?_,rfl,q _ (I1.aO.fresh (by rw[sz];exact aeq _))⟩;refine⟨by rw[List.length_reverse];exact hz,its.reverse,c',?_,?_⟩
  ·exact Kq rv
  ·rw[<- ea,Array.toArray_toList];exact hS
section
variable {F:aU ι}{pos:Pos}
theorem LJ {K:Frag}:∀{ds:List Dv} {vs:List V},aG K G ds vs->aG K G ds.reverse vs.reverse
 |[],_,h=>by rw[h];rfl
 |d::ds,_,z9=>by
  obtain⟨x,r,h1,h2,h3⟩:=z9;subst h1;rw[aeK,aeK];exact aG.zY (LJ h3) ⟨x,[],rfl,h2,rfl⟩
theorem Wh {xs:List Dv}(hm:F.mg "list"=none)(i3:F.mg "reversed"=none)(ha:Ev F a ρ (.ow (xs.map .fz))){p p2 oB:Pos}(hg:∀i,Gl (F.cx i) "list":=by intro _;rfl)(jz:∀i,Gl (F.cx i) "reversed":=by intro _;rfl)(hs:∀i,starEach [a] (F.cx i).env=[(false,eval a (F.cx i).env)]:=by intro _;rfl)(gQ:∀i,starEach [.Call (.Name "reversed" p2) [a] [] oB] (F.cx i).env=[(false,eval (.Call (.Name "reversed" p2) [a] [] oB) (F.cx i).env)]:=by intro _;rfl):
  Ev F (.Call (.Name "list" p) [.Call (.Name "reversed" p2) [a] [] oB] [] pos) ρ (.ow (xs.reverse.map .fz)):=by
 obtain⟨τ,pa,q⟩:_:=ha;refine⟨Kr (dR τ d8),λi=>Wg (F.calm i) (hg i) ((F.hm i).symm▸hm) (jz i) ((F.hm i).symm▸i3) (cf (pa i) cG (hs i)) (hs i) (gQ i),λσ G H Q s r k=>q σ G H _ s r λv G1 H1 fq s1 o w1=>?_⟩;obtain⟨l,vs,f',rfl,h1,h2,h3⟩:_:=o;refine⟨l,vs,rfl,h1,λS hS=>?_⟩;have hv:aG F.K G1 xs vs:=by
  have:∀{xs:List Dv} {vs:List V} {f:List adG},aT F.K G1 H1 (xs.map .fz) vs f->aG F.K G1 xs vs:=by
   intro xs
   induction xs with
   |nil=>intro vs f h;exact h.1
   |cons d xs ih=>
    intro vs f h;obtain⟨v,r,f1,f2,rfl,_,⟨_,hd⟩,hr⟩:_:=h;exact⟨v,r,rfl,hd,ih hr⟩
  exact this h2
 exact(k.step s1).lst s1.s (LJ hv).jW hS
end
theorem NF (a:LI):dH (dT a)<=1:=jI a
end L2
namespace ag
def cn {α:Type}(R:List α)(p : α->Bool):Int:=((R.filter p).length:Nat)
def sg (m:Nat)(f:Nat->Int):Int:=((List.range m).map f).sum
theorem NI (p : α->Bool):cn ([]:List α) p=0:=rfl
theorem rS (a : α)(R:List α)(p : α->Bool):cn (a::R) p=(if p a then 1 else 0)+cn R p:=by
 unfold cn
 grind
theorem vB (R:List α)(p : α->Bool) : 0<=cn R p:=by unfold cn;lia
theorem uJ (f:Nat->Int):sg 0 f=0:=rfl
theorem iL (m:Nat)(f:Nat->Int):sg (m+1) f=sg m f+f m:=by
 unfold sg;rw[List.range_succ,B0,aea];simp
theorem mE (h:∀i,i<m->f i=g i):sg m f=sg m g:=by
 grind [sg,List.map_congr_left]
theorem yZ (m:Nat)(f g:Nat->Int):sg m (λi=>f i+g i)=sg m f+sg m g:=by
 induction m with
 |zero=>rfl
 |succ m ih=>rw[iL,iL,iL,ih];lia
theorem vb (m:Nat)(k:Int)(f:Nat->Int):sg m (λi=>k*f i)=k*sg m f:=by
 induction m with
 |zero=>rw[uJ,uJ,Int.mul_zero]
 |succ m ih=>rw[iL,iL,ih,aes]
theorem sy (m:Nat)(f g:Nat->Int):sg m (λi=>f i-g i)=sg m f-sg m g:=by
 induction m with
 |zero=>rfl
 |succ m ih=>rw[iL,iL,iL,ih];lia
theorem lI (h:∀i,i<m->0<=f i) : 0<=sg m f:=by
 induction m with
 |zero=>exact aff _
 |succ m ih=>
  rw[iL]
  grind
theorem lJ (h:∀i,i<m->f i<=g i):sg m f<=sg m g:=by
 induction m with
 |zero=>exact aff _
 |succ m ih=>
  grind [iL]
theorem sC (h:∀i,i<m->0<=f i)(hi:i<m):f i<=sg m f:=by
 induction m with
 |zero=>exact absurd hi (WJ _)
 |succ m ih=>
  rw[iL];have:=lI λi hi=>h i (aec hi)
  grind
theorem BO (h:∀i,i<m->0<=f i)(z:sg m f=0):∀i,i<m->f i=0:=λi hi=>by
 have:=sC h hi
 grind
theorem pK (m:Nat)(k:Nat)(v:Int):sg m (λi=>if i=k then v else 0)=if k<m then v else 0:=by
 induction m with
 |zero=>rw[uJ,rf (WJ _)]
 |succ m ih=>
  rw[iL,ih];lia
theorem Ph (R:List α)(f : α->Nat)(p : α->Bool)(h:∀c∈R,f c<m):sg m (λi=>cn R λc=>decide (f c=i)&&p c)=cn R p:=by
 induction R with
 |nil=>
  have:sg m (λ_=>(0))=0:=by
   have:=vb m 0 λ_=>0
   simp_all
  exact this
 |cons c R ih=>
  rw[rS,<- ih λc hc=>h c (.tail _ hc)];rw[mE (g:=λi=>(if i=f c then (if p c then 1 else 0)else 0)+cn R λc=>decide (f c=i)&&p c) λi _=>?_,yZ,pK,uu (h c (.head _))];rw[rS]
  grind
theorem Yc (R:List α)(p q : α->Bool):cn R (λc=>p c&&q c)+cn R (λc=>p c && !q c)=cn R p:=by
 induction R with
 |nil=>rfl
 |cons c R ih=>
  rw[rS,rS,rS,<- ih];cases p c<;>cases q c<;>simp<;>lia
theorem NK {R:List α}{p : α->Bool}(h : 0<cn R p):∃c∈R,p c=true:=by
 unfold cn at h
 simp_all
theorem Er {R:List α}{p : α->Bool}{c : α}(h:c∈R)(hp:p c=true) : 1<=cn R p:=by
 unfold cn;have:=List.length_pos_of_mem (BY.mpr ⟨h,hp⟩);lia
theorem Dx {R:List α}{p : α->Bool}(h:∀c∈R,p c=false):cn R p=0:=by
 unfold cn
 simp_all
theorem Es {R:List α}{p : α->Bool}(nd:R.Nodup)(h:∀c∈R,∀d∈R,p c=true->p d=true->c=d):cn R p<=1:=by
 induction R with
 |nil=>rw[NI];decide
 |cons c R ih=>
  grind [rS,Dx]
def sl (f:Nat->Int)(l:List Nat):Int:=(l.map f).sum
theorem km (f:Nat->Int)(a:Nat)(l:List Nat):sl f (a::l)=f a+sl f l:=by
 rfl
theorem abd (f g:Nat->Int)(l:List Nat):sl (λx=>f x+g x) l=sl f l+sl g l:=by
 induction l with
 |nil=>rfl
 |cons a l ih=>rw[km,km,km,ih];lia
theorem abe (f g:Nat->Int)(l:List Nat):sl (λx=>f x-g x) l=sl f l-sl g l:=by
 induction l with
 |nil=>rfl
 |cons a l ih=>rw[km,km,km,ih];lia
theorem vd (k:Int)(f:Nat->Int)(l:List Nat):sl (λx=>k*f x) l=k*sl f l:=by
 induction l with
 |nil=>show(0)=k*0;rw[Int.mul_zero]
 |cons a l ih=>rw[km,km,ih,aes]
theorem Fu {f g:Nat->Int}{l:List Nat}(h:∀x∈l,f x<=g x):sl f l<=sl g l:=by
 induction l with
 |nil=>exact aff _
 |cons a l ih=>
  rw[km,km];have:=ih λx hx=>h x (.tail _ hx)
  have:=h a (.head _);lia
theorem uv (h:∀x∈l,f x=g x):sl f l=sl g l:=by
 grind [sl,List.map_congr_left]
theorem ab8 (h:∀x∈l,0<=f x) : 0<=sl f l:=by
 have:=Fu h;have e:sl (λ_=>(0)) l=0:=by
  have:=vd 0 (λ_=>0) l
  simp_all
 lia
theorem NM (nd:l.Nodup)(z:Nat)(v:Int):sl (λx=>if x=z then v else 0) l=if z∈l then v else 0:=by
 induction l with
 |nil=>rw[rf 'Y'];rfl
 |cons a l ih=>
  grind [km]
theorem Yd {l1:LI}(p:l1.Perm l2):l1.sum=l2.sum:=by
 induction p with
 |nil=>rfl
 |cons x _ ih=>rw[Na,Na,ih]
 |swap x y l=>rw[Na,Na,Na,Na];lia
 |trans _ _ h1 h2=>exact h1.trans h2
theorem Eu (p:l.Perm (List.range M))(f:Nat->Int):sl f l=sg M f:=Yd (p.map f)
def Bf (l:List Nat)(x y:Nat):Prop:=∃j,l[j]?=some y/\x∈l.take j
theorem LK {G:List Nat}(h:G.idxOf x<G.length):x∈G:=LM.mp h
theorem ZS {W:List Nat}(h:G.idxOf x<G.idxOf y):(G++W).idxOf x<(G++W).idxOf y:=by
 have hx:=LK (ze h List.idxOf_le_length);rw[List.idxOf_append,List.idxOf_append,uu hx];split
 ·exact h
 ·have:=LM.mpr hx;lia
theorem ZT {W:List Nat}(hx:x∈G)(hy:y∉G):(G++W).idxOf x<(G++W).idxOf y:=by
 grind
structure St where
 own:Nat->Nat->Int
 sp:Nat->Int
 got:Nat->Nat->Int
 wn:Nat->Int
section
variable (A:Nat) (O:Nat->List Nat) (s:St)
def cY:List Nat:=(List.range A).filter λa=>decide (0<s.wn a)
def owners (x:Nat):List Nat:=(List.range A).filter λa=>decide (0<s.own a x)
def cE (x:Nat):Bool:=decide (s.sp x=0)&&(owners A s x).isEmpty
def best (a:Nat):Nat:=((O a).filter λx=>!cE A s x).headD 0
def sO (x:Nat):Nat:=if 0<s.sp x then (cY A s).headD 0 else (owners A s x).headD 0
def nx (a:Nat):Nat:=sO A s (best A O s a)
def fJ (x:Nat):Int:=sg A (λa=>s.own a x)+s.sp x
def aQ (R:List Nat)(p:Int):St where
 own g x:=s.own g x-p*cn R λc=>decide (nx A O s c=g)&&(decide (best A O s c=x) && !decide (0<s.sp x))
 sp x:=s.sp x-p*cn R λc=>decide (best A O s c=x)&&decide (0<s.sp x)
 got a x:=s.got a x+p*cn R λc=>decide (c=a)&&decide (best A O s c=x)
 wn a:=s.wn a-p*cn R λc=>decide (c=a)
def lv (a:Nat):St:={s with sp:=λx=>s.sp x+s.own a x,own:=λb x=>if b=a then 0 else s.own b x}
structure Iv (M:Nat) (B:Int) (cnt:Nat->Int) (sh:Nat->Nat->Int) (L G:List Nat):Prop where
 o0:∀a x,a<A->x<M->0<=s.own a x
 s0:∀x,x<M->0<=s.sp x
 g0:∀a x,a<A->x<M->0<=s.got a x
 w0:∀a,a<A->0<=s.wn a
 col:∀x,x<M->sg A (λa=>s.got a x)+fJ A s x=cnt x*B
 row:∀a,a<A->sg M (s.got a)+s.wn a=B
 lf:∀a x,a<A->x<M->s.wn a=0->a∉L->s.own a x=0
 pr:∀a k,a<A->0<s.wn a->sl (sh a) ((O a).take k)<=sl (s.got a) ((O a).take k)+sl (s.own a) ((O a).take k)
 pl:∀a k,a<A->s.wn a=0->sl (sh a) ((O a).take k)<=sl (s.got a) ((O a).take k)
 bh:∀a x y,a<A->x<M->y<M->0<s.own a x->0<s.got a y->∀k,x∈(O a).take k->y∈(O a).take k
 ga:∀x,x<M->(x∈G↔fJ A s x=0)
 ef:∀a x y,a<A->y<M->0<s.got a y->Bf (O a) x y->G.idxOf x<G.idxOf y
def Ok (M:Nat):Prop:=∀a,a<A->(O a).Perm (List.range M)
end
section
theorem CQ (h:Iv A O s M B cnt sh L G)(hx:x<M):cE A s x=true↔fJ A s x=0:=by
 unfold cE fJ;have nn:=lI λa ha=>h.o0 a x ha hx
 have s0:=h.s0 x hx;rw[ID,NO,afM]
 constructor
 ·rintro⟨h1,h2⟩;have:sg A (λa=>s.own a x)=0:=by
   have e:sg A (λa=>s.own a x)=sg A λ_=>0:=mE λa ha=>by
    have:=h.o0 a x ha hx;have:¬0<s.own a x:=λz=>by
     have:a∈owners A s x:=BY.mpr ⟨l9.mpr ha,EO z⟩
     simp_all
    lia
   grind [vb]
  lia
 ·intro z;refine⟨'O',?_⟩;refine List.filter_eq_nil_iff.mpr λa ha=>?_
  have:=BO (λa ha=>h.o0 a x ha hx) 'O' a (l9.mp ha)
  simp_all
theorem Ks (h:Iv A O s M B cnt sh L G)(hx:x<M):cE A s x=true↔x∈G:=(CQ h hx).trans (h.ga x hx).symm
theorem JP (h:Iv A O s M B cnt sh L G)(ha:a<A)(hx:x<M)(ho : 0<s.own a x):cE A s x=false:=by
 cases z:cE A s x with
 |false=>rfl
 |true=>
  have z:=(CQ h hx).mp z;have:=sC (λa ha=>h.o0 a x ha hx) ha;have:=h.s0 x hx;unfold fJ at z;lia
theorem JQ (h:Iv A O s M B cnt sh L G)(hn:n<M)(hc:cnt n=A)(ha:a<A)(hw : 0<s.wn a):cE A s n=false:=by
 cases z:cE A s n with
 |false=>rfl
 |true=>
  exfalso;have z:=(CQ h hn).mp z;have c:=h.col n hn;have gB:∀b,b<A->s.got b n<=B:=λb hb=>by
   have:=h.row b hb;have:=sC (λx hx=>h.g0 b x hb hx) hn;have:=h.w0 b hb;lia
  have:sg A (λb=>B-s.got b n)=0:=by
   rw[sy];have e:∀m,sg m (λ_=>B)=m*B:=λm=>by
    induction m with
    |zero=>rw[uJ];simp
    |succ m ih=>rw[iL,ih];grind
   simp_all
  have z2:=BO (λb hb=>'J') this a ha;have r:=h.row a ha;have:=sC (λx hx=>h.g0 a x ha hx) hn;lia
theorem rT (ok:Ok A O M)(h:Iv A O s M B cnt sh L G)(hn:n<M)(hc:cnt n=A)(ha:a<A)(hw : 0<s.wn a):best A O s a<M/\cE A s (best A O s a)=false/\(∀x,Bf (O a) x (best A O s a)->x∈G)/\∀y,y<M->cE A s y=false->∀k,y∈(O a).take k->best A O s a∈(O a).take k:=by
 have pm:=ok a ha;have mem:∀{x},x∈O a↔x<M:=λ{x} => by rw[pm.mem_iff,l9]
 have main:∀(l),(∃y∈l,cE A s y=false)->∃l1 b l2,l=l1++b::l2/\(∀x∈l1,cE A s x=true)/\cE A s b=false/\(l.filter λx=>!cE A s x).headD 0=b:=λl=>by
  induction l with
  |nil=>rintro⟨y,hy,_⟩;cases hy
  |cons c l ih=>
   intro hy;cases hc:cE A s c with
   |false=>exact⟨[],c,l,rfl,(λx hx=>nomatch hx),hc,by rw[aat,hc];rfl⟩
   |true=>
    obtain⟨l1,b,l2,e1,e2,e3,e4⟩:=ih (by
     obtain⟨y,hy,hg⟩:=hy;obtain rfl|hy:=ff.mp hy
     ·rw[hc]at hg;cases hg
     ·exact⟨y,hy,hg⟩)
    refine⟨c::l1,b,l2,by rw[e1];rfl,λx hx=>?_,e3,by rw[aat,hc];exact e4⟩;obtain rfl|hx:=ff.mp hx
    ·exact hc
    ·exact e2 x hx
 obtain⟨l1,b,l2,e1,e2,e3,e4⟩:_:=main (O a) ⟨n,mem.mpr hn,JQ h hn hc ha hw⟩;have eb:best A O s a=b:=e4;have nd:=pm.nodup_iff.mpr ad2;have hb:b<M:=mem.mp (by rw[e1];simp);rw[eb];refine⟨hb,e3,λx hx=>?_,λy hy hg k hk=>?_⟩
 ·obtain⟨j,h1,h2⟩:_:=hx;have:j=l1.length:=by
   have q:(O a)[l1.length]?=some b:=by rw[e1,wb (br _)];simp
   obtain⟨u1,u2⟩:=gr.mp h1;obtain⟨v1,v2⟩:=gr.mp q;exact(List.getElem_inj nd).mp (u2.trans v2.symm)
  rw[this,e1,List.take_left]at h2;have:=mem.mp (by rw[e1];exact xw _ h2);exact(Ks h this).mp (e2 x h2)
 ·obtain q|q:=ET l1.length k
  ·rw[e1,aep,qr];refine .inr ?_;cases hh:k-l1.length with
   |zero=>lia
   |succ m=>exact .head _
  ·exfalso;rw[e1,aep,show k-l1.length=0 by lia,aeP,zw]at hk;rw[e2 y (EM hk)]at hg;cases hg
structure Rg (A:Nat) (O:Nat->List Nat) (s:St) (R:List Nat) (p:Int):Prop where
 nd:R.Nodup
 rg:∀c∈R,c<A/\0<s.wn c
 im:∀c∈R,nx A O s c∈R
 inj:∀c∈R,∀d∈R,nx A O s c=nx A O s d->c=d
 p0 : 0<p
 pw:∀c∈R,p<=s.wn c
 ps:∀c∈R,0<s.sp (best A O s c)->p<=s.sp (best A O s c)
 po:∀c∈R,¬0<s.sp (best A O s c)->p<=s.own (nx A O s c) (best A O s c)
theorem LN (nd:R.Nodup)(a:Nat)(q:Nat->Bool):cn R (λc=>decide (c=a)&&q c)=if a∈R/\q a=true then 1 else 0:=by
 by_cases h:a∈R/\q a=true
 ·rw[uu h];have h1:=Er (p:=λc=>decide (c=a)&&q c) h.1 'J';have h2:=Es (p:=λc=>decide (c=a)&&q c) nd λc _ d _ hc hd=>by
   simp_all
  lia
 ·grind [Dx]
theorem NN {c:Int}(h0 : 0<=c)(h1:c<=1):(c=0/\p*c=0)\/(c=1/\p*c=p):=by
 obtain e|e:=(show c=0\/c=1 by lia)
 ·simp_all
 ·simp_all
theorem Rg.c1 (r:Rg A O s R p)(g x:Nat):let C:=cn R λc=>decide (nx A O s c=g)&&(decide (best A O s c=x) && !decide (0<s.sp x))
  (C=0/\p*C=0)\/(C=1/\p*C=p/\g∈R/\p<=s.own g x/\∃c∈R,nx A O s c=g/\best A O s c=x):=by
 intro C;have le:C<=1:=Es r.nd λc hc d hd h1 h2=>by
  rw[ID,NO]at h1 h2;exact r.inj c hc d hd (h1.1.trans h2.1.symm)
 obtain h|h:=NN (vB _ _) le
 ·exact .inl h
 ·obtain⟨c,hc,e⟩:=NK (show 0<C by omega);rw[ID,ID,NO,NO,aeL,aeE]at e;obtain⟨e1,e2,e3⟩:=e;refine .inr ⟨h.1,h.2,e1▸r.im c hc,?_,c,hc,e1,e2⟩;have:=r.po c hc (by rw[e2];exact e3);rwa [e1,e2]at this
theorem Rg.c2 (r:Rg A O s R p)(x:Nat):let C:=cn R λc=>decide (best A O s c=x)&&decide (0<s.sp x)
  (C=0/\p*C=0)\/(C=1/\p*C=p/\p<=s.sp x):=by
 intro C;have le:C<=1:=Es r.nd λc hc d hd h1 h2=>by
  refine r.inj c hc d hd ?_;unfold nx sO
  simp_all
 obtain h|h:=NN (vB _ _) le
 ·lia
 ·obtain⟨c,hc,e⟩:=NK (show 0<C by omega);refine .inr ⟨h.1,h.2,?_⟩;have:=r.ps c hc 'J'
  simp_all
theorem rV (r:Rg A O s R p)(a x:Nat):(aQ A O s R p).got a x=s.got a x+if a∈R/\best A O s a=x then p else 0:=by
 show s.got a x+p*cn R (λc=>decide (c=a)&&decide (best A O s c=x))=_;rw[LN r.nd]
 grind
theorem pL (r:Rg A O s R p)(a:Nat):(aQ A O s R p).wn a=s.wn a-if a∈R then p else 0:=by
 show s.wn a-p*cn R (λc=>decide (c=a))=_;have e:=LN r.nd a λ_=>true
 grind
theorem LO (r:Rg A O s R p)(x:Nat):fJ A (aQ A O s R p) x=fJ A s x-p*cn R λc=>decide (best A O s c=x):=by
 have e1:=Ph R (nx A O s) (λc=>decide (best A O s c=x) && !decide (0<s.sp x)) λc hc=>(r.rg _ (r.im c hc)).1
 have e2:=Yc R (λc=>decide (best A O s c=x)) λ_=>decide (0<s.sp x)
 unfold fJ;show sg A (λg=>s.own g x-p*cn R λc=>decide (nx A O s c=g)&&(decide (best A O s c=x) && !decide (0<s.sp x)))+(s.sp x-p*cn R λc=>decide (best A O s c=x)&&decide (0<s.sp x))=_;rw[sy,vb,e1,<- e2,aes];lia
theorem abf (ok:Ok A O M)(h:Iv A O s M B cnt sh [] G)(hn:n<M)(hc:cnt n=A)(r:Rg A O s R p)(hs:∀a,a<A->(∀x,x<M->0<=sh a x)/\sg M (sh a)=B):
  ∃W,Iv A O (aQ A O s R p) M B cnt sh (R.filter λa=>decide ((aQ A O s R p).wn a=0)) (G++W):=by
 have bo:=λc hr=>rT ok h hn hc (r.rg c hr).1 (r.rg c hr).2
 have p0:=r.p0;have ow:∀g x,(aQ A O s R p).own g x<=s.own g x/\(s.own g x=(aQ A O s R p).own g x\/(g∈R/\(aQ A O s R p).own g x=s.own g x-p/\p<=s.own g x)):=λg x=>by
  show s.own g x-p*cn R _<=s.own g x/\(s.own g x=s.own g x-p*cn R _\/(g∈R/\s.own g x-p*cn R _=s.own g x-p/\_))
  obtain⟨_,e⟩|⟨_,e,e2,e3,_⟩:=r.c1 g x
  ·rw[e];omega
  ·rw[e];exact⟨'Z',.inr ⟨e2,rfl,e3⟩⟩
 have Ry:∀a x,a<A->x<M->0<=(aQ A O s R p).own a x:=λa x ha hx=>by
  have:=h.o0 a x ha hx;obtain e|⟨_,e,e2⟩:=(ow a x).2<;>omega
 have Rz:∀x,x<M->0<=(aQ A O s R p).sp x:=λx hx=>by
  show 0<=s.sp x-p*cn R _;have:=h.s0 x hx;obtain⟨_,e⟩|⟨_,e,e2⟩:=r.c2 x
  ·rw[e];omega
  ·rw[e];omega
 have RA:∀a x,a<A->x<M->0<=(aQ A O s R p).got a x:=λa x ha hx=>by
  rw[rV r];have:=h.g0 a x ha hx;split<;>omega
 have w0':∀a,a<A->0<=(aQ A O s R p).wn a:=λa ha=>by
  rw[pL r];have:=h.w0 a ha;split
  ·rename_i q;have:=r.pw a q;omega
  ·omega
 have Ql:∀a,a<A->sg M ((aQ A O s R p).got a)+(aQ A O s R p).wn a=B:=λa ha=>by
  have e:sg M ((aQ A O s R p).got a)=sg M (s.got a)+if a∈R then p else 0:=by
   rw[mE (g:=λx=>s.got a x+if x=best A O s a then (if a∈R then p else 0)else 0) λx _=>?_,yZ,pK]
   ·by_cases q:a∈R
    ·rw[uu q,uu (bo a q).1]
    ·rw[rf q];split<;>rfl
   ·rw[rV r];by_cases q:a∈R
    ·by_cases q2:best A O s a=x
     ·rw[uu ⟨q,q2⟩,uu q2.symm,uu q]
     ·rw[rf λz=>q2 z.2,rf λz=>q2 z.symm]
    ·rw[rf λz=>q z.1,rf q];split<;>rfl
  rw[e,pL r];have:=h.row a ha;split<;>omega
 have ab9:∀x,fJ A (aQ A O s R p) x<=fJ A s x:=λx=>by
  rw[LO r];have:=adO (Sk p0) (vB R λc=>decide (best A O s c=x));omega
 have acX:∀x,x<M->0<=fJ A (aQ A O s R p) x:=λx hx=>by
  unfold fJ;have:=lI λa ha=>Ry a x ha hx
  have:=Rz x hx;omega
 have RB:∀a x y,a<A->x<M->y<M->0<(aQ A O s R p).own a x->0<(aQ A O s R p).got a y->∀k,x∈(O a).take k->y∈(O a).take k:=λa x y ha hx hy h1 h2 k hk=>by
  have ho : 0<s.own a x:=by have:=(ow a x).1;omega
  rw[rV r]at h2;by_cases q:a∈R/\best A O s a=y
  ·rw[<- q.2];exact(bo a q.1).2.2.2 x hx (JP h ha hx ho) k hk
  ·rw[rf q]at h2;exact h.bh a x y ha hx hy ho 'Z' k hk
 have pre:∀a k,a<A->0<s.wn a->sl (sh a) ((O a).take k)<=sl ((aQ A O s R p).got a) ((O a).take k)+sl ((aQ A O s R p).own a) ((O a).take k):=λa k ha hw=>by
  have base:=h.pr a k ha hw;have nd:((O a).take k).Nodup:=((ok a ha).nodup_iff.mpr ad2).sublist (aeb _ _);have lt:∀x∈(O a).take k,x<M:=λx hx=>l9.mp ((ok a ha).mem_iff.mp (EM hx))
  have eg:sl ((aQ A O s R p).got a) ((O a).take k)=sl (s.got a) ((O a).take k)+if best A O s a∈(O a).take k then (if a∈R then p else 0)else 0:=by
   rw[<- NM nd (best A O s a) (if a∈R then p else 0),<- abd];refine uv λx _=>?_
   rw[rV r];by_cases q:a∈R
   ·by_cases q2:best A O s a=x
    ·rw[uu ⟨q,q2⟩,uu q2.symm,uu q]
    ·rw[rf λz=>q2 z.2,rf λz=>q2 z.symm]
   ·rw[rf λz=>q z.1,rf q];split<;>rfl
  by_cases q:∃x∈(O a).take k,(aQ A O s R p).own a x≠s.own a x
  ·obtain⟨z,hz,ne⟩:=q;have oz:=(ow a z).2;have inR:a∈R/\p<=s.own a z:=by
    obtain e|⟨e1,_,e3⟩:=oz
    ·exact absurd e.symm ne
    ·exact⟨e1,e3⟩
   have hb:best A O s a∈(O a).take k:=(bo a inR.1).2.2.2 z (lt z hz) (JP h ha (lt z hz) 'Z') k hz;have only:∀x,(aQ A O s R p).own a x≠s.own a x->x=z:=λx hx=>by
    have cx:∀y,(aQ A O s R p).own a y≠s.own a y->∃c∈R,nx A O s c=a/\best A O s c=y:=λy hy=>by
     obtain⟨_,e⟩|⟨_,_,_,_,e⟩:=r.c1 a y
     ·exfalso;apply hy;show s.own a y-p*cn R _=_;rw[e];omega
     ·exact e
    obtain⟨c,qX,qR,hc3⟩:=cx x hx;obtain⟨d,Ho,hd2,hd3⟩:=cx z ne;rw[<- hc3,<- hd3,r.inj c qX d Ho (qR.trans hd2.symm)]
   have eo:sl (s.own a) ((O a).take k)-p<=sl ((aQ A O s R p).own a) ((O a).take k):=by
    have:sl (λx=>s.own a x-if x=z then p else 0) ((O a).take k)<=sl ((aQ A O s R p).own a) ((O a).take k):=Fu λx hx=>by
     by_cases e:x=z
     ·subst e;rw[uu rfl];obtain e|⟨_,e,_⟩:=oz<;>omega
     ·rw[rf e];have:(aQ A O s R p).own a x=s.own a x:=ES λw=>e (only x w)
      omega
    rw[abe,NM nd,uu hz]at this;exact this
   rw[eg,uu hb,uu inR.1];omega
  ·have eo:=uv λx hx=>ES λw=>q ⟨x,hx,w⟩
   rw[eg,eo];split
   ·split<;>omega
   ·omega
 refine⟨(List.range M).filter λx=>decide (fJ A (aQ A O s R p) x=0) && !G.contains x,Ry,Rz,RA,w0',λx hx=>?_,Ql,λa x ha hx hw hl=>?_,λa k ha hw=>?_,λa k ha hw=>?_,RB,λx hx=>?_,λa x y ha hy h1 h2=>?_⟩
 ·have e1:=Ph (m:=A) R (λc=>c) (λc=>decide (best A O s c=x)) λc hc=>(r.rg c hc).1
  show sg A (λa=>s.got a x+p*cn R λc=>decide (c=a)&&decide (best A O s c=x))+_=_;rw[yZ,vb,e1,LO r];have:=h.col x hx;lia
 ·by_cases q:a∈R
  ·exact absurd (BY.mpr ⟨q,EO hw⟩) hl
  ·rw[pL r,rf q]at hw;have:=h.lf a x ha hx 'O' 'Y';obtain e|⟨e,_⟩:=(ow a x).2
   ·lia
   ·exact absurd e q
 ·refine pre a k ha ?_;rw[pL r]at hw;split at hw<;>lia
 ·by_cases q:a∈R
  ·have pk:=pre a k ha (r.rg a q).2;by_cases z:∃x∈(O a).take k,0<(aQ A O s R p).own a x
   ·obtain⟨x,hx,h1⟩:=z;have hM:∀x∈O a,x<M:=λx hx=>l9.mp ((ok a ha).mem_iff.mp hx)
    have tl:sl ((aQ A O s R p).got a) ((O a).take k)+sl ((aQ A O s R p).got a) ((O a).drop k)=B:=by
     have e:sl ((aQ A O s R p).got a) (O a)=sg M ((aQ A O s R p).got a):=Eu (ok a ha) _;have e2:sl ((aQ A O s R p).got a) (O a)=sl ((aQ A O s R p).got a) ((O a).take k)+sl ((aQ A O s R p).got a) ((O a).drop k):=by
      unfold sl;rw[<- aea,<- B0,EU]
     have:=Ql a ha;rw[hw]at this;lia
    have dz:sl ((aQ A O s R p).got a) ((O a).drop k)=sl (λ_=>0) ((O a).drop k):=uv λy hy=>by
     have ym:=adP hy;have g0:=RA a y ha (hM y ym);have:¬0<(aQ A O s R p).got a y:=λw=>by
      have yt:=RB a x y ha (hM x (EM hx)) (hM y ym) h1 w k hx;have nd:(O a).Nodup:=(ok a ha).nodup_iff.mpr ad2;rw[<- EU k (O a)]at nd;exact(AN.mp nd).2.2 y yt y hy rfl
     lia
    have z0:sl (λ_=>(0:Int)) ((O a).drop k)=0:=by
     have:=vd 0 (λ_=>0) ((O a).drop k);simpa using this
    have sB:sl (sh a) ((O a).take k)<=B:=by
     have e:sl (sh a) (O a)=sg M (sh a):=Eu (ok a ha) _;have e2:sl (sh a) (O a)=sl (sh a) ((O a).take k)+sl (sh a) ((O a).drop k):=by
      unfold sl;rw[<- aea,<- B0,EU]
     have:=ab8 (f:=sh a) (l:=(O a).drop k) λy hy=>(hs a ha).1 y (hM y (adP hy))
     have:=(hs a ha).2;lia
    lia
   ·have:sl ((aQ A O s R p).own a) ((O a).take k)<=sl (λ_=>0) ((O a).take k):=Fu λx hx=>by
     have:¬0<(aQ A O s R p).own a x:=λw=>z ⟨x,hx,w⟩
     omega
    have z0:sl (λ_=>(0:Int)) ((O a).take k)=0:=by
     have:=vd 0 (λ_=>0) ((O a).take k);simpa using this
    lia
  ·rw[pL r,rf q]at hw;have:=h.pl a k ha 'O';rw[uv (f:=(aQ A O s R p).got a) (g:=s.got a) λx _=>by rw[rV r,rf λz=>q z.1];lia];exact this
 ·rw[qr,BY,l9,ID,NO,aeL]
  constructor
  ·rintro(q|⟨_,q,_⟩)
   ·have:=(h.ga x hx).mp q;have:=ab9 x;have:=acX x hx;lia
   ·exact q
  ·intro q;cases hG:G.contains x with
   |true=>exact .inl (Mc.mp hG)
   |false=>exact .inr ⟨hx,q,rfl⟩
 ·rw[rV r]at h1;by_cases q:a∈R/\best A O s a=y
  ·have bq:=bo a q.1;rw[q.2]at bq;exact ZT (bq.2.2.1 x h2) λz=>by
    rw[(Ks h bq.1).mpr z]at bq;exact absurd bq.2.1 'Q'
  ·rw[rf q]at h1;exact ZS (h.ef a x y ha hy 'Z' h2)
theorem aca (h:Iv A O s M B cnt sh (a::L) G)(ha:a<A)(hw:s.wn a=0):Iv A O (lv s a) M B cnt sh L G:=by
 have te:∀x,fJ A (lv s a) x=fJ A s x:=λx=>by
  unfold fJ;show sg A (λb=>if b=a then 0 else s.own b x)+(s.sp x+s.own a x)=_;rw[mE (g:=λb=>s.own b x-if b=a then s.own a x else 0) λb _=>?_,sy,pK,uu ha]
  ·lia
  ·by_cases e:b=a
   ·rw[uu e,uu e,e];lia
   ·lia
 have ow:∀b x,b<A->x<M->(lv s a).own b x<=s.own b x:=λb x hb hx=>by
  show(if b=a then 0 else s.own b x)<=_;have:=h.o0 b x hb hx;split<;>lia
 refine⟨λb x hb hx=>?_,λx hx=>?_,h.g0,h.w0,λx hx=>by rw[te];exact h.col x hx,h.row,λb x hb hx AH hl=>?_,λb k hb AH=>?_,h.pl,λb x y hb hx hy h1 h2=>h.bh b x y hb hx hy (by have:=ow b x hb hx;lia) h2,λx hx=>by rw[te];exact h.ga x hx,h.ef⟩
 ·show 0<=if b=a then 0 else s.own b x
  have:=h.o0 b x hb hx;split<;>lia
 ·show 0<=s.sp x+s.own a x;have:=h.s0 x hx;have:=h.o0 a x ha hx;lia
 ·show(if b=a then 0 else s.own b x)=0;by_cases e:b=a
  ·rw[uu e]
  ·rw[rf e];exact h.lf b x hb hx AH λz=>by
    obtain z|z:=ff.mp z
    ·exact e z
    ·exact hl z
 ·have e:b≠a:=λz=>by
   have : 0<s.wn b:=AH;rw[z,hw]at this;lia
  have:=h.pr b k hb AH;rw[uv (f:=(lv s a).own b) λx _=>by show(if b=a then 0 else s.own b x)=_;rw[rf e]];exact this
theorem NP:∀{L:List Nat} {s:St},Iv A O s M B cnt sh L G->(∀a∈L,a<A/\s.wn a=0)->Iv A O (L.foldl lv s) M B cnt sh [] G
 |[],_,h,_=>h
 |a::L,s,h,hl=>NP (s:=lv s a) (aca h (hl a (.head _)).1 (hl a (.head _)).2) λb hb=>hl b (.tail _ hb)
theorem zI (ok:Ok A O M)(h:Iv A O s M B cnt sh [] G)(hn:n<M)(hc:cnt n=A)(ha:a<A)(hw : 0<s.wn a):nx A O s a<A/\0<s.wn (nx A O s a)/\(¬0<s.sp (best A O s a)->0<s.own (nx A O s a) (best A O s a)):=by
 obtain⟨b1,b2,_,_⟩:_:=rT ok h hn hc ha hw;unfold nx sO;by_cases q : 0<s.sp (best A O s a)
 ·rw[uu q];have:a∈cY A s:=BY.mpr ⟨l9.mpr ha,EO hw⟩;cases e:cY A s with
  |nil=>rw[e]at this;cases this
  |cons c r=>
   have:c∈cY A s:=by rw[e];exact .head _
   obtain⟨h1,h2⟩:=BY.mp this;exact⟨l9.mp h1,GS h2,λz=>absurd q z⟩
 ·rw[rf q];have s0:=h.s0 _ b1;cases e:owners A s (best A O s a)with
  |nil=>
   exfalso;unfold cE at b2;rw[e,EO (show s.sp (best A O s a)=0 by lia)]at b2;cases b2
  |cons c r=>
   have:c∈owners A s (best A O s a):=by rw[e];exact .head _
   obtain⟨h1,h2⟩:=BY.mp this;have h1:=l9.mp h1;have h2:=GS h2;refine⟨h1,?_,λ_=>h2⟩;have:=h.w0 c h1;obtain z|z:=(show s.wn c=0\/0<s.wn c by lia)
   ·have:=h.lf c _ h1 b1 z 'Y';lia
   ·exact z
structure Pt (A:Nat) (O:Nat->List Nat) (s:St) (P:List Nat) (x:Nat):Prop where
 nd:P.Nodup
 rg:∀c∈P,c<A/\0<s.wn c
 xr:x<A/\0<s.wn x
 ch:∀i c,P[i]?=some c->(P++[x])[i+1]?=some (nx A O s c)
theorem Pt.next (ok:Ok A O M)(h:Iv A O s M B cnt sh [] G)(hn:n<M)(hc:cnt n=A)(q:Pt A O s P x)(hx:x∉P):Pt A O s (P++[x]) (nx A O s x):=by
 have RC:=zI ok h hn hc q.xr.1 q.xr.2;refine⟨AN.mpr ⟨q.nd,AE.mpr ⟨(λz=>nomatch z),.nil⟩,λa ha b hb e=>by rw[BB.mp hb]at e;exact hx (e▸ha)⟩,λc kH=>?_,⟨RC.1,RC.2.1⟩,λi c hi=>?_⟩
 ·obtain z|z:=qr.mp kH
  ·exact q.rg c z
  ·rw[BB.mp z];exact q.xr
 ·obtain l|l:=ET i P.length
  ·rw[Cf l]at hi;have:=q.ch i c hi;rw[Cf (by rw[vc];show i+1<P.length+1;lia)];exact this
  ·have e:i=P.length:=by
    have:=(gr.mp hi).1;rw[vc]at this;have:i<P.length+1:=this;lia
   subst e;rw[wb (br _),aev]at hi;cases hi;rw[wb (by rw[vc];exact br _)];rw[vc];show[nx A O s x][P.length+1-(P.length+1)]?=_;rw[aev];rfl
theorem Pt.ring (q:Pt A O s P x)(hx:x∈P)(p0 : 0<p)(pw:∀c∈P.drop (P.idxOf x),p<=s.wn c)(ps:∀c∈P.drop (P.idxOf x),0<s.sp (best A O s c)->p<=s.sp (best A O s c))(po:∀c∈P.drop (P.idxOf x),¬0<s.sp (best A O s c)->p<=s.own (nx A O s c) (best A O s c)):Rg A O s (P.drop (P.idxOf x)) p:=by
 have il:=LM.mpr hx;have ix:P[P.idxOf x]?=some x:=by
  rw[ar il,List.getElem_idxOf il]
 generalize P.idxOf x=m at *;have at':∀c∈P.drop m,∃i,m<=i/\P[i]?=some c:=λc hc=>by
  obtain⟨i,hi⟩:=adM.mp hc;rw[ad5]at hi;exact⟨m+i,'O',hi⟩
 have qh:∀i c,m<=i->P[i]?=some c->c∈P.drop m:=λi c hi hc=>by
  refine adM.mpr ⟨i-m,?_⟩;rw[ad5,show m+(i-m)=i by lia];exact hc
 have xf:∀i c,m<=i->P[i]?=some c->(i+1<P.length/\P[i+1]?=some (nx A O s c))\/(i+1=P.length/\nx A O s c=x):=λi c hi hc=>by
  have z:=q.ch i c hc;have li:=(gr.mp hc).1;obtain l|l:=ET (i+1) P.length
  ·rw[Cf l]at z;exact .inl ⟨l,z⟩
  ·have e:i+1=P.length:='O'
   rw[e,wb (br _),aev]at z;exact .inr ⟨e,(GG z).symm⟩
 have uniq:∀i j c,P[i]?=some c->P[j]?=some c->i=j:=λi j c h1 h2=>by
  obtain⟨a1,a2⟩:=gr.mp h1;obtain⟨b1,b2⟩:=gr.mp h2;exact(List.getElem_inj q.nd).mp (a2.trans b2.symm)
 refine⟨q.nd.sublist (afC _ _),λc hc=>q.rg c (adP hc),λc hc=>?_,λc hc d hd e=>?_,p0,pw,ps,po⟩
 ·obtain⟨i,hi,hc⟩:=at' c hc;obtain⟨_,z⟩|⟨_,z⟩:=xf i c hi hc
  ·exact qh (i+1) _ 'O' z
  ·rw[z];exact qh m x (br _) ix
 ·obtain⟨i,hi,hc⟩:=at' c hc;obtain⟨j,hj,hd⟩:=at' d hd;have ij:i=j:=by
   obtain⟨l1,z1⟩|⟨l1,z1⟩:=xf i c hi hc<;>obtain⟨l2,z2⟩|⟨l2,z2⟩:=xf j d hj hd
   ·rw[e]at z1;have:=uniq _ _ _ z1 z2;lia
   ·rw[e,z2]at z1;have:=uniq _ _ _ z1 ix;lia
   ·rw[<- e,z1]at z2;have:=uniq _ _ _ z2 ix;lia
   ·lia
  subst ij;rw[hc]at hd;exact GG hd
def bi (v:Int):Int:=if 0<v then 1 else 0
theorem mR {u v:Int}(h:u<=v):bi u<=bi v:=by unfold bi;split<;>split<;>lia
theorem zJ (v:Int) : 0<=bi v:=by unfold bi;split<;>lia
theorem acY (v:Int):bi v<=1:=by unfold bi;split<;>lia
def mW (A:Nat)(s:St):Int:=sg A λa=>bi (s.wn a)
def mO (A M:Nat)(s:St):Int:=sg A (λa=>sg M λx=>bi (s.own a x))
def mS (M:Nat)(s:St):Int:=sg M λx=>bi (s.sp x)
def mu (A M:Nat)(s:St):Int:=100*mW A s+mO A M s+mS M s
theorem zK (h:∀i,i<m->f i<=g i)(hk:k<m)(hl:f k<g k):sg m f<sg m g:=by
 have : 0<=sg m (λi=>g i-f i-if i=k then 1 else 0):=lI λi hi=>by
  grind
 rw[sy,sy,pK,uu hk]at this;lia
theorem uw (m:Nat)(v:Int):sg m (λ_=>v)=m*v:=by
 induction m with
 |zero=>rw[uJ];simp
 |succ m ih=>rw[iL,ih,show((m+1:Nat):Int)=(m)+1 by lia,Int.add_mul];lia
theorem Pj (M:Nat)(s:St) : 0<=mS M s/\mS M s<=M:=by
 refine⟨lI λx _=>zJ _,?_⟩;have:=lJ (m:=M) (f:=λx=>bi (s.sp x)) λx _=>acY _
 simp_all [uw,mS]
theorem NQ:∀(L:List Nat) s,(L.foldl lv s).wn=s.wn
 |[],_=>rfl
 |a::L,s=>by rw[aex,NQ L (lv s a)];rfl
theorem LQ:∀(L:List Nat) (s:St) (b x:Nat),(L.foldl lv s).own b x=s.own b x\/(L.foldl lv s).own b x=0
 |[] => λ_ _ _=>.inl rfl
 |a::L=>λs b x=>by
  rw[aex];obtain e|e:=LQ L (lv s a) b x
  ·by_cases q:b=a
   ·rw[e];exact .inr (uu q)
   ·rw[e];exact .inl (rf q)
  ·exact .inr e
theorem acb (h:Iv A O s M B cnt sh [] G)(hM:M<=7)(r:Rg A O s R p)(rb:∀c∈R,best A O s c<M)(zL:∃c∈R,p=s.wn c\/(0<s.sp (best A O s c)/\p=s.sp (best A O s c))\/(¬0<s.sp (best A O s c)/\p=s.own (nx A O s c) (best A O s c))):
  mu A M ((R.filter λa=>decide ((aQ A O s R p).wn a=0)).foldl lv (aQ A O s R p))<mu A M s:=by
 have p0:=r.p0;have ow:∀g x,(aQ A O s R p).own g x<=s.own g x:=λg x=>by
  show s.own g x-p*cn R _<=_;have:=adO (Sk p0) (vB R λc=>decide (nx A O s c=g)&&(decide (best A O s c=x) && !decide (0<s.sp x)));lia
 have sw:∀x,(aQ A O s R p).sp x<=s.sp x:=λx=>by
  show s.sp x-p*cn R _<=_;have:=adO (Sk p0) (vB R λc=>decide (best A O s c=x)&&decide (0<s.sp x));lia
 have ww:∀a,(aQ A O s R p).wn a<=s.wn a:=λa=>by grind [pL]
 have o1:mO A M (aQ A O s R p)<=mO A M s:=lJ λa _=>lJ λx _=>mR (ow a x)
 have s1:mS M (aQ A O s R p)<=mS M s:=lJ λx _=>mR (sw x)
 have w1:mW A (aQ A O s R p)<=mW A s:=lJ λa _=>mR (ww a)
 cases hL:R.filter λa=>decide ((aQ A O s R p).wn a=0)with
 |nil=>
  show mu A M (aQ A O s R p)<_;obtain⟨c,hc,t⟩:=zL;unfold mu;obtain t|⟨q,t⟩|⟨q,t⟩:_:=t
  ·exfalso;have:c∈R.filter λa=>decide ((aQ A O s R p).wn a=0):=BY.mpr ⟨hc,EO (by grind [pL])⟩
   grind
  ·have:mS M (aQ A O s R p)<mS M s:=zK (λx _=>mR (sw x)) (rb c hc) (by
    have e:(aQ A O s R p).sp (best A O s c)<=0:=by
     show s.sp _-p*cn R _<=0;have c1:=Er (p:=λd=>decide (best A O s d=best A O s c)&&decide (0<s.sp (best A O s c))) hc 'J';obtain⟨z,_⟩|⟨_,z,_⟩:_:=r.c2 (best A O s c)
     ·lia
     ·lia
    unfold bi;lia)
   lia
  ·have nA:=(r.rg _ (r.im c hc)).1;have:mO A M (aQ A O s R p)<mO A M s:=zK (λa _=>lJ λx _=>mR (ow a x)) nA (zK (λx _=>mR (ow _ x)) (rb c hc) (by
    have e:(aQ A O s R p).own (nx A O s c) (best A O s c)<=0:=by
     show s.own _ _-p*cn R _<=0;have c1:=Er (p:=λd=>decide (nx A O s d=nx A O s c)&&(decide (best A O s d=best A O s c) && !decide (0<s.sp (best A O s c)))) hc 'J';obtain⟨z,_⟩|⟨_,z,_⟩:=r.c1 (nx A O s c) (best A O s c)
     ·lia
     ·lia
    unfold bi;lia))
   lia
 |cons a L'=>
  rw[<- hL];have am:a∈R.filter λa=>decide ((aQ A O s R p).wn a=0):='J'
  obtain⟨aR,aw⟩:=BY.mp am;have aw:=GS aw;generalize R.filter (λa=>decide ((aQ A O s R p).wn a=0))=L;have w2:mW A (L.foldl lv (aQ A O s R p))<mW A s:=by
   unfold mW;rw[NQ];refine zK (λb _=>mR (ww b)) (r.rg a aR).1 ?_;unfold bi;rw[aw,rf 'Q',uu (r.rg a aR).2];decide
  have o2:mO A M (L.foldl lv (aQ A O s R p))<=mO A M s:=lJ λb hb=>lJ λx hx=>by
   obtain e|e:=LQ L (aQ A O s R p) b x
   ·rw[e];exact mR (ow b x)
   ·rw[e];exact mR (h.o0 b x hb hx)
  have:=Pj M (L.foldl lv (aQ A O s R p));have:=Pj M s;unfold mu;lia
def qY (A:Nat)(B:Int)(cnt:Nat->Int)(sh:Nat->Nat->Int):St:=⟨sh,λx=>cnt x*B-sg A (λa=>sh a x),λ_ _=>0,λ_=>B⟩
theorem iv0 (hB : 0<B)(hs:∀a,a<A->(∀x,x<M->0<=sh a x)/\sg M (sh a)=B)(hc:∀x,x<M->sg A (λa=>sh a x)<=cnt x*B):∃G,Iv A O (qY A B cnt sh) M B cnt sh [] G:=by
 have z:∀l,sl (λ_=>(0)) l=0:=λl=>by
  have:=vd 0 (λ_=>0) l
  simp_all
 have t0:∀x,fJ A (qY A B cnt sh) x=cnt x*B:=λx=>by
  show sg A (λa=>sh a x)+(cnt x*B-sg A (λa=>sh a x))=_;lia
 refine⟨(List.range M).filter λx=>decide (fJ A (qY A B cnt sh) x=0),λa x ha hx=>(hs a ha).1 x hx,λx hx=>?_,λ_ _ _ _=>aff _,λ_ _=>Sk hB,λx hx=>?_,λa ha=>?_,λa x ha hx hw=>?_,λa k ha hw=>?_,λa k ha hw=>?_,λa x y _ _ _ _ h=>absurd h (Int.lt_irrefl 0),λx hx=>?_,λa x y _ _ h=>absurd h (Int.lt_irrefl 0)⟩
 ·have:=hc x hx;show 0<=cnt x*B-_;lia
 ·rw[t0];show sg A (λ_=>0)+_=_;rw[uw];lia
 ·show sg M (λ_=>0)+B=B;rw[uw];lia
 ·have hw:B=0:=hw;lia
 ·show sl (sh a) _<=sl (λ_=>0) _+sl (sh a) _
  simp_all
 ·have hw:B=0:=hw;lia
 ·simp_all
theorem Ye (ok:Ok A O M)(h:Iv A O s M B cnt sh [] G)(hn:n<M)(hc:cnt n=A)(hB : 0<B)(hw:∀a,a<A->s.wn a=0)(ha:a<A)(hy:y<M)(hg : 0<s.got a y)(hb:Bf (O a) x y):x<M/\G.idxOf x<G.idxOf y/\x≠n/\sg A (λb=>s.got b x)=cnt x*B:=by
 obtain⟨j,h1,h2⟩:_:=id hb;have xm:=l9.mp ((ok a ha).mem_iff.mp (EM h2));have ix:=h.ef a x y ha hy hg hb;have xG:=LK (ze ix List.idxOf_le_length);have tx:=(h.ga x xm).mp xG;have cx:=h.col x xm;refine⟨xm,ix,λe=>?_,'O'⟩;subst e;rw[hc]at cx;have gB:∀b,b<A->s.got b x<=B:=λb hb=>by
  have:=h.row b hb;have:=sC (λz hz=>h.g0 b z hb hz) xm
  simp_all
 have z0:sg A (λb=>B-s.got b x)=0:=by rw[sy,uw];lia
 have z2:=BO (λb hb=>'J') z0 a ha;have nxy:y≠x:=λe=>by
  simp_all
 have r:=h.row a ha;rw[hw a ha]at r;have:sg M (λz=>if z=x then s.got a x else if z=y then s.got a y else 0)<=sg M (s.got a):=lJ λz hz=>by
  split
  ·simp_all
  ·split
   ·simp_all
   ·exact h.g0 a z ha hz
 rw[mE (g:=λz=>(if z=x then s.got a x else 0)+if z=y then s.got a y else 0) λz _=>?_,yZ,pK,pK,uu xm,uu hy]at this
 ·lia
 ·lia
end
end ag
namespace L2
open PySem PySem.Spec PyProof.Rows
def Mo (Φ:Hp->St->Prop):Prop:=∀G G' σ,aj G G'->Φ G σ->Φ G' σ
section
variable {F:aU ι}{pos:Pos}
def a9 (F:aU ι)(Φ:Hp->St->Prop)(e:Expr)(t:Tr):Prop:=∃τ:TE,(∀i,PE (F.cx i) e τ)/\∀σ G H (Q:VK),aj G H->Φ G σ->Kv F.K G H t Q->τ σ H Q
def iH (F:aU ι)(Φ:Hp->St->Prop)(c:Expr)(p:Bool):Prop:=∃τ:TT,(∀i,PT (F.cx i) c τ)/\∀σ G H (Q:Bool->Hp->Prop),aj G H->Φ G σ->(∀G' H',Step G H G' H'->Q p H')->τ σ H Q
def oC (F:aU ι)(Φ:Hp->St->Prop)(es:List Expr)(dd:List Dv):Prop:=∃τ:TA,(∀i,PA (F.cx i) es τ)/\∀σ G H (Q:List V->Hp->Prop),aj G H->Φ G σ->(∀vs G' H',Step G H G' H'->aG F.K G' dd vs->Q vs H')->τ σ H Q
def sW (F:aU ι)(Φ:Hp->St->Prop)(tg iter:Expr)(its:List Dv):Prop:=∃wi:TI,(∀i,PI (F.cx i) tg iter wi)/\∀σ G H (R:It->Hp->Prop),aj G H->Φ G σ->(∀J G' H',Step G H G' H'->Ax F.K G' J its->R J H')->wi σ H R
theorem Ev.p (h:Ev F e ρ t)(w:∀G σ,Φ G σ->aX F.K G ρ σ):a9 F Φ e t:=by obtain⟨τ,p,q⟩:=h;exact⟨τ,p,λσ G H Q s f k=>q σ G H Q s (w G σ f) k⟩
theorem Et.p (h:Et F e ρ q)(w:∀G σ,Φ G σ->aX F.K G ρ σ):iH F Φ e q:=by obtain⟨τ,p,q⟩:=h;exact⟨τ,p,λσ G H Q s f k=>q σ G H Q s (w G σ f) k⟩
theorem a9.use (h:a9 F Φ e t):∃τ,(∀i,PE (F.cx i) e τ)/\∀σ G H (Q:VK),aj G H->Φ G σ->(∀v G' H',Step G H G' H'->Hv F.K G' (er t) v->Q v H')->τ σ H Q:=by
 obtain⟨τ,p,q⟩:_:=h;exact⟨τ,p,λσ G H Q s r k=>q σ G H Q s r λv G' H' fq st o w=>k v (cR G' H' fq) H' (st.eS w) (o.hv (gh w.g) λa ha=>dE ha)⟩
theorem a9.to (h:a9 F Φ e t)(z:t=t'):a9 F Φ e t':=z▸h
theorem iH.to (h:iH F Φ c p)(z:p=q):iH F Φ c q:=z▸h
theorem jJ (j:Nat)(hC:iX F.K C)(hf:jK F.K C f)(h:∀G σ,Φ G σ->∃m dx fs v,σ[j]?=some (some (.ref m))/\G m=some (.ins C dx fs)/\fs.lookup f=some v/\Hv F.K G d v)(hx:∀i,PE (F.cx i) (.Name x p1) (dG j))(hb:∀i,attributeBase (.Name x p1) f (F.cx i).env (eval (.Name x p1) (F.cx i).env)=eval (.Name x p1) (F.cx i).env:=by intro _;rfl):a9 F Φ (.Attribute (.Name x p1) f pos) (.fz d):=by
 refine⟨P1 F.K (dG j) f,λi=>F.hK i▸mL (hx i) (hb i),λσ G H Q s r k=>?_⟩;obtain⟨m,dx,fs,v,h1,h2,h3,h4⟩:_:=h G σ r;exact⟨_,h1,m,C,dx,fs,v,rfl,s _ _ h2,hC,hf,h3,k.dat s h4⟩
theorem LR (mo:Mo Φ)(ho:∀i,cS (F.cx i) (binaryOp op) r)(ha:a9 F Φ a ta)(hb:a9 F Φ b tb')(h:∀G H x y Q,aj G H->Hv F.K G (er ta) x->Hv F.K G (er tb') y->Kv F.K G H t Q->r x y H Q):a9 F Φ (.BinOp a op b pos) t:=by
 obtain⟨τ,p,q⟩:_:=ha.use;obtain⟨bJ,p',q'⟩:=hb.use;refine⟨jv r τ bJ,λi=>sJ (ho i) (p i) (p' i),λσ G H Q s rr k=>?_⟩;refine q σ G H _ s rr λx G1 H1 s1 hx=>q' σ G1 H1 _ s1.s (mo _ _ _ s1.g rr) λy G2 H2 s2 hy=>?_
 exact h G2 H2 x y Q s2.s (hx.mono s2.g) hy (k.step (s1.trans s2))
theorem Dy {c:Bool}(mo:Mo Φ)(ho:∀i,cS (F.cx i) (compareOp op) r)(ha:a9 F Φ a ta)(hb:a9 F Φ b tb')(h:∀G H x y (Q:VK),aj G H->Hv F.K G (er ta) x->Hv F.K G (er tb') y->Q (.bl c) H->r x y H Q)(hm:behindInMarks op b=false):iH F Φ (.Compare a [op] [b] pos) c:=by
 obtain⟨τ,p,q⟩:_:=ha.use;obtain⟨bJ,p',q'⟩:=hb.use;refine⟨EZ (jv r τ bJ),λi=>C7 (ho i) (p i) (p' i) hm,λσ G H Q s rr k=>?_⟩;refine q σ G H _ s rr λx G1 H1 s1 hx=>q' σ G1 H1 _ s1.s (mo _ _ _ s1.g rr) λy G2 H2 s2 hy=>?_
 exact h G2 H2 x y _ s2.s (hx.mono s2.g) hy ⟨c,rfl,k G2 H2 (s1.trans s2)⟩
theorem NR (mo:Mo Φ)(ha:a9 F Φ a (ti i))(hb:a9 F Φ b (ti j)):iH F Φ (.Compare a [.Gt] [b] pos) (decide (j<i)):=Dy mo (λ_=>EY) ha hb (λG H x y Q s hx hy k=>⟨i,j,aS hx,aS hy,k⟩) (gG _)
theorem ZU (mo:Mo Φ)(ha:a9 F Φ a ta)(hb:a9 F Φ b tb')(hk:uV (er ta) (er tb'))(hd:dH (er ta)<=50):iH F Φ (.Compare a [.Eq] [b] pos) (bZ (er ta) (er tb')):=
 Dy mo (λi=>F.hK i▸DX (F.hr i).units) ha hb (λG H x y Q s hx hy k=>⟨_,_,hk,hx.mono s,hy.mono s,hd,k⟩) (gG _)
theorem ZV (mo:Mo Φ)(h:iH F Φ a p)(h2:p=true->iH F Φ b q):iH F Φ (.BoolOp .And [a,b] pos) (p&&q):=by
 obtain⟨τ,x,y⟩:_:=h;cases p with
 |false=>exact⟨vH τ _,λi=>(yK (x i) CI).pt,λσ G H Q s r k=>y σ G H _ s r λG' H' st=>lQ (k G' H' st)⟩
 |true=>
  obtain⟨bJ,x',y'⟩:=h2 rfl;exact⟨vH τ bJ,λi=>(yK (x i) (KO (x' i))).pt,λσ G H Q s r k=>y σ G H _ s r λG1 H1 s1=>lR (y' σ G1 H1 _ s1.s (mo _ _ _ s1.g r) λG2 H2 s2=>k G2 H2 (s1.trans s2))⟩
theorem mN (mo:Mo Φ)(ha:a9 F Φ a ta)(hb:a9 F Φ b (ti k))(ea:er ta=.lst xs)(hk:aP xs k=some d)(hs:yw b:=by exact λ_ _=>rfl):a9 F Φ (.Subscript a b pos) (.fz d):=by
 obtain⟨τ,p,q⟩:_:=ha.use;obtain⟨bJ,p',q'⟩:=hb.use;refine⟨jv (zR F.K) τ bJ,λi=>lF (J7 (F.hK i)) (p i) (p' i) hs,λσ G H Q s rr k=>?_⟩;refine q σ G H _ s rr λx G1 H1 s1 hx=>q' σ G1 H1 _ s1.s (mo _ _ _ s1.g rr) λy G2 H2 s2 hy=>?_
 rw[ea]at hx;obtain⟨l,vs,rfl,h1,h2⟩:=hx;obtain⟨v,h3,h4⟩:=h2.at hk;exact⟨l,vs,_,v,rfl,aS hy,(s2.g.trans s2.s).seq h1,h3,(k.step (s1.trans s2)).dat s2.s (h4.mono s2.g)⟩
theorem abg (mo:Mo Φ)(hc:iH F Φ c p)(h1:p=true->a9 F Φ a t)(h2:p=false->a9 F Φ b t):a9 F Φ (.IfExp c a b pos) t:=by
 obtain⟨τ,x,y⟩:_:=hc;cases p with
 |true=>
  obtain⟨bJ,x',y'⟩:=h1 rfl;exact⟨GK τ bJ _,λi=>CC (x i) (x' i) yd,λσ G H Q s r k=>y σ G H _ s r λG1 H1 s1=>lR (y' σ G1 H1 _ s1.s (mo _ _ _ s1.g r) (k.step s1))⟩
 |false=>
  obtain⟨bJ,x',y'⟩:=h2 rfl;exact⟨GK τ _ bJ,λi=>CC (x i) yd (x' i),λσ G H Q s r k=>y σ G H _ s r λG1 H1 s1=>lQ (y' σ G1 H1 _ s1.s (mo _ _ _ s1.g r) (k.step s1))⟩
theorem rK:oC F Φ [] []:=⟨d8,λ_=>cG,λσ G H Q s _ k=>k [] G H (.refl s) rfl⟩
theorem mC (mo:Mo Φ)(ha:a9 F Φ a t)(hr:oC F Φ es dd)(hs:∀i,starEach (a::es) (F.cx i).env=(false,eval a (F.cx i).env)::starEach es (F.cx i).env:=by intro _;rfl):oC F Φ (a::es) (er t::dd):=by
 obtain⟨τ,p,q⟩:_:=ha.use;obtain⟨bJ,p',q'⟩:=hr;refine⟨dR τ bJ,λi=>cf (p i) (p' i) (hs i),λσ G H Q s rr k=>?_⟩;exact q σ G H _ s rr λx G1 H1 s1 hx=>q' σ G1 H1 _ s1.s (mo _ _ _ s1.g rr) λvs G2 H2 s2 hv=>k _ G2 H2 (s1.trans s2) ⟨_,_,rfl,hx.mono s2.g,hv⟩
theorem Yg (Fn:Kn F.P F.w F.K F.mg F.base bx k x f fd ps (spT F.K R))(hk:k<=F.room)(ha:oC F Φ (e::es) dd)(hR:R dd t){p':Pos}(hg:∀i,Gl (F.cx i) x:=by intro _;rfl)(fc:(x==("__debug__":PySem.Str))=false:=by decide)(he:∀i,starEach (e::es) (F.cx i).env=(false,eval e (F.cx i).env)::starEach es (F.cx i).env:=by intro _;rfl)(dv:∀i,(backTo pos (starEach es (F.cx i).env)).any (·.1)=false:=by intro _;rfl):a9 F Φ (.Call (.Name x p') (e::es) [] pos) t:=by
 obtain⟨τ,y,z⟩:_:=ha;refine⟨sL (spT F.K R) [] E0 τ,λi=>?_,λσ G H Q s rr k=>z σ G H _ s rr λvs G1 H1 s1 hx=>?_⟩
 ·have kN:Kn (F.cx i).prog (F.cx i).w (F.cx i).K (F.cx i).mg (F.cx i).base bx k x f fd ps (spT F.K R):=by
   rw[F.hP i,F.hw i,F.hK i,F.hm i,F.hb i];omega
  exact Fe kN ((F.hr i).mono hk) (hg i) (y i) fc (he i) (dv i)
 ·rw[zw];exact⟨G1,dd,t,s1.s,hx,hR,k.step s1⟩
theorem BP (ha:a9 F Φ a t)(hs:∀i,starEach [a] (F.cx i).env=[(false,eval a (F.cx i).env)]):oC F Φ [a] [er t]:=by
 obtain⟨τ,p,q⟩:_:=ha.use;exact⟨dR τ d8,λi=>cf (p i) cG (hs i),λσ G H Q s rr k=>q σ G H _ s rr λx G1 H1 s1 hx=>k _ G1 H1 s1 ⟨_,_,rfl,hx,rfl⟩⟩
theorem Cw {elts:List Expr}{kk:Nat}{tp:Pos}(hm:F.mg "enumerate"=none)(ha:a9 F Φ a ta)(ea:er ta=.lst xs){p:Pos}(hg:∀i,Gl (F.cx i) "enumerate":=by intro _;rfl)(hs:∀i,starEach [a] (F.cx i).env=[(false,eval a (F.cx i).env)]:=by intro _;rfl):sW F Φ (.Tuple elts kk tp) (.Call (.Name "enumerate" p) [a] [] pos) (gL xs):=by
 obtain⟨τ,p,q⟩:_:=(BP ha hs)
 refine⟨Gj F.K τ,λi=>F.hK i▸Li (hg i) ((F.hm i).symm▸hm) (p i) (hs i),λσ G H R s r k=>q σ G H _ s r λvs G1 H1 s1 hx=>?_⟩;obtain⟨x,rfl,h1⟩:=iQ hx;rw[ea]at h1;obtain⟨l1,us,rfl,g1,g2⟩:=h1;have e1:=g2.length;refine⟨l1,us,rfl,s1.s.seq g1,k _ G1 H1 s1 λj G2 H2 sg sh=>⟨λd hd=>?_,λhz=>?_⟩⟩
 ·unfold gL at hd;rw[Pf]at hd;cases qx:xs[j]? with
  |none=>
   simp_all
  |some dx=>
   have lj:=(gr.mp qx).1;rw[qx,Me lj]at hd;cases hd;obtain⟨vx,x1,x2⟩:_:=g2.get qx;refine⟨⟨(sg.trans sh).seq g1,'O'⟩,?_⟩;intro x H3 z9;obtain⟨T,wx,hT,z1,rfl,rfl⟩:_:=z9;rw[x1]at z1;cases z1;exact⟨_,.new sh hT,T,_,rfl,cO.of bM,_,_,rfl,⟨rfl,rfl⟩,_,_,rfl,(x2.mono sg).mono (aj.new (sh.free hT)),rfl⟩
 ·refine⟨(sg.trans sh).seq g1,?_⟩;rw[hz];unfold gL
  simp_all
def HQ {κ:Type}(F:aU κ)(Φ:Hp->St->Prop)(ifs:List Expr)(b:Bool):Prop:=∃tt:TT,(∀i (pins:List (adG×Obj)) (s1:adJ) (aq:St) (H1:Hp) (Q:Bool->Hp->Prop),Inv (F.cx i) pins aq H1 s1->tt aq H1 Q ->
   wpAny (model (F.cx i).prog (F.cx i).w) (F.cx i).A (mG ifs (F.cx i).env) (TP (F.cx i) pins aq Q) cU s1)/\∀σ G H Q,aj G H->Φ G σ->(∀G' H',Step G H G' H'->Q b H')->tt σ H Q
theorem Dz {F:aU κ}:HQ F Φ [] true:=⟨Lc,λi pins s1 aq H1 Q I h=>OY pins s1 aq H1 Q I h,λσ G H Q s r k=>k G H (.refl s)⟩
theorem ZW {F:aU κ}(h:iH F Φ c p)(hx:∀i,(F.cx i).xe=cU:=by intro _;rfl):HQ F Φ [c] p:=by obtain⟨τ,x,y⟩:=h;exact⟨τ,λi pins s1 aq H1 Q I h=>OZ (x i) (hx i) pins s1 aq H1 Q I h,y⟩
theorem ve (L:∀i,hJ (F.cx i) sc (cl i) fr)(hi:sW F Φ tg iter its)(hg:iA (cB F own fr sc cl) tg js sp)(gS:∀j∈js,j<own.length)(p:Nat->Bool)(f:Nat->Tr)(hz:its.length<sizeLine)(mo:Mo Ψ)(h0:∀G σ,Φ G σ->Ψ G (mH own fr σ))(acZ:∀G σ vs,Ψ G σ->Ψ G (a8 js vs σ))(step:∀k d,its[k]?=some d->∃dd,sp d=some dd/\HQ (cB F own fr sc cl) (λG σ => ∃aq vs,Ψ G aq/\aq.length=own.length+fr.length/\aG F.K G dd vs/\σ=a8 js vs aq) ifs (p k)/\(p k=true->a9 (cB F own fr sc cl) (λG σ => ∃aq vs,Ψ G aq/\aq.length=own.length+fr.length/\aG F.K G dd vs/\σ=a8 js vs aq) elt (f k)))(hs:∀i x,foldedSetIterable iter (F.cx i).env x=pure x:=by intro _ _;rfl):a9 F Φ (.ListComp elt [⟨tg,iter,ifs,0⟩] sc pos) (.ow (((List.range its.length).filter p).map f)):=by
 obtain⟨wi,pi,qi⟩:_:=hi;obtain⟨g,pg,qg⟩:_:=hg;refine⟨Ap wi g (uL (cB F own fr sc cl) ifs) (uE (cB F own fr sc cl) elt) own fr,λi=>OW (L i) (F.calm i) (pi i) (λC s H ex pn=>pg (i,⟨C,s,H,ex,pn⟩)) (λC s H ex pn pins s1 aq H1 Q I h=>by
   obtain⟨tt,h1,h2⟩:=h;exact h1 (i,⟨C,s,H,ex,pn⟩) pins s1 aq H1 Q I h2) (λC s H ex pn=>dJ (F:=cB F own fr sc cl) (i,⟨C,s,H,ex,pn⟩)) (hs i),λσ G H Q s r k=>?_⟩
 refine qi σ G H _ s r λJ G1 H1 s1 it acc dS=>?_
 have k1:=k.step s1;refine⟨λi m ys aq H2=>m=its.length-i/\i<=its.length/\aq.length=own.length+fr.length/\H2 acc=some (.lst ys)/\∃G2 fq,Step G1 H1 G2 H2/\aT F.K G2 H2 (((List.range i).filter p).map f) ys fq/\Nw H1 G2 (acc::fq)/\Ψ G2 aq,
  ⟨_,rfl,zd _,by simp[mH],bM,G1,[],.jR s1.s dS,⟨rfl,rfl⟩,⟨λa ha=>by rw[BB.mp ha];exact dS,λa ha=>by rw[BB.mp ha];exact s1.s.free dS,'Y'⟩,mo _ _ _ s1.g (h0 G σ r)⟩,?_⟩
 intro i m ys aq H2 z9;obtain⟨rfl,hi,tG,kO,G2,fq,s2,o2,w2,r2⟩:_:=z9;have hlen:ys.length<sizeLine:=by
  rw[<- o2.length,aa];have:=Pe p (List.range i);rw[xy]at this;lia
 refine⟨kO,hlen,?_⟩;obtain⟨i1,i2⟩:=it i G2 H2 s2.g s2.s;by_cases bC:i<its.length
 ·have hd:=ar bC;obtain⟨j1,j2⟩:=i1 _ hd;obtain⟨dd,e1,el,ev⟩:=step i _ hd;refine .inr ⟨j1,λzs dg H3=>dg.length=own.length+fr.length/\H3 acc=some (.lst zs)/\∃G3 fq,Step G1 H1 G3 H3/\aT F.K G3 H3 (((List.range (i+1)).filter p).map f) zs fq/\Nw H1 G3 (acc::fq)/\Ψ G3 dg,
   λzs dg H3 z=>⟨its.length-(i+1),'Z',rfl,bC,z⟩,λx H3 y=>?_⟩
  obtain⟨G3,s3,h3⟩:=j2 x H3 y;refine qg _ dd x aq G3 H3 _ e1 s3.s h3 λvs nB=>?_
  have rr:∀{Gx:Hp},aj G3 Gx->∃Gs ny,Ψ Gx Gs/\Gs.length=own.length+fr.length/\aG F.K Gx dd ny/\a8 js vs aq=a8 js ny Gs:=λ{Gx} sx=>⟨aq,vs,mo _ _ _ (s3.g.trans sx) r2,tG,nB.mono sx,rfl⟩
  have rn:∀{Gx:Hp},aj G3 Gx->Ψ Gx (a8 js vs aq):=λ{Gx} sx=>acZ _ _ _ (mo _ _ _ (s3.g.trans sx) r2)
  have vt:∀{Ga Ha Gb Hb:Hp} {fs:List adG},Step Ga Ha Gb Hb->(∀a∈fs,Ga a=none)->(∀a∈fs,∃o,Ha a=some o)->∀a∈fs,Gb a=none:=λ{Ga Ha Gb Hb fs} st h1 h2 a ha=>by
   cases q:Gb a with
   |none=>rfl
   |some u=>
    obtain⟨u',bw⟩:=h2 a ha;have:=st.n a (h1 a ha) (by rw[q];exact λz=>nomatch z);rw[bw]at this;cases this
  have qL:∀a∈acc::fq,∃o,H2 a=some o:=λa ha=>(ff.mp ha).elim (λz=>⟨_,z▸kO⟩) (o2.there a)
  have er:(List.range (i+1)).filter p=(List.range i).filter p++if p i=true then [i]else []:=by
   rw[List.range_succ,ad4];congr 1;simp[aat]
  obtain⟨tt,pt,qt⟩:=el;refine⟨tt,pt,qt _ G3 H3 _ s3.s (rr (aj.refl _)) λG5 H5 s5=>?_⟩;have gT:=s3.trans s5;cases hp:p i with
  |false=>
   refine lQ ⟨by rw[uc];exact tG,gT.h _ _ kO,G5,fq,s2.trans gT,?_,⟨w2.n,vt gT w2.g qL,w2.d⟩,?_⟩
   ·rw[er,hp,rf 'Q',zw];exact o2.mono gT.g gT.h
   ·exact rn s5.g
  |true=>
   obtain⟨te,pe,qe⟩:=ev hp;refine lR ⟨te,pe,qe _ G5 H5 _ s5.s (rr s5.g) λv G6 H6 f6 s6 o6 w6=>?_⟩;have iB:=gT.trans s6;have Hj:=iB.h _ _ kO;have qM:∀a∈f6,a∉acc::fq:=λa ha hb=>by
    obtain⟨u,hu⟩:=qL a hb;have:=gT.h _ _ hu;rw[w6.n a ha]at this;cases this
   have qN:=AE.mp w2.d;have g6:=vt iB w2.g qL;refine⟨Hj,by rw[uc];exact tG,bM,G6,fq++(f6++[]),⟨(s2.trans iB).g,λb u hb=>?_,λb u hb=>?_,(s2.trans iB).n⟩,?_,⟨λa ha=>?_,λa ha=>?_,?_⟩,?_⟩
   ·rw[aH λz=>by subst z;rw[dS]at hb;cases hb];exact(s2.trans iB).h b u hb
   ·rw[aH λz=>by subst z;rw[g6 _ (.head _)]at hb;cases hb];exact s6.s b u hb
   ·rw[er,hp,uu rfl,B0];refine aT.append ((o2.mono iB.g iB.h).frame qN.1) ⟨v,[],f6,[],rfl,rfl,o6.frame λz=>qM _ z (.head _),rfl,rfl⟩
   ·rw[zw]at ha;obtain z|z:=ff.mp ha
    ·exact w2.n a (z▸.head _)
    ·obtain z|z:=qr.mp z
     ·exact w2.n a (.tail _ z)
     ·exact(s2.trans gT).h.free (w6.n a z)
   ·rw[zw]at ha;obtain z|z:=ff.mp ha
    ·exact g6 a (z▸.head _)
    ·obtain z|z:=qr.mp z
     ·exact g6 a (.tail _ z)
     ·exact w6.g a z
   ·rw[zw];refine AE.mpr ⟨λz=>?_,AN.mpr ⟨qN.2,w6.d,λa ha b hb z=>?_⟩⟩
    ·obtain z|z:=qr.mp z
     ·exact qN.1 z
     ·exact qM _ z (.head _)
    ·subst z;exact qM a hb (.tail _ ha)
   ·exact rn (s5.trans s6).g
 ·have e:i=its.length:='O'
  subst e;refine .inl ⟨i2 rfl,k1 (.ref acc) G2 H2 (acc::fq) s2 ⟨acc,ys,fq,rfl,kO,o2,rfl⟩ w2⟩
theorem Kt {K:Frag}:∀{js:List Nat} {vs:List V} {σ:St},(∀j∈js,ρ[j]?=some none)->aX K G ρ σ->aX K G ρ (a8 js vs σ)
 |[],_,_,_,r=>r
 |_::_,[],_,_,r=>r
 |j::js,v::vs,σ,h,r=>Kt (js:=js) (λj hj=>h j (.tail _ hj)) λi d hd=>by
  have e:j≠i:=λz=>'J'
  rw[FF e];exact r i d hd
theorem Yh (h:j<own.length):(cH own fr ρ)[j]?=some none:=by
 unfold cH;rw[Cf (by rw[aa];exact h),l8,ar h];rfl
theorem rW (L:∀i,hJ (F.cx i) sc (cl i) fr)(w:∀G σ,Φ G σ->aX F.K G ρ σ)(hi:sW F Φ tg iter its)(hg:iA (cB F own fr sc cl) tg js sp)(gS:∀j∈js,j<own.length)(p:Nat->Bool)(f:Nat->Tr)(hz:its.length<sizeLine)(step:∀k d,its[k]?=some d->∃dd,sp d=some dd/\El (cB F own fr sc cl) ifs (a8 js (dd.map .fz) (cH own fr ρ)) (p k)/\(p k=true->Ev (cB F own fr sc cl) elt (a8 js (dd.map .fz) (cH own fr ρ)) (f k)))(hs:∀i x,foldedSetIterable iter (F.cx i).env x=pure x:=by intro _ _;rfl):a9 F Φ (.ListComp elt [⟨tg,iter,ifs,0⟩] sc pos) (.ow (((List.range its.length).filter p).map f)):=by
 refine ve L hi hg gS p f hz (λG G' σ e r=>r.mono e) (λG σ h=>MX (w G σ h)) (λG σ vs r=>Kt (λj hj=>Yh (gS j hj)) r) (λk d hd=>?_) hs;obtain⟨dd,h1,h2,h3⟩:_:=step k d hd;have rp:∀G σ,(∃aq vs,aX F.K G (cH own fr ρ) aq/\aq.length=own.length+fr.length/\aG F.K G dd vs/\σ=a8 js vs aq)->aX F.K G (a8 js (dd.map .fz) (cH own fr ρ)) σ:=λG σ z9=>by
  obtain⟨aq,vs,r,l,hv,e⟩:_:=z9;rw[e];exact aX.a8 (λj hj=>by have:=gS j hj;lia) hv r
 refine⟨dd,h1,?_,λhp=>(h3 hp).p rp⟩;obtain⟨tt,a,b⟩:_:=h2;exact⟨tt,a,λσ G H Q s r k=>b σ G H Q s (rp G σ r) k⟩
def fZ (K:Frag){S:Type}(Θ:S->Hp->adG->Prop)(R:S->List Dv->Tr->Prop):Sp:=λvs H Q _=>∃(G:Hp) (a:adG) (rest:List V) (st:S) (dd:List Dv) (t:Tr),vs=.ref a::rest/\aj G H/\Θ st G a/\aG K G dd rest/\R st dd t/\Kv K G H t Q
variable {st:S}{apos:Pos}{pl : ι->Sem Bool}
theorem yi (j:Nat)(hC:iX F.K C)(hM:Meth F.K C m f)(Fn:bQ F.P F.w F.K F.mg F.base bx k f fd ps (fZ F.K Θ R))(hk:k<=F.room)(hb:Binds F.K fd ps [])(h:∀G σ,Φ G σ->∃a dx fs,σ[j]?=some (some (.ref a))/\G a=some (.ins C dx fs)/\fs.lookup m=none/\Θ st G a)(HR:∀G G' a,aj G G'->Θ st G a->Θ st G' a)(ha:oC F Φ (e::es) dd)(hR:R st dd t)(hx:∀i,PE (F.cx i) (.Name x p1) (dG j))(iw:∀i,starEach (e::es) (F.cx i).env=(false,eval e (F.cx i).env)::starEach es (F.cx i).env:=by intro _;rfl)(dv:∀i,(backTo pos (starEach es (F.cx i).env)).any (·.1)=false:=by intro _;rfl)(ht:∀i,eval (.Call (.Attribute (.Name x p1) m apos) (e::es) [] pos) (F.cx i).env=(do
   let ov<-eval (.Name x p1) (F.cx i).env
   standAt apos.atName
   let (f,first)<-holding [ov] (getMethod ov m (pl i))
   callWith pos f first (backTo pos (starEach (e::es) (F.cx i).env)) (backToKw pos (keywordEach [] (F.cx i).env))):=by intro _;rfl):a9 F Φ (.Call (.Attribute (.Name x p1) m apos) (e::es) [] pos) t:=by
 obtain⟨τ,y,z⟩:_:=ha;refine⟨zv C m (fZ F.K Θ R) [] E0 (dG j) τ,λi=>?_,λσ G H Q s rr k=>?_⟩
 ·have kN:bQ (F.cx i).prog (F.cx i).w (F.cx i).K (F.cx i).mg (F.cx i).base bx k f fd ps (fZ F.K Θ R):=by
   rw[F.hP i,F.hw i,F.hK i,F.hm i,F.hb i];exact Fn
  exact C8 (hx i) (F.hK i▸hC) (F.hK i▸hM) kN ((F.hr i).mono hk) (F.hK i▸hb) .nil mQ (y i) (iw i) (dv i) (ht i)
 ·obtain⟨a,dx,fs,h1,h2,h3,h4⟩:_:=h G σ rr;refine⟨_,h1,a,dx,fs,rfl,s _ _ h2,h3,z σ G H _ s rr λvs G1 H1 s1 hv=>?_⟩;exact⟨G1,a,vs,st,dd,t,by rw[zw],s1.s,HR _ _ _ s1.g h4,hv,hR,k.step s1⟩
theorem ya (j:Nat)(hC:iX F.K C)(hM:Meth F.K C m f)(Fn:bQ F.P F.w F.K F.mg F.base bx k f fd ps (fZ F.K Θ R))(hk:k<=F.room)(hb:Binds F.K fd ps [])(h:∀G σ,Φ G σ->∃a dx fs,σ[j]?=some (some (.ref a))/\G a=some (.ins C dx fs)/\fs.lookup m=none/\Θ st G a)(hR:R st [] t)(hx:∀i,PE (F.cx i) (.Name x p1) (dG j))(ht:∀i,eval (.Call (.Attribute (.Name x p1) m apos) [] [] pos) (F.cx i).env=(do
   let ov<-eval (.Name x p1) (F.cx i).env
   standAt apos.atName
   let (f,first)<-holding [ov] (getMethod ov m (pl i))
   callWith pos f first (backTo pos (starEach [] (F.cx i).env)) (backToKw pos (keywordEach [] (F.cx i).env))):=by intro _;rfl):a9 F Φ (.Call (.Attribute (.Name x p1) m apos) [] [] pos) t:=by
 refine⟨zv C m (fZ F.K Θ R) [] E0 (dG j) d8,λi=>?_,λσ G H Q s rr k=>?_⟩
 ·have kN:bQ (F.cx i).prog (F.cx i).w (F.cx i).K (F.cx i).mg (F.cx i).base bx k f fd ps (fZ F.K Θ R):=by
   rw[F.hP i,F.hw i,F.hK i,F.hm i,F.hb i];omega
  exact CF (hx i) (F.hK i▸hC) (F.hK i▸hM) kN ((F.hr i).mono hk) (F.hK i▸hb) .nil mQ (ht i)
 ·obtain⟨a,dx,fs,h1,h2,h3,h4⟩:_:=h G σ rr;exact⟨_,h1,a,dx,fs,rfl,s _ _ h2,h3,G,a,[],st,[],t,rfl,s,h4,rfl,hR,k⟩
end
theorem y9 {K:Frag}{Θ:S->Hp->adG->Prop}{R:S->List Dv->Tr->Prop}(Fd:fE K x qual s0 dV f fd)(Sc:aZ N ps (aA s0))(hl:∀st dd t,R st dd t->dd.length+1=ps.length)(hps:∀τ,(∀i,PE ((iR P w K mg base N qual (aA s0) f k).cx i) e τ)->∀i,gw ((iR P w K mg base N qual (aA s0) f k).cx i) (dw s0) (vI τ))(hb:∀st dd t,R st dd t->a9 (iR P w K mg base N qual (aA s0) f k) (λG σ => ∃a rest,σ=start N (.ref a::rest)/\Θ st G a/\aG K G dd rest) e t):bQ P w K mg base bx (k+1) f fd ps (fZ K Θ R):=by
 refine Fd.ok Sc (λvs H Q E z9=>by obtain⟨G,a,rest,st,dd,t,h1,_,_,h2,h3,_⟩:_:=z9;rw[h1,IF,<- h2.length];exact hl st dd t h3) λaL A outer s H vs Q E hr h=>?_
 obtain⟨G,a,rest,st,dd,t,rfl,s',HR,hv,hR,kv⟩:_:=h;obtain⟨τ,x,y⟩:=hb st dd t hR;exact⟨_,hps τ x ⟨aL,A,outer,s,H,E,hr⟩,y _ G H _ s' ⟨a,rest,rfl,HR,hv⟩ kv⟩
end L2
namespace au
open PySem L2 dC
theorem sk {N ps:List Str}{sc:Scope}(a:sc.kind=.function:=by rfl)(b:sc.isCoroutine=false:=by rfl)(c:sc.isGenerator=false:=by rfl)(d:N.Nodup:=by decide +kernel)(e:N.take ps.length=ps:=by rfl)(g:∀x∈ps,sc.names.lookup x=some .local\/sc.names.lookup x=some .cell:=by decide +kernel)(h:∀y∈sc.names,y.2≠.free:=by decide +kernel):aZ N ps sc:=⟨a,b,c,d,e,g,h⟩
abbrev bK (K:Frag)(x:Str)(st:afW)(f:adG)(fd:FuncData):Prop:=qD K x x st f fd
abbrev bL (P:afU)(w:afV)(K:Frag)(mg:Str->Option vn)(base:Heap)(k:Nat)(f:adG)(fd:FuncData)(ps:List Str)(R:List Dv->Tr->Prop):Prop:=bQ P w K mg base bx (k+1) f fd ps (spT K R)
abbrev bj (P:afU)(w:afV)(K:Frag)(mg:Str->Option vn)(base:Heap)(k:Nat)(x:Str)(f:adG)(fd:FuncData)(ps:List Str)(R:List Dv->Tr->Prop):Prop:=Kn P w K mg base bx (k+1) x f fd ps (spT K R)
abbrev bI:=List Dv->Tr->Prop
theorem bR {P:afU}{w:afV}{K:Frag}{mg:Str->Option vn}{base:Heap}{x qual:Str}{st:afW}{dV:vn}{f:adG}{fd:FuncData}{N ps:List Str}{k:Nat}{R:List Dv->Tr->Prop}(Fd:fE K x qual st dV f fd)(S:aZ N ps (aA st))(hl:∀dd t,R dd t->dd.length=ps.length)(hb:∀dd t,R dd t->bE (iR P w K mg base N qual (aA st) f k) (dw st) (Hk N dd) (.rt t)):bQ P w K mg base bx (k+1) f fd ps (spT K R):=Fi Fd S hl λdd t h=>⟨_,.inl rfl,hb dd t h⟩
def top (i:Nat):afW:=PySem.Challenge.pw_lotmeal_k25_bettered.main.body.getD i (.Pass ⟨0,0,0,0⟩)
structure Txt (mg:Str->Option vn):Prop where
 oX:mg "isinstance"=none
 Fv:mg "int"=none
 NS:mg "bool"=none
 ic:mg "list"=none
 ZX:mg "tuple"=none
 bS:mg "len"=none
 dW:mg "range"=none
 Fw:mg "zip"=none
 Pk:mg "any"=none
 mz:mg "enumerate"=none
 Pl:mg "set"=none
 Fx:mg "abs"=none
 Fy:mg "sum"=none
 Ku:mg "sorted"=none
 Wi:mg "reversed"=none
 adz:mg "str"=none
 Pm:mg "min"=none
 abh:∃tk,mg "MOST"=some (.int 6 tk)
 Vj:∃tk,mg "MOST_COUNT"=some (.int 9 tk)
section
def aB (n:Nat):LI:=(List.range n).map λi=>0+((i:Nat):Int)
theorem CT:x∈aB n↔0<=x/\x<n:=by
 unfold aB
 constructor
 ·grind
 ·rintro⟨h0,h1⟩;exact i8.mpr ⟨x.toNat,l9.mpr 'O','O'⟩
theorem xW (n:Nat):(aB n).Nodup:=by
 unfold aB;rw[List.nodup_iff_pairwise_ne,RI];exact(ad2 (n:=n)).imp λh z=>h 'O'
abbrev Bn:afW:=top 9
theorem xO:aZ ["one", "other", "rest"] ["one", "other"] (aA Bn):=sk
def Fz:bI:=λdd t=>∃a b:Int,0<=a/\0<=b/\dd=[di a,di b]/\t=ti (gc a b)
theorem Um (F:bK K "common_part" Bn f fd)(T:Txt mg):bL P w K mg base k f fd ["one", "other"] Fz:=by
 refine bR F.d xO 'H' λdd t h=>?_
 obtain⟨a,b,ha,hb,rfl,rfl⟩:=h;refine xS (λp:Int×Int=>[some (ti p.1),some (ti p.2),none]) (λp=>0<=p.1/\0<=p.2/\gc p.1 p.2=gc a b) (λp=>!decide (p.2=0)) (λp=>p.2.toNat) (a,b) rfl ⟨ha,hb,rfl⟩ (λp hp=>Et.s (vm (ae 1 rfl) ak)) (λp hp h=>?_) (λp hp h=>?_)
 ·obtain⟨x,y⟩:=p;obtain⟨h1,h2,h3⟩:=hp;have hy:y≠0:='J'
  have l1:=LS x (show 0<y by lia);have l2:=TM x hy;refine⟨(y,x%y),⟨h2,l2,?_⟩,?_,bE.fg (ax (aV 2 (Ev.s (dP (ae 0 rfl) (ae 1 rfl) 'O')) (λ_=>xO.nd)) (ax (aV 0 (Ev.s (ae 1 rfl)) (λ_=>xO.nd)) (az (aV 1 (Ev.s (ae 2 rfl)) (λ_=>xO.nd))))) ⟨[2],rfl⟩⟩
  ·rw[Ln];exact h3
  ·lia
 ·obtain⟨x,y⟩:=p;obtain⟨h1,h2,h3⟩:=hp;have hy0:y=0:='O'
  have h3':=h3;have e:gc a b=x:=by grind [Lk]
  rw[e];exact az (cA (Ev.s (ae 0 rfl)))
abbrev B3:afW:=top 8
theorem VF:aZ ["number"] ["number"] (aA B3):=sk
def Kw:bI:=λdd t=>∃n:Int,dd=[di n]/\t=tb true
theorem VG (F:bK K "is_whole" B3 f fd)(T:Txt mg):bL P w K mg base k f fd ["number"] Kw:=by
 refine bR F.d VF 'H' λdd t h=>?_
 obtain⟨n,rfl,rfl⟩:=h;exact az (cA (Ev.s (Ev.to (D3 (pH T.oX T.Fv DY (ae 0 rfl) (by with_unfolding_all rfl)) λ_=>(uW (MU (p:=false) (pH T.oX T.NS Le (ae 0 rfl) (by with_unfolding_all rfl))))) rfl)))
abbrev iK:afW:=top 10
theorem Jn:aZ ["top", "bottom", "part"] ["top", "bottom"] (aA iK):=sk
def lK:bI:=λdd t=>∃a b:Int,0<b/\b.natAbs<2^8000/\dd=[di a,di b]/\t=tF (lT a b,lB a b)
theorem VH (F:fE K "fraction" "fraction" iK dV f fd)(T:Txt mg)(Ju:bj P w K mg base k "is_whole" f1 cL ["number"] Kw)(Bo:bj P w K mg base k "common_part" f2 fd2 ["one", "other"] Fz):bL P w K mg base (k+1) f fd ["top", "bottom"] lK:=by
 refine Fi F Jn 'H' λdd t h=>?_
 obtain⟨a,b,hb,hz,rfl,rfl⟩:=h;refine⟨_,.inl rfl,?_⟩;refine ax (dq (Et.s (Ew.et (jh (ko (fN (aW Ju (br _) (ah (ae 0 rfl) ao) ⟨a,rfl,rfl⟩))) λ_=>(lA (ko (fN (aW Ju (br _) (ah (ae 1 rfl) ao) ⟨b,rfl,rfl⟩))))))) rfl) ?_;refine ax (dq (Et.s (gI (ae 1 rfl) ak)) (LG 'O')) ?_;have ha : 0<=(if a<0 then -a else a):='O'
 have nC : 0<=(if b<0 then -b else b):='O'
 have eg:gc (if a<0 then -a else a) (if b<0 then -b else b)=gc a b:=by
  rw[show(if a<0 then -a else a)=(a.natAbs) by lia,show(if b<0 then -b else b)=(b.natAbs) by lia,aaY]
 have gp:=sr (a:=a) (show b≠0 by lia);have gl:=Dh (a:=a) hb;refine ax (aV 2 (bO.to (t':=ti (gc a b)) (Ev.s (aW Bo (br _) (ah (Ea T.Fx (ae 0 rfl)) (ah (Ea T.Fx (ae 1 rfl)) ao)) ⟨_,_,ha,nC,rfl,rfl⟩)) (by rw[eg])) (λ_=>Jn.nd)) ?_;refine ax (dq (Et.s (pP (ae 1 rfl) ak)) (LG 'O')) ?_;have cd:∀i,vj i (gc a b):=λi=>⟨gp,LP 'O' hz⟩
 refine az (cA (Ev.s (kj (ah (hW (ae 0 rfl) (ae 2 rfl) (cd _)) (ah (hW (ae 1 rfl) (ae 2 rfl) (cd _)) ao)) ?_ (by show 2<=sizeLine;decide))));show[di (a/gc a b),di (b/gc a b)]=_;rw[M6 hb,M9 hb]
abbrev Ex:afW:=top 11
theorem ZY:aZ ["one", "other"] ["one", "other"] (aA Ex):=sk
def lC (p:Int×Int):Prop:=0<p.2/\p.2.natAbs<2^90/\p.1.natAbs<2^90
def vC:bI:=λdd t=>∃p q:Int×Int,lC p/\lC q/\dd=[dF p,dF q]/\t=tF (lT (p.1*q.2+q.1*p.2) (p.2*q.2),lB (p.1*q.2+q.1*p.2) (p.2*q.2))
theorem fP {a:Int}(h:a.natAbs<2^n)(hn:n<=8000):a.natAbs<2^8000:=ze h (aeY 'Q' hn)
theorem NT {b:Int}(h1:a.natAbs<2^m)(h2:b.natAbs<2^n):(a*b).natAbs<2^(m+n):=by
 simp_all [aei,Nat.pow_add,Nat.mul_lt_mul'']
theorem ZZ (F:bK K "plus" Ex f fd)(T:Txt mg)(mB:bj P w K mg base (k+1) "fraction" f1 cL ["top", "bottom"] lK):bL P w K mg base (k+2) f fd ["one", "other"] vC:=by
 refine bR F.d ZY 'H' λdd t h=>?_
 obtain⟨p,q,⟨p1,p2,p3⟩,⟨q1,q2,q3⟩,rfl,rfl⟩:_:=h;have jY:∀r:Int×Int,aP [di r.1,di r.2] 0=some (di r.1):=λ_=>rfl
 have jZ:∀r:Int×Int,aP [di r.1,di r.2] 1=some (di r.2):=λ_=>rfl
 exact az (cA (Ev.s (aW mB (br _) (ah (eI (kn (bU (ae 0 rfl) ak rfl (jY p)) (bU (ae 1 rfl) ak rfl (jZ q)) ⟨fP p3 'Q',fP q2 'Q'⟩) (kn (bU (ae 1 rfl) ak rfl (jY q)) (bU (ae 0 rfl) ak rfl (jZ p)) ⟨fP q3 'Q',fP p2 'Q'⟩)) (ah (kn (bU (ae 0 rfl) ak rfl (jZ p)) (bU (ae 1 rfl) ak rfl (jZ q)) ⟨fP p2 'Q',fP q2 'Q'⟩) ao)) ⟨_,_,Int.mul_pos p1 q1,fP (NT p2 q2) 'Q',rfl,rfl⟩)))
abbrev Bd:afW:=top 19
theorem A9:aZ ["orders", "many", "asker", "order"] ["orders", "many"] (aA Bd):=sk
def NU:bI:=λdd t=>∃(os:LL) (n:Int),(∀o∈os,o.Nodup/\o.length<=100/\∀x∈o,0<=x/\x<n)/\dd=[.lst (os.map dis),di n]/\t=tn
theorem LU {α:Type}(l:List α)(f : α->Bool):er (.ow (l.map λk=>Tr.fz (db (f k))))=.lst ((l.map f).map db):=by
 rw[eG,gz];rfl
theorem Ua (F:bK K "check_orders" Bd f fd)(T:Txt mg):bL P w K mg base k f fd ["orders", "many"] NU:=by
 refine Fi F.d A9 'H' λdd t h=>?_
 obtain⟨os,n,ho,rfl,rfl⟩:=h;refine⟨_,.inr ⟨rfl,[some (.fz (.lst (os.map dis))),some (ti n),none,none],rfl⟩,?_⟩;have big:=cw;refine ax (dQ (bb.s (rJ T.mz (ae 0 rfl) rfl)) (iO 2 3 (λ_=>A9.nd)) (λ_=>[some (.fz (.lst (os.map dis))),some (ti n),none,none]) rfl (λ_=>rfl) (λj d hd=>?_)) ?_
 ·obtain⟨x,hx,rfl⟩:=lh hd;obtain⟨o,ju,rfl⟩:=gF hx;obtain⟨o1,o2,o3⟩:=ho o (ba ju);refine⟨_,_,rfl,az (dq (Et.s (fN (Nb T.Pk (fO (own:=["thing"]) (fr:=[1]) o di (λx=>tb (decide (x<0)||decide (n<=x))) (λi=>cg) (cm (ae 3 rfl) rfl) (bp 0 (λ_=>bH)) 'Q' 'O' (λx hx=>⟨_,rfl,O2 (Ff (ae 0 rfl) ak) λ_=>uW (abS (ae 0 rfl) (ae 1 rfl))⟩) (λdd=>by cases dd<;>rfl)) (LU o _)))) ?_),[2,3],rfl⟩
  simp_all
 refine ax (dQ (bb.s (rJ T.mz (ae 0 rfl) rfl)) (iO 2 3 (λ_=>A9.nd)) (λ_=>[some (.fz (.lst (os.map dis))),some (ti n),none,none]) rfl (λ_=>rfl) (λj d hd=>?_)) nU;obtain⟨x,hx,rfl⟩:=lh hd;obtain⟨o,ju,rfl⟩:=gF hx;obtain⟨o1,o2,o3⟩:=ho o (ba ju);refine⟨_,_,rfl,az (dq (Et.s (vm (WW T.bS T.Pl (ae 3 rfl) rfl 'O') (bV T.bS (ae 3 rfl) (.inl rfl)))) ?_),[2,3],rfl⟩
 grind [Vf]
abbrev B4:afW:=top 20
theorem VI:aZ ["counts", "orders"] ["counts", "orders"] (aA B4):=sk
def Qm:bI:=λdd t=>∃(c:LI) (os:LL),dX c os/\dd=[dis c,.lst (os.map dis)]/\t=.tp [aE c,ji os]
theorem VJ (F:bK K "table_of" B4 f fd)(T:Txt mg)(Uo:bj P w K mg base k "check_orders" f1 cL ["orders", "many"] NU):bL P w K mg base (k+1) f fd ["counts", "orders"] Qm:=by
 refine bR F.d VI 'H' λdd t h=>?_
 obtain⟨c,os,ok,rfl,rfl⟩:=h;have big:=cw;have c6:=ok.c6;have o6:=ok.o6;have o1:=ok.o1;obtain⟨tk,gm⟩:=T.abh;obtain⟨tk2,xg⟩:=T.Vj;refine ax (dq (Et.s (Ew.et (jh (lH (bV T.bS (ae 0 rfl) (.inl rfl)) (Dd gm ⟨_,rfl⟩ rfl)) λ_=>(lA (lH (bV T.bS (ae 1 rfl) (.inl rfl)) (Dd gm ⟨_,rfl⟩ rfl)))))) ?_) ?_
 ·grind
 refine ax (dq (Et.s (gI (bV T.bS (ae 1 rfl) (.inl rfl)) ak)) ?_) ?_
 ·grind
 refine ax (dq (Et.s (fN (Nb T.Pk (fO (own:=["count"]) (fr:=[]) c di (λx=>tb (decide (x<0)||decide (9<x))) (λi=>cg) (cm (ae 0 rfl) rfl) (bp 0 (λ_=>bH)) 'Q' 'O' (λx hx=>⟨_,rfl,by exact O2 (Ff (ae 0 rfl) ak) λ_=>uW (abR (ae 0 rfl) (Dd xg ⟨_,rfl⟩ rfl))⟩) (λdd=>by cases dd<;>rfl)) (LU c _)))) ?_) ?_
 ·rw[List.any_eq_false];intro b hb;obtain⟨x,hx,rfl⟩:=i8.mp hb;obtain⟨x0,x1⟩:=ok.cnt x hx
  simp_all
 refine ax (Y0 (Ev.s (aW Uo (br _) (ah (ae 1 rfl) (ah (bV T.bS (ae 0 rfl) (.inl rfl)) ao)) ⟨os,c.length,λo ho=>⟨ok.nd o ho,Cn (ok.gN ho) 'Q',ok.bT o ho⟩,?_,rfl⟩))) ?_
 rotate_left
 ·rw[aa];rfl
 refine az (cA (Ev.s (Ev.to (oh (ah (nT T.ic (ae 0 rfl) (.inl rfl)) (ah (fO (own:=["order"]) (fr:=[]) os dis aE (λi=>cg) (cm (ae 1 rfl) rfl) (bp 0 (λ_=>bH)) 'Q' 'O' (λo ho=>⟨_,rfl,Ev.to (nT T.ic (ae 0 rfl) (.inl rfl)) 'J'⟩) (λdd=>by cases dd<;>rfl)) ao)) (by grind)) 'J')))
abbrev BE:afW:=top 21
theorem Bp:aZ ["table", "asker", "many", "order"] ["table", "asker"] (aA BE):=sk
def FA:bI:=λdd t=>∃(c:LI) (os:LL) (a:Int) (o:LI),c.length<=100/\o.length<=100/\aP os a=some o/\dd=[gn c os,di a]/\t=aE (aN c.length o)
theorem DA (f : α->β)(h:aP l k=some x):aP (l.map f) k=some (f x):=by
 unfold aP at h ⊢;rw[aa];cases q:fh l.length k with
 |none=>rw[q]at h;cases h
 |some j=>
  rw[q]at h;show(l.map f)[j]?=_;have h':l[j]?=some x:=h;rw[l8,h'];rfl
theorem UN (F:bK K "full_order" BE f fd)(T:Txt mg):bL P w K mg base k f fd ["table", "asker"] FA:=by
 refine bR F.d Bp 'H' λdd t h=>?_
 obtain⟨c,os,a,o,h1,h2,h3,rfl,rfl⟩:_:=h;have big:=cw;refine ax (aV 2 (Ev.s (bV T.bS (bU (ae 0 rfl) ak rfl rfl) (.inl rfl))) (λ_=>Bp.nd)) ?_;refine ax (aV 3 (Ev.s (bz (bU (ae 0 rfl) ak rfl rfl) (ae 1 rfl) rfl (DA dis h3))) (λ_=>Bp.nd)) ?_;rw[aa];refine az (cA (Ev.s (Ev.to (se (se (ae 3 rfl) (cu (ah (ae 2 rfl) ao) (by grind)) rfl rfl ?_) (zy (own:=["thing"]) (fr:=[3]) (λi=>cg) (fM T.dW (ae 2 rfl) ⟨'O','O'⟩) (bp 0 (λ_=>bH)) 'Q' (λk=>!o.contains (0+((k)))) (λk=>ti (0+((k)))) ?_ (λk d hd=>?_) (λdd=>?_)) (mM _) (pI _ _) ?_) ?_)))
 ·show(o.map di).length+1<=sizeLine
  grind
 ·grind
 ·obtain⟨hi,rfl⟩:=mI hd;exact⟨_,rfl,hZ (nO (ae 0 rfl) (ae 1 rfl) rfl (by with_unfolding_all rfl)),λ_=>ae 0 rfl⟩
 ·cases dd<;>rfl
 ·have e:(jo 0 ((c.length):Int).toNat).length=c.length:='Y'
  rw[e];show((o.map di)++[di _]).length+((jj c.length o).map di).length<=sizeLine
  grind [Cg]
 ·have e:(jo 0 ((c.length):Int).toNat).length=c.length:='Y'
  rw[e];show Tr.ow ((((o.map di)++[di _])++((jj c.length o).map di)).map .fz)=Tr.ow ((o++[(c.length:Int)]++jj c.length o).map _);simp[gz]
  rfl
def cz (aM:LI)(x:Int):Int:=aM.getD x.toNat 0
def bX (aM:LI)(full:LI)(k:Nat):Int:=((full.take k).map (cz aM)).sum
theorem JR (h:full[k]?=some x):bX aM full (k+1)=bX aM full k+cz aM x:=by
 simp_all [bX,kg]
structure fD (W:Int) (n:Nat) (aM:LI):Prop where
 w0 : 0<W
 w1:W<2^70
 len:aM.length=n+1
 t0:∀t∈aM,0<=t/\t<=W
theorem pj (h:fD W n aM)(x:Int) : 0<=cz aM x/\cz aM x<=W:=by
 unfold cz;rw[ir];cases q:aM[x.toNat]? with
 |none=>exact⟨aff _,Sk h.w0⟩
 |some t=>exact h.t0 t (ba q)
theorem DB (h:fD W n aM)(full:LI):∀k,0<=bX aM full k/\bX aM full k<=k*W
 |0=>by show 0<=(0)/\(0)<=((0))*W;lia
 |k+1=>by
  have ih:=DB h full k;cases q:full[k]? with
  |none=>
   have hk:full.length<=k:=by
    simp_all
   have e:bX aM full (k+1)=bX aM full k:=by grind [bX,List.take_of_length_le]
   have:=h.w0
   grind
  |some x=>
   rw[JR q];have:=pj h x;lia
theorem rowAt (h:fD W n aM){x:Int}(x0 : 0<=x)(x1:x<=n):aP ((aM.map (fW W)).map dF) x=some (dF (fW W (cz aM x))):=by
 obtain⟨m,rfl⟩:∃m:Nat,x=(m):=⟨x.toNat,'O'⟩
 have hm:m<aM.length:=by rw[h.len];lia
 refine dh ?_;unfold cz;rw[l8,l8,ir,BS,ar hm];rfl
theorem Z0 {n:Nat}{o:LI}(h:∀x∈o,0<=x/\x<n):∀x∈aN n o,0<=x/\x<=n:=λx hx=>by
 grind [aN,jj]
theorem Yi {n:Nat}(o:LI):(aN n o).length<=o.length+1+n:=by
 have:=Cg n o;unfold aN;simp only[vc,YA];lia
def dr (W:Int)(aM:LI):Dv:=.lst ((aM.map (fW W)).map dF)
theorem NV (p:Int×Int):iD (dF p)=true:=rfl
theorem vf (p:Int×Int):dH (dF p)<=1:=aeT (uG λd hd=>by
  obtain rfl|hd:=ff.mp hd
  ·exact br _
  ·rw[BB.mp hd];exact br _)
theorem FC (c:Int):(lT c 1,lB c 1)=(c,1):=by
 have:=CJ (t:=c) (b:=1) 'Q' 'Q' 'Y' rfl;rw[<- this.1,<- this.2]
end
section
abbrev Be:afW:=top 35
theorem Ub:aZ ["_law_script", "_law_k"] ["_law_script", "_law_k"] (aA Be):=sk
def FD:bI:=λdd t=>∃(ns:LI) (k:Int),0<=k/\dd=[dis ns,di k]/\t=ti (eY ns k)
theorem Uc (F:bK K "_law_cell_at" Be f fd)(T:Txt mg):bL P w K mg base k f fd ["_law_script", "_law_k"] FD:=by
 refine bR F.d Ub 'H' λdd t h=>?_
 obtain⟨ns,j,hj,rfl,rfl⟩:=h;by_cases hl:j<ns.length
 ·refine yA (jL (Et.s (pP (ae 1 rfl) (bV T.bS (ae 0 rfl) (.inl rfl)))) ?_ (az (cA (Ev.s (bz (ae 0 rfl) (ae 1 rfl) rfl ?_)))))
  ·simp_all
  ·exact cell_in hj hl
 ·refine ax (dq (Et.s (pP (ae 1 rfl) (bV T.bS (ae 0 rfl) (.inl rfl)))) ?_) ?_
  ·simp_all
  ·grind [cell_out,az,cA,Ev.s,ak]
def d9 (cell:Int):Nat->Int×LI
 |0=>(cell%2147483629+7,[])
 |k+1=>(((d9 cell k).1*(d9 cell k).1+48271*(d9 cell k).1+(0+((k:Nat):Int)))%2147483647,(d9 cell k).2++[((d9 cell k).1*(d9 cell k).1+48271*(d9 cell k).1+(0+((k:Nat):Int)))%2147483647/16])
def cZ (cell:Int)(n:Nat):LI:=(d9 cell n).2
theorem pE (cell:Int):∀k,0<=(d9 cell k).1/\(d9 cell k).1<2147483648/\(d9 cell k).2.length=k
 |0=>by
  show 0<=cell%2147483629+7/\cell%2147483629+7<2147483648/\_;exact⟨'O','O',rfl⟩
 |k+1=>by
  obtain⟨_,_,h⟩:=pE cell k;refine⟨TM _ 'Q',Int.lt_trans (LS _ 'Q') 'Q',?_⟩;show((d9 cell k).2++[_]).length=_;rw[vc,h];rfl
abbrev Bq:afW:=top 36
theorem tZ:aZ ["_law_cell", "_law_many", "_law_drawn_here", "_law_found", "_law_k"] ["_law_cell", "_law_many"] (aA Bq):=sk
def uK:bI:=λdd t=>∃(cell:Int) (n:Nat),n<=100/\dd=[di cell,di n]/\t=aE (cZ cell n)
theorem Up (F:bK K "_law_stream" Bq f fd)(T:Txt mg):bL P w K mg base k f fd ["_law_cell", "_law_many"] uK:=by
 refine bR F.d tZ 'H' λdd t h=>?_
 obtain⟨cell,n,hn,rfl,rfl⟩:=h;have big:=cw;refine ax (aV 2 (Ev.s (eI (dP (ae 0 rfl) ak 'Q') ak)) (λ_=>tZ.nd)) ?_;refine ax (aV 3 (Ev.s (cu ao (zd _))) (λ_=>tZ.nd)) ?_;refine ax (dQ (bb.s (fM T.dW (ae 1 rfl) ⟨'O','O'⟩)) (bp 4 (λ_=>tZ.nd)) (λk=>[some (ti cell),some (ti n),some (ti (d9 cell k).1),some (aE (d9 cell k).2),none]) rfl (λ_=>rfl) (λj d hd=>?_)) ?_
 ·obtain⟨hj,rfl⟩:=mI hd;obtain⟨d0,d1,dl⟩:=pE cell j;have e:d9 cell (j+1)=(((d9 cell j).1*(d9 cell j).1+48271*(d9 cell j).1+(0+((j:Nat))))%2147483647,(d9 cell j).2++[((d9 cell j).1*(d9 cell j).1+48271*(d9 cell j).1+(0+((j))))%2147483647/16]):=rfl;rw[e];generalize d9 cell j=s at d0 d1 dl;obtain⟨x,l⟩:=s;refine⟨_,_,rfl,ax (aV 2 (Ev.s (dP (eI (eI (Lq (ae 2 rfl) (ae 2 rfl) (.inl ⟨'O','O'⟩)) (Lq ak (ae 2 rfl) (.inr ⟨'O','O'⟩))) (ae 4 rfl)) ak 'Q')) (λ_=>tZ.nd))
   (az (jF 3 rfl (Ev.s (hW (ae 2 rfl) ak ⟨'Q',lg 'Q' 'Q'⟩)) (by grind))),[4],?_⟩
  show[_,_,_,some (Tr.ow (_++[_])),_]=[_,_,_,some (Tr.ow _),_]
  simp_all
 ·rw[aa,xy];exact az (kl 3 rfl)
def cN (pQ:LI)(left:LI):Nat->LI×LI
 |0=>(left,[])
 |k+1=>((cN pQ left k).1.eraseIdx ((pQ.getD k 0)%(cN pQ left k).1.length).toNat,(cN pQ left k).2++[(((cN pQ left k).1)[((pQ.getD k 0)%(cN pQ left k).1.length).toNat]?).getD 0])
theorem Cy (sm left:LI):∀k,k<=left.length->((cN sm left k).2++(cN sm left k).1).Perm left/\(cN sm left k).1.length=left.length-k/\(cN sm left k).2.length=k
 |0=>λ_=>⟨.refl _,'X',rfl⟩
 |k+1=>λhk=>by
  obtain⟨h1,h2,h3⟩:=Cy sm left k 'O';have e:cN sm left (k+1)=((cN sm left k).1.eraseIdx ((sm.getD k 0)%(cN sm left k).1.length).toNat,(cN sm left k).2++[(((cN sm left k).1)[((sm.getD k 0)%(cN sm left k).1.length).toNat]?).getD 0]):=rfl;rw[e];generalize cN sm left k=s at *;obtain⟨l,o⟩:=s;generalize sm.getD k 0=c;have hl : 0<l.length:=by grind
  have m1:=LS c (show 0<(l.length:Int) by lia)
  grind [Js]
def mP (cell:Int)(n:Nat):LI:=
 if(cZ (cell/4) (n+2)).getD n 0%3=0 then cutD (cN (cZ (cell/4) (n+2)) (aB n) n).2 none (some ((cZ (cell/4) (n+2)).getD (n+1) 0%((n:Int)+1)))else (cN (cZ (cell/4) (n+2)) (aB n) n).2
theorem jG (n:Nat):(aB n).length=n:=by grind [aB]
theorem Wj (cell:Int)(n:Nat):(mP cell n).Sublist (cN (cZ (cell/4) (n+2)) (aB n) n).2:=by
 unfold mP;split
 ·exact(aeb _ _).trans (afC _ _)
 ·simp_all
theorem W9 (cell:Int)(n:Nat):(mP cell n).Nodup/\∀x∈mP cell n,0<=x/\x<n:=by
 grind [Cy,aB,Wj,xW]
abbrev BF:afW:=top 37
theorem rE:aZ ["_law_cell", "_law_many", "_law_some", "_law_left_here", "_law_order_here", "_law_k"] ["_law_cell", "_law_many"] (aA BF):=sk
def NW:bI:=λdd t=>∃(cell:Int) (n:Nat),n<=6/\dd=[di cell,di n]/\t=aE (mP cell n)
theorem UO (F:bK K "_law_order" BF f fd)(T:Txt mg)(oV:bj P w K mg base k "_law_stream" f1 cL ["_law_cell", "_law_many"] uK):bL P w K mg base (k+1) f fd ["_law_cell", "_law_many"] NW:=by
 refine bR F.d rE 'H' λdd t h=>?_
 obtain⟨cell,n,hn,rfl,rfl⟩:=h;have big:=cw;have sl:(cZ (cell/4) (n+2)).length=n+2:=(pE (cell/4) (n+2)).2.2;have ac0:=Cy (cZ (cell/4) (n+2)) (aB n);have sX:mP cell n=if(cZ (cell/4) (n+2)).getD n 0%3=0 then cutD (cN (cZ (cell/4) (n+2)) (aB n) n).2 none (some ((cZ (cell/4) (n+2)).getD (n+1) 0%((n:Int)+1)))else (cN (cZ (cell/4) (n+2)) (aB n) n).2:=rfl
 generalize mP cell n=res at sX;have acd:[di (cell/4),di ((n:Int)+2)]=[di (cell/4),di ((n+2:Nat):Int)]:=rfl;refine ax (aV 2 (Ev.s (Ev.as (d:=dis (cZ (cell/4) (n+2))) (aW oV (br _) (ah (hW (ae 0 rfl) ak ⟨'Q',lg 'Q' 'Q'⟩) (ah (eI (ae 1 rfl) ak) ao)) ⟨cell/4,n+2,'O',acd,rfl⟩) (bP _))) (λ_=>rE.nd)) ?_;generalize cZ (cell/4) (n+2)=sm at *;have Gu:∀m:Nat,m<n+2->aP (sm.map di) ((m:Nat):Int)=some (di (sm.getD m 0)):=λm hm=>dh (by
  rw[l8,ar 'O',ir,ar 'O'];rfl)
 refine ax (aV 3 (Ev.s (xT T.ic T.dW (ae 1 rfl) 'O' 'O')) (λ_=>rE.nd)) ?_;refine ax (aV 4 (Ev.s (cu ao (zd _))) (λ_=>rE.nd)) ?_;refine ax (dQ (bb.s (fM T.dW (ae 1 rfl) ⟨'O','O'⟩)) (bp 5 (λ_=>rE.nd)) (λk=>[some (ti cell),some (ti n),some (.fz (dis sm)),some (aE (cN sm (aB n) k).1),some (aE (cN sm (aB n) k).2),none]) rfl (λ_=>rfl) (λj d hd=>?_)) ?_
 ·obtain⟨hj,rfl⟩:=mI hd;have oQ:j<n:='O'
  obtain⟨p1,p2,p3⟩:_:=ac0 j (by rw[jG];lia);rw[jG]at p2;have e:cN sm (aB n) (j+1)=((cN sm (aB n) j).1.eraseIdx ((sm.getD j 0)%(cN sm (aB n) j).1.length).toNat,(cN sm (aB n) j).2++[(((cN sm (aB n) j).1)[((sm.getD j 0)%(cN sm (aB n) j).1.length).toNat]?).getD 0]):=rfl;have sj:aP (sm.map di) (0+(j:Int))=some (di (sm.getD j 0)):=by
   have:=Gu j 'O';rwa [adS]
  rw[e];generalize cN sm (aB n) j=s at p1 p2 p3;obtain⟨l,o⟩:=s;generalize sm.getD j 0=c at sj;simp only at p1 p2 p3 ⊢;have hl : 0<(l.length:Int):='O'
  have m0:=TM c (show(l.length:Int)≠0 by lia);have m1:=LS c hl;have el:(fj (l.map λn=>Tr.fz (di n))).length=l.length:=by rw[pD,aa,aa]
  refine⟨_,_,rfl,az (UJ 4 3 (d:=di ((l[(c%l.length).toNat]?).getD 0)) (n:=c%l.length) (m:=(c%l.length).toNat) 'Q' rfl rfl (bO.to (t':=ti (c%l.length)) (Ev.pk (dP (bz (ae 2 rfl) (ae 5 rfl) rfl sj) (bV T.bS (ae 3 rfl) (.inl rfl)) (by rw[el];exact hl)) True.intro) (by rw[el])) ?_ ⟨'O','O'⟩ ?_ ?_),[5],?_⟩
  ·rw[aa];unfold fh;rw[uu m0,uu m1]
  ·rw[l8,ar (show(c%l.length).toNat<l.length by lia)]
   rfl
  ·rw[aa];lia
  ·show[_,_,_,some (Tr.ow (List.eraseIdx _ _)),some (Tr.ow (_++[_])),_]=[_,_,_,some (Tr.ow _),some (Tr.ow _),_]
   rw[B0,Cj]
   rfl
 ·rw[aa,xy,BS];generalize hp:(cN sm (aB n) n).2=pp at sX;have s1:=Gu n 'O';have s2:=Gu (n+1) 'O';have s2':=s2;cases h3:decide (sm.getD n 0%3=0)with
  |true=>
   rw[uu (GS h3)]at sX;refine ax (jL (Et.s (gI (dP (bz (ae 2 rfl) (ae 1 rfl) rfl s1) ak 'Q') ak)) h3 (az (aV 4 (bO.to (t':=aE res) (Ev.pk (ye (ae 4 rfl) (bP pp) De (uF (dP (bz (ae 2 rfl) (eI (ae 1 rfl) ak) rfl s2') (eI (ae 1 rfl) ak) 'O'))) ?_) ?_) (λ_=>rE.nd)))) (az (kl 4 rfl))
   ·rw[yg,nV];exact yz _
   ·rw[yg,nV,sX]
  |false=>
   rw[rf (afp h3)]at sX;rw[sX];exact ax (dq (Et.s (gI (dP (bz (ae 2 rfl) (ae 1 rfl) rfl s1) ak 'Q') ak)) h3) (az (kl 4 rfl))
theorem Yj {l:List α}{x : α}:aP (l++[x]) (-1)=some x:=by
 unfold aP fh;rw[rf 'Q',uu (by simp;lia)];show(l++[x])[_]?=_;have e:(-1+((l++[x]).length:Int)).toNat=l.length:=by grind
 simp_all
theorem eq_nil {α:Type}(f : α->Dv):∀L:List α,bZ (.lst (L.map f)) (.lst [])=L.isEmpty
 |[] => rfl
 |_::_=>rfl
def pR (L:LL):LI:=L.getLast?.getD []
theorem Xa (h:L.isEmpty=false):aP (L.map dis) (-1)=some (dis (pR L)):=by
 obtain rfl|⟨l,x,rfl⟩:=List.eq_nil_or_concat L
 ·cases h
 ·unfold pR;rw[List.map_concat,List.concat_eq_append,Yj,List.concat_eq_append,List.getLast?_append];rfl
theorem Xb (h:L.isEmpty=false):pR L∈L:=by
 obtain rfl|⟨l,x,rfl⟩:=List.eq_nil_or_concat L
 ·cases h
 ·unfold pR
  simp_all
def gq (cells:LI)(n:Nat):Nat->LL
 |0=>[]
 |k+1=>gq cells n k++[if decide (cells.getD k 0%4=0) && !(gq cells n k).isEmpty then pR (gq cells n k)else mP (cells.getD k 0) n]
theorem DC (cells:LI)(n:Nat):∀k,(gq cells n k).length=k/\∀o∈gq cells n k,o.Nodup/\∀x∈o,0<=x/\x<n
 |0=>⟨rfl,λ_ h=>nomatch h⟩
 |k+1=>by
  obtain⟨h1,h2⟩:=DC cells n k;refine⟨by show(gq cells n k++[_]).length=_;rw[vc,h1];rfl,λo ho=>?_⟩;have ju:=ho;obtain z|z:=qr.mp ju
  ·exact h2 o z
  ·rw[BB]at z;subst z;split
   ·rename_i q
    rw[ID]at q;exact h2 _ (Xb (by have:=q.2;revert this;cases (gq cells n k).isEmpty<;>decide))
   ·exact W9 _ _
abbrev Br:afW:=top 38
theorem Bg:aZ ["_law_cells", "_law_many", "_law_orders_here", "_law_cell"] ["_law_cells", "_law_many"] (aA Br):=sk
def LV:bI:=λdd t=>∃(cells:LI) (n:Nat),n<=6/\cells.length<=100/\dd=[dis cells,di n]/\t=ji (gq cells n cells.length)
theorem Uq (F:bK K "_law_orders" Br f fd)(T:Txt mg)(Vk:bj P w K mg base (k+1) "_law_order" f1 cL ["_law_cell", "_law_many"] NW):bL P w K mg base (k+2) f fd ["_law_cells", "_law_many"] LV:=by
 refine bR F.d Bg 'H' λdd t h=>?_
 obtain⟨cells,n,hn,hc,rfl,rfl⟩:=h;have big:=cw;refine ax (aV 2 (Ev.s (cu ao (zd _))) (λ_=>Bg.nd)) ?_;refine ax (dQ (bb.s (cm (ae 0 rfl) rfl)) (bp 3 (λ_=>Bg.nd)) (λk=>[some (.fz (dis cells)),some (ti n),some (ji (gq cells n k)),none]) rfl (λ_=>rfl) (λj d hd=>?_)) ?_
 ·obtain⟨c,hcj,rfl⟩:=gF hd;have ec:cells.getD j 0=c:='J'
  obtain⟨l1,l2⟩:=DC cells n j;have e:gq cells n (j+1)=gq cells n j++[if decide (cells.getD j 0%4=0) && !(gq cells n j).isEmpty then pR (gq cells n j)else mP (cells.getD j 0) n]:=rfl;rw[e,ec];generalize gq cells n j=L at l1 l2;have fin:∀o,some (ji (L++[o]))=some (.ow (L.map aE++[aE o])):=λo=>by
   simp_all
  rw[fin];have hz:(L.map aE).length<sizeLine:=by grind
  have RD:dH (er (ji L))<=50:=by grind [nP,Kh]
  cases hq:decide (c%4=0) && !L.isEmpty with
  |true=>
   have hL:L.isEmpty=false:=by
    lia
   refine⟨_,_,rfl,az (jL (Et.pk (Ew.et (oe (gI (dP (ae 3 rfl) ak 'Q') ak) λ_=>(nS (iM (ae 2 rfl) (cu ao (zd _)) ?_ RD))))) ?_ (az (jF 2 rfl (bO.to (t':=aE (pR L)) (Ev.pk (nT T.ic (bz (ae 2 rfl) (yS ak) (nP L) (Xa hL)) (.inl rfl)) (by rw[nV];exact yz _)) 'J') hz))),[3],rfl⟩
   ·exact .inl ⟨_,_,rfl,rfl⟩
   ·grind [er,nP,eq_nil]
  |false=>
   refine⟨_,_,rfl,az (uY (Et.pk (Ew.et (oe (gI (dP (ae 3 rfl) ak 'Q') ak) λ_=>(nS (iM (ae 2 rfl) (cu ao (zd _)) ?_ RD))))) ?_ (az (jF 2 rfl (Ev.s (aW Vk (br _) (ah (ae 3 rfl) (ah (ae 1 rfl) ao)) ⟨c,n,hn,rfl,rfl⟩)) hz))),[3],rfl⟩
   ·exact .inl ⟨_,_,rfl,rfl⟩
   ·rw[<- hq,nP L];show(_ && !bZ (.lst (L.map dis)) (.lst []))=_;rw[eq_nil]
 ·rw[aa];exact az (kl 2 rfl)
def lU (x:Int):Int:=([1,1,0,2,1,3,1,x/8%10]:LI).getD (x%8).toNat 0
theorem Z1 (x:Int):aP ([1,1,0,2,1,3,1,x/8%10].map di) (x%8)=some (di (lU x)):=by
 unfold lU;obtain⟨m,hm⟩:∃m:Nat,x%8=(m):=⟨(x%8).toNat,'O'⟩
 rw[hm,BS];have:m<8:='O'
 refine dh ?_;rw[l8,ir,ar (this)];rfl
theorem Z2 (x:Int) : 0<=lU x/\lU x<=9:=by
 have c:=TM (x/8) (show(10)≠0 by decide);have d:=LS (x/8) (show(0)<10 by decide);unfold lU;obtain⟨m,hm⟩:∃m:Nat,x%8=(m):=⟨(x%8).toNat,'O'⟩
 rw[hm,BS];generalize x/8%10=y at c d;have:m=0\/m=1\/m=2\/m=3\/m=4\/m=5\/m=6\/m=7:='O'
 obtain rfl|rfl|rfl|rfl|rfl|rfl|rfl|rfl:=this<;>first|exact⟨show(0)<=1 by decide,show(1)<=9 by decide⟩|exact⟨show(0:Int)<=0 by decide,show(0)<=9 by decide⟩|exact⟨show(0:Int)<=2 by decide,show(2)<=9 by decide⟩|exact⟨show(0)<=3 by decide,show(3)<=9 by decide⟩|exact⟨c,show y<=9 by lia⟩
abbrev Bs:afW:=top 39
theorem Bh:aZ ["_law_cell", "_law_many", "_law_found", "_law_one"] ["_law_cell", "_law_many"] (aA Bs):=sk
def DE (cell:Int)(n:Nat):LI:=(cZ cell n).map lU
def LW:bI:=λdd t=>∃(cell:Int) (n:Nat),n<=100/\dd=[di cell,di n]/\t=aE (DE cell n)
theorem Ur (F:bK K "_law_counts" Bs f fd)(T:Txt mg)(oV:bj P w K mg base k "_law_stream" f1 cL ["_law_cell", "_law_many"] uK):bL P w K mg base (k+1) f fd ["_law_cell", "_law_many"] LW:=by
 refine bR F.d Bh 'H' λdd t h=>?_
 obtain⟨cell,n,hn,rfl,rfl⟩:=h;have big:=cw;have sl:(cZ cell n).length=n:=(pE cell n).2.2;refine ax (aV 2 (Ev.s (cu ao (zd _))) (λ_=>Bh.nd)) ?_;refine ax (dQ (bb.s (cm (aW oV (br _) (ah (ae 0 rfl) (ah (ae 1 rfl) ao)) ⟨cell,n,hn,rfl,rfl⟩) (bP _))) (bp 3 (λ_=>Bh.nd)) (λk=>[some (ti cell),some (ti n),some (aE (((cZ cell n).map lU).take k)),none]) rfl (λ_=>rfl) (λj d hd=>?_)) ?_
 ·obtain⟨x,hx,rfl⟩:=gF hd;have kI:((cZ cell n).map lU)[j]?=some (lU x):=by rw[l8,hx];rfl
  have hl:(((cZ cell n).map lU).take j).length<=100:=by rw[LB,aa];lia
  rw[kg kI];refine⟨_,_,rfl,az (jF 2 rfl (Ev.s (bz (cu (ah ak (ah ak (ah ak (ah ak (ah ak (ah ak (ah ak (ah (dP (hW (ae 3 rfl) ak ⟨'Q',lg 'Q' 'Q'⟩) ak 'Q') ao)))))))) (by show 8<=sizeLine;decide)) (dP (ae 3 rfl) ak 'Q') rfl (Z1 x))) (by rw[aa];lia)),[3],?_⟩;show[_,_,some (Tr.ow (_++[_])),_]=[_,_,some (Tr.ow _),_]
  rw[B0];rfl
 ·rw[aa,List.take_of_length_le (by rw[aa];exact br _)];exact az (kl 2 rfl)
end
section
abbrev Bi:afW:=top 40
theorem IY:aZ ["_law_one", "_law_other"] ["_law_one", "_law_other"] (aA Bi):=sk
def Kx:bI:=λdd t=>∃a b:Int,0<=a/\0<=b/\dd=[di a,di b]/\t=ti (gc a b)
theorem Ud (F:bK K "_law_divisor" Bi f fd)(T:Txt mg):bL P w K mg base k f fd ["_law_one", "_law_other"] Kx:=by
 refine bR F.d IY 'H' λdd t h=>?_
 obtain⟨a,b,ha,hb,rfl,rfl⟩:=h;refine xS (λp:Int×Int=>[some (ti p.1),some (ti p.2)]) (λp=>0<=p.1/\0<=p.2/\gc p.1 p.2=gc a b) (λp=>decide (0<p.2)) (λp=>p.2.toNat) (a,b) rfl ⟨ha,hb,rfl⟩ (λp hp=>Et.s (lH (ae 1 rfl) ak)) (λp hp h=>?_) (λp hp h=>?_)
 ·obtain⟨x,y⟩:=p;obtain⟨h1,h2,h3⟩:=hp;have hy : 0<y:='J'
  have l1:=LS x hy;have l2:=TM x (show y≠0 by lia);refine⟨(y,x%y),⟨h2,l2,?_⟩,?_,az (aaW 0 1 (Ev.s (ae 1 rfl)) (Ev.s (dP (ae 0 rfl) (ae 1 rfl) hy)) (λ_=>IY.nd))⟩
  ·rw[Ln];exact h3
  ·lia
 ·obtain⟨x,y⟩:=p;obtain⟨h1,h2,h3⟩:=hp;have hy0:y=0:=by
   lia
  have h3':=h3;have e:gc a b=x:=by grind [Lk]
  rw[e];exact az (cA (Ev.s (ae 0 rfl)))
abbrev Bt:afW:=top 41
theorem Jc:aZ ["_law_top", "_law_bottom", "_law_by"] ["_law_top", "_law_bottom"] (aA Bt):=sk
theorem Us (F:bK K "_law_lowest" Bt f fd)(T:Txt mg)(Ut:bj P w K mg base k "_law_divisor" f1 cL ["_law_one", "_law_other"] Kx):bL P w K mg base (k+1) f fd ["_law_top", "_law_bottom"] lK:=by
 refine bR F.d Jc 'H' λdd t h=>?_
 obtain⟨a,b,hb,hz,rfl,rfl⟩:_:=h;have ha : 0<=(if a<0 then -a else a):='O'
 have eg:gc (if a<0 then -a else a) b=gc a b:=by
  rw[show(if a<0 then -a else a)=(a.natAbs) by lia]
  rfl
 have gp:=sr (a:=a) (show b≠0 by lia);have gl:=Dh (a:=a) hb;refine ax (aV 2 (bO.to (t':=ti (gc a b)) (Ev.s (aW Ut (br _) (ah (Ea T.Fx (ae 0 rfl)) (ah (ae 1 rfl) ao)) ⟨_,b,ha,'O',rfl,rfl⟩)) (by rw[eg])) (λ_=>Jc.nd)) ?_;have cd:∀i,vj i (gc a b):=λi=>⟨gp,LP 'O' hz⟩
 refine az (cA (Ev.s (kj (ah (hW (ae 0 rfl) (ae 2 rfl) (cd _)) (ah (hW (ae 1 rfl) (ae 2 rfl) (cd _)) ao)) ?_ (by show 2<=sizeLine;decide))));show[di (a/gc a b),di (b/gc a b)]=_;rw[M6 hb,M9 hb]
theorem Aa (l:LI)(m:Nat)(v:Int):(l.map λn=>Tr.fz (di n)).set m (ti v)=(l.set m v).map λn=>Tr.fz (di n):='J'
theorem qj {l:LI}{x:Int}(x0 : 0<=x)(x1:x<l.length):aP (l.map di) x=some (di (l.getD x.toNat 0)):=by
 obtain⟨m,rfl⟩:∃m:Nat,x=(m):=⟨x.toNat,'O'⟩
 refine dh ?_;rw[l8,ir,BS,ar 'O'];rfl
theorem xh {n:Nat}{x:Int}(x0 : 0<=x)(x1:x<n):fh n x=some x.toNat:=by grind [fh]
def kB (sm:LI)(n A k:Nat)(s:LI×LI):LI×LI:=
 if decide (sm.getD k 0%((n:Int)+1)<n)&&decide (0<s.1.getD (sm.getD k 0%((n:Int)+1)).toNat 0)then (s.1.set (sm.getD k 0%((n:Int)+1)).toNat (s.1.getD (sm.getD k 0%((n:Int)+1)).toNat 0-1),s.2.set (((0:Int)+(k:Int)+sm.getD A 0)%A).toNat (sm.getD k 0%((n:Int)+1)))else s
def ip (sm:LI)(c:LI)(A:Nat):Nat->LI×LI
 |0=>(c,(aB A).map λ_=>(c.length:Int))
 |k+1=>kB sm c.length A k (ip sm c A k)
theorem yD (sm c:LI)(A:Nat):∀k,(ip sm c A k).1.length=c.length/\(ip sm c A k).2.length=A/\∀x∈(ip sm c A k).2,0<=x/\x<=c.length
 |0=>⟨rfl,by show((aB A).map _).length=A;rw[aa,jG],λx hx=>by
  obtain⟨_,_,rfl⟩:=i8.mp hx;lia⟩
 |k+1=>by
  obtain⟨h1,h2,h3⟩:=yD sm c A k;show(kB sm c.length A k (ip sm c A k)).1.length=_/\(kB sm c.length A k (ip sm c A k)).2.length=_/\∀x∈(kB sm c.length A k (ip sm c A k)).2,_;have a:=TM (sm.getD k 0) (show(c.length:Int)+1≠0 by lia);have b:=LS (sm.getD k 0) (show 0<(c.length:Int)+1 by lia);unfold kB;split
  ·refine⟨by rw[SI];exact h1,by rw[SI];exact h2,λx hx=>?_⟩;obtain z|z:=WI hx
   ·exact h3 x z
   ·lia
  ·exact⟨h1,h2,h3⟩
def qk (cell:Int)(c:LI)(A:Nat):LI:=(ip (cZ (cell/4) (A+1)) c A A).2
abbrev Ba:afW:=top 43
theorem rz:aZ ["_law_cell", "_law_counts_here", "_law_askers", "_law_some", "_law_left_here", "_law_deal", "_law_k", "_law_want"] ["_law_cell", "_law_counts_here", "_law_askers"] (aA Ba):=sk
def Pn:bI:=λdd t=>∃(cell:Int) (c:LI) (A:Nat),c.length<=6/\1<=A/\A<=6/\dd=[di cell,dis c,di A]/\t=aE (qk cell c A)
theorem T3 (F:bK K "_law_any_deal" Ba f fd)(T:Txt mg)(oV:bj P w K mg base k "_law_stream" f1 cL ["_law_cell", "_law_many"] uK):bL P w K mg base (k+1) f fd ["_law_cell", "_law_counts_here", "_law_askers"] Pn:=by
 refine bR F.d rz 'H' λdd t h=>?_
 obtain⟨cell,c,A,c6,a1,a6,rfl,rfl⟩:=h;have big:=cw;unfold qk;have sl:(cZ (cell/4) (A+1)).length=A+1:=(pE _ _).2.2;refine ax (aV 3 (Ev.s (Ev.as (d:=dis (cZ (cell/4) (A+1))) (aW oV (br _) (ah (hW (ae 0 rfl) ak ⟨'Q',lg 'Q' 'Q'⟩) (ah (eI (ae 2 rfl) ak) ao)) ⟨cell/4,A+1,'O',rfl,rfl⟩) (bP _))) (λ_=>rz.nd)) ?_;generalize cZ (cell/4) (A+1)=sm at sl;refine ax (aV 4 (bO.to (t':=aE c) (Ev.s (nT T.ic (ae 1 rfl) (.inl rfl))) (by rw[nV])) (λ_=>rz.nd)) ?_;refine ax (so 5 (vP (gD.to (t':=aE ((aB A).map λ_=>(c.length:Int))) (zX (own:=["_law_k"]) (fr:=[1]) (aB A) di (λ_=>ti c.length) (bb.to (fM T.dW (ae 2 rfl) ⟨'O','O'⟩) ?_) (bp 0 (λ_=>bH)) 'Q' (by rw[jG];lia) (λx hx=>⟨_,rfl,by exact Ev.to (bV T.bS (ae 1 rfl) (.inl rfl)) (by rw[aa])⟩) (λdd=>by cases dd<;>rfl)) ?_)) (λi=>cg) (λ_=>rz.nd)) ?_
 ·rw[BS];unfold aB;rw[gz];rfl
 ·show Tr.ow _=Tr.ow _;rw[gz];rfl
 have lV:(((c.map di).length:Nat):Int)=c.length:=by rw[aa]
 refine ax (dQ (bb.s (fM T.dW (ae 2 rfl) ⟨'O','O'⟩)) (bp 6 (λ_=>rz.nd)) (λk=>[some (ti cell),some (.fz (dis c)),some (ti A),some (.fz (dis sm)),some (aE (ip sm c A k).1),some (aE (ip sm c A k).2),none,none]) rfl (λ_=>rfl) (λj d hd=>?_)) ?_
 ·obtain⟨hj,rfl⟩:=mI hd;rw[BS]at hj;obtain⟨h1,h2,h3⟩:=yD sm c A j;have e:ip sm c A (j+1)=kB sm c.length A j (ip sm c A j):=rfl;rw[e];generalize ip sm c A j=s at h1 h2 h3;obtain⟨left,eQ⟩:=s;simp only at h1 h2 h3 ⊢;have sA:aP (sm.map di) (A:Int)=some (di (sm.getD A 0)):=by
   have:=qj (l:=sm) (x:=(A:Int)) 'O' 'O';rwa [BS]at this
  have sj:aP (sm.map di) (0+(j:Int))=some (di (sm.getD j 0)):=by
   have:=qj (l:=sm) (x:=(j:Int)) 'O' 'O';rw[BS]at this;rwa [adS]
  have ma:=TM (0+(j:Int)+sm.getD A 0) (show(A:Int)≠0 by lia);have mb:=LS (0+(j:Int)+sm.getD A 0) (show 0<(A:Int) by lia);have r0:=TM (sm.getD j 0) (show(c.length:Int)+1≠0 by lia);have r1:=LS (sm.getD j 0) (show 0<(c.length:Int)+1 by lia);have hl:∀x:Int,0<=x->x<c.length->aP (left.map di) x=some (di (left.getD x.toNat 0)):=λx x0 x1=>qj x0 'O'
  have eT:kB sm c.length A j (left,eQ)=if decide (sm.getD j 0%((c.length:Int)+1)<c.length)&&decide (0<left.getD (sm.getD j 0%((c.length:Int)+1)).toNat 0)then (left.set (sm.getD j 0%((c.length:Int)+1)).toNat (left.getD (sm.getD j 0%((c.length:Int)+1)).toNat 0-1),eQ.set (((0:Int)+(j:Int)+sm.getD A 0)%A).toNat (sm.getD j 0%((c.length:Int)+1)))else (left,eQ):=rfl
  refine⟨_,[some (ti cell),some (.fz (dis c)),some (ti A),some (.fz (dis sm)),some (aE (kB sm c.length A j (left,eQ)).1),some (aE (kB sm c.length A j (left,eQ)).2),some (ti (0+(j:Int))),some (ti (sm.getD j 0%((c.length:Int)+1)))],rfl,?_,[6,7],rfl⟩;refine ax (aV 7 (bO.to (t':=ti (sm.getD j 0%((c.length:Int)+1))) (Ev.s (dP (bz (ae 3 rfl) (ae 6 rfl) rfl sj) (eI (bV T.bS (ae 1 rfl) (.inl rfl)) ak) 'O')) (by rw[lV])) (λ_=>rz.nd)) ?_;generalize sm.getD j 0%((c.length:Int)+1)=x at r0 r1 eT;have RE:decide (x<(((c.map di).length:Nat):Int))=decide (x<(c.length:Int)):=by rw[lV]
  cases hq:decide (x<c.length)&&decide (0<left.getD x.toNat 0)with
  |true=>
   rw[hq,uu rfl]at eT;rw[eT];have xl:x<c.length:=by rw[ID]at hq;exact GS hq.1
   refine az (jL (Et.pk (Ew.et (oe (pP (ae 7 rfl) (bV T.bS (ae 1 rfl) (.inl rfl))) λhp=>(nS (lH (bz (d:=di (left.getD x.toNat 0)) (ae 4 rfl) (ae 7 rfl) (bP left) (hl x r0 (by have:=GS hp;lia))) ak))))) (by rw[RE];exact hq) (ax (yh 4 (n:=x) (m:=x.toNat) rfl (Ev.s (ae 7 rfl)) (xh r0 (by rw[aa];lia)) (Ev.pk (D0 (bz (ae 4 rfl) (ae 7 rfl) (bP left) (hl x r0 xl)) ak) True.intro) (hps:=λi=>nY (pv 4) (dJ i) set_list)) ?_));rw[Aa];refine ax (yh 5 (n:=(0+(j:Int)+sm.getD A 0)%A) rfl (Ev.s (dP (eI (ae 6 rfl) (bz (ae 3 rfl) (ae 2 rfl) rfl sA)) (ae 2 rfl) 'O')) (xh ma (by rw[aa];lia)) (Ev.s (ae 7 rfl)) (hps:=λi=>nY (pv 5) (dJ i) set_list)) ?_;rw[Aa];exact nU
  |false=>
   rw[hq,rf 'Q']at eT;rw[eT];exact az (dq (Et.pk (Ew.et (oe (pP (ae 7 rfl) (bV T.bS (ae 1 rfl) (.inl rfl))) λhp=>(nS (lH (bz (d:=di (left.getD x.toNat 0)) (ae 4 rfl) (ae 7 rfl) (bP left) (hl x r0 (by have:=GS hp;lia))) ak))))) (by rw[RE];exact hq))
 ·rw[aa,xy,BS];exact az (kl 5 rfl)
def gH (n:Nat)(a:Int)(s:LI×LI)(x:Int):LI×LI:=
 if decide (s.2.getD a.toNat 0=(n:Int))&&decide (0<s.1.getD x.toNat 0)then (s.1.set x.toNat (s.1.getD x.toNat 0-1),s.2.set a.toNat x)else s
def kC (os:LL)(cell a:Int):LI:=if decide (cell%4=3)then (aP os (a-1)).getD []else (aP os a).getD []
def cF (sm:LI)(cell:Int)(c:LI)(os:LL):Nat->LI×LI×LI
 |0=>(aB os.length,c,os.map λ_=>(c.length:Int))
 |k+1=>((cF sm cell c os k).1.eraseIdx (sm.getD k 0%((cF sm cell c os k).1.length:Int)).toNat,
   (kC os cell ((cF sm cell c os k).1.getD (sm.getD k 0%((cF sm cell c os k).1.length:Int)).toNat 0)).foldl (gH c.length ((cF sm cell c os k).1.getD (sm.getD k 0%((cF sm cell c os k).1.length:Int)).toNat 0)) (cF sm cell c os k).2)
structure sD (n A:Nat) (s:LI×LI):Prop where
 l:s.1.length=n
 d:s.2.length=A
 r:∀x∈s.2,0<=x/\x<=(n:Int)
theorem Yk {x:Int}(h:sD n A s)(x0 : 0<=x)(x1:x<n):sD n A (gH n a s x):=by
 unfold gH;split
 ·refine⟨by rw[SI];exact h.l,by rw[SI];exact h.d,λy hy=>?_⟩;obtain z|z:=WI hy
  ·exact h.r y z
  ·omega
 ·exact h
theorem Cz:∀{l:LI} {s:LI×LI},sD n A s->(∀x∈l,0<=x/\x<(n:Int))->sD n A (l.foldl (gH n a) s)
 |[],_,h,_=>h
 |x::l,s,h,hl=>Cz (l:=l) (Yk h (hl x (.head _)).1 (hl x (.head _)).2) λy hy=>hl y (.tail _ hy)
theorem Z3 {l:List α}{x : α}(h:aP l k=some x):x∈l:=by
 unfold aP at h;cases q:fh l.length k with
 |none=>rw[q]at h;cases h
 |some j=>rw[q]at h;exact ba h
theorem Ey {os:LL}{n:Nat}(h:∀o∈os,∀x∈o,0<=x/\x<(n:Int))(cell a:Int):∀x∈kC os cell a,0<=x/\x<(n:Int):=by
 unfold kC;have gen:∀k,∀x∈(aP os k).getD [],0<=x/\x<(n):=λk x hx=>by
  cases q:aP os k with
  |none=>rw[q]at hx;cases hx
  |some o=>rw[q]at hx;exact h o (Z3 q) x hx
 split
 ·exact gen _
 ·exact gen _
theorem yj (sm:LI)(cell:Int){os:LL}(h:∀o∈os,∀x∈o,0<=x/\x<(c.length:Int)):∀k,k<=os.length->(cF sm cell c os k).1.length=os.length-k/\(cF sm cell c os k).1.Sublist (aB os.length)/\sD c.length os.length (cF sm cell c os k).2
 |0=>λ_=>⟨jG _,.refl _,rfl,by show(os.map _).length=_;rw[aa],λx hx=>by
  obtain⟨_,_,rfl⟩:=i8.mp hx;lia⟩
 |k+1=>λhk=>by
  obtain⟨h1,h2,h3⟩:=yj sm cell h k 'O';have e:cF sm cell c os (k+1)=((cF sm cell c os k).1.eraseIdx (sm.getD k 0%((cF sm cell c os k).1.length)).toNat,
   (kC os cell ((cF sm cell c os k).1.getD (sm.getD k 0%((cF sm cell c os k).1.length:Int)).toNat 0)).foldl (gH c.length ((cF sm cell c os k).1.getD (sm.getD k 0%((cF sm cell c os k).1.length)).toNat 0)) (cF sm cell c os k).2):=rfl
  rw[e];generalize cF sm cell c os k=s at h1 h2 h3;obtain⟨l,s2⟩:=s;simp only at h1 h2 h3 ⊢;have b:=LS (sm.getD k 0) (show 0<(l.length:Int) by lia);refine⟨?_,(List.eraseIdx_sublist _ _).trans h2,Cz h3 (Ey h _ _)⟩
  grind
def pS (cell:Int)(c:LI)(os:LL):LI:=(cF (cZ (cell/4) (os.length+1)) cell c os os.length).2.2
abbrev A8:afW:=top 42
theorem k6:aZ ["_law_cell", "_law_counts_here", "_law_orders_here", "_law_some", "_law_askers", "_law_left_here", "_law_deal", "_law_k", "_law_asker", "_law_own", "_law_thing"] ["_law_cell", "_law_counts_here", "_law_orders_here"] (aA A8):=sk
def NX:bI:=λdd t=>∃(cell:Int) (c:LI) (os:LL),dX c os/\dd=[di cell,dis c,.lst (os.map dis)]/\t=aE (pS cell c os)
theorem T1 (F:bK K "_law_turn_deal" A8 f fd)(T:Txt mg)(oV:bj P w K mg base k "_law_stream" f1 cL ["_law_cell", "_law_many"] uK):bL P w K mg base (k+1) f fd ["_law_cell", "_law_counts_here", "_law_orders_here"] NX:=by
 refine bR F.d k6 'H' λdd t h=>?_
 obtain⟨cell,c,os,ok,rfl,rfl⟩:=h;have big:=cw;have c6:=ok.c6;have o6:=ok.o6;have o1:=ok.o1;unfold pS;have sl:(cZ (cell/4) (os.length+1)).length=os.length+1:=(pE _ _).2.2;have gN:(((os.map dis).length:Nat):Int)=os.length:=by rw[aa]
 have lV:(((c.map di).length:Nat):Int)=c.length:=by rw[aa]
 refine ax (aV 3 (Ev.s (Ev.as (d:=dis (cZ (cell/4) (os.length+1))) (aW oV (br _) (ah (hW (ae 0 rfl) ak ⟨'Q',lg 'Q' 'Q'⟩) (ah (eI (bV T.bS (ae 2 rfl) (.inl rfl)) ak) ao)) ⟨cell/4,os.length+1,'O',by rw[gN];rfl,rfl⟩) (bP _))) (λ_=>k6.nd)) ?_;generalize cZ (cell/4) (os.length+1)=sm at sl;refine ax (aV 4 (bO.to (t':=aE (aB os.length)) (Ev.s (xT T.ic T.dW (bV T.bS (ae 2 rfl) (.inl rfl)) (by rw[gN];lia) (by rw[gN];lia))) (by rw[gN,BS];rfl)) (λ_=>k6.nd)) ?_;refine ax (aV 5 (bO.to (t':=aE c) (Ev.s (nT T.ic (ae 1 rfl) (.inl rfl))) (by rw[nV])) (λ_=>k6.nd)) ?_;refine ax (so 6 (vP (gD.to (t':=aE (os.map λ_=>(c.length:Int))) (zX (own:=["_law_order_here"]) (fr:=[1]) os dis (λ_=>ti c.length) (cm (ae 2 rfl) rfl) (bp 0 (λ_=>bH)) 'Q' 'O' (λx hx=>⟨_,rfl,by exact Ev.to (bV T.bS (ae 1 rfl) (.inl rfl)) (by rw[aa])⟩) (λdd=>by cases dd<;>rfl)) ?_)) (λi=>cg) (λ_=>k6.nd)) ?_
 ·show Tr.ow _=Tr.ow _;rw[gz];rfl
 refine ax (dQ (its:=jo 0 os.length) (bb.s (bb.to (fM T.dW (bV T.bS (ae 2 rfl) (.inl rfl)) (by rw[gN];lia)) (by rw[gN,BS]))) (bp 7 (λ_=>k6.nd)) (λk=>[some (ti cell),some (.fz (dis c)),some (.fz (.lst (os.map dis))),some (.fz (dis sm)),some (aE (cF sm cell c os k).1),some (aE (cF sm cell c os k).2.1),some (aE (cF sm cell c os k).2.2),none,none,none,none]) rfl (λ_=>rfl) (λj d hd=>?_)) ?_
 ·obtain⟨hj,rfl⟩:=mI hd;obtain⟨h1,h2,h3⟩:=yj sm cell ok.bT j 'O';have e:cF sm cell c os (j+1)=((cF sm cell c os j).1.eraseIdx (sm.getD j 0%((cF sm cell c os j).1.length:Int)).toNat,
   (kC os cell ((cF sm cell c os j).1.getD (sm.getD j 0%((cF sm cell c os j).1.length:Int)).toNat 0)).foldl (gH c.length ((cF sm cell c os j).1.getD (sm.getD j 0%((cF sm cell c os j).1.length:Int)).toNat 0)) (cF sm cell c os j).2):=rfl
  rw[e];generalize cF sm cell c os j=s at h1 h2 h3;obtain⟨l,s2⟩:=s;simp only at h1 h2 h3 ⊢;have sj:aP (sm.map di) (0+(j:Int))=some (di (sm.getD j 0)):=by
   have:=qj (l:=sm) (x:=(j:Int)) 'O' 'O';rw[BS]at this;rwa [adS]
  generalize sm.getD j 0=y at sj;have m0:=TM y (show(l.length:Int)≠0 by lia);have m1:=LS y (show 0<(l.length:Int) by lia);have tR:(y%(l.length:Int)).toNat<l.length:='O'
  have AI : 0<=l.getD (y%(l.length:Int)).toNat 0/\l.getD (y%(l.length:Int)).toNat 0<os.length:=by
   rw[ir,ar tR];exact CT.mp (h2.subset (ad1 tR))
  have Gv:(l.map λn=>Tr.fz (di n))[(y%(l.length:Int)).toNat]?=some (.fz (di (l.getD (y%(l.length:Int)).toNat 0))):=by
   rw[l8,ir,ar tR];rfl
  have el:(fj (l.map λn=>Tr.fz (di n))).length=l.length:=by rw[pD,aa,aa]
  generalize hm:(y%(l.length:Int)).toNat=m at AI Gv tR;generalize l.getD m 0=a at AI Gv;refine⟨_,[some (ti cell),some (.fz (dis c)),some (.fz (.lst (os.map dis))),some (.fz (dis sm)),some (aE (l.eraseIdx m)),some (aE ((kC os cell a).foldl (gH c.length a) s2).1),some (aE ((kC os cell a).foldl (gH c.length a) s2).2),some (ti (0+(j:Int))),some (ti a),some (.fz (dis (kC os cell a))),none],rfl,?_,[7,8,9],rfl⟩;refine ax (V3 8 4 (n:=y%(l.length:Int)) (m:=m) (d:=di a) 'Q' rfl (bO.to (t':=ti (y%(l.length:Int))) (Ev.pk (dP (bz (ae 3 rfl) (ae 7 rfl) rfl sj) (bV T.bS (ae 4 rfl) (.inl rfl)) (by rw[el];lia)) True.intro) (by rw[el])) (by rw[aa,<- hm];exact xh m0 m1) ⟨'O','O'⟩ Gv (λ_=>k6.nd)) ?_;rw[Cj];have RF:∀k:Int,-(os.length:Int)<=k->k<os.length->aP os k=some ((aP os k).getD []):=λk k0 k1=>by
   unfold aP fh;by_cases z : 0<=k
   ·rw[uu z,uu k1];show os[_]?=some ((os[_]?).getD []);rw[ar (show k.toNat<os.length by lia)];rfl
   ·rw[rf z,uu k0];show os[_]?=some ((os[_]?).getD []);rw[ar (show(k+os.length).toNat<os.length by lia)];rfl
  refine ax (aV 9 (Ev.s (bz (d:=dis ((aP os a).getD [])) (ae 2 rfl) (ae 8 rfl) rfl (DA dis (RF a 'O' 'O')))) (λ_=>k6.nd)) ?_;refine ax (ρ1:=[some (ti cell),some (.fz (dis c)),some (.fz (.lst (os.map dis))),some (.fz (dis sm)),some (aE (l.eraseIdx m)),some (aE s2.1),some (aE s2.2),some (ti (0+(j:Int))),some (ti a),some (.fz (dis (kC os cell a))),none]) ?_ ?_
  ·have eO:kC os cell a=if decide (cell%4=3)then (aP os (a-1)).getD []else (aP os a).getD []:=rfl
   cases hq:decide (cell%4=3)with
   |true=>
    rw[hq,uu rfl]at eO;rw[eO];exact jL (Et.s (gI (dP (ae 0 rfl) ak 'Q') ak)) hq (az (aV 9 (Ev.s (bz (d:=dis ((aP os (a-1)).getD [])) (ae 2 rfl) (D0 (ae 8 rfl) ak) rfl (DA dis (RF (a-1) 'O' 'O')))) (λ_=>k6.nd)))
   |false=>
    rw[hq,rf 'Q']at eO;rw[eO];exact dq (Et.s (gI (dP (ae 0 rfl) ak 'Q') ak)) hq
  have ow:=Ey ok.bT cell a;generalize kC os cell a=own at ow;refine az (Rn.to (dQ (bb.s (cm (ae 9 rfl) rfl)) (bp 10 (λ_=>k6.nd)) (λi=>[some (ti cell),some (.fz (dis c)),some (.fz (.lst (os.map dis))),some (.fz (dis sm)),some (aE (l.eraseIdx m)),some (aE ((own.take i).foldl (gH c.length a) s2).1),some (aE ((own.take i).foldl (gH c.length a) s2).2),some (ti (0+(j:Int))),some (ti a),some (.fz (dis own)),none]) rfl (λ_=>rfl) (λi d hd=>?_)) ?_)
  ·obtain⟨x,hx,rfl⟩:=gF hd;obtain⟨x0,x1⟩:=ow x (ba hx);have dk:sD c.length os.length ((own.take i).foldl (gH c.length a) s2):=Cz h3 λz hz=>ow z (EM hz)
   rw[kg hx,List.foldl_append];generalize (own.take i).foldl (gH c.length a) s2=s at dk;obtain⟨left,eQ⟩:=s;have d1:left.length=c.length:=dk.l;have d2:eQ.length=os.length:=dk.d;show ∃dd i5,_/\bE _ _ _ _/\Fg _ [_,_,_,_,_,some (aE (gH c.length a (left,eQ) x).1),some (aE (gH c.length a (left,eQ) x).2),_,_,_,_];have eT:gH c.length a (left,eQ) x=if decide (eQ.getD a.toNat 0=(c.length:Int))&&decide (0<left.getD x.toNat 0)then (left.set x.toNat (left.getD x.toNat 0-1),eQ.set a.toNat x)else (left,eQ):=rfl
   have RG:aP (eQ.map di) a=some (di (eQ.getD a.toNat 0)):=qj AI.1 'O';have HS:aP (left.map di) x=some (di (left.getD x.toNat 0)):=qj x0 'O';have RH:decide (eQ.getD a.toNat 0=(((c.map di).length:Nat):Int))=decide (eQ.getD a.toNat 0=(c.length:Int)):=by rw[lV]
   cases hq:decide (eQ.getD a.toNat 0=(c.length:Int))&&decide (0<left.getD x.toNat 0)with
   |true=>
    rw[hq,uu rfl]at eT;rw[eT];refine⟨_,[some (ti cell),some (.fz (dis c)),some (.fz (.lst (os.map dis))),some (.fz (dis sm)),some (aE (l.eraseIdx m)),some (aE (left.set x.toNat (left.getD x.toNat 0-1))),some (aE (eQ.set a.toNat x)),some (ti (0+(j:Int))),some (ti a),some (.fz (dis own)),some (ti x)],rfl,?_,[10],rfl⟩;refine az (jL (Et.pk (Ew.et (oe (gI (bz (ae 6 rfl) (ae 8 rfl) (bP eQ) RG) (bV T.bS (ae 1 rfl) (.inl rfl))) λhp=>(nS (lH (bz (ae 5 rfl) (ae 10 rfl) (bP left) HS) ak))))) (by rw[RH];exact hq) (ax (yh 5 (n:=x) (m:=x.toNat) rfl (Ev.s (ae 10 rfl)) (xh x0 (by rw[aa];show x<(left.length:Int);lia)) (Ev.pk (D0 (bz (ae 5 rfl) (ae 10 rfl) (bP left) HS) ak) True.intro) (hps:=λi=>nY (pv 5) (dJ i) set_list)) ?_));rw[Aa];refine ax (yh 6 (n:=a) (m:=a.toNat) rfl (Ev.s (ae 8 rfl)) (xh AI.1 (by rw[aa];show a<(eQ.length:Int);lia)) (Ev.s (ae 10 rfl)) (hps:=λi=>nY (pv 6) (dJ i) set_list)) ?_;rw[Aa];exact nU
   |false=>
    rw[hq,rf 'Q']at eT;rw[eT];exact⟨_,_,rfl,az (dq (Et.pk (Ew.et (oe (gI (bz (ae 6 rfl) (ae 8 rfl) (bP eQ) RG) (bV T.bS (ae 1 rfl) (.inl rfl))) λhp=>(nS (lH (bz (ae 5 rfl) (ae 10 rfl) (bP left) HS) ak))))) (by rw[RH];exact hq)),[10],rfl⟩
  ·rw[aa,List.take_of_length_le (br _)]
 ·have el:(jo 0 os.length).length=os.length:='Y'
  rw[el];exact az (kl 6 rfl)
end
section
theorem Z4 (y:Int)(c:LI)(A:Nat):(qk y c A).length=A/\∀x∈qk y c A,0<=x/\x<=(c.length:Int):=⟨(yD _ c A A).2.1,(yD _ c A A).2.2⟩
theorem Yl (y:Int){os:LL}(h:∀o∈os,∀x∈o,0<=x/\x<(c.length:Int)):(pS y c os).length=os.length/\∀x∈pS y c os,0<=x/\x<=(c.length:Int):=⟨(yj _ y h os.length (br _)).2.2.d,(yj _ y h os.length (br _)).2.2.r⟩
def de (c:LI)(os:LL)(y:Int):LI:=if decide (y%4=0)then qk y c os.length else pS y c os
theorem DF {os:LL}(h:∀o∈os,∀x∈o,0<=x/\x<(c.length:Int))(y:Int):(de c os y).length=os.length/\∀x∈de c os y,0<=x/\x<=(c.length:Int):=by
 unfold de;split
 ·exact Z4 y c os.length
 ·exact Yl y h
def wF (c:Int):Int:=1+if decide (c/7%4=1)then c/4%10^9 else c/4%3
theorem FE (c:Int) : 1<=wF c/\wF c<=10^9:=by
 unfold wF;lia
def cC (cells:LI):Int:=(cells.map wF).sum
def gX (cells:LI)(c:LI)(os:LL)(a x:Int):Int:=((cells.filter λy=>decide ((de c os y).getD a.toNat 0=x)).map wF).sum
def dN (cells c:LI)(os:LL)(a:Int):LI:=(aB (c.length+1)).map (gX cells c os a)
theorem uM:∀cells,0<=cC cells/\cC cells<=cells.length*10^9
 |[] => by show(0)<=0/\(0)<=((0))*10^9;lia
 |c::cs=>by
  have ih:=uM cs;have:=FE c;have e:cC (c::cs)=wF c+cC cs:=by unfold cC;rw[JJ,Na]
  rw[e,IF];lia
theorem CU (h : 1<=cells.length) : 0<cC cells:=by
 cases cells with
 |nil=>exact absurd h 'Q'
 |cons c cs=>
  have a:=uM cs
  grind [cC,wF]
theorem LX (q:Int->Bool):∀cells,0<=((cells.filter q).map wF).sum/\((cells.filter q).map wF).sum<=cC cells
 |[] => by show(0)<=0/\(0)<=0;lia
 |c::cs=>by
  have ih:=LX q cs;have:=FE c;have e:cC (c::cs)=wF c+cC cs:=by unfold cC;rw[JJ,Na]
  rw[e,aat];split
  ·rw[JJ,Na];lia
  ·lia
theorem abi {os:LL}(h1 : 1<=cells.length)(h2:cells.length<=100):fD (cC cells) c.length (dN cells c os a):=by
 have s:=uM cells;refine⟨CU h1,'O',by grind [dN,jG],λt ht=>?_⟩;obtain⟨x,_,rfl⟩:=i8.mp ht;exact LX _ cells
theorem Ym {α:Type}(f g : α->Dv):∀l:List α,iS (l.map f) (l.map g)=l.map λa=>.tup [f a,g a]
 |[] => rfl
 |a::l=>by
  simp_all [iS]
abbrev t8:afW:=top 44
theorem mn:aZ ["_law_cells", "_law_counts_here", "_law_orders_here", "_law_weights", "_law_deals", "_law_cell", "_law_shares", "_law_asker", "_law_row", "_law_one", "_law_top"] ["_law_cells", "_law_counts_here", "_law_orders_here"] (aA t8):=sk
def jk (W:Int)(aM:LI):Tr:=.ow (aM.map λt=>tF (fW W t))
def NY:bI:=λdd t=>∃(cells c:LI) (os:LL),1<=cells.length/\cells.length<=100/\dX c os/\dd=[dis cells,dis c,.lst (os.map dis)]/\t=.ow ((aB os.length).map λa=>jk (cC cells) (dN cells c os a))
theorem UP (F:bK K "_law_drawn" t8 f fd)(T:Txt mg)(Ue:bj P w K mg base (k+1) "_law_any_deal" f1 cL ["_law_cell", "_law_counts_here", "_law_askers"] Pn)(T4:bj P w K mg base (k+1) "_law_turn_deal" f3 qZ ["_law_cell", "_law_counts_here", "_law_orders_here"] NX)(t6:bj P w K mg base (k+1) "_law_lowest" f2 fd2 ["_law_top", "_law_bottom"] lK):bL P w K mg base (k+2) f fd ["_law_cells", "_law_counts_here", "_law_orders_here"] NY:=by
 refine bR F.d mn 'H' λdd t h=>?_
 obtain⟨cells,c,os,l1,l2,ok,rfl,rfl⟩:_:=h;have big:=cw;have W0:=CU l1;have W1:=uM cells;have c6:=ok.c6;have o6:=ok.o6;have o1:=ok.o1;have gN:(((os.map dis).length:Nat):Int)=os.length:=by rw[aa]
 have lV:(((c.map di).length:Nat):Int)=c.length:=by rw[aa]
 have hAt:∀x:Int,aP [di (x/4%3),di (x/4%10^9)] (if decide (x/7%4=1)then 1 else 0)=some (di (if decide (x/7%4=1)then x/4%10^9 else x/4%3)):=λx=>by cases decide (x/7%4=1)<;>rfl
 refine ax (aV 3 (Ev.s (cu ao (zd _))) (λ_=>mn.nd)) ?_;refine ax (aV 4 (Ev.s (cu ao (zd _))) (λ_=>mn.nd)) ?_;refine ax (dQ (bb.s (cm (ae 0 rfl) rfl)) (bp 5 (λ_=>mn.nd)) (λk=>[some (.fz (dis cells)),some (.fz (dis c)),some (.fz (.lst (os.map dis))),some (aE ((cells.take k).map wF)),some (ji ((cells.take k).map (de c os))),none,none,none,none,none,none]) rfl (λ_=>rfl) (λj d hd=>?_)) ?_
 ·obtain⟨x,hx,rfl⟩:_:=gF hd;rw[kg hx,B0,B0];have tl:(cells.take j).length<=100:=by rw[LB];lia
  have z1:(((cells.take j).map wF).map λn=>Tr.fz (di n)).length<sizeLine:=by rw[aa,aa];lia
  have z2:(((cells.take j).map (de c os)).map aE).length<sizeLine:=by rw[aa,aa];lia
  generalize (cells.take j).map wF=L at z1;generalize (cells.take j).map (de c os)=M at z2;have ac1:some (aE (L++[x].map wF))=some (.ow ((L.map λn=>Tr.fz (di n))++[ti (wF x)])):=by
   show some (Tr.ow _)=_;rw[B0];rfl
  have fin2:some (ji (M++[x].map (de c os)))=some (.ow (M.map aE++[aE (de c os x)])):=by
   show some (Tr.ow _)=_;rw[B0];rfl
  rw[ac1,fin2];have eD:de c os x=if decide (x%4=0)then qk x c os.length else pS x c os:=rfl
  have sw:Rn (iR P w K mg base ["_law_cells", "_law_counts_here", "_law_orders_here", "_law_weights", "_law_deals", "_law_cell", "_law_shares", "_law_asker", "_law_row", "_law_one", "_law_top"] "_law_drawn" (aA t8) f (k+2)) ((match(dw t8).getD 2 (.Pass ⟨0,0,0,0⟩)with | .For _ _ b _ _=>b|_=>[]).getD 0 (.Pass ⟨0,0,0,0⟩)) [some (.fz (dis cells)),some (.fz (dis c)),some (.fz (.lst (os.map dis))),some (aE L),some (ji M),some (ti x),none,none,none,none,none] (.nx [some (.fz (dis cells)),some (.fz (dis c)),some (.fz (.lst (os.map dis))),some (.ow ((L.map λn=>Tr.fz (di n))++[ti (wF x)])),some (ji M),some (ti x),none,none,none,none,none]):=
   jF 3 rfl (bO.to (t':=ti (wF x)) (Ev.s (eI ak (bz (d:=di (if decide (x/7%4=1)then x/4%10^9 else x/4%3)) (cu (ah (dP (hW (ae 5 rfl) ak ⟨'Q',lg 'Q' 'Q'⟩) ak 'Q') (ah (dP (hW (ae 5 rfl) ak ⟨'Q',lg 'Q' 'Q'⟩) (aaV ak ak ⟨'Q','Q','Q'⟩) 'Q') ao)) (by show 2<=sizeLine;decide)) (Y6 T.Fv (abT (dP (hW (ae 5 rfl) ak ⟨'Q',lg 'Q' 'Q'⟩) ak 'Q') ak)) rfl (hAt x)))) rfl) z1
  cases hq:decide (x%4=0)with
  |true=>
   rw[hq,uu rfl]at eD;rw[eD];exact⟨_,_,rfl,ax sw (az (jL (Et.s (gI (dP (ae 5 rfl) ak 'Q') ak)) hq (az (jF 4 rfl (Ev.s (aW Ue (br _) (ah (ae 5 rfl) (ah (ae 1 rfl) (ah (bV T.bS (ae 2 rfl) (.inl rfl)) ao))) ⟨x,c,os.length,c6,o1,o6,by rw[<- gN];rfl,rfl⟩)) z2)))),[5],rfl⟩
  |false=>
   rw[hq,rf 'Q']at eD;rw[eD];exact⟨_,_,rfl,ax sw (az (uY (Et.s (gI (dP (ae 5 rfl) ak 'Q') ak)) hq (az (jF 4 rfl (Ev.s (aW T4 (br _) (ah (ae 5 rfl) (ah (ae 1 rfl) (ah (ae 2 rfl) ao))) ⟨x,c,os,ok,rfl,rfl⟩)) z2)))),[5],rfl⟩
 rw[aa,List.take_of_length_le (br _)];refine oW (d:=dis (cells.map wF)) 3 rfl (bP _) ?_;have eDl:er (ji (cells.map (de c os)))=.lst (cells.map λx=>dis (de c os x)):=by
  rw[nP,gz];rfl
 refine oW (d:=.lst (cells.map λx=>dis (de c os x))) 4 rfl eDl ?_;refine ax (aV 6 (Ev.s (cu ao (zd _))) (λ_=>mn.nd)) ?_;refine ax (dQ (its:=jo 0 os.length) (bb.s (bb.to (fM T.dW (bV T.bS (ae 2 rfl) (.inl rfl)) (by rw[gN];lia)) (by rw[gN,BS]))) (bp 7 (λ_=>mn.nd)) (λk=>[some (.fz (dis cells)),some (.fz (dis c)),some (.fz (.lst (os.map dis))),some (.fz (dis (cells.map wF))),some (.fz (.lst (cells.map λx=>dis (de c os x)))),none,some (.ow ((aB k).map λa=>jk (cC cells) (dN cells c os a))),none,none,none,none]) rfl (λ_=>rfl) (λj d hd=>?_)) ?_
 ·obtain⟨hj,rfl⟩:=mI hd;have eN:(aB (j+1)).map (λa=>jk (cC cells) (dN cells c os a))=(aB j).map (λa=>jk (cC cells) (dN cells c os a))++[jk (cC cells) (dN cells c os (0+(j:Int)))]:=by
   unfold aB;rw[List.range_succ,B0,B0];rfl
  rw[eN];have hL:((aB j).map λa=>jk (cC cells) (dN cells c os a)).length<sizeLine:=by rw[aa,jG];lia
  generalize ((aB j).map λa=>jk (cC cells) (dN cells c os a))=L at hL;refine⟨_,_,rfl,ax (aV 8 (Ev.s (cu ao (zd _))) (λ_=>mn.nd)) (ax (dQ (its:=jo 0 (c.length+1)) (bb.s (bb.to (fM T.dW (eI (bV T.bS (ae 1 rfl) (.inl rfl)) ak) (by rw[lV];lia)) (by rw[lV];congr 1))) (bp 9 (λ_=>mn.nd)) (λi=>[some (.fz (dis cells)),some (.fz (dis c)),some (.fz (.lst (os.map dis))),some (.fz (dis (cells.map wF))),some (.fz (.lst (cells.map λx=>dis (de c os x)))),none,some (.ow L),some (ti (0+(j:Int))),some (jk (cC cells) ((dN cells c os (0+(j:Int))).take i)),none,none]) rfl (λ_=>rfl) (λi d hd=>?_)) (az (Vg 6 8 'Q' rfl rfl hL))),[7],?_⟩
  ·obtain⟨hi,rfl⟩:=mI hd;have ht:(dN cells c os (0+(j:Int)))[i]?=some (gX cells c os (0+(j:Int)) (0+(i:Int))):=by
    unfold dN aB;rw[l8,l8,Me hi];rfl
   have eR:jk (cC cells) ((dN cells c os (0+(j:Int))).take (i+1))=.ow (((dN cells c os (0+(j:Int))).take i).map (λt=>tF (fW (cC cells) t))++[tF (fW (cC cells) (gX cells c os (0+(j:Int)) (0+(i:Int))))]):=by
    rw[kg ht];show Tr.ow _=_;rw[B0];rfl
   rw[eR];have hz:(((dN cells c os (0+(j:Int))).take i).map (λt=>tF (fW (cC cells) t))).length<sizeLine:=by rw[aa,LB];lia
   rw[show jk (cC cells) ((dN cells c os (0+(j:Int))).take i)=.ow (((dN cells c os (0+(j:Int))).take i).map (λt=>tF (fW (cC cells) t)))from rfl];generalize ((dN cells c os (0+(j:Int))).take i).map (λt=>tF (fW (cC cells) t))=M at hz;have ac2:∀y:Int,aP ((de c os y).map di) (0+(j:Int))=some (di ((de c os y).getD (0+(j:Int)).toNat 0)):=λy=>qj 'O' (by
    have:=(DF ok.bT y).1;lia)
   refine⟨_,[some (.fz (dis cells)),some (.fz (dis c)),some (.fz (.lst (os.map dis))),some (.fz (dis (cells.map wF))),some (.fz (.lst (cells.map λx=>dis (de c os x)))),none,some (.ow L),some (ti (0+(j:Int))),some (.ow (M++[tF (fW (cC cells) (gX cells c os (0+(j:Int)) (0+(i:Int))))])),some (ti (0+(i:Int))),some (ti (gX cells c os (0+(j:Int)) (0+(i:Int))))],rfl,?_,[9,10],rfl⟩;refine ax (aV 10 (bO.to (t':=ti (gX cells c os (0+(j:Int)) (0+(i:Int)))) (Ev.s (MV T.Fy (oi (own:=["_law_weight", "_law_deal"]) (fr:=[9,7]) cells (λy=>.tup [di (wF y),dis (de c os y)]) (λy=>decide ((de c os y).getD (0+(j:Int)).toNat 0=0+(i:Int))) (λy=>ti (wF y)) (λi=>cg) (bb.to (Lj T.Fw (ae 3 rfl) (ae 4 rfl) rfl rfl) ?_) (iO 0 1 (λ_=>bH)) 'Q' 'O' (λy hy=>⟨_,rfl,by exact hZ (gI (bz (ae 1 rfl) (ae 3 rfl) rfl (ac2 y)) (ae 2 rfl)),λ_=>by exact ae 0 rfl⟩) (λdd=>by obtain _|⟨_,_|⟨_,_⟩⟩:=dd<;>rfl)) (pI _ _))) rfl) (λ_=>mn.nd)) ?_
   ·rw[gz];exact Ym _ _ cells
   exact az (jF 8 rfl (Ev.s (aW t6 (br _) (ah (ae 10 rfl) (ah (MV T.Fy (ae 3 rfl) rfl) ao)) ⟨_,cC cells,W0,lg 'O' 'O',rfl,rfl⟩)) hz)
  ·have el:(jo 0 (c.length+1)).length=c.length+1:='Y'
   rw[el,List.take_of_length_le (by unfold dN;rw[aa,jG];exact br _)]
   rfl
 ·have el:(jo 0 os.length).length=os.length:='Y'
  rw[el];exact az (kl 6 rfl)
end
section
def kD (ns:LI):Nat:=(eY ns 0%7).toNat
def iq (ns:LI):Nat:=(1+eY ns 0/7%6).toNat
def vR (ns:LI):LI:=DE (eY ns 1) (kD ns)
def Ab (ns:LI):LL:=gq ((aB (iq ns)).map λx=>eY ns (2+x)) (kD ns) (iq ns)
theorem LY (ns:LI):eY ns 0%7=(kD ns:Int)/\kD ns<=6:=by
 unfold kD;lia
theorem LZ (ns:LI) : 1+eY ns 0/7%6=(iq ns:Int)/\1<=iq ns/\iq ns<=6:=by
 unfold iq;lia
theorem Yn (ns:LI):(vR ns).length=kD ns:=by unfold vR DE;rw[aa];exact(pE _ _).2.2
theorem Xc (ns:LI):dX (vR ns) (Ab ns):=by
 obtain⟨_,n6⟩:=LY ns;obtain⟨_,m1,m6⟩:=LZ ns;obtain⟨ol,oo⟩:=DC ((aB (iq ns)).map λx=>eY ns (2+x)) (kD ns) (iq ns);have cl:=Yn ns;exact⟨'O',λx hx=>by
  obtain⟨y,_,rfl⟩:=i8.mp hx;exact Z2 y,by show 1<=(gq _ _ _).length;lia,by show(gq _ _ _).length<=6;lia,λo ho=>(oo o ho).1,λo ho=>by rw[cl];exact(oo o ho).2⟩
abbrev Bu:afW:=top 50
theorem xP:aZ ["_law_script", "_law_many", "_law_askers", "_law_orders_here"] ["_law_script"] (aA Bu):=sk
def L0:bI:=λdd t=>∃ns:LI,dd=[dis ns]/\t=.fz (gn (vR ns) (Ab ns))
theorem Uu (F:bK K "_law_tabled" Bu f fd)(T:Txt mg)(rB:bj P w K mg base k "_law_cell_at" f1 cL ["_law_script", "_law_k"] FD)(UQ:bj P w K mg base (k+1) "_law_counts" f2 fd2 ["_law_cell", "_law_many"] LW)(UR:bj P w K mg base (k+2) "_law_orders" f3 qZ ["_law_cells", "_law_many"] LV):bL P w K mg base (k+3) f fd ["_law_script"] L0:=by
 refine bR F.d xP 'H' λdd t h=>?_
 obtain⟨ns,rfl,rfl⟩:=h;have big:=cw;have r1:k+1<=k+3:='O'
 have r2:k+2<=k+3:='O'
 obtain⟨en,hn⟩:=LY ns;obtain⟨em,m1,m6⟩:_:=LZ ns;have cd7:vj (eY ns 0) 7:=⟨'Q',lg 'Q' 'Q'⟩
 refine ax (aV 1 (bO.to (t':=ti (kD ns)) (Ev.s (dP (aW rB r1 (ah (ae 0 rfl) (ah ak ao)) ⟨ns,0,'Q',rfl,rfl⟩) ak 'Q')) (by rw[en])) (λ_=>xP.nd)) ?_;refine ax (aV 2 (bO.to (t':=ti (iq ns)) (Ev.s (eI ak (dP (hW (aW rB r1 (ah (ae 0 rfl) (ah ak ao)) ⟨ns,0,'Q',rfl,rfl⟩) ak cd7) ak 'Q'))) (by rw[em])) (λ_=>xP.nd)) ?_;have ml:((aB (iq ns)).map λx=>eY ns (2+x)).length=iq ns:=by grind [jG]
 have eO:er (ji (gq ((aB (iq ns)).map λx=>eY ns (2+x)) (kD ns) ((aB (iq ns)).map λx=>eY ns (2+x)).length))=.lst ((Ab ns).map dis):=by
  rw[nP,ml];rfl
 refine ax (aV 3 (Ev.s (Ev.as (aW UR (br _) (ah (fO (own:=["_law_k"]) (fr:=[0]) (aB (iq ns)) di (λx=>ti (eY ns (2+x))) (λi=>cg) (bb.to (fM T.dW (ae 2 rfl) ⟨'O','O'⟩) ?_) (bp 0 (λ_=>bH)) 'Q' (by grind) (λx hx=>⟨_,rfl,by
   have:=CT.mp hx;exact aW rB r1 (ah (ae 1 rfl) (ah (eI ak (ae 0 rfl)) ao)) ⟨ns,2+x,'O',rfl,rfl⟩⟩) (λdd=>by cases dd<;>rfl)) (ah (ae 1 rfl) ao)) ⟨(aB (iq ns)).map λx=>eY ns (2+x),kD ns,hn,'O',?_,rfl⟩) eO)) (λ_=>xP.nd)) ?_
 ·unfold aB
  simp_all
 rotate_left
 ·show[er (.ow _),_]=_;rw[pI];rfl
 refine az (cA (Ev.s (kj (ah (aW UQ r2 (ah (aW rB r1 (ah (ae 0 rfl) (ah ak ao)) ⟨ns,1,'Q',rfl,rfl⟩) (ah (ae 1 rfl) ao)) ⟨eY ns 1,kD ns,'O',rfl,rfl⟩) (ah (ae 3 rfl) ao)) ?_ (by grind))));show[er (aE _),_]=_;rw[bP];rfl
end
section
abbrev l3 (t:Int×Int×Int):LI:=[t.1,t.2.1,t.2.2]
def wJ (n:Nat)(o aM:LI)(a:Nat)(m:Nat):List (Int×Int×Int):=(List.range m).flatMap λj=>if cz aM ((aN n o).getD j 0)=0 then []else ((aN n o).take j).map λx=>((a:Int),x,(aN n o).getD j 0)
def bN (n:Nat)(os:LL)(S:Nat->LI)(m:Nat):List (Int×Int×Int):=(List.range m).flatMap λa=>wJ n (os.getD a []) (S a) a (aN n (os.getD a [])).length
theorem uN (n:Nat)(o aM:LI)(a m:Nat):wJ n o aM a (m+1)=wJ n o aM a m++(if cz aM ((aN n o).getD m 0)=0 then []else ((aN n o).take m).map λx=>((a:Int),x,(aN n o).getD m 0)):=by
 grind [wJ,List.range_succ]
theorem CA (n:Nat)(os:LL)(S:Nat->LI)(m:Nat):bN n os S (m+1)=bN n os S m++wJ n (os.getD m []) (S m) m (aN n (os.getD m [])).length:=by
 grind [bN,List.range_succ]
def tri:Nat->Nat
 |0=>0
 |m+1=>tri m+m
theorem za (n:Nat)(o aM:LI)(a:Nat):∀m,(wJ n o aM a m).length<=tri m
 |0=>zd _
 |m+1=>by
  rw[uN,vc];have:=za n o aM a m;show _<=tri m+m;split
  ·show _+0<=_;lia
  ·rw[aa,LB];lia
theorem Gw (h:m<=7):tri m<=21:=by
 have:∀m:Fin 8,tri m.val<=21:='Q'
 exact this ⟨m,'O'⟩
theorem jH {n:Nat}{o:LI}(hr:∀x∈o,0<=x/\x<n){x:Int}:x∈aN n o↔0<=x/\x<=n:=by
 unfold aN jj;simp only[qr,BB,i8,BY,l9]
 constructor
 ·rintro((h|h)|⟨k,⟨h1,_⟩,rfl⟩)
  ·have:=hr x h;lia
  ·lia
  ·lia
 ·intro h;by_cases hx:x∈o
  ·exact .inl (.inl hx)
  by_cases hn:x=n
  ·exact .inl (.inr hn)
  ·refine .inr ⟨x.toNat,⟨'O',?_⟩,'O'⟩;rw[show 0+((x.toNat:Nat):Int)=x by lia];simpa using hx
theorem mU {n:Nat}{o:LI}(hn:n<=6)(nd:o.Nodup)(hr:∀x∈o,0<=x/\x<n):(aN n o).length<=7/\(aN n o).Nodup:=by
 have nf:(aN n o).Nodup:=by
  unfold aN;rw[AN,AN];refine⟨⟨nd,AE.mpr ⟨(λz=>nomatch z),.nil⟩,λa ha b hb=>?_⟩,?_,λa ha b hb=>?_⟩
  ·grind
  ·refine List.Pairwise.map _ (λa b (h)=>?_) ((List.pairwise_lt_range).filter _);lia
  ·obtain⟨k,hk,rfl⟩:=i8.mp hb
   grind
 refine⟨?_,nf⟩;have:=Ts.oq (aN n o) (aB (n+1)) nf λx hx=>by
  have:=(jH hr).mp hx;exact CT.mpr ⟨'O','O'⟩
 grind [aB]
theorem pA {os:LL}(S:Nat->LI)(h:∀o∈os,(aN n o).length<=7):∀m,m<=os.length->(bN n os S m).length<=21*m
 |0=>λ_=>zd _
 |m+1=>λhm=>by
  rw[CA,vc];have:=pA S h m 'O'
  grind [za,Gw]
theorem CV {os:LL}:t∈bN n os S m↔∃a j,a<m/\j<(aN n (os.getD a [])).length/\cz (S a) ((aN n (os.getD a [])).getD j 0)≠0/\∃x∈(aN n (os.getD a [])).take j,t=((a:Int),x,(aN n (os.getD a [])).getD j 0):=by
 unfold bN wJ;simp only[aeo,l9]
 constructor
 ·intro z9;obtain⟨a,ha,j,hj,h⟩:_:=z9;split at h
  ·cases h
  ·rename_i hz
   obtain⟨x,hx,rfl⟩:=i8.mp h;exact⟨a,j,ha,hj,hz,x,hx,rfl⟩
 ·intro z9;obtain⟨a,j,ha,hj,hz,x,hx,rfl⟩:_:=z9;exact⟨a,ha,j,hj,by rw[rf hz];exact i8.mpr ⟨x,hx,rfl⟩⟩
def xi (n:Nat)(os:LL)(S:Nat->LI):List (Nat×Nat):=(bN n os S os.length).map λt=>(t.2.1.toNat,t.2.2.toNat)
theorem Wk (h:∀p,p∈ps↔p∈qs):kz ps=kz qs:=by
 unfold kz
 simp_all
theorem abj (ts:List (Int×Int×Int)):∃RJ:List (Int×Int×Int),lS (ts.map l3)=RJ.map l3/\RJ.Perm ts:=by
 obtain⟨g,hg⟩:∃g:LI->Int×Int×Int,g=λd=>(d.getD 0 0,d.getD 1 0,d.getD 2 0):=⟨_,rfl⟩
 have gl:∀t,g (l3 t)=t:=λt=>by rw[hg];rfl
 refine⟨(lS (ts.map l3)).map g,?_,?_⟩
 ·rw[gz];refine((List.map_congr_left λd hd=>?_).trans (aeJ _)).symm;obtain⟨t,_,rfl⟩:=i8.mp ((ug _).mem_iff.mp hd);show l3 (g (l3 t))=_;rw[gl];rfl
 ·have:=(ug (ts.map l3)).map g;rw[gz]at this;refine this.trans (aeD ?_);exact(List.map_congr_left λt _=>gl t).trans (aeJ _)
theorem yk (h:j<(aN n o).length):(aN n o)[j]?=some ((aN n o).getD j 0):=by
 simp_all
theorem Yo (l:List α)(m:Nat):cutD l none (some (m:Int))=l.take m:=by
 show(l.drop 0).take (min m l.length-0)=_
 simp_all
abbrev nWI:List Str:=["table", "shares", "told", "asker", "row", "order", "place", "b"]
abbrev CW:afW:=top 25
theorem uh:aZ nWI ["table", "shares"] (aA CW):=sk
abbrev tW (ts:List (Int×Int×Int)):Tr:=.ow (ts.map λt=>.fz (dT (l3 t)))
theorem ace (ts:List (Int×Int×Int)):er (tW ts)=.lst ((ts.map l3).map dT):=by rw[eG,gz];rfl
abbrev cD (W:Int)(A:Nat)(S:Nat->LI):Dv:=.lst ((List.range A).map λa=>dr W (S a))
theorem Ez (p q:Int×Int):bZ (dF p) (dF q)=decide (p=q):=by
 show(p.1==q.1&&(p.2==q.2&&true))=_
 grind
theorem Yp (h : 0<W):bZ (dF (fW W s)) (dF (lT 0 1,lB 0 1))=decide (s=0):=by
 rw[Ez,FC,<- rO h,afN]
 grind [yV]
def FG:bI:=λdd t=>∃(c:LI) (os:LL) (W:Int) (S:Nat->LI),dX c os/\(∀a,a<os.length->fD W c.length (S a))/\dd=[gn c os,cD W os.length S]/\t=.ow ((lS ((bN c.length os S os.length).map l3)).map λd=>.fz (dT d))
theorem Xd (F:bK K "wishes" CW f fd)(T:Txt mg)(BG:bj P w K mg base (k+1) "full_order" f1 cL ["table", "asker"] FA)(mB:bj P w K mg base (k+1) "fraction" f2 fd2 ["top", "bottom"] lK)(B1:Binds K fd2 ["top", "bottom"] [.int 1 tk]):bL P w K mg base (k+2) f fd ["table", "shares"] FG:=by
 refine bR F.d uh 'H' λdd t h=>?_
 obtain⟨c,os,W,S,ok,b9,rfl,rfl⟩:_:=h;have big:=cw;have o6:=ok.o6;have c6:=ok.c6;have fl:=λo ho=>(mU c6 (ok.nd o ho) (ok.bT o ho)).1
 have wl:=pA S fl os.length (br _);refine ax (aV 2 (Ev.s (cu ao (zd _))) (λ_=>uh.nd)) ?_;refine ax (dQ (bb.s (rJ T.mz (ae 1 rfl) rfl)) (iO 3 4 (λ_=>uh.nd)) (λk=>[some (.fz (gn c os)),some (.fz (cD W os.length S)),some (tW (bN c.length os S k)),none,none,none,none,none]) rfl (λ_=>rfl) (λj d hd=>?_)) ?_
 ·obtain⟨x,hx,rfl⟩:=lh hd;obtain⟨a,ha,rfl⟩:=gF hx;have ja:a=j:=by
   obtain⟨q1,q2⟩:=gr.mp ha;rw[List.getElem_range]at q2;exact q2.symm
  subst ja;have hj:a<os.length:=by have:=(gr.mp ha).1;rw[xy]at this;exact this
  obtain⟨o,xj⟩:∃o,os[a]?=some o:=⟨_,ar hj⟩
  have og:os.getD a []=o:=by rw[ir,xj];rfl
  have om:=ba xj;have f7:=fl o om;have R:=b9 a hj;have tP:=ok.gN om;have wa:=pA S fl a 'O';refine⟨_,_,rfl,ax (aV 5 (Ev.s (Ev.as (d:=dis (aN c.length o)) (aW BG (br _) (ah (ae 0 rfl) (ah (ae 3 rfl) ao)) ⟨c,os,a,o,'O','O',dh xj,rfl,rfl⟩) (bP _))) (λ_=>uh.nd)) (az (dQ (bb.s (rJ T.mz (ae 5 rfl) rfl)) (iO 6 7 (λ_=>uh.nd)) (λi=>[some (.fz (gn c os)),some (.fz (cD W os.length S)),some (tW (bN c.length os S a++wJ c.length o (S a) a i)),some (ti a),some (.fz (dr W (S a))),some (.fz (dis (aN c.length o))),none,none]) ?_ (λ_=>rfl) (λi d hd=>?_))),[3,4,5],?_⟩
  ·show[_,_,some (tW (bN c.length os S a++[])),_,_,_,_,_]=_;rw[zw];rfl
  ·obtain⟨y,hy,rfl⟩:=lh hd;obtain⟨b,hb,rfl⟩:=gF hy;have il:=(gr.mp hb).1;have bg:(aN c.length o).getD i 0=b:=by rw[ir,hb];rfl
   have bm:=(jH (ok.bT o om)).mp (ba hb);have ac3:er (.ow ((cutD ((aN c.length o).map di) none (some ((i:Nat):Int))).map .fz))=.lst (((aN c.length o).take i).map di):=by
    rw[mM,yg,Yo]
   have wj:=za c.length o (S a) a i;have ti7:=Gw (m:=i) 'O';have tw:∀l r:List (Int×Int×Int),tW (l++r)=.ow ((l.map λt=>.fz (dT (l3 t)))++r.map λt=>.fz (dT (l3 t))):=λl r=>by show Tr.ow _=Tr.ow _;rw[B0]
   refine⟨_,_,rfl,az (vo (o:=.nx [some (.fz (gn c os)),some (.fz (cD W os.length S)),some (tW (bN c.length os S a++wJ c.length o (S a) a (i+1))),some (ti a),some (.fz (dr W (S a))),some (.fz (dis (aN c.length o))),some (ti i),some (ti b)]) (p:=!decide (cz (S a) b=0)) (gC.to (Et.s (iM (bz (ae 4 rfl) (ae 7 rfl) rfl (rowAt R bm.1 bm.2)) (CM mB B1 (br _) (ah ak ao) ⟨0,1,'Q','Q',rfl,rfl⟩) (.inr ⟨_,_,rfl,rfl⟩) (Cn (vf _) 'Q'))) ?_) (λh=>bE.to (az (WT 2 rfl (Ev.s (fO (own:=["a"]) (fr:=[3,7]) ((aN c.length o).take i) di (λx=>.fz (dT [(a:Int),x,b])) (λi=>cg) (cm (ye (ae 5 rfl) rfl De (uF (ae 6 rfl))) ac3) (bp 0 (λ_=>bH)) 'Q' (by rw[LB];lia) (λx hx=>⟨_,rfl,by exact kj (dd:=[di a,di x,di b]) (ah (ae 1 rfl) (ah (ae 0 rfl) (ah (ae 2 rfl) ao))) rfl (by show 3<=sizeLine;decide)⟩) (λdd=>by cases dd<;>rfl))) ?_)) ?_) (λh=>bE.to nU ?_)),[6,7],rfl⟩
   ·show(!bZ (dF _) (dF _))=_;rw[Yp R.w0]
   ·rw[aa,aa,vc,LB];lia
   ·have hb:¬cz (S a) b=0:=λz=>by rw[EO z]at h;cases h
    show Out.nx [_,_,some (.ow _),_,_,_,_,_]=_;rw[uN,bg,rf hb,<- CS,tw,gz]
    rfl
   ·have hb:cz (S a) b=0:=ES λz=>by rw[LG z]at h;cases h
    rw[uN,bg,uu hb,zw]
    rfl
  ·show[_,_,some (tW _),_,_,_,_,_]=_;rw[CA,og,lr,aa]
 ·rw[lr,aa,xy];refine oW 2 rfl (ace _) ?_;exact az (cA (Ev.s (Wc T.Ku (ae 2 rfl) rfl (λd hd=>by obtain⟨t,_,rfl⟩:=i8.mp hd;exact List.cons_ne_nil _ _) (by rw[aa];lia))))
abbrev BH:afW:=top 26
theorem UT:aZ ["table", "shares"] ["table", "shares"] (aA BH):=sk
abbrev RK (ps:List (Nat×Nat)):Tr:=.ow ((ps.map lP).map λd=>.fz (dT d))
def Pq:bI:=λdd t=>∃(c:LI) (os:LL) (W:Int) (S:Nat->LI),dX c os/\(∀a,a<os.length->fD W c.length (S a))/\dd=[gn c os,cD W os.length S]/\t=RK (kz (xi c.length os S))
theorem UU (F:bK K "over_pairs" BH f fd)(T:Txt mg)(CY:bj P w K mg base (k+2) "wishes" f1 cL ["table", "shares"] FG):bL P w K mg base (k+3) f fd ["table", "shares"] Pq:=by
 refine bR F.d UT 'H' λdd t h=>?_
 obtain⟨c,os,W,S,ok,b9,rfl,rfl⟩:_:=h;have big:=cw;have o6:=ok.o6;have c6:=ok.c6;have fl:=λo ho=>(mU c6 (ok.nd o ho) (ok.bT o ho)).1
 have wl:=pA S fl os.length (br _);obtain⟨ts,ets,RL⟩:_:=abj (bN c.length os S os.length);have tin:∀t∈ts,0<=t.2.1/\t.2.1<=6/\0<=t.2.2/\t.2.2<=6:=λt ht=>by
  obtain⟨a,j,ha,hj,_,x,hx,rfl⟩:_:=CV.mp (RL.mem_iff.mp ht);have om:os.getD a []∈os:=by
   simp_all
  have h1:=(jH (ok.bT _ om)).mp (EM hx);have h2:=(jH (ok.bT _ om)).mp (ba (yk hj))
  grind
 have ew:er (.ow ((lS ((bN c.length os S os.length).map l3)).map λd=>.fz (dT d)))=.lst (ts.map λt=>dT (l3 t)):=by
  rw[eG,ets,gz];rfl
 have ec:er (.ow (ts.map λt=>Tr.fz (dT (lP (t.2.1.toNat,t.2.2.toNat)))))=.lst (((ts.map λt=>(t.2.1.toNat,t.2.2.toNat)).map lP).map dT):=by
  rw[eG,gz,gz];rfl
 refine az (cA (bO.to (Ev.s (VE T.Ku T.Pl (fO (own:=["asker", "a", "b"]) (fr:=[]) ts (λt=>dT (l3 t)) (λt=>Tr.fz (dT (lP (t.2.1.toNat,t.2.2.toNat)))) (λi=>cg) (cm (aW CY (br _) (ah (ae 0 rfl) (ah (ae 1 rfl) ao)) ⟨c,os,W,S,ok,b9,rfl,rfl⟩) ew) (uX 0 1 2 (λ_=>bH)) 'Q' (by rw[RL.length_eq];lia) (λt ht=>⟨_,rfl,?_⟩) (λdd=>by match dd with | [] => rfl | [_] => rfl | [_,_] => rfl|_::_::_::_=>rfl)) ec ?_)) ?_))
 ·exact Ev.to (kj (dd:=[di t.2.1,di t.2.2]) (ah (ae 1 rfl) (ah (ae 2 rfl) ao)) rfl (by grind)) (by
   grind)
 ·grind
 ·grind [Wk,xi]
def ra (l:LI)(x b:Int):Prop:=∃(j:Nat),l[j]?=some b/\x∈l.take j
theorem Z5:ra (l++r) x b↔ra l x b\/(x∈l/\b∈r)\/ra r x b:=by
 constructor
 ·rintro⟨j,h1,h2⟩;obtain h|h:=ET j l.length
  ·rw[Cf h]at h1;rw[aeX (aet h)]at h2;exact .inl ⟨j,h1,h2⟩
  ·rw[wb h]at h1;rw[aep,List.take_of_length_le h]at h2;obtain h2|h2:=qr.mp h2
   ·exact .inr (.inl ⟨h2,ba h1⟩)
   ·exact .inr (.inr ⟨j-l.length,h1,h2⟩)
 ·rintro(⟨j,h1,h2⟩|⟨h1,h2⟩|⟨j,h1,h2⟩)
  ·have h:=(gr.mp h1).1;exact⟨j,by rw[Cf h];exact h1,by rw[aeX (aet h)];exact h2⟩
  ·obtain⟨j,hj,ej⟩:=DO h2;refine⟨l.length+j,?_,?_⟩
   ·rw[wb 'O',show l.length+j-l.length=j by lia,ar hj,ej]
   ·rw[aep,List.take_of_length_le 'O'];exact xw _ h1
  ·refine⟨l.length+j,?_,?_⟩
   ·rw[wb 'O',show l.length+j-l.length=j by lia];exact h1
   ·rw[aep,show l.length+j-l.length=j by lia];exact i4 _ h2
theorem Z6 (nd:l.Nodup):ra l x b↔x∈l/\b∈l/\l.idxOf x<l.idxOf b:=by
 constructor
 ·rintro⟨j,h1,h2⟩;obtain⟨hj,rfl⟩:=gr.mp h1;obtain⟨i,hi,rfl⟩:=aej.mp h2
  grind
 ·rintro⟨h1,h2,h3⟩;have k1:=LM.mpr h1;have k2:=LM.mpr h2;refine⟨l.idxOf b,'J',aej.mpr ⟨l.idxOf x,'O',List.getElem_idxOf k1⟩⟩
end
section
theorem pT (h : 0<W)(w1:W<2^70)(s0 : 0<=s)(s1:s<=200*W):lC (fW W s):=by
 have a:=gj (s:=s) h;have b:=Fm (s:=s) h;have c:=Eh (s:=s) h;refine⟨a,?_,?_⟩
 ·lia
 ·lia
abbrev HU (W:Int)(ss:LI):Dv:=.lst (ss.map λs=>dF (fW W s))
abbrev CZ:afW:=top 12
theorem yb:aZ ["some", "total", "one"] ["some"] (aA CZ):=sk
def NZ:bI:=λdd t=>∃(W:Int) (ss:LI),0<W/\W<2^70/\(∀s∈ss,0<=s/\s<=W)/\ss.length<=120/\dd=[HU W ss]/\t=tF (fW W ss.sum)
theorem yl {ss:LI}(h:∀s∈ss,0<=s/\s<=W)(w0 : 0<W):∀j,0<=(ss.take j).sum/\(ss.take j).sum<=j*W
 |0=>'J'
 |j+1=>by
  have ih:=yl h w0 j;have e:(((j+1:Nat)))*W=j*W+W:=by grind
  cases q:ss[j]? with
  |none=>
   grind [List.take_of_length_le]
  |some x=>
   have hx:=h x (ba q);rw[kg q,aea,afq];lia
theorem Xe (F:bK K "sum_of" CZ f fd)(T:Txt mg)(mB:bj P w K mg base (k+1) "fraction" f1 cL ["top", "bottom"] lK)(B1:Binds K cL ["top", "bottom"] [.int 1 tk])(abk:bj P w K mg base (k+2) "plus" f2 fd2 ["one", "other"] vC):bL P w K mg base (k+3) f fd ["some"] NZ:=by
 refine bR F.d yb 'H' λdd t h=>?_
 obtain⟨W,ss,w0,w1,sb,sl,rfl,rfl⟩:_:=h;refine ax (aV 1 (bO.to (t':=tF (fW W (ss.take 0).sum)) (Ev.s (CM mB B1 (by show k+2<=k+3;lia) (ah ak ao) ⟨0,1,'Q','Q',rfl,rfl⟩)) (by show tF (0,1)=tF (fW W 0);rw[rO w0])) (λ_=>yb.nd)) ?_;refine ax (dQ (bb.s (cm (ae 0 rfl) rfl)) (bp 2 (λ_=>yb.nd)) (λj=>[some (.fz (HU W ss)),some (tF (fW W (ss.take j).sum)),none]) rfl (λ_=>rfl) (λj d hd=>?_)) ?_
 ·obtain⟨x,hx,rfl⟩:=gF hd;have hb:=sb x (ba hx);have ht:=yl sb w0 j;have hj:j<ss.length:=by
   grind
  have ac4:(j)*W<=200*W:=Lm 'O' 'O';refine⟨_,[some (.fz (HU W ss)),some (tF (fW W (ss.take (j+1)).sum)),some (tF (fW W x))],rfl,?_,[2],rfl⟩;rw[kg hx,aea,afq];generalize (ss.take j).sum=S at ht;exact az (aV 1 (bO.to (t':=tF (fW W (S+x))) (Ev.s (aW abk (br _) (ah (ae 1 rfl) (ah (ae 2 rfl) ao)) ⟨fW W S,fW W x,pT w0 w1 ht.1 'O',pT w0 w1 hb.1 'O',rfl,rfl⟩)) (by rw[Dn w0])) (λ_=>yb.nd))
 ·rw[aa,ad0];exact az (cA (Ev.s (ae 1 rfl)))
def m7 (ps:List (Nat×Nat))(r:LI):LI:=(ps.filter λp=>r.contains (p.1:Int)).map λp=>(p.2:Int)
def iu (ps:List (Nat×Nat))(r:LI):LI:=r.filter λx=>!(m7 ps r).contains x
def ql (ps:List (Nat×Nat))(r:LI):LI:=r.filter λx=>(m7 ps r).contains x
def tS (ps:List (Nat×Nat)):Nat->LI->LI->LI
 |0,o,_=>o
 |n+1,o,r=>if iu ps r=[]then o else tS ps n (o++iu ps r) (ql ps r)
def jD (ps:List (Nat×Nat))(n:Nat):LI:=tS ps (n+1) [] (aB n)
theorem L1 (ps:List (Nat×Nat))(r:LI):(iu ps r++ql ps r).Perm r:=by
 have:=List.filter_append_perm (λx=>!(m7 ps r).contains x) r;refine(Nl _ (aeD ?_)).trans this;exact afD λx _=>by rw[Bool.not_not]
theorem L4 (ps:List (Nat×Nat))(r:LI):(iu ps r).length+(ql ps r).length=r.length:=by
 rw[<- vc];exact(L1 ps r).length_eq
theorem L5:x∈m7 ps r↔∃p∈ps,(p.1:Int)∈r/\x=(p.2:Int):=by
 unfold m7;simp[i8]
 grind
structure Lu (ps:List (Nat×Nat)) (N:Nat) (o r:LI):Prop where
 perm:(o++r).Perm (aB N)
 RM:∀p∈ps,(p.1:Int)∈aB N->(p.2:Int)∈o->ra o p.1 p.2
theorem Z7 (L:Lu ps N o r):Lu ps N (o++iu ps r) (ql ps r):=by
 refine⟨?_,λp hp hn hb=>?_⟩
 ·rw[CS];exact(Nl o (L1 ps r)).trans L.perm
 ·rw[Z5];obtain hb|hb:=qr.mp hb
  ·exact .inl (L.RM p hp hn hb)
  ·right;left
   refine⟨?_,hb⟩;have h1:=L.perm.mem_iff.mpr hn;obtain h1|h1:=qr.mp h1
   ·omega
   ·exfalso;have:=(BY.mp hb).2;rw[Mc.mpr (L5.mpr ⟨p,hp,h1,rfl⟩)]at this;cases this
theorem N9:∀n o r,r.length<n->Lu ps N o r->∃r',Lu ps N (tS ps n o r) r'/\iu ps r'=[]
 |0=>λo r h _=>'O'
 |n+1=>λo r h L=>by
  unfold tS;by_cases hf:iu ps r=[]
  ·grind
  ·rw[rf hf];have:=L4 ps r;have:=afg.mpr hf;exact N9 n _ _ 'O' (Z7 L)
theorem Oa (ps:List (Nat×Nat))(N:Nat):∃r',Lu ps N (jD ps N) r'/\iu ps r'=[]:=by
 have hl:(aB N).length=N:=by grind [aB]
 exact N9 (N+1) [] (aB N) 'O' ⟨List.Perm.refl _,λp _ _ h=>nomatch h⟩
def dD (ps:List (Nat×Nat))(N:Nat):LI:=(aB N).filter λx=>!(jD ps N).contains x
theorem DG (h:x∈dD ps N):∃p∈ps,(p.1:Int)∈dD ps N/\x=(p.2:Int):=by
 obtain⟨r',L,hf⟩:_:=Oa ps N;have nd:=L.perm.nodup_iff.mpr (xW N);have mem:∀y,y∈dD ps N↔y∈r':=λy=>by
  unfold dD;rw[BY]
  constructor
  ·rintro⟨h1,h2⟩;obtain z|z:=qr.mp (L.perm.mem_iff.mpr h1)
   ·simp_all
   ·exact z
  ·intro z;refine⟨L.perm.mem_iff.mp (i4 _ z),?_⟩
   grind
 have hx:=(mem x).mp h;have:x∈m7 ps r':=by
  simp_all [iu]
 obtain⟨p,h1,h2,h3⟩:_:=L5.mp this
 grind
theorem abl (h:dD ps N=[]):(jD ps N).Perm (aB N)/\∀p∈ps,(p.1:Int)∈aB N->(p.2:Int)∈aB N->ra (jD ps N) p.1 p.2:=by
 obtain⟨r',L,hf⟩:_:=Oa ps N;have nd:=L.perm.nodup_iff.mpr (xW N);have rn:r'=[]:=by
  cases hr:r' with
  |nil=>rfl
  |cons y l=>
   exfalso;have hy:y∈r':='J'
   have:y∈dD ps N:=BY.mpr ⟨L.perm.mem_iff.mp (i4 _ hy),by
    grind⟩
   simp_all
 have P:=L.perm;rw[rn,zw]at P;exact⟨P,λp hp h1 h2=>L.RM p hp h1 (P.mem_iff.mpr h2)⟩
def gZ (rest:LI)(ts:List (Int×Int×Int))(x:Int):Int×Int×Int:=(ts.filter λt=>rest.contains t.2.1&&decide (t.2.2=x)).headD (0,0,0)
def xk (rest:LI)(ts:List (Int×Int×Int)):Nat->LI->Int->List (Int×Int×Int)
 |0,_,_=>[]
 |n+1,p,x=>if p.contains x=true then ((p.drop (p.idxOf x)).map (gZ rest ts)).reverse else xk rest ts n (p++[x]) (gZ rest ts x).2.1
def AJ (rest:LI)(ts:List (Int×Int×Int)):List (Int×Int×Int):=xk rest ts (rest.length+1) [] (rest.headD 0)
def AK (rest:LI)(ts:List (Int×Int×Int)):Prop:=∀x∈rest,∃t∈ts,t.2.1∈rest/\t.2.2=x
theorem Pr {rest:LI}(h:AK rest ts)(hx:x∈rest):gZ rest ts x∈ts/\(gZ rest ts x).2.1∈rest/\(gZ rest ts x).2.2=x/\∃r,(ts.filter λt=>rest.contains t.2.1&&decide (t.2.2=x))=gZ rest ts x::r:=by
 obtain⟨t,h1,h2,h3⟩:_:=h x hx;have ht:t∈ts.filter λt=>rest.contains t.2.1&&decide (t.2.2=x):=BY.mpr ⟨h1,'J'⟩
 cases e:ts.filter λt=>rest.contains t.2.1&&decide (t.2.2=x)with
 |nil=>rw[e]at ht;cases ht
 |cons a l=>
  grind [gZ]
structure tT (rest:LI) (ts:List (Int×Int×Int)) (p:LI) (x:Int):Prop where
 nd:p.Nodup
 sub:∀y∈p,y∈rest
 HV:x∈rest
 xf:∀(i:Nat) (y z:Int),p[i]?=some y->(p++[x])[i+1]?=some z->(gZ rest ts y).2.1=z
theorem tT.more {rest:LI}(h:AK rest ts)(P:tT rest ts p x)(hx:p.contains x=false):tT rest ts (p++[x]) (gZ rest ts x).2.1:=by
 have xp:x∉p:=λz=>by rw[Mc.mpr z]at hx;cases hx
 refine⟨?_,λy hy=>?_,(Pr h P.HV).2.1,λi y z h1 h2=>?_⟩
 ·rw[AN];exact⟨P.nd,AE.mpr ⟨(λz=>nomatch z),.nil⟩,λa ha b hb z=>by rw[BB.mp hb]at z;exact xp (z▸ha)⟩
 ·obtain hy|hy:=qr.mp hy
  ·exact P.sub y hy
  ·rw[BB.mp hy];exact P.HV
 ·obtain hi|hi:=ET i p.length
  ·rw[Cf hi]at h1;refine P.xf i y z h1 ?_;rw[Cf (by rw[vc,YA];lia)]at h2;exact h2
  ·rw[wb hi]at h1;have iE:i=p.length:=by
    have:=(gr.mp h1).1;rw[YA]at this;lia
   subst iE;rw[aev]at h1;cases h1;rw[wb (by rw[vc,YA];lia),vc,YA,aev]at h2;cases h2
   rfl
theorem tT.len {rest:LI}(P:tT rest ts p x):p.length<=rest.length:=Ts.oq p rest P.nd P.sub
end
section
theorem Z8 {F:aU ι}(j:Nat)(h : ρ[j]?=some (some t))(hps:∀i,PS (F.cx i) (.Return (some (.Tuple [.Constant (.str n) c0 p0,.Name x px] kt pt)) pos) (vI (FZ (dR (tC (.str n)) (dR (dG j) d8))))):
  Rn F (.Return (some (.Tuple [.Constant (.str n) c0 p0,.Name x px] kt pt)) pos) ρ (.rt (.tp [tx n,t])):=by
 refine⟨_,hps,λD σ G0 H0 G H r k=>?_⟩;obtain⟨fp,r⟩:=r;obtain⟨v,f,fr,q1,q2,q3,q4⟩:_:=r.own.split h;have sub:∀a∈f,a∈fp:=λa ha=>q4.mem_iff.mpr (xw _ ha)
 refine⟨v,q1,by show 2<=sizeLine;decide,λp hp=>?_⟩;have pf:p∉f:=λz=>by
  obtain⟨u,hu⟩:=r.own.there p (sub p z);rw[hp]at hu;cases hu
 refine k (.ref p) G _ (p::f) (r.st.trans (.jR r.st.s hp)) ⟨p,_,f,rfl,bM,⟨.str n,[v],[],f,rfl,rfl,⟨rfl,rfl,rfl⟩,⟨v,[],f,[],rfl,(zw f).symm,q2.frame pf,rfl,rfl⟩⟩,rfl⟩ ⟨λa ha=>?_,λa ha=>?_,AE.mpr ⟨pf,(AN.mp (q4.nodup_iff.mp r.d)).1⟩⟩
 ·obtain rfl|z:=ff.mp ha
  ·exact r.st.h.free hp
  ·exact r.n a (sub a z)
 ·obtain rfl|z:=ff.mp ha
  ·exact r.st.s.free hp
  ·exact r.g a (sub a z)
theorem Wl {F:aU ι}(j j2:Nat)(qQ:j≠j2)(h : ρ[j]?=some (some (.ow us)))(h2 : ρ[j2]?=some (some (aE ns)))(hz:us.length+ns.length<=sizeLine)(hps:∀i,PS (F.cx i) st (pN (ni F.K "list" C9 (dG j) (dR (dG j2) d8)))):Rn F st ρ (.nx (ρ.set j (some (.ow (us++ns.map λn=>.fz (di n)))))):=by
 refine⟨_,hps,λD σ G0 H0 G H r k=>?_⟩;obtain⟨fp,r⟩:=r;obtain⟨l0,Av,Aw,c1,c2,_⟩:_:=r.mut h (.refl r.st.s);obtain⟨l,vs,fq,d1,d2,d3,d4,d5,d6,d7⟩:_:=r.mut h (.refl r.st.s);rw[c1]at d1;cases d1;obtain⟨v2,f2,fr,a1,a2,a3,a4⟩:_:=r.own.split h2;obtain⟨b,zs,f',rfl,hb,ob,_⟩:_:=a2;obtain⟨rfl,rfl⟩:=Kj ob;refine⟨_,c1,.inl ⟨rfl,_,aK.of c2⟩,_,a1,l0,b,vs,_,rfl,rfl,d3,hb,by rw[<- d4.length,aa];exact hz,k σ G _ (d7 (us++ns.map λn=>.fz (di n)) (vs++ns.map V.int) (fq++[]) (d4.append (W3 ns)) (by rw[zw];exact d5) λa ha=>?_)⟩;rw[zw]at ha;exact .inl ha
def gO (A:Nat)(S:Nat->LI)(x:Int):Int:=((List.range A).map λa=>cz (S a) x).sum
abbrev B5:afW:=top 23
theorem VL:aZ ["shares", "one"] ["shares", "one"] (aA B5):=sk
def vg:bI:=λdd t=>∃(W:Int) (n A:Nat) (S:Nat->LI) (x:Int),0<W/\W<2^70/\(∀a,a<A->fD W n (S a))/\A<=6/\0<=x/\x<=n/\dd=[cD W A S,di x]/\t=tF (fW W (gO A S x))
theorem VM (F:bK K "dealt_of" B5 f fd)(T:Txt mg)(Yq:bj P w K mg base (k+3) "sum_of" f1 cL ["some"] NZ):bL P w K mg base (k+4) f fd ["shares", "one"] vg:=by
 refine bR F.d VL 'H' λdd t h=>?_
 obtain⟨W,n,A,S,x,w0,w1,b9,a6,x0,x1,rfl,rfl⟩:_:=h;have big:=cw;refine az (cA (Ev.s (aW Yq (br _) (ah (fO (own:=["row"]) (fr:=[1]) (List.range A) (λa=>dr W (S a)) (λa=>tF (fW W (cz (S a) x))) (λi=>cg) (cm (ae 0 rfl) rfl) (bp 0 (λ_=>bH)) 'Q' (by grind) (λa ha=>⟨_,rfl,bz (ae 0 rfl) (ae 1 rfl) rfl (rowAt (b9 a (l9.mp ha)) x0 x1)⟩) (λdd=>by cases dd<;>rfl)) ao) ⟨W,(List.range A).map λa=>cz (S a) x,w0,w1,λs hs=>?_,by grind,?_,rfl⟩)))
 ·obtain⟨a,ha,rfl⟩:=i8.mp hs;exact pj (b9 a (l9.mp ha)) x
 ·show[er (.ow _)]=_;rw[eG];show[Dv.lst _]=[Dv.lst _]
  rw[gz];rfl
def nH (W:Int)(c:LI)(A:Nat)(S:Nat->LI):LI:=((List.range c.length).filter λj=>decide (gO A S ((j:Nat):Int)=(c.getD j 0)*W)).map λj=>((j:Nat):Int)
abbrev Bv:afW:=top 27
theorem Uv:aZ ["counts", "shares"] ["counts", "shares"] (aA Bv):=sk
def Qn:bI:=λdd t=>∃(c:LI) (W:Int) (A:Nat) (S:Nat->LI),c.length<=6/\0<W/\W<2^70/\(∀a,a<A->fD W c.length (S a))/\A<=6/\dd=[dis c,cD W A S]/\t=aE (nH W c A S)
theorem Ob (h : 0<W):(lT c 1,lB c 1)=fW W (c*W):=rN h 'Q' 'O'
theorem Uw (F:bK K "full_things" Bv f fd)(T:Txt mg)(Wm:bj P w K mg base (k+4) "dealt_of" f1 cL ["shares", "one"] vg)(mB:bj P w K mg base (k+1) "fraction" f2 fd2 ["top", "bottom"] lK)(B1:Binds K fd2 ["top", "bottom"] [.int 1 tk]):bL P w K mg base (k+5) f fd ["counts", "shares"] Qn:=by
 refine bR F.d Uv 'H' λdd t h=>?_
 obtain⟨c,W,A,S,c6,w0,w1,b9,a6,rfl,rfl⟩:_:=h;have r25:k+2<=k+5:='O'
 have big:=cw;refine az (cA (Ev.s (Ev.to (t':=aE (nH W c A S)) (zy (own:=["thing", "count"]) (fr:=[1]) (λi=>cg) (rJ T.mz (ae 0 rfl) rfl) (iO 0 1 (λ_=>bH)) 'Q' (λk=>decide (gO A S ((k))=(c.getD k 0)*W)) (λk=>ti ((k))) ?_ (λk d hd=>?_) (λdd=>?_)) ?_)))
 ·rw[lr,aa];lia
 ·obtain⟨y,hy,rfl⟩:=lh hd;obtain⟨z,hz,rfl⟩:=gF hy;have hk:=(gr.mp hz).1;refine⟨_,rfl,?_,λ_=>ae 0 rfl⟩;have ez:c.getD k 0=z:=by rw[ir,hz];rfl
  rw[ez];exact hZ (Et.to (yT (aW Wm (br _) (ah (ae 2 rfl) (ah (ae 0 rfl) ao)) ⟨W,c.length,A,S,((k)),w0,w1,b9,a6,'O','O',rfl,rfl⟩) (CM mB B1 r25 (ah (ae 1 rfl) ao) ⟨z,1,'Q','Q',rfl,rfl⟩) (.inr ⟨_,_,rfl,rfl⟩) (Cn (vf _) 'Q')) (by
   show bZ (dF _) (dF _)=_;rw[Ob w0,Ez,afN];exact⟨λq=>yV w0 q,λq=>by rw[q]⟩))
 ·match dd with
  |[] => rfl
  |[_] => rfl
  |_::_::_=>rfl
 ·rw[lr,aa];show _=Tr.ow ((List.map _ _).map _);rw[gz]
  rfl
abbrev nLU:List Str:=["many", "pairs", "order", "rest", "free", "held"]
abbrev B6:afW:=top 28
theorem oY:aZ nLU ["many", "pairs"] (aA B6):=sk
def Oc:bI:=λdd t=>∃(N:Nat) (ps:List (Nat×Nat)),1<=N/\N<=7/\ps.length<=49/\dd=[di N,.lst (ps.map λp=>dT (lP p))]/\t=aE (jD ps N)
theorem adt {α:Type}(p : α->Bool)(l:List α):(l.filter p).length<=l.length:=Pe p l
theorem VN (F:bK K "lined_up" B6 f fd)(T:Txt mg):bL P w K mg base k f fd ["many", "pairs"] Oc:=by
 refine bR F.d oY 'H' λdd t h=>?_
 obtain⟨N,ps,n1,n7,pl,rfl,rfl⟩:_:=h;have big:=cw;have nl:(aB N).length=N:=by grind [aB]
 have en:er (Tr.ow (((List.range ((N:Nat):Int).toNat).map λi=>(0+((i:Nat):Int))).map λn=>Tr.fz (di n)))=dis (aB N):=by rw[pI,List.map_id'];rfl
 refine ax (aV 2 (Ev.s (cu ao (zd _))) (λ_=>oY.nd)) ?_;refine ax (aV 3 (Ev.s (Ev.as (xT T.ic T.dW (ae 0 rfl) 'O' 'O') en)) (λ_=>oY.nd)) ?_;refine ax (aV 4 (Ev.s (ae 3 rfl)) (λ_=>oY.nd)) ?_;refine xS (α:=LI×LI×LI×Nat) (λa=>[some (ti N),some (.fz (.lst (ps.map λp=>dT (lP p)))),some (aE a.1),some (.fz (dis a.2.1)),some (.fz (dis a.2.2.1)),none]) (λa=>(a.2.2.1≠[]->a.2.1.length<a.2.2.2)/\a.1.length+a.2.1.length<=7/\jD ps N=if a.2.2.1=[]then a.1 else tS ps a.2.2.2 a.1 a.2.1) (λa=>!a.2.2.1.isEmpty) (λa=>a.2.1.length+if a.2.2.1=[]then 0 else 1) ([],aB N,aB N,N+1) rfl ⟨λ_=>'J','J',?_⟩ (λa h=>?_) (λa h hp=>?_) (λa h hp=>?_)
 ·grind [jD]
 ·refine gC.to (Et.s (iM (ae 4 rfl) (cu ao (zd _)) (.inl ⟨_,_,rfl,rfl⟩) (Cn (jI _) 'Q'))) ?_;cases a.2.2.1<;>rfl
 ·obtain⟨o,r,fr,n⟩:=a;obtain⟨h1,h2,h3⟩:_:=h;dsimp only at h1 h2 h3 hp ⊢;have HW:fr≠[]:=λz=>'J'
  rw[rf HW]at h3;have h1:=h1 HW;have rl:=L4 ps r;cases n with
  |zero=>lia
  |succ n=>
   refine⟨(o++iu ps r,ql ps r,iu ps r,n),⟨λz=>?_,?_,?_⟩,?_,?_⟩
   ·have:=afg.mpr z
    grind
   ·grind
   ·grind [tS]
   ·rw[rf HW];by_cases z:iu ps r=[]
    ·simp_all
    ·have:=afg.mpr z
     grind
   ·refine ax (aV 5 (Ev.s (Ev.as (d:=dis (m7 ps r)) (oi (own:=["a", "b"]) (fr:=[3]) ps (λp=>dT (lP p)) (λp=>r.contains (p.1:Int)) (λp=>ti (p.2:Int)) (λi=>cg) (cm (ae 1 rfl) rfl) (iO 0 1 (λ_=>bH)) 'Q' 'O' (λp hp=>⟨_,rfl,by exact hZ (zx (ae 0 rfl) (ae 2 rfl) rfl (by with_unfolding_all rfl)),λ_=>by exact ae 1 rfl⟩) (λdd=>by match dd with | [] => rfl | [_] => rfl|_::_::_=>rfl)) ?_)) (λ_=>oY.nd)) ?_
    ·rw[eG];show _=Dv.lst ((List.map _ _).map di);rw[gz];rfl
    refine ax (so 4 (vP (gD.to (t':=aE (iu ps r)) (zW (own:=["one"]) (fr:=[5]) r di (λx=>!(m7 ps r).contains x) ti (cm (ae 3 rfl) rfl) (bp 0 (λ_=>bH)) 'Q' 'O' (λx hx=>⟨_,rfl,by exact hZ (nO (ae 0 rfl) (ae 1 rfl) rfl (by with_unfolding_all rfl)),λ_=>by exact ae 0 rfl⟩) (λdd=>by cases dd<;>rfl)) rfl)) (λi=>cg) (λ_=>oY.nd)) ?_;refine ax (aV 3 (Ev.s (Ev.as (d:=dis (ql ps r)) (oi (own:=["one"]) (fr:=[5]) r di (λx=>(m7 ps r).contains x) ti (λi=>cg) (cm (ae 3 rfl) rfl) (bp 0 (λ_=>bH)) 'Q' 'O' (λx hx=>⟨_,rfl,by exact hZ (zx (ae 0 rfl) (ae 1 rfl) rfl (by with_unfolding_all rfl)),λ_=>by exact ae 0 rfl⟩) (λdd=>by cases dd<;>rfl)) ?_)) (λ_=>oY.nd)) ?_
    ·rw[pI,List.map_id'];rfl
    refine ax (Wl 2 4 'Q' rfl rfl (by grind) (λi=>ki (kr EN PySem.F.slot_list_extend PySem.F.type_list_extend JC (pv 2) (cf (pv 4) cG)))) ?_;refine oW 4 rfl (bP _) ?_;refine bE.to (XO (ρ2:=[some (ti N),some (.fz (.lst (ps.map λp=>dT (lP p)))),some (.ow ((o.map λn=>.fz (di n))++(iu ps r).map λn=>.fz (di n))),some (.fz (dis (ql ps r))),some (.fz (dis (iu ps r))),none]) ⟨[5],rfl⟩) ?_
    simp_all
 ·obtain⟨o,r,fr,n⟩:=a;obtain⟨_,_,h3⟩:=h;dsimp only at h3 hp ⊢;have fe:fr=[]:=by
   simp_all
  rw[uu fe]at h3;rw[h3];exact az (kl 2 rfl)
theorem Ky (l:List α)(m:Nat)(hm:m<=l.length):cutD l (some (m:Int)) none=l.drop m:=by
 unfold cutD;rw[HT.YS,afT hm];rw[List.take_of_length_le (by rw[ael];exact br _)]
theorem DH (l:List α)(x : α):aP (l++[x]) (-1)=some x:=by
 unfold aP fh;rw[rf 'Q',vc,YA,uu 'O',Option.bind_some,show(-1+((l.length+1:Nat):Int)).toNat=l.length by lia,wb (br _),aev]
 rfl
abbrev nRG:List Str:=["rest", "wished", "path", "passed", "now"]
abbrev BI:afW:=top 29
theorem t7:aZ nRG ["rest", "wished"] (aA BI):=sk
abbrev fK (ts:List (Int×Int×Int)):Dv:=.lst (ts.map λt=>dT (l3 t))
theorem zb (ts:List (Int×Int×Int)):er (tW ts)=fK ts:=by rw[eG];rfl
def Pu:bI:=λdd t=>∃(rest:LI) (ts:List (Int×Int×Int)),rest≠[]/\rest.length<=7/\ts.length<=126/\AK rest ts/\dd=[dis rest,fK ts]/\t=tW (AJ rest ts)
theorem UW (F:bK K "ring_among" BI f fd)(T:Txt mg):bL P w K mg base k f fd ["rest", "wished"] Pu:=by
 refine bR F.d t7 'H' λdd t h=>?_
 obtain⟨rest,ts,HX,r7,tl,hH,rfl,rfl⟩:_:=h;have big:=cw;obtain⟨x0,rs,xn⟩:∃x0 rs,rest=x0::rs:=by
  cases rest with
  |nil=>exact absurd rfl HX
  |cons a l=>exact⟨a,l,rfl⟩
 have x0m:x0∈rest:='J'
 have hd0:rest.headD 0=x0:='J'
 refine ax (aV 2 (Ev.s (cu ao (zd _))) (λ_=>t7.nd)) ?_;refine ax (aV 3 (Ev.s (cu ao (zd _))) (λ_=>t7.nd)) ?_;refine ax (aV 4 (Ev.s (bz (ae 0 rfl) ak rfl (by rw[xn];exact dh rfl))) (λ_=>t7.nd)) ?_;refine xS (λa=>[some (.fz (dis rest)),some (.fz (fK ts)),some (tW (a.1.map (gZ rest ts))),some (aE a.1),some (ti a.2.1)]) (λa=>tT rest ts a.1 a.2.1/\rest.length<a.2.2+a.1.length/\AJ rest ts=xk rest ts a.2.2 a.1 a.2.1) (λa=>!a.1.contains a.2.1) (λa=>rest.length+1-a.1.length) ([],x0,rest.length+1) rfl ⟨⟨.nil,(λy h=>nomatch h),x0m,λi y z h=>by cases h⟩,'J',?_⟩ (λa h=>?_) (λa h hp=>?_) (λa h hp=>?_)
 ·show xk rest ts (rest.length+1) [] (rest.headD 0)=_;rw[hd0]
 ·exact Et.pk (nO (ae 4 rfl) (ae 3 rfl) (bP _) (by with_unfolding_all rfl))
 ·obtain⟨p,x,n⟩:=a;obtain⟨h1,h2,h3⟩:_:=h;dsimp only at h1 h2 h3 hp ⊢;have dv:=h1.len;have hc:p.contains x=false:='J'
  cases n with
  |zero=>omega
  |succ n=>
   obtain⟨k1,k2,k3,rr,k4⟩:_:=Pr hH h1.HV;have P2:=h1.more hH hc;generalize hpk:gZ rest ts x=tt at k1 k2 k3 k4 P2;refine⟨(p++[x],tt.2.1,n),⟨P2,?_,?_⟩,?_,?_⟩
   ·grind
   ·grind [xk]
   ·grind
   ·refine ax (jF 3 rfl (Ev.s (ae 4 rfl)) (by grind)) ?_;refine ax (jF 2 rfl (Ev.s (bz (d:=dT (l3 tt)) (oi (own:=["wish"]) (fr:=[0,4]) ts (λt=>dT (l3 t)) (λt=>rest.contains t.2.1&&decide (t.2.2=x)) (λt=>.fz (dT (l3 t))) (λi=>cg) (cm (ae 1 rfl) rfl) (bp 0 (λ_=>bH)) 'Q' 'Z' (λt ht=>?_) (λdd=>by cases dd<;>rfl)) ak (eG ..) ?_)) (by grind)) ?_
    ·have a1:aP ((l3 t).map di) 1=some (di t.2.1):=rfl;have a2:aP ((l3 t).map di) 2=some (di t.2.2):=rfl;exact⟨_,rfl,hZ (Ew.et (oe (zx (bU (ae 0 rfl) ak rfl a1) (ae 1 rfl) rfl (by with_unfolding_all rfl)) λ_=>(nS (gI (bU (ae 0 rfl) ak rfl a2) (ae 2 rfl))))),λ_=>ae 0 rfl⟩
    ·rw[k4];exact dh rfl
    have e2:er (.ow (((p.map (gZ rest ts)).map λt=>Tr.fz (dT (l3 t)))++[Tr.fz (dT (l3 tt))]))=.lst (((p.map (gZ rest ts)).map λt=>dT (l3 t))++[dT (l3 tt)]):=by
     rw[show Tr.ow (((p.map (gZ rest ts)).map λt=>Tr.fz (dT (l3 t)))++[Tr.fz (dT (l3 tt))])=tW (p.map (gZ rest ts)++[tt])from by simp,zb];simp
    have a1:aP ((l3 tt).map di) 1=some (di tt.2.1):=rfl;refine az (Rn.to (aV 4 (Ev.pk (bU (bz (ae 2 rfl) (yS ak) e2 (DH _ _)) ak rfl a1) True.intro) (λ_=>t7.nd)) ?_)
    simp_all
 ·obtain⟨p,x,n⟩:=a;obtain⟨h1,h2,h3⟩:_:=h;dsimp only at h1 h2 h3 hp ⊢;have dv:=h1.len;have hc:p.contains x=true:='O'
  have xm:=Mc.mp hc;have e3:AJ rest ts=((p.drop (p.idxOf x)).map (gZ rest ts)).reverse:=by
   rw[h3];cases n with
   |zero=>omega
   |succ n=>
    show(if p.contains x=true then _ else _)=_;lia
  refine oW 2 rfl (zb _) ?_;refine oW 3 rfl (bP _) ?_;refine az (cA (bO.to (Ev.s (Wh T.ic T.Wi (ye (ae 2 rfl) rfl (uF (Kg (ae 3 rfl) rfl (ae 4 rfl) xm)) De))) ?_));rw[e3,Ky _ _ (by grind)];rw[<- afJ,<- afJ,<- List.map_reverse,gz]
  rfl
end
section
def g3 (d:LI):Int×Int×Int:=(d.getD 0 0,d.getD 1 0,d.getD 2 0)
def kW (n:Nat)(os:LL)(S:Nat->LI):List (Int×Int×Int):=(lS ((bN n os S os.length).map l3)).map g3
theorem acf (n:Nat)(os:LL)(S:Nat->LI):(kW n os S).map l3=lS ((bN n os S os.length).map l3):=by
 unfold kW;rw[gz];refine(List.map_congr_left λd hd=>?_).trans (aeJ _);obtain⟨t,_,rfl⟩:=i8.mp ((ug _).mem_iff.mp hd)
 rfl
theorem uO (n:Nat)(os:LL)(S:Nat->LI):(kW n os S).Perm (bN n os S os.length):=by
 have:=(ug ((bN n os S os.length).map l3)).map g3;rw[gz]at this;exact this.trans (aeD ((List.map_congr_left λt _=>rfl).trans (aeJ _)))
def oR (W:Int)(c:LI)(os:LL)(S:Nat->LI):List (Int×Int×Int):=(kW c.length os S).filter λt=>!(nH W c os.length S).contains t.2.1
def cP (c:LI)(os:LL)(S:Nat->LI):List (Nat×Nat):=kz (xi c.length os S)
def Ac (W:Int)(c:LI)(os:LL)(S:Nat->LI):Tr:=
 match oR W c os S with
 |t::_=>.fz (.tup [ds "left",di t.1,di t.2.1,di t.2.2])
 |[] => if dD (cP c os S) (c.length+1)=[]then .tp [tx "good",aE (jD (cP c os S) (c.length+1))]else .tp [tx "ring",tW (AJ (dD (cP c os S) (c.length+1)) (kW c.length os S))]
theorem sY {os:LL}(ok:dX c os)(ht:t∈bN c.length os S os.length) : 0<=t.2.1/\t.2.1<=c.length/\0<=t.2.2/\t.2.2<=c.length/\t.2.1≠t.2.2:=by
 obtain⟨a,j,ha,hj,_,x,hx,rfl⟩:_:=CV.mp ht;have om:os.getD a []∈os:=by
  simp_all
 have h1:=(jH (ok.bT _ om)).mp (EM hx);have h2:=(jH (ok.bT _ om)).mp (ba (yk hj));refine⟨h1.1,h1.2,h2.1,h2.2,λz=>?_⟩;have nd:=(mU ok.c6 (ok.nd _ om) (ok.bT _ om)).2;obtain⟨i,hi,ei⟩:=aej.mp hx
 grind [List.getElem_inj]
theorem EA {os:LL}(h:p∈cP c os S):∃t∈bN c.length os S os.length,p=(t.2.1.toNat,t.2.2.toNat):=by
 have h:=(BY.mp h).2
 grind [xi]
theorem abm {os:LL}(ok:dX c os):AK (dD (cP c os S) (c.length+1)) (kW c.length os S):=λx hx=>by
 obtain⟨p,h1,h2,rfl⟩:=DG hx;obtain⟨t,ht,rfl⟩:=EA h1;have hi:=sY ok ht
 grind [uO]
theorem Yr (ps:List (Nat×Nat)):(kz ps).length<=49:=Cn (Pe _ _) 'Q'
abbrev nJU:List Str:=["table", "shares", "many", "wished", "full", "left", "order", "rest"]
abbrev C0:afW:=top 30
theorem o7:aZ nJU ["table", "shares"] (aA C0):=sk
def Qo:bI:=λdd t=>∃(c:LI) (os:LL) (W:Int) (S:Nat->LI),dX c os/\0<W/\W<2^70/\(∀a,a<os.length->fD W c.length (S a))/\dd=[gn c os,cD W os.length S]/\t=Ac W c os S
theorem Xf (F:bK K "judged" C0 f fd)(T:Txt mg)(CY:bj P w K mg base (k+2) "wishes" f1 cL ["table", "shares"] FG)(UX:bj P w K mg base (k+5) "full_things" f2 fd2 ["counts", "shares"] Qn)(Wn:bj P w K mg base k "lined_up" f3 qZ ["many", "pairs"] Oc)(Vl:bj P w K mg base (k+3) "over_pairs" f4 fd4 ["table", "shares"] Pq)(Vm:bj P w K mg base k "ring_among" f5 fd5 ["rest", "wished"] Pu):bL P w K mg base (k+6) f fd ["table", "shares"] Qo:=by
 refine bR F.d o7 'H' λdd t h=>?_
 obtain⟨c,os,W,S,ok,w0,w1,b9,rfl,rfl⟩:_:=h;have big:=cw;have o6:=ok.o6;have c6:=ok.c6;have fl:=λo ho=>(mU c6 (ok.nd o ho) (ok.bT o ho)).1
 have wl:=pA S fl os.length (br _);have wl2:(kW c.length os S).length<=126:=by rw[(uO _ _ _).length_eq];lia
 obtain⟨N,eN⟩:∃N,N=c.length+1:=⟨_,rfl⟩
 have ew:er (.ow ((lS ((bN c.length os S os.length).map l3)).map λd=>.fz (dT d)))=fK (kW c.length os S):=by
  rw[eG,<- acf,gz];rfl
 refine ax (aV 2 (bO.to (t':=ti N) (Ev.s (eI (bV T.bS (bU (d:=dis c) (ae 0 rfl) ak rfl rfl) (.inl rfl)) ak)) 'J') (λ_=>o7.nd)) ?_;refine ax (aV 3 (Ev.s (Ev.as (d:=fK (kW c.length os S)) (aW CY (by show k+3<=k+6;lia) (ah (ae 0 rfl) (ah (ae 1 rfl) ao)) ⟨c,os,W,S,ok,b9,rfl,rfl⟩) ew)) (λ_=>o7.nd)) ?_;refine ax (aV 4 (Ev.s (Ev.as (aW UX (br _) (ah (bU (d:=dis c) (ae 0 rfl) ak rfl rfl) (ah (ae 1 rfl) ao)) ⟨c,W,os.length,S,c6,w0,w1,b9,o6,rfl,rfl⟩) (bP _))) (λ_=>o7.nd)) ?_;refine ax (so 5 (vP (gD.as (d:=fK (oR W c os S)) (zW (own:=["wish"]) (fr:=[4]) (kW c.length os S) (λt=>dT (l3 t)) (λt=>!(nH W c os.length S).contains t.2.1) (λt=>.fz (dT (l3 t))) (cm (ae 3 rfl) rfl) (bp 0 (λ_=>bH)) 'Q' 'O' (λt ht=>?_) (λdd=>by cases dd<;>rfl)) (eG ..))) (λi=>cg) (λ_=>o7.nd)) ?_
 ·have a1:aP ((l3 t).map di) 1=some (di t.2.1):=rfl;exact⟨_,rfl,hZ (nO (bU (ae 0 rfl) ak rfl a1) (ae 1 rfl) rfl (by with_unfolding_all rfl)),λ_=>ae 0 rfl⟩
 have AO:∀l:List (Int×Int×Int),dH (fK l)<=50:=λl=>Cn (uH (n:=1) λd hd=>by
  grind [NF]) 'Q'
 unfold Ac;cases hl:oR W c os S with
 |cons t l=>
  dsimp only;have jY:aP ((t::l).map λt=>dT (l3 t)) 0=some (dT (l3 t)):=by exact dh rfl
  have a0:aP ((l3 t).map di) 0=some (di t.1):=rfl;have a1:aP ((l3 t).map di) 1=some (di t.2.1):=rfl;have a2:aP ((l3 t).map di) 2=some (di t.2.2):=rfl;refine yA (jL (Et.s (iM (ae 5 rfl) (cu ao (zd _)) (.inl ⟨_,_,rfl,rfl⟩) (AO _))) rfl (az (cA (Ev.s (kj (ah DZ (ah (bU (bz (ae 5 rfl) ak rfl jY) ak rfl a0) (ah (bU (bz (ae 5 rfl) ak rfl jY) ak rfl a1) (ah (bU (bz (ae 5 rfl) ak rfl jY) ak rfl a2) ao)))) rfl (by grind))))))
 |nil=>
  dsimp only;refine ax (dq (Et.s (iM (ae 5 rfl) (cu ao (zd _)) (.inl ⟨_,_,rfl,rfl⟩) (AO _))) rfl) ?_;have eo:er (RK (kz (xi c.length os S)))=.lst ((cP c os S).map λp=>dT (lP p)):=by rw[eG,gz];rfl
  refine ax (aV 6 (bO.to (t':=aE (jD (cP c os S) N)) (Ev.s (aW Wn (by show k+1<=k+6;lia) (ah (ae 2 rfl) (ah (aW Vl (by show k+4<=k+6;lia) (ah (ae 0 rfl) (ah (ae 1 rfl) ao)) ⟨c,os,W,S,ok,b9,rfl,rfl⟩) ao)) ⟨N,cP c os S,'O','O',Yr _,?_,rfl⟩)) rfl) (λ_=>o7.nd)) ?_
  rotate_left
  ·show[di _,er _]=_;rw[eo]
  refine ax (so 7 (acI (gD.to (t':=aE (dD (cP c os S) N)) (zW (own:=["one"]) (fr:=[6]) (aB N) di (λx=>!(jD (cP c os S) N).contains x) ti (bb.to (fM T.dW (ae 2 rfl) ⟨'O','O'⟩) ?_) (bp 0 (λ_=>bH)) 'Q' (by grind [aB]) (λx hx=>⟨_,rfl,by exact hZ (nO (ae 0 rfl) (ae 1 rfl) (bP _) (by with_unfolding_all rfl)),λ_=>by exact ae 0 rfl⟩) (λdd=>by cases dd<;>rfl)) rfl) (yz _)) (λi=>cg) (λ_=>o7.nd)) ?_
  ·simp_all [aB]
  have rl:(dD (cP c os S) N).length<=7:=Cn (Pe _ _) (by grind [aB]);refine oW (d:=dis (dD (cP c os S) N)) 7 rfl (bP _) ?_;rw[<- eN];by_cases hr:dD (cP c os S) N=[]
  ·rw[uu hr];refine ax (dq (gC.to (q:=false) (Et.s (iM (ae 7 rfl) (cu ao (zd _)) (.inl ⟨_,_,rfl,rfl⟩) (Cn (jI _) 'Q'))) (by rw[hr];rfl)) rfl) ?_;exact az (Z8 6 rfl (λi=>jb (yQ (cf MC (cf (pv 6) cG)))))
  ·rw[rf hr];refine yA (jL (gC.to (q:=true) (Et.s (iM (ae 7 rfl) (cu ao (zd _)) (.inl ⟨_,_,rfl,rfl⟩) (Cn (jI _) 'Q'))) ?_) rfl (az (cA (Ev.s (oh (ah DZ (ah (aW Vm (by show k+1<=k+6;lia) (ah (ae 7 rfl) (ah (ae 3 rfl) ao)) ⟨dD (cP c os S) N,kW c.length os S,hr,rl,wl2,by rw[eN];exact abm ok,rfl,rfl⟩) ao)) (by grind))))));cases h:dD (cP c os S) N with
   |nil=>exact absurd h hr
   |cons _ _=>rfl
end
section
theorem count_set (l:LI)(i:Nat)(w y:Int):(l.set i w).count y<=l.count y+if y=w then 1 else 0:=by
 induction l generalizing i with
 |nil=>simp
 |cons a l ih=>
  cases i with
  |zero=>
   grind
  |succ i=>
   grind
structure Cq (c:LI) (s:LI×LI):Prop where
 len:s.1.length=c.length
 le:∀x:Nat,x<c.length->((s.2.count (x:Int):Nat):Int)+s.1.getD x 0<=c.getD x 0/\0<=s.1.getD x 0
theorem L6 {c:LI}{s:LI×LI}(q:Cq c s){w:Int}{i:Nat}(w0 : 0<=w)(hp : 0<s.1.getD w.toNat 0):Cq c (s.1.set w.toNat (s.1.getD w.toNat 0-1),s.2.set i w):=by
 refine⟨by rw[SI];exact q.len,λx hx=>?_⟩;have h:=q.le x hx;have hc:=count_set s.2 i w x;have hl:=q.len;dsimp only;by_cases e:x=w.toNat
 ·subst e;have e2:(s.1.set w.toNat (s.1.getD w.toNat 0-1)).getD w.toNat 0=s.1.getD w.toNat 0-1:=by
   rw[ir,aaa 'O'];rfl
  rw[e2];have:(if((w.toNat:Nat):Int)=w then 1 else 0)<=1:=by split<;>lia
  lia
 ·have e2:(s.1.set w.toNat (s.1.getD w.toNat 0-1)).getD x 0=s.1.getD x 0:=by
   rw[ir,FF (adU e),<- ir]
  rw[e2];rw[rf 'O']at hc;lia
theorem Kz (h0:∀x∈c,0<=x)(hd:∀x∈d,x=(c.length:Int)):Cq c (c,d):=by
 refine⟨rfl,λx hx=>?_⟩;have:d.count (x:Int)=0:=List.count_eq_zero.mpr λz=>by grind
 simp_all
theorem Od (h0:∀x∈c,0<=x):∀k,Cq c (ip sm c A k)
 |0=>Kz h0 λx hx=>by obtain⟨_,_,rfl⟩:=i8.mp hx;rfl
 |k+1=>by
  have ih:=Od (sm:=sm) (A:=A) h0 k;show Cq c (kB sm c.length A k (ip sm c A k));unfold kB;split
  ·rename_i h
   rw[ID,NO,NO]at h;exact L6 ih (TM _ 'O') h.2
  ·exact ih
theorem JS:∀{l:LI} {s:LI×LI},Cq c s->(∀x∈l,0<=x)->Cq c (l.foldl (gH c.length a) s)
 |[],_,h,_=>h
 |x::l,s,h,hl=>by
  rw[aex];refine JS ?_ λy hy=>hl y (.tail _ hy)
  unfold gH;split
  ·rename_i hh
   rw[ID,NO,NO]at hh;exact L6 h (hl x (.head _)) hh.2
  ·exact h
theorem L7 {os:LL}(h0:∀x∈c,0<=x)(h:∀o∈os,∀x∈o,0<=x/\x<(c.length:Int)):∀k,Cq c (cF sm cell c os k).2
 |0=>Kz h0 λx hx=>'J'
 |k+1=>JS (L7 h0 h k) λx hx=>(Ey h _ _ x hx).1
theorem abn {os:LL}(ok:dX c os)(y:Int)(hx:x<c.length):(((de c os y).count (x:Int):Nat):Int)<=c.getD x 0:=by
 have h0:=λx hx=>(ok.cnt x hx).1
 unfold de;split
 ·have:=(Od (sm:=cZ (y/4) (os.length+1)) (A:=os.length) h0 os.length).le x hx;unfold qk;lia
 ·have:=(L7 (sm:=cZ (y/4) (os.length+1)) (cell:=y) h0 ok.bT os.length).le x hx;unfold pS;lia
theorem sum_add {α:Type}(l:List α)(f g : α->Int):(l.map λa=>f a+g a).sum=(l.map f).sum+(l.map g).sum:=by
 induction l with
 |nil=>rfl
 |cons a l ih=>rw[JJ,JJ,JJ,Na,Na,Na,ih];lia
theorem L8 (w x:Int):∀d:LI,(d.map λy=>if y=x then w else 0).sum=w*((d.count x:Nat):Int)
 |[] => by simp
 |a::d=>by
  rw[JJ,Na,L8 w x d,List.count_cons]
  grind
theorem Xg {α:Type}(d:LI)(f:Int->α):(List.range d.length).map (λa=>f (d.getD a 0))=d.map f:=by
 refine Po λi=>?_
 grind
theorem Oe {os:LL}(ok:dX c os)(hx:x<c.length):∀cells,((List.range os.length).map λ(a:Nat)=>gX cells c os (0+(a:Int)) x).sum<=c.getD x 0*cC cells
 |[] => by
  have:((List.range os.length).map λ(a:Nat)=>gX [] c os (0+(a)) x)=(List.range os.length).map λ_=>(0):=List.map_congr_left λa _=>rfl
  rw[this];have z:∀l:List Nat,(l.map λ_=>(0:Int)).sum=0:=by
   intro l
   induction l with
   |nil=>rfl
   |cons _ _ ih=>rw[JJ,Na,ih];rfl
  rw[z];show(0)<=c.getD x 0*0;lia
 |y::ys=>by
  have ih:=Oe ok hx ys;have dl:=(DF ok.bT y).1;have e:((List.range os.length).map λ(a:Nat)=>gX (y::ys) c os (0+(a)) x)=(List.range os.length).map λ(a)=>(if(de c os y).getD a 0=(x)then wF y else 0)+gX ys c os (0+(a)) x:=List.map_congr_left λa _=>by
   unfold gX
   grind
  rw[e,sum_add];have e2:((List.range os.length).map λa=>if(de c os y).getD a 0=(x)then wF y else 0)=(de c os y).map λz=>if z=(x:Int)then wF y else 0:=by
   grind [Xg]
  rw[e2,L8];have hc:=abn ok y hx;have hw:=FE y;have es:cC (y::ys)=wF y+cC ys:='X'
  rw[es,aes,Int.mul_comm (c.getD x 0) (wF y)];have:=Int.mul_le_mul_of_nonneg_left hc (show 0<=wF y by lia);lia
theorem Z9 {c:LI}{os:LL}(hx:x<=c.length):cz (dN cells c os a) (x:Int)=gX cells c os a x:=by
 unfold cz dN;rw[BS,ir,l8];have:(aB (c.length+1))[x]?=some (x:Int):=by
  unfold aB;rw[l8,Me 'O'];show some (0+(x:Int))=_;rw[adS]
 rw[this];rfl
end
section
def ac5:afW->List afW
 | .ClassDef _ _ _ b _ _ _ _ _ _ _=>b
 |_=>[]
abbrev nI (j:Nat):afW:=(ac5 (top 32)).getD j (.Pass ⟨0,0,0,0⟩)
structure Ms where
 A:Nat
 M:Nat
 O:Nat->List Nat
 s:ag.St
abbrev iN (l:List Nat):LI:=l.map λ(x:Nat)=>(x:Int)
abbrev bB (m:Nat)(f:Nat->Int):LI:=(List.range m).map f
abbrev kX (a m:Nat)(f:Nat->Nat->Int):Dv:=.lst ((List.range a).map λx=>dis (bB m (f x)))
abbrev orM (st:Ms):Dv:=.lst ((List.range st.A).map λx=>dis (iN (st.O x)))
def Th (K:Frag)(C:adG)(st:Ms)(G:Hp)(m:adG):Prop:=∃dx v1 v2 v3 v4 v5,G m=some (.ins C dx [("orders",v1),("owned",v2),("spare",v3),("got",v4),("wanted",v5)])/\Hv K G (orM st) v1/\Hv K G (kX st.A st.M st.s.own) v2/\Hv K G (dis (bB st.M st.s.sp)) v3/\Hv K G (kX st.A st.M st.s.got) v4/\Hv K G (dis (bB st.A st.s.wn)) v5
theorem Th.mono (e:aj G G')(h:Th K C st G m):Th K C st G' m:=by
 obtain⟨dx,v1,v2,v3,v4,v5,h0,h1,h2,h3,h4,h5⟩:_:=h;exact⟨dx,v1,v2,v3,v4,v5,e _ _ h0,h1.mono e,h2.mono e,h3.mono e,h4.mono e,h5.mono e⟩
structure kY (K:Frag) (C:adG):Prop where
 cl:iX K C
 n1:jK K C "orders"
 n2:jK K C "owned"
 n3:jK K C "spare"
 n4:jK K C "got"
 n5:jK K C "wanted"
structure Km (P:afU) (w:afV) (K:Frag) (mg:Str->Option vn) (base:Heap) (C:adG) (m:Str) (k:Nat) (f:adG) (fd:FuncData) (ps:List Str) (sp:Sp):Prop where
 m:Meth K C m f
 ok:bQ P w K mg base bx k f fd ps sp
 b:Binds K fd ps []
theorem lh {k:Nat}(h:(gL xs)[k]?=some d):∃x,xs[k]?=some x/\d=.tup [di k,x]:=by
 unfold gL at h;rw[Pf]at h;cases e:xs[k]? with
 |none=>rw[e]at h;cases e2:(List.range xs.length)[k]?<;>rw[e2]at h<;>cases h
 |some x=>
  rw[e,Me (gr.mp e).1]at h;exact⟨x,rfl,(GG h).symm⟩
theorem lr (xs:List Dv):(gL xs).length=xs.length:=by grind [gL]
theorem zc (h:((bB m f).map di)[k]?=some d):k<m/\d=di (f k):=by
 rw[l8,l8]at h;obtain l|l:=ET k m
 ·rw[Me l]at h;exact⟨l,(GG h).symm⟩
 ·rw[Pd (by rw[xy];exact l)]at h;cases h
theorem zf {g:Nat->Dv}(h:((List.range a).map g)[k]?=some d):k<a/\d=g k:=by
 grind
theorem sP (f:Nat->Int)(h:k<m):aP ((bB m f).map di) (k:Int)=some (di (f k)):=dh 'J'
theorem Pw (g:Nat->Dv)(h:k<a):aP ((List.range a).map g) (k:Int)=some (g k):=dh 'J'
theorem nJ {K:Frag}{G:Hp}{ρ:En}{σ:St}(h:∀x∈ρ,x=none):aX K G ρ σ:=λj d e=>by
 cases h _ (ba e)
theorem xq {K:Frag}{G:Hp}{ρ:En}{σ:St}{o:Option V}(h:aX K G ρ σ):aX K G (none::ρ) (o::σ):=λj d e=>by
 cases j with
 |zero=>cases e
 |succ j=>exact h j d e
theorem gf {K:Frag}{G:Hp}{ρ:En}{σ:St}{d:Dv}{v:V}(x:Hv K G d v)(h:aX K G ρ σ):aX K G (some (.fz d)::ρ) (some v::σ):=λj d e=>by
 cases j with
 |zero=>cases e;exact⟨v,rfl,x⟩
 |succ j=>exact h j d e
theorem DI {K:Frag}{G:Hp}{σ:St}:aX K G [none] σ:=nJ 'Y'
theorem L9 {K:Frag}{G:Hp}{v:V}{d:Dv}{r:St}{o:Option V}(h:Hv K G d v):aX K G [none,some (.fz d)] (o::some v::r):=xq (gf h (nJ 'Y'))
theorem oE {α:Type}{l:List α}{n:Nat}(h:l.length=n+1):∃a r,l=a::r/\r.length=n:=by
 cases l with
 |nil=>cases h
 |cons a r=>exact⟨a,r,rfl,Nat.succ.inj h⟩
theorem EB (A:Nat)(p:Nat->Bool):Tr.ow (((List.range A).filter p).map λ(k:Nat)=>ti (k:Int))=aE (iN ((List.range A).filter p)):=by
 simp_all
section
abbrev jE (K:Frag)(C:adG)(st:Ms)(N:List Str)(dd:List Dv):Hp->St->Prop:=λG σ => ∃a rest,σ=start N (.ref a::rest)/\Th K C st G a/\aG K G dd rest
theorem EC:Mo (jE K C st N dd):=λG G' σ e z9=>by obtain⟨a,rest,h1,h2,h3⟩:_:=z9;exact⟨a,rest,h1,h2.mono e,h3.mono e⟩
theorem Gy (h:jE K C st N dd G σ):∃a dx v1 v2 v3 v4 v5,σ[0]?=some (some (.ref a))/\G a=some (.ins C dx [("orders",v1),("owned",v2),("spare",v3),("got",v4),("wanted",v5)])/\Hv K G (orM st) v1/\Hv K G (kX st.A st.M st.s.own) v2/\Hv K G (dis (bB st.M st.s.sp)) v3/\Hv K G (kX st.A st.M st.s.got) v4/\Hv K G (dis (bB st.A st.s.wn)) v5:=by
 obtain⟨a,rest,e,h,_⟩:_:=h;obtain⟨dx,v1,v2,v3,v4,v5,h0,hh⟩:_:=h;exact⟨a,dx,v1,v2,v3,v4,v5,by rw[e];rfl,h0,hh⟩
theorem Qp (G:Hp)(σ:St)(h:jE K C st N dd G σ):∃m dx fs v,σ[0]?=some (some (.ref m))/\G m=some (.ins C dx fs)/\fs.lookup ("owned":Str)=some v/\Hv K G (kX st.A st.M st.s.own) v:=by
 obtain⟨a,dx,v1,v2,v3,v4,v5,e,h0,h1,h2,h3,h4,h5⟩:_:=Gy h;exact⟨a,dx,_,v2,e,h0,rfl,h2⟩
theorem vS (G:Hp)(σ:St)(h:jE K C st N dd G σ):∃m dx fs v,σ[0]?=some (some (.ref m))/\G m=some (.ins C dx fs)/\fs.lookup ("spare":Str)=some v/\Hv K G (dis (bB st.M st.s.sp)) v:=by
 obtain⟨a,dx,v1,v2,v3,v4,v5,e,h0,h1,h2,h3,h4,h5⟩:_:=Gy h;exact⟨a,dx,_,v3,e,h0,rfl,h3⟩
theorem ac6 (G:Hp)(σ:St)(h:jE K C st N dd G σ):∃m dx fs v,σ[0]?=some (some (.ref m))/\G m=some (.ins C dx fs)/\fs.lookup ("wanted":Str)=some v/\Hv K G (dis (bB st.A st.s.wn)) v:=by
 obtain⟨a,dx,v1,v2,v3,v4,v5,e,h0,h1,h2,h3,h4,h5⟩:_:=Gy h;exact⟨a,dx,_,v5,e,h0,rfl,h5⟩
theorem pM (G:Hp)(σ:St)(h:jE K C st N [d] G σ):aX K G [none,some (.fz d)] σ:=by
 obtain⟨a,rest,e,_,hv⟩:_:=h;obtain⟨v,rfl,h1⟩:=iQ hv;rw[e];exact L9 h1
abbrev CB:afW:=nI 1
theorem Wo:aZ ["self"] ["self"] (aA CB):=sk
def Ad (st:Ms)  : bI:=λdd t=>st.A<=6/\dd=[]/\t=aE (iN (ag.cY st.A st.s))
theorem Wq (F:fE K "wanting" "Market.wanting" CB .none f fd)(T:Txt mg)(U:kY K C):bQ P w K mg base bx (k+1) f fd ["self"] (fZ K (Th K C) Ad):=by
 refine y9 F Wo (λst dd t h=>by obtain⟨_,rfl,_⟩:=h;rfl) (λτ h i=>fu (jb (h i))) λst dd t h=>?_
 obtain⟨hA,rfl,rfl⟩:=h;have big:=cw;have el:(gL ((bB st.A st.s.wn).map di)).length=st.A:=by grind [lr]
 refine a9.to (rW (own:=["asker", "parts"]) (fr:=[]) (λi=>cg) (λG σ _=>DI) (Cw T.mz (jJ 0 U.cl U.n5 ac6 (λi=>pv 0)) rfl) (iO 0 1 (λ_=>bH)) 'Q' (λk=>decide (0<st.s.wn k)) (λk=>ti (k)) 'O' (λk d hd=>?_)) ?_
 ·obtain⟨x,hx,rfl⟩:=lh hd;obtain⟨hk,rfl⟩:=zc hx;exact⟨_,rfl,hZ (lH (ae 1 rfl) ak),λ_=>ae 0 rfl⟩
 ·rw[el];exact EB _ _
abbrev C1:afW:=nI 2
theorem Xh:aZ ["self", "one"] ["self", "one"] (aA C1):=sk
def Gz (st:Ms)  : bI:=λdd t=>∃x:Nat,st.A<=6/\x<st.M/\dd=[di x]/\t=aE (iN (ag.owners st.A st.s x))
theorem Xi (F:fE K "owners" "Market.owners" C1 .none f fd)(T:Txt mg)(U:kY K C):bQ P w K mg base bx (k+1) f fd ["self", "one"] (fZ K (Th K C) Gz):=by
 refine y9 F Xh (λst dd t h=>by obtain⟨_,_,_,rfl,_⟩:=h;rfl) (λτ h i=>fu (jb (h i))) λst dd t h=>?_
 obtain⟨x,hA,hx,rfl,rfl⟩:=h;have big:=cw;have el:(gL ((List.range st.A).map λa=>dis (bB st.M (st.s.own a)))).length=st.A:=by grind [lr]
 refine a9.to (rW (own:=["asker", "row"]) (fr:=[1]) (λi=>cg) pM (Cw T.mz (jJ 0 U.cl U.n2 Qp (λi=>pv 0)) rfl) (iO 0 1 (λ_=>bH)) 'Q' (λk=>decide (0<st.s.own k x)) (λk=>ti (k)) 'O' (λk d hd=>?_)) ?_
 ·obtain⟨y,hy,rfl⟩:=lh hd;obtain⟨hk,rfl⟩:=zf hy;exact⟨_,rfl,hZ (lH (bz (ae 1 rfl) (ae 2 rfl) rfl (sP _ hx)) ak),λ_=>ae 0 rfl⟩
 ·rw[el];exact EB _ _
abbrev ED:afW:=nI 3
theorem aac:aZ ["self"] ["self"] (aA ED):=sk
def Qq (st:Ms)  : bI:=λdd t=>st.A<=6/\st.M<=7/\dd=[]/\t=aE (iN ((List.range st.M).filter (ag.cE st.A st.s)))
abbrev gV (K:Frag)(C:adG)(st:Ms)(j:Nat):Hp->St->Prop:=λG σ => ∃m,σ[j]?=some (some (.ref m))/\Th K C st G m
theorem vh {st:Ms}{d0 d1:Dv}{G:Hp}{σ:St}(h:∃aq vs,gV K C st 2 G aq/\aq.length=2+1/\aG K G [d0,d1] vs/\σ=a8 [0,1] vs aq):aX K G [some (.fz d0),some (.fz d1),none] σ/\gV K C st 2 G σ:=by
 obtain⟨aq,vs,⟨m,hm,ht⟩,l,hv,e⟩:_:=h;obtain⟨x,y,rfl,hx,hy⟩:_:=pZ hv;obtain⟨s0,_,rfl,l1⟩:_:=oE l;obtain⟨s1,r,rfl,_⟩:_:=oE l1;subst e;exact⟨gf hx (gf hy (nJ 'Y')),m,hm,ht⟩
theorem Qr (l:LI):bZ (dis l) (.lst [])=l.isEmpty:=by cases l<;>rfl
theorem aad (F:fE K "gone" "Market.gone" ED .none f fd)(T:Txt mg)(U:kY K C)(pB:Km P w K mg base C "owners" (k+1) fo fdo ["self", "one"] (fZ K (Th K C) Gz)):bQ P w K mg base bx (k+2) f fd ["self"] (fZ K (Th K C) Qq):=by
 refine y9 F aac (λst dd t h=>by obtain⟨_,_,rfl,_⟩:=h;rfl) (λτ h i=>fu (jb (h i))) λst dd t h=>?_
 obtain⟨hA,hM,rfl,rfl⟩:=h;have big:=cw;have el:(gL ((bB st.M st.s.sp).map di)).length=st.M:=by rw[lr,aa,aa,xy]
 refine a9.to (ve (Ψ:=gV K C st 2) (own:=["one", "parts"]) (fr:=[0]) (λi=>cg) (Cw T.mz (jJ 0 U.cl U.n3 vS (λi=>pv 0)) rfl) (iO 0 1 (λ_=>bH)) 'Q' (ag.cE st.A st.s) (λk=>ti (k)) (by rw[el];lia) (λG G' σ e ⟨m,h1,h2⟩=>⟨m,h1,h2.mono e⟩) (λG σ z9=>by obtain⟨a,rest,e,h,_⟩:_:=z9;exact⟨a,by rw[e];rfl,h⟩) (λG σ vs ⟨m,h1,h2⟩=>⟨m,?_,h2⟩) (λq d hd=>?_)) ?_
 ·obtain _|⟨x,_|⟨y,r⟩⟩:=vs
  ·exact h1
  ·show(σ.set 0 _)[2]?=_;rw[FF 'Q'];exact h1
  ·show((σ.set 0 _).set 1 _)[2]?=_;rw[FF 'Q',FF 'Q'];exact h1
 ·obtain⟨x,hx,rfl⟩:=lh hd;obtain⟨hq,rfl⟩:=zc hx;have xt:Mo λG σ => ∃aq vs,gV K C st 2 G aq/\aq.length=2+1/\aG K G [di q,di (st.s.sp q)] vs/\σ=a8 [0,1] vs aq:=λG G' σ e z9=>by obtain⟨aq,vs,⟨m,h1,h2⟩,l,hv,es⟩:_:=z9;exact⟨aq,vs,⟨m,h1,h2.mono e⟩,l,hv.mono e,es⟩
  refine⟨_,rfl,ZW (iH.to (ZV xt (Et.p (gI (ae 1 rfl) ak) λG σ h=>(vh h).1) λ_=>ZU (tb':=.ow []) xt (yi 2 U.cl pB.m pB.ok (br _) pB.b (λG σ h=>?hs) (λ_ _ _ e t=>t.mono e) ?ha ⟨q,hA,hq,rfl,rfl⟩ (λi=>pv 2)) ?hn (.inl ⟨_,_,bP _,rfl⟩) (by rw[bP];exact Cn (jI _) 'Q')) ?hv),λ_=>Ev.p (ae 0 rfl) λG σ h=>(vh h).1⟩
  case hs=>
   obtain⟨m,h1,h2⟩:=(vh h).2;obtain⟨dx,v1,v2,v3,v4,v5,h0,_⟩:_:=id h2;exact⟨m,dx,_,h1,h0,rfl,h2⟩
  case ha=>exact mC xt (Ev.p (ae 0 rfl) λG σ h=>(vh h).1) rK
  case hn=>exact Ev.p (cu ao (zd _)) λG σ h=>(vh h).1
  case hv=>
   rw[bP];show(decide (st.s.sp q=0)&&bZ (dis (iN (ag.owners st.A st.s q))) (.lst []))=_;rw[Qr];unfold ag.cE iN;rw[afO]
 ·rw[el];exact EB _ _
abbrev DJ:afW:=nI 4
theorem Ys:aZ ["self", "one"] ["self", "one"] (aA DJ):=sk
def Qs (st:Ms)  : bI:=λdd t=>∃x:Nat,st.A<=6/\x<st.M/\(0<st.s.sp x->ag.cY st.A st.s≠[])/\(¬0<st.s.sp x->ag.owners st.A st.s x≠[])/\dd=[di x]/\t=ti (ag.sO st.A st.s x)
theorem FH (h:l≠[]):aP ((iN l).map di) 0=some (di ((l.headD 0:Nat):Int)):=by
 cases l with
 |nil=>exact absurd rfl h
 |cons a l=>exact dh rfl
theorem Qt {st:Ms}{N:List Str}{dd:List Dv}(m:Str)(hm:[("orders":Str), "owned", "spare", "got", "wanted"].contains m=false)(G:Hp)(σ:St)(h:jE K C st N dd G σ):∃a dx fs,σ[0]?=some (some (.ref a))/\G a=some (.ins C dx fs)/\fs.lookup m=none/\Th K C st G a:=by
 obtain⟨a,rest,e,h,_⟩:_:=h;obtain⟨dx,v1,v2,v3,v4,v5,h0,_⟩:_:=id h;refine⟨a,dx,_,by rw[e];rfl,h0,?_,h⟩;simp only[afr,ae2,List.contains_nil]at hm;simp only[LF,hm,List.lookup_nil]
theorem Yt (F:fE K "giver" "Market.giver" DJ .none f fd)(T:Txt mg)(U:kY K C)(j9:Km P w K mg base C "wanting" (k+1) fw RN ["self"] (fZ K (Th K C) Ad))(pB:Km P w K mg base C "owners" (k+1) fo fdo ["self", "one"] (fZ K (Th K C) Gz)):bQ P w K mg base bx (k+2) f fd ["self", "one"] (fZ K (Th K C) Qs):=by
 refine y9 F Ys (λst dd t h=>by obtain⟨_,_,_,_,_,rfl,_⟩:=h;rfl) (λτ h i=>fu (jb (h i))) λst dd t h=>?_
 obtain⟨x,hA,hx,h1,h2,rfl,rfl⟩:=h;have mo:Mo (jE K C st ["self", "one"] [di x]):=EC;refine abg mo (NR mo (mN mo (jJ 0 U.cl U.n3 vS (λi=>pv 0)) (Ev.p (by exact ae 1 rfl) pM) rfl (sP _ hx)) (Ev.p (ak) pM)) (λhp=>?_) λhp=>?_
 ·have hp:=GS hp;unfold ag.sO;rw[uu hp];exact mN mo (ya 0 U.cl j9.m j9.ok (br _) j9.b (Qt "wanting" 'W') ⟨hA,rfl,rfl⟩ (λi=>pv 0)) (Ev.p (ρ:=[none,some (ti x)]) (by exact ak) pM) (bP _) (FH (h1 hp))
 ·have hp:=afp hp;unfold ag.sO;rw[rf hp];refine mN mo (yi 0 U.cl pB.m pB.ok (br _) pB.b (Qt "owners" 'W') (λ_ _ _ e t=>t.mono e) ?_ ⟨x,hA,hx,rfl,rfl⟩ (λi=>pv 0)) (Ev.p (ak) pM) (bP _) (FH (h2 hp));exact mC mo (Ev.p (ae 1 rfl) pM) rK
end
end
section
abbrev BJ:afW:=top 22
theorem UY:aZ ["order", "gone"] ["order", "gone"] (aA BJ):=sk
def vD (order gone:LI):LI:=order.filter λx=>!gone.contains x
def Og:bI:=λdd t=>∃(order gone:LI) (x:Int) (r:LI),order.length<=100/\vD order gone=x::r/\dd=[dis order,dis gone]/\t=ti x
theorem Vn {α:Type}(l:List α)(d : α)(p : α->Bool):(((List.range l.length).filter λk=>p ((l[k]?).getD d)).map λk=>(l[k]?).getD d)=l.filter p:=by
 have h:((List.range l.length).map λk=>(l[k]?).getD d)=l:=by
  have:=Je l d id
  simp_all
 conv=>rhs;rw[<- h]
 rw[afc]
 rfl
theorem UZ (F:bK K "first_left" BJ f fd)(T:Txt mg):bL P w K mg base k f fd ["order", "gone"] Og:=by
 refine bR F.d UY 'H' λdd t h=>?_
 obtain⟨order,gone,x,r,h1,h2,rfl,rfl⟩:_:=h;have big:=cw;refine az (cA (Ev.s (bz (xs:=(vD order gone).map di) (zy (own:=["one"]) (fr:=[1]) (λi=>cg) (cm (ae 0 rfl) rfl) (bp 0 (λ_=>bH)) 'Q' (λk=>!gone.contains ((order[k]?).getD 0)) (λk=>ti ((order[k]?).getD 0)) ?_ (λk d hd=>?_) (λdd=>?_)) ak ?_ ?_)))
 ·grind
 ·obtain⟨y,hy,rfl⟩:_:=gF hd;refine⟨_,rfl,?_,λ_=>?_⟩
  ·rw[hy];exact hZ (nO (ae 0 rfl) (ae 1 rfl) rfl (by with_unfolding_all rfl))
  ·rw[hy];exact ae 0 rfl
 ·cases dd<;>rfl
 ·rw[pI,aa,Vn order 0 λx=>!gone.contains x]
  rfl
 ·rw[h2];exact dh rfl
theorem rX {F:aU ι}(h:a9 F Φ e t)(s:aj G H)(f : Φ G σ)(k:∀v G' H',Step G H G' H'->Hv F.K G' (er t) v->Q v H'):uE F e σ H Q:=by obtain⟨τ,p,q⟩:=h.use;exact⟨τ,p,q σ G H Q s f k⟩
theorem sQ {F:aU ι}(h:Ev F e ρ t)(s:aj G H)(f:aX F.K G ρ σ)(k:∀v G' H',Step G H G' H'->Hv F.K G' (er t) v->Q v H'):uE F e σ H Q:=by obtain⟨τ,p,q⟩:=h.use;exact⟨τ,p,q σ G H Q s f k⟩
theorem Px {F:aU ι}(h:Et F e ρ b)(s:aj G H)(f:aX F.K G ρ σ)(k:∀G' H',Step G H G' H'->Q b H'):uT F e σ H Q:=by obtain⟨τ,p,q⟩:=h;exact⟨τ,p,q σ G H Q s f k⟩
theorem nM (s:aj G H)(h:aj H H1):Step G H G H1:=⟨aj.refl _,h,s.trans h,λa h h'=>absurd h h'⟩
theorem Oh (h1:H r=none)(h2:H q=none)(g1:G r=none)(g2:G q=none)(ne:q≠r):Nw H G [r,q]:=by
 refine⟨λa ha=>?_,λa ha=>?_,by grind⟩
 ·grind
 ·grind
abbrev kZ (K:Frag)(C:adG)(st:Ms)(ρ:En):Hp->St->Prop:=λG σ => gV K C st 0 G σ/\aX K G ρ σ
section
theorem sE:Mo (kZ K C st ρ):=λG G' σ e z9=>by obtain⟨⟨m,h1,h2⟩,r⟩:=z9;exact⟨⟨m,h1,h2.mono e⟩,r.mono e⟩
theorem acg (G:Hp)(σ:St)(h:kZ K C st ρ G σ):∃m dx fs v,σ[0]?=some (some (.ref m))/\G m=some (.ins C dx fs)/\fs.lookup ("orders":Str)=some v/\Hv K G (orM st) v:=by
 obtain⟨⟨m,h1,dx,v1,v2,v3,v4,v5,h0,h2,_⟩,_⟩:_:=h;exact⟨m,dx,_,v1,h1,h0,rfl,h2⟩
theorem FI (m:Str)(hm:[("orders":Str), "owned", "spare", "got", "wanted"].contains m=false)(G:Hp)(σ:St)(h:kZ K C st ρ G σ):∃a dx fs,σ[0]?=some (some (.ref a))/\G a=some (.ins C dx fs)/\fs.lookup m=none/\Th K C st G a:=by
 obtain⟨⟨a,h1,h⟩,_⟩:_:=h;obtain⟨dx,v1,v2,v3,v4,v5,h0,_⟩:_:=id h;refine⟨a,dx,_,h1,h0,?_,h⟩;simp only[afr,ae2]at hm;simp[LF,hm]
theorem pU (G:Hp)(σ:St)(h:kZ K C st ρ G σ):aX K G ρ σ:=h.2
end
def lW (A:Nat)(O:Nat->List Nat)(s:ag.St):Nat->List Nat->Nat->List Nat×Nat
 |0,P,x=>(P,x)
 |f+1,P,x=>if x∈P then (P,x)else lW A O s f (P++[x]) (ag.nx A O s x)
def m8 (st:Ms):List Nat×Nat:=lW st.A st.O st.s (st.A+1) [] ((ag.cY st.A st.s).headD 0)
def bD (st:Ms):List Nat:=(m8 st).1.drop ((m8 st).1.idxOf (m8 st).2)
abbrev jq (st:Ms)(c:Nat):Dv:=.tup [di c,di (ag.best st.A st.O st.s c),di (ag.nx st.A st.O st.s c)]
theorem zg:∀{ds:List Dv} {vs:List V},ds.length=vs.length->(∀(j:Nat) d v,ds[j]?=some d->vs[j]?=some v->Hv K G d v)->aG K G ds vs
 |[],[] => λ_ _=>rfl
 |_::_,[] => λh _=>nomatch h
 |[],_::_=>λh _=>nomatch h
 |d::ds,v::vs=>λh k=>⟨v,vs,rfl,k 0 d v rfl rfl,zg (Nat.succ.inj h) λj d v h1 h2=>k (j+1) d v h1 h2⟩
def Rw (st:Ms)(H G:Hp)(P:List Nat)(rv:List V):Prop:=∃ps:List adG,rv=ps.map V.ref/\ps.length=P.length/\∀(j:Nat) p,ps[j]?=some p->H p=none/\∃c,P[j]?=some c/\G p=some (.tup [.int (c:Int),.int ((ag.best st.A st.O st.s c:Nat):Int),.int ((ag.nx st.A st.O st.s c:Nat):Int)])
section
theorem Rw.nil:Rw st H G [] []:=⟨[],rfl,rfl,λj p h=>by cases h⟩
theorem Rw.mono (h:Rw st H G P rv)(e:aj G G'):Rw st H G' P rv:=by obtain⟨ps,h1,h2,h3⟩:_:=h;exact⟨ps,h1,h2,λj p hj=>by obtain⟨a,c,b,d⟩:_:=h3 j p hj;exact⟨a,c,b,e _ _ d⟩⟩
theorem Rw.HY (h:Rw st H G P rv):aG K G (P.map (jq st)) rv:=by
 obtain⟨ps,rfl,h2,h3⟩:=h;refine zg 'J' λj d v hd hv=>?_
 rw[l8]at hv hd;cases e:ps[j]? with
 |none=>rw[e]at hv;cases hv
 |some p=>
  rw[e]at hv;cases hv;obtain⟨_,c,h4,h5⟩:=h3 j p e;rw[h4]at hd;cases hd;exact⟨p,_,rfl,cO.of h5,_,_,rfl,⟨rfl,rfl⟩,_,_,rfl,⟨rfl,rfl⟩,_,_,rfl,⟨rfl,rfl⟩,rfl⟩
theorem Rw.snoc (h:Rw st H G P rv){x:Nat}{p:adG}(hp:H p=none)(hg:G p=some (.tup [.int (x:Int),.int ((ag.best st.A st.O st.s x:Nat):Int),.int ((ag.nx st.A st.O st.s x:Nat):Int)])):Rw st H G (P++[x]) (rv++[.ref p]):=by
 obtain⟨ps,rfl,h2,h3⟩:=h;refine⟨ps++[p],by rw[B0];rfl,by rw[vc,vc,h2];rfl,λj q hq=>?_⟩;obtain l|l:=ET j ps.length
 ·rw[Cf l]at hq;rw[Cf 'O'];exact h3 j q hq
 ·rw[wb l]at hq;rw[wb 'O',<- h2];cases e:j-ps.length with
  |zero=>
   rw[e]at hq;cases hq;exact⟨hp,x,rfl,hg⟩
  |succ n=>rw[e]at hq;cases hq
theorem Rw.drop (h:Rw st H G P rv)(n:Nat):Rw st H G (P.drop n) (rv.drop n):=by
 obtain⟨ps,rfl,h2,h3⟩:=h;refine⟨ps.drop n,by rw[afJ],by rw[ael,ael,h2],λj q hq=>?_⟩;rw[ad5]at hq;rw[ad5];exact h3 _ q hq
end
def Go (st:Ms):Prop:=st.A<=6/\st.M<=7/\ag.Ok st.A st.O st.M/\∃B cnt sh G n,ag.Iv st.A st.O st.s st.M B cnt sh [] G/\n<st.M/\cnt n=(st.A:Int)
theorem oq {P:List Nat}(nd:P.Nodup)(h:∀c∈P,c<A):P.length<=A:=by
 have:=Ci (n:=A) (l:=iN P) (by
  grind) λx hx=>by
   grind
 simp_all
abbrev RO:List Str:=["self", "gone", "rows", "passed", "asker", "one"]
abbrev zh:afW:=nI 5
theorem pG:aZ RO ["self"] (aA zh):=sk
def Py (K:Frag)(C:adG):Sp:=λvs H Q _=>∃(G:Hp) (m:adG) (st:Ms),vs=[.ref m]/\aj G H/\Th K C st G m/\Go st/\ag.cY st.A st.s≠[]/\∀G' H' l rv,Step G H G' H'->H l=none->G' l=some (.lst rv)->Rw st H G' (bD st) rv->Q (.ref l) H'
theorem ach {x:Nat}:(iN l).contains (x:Int)=l.contains x:=by
 grind
theorem abo {x:Nat}:(iN l).idxOf (x:Int)=l.idxOf x:=by
 induction l with
 |nil=>rfl
 |cons a l ih=>
  grind
theorem Xj {st:Ms}(hx:x<st.M):(iN ((List.range st.M).filter (ag.cE st.A st.s))).contains (x:Int)=ag.cE st.A st.s x:=by
 grind
theorem Xk (g:Go st)(ha:a<st.A)(hw : 0<st.s.wn a):∃r,vD (iN (st.O a)) (iN ((List.range st.M).filter (ag.cE st.A st.s)))=((ag.best st.A st.O st.s a:Nat):Int)::r:=by
 obtain⟨hA,hM,ok,B,cnt,sh,G,n,iv,hn,hc⟩:_:=g;obtain⟨b1,b2,_,_⟩:=ag.rT ok iv hn hc ha hw;have e:vD (iN (st.O a)) (iN ((List.range st.M).filter (ag.cE st.A st.s)))=iN ((st.O a).filter λx=>!ag.cE st.A st.s x):=by
  unfold vD iN;rw[afc];congr 1;refine afD λx hx=>?_
  have hx:=l9.mp ((ok a ha).mem_iff.mp hx);show(!(iN ((List.range st.M).filter (ag.cE st.A st.s))).contains (x))=_;rw[Xj hx]
 rw[e];cases h:(st.O a).filter λx=>!ag.cE st.A st.s x with
 |nil=>
  exfalso;have:n∈(st.O a).filter λx=>!ag.cE st.A st.s x:=BY.mpr ⟨(ok a ha).mem_iff.mpr (l9.mpr hn),by rw[ag.JQ iv hn hc ha hw];rfl⟩
  rw[h]at this;cases this
 |cons b r=>
  refine⟨iN r,?_⟩;unfold ag.best;rw[h];rfl
theorem aae (h:a<A)(h2 : 0<s.own a x)(z:ag.owners A s x=[]):False:=by
 have:a∈ag.owners A s x:=BY.mpr ⟨l9.mpr h,EO h2⟩
 simp_all
abbrev rd (P:afU)(w:afV)(K:Frag)(mg:Str->Option vn)(base:Heap)(f:adG)(k:Nat):=iR P w K mg base RO "Market.ring" (aA zh) f k
theorem C2 (h1:Hv K G d1 gv)(h2:Hv K G d2 rv)(h3:Hv K G d3 qv):aX K G [none,some (.fz d1),some (.fz d2),some (.fz d3),some (ti x),none] [o0,some gv,some rv,some qv,some (.int x),o5]:=λj d hj=>by
 match j,hj with
 |0,hj=>cases hj
 |1,hj=>cases hj;exact⟨gv,rfl,h1⟩
 |2,hj=>cases hj;exact⟨rv,rfl,h2⟩
 |3,hj=>cases hj;exact⟨qv,rfl,h3⟩
 |4,hj=>cases hj;exact⟨_,rfl,rfl,rfl⟩
 |5,hj=>cases hj
 |n+6,hj=>cases hj
theorem aaf (F:fE K "ring" "Market.ring" zh .none f fd)(T:Txt mg)(U:kY K C)(EE:Km P w K mg base C "gone" j1 fg fdg ["self"] (fZ K (Th K C) Qq))(j9:Km P w K mg base C "wanting" j2 fw RN ["self"] (fZ K (Th K C) Ad))(DK:Km P w K mg base C "giver" j3 fv fdv ["self", "one"] (fZ K (Th K C) Qs))(Vo:Kn P w K mg base bx j4 "first_left" fl RP ["order", "gone"] (spT K Og))(l1:j1<=k)(l2:j2<=k)(l3:j3<=k)(l4:j4<=k):bQ P w K mg base bx (k+1) f fd ["self"] (Py K C):=by
 refine F.ok pG (λvs H Q E z9=>by obtain⟨_,_,_,h1,_⟩:=z9;rw[h1];rfl) λaL A outer s H vs Q E hr h=>?_
 obtain⟨G,m,st,rfl,sm,hT,go,hw,kv⟩:_:=h;have big:=cw;obtain⟨hA,hM,ok,B,cnt,sh,Gn,n,iv,hn,hc⟩:_:=id go;refine⟨_,cX (hU (i:=1) pG.nd rfl (Or.inl rfl) (dJ (F:=rd P w K mg base f k) ⟨aL,A,outer,s,H,E,hr⟩))
  (cX (hU (i:=2) pG.nd rfl (Or.inl rfl) (DR cG))
  (cX (hU (i:=3) pG.nd rfl (Or.inl rfl) (DR cG))
  (cX (hU (i:=4) pG.nd rfl (Or.inl rfl) (dJ (F:=rd P w K mg base f k) ⟨aL,A,outer,s,H,E,hr⟩))
  (cX (CD ad7 (vp (F:=rd P w K mg base f k) ⟨aL,A,outer,s,H,E,hr⟩) (cX (hU (i:=5) pG.nd rfl (Or.inl rfl) (dJ (F:=rd P w K mg base f k) ⟨aL,A,outer,s,H,E,hr⟩))
   (cX (ki (kr EN OR Pc nL (pv 3) (cf (pv 4) cG)))
   (cX (ki (kr EN OR Pc nL (pv 2) (cf (yQ (cf (pv 4) (cf (pv 5) (cf (dJ (F:=rd P w K mg base f k) ⟨aL,A,outer,s,H,E,hr⟩) cG)))) cG)))
   (fu (hU (i:=4) pG.nd rfl (Or.inl rfl) (dJ (F:=rd P w K mg base f k) ⟨aL,A,outer,s,H,E,hr⟩)))))))
  (fu (jb (JY K0 (pv 2) (KY (dJ (F:=rd P w K mg base f k) ⟨aL,A,outer,s,H,E,hr⟩)) KW))))))),?_⟩
 show dZ (lN (uE _ _) _) _ _ [some (.ref m),none,none,none,none,none] H;refine rX (Φ:=kZ K C st [none,none,none,none,none,none]) (ya (C:=C) (st:=st) 0 U.cl EE.m EE.ok l1 EE.b (FI "gone" 'W') ⟨hA,hM,rfl,rfl⟩ (λi=>pv 0)) sm ⟨⟨m,rfl,hT⟩,λj d hj=>by
  match j,hj with
  |0,hj=>cases hj
  |1,hj=>cases hj
  |2,hj=>cases hj
  |3,hj=>cases hj
  |4,hj=>cases hj
  |5,hj=>cases hj
  |n+6,hj=>cases hj⟩ λgv G1 H1 s1 hg=>?_
 rw[bP]at hg;dsimp only[eK,dZ,List.set];refine⟨by show 0<=sizeLine;exact zd _,λr xu=>?_⟩;dsimp only[eK,dZ,List.set];refine⟨by show 0<=sizeLine;exact zd _,λq nK=>?_⟩;dsimp only[eK,dZ,List.set];have rq:q≠r:=λz=>by
  rw[z,bM]at nK;cases nK
 have gU:H1 q=none:=by rwa [aH rq]at nK
 have s3:Step G H G1 (upd (upd H1 r (.lst [])) q (.lst [])):=⟨s1.g,(s1.h.trans (aj.new xu)).trans (aj.new nK),(s1.s.trans (aj.new xu)).trans (aj.new nK),s1.n⟩
 have r1:G1 r=none:=s1.s.free xu;have q1:G1 q=none:=s1.s.free gU;have rH:H r=none:=s1.h.free xu;have qH:H q=none:=s1.h.free gU;have rr:upd (upd H1 r (.lst [])) q (.lst []) r=some (.lst []):=by rw[aH rq.symm,bM]
 generalize tq:upd (upd H1 r (.lst [])) q (.lst [])=H3 at s3 rr;have qq:H3 q=some (.lst []):=by rw[<- tq];exact bM
 have HF:=hT.mono s1.g;clear tq nK xu;refine rX (Φ:=kZ K C st [none,none,none,none,none,none]) (mN (d:=di (((ag.cY st.A st.s).headD 0:Nat):Int)) sE (ya (C:=C) (st:=st) 0 U.cl j9.m j9.ok l2 j9.b (FI "wanting" 'W') ⟨hA,rfl,rfl⟩ (λi=>pv 0)) (Ev.p (ρ:=[none,none,none,none,none,none]) (by exact ak) pU) (bP _) (FH hw)) s3.s ⟨⟨m,rfl,HF⟩,λj d hj=>by
  match j,hj with
  |0,hj=>cases hj
  |1,hj=>cases hj
  |2,hj=>cases hj
  |3,hj=>cases hj
  |4,hj=>cases hj
  |5,hj=>cases hj
  |n+6,hj=>cases hj⟩ λxv G4 H4 s4 hx=>?_
 obtain rfl:xv=.int (((ag.cY st.A st.s).headD 0:Nat):Int):=aS hx;dsimp only[eK,dZ,List.set];have off:∀{Ga Ha Gb Hb:Hp} {a:adG} {o:HO},Step Ga Ha Gb Hb->Ga a=none->Ha a=some o->Gb a=none:=λ{Ga Ha Gb Hb a o} e h1 h2=>by
  cases z:Gb a with
  |none=>rfl
  |some u=>
   have:=e.n a h1 (by rw[z];simp);rw[h2]at this;cases this
 have x0:(ag.cY st.A st.s).headD 0<st.A/\0<st.s.wn ((ag.cY st.A st.s).headD 0):=by
  cases e:ag.cY st.A st.s with
  |nil=>exact absurd e hw
  |cons c l=>
   have:c∈ag.cY st.A st.s:=by rw[e];exact .head _
   obtain⟨h1,h2⟩:=BY.mp this;exact⟨l9.mp h1,GS h2⟩
 have hgl:∀{P:List Nat} {x:Nat},ag.Pt st.A st.O st.s P x->P.length<=st.A:=λ{P x} pt=>oq pt.nd λc hc=>(pt.rg c hc).1
 refine⟨λmm σ Hc=>∃Gc P x rv o5,mm=7-P.length/\σ=[some (.ref m),some gv,some (.ref r),some (.ref q),some (.int ((x:Nat):Int)),o5]/\Step G H Gc Hc/\Hv K Gc (dis (iN ((List.range st.M).filter (ag.cE st.A st.s)))) gv/\Th K C st Gc m/\Gc r=none/\Gc q=none/\Hc r=some (.lst rv)/\Hc q=some (.lst ((iN P).map V.int))/\Rw st H Gc P rv/\ag.Pt st.A st.O st.s P x/\lW st.A st.O st.s (st.A+1-P.length) P x=m8 st,⟨_,G4,[],_,[],none,rfl,rfl,s3.trans s4,hg.mono s4.g,HF.mono s4.g,off s4 r1 rr,off s4 q1 qq,s4.h _ _ rr,s4.h _ _ qq,.nil,⟨.nil,(λc hc=>nomatch hc),x0,λi c hi=>by cases hi⟩,rfl⟩,?_⟩;intro mm σ Hc z9;obtain⟨Gc,P,x,rv,o5,rfl,rfl,sc,xx,HZ,cr,cq,wZ,gU,Ia,pt,RQ⟩:_:=z9;have Ib:aG K Gc (P.map (jq st)) rv:=Ia.HY;have nw:Nw H Gc [r,q]:=Oh rH qH cr cq rq;have vw:∀{Hx:Hp},aj Gc (cR Gc Hx [r,q]):=gh nw.g;have vr:∀{Hx:Hp},Hx r=some (.lst rv)->Hv K (cR Gc Hx [r,q]) (.lst (P.map (jq st))) (.ref r):=λ{Hx} h=>⟨r,rv,rfl,aK.of (by rw[dE (.head _)];exact h),Ib.mono vw⟩
 have vq:∀{Hx:Hp},Hx q=some (.lst ((iN P).map V.int))->Hv K (cR Gc Hx [r,q]) (dis (iN P)) (.ref q):=λ{Hx} h=>⟨q,_,rfl,aK.of (by rw[dE (.tail _ (.head _))];exact h),ke⟩
 refine Px (nO (ns:=iN P) (ae 4 rfl) (ae 3 rfl) rfl rfl) (gi sc.s) (C2 (xx.mono vw) (vr wZ) (vq gU)) λ_ H5 s5=>?_
 have sh5:Step Gc Hc Gc H5:=nM sc.s s5.h;have c5:=sc.trans sh5;have r5:=s5.h _ _ wZ;have q5:=s5.h _ _ gU;rw[ach];by_cases hx:x∈P
 ·rw[Mc.mpr hx];rw[rf 'Q'];dsimp only[dZ];have hl:=LM.mpr hx;have ep:m8 st=(P,x):=by
   rw[<- RQ];cases st.A+1-P.length with
   |zero=>rfl
   |succ n=>unfold lW;rw[uu hx]
  refine⟨.ref r,rfl,sQ (t:=ti ((P.idxOf x:Nat):Int)) (Ev.to (Kg (ns:=iN P) (ae 3 rfl) rfl (ae 4 rfl) (i8.mpr ⟨x,hx,rfl⟩)) (by rw[abo])) (gi c5.s) (C2 (xx.mono vw) (vr r5) (vq q5)) λv G6 H6 s6 hv6=>⟨_,aS hv6,r,rv,rfl,aK.of (s6.h _ _ r5),λl Ic=>?_⟩⟩;have c6:=c5.trans (nM c5.s s6.h);have ec:sS rv (some ((P.idxOf x:Nat):Int)) none=rv.drop (P.idxOf x):=Ky rv _ (by rw[<- Ib.length,aa];lia);rw[ec];have ss:aj Gc (upd Gc l (.lst (rv.drop (P.idxOf x)))):=aj.new (c6.s.free Ic);refine kv _ _ l _ (c6.trans (.new c6.s Ic)) (c6.h.free Ic) bM ?_;unfold bD;rw[ep];exact(Ia.drop _).mono ss
 ·have hb:P.contains x=false:=by
   cases e:P.contains x with
   |false=>rfl
   |true=>exact absurd (Mc.mp e) hx
  rw[hb,uu 'X'];have pn:=pt.next ok iv hn hc hx
  have hl:=hgl pn;rw[vc]at hl;have hl:P.length+1<=st.A:=hl;refine⟨λaD H'=>∃Gc rv o5,aD=[some (.ref m),some gv,some (.ref r),some (.ref q),some (.int ((ag.nx st.A st.O st.s x:Nat):Int)),o5]/\Step G H Gc H'/\Hv K Gc (dis (iN ((List.range st.M).filter (ag.cE st.A st.s)))) gv/\Th K C st Gc m/\Gc r=none/\Gc q=none/\H' r=some (.lst rv)/\H' q=some (.lst ((iN (P++[x])).map V.int))/\Rw st H Gc (P++[x]) rv,?_,?_⟩
  ·intro aD H' z9;obtain⟨Gd,rv',o5',e,h1,h2,h3,h4,h5,h6,h7,h8⟩:_:=z9;refine⟨7-(P++[x]).length,by rw[vc];show 7-(P.length+1)<_;lia,Gd,P++[x],_,rv',o5',rfl,e,h1,h2,h3,h4,h5,h6,h7,h8,pn,?_⟩;rw[<- RQ,show st.A+1-P.length=(st.A+1-(P++[x]).length)+1 by rw[vc];show _=st.A+1-(P.length+1)+1;lia]
   conv=>rhs;unfold lW
   rw[rf hx]
  ·obtain⟨rr0,hbl⟩:=Xk go pt.xr.1 pt.xr.2;obtain⟨b1,b2,_,_⟩:=ag.rT ok iv hn hc pt.xr.1 pt.xr.2;have xo:=ag.zI ok iv hn hc pt.xr.1 pt.xr.2;have rp0:aX K Gc [none,some (.fz (dis (iN ((List.range st.M).filter (ag.cE st.A st.s))))),none,none,some (ti x),none] [some (.ref m),some gv,some (.ref r),some (.ref q),some (.int ((x:Nat):Int)),o5]:=λj d hj=>by
    match j,hj with
    |0,hj=>cases hj
    |1,hj=>cases hj;exact⟨gv,rfl,xx⟩
    |2,hj=>cases hj
    |3,hj=>cases hj
    |4,hj=>cases hj;exact⟨_,rfl,rfl,rfl⟩
    |5,hj=>cases hj
    |n+6,hj=>cases hj
   refine rX (Φ:=kZ K C st [none,some (.fz (dis (iN ((List.range st.M).filter (ag.cE st.A st.s))))),none,none,some (ti x),none]) (t:=ti (ag.best st.A st.O st.s x:Nat)) (Yg (dd:=[dis (iN (st.O x)),dis (iN ((List.range st.M).filter (ag.cE st.A st.s)))]) Vo l4 (mC (t:=.fz (dis (iN (st.O x)))) sE (mN (d:=dis (iN (st.O x))) sE (jJ (C:=C) (d:=orM st) 0 U.cl U.n1 acg (λi=>pv 0)) (Ev.p (ae 4 rfl) pU) rfl (Pw _ pt.xr.1)) (mC (t:=.fz (dis (iN ((List.range st.M).filter (ag.cE st.A st.s))))) sE (Ev.p (ae 1 rfl) pU) rK)) ⟨_,_,_,rr0,by rw[aa,(ok x pt.xr.1).length_eq,xy];lia,hbl,rfl,rfl⟩) c5.s ⟨⟨m,rfl,HZ⟩,rp0⟩ λov G6 H6 s6 ho=>?_
   obtain rfl:ov=.int ((ag.best st.A st.O st.s x:Nat):Int):=aS ho;dsimp only[eK,dZ,List.set];have r6:=s6.h _ _ r5;have q6:=s6.h _ _ q5;have g6r:=off s6 cr r5;have RR:=off s6 cq q5;refine⟨.ref q,rfl,.inl ⟨rfl,_,aK.of q6⟩,_,rfl,q,_,_,rfl,rfl,q6,by rw[aa,aa];lia,?_⟩;have q7:upd H6 q (.lst ((iN P).map V.int++[.int (x:Int)])) q=some (.lst ((iN (P++[x])).map V.int)):=by rw[bM];unfold iN;rw[B0,B0];rfl
   have r7:upd H6 q (.lst ((iN P).map V.int++[.int (x:Int)])) r=some (.lst rv):=by rw[aH rq.symm];exact r6
   have Ie:aj G6 (upd H6 q (.lst ((iN P).map V.int++[.int (x:Int)]))):=λb o hb=>by rw[aH λz=>by rw[z,RR]at hb;cases hb];exact s6.s _ _ hb
   have c6:=c5.trans s6;have c7:Step G H G6 (upd H6 q (.lst ((iN P).map V.int++[.int (x:Int)]))):=⟨c6.g,λb o hb=>by rw[aH λz=>by rw[z,qH]at hb;cases hb];exact c6.h _ _ hb,Ie,c6.n⟩
   generalize upd H6 q (.lst ((iN P).map V.int++[.int (x:Int)]))=H7 at q7 r7 Ie c7;refine⟨.ref r,rfl,.inl ⟨rfl,_,aK.of r7⟩,_,rfl,_,rfl,?_⟩;have rp1:aX K G6 [none,none,none,none,some (ti x),some (ti (ag.best st.A st.O st.s x:Nat))] [some (.ref m),some gv,some (.ref r),some (.ref q),some (.int ((x:Nat):Int)),some (.int ((ag.best st.A st.O st.s x:Nat):Int))]:=λj d hj=>by
    match j,hj with
    |0,hj=>cases hj
    |1,hj=>cases hj
    |2,hj=>cases hj
    |3,hj=>cases hj
    |4,hj=>cases hj;exact⟨_,rfl,rfl,rfl⟩
    |5,hj=>cases hj;exact⟨_,rfl,rfl,rfl⟩
    |n+6,hj=>cases hj
   refine rX (Φ:=kZ K C st [none,none,none,none,some (ti x),some (ti (ag.best st.A st.O st.s x:Nat))]) (t:=ti (ag.nx st.A st.O st.s x:Nat)) (yi (C:=C) (st:=st) (dd:=[di (ag.best st.A st.O st.s x:Nat)]) 0 U.cl DK.m DK.ok l3 DK.b (FI "giver" 'W') (λ_ _ _ e t=>t.mono e) (mC sE (Ev.p (ae 5 rfl) pU) rK) ⟨_,hA,b1,(λ_=>hw),(λhs z=>aae xo.1 (xo.2.2 hs) z),rfl,rfl⟩ (λi=>pv 0)) Ie ⟨⟨m,rfl,HZ.mono s6.g⟩,rp1⟩ λnv G8 H8 s8 hn8=>?_
   obtain rfl:nv=.int ((ag.nx st.A st.O st.s x:Nat):Int):=aS hn8;refine⟨by show 3<=sizeLine;lia,λp hp=>?_⟩;have g8r:=off s8 g6r r7;have g8q:=off s8 RR q7;have r8:=s8.h _ _ r7;have q8:=s8.h _ _ q7;have np:r≠p:=λz=>by rw[<- z,r8]at hp;cases hp
   have nq:q≠p:=λz=>by rw[<- z,q8]at hp;cases hp
   refine⟨r,rv,_,rfl,rfl,by rw[aH np];exact r8,by rw[<- Ib.length,aa];lia,?_⟩;have c8:=c7.trans s8;have e8:Step G H (upd G8 p (.tup [.int (x:Int),.int ((ag.best st.A st.O st.s x:Nat):Int),.int ((ag.nx st.A st.O st.s x:Nat):Int)])) (upd H8 p (.tup [.int (x:Int),.int ((ag.best st.A st.O st.s x:Nat):Int),.int ((ag.nx st.A st.O st.s x:Nat):Int)])):=c8.trans (.new s8.s hp);have ss:aj G8 (upd G8 p (.tup [.int (x:Int),.int ((ag.best st.A st.O st.s x:Nat):Int),.int ((ag.nx st.A st.O st.s x:Nat):Int)])):=aj.new (s8.s.free hp);have gp:upd G8 p (.tup [.int (x:Int),.int ((ag.best st.A st.O st.s x:Nat):Int),.int ((ag.nx st.A st.O st.s x:Nat):Int)]) p=some (.tup [.int (x:Int),.int ((ag.best st.A st.O st.s x:Nat):Int),.int ((ag.nx st.A st.O st.s x:Nat):Int)]):=bM;have Ig:upd G8 p (.tup [.int (x:Int),.int ((ag.best st.A st.O st.s x:Nat):Int),.int ((ag.nx st.A st.O st.s x:Nat):Int)]) r=none:=by rw[aH np];exact g8r
   have RT:upd G8 p (.tup [.int (x:Int),.int ((ag.best st.A st.O st.s x:Nat):Int),.int ((ag.nx st.A st.O st.s x:Nat):Int)]) q=none:=by rw[aH nq];exact g8q
   have q9:upd (upd H8 p (.tup [.int (x:Int),.int ((ag.best st.A st.O st.s x:Nat):Int),.int ((ag.nx st.A st.O st.s x:Nat):Int)])) r (.lst (rv++[.ref p])) q=some (.lst ((iN (P++[x])).map V.int)):=by rw[aH rq,aH nq];exact q8
   have r9:upd (upd H8 p (.tup [.int (x:Int),.int ((ag.best st.A st.O st.s x:Nat):Int),.int ((ag.nx st.A st.O st.s x:Nat):Int)])) r (.lst (rv++[.ref p])) r=some (.lst (rv++[.ref p])):=bM;have gs:=s6.g.trans (s8.g.trans ss);generalize upd G8 p (.tup [.int (x:Int),.int ((ag.best st.A st.O st.s x:Nat):Int),.int ((ag.nx st.A st.O st.s x:Nat):Int)])=G9 at *;have c9:Step G H G9 (upd (upd H8 p (.tup [.int (x:Int),.int ((ag.best st.A st.O st.s x:Nat):Int),.int ((ag.nx st.A st.O st.s x:Nat):Int)])) r (.lst (rv++[.ref p]))):=⟨e8.g,λb o hb=>by rw[aH λz=>by rw[z,rH]at hb;cases hb];exact e8.h _ _ hb,λb o hb=>by rw[aH λz=>by rw[z,Ig]at hb;cases hb];exact e8.s _ _ hb,e8.n⟩
   generalize upd (upd H8 p (.tup [.int (x:Int),.int ((ag.best st.A st.O st.s x:Nat):Int),.int ((ag.nx st.A st.O st.s x:Nat):Int)])) r (.lst (rv++[.ref p]))=H9 at *;have Qu:Rw st H G9 (P++[x]) (rv++[.ref p]):=(Ia.mono gs).snoc (c8.h.free hp) gp;have ac7:aG K G9 ((P++[x]).map (jq st)) (rv++[.ref p]):=Qu.HY;have RU:aj G9 (cR G9 H9 [r,q]):=gh (Oh rH qH Ig RT rq).g;have at9:aP ((P++[x]).map (jq st)) (-1)=some (jq st x):=by rw[B0];exact DH _ _
   have vr9:Hv K (cR G9 H9 [r,q]) (.lst ((P++[x]).map (jq st))) (.ref r):=⟨r,_,rfl,aK.of (by rw[dE (.head _)];exact r9),ac7.mono RU⟩
   have vq9:Hv K (cR G9 H9 [r,q]) (dis (iN (P++[x]))) (.ref q):=⟨q,_,rfl,aK.of (by rw[dE (.tail _ (.head _))];exact q9),ke⟩
   refine sQ (t:=ti (ag.nx st.A st.O st.s x:Nat)) (bU (bz (d:=jq st x) (ae 2 rfl) (yS ak) rfl at9) ak rfl (dh (j:=2) rfl)) (gi c9.s) (C2 (o0:=some (.ref m)) (x:=x) (o5:=some (.int ((ag.best st.A st.O st.s x:Nat):Int))) ((xx.mono gs).mono RU) vr9 vq9) λav Ih nu jw ha=>?_
   obtain rfl:av=.int ((ag.nx st.A st.O st.s x:Nat):Int):=aS ha;exact⟨G9,_,_,rfl,c9.trans (nM c9.s jw.h),xx.mono gs,HZ.mono gs,Ig,RT,jw.h _ _ r9,jw.h _ _ q9,Qu⟩
end
section
theorem Ma {F:aU ι}(h:iH F Φ e b)(s:aj G H)(f : Φ G σ)(k:∀G' H',Step G H G' H'->Q b H'):uT F e σ H Q:=by obtain⟨τ,p,q⟩:=h;exact⟨τ,p,q σ G H Q s f k⟩
section
abbrev yo:afW:=nI 6
theorem Xl:aZ ["self", "one", "giver"] ["self", "one", "giver"] (aA yo):=sk
def FJ (K:Frag)(C:adG):Sp:=λvs H Q _=>∃(G:Hp) (m:adG) (x g:Nat) (st:Ms) (v:V),vs=[.ref m,.int (x:Int),.int (g:Int)]/\aj G H/\Th K C st G m/\x<st.M /\
 (∃dx v1 l2 us v3 v4 v5,G m=some (.ins C dx [("orders",v1),("owned",.ref l2),("spare",v3),("got",v4),("wanted",v5)])/\aK K G l2 us/\(0<st.s.sp x->v=v3)/\(¬0<st.s.sp x->us[g]?=some v))/\∀H',aj H H'->Q v H'
abbrev FSo (P:afU)(w:afV)(K:Frag)(mg:Str->Option vn)(base:Heap)(f:adG)(k:Nat):=iR P w K mg base ["self", "one", "giver"] "Market.source" (aA yo) f k
theorem Xm (F:fE K "source" "Market.source" yo .none f fd)(U:kY K C):bQ P w K mg base bx (k+1) f fd ["self", "one", "giver"] (FJ K C):=by
 refine F.ok Xl (λvs H Q E z9=>by obtain⟨_,_,_,_,_,_,h1,_⟩:_:=z9;simp_all) λaL A outer s H vs Q E hr h=>?_
 obtain⟨G,m,x,g,st,v,rfl,sm,hT,hx,⟨dx,v1,l2,us,v3,v4,v5,h0,hu,c1,c2⟩,kv⟩:_:=h;refine⟨_,fu (jb (CC (vp (F:=FSo P w K mg base f k) ⟨aL,A,outer,s,H,E,hr⟩) (mL (pv 0) rfl) (lF nR (mL (pv 0) rfl) (pv 2) (λ_ _=>rfl)))),?_⟩;have mo:Mo (jE K C st ["self", "one", "giver"] [di x,di g]):=EC;have rp:∀G σ,jE K C st ["self", "one", "giver"] [di x,di g] G σ->aX K G [none,some (ti x)] σ:=λG σ z9=>by
  obtain⟨a,rest,e,_,hv⟩:_:=z9;obtain⟨y,z,rfl,h1,_⟩:_:=pZ hv;rw[e];exact L9 h1
 refine Ma (Φ:=jE K C st ["self", "one", "giver"] [di x,di g]) (NR mo (mN mo (jJ 0 U.cl U.n3 vS (λi=>pv 0)) (Ev.p (ae 1 rfl) rp) rfl (sP _ hx)) (Ev.p (ak) rp)) sm ⟨m,_,rfl,hT,_,_,rfl,⟨rfl,rfl⟩,_,_,rfl,⟨rfl,rfl⟩,rfl⟩ λG1 H1 s1=>?_
 by_cases hp : 0<st.s.sp x
 ·rw[uu (EO hp)];exact⟨_,rfl,m,C,dx,_,v3,rfl,s1.h _ _ (sm _ _ h0),U.cl,U.n3,rfl,c1 hp▸kv H1 s1.h⟩
 ·rw[rf 'J'];exact⟨_,rfl,m,C,dx,_,.ref l2,rfl,s1.h _ _ (sm _ _ h0),U.cl,U.n2,rfl,_,rfl,l2,us,g,v,rfl,rfl,(sm.trans s1.h).seq hu,dh (c2 hp),kv H1 s1.h⟩
def gP (st:Ms)(x g:Nat):Nat->Int:=if 0<st.s.sp x then st.s.sp else st.s.own g
def ac8 (st:Ms)  : bI:=λdd t=>∃x g:Nat,x<st.M/\(¬0<st.s.sp x->g<st.A)/\dd=[di x,di g]/\t=.fz (dis (bB st.M (gP st x g)))
theorem aci (F:bQ P w K mg base bx k f fd ["self", "one", "giver"] (FJ K C)):bQ P w K mg base bx k f fd ["self", "one", "giver"] (fZ K (Th K C) ac8):=F.imp λvs H Q E z9=>by
 obtain⟨G,a,rest,st,dd,t,h1,s,hT,hv,hR,kv⟩:_:=z9;obtain⟨x,g,hx,hg,rfl,rfl⟩:_:=hR;obtain⟨y,z,rfl,hy,hz⟩:_:=pZ hv;obtain rfl:=aS hy;obtain rfl:=aS hz;obtain⟨dx,v1,v2,v3,v4,v5,h0,t1,⟨l2,us,rfl,q1,q2⟩,t3,t4,t5⟩:_:=id hT;by_cases hp : 0<st.s.sp x
 ·refine⟨G,a,x,g,st,v3,h1,s,hT,hx,⟨dx,v1,l2,us,v3,v4,v5,h0,q1,λ_=>rfl,λz=>absurd hp z⟩,λH' sh=>?_⟩;refine kv v3 G H' [] ⟨aj.refl _,sh,s.trans sh,λ_ h h'=>absurd h h'⟩ ⟨rfl,?_⟩ .nil;unfold gP;rw[uu hp];exact t3
 ·obtain⟨u,u1,u2⟩:=q2.get (by rw[l8,Me (hg hp)];rfl);refine⟨G,a,x,g,st,u,h1,s,hT,hx,⟨dx,v1,l2,us,v3,v4,v5,h0,q1,λz=>absurd z hp,λ_=>u1⟩,λH' sh=>?_⟩;refine kv u G H' [] ⟨aj.refl _,sh,s.trans sh,λ_ h h'=>absurd h h'⟩ ⟨rfl,?_⟩ .nil;unfold gP;rw[rf hp];exact u2
end
abbrev mF (m o2 l3 o4 l5:adG)(r2 r4:List adG):List adG:=m::o2::l3::o4::l5::(r2++r4)
abbrev cV (m:Nat)(f:Nat->Int):HO:=.lst ((bB m f).map V.int)
structure Mv (K:Frag) (C:adG) (st:Ms) (G H:Hp) (m dx:adG) (v1:V) (o2 l3 o4 l5:adG) (r2 r4:List adG):Prop where
 i:H m=some (.ins C dx [("orders",v1),("owned",.ref o2),("spare",.ref l3),("got",.ref o4),("wanted",.ref l5)])
 h1:Hv K G (orM st) v1
 h2:H o2=some (.lst (r2.map V.ref))
 n2:r2.length=st.A
 e2:∀i a,r2[i]?=some a->H a=some (cV st.M (st.s.own i))
 h3:H l3=some (cV st.M st.s.sp)
 h4:H o4=some (.lst (r4.map V.ref))
 n4:r4.length=st.A
 e4:∀i a,r4[i]?=some a->H a=some (cV st.M (st.s.got i))
 h5:H l5=some (cV st.A st.s.wn)
 nd:(mF m o2 l3 o4 l5 r2 r4).Nodup
 g:∀a∈mF m o2 l3 o4 l5 r2 r4,G a=none
theorem DL {r:List adG}(h:G o=some (.lst (r.map V.ref)))(n:r.length=A)(e:∀i a,r[i]?=some a->G a=some (cV M (f i))):Hv K G (kX A M f) (.ref o):=by
 refine⟨o,_,rfl,aK.of h,zg 'J' λj d v h1 h2=>?_⟩;obtain⟨_,rfl⟩:=zf h1;rw[l8]at h2;cases q:r[j]? with
 |none=>rw[q]at h2;cases h2
 |some a=>
  rw[q]at h2;cases h2;exact⟨a,_,rfl,aK.of (e j a q),ke⟩
section
variable {l3:adG}
theorem Mv.m1:m∈mF m o2 l3 o4 l5 r2 r4:=.head _
theorem Mv.m2:o2∈mF m o2 l3 o4 l5 r2 r4:=.tail _ (.head _)
theorem Mv.m3:l3∈mF m o2 l3 o4 l5 r2 r4:=.tail _ (.tail _ (.head _))
theorem Mv.m4:o4∈mF m o2 l3 o4 l5 r2 r4:=.tail _ (.tail _ (.tail _ (.head _)))
theorem Mv.m5:l5∈mF m o2 l3 o4 l5 r2 r4:=.tail _ (.tail _ (.tail _ (.tail _ (.head _))))
theorem Mv.mr {i:Nat}(h:r2[i]?=some a):a∈mF m o2 l3 o4 l5 r2 r4:=.tail _ (.tail _ (.tail _ (.tail _ (.tail _ (xw _ (ba h))))))
theorem Mv.mt {i:Nat}(h:r4[i]?=some a):a∈mF m o2 l3 o4 l5 r2 r4:=.tail _ (.tail _ (.tail _ (.tail _ (.tail _ (i4 _ (ba h))))))
theorem Mv.there (h:Mv K C st G H m dx v1 o2 l3 o4 l5 r2 r4):∀a∈mF m o2 l3 o4 l5 r2 r4,∃o,H a=some o:=λa ha=>by
 obtain z|ha:=ff.mp ha
 ·exact⟨_,z▸h.i⟩
 obtain z|ha:=ff.mp ha
 ·exact⟨_,z▸h.h2⟩
 obtain z|ha:=ff.mp ha
 ·exact⟨_,z▸h.h3⟩
 obtain z|ha:=ff.mp ha
 ·exact⟨_,z▸h.h4⟩
 obtain z|ha:=ff.mp ha
 ·exact⟨_,z▸h.h5⟩
 obtain z|z:=qr.mp ha
 ·obtain⟨i,hi⟩:=OE z;exact⟨_,h.e2 i a hi⟩
 ·obtain⟨i,hi⟩:=OE z;exact⟨_,h.e4 i a hi⟩
theorem Mv.th (h:Mv K C st G H m dx v1 o2 l3 o4 l5 r2 r4):Th K C st (cR G H (mF m o2 l3 o4 l5 r2 r4)) m:=
 ⟨dx,v1,.ref o2,.ref l3,.ref o4,.ref l5,by rw[dE Mv.m1];exact h.i,h.h1.mono (gh h.g),DL (by rw[dE Mv.m2];exact h.h2) h.n2 λi a e=>by rw[dE (Mv.mr e)];exact h.e2 i a e,⟨l3,_,rfl,aK.of (by rw[dE Mv.m3];exact h.h3),ke⟩,DL (by rw[dE Mv.m4];exact h.h4) h.n4 λi a e=>by rw[dE (Mv.mt e)];exact h.e4 i a e,⟨l5,_,rfl,aK.of (by rw[dE Mv.m5];exact h.h5),ke⟩⟩
theorem Mv.mono (h:Mv K C st G H m dx v1 o2 l3 o4 l5 r2 r4)(g:aj G G')(hg:∀a∈mF m o2 l3 o4 l5 r2 r4,G' a=none)(hh:∀a∈mF m o2 l3 o4 l5 r2 r4,H' a=H a):Mv K C st G' H' m dx v1 o2 l3 o4 l5 r2 r4:=
 ⟨by rw[hh m Mv.m1];exact h.i,h.h1.mono g,by rw[hh _ Mv.m2];exact h.h2,h.n2,λi a e=>by rw[hh _ (Mv.mr e)];exact h.e2 i a e,by rw[hh _ Mv.m3];exact h.h3,by rw[hh _ Mv.m4];exact h.h4,h.n4,λi a e=>by rw[hh _ (Mv.mt e)];exact h.e4 i a e,by rw[hh _ Mv.m5];exact h.h5,h.nd,hg⟩
def fL (G:Hp)(fs:List adG):Hp:=λa=>if a∈fs then none else G a
theorem nW (h:a∉fs):fL G fs a=G a:=by unfold fL;rw[rf h]
theorem zi (h:a∈fs):fL G fs a=none:=by unfold fL;rw[uu h]
theorem Yu (h:fL G fs a=some o):a∉fs/\G a=some o:=by
 grind [zi,nW]
theorem ux (hg:∀a∈fs,G a=none)(e:Step (cR G H fs) H G' H'):Step G H (fL G' fs) H':=by
 refine⟨λa o ha=>?_,e.h,λa o ha=>e.s _ _ (Yu ha).2,λa h1 h2=>?_⟩
 ·have n:a∉fs:=λz=>'J'
  rw[nW n];exact e.g _ _ (by rw[o9 n];exact ha)
 ·have n:=λz=>h2 (zi z)
  rw[nW n]at h2;exact e.n a (by rw[o9 n];exact h1) h2
theorem Mv.look (h:Mv K C st G H m dx v1 o2 l3 o4 l5 r2 r4)(e:Step (cR G H (mF m o2 l3 o4 l5 r2 r4)) H G' H'):Mv K C st (fL G' (mF m o2 l3 o4 l5 r2 r4)) H' m dx v1 o2 l3 o4 l5 r2 r4:=
 h.mono (ux h.g e).g (λa ha=>zi ha) λa ha=>by
  obtain⟨o,ho⟩:=h.there a ha;rw[ho,e.h _ _ ho]
theorem Mv.keep (h:Mv K C st G H m dx v1 o2 l3 o4 l5 r2 r4)(e:aj H H'):Mv K C st G H' m dx v1 o2 l3 o4 l5 r2 r4:=
 h.mono (aj.refl _) h.g λa ha=>by
  obtain⟨o,ho⟩:=h.there a ha;rw[ho,e _ _ ho]
end
theorem jc {l:List adG}(h1:p∉l)(h2:a∈l):upd H p o a=H a:=aH λz=>h1 'J'
theorem jM {l:List adG}(h1:a∉l)(h2:p∈l):upd H p o a=H a:=aH λz=>h1 'J'
structure Sx (G H:Hp) (F:List adG) (G' H':Hp) (F':List adG):Prop where
 g:aj G G'
 h:∀a o,a∉F->H a=some o->H' a=some o
 s:aj G' H'
 n:∀a,G a=none->G' a≠none->H a=none
 f:∀a∈F',a∈F\/H a=none
 k:∀a,H' a=none->H a=none
section
theorem Sx.step (e:Step G H G1 H1):Sx G H F G1 H1 F:=⟨e.g,λa o _ h=>e.h a o h,e.s,e.n,λa h=>.inl h,λa h=>e.h.free h⟩
theorem Sx.trans (a:Sx G H F G1 H1 F1)(b:Sx G1 H1 F1 G2 H2 F2):Sx G H F G2 H2 F2:=by
 refine⟨a.g.trans b.g,λx o hx h=>b.h x o (λz=>?_) (a.h x o hx h),b.s,λx h1 h2=>?_,λx hx=>?_,λx h=>a.k x (b.k x h)⟩
 ·obtain z|z:=a.f x z
  ·exact hx z
  ·simp_all
 ·by_cases z:G1 x=none
  ·exact a.k x (b.n x z h2)
  ·exact a.n x h1 z
 ·obtain z|z:=b.f x hx
  ·exact a.f x z
  ·exact .inr (a.k x z)
theorem Sx.put (s:aj G H)(hp:p∈F)(hg:G p=none):Sx G H F G (upd H p o) F:=
 ⟨aj.refl _,λa u ha h=>by rw[jM ha hp];exact h,λa u h=>by rw[aH λz=>'J'];exact s a u h,λa h h'=>absurd h h',λa h=>.inl h,λa h=>by
  grind [bM,aH]⟩
theorem Sx.more (a:Sx G H F G1 H1 F1)(h:∀x∈F',x∈F1\/H x=none):Sx G H F G1 H1 F':=⟨a.g,a.h,a.s,a.n,λx hx=>(h x hx).elim (a.f x) .inr,a.k⟩
end
theorem ui {F:aU ι}(ha:a9 F Φ e ta)(ea:er ta=.lst xs):sW F Φ tg e xs:=by
 obtain⟨τ,p,q⟩:_:=ha.use;refine⟨sI F.K τ,λi=>F.hK i▸uz (p i),λσ G H R s r k=>q σ G H _ s r λx G1 H1 s1 hx=>?_⟩;rw[ea]at hx;obtain⟨l,vs,rfl,h1,h2⟩:=hx;refine⟨l,rfl,⟨vs,s1.s.seq h1⟩,k _ G1 H1 s1 λj G2 H2 sg sh=>⟨λd hd=>?_,λhz=>⟨vs,(sg.trans sh).seq h1,by rw[<- h2.length,hz];exact br _⟩⟩⟩;obtain⟨v,q1,q2⟩:_:=h2.get hd;refine⟨⟨vs,v,(sg.trans sh).seq h1,q1⟩,?_⟩;rintro x H3 ⟨rfl,hx⟩;have:=hx vs ((sg.trans sh).seq h1);rw[q1]at this;cases this;exact⟨G2,.refl sh,q2.mono sg⟩
theorem Yv {F:aU ι}{elts:List Expr}{kk:Nat}{tp pos:Pos}(hm:F.mg "zip"=none)(ha:oC F Φ [a,b] [d1,d2])(ea:d1=.lst xs)(eb:d2=.lst ys){p:Pos}(hg:∀i,Gl (F.cx i) "zip":=by intro _;rfl)(hs:∀i,starEach [a,b] (F.cx i).env=[(false,eval a (F.cx i).env),(false,eval b (F.cx i).env)]:=by intro _;rfl)(du:∀i,starEach [b] (F.cx i).env=[(false,eval b (F.cx i).env)]:=by intro _;rfl):
  sW F Φ (.Tuple elts kk tp) (.Call (.Name "zip" p) [a,b] [] pos) (iS xs ys):=by
 obtain⟨τ,p,q⟩:_:=ha;refine⟨Gh F.K τ,λi=>F.hK i▸MZ (hg i) ((F.hm i).symm▸hm) (p i) (hs i) (du i),λσ G H R s r k=>q σ G H _ s r λvs G1 H1 s1 hx=>?_⟩;subst ea eb;obtain⟨x,y,rfl,⟨l1,us,rfl,g1,g2⟩,⟨l2,ws,rfl,g3,g4⟩⟩:_:=pZ hx;have e1:=g2.length;have e2:=g4.length;refine⟨l1,l2,us,ws,rfl,s1.s.seq g1,s1.s.seq g3,k _ G1 H1 s1 λj G2 H2 sg sh=>⟨λd hd=>?_,λhz=>?_⟩⟩
 ·unfold iS at hd;rw[Pf]at hd;cases qx:xs[j]? with
  |none=>rw[qx]at hd;cases hd
  |some dx=>
   cases qy:ys[j]? with
   |none=>rw[qx,qy]at hd;cases hd
   |some dy=>
    rw[qx,qy]at hd;cases hd;obtain⟨vx,x1,x2⟩:_:=g2.get qx;obtain⟨vy,y1,y2⟩:_:=g4.get qy;have lx:=(gr.mp x1).1;have ly:=(gr.mp y1).1;refine⟨⟨(sg.trans sh).seq g1,(sg.trans sh).seq g3,'O'⟩,?_⟩;intro x H3 z9;obtain⟨T,wx,wy,hT,z1,z2,rfl,rfl⟩:_:=z9;rw[x1]at z1;rw[y1]at z2;cases z1;cases z2;exact⟨_,.new sh hT,T,_,rfl,cO.of bM,_,_,rfl,(x2.mono sg).mono (aj.new (sh.free hT)),_,_,rfl,(y2.mono sg).mono (aj.new (sh.free hT)),rfl⟩
 ·refine⟨(sg.trans sh).seq g1,(sg.trans sh).seq g3,?_⟩
  grind [iS]
theorem zj {F:aU ι}(h:a9 F Φ e t)(s:aj G H)(f : Φ G σ)(k:Kv F.K G H t Q):uE F e σ H Q:=by obtain⟨τ,p,q⟩:=h;exact⟨τ,p,q σ G H Q s f k⟩
theorem Oi:∀{ns:LI} {vs:List V} {fq:List adG},aT K G H (ns.map ti) vs fq->vs=ns.map V.int/\fq=[]
 |[],_,_,z9=>by obtain⟨h1,h2⟩:=z9;exact⟨h1,h2⟩
 |n::ns,_,_,z9=>by
  obtain⟨v,r,f1,f2,h1,h2,h3,h4⟩:=z9;obtain⟨e1,e2⟩:=Oi h4;obtain⟨q1,q2⟩:=h3
  grind [aS]
theorem sR (h:Ow K G H (aE ns) v fq):∃p,v=.ref p/\H p=some (.lst (ns.map V.int))/\fq=[p]:=by
 obtain⟨a,vs,f,rfl,h1,h2,rfl⟩:_:=h
 grind [Oi]
section
variable {l3:adG}
theorem Mv.dis (h:Mv K C st G H m dx v1 o2 l3 o4 l5 r2 r4):(m≠o2/\m≠l3/\m≠o4/\m≠l5/\m∉r2/\m∉r4)/\(o2≠l3/\o2≠o4/\o2≠l5/\o2∉r2/\o2∉r4)/\(l3≠o4/\l3≠l5/\l3∉r2/\l3∉r4)/\(o4≠l5/\o4∉r2/\o4∉r4)/\(l5∉r2/\l5∉r4)/\r2.Nodup/\r4.Nodup/\∀a,a∈r2->a∈r4->False:=by
 have nd:=h.nd;simp[AE,qr,not_or]at nd;obtain⟨a,b,c,d,e,f⟩:_:=nd;obtain⟨f1,f2,f3⟩:_:=AN.mp f;exact⟨a,b,c,d,e,f1,f2,λx h1 h2=>f3 x h1 x h2 rfl⟩
theorem EF {r:List adG}(nd:r.Nodup){j:Nat}(h1:r[i]?=some a)(h2:r[j]?=some b)(ne:i≠j):a≠b:=λz=>by
 subst z;have l1:=(gr.mp h1).1;exact ne ((List.getElem?_inj l1 nd).mp (h1.trans h2.symm))
theorem Mv.ac9 (h:Mv K C st G H m dx v1 o2 l3 o4 l5 r2 r4)(u:Nat->Int):Mv K C {st with s:={st.s with sp:=u}} G (upd H l3 (cV st.M u)) m dx v1 o2 l3 o4 l5 r2 r4:=by
 obtain⟨⟨_,a2,_⟩,⟨b1,_⟩,⟨c1,c2,c3,c4⟩,_⟩:_:=h.dis;exact⟨by rw[aH a2];exact h.i,h.h1,by rw[aH b1];exact h.h2,h.n2,λi a e=>by rw[jc c3 (ba e)];exact h.e2 i a e,bM,by rw[aH c1.symm];exact h.h4,h.n4,λi a e=>by rw[jc c4 (ba e)];exact h.e4 i a e,by rw[aH c2.symm];exact h.h5,h.nd,h.g⟩
theorem Mv.ada (h:Mv K C st G H m dx v1 o2 l3 o4 l5 r2 r4)(u:Nat->Int):Mv K C {st with s:={st.s with wn:=u}} G (upd H l5 (cV st.A u)) m dx v1 o2 l3 o4 l5 r2 r4:=by
 obtain⟨⟨_,_,_,a4,_⟩,⟨_,_,b3,_⟩,⟨_,c2,_⟩,⟨d1,_⟩,⟨e1,e2⟩,_⟩:_:=h.dis;exact⟨by rw[aH a4];exact h.i,h.h1,by rw[aH b3];exact h.h2,h.n2,λi a e=>by rw[jc e1 (ba e)];exact h.e2 i a e,by rw[aH c2];exact h.h3,by rw[aH d1];exact h.h4,h.n4,λi a e=>by rw[jc e2 (ba e)];exact h.e4 i a e,bM,h.nd,h.g⟩
theorem Mv.adb (h:Mv K C st G H m dx v1 o2 l3 o4 l5 r2 r4)(hp:r2[j]?=some p)(u:Nat->Int):Mv K C {st with s:={st.s with own:=λb=>if b=j then u else st.s.own b}} G (upd H p (cV st.M u)) m dx v1 o2 l3 o4 l5 r2 r4:=by
 obtain⟨⟨_,_,_,_,a5,_⟩,⟨_,_,_,b4,_⟩,⟨_,_,c3,_⟩,⟨_,d2,_⟩,⟨e1,_⟩,n2,_,x⟩:_:=h.dis;have mp:=ba hp;refine⟨by rw[jM a5 mp];exact h.i,h.h1,by rw[jM b4 mp];exact h.h2,h.n2,λi a e=>?_,by rw[jM c3 mp];exact h.h3,by rw[jM d2 mp];exact h.h4,h.n4,λi a e=>by rw[jc (x p mp) (ba e)];exact h.e4 i a e,by rw[jM e1 mp];exact h.h5,h.nd,h.g⟩;show upd H p (cV st.M u) a=some (cV st.M (if i=j then u else st.s.own i));by_cases z:i=j
 ·subst z;rw[hp]at e;cases e;rw[bM,uu rfl]
 ·rw[aH (EF n2 e hp z),rf z];exact h.e2 i a e
theorem Mv.ade (h:Mv K C st G H m dx v1 o2 l3 o4 l5 r2 r4){j:Nat}{p:adG}(hp:r4[j]?=some p)(u:Nat->Int):Mv K C {st with s:={st.s with got:=λb=>if b=j then u else st.s.got b}} G (upd H p (cV st.M u)) m dx v1 o2 l3 o4 l5 r2 r4:=by
 obtain⟨⟨_,_,_,_,_,a6⟩,⟨_,_,_,_,b5⟩,⟨_,_,_,c4⟩,⟨_,_,d3⟩,⟨_,e2⟩,_,n4,x⟩:_:=h.dis;have mp:=ba hp;refine⟨by rw[jM a6 mp];exact h.i,h.h1,by rw[jM b5 mp];exact h.h2,h.n2,λi a e=>by rw[jc (λz=>x p z mp) (ba e)];exact h.e2 i a e,by rw[jM c4 mp];exact h.h3,by rw[jM d3 mp];exact h.h4,h.n4,λi a e=>?_,by rw[jM e2 mp];exact h.h5,h.nd,h.g⟩;show upd H p (cV st.M u) a=some (cV st.M (if i=j then u else st.s.got i));by_cases z:i=j
 ·subst z;rw[hp]at e;cases e;rw[bM,uu rfl]
 ·rw[aH (EF n4 e hp z),rf z];exact h.e4 i a e
theorem FK (a:m≠o2/\m≠l3/\m≠o4/\m≠l5/\m∉r2/\m∉r4)(b:o2≠l3/\o2≠o4/\o2≠l5/\o2∉r2/\o2∉r4)(c:l3≠o4/\l3≠l5/\l3∉r2/\l3∉r4)(d:o4≠l5/\o4∉r2/\o4∉r4)(e:l5∉r2/\l5∉r4)(f1:r2.Nodup)(f2:r4.Nodup)(f3:∀a,a∈r2->a∈r4->False):(mF m o2 l3 o4 l5 r2 r4).Nodup:=by
 simp[AE,qr,not_or];exact⟨a,b,c,d,e,AN.mpr ⟨f1,f2,λx h1 y h2 z=>f3 x h1 (z▸h2)⟩⟩
theorem Oj (h:p∉mF m o2 l3 o4 l5 r2 r4):p≠m/\p≠o2/\p≠l3/\p≠o4/\p≠l5/\p∉r2/\p∉r4:=by
 simp_all
theorem Mv.adf (h:Mv K C st G H m dx v1 o2 l3 o4 l5 r2 r4)(hp:p∉mF m o2 l3 o4 l5 r2 r4)(hg:G p=none)(u:Nat->Int)(e:H p=some (cV st.M u)):
  Mv K C {st with s:={st.s with sp:=u}} G (upd H m (.ins C dx [("orders",v1),("owned",.ref o2),("spare",.ref p),("got",.ref o4),("wanted",.ref l5)])) m dx v1 o2 p o4 l5 r2 r4:=by
 obtain⟨⟨a1,a2,a3,a4,a5,a6⟩,⟨b1,b2,b3,b4,b5⟩,⟨c1,c2,c3,c4⟩,⟨d1,d2,d3⟩,⟨e1,e2⟩,n2,n4,x⟩:_:=h.dis;obtain⟨p1,p2,p3,p4,p5,p6,p7⟩:_:=Oj hp;refine⟨bM,h.h1,by rw[aH a1.symm];exact h.h2,h.n2,λi a e=>by rw[jc a5 (ba e)];exact h.e2 i a e,by rw[aH p1];exact e,by rw[aH a3.symm];exact h.h4,h.n4,λi a e=>by rw[jc a6 (ba e)];exact h.e4 i a e,by rw[aH a4.symm];exact h.h5,FK ⟨a1,p1.symm,a3,a4,a5,a6⟩ ⟨p2.symm,b2,b3,b4,b5⟩ ⟨p4,p5,p6,p7⟩ ⟨d1,d2,d3⟩ ⟨e1,e2⟩ n2 n4 x,λa ha=>?_⟩;obtain z|ha:=ff.mp ha
 ·exact z▸h.g _ Mv.m1
 obtain z|ha:=ff.mp ha
 ·exact z▸h.g _ Mv.m2
 obtain z|ha:=ff.mp ha
 ·simp_all
 ·exact h.g a (.tail _ (.tail _ (.tail _ ha)))
theorem Ol:∀{r:List adG} {j:Nat} {p:adG},r.Nodup->p∉r->(r.set j p).Nodup
 |[],_,_,_,_=>.nil
 |a::r,0,p,h,n=>AE.mpr ⟨λz=>n (.tail _ z),(AE.mp h).2⟩
 |a::r,j+1,p,h,n=>AE.mpr ⟨λz=>(WI z).elim (AE.mp h).1 λz=>n (z▸.head _),Ol (AE.mp h).2 λz=>n (.tail _ z)⟩
theorem Mv.jR (h:Mv K C st G H m dx v1 o2 l3 o4 l5 r2 r4)(hp:p∉mF m o2 l3 o4 l5 r2 r4)(hg:G p=none)(j:Nat)(u:Nat->Int)(e:H p=some (cV st.M u)):
  Mv K C {st with s:={st.s with own:=λb=>if b=j then u else st.s.own b}} G (upd H o2 (.lst ((r2.set j p).map V.ref))) m dx v1 o2 l3 o4 l5 (r2.set j p) r4:=by
 obtain⟨⟨a1,a2,a3,a4,a5,a6⟩,⟨b1,b2,b3,b4,b5⟩,⟨c1,c2,c3,c4⟩,⟨d1,d2,d3⟩,⟨e1,e2⟩,n2,n4,x⟩:_:=h.dis;obtain⟨p1,p2,p3,p4,p5,p6,p7⟩:_:=Oj hp;have sub:∀a,a∈r2.set j p->a=p\/a∈r2:=λa ha=>(WI ha).symm
 have off:∀{a},a≠p->a∉r2->a∉r2.set j p:=λ{a} h1 h2 z=>(sub a z).elim h1 h2
 have nd:(r2.set j p).Nodup:=Ol n2 p6;refine⟨by rw[aH a1];exact h.i,h.h1,bM,by rw[SI];exact h.n2,λi a ea=>?_,by rw[aH b1.symm];exact h.h3,by rw[aH b2.symm];exact h.h4,h.n4,λi a e=>by rw[jc b5 (ba e)];exact h.e4 i a e,by rw[aH b3.symm];exact h.h5,FK ⟨a1,a2,a3,a4,off p1.symm a5,a6⟩ ⟨b1,b2,b3,off p2.symm b4,b5⟩ ⟨c1,c2,off p3.symm c3,c4⟩ ⟨d1,off p4.symm d2,d3⟩ ⟨off p5.symm e1,e2⟩ nd n4 (λa h1 h2=>(sub a h1).elim (λz=>p7 (z▸h2)) λz=>x a z h2),λa ha=>?_⟩
 ·show upd H o2 _ a=some (cV st.M (if i=j then u else st.s.own i));rw[List.getElem?_set]at ea;by_cases q:j=i
  ·grind [aH]
  ·rw[rf q]at ea;rw[jc b4 (ba ea),rf λz=>q z.symm];exact h.e2 i a ea
 obtain z|ha:=ff.mp ha
 ·exact z▸h.g _ Mv.m1
 obtain z|ha:=ff.mp ha
 ·exact z▸h.g _ Mv.m2
 obtain z|ha:=ff.mp ha
 ·exact z▸h.g _ Mv.m3
 obtain z|ha:=ff.mp ha
 ·exact z▸h.g _ Mv.m4
 obtain z|ha:=ff.mp ha
 ·exact z▸h.g _ Mv.m5
 obtain z|z:=qr.mp ha
 ·obtain z|z:=sub a z
  ·simp_all
  ·exact h.g a (.tail _ (.tail _ (.tail _ (.tail _ (.tail _ (xw _ z))))))
 ·exact h.g a (.tail _ (.tail _ (.tail _ (.tail _ (.tail _ (i4 _ z))))))
end
theorem yE (h:j<n):fh n (j:Int)=some j:=by
 unfold fh
 simp_all
theorem abp {k:Nat}(h:(iS xs ys)[k]?=some d):∃x y,xs[k]?=some x/\ys[k]?=some y/\d=.tup [x,y]:=by
 unfold iS at h;rw[Pf]at h;cases e:xs[k]? with
 |none=>rw[e]at h;cases h
 |some x=>
  cases e2:ys[k]? with
  |none=>rw[e,e2]at h;cases h
  |some y=>rw[e,e2]at h;exact⟨x,y,rfl,rfl,(GG h).symm⟩
theorem zk (A:Nat)(f:Nat->Int):Tr.ow (((List.range A).filter λ_=>true).map λ(k:Nat)=>ti (f k))=aE (bB A f):=by
 rw[adW.mpr λ_ _=>rfl]
 simp_all
abbrev yF:afW:=nI 7
theorem Yw:aZ ["self", "asker"] ["self", "asker"] (aA yF):=sk
abbrev RV (P:afU)(w:afV)(K:Frag)(mg:Str->Option vn)(base:Heap)(f:adG)(k:Nat):=iR P w K mg base ["self", "asker"] "Market.leave" (aA yF) f k
def Qv (K:Frag)(C:adG):Sp:=λvs H Q _=>∃(G:Hp) (m:adG) (a:Nat) (st:Ms) (dx:adG) (v1:V) (o2 l3 o4 l5:adG) (r2 r4:List adG),vs=[.ref m,.int (a:Int)]/\aj G H/\Mv K C st G H m dx v1 o2 l3 o4 l5 r2 r4/\a<st.A/\st.M<=7 /\
 ∀G' H' fm gg,Sx G H (mF m o2 l3 o4 l5 r2 r4) G' H' (mF m o2 fm o4 l5 gg r4)->Mv K C {st with s:=ag.lv st.s a} G' H' m dx v1 o2 fm o4 l5 gg r4->Q .aY H'
theorem Yx (F:fE K "leave" "Market.leave" yF .none f fd)(T:Txt mg)(U:kY K C):bQ P w K mg base bx (k+1) f fd ["self", "asker"] (Qv K C):=by
 refine F.ok Yw (λvs H Q E z9=>by obtain⟨_,_,_,_,_,_,_,_,_,_,_,_,h1,_⟩:_:=z9;rw[h1];rfl) λaL A outer s H vs Q E hr h=>?_
 obtain⟨G,m,a,st,dx,v1,o2,l3,o4,l5,r2,r4,rfl,sm,M,ha,hM,kv⟩:_:=h;refine⟨_,cX (sd (pv 0) (dJ (F:=RV P w K mg base f k) ⟨aL,A,outer,s,H,E,hr⟩) rfl) (fu (rY (dJ (F:=RV P w K mg base f k) ⟨aL,A,outer,s,H,E,hr⟩) (nY (mL (pv 0) rfl) (pv 1) set_list))),?_⟩;have big:=cw;have mo:∀{st:Ms},Mo (jE K C st ["self", "asker"] [di a]):=EC;have el:(iS ((bB st.M st.s.sp).map di) ((bB st.M (st.s.own a)).map di)).length=st.M:=by
  unfold iS;rw[List.length_zipWith,aa,aa,aa,aa,xy,afR]
 refine zj (t:=aE (bB st.M λx=>st.s.sp x+st.s.own a x)) (a9.to (rW (ρ:=[none]) (own:=["parts", "more"]) (fr:=[]) (λi=>cg) (λG σ _=>DI) (Yv (d1:=dis (bB st.M st.s.sp)) T.Fw (mC mo (jJ (C:=C) (d:=dis (bB st.M st.s.sp)) 0 U.cl U.n3 vS (λi=>pv 0)) (mC mo (mN mo (jJ (C:=C) (d:=kX st.A st.M st.s.own) 0 U.cl U.n2 Qp (λi=>pv 0)) (Ev.p (by exact ae 1 rfl) pM) rfl (Pw _ ha)) rK)) rfl rfl) (iO 0 1 (λ_=>bH)) 'Q' (λ_=>true) (λ(k:Nat)=>ti (st.s.sp k+st.s.own a k)) (by rw[el];lia) (λk d hd=>?_)) (by rw[el];exact zk _ _)) (gi sm) ⟨m,_,rfl,M.th,_,_,rfl,⟨rfl,rfl⟩,rfl⟩ λv G1 H1 fq s1 ow nw=>?_
 ·obtain⟨x,y,hx,hy,rfl⟩:_:=abp hd;obtain⟨_,rfl⟩:=zc hx;obtain⟨_,rfl⟩:=zc hy;exact⟨_,rfl,sf,λ_=>by exact eI (ae 0 rfl) (ae 1 rfl)⟩
 obtain⟨p,rfl,hp,rfl⟩:=sR ow;have M1:=M.look s1;have e1:=ux M.g s1;have pn:=nw.n p (.head _);have pF:p∉mF m o2 l3 o4 l5 r2 r4:=λz=>by
  obtain⟨o,ho⟩:=M.there p z;rw[pn]at ho;cases ho
 have pg:fL G1 (mF m o2 l3 o4 l5 r2 r4) p=none:=by rw[nW pF];exact nw.g p (.head _)
 refine⟨.ref m,rfl,m,C,dx,_,rfl,M1.i,U.cl,U.n3,by show 5<1000;decide,?_⟩;have M2:=M1.adf pF pg _ hp;have x2:Sx G H (mF m o2 l3 o4 l5 r2 r4) (fL G1 (mF m o2 l3 o4 l5 r2 r4)) (upd H1 m (.ins C dx [("orders",v1),("owned",.ref o2),("spare",.ref p),("got",.ref o4),("wanted",.ref l5)])) (mF m o2 p o4 l5 r2 r4):=((Sx.step e1).trans (.put e1.s Mv.m1 (M1.g _ Mv.m1))).more λx hx=>by
  obtain z|hx:=ff.mp hx
  ·exact .inl (z▸Mv.m1)
  obtain z|hx:=ff.mp hx
  ·exact .inl (z▸Mv.m2)
  obtain z|hx:=ff.mp hx
  ·exact .inr (z▸pn)
  ·exact .inl (.tail _ (.tail _ (.tail _ hx)))
 generalize fL G1 (mF m o2 l3 o4 l5 r2 r4)=G2 at M2 x2;have eH:upd H1 m (.ins C dx (gJ "spare" (.ref p) [("orders",v1),("owned",.ref o2),("spare",.ref l3),("got",.ref o4),("wanted",.ref l5)]))=upd H1 m (.ins C dx [("orders",v1),("owned",.ref o2),("spare",.ref p),("got",.ref o4),("wanted",.ref l5)]):=rfl;rw[eH];generalize upd H1 m (.ins C dx [("orders",v1),("owned",.ref o2),("spare",.ref p),("got",.ref o4),("wanted",.ref l5)])=H2 at M2 x2;generalize iw:({st with s:={st.s with sp:=λx=>st.s.sp x+st.s.own a x}}:Ms)=a7 at M2;have eM:a7.M=st.M:=by rw[<- iw]
 refine zj (Φ:=jE K C a7 ["self", "asker"] [di a]) (t:=aE (bB a7.M λ_=>0)) (a9.to (rW (ρ:=[none]) (own:=["parts"]) (fr:=[]) (λi=>cg) (λG σ _=>DI) (ui (jJ (C:=C) (d:=dis (bB a7.M a7.s.sp)) 0 U.cl U.n3 vS (λi=>pv 0)) rfl) (bp 0 (λ_=>bH)) 'Q' (λ_=>true) (λ(k:Nat)=>ti 0) (by rw[aa,aa,xy];lia) (λk d hd=>⟨_,rfl,sf,λ_=>by exact ak⟩)) (by rw[aa,aa,xy];exact zk _ _)) (gi x2.s) ⟨m,_,rfl,M2.th,_,_,rfl,⟨rfl,rfl⟩,rfl⟩ λv G3 H3 fq s3 ow RW=>?_
 obtain⟨q,rfl,hq,rfl⟩:=sR ow;have M3:=M2.look s3;have e3:=ux M2.g s3;have qn:=RW.n q (.head _);have qF:q∉mF m o2 p o4 l5 r2 r4:=λz=>by
  obtain⟨o,ho⟩:=M2.there q z;rw[qn]at ho;cases ho
 have qg:fL G3 (mF m o2 p o4 l5 r2 r4) q=none:=by rw[nW qF];exact RW.g q (.head _)
 refine⟨_,rfl,m,C,dx,_,.ref o2,rfl,M3.i,U.cl,U.n2,rfl,.int (a:Int),rfl,o2,_,a,a,rfl,rfl,M3.h2,?_,?_⟩
 ·rw[aa,M3.n2];exact yE (by rw[<- iw];exact ha)
 rw[<- List.map_set];have M4:=M3.jR qF qg a _ hq;have x4:Sx G2 H2 (mF m o2 p o4 l5 r2 r4) (fL G3 (mF m o2 p o4 l5 r2 r4)) (upd H3 o2 (.lst ((r2.set a q).map V.ref))) (mF m o2 p o4 l5 (r2.set a q) r4):=((Sx.step e3).trans (.put e3.s Mv.m2 (M3.g _ Mv.m2))).more λx hx=>by
  obtain z|hx:=ff.mp hx
  ·exact .inl (z▸Mv.m1)
  obtain z|hx:=ff.mp hx
  ·exact .inl (z▸Mv.m2)
  obtain z|hx:=ff.mp hx
  ·exact .inl (z▸Mv.m3)
  obtain z|hx:=ff.mp hx
  ·exact .inl (z▸Mv.m4)
  obtain z|hx:=ff.mp hx
  ·exact .inl (z▸Mv.m5)
  obtain z|z:=qr.mp hx
  ·obtain z|z:=WI z
   ·exact .inl (.tail _ (.tail _ (.tail _ (.tail _ (.tail _ (xw _ z))))))
   ·exact .inr (z▸qn)
  ·exact .inl (.tail _ (.tail _ (.tail _ (.tail _ (.tail _ (i4 _ z))))))
 refine kv _ _ p (r2.set a q) (x2.trans x4) ?_;have es:({a7 with s:={a7.s with own:=λb=>if b=a then (λ_=>0)else a7.s.own b}}:Ms)={st with s:=ag.lv st.s a}:=by
  rw[<- iw];have:(λb=>if b=a then (λ_=>(0:Int))else st.s.own b)=λb x=>if b=a then 0 else st.s.own b x:=by
   funext b x
   by_cases z:b=a
   ·rw[uu z,uu z]
   ·rw[rf z,rf z]
  unfold ag.lv;rw[<- this]
 exact es▸M4
end
section
theorem yG (R:List α)(c : α)(p : α->Bool):ag.cn (R++[c]) p=ag.cn R p+if p c then 1 else 0:=by
 unfold ag.cn;rw[ad4,vc];cases h:p c with
 |true=>rw[List.filter_cons_of_pos h];simp
 |false=>rw[List.filter_cons_of_neg (by rw[h];decide)];simp
theorem Om (go:Go st):∀f P x,ag.Pt st.A st.O st.s P x->P.length+f=st.A+1->ag.Pt st.A st.O st.s (lW st.A st.O st.s f P x).1 (lW st.A st.O st.s f P x).2/\(lW st.A st.O st.s f P x).2∈(lW st.A st.O st.s f P x).1
 |0=>λP x h e=>by
  have:=oq h.nd λc hc=>(h.rg c hc).1
  lia
 |f+1=>λP x h e=>by
  obtain⟨hA,hM,ok,B,cnt,sh,Gn,n,iv,hn,hc⟩:_:=id go;unfold lW;by_cases hx:x∈P
  ·simp_all
  ·rw[rf hx];exact Om go f _ _ (h.next ok iv hn hc hx) (by grind)
theorem EG (go:Go st)(hw:ag.cY st.A st.s≠[]):ag.Pt st.A st.O st.s (m8 st).1 (m8 st).2/\(m8 st).2∈(m8 st).1:=by
 refine Om go _ _ _ ⟨.nil,(λc hc=>nomatch hc),?_,λi c hi=>by cases hi⟩ 'Y';cases e:ag.cY st.A st.s with
 |nil=>exact absurd e hw
 |cons c l=>
  have:c∈ag.cY st.A st.s:=by rw[e];exact .head _
  obtain⟨h1,h2⟩:=BY.mp this;exact⟨l9.mp h1,GS h2⟩
theorem C3 (go:Go st)(hw:ag.cY st.A st.s≠[]):(∀c∈bD st,c<st.A/\0<st.s.wn c)/\bD st≠[]:=by
 obtain⟨p,h⟩:=EG go hw;refine⟨λc hc=>p.rg c (adP hc),λz=>?_⟩
 grind [bD,List.drop_eq_nil_iff]
def Pa (st:Ms)(p:Int):Prop:=(∃c∈bD st,p=st.s.wn c\/p=gP st (ag.best st.A st.O st.s c) (ag.nx st.A st.O st.s c) (ag.best st.A st.O st.s c))/\∀c∈bD st,p<=st.s.wn c/\p<=gP st (ag.best st.A st.O st.s c) (ag.nx st.A st.O st.s c) (ag.best st.A st.O st.s c)
theorem Pz (go:Go st)(hw:ag.cY st.A st.s≠[])(h:Pa st p):ag.Rg st.A st.O st.s (bD st) p/\∃c∈bD st,p=st.s.wn c\/(0<st.s.sp (ag.best st.A st.O st.s c)/\p=st.s.sp (ag.best st.A st.O st.s c))\/(¬0<st.s.sp (ag.best st.A st.O st.s c)/\p=st.s.own (ag.nx st.A st.O st.s c) (ag.best st.A st.O st.s c)):=by
 obtain⟨hA,hM,ok,B,cnt,sh,Gn,n,iv,hn,hc⟩:_:=id go;obtain⟨pt,hx⟩:=EG go hw;obtain⟨⟨c,cQ,e⟩,le⟩:_:=h;have rm:=(C3 go hw).1;have sv:∀c,(0<st.s.sp (ag.best st.A st.O st.s c)->gP st (ag.best st.A st.O st.s c) (ag.nx st.A st.O st.s c) (ag.best st.A st.O st.s c)=st.s.sp (ag.best st.A st.O st.s c))/\(¬0<st.s.sp (ag.best st.A st.O st.s c)->gP st (ag.best st.A st.O st.s c) (ag.nx st.A st.O st.s c) (ag.best st.A st.O st.s c)=st.s.own (ag.nx st.A st.O st.s c) (ag.best st.A st.O st.s c)):=λc=>⟨λz=>by unfold gP;rw[uu z],λz=>by unfold gP;rw[rf z]⟩
 have pos:∀c∈bD st,0<gP st (ag.best st.A st.O st.s c) (ag.nx st.A st.O st.s c) (ag.best st.A st.O st.s c):=λc cQ=>by
  by_cases z : 0<st.s.sp (ag.best st.A st.O st.s c)
  ·rw[(sv c).1 z];exact z
  ·rw[(sv c).2 z];exact(ag.zI ok iv hn hc (rm c cQ).1 (rm c cQ).2).2.2 z
 have p0 : 0<p:=by
  obtain e|e:=e
  ·rw[e];exact(rm c cQ).2
  ·rw[e];exact pos c cQ
 refine⟨pt.ring hx p0 (λc h=>(le c h).1) (λc h z=>(sv c).1 z▸(le c h).2) λc h z=>(sv c).2 z▸(le c h).2,c,cQ,?_⟩;obtain e|e:=e
 ·exact .inl e
 ·by_cases z : 0<st.s.sp (ag.best st.A st.O st.s c)
  ·exact .inr (.inl ⟨z,e.trans ((sv c).1 z)⟩)
  ·exact .inr (.inr ⟨z,e.trans ((sv c).2 z)⟩)
theorem Yy (r:ag.Rg A O s R p){j:Nat}(hi:R[i]?=some c)(hj:R[j]?=some d)(e:ag.best A O s c=ag.best A O s d):i=j:=by
 have:=r.inj c (ba hi) d (ba hj) (by unfold ag.nx;rw[e]);subst this;exact(List.getElem?_inj (gr.mp hi).1 r.nd).mp (hi.trans hj.symm)
section
variable {R:List Nat}
theorem aag (r:ag.Rg A O s R p)(hi:R[i]?=some c)(q:Nat->Bool):ag.cn (R.take i) (λd=>decide (ag.best A O s d=ag.best A O s c)&&q d)=0:=ag.Dx λd hd=>by
 obtain⟨j,hj⟩:=adM.mp hd
 grind [Yy]
theorem abq (r:ag.Rg A O s R p)(hi:R[i]?=some c):(ag.aQ A O s (R.take i) p).sp (ag.best A O s c)=s.sp (ag.best A O s c):=by
 show s.sp _-p*ag.cn (R.take i) (λd=>decide (ag.best A O s d=ag.best A O s c)&&decide (0<s.sp (ag.best A O s c)))=_;rw[aag r hi];simp
theorem take_snoc {α:Type}{R:List α}{c : α}(hi:R[i]?=some c):R.take (i+1)=R.take i++[c]:=by
 rw[List.take_add_one,hi];rfl
theorem Yz (hi:R[i]?=some c):ag.aQ A O s (R.take (i+1)) p={own:=λg x=>(ag.aQ A O s (R.take i) p).own g x-(if ag.nx A O s c=g/\ag.best A O s c=x/\¬0<s.sp x then p else 0),sp:=λx=>(ag.aQ A O s (R.take i) p).sp x-(if ag.best A O s c=x/\0<s.sp x then p else 0),got:=λa x=>(ag.aQ A O s (R.take i) p).got a x+(if c=a/\ag.best A O s c=x then p else 0),wn:=λa=>(ag.aQ A O s (R.take i) p).wn a-(if c=a then p else 0)}:=by
 have sub:∀(v n) (b) (q) [Decidable q],(b=true↔q)->v-p*(n+if b=true then 1 else 0)=v-p*n-if q then p else 0:=λv n b q _ h=>by
  by_cases z:q
  ·rw[uu z,uu (h.mpr z),aes];lia
  ·rw[rf z,rf λy=>z (h.mp y),aes];lia
 have add:∀(v n) (b) (q) [Decidable q],(b=true↔q)->v+p*(n+if b=true then 1 else 0)=v+p*n+if q then p else 0:=λv n b q _ h=>by
  by_cases z:q
  ·rw[uu z,uu (h.mpr z),aes];lia
  ·rw[rf z,rf λy=>z (h.mp y),aes];lia
 rw[take_snoc hi];unfold ag.aQ;congr 1
 ·funext g x
  rw[yG];exact sub _ _ _ _ 'Y'
 ·funext x
  rw[yG];exact sub _ _ _ _ 'Y'
 ·funext a x
  rw[yG];exact add _ _ _ _ 'Y'
 ·funext a
  rw[yG];exact sub _ _ _ _ 'Y'
end
section
variable {F:aU ι}{pos:Pos}
theorem JT {id:String}(hc:∀i,fA (F.cx i) (.builtin id) r)(hm:F.mg x=none)(hv:bootBuiltins x=some (.builtin id))(ha:oC F Φ (e::es) dd)(h:∀G H xs Q,aj G H->aG F.K G dd xs->Kv F.K G H t Q->r xs H Q){p':Pos}(hg:∀i,Gl (F.cx i) x:=by intro _;rfl)(hn:x ≠ "__name__":=by decide)(fc:(x==("__debug__":Str))=false:=by decide)(he:∀i,starEach (e::es) (F.cx i).env=(false,eval e (F.cx i).env)::starEach es (F.cx i).env:=by intro _;rfl)(dv:∀i,(backTo pos (starEach es (F.cx i).env)).any (·.1)=false:=by intro _;rfl):a9 F Φ (.Call (.Name x p') (e::es) [] pos) t:=by
 obtain⟨τ,y,z⟩:_:=ha;refine⟨me r τ,λi=>uk (hc i) (hg i) ((F.hm i).symm▸hm) hv (y i) hn fc (he i) (dv i),λσ G H Q s rr k=>z σ G H _ s rr λvs G1 H1 s1 hx=>?_⟩;exact h G1 H1 vs Q s1.s hx (k.step s1)
theorem KA (hm:F.mg "min"=none)(ha:a9 F Φ e ta)(ea:er ta=dis ns)(h:m∈ns/\∀a∈ns,m<=a){p':Pos}(hg:∀i,Gl (F.cx i) "min":=by intro _;rfl)(hs:∀i,starEach [e] (F.cx i).env=[(false,eval e (F.cx i).env)]:=by intro _;rfl):a9 F Φ (.Call (.Name "min" p') [e] [] pos) (ti m):=
 JT (λi=>F.hK i▸WX (F.calm i)) hm aaQ (BP ha hs) (λG H vs Q s hx k=>by
  obtain⟨x,rfl,eF⟩:=iQ hx
  replace hx:=eF
  rw[ea]at hx;obtain⟨l,ys,rfl,h1,h2⟩:=hx;have:=nN h2;subst this;exact⟨l,ns,m,rfl,s.seq h1,h,k.sc s rfl⟩) hg 'Q' 'Q' hs (λ_=>rfl)
theorem aah (mo:Mo Φ)(ha:a9 F Φ a ta)(hb:a9 F Φ b tb')(ea:er ta=.lst xs)(eb:er tb'=.lst ys)(hz:xs.length+ys.length<=sizeLine):a9 F Φ (.BinOp a .Add b pos) (.ow ((xs++ys).map .fz)):=
 LR mo (λi=>F.hK i▸Ld) ha hb λG H x y Q s hx hy k=>by
  rw[ea]at hx;rw[eb]at hy;obtain⟨l,vs,rfl,h1,h2⟩:=hx;obtain⟨l',ws,rfl,h3,h4⟩:=hy;refine⟨l,l',vs,ws,rfl,rfl,s.seq h1,s.seq h3,by rw[<- h2.length,<- h4.length];exact hz,λp hp=>?_⟩;exact k.lst s (aG.jW (aG.zY h2 h4)) hp
end
section
theorem rL {d0 d1 d2:Dv}{G:Hp}{σ:St}(h:∃aq vs,gV K C st 3 G aq/\aq.length=3+1/\aG K G [d0,d1,d2] vs/\σ=a8 [0,1,2] vs aq):aX K G [some (.fz d0),some (.fz d1),some (.fz d2),none] σ/\gV K C st 3 G σ:=by
 obtain⟨aq,vs,⟨m,hm,ht⟩,l,hv,e⟩:_:=h;obtain⟨x,r,rfl,hx,y,r2,rfl,hy,z,r3,rfl,hz,rfl⟩:_:=hv;obtain⟨s0,_,rfl,l1⟩:_:=oE l;obtain⟨s1,_,rfl,l2⟩:_:=oE l1;obtain⟨s2,r,rfl,_⟩:_:=oE l2;subst e;exact⟨gf hx (gf hy (gf hz (nJ 'Y'))),m,hm,ht⟩
theorem AQ:Mo λG σ => ∃aq vs,gV K C st 3 G aq/\aq.length=3+1/\aG K G dd vs/\σ=a8 [0,1,2] vs aq:=λG G' σ e z9=>by obtain⟨aq,vs,⟨m,h1,h2⟩,l,hv,es⟩:_:=z9;exact⟨aq,vs,⟨m,h1,h2.mono e⟩,l,hv.mono e,es⟩
theorem Mb (G:Hp)(σ:St)(vs:List V)(h:gV K C st 3 G σ):gV K C st 3 G (a8 [0,1,2] vs σ):=by
 obtain⟨m,h1,h2⟩:=h;refine⟨m,?_,h2⟩;obtain _|⟨x,_|⟨y,_|⟨z,r⟩⟩⟩:=vs
 ·exact h1
 ·show(σ.set 0 _)[3]?=_
  simp_all
 ·show((σ.set 0 _).set 1 _)[3]?=_
  simp_all
 ·show(((σ.set 0 _).set 1 _).set 2 _)[3]?=_
  simp_all
end
abbrev yH:afW:=nI 8
abbrev RX:List Str:=["self", "ring", "parts", "asker", "one", "giver", "source"]
theorem kh:aZ RX ["self"] (aA yH):=sk
abbrev RY (P:afU)(w:afV)(K:Frag)(mg:Str->Option vn)(base:Heap)(f:adG)(k:Nat):=iR P w K mg base RX "Market.trade" (aA yH) f k
def Ae (st:Ms)(p:Int):Ms:={st with s:=((bD st).filter λa=>decide ((ag.aQ st.A st.O st.s (bD st) p).wn a=0)).foldl ag.lv (ag.aQ st.A st.O st.s (bD st) p)}
def PB (K:Frag)(C:adG):Sp:=λvs H Q _=>∃(G:Hp) (m:adG) (st:Ms) (dx:adG) (v1:V) (o2 l3 o4 l5:adG) (r2 r4:List adG),vs=[.ref m]/\aj G H/\Mv K C st G H m dx v1 o2 l3 o4 l5 r2 r4/\Go st/\ag.cY st.A st.s≠[] /\
 ∀G' H' fm gg p,Sx G H (mF m o2 l3 o4 l5 r2 r4) G' H' (mF m o2 fm o4 l5 gg r4)->Pa st p->Mv K C (Ae st p) G' H' m dx v1 o2 fm o4 l5 gg r4->Q .aY H'
theorem Rw.fL {P:List Nat}(h:Rw st H G P rv)(t:∀a∈F,∃o,H a=some o):Rw st H (fL G F) P rv:=by obtain⟨ps,h1,h2,h3⟩:_:=h;exact⟨ps,h1,h2,λj p hj=>by obtain⟨a,c,b,d⟩:_:=h3 j p hj;exact⟨a,c,b,by
 rw[nW λz=>by
  obtain⟨o,ho⟩:=t p z;rw[a]at ho;cases ho]
 exact d⟩⟩
theorem C4:∀{l:LI},l≠[]->∃m,m∈l/\∀a∈l,m<=a
 |[],h=>absurd rfl h
 |[a],_=>⟨a,.head _,λb hb=>'J'⟩
 |a::b::l,_=>by
  obtain⟨m,h1,h2⟩:=C4 (l:=b::l) 'Y'
  grind
theorem Mf {R:List Nat}{k:Nat}(h:(R.map (jq st))[k]?=some d):∃c,R[k]?=some c/\d=jq st c:=by
 rw[l8]at h;cases e:R[k]? with
 |none=>rw[e]at h;cases h
 |some c=>rw[e]at h;exact⟨c,rfl,(GG h).symm⟩
theorem KC {R:List Nat}(f:Nat->Int)(g:Nat->Tr)(h:∀k c,R[k]?=some c->g k=ti (f c)):Tr.ow (((List.range R.length).filter λ_=>true).map g)=aE (R.map f):=by
 rw[adW.mpr λ_ _=>rfl];congr 1;apply Po
 grind
theorem abr {G:Hp}{o0 o2 o3 o4 o5 o6:Option V}{rv:V}{d:Dv}(h:Hv K G d rv):aX K G [none,some (.fz d),none,none,none,none,none] [o0,some rv,o2,o3,o4,o5,o6]:=xq (gf h (nJ 'Y'))
theorem aai {G:Hp}{o0 o3 o4 o5 o6:Option V}{rv:V}{d:Dv}{p:Int}(h:Hv K G d rv):aX K G [none,some (.fz d),some (ti p),none,none,none,none] [o0,some rv,some (.int p),o3,o4,o5,o6]:=xq (gf h (gf ⟨rfl,rfl⟩ (nJ 'Y')))
theorem zM (u:Nat->Int)(h:b<M):aP ((bB M u).map V.int) (b:Int)=some (.int (u b)):=dh 'J'
theorem EH (u:Nat->Int)(z:Int):((bB M u).map V.int).set b (.int z)=(bB M λy=>if y=b then z else u y).map V.int:=by
 apply Po
 grind
theorem PC (h:own.length=3)(G:Hp)(σ:St)(p:kZ K C st ρ G σ):gV K C st 3 G (mH own [0] σ):=by
 obtain⟨⟨m,h1,h2⟩,_⟩:_:=p;refine⟨m,?_,h2⟩;unfold mH;rw[wb (by rw[aa,h];exact br _),aa,h];show some ((σ[0]?).join)=_;rw[h1];rfl
theorem Qw {dd:List Dv}(m:Str)(hm:[("orders":Str), "owned", "spare", "got", "wanted"].contains m=false)(G:Hp)(σ:St)(h:gV K C st 3 G σ):∃a dx fs,σ[3]?=some (some (.ref a))/\G a=some (.ins C dx fs)/\fs.lookup m=none/\Th K C st G a:=by
 obtain⟨a,h1,h⟩:_:=h;obtain⟨dx,v1,v2,v3,v4,v5,h0,_⟩:_:=id h;refine⟨a,dx,_,h1,h0,?_,h⟩;simp only[afr,ae2]at hm;simp[LF,hm]
theorem adg (G:Hp)(σ:St)(h:gV K C st 3 G σ):∃m dx fs v,σ[3]?=some (some (.ref m))/\G m=some (.ins C dx fs)/\fs.lookup ("wanted":Str)=some v/\Hv K G (dis (bB st.A st.s.wn)) v:=by
 obtain⟨a,e,dx,v1,v2,v3,v4,v5,h0,h1,h2,h3,h4,h5⟩:_:=h;exact⟨a,dx,_,v5,e,h0,rfl,h5⟩
theorem YB {f fr fs fl:adG}{fd fdr fds RP:FuncData}{k j1 j2 j3:Nat}{C:adG}(F:fE K "trade" "Market.trade" yH .none f fd)(T:Txt mg)(U:kY K C)(EI:Km P w K mg base C "ring" j1 fr fdr ["self"] (Py K C))(rM:Km P w K mg base C "source" j2 fs fds ["self", "one", "giver"] (FJ K C))(DM:Km P w K mg base C "leave" j3 fl RP ["self", "asker"] (Qv K C))(l1:j1<=k)(l2:j2<=k)(fm:j3<=k):bQ P w K mg base bx (k+1) f fd ["self"] (PB K C):=by
 refine F.ok kh (λvs H Q E h=>by obtain⟨_,_,_,_,_,_,_,_,_,_,_,h1,_⟩:=h;rw[h1];rfl) λaL A outer s H vs Q E hr h=>?_
 obtain⟨G,m,st,dx,v1,o2,l3,o4,l5,r2,r4,rfl,sm,M,go,hw,kv⟩:=h;obtain⟨hA,hM,ok,B,cnt,sh,Gn,n,iv,hn,hc⟩:=id go;have big:=cw;refine⟨_,cX (hU (i:=1) kh.nd rfl (Or.inl rfl) (CF (pv 0) U.cl EI.m EI.ok (hr.mono l1) EI.b .nil mQ))
  (cX (hU (i:=2) kh.nd rfl (Or.inl rfl) (dJ (F:=RY P w K mg base f k) ⟨aL,A,outer,s,H,E,hr⟩))
  (cX (hU (i:=2) kh.nd rfl (Or.inl rfl) (dJ (F:=RY P w K mg base f k) ⟨aL,A,outer,s,H,E,hr⟩))
  (cX (yN ad7 rfl (uz (pv 1)) (yM rfl (kc (i7 (i:=3) kh.nd rfl (Or.inl rfl)) (kc (i7 (i:=4) kh.nd rfl (Or.inl rfl)) (kc (i7 (i:=5) kh.nd rfl (Or.inl rfl)) yu))))
   (cX (hU (i:=6) kh.nd rfl (Or.inl rfl) (C8 (pv 0) U.cl rM.m rM.ok (hr.mono l2) rM.b .nil mQ (cf (pv 4) (cf (pv 5) cG))))
   (cX (rY (sJ yO (lF nR (pv 6) (pv 4) (λ_ _=>rfl)) (pv 2)) (nY (pv 6) (pv 4) set_list))
   (cX (rY (sJ MJ (lF nR (lF nR (mL (pv 0) rfl) (pv 3) (λ_ _=>rfl)) (pv 4) (λ_ _=>rfl)) (pv 2)) (nY (lF nR (mL (pv 0) rfl) (pv 3) (λ_ _=>rfl)) (pv 4) set_list))
   (fu (rY (sJ yO (lF nR (mL (pv 0) rfl) (pv 3) (λ_ _=>rfl)) (pv 2)) (nY (mL (pv 0) rfl) (pv 3) set_list)))))))
  (fu (yN ad7 rfl (uz (pv 1)) (yM rfl (kc (i7 (i:=3) kh.nd rfl (Or.inl rfl)) (kc (i7 (i:=4) kh.nd rfl (Or.inl rfl)) (kc (i7 (i:=5) kh.nd rfl (Or.inl rfl)) yu))))
   (fu (vi (C7 zu (lF nR (mL (pv 0) rfl) (pv 3) (λ_ _=>rfl)) yJ (gG _)) (fu (ki (C8 (pv 0) U.cl DM.m DM.ok (hr.mono fm) DM.b .nil mQ (cf (pv 3) cG)))) yr))))))),?_⟩
 show dZ (lN _ _) _ _ [some (.ref m),none,none,none,none,none,none] H;have FS:=M.there;refine⟨_,rfl,m,dx,_,rfl,M.i,rfl,cR G H (mF m o2 l3 o4 l5 r2 r4),m,st,rfl,gi sm,M.th,go,hw,λG1 H1 rl rv s1 rn RZ R0=>?_⟩;have M1:=M.look s1;have e1:=ux M.g s1;have rlF:rl∉mF m o2 l3 o4 l5 r2 r4:=λz=>by
  obtain⟨o,ho⟩:=FS rl z;rw[rn]at ho;cases ho
 have Ii:=R0.fL FS;have sZ:fL G1 (mF m o2 l3 o4 l5 r2 r4) rl=some (.lst rv):=by rw[nW rlF];exact RZ
 generalize fL G1 (mF m o2 l3 o4 l5 r2 r4)=G2 at M1 e1 Ii sZ;have hR:Hv K G2 (.lst ((bD st).map (jq st))) (.ref rl):=⟨rl,rv,rfl,aK.of sZ,Ii.HY⟩
 clear s1 RZ R0;dsimp only[eK,dZ,List.set];obtain⟨rm,HX⟩:=C3 go hw;have bo:=λc (cQ:c∈bD st)=>(ag.rT ok iv hn hc (rm c cQ).1 (rm c cQ).2).1
 have no:=λc (cQ:c∈bD st)=>(ag.zI ok iv hn hc (rm c cQ).1 (rm c cQ).2).1
 have adH:(bD st).length<=6:=Cn (oq (List.Nodup.sublist (afC _ _) (EG go hw).1.nd) λc hc=>(rm c hc).1) hA;obtain⟨p1,Hz,tU⟩:=C4 (l:=(bD st).map λc=>gP st (ag.best st.A st.O st.s c) (ag.nx st.A st.O st.s c) (ag.best st.A st.O st.s c)) (by simpa using HX);obtain⟨p,AD,oM⟩:=C4 (l:=p1::(bD st).map λc=>st.s.wn c) 'Y';have R1:Pa st p:=by
  refine⟨?_,λc cQ=>⟨oM _ (.tail _ (i8.mpr ⟨c,cQ,rfl⟩)),Int.le_trans (oM p1 (.head _)) (tU _ (i8.mpr ⟨c,cQ,rfl⟩))⟩⟩;obtain z|z:=ff.mp AD
  ·obtain⟨c,cQ,e⟩:=i8.mp Hz;exact⟨c,cQ,.inr (z.trans e.symm)⟩
  ·obtain⟨c,cQ,e⟩:=i8.mp z;exact⟨c,cQ,.inl e.symm⟩
 have gd:∀(f:Nat->Int) (k c:Nat),(bD st)[k]?=some c->ti (f ((bD st).getD k 0))=ti (f c):=λf k c h=>by rw[ir,h];rfl
 refine rX (Φ:=kZ K C st [none,some (.fz (.lst ((bD st).map (jq st)))),none,none,none,none,none]) (t:=ti p1) (KA T.Pm (a9.to (ve (Ψ:=gV K C st 3) (own:=["asker", "one", "giver"]) (fr:=[0]) (λi=>cg) (ui (Ev.p (by exact ae 1 rfl) pU) rfl) (uX 0 1 2 (λ_=>bH)) 'Q' (λ_=>true) (λk=>ti (gP st (ag.best st.A st.O st.s ((bD st).getD k 0)) (ag.nx st.A st.O st.s ((bD st).getD k 0)) (ag.best st.A st.O st.s ((bD st).getD k 0)))) (by rw[aa];lia) (λG G' σ e ⟨m,h1,h2⟩=>⟨m,h1,h2.mono e⟩) (PC rfl) Mb (λq d hd=>?_)) (by rw[aa];exact KC (λc=>gP st (ag.best st.A st.O st.s c) (ag.nx st.A st.O st.s c) (ag.best st.A st.O st.s c)) _ (gd λc=>gP st (ag.best st.A st.O st.s c) (ag.nx st.A st.O st.s c) (ag.best st.A st.O st.s c)))) (bP _) ⟨Hz,tU⟩) (gi e1.s) ⟨⟨m,rfl,M1.th⟩,abr (hR.mono (gh M1.g))⟩ λpv1 G3 H3 s3 R3=>?_
 ·obtain⟨c,qX,rfl⟩:=Mf hd;have cQ:=ba qX;refine⟨_,rfl,Dz,λ_=>?_⟩;rw[ir,qX];exact mN (d:=di (gP st (ag.best st.A st.O st.s c) (ag.nx st.A st.O st.s c) (ag.best st.A st.O st.s c))) AQ (yi (C:=C) (st:=st) (dd:=[di (ag.best st.A st.O st.s c:Nat),di (ag.nx st.A st.O st.s c:Nat)]) 3 U.cl rM.m (aci rM.ok) l2 rM.b (λG σ h=>Qw (dd:=[]) "source" 'W' G σ (rL h).2) (λ_ _ _ e t=>t.mono e) (mC AQ (Ev.p (ae 1 rfl) λG σ h=>(rL h).1) (mC AQ (Ev.p (ae 2 rfl) λG σ h=>(rL h).1) rK)) ⟨_,_,bo c cQ,λ_=>no c cQ,rfl,rfl⟩ (λi=>pv 3)) (Ev.p (ae 1 rfl) λG σ h=>(rL h).1) rfl (sP _ (bo c cQ))
 obtain rfl:pv1=.int p1:=aS R3;have M3:=M1.keep s3.h;have e3:=e1.trans (nM e1.s s3.h);dsimp only[eK,dZ,List.set];refine rX (Φ:=kZ K C st [none,some (.fz (.lst ((bD st).map (jq st)))),some (ti p1),none,none,none,none]) (t:=ti p) (KA (ns:=p1::(bD st).map λc=>st.s.wn c) T.Pm (aah (xs:=[di p1]) (ys:=((bD st).map λc=>st.s.wn c).map di) sE (Ev.p (t:=.ow [ti p1]) (by exact cu (ah (ae 2 rfl) ao) (by show 1<=sizeLine;lia)) pU) (a9.to (ve (Ψ:=gV K C st 3) (own:=["asker", "one", "giver"]) (fr:=[0]) (λi=>cg) (ui (Ev.p (by exact ae 1 rfl) pU) rfl) (uX 0 1 2 (λ_=>bH)) 'Q' (λ_=>true) (λk=>ti (st.s.wn ((bD st).getD k 0))) (by rw[aa];lia) (λG G' σ e ⟨m,h1,h2⟩=>⟨m,h1,h2.mono e⟩) (PC rfl) Mb (λq d hd=>?_)) (by rw[aa];exact KC (λc=>st.s.wn c) _ (gd λc=>st.s.wn c))) rfl (bP _) (by rw[aa,aa];show 1+_<=sizeLine;lia)) (mM _) ⟨AD,oM⟩) (gi e3.s) ⟨⟨m,rfl,M3.th⟩,aai (hR.mono (gh M3.g))⟩ λpv2 G4 H4 s4 R4=>?_
 ·obtain⟨c,qX,rfl⟩:=Mf hd;have cQ:=ba qX;refine⟨_,rfl,Dz,λ_=>?_⟩;rw[ir,qX];exact mN (d:=di (st.s.wn c)) AQ (jJ (C:=C) (d:=dis (bB st.A st.s.wn)) 3 U.cl U.n5 (λG σ h=>adg G σ (rL h).2) (λi=>pv 3)) (Ev.p (ae 0 rfl) λG σ h=>(rL h).1) rfl (sP _ (rm c cQ).1)
 obtain rfl:pv2=.int p:=aS R4;have M4:=M3.keep s4.h;have e4:=e3.trans (nM e3.s s4.h);clear R3 R4 s3 s4 e3 M3 M1 e1;dsimp only[eK,dZ,List.set];obtain⟨rg,zL⟩:=Pz go hw R1;have X4:Sx G H (mF m o2 l3 o4 l5 r2 r4) G2 H4 (mF m o2 l3 o4 l5 r2 r4):=.step e4;have rws:=id Ii;obtain⟨ps,Ij,psl,R5⟩:=rws;have Qx:rv.length=(bD st).length:=by rw[Ij,aa,psl]
 show vK (sI K (dG 1)) _ _ _ [some (.ref m),some (.ref rl),some (.int p),none,none,none,none] H4;refine Ca (j:=1) (a:=rl) (xs:=rv) rfl (aK.of (e4.s _ _ sZ)) (λi aD H'=>∃q3 q4 q5 q6,aD=[some (.ref m),some (.ref rl),some (.int p),q3,q4,q5,q6]/\Sx G H (mF m o2 l3 o4 l5 r2 r4) G2 H' (mF m o2 l3 o4 l5 r2 r4)/\Mv K C {st with s:=ag.aQ st.A st.O st.s ((bD st).take i) p} G2 H' m dx v1 o2 l3 o4 l5 r2 r4) ⟨_,_,_,_,rfl,X4,?_⟩ (λi aD H' _ z=>by obtain⟨_,_,_,_,_,x,_⟩:=z;exact aK.of (x.s _ _ sZ)) (λi v aD H' hv z=>?_) (λaD H' z=>?_)
 ·have:ag.aQ st.A st.O st.s ((bD st).take 0) p=st.s:=by
   rw[aeP];unfold ag.aQ;simp only[ag.NI,Int.mul_zero,Int.sub_zero,Int.add_zero]
  rw[this];exact M4
 ·obtain⟨q3,q4,q5,q6,rfl,X,Mi⟩:=z;rw[Ij,l8]at hv;cases ev:ps[i]? with
  |none=>rw[ev]at hv;cases hv
  |some ta=>
  rw[ev]at hv;cases hv;obtain⟨_,c,hi,Ik⟩:_:=R5 i ta ev;have cQ:=ba hi;have hb:=bo c cQ;have hg:=no c cQ;have tV:=(rm c cQ).1;have Il:=abq rg hi;have et:=Yz (A:=st.A) (O:=st.O) (s:=st.s) (p:=p) hi;generalize ag.aQ st.A st.O st.s ((bD st).take i) p=si at Mi Il et;generalize wq:ag.best st.A st.O st.s c=b at *;generalize hgg:ag.nx st.A st.O st.s c=g at *;refine⟨ta,_,rfl,cO.of (X.s _ _ Ik),rfl,_,_,rfl,_,_,rfl,_,_,rfl,rfl,?_⟩;have src:∃(a:adG) (u:Nat->Int),(0<si.sp b->V.ref a=.ref l3)/\(¬0<si.sp b->(r2.map V.ref)[g]?=some (.ref a))/\H' a=some (cV st.M u)/\a∈mF m o2 l3 o4 l5 r2 r4/\∀H5,aj H' H5->Mv K C {st with s:={si with own:=λg' x=>si.own g' x-(if g=g'/\b=x/\¬0<st.s.sp x then p else 0),sp:=λx=>si.sp x-(if b=x/\0<st.s.sp x then p else 0)}} G2 (upd H5 a (cV st.M λy=>if y=b then u b-p else u y)) m dx v1 o2 l3 o4 l5 r2 r4:=by
   by_cases hs : 0<st.s.sp b
   ·refine⟨l3,si.sp,λ_=>rfl,λz=>absurd (Il▸hs) z,Mi.h3,Mv.m3,λH5 s5=>?_⟩;have h1:(λg' x=>si.own g' x-(if g=g'/\b=x/\¬0<st.s.sp x then p else 0))=si.own:=by
     funext g' x
     rw[rf λz=>z.2.2 (z.2.1▸hs)];lia
    have h2:(λx=>si.sp x-(if b=x/\0<st.s.sp x then p else 0))=λy=>if y=b then si.sp b-p else si.sp y:=by
     funext x
     by_cases z:x=b
     ·subst z;rw[uu ⟨rfl,hs⟩,uu rfl]
     ·rw[rf z,rf λy=>z y.1.symm];lia
    rw[h1,h2];exact(Mi.keep s5).ac9 _
   ·have hga:g<r2.length:=by rw[Mi.n2];exact hg
    have ha:r2[g]?=some r2[g]:=ar hga;refine⟨r2[g],si.own g,λz=>absurd (Il▸z) hs,λ_=>by rw[l8,ha];rfl,Mi.e2 g _ ha,Mv.mr ha,λH5 s5=>?_⟩;have h1:(λg' x=>si.own g' x-(if g=g'/\b=x/\¬0<st.s.sp x then p else 0))=λd=>if d=g then (λy=>if y=b then si.own g b-p else si.own g y)else si.own d:=by
     funext g' x
     by_cases z:g'=g
     ·subst z;rw[uu rfl];by_cases y:x=b
      ·subst y;rw[uu ⟨rfl,rfl,hs⟩,uu rfl]
      ·rw[rf y,rf λq=>y q.2.1.symm];lia
     ·rw[rf z,rf λq=>z q.1.symm];lia
    have h2:(λx=>si.sp x-(if b=x/\0<st.s.sp x then p else 0))=si.sp:=by
     funext x
     rw[rf λ(z:b=x/\0<st.s.sp x)=>hs (by rw[z.1];exact z.2)];lia
    rw[h1,h2];exact(Mi.keep s5).adb ha _
  obtain⟨a,u,c1,c2,ha,R6,put⟩:_:=src;refine⟨_,rfl,m,dx,_,rfl,Mi.i,rfl,_,rfl,_,rfl,cR G2 H' (mF m o2 l3 o4 l5 r2 r4),m,b,g,_,.ref a,rfl,gi X.s,Mi.th,hb,⟨dx,v1,o2,r2.map V.ref,.ref l3,.ref o4,.ref l5,by rw[dE Mv.m1];exact Mi.i,aK.of (by rw[dE Mv.m2];exact Mi.h2),c1,c2⟩,λH5 s5=>?_⟩;dsimp only[eK,dZ,List.set];have M5:=put H5 s5;have x5:Sx G H (mF m o2 l3 o4 l5 r2 r4) G2 H5 (mF m o2 l3 o4 l5 r2 r4):=X.trans (.step (nM X.s s5));have x6:Sx G H (mF m o2 l3 o4 l5 r2 r4) G2 (upd H5 a (cV st.M λy=>if y=b then u b-p else u y)) (mF m o2 l3 o4 l5 r2 r4):=x5.trans (.put x5.s R6 (Mi.g a R6));refine⟨_,rfl,_,rfl,a,_,b,_,rfl,rfl,aK.of (s5 _ _ ha),zM _ hb,_,rfl,u b,p,rfl,rfl,_,rfl,_,rfl,a,_,b,b,rfl,rfl,s5 _ _ ha,yE (by rw[aa,aa,xy];exact hb),?_⟩;rw[EH];generalize upd H5 a (cV st.M λy=>if y=b then u b-p else u y)=H6 at M5 x6;have hca:c<r4.length:=by rw[M5.n4];exact tV
  have rh:r4[c]?=some r4[c]:=ar hca;generalize r4[c]=a4 at rh;have R7:aP (r4.map V.ref) (c:Int)=some (.ref a4):=dh (by rw[l8,rh];rfl);refine⟨_,rfl,m,C,dx,_,.ref o4,rfl,M5.i,U.cl,U.n4,rfl,_,rfl,o4,_,c,.ref a4,rfl,rfl,aK.of M5.h4,R7,_,rfl,a4,_,b,_,rfl,rfl,aK.of (M5.e4 c a4 rh),zM _ hb,_,rfl,_,p,rfl,rfl,_,rfl,m,C,dx,_,.ref o4,rfl,M5.i,U.cl,U.n4,rfl,_,rfl,o4,_,c,.ref a4,rfl,rfl,aK.of M5.h4,R7,_,rfl,a4,_,b,b,rfl,rfl,M5.e4 c a4 rh,yE (by rw[aa,aa,xy];exact hb),?_⟩;rw[EH];have M7:=M5.ade rh λy=>if y=b then si.got c b+p else si.got c y
  have x7:=x6.trans (.put (o:=cV st.M λy=>if y=b then si.got c b+p else si.got c y) x6.s (Mv.mt rh) (M5.g _ (Mv.mt rh)));generalize upd H6 a4 (cV st.M λy=>if y=b then si.got c b+p else si.got c y)=H7 at M7 x7;refine⟨_,rfl,m,C,dx,_,.ref l5,rfl,M7.i,U.cl,U.n5,rfl,_,rfl,l5,_,c,_,rfl,rfl,aK.of M7.h5,zM _ tV,_,rfl,_,p,rfl,rfl,_,rfl,m,C,dx,_,.ref l5,rfl,M7.i,U.cl,U.n5,rfl,_,rfl,l5,_,c,c,rfl,rfl,M7.h5,yE (by rw[aa,aa,xy];exact tV),?_⟩;rw[EH];have M8:=M7.ada λy=>if y=c then si.wn c-p else si.wn y
  have x8:=x7.trans (.put (o:=cV st.A λy=>if y=c then si.wn c-p else si.wn y) x7.s Mv.m5 (M7.g _ Mv.m5));refine⟨_,_,_,_,rfl,x8,?_⟩;rw[et];have h3:(λa x=>si.got a x+(if c=a/\b=x then p else 0))=λd=>if d=c then (λy=>if y=b then si.got c b+p else si.got c y)else si.got d:=by
   funext a x
   by_cases z:a=c
   ·subst z;rw[uu rfl];by_cases y:x=b
    ·subst y;rw[uu ⟨rfl,rfl⟩,uu rfl]
    ·rw[rf y,rf λq=>y q.2.symm];lia
   ·rw[rf z,rf λq=>z q.1.symm];lia
  have h4:(λa=>si.wn a-(if c=a then p else 0))=λy=>if y=c then si.wn c-p else si.wn y:=by
   funext a
   by_cases z:a=c
   ·subst z;rw[uu rfl,uu rfl]
   ·rw[rf z,rf λq=>z q.symm];lia
  rw[h3,h4];exact M8
 ·obtain⟨q3,q4,q5,q6,rfl,X,Mi⟩:_:=z;rw[Qx,ad0]at Mi;have fin:∀G' H' fm gg,Sx G H (mF m o2 l3 o4 l5 r2 r4) G' H' (mF m o2 fm o4 l5 gg r4)->Mv K C {st with s:=((bD st).filter λa=>decide ((ag.aQ st.A st.O st.s (bD st) p).wn a=0)).foldl ag.lv (ag.aQ st.A st.O st.s (bD st) p)} G' H' m dx v1 o2 fm o4 l5 gg r4->Q .aY H':=λG' H' fm gg x M=>kv G' H' fm gg p x R1 M
  generalize ag.aQ st.A st.O st.s (bD st) p=sT at Mi fin;show vK (sI K (dG 1)) _ _ _ [some (.ref m),some (.ref rl),some (.int p),q3,q4,q5,q6] H';refine Ca (j:=1) (a:=rl) (xs:=rv) rfl (aK.of (X.s _ _ sZ)) (λi aD H'=>∃G3 q3 q4 q5 q6 fm gg,aD=[some (.ref m),some (.ref rl),some (.int p),q3,q4,q5,q6]/\aj G2 G3/\Sx G H (mF m o2 l3 o4 l5 r2 r4) G3 H' (mF m o2 fm o4 l5 gg r4)/\Mv K C {st with s:=(((bD st).take i).filter λa=>decide (sT.wn a=0)).foldl ag.lv sT} G3 H' m dx v1 o2 fm o4 l5 gg r4) ⟨G2,_,_,_,_,l3,r2,rfl,aj.refl _,X,Mi⟩ (λi aD H' _ z=>by obtain⟨G3,_,_,_,_,_,_,_,sg,x,_⟩:_:=z;exact aK.of (x.s _ _ (sg _ _ sZ))) (λi v aD H' hv z=>?_) (λaD H' z=>?_)
  ·obtain⟨G3,q3,q4,q5,q6,fm,gg,rfl,sg,X,Mi⟩:_:=z;rw[Ij,l8]at hv;cases ev:ps[i]? with
   |none=>rw[ev]at hv;cases hv
   |some ta=>
   rw[ev]at hv;cases hv;obtain⟨_,c,hi,Ik⟩:_:=R5 i ta ev;have cQ:=ba hi;have tV:=(rm c cQ).1;have wne:∀(L:List Nat) (s:ag.St),(L.foldl ag.lv s).wn=s.wn:=λL=>by
    induction L with
    |nil=>exact λs=>rfl
    |cons a L ih=>exact λs=>ih (ag.lv s a)
   have R8:=wne (((bD st).take i).filter λa=>decide (sT.wn a=0)) sT;have etk:(((bD st).take (i+1)).filter λa=>decide (sT.wn a=0)).foldl ag.lv sT=if sT.wn c=0 then ag.lv ((((bD st).take i).filter λa=>decide (sT.wn a=0)).foldl ag.lv sT) c else (((bD st).take i).filter λa=>decide (sT.wn a=0)).foldl ag.lv sT:=by
    rw[take_snoc hi,ad4,List.foldl_append];by_cases z:sT.wn c=0
    ·rw[uu z,List.filter_cons_of_pos (p:=λa=>decide (sT.wn a=0)) (EO z)];rfl
    ·rw[rf z,List.filter_cons_of_neg (p:=λa=>decide (sT.wn a=0)) (by rw[LG z];decide)];rfl
   rw[etk];generalize (((bD st).take i).filter λa=>decide (sT.wn a=0)).foldl ag.lv sT=si at Mi R8;refine⟨ta,_,rfl,cO.of (X.s _ _ (sg _ _ Ik)),rfl,_,_,rfl,_,_,rfl,_,_,rfl,rfl,?_⟩;refine⟨_,rfl,m,C,dx,_,.ref l5,rfl,Mi.i,U.cl,U.n5,rfl,_,rfl,l5,_,c,_,rfl,rfl,aK.of Mi.h5,zM _ tV,rfl,_,rfl,?_⟩;dsimp only;rw[R8];by_cases z:sT.wn c=0
   ·rw[uu (by rw[z];exact EO rfl),uu z];refine⟨_,rfl,m,dx,_,rfl,Mi.i,rfl,_,rfl,G3,m,c,_,dx,v1,o2,fm,o4,l5,gg,r4,rfl,X.s,Mi,tV,hM,λG' H'' adh adi sx Mn=>?_⟩;exact⟨G',_,_,_,_,adh,adi,rfl,sg.trans sx.g,X.trans sx,Mn⟩
   ·rw[rf (λy=>z (V.int.inj (GS y))),rf z];exact⟨G3,_,_,_,_,fm,gg,rfl,sg,X,Mi⟩
  ·obtain⟨G3,q3,q4,q5,q6,fm,gg,rfl,sg,X,Mi⟩:_:=z;rw[Qx,ad0]at Mi;exact fin _ _ _ _ X Mi
end
section
abbrev Bb:afW:=top 13
theorem xM:aZ ["some", "least", "one"] ["some"] (aA Bb):=sk
def GA (bs:LI):Prop:=∃M:Int,0<M/\M<2^4000/\∀b∈bs,0<b/\b∣M
theorem GA.lc (h:GA bs)(j:Nat) : 0<iC 1 (bs.take j)/\(iC 1 (bs.take j)).natAbs<2^4000:=by
 obtain⟨M,h1,h2,h3⟩:_:=h;have hp:∀b∈bs.take j,0<b:=λb hb=>(h3 b (EM hb)).1
 have p:=yB (m:=1) 'Q' hp;have d:=xZ 'Q' hp ⟨M,(Int.one_mul M).symm⟩ λb hb=>(h3 b (EM hb)).2
 have:=ae3 h1 d;lia
def AR (p:Int×Int):Dv:=.tup [di p.1,di p.2]
def Mg:bI:=λdd t=>∃fs:List (Int×Int),GA (fs.map (·.2))/\dd=[.lst (fs.map AR)]/\t=ti (iC 1 (fs.map (·.2)))
theorem T5 (F:bK K "common_bottom" Bb f fd)(T:Txt mg)(Bo:bj P w K mg base k "common_part" f1 cL ["one", "other"] Fz):bL P w K mg base (k+1) f fd ["some"] Mg:=by
 refine bR F.d xM 'H' λdd t h=>?_
 obtain⟨fs,hb,rfl,rfl⟩:=h;refine ax (aV 1 (Ev.s ak) (λ_=>xM.nd)) ?_;refine ax (dQ (bb.s (cm (ae 0 rfl) rfl)) (bp 2 (λ_=>xM.nd)) (λk=>[some (.fz (.lst (fs.map AR))),some (ti (iC 1 ((fs.map (·.2)).take k))),none]) rfl (λ_=>rfl) (λj d hd=>?_)) ?_
 ·obtain⟨⟨p,b⟩,hf,rfl⟩:=gF hd;obtain⟨l1,l2⟩:=hb.lc j;have R9:(fs.map (·.2))[j]?=some b:='J'
  have tH : 0<b/\b.natAbs<2^4000:=by
   obtain⟨M,h1,h2,h3⟩:=hb;obtain⟨q1,q2⟩:=h3 b (ba R9);have:=ae3 h1 q2;lia
  have g0:=sr (a:=iC 1 ((fs.map (·.2)).take j)) (b:=b) 'Z';have g1:=Dh (a:=iC 1 ((fs.map (·.2)).take j)) tH.1;refine⟨_,_,rfl,az (aV 1 (Ev.s (hW (kn (ae 1 rfl) (bU (ae 2 rfl) ak rfl rfl) ⟨Ee l2,Ee tH.2⟩) (aW Bo (br _) (ah (ae 1 rfl) (ah (bU (ae 2 rfl) ak rfl rfl) ao)) ⟨_,b,'O','Z',rfl,rfl⟩) ⟨g0,Ee 'Z'⟩)) (λ_=>xM.nd)),[2],?_⟩;rw[kg R9,V2]
  rfl
 ·rw[aa,List.take_of_length_le 'J'];exact az (cA (Ev.s (ae 1 rfl)))
abbrev B7:afW:=top 15
theorem VO:aZ ["one", "bottom"] ["one", "bottom"] (aA B7):=sk
def Oo:bI:=λdd t=>∃(p b m:Int),0<b/\b.natAbs<2^8000/\p.natAbs<2^8000/\(m/b).natAbs<2^8000/\dd=[AR (p,b),di m]/\t=ti (p*(m/b))
theorem VP (F:bK K "parts_of" B7 f fd)(T:Txt mg):bL P w K mg base k f fd ["one", "bottom"] Oo:=by
 refine bR F.d VO 'H' λdd t h=>?_
 obtain⟨p,b,m,h1,h2,h3,h4,rfl,rfl⟩:_:=h;exact az (cA (Ev.s (kn (bU (ae 0 rfl) ak rfl rfl) (hW (ae 1 rfl) (bU (ae 0 rfl) ak rfl rfl) ⟨h1,h2⟩) ⟨h3,h4⟩)))
theorem Oq (w0 : 0<W):(fW W s).2∣W:=by
 have cr:=i6 (s:=s) w0;have co:=aa2 (s:=s) w0;generalize (fW W s).1=p at cr co;generalize (fW W s).2=q at cr co ⊢;have h1:q.natAbs∣p.natAbs*W.natAbs:=by
  rw[<- aei,cr,aei];exact Nat.dvd_mul_left _ _
 have h2:Nat.Coprime q.natAbs p.natAbs:=by
  show Nat.gcd _ _=1;rw[Nat.gcd_comm];exact co
 exact adK.mp (h2.dvd_of_dvd_mul_left h1)
def m9 (W:Int)(r:LI):Int:=iC 1 (r.map λs=>(fW W s).2)
def vT (W:Int)(rows:LL):Int:=iC 1 (rows.map (m9 W))
theorem uP (w0 : 0<W)(r:LI) : 0<m9 W r/\m9 W r∣W/\∀s∈r,(fW W s).2∣m9 W r:=by
 have hp:∀b∈r.map λs=>(fW W s).2,0<b:=λb hb=>by
  obtain⟨s,_,rfl⟩:_:=i8.mp hb;exact gj w0
 refine⟨yB 'Q' hp,xZ 'Q' hp ⟨W,(Int.one_mul W).symm⟩ λb hb=>?_,λs hs=>(Dj 'Q' hp).2 _ (i8.mpr ⟨s,hs,rfl⟩)⟩
 grind [Oq]
theorem aaj (w0 : 0<W)(rows:LL) : 0<vT W rows/\vT W rows∣W/\∀r∈rows,∀s∈r,(fW W s).2∣vT W rows:=by
 have hp:∀b∈rows.map (m9 W),0<b:=λb hb=>by
  obtain⟨r,_,rfl⟩:_:=i8.mp hb;exact(uP w0 r).1
 refine⟨yB 'Q' hp,xZ 'Q' hp ⟨W,(Int.one_mul W).symm⟩ λb hb=>?_,λr hr s hs=>Int.dvd_trans ((uP w0 r).2.2 s hs) ((Dj 'Q' hp).2 _ (i8.mpr ⟨r,hr,rfl⟩))⟩
 grind [uP]
theorem Ot {W:Int}(w1:W<2^70):W<2^4000:=by
 omega
abbrev Bc:afW:=top 14
theorem T6:aZ ["rows"] ["rows"] (aA Bc):=sk
def Mh:bI:=λdd t=>∃(W:Int) (rows:LL),0<W/\W<2^70/\rows.length<=20/\dd=[.lst (rows.map (dr W))]/\t=ti (vT W rows)
theorem T7 (F:bK K "bottom_of_all" Bc f fd)(T:Txt mg)(IZ:bj P w K mg base (k+1) "common_bottom" f1 cL ["some"] Mg):bL P w K mg base (k+2) f fd ["rows"] Mh:=by
 refine bR F.d T6 'H' λdd t h=>?_
 obtain⟨W,rows,w0,w1,hl,rfl,rfl⟩:=h;have big:=cw;have er1:er (.ow (rows.map λr=>Tr.tp [ti 1,ti (m9 W r)]))=.lst ((rows.map λr=>((1),m9 W r)).map AR):=by rw[eG,gz];rfl
 refine az (cA (Ev.s (aW IZ (br _) (ah (Ev.as (fO (own:=["row"]) (fr:=[]) rows (dr W) (λr=>Tr.tp [ti 1,ti (m9 W r)]) (λi=>cg) (cm (ae 0 rfl) rfl) (bp 0 (λ_=>bH)) 'Q' 'O' (λr hr=>⟨_,rfl,oh (ah ak (ah (aW IZ (br _) (ah (ae 0 rfl) ao) ⟨r.map (fW W),⟨W,w0,Ot w1,λb hb=>by
   rw[gz]at hb;obtain⟨s,_,rfl⟩:=i8.mp hb;exact⟨gj w0,Oq w0⟩⟩,rfl,by rw[gz];rfl⟩) ao)) (by show 2<=sizeLine;decide)⟩) (λdd=>by cases dd<;>rfl)) er1) ao) ⟨rows.map λr=>((1),m9 W r),⟨W,w0,Ot w1,λb hb=>?_⟩,rfl,?_⟩)))
 ·rw[gz]at hb;obtain⟨r,_,rfl⟩:=i8.mp hb;exact⟨(uP w0 r).1,(uP w0 r).2.1⟩
 ·rw[gz];rfl
def oS (W B s:Int):Int:=(fW W s).1*(B/(fW W s).2)
theorem abt (w0 : 0<W)(hd:(fW W s).2∣B):oS W B s*W=s*B:=by
 have cr:=i6 (s:=s) w0;have q0:=gj (s:=s) w0;unfold oS;obtain⟨m,rfl⟩:=hd;rw[Int.mul_ediv_cancel_left _ 'O',Int.mul_right_comm,cr,Int.mul_assoc]
end
section
theorem FL {F:aU ι}(h:Ev F e ρ t)(s:aj G H)(f:aX F.K G ρ σ)(k:Kv F.K G H t Q):uE F e σ H Q:=by obtain⟨τ,p,q⟩:=h;exact⟨τ,p,q σ G H Q s f k⟩
theorem bb.p {F:aU ι}(h:bb F tg iter ρ its)(w:∀G σ,Φ G σ->aX F.K G ρ σ):sW F Φ tg iter its:=by obtain⟨wi,p,q⟩:=h;exact⟨wi,p,λσ G H R s f k=>q σ G H R s (w G σ f) k⟩
theorem aak {F:aU ι}(mo:Mo Φ)(ha:a9 F Φ a (ti i))(hb:a9 F Φ b (ti j)):a9 F Φ (.BinOp a .Sub b pos) (ti (i-j)):=LR mo (λ_=>yO) ha hb λG H x y Q s hx hy k=>⟨i,j,aS hx,aS hy,k.sc s rfl⟩
theorem aal {F:aU ι}{pos:Pos}(hm:F.mg "sum"=none)(ha:a9 F Φ e ta)(ea:er ta=dis ns){p':Pos}(hg:∀i,Gl (F.cx i) "sum":=by intro _;rfl)(hs:∀i,starEach [e] (F.cx i).env=[(false,eval e (F.cx i).env)]:=by intro _;rfl):a9 F Φ (.Call (.Name "sum" p') [e] [] pos) (ti ns.sum):=
 JT (λi=>F.hK i▸J1 (F.calm i)) hm MS (BP ha hs) (λG H vs Q s hx k=>by
  obtain⟨x,rfl,eF⟩:=iQ hx
  replace hx:=eF
  rw[ea]at hx;obtain⟨l,ys,rfl,h1,h2⟩:=hx;have:=nN h2;subst this;exact⟨l,ns,rfl,s.seq h1,k.sc s rfl⟩) hg 'Q' 'Q' hs (λ_=>rfl)
theorem KD:∀{ls:LL} {vs:List V} {fq:List adG},aT K G H (ls.map aE) vs fq->vs=fq.map V.ref/\fq.length=ls.length/\∀(i:Nat) a,fq[i]?=some a->∃l,ls[i]?=some l/\H a=some (.lst (l.map V.int))
 |[],_,_,z9=>by obtain⟨h1,h2⟩:=z9;subst h1 h2;exact⟨rfl,rfl,λi a h=>by cases h⟩
 |l::ls,_,_,z9=>by
  obtain⟨v,r,f1,f2,h1,h2,h3,h4⟩:=z9;obtain⟨e1,e2,e3⟩:_:=KD h4;obtain⟨p,q1,q2,q3⟩:_:=sR h3;subst h1 h2 e1 q1 q3;refine⟨rfl,by show f2.length+1=ls.length+1;rw[e2],λi a hi=>?_⟩;cases i with
  |zero=>cases hi;exact⟨l,rfl,q2⟩
  |succ i=>exact e3 i a hi
theorem Mj {f:Nat->Nat->Int}(h:Ow K G H (.ow ((List.range A).map λa=>aE (bB M (f a)))) v fq):∃o r,v=.ref o/\fq=o::r/\H o=some (.lst (r.map V.ref))/\r.length=A/\∀(i:Nat) a,r[i]?=some a->H a=some (cV M (f i)):=by
 obtain⟨o,vs,r,rfl,h1,h2,rfl⟩:_:=h;have e:((List.range A).map λa=>aE (bB M (f a)))=((List.range A).map λa=>bB M (f a)).map aE:=by rw[gz];rfl
 rw[e]at h2;obtain⟨rfl,e2,e3⟩:_:=KD h2;refine⟨o,r,rfl,rfl,h1,by rw[e2,aa,xy],λi a hi=>?_⟩;obtain⟨l,hl,e4⟩:=e3 i a hi;rw[l8]at hl;obtain z|z:=ET i A
 ·rw[Me z]at hl;cases hl;exact e4
 ·rw[Pd (by rw[xy];exact z)]at hl;cases hl
def fF (c:LI)(A x:Nat):Int:=(c++[(A:Int)]).getD x 0
def cW (W B:Int)(S:Nat->LI)(a x:Nat):Int:=oS W B ((S a).getD x 0)
def iU (c:LI)(os:LL)(a:Nat):List Nat:=(aN c.length (os.getD a [])).map Int.toNat
def xA (c:LI)(os:LL)(W B:Int)(S:Nat->LI):Ms:=⟨os.length,c.length+1,iU c os,ag.qY os.length B (fF c os.length) (cW W B S)⟩
theorem Ml (l:LI)(h:l.length=n):bB n (λx=>l.getD x 0)=l:=by
 apply Po
 grind
theorem abu (l:LI)(h:l.length=n)(f:Int->Int):bB n (λx=>f (l.getD x 0))=l.map f:=by
 rw[<- Ml l h,show bB n (λx=>f ((bB n λx=>l.getD x 0).getD x 0))=bB n λx=>f (l.getD x 0) by simp_all]
 simp_all
abbrev Sa:List Str:=["self", "table", "shares", "bottom", "supply"]
abbrev zl:afW:=nI 0
theorem Mm:aZ Sa ["self", "table", "shares", "bottom"] (aA zl):=sk
abbrev tX (P:afU)(w:afV)(K:Frag)(mg:Str->Option vn)(base:Heap)(f:adG)(k:Nat):=iR P w K mg base Sa "Market.__init__" (aA zl) f k
structure Shs (c:LI) (os:LL) (W B:Int) (S:Nat->LI):Prop where
 ok:dX c os
 w0 : 0<W
 w1:W<2^70
 b9:∀a,a<os.length->fD W c.length (S a)
 b0 : 0<B
 b1:B<2^70
def PD (K:Frag)(C:adG):Sp:=λvs H Q _=>∃(G:Hp) (m dx:adG) (tv sv:V) (c:LI) (os:LL) (W B:Int) (S:Nat->LI),vs=[.ref m,tv,sv,.int B]/\aj G H/\H m=some (.ins C dx [])/\G m=none/\Hv K G (gn c os) tv/\Hv K G (cD W os.length S) sv/\Shs c os W B S /\
 ∀G' H' v1 o2 l3 o4 l5 r2 r4,Sx G H [m] G' H' (mF m o2 l3 o4 l5 r2 r4)->Mv K C (xA c os W B S) G' H' m dx v1 o2 l3 o4 l5 r2 r4->Q .aY H'
section
abbrev rI (c:LI)(os:LL)(W B:Int)(S:Nat->LI)(d:Option Tr):En:=[none,some (.fz (gn c os)),some (.fz (cD W os.length S)),some (ti B),d]
abbrev adj (c:LI)(os:LL):Dv:=dis (c++[(os.length:Int)])
end
theorem abv {G:Hp}{o0:Option V}{o4:Option V}{tv sv:V}{d1 d2:Dv}{B:Int}(h1:Hv K G d1 tv)(h2:Hv K G d2 sv):aX K G [none,some (.fz d1),some (.fz d2),some (ti B),none] [o0,some tv,some sv,some (.int B),o4]:=xq (gf h1 (gf h2 (gf ⟨rfl,rfl⟩ (nJ 'Y'))))
theorem uQ {G:Hp}{o0:Option V}{tv sv wv:V}{d1 d2 d3:Dv}{B:Int}(h1:Hv K G d1 tv)(h2:Hv K G d2 sv)(h3:Hv K G d3 wv):aX K G [none,some (.fz d1),some (.fz d2),some (ti B),some (.fz d3)] [o0,some tv,some sv,some (.int B),some wv]:=xq (gf h1 (gf h2 (gf ⟨rfl,rfl⟩ (gf h3 (nJ 'Y')))))
abbrev vU (K:Frag)(C:adG)(d:Dv)(j:Nat)(G:Hp)(σ:St):Prop:=∃m dx fs v,σ[j]?=some (some (.ref m))/\G m=some (.ins C dx fs)/\fs.lookup ("owned":Str)=some v/\Hv K G d v
theorem Ou (e:aj G G')(h:vU K C d j G σ):vU K C d j G' σ:=by obtain⟨m,dx,fs,v,h1,h2,h3,h4⟩:_:=h;exact⟨m,dx,fs,v,h1,e _ _ h2,h3,h4.mono e⟩
abbrev PhI (K:Frag)(C:adG)(d:Dv)(ρ:En):Hp->St->Prop:=λG σ => vU K C d 0 G σ/\aX K G ρ σ
abbrev xB (K:Frag)(C:adG)(d:Dv)(B:Int):Hp->St->Prop:=λG σ => vU K C d 3 G σ/\σ[2]?=some (some (.int B))
theorem Mp (G:Hp)(σ:St)(vs:List V)(h:xB K C d B G σ):xB K C d B G (a8 [0,1] vs σ):=by
 obtain⟨⟨m,dx,fs,v,h1,h2⟩,h3⟩:_:=h;obtain _|⟨x,_|⟨y,r⟩⟩:=vs
 ·exact⟨⟨m,dx,fs,v,h1,h2⟩,h3⟩
 ·refine⟨⟨m,dx,fs,v,?_,h2⟩,?_⟩
  ·show(σ.set 0 _)[3]?=_
   simp_all
  ·show(σ.set 0 _)[2]?=_
   simp_all
 ·refine⟨⟨m,dx,fs,v,?_,h2⟩,?_⟩
  ·show((σ.set 0 _).set 1 _)[3]?=_
   simp_all
  ·show((σ.set 0 _).set 1 _)[2]?=_
   simp_all
theorem GB {C:adG}{d:Dv}{B:Int}{d0 d1:Dv}{G:Hp}{σ:St}(h:∃aq vs,xB K C d B G aq/\aq.length=2+2/\aG K G [d0,d1] vs/\σ=a8 [0,1] vs aq):aX K G [some (.fz d0),some (.fz d1),some (ti B),none] σ/\vU K C d 3 G σ:=by
 obtain⟨aq,vs,hp,l,hv,e⟩:_:=h;obtain⟨⟨m,dx,fs,v,hm,ht⟩,h3⟩:_:=Mp G aq vs hp;obtain⟨x,y,rfl,hx,hy⟩:_:=pZ hv;obtain⟨s0,_,rfl,l1⟩:_:=oE l;obtain⟨s1,_,rfl,l2⟩:_:=oE l1;obtain⟨s2,r,rfl,_⟩:_:=oE l2;subst e;cases h3;exact⟨gf hx (gf hy (gf ⟨rfl,rfl⟩ (nJ 'Y'))),m,dx,fs,v,hm,ht⟩
theorem abw {os:LL}(ok:dX c os)(h:a<os.length):iN (iU c os a)=aN c.length (os.getD a []):=by
 unfold iU iN;rw[gz];have om:os.getD a []∈os:=by
  simp_all
 refine(List.map_congr_left λx hx=>?_).trans (aeJ _);have:=(jH (ok.bT _ om)).mp hx
 grind
theorem aam (F:fE K "__init__" "Market.__init__" zl .none f fd)(T:Txt mg)(U:kY K C)(BG:Kn P w K mg base bx j1 "full_order" f1 cL ["table", "asker"] (spT K FA))(Wr:Kn P w K mg base bx j2 "parts_of" f2 fd2 ["one", "bottom"] (spT K Oo))(l1:j1<=k)(l2:j2<=k):bQ P w K mg base bx (k+1) f fd ["self", "table", "shares", "bottom"] (PD K C):=by
 refine F.ok Mm (λvs H Q E z9=>by obtain⟨_,_,_,_,_,_,_,_,_,_,h1,_⟩:=z9;rw[h1];rfl) λaL A outer s H vs Q E hr h=>?_
 obtain⟨G,m,dx,tv,sv,c,os,W,B,S,rfl,sm,hm,gm,ht,hs,sh,kv⟩:_:=h;have big:=cw;have c6:=sh.ok.c6;have o6:=sh.ok.o6;refine⟨_,cX (hU (i:=4) Mm.nd rfl (Or.inr rfl) (dJ (F:=tX P w K mg base f k) ⟨aL,A,outer,s,H,E,hr⟩))
  (cX (sd (pv 0) (dJ (F:=tX P w K mg base f k) ⟨aL,A,outer,s,H,E,hr⟩) rfl)
  (cX (sd (pv 0) (dJ (F:=tX P w K mg base f k) ⟨aL,A,outer,s,H,E,hr⟩) rfl)
  (cX (sd (pv 0) (dJ (F:=tX P w K mg base f k) ⟨aL,A,outer,s,H,E,hr⟩) rfl)
  (cX (sd (pv 0) (dJ (F:=tX P w K mg base f k) ⟨aL,A,outer,s,H,E,hr⟩) rfl)
  (fu (sd (pv 0) (dJ (F:=tX P w K mg base f k) ⟨aL,A,outer,s,H,E,hr⟩) rfl)))))),?_⟩
 show dZ (lN _ _) _ _ [some (.ref m),some tv,some sv,some (.int B),none] H;refine sQ (t:=.fz (dis (c++[(os.length:Int)]))) (Ev.as (se (xs:=c.map di) (ys:=[di (os.length:Int)]) (tb':=.ow [ti (os.length:Int)]) (bU (d:=dis c) (ae 1 rfl) ak rfl (dh (j:=0) rfl)) (cu (ah (Ev.to (bV T.bS (ae 2 rfl) (.inl rfl)) ?_) ao) (by show 1<=sizeLine;lia)) rfl rfl (by rw[aa];show c.length+1<=sizeLine;lia)) ?_) sm (abv ht hs) λwv G1 H1 s1 hw=>?_
 ·rw[aa,xy]
 ·rw[mM];show Dv.lst _=Dv.lst _;rw[B0];rfl
 have Im:=ht.mono s1.g;have Io:=hs.mono s1.g;have Ip:=s1.h _ _ hm;have off:∀{Ga Ha Gb Hb:Hp} {a:adG} {o:HO},Step Ga Ha Gb Hb->Ga a=none->Ha a=some o->Gb a=none:=λ{Ga Ha Gb Hb a o} e h1 h2=>by
  cases z:Gb a with
  |none=>rfl
  |some u=>
   have:=e.n a h1 (by rw[z];simp);rw[h2]at this;cases this
 have Sb:=off s1 gm hm;dsimp only[eK,dZ,List.set];have adk:∀a,a<os.length->aP os (a:Int)=some (os.getD a []):=λa ha=>dh (by rw[ir,ar ha];rfl)
 have gN:∀a,a<os.length->(os.getD a []).length<=100:=λa ha=>by
  have om:os.getD a []∈os:=by
   rw[ir,ar ha];exact ad1 _
  have:=Ci (sh.ok.nd _ om) (sh.ok.bT _ om);lia
 refine sQ (t:=.ow ((List.range os.length).map λa=>aE (aN c.length (os.getD a [])))) (fO (own:=["asker"]) (fr:=[1]) (List.range os.length) (λ(a:Nat)=>di (a:Int)) (λa=>aE (aN c.length (os.getD a []))) (λi=>cg) (bb.to (fM T.dW (bV T.bS (ae 2 rfl) (.inl rfl)) (by rw[aa,xy];lia)) ?_) (bp 0 (λ_=>bH)) 'Q' (by rw[xy];lia) (λa ha=>⟨_,rfl,by exact aW BG l1 (ah (ae 1 rfl) (ah (ae 0 rfl) ao)) ⟨c,os,_,os.getD a [],'O',gN a (l9.mp ha),adk a (l9.mp ha),rfl,rfl⟩⟩) (λdd=>by cases dd<;>rfl)) s1.s (uQ Im Io hw) λv1 G2 H2 s2 h1=>?_
 ·rw[aa,xy];show(List.range os.length).map (λ(k:Nat)=>di (0+(k:Int)))=_;exact List.map_congr_left λk _=>by rw[adS]
 have o1:Hv K G2 (orM (xA c os W B S)) v1:=by
  rw[eG]at h1;have:((List.range os.length).map λa=>dis (iN (iU c os a)))=(List.range os.length).map λa=>er (aE (aN c.length (os.getD a []))):=List.map_congr_left λa ha=>by rw[abw sh.ok (l9.mp ha),bP]
  show Hv K G2 (.lst ((List.range os.length).map λa=>dis (iN (iU c os a)))) v1;rw[this];exact h1
 have i3:=s2.h _ _ Ip;have xg:=off s2 Sb Ip;refine⟨.ref m,rfl,m,C,dx,_,rfl,i3,U.cl,U.n1,by show 0<1000;decide,?_⟩;have e2:=s1.trans s2;have X2:Sx G H [m] G2 (upd H2 m (.ins C dx [("orders",v1)])) [m]:=(Sx.step e2).trans (.put e2.s (.head _) xg);have xC:upd H2 m (.ins C dx [("orders",v1)]) m=some (.ins C dx [("orders",v1)]):=bM;show dZ _ _ _ _ (upd H2 m (.ins C dx [("orders",v1)]));generalize upd H2 m (.ins C dx [("orders",v1)])=H3 at X2 xC;have Iq:=Im.mono s2.g;have du:=Io.mono s2.g;have Ir:=hw.mono s2.g;clear Ip i3 s1 s2 e2 h1 hw Io Im Sb;have rl:∀a,a<os.length->(S a).length=c.length+1:=λa ha=>(sh.b9 a ha).len
 have Iu:(2:Int)^70=((2^70:Nat):Int):=by norm_cast
 have n70:(2:Nat)^70<2^8000:=Nat.pow_lt_pow_right 'Q' 'Q';have small:∀a,a<os.length->∀s∈S a,(fW W s).2.natAbs<2^8000/\(fW W s).1.natAbs<2^8000:=λa ha s hs=>by
  have h1:=gj (s:=s) sh.w0;have h2:=Fm (s:=s) sh.w0;have h3:=Eh (s:=s) sh.w0;have h4:=(sh.b9 a ha).t0 s hs;have h5:=sh.w1;rw[Iu]at h5
  constructor<;>lia
 have bd:∀q:Int,0<q->(B/q).natAbs<2^8000:=λq hq=>by
  have h1:=Int.ediv_nonneg (Sk sh.b0) (Sk hq);have h2:=afK q (Sk sh.b0);have h3:=sh.b1;rw[Iu]at h3;lia
 have eo:(List.range os.length).map (λa=>aE ((S a).map (oS W B)))=(List.range os.length).map λa=>aE (bB (c.length+1) (cW W B S a)):=List.map_congr_left λa ha=>by
  show _=aE (bB (c.length+1) λx=>oS W B ((S a).getD x 0));rw[abu _ (rl a (l9.mp ha))]
 refine FL (t:=.ow ((List.range os.length).map λa=>aE (bB (c.length+1) (cW W B S a)))) (Ev.to (fO (own:=["row"]) (fr:=[3]) (List.range os.length) (λa=>dr W (S a)) (λa=>aE ((S a).map (oS W B))) (λi=>cg) (cm (ae 2 rfl) rfl) (bp 0 (λ_=>bH)) 'Q' (by rw[xy];lia) (λa ha=>⟨_,rfl,Ev.to (by exact fO (own:=["share"]) (fr:=[1]) (S a) (λs=>dF (fW W s)) (λs=>ti (oS W B s)) (λi=>vv ["row", "bottom"] ⟨rfl,'W','W','W','W'⟩ λy hy=>k7 _ _ y hy) (cm (ae 0 rfl) (by show Dv.lst _=_;rw[gz];rfl)) (bp 0 (λ_=>bH)) 'Q' (by rw[rl a (l9.mp ha)];lia) (λs hs=>⟨_,rfl,by exact aW Wr l2 (ah (ae 0 rfl) (ah (ae 1 rfl) ao)) ⟨_,_,B,gj sh.w0,(small a (l9.mp ha) s hs).1,(small a (l9.mp ha) s hs).2,bd _ (gj sh.w0),rfl,rfl⟩⟩) (λdd=>by cases dd<;>rfl)) (by show Tr.ow _=Tr.ow _;rw[gz];rfl)⟩) (λdd=>by cases dd<;>rfl)) (by rw[eo])) X2.s (uQ Iq du Ir) λv2 G4 H4 f2 s4 Sd xD=>?_
 obtain⟨o2,r2,rfl,rfl,qS,n2,e2⟩:=Mj Sd;have Se:=s4.h _ _ xC;have Iw:=off s4 xg xC;have Iy:m∉o2::r2:=λz=>by
  have:=xD.n m z;rw[xC]at this;cases this
 have Sf:=Iq.mono s4.g;have Sg:=du.mono s4.g;have Sh:=Ir.mono s4.g;have o4:=o1.mono s4.g;refine⟨.ref m,rfl,m,C,dx,_,rfl,Se,U.cl,U.n2,by show 1<1000;decide,?_⟩;show dZ _ _ _ _ (upd H4 m (.ins C dx [("orders",v1),("owned",.ref o2)]));have AU:upd H4 m (.ins C dx [("orders",v1),("owned",.ref o2)]) m=some (.ins C dx [("orders",v1),("owned",.ref o2)]):=bM;have AV:upd H4 m (.ins C dx [("orders",v1),("owned",.ref o2)]) o2=some (.lst (r2.map V.ref)):=by rw[aH λz=>Iy (by rw[<- z];exact .head _)];exact qS
 have e5:∀(i:Nat) a,r2[i]?=some a->upd H4 m (.ins C dx [("orders",v1),("owned",.ref o2)]) a=some (cV (c.length+1) (cW W B S i)):=λi a hi=>by rw[jc (l:=r2) (λz=>Iy (.tail _ z)) (ba hi)];exact e2 i a hi
 have X5:Sx G H [m] G4 (upd H4 m (.ins C dx [("orders",v1),("owned",.ref o2)])) (m::o2::r2):=((X2.trans (.step s4)).trans (.put s4.s (.head _) Iw)).more λx hx=>by
  obtain z|z:=ff.mp hx
  ·exact .inl (z▸.head _)
  ·exact .inr ((X2.k x (xD.n x z)))
 generalize upd H4 m (.ins C dx [("orders",v1),("owned",.ref o2)])=H5 at AU AV e5 X5;have g5:∀a∈m::o2::r2,G4 a=none:=λa ha=>(ff.mp ha).elim (λz=>z▸Iw) (xD.g a)
 have Si:(m::o2::r2).Nodup:=AE.mpr ⟨Iy,xD.d⟩;clear Se xC qS e2 s4 Sd xD X2 Iq du Ir xg Iw;have cl:∀x,x<c.length+1->0<=fF c os.length x/\fF c os.length x<=9:=λx hx=>by
  unfold fF;rw[ir];obtain z|z:=ET x c.length
  ·rw[Cf z,ar z];exact sh.ok.cnt _ (ad1 z)
  ·rw[wb z,show x-c.length=0 by lia];show(0:Int)<=(os.length:Int)/\(os.length:Int)<=9;lia
 refine zj (Φ:=PhI K C (kX os.length (c.length+1) (cW W B S)) (rI c os W B S (some (.fz (adj c os))))) (t:=aE (bB (c.length+1) (ag.qY os.length B (fF c os.length) (cW W B S)).sp)) (a9.to (ve (Ψ:=xB K C (kX os.length (c.length+1) (cW W B S)) B) (own:=["one", "count"]) (fr:=[3,0]) (λi=>Ge ⟨rfl,rfl,'W','W','W','W'⟩) (bb.p (rJ T.mz (ae 4 rfl) rfl) λG σ h=>h.2) (iO 0 1 (λ_=>bH)) 'Q' (λ_=>true) (λk=>ti ((ag.qY os.length B (fF c os.length) (cW W B S)).sp k)) (by rw[lr,aa,vc];show c.length+1<sizeLine;lia) (λG G' σ e z9=>by obtain⟨h1,h2⟩:=z9;exact⟨Ou e h1,h2⟩) (λG σ h=>?_) Mp (λq d hd=>?_)) (by rw[lr,aa,vc];exact zk _ _)) (gi X5.s) ⟨⟨m,dx,_,_,rfl,by rw[dE (.head _)];exact AU,rfl,DL (by rw[dE (.tail _ (.head _))];exact AV) n2 λi a e=>by rw[dE (.tail _ (.tail _ (ba e)))];exact e5 i a e⟩,uQ (Sf.mono (gh g5)) (Sg.mono (gh g5)) (Sh.mono (gh g5))⟩ λv3 G6 H6 f3 s6 ow6 Sj=>?_
 ·obtain⟨⟨m,dx,fs,v,h1,h2⟩,h3⟩:=h;refine⟨⟨m,dx,fs,v,?_,h2⟩,?_⟩
  ·show some ((σ[0]?).join)=_;rw[h1];rfl
  ·show some ((σ[3]?).join)=_;obtain⟨w3,q1,q2⟩:_:=h3 3 _ rfl;rw[q1,aS q2];rfl
 ·obtain⟨x,hx,rfl⟩:=lh hd;have hq:q<c.length+1/\x=di (fF c os.length q):=by
   rw[l8]at hx;cases e:(c++[(os.length:Int)])[q]? with
   |none=>rw[e]at hx;cases hx
   |some y=>
    rw[e]at hx;have hl:=(gr.mp e).1;rw[vc]at hl;refine⟨hl,?_⟩;unfold fF;rw[ir,e];exact(GG hx).symm
  obtain⟨hq,rfl⟩:=hq;have xt:Mo λG σ => ∃aq vs,xB K C (kX os.length (c.length+1) (cW W B S)) B G aq/\aq.length=2+2/\aG K G [di q,di (fF c os.length q)] vs/\σ=a8 [0,1] vs aq:=λG G' σ e z9=>by obtain⟨aq,vs,⟨h1,h2⟩,l,hv,es⟩:_:=z9;exact⟨aq,vs,⟨Ou e h1,h2⟩,l,hv.mono e,es⟩
  have hc:=cl q hq;have h8:(9:Nat)<2^8000:=ze (by decide:(9:Nat)<2^4) (aeY 'Q' 'Q');have gR:=sh.b1;have AW:=sh.b0;rw[Iu]at gR;refine⟨_,rfl,Dz,λ_=>?_⟩;refine aak xt (Ev.p (ρ:=[some (ti q),some (ti (fF c os.length q)),some (ti B),none]) (by exact kn (ae 1 rfl) (ae 2 rfl) ⟨'O','O'⟩) λG σ h=>(GB h).1) (aal (ns:=bB os.length λa=>cW W B S a q) T.Fy (a9.to (rW (ρ:=[some (ti q),some (ti (fF c os.length q)),some (ti B),none]) (own:=["row"]) (fr:=[0]) (λi=>vv ["one", "count", "bottom", "self"] ⟨rfl,'W','W','W','W'⟩ λy hy=>k7 _ _ y hy) (λG σ h=>(GB h).1) (ui (jJ (C:=C) (d:=kX os.length (c.length+1) (cW W B S)) 3 U.cl U.n2 (λG σ h=>(GB h).2) (λi=>pv 3)) rfl) (bp 0 (λ_=>bH)) 'Q' (λ_=>true) (λk=>ti (cW W B S k q)) (by rw[aa,xy];lia) (λk d hd=>?_)) (by rw[aa,xy];exact zk _ _)) (bP _));obtain⟨hk,rfl⟩:=zf hd;exact⟨_,rfl,sf,λ_=>by exact bz (d:=di (cW W B S k q)) (ae 0 rfl) (ae 1 rfl) rfl (sP _ hq)⟩
 obtain⟨l3,rfl,hl3,rfl⟩:_:=sR ow6;have e6:=ux g5 s6;have rj:=Sj.n l3 (.head _);have AX:l3∉m::o2::r2:=λz=>by
  obtain z|z:=ff.mp z
  ·rw[z,AU]at rj;cases rj
  obtain z|z:=ff.mp z
  ·rw[z,AV]at rj;cases rj
  ·obtain⟨i,hi⟩:=OE z;rw[e5 i _ hi]at rj;cases rj
 have l3g:fL G6 (m::o2::r2) l3=none:=by rw[nW AX];exact Sj.g l3 (.head _)
 have g6:∀a∈m::o2::r2,fL G6 (m::o2::r2) a=none:=λa ha=>zi ha
 have Sl:=Sf.mono e6.g;have Sn:=Sg.mono e6.g;have Sq:=Sh.mono e6.g;have o6':=o4.mono e6.g;have X6:=X5.trans (.step e6);have hm6:=s6.h _ _ AU;have ho6:=s6.h _ _ AV;have e6':∀(i:Nat) a,r2[i]?=some a->H6 a=some (cV (c.length+1) (cW W B S i)):=λi a hi=>s6.h _ _ (e5 i a hi)
 generalize fL G6 (m::o2::r2)=G7 at *;have xE:m∉o2::r2:=(AE.mp Si).1;refine⟨.ref m,rfl,m,C,dx,_,rfl,hm6,U.cl,U.n3,by show 2<1000;decide,?_⟩;show dZ _ _ _ _ (upd H6 m (.ins C dx [("orders",v1),("owned",.ref o2),("spare",.ref l3)]));have Iz:upd H6 m (.ins C dx [("orders",v1),("owned",.ref o2),("spare",.ref l3)]) m=some (.ins C dx [("orders",v1),("owned",.ref o2),("spare",.ref l3)]):=bM;have IA:upd H6 m (.ins C dx [("orders",v1),("owned",.ref o2),("spare",.ref l3)]) o2=some (.lst (r2.map V.ref)):=by rw[jc xE (.head _)];exact ho6
 have e7:∀(i:Nat) a,r2[i]?=some a->upd H6 m (.ins C dx [("orders",v1),("owned",.ref o2),("spare",.ref l3)]) a=some (cV (c.length+1) (cW W B S i)):=λi a hi=>by rw[jc xE (.tail _ (ba hi))];exact e6' i a hi
 have IB:upd H6 m (.ins C dx [("orders",v1),("owned",.ref o2),("spare",.ref l3)]) l3=some (cV (c.length+1) (ag.qY os.length B (fF c os.length) (cW W B S)).sp):=by rw[jM (l:=m::o2::r2) AX (.head _)];exact hl3
 have X7:Sx G H [m] G7 (upd H6 m (.ins C dx [("orders",v1),("owned",.ref o2),("spare",.ref l3)])) (m::o2::l3::r2):=(X6.trans (.put X6.s (.head _) (g6 m (.head _)))).more λx hx=>by
  obtain z|hx:=ff.mp hx
  ·exact .inl (z▸.head _)
  obtain z|hx:=ff.mp hx
  ·exact .inl (z▸.tail _ (.head _))
  obtain z|z:=ff.mp hx
  ·exact .inr (z▸X5.k _ rj)
  ·exact .inl (.tail _ (.tail _ z))
 generalize upd H6 m (.ins C dx [("orders",v1),("owned",.ref o2),("spare",.ref l3)])=H7 at Iz IA e7 IB X7;refine FL (t:=.ow ((List.range os.length).map λa=>aE (bB (c.length+1) ((λ_ _=>0) a)))) (fO (own:=["row"]) (fr:=[4]) (List.range os.length) (λa=>dr W (S a)) (λa=>aE (bB (c.length+1) ((λ_ _=>0) a))) (λi=>cg) (cm (ae 2 rfl) rfl) (bp 0 (λ_=>bH)) 'Q' (by rw[xy];lia) (λa ha=>⟨_,rfl,Ev.to (by exact fO (own:=["count"]) (fr:=[]) (c++[(os.length:Int)]) di (λ_=>ti 0) (λi=>vv ["row", "supply"] ⟨rfl,'W','W','W','W'⟩ λy hy=>k7 _ _ y hy) (cm (ae 1 rfl) rfl) (bp 0 (λ_=>bH)) 'Q' (by rw[vc];show c.length+1<sizeLine;lia) (λs hs=>⟨_,rfl,by exact ak⟩) (λdd=>by cases dd<;>rfl)) ?_⟩) (λdd=>by cases dd<;>rfl)) X7.s (uQ Sl Sn Sq) λv4 G8 H8 f4 s8 ow8 AY=>?_
 ·show Tr.ow _=Tr.ow (List.map _ (List.map _ _));rw[gz,List.map_const'];show Tr.ow _=Tr.ow (List.map (λ_=>ti 0) (List.range (c.length+1)));rw[List.map_const',vc,xy];rfl
 obtain⟨eU,r4,rfl,rfl,ho8,n4,e8⟩:_:=Mj ow8;have g7:∀a∈m::o2::l3::r2,G7 a=none:=λa ha=>by
  obtain z|ha:=ff.mp ha
  ·exact z▸g6 m (.head _)
  obtain z|ha:=ff.mp ha
  ·exact z▸g6 o2 (.tail _ (.head _))
  obtain z|z:=ff.mp ha
  ·exact z▸l3g
  ·exact g6 a (.tail _ (.tail _ z))
 have Sr:∀a∈m::o2::l3::r2,∃o,H7 a=some o:=λa ha=>by
  obtain z|ha:=ff.mp ha
  ·exact⟨_,z▸Iz⟩
  obtain z|ha:=ff.mp ha
  ·exact⟨_,z▸IA⟩
  obtain z|z:=ff.mp ha
  ·exact⟨_,z▸IB⟩
  ·obtain⟨i,hi⟩:=OE z;exact⟨_,e7 i _ hi⟩
 have xF:∀a∈m::o2::l3::r2,a∉eU::r4:=λa ha z=>by
  obtain⟨o,ho⟩:=Sr a ha;rw[AY.n a z]at ho;cases ho
 have g8:∀a∈m::o2::l3::r2,G8 a=none:=λa ha=>by
  obtain⟨o,ho⟩:=Sr a ha;exact off s8 (g7 a ha) ho
 have k8:∀{a o},H7 a=some o->H8 a=some o:=λ{a o} h=>s8.h a o h
 refine⟨.ref m,rfl,m,C,dx,_,rfl,k8 Iz,U.cl,U.n4,by show 3<1000;decide,?_⟩;have eH8:upd H8 m (.ins C dx (gJ "got" (.ref eU) [("orders",v1),("owned",.ref o2),("spare",.ref l3)]))=upd H8 m (.ins C dx [("orders",v1),("owned",.ref o2),("spare",.ref l3),("got",.ref eU)]):=rfl;rw[eH8];dsimp only;show P4 _ _ _ _ _ _ (upd H8 m (.ins C dx [("orders",v1),("owned",.ref o2),("spare",.ref l3),("got",.ref eU)]));have md:m∉o2::l3::r2:=λz=>by
  obtain z|z:=ff.mp z
  ·exact xE (z▸.head _)
  obtain z|z:=ff.mp z
  ·exact AX (z▸.head _)
  ·exact xE (.tail _ z)
 have mq:m∉eU::r4:=xF m (.head _);have k9:∀{a o},a≠m->H8 a=some o->upd H8 m (.ins C dx [("orders",v1),("owned",.ref o2),("spare",.ref l3),("got",.ref eU)]) a=some o:=λ{a o} n h=>by rw[aH n];exact h
 have Ss:upd H8 m (.ins C dx [("orders",v1),("owned",.ref o2),("spare",.ref l3),("got",.ref eU)]) m=some (.ins C dx [("orders",v1),("owned",.ref o2),("spare",.ref l3),("got",.ref eU)]):=bM;have Su:=k9 (λz=>md (z▸.head _)) (k8 IA);have Sv:=k9 (λz=>md (z▸.tail _ (.head _))) (k8 IB);have e9:∀(i:Nat) a,r2[i]?=some a->upd H8 m (.ins C dx [("orders",v1),("owned",.ref o2),("spare",.ref l3),("got",.ref eU)]) a=some (cV (c.length+1) (cW W B S i)):=λi a hi=>k9 (λz=>md (z▸.tail _ (.tail _ (ba hi)))) (k8 (e7 i a hi))
 have Sw:=k9 (λz=>mq (z▸.head _)) ho8;have Sy:∀(i:Nat) a,r4[i]?=some a->upd H8 m (.ins C dx [("orders",v1),("owned",.ref o2),("spare",.ref l3),("got",.ref eU)]) a=some (cV (c.length+1) λ_=>0):=λi a hi=>k9 (λz=>mq (z▸.tail _ (ba hi))) (e8 i a hi)
 have X9:Sx G H [m] G8 (upd H8 m (.ins C dx [("orders",v1),("owned",.ref o2),("spare",.ref l3),("got",.ref eU)])) ((m::o2::l3::r2)++(eU::r4)):=((X7.trans (.step s8)).trans (.put s8.s (.head _) (g8 m (.head _)))).more λx hx=>by
  obtain z|z:=qr.mp hx
  ·exact .inl z
  ·exact .inr (X7.k x (AY.n x z))
 generalize upd H8 m (.ins C dx [("orders",v1),("owned",.ref o2),("spare",.ref l3),("got",.ref eU)])=H9 at *;have ht8:=Sl.mono s8.g;have hs8:=Sn.mono s8.g;have hw8:=Sq.mono s8.g;refine FL (t:=aE (bB os.length λ_=>B)) (Ev.to (fO (own:=["row"]) (fr:=[3]) (List.range os.length) (λa=>dr W (S a)) (λa=>ti B) (λi=>cg) (cm (ae 2 rfl) rfl) (bp 0 (λ_=>bH)) 'Q' (by rw[xy];lia) (λa ha=>⟨_,rfl,by exact ae 1 rfl⟩) (λdd=>by cases dd<;>rfl)) (by show Tr.ow _=Tr.ow (List.map _ (List.map _ _));rw[gz];rfl)) X9.s (uQ ht8 hs8 hw8) λv5 Ih nu f5 jw adl Qy=>?_
 obtain⟨l5,rfl,hl5,rfl⟩:=sR adl;have Sz:=Qy.n l5 (.head _);have SA:∀a∈(m::o2::l3::r2)++(eU::r4),∃o,H9 a=some o:=λa ha=>by
  obtain ha|ha:=qr.mp ha
  ·obtain z|ha:=ff.mp ha
   ·exact⟨_,z▸Ss⟩
   obtain z|ha:=ff.mp ha
   ·exact⟨_,z▸Su⟩
   obtain z|z:=ff.mp ha
   ·exact⟨_,z▸Sv⟩
   ·obtain⟨i,hi⟩:=OE z;exact⟨_,e9 i _ hi⟩
  ·obtain z|z:=ff.mp ha
   ·exact⟨_,z▸Sw⟩
   ·obtain⟨i,hi⟩:=OE z;exact⟨_,Sy i _ hi⟩
 have g9:∀a∈(m::o2::l3::r2)++(eU::r4),G8 a=none:=λa ha=>(qr.mp ha).elim (g8 a) (AY.g a)
 have oT:∀a∈(m::o2::l3::r2)++(eU::r4),Ih a=none:=λa ha=>by
  obtain⟨o,ho⟩:=SA a ha;exact off jw (g9 a ha) ho
 have AZ:l5∉(m::o2::l3::r2)++(eU::r4):=λz=>by
  obtain⟨o,ho⟩:=SA l5 z;rw[Sz]at ho;cases ho
 have hh:∀{a o},H9 a=some o->nu a=some o:=λ{a o} h=>jw.h a o h
 refine⟨.ref m,rfl,m,C,dx,_,rfl,hh Ss,U.cl,U.n5,by show 4<1000;decide,?_⟩;have kf:∀{a o},a≠m->nu a=some o->upd nu m (.ins C dx [("orders",v1),("owned",.ref o2),("spare",.ref l3),("got",.ref eU),("wanted",.ref l5)]) a=some o:=λ{a o} n h=>by rw[aH n];exact h
 refine kv Ih (upd nu m (.ins C dx [("orders",v1),("owned",.ref o2),("spare",.ref l3),("got",.ref eU),("wanted",.ref l5)])) v1 o2 l3 eU l5 r2 r4 (((X9.trans (.step jw)).trans (.put jw.s (.head _) (oT m (.head _)))).more λx hx=>?_) ⟨bM,((o6'.mono s8.g).mono jw.g),kf (λz=>md (z▸.head _)) (hh Su),n2,λi a hi=>kf (λz=>md (z▸.tail _ (.tail _ (ba hi)))) (hh (e9 i a hi)),kf (λz=>md (z▸.tail _ (.head _))) (hh Sv),kf (λz=>mq (z▸.head _)) (hh Sw),n4,λi a hi=>kf (λz=>mq (z▸.tail _ (ba hi))) (hh (Sy i a hi)),kf (λz=>AZ (z▸.head _)) hl5,?_,λa ha=>?_⟩
 ·obtain z|hx:=ff.mp hx
  ·exact .inl (z▸.head _)
  obtain z|hx:=ff.mp hx
  ·exact .inl (z▸.tail _ (.head _))
  obtain z|hx:=ff.mp hx
  ·exact .inl (z▸.tail _ (.tail _ (.head _)))
  obtain z|hx:=ff.mp hx
  ·exact .inl (z▸i4 _ (.head _))
  obtain z|hx:=ff.mp hx
  ·exact .inr (z▸X9.k _ Sz)
  obtain z|z:=qr.mp hx
  ·exact .inl (xw _ (.tail _ (.tail _ (.tail _ z))))
  ·exact .inl (i4 _ (.tail _ z))
 ·have n5:=AE.mp (AE.mp Si).2;have n8:=AE.mp AY.d;have a3:=not_or.mp (λz=>AX (ff.mpr z));have SD:=not_or.mp (λz=>a3.2 (ff.mpr z));have b1:=not_or.mp (λz=>mq (ff.mpr z));have b2:=not_or.mp (λz=>xF o2 (.tail _ (.head _)) (ff.mpr z));have b3:=not_or.mp (λz=>xF l3 (.tail _ (.tail _ (.head _))) (ff.mpr z));have m2:=not_or.mp (λz=>xE (ff.mpr z));have q:=λa ha (e:a=l5)=>AZ (e▸ha)
  exact FK ⟨m2.1,adU a3.1,b1.1,q _ (.head _),m2.2,b1.2⟩ ⟨adU SD.1,b2.1,q _ (.tail _ (.head _)),n5.1,b2.2⟩ ⟨b3.1,q _ (.tail _ (.tail _ (.head _))),SD.2,b3.2⟩ ⟨q _ (i4 _ (.head _)),λz=>xF eU (.tail _ (.tail _ (.tail _ z))) (.head _),n8.1⟩ ⟨λz=>AZ (xw _ (.tail _ (.tail _ (.tail _ z)))),λz=>AZ (i4 _ (.tail _ z))⟩ n5.2 n8.2 λa h1 h2=>xF a (.tail _ (.tail _ (.tail _ h1))) (.tail _ h2)
 ·obtain z|ha:=ff.mp ha
  ·exact z▸oT m (.head _)
  obtain z|ha:=ff.mp ha
  ·exact z▸oT o2 (.tail _ (.head _))
  obtain z|ha:=ff.mp ha
  ·exact z▸oT l3 (.tail _ (.tail _ (.head _)))
  obtain z|ha:=ff.mp ha
  ·exact z▸oT eU (i4 _ (.head _))
  obtain z|ha:=ff.mp ha
  ·exact z▸Qy.g l5 (.head _)
  obtain z|z:=qr.mp ha
  ·exact oT a (xw _ (.tail _ (.tail _ (.tail _ z))))
  ·exact oT a (i4 _ (.tail _ z))
end
section
structure iI (c:LI) (os:LL) (W:Int) (S:Nat->LI):Prop where
 ok:dX c os
 w0 : 0<W
 w1:W<2^70
 b9:∀a,a<os.length->fD W c.length (S a)
 sum:∀a,a<os.length->(S a).sum=W
 col:∀x,x<c.length->ag.sg os.length (λa=>(S a).getD x 0)<=c.getD x 0*W
def cj (W:Int)(A:Nat)(S:Nat->LI):Int:=vT W ((List.range A).map S)
theorem Pa.uniq (h:Pa st p)(k:Pa st q):p=q:=by
 have le:∀{p q},Pa st p->Pa st q->p<=q:=λ{p q} h k=>by
  obtain⟨⟨c,hc,e⟩,_⟩:=k;have:=h.2 c hc;obtain e|e:=e<;>lia
 exact Int.le_antisymm (le h k) (le k h)
def td:LI->Int
 |[] => 0
 |[a] => a
 |a::b::l=>if a<=td (b::l)then a else td (b::l)
theorem Mq:∀{l:LI},l≠[]->td l∈l/\∀a∈l,td l<=a
 |[],h=>absurd rfl h
 |[a],_=>⟨.head _,λb hb=>by rw[BB.mp hb];exact aff _⟩
 |a::b::l,_=>by
  obtain⟨h1,h2⟩:=Mq (l:=b::l) 'Y';unfold td
  grind
def SE (st:Ms):Int:=td (((bD st).map λc=>st.s.wn c)++(bD st).map λc=>gP st (ag.best st.A st.O st.s c) (ag.nx st.A st.O st.s c) (ag.best st.A st.O st.s c))
theorem PF (go:Go st)(hw:ag.cY st.A st.s≠[]):Pa st (SE st):=by
 obtain⟨h1,h2⟩:=Mq (l:=((bD st).map λc=>st.s.wn c)++(bD st).map λc=>gP st (ag.best st.A st.O st.s c) (ag.nx st.A st.O st.s c) (ag.best st.A st.O st.s c)) (by
  intro z;rw[List.append_eq_nil_iff,List.map_eq_nil_iff]at z;exact(C3 go hw).2 z.1)
 refine⟨?_,λc hc=>⟨h2 _ (xw _ (i8.mpr ⟨c,hc,rfl⟩)),h2 _ (i4 _ (i8.mpr ⟨c,hc,rfl⟩))⟩⟩;obtain z|z:=qr.mp h1
 ·obtain⟨c,hc,e⟩:=i8.mp z;exact⟨c,hc,.inl e.symm⟩
 ·obtain⟨c,hc,e⟩:=i8.mp z;exact⟨c,hc,.inr e.symm⟩
def jr:Nat->Ms->Ms
 |0,st=>st
 |n+1,st=>if ag.cY st.A st.s=[]then st else jr n (Ae st (SE st))
section
structure Gx (st:Ms) (B:Int) (cnt:Nat->Int) (sh:Nat->Nat->Int) (n:Nat):Prop where
 A6:st.A<=6
 M7:st.M<=7
 ok:ag.Ok st.A st.O st.M
 iv:∃G,ag.Iv st.A st.O st.s st.M B cnt sh [] G
 hn:n<st.M
 hc:cnt n=(st.A:Int)
 hs:∀a,a<st.A->(∀x,x<st.M->0<=sh a x)/\ag.sg st.M (sh a)=B
theorem Gx.go (h:Gx st B cnt sh n):Go st:=by obtain⟨G,iv⟩:=h.iv;exact⟨h.A6,h.M7,h.ok,B,cnt,sh,G,n,iv,h.hn,h.hc⟩
theorem Gx.next (h:Gx st B cnt sh n)(hw:ag.cY st.A st.s≠[])(hp:Pa st p):Gx (Ae st p) B cnt sh n/\ag.mu st.A st.M (Ae st p).s<ag.mu st.A st.M st.s:=by
 obtain⟨rg,zL⟩:=Pz h.go hw hp;obtain⟨G,iv⟩:=h.iv;obtain⟨W,iv2⟩:=ag.abf h.ok iv h.hn h.hc rg h.hs;refine⟨⟨h.A6,h.M7,h.ok,⟨_,ag.NP iv2 λa ha=>?_⟩,h.hn,h.hc,h.hs⟩,ag.acb iv h.M7 rg (λc hc=>(ag.rT h.ok iv h.hn h.hc (rg.rg c hc).1 (rg.rg c hc).2).1) zL⟩;obtain⟨h1,h2⟩:=BY.mp ha;exact⟨(rg.rg a h1).1,GS h2⟩
theorem FN (A M:Nat)(s:ag.St) : 0<=ag.mu A M s:=by
 have h1 : 0<=ag.mW A s:=ag.lI λ_ _=>ag.zJ _
 have h2 : 0<=ag.mO A M s:=ag.lI λ_ _=>ag.lI λ_ _=>ag.zJ _
 have h3 : 0<=ag.mS M s:=ag.lI λ_ _=>ag.zJ _
 unfold ag.mu;lia
theorem Mr:∀(n:Nat) {st:Ms} {B:Int} {cnt:Nat->Int} {sh:Nat->Nat->Int} {z:Nat},Gx st B cnt sh z->ag.mu st.A st.M st.s<n->Gx (jr n st) B cnt sh z/\ag.cY (jr n st).A (jr n st).s=[]/\(jr n st).A=st.A/\(jr n st).M=st.M/\(jr n st).O=st.O
 |0,st,_,_,_,_,h,l=>by
  have:=FN st.A st.M st.s;lia
 |n+1,st,B,cnt,sh,z,h,l=>by
  unfold jr;by_cases hw:ag.cY st.A st.s=[]
  ·simp_all
  ·rw[rf hw];obtain⟨h1,h2⟩:=h.next hw (PF h.go hw)
   exact Mr n h1 (by show ag.mu st.A st.M _<_;lia)
end
section
variable {os:LL}
theorem sF (h:iI c os W S) : 0<cj W os.length S/\cj W os.length S∣W/\∀a,a<os.length->∀x,(fW W ((S a).getD x 0)).2∣cj W os.length S:=by
 obtain⟨h1,h2,h3⟩:_:=aaj h.w0 ((List.range os.length).map S);refine⟨h1,h2,λa ha x=>?_⟩;rw[ir];cases e:(S a)[x]? with
 |none=>
  show(fW W 0).2∣_;rw[rO h.w0];grind
 |some v=>exact h3 _ (i8.mpr ⟨a,l9.mpr ha,rfl⟩) v (ba e)
theorem Qz (h:iI c os W S)(ha:a<os.length)(x:Nat):cW W (cj W os.length S) S a x*(W/cj W os.length S)=(S a).getD x 0:=by
 obtain⟨b0,bd,bs⟩:_:=sF h;have e:=abt h.w0 (bs a ha x);have q:=ON bd;generalize cj W os.length S=B at *;generalize W/B=Q at *;have:(oS W B ((S a).getD x 0)*Q)*B=(S a).getD x 0*B:=by
  grind
 exact Int.eq_of_mul_eq_mul_right 'O' this
theorem FO (h:iI c os W S) : 0<W/cj W os.length S:=by
 obtain⟨b0,bd,bs⟩:=sF h;have q:=ON bd;have w0:=h.w0;obtain z|z:=afj 0 (W/cj W os.length S)
 ·exact z
 ·have:=Int.mul_nonpos_of_nonpos_of_nonneg z (Sk b0);lia
theorem Ov {l:LI}(h:l.length=n):ag.sg n (λx=>l.getD x 0)=l.sum:=congrArg List.sum (Ml l h)
theorem vV (f:Nat->Int)(q:Int):ag.sg n (λx=>f x*q)=ag.sg n f*q:=by
 grind [Int.mul_comm,ag.vb]
theorem QA (f:Nat->Int)(q:Int)(l:List Nat):ag.sl (λx=>f x*q) l=ag.sl f l*q:=by
 grind [Int.mul_comm,ag.vd]
theorem Ox (h:dX c os):ag.Ok os.length (iU c os) (c.length+1):=λa ha=>by
 have om:os.getD a []∈os:=by
  simp_all
 have nd:=(mU h.c6 (h.nd _ om) (h.bT _ om)).2;have mem:=λx=>jH (x:=x) (h.bT _ om)
 refine(aab ?_ ad2).mpr λx=>?_
 ·grind [iU,List.Pairwise.imp_of_mem]
 ·rw[l9]
  constructor
  ·intro hx;obtain⟨y,hy,rfl⟩:=i8.mp hx
   grind
  ·intro hx;exact i8.mpr ⟨(x),(mem _).mpr ⟨'O','O'⟩,'Y'⟩
theorem EJ (h:x<c.length):fF c A x=c.getD x 0:=by
 unfold fF
 grind
theorem FP:fF c A c.length=A:=by
 unfold fF
 simp_all
theorem Oy (h:iI c os W S):Gx (xA c os W (cj W os.length S) S) (cj W os.length S) (fF c os.length) (cW W (cj W os.length S) S) c.length:=by
 obtain⟨b0,bd,bs⟩:_:=sF h;have q0:=FO h;have q:=ON bd;have o6:=h.ok.o6;have c6:=h.ok.c6;have eq:=λa ha x=>Qz h (a:=a) ha x
 have nn:∀a,a<os.length->∀x,0<=cW W (cj W os.length S) S a x/\cW W (cj W os.length S) S a x<=cj W os.length S:=λa ha x=>by
  have e:=eq a ha x;have r : 0<=(S a).getD x 0/\(S a).getD x 0<=W:=by
   have:=pj (h.b9 a ha) (x);unfold cz at this;rwa [BS]at this
  generalize cW W (cj W os.length S) S a x=v at *;generalize cj W os.length S=B at *;generalize W/B=Q at *
  constructor
  ·obtain z|z:=afj v 0
   ·have:=afs z q0;lia
   ·exact z
  ·obtain z|z:=afj B v
   ·have:=Zl z q0;rw[Int.mul_comm B Q]at this;rw[Int.mul_comm Q B]at q;rw[Int.mul_comm]at this;lia
   ·exact z
 have hs:∀a,a<os.length->(∀x,x<c.length+1->0<=cW W (cj W os.length S) S a x)/\ag.sg (c.length+1) (cW W (cj W os.length S) S a)=cj W os.length S:=λa ha=>by
  refine⟨λx _=>(nn a ha x).1,?_⟩;have e:ag.sg (c.length+1) (cW W (cj W os.length S) S a)*(W/cj W os.length S)=W:=by
   rw[<- vV,ag.mE λx _=>eq a ha x,Ov (h.b9 a ha).len,h.sum a ha]
  refine Int.eq_of_mul_eq_mul_right 'O' (e.trans ?_);rw[Int.mul_comm];exact q.symm
 refine⟨o6,by show c.length+1<=7;lia,Ox h.ok,ag.iv0 b0 hs λx hx=>?_,by show c.length<c.length+1;lia,?_,hs⟩
 ·obtain z|z:=ET x c.length
  ·rw[EJ z];have e:ag.sg os.length (λa=>cW W (cj W os.length S) S a x)*(W/cj W os.length S)<=c.getD x 0*W:=by
    rw[<- vV,ag.mE λa ha=>eq a ha x];exact h.col x z
   obtain y|y:=afj (c.getD x 0*cj W os.length S) (ag.sg os.length λa=>cW W (cj W os.length S) S a x)
   ·have:=Zl y q0;rw[Int.mul_assoc,Int.mul_comm (cj W os.length S),q]at this;lia
   ·exact y
  ·rw[show x=c.length by have:x<c.length+1:=hx;lia,FP];rw[<- ag.uw];exact ag.lJ λa ha=>(nn a ha _).2
 ·exact FP
def fuel (c:LI)(os:LL)(W:Int)(S:Nat->LI):Nat:=(ag.mu os.length (c.length+1) (xA c os W (cj W os.length S) S).s).toNat+1
def cI (c:LI)(os:LL)(W:Int)(S:Nat->LI):Ms:=jr (fuel c os W S) (xA c os W (cj W os.length S) S)
def gu (c:LI)(os:LL)(W:Int)(S:Nat->LI)(a:Nat):LI:=bB (c.length+1) λx=>(cI c os W S).s.got a x*(W/cj W os.length S)
theorem yI (h:iI c os W S):(∃G,ag.Iv os.length (iU c os) (cI c os W S).s (c.length+1) (cj W os.length S) (fF c os.length) (cW W (cj W os.length S) S) [] G)/\(∀a,a<os.length->(cI c os W S).s.wn a=0)/\(cI c os W S).A=os.length/\(cI c os W S).M=c.length+1:=by
 obtain⟨g,w,e1,e2,e3⟩:=Mr (fuel c os W S) (Oy h) (by
  unfold fuel;show ag.mu os.length (c.length+1) _<_;lia)
 have e1:(cI c os W S).A=os.length:=e1;have e2:(cI c os W S).M=c.length+1:=e2;have e3:(cI c os W S).O=iU c os:=e3;obtain⟨G,iv⟩:=g.iv;have iv:ag.Iv (cI c os W S).A (cI c os W S).O (cI c os W S).s (cI c os W S).M _ _ _ _ _:=iv;have w:ag.cY (cI c os W S).A (cI c os W S).s=[]:=w;rw[e1,e2,e3]at iv;refine⟨⟨G,iv⟩,λa ha=>?_,e1,e2⟩;have h0:=iv.w0 a ha;have:¬0<(cI c os W S).s.wn a:=λz=>by
  have:a∈ag.cY os.length (cI c os W S).s:=BY.mpr ⟨l9.mpr ha,EO z⟩
  simp_all
 lia
theorem zm (hx:x<c.length+1):(gu c os W S a).getD x 0=(cI c os W S).s.got a x*(W/cj W os.length S):=by
 unfold gu
 simp_all
theorem Mt (a:Nat):(gu c os W S a).length=c.length+1:=by grind [gu]
theorem acj (h:iI c os W S):iI c os W (gu c os W S):=by
 obtain⟨⟨G,iv⟩,w0,_,_⟩:=yI h;obtain⟨b0,bd,_⟩:=sF h;have q0:=FO h;have q:=ON bd;have sm:=λa ha=>by
  have:=iv.row a ha;rw[w0 a ha,Int.add_zero]at this;show ag.sg (c.length+1) (λx=>(cI c os W S).s.got a x*(W/cj W os.length S))=W
  grind [vV,Int.mul_comm]
 refine⟨h.ok,h.w0,h.w1,λa ha=>⟨h.w0,h.w1,Mt a,λt ht=>?_⟩,sm,λx hx=>?_⟩
 ·obtain⟨x,hx,rfl⟩:=i8.mp ht;have hx:=l9.mp hx;refine⟨adO (iv.g0 a x ha hx) (Sk q0),?_⟩;have e:=sm a ha;have:=ag.sC (λx hx=>adO (iv.g0 a x ha hx) (Sk q0)) hx;lia
 ·rw[ag.mE λa _=>zm (show x<c.length+1 by lia),vV];have e:=iv.col x 'O';have t0 : 0<=ag.fJ os.length (cI c os W S).s x:=by
   have:=ag.lI λa ha=>iv.o0 a x ha 'O'
   have:=iv.s0 x 'O';unfold ag.fJ;lia
  rw[EJ hx]at e;have:ag.sg os.length (λa=>(cI c os W S).s.got a x)<=c.getD x 0*cj W os.length S:='O'
  have:=Lm this (Sk q0)
  grind [Int.mul_assoc]
theorem VQ (h:iI c os W S)(ha:a<os.length)(k:Nat):bX (S a) (aN c.length (os.getD a [])) k<=bX (gu c os W S a) (aN c.length (os.getD a [])) k:=by
 obtain⟨⟨G,iv⟩,w0,_,_⟩:_:=yI h;have q0:=FO h;have p:=iv.pl a k ha (w0 a ha);have om:os.getD a []∈os:=by
  simp_all
 have e:∀l,∀aM,(∀x,x<c.length+1->aM.getD x 0=l x)->bX aM (aN c.length (os.getD a [])) k=ag.sl l ((iU c os a).take k):=λl aM hl=>by
  unfold bX ag.sl iU;rw[<- List.map_take,gz];refine congrArg List.sum (List.map_congr_left λx hx=>?_);have:=(jH (h.ok.bT _ om)).mp (EM hx);exact hl _ 'O'
 rw[e _ (S a) λx _=>(Qz h ha x).symm,e _ (gu c os W S a) λx hx=>zm hx,QA,QA]
 simp_all
theorem Xn (h:iI c os W S)(e:∀a,a<os.length->gu c os W S a=S a):∃rk:Nat->Nat,∀t∈bN c.length os S os.length,rk t.2.1.toNat<rk t.2.2.toNat/\(nH W c os.length S).contains t.2.1=true:=by
 obtain⟨⟨G,iv⟩,w0,_,_⟩:_:=yI h;obtain⟨b0,bd,_⟩:_:=sF h;have q:=ON bd;refine⟨G.idxOf,λt ht=>?_⟩;obtain⟨a,j,ha,hj,SF,x,hx,rfl⟩:_:=CV.mp ht;have om:os.getD a []∈os:=by
  rw[ir,ar ha];exact ad1 _
 have mem:=λx=>jH (x:=x) (h.ok.bT _ om)
 have ey:=yk hj;generalize (aN c.length (os.getD a [])).getD j 0=y at ey SF;have hy:=(mem y).mp (ba ey);have hxm:=(mem x).mp (EM hx);have gy : 0<(cI c os W S).s.got a y.toNat:=by
  have g:=iv.g0 a y.toNat ha 'O';obtain z|z:=Int.lt_or_eq_of_le g
  ·exact z
  ·exfalso;apply SF;unfold cz;rw[<- e a ha,zm 'O',<- z,Int.zero_mul]
 have bf:ag.Bf (iU c os a) x.toNat y.toNat:=by
  refine⟨j,?_,?_⟩
  ·unfold iU;rw[l8,ey];rfl
  ·unfold iU;rw[<- List.map_take];exact i8.mpr ⟨x,hx,rfl⟩
 obtain⟨h1,h2,h3,h4⟩:_:=ag.Ye (Ox h.ok) iv (show c.length<c.length+1 by lia) FP b0 w0 ha 'O' gy bf;refine⟨h2,?_⟩;have xc:x.toNat<c.length:='O'
 rw[EJ xc]at h4;refine Mc.mpr (i8.mpr ⟨x.toNat,BY.mpr ⟨l9.mpr xc,EO ?_⟩,by show((x.toNat))=x;lia⟩);show ag.sg os.length (λb=>cz (S b) ((x.toNat:Nat)))=_;have:ag.sg os.length (λb=>cz (S b) ((x.toNat)))=ag.sg os.length (λb=>(cI c os W S).s.got b x.toNat*(W/cj W os.length S)):=ag.mE λb hb=>by
  unfold cz;rw[BS,<- e b hb,zm 'O']
 rw[this,vV,h4,Int.mul_assoc,Int.mul_comm (cj W os.length S),q]
theorem Xo (ok:dX c os){rk:Nat->Nat}(h:∀t∈bN c.length os S os.length,rk t.2.1.toNat<rk t.2.2.toNat/\(nH W c os.length S).contains t.2.1=true):oR W c os S=[]/\dD (cP c os S) (c.length+1)=[]:=by
 constructor
 ·refine List.filter_eq_nil_iff.mpr λt ht z=>?_
  rw[(h t ((uO _ _ _).mem_iff.mp ht)).2]at z;cases z
 ·have pre:∀x∈dD (cP c os S) (c.length+1),∃y∈dD (cP c os S) (c.length+1),rk y.toNat<rk x.toNat:=λx hx=>by
   obtain⟨p,h1,h2,rfl⟩:=DG hx;obtain⟨t,ht,rfl⟩:=EA h1;refine⟨_,h2,?_⟩;exact(h t ht).1
  have no:∀n x,x∈dD (cP c os S) (c.length+1)->rk x.toNat<n->False:=λn=>by
   induction n with
   |zero=>exact λx _ h=>absurd h (WJ _)
   |succ n ih=>
    intro x hx hl;obtain⟨y,hy,l⟩:=pre x hx;exact ih y hy 'O'
  cases e:dD (cP c os S) (c.length+1)with
  |nil=>rfl
  |cons x r=>exact(no _ x (by rw[e];exact .head _) (aek _)).elim
theorem YC (h:iI c os W S)(e:∀a,a<os.length->gu c os W S a=S a):oR W c os S=[]/\dD (cP c os S) (c.length+1)=[]:=
 by obtain⟨_,hr⟩:=Xn h e;exact Xo h.ok hr
end
end
section
theorem aan {F:aU ι}(mo:Mo Φ)(ha:a9 F Φ a ta)(hb:a9 F Φ b tb')(hk:uV (er ta) (er tb'))(hd:dH (er ta)<=50):iH F Φ (.Compare a [.NotEq] [b] pos) (!bZ (er ta) (er tb')):=
 Dy mo (λi=>F.hK i▸MQ (F.hr i).units) ha hb (λG H x y Q s hx hy k=>⟨_,_,hk,hx.mono s,hy.mono s,hd,k⟩) (gG _)
theorem Mu (e:Step G H G1 H1)(x:Sx G1 H1 F G2 H2 F2)(h:∀a∈F,H a=none):Step G H G2 H2/\∀a∈F2,H a=none:=by
 refine⟨⟨e.g.trans x.g,λa o ho=>x.h a o (λz=>'J') (e.h a o ho),x.s,λa h1 h2=>?_⟩,λa ha=>?_⟩
 ·by_cases z:G1 a=none
  ·exact e.h.free (x.n a z h2)
  ·exact e.n a h1 z
 ·obtain z|z:=x.f a ha
  ·simp_all
  ·exact e.h.free z
structure SG (P:afU) (w:afV) (K:Frag) (mg:Str->Option vn) (base:Heap) (C:adG) (k:Nat) (f:adG) (fd:FuncData) (ps:List Str) (sp:Sp):Prop where
 m:L2.Mk K C f
 ok:bQ P w K mg base bx k f fd ps sp
 b:Binds K fd ps []
 g:mg "Market"=some (.ref C)
abbrev xH (W:Int)(A:Nat)(S:Nat->LI):Tr:=.ow ((List.range A).map λa=>.ow ((S a).map λs=>tF (fW W s)))
abbrev Gd (c:LI)(os:LL)(W:Int)(S:Nat->LI):Prop:=oR W c os S=[]/\dD (cP c os S) (c.length+1)=[]
def QB:bI:=λdd t=>∃(c:LI) (os:LL) (W:Int) (S:Nat->LI),iI c os W S/\dd=[gn c os,cD W os.length S]/\t=if Gd c os W S then tn else xH W os.length (gu c os W S)
abbrev SH:List Str:=["table", "shares", "bottom", "market"]
abbrev ud:afW:=top 33
theorem BQ:aZ SH ["table", "shares"] (aA ud):=sk
abbrev xI (P:afU)(w:afV)(K:Frag)(mg:Str->Option vn)(base:Heap)(f:adG)(k:Nat):=iR P w K mg base SH "bettered" (aA ud) f k
theorem Oz (h1:Hv K G d1 tv)(h2:Hv K G d2 sv):aX K G [some (.fz d1),some (.fz d2),none,none] [some tv,some sv,o2,o3]:=λj d hj=>by
 match j,hj with
 |0,hj=>cases hj;exact⟨tv,rfl,h1⟩
 |1,hj=>cases hj;exact⟨sv,rfl,h2⟩
 |2,hj=>cases hj
 |3,hj=>cases hj
 |n+4,hj=>cases hj
theorem abx {os:LL}:∃(x:Str) (ds':List Dv),er (Ac W c os S)=.tup (ds x::ds')/\(V.str x=V.str "good"↔Gd c os W S):=by
 unfold Ac;by_cases e:oR W c os S=[]
 ·rw[e];by_cases q:dD (cP c os S) (c.length+1)=[]
  ·rw[uu q];exact⟨"good",_,rfl,λ_=>⟨e,q⟩,λ_=>rfl⟩
  ·rw[rf q];exact⟨"ring",_,rfl,λz=>absurd z 'Q',λz=>absurd z.2 q⟩
 ·obtain⟨t,l,et⟩:=List.exists_cons_of_ne_nil e;rw[et];exact⟨"left",_,rfl,λz=>absurd z 'Q',λz=>absurd z.1 e⟩
def adn (s:afW):Expr:=match(dw s).getLast? with
 |some (.Return (some e) _)=>e
 |_=>.Constant .none 0 ⟨0,0,0,0⟩
theorem VR (F:bK K "bettered" ud f fd)(T:Txt mg)(U:kY K C)(YD:Kn P w K mg base bx j1 "judged" f1 cL ["table", "shares"] (spT K Qo))(Ug:Kn P w K mg base bx j2 "bottom_of_all" f2 fd2 ["rows"] (spT K Mh))(mB:Kn P w K mg base bx j3 "fraction" f3 qZ ["top", "bottom"] (spT K lK))(zo:SG P w K mg base C j4 fi fdi ["self", "table", "shares", "bottom"] (PD K C))(DN:Km P w K mg base C "trade" j5 ft fdt ["self"] (PB K C))(j9:Km P w K mg base C "wanting" j6 fw RN ["self"] (fZ K (Th K C) Ad))(l1:j1<=k)(l2:j2<=k)(l3j:j3<=k)(l4:j4+1<=k)(l5:j5<=k)(l6:j6<=k):bL P w K mg base k f fd ["table", "shares"] QB:=by
 refine F.d.ok BQ (λvs H Q E z9=>by obtain⟨G,dd,t,_,hv,hR,_⟩:=z9;obtain⟨_,_,_,_,_,rfl,_⟩:=hR;rw[<- hv.length];rfl) λaL A outer s H vs Q E hr h=>?_
 obtain⟨G,dd,t,sm,hv,⟨c,os,W,S,sh,rfl,rfl⟩,kv⟩:=h;obtain⟨tv,sv,rfl,ht,hs⟩:_:=pZ hv;have big:=cw;have c6:=sh.ok.c6;have o6:=sh.ok.o6;refine⟨_,cX (vi (vp (F:=xI P w K mg base f k) ⟨aL,A,outer,s,H,E,hr⟩) (fu (jb MB)) yr)
  (cX (hU (i:=2) BQ.nd rfl (by first|exact Or.inl rfl|exact Or.inr rfl) (dJ (F:=xI P w K mg base f k) ⟨aL,A,outer,s,H,E,hr⟩))
  (cX (hU (i:=3) BQ.nd rfl (Or.inl rfl) (YR zo.m zo.ok (hr.mono l4) rfl zo.g zo.b .nil mQ (cf (pv 0) (cf (pv 1) (cf (pv 2) cG)))))
  (cX (CD ad7 (vp (F:=xI P w K mg base f k) ⟨aL,A,outer,s,H,E,hr⟩) (fu (ki (CF (pv 3) U.cl DN.m DN.ok (hr.mono l5) DN.b .nil mQ))))
  (fu (jb (dJ (F:=xI P w K mg base f k) ⟨aL,A,outer,s,H,E,hr⟩)))))),?_⟩
 obtain⟨jx,jd,je,jg⟩:_:=abx (c:=c) (os:=os) (W:=W) (S:=S);refine Px (aa4 (u:=.str jx) (v:=.str "good") (bU (aW YD l1 (ah (ae 0 rfl) (ah (ae 1 rfl) ao)) ⟨c,os,W,S,sh.ok,sh.w0,sh.w1,sh.b9,rfl,rfl⟩) ak je (dh (j:=0) rfl)) DZ rfl) sm (Oz ht hs) λG1 H1 s1=>?_
 by_cases gd:Gd c os W S
 ·rw[uu (EO (jg.mpr gd))];rw[uu gd]at kv;exact kv .aY G1 H1 [] s1 ⟨rfl,rfl,rfl⟩ .nil
 rw[rf (by grind)];rw[rf gd]at kv;dsimp only[zt,dZ];obtain⟨b0,bd,bs⟩:_:=sF sh;refine sQ (t:=ti (cj W os.length S)) (aW Ug l2 (ah (ae 1 rfl) ao) ⟨W,(List.range os.length).map S,sh.w0,sh.w1,by grind,by rw[gz];rfl,rfl⟩) s1.s (Oz (ht.mono s1.g) (hs.mono s1.g)) λbv G2 H2 s2 hb2=>?_
 obtain rfl:bv=.int (cj W os.length S):=aS hb2;have kR:=s1.trans s2;dsimp only[eK,dZ,List.set];generalize hB:cj W os.length S=B at *;refine⟨_,rfl,_,rfl,_,rfl,λx dx hx hdx ne=>?_⟩;have bW:B<2^70:=by
  have:=ae3 sh.w0 bd;have:=sh.w1;lia
 have n1:upd H2 dx (.own x) x=none:=by rw[aH ne.symm];exact hx
 have s3:Step G2 H2 G2 (upd (upd H2 dx (.own x)) x (.ins C dx [])):=nM s2.s ((aj.new hdx).trans (aj.new n1));have s13:=kR.trans s3;refine⟨G2,x,dx,tv,sv,c,os,W,B,S,rfl,s3.s,bM,s2.s.free hx,ht.mono kR.g,hs.mono kR.g,⟨sh.ok,sh.w0,sh.w1,sh.b9,b0,bW⟩,λG4 H4 v1 o2 l3 o4 l5 r2 r4 X4 M4=>⟨rfl,?_⟩⟩;obtain⟨s4,F4⟩:=Mu s13 X4 λa ha=>by rw[BB.mp ha];exact kR.h.free hx
 have gx:=Oy sh;rw[hB]at gx;have Wf:∀Hc Gc st (v1:V) o2 l3 o4 l5 r2 r4,Step G H Gc Hc->Mv K C st Gc Hc x dx v1 o2 l3 o4 l5 r2 r4->(∀a∈mF x o2 l3 o4 l5 r2 r4,H a=none)->st=cI c os W S->uE (xI P w K mg base f k) (adn ud) [some tv,some sv,some (.int B),some (.ref x)] Hc Q:=λHc Gc st v1 o2 l3 o4 l5 r2 r4 sc M hF e=>by
  subst e;obtain⟨⟨Gi,iv⟩,w0,eA,eM⟩:_:=yI sh;rw[hB]at iv;have q:=ON bd;have et:Tr.ow (((List.range os.length).filter λ_=>true).map λk=>Tr.ow ((bB (c.length+1) ((cI c os W S).s.got k)).map λg=>tF (lT g B,lB g B)))=xH W os.length (gu c os W S):=by
   rw[adW.mpr λ_ _=>rfl];show Tr.ow _=Tr.ow _;congr 1;refine List.map_congr_left λa _=>?_
   unfold gu bB;rw[gz,gz,hB];congr 1;refine List.map_congr_left λy _=>?_
   show tF (lT _ B,lB _ B)=tF (fW W _);rw[rN sh.w0 'O'];rw[Int.mul_assoc,q]
  have b8:B.natAbs<2^8000:=by
   lia
  have gl:(((List.range (cI c os W S).A).map λa=>dis (bB (cI c os W S).M ((cI c os W S).s.got a)))).length=os.length:=by grind
  have nwF:Nw H Gc (mF x o2 l3 o4 l5 r2 r4):=⟨hF,M.g,M.nd⟩
  refine zj (Φ:=λG σ => gV K C (cI c os W S) 3 G σ/\aX K G [none,none,some (ti B),none] σ) (a9.to (rW (own:=["row"]) (fr:=[2]) (λi=>cg) (λG σ h=>h.2) (ui (jJ (C:=C) 3 U.cl U.n4 (λG σ h=>?_) (λi=>pv 3)) rfl) (bp 0 (λ_=>bH)) 'Q' (λ_=>true) (λk=>Tr.ow ((bB (c.length+1) ((cI c os W S).s.got k)).map λg=>tF (lT g B,lB g B))) (by rw[gl];lia) (λk d hd=>?_)) (by rw[gl];exact et)) (gi sc.s) ⟨⟨x,rfl,M.th⟩,λj d hj=>?_⟩ λv G7 H7 fq s7 ow7 IC=>kv v G7 H7 fq ((sc.eS nwF).trans s7) ow7 ⟨λa ha=>sc.h.free (IC.n a ha),IC.g,IC.d⟩
  ·obtain⟨⟨m,e,dx,v1,v2,v3,v4,v5,h0,h1,h2,h3,h4,h5⟩,_⟩:_:=h;exact⟨m,dx,_,v4,e,h0,rfl,h4⟩
  ·obtain⟨hk,rfl⟩:=zf hd;rw[eM];exact⟨_,rfl,sf,λ_=>by exact fO (own:=["parts"]) (fr:=[1]) (bB (c.length+1) ((cI c os W S).s.got k)) di (λg=>tF (lT g B,lB g B)) (λi=>vv ["row", "bottom"] ⟨rfl,'W','W','W','W'⟩ λy hy=>k7 _ _ y hy) (cm (ae 0 rfl) rfl) (bp 0 (λ_=>bH)) 'Q' (by grind) (λg hg=>⟨_,rfl,by exact aW mB l3j (ah (ae 0 rfl) (ah (ae 1 rfl) ao)) ⟨g,B,b0,b8,rfl,rfl⟩⟩) (λdd=>by cases dd<;>rfl)⟩
  ·match j,hj with
   |0,hj=>cases hj
   |1,hj=>cases hj
   |2,hj=>cases hj;exact⟨_,rfl,rfl,rfl⟩
   |3,hj=>cases hj
   |n+4,hj=>cases hj
 refine⟨λmm σ Hc=>∃Gc st v1 o2 l3 o4 l5 r2 r4 n,mm=(ag.mu st.A st.M st.s).toNat/\σ=[some tv,some sv,some (.int B),some (.ref x)]/\Step G H Gc Hc/\Mv K C st Gc Hc x dx v1 o2 l3 o4 l5 r2 r4/\(∀a∈mF x o2 l3 o4 l5 r2 r4,H a=none)/\Gx st B (fF c os.length) (cW W B S) c.length/\ag.mu st.A st.M st.s<((n:Nat):Int)/\jr n st=cI c os W S,⟨_,G4,_,v1,o2,l3,o4,l5,r2,r4,fuel c os W S,rfl,rfl,s4,M4,F4,gx,?_,by rw[<- hB];rfl⟩,?_⟩
 ·unfold fuel;rw[hB];show ag.mu os.length (c.length+1) _<_;lia
 intro mm σ Hc z9;obtain⟨Gc,st,v1,o2,l3,o4,l5,r2,r4,n,rfl,rfl,sc,M,hF,gx,lt,run⟩:_:=z9;refine Ma (Φ:=gV K C st 3) (aan (tb':=.ow []) (λG G' σ e ⟨m,h1,h2⟩=>⟨m,h1,h2.mono e⟩) (ya (C:=C) (st:=st) 3 U.cl j9.m j9.ok l6 j9.b (Qw (dd:=[]) "wanting" 'W') ⟨gx.A6,rfl,rfl⟩ (λi=>pv 3)) (Ev.p (ρ:=[]) (cu ao (zd _)) λG σ h j d hj=>by cases hj) (.inl ⟨_,_,bP _,rfl⟩) (by grind [bP,jI])) (gi sc.s) ⟨x,rfl,M.th⟩ λ_ H5 s5=>?_
 have M5:=M.keep s5.h;have IE:=sc.trans (nM sc.s s5.h);rw[bP];show if(!bZ (dis (iN (ag.cY st.A st.s))) (.lst []))=true then _ else _
 rw[Qr];unfold iN;rw[afO];have n1:∃n',n=n'+1:=by
  have:=FN st.A st.M st.s;exact⟨n-1,'O'⟩
 obtain⟨n',rfl⟩:=n1;by_cases hw:ag.cY st.A st.s=[]
 ·rw[hw,rf 'Q'];unfold jr at run;rw[uu hw]at run;exact Wf H5 Gc st v1 o2 l3 o4 l5 r2 r4 IE M5 hF run
 ·rw[uu 'J'];unfold jr at run;rw[rf hw]at run;refine⟨λaD H'=>∃Gc ai v1 o2 l3 o4 l5 r2 r4,ag.mu ai.A ai.M ai.s<ag.mu st.A st.M st.s/\aD=[some tv,some sv,some (.int B),some (.ref x)]/\Step G H Gc H'/\Mv K C ai Gc H' x dx v1 o2 l3 o4 l5 r2 r4/\(∀a∈mF x o2 l3 o4 l5 r2 r4,H a=none)/\Gx ai B (fF c os.length) (cW W B S) c.length/\jr n' ai=cI c os W S,?_,?_⟩
  ·intro aD H' z9;obtain⟨Gc,ai,v1,o2,l3,o4,l5,r2,r4,l,e,h1,h2,h3,h4,h5⟩:_:=z9;have:=FN ai.A ai.M ai.s;exact⟨_,'O',Gc,ai,v1,o2,l3,o4,l5,r2,r4,n',rfl,e,h1,h2,h3,h4,'O',h5⟩
  ·refine⟨_,rfl,x,dx,_,rfl,M5.i,rfl,Gc,x,st,dx,v1,o2,l3,o4,l5,r2,r4,rfl,IE.s,M5,gx.go,hw,λG' H' fm gg p sx hp Mn=>?_⟩;obtain⟨sn,Fn⟩:=Mu IE sx hF;obtain⟨g2,l2⟩:=gx.next hw hp
   rw[hp.uniq (PF gx.go hw)]at Mn g2 l2;exact⟨G',_,v1,o2,fm,o4,l5,gg,r4,l2,rfl,sn,Mn,Fn,g2,run⟩
end
section
theorem KG (n:Nat)(o:LI):jj n o=(aB n).filter λx=>!o.contains x:=by
 unfold jj aB;rw[afc];rfl
def lD (p q:Int×Int):Bool:=decide (p.1*q.2<q.1*p.2)
def zp:bI:=λdd t=>∃p q:Int×Int,lC p/\lC q/\dd=[dF p,dF q]/\t=tb (lD p q)
theorem yp (h : 0<W):lD (fW W s) (fW W t)=decide (s<t):=by
 unfold lD;rw[afN];exact abX h
abbrev BR:afW:=top 45
theorem Vp:aZ ["_law_counts_here", "_law_order_here"] ["_law_counts_here", "_law_order_here"] (aA BR):=sk
def EK:bI:=λdd t=>∃c o:LI,c.length<=6/\o.length<=6/\dd=[dis c,dis o]/\t=aE (aN c.length o)
theorem Vq (F:bK K "_law_full" BR f fd)(T:Txt mg):bL P w K mg base k f fd ["_law_counts_here", "_law_order_here"] EK:=by
 refine bR F.d Vp 'H' λdd t h=>?_
 obtain⟨c,o,c6,o6,rfl,rfl⟩:_:=h;have big:=cw;have lV:(((c.map di).length))=c.length:=by rw[aa]
 have rl:=Cg c.length o;refine az (cA (bO.to (Ev.s (se (se (ae 1 rfl) (cu (ah (bV T.bS (ae 0 rfl) (.inl rfl)) ao) (by show 1<=sizeLine;decide)) rfl rfl ?_) (oi (own:=["_law_one"]) (fr:=[1]) (aB c.length) di (λx=>!o.contains x) ti (λi=>cg) (bb.to (fM T.dW (bV T.bS (ae 0 rfl) (.inl rfl)) (by rw[lV];lia)) ?_) (bp 0 (λ_=>bH)) 'Q' (by rw[jG];lia) (λx hx=>⟨_,rfl,hZ (nO (ae 0 rfl) (ae 1 rfl) rfl (by with_unfolding_all rfl)),λ_=>ae 0 rfl⟩) (λdd=>by cases dd<;>rfl)) (mM _) (bP _) ?_)) ?_))
 ·show(o.map di).length+1<=sizeLine;rw[aa];lia
 ·simp_all [aB]
 ·rw[<- KG];show((o.map di)++[di _]).length+((jj c.length o).map di).length<=sizeLine
  grind
 ·rw[<- KG,lV];unfold aN;show Tr.ow ((((o.map di)++[di _])++((jj c.length o).map di)).map .fz)=Tr.ow ((o++[(c.length:Int)]++jj c.length o).map _);simp[gz]
  rfl
abbrev BU:afW:=top 46
theorem Vr:aZ ["_law_one", "_law_other"] ["_law_one", "_law_other"] (aA BU):=sk
theorem Vs (F:bK K "_law_plus" BU f fd)(T:Txt mg)(t6:bj P w K mg base (k+1) "_law_lowest" f1 cL ["_law_top", "_law_bottom"] lK):bL P w K mg base (k+2) f fd ["_law_one", "_law_other"] vC:=by
 refine bR F.d Vr 'H' λdd t h=>?_
 obtain⟨p,q,⟨p1,p2,p3⟩,⟨q1,q2,q3⟩,rfl,rfl⟩:_:=h;have jY:∀r:Int×Int,aP [di r.1,di r.2] 0=some (di r.1):=λ_=>rfl
 have jZ:∀r:Int×Int,aP [di r.1,di r.2] 1=some (di r.2):=λ_=>rfl
 exact az (cA (Ev.s (aW t6 (br _) (ah (eI (kn (bU (ae 0 rfl) ak rfl (jY p)) (bU (ae 1 rfl) ak rfl (jZ q)) ⟨fP p3 'Q',fP q2 'Q'⟩) (kn (bU (ae 1 rfl) ak rfl (jY q)) (bU (ae 0 rfl) ak rfl (jZ p)) ⟨fP q3 'Q',fP p2 'Q'⟩)) (ah (kn (bU (ae 0 rfl) ak rfl (jZ p)) (bU (ae 1 rfl) ak rfl (jZ q)) ⟨fP p2 'Q',fP q2 'Q'⟩) ao)) ⟨_,_,Int.mul_pos p1 q1,fP (NT p2 q2) 'Q',rfl,rfl⟩)))
abbrev BK:afW:=top 47
theorem U0:aZ ["_law_one", "_law_other"] ["_law_one", "_law_other"] (aA BK):=sk
theorem U1 (F:bK K "_law_under" BK f fd)(T:Txt mg):bL P w K mg base k f fd ["_law_one", "_law_other"] zp:=by
 refine bR F.d U0 'H' λdd t h=>?_
 obtain⟨p,q,⟨p1,p2,p3⟩,⟨q1,q2,q3⟩,rfl,rfl⟩:_:=h;have jY:∀r:Int×Int,aP [di r.1,di r.2] 0=some (di r.1):=λ_=>rfl
 have jZ:∀r:Int×Int,aP [di r.1,di r.2] 1=some (di r.2):=λ_=>rfl
 exact az (cA (Ev.s (Ff (kn (bU (ae 0 rfl) ak rfl (jY p)) (bU (ae 1 rfl) ak rfl (jZ q)) ⟨fP p3 'Q',fP q2 'Q'⟩) (kn (bU (ae 1 rfl) ak rfl (jY q)) (bU (ae 0 rfl) ak rfl (jZ p)) ⟨fP q3 'Q',fP p2 'Q'⟩))))
abbrev Bw:afW:=top 53
theorem xQ:aZ ["_law_shares", "_law_one", "_law_total", "_law_row"] ["_law_shares", "_law_one"] (aA Bw):=sk
theorem Ux (F:bK K "_law_column" Bw f fd)(T:Txt mg)(BV:bj P w K mg base (k+2) "_law_plus" f1 cL ["_law_one", "_law_other"] vC):bL P w K mg base (k+3) f fd ["_law_shares", "_law_one"] vg:=by
 refine bR F.d xQ 'H' λdd t h=>?_
 obtain⟨W,n,A,S,x,w0,w1,b9,a6,x0,x1,rfl,rfl⟩:_:=h;obtain⟨ss,SJ⟩:∃ss,ss=(List.range A).map λa=>cz (S a) x:=⟨_,rfl⟩
 have sb:∀s∈ss,0<=s/\s<=W:=λs hs=>by
  rw[SJ]at hs;obtain⟨a,ha,rfl⟩:=i8.mp hs;exact pj (b9 a (l9.mp ha)) x
 have sl:ss.length=A:='J'
 refine ax (aV 2 (bO.to (t':=tF (fW W (ss.take 0).sum)) (Ev.s (kj (ah ak (ah ak ao)) rfl 'Q')) (by show tF (0,1)=tF (fW W 0);rw[rO w0])) (λ_=>xQ.nd)) ?_;refine ax (dQ (bb.s (cm (ae 0 rfl) rfl)) (bp 3 (λ_=>xQ.nd)) (λj=>[some (.fz (cD W A S)),some (ti x),some (tF (fW W (ss.take j).sum)),none]) rfl (λ_=>rfl) (λj d hd=>?_)) ?_
 ·obtain⟨a,ha,rfl⟩:=gF hd;have ja:a=j:=by
   grind
  subst ja;have hj:a<A:=by grind
  have hx:ss[a]?=some (cz (S a) x):='J'
  have hb:=sb _ (ba hx);have ht:=yl sb w0 a;have ac4:(a)*W<=200*W:=Lm 'O' 'O';refine⟨_,[some (.fz (cD W A S)),some (ti x),some (tF (fW W (ss.take (a+1)).sum)),some (.fz (dr W (S a)))],rfl,?_,[3],rfl⟩;rw[kg hx,aea,afq];generalize (ss.take a).sum=s0 at ht;exact az (aV 2 (bO.to (t':=tF (fW W (s0+cz (S a) x))) (Ev.s (aW BV (br _) (ah (ae 2 rfl) (ah (bz (ae 3 rfl) (ae 1 rfl) rfl (rowAt (b9 a hj) x0 x1)) ao)) ⟨fW W s0,fW W (cz (S a) x),pT w0 w1 ht.1 'O',pT w0 w1 hb.1 'O',rfl,rfl⟩)) (by rw[Dn w0])) (λ_=>xQ.nd))
 ·rw[aa,xy,List.take_of_length_le 'O'];exact az (cA (bO.to (Ev.s (ae 2 rfl)) (by unfold gO;rw[SJ])))
theorem ack (h : 0<W)(s0 : 0<=s):decide (0<(fW W s).1)=decide (0<s):=by
 have c:=i6 (s:=s) h;have p:=gj (s:=s) h;have n:=JI h s0
 grind [rO,Int.mul_pos]
abbrev nLW:List Str:=["_law_counts_here", "_law_orders_here", "_law_shares", "_law_found", "_law_asker", "_law_full_here", "_law_k"]
abbrev Bx:afW:=top 55
theorem rC:aZ nLW ["_law_counts_here", "_law_orders_here", "_law_shares"] (aA Bx):=sk
def OA:bI:=λdd t=>∃(c:LI) (os:LL) (W:Int) (S:Nat->LI),dX c os/\0<W/\(∀a,a<os.length->fD W c.length (S a))/\dd=[dis c,.lst (os.map dis),cD W os.length S]/\t=.fz (fK (bN c.length os S os.length))
theorem Ws (F:LI)(h:i<=F.length):(List.range i).map (λj=>F.getD j 0)=F.take i:=by
 refine Po λj=>?_
 grind
theorem Uy (F:bK K "_law_wishes" Bx f fd)(T:Txt mg)(BW:bj P w K mg base k "_law_full" f1 cL ["_law_counts_here", "_law_order_here"] EK):bL P w K mg base (k+1) f fd ["_law_counts_here", "_law_orders_here", "_law_shares"] OA:=by
 refine bR F.d rC 'H' λdd t h=>?_
 obtain⟨c,os,W,S,ok,w0,b9,rfl,rfl⟩:_:=h;have big:=cw;have o6:=ok.o6;have c6:=ok.c6;have fl:∀o∈os,(aN c.length o).length<=7:=λo ho=>(mU c6 (ok.nd o ho) (ok.bT o ho)).1
 refine ax (aV 3 (Ev.s (Ev.as (d:=fK []) (cu ao (zd _)) rfl)) (λ_=>rC.nd)) ?_;have rl:((jo 0 (((os.map dis).length:Nat):Int).toNat)).length=os.length:='J'
 refine ax (dQ (bb.s (fM T.dW (bV T.bS (ae 1 rfl) (.inl rfl)) ⟨'O',by grind⟩)) (bp 4 (λ_=>rC.nd)) (λk=>[some (.fz (dis c)),some (.fz (.lst (os.map dis))),some (.fz (cD W os.length S)),some (.fz (fK (bN c.length os S k))),none,none,none]) rfl (λ_=>rfl) (λa d hd=>?_)) ?_
 ·obtain⟨ha,rfl⟩:=mI hd;rw[aa]at ha;have hj:a<os.length:='O'
  rw[adS];obtain⟨o,xj⟩:∃o,os[a]?=some o:=⟨_,ar hj⟩
  have og:os.getD a []=o:='J'
  have om:=ba xj;have f7:=fl o om;have R:=b9 a hj;have tP:=ok.gN om;have wa:=pA S fl a 'O';have xJ:aP (os.map dis) ((a:Nat):Int)=some (dis o):=dh 'J';have sat:aP ((List.range os.length).map λa=>dr W (S a)) ((a:Nat):Int)=some (dr W (S a)):=dh 'J';have fl2:((jo 0 ((((aN c.length o).map di).length:Nat):Int).toNat)).length=(aN c.length o).length:='J'
  refine⟨_,_,rfl,ax (aV 5 (Ev.s (Ev.as (d:=dis (aN c.length o)) (aW BW (br _) (ah (ae 0 rfl) (ah (bz (ae 1 rfl) (ae 4 rfl) rfl xJ) ao)) ⟨c,o,c6,tP,rfl,rfl⟩) (bP _))) (λ_=>rC.nd)) (az (dQ (bb.s (fM T.dW (bV T.bS (ae 5 rfl) (.inl rfl)) ⟨'O',by grind⟩)) (bp 6 (λ_=>rC.nd)) (λi=>[some (.fz (dis c)),some (.fz (.lst (os.map dis))),some (.fz (cD W os.length S)),some (.fz (fK (bN c.length os S a++wJ c.length o (S a) a i))),some (ti a),some (.fz (dis (aN c.length o))),none]) ?_ (λ_=>rfl) (λi d hd=>?_))),[4,5],?_⟩
  ·show[_,_,_,some (Tr.fz (fK (bN c.length os S a++[]))),_,_,_]=_;rw[zw];rfl
  ·obtain⟨hi,rfl⟩:=mI hd;rw[aa]at hi;have il:i<(aN c.length o).length:='O'
   rw[adS];have hb:=yk il;generalize wq:(aN c.length o).getD i 0=b at hb;have bm:=(jH (ok.bT o om)).mp (ba hb);have SK:aP ((aN c.length o).map di) ((i:Nat):Int)=some (di b):=dh 'J';have wj:=za c.length o (S a) a i;have ti7:=Gw (m:=i) 'O';have tk:=pj R b;have a0:aP [di (fW W (cz (S a) b)).1,di (fW W (cz (S a) b)).2] 0=some (di (fW W (cz (S a) b)).1):=rfl;refine⟨_,_,rfl,az (vo (p:=decide (0<cz (S a) b)) (gC.to (Et.s (lH (bU (bz (bz (ae 2 rfl) (ae 4 rfl) rfl sat) (bz (ae 5 rfl) (ae 6 rfl) rfl SK) rfl (rowAt R bm.1 bm.2)) ak rfl a0) ak)) (ack w0 tk.1)) (λh=>bE.to (az (aV 3 (Ev.s (Ev.as (d:=fK (bN c.length os S a++wJ c.length o (S a) a (i+1))) (se (xs:=(bN c.length os S a++wJ c.length o (S a) a i).map λt=>dT (l3 t)) (ae 3 rfl) (fO (own:=["_law_j"]) (fr:=[4,5,6]) (List.range i) (λj=>di ((j:Nat):Int)) (λj=>.fz (dT [(a:Int),(aN c.length o).getD j 0,b])) (λi=>cg) (bb.to (fM T.dW (ae 6 rfl) ⟨'O','O'⟩) ?_) (bp 0 (λ_=>bH)) 'Q' (by grind) (λj hj=>⟨_,rfl,?_⟩) (λdd=>by cases dd<;>rfl)) rfl (eG ..) ?_) ?_)) (λ_=>rC.nd))) rfl) (λh=>bE.to nU ?_)),[6],rfl⟩
   ·simp_all
   ·have oQ:=l9.mp hj;have jat:aP ((aN c.length o).map di) ((j:Nat):Int)=some (di ((aN c.length o).getD j 0)):=dh (by grind);exact kj (dd:=[di a,di ((aN c.length o).getD j 0),di b]) (ah (ae 1 rfl) (ah (bz (ae 2 rfl) (ae 0 rfl) rfl jat) (ah (bz (ae 2 rfl) (ae 3 rfl) rfl SK) ao))) rfl (by grind)
   ·grind
   ·have AW:¬cz (S a) b=0:=by grind
    rw[mM,uN,wq,rf AW,<- CS];show Dv.lst _=Dv.lst _;rw[B0 (l₂:=((aN c.length o).take i).map _),<- Ws _ 'O',gz,gz]
    rfl
   ·have AW:cz (S a) b=0:='O'
    rw[uN,wq,uu AW,zw]
    rfl
  ·show[_,_,_,some (Tr.fz (fK _)),_,_,_]=_;rw[CA,og,fl2]
 ·rw[rl];exact az (cA (Ev.s (ae 3 rfl)))
theorem JU {α:Type}(p : α->Bool){ts:List α}{t : α}(h:ts[j]?=some t):(ts.take (j+1)).filter p=(ts.take j).filter p++if p t=true then [t]else []:=by
 rw[kg h,ad4]
 grind
theorem Mw (w0 : 0<W)(b9:∀a,a<A->fD W n (S a))(a6:A<=6)(x:Int) : 0<=gO A S x/\gO A S x<=200*W:=by
 have sb:∀s∈(List.range A).map (λa=>cz (S a) x),0<=s/\s<=W:=λs hs=>by
  obtain⟨a,ha,rfl⟩:=i8.mp hs;exact pj (b9 a (l9.mp ha)) x
 have h:=yl sb w0 A;rw[List.take_of_length_le 'J']at h;have h2:(A)*W<=200*W:=Lm 'O' 'O';exact⟨h.1,Int.le_trans h.2 h2⟩
def j7 (W:Int)(c:LI)(A:Nat)(S:Nat->LI)(t:Int×Int×Int):Bool:=decide (t.2.1=(c.length:Int))||decide (gO A S t.2.1<c.getD t.2.1.toNat 0*W)
abbrev nLL:List Str:=["_law_counts_here", "_law_shares", "_law_wishes_here", "_law_found", "_law_asker", "_law_better_here", "_law_one"]
abbrev BX:afW:=top 56
theorem BL:aZ nLL ["_law_counts_here", "_law_shares", "_law_wishes_here"] (aA BX):=sk
def PH:bI:=λdd t=>∃(c:LI) (W:Int) (A:Nat) (S:Nat->LI) (ts:List (Int×Int×Int)),c.length<=6/\(∀x∈c,0<=x/\x<=9)/\0<W/\W<2^70/\(∀a,a<A->fD W c.length (S a))/\A<=6/\ts.length<=126/\(∀t∈ts,0<=t.2.1/\t.2.1<=c.length)/\dd=[dis c,cD W A S,fK ts]/\t=tW (ts.filter (j7 W c A S))
theorem Vt (F:bK K "_law_left" BX f fd)(T:Txt mg)(By:bj P w K mg base (k+3) "_law_column" f1 cL ["_law_shares", "_law_one"] vg)(rF:bj P w K mg base k "_law_under" f2 fd2 ["_law_one", "_law_other"] zp):bL P w K mg base (k+4) f fd ["_law_counts_here", "_law_shares", "_law_wishes_here"] PH:=by
 refine bR F.d BL 'H' λdd t h=>?_
 obtain⟨c,W,A,S,ts,c6,c9,w0,w1,b9,a6,tl,tr,rfl,rfl⟩:_:=h;have big:=cw;refine ax (aV 3 (bO.to (t':=tW ((ts.take 0).filter (j7 W c A S))) (Ev.s (cu ao (zd _))) rfl) (λ_=>BL.nd)) ?_;refine ax (dQ (bb.s (cm (ae 2 rfl) rfl)) (uX 4 5 6 (λ_=>BL.nd)) (λj=>[some (.fz (dis c)),some (.fz (cD W A S)),some (.fz (fK ts)),some (tW ((ts.take j).filter (j7 W c A S))),none,none,none]) rfl (λ_=>rfl) (λj d hd=>?_)) ?_
 ·obtain⟨t,ht,rfl⟩:=gF hd;have tm:=ba ht;obtain⟨t0,t1⟩:=tr t tm;have cb:=Mw w0 b9 a6 t.2.1;have fl:=Pe (j7 W c A S) (ts.take j);rw[LB]at fl;refine⟨_,_,rfl,az (vo (o:=.nx [some (.fz (dis c)),some (.fz (cD W A S)),some (.fz (fK ts)),some (tW ((ts.take (j+1)).filter (j7 W c A S))),some (ti t.1),some (ti t.2.1),some (ti t.2.2)]) (p:=j7 W c A S t) (Et.s (Ew.et (jh (Et.to (gI (ae 5 rfl) (bV T.bS (ae 0 rfl) (.inl rfl))) (by rw[aa])) λhp=>(lA ?_)))) (λh=>bE.to (az (jF 3 rfl (Ev.s (kj (ah (ae 4 rfl) (ah (ae 5 rfl) (ah (ae 6 rfl) ao))) rfl (by show 3<=sizeLine;decide))) (by rw[aa];lia))) ?_) (λh=>bE.to nU ?_)),[4,5,6],rfl⟩
  ·have hn:=afp hp;have hl:t.2.1.toNat<c.length:='O'
   have hc:c[t.2.1.toNat]?=some (c.getD t.2.1.toNat 0):=by rw[ir,ar hl];rfl
   have hb:=c9 _ (ba hc);have SN:aP (c.map di) t.2.1=some (di (c.getD t.2.1.toNat 0)):=by
    rw[show t.2.1=((t.2.1.toNat)) by lia];exact dh (by rw[l8,BS,hc];rfl)
   generalize c.getD t.2.1.toNat 0=cx at hb SN;have sm:lC (cx,1):=⟨Int.one_pos,show(1:Int).natAbs<2^90 by decide,LP (show cx.natAbs<=9 by lia) 'Q'⟩
   refine Et.to (fN (aW rF (by show k+1<=k+4;lia) (ah (aW By (br _) (ah (ae 1 rfl) (ah (ae 5 rfl) ao)) ⟨W,c.length,A,S,t.2.1,w0,w1,b9,a6,t0,t1,rfl,rfl⟩) (ah (oh (ah (bz (ae 0 rfl) (ae 5 rfl) rfl SN) (ah ak ao)) (by show 2<=sizeLine;decide)) ao)) ⟨fW W (gO A S t.2.1),(cx,1),pT w0 w1 cb.1 cb.2,sm,rfl,rfl⟩)) ?_;rw[(FC cx).symm.trans (Ob w0),yp w0]
  ·rw[JU _ ht,uu h];show Out.nx [_,_,_,some (Tr.ow _),_,_,_]=Out.nx [_,_,_,some (Tr.ow _),_,_,_];rw[B0];rfl
  ·rw[JU _ ht,rf (by rw[h];exact AM),zw];rfl
 ·rw[aa,ad0];exact az (kl 3 rfl)
theorem yq {s:Int}{m:Nat}(h : 0<W)(w1:W<2^70)(s0 : 0<=s)(s1:s<=m*W)(hm:m<=100):lC (fW W s):=by
 have a:=gj (s:=s) h;have b:=Fm (s:=s) h;have c:=Eh (s:=s) h;have d:(m)*W<=100*2^70:=Int.mul_le_mul 'O' 'O' 'O' 'Q';refine⟨a,?_,?_⟩
 ·lia
 ·lia
def lX (W:Int)(aM full:LI)(k:Nat):List Tr:=(List.range k).map λj=>tF (fW W (bX aM full (j+1)))
theorem Xp (W:Int)(aM full:LI)(k:Nat):lX W aM full (k+1)=lX W aM full k++[tF (fW W (bX aM full (k+1)))]:=by
 grind [lX,List.range_succ]
def PJ (t1 t2 full:LI):List Bool:=(List.range full.length).map λk=>decide (bX t1 full (k+1)<bX t2 full (k+1))
def zN (t1 t2 full:LI):Bool:=!(PJ t1 t2 full).any id
theorem KH:zN t1 t2 full=true↔∀k,k<full.length->bX t2 full (k+1)<=bX t1 full (k+1):=by
 unfold zN PJ
 simp_all
def nc (W:Int)(aM full:LI)(k:Nat):List (Int×Int):=(List.range k).map λj=>fW W (bX aM full (j+1))
theorem DP (W:Int)(aM full:LI)(k:Nat):er (.ow (lX W aM full k))=.lst ((nc W aM full k).map dF):=by
 unfold lX nc;rw[eG,gz];rfl
theorem aao (W:Int)(t1 t2 full:LI)(m:Nat):iS ((nc W t1 full m).map dF) ((nc W t2 full m).map dF)=(List.range m).map λj=>.tup [dF (fW W (bX t1 full (j+1))),dF (fW W (bX t2 full (j+1)))]:=by
 simp_all [nc,iS]
theorem JV (h:fD W n aM)(hm:m<=100):lC (fW W (bX aM full m)):=by
 obtain⟨a,b⟩:=DB h full m;exact yq h.w0 h.w1 a b hm
abbrev BZ:afW:=top 48
theorem t9:aZ ["_law_counts_here", "_law_order_here", "_law_row", "_law_total", "_law_found", "_law_one"] ["_law_counts_here", "_law_order_here", "_law_row"] (aA BZ):=sk
def EL:bI:=λdd t=>∃(c o:LI) (W:Int) (aM:LI),c.length<=6/\o.length<=6/\(∀x∈o,0<=x/\x<c.length)/\fD W c.length aM/\dd=[dis c,dis o,dr W aM]/\t=.ow (lX W aM (aN c.length o) (aN c.length o).length)
theorem Vu (F:bK K "_law_sums" BZ f fd)(T:Txt mg)(BW:bj P w K mg base k "_law_full" f1 cL ["_law_counts_here", "_law_order_here"] EK)(BV:bj P w K mg base (k+2) "_law_plus" f2 fd2 ["_law_one", "_law_other"] vC):bL P w K mg base (k+3) f fd ["_law_counts_here", "_law_order_here", "_law_row"] EL:=by
 refine bR F.d t9 'H' λdd t h=>?_
 obtain⟨c,o,W,aM,c6,o6,ado,ok,rfl,rfl⟩:_:=h;have big:=cw;have fl:=Yi (n:=c.length) o;have fin:=Z0 ado;have w0:=ok.w0;have e0:(0,1)=fW W (bX aM (aN c.length o) 0):=(rO w0).symm;refine ax (aV 3 (bO.to (t':=tF (fW W (bX aM (aN c.length o) 0))) (Ev.s (kj (dd:=[di 0,di 1]) (ah ak (ah ak ao)) rfl (by grind))) (by grind)) (λ_=>t9.nd)) ?_;refine ax (aV 4 (Ev.s (cu ao (zd _))) (λ_=>t9.nd)) ?_;refine ax (dQ (bb.s (cm (aW BW (by show k+1<=k+3;lia) (ah (ae 0 rfl) (ah (ae 1 rfl) ao)) ⟨c,o,c6,o6,rfl,rfl⟩) (bP _))) (bp 5 (λ_=>t9.nd)) (λk=>[some (.fz (dis c)),some (.fz (dis o)),some (.fz (dr W aM)),some (tF (fW W (bX aM (aN c.length o) k))),some (.ow (lX W aM (aN c.length o) k)),none]) rfl (λ_=>rfl) (λj d hd=>?_)) ?_
 ·obtain⟨x,hx,rfl⟩:=gF hd;obtain⟨x0,x1⟩:=fin x (ba hx);have hj:j<(aN c.length o).length:=by
   grind
  obtain⟨s0,s1⟩:=DB ok (aN c.length o) j;obtain⟨t0,t1⟩:=pj ok x;have pl:(lX W aM (aN c.length o) j).length=j:=by grind [lX]
  rw[Xp,JR hx];generalize bX aM (aN c.length o) j=S at s0 s1;have sm1:=yq w0 ok.w1 s0 s1 'O';have sm2:=yq (m:=1) w0 ok.w1 t0 'O' 'Q';exact⟨_,_,rfl,ax (aV 3 (bO.to (t':=tF (fW W (S+cz aM x))) (Ev.s (aW BV (br _) (ah (ae 3 rfl) (ah (bz (ae 2 rfl) (ae 5 rfl) rfl (rowAt ok x0 x1)) ao)) ⟨fW W S,fW W (cz aM x),sm1,sm2,rfl,rfl⟩)) (by rw[Dn w0])) (λ_=>t9.nd)) (az (jF 4 rfl (Ev.s (ae 3 rfl)) 'O')),[5],rfl⟩
 ·rw[aa];exact az (kl 4 rfl)
abbrev Bj:afW:=top 49
theorem I0:aZ ["_law_mine", "_law_theirs", "_law_here", "_law_there"] ["_law_mine", "_law_theirs"] (aA Bj):=sk
def Mx:bI:=λdd t=>∃(W:Int) (n:Nat) (t1 t2 full:LI),full.length<=99/\fD W n t1/\fD W n t2/\dd=[.lst ((nc W t1 full full.length).map dF),.lst ((nc W t2 full full.length).map dF)]/\t=tb (zN t1 t2 full)
def SQ:Dv->Bool
 | .tup [.tup [.fl (.int a),.fl (.int b)],.tup [.fl (.int c),.fl (.int e)]] => !lD (a,b) (c,e)
 |_=>true
theorem Uh {f f1:adG}{fd cL:FuncData}{k:Nat}(F:bK K "_law_no_less" Bj f fd)(T:Txt mg)(rF:bj P w K mg base k "_law_under" f1 cL ["_law_one", "_law_other"] zp):bL P w K mg base (k+1) f fd ["_law_mine", "_law_theirs"] Mx:=by
 refine bR F.d I0 'H' λdd t h=>?_
 obtain⟨W,n,t1,t2,full,hf,k1,k2,rfl,rfl⟩:_:=h;have QC:((List.range full.length).map λj=>Dv.tup [dF (fW W (bX t1 full (j+1))),dF (fW W (bX t2 full (j+1)))]).all SQ=zN t1 t2 full:=by
  rw[ae9,KH,adZ]
  constructor
  ·intro h j hj;have h':(!lD (fW W (bX t1 full (j+1))) (fW W (bX t2 full (j+1))))=true:=h _ (i8.mpr ⟨j,l9.mpr hj,rfl⟩);rw[yp k1.w0,aeL,aeE]at h';lia
  ·intro h d hd;obtain⟨j,hj,rfl⟩:=i8.mp hd;show(!lD (fW W (bX t1 full (j+1))) (fW W (bX t2 full (j+1))))=true;have:=h j (l9.mp hj);rw[yp k1.w0,aeL,aeE];lia
 refine uq (t:=tb false) (bb.s (bb.to (Lj T.Fw (ae 0 rfl) (ae 1 rfl) rfl rfl) (aao W t1 t2 full full.length))) (iO 2 3 (λ_=>I0.nd)) rfl SQ (λd hd=>?_) (λh=>?_) (λh=>?_)
 ·obtain⟨j,hj,rfl⟩:=i8.mp hd;have oQ:=l9.mp hj;have s1:lC (fW W (bX t1 full (j+1))):=JV k1 'O';have s2:lC (fW W (bX t2 full (j+1))):=JV k2 'O';generalize fW W (bX t1 full (j+1))=p at s1;generalize fW W (bX t2 full (j+1))=q at s2;refine⟨_,rfl,λh=>⟨_,az (dq (Et.s (fN (aW rF (br _) (ah (ae 2 rfl) (ah (ae 3 rfl) ao)) ⟨p,q,s1,s2,rfl,rfl⟩))) ?_),[2,3],rfl⟩,λh=>?_⟩
  ·have h':(!lD p q)=true:=h
   revert h';cases lD p q<;>decide
  ·have h':(!lD p q)=false:=h;exact az (jL (Et.s (fN (aW rF (br _) (ah (ae 2 rfl) (ah (ae 3 rfl) ao)) ⟨p,q,s1,s2,rfl,rfl⟩))) (by revert h';cases lD p q<;>decide) (az (cA (Ev.s vk))))
 ·rw[QC]at h;rw[h];exact az (cA (Ev.s vk))
 ·rw[QC]at h;rw[h]
abbrev BM:afW:=top 51
theorem U2:aZ ["_law_found"] ["_law_found"] (aA BM):=sk
def OB:bI:=λdd t=>∃n:Int,dd=[di n]/\t=tb true
theorem U3 (F:bK K "_law_whole" BM f fd)(T:Txt mg):bL P w K mg base k f fd ["_law_found"] OB:=by
 refine bR F.d U2 'H' λdd t h=>?_
 obtain⟨n,rfl,rfl⟩:=h;exact az (cA (Ev.s (Ev.to (D3 (pH T.oX T.Fv DY (ae 0 rfl) (by with_unfolding_all rfl)) λ_=>(uW (MU (p:=false) (pH T.oX T.NS Le (ae 0 rfl) (by with_unfolding_all rfl))))) rfl)))
end
section
theorem KI {n:Nat}{o:LI}(n6:n<=6)(nd:o.Nodup)(bT:∀x∈o,0<=x/\x<n):((aN n o).map Int.toNat).Perm (List.range (n+1)):=by
 have nf:=(mU n6 nd bT).2;have mem:=λx=>jH (x:=x) bT
 refine(aab ?_ ad2).mpr λx=>?_
 ·grind [List.Pairwise.imp_of_mem]
 ·rw[l9]
  constructor
  ·grind
  ·intro hx;exact i8.mpr ⟨(x),(mem _).mpr ⟨'O','O'⟩,'Y'⟩
theorem aap {n:Nat}{o:LI}(n6:n<=6)(nd:o.Nodup)(bT:∀x∈o,0<=x/\x<n)(hl:aM.length=n+1):bX aM (aN n o) (aN n o).length=aM.sum:=by
 have e:=ag.Eu (KI n6 nd bT) λx=>aM.getD x 0
 rw[Ov hl]at e;rw[<- e];unfold bX ag.sl;rw[ad0,gz];rfl
theorem YF (h : 0<W):(lT (fW W s).1 (fW W s).2,lB (fW W s).1 (fW W s).2)=fW W s:=rN h (by have:=gj (s:=s) h;lia) (i6 h)
theorem aby (h : 0<W):fW W W=(1,1):=by
 rw[<- rN (t:=1) (b:=1) h 'Q' 'O']
 rfl
abbrev Bz:afW:=top 52
theorem Jd:aZ ["_law_row", "_law_many", "_law_share"] ["_law_row", "_law_many"] (aA Bz):=sk
def OC:bI:=λdd t=>∃(W:Int) (n:Nat) (aM:LI),n<=6/\fD W n aM/\aM.sum=W/\dd=[dr W aM,di n]/\t=tb true
theorem Uz (F:bK K "_law_is_row" Bz f fd)(T:Txt mg)(Jj:bj P w K mg base k "_law_whole" f1 cL ["_law_found"] OB)(t6:bj P w K mg base (k+1) "_law_lowest" f2 fd2 ["_law_top", "_law_bottom"] lK)(xU:bj P w K mg base (k+3) "_law_sums" f3 qZ ["_law_counts_here", "_law_order_here", "_law_row"] EL):bL P w K mg base (k+4) f fd ["_law_row", "_law_many"] OC:=by
 refine bR F.d Jd 'H' λdd t h=>?_
 obtain⟨W,n,aM,n6,ok,adp,rfl,rfl⟩:_:=h;have w0:=ok.w0;have hl:=ok.len;refine ax (dq (Et.s (Ew.et (jh (ko (fN (pH (bo:=true) T.oX T.ic uD (ae 0 rfl) (by with_unfolding_all rfl)))) λ_=>(lA (vm (bV T.bS (ae 0 rfl) (.inl rfl)) (eI (ae 1 rfl) ak)))))) ?_) ?_
 ·simp_all
 refine uq (t:=tb false) (bb.s (cm (ae 0 rfl) rfl)) (bp 2 (λ_=>Jd.nd)) rfl (λ_=>true) (λd hd=>?_) (λ_=>?_) (λh=>?_)
 ·obtain⟨p,hp,rfl⟩:=i8.mp hd;obtain⟨s,hs,rfl⟩:=i8.mp hp;have b:=ok.t0 s hs;have low:=YF (s:=s) w0;have q0:=JI w0 b.1;have q1:=gj (s:=s) w0;have sm:=yq (m:=1) w0 ok.w1 b.1 'O' 'Q';generalize fW W s=p at low q0 q1 sm;obtain⟨p1,p2⟩:=p;have a0:aP [di p1,di p2] 0=some (di p1):=rfl;have a1:aP [di p1,di p2] 1=some (di p2):=rfl;refine⟨_,rfl,λ_=>⟨_,ax (dq (Et.s (Ew.et (jh (ko (fN (pH (bo:=true) T.oX T.ZX XA (ae 2 rfl) (by with_unfolding_all rfl)))) λ_=>(jh (vm (bV T.bS (ae 2 rfl) (.inr rfl)) ak) λ_=>(jh (ko (fN (aW Jj (by show k+1<=k+4;lia) (ah (bU (ae 2 rfl) ak rfl a0) ao) ⟨p1,rfl,rfl⟩))) λ_=>(lA (ko (fN (aW Jj (by show k+1<=k+4;lia) (ah (bU (ae 2 rfl) ak rfl a1) ao) ⟨p2,rfl,rfl⟩))))))))) rfl) (az (dq (Et.s (Ew.et (jh (pP (bU (ae 2 rfl) ak rfl a0) ak) λ_=>(jh (pP (bU (ae 2 rfl) ak rfl a1) ak) λ_=>(lA (iM (aW t6 (by show k+2<=k+4;lia) (ah (bU (ae 2 rfl) ak rfl a0) (ah (bU (ae 2 rfl) ak rfl a1) ao)) ⟨p1,p2,q1,fP sm.2.1 'Q',rfl,rfl⟩) (ae 2 rfl) (.inr ⟨_,_,rfl,rfl⟩) (Cn (vf _) 'Q'))))))) ?_)),[2],rfl⟩,λh=>by cases h⟩;show(decide (p1<0)||(decide (p2<1)||!bZ (dF (lT p1 p2,lB p1 p2)) (dF (p1,p2))))=false;rw[low,ur (NV _),LG 'O',LG 'O'];rfl
 ·have fl:(aN n []).length=n+1:=by
   have:=(KI n6 (List.Pairwise.nil:([]:LI).Nodup) λx hx=>nomatch hx).length_eq
   simp_all
  have ee:er (.ow (List.replicate (n:Int).toNat (ti 0)))=dis (List.replicate n 0):=by
   show Dv.lst (fj _)=Dv.lst _;rw[BS,List.map_replicate];have:∀m:Nat,fj (List.replicate m (ti 0))=List.replicate m (di 0):=λm=>by
    induction m with
    |zero=>rfl
    |succ m ih=>show er _::fj _=_;rw[ih];rfl
   rw[this]
  have lst:aP ((nc W aM (aN n []) (n+1)).map dF) (-1)=some (dF (1,1)):=by
   unfold nc;rw[List.range_succ,B0,B0];refine(DH _ _).trans ?_;show some (dF (fW W (bX aM (aN n []) (n+1))))=_;rw[<- fl,aap n6 .nil (λx hx=>nomatch hx) hl,adp,aby w0]
  refine az (cA (Ev.s (Ev.to (yU (bz (ta:=.ow (lX W aM (aN (List.replicate n (0:Int)).length []) (aN (List.replicate n (0)).length []).length)) (aW xU (br _) (ah (Ev.as (aa5 (cu (ah ak ao) 'Q') (ae 1 rfl) 'O' 'O') ee) (ah (cu ao (zd _)) (ah (ae 0 rfl) ao))) ⟨List.replicate n 0,[],W,aM,'J',zd _,(λx hx=>nomatch hx),'J',rfl,rfl⟩) (yS ak) (by grind [DP]) lst) (oh (ah ak (ah ak ao)) 'Q') (.inr ⟨_,_,rfl,rfl⟩) (Cn (vf _) 'Q')) ?_)))
  rfl
 ·simp_all
abbrev IG (r:List Dv):Tr:=.ow (r.map .fz)
theorem My:∀{ls:List (List Dv)} {vs:List V} {fq:List adG},aT K G H (ls.map IG) vs fq->vs=fq.map V.ref/\fq.length=ls.length/\∀(i:Nat) a,fq[i]?=some a->∃l us,ls[i]?=some l/\H a=some (.lst us)/\aG K G l us
 |[],_,_,⟨h1,h2⟩=>by subst h1 h2;exact⟨rfl,rfl,λi a h=>by cases h⟩
 |l::ls,_,_,⟨v,r,f1,f2,h1,h2,h3,h4⟩=>by
  obtain⟨e1,e2,e3⟩:_:=My h4;obtain⟨p,us,fx,q1,q2,q3,q4⟩:_:=h3;obtain⟨hv,q5⟩:=OD q3;subst h1 h2 e1 q1 q5 q4;refine⟨rfl,by show f2.length+1=ls.length+1;rw[e2],λi a hi=>?_⟩;cases i with
  |zero=>cases hi;exact⟨l,us,rfl,q2,hv⟩
  |succ i=>exact e3 i a hi
where
 OD:∀{dd:List Dv} {vs:List V} {f:List adG},aT K G H (dd.map Tr.fz) vs f->aG K G dd vs/\f=[]
  |[],_,_,h=>⟨h.1,h.2⟩
  |d::dd,_,_,⟨v,r,f1,f2,h1,h2,h3,h4⟩=>by
   obtain⟨e1,e2⟩:=OD h4;exact⟨⟨v,r,h1,h3.2,e1⟩,by rw[h2,e2,zw];exact h3.1⟩
theorem aaq {F:aU ι}(h:Ev F e ρ (tb b))(s:aj G H)(r:aX F.K G ρ σ)(k:∀G' H',Step G H G' H'->Q (.bl b) H'):uE F e σ H Q:=sQ h s r λv G' H' st hv=>by rw[aS hv];exact k G' H' st
abbrev SR:List Str:=["_law_lists", "_law_sizes", "_law_one"]
abbrev ua:afW:=top 59
theorem BA:aZ SR ["_law_lists"] (aA ua):=sk
def GD (ts:List Tr)(b:Bool):Prop:=∃ls:List (List Dv),ts=[.ow (ls.map IG)]/\ls.length<=6/\(∀l∈ls,l.length<=7)/\b=true
abbrev SU (P:afU)(w:afV)(K:Frag)(mg:Str->Option vn)(base:Heap)(f:adG)(k:Nat):=iR P w K mg base SR "_law_alone" (aA ua) f k
theorem U4 {f:adG}{fd:FuncData}{k:Nat}(F:bK K "_law_alone" ua f fd)(T:Txt mg):bQ P w K mg base bx (k+1) f fd ["_law_lists"] (HA K GD):=by
 refine F.d.ok BA (λvs H Q E z9=>by obtain⟨G,ts,fp,b,_,h1,_,_,h2,_⟩:_:=z9;obtain⟨_,rfl,_⟩:=h2;rw[<- h1.length];rfl) λaL A outer s H vs Q E hr h=>?_
 obtain⟨G,ts,fp,b,sm,ol,hg,nd,⟨ls,rfl,l6,l7,rfl⟩,kv⟩:_:=h;obtain⟨v,r,f1,f2,rfl,rfl,⟨l,us,fq,rfl,hl,ow,rfl⟩,rfl,rfl⟩:_:=ol;rw[zw]at hg nd kv;obtain⟨rfl,el,xn⟩:=My ow;have big:=cw;have tE:=AE.mp nd;obtain⟨Hh,x1,y1⟩:∃τ,(∀i,PS ((SU P w K mg base f k).cx i) ((dw ua).getD 0 (.Pass ⟨0,0,0,0⟩)) τ)/\∀D σ G H,aj G H->aX K G [some (.fz (.lst (ls.map λl=>.lst l))),none,none] σ->(∀v G' H' fq,Step G H G' H'->Ow K G' H' (.ow (ls.map λl=>ti l.length)) v fq->Nw H G' fq->D.nx (σ.set 1 (some v)) H')->τ D σ H:=
  aa3 1 (zX (own:=["_law_one"]) (fr:=[]) ls (λl=>.lst l) (λl=>ti l.length) (cm (ae 0 rfl) rfl) (bp 0 (λ_=>bH)) 'Q' 'O' (λp hp=>⟨_,rfl,by exact bV T.bS (ae 0 rfl) (.inl rfl)⟩) (λdd=>by cases dd<;>rfl)) (λi=>cg) (λ_=>BA.nd)
 refine⟨_,cX (x1 ⟨aL,A,outer,s,H,E,hr⟩) (cX (yN ad7 rfl (uz (pv 0)) (i7 (i:=2) BA.nd rfl (by first|exact Or.inl rfl|exact Or.inr rfl)) (fu (ki (kr EN OR Pc nL (pv 2) (cf (yQ (cf yJ (cf yJ cG))) cG))))) (fu (jb (dJ (F:=SU P w K mg base f k) ⟨aL,A,outer,s,H,E,hr⟩)))),?_⟩;show dZ Hh _ _ [some (.ref l),none,none] H;have rows:∀{Hc:Hp} (g:List Dv->List Dv),(∀(i:Nat) a,fq[i]?=some a->∃l us,ls[i]?=some l/\Hc a=some (.lst us)/\aG K Hc (g l) us)->Hc l=some (.lst (fq.map V.ref))->Hv K Hc (.lst (ls.map λl=>.lst (g l))) (.ref l):=λ{Hc} g h hl=>⟨l,_,rfl,aK.of hl,zg (by rw[aa,aa,el]) λj d v hd hv=>by
  rw[l8]at hd hv;cases e:fq[j]? with
  |none=>rw[e]at hv;cases hv
  |some a=>
   rw[e]at hv;cases hv;obtain⟨l',us,h1,h2,h3⟩:_:=h j a e;rw[h1]at hd;cases hd;exact⟨a,us,rfl,aK.of h2,h3⟩⟩
 refine y1 _ _ H H (aj.refl _) (λj d hj=>by
  match j,hj with
  |0,hj=>cases hj;exact⟨_,rfl,rows (λl=>l) (λi a hi=>by
    obtain⟨l,us,h1,h2,h3⟩:_:=xn i a hi;exact⟨l,us,h1,h2,h3.mono sm⟩) hl⟩
  |1,hj=>cases hj
  |2,hj=>cases hj
  |n+3,hj=>cases hj) λv1 G1 H1 fq1 s1 o1 w1=>?_
 have o1:Ow K G1 H1 (aE (ls.map λl=>(l.length:Int))) v1 fq1:=by
  have e:aE (ls.map λl=>(l.length:Int))=Tr.ow (ls.map λl=>ti l.length):=by
   show Tr.ow (List.map _ (List.map _ _))=_;rw[gz];rfl
  rw[e];exact o1
 obtain⟨q,rfl,hq,rfl⟩:_:=sR o1;have nK:H q=none:=w1.n q (.head _);have tU:=s1.h _ _ hl;have lq:l≠q:=λz=>by rw[z,nK]at hl;cases hl
 have qf:q∉fq:=λz=>by
  obtain⟨i,hi⟩:=OE z;obtain⟨_,us,_,h2,_⟩:=xn i q hi;rw[nK]at h2;cases h2
 dsimp only[List.set];refine Ca (j:=0) (a:=l) (xs:=fq.map V.ref) rfl (aK.of tU) (λi aD Hc=>(∃u,aD=[some (.ref l),some (.ref q),u])/\Md fq H1 Hc/\∀(m:Nat) a,fq[m]?=some a->∃l us,ls[m]?=some l/\aG K G l us/\if m<i then ∃t,Hc a=some (.lst (us++[.ref t]))/\Hc t=some (.tup [.int 0,.int 1])/\t∉fq else Hc a=some (.lst us)) ⟨⟨none,rfl⟩,.refl,λm a hm=>?_⟩ (λi aD Hc _ z=>aK.of (z.2.1 l _ tE.1 tU)) (λi v aD Hc hv z=>?_) (λaD Hc z=>?_)
 ·obtain⟨l',us,h1,h2,h3⟩:_:=xn m a hm;exact⟨l',us,h1,h3,s1.h _ _ h2⟩
 ·obtain⟨⟨u,rfl⟩,md,hr⟩:=z;rw[l8]at hv;cases ea:fq[i]? with
  |none=>rw[ea]at hv;cases hv
  |some a=>
  rw[ea]at hv;cases hv;obtain⟨l',us,h1,h3,h2⟩:_:=hr i a ea;rw[rf (abc _)]at h2;have ll:=l7 l' (ba h1);have af:=ba ea;refine⟨.ref a,rfl,.inl ⟨rfl,_,aK.of h2⟩,by show 2<=sizeLine;lia,λt ht=>?_⟩;have at':a≠t:=λz=>by rw[z,ht]at h2;cases h2
  refine⟨a,us,_,rfl,rfl,by rw[aH at'];exact h2,by rw[<- h3.length];lia,⟨_,rfl⟩,(md.trans (.new ht)).trans (.upd af),λm b hm=>?_⟩;have tf:t∉fq:=λz=>by
   obtain⟨j,hj⟩:=OE z;obtain⟨_,_,_,_,h⟩:=hr j t hj;by_cases lt:j<i
   ·rw[uu lt]at h;obtain⟨_,h,_⟩:=h;rw[ht]at h;cases h
   ·rw[rf lt]at h;rw[ht]at h;cases h
  obtain⟨l2,xK,g1,g2,g3⟩:_:=hr m b hm;refine⟨l2,xK,g1,g2,?_⟩;have bt:b≠t:=λz=>tf (z▸ba hm)
  by_cases e:m=i
  ·subst e;rw[ea]at hm;cases hm;rw[rf (abc _),h2]at g3;cases g3;rw[uu (aek _)];exact⟨t,bM,by rw[aH at'.symm,bM],tf⟩
  ·have ne:b≠a:=EF tE.2 hm ea e;by_cases lt:m<i
   ·rw[uu lt]at g3;obtain⟨t2,z1,z2,z3⟩:_:=g3;have t2a:t2≠a:=λz=>z3 (z▸af)
    have t2t:t2≠t:=λz=>by rw[z,ht]at z2;cases z2
    rw[uu 'O'];exact⟨t2,by rw[aH ne,aH bt];exact z1,by rw[aH t2a,aH t2t];exact z2,z3⟩
   ·rw[rf lt]at g3;rw[rf 'O',aH ne,aH bt];exact g3
 ·obtain⟨⟨u,rfl⟩,md,hr⟩:_:=z;have sg:aj G Hc:=λb o hb=>md b o (λz=>by rw[hg b (.tail _ z)]at hb;cases hb) (s1.h _ _ (sm _ _ hb))
  have e3:er (.ow (ls.map λl=>ti (((l++[dF (0,1)]).length:Nat):Int)))=dis (ls.map λl=>(((l++[dF (0,1)]).length:Nat):Int)):=by
   rw[eG];show Dv.lst _=Dv.lst (List.map _ (List.map _ _));rw[gz];rfl
  have e4:er (.ow ((ls.map λl=>((l.length:Nat):Int)).map λn=>ti (n+1)))=dis (ls.map λl=>(((l++[dF (0,1)]).length:Nat):Int)):=by
   rw[eG,gz];show Dv.lst _=Dv.lst (List.map _ (List.map _ _));rw[gz];congr 1;refine List.map_congr_left λl _=>?_
   show di ((l.length:Int)+1)=di (((l++[dF (0,1)]).length:Nat):Int);rw[vc];rfl
  refine aaq (b:=true) (ρ:=[some (.fz (.lst (ls.map λl=>.lst (l++[dF (0,1)])))),some (.fz (dis (ls.map λl=>((l.length:Nat):Int)))),none]) (Ev.to (yU (fO (own:=["_law_one"]) (fr:=[]) ls (λl=>.lst (l++[dF (0,1)])) (λl=>ti (((l++[dF (0,1)]).length:Nat):Int)) (λi=>cg) (cm (ae 0 rfl) rfl) (bp 0 (λ_=>bH)) 'Q' 'O' (λp hp=>⟨_,rfl,by exact bV T.bS (ae 0 rfl) (.inl rfl)⟩) (λdd=>by cases dd<;>rfl))
   (fO (own:=["_law_size"]) (fr:=[]) (ls.map λl=>((l.length:Nat):Int)) di (λn=>ti (n+1)) (λi=>cg) (cm (ae 1 rfl) rfl) (bp 0 (λ_=>bH)) 'Q' (by rw[aa];lia) (λn hn=>⟨_,rfl,by exact eI (ae 0 rfl) ak⟩) (λdd=>by cases dd<;>rfl)) (.inl ⟨_,_,e3,e4⟩) (by rw[e3];exact Cn (jI _) 'Q')) (by rw[e3,e4,ur (Dk _)])) (aj.refl Hc) (λj d hj=>?_) λG' H' st=>kv H' λc o hc ho=>st.h _ _ (md c o (λz=>hc (.tail _ z)) (s1.h _ _ ho))
  match j,hj with
  |0,hj=>
   cases hj
   refine⟨_,rfl,rows (λl=>l++[dF (0,1)]) (λi a hi=>?_) (md l _ tE.1 tU)⟩;obtain⟨l',us,h1,h3,h2⟩:_:=hr i a hi;rw[uu (by rw[aa];exact(gr.mp hi).1)]at h2;obtain⟨t,z1,z2,_⟩:_:=h2;exact⟨l',_,h1,z1,aG.zY (h3.mono sg) ⟨_,_,rfl,⟨t,_,rfl,cO.of z2,_,_,rfl,⟨rfl,rfl⟩,_,_,rfl,⟨rfl,rfl⟩,rfl⟩,rfl⟩⟩
  |1,hj=>cases hj;exact⟨_,rfl,q,_,rfl,aK.of (md q _ qf hq),ke⟩
  |2,hj=>cases hj
  |n+3,hj=>cases hj
end
section
theorem abz (h : 0<W):(c,(1:Int))=fW W (c*W):=by
 rw[<- rN (t:=c) (b:=1) h 'Q' 'O',FC]
abbrev A7:afW:=top 54
abbrev nAr:List Str:=["_law_found", "_law_counts_here", "_law_askers", "_law_row", "_law_thing"]
theorem A5:aZ nAr ["_law_found", "_law_counts_here", "_law_askers"] (aA A7):=sk
def QD:bI:=λdd t=>∃(c:LI) (os:LL) (W:Int) (S:Nat->LI),iI c os W S/\dd=[cD W os.length S,dis c,di os.length]/\t=tb true
theorem TZ (F:bK K "_law_are_shares" A7 f fd)(T:Txt mg)(U5:bj P w K mg base (k+4) "_law_is_row" f1 cL ["_law_row", "_law_many"] OC)(rF:bj P w K mg base k "_law_under" f2 fd2 ["_law_one", "_law_other"] zp)(By:bj P w K mg base (k+3) "_law_column" f3 qZ ["_law_shares", "_law_one"] vg):bL P w K mg base (k+5) f fd ["_law_found", "_law_counts_here", "_law_askers"] QD:=by
 refine bR F.d A5 'H' λdd t h=>?_
 obtain⟨c,os,W,S,sh,rfl,rfl⟩:_:=h;have c6:=sh.ok.c6;have o6:=sh.ok.o6;refine ax (dq (Et.s (Ew.et (jh (ko (fN (pH T.oX T.ic uD (ae 0 rfl) (by with_unfolding_all rfl)))) λ_=>(lA (vm (bV T.bS (ae 0 rfl) (.inl rfl)) (ae 2 rfl)))))) ?_) ?_
 ·simp_all
 refine uq (t:=tb false) (bb.s (cm (ae 0 rfl) rfl)) (bp 3 (λ_=>A5.nd)) rfl (λ_=>true) (λd hd=>?_) (λ_=>?_) (λh=>?_)
 ·obtain⟨a,ha,rfl⟩:=i8.mp hd;have ha:=l9.mp ha;exact⟨_,rfl,λ_=>⟨_,az (dq (Et.s (ko (fN (aW U5 (br _) (ah (ae 3 rfl) (ah (bV T.bS (ae 1 rfl) (.inl rfl)) ao)) ⟨W,c.length,S a,c6,sh.b9 a ha,sh.sum a ha,by rw[aa];rfl,rfl⟩)))) rfl),[3],rfl⟩,λh=>by cases h⟩
 ·refine uq (t:=tb false) (bb.s (fM T.dW (bV T.bS (ae 1 rfl) (.inl rfl)) (by rw[aa];lia))) (bp 4 (λ_=>A5.nd)) rfl (λ_=>true) (λd hd=>?_) (λ_=>az (cA (Ev.s vk))) (λh=>?_)
  ·obtain⟨x,hx,rfl⟩:=i8.mp hd;have hx:=l9.mp hx;rw[aa,BS]at hx;have cx:c[x]?=some (c.getD x 0):='J'
   have cb:=sh.ok.cnt _ (ba cx);have cat:aP (c.map di) (x)=some (di (c.getD x 0)):=dh 'J';have col:=sh.col x hx;have ec:gO os.length S (x)=ag.sg os.length (λa=>(S a).getD x 0):=by
    rfl
   have SV:=Mw sh.w0 sh.b9 o6 (x);have bnd:c.getD x 0*W<=200*W:=Lm 'O' (Sk sh.w0);rw[adS];refine⟨_,rfl,λ_=>⟨_,az (dq (Et.s (fN (aW rF (by show k+1<=k+5;lia) (ah (kj (ah (bz (ae 1 rfl) (ae 4 rfl) rfl cat) (ah ak ao)) rfl (by show 2<=sizeLine;decide)) (ah (aW By (by show k+4<=k+5;lia) (ah (ae 0 rfl) (ah (ae 4 rfl) ao)) ⟨W,c.length,os.length,S,(x),sh.w0,sh.w1,sh.b9,o6,'O','O',rfl,rfl⟩) ao)) ⟨fW W (c.getD x 0*W),fW W (gO os.length S (x)),pT sh.w0 sh.w1 (adO cb.1 (Sk sh.w0)) bnd,pT sh.w0 sh.w1 SV.1 SV.2,by rw[<- abz sh.w0];rfl,rfl⟩))) ?_),[4],rfl⟩,λh=>by cases h⟩;rw[yp sh.w0]
   grind
  ·simp_all
 ·simp_all
theorem yV (h : 0<W)(e:fW W s=fW W t):s=t:=by
 have c1:=i6 (s:=s) h;have c2:=i6 (s:=t) h;have p:=gj (s:=t) h
 grind [Int.eq_of_mul_eq_mul_right]
theorem C5 {α:Type}(f : α->Dv)(inj:∀a b,bZ (f a) (f b)=true->a=b):∀l l':List α,gK (l.map f) (l'.map f)=true->l=l'
 |[],[] => λ_=>rfl
 |[],_::_=>λh=>by cases h
 |_::_,[] => λh=>by cases h
 |a::l,b::l'=>λh=>by
  have h:(bZ (f a) (f b)&&gK (l.map f) (l'.map f))=true:=h;rw[ID]at h;rw[inj a b h.1,C5 f inj l l' h.2]
theorem abA (w0 : 0<W)(h:bZ (cD W A S) (cD W A S')=true):∀a,a<A->S a=S' a:=by
 have e:=C5 (dr W) (λr r' h=>by
  have:=C5 dF (λp q h=>by grind [Ez]) _ _ h
  grind [List.map_inj_right,yV]) ((List.range A).map S) ((List.range A).map S') (by
   rw[gz,gz];exact h)
 simp_all
abbrev BC:afW:=top 58
abbrev nLB:List Str:=["_law_counts_here", "_law_orders_here", "_law_found", "_law_shares", "_law_asker", "_law_mine"]
theorem Bk:aZ nLB ["_law_counts_here", "_law_orders_here", "_law_found", "_law_shares"] (aA BC):=sk
def PK:bI:=λdd t=>∃(c:LI) (os:LL) (W:Int) (S S':Nat->LI),iI c os W S/\iI c os W S'/\¬(∀a,a<os.length->S' a=S a)/\(∀a,a<os.length->∀k,bX (S a) (aN c.length (os.getD a [])) k<=bX (S' a) (aN c.length (os.getD a [])) k)/\dd=[dis c,.lst (os.map dis),cD W os.length S',cD W os.length S]/\t=tb true
theorem aar (W:Int)(r:LI):iD (dr W r)=true:=Dl NV _
theorem aas (W:Int)(r:LI):dH (dr W r)<=2:=uH λd hd=>by
 grind [vf]
theorem ER (W:Int)(A:Nat)(S:Nat->LI):dH (cD W A S)<=50:=Cn (uH λd hd=>by
 obtain⟨a,_,rfl⟩:=i8.mp hd;exact aas W (S a)) 'Q'
theorem UA (F:bK K "_law_better" BC f fd)(T:Txt mg)(T2:bj P w K mg base (k+5) "_law_are_shares" f1 cL ["_law_found", "_law_counts_here", "_law_askers"] QD)(xU:bj P w K mg base (k+3) "_law_sums" f2 fd2 ["_law_counts_here", "_law_order_here", "_law_row"] EL)(UB:bj P w K mg base (k+1) "_law_no_less" f3 qZ ["_law_mine", "_law_theirs"] Mx):bL P w K mg base (k+6) f fd ["_law_counts_here", "_law_orders_here", "_law_found", "_law_shares"] PK:=by
 refine bR F.d Bk 'H' λdd t h=>?_
 obtain⟨c,os,W,S,S',sh,IH,ne,le,rfl,rfl⟩:_:=h;have c6:=sh.ok.c6;have o6:=sh.ok.o6;refine ax (dq (Et.s (Ew.et (jh (ko (fN (aW T2 (br _) (ah (ae 2 rfl) (ah (ae 0 rfl) (ah (bV T.bS (ae 1 rfl) (.inl rfl)) ao))) ⟨c,os,W,S',IH,by rw[aa];rfl,rfl⟩))) λ_=>(lA (yT (ae 2 rfl) (ae 3 rfl) (.inl ⟨_,_,rfl,rfl⟩) (ER W os.length S')))))) ?_) ?_
 ·show(!true||bZ (cD W os.length S') (cD W os.length S))=false;cases e:bZ (cD W os.length S') (cD W os.length S)with
  |false=>rfl
  |true=>exact absurd (abA sh.w0 e) ne
 refine uq (t:=tb false) (bb.s (fM T.dW (bV T.bS (ae 1 rfl) (.inl rfl)) (by rw[aa];lia))) (bp 4 (λ_=>Bk.nd)) rfl (λ_=>true) (λd hd=>?_) (λ_=>az (cA (Ev.s vk))) (λh=>?_)
 ·obtain⟨a,ha,rfl⟩:_:=i8.mp hd;have ha:=l9.mp ha;rw[aa,BS]at ha;have oa:os[a]?=some (os.getD a []):='J'
  have om:=ba oa;have xJ:aP (os.map dis) (a)=some (dis (os.getD a [])):=dh 'J';have sat:∀S:Nat->LI,aP ((List.range os.length).map λa=>dr W (S a)) (a)=some (dr W (S a)):=λS=>dh 'J'
  have ol:=sh.ok.gN om;have ll:=le a ha;generalize os.getD a []=o at oa om xJ ol ll;have fl:=(mU c6 (sh.ok.nd o om) (sh.ok.bT o om)).1;rw[adS];refine⟨_,rfl,λ_=>⟨_,ax (aV 5 (Ev.s (Ev.as (aW xU (by show k+4<=k+6;lia) (ah (ae 0 rfl) (ah (bz (ae 1 rfl) (ae 4 rfl) rfl xJ) (ah (bz (ae 2 rfl) (ae 4 rfl) rfl (sat S')) ao))) ⟨c,o,W,S' a,c6,ol,sh.ok.bT o om,IH.b9 a ha,rfl,rfl⟩) (DP _ _ _ _))) (λ_=>Bk.nd)) (az (dq (Et.s (ko (fN (aW UB (by show k+2<=k+6;lia) (ah (ae 5 rfl) (ah (aW xU (by show k+4<=k+6;lia) (ah (ae 0 rfl) (ah (bz (ae 1 rfl) (ae 4 rfl) rfl xJ) (ah (bz (ae 3 rfl) (ae 4 rfl) rfl (sat S)) ao))) ⟨c,o,W,S a,c6,ol,sh.ok.bT o om,sh.b9 a ha,rfl,rfl⟩) ao)) ⟨W,c.length,S' a,S a,aN c.length o,'O',IH.b9 a ha,sh.b9 a ha,?_,rfl⟩)))) ?_)),[4,5],rfl⟩,λh=>by cases h⟩
  ·rw[KH.mpr λk _=>ll (k+1)];rfl
  ·show[_,er (.ow _)]=_;rw[DP];rfl
 ·simp_all
end
section
theorem abB (cl:∀j:Nat,j<c.length->gO A S (j:Int)<=c.getD j 0*W)(t0 : 0<=t.2.1)(t1:t.2.1<=c.length):j7 W c A S t = !(nH W c A S).contains t.2.1:=by
 have hc:(nH W c A S).contains t.2.1=decide (t.2.1.toNat<c.length/\gO A S t.2.1=c.getD t.2.1.toNat 0*W):=by
  rw[ae9,Mc,decide_eq_true_iff];unfold nH;rw[i8]
  constructor
  ·rintro⟨j,hj,e⟩;obtain⟨h1,h2⟩:=BY.mp hj;have h2:=GS h2;rw[<- e,BS];exact⟨l9.mp h1,h2⟩
  ·rintro⟨h1,h2⟩;refine⟨t.2.1.toNat,BY.mpr ⟨l9.mpr h1,?_⟩,'Z'⟩;rw[show((t.2.1.toNat))=t.2.1 by omega];exact EO h2
 rw[hc];unfold j7;by_cases h:t.2.1=(c.length)
 ·rw[EO h,LG (show ¬(t.2.1.toNat<c.length/\_)from λz=>by have:=z.1;omega)];rfl
 ·have:=cl t.2.1.toNat 'Z';rw[show((t.2.1.toNat))=t.2.1 by omega]at this;rw[LG h,Bool.false_or];by_cases e:gO A S t.2.1=c.getD t.2.1.toNat 0*W
  ·rw[EO (show t.2.1.toNat<c.length/\_ from⟨'Z',e⟩),LG 'Z'];rfl
  ·rw[LG (show ¬(t.2.1.toNat<c.length/\_)from λz=>e z.2),EO 'Z'];rfl
theorem aau {os:LL}(ok:dX c os)(cl:∀j,j<c.length->gO os.length S (j:Int)<=c.getD j 0*W):(oR W c os S).Perm ((bN c.length os S os.length).filter (j7 W c os.length S)):=by
 have p:=(uO c.length os S).filter (j7 W c os.length S);refine(aeD ?_).trans p;exact afD λt ht=>by
  have hi:=sY ok ((uO _ _ _).mem_iff.mp ht);exact(abB cl hi.1 hi.2.1).symm
theorem aav {os:LL}(ok:dX c os)(h:dD (cP c os S) (c.length+1)=[]):(jD (cP c os S) (c.length+1)).Perm (aB (c.length+1))/\∀t∈bN c.length os S os.length,ra (jD (cP c os S) (c.length+1)) t.2.1 t.2.2:=by
 obtain⟨h1,h2⟩:=abl h;refine⟨h1,λt ht=>?_⟩;have hi:=sY ok ht;have c6:=ok.c6;have mp:(t.2.1.toNat,t.2.2.toNat)∈cP c os S:=BY.mpr ⟨Kp.mpr ⟨'O','O'⟩,Mc.mpr (i8.mpr ⟨t,ht,rfl⟩)⟩
 grind [aB]
def A0 (ts:List (Int×Int×Int))(l:LI):LI:=l.filter λx=>!(ts.filter λt=>decide (t.2.2=x)&&l.contains t.2.1).isEmpty
def iJ (ts:List (Int×Int×Int)):Nat->LI->LI
 |0,l=>l
 |n+1,l=>A0 ts (iJ ts n l)
theorem EV:x∈A0 ts l↔x∈l/\∃t∈ts,t.2.2=x/\t.2.1∈l:=by
 unfold A0
 simp_all
theorem OG:∀n,x∈iJ ts n l->x∈l
 |0=>λh=>h
 |n+1=>λh=>OG n (EV.mp h).1
theorem OH:∀n,(iJ ts n l).length<=l.length
 |0=>br _
 |n+1=>Cn (Pe _ _) (OH n)
theorem abC {os:LL}(ok:dX c os):iJ (bN c.length os S os.length) (c.length+1) (aB (c.length+1))=[]↔dD (cP c os S) (c.length+1)=[]:=by
 constructor
 ·intro h;have inv:∀n x,x∈dD (cP c os S) (c.length+1)->x∈iJ (bN c.length os S os.length) n (aB (c.length+1)):=λn=>by
   induction n with
   |zero=>exact λx hx=>(BY.mp hx).1
   |succ n ih=>
    intro x hx;obtain⟨p,h1,h2,rfl⟩:=DG hx;obtain⟨t,ht,rfl⟩:=EA h1;have hi:=sY ok ht;have e1:(((t.2.1.toNat,t.2.2.toNat).1))=t.2.1:='O'
    have e2:(((t.2.1.toNat,t.2.2.toNat).2))=t.2.2:='O'
    rw[e2]at hx ⊢;rw[e1]at h2;exact EV.mpr ⟨ih _ hx,t,ht,rfl,ih _ h2⟩
  cases e:dD (cP c os S) (c.length+1)with
  |nil=>rfl
  |cons x r=>
   have:=inv (c.length+1) x 'J'
   simp_all
 ·intro h;obtain⟨pm,bf⟩:=aav ok h;have nd:=pm.nodup_iff.mpr (xW _);have inv:∀n x,x∈iJ (bN c.length os S os.length) n (aB (c.length+1))->n<=(jD (cP c os S) (c.length+1)).idxOf x:=λn=>by
   induction n with
   |zero=>exact λx _=>zd _
   |succ n ih=>
    intro x hx;obtain⟨_,t,ht,rfl,h2⟩:=EV.mp hx
    grind [Z6]
  cases e:iJ (bN c.length os S os.length) (c.length+1) (aB (c.length+1))with
  |nil=>rfl
  |cons x r=>
   exfalso;have hx:x∈iJ (bN c.length os S os.length) (c.length+1) (aB (c.length+1)):='J'
   have h1:=inv _ x hx;have h2:=LM.mpr (pm.mem_iff.mpr (OG _ hx));have h3:=pm.length_eq
   grind [jG]
abbrev nNR:List Str:=["_law_many", "_law_wishes_here", "_law_left_here", "_law_turn"]
abbrev Bl:afW:=top 57
theorem xN:aZ nNR ["_law_many", "_law_wishes_here"] (aA Bl):=sk
def QE:bI:=λdd t=>∃(n:Nat) (ts:List (Int×Int×Int)),n<=6/\ts.length<=126/\dd=[di n,fK ts]/\t=tb (iJ ts (n+1) (aB (n+1))).isEmpty
theorem Mz (l:LI):bZ (dis l) (.lst [])=l.isEmpty:=by cases l<;>rfl
theorem Ui (F:bK K "_law_no_ring" Bl f fd)(T:Txt mg):bL P w K mg base k f fd ["_law_many", "_law_wishes_here"] QE:=by
 refine bR F.d xN 'H' λdd t h=>?_
 obtain⟨n,ts,n6,tl,rfl,rfl⟩:=h;have big:=cw;refine ax (aV 2 (Ev.s (Ev.as (d:=dis (aB (n+1))) (xT T.ic T.dW (eI (ae 0 rfl) ak) 'O' 'O') ?_)) (λ_=>xN.nd)) ?_
 ·exact bP _
 refine ax (dQ (bb.s (fM T.dW (eI (ae 0 rfl) ak) 'O')) (bp 3 (λ_=>xN.nd)) (λj=>[some (ti n),some (.fz (fK ts)),some (.fz (dis (iJ ts j (aB (n+1))))),none]) rfl (λ_=>rfl) (λj d hd=>?_)) ?_
 ·have ln:=OH (ts:=ts) (l:=aB (n+1)) j;rw[jG]at ln;have e1:iJ ts (j+1) (aB (n+1))=A0 ts (iJ ts j (aB (n+1))):=rfl;rw[e1];generalize iJ ts j (aB (n+1))=L at ln;have e5:∀l:List (Int×Int×Int),er (.ow (l.map λ_=>ti 1))=dis (l.map λ_=>1):=λl=>pI l λ_=>1
  have hd5:∀l:List (Int×Int×Int),dH (er (.ow (l.map λ_=>ti 1)))<=50:=λl=>by rw[e5];exact Cn (jI _) 'Q'
  have hv5:∀l:List (Int×Int×Int),(!bZ (er (.ow (l.map λ_=>ti 1))) (er (.ow []))) = !l.isEmpty:=λl=>by
   rw[e5];show(!bZ (dis _) (.lst []))=_;rw[Mz,afO]
  refine⟨_,_,rfl,az (aV 2 (Ev.s (Ev.as (oi (own:=["_law_one"]) (fr:=[1,2]) L di (λx=>!(ts.filter λt=>decide (t.2.2=x)&&L.contains t.2.1).isEmpty) ti (λi=>Ge ⟨rfl,rfl,'W','W','W','W'⟩) (cm (ae 2 rfl) rfl) (bp 0 (λ_=>bH)) 'Q' 'O' (λx hx=>⟨_,rfl,by exact hZ (Et.to (iM (oi (own:=["_law_asker", "_law_better_here", "_law_other"]) (fr:=[0,2]) ts (λt=>dT (l3 t)) (λt=>decide (t.2.2=x)&&L.contains t.2.1) (λ_=>ti 1) (λi=>vv ["_law_one", "_law_wishes_here", "_law_left_here"] ⟨rfl,'W','W','W','W'⟩ λy hy=>k7 _ _ y hy) (cm (ae 1 rfl) rfl) (uX 0 1 2 (λ_=>bH)) 'Q' 'O' (λt ht=>⟨_,rfl,hZ (Ew.et (oe (gI (ae 2 rfl) (ae 3 rfl)) λ_=>(nS (zx (ae 1 rfl) (ae 4 rfl) rfl (by with_unfolding_all rfl))))),λ_=>ak⟩) (λdd=>by obtain _|⟨a,_|⟨b,_|⟨c,r⟩⟩⟩:=dd<;>rfl)) (cu ao (zd _)) (.inl ⟨_,_,rfl,rfl⟩) (hd5 _)) (hv5 _)),λ_=>ae 0 rfl⟩) (λdd=>by cases dd<;>rfl)) (bP _))) (λ_=>xN.nd)),[3],rfl⟩
 ·rw[aa,xy,show((n:Int)+1).toNat=n+1 by lia];refine az (cA (Ev.s (Ev.to (yU (ae 2 rfl) (cu ao (zd _)) (.inl ⟨_,_,rfl,rfl⟩) (Cn (jI _) 'Q')) ?_)));show tb (bZ (dis _) (.lst []))=_;rw[Mz]
end
section
theorem YG (W:Int)(aM:LI):er (jk W aM)=dr W aM:=by
 unfold jk dr;rw[eG,gz];rfl
theorem MA {os:LL}(ok:dX c os)(ha:a<os.length):∀cells,(dN cells c os (0+(a:Int))).sum=cC cells
 |[] => by
  have:∀l:LI,(l.map (gX [] c os (0+(a)))).sum=0:=λl=>by
   induction l with
   |nil=>rfl
   |cons x l ih=>rw[JJ,Na,ih];rfl
  exact this _
 |y::cells=>by
  have ih:=MA ok ha cells;obtain⟨dl,db⟩:=DF ok.bT y;have hd:(de c os y).getD (0+(a:Int)).toNat 0∈de c os y:=by
   simp_all
  have hb:=db _ hd;unfold dN;have e1:∀x,gX (y::cells) c os (0+(a)) x=(if(de c os y).getD (0+(a:Int)).toNat 0=x then wF y else 0)+gX cells c os (0+(a:Int)) x:=λx=>by
   unfold gX
   grind
  rw[List.map_congr_left λx _=>e1 x,sum_add];congr 1;generalize (de c os y).getD (0+(a:Int)).toNat 0=v at hb;have:=ag.pK (c.length+1) v.toNat (wF y);rw[uu 'O']at this;refine Eq.trans ?_ this;unfold aB ag.sg;rw[gz];refine congrArg List.sum (List.map_congr_left λi _=>?_)
  grind
theorem abD {F:aU ι}(j:Nat)(hR:R [t] true)(h : ρ[j]?=some (some t))(hps:∀i,PS (F.cx i) st (zP (FQ (tB (sL (HA F.K R) [] E0 (dR (dG j) d8)))) tA zt)):Rn F st ρ (.nx (ρ.set j none)):=by
 refine⟨_,hps,λD σ G0 H0 G H r kk=>?_⟩;obtain⟨fp,r⟩:=r;obtain⟨v,f1,fr,z1,z2,z3,z4⟩:_:=r.own.split h;have fH:=AN.mp (z4.nodup_iff.mp r.d);have oO:∀a∈f1,a∈fp:=λa ha=>z4.mem_iff.mpr (xw _ ha)
 have Hi:∀a∈fr,a∈fp:=λa ha=>z4.mem_iff.mpr (i4 _ ha)
 refine⟨v,z1,G,[t],f1,true,r.st.s,⟨v,[],f1,[],rfl,(zw f1).symm,z2,rfl,rfl⟩,λa ha=>r.g a (oO a ha),fH.1,hR,λH' m=>?_⟩;refine⟨true,rfl,?_⟩;exact kk σ G H' ⟨fr,⟨r.st.g,λc o ho=>m c o (λz=>by rw[r.n c (oO c z)]at ho;cases ho) (r.st.h c o ho),λc o ho=>m c o (λz=>by rw[r.g c (oO c z)]at ho;cases ho) (r.st.s c o ho),r.st.n⟩,z3.agree λa ha=>by
  obtain⟨o,ho⟩:=z3.there a ha;rw[m a o (λz=>fH.2.2 a z a ha rfl) ho,ho],λa ha=>r.g a (Hi a ha),λa ha=>r.n a (Hi a ha),fH.2.1⟩
abbrev SW:List Str:=["_law_script", "_law_counts_here", "_law_orders_here", "_law_cells", "_law_shares", "_law_table", "_law_wishes_here", "_law_good", "_law_handed", "_law_turn", "_law_found"]
abbrev ou:afW:=top 60
theorem jN:aZ SW ["_law_script"] (aA ou):=sk
theorem abE (F:bK K "law" ou f fd)(T:Txt mg)(rB:bj P w K mg base k "_law_cell_at" f1 cL ["_law_script", "_law_k"] FD)(U6:bj P w K mg base (k+3) "_law_tabled" f2 fd2 ["_law_script"] L0)(Vv:bj P w K mg base (k+2) "_law_drawn" f3 qZ ["_law_cells", "_law_counts_here", "_law_orders_here"] NY)(Wt:bj P w K mg base (k+1) "table_of" f4 fd4 ["counts", "orders"] Qm)(U7:bj P w K mg base (k+1) "_law_wishes" f5 fd5 ["_law_counts_here", "_law_orders_here", "_law_shares"] OA)(VS:bj P w K mg base (k+4) "_law_left" f6 fd6 ["_law_counts_here", "_law_shares", "_law_wishes_here"] PH)(UC:bj P w K mg base k "_law_no_ring" f7 fd7 ["_law_many", "_law_wishes_here"] QE)(Jv:bj P w K mg base (k+7) "bettered" f8 fd8 ["table", "shares"] QB)(U8:bj P w K mg base (k+6) "_law_better" f9 fd9 ["_law_counts_here", "_law_orders_here", "_law_found", "_law_shares"] PK)(Vw:Kn P w K mg base bx (k+1) "_law_alone" f10 adI ["_law_lists"] (HA K GD)):bL P w K mg base (k+8) f fd ["_law_script"] Qe:=by
 refine bR F.d jN 'H' λdd t h=>?_
 obtain⟨ns,kL,rfl,rfl⟩:=h;have big:=cw;have r1:k+1<=k+8:='O'
 have r2:k+2<=k+8:='O'
 have r3:k+3<=k+8:='O'
 have r4:k+4<=k+8:='O'
 have r5:k+5<=k+8:='O'
 have r7:k+7<=k+8:='O'
 have ok:=Xc ns;refine ax (Y2 (Ev.s (aW U6 r4 (ah (ae 0 rfl) ao) ⟨ns,rfl,rfl⟩)) (iO 1 2 (λ_=>jN.nd)) rfl) ?_;generalize vR ns=cs at ok;generalize Ab ns=os at ok;have o6:=ok.o6;have o1:=ok.o1;have c6:=ok.c6;show bE _ _ [some (.fz (dis ns)),some (.fz (dis cs)),some (.fz (.lst (os.map dis))),none,none,none,none,none,none,none,none] _;have e28:er (.ow ((cutD (ns.map di) (some 9) (some 15)).map .fz))=dis (cutD ns (some 9) (some 15)):=by rw[mM,yg]
 have c28:(cutD ns (some 9) (some 15)).length<=6:=by
  have:=XQ ns 9 15
  grind
 refine ax (aV 3 (Ev.s (Ev.as (d:=dis (cutD ns (some 9) (some 15))) (ye (ae 0 rfl) rfl (uF ak) (uF ak)) e28)) (λ_=>jN.nd)) ?_;generalize cutD ns (some 9) (some 15)=oU at c28;have QF:dH (er (.fz (dis oU)))<=50:=Cn (jI oU) 'Q';obtain⟨cells,c1,c6',abF⟩:∃cells:LI,1<=cells.length/\cells.length<=6/\Rn (iR P w K mg base SW "law" (aA ou) f (k+8)) ((dw ou).getD 2 (.Pass ⟨0,0,0,0⟩)) [some (.fz (dis ns)),some (.fz (dis cs)),some (.fz (.lst (os.map dis))),some (.fz (dis oU)),none,none,none,none,none,none,none] (.nx [some (.fz (dis ns)),some (.fz (dis cs)),some (.fz (.lst (os.map dis))),some (.fz (dis cells)),none,none,none,none,none,none,none]):=by
  cases hq:oU.isEmpty with
  |true=>
   refine⟨[eY ns 8],br _,by show 1<=6;decide,jL (Et.s (yT (ae 3 rfl) (cu ao (zd _)) (.inl ⟨_,_,rfl,rfl⟩) QF)) ?_ (az (aV 3 (Ev.s (Ev.as (d:=dis [eY ns 8]) (cu (ah (aW rB r1 (ah (ae 0 rfl) (ah ak ao)) ⟨ns,8,'Q',rfl,rfl⟩) ao) (by show 1<=sizeLine;decide)) rfl)) (λ_=>jN.nd)))⟩;show bZ (.lst (oU.map di)) (.lst [])=true;rw[eq_nil,hq]
  |false=>
   refine⟨oU,?_,'O',dq (Et.s (yT (ae 3 rfl) (cu ao (zd _)) (.inl ⟨_,_,rfl,rfl⟩) QF)) ?_⟩
   ·cases oU with
    |nil=>cases hq
    |cons _ _=>rw[IF];lia
   ·show bZ (.lst (oU.map di)) (.lst [])=false;rw[eq_nil,hq]
 refine ax abF ?_;obtain⟨W,eW⟩:∃W,cC cells=W:=⟨_,rfl⟩
 obtain⟨S,hS⟩:∃S:Nat->LI,S=λa:Nat=>dN cells cs os (0+(a:Int)):=⟨_,rfl⟩
 have b9:∀a,a<os.length->fD W cs.length (S a):=λa _=>by
  rw[hS,<- eW];exact abi c1 'O'
 have w0 : 0<W:=by rw[<- eW];exact CU c1
 have w1:W<2^70:=by
  have:=(uM cells).2;rw[eW]at this;have:(cells.length:Int)*10^9<=6*10^9:=Lm 'O' 'Q';lia
 have cl:∀j:Nat,j<cs.length->gO os.length S (j:Int)<=cs.getD j 0*W:=λj hj=>by
  have:=Oe ok hj cells;rw[<- eW,hS];refine Int.le_trans (Int.le_of_eq ?_) this;unfold gO;congr 1;exact List.map_congr_left λa _=>Z9 'O'
 have adq:er (.ow ((aB os.length).map λa=>jk (cC cells) (dN cells cs os a)))=.lst ((List.range os.length).map λa=>dr W (S a)):=by
  rw[eG,eW,hS];unfold aB;rw[gz];congr 1;exact List.map_congr_left λa _=>YG _ _
 refine ax (aV 4 (Ev.s (Ev.as (d:=.lst ((List.range os.length).map λa=>dr W (S a))) (aW Vv r3 (ah (ae 3 rfl) (ah (ae 1 rfl) (ah (ae 2 rfl) ao))) ⟨cells,cs,os,c1,'O',ok,rfl,rfl⟩) adq)) (λ_=>jN.nd)) ?_;have ads:er (.tp [aE cs,ji os])=gn cs os:=by
  show Dv.tup [er _,er _]=_;rw[bP,nP];rfl
 refine ax (aV 5 (Ev.s (Ev.as (d:=gn cs os) (aW Wt r2 (ah (nT T.ic (ae 1 rfl) (.inl rfl)) (ah (fO (own:=["_law_order_here"]) (fr:=[]) os dis aE (λi=>cg) (cm (ae 2 rfl) rfl) (bp 0 (λ_=>bH)) 'Q' 'O' (λo ho=>⟨_,rfl,by exact Ev.to (nT T.ic (ae 0 rfl) (.inl rfl)) (by rw[nV])⟩) (λdd=>by cases dd<;>rfl)) ao)) ⟨cs,os,ok,?_,rfl⟩) ads)) (λ_=>jN.nd)) ?_
 rotate_left
 ·show[er (.ow _),er (.ow _)]=_;rw[mM,show er (Tr.ow (os.map aE))=.lst (os.map dis)from nP os]
 refine ax (aV 6 (Ev.s (aW U7 r2 (ah (ae 1 rfl) (ah (ae 2 rfl) (ah (ae 4 rfl) ao))) ⟨cs,os,W,S,ok,w0,b9,rfl,rfl⟩)) (λ_=>jN.nd)) ?_;have sh:iI cs os W S:=⟨ok,w0,w1,b9,λa ha=>by rw[hS,<- eW];exact MA ok ha cells,λx hx=>by
  have:=cl x hx;unfold gO cz at this;rw[BS]at this;exact this⟩
 have fl:∀o∈os,(aN cs.length o).length<=7:=λo ho=>(mU c6 (ok.nd o ho) (ok.bT o ho)).1
 have wl:=pA S fl os.length (br _);have wl:(bN cs.length os S os.length).length<=126:='O'
 have eW2:∀l:List (Int×Int×Int),bZ (er (tW l)) (.lst [])=l.isEmpty:=λl=>by cases l<;>rfl
 have AO:∀l:List (Int×Int×Int),dH (er (tW l))<=50:=λl=>by
  rw[zb];exact Cn (uH (n:=1) λd hd=>by
   obtain⟨t,_,rfl⟩:=i8.mp hd;exact NF _) 'Q'
 have eg:(((bN cs.length os S os.length).filter (j7 W cs os.length S)).isEmpty&&(iJ (bN cs.length os S os.length) (cs.length+1) (aB (cs.length+1))).isEmpty)=decide (Gd cs os W S):=by
  rw[ae9,ID,afM,afM,decide_eq_true_iff,abC ok];refine and_congr_left λ_=>?_
  have p:=aau ok cl;exact⟨λz=>by rw[z]at p;exact p.eq_nil,λz=>by rw[z]at p;exact p.symm.eq_nil⟩
 refine ax (aV 7 (Ev.s (Ev.to (D3 (p:=((bN cs.length os S os.length).filter (j7 W cs os.length S)).isEmpty) (q:=(iJ (bN cs.length os S os.length) (cs.length+1) (aB (cs.length+1))).isEmpty) (Ev.to (yU (tb':=.ow []) (aW VS r5 (ah (ae 1 rfl) (ah (ae 4 rfl) (ah (ae 6 rfl) ao))) ⟨cs,W,os.length,S,bN cs.length os S os.length,c6,ok.cnt,w0,w1,b9,o6,wl,λt ht=>⟨(sY ok ht).1,(sY ok ht).2.1⟩,rfl,rfl⟩) (cu ao (zd _)) (.inl ⟨_,_,zb _,rfl⟩) (AO _)) (by rw[<- eW2];rfl)) λ_=>(uW (aW UC r1 (ah (bV T.bS (ae 1 rfl) (.inl rfl)) (ah (ae 6 rfl) ao)) ⟨cs.length,bN cs.length os S os.length,c6,wl,by rw[aa];rfl,rfl⟩))) (by rw[eg]))) (λ_=>jN.nd)) ?_;have acm:er (.ow ((List.range os.length).map λa=>Tr.ow ((((S a).map (fW W)).map dF).map .fz)))=.lst ((List.range os.length).map λa=>dr W (S a)):=by
  rw[eG];congr 1;exact List.map_congr_left λa _=>mM _
 refine ax (so 8 (vP (gD.as (d:=.lst ((List.range os.length).map λa=>dr W (S a))) (zX (own:=["_law_row"]) (fr:=[]) (List.range os.length) (λa=>dr W (S a)) (λa=>Tr.ow ((((S a).map (fW W)).map dF).map .fz)) (cm (ae 4 rfl) rfl) (bp 0 (λ_=>bH)) 'Q' (by rw[xy];lia) (λa ha=>⟨_,rfl,by exact nT T.ic (ae 0 rfl) (.inl rfl)⟩) (λdd=>by cases dd<;>rfl)) acm)) (λi=>cg) (λ_=>jN.nd)) ?_;have okS:iD (cD W os.length S)=true:=Dl (λa=>aar W (S a)) _;refine ax (dQ (bb.s (fM T.dW ak 'Q')) (bp 9 (λ_=>jN.nd)) (λ_=>[some (.fz (dis ns)),some (.fz (dis cs)),some (.fz (.lst (os.map dis))),some (.fz (dis cells)),some (.fz (cD W os.length S)),some (.fz (gn cs os)),some (.fz (fK (bN cs.length os S os.length))),some (tb (decide (Gd cs os W S))),some (.fz (cD W os.length S)),none,none]) rfl (λ_=>rfl) (λj d hd=>?_)) (az (cA (Ev.s vk)));have tO:(!bZ (cD W os.length S) (cD W os.length S)||!bZ (gn cs os) (gn cs os))=false:=by rw[ur okS,ur (Y5 _ _)];rfl
 by_cases gd:Gd cs os W S
 ·exact⟨_,_,rfl,ax (aV 10 (Ev.s (Ev.to (t':=tn) (aW Jv (br _) (ah (ae 5 rfl) (ah (ae 8 rfl) ao)) ⟨cs,os,W,S,sh,rfl,rfl⟩) (uu gd))) (λ_=>jN.nd)) (ax (dq (Et.s (Ew.et (jh (iM (ae 8 rfl) (ae 4 rfl) (.inl ⟨_,_,rfl,rfl⟩) (ER W os.length S)) λ_=>(lA (iM (ae 5 rfl) (oh (ah (ae 1 rfl) (ah (ae 2 rfl) ao)) (by show 2<=sizeLine;decide)) (.inr ⟨_,_,rfl,rfl⟩) (Cn (Lp _ _) 'Q')))))) tO) (az (jL (Et.s (fN (ae 7 rfl))) (EO gd) (az (dq (Et.s (Y4 (v:=.aY) (ae 10 rfl))) 'Q'))))),[9,10],rfl⟩
 ·have esh:∀S:Nat->LI,er (xH W os.length S)=cD W os.length S:=λS=>by
   rw[eG];congr 1;refine List.map_congr_left λa _=>?_
   rw[eG];unfold dr;rw[gz];rfl
  have eal:GD [xH W os.length (gu cs os W S)] true:=by
   refine⟨(List.range os.length).map λa=>((gu cs os W S a).map (fW W)).map dF,?_,by rw[aa,xy];exact o6,λl hl=>?_,rfl⟩
   ·rw[gz];have e:(List.range os.length).map (λa=>Tr.ow ((gu cs os W S a).map λs=>tF (fW W s)))=(List.range os.length).map (IG∘λa=>((gu cs os W S a).map (fW W)).map dF):=List.map_congr_left λa _=>by
     show Tr.ow _=Tr.ow _;rw[gz,gz];rfl
    show[Tr.ow _]=[Tr.ow _]
    rw[e]
   ·obtain⟨a,_,rfl⟩:=i8.mp hl;rw[aa,aa,Mt];lia
  exact⟨_,_,rfl,ax (aV 10 (Ev.s (Ev.to (t':=xH W os.length (gu cs os W S)) (aW Jv (br _) (ah (ae 5 rfl) (ah (ae 8 rfl) ao)) ⟨cs,os,W,S,sh,rfl,rfl⟩) (rf gd))) (λ_=>jN.nd)) (ax (dq (Et.pk (Ew.et (jh (iM (ae 8 rfl) (ae 4 rfl) (.inl ⟨_,_,rfl,rfl⟩) (ER W os.length S)) λ_=>(lA (iM (ae 5 rfl) (oh (ah (ae 1 rfl) (ah (ae 2 rfl) ao)) (by show 2<=sizeLine;decide)) (.inr ⟨_,_,rfl,rfl⟩) (Cn (Lp _ _) 'Q')))))) tO) (az (uY (Et.pk (fN (ae 7 rfl))) (LG gd) (az (uY (Et.pk (ko (fN (aW U8 r7 (ah (ae 1 rfl) (ah (ae 2 rfl) (ah (ae 10 rfl) (ah (ae 4 rfl) ao)))) ⟨cs,os,W,S,gu cs os W S,sh,acj sh,λz=>gd (YC sh z),λa ha k=>VQ sh ha k,by rw[esh];rfl,rfl⟩)))) rfl (az (abD 10 eal rfl (λi=>vi (ME (MD (Fe Vw (i.hr.mono r1) 'X' (cf (pv 10) cG)))) (fu (jb OL)) yr)))))))),[9,10],rfl⟩
end
end au
namespace au
open PySem L2
theorem II {us:List vn}(h:us.length=1):∃a0,us=[a0]:=by
 obtain _|⟨a0,us⟩:=us;· cases h
 obtain _|⟨b,us⟩:=us
 ·exact⟨a0,rfl⟩
 ·simp at h
theorem xK {us:List vn}(h:us.length=2):∃a0 a1,us=[a0,a1]:=by
 obtain _|⟨a0,us⟩:=us;· cases h
 obtain _|⟨a1,us⟩:=us;· cases h
 obtain _|⟨b,us⟩:=us
 ·exact⟨a0,a1,rfl⟩
 ·simp at h
theorem IJ {us:List vn}(h:us.length=3):∃a0 a1 a2,us=[a0,a1,a2]:=by
 obtain _|⟨a0,us⟩:=us;· cases h
 obtain _|⟨a1,us⟩:=us;· cases h
 obtain _|⟨a2,us⟩:=us;· cases h
 obtain _|⟨b,us⟩:=us
 ·exact⟨a0,a1,a2,rfl⟩
 ·simp at h
theorem IK {us:List vn}(h:us.length=4):∃a0 a1 a2 a3,us=[a0,a1,a2,a3]:=by
 obtain _|⟨a0,us⟩:=us;· cases h
 obtain _|⟨a1,us⟩:=us;· cases h
 obtain _|⟨a2,us⟩:=us;· cases h
 obtain _|⟨a3,us⟩:=us;· cases h
 obtain _|⟨b,us⟩:=us
 ·exact⟨a0,a1,a2,a3,rfl⟩
 ·simp at h
section
variable {K:Frag}{x qual:Str}{st:afW}{f:adG}{fd:FuncData}{oc kV doc pm aL ct:vn}{od an:Option adG}{iY:Array (Option vn)}{C:adG}
structure Df (K:Frag) (x:Str) (st:afW) (f:adG) (fd:FuncData):Prop where
 a:nsIn K mainGlobals x=some (some (.ref f))
 F:qD K x x st f fd
theorem df (a:nsIn K mainGlobals x=some (some (.ref f)):=by k_is)(l:K.lookup f=some ⟨oc,od,.func (fnOf x x (eV st) (dw st) (aA st) .none kV doc pm an aL ct),iY⟩:=by k_is)(c:codeIn K aL x=true:=by k_is)(k:keepIn K (.ref f)=true:=by k_is):Df K x st f (fnOf x x (eV st) (dw st) (aA st) .none kV doc pm an aL ct):=⟨a,aaN l c k⟩
def Nn (K:Frag)(x:Str):Prop:=nsIn K mainGlobals x=some none
theorem nz (h:nsIn K mainGlobals x=some none:=by k_is):Nn K x:=h
structure Rd (p:afU) (w:afV) (K:Frag) (mg:Str->Option vn) (base:Heap):Prop where
 r:∃h:Heap,K.In h/\h.Ns mainGlobals mg
theorem Df.k {w:afV}{base:Heap}{mg:Str->Option vn}{k:Nat}{ps:List Str}{sp:Sp}{p:afU}(D:Df K x st f fd)(R:Rd p w K mg base)(ok:bQ p w K mg base bx k f fd ps sp)(b:∀(kV doc pm:vn) (an:Option adG) (aL ct:vn) (us:List vn),us.length=ps.length->bindArgs (fnOf x x (eV st) (dw st) (aA st) .none kV doc pm an aL ct) ⟨us,[]⟩=pure (ps.zip us):=by
 intro _ _ _ _ _ _ us hl;first|(obtain⟨_,rfl⟩:=II hl;rfl)|(obtain⟨_,_,rfl⟩:=xK hl;rfl)|(obtain⟨_,_,_,rfl⟩:=IJ hl;rfl)|(obtain⟨_,_,_,_,rfl⟩:=IK hl;rfl)):Kn p w K mg base bx k x f fd ps sp:=Kn.mk ok (let ⟨_,X,G⟩:=R.r;mg_of X G D.a) D.F.kp (D.F.binds b)
structure Dm (K:Frag) (C:adG) (x qual:Str) (st:afW) (f:adG) (fd:FuncData):Prop where
 a:findIn K (.ref C) x=some (some (.ref f))
 F:fE K x qual st .none f fd
 n:isFn K (.ref f)=true
theorem dm (a:findIn K (.ref C) x=some (some (.ref f)):=by k_is)(l:K.lookup f=some ⟨oc,od,.func (fnOf x qual (eV st) (dw st) (aA st) .none kV doc pm an aL ct),iY⟩:=by k_is)(c:codeIn K aL qual=true:=by k_is)(k:keepIn K (.ref f)=true:=by k_is)(n:isFn K (.ref f)=true:=by k_is):Dm K C x qual st f (fnOf x qual (eV st) (dw st) (aA st) .none kV doc pm an aL ct):=⟨a,Lb l c k,n⟩
theorem Dm.b {ps:List Str}(D:Dm K C x qual st f fd)(b:∀(kV doc pm:vn) (an:Option adG) (aL ct:vn) (us:List vn),us.length=ps.length->bindArgs (fnOf x qual (eV st) (dw st) (aA st) .none kV doc pm an aL ct) ⟨us,[]⟩=pure (ps.zip us):=by
 intro _ _ _ _ _ _ us hl;first|(obtain⟨_,rfl⟩:=II hl;rfl)|(obtain⟨_,_,rfl⟩:=xK hl;rfl)|(obtain⟨_,_,_,rfl⟩:=IJ hl;rfl)|(obtain⟨_,_,_,_,rfl⟩:=IK hl;rfl)):Binds K fd ps []:=D.F.binds b
theorem Dm.k {w:afV}{base:Heap}{mg:Str->Option vn}{k:Nat}{ps:List Str}{sp:Sp}{p:afU}(D:Dm K C x qual st f fd)(_:Rd p w K mg base)(ok:bQ p w K mg base bx k f fd ps sp)(b:∀(kV doc pm:vn) (an:Option adG) (aL ct:vn) (us:List vn),us.length=ps.length->bindArgs (fnOf x qual (eV st) (dw st) (aA st) .none kV doc pm an aL ct) ⟨us,[]⟩=pure (ps.zip us):=by
 intro _ _ _ _ _ _ us hl;first|(obtain⟨_,rfl⟩:=II hl;rfl)|(obtain⟨_,_,rfl⟩:=xK hl;rfl)|(obtain⟨_,_,_,rfl⟩:=IJ hl;rfl)|(obtain⟨_,_,_,_,rfl⟩:=IK hl;rfl)):Km p w K mg base C x k f fd ps sp:=Km.mk ⟨D.a,D.n,D.F.kp⟩ ok (D.F.binds b)
end
theorem knA {K:Frag}{h:Heap}{mg:Str->Option vn}(base:Heap)(l:PySem.W.OpenLaw)(w:afV)(X:K.In h)(G:h.Ns mainGlobals mg){k:Nat}{n:Str}{f:adG}{fd:FuncData}{ps:List Str}{sp:Sp}(ok:bQ l.prog w K mg base bx k f fd ps sp)(a:nsIn K mainGlobals n=some (some (.ref f)))(kp:keepIn K (.ref f)=true)(b:Binds K fd ps []):Kn l.prog w K mg base bx k n f fd ps sp:=Kn.mk ok (mg_of X G a) kp b
theorem all_mk {l:PySem.W.OpenLaw}{w:afV}{K:Frag}{h:Heap}{mg:Str->Option vn}{fa:adG}(X:K.In h)(G:h.Ns mainGlobals mg)(hfa:mg "law"=some (.ref fa)){f3 A1:adG}{od3 IL dd3:Option adG}{sl3 ds3:Array (Option vn)}{oc3 IM IP IQ A2 IT do3:vn}{dn3:Nat}{tN:Tok}{gt1:Tok}{gt2:Tok}{C:adG}(D1:Df K "is_whole" B3 f1 g1)(D2:Df K "common_part" Bn f2 g2)(a3:nsIn K mainGlobals "fraction"=some (some (.ref f3)))(l3:K.lookup f3=some ⟨oc3,od3,.func (fnOf "fraction" "fraction" (eV iK) (dw iK) (aA iK) (.ref A1) IM IP IQ IL A2 IT),sl3⟩)(d3:K.lookup A1=some ⟨do3,dd3,.seq #[.int 1 tN] dn3,ds3⟩)(c3:codeIn K A2 "fraction"=true)(k3:keepIn K (.ref f3)=true)(D4:Df K "plus" Ex f4 g4)(D5:Df K "sum_of" CZ f5 g5)(D6:Df K "common_bottom" Bb f6 g6)(D7:Df K "bottom_of_all" Bc f7 g7)(D8:Df K "parts_of" B7 f8 g8)(D9:Df K "check_orders" Bd f9 g9)(SX:Df K "table_of" B4 f10 oT)(SY:Df K "full_order" BE f11 g11)(S0:Df K "first_left" BJ f12 g12)(S1:Df K "dealt_of" B5 f13 g13)(S2:Df K "wishes" CW f14 g14)(S3:Df K "over_pairs" BH f15 g15)(S4:Df K "full_things" Bv f16 g16)(S5:Df K "lined_up" B6 f17 g17)(S6:Df K "ring_among" BI f18 g18)(S7:Df K "judged" C0 f19 g19)(S8:Df K "bettered" ud f20 g20)(S9:Df K "_law_cell_at" Be f21 g21)(Ta:Df K "_law_stream" Bq f22 g22)(Tc:Df K "_law_order" BF f23 g23)(Td:Df K "_law_orders" Br f24 g24)(Te:Df K "_law_counts" Bs f25 g25)(Tf:Df K "_law_divisor" Bi f26 g26)(Tg:Df K "_law_lowest" Bt f27 g27)(Ti:Df K "_law_turn_deal" A8 f28 g28)(Tj:Df K "_law_any_deal" Ba f29 g29)(Tn:Df K "_law_drawn" t8 f30 g30)(To:Df K "_law_full" BR f31 g31)(Tp:Df K "_law_plus" BU f32 g32)(Tq:Df K "_law_under" BK f33 g33)(Tt:Df K "_law_sums" BZ f34 g34)(Tu:Df K "_law_no_less" Bj f35 g35)(Tv:Df K "_law_tabled" Bu f36 g36)(Tw:Df K "_law_whole" BM f37 g37)(Tx:Df K "_law_is_row" Bz f38 g38)(Tz:Df K "_law_column" Bw f39 g39)(TB:Df K "_law_are_shares" A7 f40 g40)(TC:Df K "_law_wishes" Bx f41 g41)(TF:Df K "_law_left" BX f42 g42)(TH:Df K "_law_no_ring" Bl f43 g43)(TJ:Df K "_law_better" BC f44 g44)(TK:Df K "_law_alone" ua f45 g45)(IU:Df K "law" ou f46 g46)(z0:Nn K "isinstance")(z1:Nn K "int")(z2:Nn K "bool")(z3:Nn K "list")(z4:Nn K "tuple")(z5:Nn K "len")(z6:Nn K "range")(z7:Nn K "zip")(z8:Nn K "any")(z9:Nn K "enumerate")(z10:Nn K "set")(z11:Nn K "abs")(z12:Nn K "sum")(z13:Nn K "sorted")(z14:Nn K "reversed")(z15:Nn K "str")(z16:Nn K "min")(g1:nsIn K mainGlobals "MOST"=some (some (.int 6 gt1)))(g2:nsIn K mainGlobals "MOST_COUNT"=some (some (.int 9 gt2)))(gc:nsIn K mainGlobals "Market"=some (some (.ref C)))(u1:plainGet K C Str.empty=true)(u2:hasDictIn K C=true)(u3:PySem.W.plainOver K C=true)(u4:findIn K (.ref C) "__setattr__"=some (some (.builtin "object.__setattr__")))(u5:PySem.W.makesIn K C=true)(u6:keepIn K (.ref C)=true)(n0:findIn K (.ref C) "orders"=some none)(n1:findIn K (.ref C) "owned"=some none)(n2:findIn K (.ref C) "spare"=some none)(n3:findIn K (.ref C) "got"=some none)(n4:findIn K (.ref C) "wanted"=some none)(E0:Dm K C "__init__" "Market.__init__" zl x0 y0)(E1:Dm K C "wanting" "Market.wanting" CB x1 y1)(E2:Dm K C "owners" "Market.owners" C1 x2 y2)(E3:Dm K C "gone" "Market.gone" ED x3 y3)(E4:Dm K C "giver" "Market.giver" DJ x4 y4)(E5:Dm K C "ring" "Market.ring" zh x5 y5)(E6:Dm K C "source" "Market.source" yo x6 y6)(E7:Dm K C "leave" "Market.leave" yF x7 y7)(E8:Dm K C "trade" "Market.trade" yH x8 y8)
  : ∃fd:FuncData,(∀(s:adJ) (v:vn),BindsTo s fd ⟨[v],[]⟩ [("_law_script",v)])/\∀base:Heap,K.In base->base.Ns mainGlobals mg->bQ l.prog w K mg base bx 9 fa fd ["_law_script"] (zC K):=by
 have zz:∀{x:Str},Nn K x->mg x=none:=PySem.W.mg_none_of X G;have T:Txt mg:=⟨zz z0,zz z1,zz z2,zz z3,zz z4,zz z5,zz z6,zz z7,zz z8,zz z9,zz z10,zz z11,zz z12,zz z13,zz z14,zz z15,zz z16,⟨_,mg_of X G g1⟩,⟨_,mg_of X G g2⟩⟩
 have F3:=Lb (st:=iK) l3 c3 k3;have b3:Binds K (fnOf "fraction" "fraction" (eV iK) (dw iK) (aA iK) (.ref A1) IM IP IQ IL A2 IT) ["top", "bottom"] []:=λs us hK hl=>match us,hl with | [u,v],_=>PySem.W.binds_K (fd:=fnOf _ _ (eV iK) _ _ _ _ _ _ _ _ _) hK rfl d3 rfl rfl rfl
 have IV:Binds K (fnOf "fraction" "fraction" (eV iK) (dw iK) (aA iK) (.ref A1) IM IP IQ IL A2 IT) ["top", "bottom"] [.int 1 tN]:=λs us hK hl=>by
  cases us with
  |nil=>exact absurd hl 'Y'
  |cons u0 r0=>
   cases r0 with
   |nil=>exact PySem.W.binds_K (fd:=fnOf _ _ (eV iK) _ _ _ _ _ _ _ _ _) hK rfl d3 rfl rfl rfl
   |cons _ _=>exact absurd hl (by simp only[vc,IF,List.length_nil];omega)
 have U:kY K C:=⟨⟨u1,u2,u3,u4⟩,n0,n1,n2,n3,n4⟩
 cases hfa.symm.trans (mg_of X G IU.a)
 have F46:=IU.F;obtain⟨_,_,kV,dc,pm,an,cd,ct,_,rfl,_,_⟩:=IU.F.ex;refine⟨fnOf "law" "law" (eV ou) (dw ou) (aA ou) .none kV dc pm an cd ct,λs v=>.of_eq rfl,λbase _ _=>?_⟩;have R:Rd l.prog w K mg base:=⟨_,X,G⟩
 have K1:=D1.k R (VG (k:=0) D1.F T );have K2:=D2.k R (Um (k:=0) D2.F T );have K3:=knA base l w X G (VH (k:=0) F3 T K1 K2) a3 k3 b3;have K4:=D4.k R (ZZ (k:=0) D4.F T K3);have K5:=D5.k R (Xe (k:=0) D5.F T K3 IV K4);have K6:=D6.k R (T5 (k:=0) D6.F T K2);have K7:=D7.k R (T7 (k:=0) D7.F T K6);have K8:=D8.k R (VP (k:=0) D8.F T );have K9:=D9.k R (Ua (k:=0) D9.F T );have K10:=SX.k R (VJ (k:=0) SX.F T K9);have TL:=SY.k R (UN (k:=1) SY.F T );have K12:=S0.k R (UZ (k:=0) S0.F T );have K13:=S1.k R (VM (k:=0) S1.F T K5);have TN:=S2.k R (Xd (k:=0) S2.F T TL K3 IV);have K15:=S3.k R (UU (k:=0) S3.F T TN);have K16:=S4.k R (Uw (k:=0) S4.F T K13 K3 IV);have K17:=S5.k R (VN (k:=0) S5.F T );have K18:=S6.k R (UW (k:=0) S6.F T );have K19:=S7.k R (Xf (k:=0) S7.F T TN K16 K17 K15 K18);have N1:=E1.k R (Wq (k:=0) E1.F T U);have N2:=E2.k R (Xi (k:=0) E2.F T U);have N3:=E3.k R (aad (k:=0) E3.F T U N2);have N4:=E4.k R (Yt (k:=0) E4.F T U N1 N2);have N5:=E5.k R (aaf (k:=2) E5.F T U N3 N1 N4 K12 'Q' 'Q' 'Q' 'Q');have N6:=E6.k R (Xm (k:=0) E6.F U);have N7:=E7.k R (Yx (k:=0) E7.F T U);have N8:=E8.k R (YB (k:=3) E8.F T U N5 N6 N7 'Q' 'Q' 'Q');have N0:=SG.mk (P:=l.prog) (w:=w) (base:=base) (mg:=mg) ⟨u5,E0.a,E0.n,u6⟩ (aam (k:=2) E0.F T U TL K8 'Q' 'Q') E0.b (mg_of X G gc);have K20:=S8.k R (VR (k:=7) S8.F T U K19 K7 K3 N0 N8 N1 'Q' 'Q' 'Q' 'Q' 'Q' 'Q');have TQ:=S9.k R (Uc (k:=0) S9.F T );have A3:=Ta.k R (Up (k:=0) Ta.F T );have K23:=Tc.k R (UO (k:=0) Tc.F T A3);have K24:=Td.k R (Uq (k:=0) Td.F T K23);have au:=Te.k R (Ur (k:=0) Te.F T A3);have K26:=Tf.k R (Ud (k:=0) Tf.F T );have IW:=Tg.k R (Us (k:=0) Tg.F T K26);have K28:=Ti.k R (T1 (k:=0) Ti.F T A3);have K29:=Tj.k R (T3 (k:=0) Tj.F T A3);have K30:=Tn.k R (UP (k:=0) Tn.F T K29 K28 IW);have TR:=To.k R (Vq (k:=0) To.F T );have TU:=Tp.k R (Vs (k:=0) Tp.F T IW);have IX:=Tq.k R (U1 (k:=0) Tq.F T );have TV:=Tt.k R (Vu (k:=0) Tt.F T TR TU);have K35:=Tu.k R (Uh (k:=0) Tu.F T IX);have K36:=Tv.k R (Uu (k:=0) Tv.F T TQ au K24);have K37:=Tw.k R (U3 (k:=0) Tw.F T );have K38:=Tx.k R (Uz (k:=0) Tx.F T K37 IW TV);have TX:=Tz.k R (Ux (k:=0) Tz.F T TU);have K40:=TB.k R (TZ (k:=0) TB.F T K38 IX TX);have K41:=TC.k R (Uy (k:=0) TC.F T TR);have K42:=TF.k R (Vt (k:=0) TF.F T TX IX);have K43:=TH.k R (Ui (k:=0) TH.F T );have K44:=TJ.k R (UA (k:=0) TJ.F T K40 TV K35);have K45:=TK.k R (U4 (k:=0) TK.F T );exact aaX (abE (k:=0) F46 T TQ K36 K30 K10 K41 K42 K43 K20 K44 K45)
theorem walk {l:PySem.W.OpenLaw}{q:afU}{loose:List Str}{XP:(Str->Option vn)->Heap->Prop}{YP:afV->Heap->Prop}{d:DefRec}{K:Params->Frag}(hn:l.most=some 63)(wm:d.params.defaults=[])(hY:∀(w:afV) (h:Heap),YP w h->(K w.params).In h)(F:∀(w:afV) (mg:Str->Option vn) (fa:adG) (h:Heap),(K w.params).In h->h.Ns mainGlobals mg->mg d.name=some (.ref fa) ->
   ∃fd:FuncData,(∀(s:adJ) (v:vn),BindsTo s fd ⟨[v],[]⟩ [("_law_script",v)])/\∀base:Heap,(K w.params).In base->base.Ns mainGlobals mg->bQ l.prog w (K w.params) mg base bx 9 fa fd ["_law_script"] (zC (K w.params))):
  PySem.W.WalkO q loose XP YP l.row.toRowW d [] (λf vs=>PySem.call f vs):=
 L2.YT (n:=63) (k:=9) (x :="_law_script") (CX:=λ_=>bx) (sp:=λw=>zC (K w.params)) hn 'Q' wm ⟨rfl,'Q','Q'⟩ hY F (λ_ _ a ns hl _ hS=>⟨a,ns,rfl,hS,hl,λ_=>rfl⟩) λ_ _ _ _ _ z=>z
end au
open PySem PySem.W PyProof.Rows
set_option maxRecDepth 100000 in
set_option maxHeartbeats 0 in
theorem PySem.Challenge.cw_lotmeal_k25_bettered_holds : PySem.Challenge.rw_lotmeal_k25_bettered.Holds := by
 w_on;refine holds_law wSd0 λadJ=>?_
 refine holds_open (q:=iV.hV) (loose:=["fraction"]) (Xt:=iV.hX) (XP:=XL iV.hV []) (Yf:=(kHook iV.hK iV.hA iV.zq).obs) (Ya:=(kHook iV.hK iV.hA iV.zq).val) (YP:=(kHook iV.hK iV.hA iV.zq).says) iV.hL (Hook.of _) (Hook.keeps _) (λs e=>xl_of s (Bool.and_eq_true_iff.mp e).1) XL.keeps 'X' 'X' 'X' (λs e=>recFacts_of (Bool.and_eq_true_iff.mp e).2) 'X' (by first|assumption|decide +kernel) 'W' ⟨rfl,rfl,rfl,rfl,rfl,'W'⟩ ?hw ?hc
 case hw=>w_witness2
 k_fill
 refine au.walk (l:=PySem.Challenge.rw_lotmeal_k25_bettered) rfl rfl (λw h Y=>PySem.W.kIn_of Y) ?F
 case F=>
  intro w mg fa h KX G wo;exact au.all_mk KX G wo au.df au.df (by k_is) (by k_is) (by k_is) (by k_is) (by k_is) au.df au.df au.df au.df au.df au.df au.df au.df au.df au.df au.df au.df au.df au.df au.df au.df au.df au.df au.df au.df au.df au.df au.df au.df au.df au.df au.df au.df au.df au.df au.df au.df au.df au.df au.df au.df au.df au.df au.df au.df au.df au.df au.df au.nz au.nz au.nz au.nz au.nz au.nz au.nz au.nz au.nz au.nz au.nz au.nz au.nz au.nz au.nz au.nz au.nz (by k_is) (by k_is) (by k_is) (by k_is) (by k_is) (by k_is) (by k_is) (by k_is) (by k_is) (by k_is) (by k_is) (by k_is) (by k_is) (by k_is) au.dm au.dm au.dm au.dm au.dm au.dm au.dm au.dm au.dm
