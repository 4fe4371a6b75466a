import PyProof.Rows.All
import Wide.All
import OpenK.AllK
import Wide.FinOn
import Lean
import PyProof.EqAt
import PyProof.EqKinds
import PyProof.TupleCall
import PyProof.NeKinds
import PyProof.ZipIter
import PyProof.ListRange
import PyProof.TupleOfSeq
import PyProof.ConsumeWalk
import PyProof.IsRules
import PyProof.SetKind
import PyProof.SetRoads
import PyProof.Rows.SetFrom
import PyProof.Draws
import PyProof.EnumMake
import PyProof.DictCompW
import PyProof.ListMulRoad
import PyProof.Rows.SeqMore2
import PyProof.WalkInts
import PyProof.DictRoadsH
import PyProof.DictItems
import KE.KDictList
import KE.KDictOf
import PyProof.AttrMissHeap
import PyProof.SumAny
import PyProof.WalksMore
import PyProof.TupleKey
import PySem.Challenge.RW_bringhome_k59_whole_beats_bind_each_word
local macro_rules|`(tactic|omega)=>`(tactic|lia)
local macro_rules|`(command|def $i $s $v:declVal)=>`(command|noncomputable def $i $s $v:declVal)
local macro_rules|`(command|abbrev $i $s $v:declVal)=>`(command|noncomputable abbrev $i $s $v:declVal)
local macro_rules|`(~~~$x)=>`(by simpa using $x)
local macro_rules|`(⇑$x)=>`($(x).heap.objs.size)
local macro_rules|`(tactic|∎)=>`(tactic|constructor<;>first|rfl|decide+kernel)
local macro_rules|`(tactic|calc $x:term)=>`(tactic|refine $x)
local macro_rules|`(tactic|ext $x:ident)=>`(tactic|cases $x:ident)
local macro_rules|`(tactic|cbv at $x:ident)=>`(tactic|split at $x:ident)
local macro_rules|`(tactic|erw[$a,*]$[at $h:ident]?)=>let a:=a.getElems.map λx=>(⟨x.raw[1]⟩:Lean.Ident);`(tactic|unfold $a* $[at $h:ident]?)
local macro_rules|`(tactic|let $d:letDecl)=>`(tactic|have $d:letDecl)
local macro_rules|`(tactic|let⟨$a,*⟩:=$t)=>do let q←(List.range 9).foldl (λr _ (x:Lean.Term)=>match x with|`(⟨$a,*⟩)=>do let b←a.getElems.mapM r;`(rcasesPat|⟨$[$b:rcasesPat],*⟩)|`($i:ident)=>`(rcasesPat|$i:ident)|_=>`(rcasesPat|_)) (λ_=>`(rcasesPat|_)) (←`(⟨$a,*⟩));`(tactic|obtain $q:rcasesPat:=$t)
local macro_rules|`(())=>`(by first|decide|omega)
theorem qz {p:Prop} (h:¬p->False):p:=Classical.byContradiction h
section
open PySem
abbrev Ya:=List (List Int)
abbrev Yb:=W.Frag
abbrev Yc:=Value->Shared->Prop
abbrev Yd:=List (Addr × Obj)
abbrev Ye:=List Int
abbrev Yf:=List Value
abbrev Yg:=List Addr
abbrev Yh:=Str->Option Value
abbrev Yi:=List Expr
abbrev Yj:=List Nat
abbrev Yk:=List Str
abbrev Yl:=Shared
abbrev Ym:=Program
abbrev Yn:=Around
abbrev Yo:=World
abbrev Yp:=Array Value
abbrev Yq:=List Int->Prop
abbrev Yr:=Value->Nat
abbrev Ys:=Option Int
abbrev Yt:=Addr
abbrev Yu:=Value
abbrev Yv:=List (Str × Addr)
abbrev Yw:=Array (Int × Value)
abbrev Yx:=Result->Shared->Prop
abbrev Yy:=List Stmt
abbrev Yz:=FuncData
abbrev Y0:=Scope
abbrev Y1:=List Int->List (List Int)
abbrev Y2:=Value->Value->Sem Value
end
structure PySem.W.Fast:Prop where(tw3858550449761285768 tw11755764137277957327 tw15478568431225742797 tw15476496424180714525 tw3658382158884890740 tw17409877237406601617 tw12931975164418033521 tw2756745556035507288 tw12970355360871031857 tw8424341362704499940 tw9895548994768028766 tw1336964261417027002 tw14238919179914042106 tw4072911042955101053 tw4887522908705348536 tw3133502796253371162 tw12126992813323266420 tw12818069018158505692 tw4390317007170946076 tw6831326888487985056 tw11321978410908754405 tw7838131281547065772 tw15812414622786671612 tw16628675898541084745 tw5940772148861852704 tw10469396855197193656 tw1562469515168598155 tw2786446927808741986 tw17986080971836429436 tw17622753942485919018 tw8795902000390550335 tw3619306093130946777 tw2860986617779059627 tw4042633277749603837 tw16265154990451470446 tw1974120516276020056 tw718856193315459763 tw10673354258652693237 tw7027153202206514071 tw1284578036170629045 tw4076410768456655576 tw16301006686122156493 tw13822810329231166531 tw17025235554696766494 tw14784830329210993600 tw14463442372856593734 tw6319973113381904181 tw13818612647561395926 tw1847159906495059243 tw8832803692862676868 tw12151145804853901829 tw4896792623838249792 tw8760642132697272736 tw941458505264427772 tw3934820799882470698 tw2373409742079418870 tw13947884161719886708 tw9610451842156966294 tw10362411820940338662 tw4193140387266769755 tw11050369776354193424 tw467769754120939206 tw18255499720788221936 tw4074707397187952756 tw16370483463125500879 tw4202351421145985573 tw1070594894731107713 tw14801001252117151826 tw5975973703475302427 tw3807593442042078194 tw4390653822875592207 tw15914599692238733781 tw1161203764367389709 tw9745162320399542292 tw18035302634145161665 tw7813538761509921040 tw13208385222771049026 tw8219194738868539493 tw946095226465195404 tw13593840151038941135 tw17160035579086333130 tw16038823365942292010 tw10242821551997645845 tw8183351723329251172 tw8711518810676390366 tw9464216155981564510 tw5423490592957233950 tw3903817263306844016 tw14276726175242153382 tw8861951283872353669 tw40961904250412165 tw1829584225601184107 tw13653254208758791102 tw18361521457068682844 tw13731573149025081480:True)
section
open PySem PySem.Spec PyProof.Rows
def AA:type_of% @wpAny_bind:=@wpAny_bind
def AH:type_of% @Heap.get?_push_of_some:=@Heap.get?_push_of_some
def AB:type_of% @wpAny_pure:=@wpAny_pure
def AY:type_of% @List.getElem?_eq_some_iff:=@List.getElem?_eq_some_iff
def AL:type_of% @List.getElem?_eq_getElem:=@List.getElem?_eq_getElem
def Ai:type_of% @List.getD_eq_getElem?_getD:=@List.getD_eq_getElem?_getD
def AF:type_of% @Nat.le_refl:=@Nat.le_refl
def BV:type_of% @List.getElem?_append_left:=@List.getElem?_append_left
def AX:type_of% @List.size_toArray:=@List.size_toArray
def AI:type_of% @List.length_map:=@List.length_map
def AK:type_of% @Heap.get?_push_size:=@Heap.get?_push_size
def AG:type_of% @Heap.lt_size:=@Heap.lt_size
def AJ:type_of% @List.mem_cons:=@List.mem_cons
def AQ:type_of% @List.mem_cons_of_mem:=@List.mem_cons_of_mem
def AM:type_of% @List.mem_cons_self:=@List.mem_cons_self
def AD:type_of% @if_pos:=@if_pos
def Aw:type_of% @List.length_append:=@List.length_append
def AR:type_of% @List.mem_map:=@List.mem_map
def AE:type_of% @if_neg:=@if_neg
def Ab:type_of% @List.map_cons:=@List.map_cons
def Af:type_of% @List.mem_append_right:=@List.mem_append_right
def AU:type_of% @Nat.ne_of_lt:=@Nat.ne_of_lt
def A4:type_of% @Bool.false_ne_true:=@Bool.false_ne_true
def AW:type_of% @List.getElem?_map:=@List.getElem?_map
def Be:type_of% @List.map_map:=@List.map_map
def BH:type_of% @Nat.lt_of_lt_of_le:=@Nat.lt_of_lt_of_le
def Au:type_of% @List.mem_append:=@List.mem_append
def BY:type_of% @Nat.le_trans:=@Nat.le_trans
def BD:type_of% @List.mem_singleton:=@List.mem_singleton
def Ao:type_of% @wpAny_newObj_type:=@wpAny_newObj_type
def Bz:type_of% @List.getElem?_set_ne:=@List.getElem?_set_ne
def A7:type_of% @List.not_mem_nil:=@List.not_mem_nil
def AS:type_of% @wpAny_mono:=@wpAny_mono
def Ci:type_of% @List.length_cons:=@List.length_cons
def BR:type_of% @List.getElem_mem:=@List.getElem_mem
def BB:type_of% @decide_eq_false:=@decide_eq_false
def Ay:type_of% @Bool.and_eq_true:=@Bool.and_eq_true
def An:type_of% @List.all_eq_true:=@List.all_eq_true
def Bq:type_of% @wpAny_callSpecial?_slot:=@wpAny_callSpecial?_slot
def Ap:type_of% @wpAny_call_entry:=@wpAny_call_entry
def CD:type_of% @List.mem_range:=@List.mem_range
def BF:type_of% @wpAny_field:=@wpAny_field
def Ax:type_of% @Heap.size_push:=@Heap.size_push
def DK:type_of% @Heap.get?_update_other:=@Heap.get?_update_other
def BK:type_of% @Nat.lt_irrefl:=@Nat.lt_irrefl
def Ae:type_of% @Array.length_toList:=@Array.length_toList
def CV:type_of% @List.append_nil:=@List.append_nil
def BM:type_of% @Array.getElem?_eq_getElem:=@Array.getElem?_eq_getElem
def A8:type_of% @Nat.zero_le:=@Nat.zero_le
def CA:type_of% @Heap.get?_update_self:=@Heap.get?_update_self
def Bx:type_of% @Nat.lt_succ_of_lt:=@Nat.lt_succ_of_lt
def BU:type_of% @wpAny_seqItems:=@wpAny_seqItems
def Bn:type_of% @List.mem_of_getElem?:=@List.mem_of_getElem?
def Dw:type_of% @List.map_append:=@List.map_append
def A6:type_of% @wpAny_holding:=@wpAny_holding
def DE:type_of% @List.getElem?_set_self:=@List.getElem?_set_self
def Cs:type_of% @Around.under_plainId:=@Around.under_plainId
def C2:type_of% @of_decide_eq_true:=@of_decide_eq_true
def CM:type_of% @Nat.lt_succ_self:=@Nat.lt_succ_self
def Ce:type_of% @wpAny_standAt:=@wpAny_standAt
def CQ:type_of% @PySem.W.mg_none_of:=@PySem.W.mg_none_of
def BQ:type_of% @Option.some.inj:=@Option.some.inj
def Ac:type_of% @Bool.false_eq_true:=@Bool.false_eq_true
def Cn:type_of% @PySem.mem_of_lookup:=@PySem.mem_of_lookup
def Bd:type_of% @Heap.SameBut.update:=@Heap.SameBut.update
def CG:type_of% @codeAny_builtin:=@codeAny_builtin
def Dm:type_of% @List.append_assoc:=@List.append_assoc
def E2:type_of% @wpAny_Call_Name_kw:=@wpAny_Call_Name_kw
def BG:type_of% @decide_eq_true:=@decide_eq_true
def Cy:type_of% @List.getElem?_eq_none:=@List.getElem?_eq_none
def Gy:type_of% @List.getElem?_append_right:=@List.getElem?_append_right
def ED:type_of% @wpAny_truthy_bool:=@wpAny_truthy_bool
def D2:type_of% @decide_eq_true_eq:=@decide_eq_true_eq
def EZ:type_of% @List.nodup_append:=@List.nodup_append
def Bi:type_of% @List.mem_append_left:=@List.mem_append_left
def Cq:type_of% @wpAny_setField_rec:=@wpAny_setField_rec
def Bp:type_of% @Obj.data_mapFields:=@Obj.data_mapFields
def Az:type_of% @or_false:=@or_false
def DM:type_of% @Nat.lt_or_ge:=@Nat.lt_or_ge
def Bo:type_of% @wpAny_rule:=@wpAny_rule
def Cz:type_of% @List.length_take:=@List.length_take
def CO:type_of% @sizeLine_eq:=@sizeLine_eq
def EY:type_of% @List.pairwise_map:=@List.pairwise_map
def Bw:type_of% @List.length_nil:=@List.length_nil
def B9:type_of% @Nat.ne_of_gt:=@Nat.ne_of_gt
def Gd:type_of% @PyProof.Rows.slot_tuple_getitem:=@PyProof.Rows.slot_tuple_getitem
def DA:type_of% @List.getElem?_set:=@List.getElem?_set
def CT:type_of% @wpAny_attempt:=@wpAny_attempt
def Di:type_of% @PySem.W.kia_one:=@PySem.W.kia_one
def ES:type_of% @PySem.F.slot_zip_next:=@PySem.F.slot_zip_next
def CI:type_of% @Array.getElem?_toList:=@Array.getElem?_toList
def Cu:type_of% @Nat.le_succ:=@Nat.le_succ
def Ds:type_of% @plainId_quiet:=@plainId_quiet
def C8:type_of% @wpAny_typeOf:=@wpAny_typeOf
def CF:type_of% @wpAny_setField:=@wpAny_setField
def Ed:type_of% @List.find?_cons:=@List.find?_cons
def BI:type_of% @congrArg:=@congrArg
def Eu:type_of% @wpAny_isInstance:=@wpAny_isInstance
def Ei:type_of% @Nat.le_add_right:=@Nat.le_add_right
def Dy:type_of% @Obj.isFreed_of_fields:=@Obj.isFreed_of_fields
def E8:type_of% @Int.emod_lt_of_pos:=@Int.emod_lt_of_pos
def GP:type_of% @wpAny_comprehension_free:=@wpAny_comprehension_free
def Dv:type_of% @List.length_range:=@List.length_range
def D1:type_of% @wpAny_onRaise:=@wpAny_onRaise
def E5:type_of% @List.length_eq_zero_iff:=@List.length_eq_zero_iff
def Ck:type_of% @List.getElem_of_mem:=@List.getElem_of_mem
def E7:type_of% @List.lookup_cons:=@List.lookup_cons
def Fx:type_of% @Array.getElem?_eq_none:=@Array.getElem?_eq_none
def DN:type_of% @List.pairwise_cons:=@List.pairwise_cons
def BC:type_of% @if_true:=@if_true
def E6:type_of% @List.ext_getElem?:=@List.ext_getElem?
def Ah:type_of% @if_false:=@if_false
def Cj:type_of% @List.isEmpty_nil:=@List.isEmpty_nil
def Ez:type_of% @Nat.lt_of_le_of_lt:=@Nat.lt_of_le_of_lt
def C1:type_of% @Bool.eq_iff_iff:=@Bool.eq_iff_iff
def B7:type_of% @wpAny_setState_of:=@wpAny_setState_of
def Ba:type_of% @bind_assoc:=@bind_assoc
def Ef:type_of% @Int.toNat_natCast:=@Int.toNat_natCast
def D3:type_of% @wpAny_setEntries_of:=@wpAny_setEntries_of
def De:type_of% @Nat.le_of_lt:=@Nat.le_of_lt
def Bb:type_of% @pure_bind:=@pure_bind
def DV:type_of% @bne_self_eq_false:=@bne_self_eq_false
def B2:type_of% @Bool.not_true:=@Bool.not_true
def Ek:type_of% @Option.bind_some:=@Option.bind_some
def D4:type_of% @wpAny_fieldsOf:=@wpAny_fieldsOf
end
set_option Elab.async false
set_option linter.all false
set_option maxRecDepth 100000
set_option genSizeOf false
set_option genInjectivity false
set_option compiler.extract_closed false
noncomputable section
section
open PySem PySem.Spec PyProof.Rows
namespace L2
abbrev Key:=Sum Int Str
def El:Key->Value->Bool
 |.inl k,v=>Value.isInt k v
 |.inr x,v=>Value.isStrOf x v
def dH (w:Yo):Key->Int
 |.inl k=>hashInt k
 |.inr x=>hashStr w x
def zw:∀ {k:Key} {v:Yu},El k v=true->(∃ i t,k=Sum.inl i/\v=Value.int i t)\/(∃ x t,k=Sum.inr x/\v=Value.str x t)
 |.inl i,v,h=>by
  let⟨t,e⟩:=Value.isInt_shape (k:=i) (v:=v) h;calc .inl ⟨i,t,rfl,e⟩
 |.inr x,v,h=>by
  let⟨t,e⟩:=Value.isStrOf_shape (x:=x) (v:=v) h;calc .inr ⟨x,t,rfl,e⟩
def TB (i:Int) (t:Tok):El (.inl i) (.int i t)=true:=by simp[El,Value.isInt]
def bU (x:Str) (t:Tok):El (.inr x) (.str x t)=true:=by simp[El,Value.isStrOf]
def Vz (a b:Int):decide ((Sum.inl a:Key)=Sum.inl b)=(a==b):=by
 by_cases e:a=b
 .subst e;simp
 .have h:¬ (Sum.inl a:Key)=Sum.inl b:=λq=>e (Sum.inl.inj q);rw[BB h];calc (beq_eq_false_iff_ne.mpr e).symm
def aI (a b:Str):decide ((Sum.inr a:Key)=Sum.inr b)=decide (a=b):=by
 by_cases e:a=b
 .subst e;simp
 .have h:¬ (Sum.inr a:Key)=Sum.inr b:=λq=>e (Sum.inr.inj q);rw[BB h,BB e]
def cJ (a:Int) (b:Str):decide ((Sum.inl a:Key)=Sum.inr b)=false:=BB (λq=>nomatch q)
def SE (a:Str) (b:Int):decide ((Sum.inr a:Key)=Sum.inl b)=false:=BB (λq=>nomatch q)
def zf (prog:Ym) (w:Yo):PySem.KeyKind prog w Key where
 is:=El
 hash:=dH w
 inj:=λv a b ha hb=>by
  rcases zw ha with ⟨i,t,rfl,rfl⟩|⟨x,t,rfl,rfl⟩
  .rcases zw hb with ⟨j,u,rfl,e⟩|⟨y,u,rfl,e⟩
   .injection e with e1 _;rw[e1]
   .exact nomatch e
  .rcases zw hb with ⟨j,u,rfl,e⟩|⟨y,u,rfl,e⟩
   .exact nomatch e
   .injection e with e1 _;rw[e1]
 byValue:=λk v h=>by
  rcases zw h with ⟨i,t,rfl,rfl⟩|⟨x,t,rfl,rfl⟩ <;> rfl
 pyHash:=λhv h=>by
  rcases zw hv with ⟨i,t,rfl,rfl⟩|⟨x,t,rfl,rfl⟩
  .exact wpAny_pyHash_int h
  .exact wpAny_pyHash_str h
 eqBool:=λhu hv h=>by
  rcases zw hu with ⟨i,t,rfl,rfl⟩|⟨x,t,rfl,rfl⟩
  .rcases zw hv with ⟨j,u,rfl,rfl⟩|⟨y,u,rfl,rfl⟩
   .rw[Vz]at h;exact wpAny_eqBool_int h
   .rw[cJ]at h;exact SeqAt.EqAt.int_str i t y u _ _ _ _ h
  .rcases zw hv with ⟨j,u,rfl,rfl⟩|⟨y,u,rfl,rfl⟩
   .rw[SE]at h;exact SeqAt.EqAt.str_int x t j u _ _ _ _ h
   .rw[aI]at h;exact wpAny_eqBool_str h
 «strs»:=λk x t v h=>by
  rcases zw h with ⟨i,u,rfl,e⟩|⟨y,u,rfl,e⟩
  .exact nomatch e
  .injection e with e1 _
   subst e1
   cases v <;> rfl
def fV (prog:Ym) (w:Yo) (i:Int) (t:Tok):(zf prog w).is (.inl i) (.int i t)=true:=TB i t
def Rc (prog:Ym) (w:Yo) (x:Str) (t:Tok):(zf prog w).is (.inr x) (.str x t)=true:=bU x t
set_option genInjectivity true in
inductive V where
 |non|bl (b:Bool)|int (i:Int)|str (x:Str)|byt (b:Array UInt8)|flt (b:UInt64)|ref (a:Yt)|ty (n:String)
 deriving DecidableEq
def zc:V->Value->Prop
 |.non,u=>u=Value.none
 |.bl b,u=>u=Value.bool b
 |.int i,u=>∃ t,u=Value.int i t
 |.str x,u=>∃ t,u=Value.str x t
 |.byt b,u=>∃ t,u=Value.bytes b t
 |.flt b,u=>∃ t,u=Value.float b t
 |.ref a,u=>u=Value.ref a
 |.ty n,u=>u=Value.type n
abbrev zU:List V->List Value->Prop:=Paired zc
def zU.length {xs:List V} {us:Yf} (r:zU xs us):xs.length=us.length:=Paired.length r
def zU.get:∀ {xs:List V} {us:Yf} {i:Nat} {x:V},zU xs us->xs[i]?=some x -> ∃ u,us[i]?=some u/\zc x u
 |_,_,_,_,.nil,e=>by simp at e
 |_,_,0,_,.cons r _,e=>by simp at e;subst e;calc ⟨_,rfl,r⟩
 |_,_,i+1,x,.cons _ t,e=>by
  let⟨u,h1,h2⟩:=zU.get (i:=i) (x:=x) t (~~~e);calc ⟨u,by simpa using h1,h2⟩
def zU.set {x:V} {u:Yu} (r:zc x u):∀ {xs:List V} {us:Yf} (i:Nat),zU xs us->zU (xs.set i x) (us.set i u)
 |_,_,_,.nil=> .nil
 |_,_,0,.cons _ t=> .cons r t
 |_,_,i+1,.cons q t=> .cons q (zU.set r i t)
def zU.append:∀ {xs ys:List V} {us ws:Yf},zU xs us->zU ys ws->zU (xs++ys) (us++ws)
 |_,_,_,_,.nil,s=>s
 |_,_,_,_,.cons r t,s=> .cons r (zU.append t s)
def zU.take:∀ {xs:List V} {us:Yf} (n:Nat),zU xs us->zU (xs.take n) (us.take n)
 |_,_,0,_=> .nil
 |_,_,_+1,.nil=> .nil
 |_,_,n+1,.cons r t=> .cons r (zU.take n t)
def zU.drop:∀ {xs:List V} {us:Yf} (n:Nat),zU xs us->zU (xs.drop n) (us.drop n)
 |_,_,0,r=>r
 |_,_,_+1,.nil=> .nil
 |_,_,n+1,.cons _ t=>zU.drop n t
def DW:Option V->Option Value->Prop
 |some v,some u=>zc v u
 |none,none=>True
 |_,_=>False
def KV {κ:Type}:List (κ × V)->List (κ × Value)->Prop:=Paired λ(p:κ × V) (q:κ × Value)=>p.1=q.1/\zc p.2 q.2
def kV:Key->V
 |.inl i=> .int i
 |.inr x=> .str x
set_option genInjectivity true in
inductive HO where
 |lst (xs:List V)
 |tup (xs:List V)
 |dK (kvs:List (Key × V))|dT (kvs:List (List Key × V))
 |set (S:Int->Bool) (n:Nat)
 |ins (C dx:Yt) (fs:List (Str × V))
 |own (x:Yt)
 |xd (fs:List (Str × V))
 |met (f x:Yt)
 |rng (lo hi:Int)
 |frz (o:Obj) (u:HO)
 |tbl (ps:Yp)
 |ext (φ:Heap->Prop)
abbrev Hp:=Addr->Option HO
def upd (H:Hp) (a:Yt) (o:HO):Hp:=λb=>if b=a then some o else H b
def CH {H:Hp} {a:Yt} {o:HO}:upd H a o a=some o:=by erw[upd];rw[AD rfl]
def zS {H:Hp} {a b:Yt} {o:HO} (h:b≠a):upd H a o b=H b:=by erw[upd];rw[AE h]
def Fz {H:Hp} {a b:Yt} {o u:HO} (h:H a=some o) (h':H b=some u) (d:o≠u):a≠b:=by
 intro e;subst e;rw[h]at h';calc d (BQ h')
def DO {H:Hp} {a b:Yt} {o:HO} (h:H a=some o) (h':H b=none):a≠b:=by
 intro e;subst e;rw[h]at h';ext h'
def Dh (h:Heap) (a:Addr) (items:Array Value):Prop:=∃ o,h.get? a=some o/\o.cls=.type "tuple" /\ (∃ n,o.data=.seq items n)/\o.dict=none
def Dh.tup {h:Heap} {a:Yt} {items:Yp} (x:Dh h a items):IsTup h a items:=let ⟨o,e,c,d,_⟩:=x;⟨o,e,c,d⟩
def Dh.lt {h:Heap} {a:Yt} {items:Yp} (x:Dh h a items):a<h.objs.size:=let ⟨_,e,_⟩:=x;AG e
def Dh.new (h:Heap) (items:Array Value):Dh (h.push { cls:=.type "tuple", data:=.seq items }) h.objs.size items:=⟨_,AK _ rfl,rfl,⟨_,rfl⟩,rfl⟩
section
variable (P:Ym) (w:Yo)
def zy (H:Hp) (h:Heap) (a:Yt):HO->Prop
 |.lst xs=>xs.length<=sizeLine /\ ∃ (its:List Value) (n:Nat),zU xs its/\h.get? a=some { cls:=.type "list", data:=.seq its.toArray n }
 |.tup xs=>xs.length<=sizeLine /\ ∃ its:List Value,zU xs its/\Dh h a its.toArray
 |.dK kvs=>kvs.length<=sizeLine/\(a==sysModules)=false /\ ∃ vs,KV kvs vs/\h.DictOf (zf P w) a vs
 |.dT kvs=>kvs.length<=sizeLine/\(a==sysModules)=false /\ ∃ xs:List (List Key × Addr × Value),
   Paired (λ(p:List Key × V) (q:List Key × Addr × Value)=>p.1=q.1/\H q.2.1=some (.tup (p.1.map kV))/\zc p.2 q.2.2) kvs xs /\
   ∃ o es ep,h.get? a=some o/\o.ExactDict/\o.data=.dict es ep/\es.toList=xs.map (entryOfKey (tupleKind (zf P w)))/\(xs.map (·.1)).Nodup
 |.set S n=>h.SetOf (intKind P w) a S n
 |.ins C dx fs=>H dx=some (.own a)/\fs.length<=1000/\dx≠a/\h.get? a=some (PySem.W.instObj C dx) /\
   ∃ mA,h.Ns1 dx mA/\(∀ f,DW (fs.lookup f) (mA f))/\PySem.Within mA (fs.map (·.1))
 |.own _=>∃ o,h.get? a=some o
 |.xd fs=>∃ mA,h.Ns1 a mA /\ ∀ f,DW (fs.lookup f) (mA f)
 |.rng lo hi=>∃ t u v,h.get? a=some { cls:=.type "range", data:=.fields #[.int lo t,.int hi u,.int 1 v] }
 |.frz o u=>h.get? a=some o/\zy H h a u
 |.tbl ps=>h.get? a=some { cls:=.none,data:=.fields ps }
 |.met f x=>h.get? a=some (PySem.W.methodObj (.ref f) (.ref x))
 |.ext φ=>φ h/\(∃ o,h.get? a=some o) /\ ∀ h1 h2:Heap,φ h1->(∀ o,h1.get? a=some o->h2.get? a=some o)->φ h2
def HOk (H:Hp) (h:Heap):Prop:=∀ a o,H a=some o->zy P w H h a o
end
section
variable {P:Ym} {w:Yo} {H H':Hp} {h h':Heap} {a:Yt} {o:HO}
def zy.lt (x:zy P w H h a o):a<h.objs.size:=by
 cases o with
 |lst xs=>let⟨_,_,_,_,e⟩:=x;calc AG e
 |tup xs=>let⟨_,_,_,p⟩:=x;calc p.lt
 |dK kvs=>let⟨_,_,_,_,o,_,_,e,_⟩:=x;calc AG e
 |dT kvs=>let⟨_,_,_,_,o,_,_,e,_⟩:=x;calc AG e
 |set S n=>let⟨o,_,_,_,e,_⟩:=x;calc AG e
 |ins C dx fs=>let⟨_,_,_,e,_⟩:=x;calc AG e
 |own y=>let⟨_,e⟩:=x;calc AG e
 |xd fs=>let⟨_,⟨_,_,_,e,_⟩,_⟩:=x;calc AG e
 |rng lo hi=>let⟨_,_,_,e⟩:=x;calc AG e
 |frz ob u=>let⟨e,_⟩:=x;calc AG e
 |tbl ps=>calc AG (show h.get? a=some _ from x)
 |met f y=>calc AG (show h.get? a=some _ from x)
 |ext φ=>let⟨_,⟨_,e⟩,_⟩:=x;calc AG e
def Paired.mapP {α β:Type} {F G:α->β->Prop}:∀ {l₁:List α} {l₂:List β},Paired F l₁ l₂->(∀ a b,F a b->G a b)->Paired G l₁ l₂
 |_,_,.nil,_=> .nil
 |_,_,.cons r t,f=> .cons (f _ _ r) (Paired.mapP t f)
def zy.stay (x:zy P w H h a o) (k:∀ b u,(b=a\/H b=some (.own a))->h.get? b=some u->h'.get? b=some u)
  (ho:∀ b,H b=some (.own a)->H' b=some (.own a)) (ht:∀ b xs,H b=some (.tup xs)->H' b=some (.tup xs)):zy P w H' h' a o:=by
 induction o with
 |lst xs=>let⟨z,its,n,r,e⟩:=x;calc ⟨z,its,n,r,k _ _ (.inl rfl) e⟩
 |tup xs=>let⟨z,its,r,ob,e,c⟩:=x;calc ⟨z,its,r,ob,k _ _ (.inl rfl) e,c⟩
 |dK kvs=>let⟨z,y,vs,r,ob,es,ep,e,c⟩:=x;calc ⟨z,y,vs,r,ob,es,ep,k _ _ (.inl rfl) e,c⟩
 |dT kvs=>
  let⟨z,y,xs,r,ob,es,ep,e,c⟩:=x;exact ⟨z,y,xs,Paired.mapP r λp q z=>⟨z.1,ht _ _ z.2.1,z.2.2⟩,ob,es,ep,k _ _ (.inl rfl) e,c⟩
 |set S n=>let⟨ob,es,ep,t,e,c⟩:=x;calc ⟨ob,es,ep,t,k _ _ (.inl rfl) e,c⟩
 |ins C dx fs=>
  let⟨d,z,ne,e,mA,⟨od,es,ep,e2,c⟩,r⟩:=x;calc ⟨ho _ d,z,ne,k _ _ (.inl rfl) e,mA,⟨od,es,ep,k _ _ (.inr d) e2,c⟩,r⟩
 |own y=>let⟨ob,e⟩:=x;calc ⟨ob,k _ _ (.inl rfl) e⟩
 |xd fs=>let⟨mA,⟨od,es,ep,e,c⟩,r⟩:=x;calc ⟨mA,⟨od,es,ep,k _ _ (.inl rfl) e,c⟩,r⟩
 |rng lo hi=>let⟨t,u,v,e⟩:=x;calc ⟨t,u,v,k _ _ (.inl rfl) e⟩
 |frz ob u ih=>let⟨e,q⟩:=x;calc ⟨k _ _ (.inl rfl) e,ih q⟩
 |tbl ps=>
  let e:h.get? a=some { cls:=.none,data:=.fields ps }:=x;show h'.get? a=some { cls:=.none,data:=.fields ps };calc k a _ (.inl rfl) e
 |met f y=>
  let e:h.get? a=some (PySem.W.methodObj (.ref f) (.ref y)):=x;show h'.get? a=some (PySem.W.methodObj (.ref f) (.ref y));calc k a _ (.inl rfl) e
 |ext φ=>let⟨p,⟨o,e⟩,st⟩:=x;calc ⟨st _ _ p λo q=>k _ _ (.inl rfl) q,⟨o,k _ _ (.inl rfl) e⟩,st⟩
def HOk.lt (x:HOk P w H h) (e:H a=some o):a<h.objs.size:=(x a o e).lt
def HOk.fresh (x:HOk P w H h) (e:h.objs.size<=a):H a=none:=by
 cases q:H a with
 |none=>rfl
 |some u=>calc absurd (BH (x.lt q) e) (BK _)
def HOk.kept (x:HOk P w H h) (k:∀ b u,h.get? b=some u->h'.get? b=some u):HOk P w H h':=λa o e=>
 (x a o e).stay (λb u _ q=>k b u q) (λ_ q=>q) λ_ _ q=>q
def HOk.laid (x:HOk P w H h) (k:∀ b u,h.get? b=some u->h'.get? b=some u) (hp:h.objs.size<=a) (new:zy P w (upd H a o) h' a o):HOk P w (upd H a o) h':=λb u e=>by
 let hn:=x.fresh hp;by_cases hb:b=a
 .subst hb;rw[CH]at e;ext e;exact new
 .rw[zS hb]at e;exact (x b u e).stay (λc v _ q=>k c v q) (λc q=>by rw[zS (DO q hn)];calc q) λc xs q=>by rw[zS (DO q hn)];calc q
end
def Rd (H:Hp) (a:Yt) (u:HO):Prop:=H a=some u \/ ∃ o,H a=some (.frz o u)
def Rd.ok {P:Ym} {w:Yo} {H:Hp} {h:Heap} {a:Yt} {u:HO} (r:Rd H a u) (x:HOk P w H h):zy P w H h a u:=by
 rcases r with r|⟨o,r⟩
 .exact x a u r
 .obtain ⟨_,q⟩:=x a _ r;calc q
def Mut:Option HO->Prop
 |some (.lst _)=>True
 |some (.dK _)=>True
 |some (.dT _)=>True
 |some (.set _ _)=>True
 |some (.ins _ _ _)=>True
 |some (.ext _)=>True
 |_=>False
section
variable {P:Ym} {w:Yo} {H:Hp} {h h':Heap} {x e:Yt} {o':HO}
def HOk.write (ok:HOk P w H h) (mu:Mut (H x)) (he:e=x\/H e=some (.own x)) (k:∀ b u,b≠e->h.get? b=some u->h'.get? b=some u) (heo:∃ u,h'.get? e=some u)
  (new:zy P w (upd H x o') h' x o'):HOk P w (upd H x o') h':=λb u q=>by
 let nown:∀ c y,H c=some (.own y)->c≠x:=λc y r z=>by subst z;rw[r]at mu;exact mu
 let ntup:∀ c xs,H c=some (.tup xs)->c≠x:=λc xs r z=>by subst z;rw[r]at mu;exact mu
 by_cases hb:b=x
 .subst hb;rw[CH]at q;ext q;exact new
 .rw[zS hb]at q;by_cases hbe:b=e
  .have q':H b=some (.own x):=by
    rcases he with z|z
    .exact absurd (hbe.trans z) hb
    .rw[hbe];exact z
   rw[q]at q';ext q';let⟨v,hv⟩:=heo;exact ⟨v,by rw[hbe];calc hv⟩
  .refine (ok b u q).stay (λc v hc r=>k c v ?_ r) (λc r=>by rw[zS (nown c b r)];exact r) λc xs r=>by rw[zS (ntup c xs r)];exact r
   rcases hc with rfl|hc
   .exact hbe
   .rintro rfl;rcases he with z|z
    .exact nown c b hc z
    .rw[hc]at z;ext z;calc hb rfl
end
structure Un (fs ex:Yg) (H H':Hp) (h h':Heap):Prop where
 keep:∀ b o,h.get? b=some o->H b=none->b∉fs->b∉ex->h'.get? b=some o
 slot:∀ b o,h.get? b=some o->H b=none->b∈fs->b∉ex -> ∃ sl,h'.get? b=some { o with slots:=sl }
 free:∀ b o,h.get? b=some o->H b=none->b∉ex->H' b=none
 there:∀ b o,h.get? b=some o->b∉ex -> ∃ o',h'.get? b=some o'
 tups:∀ b xs,H b=some (.tup xs)->H' b=some (.tup xs)
 frzs:∀ b o u,H b=some (.frz o u)->H' b=some (.frz o u)
 tbls:∀ b ps,H b=some (.tbl ps) -> ∃ more,H' b=some (.tbl (ps++more))
section
variable {fs fs' ex ex':Yg} {H H1 H2:Hp} {h h1 h2 h':Heap} {a x e:Yt} {o:HO}
def Un.any (u:Un fs ex H H1 h h1) {b:Yt} {ob:Obj} (q:h.get? b=some ob) (n:H b=none) (hx:b∉ex):∃ sl,h1.get? b=some { ob with slots:=sl }:=by
 by_cases hb:b∈fs
 .exact u.slot b ob q n hb hx
 .exact ⟨ob.slots,u.keep b ob q n hb hx⟩
def Un.kept (k:∀ b u,h.get? b=some u->h'.get? b=some u):Un fs ex H H h h' :=
 ⟨λb ob q _ _ _=>k b ob q,λb ob q _ _ _=>⟨ob.slots,k b ob q⟩,λ_ _ _ n _=>n,λb ob q _=>⟨ob,k b ob q⟩,λ_ _ q=>q,λ_ _ _ q=>q,λ_ ps q=>⟨#[],by rw[q];simp⟩⟩
def Un.refl:Un fs ex H H h h:=Un.kept λ_ _ q=>q
def Un.laid (k:∀ b u,h.get? b=some u->h'.get? b=some u) (hp:h.objs.size<=a) (hn:H a=none):Un fs ex H (upd H a o) h h' where
 keep:=λb u q _ _ _=>k b u q;slot:=λb u q _ _ _=>⟨u.slots,k b u q⟩;free:=λb u q n _=>by rw[zS (AU (BH (AG q) hp))];exact n
 there:=λb u q _=>⟨u,k b u q⟩;tups:=λb xs q=>by rw[zS (DO q hn)];exact q
 frzs:=λb u xs q=>by rw[zS (DO q hn)];exact q
 tbls:=λb ps q=>⟨#[],by rw[zS (DO q hn),q];simp⟩
def Un.write (mu:Mut (H x)) (he:e=x\/H e=some (.own x)) (k:∀ b u,b≠e->h.get? b=some u->h'.get? b=some u) (heo:∃ u,h'.get? e=some u):Un fs ex H (upd H x o) h h':=by
 let hx:∀ b,H b=none->b≠x:=λb n z=>by subst z;rw[n]at mu;exact mu
 let hb:∀ b,H b=none->b≠e:=λb n z=>by
  subst z;rcases he with r|r
  .exact hx b n r
  .rw[n]at r;ext r
 let hm:∀ b u,H b=some u -> ¬ Mut (some u)->b≠x:=λb u q nm z=>by subst z;rw[q]at mu;exact nm mu
 refine ⟨λb u q n _ _=>k b u (hb b n) q,λb u q n _ _=>⟨u.slots,k b u (hb b n) q⟩,λb u q n _=>by rw[zS (hx b n)];exact n,λb u q _=>?_,
  λb xs q=>by rw[zS (hm b _ q λz=>z)];exact q,λb u xs q=>by rw[zS (hm b _ q λz=>z)];exact q,λb ps q=>⟨#[],by rw[zS (hm b _ q λz=>z),q];simp⟩⟩
 by_cases hbe:b=e
 .subst hbe;exact heo
 .exact ⟨u,k b u hbe q⟩
end
def trk (h:Heap) (H:Hp):List Addr:=(List.range h.objs.size).filter λa=>(H a).isSome
def D7 (h:Heap) (H:Hp):Heap:=PySem.W.hideAll h (trk h H)
def R6 (h:Heap) (H:Hp):(D7 h H).objs.size=h.objs.size:=PySem.W.hideAll_size _ _
def gJ {h:Heap} {H:Hp} {b:Yt} {o:Obj} (e:h.get? b=some o) (n:H b=none):(D7 h H).get? b=some o :=
 PySem.W.hideAll_get _ e λhm=>by
  let q:(H b).isSome=true:=(List.mem_filter.mp hm).2;rw[n]at q;simp at q
def Xb {h:Heap} {H:Hp} {b:Yt} {o:Obj} (e:(D7 h H).get? b=some o):h.get? b=some o/\H b=none:=by
 let e':h.get? b=some o:=PySem.W.of_hideAll (trk h H) e;calc ⟨e',?_⟩;cases q:H b with
 |none=>rfl
 |some x=>
  let hm:b∈trk h H:=List.mem_filter.mpr ⟨CD.mpr (AG e'),by simp[q]⟩;let z:(D7 h H).get? b=none:=PySem.W.hideAll_none (trk h H) hm;rw[z]at e;ext e
def BMn (mg:Str->Option Value) (h:Heap):Prop:=∃ bm ob,mg "__builtins__" = some (.ref bm)/\bm≠builtinsNs/\h.get? bm=some ob/\ob.cls=.type "module" /\ ob.dict=some builtinsNs/\ob.data=.plain
structure Mod (K:Yb) (mg:Yh) (base:Heap):Prop where
 kin:K.In base
 glob:base.Ns mainGlobals mg
 blt:∃ mb,base.Ns builtinsNs mb /\ ∀ x:Str,x ≠ "__name__" -> mb x=bootBuiltins x
 nolimit:base.NoLimit
 bmn:BMn mg base
structure Cx where
 prog:Program
 w:World
 K:PySem.W.Frag
 mg:Str->Option Value
 base:Heap
 A:Around
 N:List Str
 s₀:Shared
 H₀:Hp
 env:Env
 outer:List Env
 stack:List Env
 ex:List Addr
 fn:Str->Bool
 calm:Bool
 pn:List (Addr × Obj)
 xe:Value->Shared->Prop
def frs (l:List Env):List Addr:=l.filterMap (·.frame)
abbrev Cx.fs (X:Cx):List Addr:=frs X.outer
def Vis (sc:Y0) (x:Str):Prop:=sc.names.lookup x=some .local\/sc.names.lookup x=some .cell\/sc.names.lookup x=some .free
def Loc (sc:Y0) (x:Str):Prop:=sc.names.lookup x=some .local\/sc.names.lookup x=some .cell
def YH (env:Env) (h:Heap) (m:Yh) (x:Str) (u:Yu):Prop :=
 (env.kindOf x=some .local/\m x=some u)\/((env.kindOf x=some .cell\/env.kindOf x=some .free) /\ ∃ c,env.cells.lookup x=some c/\h.IsCell c (some u))
structure Cx.Ok (X:Cx):Prop where
 mod:Mod X.K X.mg X.base
 kind:X.env.scope.kind=.function
 glob:X.env.globals=mainGlobals
 blt:X.env.builtins=builtinsNs
 above:⇑X.s₀<=X.env.locals
 inj:∀ x y c,X.env.cells.lookup x=some c->X.env.cells.lookup y=some c->x=y
 has:∀ x,(X.env.kindOf x=some .cell\/X.env.kindOf x=some .free) -> ∃ c,X.env.cells.lookup x=some c
 cab:∀ x c,X.fn x=true->X.env.cells.lookup x=some c->⇑X.s₀<=c
 hd:X.calm=true->X.A.handled=none
 frames:X.A.frames=some X.stack
 stk:X.stack=X.outer\/(X.stack=X.env::X.outer/\X.env.frame=some X.env.locals)
 exf:∀ b∈X.ex,b≠X.env.locals /\ ∀ x c,X.env.cells.lookup x=some c->c≠b
 bs:∀ b o,X.base.get? b=some o->X.s₀.heap.get? b=some o/\X.H₀ b=none
 bsz:X.base.objs.size<=⇑X.s₀
 noex:∀ b o,X.base.get? b=some o->b∉X.ex
 exfs:∀ b∈X.ex,b∉X.fs
 funs:X.s₀.heap.FunFrames X.base X.outer
 frf:∀ b∈X.fs,X.H₀ b=none
structure Inv (X:Cx) (zB:Yd) (Y:List (Option V)) (H:Hp) (s:Yl):Prop where
 ok:X.Ok
 os:s.os=X.s₀.os
 bare:AllBare s.gens
 base:Un X.fs X.ex X.H₀ H X.s₀.heap s.heap
 loc:∃ m,s.heap.Ns X.env.locals m /\ ∀ (i:Nat) (x:Str) (v:V),X.N[i]?=some x->Y[i]?=some (some v)->Vis X.env.scope x -> ∃ u,zc v u/\YH X.env s.heap m x u
 cell:∀ x c,X.env.cells.lookup x=some c -> ∃ v,s.heap.IsCell c v
 free:H X.env.locals=none
 freeC:∀ x c,X.env.cells.lookup x=some c->H c=none
 pin:∀ p∈X.pn++zB,s.heap.get? p.1=some p.2/\H p.1=none/\p.1≠X.env.locals/\p.1∉X.fs /\ ∀ v,p.2.data≠.cell v
 hok:HOk X.prog X.w H s.heap
 len:Y.length=X.N.length
section
variable {X:Cx} {zB:Yd} {Y:List (Option V)} {H H':Hp} {s:Yl} {h':Heap}
def Cx.Ok.nofr (ok:X.Ok) {b:Yt} {o:Obj} (e:X.base.get? b=some o):b∉X.fs:=λhb=>by
 have:=(ok.funs.mem hb).1;rw[e]at this;ext this
def Inv.bs (I:Inv X zB Y H s):∀ b o,X.base.get? b=some o->s.heap.get? b=some o/\H b=none:=λb o e=>
 ⟨I.base.keep b o (I.ok.bs b o e).1 (I.ok.bs b o e).2 (I.ok.nofr e) (I.ok.noex b o e),I.base.free b o (I.ok.bs b o e).1 (I.ok.bs b o e).2 (I.ok.noex b o e)⟩
def Inv.bk (I:Inv X zB Y H s):∀ b o,X.base.get? b=some o->s.heap.get? b=some o:=λb o e=>(I.bs b o e).1
def Inv.mod (I:Inv X zB Y H s):Mod X.K X.mg X.base:=I.ok.mod
def Inv.kIn (I:Inv X zB Y H s):X.K.In s.heap:=I.ok.mod.kin.keeps I.bk
def Inv.lt (I:Inv X zB Y H s):X.env.locals<⇑s:=let ⟨_,hn,_⟩:=I.loc;hn.lt
def Inv.sz (I:Inv X zB Y H s):⇑X.s₀<=⇑s:=BY I.ok.above (De I.lt)
def Inv.nofs (I:Inv X zB Y H s) {a:Yt} (h:⇑s<=a):a∉X.fs:=λhb=>by
 let⟨_,o,ho,_⟩:=I.ok.funs.mem hb;calc absurd (BH (AG ho) (BY I.sz h)) (BK _)
def Inv.cne (I:Inv X zB Y H s):∀ x c,X.env.cells.lookup x=some c->c≠X.env.locals:=λx c e z=>by
 let⟨v,o,ho,hd⟩:=I.cell x c e;let⟨m,⟨o',es,ep,ho',hd',_⟩,_⟩:=I.loc;rw[z,ho']at ho;ext ho;rw[hd']at hd;ext hd
def Inv.funs (I:Inv X zB Y H s):s.heap.FunFrames X.base X.outer:=by
 let all:∀ (l:List Env),(∀ b∈frs l,b∈X.fs)->X.s₀.heap.FunFrames X.base l->s.heap.FunFrames X.base l:=by
  intro l;induction l with
  |nil=>intro _ _;trivial
  |cons env r ih=>
   intro hs hl;let⟨hk,⟨L,o,hf,hn,ho,hd⟩,hr⟩:=hl;let hL:L∈X.fs:=hs L (by erw[frs];rw[List.filterMap_cons,hf];calc AM);let⟨sl,e⟩:=I.base.slot L o ho (I.ok.frf L hL) hL λz=>I.ok.exfs L z hL;exact ⟨hk,⟨L,_,hf,hn,e,hd⟩,ih (λb hb=>hs b (by erw[frs];rw[List.filterMap_cons,hf];calc AQ _ hb)) hr⟩
 calc all X.outer (λ_ hb=>hb) I.ok.funs
def Inv.stack (I:Inv X zB Y H s):s.heap.FunFrames X.base X.stack:=by
 rcases I.ok.stk with e|⟨e,hf⟩
 .rw[e];exact I.funs
 .rw[e];let⟨m,hn,_⟩:=I.loc;calc .cons (by rw[I.ok.kind];decide) hf hn ?_ I.funs;calc Heap.get?_none_of_le (BY I.ok.bsz I.ok.above)
def Inv.stkSub (I:Inv X zB Y H s):∀ b∈frs X.stack,b∈X.env.locals::X.fs:=λb hb=>by
 rcases I.ok.stk with e|⟨e,hf⟩
 .rw[e]at hb;exact AQ _ hb
 .rw[e]at hb;erw[frs]at hb;rw[List.filterMap_cons,hf]at hb;calc hb
def Inv.stkFree (I:Inv X zB Y H s):∀ b∈frs X.stack,H b=none:=λb hb=>by
 rcases AJ.mp (I.stkSub b hb)with e|hb
 .rw[e];exact I.free
 .obtain ⟨_,o,ho,_⟩:=I.ok.funs.mem hb;calc I.base.free b o ho (I.ok.frf b hb) λz=>I.ok.exfs b z hb
def Inv.step {g':Array GenState} {t':Nat} {d':Drawn} {ch:Yg} (I:Inv X zB Y H s)
  (hch:∀ b∈ch,(b∈X.ex\/⇑X.s₀<=b)/\b≠X.env.locals/\(∀ x c,X.env.cells.lookup x=some c->c≠b) /\ ∀ p∈X.pn++zB,p.1≠b)
  (keep:∀ b o,b≠X.env.locals->b∉X.fs->b∉ch->s.heap.get? b=some o->H b=none->h'.get? b=some o)
  (slot:∀ b o,b≠X.env.locals->b∈X.fs->b∉ch->s.heap.get? b=some o->H b=none -> ∃ sl,h'.get? b=some { o with slots:=sl }) (free:∀ b o,b∉ch->s.heap.get? b=some o->H b=none->H' b=none)
  (there:∀ b o,b∉ch->s.heap.get? b=some o -> ∃ o',h'.get? b=some o')
  (tups:∀ b xs,H b=some (.tup xs)->H' b=some (.tup xs)) (frzs:∀ b o u,H b=some (.frz o u)->H' b=some (.frz o u)) (tbls:∀ b ps,H b=some (.tbl ps) -> ∃ more,H' b=some (.tbl (ps++more)))
  (ns:∀ m,s.heap.Ns X.env.locals m->h'.Ns X.env.locals m) (hok:HOk X.prog X.w H' h') (hg:AllBare g') :
  Inv X zB Y H' { s with heap:=h',gens:=g',drawn:=d',toks:=t' }:=by
 let neL:∀ b o,X.s₀.heap.get? b=some o->b≠X.env.locals:=λb o e=>AU (BH (AG e) I.ok.above);let neC:∀ b o,X.s₀.heap.get? b=some o->b∉X.ex->b∉ch:=λb o e hx hb=>by
  rcases (hch b hb).1 with z|z
  .exact hx z
  .exact absurd (BH (AG e) z) (BK _)
 let cellK:∀ x c,X.env.cells.lookup x=some c -> ∀ v,s.heap.IsCell c v->h'.IsCell c v:=λx c e v ⟨o,ho,hd⟩=>by
  let nch:c∉ch:=λz=>(hch c z).2.2.1 x c e rfl;by_cases hc:c∈X.fs
  .obtain ⟨sl,q⟩:=slot c o (I.cne x c e) hc nch ho (I.freeC x c e);exact ⟨_,q,hd⟩
  .exact ⟨o,keep c o (I.cne x c e) hc nch ho (I.freeC x c e),hd⟩
 refine ⟨I.ok,I.os,hg,⟨λb o e n hb hx=>?_,λb o e n hb hx=>?_,λb o e n hx=>?_,λb o e hx=>?_,λb xs e=>tups b xs (I.base.tups b xs e),λb o xs e=>frzs b o xs (I.base.frzs b o xs e),λb ps e=>?_⟩,?_,λx c e=>?_,?_,λx c e=>?_,λp hp=>?_,hok,I.len⟩
 .exact keep b o (neL b o e) hb (neC b o e hx) (I.base.keep b o e n hb hx) (I.base.free b o e n hx)
 .obtain ⟨sl,e1⟩:=I.base.slot b o e n hb hx;let⟨sl',e2⟩:=slot b _ (neL b o e) hb (neC b o e hx) e1 (I.base.free b o e n hx);exact ⟨sl',e2⟩
 .obtain ⟨o',e1⟩:=I.base.there b o e hx;exact free b o' (neC b o e hx) e1 (I.base.free b o e n hx)
 .obtain ⟨o',e1⟩:=I.base.there b o e hx;exact there b o' (neC b o e hx) e1
 .obtain ⟨m1,e1⟩:=I.base.tbls b ps e;let⟨m2,e2⟩:=tbls b _ e1;exact ⟨m1++m2,by rw[e2,Array.append_assoc]⟩
 .obtain ⟨m,hn,hl⟩:=I.loc;refine ⟨m,ns m hn,λi x v e1 e2 e3=>?_⟩;let⟨u,r,l⟩:=hl i x v e1 e2 e3;refine ⟨u,r,?_⟩;rcases l with l|⟨k,c,e,z⟩
  .exact .inl l
  .exact .inr ⟨k,c,e,cellK x c e _ z⟩
 .obtain ⟨v,z⟩:=I.cell x c e;exact ⟨v,cellK x c e v z⟩
 .obtain ⟨m,⟨o,_,_,ho,_⟩,_⟩:=I.loc;exact free _ o (λz=>(hch _ z).2.1 rfl) ho I.free
 .obtain ⟨v,o,ho,hd⟩:=I.cell x c e;exact free c o (λz=>(hch c z).2.2.1 x c e rfl) ho (I.freeC x c e)
 .obtain ⟨e,n,ne,nf,d⟩:=I.pin p hp;let nch:p.1∉ch:=λz=>(hch p.1 z).2.2.2 p hp rfl;calc ⟨keep p.1 p.2 ne nf nch e n,free p.1 p.2 nch e n,ne,nf,d⟩
def Inv.un {t':Nat} (I:Inv X zB Y H s) (u:Un X.fs [] H H' s.heap h') (hok:HOk X.prog X.w H' h'):Inv X zB Y H' { s with heap:=h',toks:=t' }:=by
 let⟨m,⟨o,es,ep,ho,r⟩,_⟩:=id I.loc;let⟨sl,hL⟩:=u.any ho I.free (by simp);exact I.step (g':=s.gens) (d':=s.drawn) (ch:=[]) (λ_ z=>nomatch z) (λb o _ hb _ e n=>u.keep b o e n hb (by simp)) (λb o _ hb _ e n=>u.slot b o e n hb (by simp)) (λb o _ e n=>u.free b o e n (by simp)) (λb o _ e=>u.there b o e (by simp)) u.tups u.frzs u.tbls (λm' hm=>by
  let⟨o',es',ep',ho',r'⟩:=hm;rw[ho]at ho';ext ho';calc ⟨_,es',ep',hL,r'⟩) hok I.bare
def Inv.call {g':Array GenState} {t':Nat} {d':Drawn} {ch:Yg} (I:Inv X zB Y H s) (u:Un (frs X.stack) ch H H' s.heap h') (hok:HOk X.prog X.w H' h') (hg:AllBare g')
  (hch:∀ b∈ch,(b∈X.ex\/⇑X.s₀<=b)/\b≠X.env.locals/\(∀ x c,X.env.cells.lookup x=some c->c≠b) /\ ∀ p∈X.pn++zB,p.1≠b) :
  Inv X zB Y H' { s with heap:=h',gens:=g',drawn:=d',toks:=t' }:=by
 let⟨m,⟨o,es,ep,ho,r⟩,_⟩:=id I.loc;let⟨sl,hL⟩:=u.any ho I.free λz=>(hch _ z).2.1 rfl;exact I.step (ch:=ch) hch (λb o hL hb hc e n=>u.keep b o e n (λz=>(AJ.mp (I.stkSub b z)).elim hL hb) hc) (λb o _ _ hc e n=>u.any e n hc) (λb o hc e n=>u.free b o e n hc) (λb o hc e=>u.there b o e hc) u.tups u.frzs u.tbls (λm' hm=>by
  let⟨o',es',ep',ho',r'⟩:=hm;rw[ho]at ho';ext ho';calc ⟨_,es',ep',hL,r'⟩) hok hg
def Inv.turned {t':Nat} {it:Yt} (I:Inv X zB Y H s) (k:∀ b o,b≠it->s.heap.get? b=some o->h'.get? b=some o) (hn:H it=none) (hL:it≠X.env.locals)
  (h1:it∈X.ex\/⇑X.s₀<=it) (h2:∀ x c,X.env.cells.lookup x=some c->c≠it) (h3:∀ p∈X.pn++zB,p.1≠it):Inv X zB Y H { s with heap:=h',toks:=t' }:=by
 let nit:∀ b u,H b=some u->b≠it:=λb u e z=>by rw[z,hn]at e;ext e
 refine I.step (g':=s.gens) (d':=s.drawn) (ch:=[it]) (λb hb=>?_) (λb o _ _ hc e _=>k b o (λz=>hc (by simp[z])) e) (λb o _ _ hc e _=>⟨o.slots,k b o (λz=>hc (by simp[z])) e⟩) (λ_ _ _ _ n=>n)
  (λb o hc e=>⟨o,k b o (λz=>hc (by simp[z])) e⟩) (λ_ _ e=>e) (λ_ _ _ e=>e) (λb ps e=>⟨#[],by rw[e];simp⟩) (λm hm=>?_) (λb u e=>?_) I.bare
 .have e:b=it:=by simpa using hb
  subst e;exact ⟨h1,hL,h2,h3⟩
 .obtain ⟨o,es,ep,ho,r⟩:=hm;exact ⟨o,es,ep,k _ o (Ne.symm hL) ho,r⟩
 .refine (I.hok b u e).stay (λc v hc q=>k c v ?_ q) (λ_ q=>q) λ_ _ q=>q;rcases hc with z|z
  .rw[z];exact nit b u e
  .exact nit c _ z
def Inv.tok (I:Inv X zB Y H s) (t:Nat):Inv X zB Y H { s with toks:=t }:=I.un (h':=s.heap) (t':=t) Un.refl I.hok
def Inv.kept {t':Nat} (I:Inv X zB Y H s) (k:∀ b u,s.heap.get? b=some u->h'.get? b=some u):Inv X zB Y H { s with heap:=h',toks:=t' }:=I.un (Un.kept k) (I.hok.kept k)
def Inv.laid {a:Yt} {o:HO} {t':Nat} (I:Inv X zB Y H s) (k:∀ b u,s.heap.get? b=some u->h'.get? b=some u) (hp:⇑s<=a) (new:zy X.prog X.w (upd H a o) h' a o) :
  Inv X zB Y (upd H a o) { s with heap:=h',toks:=t' }:=I.un (Un.laid k hp (I.hok.fresh hp)) (I.hok.laid k hp new)
def Inv.write {x e:Yt} {o:HO} {t':Nat} (I:Inv X zB Y H s) (mu:Mut (H x)) (he:e=x\/H e=some (.own x)) (k:∀ b u,b≠e->s.heap.get? b=some u->h'.get? b=some u) (heo:∃ u,h'.get? e=some u)
  (new:zy X.prog X.w (upd H x o) h' x o):Inv X zB Y (upd H x o) { s with heap:=h',toks:=t' }:=I.un (Un.write mu he k heo) (I.hok.write mu he k heo new)
def Inv.weak {Y':List (Option V)} (I:Inv X zB Y H s) (hl:Y'.length=Y.length) (w:∀ (i:Nat) v,Y'[i]?=some (some v)->Y[i]?=some (some v)):Inv X zB Y' H s :=
 ⟨I.ok,I.os,I.bare,I.base,let ⟨m,hn,hl'⟩:=I.loc;⟨m,hn,λi x v e1 e2 e3=>hl' i x v e1 (w i v e2) e3⟩,I.cell,I.free,I.freeC,I.pin,I.hok,hl.trans I.len⟩
def Inv.pins_of {pins':Yd} (I:Inv X zB Y H s) (h:∀ p∈pins',s.heap.get? p.1=some p.2/\H p.1=none/\p.1≠X.env.locals/\p.1∉X.fs /\ ∀ v,p.2.data≠.cell v):Inv X pins' Y H s :=
 ⟨I.ok,I.os,I.bare,I.base,I.loc,I.cell,I.free,I.freeC,λp hp=>(Au.mp hp).elim (λz=>I.pin p (Bi _ z)) (h p),I.hok,I.len⟩
def Qt {N:Yk} (hN:N.Nodup) {i j:Nat} {x:Str} (a:N[i]?=some x) (b:N[j]?=some x):i=j:=by
 let⟨h1,e1⟩:=AY.mp a;let⟨h2,e2⟩:=AY.mp b;calc (List.getElem_inj hN).mp (e1.trans e2.symm)
def Sm {M:Model} {A:Yn} {E:Yc} {i:Nat} {x:Str} {v:V} {u:Yu} {Q:Unit->Shared->Prop} (I:Inv X zB Y H s) (hN:X.N.Nodup) (hi:X.N[i]?=some x) (hx:Loc X.env.scope x) (r:zc v u)
  (h:∀ s',Inv X zB (Y.set i (some v)) H s'->(∃ a,Heap.SameBut a s.heap s'.heap/\(a=X.env.locals\/X.env.cells.lookup x=some a))->Q Unit.unit s') (hf:X.fn x=true\/X.env.scope.names.lookup x=some .local:=by first|exact .inl rfl|exact .inr rfl|assumption):wpAny M A (storeName X.env x u) Q E s:=by
 let⟨m,hn,hl⟩:=id I.loc;let hcls:(X.env.scope.kind == .class||(X.env.scope.kind == .module&&X.env.locals != X.env.globals))=false:=by rw[I.ok.kind];rfl
 let hiσ:i<Y.length:=by rw[I.len];exact (AY.mp hi).1
 let cne:=I.cne;let tracked:∀ {a:Yt} {h':Heap},(∃ o,s.heap.get? a=some o/\H a=none)->Heap.SameBut a s.heap h'->HOk X.prog X.w H h':=λ{a h'} ha hs b ob e=>by
  let⟨_,_,hfree⟩:=ha;refine (I.hok b ob e).stay (λc w' hc q=>(hs.2 c ?_).trans q) (λ_ q=>q) λ_ _ q=>q;rintro rfl;rcases hc with rfl|hc
  .rw[hfree]at e;ext e
  .rw[hfree]at hc;ext hc
 rcases hx with hk|hk
 .refine wpAny_storeName_local hk hn (λh' hn' hs=>?_) hcls;let⟨oL,_,_,hoL,_⟩:=id hn;refine h _ ⟨I.ok,I.os,I.bare,⟨λb o e n hb hx=>?_,λb o e n hb hx=>?_,I.base.free,λb o e hx=>?_,I.base.tups,I.base.frzs,I.base.tbls⟩,⟨_,hn',λj y v' e1 e2 e3=>?_⟩,λy c e=>?_,I.free,I.freeC,λp hp=>?_,tracked ⟨oL,hoL,I.free⟩ hs,by simpa using I.len⟩ ⟨_,hs,.inl rfl⟩
  .exact (hs.2 b (AU (BH (AG e) I.ok.above))).trans (I.base.keep b o e n hb hx)
  .obtain ⟨sl,e1⟩:=I.base.slot b o e n hb hx;exact ⟨sl,(hs.2 b (AU (BH (AG e) I.ok.above))).trans e1⟩
  .obtain ⟨o',e1⟩:=I.base.there b o e hx;exact ⟨o',(hs.2 b (AU (BH (AG e) I.ok.above))).trans e1⟩
  .by_cases hj:j=i
   .subst hj;rw[hi]at e1;ext e1;rw[DE hiσ]at e2;ext e2;exact ⟨u,r,.inl ⟨hk,by simp⟩⟩
   .rw[Bz (Ne.symm hj)]at e2;let⟨u',r',q⟩:=hl j y v' e1 e2 e3;refine ⟨u',r',?_⟩;rcases q with ⟨k,e⟩|⟨k,c,e,z⟩
    .refine .inl ⟨k,?_⟩;have:y≠x:=λe=>hj (Qt hN e1 (e▸hi));simp[this,e]
    .exact .inr ⟨k,c,e,z.sameBut hs (cne y c e)⟩
  .obtain ⟨w',z⟩:=I.cell y c e;exact ⟨w',z.sameBut hs (cne y c e)⟩
  .obtain ⟨e,n,ne,nf,d⟩:=I.pin p hp;exact ⟨(hs.2 p.1 ne).trans e,n,ne,nf,d⟩
 .have hfn:X.fn x=true:=by
   rcases hf with z|z
   .exact z
   .rw[z]at hk;ext hk
  let⟨c,hc⟩:=I.ok.has x (.inl hk);let⟨w',z⟩:=I.cell x c hc;refine wpAny_storeName_cell I.ok.kind hk hc z (λh' hc' hs=>?_);let⟨oc,hoc,hocd⟩:=id z;refine h { s with heap:=h' } ⟨I.ok,I.os,I.bare,⟨λb o e n hb hx=>?_,λb o e n hb hx=>?_,I.base.free,λb o e hx=>?_,I.base.tups,I.base.frzs,I.base.tbls⟩,⟨m,hn.sameBut hs (Ne.symm (cne x c hc)),λj y v' e1 e2 e3=>?_⟩,λy c' e=>?_,I.free,I.freeC,λp hp=>?_,tracked ⟨oc,hoc,I.freeC x c hc⟩ hs,by simpa using I.len⟩ ⟨c,hs,.inr hc⟩
  .exact (hs.2 b (AU (BH (AG e) (I.ok.cab x c hfn hc)))).trans (I.base.keep b o e n hb hx)
  .obtain ⟨sl,e1⟩:=I.base.slot b o e n hb hx;exact ⟨sl,(hs.2 b (AU (BH (AG e) (I.ok.cab x c hfn hc)))).trans e1⟩
  .obtain ⟨o',e1⟩:=I.base.there b o e hx;exact ⟨o',(hs.2 b (AU (BH (AG e) (I.ok.cab x c hfn hc)))).trans e1⟩
  .by_cases hj:j=i
   .subst hj;rw[hi]at e1;ext e1;rw[DE hiσ]at e2;ext e2;exact ⟨u,r,.inr ⟨.inl hk,c,hc,hc'⟩⟩
   .rw[Bz (Ne.symm hj)]at e2;let⟨u',r',q⟩:=hl j y v' e1 e2 e3;refine ⟨u',r',?_⟩;rcases q with q|⟨k,c',e,z'⟩
    .exact .inl q
    .refine .inr ⟨k,c',e,z'.sameBut hs ?_⟩;rintro rfl;exact hj (Qt hN e1 (I.ok.inj _ _ _ e hc▸hi))
  .by_cases hcc:c'=c
   .subst hcc;exact ⟨_,hc'⟩
   .obtain ⟨w2,z2⟩:=I.cell y c' e;exact ⟨w2,z2.sameBut hs hcc⟩
  .obtain ⟨e,n,ne,nf,d⟩:=I.pin p hp;calc ⟨(hs.2 p.1 ?_).trans e,n,ne,nf,d⟩;intro q;rw[q,hoc]at e;let q':oc=p.2:=BQ e;calc d w' (by rw[<-q'];calc hocd)
def Im {M:Model} {A:Yn} {E:Yc} {i:Nat} {x:Str} {v:V} {u:Yu} {Q:Unit->Shared->Prop} (I:Inv X zB Y H s) (hN:X.N.Nodup) (hi:X.N[i]?=some x) (hx:Loc X.env.scope x) (r:zc v u)
  (h:∀ s',Inv X zB (Y.set i (some v)) H s'->Q Unit.unit s') (hf:X.fn x=true\/X.env.scope.names.lookup x=some .local:=by first|exact .inl rfl|exact .inr rfl|assumption):wpAny M A (storeName X.env x u) Q E s :=
 Sm I hN hi hx r (λs' I' _=>h s' I') hf
def Inv.call' {s':Yl} {ch:Yg} (I:Inv X zB Y H s) (ho:s'.os=s.os) (u:Un (frs X.stack) ch H H' s.heap s'.heap) (hok:HOk X.prog X.w H' s'.heap) (hg:AllBare s'.gens)
  (hch:∀ b∈ch,(b∈X.ex\/⇑X.s₀<=b)/\b≠X.env.locals/\(∀ x c,X.env.cells.lookup x=some c->c≠b) /\ ∀ p∈X.pn++zB,p.1≠b):Inv X zB Y H' s':=by
 let⟨h',g',d',t',o'⟩:=s';let e:o'=s.os:=ho;subst e;calc I.call (g':=g') (t':=t') (d':=d') u hok hg hch
end
abbrev XK:=Value->Option Addr->Hp->Prop
abbrev St:=List (Option V)
abbrev VK:=V->Hp->Prop
abbrev TE:=St->Hp->VK->Prop
abbrev TT:=St->Hp->(Bool->Hp->Prop)->Prop
abbrev TA:=St->Hp->(List V->Hp->Prop)->Prop
structure Ends where
 nx:St->Hp->Prop
 rt:VK
 bk:St->Hp->Prop:=λ_ _=>False
 ct:St->Hp->Prop:=λ_ _=>False
abbrev TS:=Ends->St->Hp->Prop
def EP (X:Cx) (zB:Yd) (Y:St) (Q:VK) (u:Yu) (s':Yl):Prop:=∃ v H',Inv X zB Y H' s'/\zc v u/\Q v H'
def TP (X:Cx) (zB:Yd) (Y:St) (Q:Bool->Hp->Prop) (b:Bool) (s':Yl):Prop:=∃ H',Inv X zB Y H' s'/\Q b H'
def AP (X:Cx) (zB:Yd) (Y:St) (Q:List V->Hp->Prop) (us:Yf) (s':Yl):Prop:=∃ vs H',Inv X zB Y H' s'/\zU vs us/\Q vs H'
def SP (X:Cx) (zB:Yd) (D:Ends) (f:Flow) (s':Yl):Prop :=
 match f with
 |.next=>∃ Y' H',Inv X zB Y' H' s'/\D.nx Y' H'
 |.brk=>∃ Y' H',Inv X zB Y' H' s'/\D.bk Y' H'
 |.cont=>∃ Y' H',Inv X zB Y' H' s'/\D.ct Y' H'
 |.ret u=>∃ v Y' H',Inv X zB Y' H' s'/\zc v u/\D.rt v H'
def PE (X:Cx) (e:Expr) (t:TE):Prop :=
 ∀ (zB:Yd) (s:Yl) (Y:St) (H:Hp) (Q:VK),Inv X zB Y H s->t Y H Q->wpAny (model X.prog X.w) X.A (eval e X.env) (EP X zB Y Q) X.xe s
def PT (X:Cx) (e:Expr) (t:TT):Prop :=
 ∀ (zB:Yd) (s:Yl) (Y:St) (H:Hp) (Q:Bool->Hp->Prop),Inv X zB Y H s->t Y H Q->wpAny (model X.prog X.w) X.A (isTrue e X.env (eval e X.env)) (TP X zB Y Q) X.xe s
def PW (X:Cx) (e:Expr) (t:TT):Prop :=
 ∀ (whole:Sem Value) (zB:Yd) (s:Yl) (Y:St) (H:Hp) (Q:Bool->Hp->Prop),Inv X zB Y H s->t Y H Q->wpAny (model X.prog X.w) X.A (isTrue e X.env whole) (TP X zB Y Q) X.xe s
def PW.pt {X:Cx} {e:Expr} {t:TT} (h:PW X e t):PT X e t:=h _
def PA (X:Cx) (es:Yi) (t:TA):Prop :=
 ∀ (pos:Pos) (zB:Yd) (s:Yl) (Y:St) (H:Hp) (Q:List V->Hp->Prop),Inv X zB Y H s->t Y H Q->wpAny (model X.prog X.w) X.A (spliced (backTo pos (starEach es X.env))) (AP X zB Y Q) X.xe s
def PS (X:Cx) (st:Stmt) (t:TS):Prop :=
 ∀ (zB:Yd) (s:Yl) (Y:St) (H:Hp) (D:Ends),Inv X zB Y H s->t D Y H->wpAny (model X.prog X.w) X.A (exec st X.env) (SP X zB D) X.xe s
def PSs (X:Cx) (st:Yy) (t:TS):Prop :=
 ∀ (zB:Yd) (s:Yl) (Y:St) (H:Hp) (D:Ends),Inv X zB Y H s->t D Y H->wpAny (model X.prog X.w) X.A (execs st X.env) (SP X zB D) X.xe s
def thn {α:Type} {t:Sem α} {Q Q':α->Shared->Prop} {M:Model} {A:Yn} {E:Yc} {s:Yl} (h:wpAny M A t Q E s) (hQ:∀ a s,Q a s->Q' a s):wpAny M A t Q' E s:=AS h hQ λ_ _ x=>x
section
variable {X:Cx}
def K0 (i:Nat):TE:=λY H Q=>∃ v,Y[i]?=some (some v)/\Q v H
def tC (v:V):TE:=λ_ H Q=>Q v H
def YC {i:Nat} {x:Str} {pos:Pos} (hN:X.N[i]?=some x) (hv:Vis X.env.scope x) (hd:(x==("__debug__" : Str))=false:=by decide) (hcd:(x==("__classdict__" : Str))=false:=by decide):PE X (.Name x pos) (K0 i):=by
 intro zB s Y H Q I h;let⟨v,e,h⟩:=h;let⟨m,hn,hl⟩:=I.loc;let⟨u,r,l⟩:=hl i x v hN e hv;let fin:EP X zB Y Q u s:=⟨v,H,I,r,h⟩;rcases l with ⟨hk,hm⟩|⟨hk,c,hc,hcell⟩
 .exact wpAny_Name (wpAny_loadName_local I.ok.kind hk hn hm fin) hd
 .rcases hk with hk|hk
  .exact wpAny_Name (wpAny_loadName_cell I.ok.kind hk hc hcell fin) hd
  .exact wpAny_Name (wpAny_loadName_free I.ok.kind hk hc hcell fin hcd) hd
def T8 {i j pos}:PE X (.Constant (.int i) j pos) (tC (.int i)):=λ_ _ _ H _ I h=>wpAny_Constant_int ⟨.int i,H,I.tok _,⟨_,rfl⟩,h⟩
def XQ {b j pos}:PE X (.Constant (.bool b) j pos) (tC (.bl b)):=λ_ _ _ H _ I h=>Constant_bool ⟨.bl b,H,I,rfl,h⟩
def Gl (X:Cx) (x:Str):Prop:=X.env.kindOf x=some .globalImplicit
def fT {E:Yc} {zB:Yd} {s:Yl} {Y:St} {H:Hp} {x:Str} {u:Yu} {pos:Pos} {Q:Yc} (I:Inv X zB Y H s) (hg:Gl X x) (hm:X.mg x=some u) (h:Q u s)
  (hd:(x==("__debug__" : Str))=false:=by decide):wpAny (model X.prog X.w) X.A (eval (.Name x pos) X.env) Q E s :=
 Calls.Name_function_global I.ok.kind hg (Calls.loadGlobal_global (by rw[I.ok.glob];calc I.mod.glob.keeps I.bk) hm h) hd
def C7 {E:Yc} {zB:Yd} {s:Yl} {Y:St} {H:Hp} {x:Str} {u:Yu} {pos:Pos} {Q:Yc} (I:Inv X zB Y H s) (hg:Gl X x) (hm:X.mg x=none) (hv:bootBuiltins x=some u) (h:Q u s)
  (hn:x ≠ "__name__" := by decide) (hd:(x==("__debug__" : Str))=false:=by decide):wpAny (model X.prog X.w) X.A (eval (.Name x pos) X.env) Q E s:=by
 let⟨mb,h1,h2⟩:=I.mod.blt;calc Calls.Name_function_global I.ok.kind hg (Calls.loadGlobal_builtin (by rw[I.ok.glob];calc I.mod.glob.keeps I.bk) hm (by rw[I.ok.blt];calc h1.keeps I.bk) ((h2 x hn).trans hv) h) hd
def dJ {x:Str} {v:V} {u:Value} {pos:Pos} (hg:Gl X x) (hm:X.mg x=none) (hv:bootBuiltins x=some u) (r:zc v u) (hn:x ≠ "__name__" := by decide) (hd:(x==("__debug__" : Str))=false:=by decide):PE X (.Name x pos) (tC v) :=
 λ_ _ _ H _ I h=>C7 I hg hm hv ⟨v,H,I,r,h⟩ hn hd
variable {a b:Expr} {ta tb:TE} {pos:Pos}
def PC (X:Cx) (op:CmpOp) (a b:Expr) (t:TE):Prop :=
 ∀ (zB:Yd) (s:Yl) (Y:St) (H:Hp) (Q:VK),Inv X zB Y H s->t Y H Q ->
  wpAny (model X.prog X.w) X.A (eval a X.env) (λv s₁=>wpAny (model X.prog X.w) X.A (eval b X.env) (λu s₂=>wpAny (model X.prog X.w) X.A (compareOp op v u) (EP X zB Y Q) X.xe s₂) X.xe s₁) X.xe s
def tB (t:TE):TT:=λY H Q=>t Y H λx H1=>∃ c,x=.bl c/\Q c H1
def Xj {op:CmpOp} {t:TE} (h:PC X op a b t) (h1:behindInMarks op b=false:=by first|exact nobehind _ () ()|rfl):PE X (.Compare a [op] [b] pos) t:=λzB s Y H Q I hw=>wpAny_Compare1 (h zB s Y H Q I hw) h1
def V9 {op:CmpOp} {t:TE} (h:PC X op a b t) (h1:behindInMarks op b=false:=by first|exact nobehind _ () ()|rfl):PT X (.Compare a [op] [b] pos) (tB t):=by
 intro zB s Y H Q I hw;refine wpAny_isTrue_Compare1 (thn (h zB s Y H _ I hw) λv s1 h1=>thn h1 λu s2 h2=>thn h2 λc s3 ⟨x,H1,I1,r1,q1⟩=>?_) h1;let⟨d,rfl,q⟩:=q1;ext r1;calc ED ⟨H1,I1,q⟩
def YM {e:Expr} {t:TE} (h:PE X e t) (he:∀ whole,isTrue e X.env whole=(do let v <- whole;standAt e.pos;holding [v] (truthy v)):=by intro _;rfl):PT X e (tB t):=by
 intro zB s Y H Q I hw;refine isTrue_plain (thn (h zB s Y H _ I hw) λv s1 ⟨x,H1,I1,r1,q1⟩=>?_) (he _);let⟨d,rfl,q⟩:=q1;ext r1;calc ED ⟨H1,I1,q⟩
variable {tA tB':TT} {rest:Yi}
def WX (t u:TT):TT:=λY H Q=>t Y H λc H1=>if c=true then u Y H1 Q else Q false H1
def tOr (t u:TT):TT:=λY H Q=>t Y H λc H1=>if c=true then Q true H1 else u Y H1 Q
def Rw (t:TT):TT:=λY H Q=>t Y H λc H1=>Q (!c) H1
def XA (ha:PT X a tA):PW X (.BoolOp .And [a] pos) tA:=by
 intro wh zB s Y H Q I h;refine isTrue_and (thn (ha zB s Y H Q I h) λc s1 e=>?_);cases c with
 |true=>calc isTrue_and_nil e
 |false=>calc e
def eE (ha:PT X a tA):PW X (.BoolOp .Or [a] pos) tA:=by
 intro wh zB s Y H Q I h;refine isTrue_or (thn (ha zB s Y H Q I h) λc s1 e=>?_);cases c with
 |false=>calc isTrue_or_nil e
 |true=>calc e
def XT (ha:PT X a tA) (hb:PW X (.BoolOp .And (b::rest) pos) tB'):PW X (.BoolOp .And (a::b::rest) pos) (WX tA tB'):=by
 intro wh zB s Y H Q I h;refine isTrue_and (thn (ha zB s Y H _ I h) λc s1 ⟨H1,I1,q1⟩=>?_);cases c with
 |true=>calc hb wh zB s1 Y H1 Q I1 q1
 |false=>calc ⟨H1,I1,q1⟩
def R5 (ha:PT X a tA) (hb:PW X (.BoolOp .Or (b::rest) pos) tB'):PW X (.BoolOp .Or (a::b::rest) pos) (tOr tA tB'):=by
 intro wh zB s Y H Q I h;refine isTrue_or (thn (ha zB s Y H _ I h) λc s1 ⟨H1,I1,q1⟩=>?_);cases c with
 |true=>calc ⟨H1,I1,q1⟩
 |false=>calc hb wh zB s1 Y H1 Q I1 q1
def TL (ha:PT X a tA):PT X (.UnaryOp .Not a pos) (Rw tA):=by
 intro zB s Y H Q I h;calc isTrue_not (ha zB s Y H (λc H1=>Q (!c) H1) I h)
def dI (ta tb:TE):TE:=λY H Q=>ta Y H λx H1=>∃ c,x=.bl c/\if c=true then tb Y H1 Q else Q (.bl false) H1
def UM (ta:TE):TE:=λY H Q=>ta Y H λx H1=>∃ c,x=.bl c/\Q (.bl (!c)) H1
def TR {op} {t:TE} (h:PE X a t):PE X (.BoolOp op [a] pos) t:=λzB s Y H Q I hw=>BoolOp_one (h zB s Y H Q I hw)
def YG (ha:PE X a ta) (hb:PE X (.BoolOp .And (b::rest) pos) tb):PE X (.BoolOp .And (a::b::rest) pos) (dI ta tb):=by
 intro zB s Y H Q I h;refine BoolOp_and (thn (ha zB s Y H _ I h) λv s1 ⟨x,H1,I1,r1,q1⟩=>?_);let⟨c,rfl,q1⟩:=q1;ext r1;calc ED ?_;cases c with
 |true=>calc hb zB s1 Y H1 Q I1 q1
 |false=>calc ⟨.bl false,H1,I1,rfl,q1⟩
def Zi (ha:PE X a ta):PE X (.UnaryOp .Not a pos) (UM ta):=by
 intro zB s Y H Q I h;refine UnaryOp_ (thn (ha zB s Y H _ I h) λv s1 ⟨x,H1,I1,r1,q1⟩=>?_);let⟨c,rfl,q1⟩:=q1;ext r1;calc not_of (ED ⟨.bl (!c),H1,I1,rfl,q1⟩)
end
def SqL (K:Yb) (H:Hp) (a:Yt) (xs:List V):Prop :=
 Rd H a (.lst xs) \/
  ∃ (o:Obj) (its:Array Value) (n:Nat),K.lookup a=some o/\o.cls=.type "list" /\ o.dict=none/\o.data=.seq its n/\its.size<=sizeLine/\zU xs its.toList
def SqT (K:Yb) (H:Hp) (a:Yt) (xs:List V):Prop :=
 Rd H a (.tup xs) \/
  ∃ (o:Obj) (its:Array Value) (n:Nat),K.lookup a=some o/\o.cls=.type "tuple" /\ o.data=.seq its n/\its.size<=sizeLine/\zU xs its.toList
def XJ:Value->Option V
 |.none=>some .non
 |.bool b=>some (.bl b)
 |.int i _=>some (.int i)
 |.str x _=>some (.str x)
 |.bytes b _=>some (.byt b)
 |.float b _=>some (.flt b)
 |.ref a=>some (.ref a)
 |.type n=>some (.ty n)
 |_=>none
def zc.abs {x:V} {u:Yu} (r:zc x u):XJ u=some x:=by
 cases x with
 |non=>ext r;rfl
 |bl _=>ext r;rfl
 |int _=>let⟨t,rfl⟩:=r;rfl
 |str _=>let⟨t,rfl⟩:=r;rfl
 |byt _=>let⟨t,rfl⟩:=r;rfl
 |flt _=>let⟨t,rfl⟩:=r;rfl
 |ref _=>ext r;rfl
 |ty _=>ext r;rfl
def zc.inj {x y:V} {u:Yu} (r:zc x u) (q:zc y u):x=y:=BQ (r.abs.symm.trans q.abs)
def zU.inj:∀ {xs ys:List V} {us:Yf},zU xs us->zU ys us->xs=ys
 |_,_,_,.nil,.nil=>rfl
 |_,_,_,.cons r t,.cons r' t'=>by rw[r.inj r',zU.inj t t']
section
variable {X:Cx} {zB:Yd} {Y:St} {H:Hp} {s:Yl} {a:Yt} {xs ys:List V}
def SqL.of {K:Yb} (h:H a=some (.lst xs)):SqL K H a xs:=.inl (.inl h)
def SqT.of {K:Yb} (h:H a=some (.tup xs)):SqT K H a xs:=.inl (.inl h)
def Inv.list (I:Inv X zB Y H s) (h:SqL X.K H a xs):∃ its:List Value,zU xs its/\PlainL s.heap a its.toArray/\xs.length<=sizeLine:=by
 rcases h with h|⟨o,its,n,hk,hc,hd,hs,hz,r⟩
 .obtain ⟨z,its,n,r,e⟩:=h.ok I.hok;exact ⟨its,r,⟨_,n,e,rfl,rfl,rfl⟩,z⟩
 .refine ⟨its.toList,r,⟨o,n,I.kIn a o hk,hc,hd,by simpa using hs⟩,?_⟩;let e:=r.length;simp only[Ae]at e;omega
def Inv.tuple (I:Inv X zB Y H s) (h:SqT X.K H a xs):∃ its:List Value,zU xs its/\IsTup s.heap a its.toArray/\xs.length<=sizeLine:=by
 rcases h with h|⟨o,its,n,hk,hc,hs,hz,r⟩
 .obtain ⟨z,its,r,p⟩:=h.ok I.hok;exact ⟨its,r,p.tup,z⟩
 .refine ⟨its.toList,r,⟨o,I.kIn a o hk,hc,n,by simpa using hs⟩,?_⟩;let e:=r.length;simp only[Ae]at e;omega
def Inv.list_inj (I:Inv X zB Y H s) (h:SqL X.K H a xs) (h':SqL X.K H a ys):xs=ys:=by
 let⟨its,r,⟨o,n,e,_,_,d⟩,_⟩:=I.list h;let⟨its',r',⟨o',n',e',_,_,d'⟩,_⟩:=I.list h';rw[e]at e';ext e';rw[d]at d';injection d' with d1 _
 have:its=its':=by simpa using BI Array.toList d1
 subst this;calc r.inj r'
def Inv.tuple_inj (I:Inv X zB Y H s) (h:SqT X.K H a xs) (h':SqT X.K H a ys):xs=ys:=by
 let⟨its,r,⟨o,e,_,n,d⟩,_⟩:=I.tuple h;let⟨its',r',⟨o',e',_,n',d'⟩,_⟩:=I.tuple h';rw[e]at e';ext e';rw[d]at d';injection d' with d1 _
 have:its=its':=by simpa using BI Array.toList d1
 subst this;calc r.inj r'
end
abbrev Cx.wish (X:Cx) (E:Yc):Cx:={ X with xe:=E }
abbrev Cx.nox (X:Cx):Cx:=X.wish λ_ _=>False
def Cx.Ok.wish {X:Cx} (ok:X.Ok) (E:Yc):(X.wish E).Ok :=
 ⟨ok.mod,ok.kind,ok.glob,ok.blt,ok.above,ok.inj,ok.has,ok.cab,ok.hd,ok.frames,ok.stk,ok.exf,ok.bs,ok.bsz,ok.noex,ok.exfs,ok.funs,ok.frf⟩
def Cx.Ok.unwish {X:Cx} {E:Yc} (ok:(X.wish E).Ok):X.Ok :=
 ⟨ok.mod,ok.kind,ok.glob,ok.blt,ok.above,ok.inj,ok.has,ok.cab,ok.hd,ok.frames,ok.stk,ok.exf,ok.bs,ok.bsz,ok.noex,ok.exfs,ok.funs,ok.frf⟩
section
variable {X:Cx} {zB:Yd} {Y:St} {H:Hp} {s:Yl} {E:Yc}
def Inv.wish (I:Inv X zB Y H s) (E:Yc):Inv (X.wish E) zB Y H s:=⟨I.ok.wish E,I.os,I.bare,I.base,I.loc,I.cell,I.free,I.freeC,I.pin,I.hok,I.len⟩
def Inv.unwish (I:Inv (X.wish E) zB Y H s):Inv X zB Y H s:=⟨I.ok.unwish,I.os,I.bare,I.base,I.loc,I.cell,I.free,I.freeC,I.pin,I.hok,I.len⟩
def SP.unwish {D:Ends} {f:Flow} {s':Yl} (h:SP (X.wish E) zB D f s'):SP X zB D f s':=by
 cases f with
 |next=>let⟨Y',H',I,q⟩:=h;calc ⟨Y',H',I.unwish,q⟩
 |brk=>let⟨Y',H',I,q⟩:=h;calc ⟨Y',H',I.unwish,q⟩
 |cont=>let⟨Y',H',I,q⟩:=h;calc ⟨Y',H',I.unwish,q⟩
 |ret u=>let⟨v,Y',H',I,r,q⟩:=h;calc ⟨v,Y',H',I.unwish,r,q⟩
def PSs.nox {st:Yy} {t:TS} (h:PSs X.nox st t):PSs X st t:=λzB s Y H D I hw=>
 AS (h zB s Y H D (I.wish _) hw) (λ_ _ q=>q.unwish) λ_ _ z=>False.elim z
end
section
variable {X:Cx} {st:Stmt} {rest:Yy} {t u:TS} {e:Expr} {te:TE} {pos:Pos}
def Vf:TS:=λD Y H=>D.nx Y H
def RA (t u:TS):TS:=λD Y H=>t { D with nx:=u D } Y H
def Ub:PSs X [] Vf:=λ_ _ Y H _ I h=>wpAny_execs_nil ⟨Y,H,I,h⟩
def YU (h1:PS X st t) (h2:PSs X rest u):PSs X (st::rest) (RA t u):=by
 intro zB s Y H D I h;refine wpAny_execs_cons (thn (h1 zB s Y H { D with nx:=u D } I h) λf s1 q=>?_);cases f with
 |next=>
  let⟨Y',H',I',q⟩:=q;calc h2 zB s1 Y' H' D I' q
 |ret v=>calc q
 |brk=>calc q
 |cont=>calc q
def Tc (h1:PS X st t):PSs X [st] t:=by
 intro zB s Y H D I h;refine wpAny_execs_cons (thn (h1 zB s Y H D I h) λf s1 q=>?_);cases f with
 |next=>calc wpAny_execs_nil q
 |ret v=>calc q
 |brk=>calc q
 |cont=>calc q
def Inv.quiet {zB:Yd} {Y:St} {H:Hp} {s:Yl} (I:Inv X zB Y H s):interactive X.env=false:=by simp[interactive,I.ok.kind]
def XO (te:TE):TS:=λD Y H=>te Y H λ_ H1=>D.nx Y H1
def ZJ (he:PE X e te) (hs:swapsWith e none pos.line X.env=pure false:=by rfl):PS X (.Expr e pos) (XO te):=by
 intro zB s Y H D I h;calc wpAny_Expr_any (thn (he zB s Y H _ I h) λv s1 ⟨x,H1,I1,r1,q1⟩=>⟨Y,H1,I1,q1⟩) I.quiet hs
def Wx (te:TE):TS:=λD Y H=>te Y H D.rt
def T3 (he:PE X e te):PS X (.Return (some e) pos) (Wx te):=by
 intro zB s Y H D I h;calc wpAny_Return_some (thn (he zB s Y H _ I h) λv s1 ⟨x,H1,I1,r1,q1⟩=>⟨x,Y,H1,I1,r1,q1⟩)
def Tg (c:TT) (t u:TS):TS:=λD Y H=>c Y H λb H1=>if b=true then t D Y H1 else u D Y H1
def Ws {c:Expr} {a b:Yy} {tc:TT} (hc:PT X c tc) (ha:PSs X a t) (hb:PSs X b u):PS X (.If c a b pos) (Tg tc t u):=by
 intro zB s Y H D I h;refine wpAny_If (thn (hc zB s Y H _ I h) λd s1 ⟨H1,I1,q1⟩=>?_);cases d with
 |true=>calc ha zB s1 Y H1 D I1 q1
 |false=>calc hb zB s1 Y H1 D I1 q1
end
abbrev TG:=V->St->Hp->(St->Hp->Prop)->Prop
abbrev TGs:=List V->St->Hp->(St->Hp->Prop)->Prop
def PG (X:Cx) (target:Expr) (t:TG):Prop :=
 ∀ (zB:Yd) (s:Yl) (Y:St) (H:Hp) (v:V) (u:Yu) (Q:St->Hp->Prop),Inv X zB Y H s->zc v u->t v Y H Q ->
  wpAny (model X.prog X.w) X.A (assign target X.env u) (λ_ s'=>∃ Y' H',Inv X zB Y' H' s'/\Q Y' H') X.xe s
def PGs (X:Cx) (ts:Yi) (t:TGs):Prop :=
 ∀ (zB:Yd) (s:Yl) (Y:St) (H:Hp) (vs:List V) (us:Yf) (Q:St->Hp->Prop),Inv X zB Y H s->zU vs us->t vs Y H Q ->
  wpAny (model X.prog X.w) X.A (assignInOrder ((assignEach ts X.env).map (·.2)) us) (λ_ s'=>∃ Y' H',Inv X zB Y' H' s'/\Q Y' H') X.xe s
abbrev Lz:=V->V->V->Hp->(Hp->Prop)->Prop
def NH (X:Cx) (t:Lz):Prop :=
 ∀ (zB:Yd) (s:Yl) (Y:St) (H:Hp) (o i v:V) (ov iv u:Yu) (Q:Hp->Prop),Inv X zB Y H s->zc o ov->zc i iv->zc v u->t o i v H Q ->
  wpAny (model X.prog X.w) X.A (setItem ov iv u) (λ_ s'=>∃ H',Inv X zB Y H' s'/\Q H') X.xe s
section
variable {X:Cx} {pos:Pos}
def Cd (i:Nat):TG:=λv Y H Q=>Q (Y.set i (some v)) H
def LX {i:Nat} {x:Str} (hN:X.N.Nodup) (hi:X.N[i]?=some x) (hx:Loc X.env.scope x) (hf:X.fn x=true\/X.env.scope.names.lookup x=some .local:=by first|exact .inl rfl|exact .inr rfl|assumption):PG X (.Name x pos) (Cd i):=by
 intro zB s Y H v u Q I r h;calc wpAny_assign_Name (Im I hN hi hx r (λs' I'=>⟨_,H,I',h⟩) hf)
def Kh:TGs:=λvs Y H Q=>vs=[]/\Q Y H
def Gn (t:TG) (u:TGs):TGs:=λvs Y H Q=>∃ v r,vs=v::r/\t v Y H λY' H'=>u r Y' H' Q
def Xl:PGs X [] Kh:=by
 intro zB s Y H vs us Q I r h;let⟨e,h⟩:=h;subst e;ext r;calc assignInOrder_nil ⟨Y,H,I,h⟩
def UA {e:Expr} {es:Yi} {t:TG} {u:TGs} (h1:PG X e t) (h2:PGs X es u)
  (hs:(assignEach (e::es) X.env).map (·.2)=assign e X.env::(assignEach es X.env).map (·.2):=by rfl):PGs X (e::es) (Gn t u):=by
 intro zB s Y H vs us Q I r h;let⟨v,vr,e1,h⟩:=h;subst e1;cases r with
 |cons r rr=>
  rw[hs];refine assignInOrder_cons (thn (h1 zB s Y H _ _ _ I r h) λ_ s1 ⟨σ1,H1,I1,q1⟩=>?_);calc h2 zB s1 σ1 H1 _ _ Q I1 rr q1
def Lq (K:Yb) (n:Nat) (t:TGs):TG:=λv Y H Q=>∃ a xs,v=.ref a/\SqT K H a xs/\xs.length=n/\t xs Y H Q
def WH {es:Yi} {k:Nat} {t:TGs} {n:Nat} (hc:X.calm=true) (h:PGs X es t)
  (hn:(assignEach es X.env).length=n:=by rfl) (hst:(assignEach es X.env).findIdx? (·.1)=none:=by rfl):PG X (.Tuple es k pos) (Lq X.K n t):=by
 intro zB s Y H v u Q I r hw;let⟨a,xs,e1,hq,hl,hw⟩:=hw;subst e1;ext r;let⟨its,rv,ht,hz⟩:=I.tuple hq;refine assign_Tuple_tuple (I.ok.hd hc) ht (by simp[hn,<-hl,rv.length]) hst λh' hx=>?_;let I1:Inv X zB Y H { s with heap:=h' }:=I.kept (t':=s.toks) λb o e=>hx b o (AU (AG e)) e;calc h zB _ Y H xs _ Q I1 (~~~rv) hw
def d9 (to ti:TE) (t:Lz):TG:=λv Y H Q=>to Y H λo H1=>ti Y H1 λi H2=>t o i v H2 λH3=>Q Y H3
def V6 {o i:Expr} {to ti:TE} {t:Lz} (ho:PE X o to) (hi:PE X i ti) (hs:NH X t)
  (ha:∀ v,assign (.Subscript o i pos) X.env v=(do
   let ov <- holding [v] (eval o X.env);let iv <- holding [v,ov] (eval i X.env);standAt pos;holding [v,ov,iv] (setItem ov iv v);release [v,ov,iv] []):=by intro _;rfl):PG X (.Subscript o i pos) (d9 to ti t):=by
 intro zB s Y H v u Q I r h;rw[ha];refine AA (A6 (thn (ho zB s Y H _ I h) λov s1 ⟨x,H1,I1,r1,q1⟩=>?_));refine AA (A6 (thn (hi zB s1 Y H1 _ I1 q1) λiv s2 ⟨y,H2,I2,r2,q2⟩=>?_));refine AA (Ce (AA (A6 (thn (hs zB s2 Y H2 x y v ov iv u _ I2 r1 r2 r q2) λ_ s3 ⟨H3,I3,q3⟩=>?_))));calc wpAny_release ⟨Y,H3,I3,q3⟩
def IJ (te:TE) (g:TG):TS:=λD Y H=>te Y H λx H1=>g x Y H1 D.nx
def Mm {tg e:Expr} {te:TE} {g:TG} (he:PE X e te) (hg:PG X tg g) (hs:swapsWithSole [tg] e pos.line X.env=pure false:=by rfl) (hw:swappedStores [tg] e X.env=pure none:=by rfl)
  (h1:(assignEach [tg] X.env).map (·.2)=[assign tg X.env]:=by rfl):PS X (.Assign [tg] e pos) (IJ te g):=by
 intro zB s Y H D I h;refine wpAny_Assign_stores (thn (he zB s Y H _ I h) λv s1 ⟨x,H1,I1,r1,q1⟩=>?_) hs hw;rw[h1];calc thn (hg zB s1 Y H1 x v _ I1 r1 q1) λ_ s2 q=>q
def bO {i:Nat} {x:Str} {e:Expr} {te:TE} {pos':Pos} (hN:X.N.Nodup) (hi:X.N[i]?=some x) (hx:Loc X.env.scope x) (he:PE X e te) (hs:swapsWith e (some (.Name x pos')) pos.line X.env=pure false:=by rfl) (hf:X.fn x=true\/X.env.scope.names.lookup x=some .local:=by first|exact .inl rfl|exact .inr rfl|assumption) :
  PS X (.Assign [.Name x pos'] e pos) (IJ te (Cd i)):=by
 intro zB s Y H D I h;refine wpAny_Assign_Name (thn (he zB s Y H _ I h) λv s1 ⟨y,H1,I1,r1,q1⟩=>?_) hs;calc Im I1 hN hi hx r1 (λs2 I2=>⟨_,H1,I2,q1⟩) hf
def ZP (i j:Nat) (ta:TA):TS:=λD Y H=>ta Y H λvs H1=>∃ v w,vs=[v,w]/\D.nx ((Y.set i (some v)).set j (some w)) H1
def Xm {i j:Nat} {x y:Str} {a b:Expr} {ta:TA} {px py pt:Pos} {kt k2 pt2} (hc:X.calm=true) (hN:X.N.Nodup) (hi:X.N[i]?=some x) (hj:X.N[j]?=some y) (hij:i≠j)
  (hx:X.env.scope.names.lookup x=some .local) (hy:X.env.scope.names.lookup y=some .local) (ha:PA X [a,b] ta)
  (hw:swappedStores [.Tuple [.Name x px,.Name y py] kt pt] (.Tuple [a,b] k2 pt2) X.env=pure (some [x,y]))
  (hs:swapsWithSole [.Tuple [.Name x px,.Name y py] kt pt] (.Tuple [a,b] k2 pt2) pos.line X.env=pure false:=by rfl) :
  PS X (.Assign [.Tuple [.Name x px,.Name y py] kt pt] (.Tuple [a,b] k2 pt2) pos) (ZP i j ta):=by
 intro zB s Y H D I h;rw[exec_Assign_arm];refine AA (Ce ?_);rw[hs];refine AA (AB ?_);rw[AE ()];refine AA (Tuple_ (thn (ha _ zB s Y H _ I h) λus s1 ⟨vs,H1,I1,r1,q1⟩=>?_));let⟨v,w,e1,q1⟩:=q1;subst e1;obtain ⟨u1,u2,rfl,rv,rw'⟩:∃ u1 u2,us=[u1,u2]/\zc v u1/\zc w u2:=by
  cases r1 with
  |cons p q=>
   cases q with
   |cons p' q'=>
    ext q';exact ⟨_,_,rfl,p,p'⟩
 calc Ao ?_ (by show 2<=sizeLine;decide);let I2:Inv X zB Y H1 { s1 with heap:=s1.heap.push { cls:=.type "tuple", data:=.seq [u1,u2].toArray } }:=I1.kept (t':=s1.toks) λb o e=>AH _ e;rw[hw];calc AA (AB ?_);show wpAny (model X.prog X.w) X.A (do rule "assign.swapped-stores"; let items <- unpackItems (.ref ⇑s1) 2 none;assignInOrder [λv=>bindName X.env y v,λv=>bindName X.env x v] items.reverse;pure Flow.next) _ _ _;refine AA (Bo (AA (unpackItems_tuple (items:=#[u1,u2]) (I.ok.hd hc) (IsTup.new s1.heap _) λh' hx'=>?_)));let I3:=I2.kept (h':=h') (t':=s1.toks) λb o e=>hx' b o (AU (AG e)) e;show wpAny _ _ (assignInOrder [λv=>bindName X.env y v,λv=>bindName X.env x v] [u2,u1] >>= λ_=>pure Flow.next) _ _ _;refine AA (assignInOrder_cons (wpAny_bindName (Im I3 hN hj (.inl hy) rw' (λs2 I4=>?_) (.inr hy))));refine assignInOrder_cons (wpAny_bindName (Im I4 hN hi (.inl hx) rv (λs3 I5=>assignInOrder_nil (AB ?_)) (.inr hx)));rw[List.set_comm _ _ (Ne.symm hij)]at I5;calc ⟨_,H1,I5,q1⟩
def Nv (c:TT) (tb:TS):TS:=λD Y H=>∃ W:Nat->St->Hp->Prop,(∃ m,W m Y H) /\ ∀ m Y H,W m Y H ->
 c Y H λb H1=>if b=true then ∃ N:St->Hp->Prop,(∀ Y' H',N Y' H' -> ∃ m',m'<m/\W m' Y' H')/\tb { D with nx:=N,ct:=N,bk:=D.nx } Y H1 else D.nx Y H1
def Uj {c:Expr} {body:Yy} {tc:TT} {tb:TS} (hp:PassesOwn (model X.prog X.w) X.A X.env X.xe) (hc:PT X c tc) (hb:PSs X body tb):PS X (.While c body [] pos) (Nv tc tb):=by
 intro zB s Y H D I h;let⟨W,⟨m0,w0⟩,turn⟩:=h;refine wpAny_While (codeAny_whileLoop (λn s'=>∃ Y' H',Inv X zB Y' H' s'/\W n Y' H') ?_ m0 ⟨Y,H,I,w0⟩);rintro n s1 ⟨σ1,H1,I1,w1⟩;refine wpAny_passesOwn hp (thn (hc zB s1 σ1 H1 _ I1 (turn n σ1 H1 w1)) λb s2 ⟨H2,I2,q2⟩=>?_);cases b with
 |true=>
  let⟨N,hN,q2⟩:=q2;rw[AD rfl];refine wpAny_passesOwn hp (thn (hb zB s2 σ1 H2 _ I2 q2) λf s3 q3=>?_);cases f with
  |next=>
   let⟨σ3,H3,I3,n3⟩:=q3;let⟨m',hm,w3⟩:=hN σ3 H3 n3;calc ⟨m',hm,σ3,H3,I3,w3⟩
  |cont=>
   let⟨σ3,H3,I3,n3⟩:=q3;let⟨m',hm,w3⟩:=hN σ3 H3 n3;calc ⟨m',hm,σ3,H3,I3,w3⟩
  |brk=>calc q3
  |ret v=>calc q3
 |false=>
  rw[AE A4];calc wpAny_execs_nil ⟨σ1,H2,I2,q2⟩
end
structure It where
 go:Nat->Hp->Prop
 yld:Nat->Hp->V->Hp->Prop
 stop:Nat->Hp->Prop
def BL (X:Cx) (zB:Yd) (H:Hp) (b:Yt):Prop :=
 H b=none/\b≠X.env.locals/\b∉X.fs/\(b∈X.ex\/⇑X.s₀<=b)/\(∀ x c,X.env.cells.lookup x=some c->c≠b) /\ ∀ p∈X.pn++zB,p.1≠b
def Inv.fpOk {X:Cx} {zB:Yd} {Y:St} {H H':Hp} {s:Yl} {b:Yt} (I:Inv X zB Y H s) (hb:⇑s<=b) (hn:H' b=none):BL X zB H' b:=by
 refine ⟨hn,B9 (BH I.lt hb),I.nofs hb,.inr (BY I.sz hb),λx c e z=>?_,λp hp z=>?_⟩
 .obtain ⟨v,q⟩:=I.cell x c e;exact absurd (BH q.lt (by rw[z];calc hb)) (BK _)
 .exact absurd (BH (AG (I.pin p hp).1) (by rw[z];calc hb)) (BK _)
structure Turn (P:Ym) (w:Yo) (K:Yb) (tg:Expr) (J:It) (fp:Yg) (it:Yt) (tn:Nat->Heap->Prop):Prop where
 mem:it∈fp
 obj:∀ i h,tn i h -> ∀ b∈fp,∃ o,h.get? b=some o /\ ∀ v,o.data≠.cell v
 keep:∀ i h h',tn i h->(∀ b∈fp,∀ o,h.get? b=some o->h'.get? b=some o)->tn i h'
 item:∀ (X:Cx),X.prog=P->X.w=w->X.K=K->X.calm=true -> ∀ (i:Nat) (zB:Yd) (s:Yl) (Y:St) (H:Hp) (E:Yc),Inv X zB Y H s->(∀ b∈fp,BL X zB H b)->tn i s.heap->J.go i H ->
  wpAny (model P w) X.A (pyNext (.ref it)) (λr s1=>∃ u,r=some u /\
   wpAny (model P w) X.A (letOwnedTupleGo tg (.ref it) u) (λ_ s2=>∃ x H',Inv X zB Y H' s2/\zc x u/\J.yld i H x H'/\tn (i+1) s2.heap /\ ∀ b∈fp,H' b=none) E s1) E s
 done:∀ (X:Cx),X.prog=P->X.w=w->X.K=K->X.calm=true -> ∀ (i:Nat) (zB:Yd) (s:Yl) (Y:St) (H:Hp) (E:Yc),Inv X zB Y H s->(∀ b∈fp,BL X zB H b)->tn i s.heap->J.stop i H ->
  wpAny (model P w) X.A (pyNext (.ref it)) (λr s1=>r=none/\Inv X zB Y H s1) E s
 self:∀ (A:Yn) (i:Nat) (s:Yl) (Q:Yc) (E:Yc),tn i s.heap->Q (.ref it) s->wpAny (model P w) A (pyIter (.ref it)) Q E s
abbrev TI:=St->Hp->(It->Hp->Prop)->Prop
def PIE (X:Cx) (zB:Yd) (Y:St) (tg:Expr) (R:It->Hp->Prop) (itv:Yu) (s2:Yl):Prop :=
 ∃ (it:Yt) (fp:Yg) (tn:Nat->Heap->Prop) (J:It) (H':Hp),itv=.ref it/\Inv X zB Y H' s2/\Turn X.prog X.w X.K tg J fp it tn/\tn 0 s2.heap/\(∀ b∈fp,BL X zB H' b)/\R J H'
def PI (X:Cx) (tg iter:Expr) (wi:TI):Prop :=
  ∀ (zB:Yd) (s:Yl) (Y:St) (H:Hp) (R:It->Hp->Prop),Inv X zB Y H s->wi Y H R ->
    wpAny (model X.prog X.w) X.A (eval iter X.env) (λv s1=>wpAny (model X.prog X.w) X.A (pyIter v) (PIE X zB Y tg R) X.xe s1) X.xe s
def Je {M:Model} {A:Yn} {E:Yc} {s:Yl} {tg:Expr} {it:Yt} {u:Yu} {o:Obj} {n:String} {vs:Yp} {Q:Unit->Shared->Prop} (ho:s.heap.get? it=some o) (hc:o.cls=.type n) (hd:o.data=.fields vs)
    (hn:["enumerate", "zip", "dict_itemiterator", "dict_reverseitemiterator", "odict_iterator", "itertools.zip_longest", "itertools.pairwise"].contains n=false) (hQ:Q Unit.unit s):wpAny M A (letOwnedTupleGo tg (.ref it) u) Q E s:=by
  erw[letOwnedTupleGo]
  cases tg <;> first
    |calc AB hQ
    | (cases u <;> first
        |calc AB hQ
        | (refine AA (wpAny_load ho ?_)
           rw[hc,hd];show wpAny M A (if (["enumerate", "zip", "dict_itemiterator", "dict_reverseitemiterator", "odict_iterator", "itertools.zip_longest", "itertools.pairwise"].contains n&&vs[0]?==some (rawInt _))=true then _ else _) Q E s;rw[AE (by intro h;rw[hn,Bool.false_and]at h;ext h)];calc AB hQ))
def Itl (K:Yb) (a:Yt):It :=
 ⟨λi H=>∃ xs x,SqL K H a xs/\xs[i]?=some x,λi H x H'=>H'=H /\ ∀ xs,SqL K H a xs->xs[i]?=some x,λi H=>∃ xs,SqL K H a xs/\xs.length<=i⟩
def Itt (K:Yb) (a:Yt):It :=
 ⟨λi H=>∃ xs x,SqT K H a xs/\xs[i]?=some x,λi H x H'=>H'=H /\ ∀ xs,SqT K H a xs->xs[i]?=some x,λi H=>∃ xs,SqT K H a xs/\xs.length<=i⟩
def Itr (lo:Int) (n:Nat):It:=⟨λi _=>i<n,λi H x H'=>H'=H/\x=.int (lo+i),λi _=>n<=i⟩
def aV {P:Ym} {w:Yo} {K:Yb} {tg:Expr} (a it:Yt):Turn P w K tg (Itl K a) [it] it (λi h=>h.IsListIter it a i) where
 mem:=by simp
 obj:=λi h st b hb=>by
  let e:b=it:=by simpa using hb
  subst e;let⟨o,e,c,d⟩:=st;exact ⟨o,e,λv z=>by rw[d]at z;ext z⟩
 keep:=λi h h' st k=>st.at λo e=>k it (by simp) o e;item:=by
  intro X hP hw hK hc i zB s Y H E I hf st hg;subst hP hw hK;let⟨xs,x,hq,hx⟩:=hg;let⟨its,rv,p,hz⟩:=I.list hq;let⟨u,hu,ru⟩:=rv.get hx;let⟨f0,f1,f2,f3,f4,f5⟩:=hf it (by simp);refine wpAny_pyNext_list_item st p.isList (x:=u) (~~~hu) λh' st' sb=>?_;let I1:Inv X zB Y H { s with heap:=h' }:=I.turned (t':=s.toks) (λb o hb e=>(sb.2 b hb).trans e) f0 f1 f3 f4 f5;let⟨o,e,c,d⟩:=id st';exact ⟨u,rfl,Je (s:={ s with heap:=h' }) e c d () ⟨x,H,I1,ru,⟨rfl,λys hy=>by rw[I.list_inj hy hq];calc hx⟩,st',λb hb=>(hf b hb).1⟩⟩
 done:=by
  intro X hP hw hK hc i zB s Y H E I hf st hg;subst hP hw hK;let⟨xs,hq,hx⟩:=hg;let⟨its,rv,p,hz⟩:=I.list hq;let⟨f0,f1,f2,f3,f4,f5⟩:=hf it (by simp);let hl:=rv.length;exact wpAny_pyNext_list_end (I.ok.hd hc) st p.isList (by simp;omega) λh' eb=>⟨rfl,I.turned (t':=s.toks) (λb o hb e=>eb b o hb e) f0 f1 f3 f4 f5⟩
 self:=λ_ _ _ _ _ st h=>wpAny_pyIter_listiter st h
def cF {P:Ym} {w:Yo} {K:Yb} {tg:Expr} (a it:Yt):Turn P w K tg (Itt K a) [it] it (λi h=>h.IsTupleIter it a i) where
 mem:=by simp
 obj:=λi h st b hb=>by
  let e:b=it:=by simpa using hb
  subst e;let⟨o,e,c,d⟩:=st;exact ⟨o,e,λv z=>by rw[d]at z;ext z⟩
 keep:=λi h h' st k=>st.at λo e=>k it (by simp) o e;item:=by
  intro X hP hw hK hc i zB s Y H E I hf st hg;subst hP hw hK;let⟨xs,x,hq,hx⟩:=hg;let⟨its,rv,p,hz⟩:=I.tuple hq;let⟨u,hu,ru⟩:=rv.get hx;let⟨f0,f1,f2,f3,f4,f5⟩:=hf it (by simp);refine wpAny_pyNext_tuple_item st (show s.heap.IsTuple a its.toArray from p) (x:=u) (~~~hu) λh' st' sb=>?_;let I1:Inv X zB Y H { s with heap:=h' }:=I.turned (t':=s.toks) (λb o hb e=>(sb.2 b hb).trans e) f0 f1 f3 f4 f5;let⟨o,e,c,d⟩:=id st';exact ⟨u,rfl,Je (s:={ s with heap:=h' }) e c d () ⟨x,H,I1,ru,⟨rfl,λys hy=>by rw[I.tuple_inj hy hq];calc hx⟩,st',λb hb=>(hf b hb).1⟩⟩
 done:=by
  intro X hP hw hK hc i zB s Y H E I hf st hg;subst hP hw hK;let⟨xs,hq,hx⟩:=hg;let⟨its,rv,p,hz⟩:=I.tuple hq;let⟨f0,f1,f2,f3,f4,f5⟩:=hf it (by simp);let hl:=rv.length;exact wpAny_pyNext_tuple_end (I.ok.hd hc) st (show s.heap.IsTuple a its.toArray from p) (by simp;omega) λh' eb=>⟨rfl,I.turned (t':=s.toks) (λb o hb e=>eb b o hb e) f0 f1 f3 f4 f5⟩
 self:=λ_ _ _ _ _ st h=>wpAny_pyIter_tupleiter st h
def YD {P:Ym} {w:Yo} {K:Yb} {tg:Expr} (it:Yt) (lo:Int) (n:Nat):Turn P w K tg (Itr lo n) [it] it (λi h=>IsRangeIter h it (lo+(i:Nat)*1) ((n:Int)-(i:Nat)) 1) where
 mem:=by simp
 obj:=λi h st b hb=>by
  let e:b=it:=by simpa using hb
  subst e;exact ⟨_,st,λv z=>by
   let z':Data.fields _=Data.cell v:=z;ext z'⟩
 keep:=λi h h' st k=>k it (by simp) _ st;item:=by
  intro X hP hw hK hc i zB s Y H E I hf st hg;subst hP hw hK;let⟨f0,f1,f2,f3,f4,f5⟩:=hf it (by simp);let W:=Walks.range (prog:=X.prog) (w:=X.w) (I.ok.hd hc) it lo 1 n;refine W.item i s _ _ hg st λv h' tk hv st' kk=>?_;let⟨t,rfl⟩:=hv;let I1:Inv X zB Y H { s with heap:=h',toks:=tk }:=I.turned (λb o hb e=>kk b o (~~~hb) e) f0 f1 f3 f4 f5;refine ⟨_,rfl,Je (s:={ s with heap:=h',toks:=tk }) (n := "range_iterator") st' rfl rfl () ⟨.int (lo+i),H,I1,⟨t,?_⟩,⟨rfl,rfl⟩,st',λb hb=>(hf b hb).1⟩⟩;rw[Int.mul_one]
 done:=by
  intro X hP hw hK hc i zB s Y H E I hf st hg;subst hP hw hK;let⟨f0,f1,f2,f3,f4,f5⟩:=hf it (by simp);exact wpAny_pyNext_range_end (I.ok.hd hc) st (by have:n<=i:=hg;omega) λh' eb=>⟨rfl,I.turned (t':=s.toks) (λb o hb e=>eb b o hb e) f0 f1 f3 f4 f5⟩
 self:=λ_ _ _ _ _ st h=>wpAny_pyIter_rangeiter st h
section
variable {X:Cx} {tg:Expr}
def Pk {zB:Yd} {Y:St} {H:Hp} {s:Yl} {R:It->Hp->Prop} {E:Yc} {lo hi:Int} {t u v:Tok} {tk:Nat} (I:Inv X zB Y H s) (h1 : -(2 ^ 62)<=lo) (h2:lo<2 ^ 62) (h3 : -(2 ^ 62)<=hi) (h4:hi<2 ^ 62)
  (q:R (Itr lo (hi-lo).toNat) H):wpAny (model X.prog X.w) X.A (pyIter (.ref ⇑s)) (PIE X zB Y tg R) E { s with heap:=s.heap.push { cls:=.type "range", data:=.fields #[.int lo t,.int hi u,.int 1 v] },toks:=tk }:=by
 calc wpAny_pyIter_range (IsRange.new ..) (small_one h1 h2 h3 h4) ?_;let I1:Inv X zB Y H { s with heap:=s.heap.push { cls:=.type "range", data:=.fields #[.int lo t,.int hi u,.int 1 v] },toks:=tk }:=I.kept λb o e=>AH _ e
 refine ⟨(s.heap.push { cls:=.type "range", data:=.fields #[.int lo t,.int hi u,.int 1 v] }).objs.size,[(s.heap.push { cls:=.type "range", data:=.fields #[.int lo t,.int hi u,.int 1 v] }).objs.size],_,_,H,rfl,
  I1.kept (t':=tk) λb o e=>AH _ e,YD _ lo (hi-lo).toNat,?_,λb hb=>?_,q⟩
 .have e1:lo+((0:Nat):Int)*1=lo:=by simp
  let e2:(((hi-lo).toNat:Nat):Int)-((0:Nat):Int)=Builtin.Range.rangeSize lo hi 1:=by rw[rangeSize_one];split <;> omega
  show IsRangeIter _ _ (lo+((0:Nat):Int)*1) ((((hi-lo).toNat:Nat):Int)-((0:Nat):Int)) 1;rw[e1,e2];exact AK _ rfl
 .have e:b=(s.heap.push { cls:=.type "range", data:=.fields #[.int lo t,.int hi u,.int 1 v] }).objs.size:=by simpa using hb
  subst e;calc I1.fpOk (AF _) (I1.hok.fresh (AF _))
def Tx (ta:TA):TI:=λY H R=>ta Y H λvs H1=>∃ j:Int,vs=[.int j] /\ -(2 ^ 62)<=j/\j<2 ^ 62/\R (Itr 0 j.toNat) H1
def WZ (ta:TA):TI:=λY H R=>ta Y H λvs H1=>∃ i j:Int,vs=[.int i,.int j]/\(-(2 ^ 62)<=i/\i<2 ^ 62 /\ -(2 ^ 62)<=j/\j<2 ^ 62)/\R (Itr i (j-i).toNat) H1
def WN {a:Expr} {ta:TA} {p pos:Pos} (hg:Gl X "range") (hm:X.mg "range" = none) (ha:PA X [a] ta) (hs:starEach [a] X.env=[(false,eval a X.env)]:=by rfl):PI X tg (.Call (.Name "range" p) [a] [] pos) (Tx ta):=by
 intro zB s Y H R I h;refine Call_ (C7 I hg hm boot_range (PyProof.Rows.callWith_type1 (thn (ha pos zB s Y H _ I h) λus s1 ⟨vs,H1,I1,r1,q1⟩=>?_) hs rfl));let⟨j,e,q1,q2,q⟩:=q1;subst e;cases r1 with
 |cons r rr=>
  ext rr;let⟨t,rfl⟩:=r;calc call_range_1 (Pk I1 () () q1 q2 (~~~q))
def Xc {a b:Expr} {ta:TA} {p pos:Pos} (hg:Gl X "range") (hm:X.mg "range" = none) (ha:PA X [a,b] ta) (hs:starEach [a,b] X.env=[(false,eval a X.env),(false,eval b X.env)]:=by rfl) (hs2:starEach [b] X.env=[(false,eval b X.env)]:=by rfl) :
  PI X tg (.Call (.Name "range" p) [a,b] [] pos) (WZ ta):=by
 intro zB s Y H R I h;refine Call_ (C7 I hg hm boot_range (PyProof.Rows.callWith_type1 (thn (ha pos zB s Y H _ I h) λus s1 ⟨vs,H1,I1,r1,q1⟩=>?_) (by rw[hs,hs2]) (by rw[hs2];rfl)));let⟨i,j,e,⟨q1,q2,q3,q4⟩,q⟩:=q1;subst e;cases r1 with
 |cons r rr=>
  cases rr with
  |cons r' rr=>
   ext rr;let⟨t,rfl⟩:=r;let⟨t',rfl⟩:=r';calc call_range_2 (Pk I1 q1 q2 q3 q4 q)
def Mv (wi:TI) (g:TG) (tb:TS):TS:=λD Y H=>wi Y H λJ H1=>∃ W:Nat->Nat->St->Hp->Prop,(∃ m,W 0 m Y H1) /\ ∀ i m Y H,W i m Y H ->
 (J.stop i H/\D.nx Y H)\/(J.go i H /\ ∃ N:St->Hp->Prop,(∀ Y' H',N Y' H' -> ∃ m',m'<m/\W (i+1) m' Y' H') /\ ∀ x H',J.yld i H x H'->g x Y H' λσ2 H2=>tb { D with nx:=N,ct:=N,bk:=D.nx } σ2 H2)
def Dt (fp:Yg) (h:Heap):List (Addr × Obj):=fp.filterMap λb=>(h.get? b).map λo=>(b,o)
def DB {fp:Yg} {h:Heap} {b:Yt} {o:Obj} (hb:b∈fp) (e:h.get? b=some o):(b,o)∈Dt fp h:=List.mem_filterMap.mpr ⟨b,hb,by rw[e];rfl⟩
def QP {fp:Yg} {h:Heap} {p:Addr × Obj} (hp:p∈Dt fp h):p.1∈fp/\h.get? p.1=some p.2:=by
 let⟨b,hb,e⟩:=List.mem_filterMap.mp hp;cases q:h.get? b with
 |none=>rw[q]at e;ext e
 |some o=>
  rw[q]at e;let e':(b,o)=p:=BQ e;subst e';calc ⟨hb,q⟩
def Inv.pinned {zB:Yd} {Y:St} {H:Hp} {s:Yl} {fp:Yg} (I:Inv X zB Y H s) (hf:∀ b∈fp,BL X zB H b) (ho:∀ b∈fp,∃ o,s.heap.get? b=some o /\ ∀ v,o.data≠.cell v):Inv X (zB++Dt fp s.heap) Y H s :=
 I.pins_of λp hp=>(Au.mp hp).elim (λz=>I.pin p (Af _ z)) λz=>by
  let⟨hb,e⟩:=QP z;let⟨f0,f1,f2,_⟩:=hf p.1 hb;let⟨o,e',d⟩:=ho p.1 hb;rw[e]at e';ext e';calc ⟨e,f0,f1,f2,d⟩
def Inv.unpinned {zB pl:Yd} {Y:St} {H:Hp} {s:Yl} (I:Inv X (zB++pl) Y H s):Inv X zB Y H s:=I.pins_of λp hp=>I.pin p (Af _ (Bi _ hp))
def Sy {iter:Expr} {body:Yy} {wi:TI} {g:TG} {tb:TS} {pos:Pos} (hp:PassesOwn (model X.prog X.w) X.A X.env X.xe) (hc:X.calm=true) (hi:PI X tg iter wi) (hg:PG X tg g) (hb:PSs X body tb)
  (hs:∀ x,foldedSetIterable iter X.env x=pure x:=by intro _;rfl):PS X (.For tg iter body [] pos) (Mv wi g tb):=by
 intro zB s Y H D I h;refine wpAny_For (thn (hi zB s Y H _ I h) λv s1 h1=>thn h1 λitv s2 h2=>?_) hs;let⟨it,fp,tn,J,H2,e,I2,T,st2,f2,W,⟨m0,w0⟩,turn⟩:=h2;subst e;let stat:∀ {H':Hp},(∀ b∈fp,H' b=none) -> ∀ b∈fp,BL X zB H' b:=λhn b hb=>⟨hn b hb,(f2 b hb).2⟩;refine codeAny_forLoop_any (λn s'=>∃ i Y' H',Inv X zB Y' H' s'/\tn i s'.heap/\(∀ b∈fp,H' b=none)/\W i n Y' H') ?_ m0 ⟨0,Y,H2,I2,st2,λb hb=>(f2 b hb).1,w0⟩;rintro n s3 ⟨i,σ3,H3,I3,st3,fr3,w3⟩;rcases turn i n σ3 H3 w3 with ⟨stop,qn⟩|⟨go,N,hN,step⟩
 .refine wpAny_passesOwn hp (thn (T.done X rfl rfl rfl hc i zB s3 σ3 H3 X.xe I3 (stat fr3) st3 stop) λr s4 ⟨hr,I4⟩=>?_);subst hr;exact wpAny_execs_nil ⟨σ3,H3,I4,qn⟩
 .refine wpAny_passesOwn hp (thn (T.item X rfl rfl rfl hc i zB s3 σ3 H3 X.xe I3 (stat fr3) st3 go) λr s4 ⟨u,hr,h4⟩=>?_);subst hr;refine wpAny_passesOwn hp (thn h4 λ_ s5 ⟨x,H5,I5,r5,y5,st5,fr5⟩=>?_);let I5':=I5.pinned (stat fr5) (T.obj _ _ st5);refine wpAny_passesOwn hp (thn (hg _ s5 σ3 H5 x u _ I5' r5 (step x H5 y5)) λ_ s6 ⟨σ6,H6,I6,q6⟩=>?_);refine wpAny_passesOwn hp (thn (hb _ s6 σ6 H6 _ I6 q6) λf s7 q7=>?_);let again:∀ {σ7:St} {H7:Hp},Inv X (zB++Dt fp s5.heap) σ7 H7 s7->N σ7 H7 -> ∃ m,m<n /\ ∃ i Y' H',Inv X zB Y' H' s7/\tn i s7.heap/\(∀ b∈fp,H' b=none)/\W i m Y' H':=λ{σ7 H7} I7 n7=>by
   let⟨m',hm,w7⟩:=hN σ7 H7 n7;refine ⟨m',hm,i+1,σ7,H7,I7.unpinned,T.keep _ _ _ st5 λb hb o e=>(I7.pin (b,o) (Af _ (Af _ (DB hb e)))).1,λb hb=>?_,w7⟩;let⟨o,e,d⟩:=T.obj _ _ st5 b hb;exact (I7.pin (b,o) (Af _ (Af _ (DB hb e)))).2.1
  cases f with
  |next=>let⟨σ7,H7,I7,n7⟩:=q7;calc again I7 n7
  |cont=>let⟨σ7,H7,I7,n7⟩:=q7;calc again I7 n7
  |brk=>let⟨σ7,H7,I7,q7⟩:=q7;calc ⟨σ7,H7,I7.unpinned,q7⟩
  |ret v=>let⟨x7,σ7,H7,I7,r7,q7⟩:=q7;calc ⟨x7,σ7,H7,I7.unpinned,r7,q7⟩
end
abbrev R2:=V->V->Hp->VK->Prop
def OpR (X:Cx) (f:Y2) (r:R2):Prop :=
 ∀ (zB:Yd) (s:Yl) (Y:St) (H:Hp) (x y:V) (v u:Yu) (Q:VK),Inv X zB Y H s->zc x v->zc y u->r x y H Q ->
  wpAny (model X.prog X.w) X.A (f v u) (EP X zB Y Q) X.xe s
def UnR (X:Cx) (f:Value->Sem Value) (r:V->Hp->VK->Prop):Prop :=
 ∀ (zB:Yd) (s:Yl) (Y:St) (H:Hp) (x:V) (v:Yu) (Q:VK),Inv X zB Y H s->zc x v->r x H Q ->
  wpAny (model X.prog X.w) X.A (f v) (EP X zB Y Q) X.xe s
def CC (X:Cx) (f:Yu) (r:List V->Hp->VK->Prop):Prop :=
 ∀ (zB:Yd) (s:Yl) (Y:St) (H:Hp) (xs:List V) (us:Yf) (Q:VK),Inv X zB Y H s->zU xs us->r xs H Q ->
  wpAny (model X.prog X.w) X.A (call f us) (EP X zB Y Q) X.xe s
def cN (X:Cx) (r:V->Hp->(Bool->Hp->Prop)->Prop):Prop :=
 ∀ (zB:Yd) (s:Yl) (Y:St) (H:Hp) (x:V) (v:Yu) (Q:Bool->Hp->Prop),Inv X zB Y H s->zc x v->r x H Q ->
  wpAny (model X.prog X.w) X.A (truthy v) (TP X zB Y Q) X.xe s
def tOp (r:R2) (ta tb:TE):TE:=λY H Q=>ta Y H λx H1=>tb Y H1 λy H2=>r x y H2 Q
def tUn (r:V->Hp->VK->Prop) (ta:TE):TE:=λY H Q=>ta Y H λx H1=>r x H1 Q
def rI (C:Int->Int->Prop) (g:Int->Int->V):R2:=λx y H Q=>∃ i j,x=.int i/\y=.int j/\C i j/\Q (g i j) H
def rI0 (g:Int->Int->V):R2:=λx y H Q=>∃ i j,x=.int i/\y=.int j/\Q (g i j) H
def rU (g:Int->V):V->Hp->VK->Prop:=λx H Q=>∃ i,x=.int i/\Q (g i) H
section
variable {X:Cx} {a b c:Expr} {ta tb tc:TE} {pos:Pos}
def Kg (ha:PE X a ta) (hb:PE X b tb) {zB:Yd} {s:Yl} {Y:St} {H:Hp} {R:V->V->Hp->Prop} (I:Inv X zB Y H s)
  (h:ta Y H λx H1=>tb Y H1 λy H2=>R x y H2) {Q:Yc} {f:Y2}
  (hf:∀ v u s2 x y H2,Inv X zB Y H2 s2->zc x v->zc y u->R x y H2->wpAny (model X.prog X.w) X.A (f v u) Q X.xe s2) :
  wpAny (model X.prog X.w) X.A (eval a X.env) (λv s₁=>wpAny (model X.prog X.w) X.A (eval b X.env) (λu s₂=>wpAny (model X.prog X.w) X.A (f v u) Q X.xe s₂) X.xe s₁) X.xe s:=by
 refine thn (ha zB s Y H _ I h) λv s1 ⟨x,H1,I1,r1,q1⟩=>?_;refine thn (hb zB s1 Y H1 _ I1 q1) λu s2 ⟨y,H2,I2,r2,q2⟩=>?_;calc hf v u s2 x y H2 I2 r1 r2 q2
def YJ {op:Operator} {r:R2} (ho:OpR X (binaryOp op) r) (ha:PE X a ta) (hb:PE X b tb):PE X (.BinOp a op b pos) (tOp r ta tb):=by
 intro zB s Y H Q I h;calc wpAny_BinOp (Kg ha hb I h λv u s2 x y H2 I2 rx ry q=>ho zB s2 Y H2 x y v u Q I2 rx ry q)
def eN {op:UnaryOp} {r:V->Hp->VK->Prop} (ho:UnR X (unaryOp op) r) (ha:PE X a ta):PE X (.UnaryOp op a pos) (tUn r ta):=by
 intro zB s Y H Q I h;calc UnaryOp_ (thn (ha zB s Y H _ I h) λv s1 ⟨x,H1,I1,r1,q1⟩=>ho zB s1 Y H1 x v Q I1 r1 q1)
def opI {f:Y2} {C:Int->Int->Prop} {g:Int->Int->Int}
  (rule:∀ (i j:Int) (t u:Tok) (s:Yl) (Q:Yc) (E:Yc),C i j->Q (.int (g i j) s.toks) { s with toks:=s.toks+1 }->wpAny (model X.prog X.w) X.A (f (.int i t) (.int j u)) Q E s) :
  OpR X f (rI C λi j=> .int (g i j)):=by
 intro zB s Y H x y v u Q I rx ry h;let⟨i,j,rfl,rfl,hc,q⟩:=h;let⟨t,rfl⟩:=rx;let⟨t',rfl⟩:=ry;calc rule i j t t' s _ _ hc ⟨.int (g i j),H,I.tok _,⟨_,rfl⟩,q⟩
def Pu {f:Y2} {g:Int->Int->Int}
  (rule:∀ (i j:Int) (t u:Tok) (s:Yl) (Q:Yc) (E:Yc),Q (.int (g i j) s.toks) { s with toks:=s.toks+1 }->wpAny (model X.prog X.w) X.A (f (.int i t) (.int j u)) Q E s) :
  OpR X f (rI0 λi j=> .int (g i j)):=by
 intro zB s Y H x y v u Q I rx ry h;let⟨i,j,rfl,rfl,q⟩:=h;let⟨t,rfl⟩:=rx;let⟨t',rfl⟩:=ry;calc rule i j t t' s _ _ ⟨.int (g i j),H,I.tok _,⟨_,rfl⟩,q⟩
def Io {f:Y2} {g:Int->Int->Bool}
  (rule:∀ (i j:Int) (t u:Tok) (s:Yl) (Q:Yc) (E:Yc),Q (.bool (g i j)) s->wpAny (model X.prog X.w) X.A (f (.int i t) (.int j u)) Q E s) :
  OpR X f (rI0 λi j=> .bl (g i j)):=by
 intro zB s Y H x y v u Q I rx ry h;let⟨i,j,rfl,rfl,q⟩:=h;let⟨t,rfl⟩:=rx;let⟨t',rfl⟩:=ry;calc rule i j t t' s _ _ ⟨.bl (g i j),H,I,rfl,q⟩
def Sx (i j:Int):Prop:=0<j/\j<1073741824
def RK (i j:Int):Prop:=0<=j/\j<=1000000/\i.natAbs<2 ^ 64
def ML (i j:Int):Prop:=(-(2 ^ 64)<i/\i<2 ^ 64)\/(-(2 ^ 64)<j/\j<2 ^ 64)
def ML.ok {i j:Int} (h:ML i j):IntMulOk i j:=by
 rcases h with ⟨h1,h2⟩|⟨h1,h2⟩
 .exact .of_left (intBits_le_64 h1 h2)
 .exact .of_right (intBits_le_64 h1 h2)
def Sk:OpR X (binaryOp .Add) (rI0 λi j=> .int (i+j)):=Pu λ_ _ _ _ _ _ _ q=>add_int q
def RZ:OpR X (binaryOp .Sub) (rI0 λi j=> .int (i-j)):=Pu λ_ _ _ _ _ _ _ q=>sub_int q
def Sl:OpR X (binaryOp .Mult) (rI ML λi j=> .int (i*j)):=opI λ_ _ _ _ _ _ _ hc q=>mul_int q hc.ok
def Sj:OpR X (binaryOp .FloorDiv) (rI Sx λi j=> .int (i / j)):=opI λi j _ _ _ _ _ hc q=>by
 let h1:(0:Int)<j:=hc.1;let h2:j<1073741824:=hc.2;calc floordiv_int () (by rw[Int.fdiv_eq_ediv_of_nonneg i ()];calc q) (.inl (PyProof.noPylong_small ()))
def XC:OpR X (binaryOp .Mod) (rI (λ_ j=>0<j) λi j=> .int (i % j)):=opI λi j _ _ _ _ _ hc q=>by
 let h1:(0:Int)<j:=hc;calc mod_int' () (by rw[Int.fmod_eq_emod_of_nonneg i ()];calc q)
def eX:OpR X (binaryOp .Pow) (rI RK λi j=> .int (i ^ j.toNat)):=opI λ_ _ _ _ _ _ _ hc q=>pow_int_small hc.1 hc.2.1 hc.2.2 q
def unI {f:Value->Sem Value} {g:Int->Int}
  (rule:∀ (i:Int) (t:Tok) (s:Yl) (Q:Yc) (E:Yc),Q (.int (g i) s.toks) { s with toks:=s.toks+1 }->wpAny (model X.prog X.w) X.A (f (.int i t)) Q E s) :
  UnR X f (rU λi=> .int (g i)):=by
 intro zB s Y H x v Q I rx h;let⟨i,rfl,q⟩:=h;let⟨t,rfl⟩:=rx;calc rule i t s _ _ ⟨.int (g i),H,I.tok _,⟨_,rfl⟩,q⟩
def YQ:UnR X (unaryOp .USub) (rU λi=> .int (-i)):=unI λ_ _ _ _ _ q=>neg_int q
end
def Jj:V->V->Bool
 |.non,.non=>true|.non,.int _=>true|.int _,.non=>true|.non,.bl _=>true|.bl _,.non=>true|.non,.str _=>true|.str _,.non=>true
 |.int _,.int _=>true|.bl _,.bl _=>true|.str _,.str _=>true|.byt _,.byt _=>true
 |.int _,.str _=>true|.str _,.int _=>true|.bl _,.str _=>true|.str _,.bl _=>true
 |_,_=>false
def rEq:R2:=λx y H Q=>Jj x y=true/\Q (.bl (decide (x=y))) H
def rNe:R2:=λx y H Q=>Jj x y=true/\Q (.bl (!decide (x=y))) H
def QR {i j:Int}:decide (V.int i=V.int j)=(i==j):=by
 rw[C1];simp
def OO {i j:Bool}:decide (V.bl i=V.bl j)=(i==j):=by
 rw[C1];simp
def Qd {i j:Str}:decide (V.str i=V.str j)=(i==j):=by
 rw[C1];simp
def QJ {i j:Array UInt8}:decide (V.byt i=V.byt j)=(i.toList==j.toList):=by
 rw[C1];ext i;ext j;simp
section
variable {X:Cx} {a b c:Expr} {ta tb tc:TE} {pos:Pos}
def zd {zB:Yd} {Y:St} {H:Hp} {s:Yl} {Q:VK} {k k':Bool} (I:Inv X zB Y H s) (q:Q (.bl k) H) (e:k=k'):EP X zB Y Q (.bool k') s:=by
 subst e;calc ⟨.bl k,H,I,rfl,q⟩
def Nk:OpR X (compareOp .Eq) rEq:=by
 intro zB s Y H x y v u Q I rx ry h;let⟨hs,q⟩:=h;cases x with
 |non=>
  ext rx;cases y with
  |non=>ext ry;calc PySem.EqNone.eq_none_none (zd I q (by simp))
  |bl j=>ext ry;calc PySem.EqNone.eq_none_bool (zd I q (by simp))
  |int j=>let⟨t',rfl⟩:=ry;calc PySem.EqNone.eq_none_int (zd I q (by simp))
  |str j=>let⟨t',rfl⟩:=ry;calc PySem.EqNone.eq_none_str (zd I q (by simp))
  |_=>calc absurd (show false=true from hs) A4
 |bl i=>
  ext rx;cases y with
  |non=>ext ry;calc PySem.EqNone.eq_bool_none (zd I q (by simp))
  |bl j=>ext ry;calc eq_bool (zd I q OO)
  |str j=>let⟨t',rfl⟩:=ry;calc PySem.EqMixed.eq_bool_str (zd I q (by simp))
  |_=>calc absurd (show false=true from hs) A4
 |int i=>
  let⟨t,rfl⟩:=rx;cases y with
  |non=>ext ry;calc PySem.EqNone.eq_int_none (zd I q (by simp))
  |int j=>let⟨t',rfl⟩:=ry;calc eq_int (zd I q QR)
  |str j=>let⟨t',rfl⟩:=ry;calc PySem.EqMixed.eq_int_str (zd I q (by simp))
  |_=>calc absurd (show false=true from hs) A4
 |str i=>
  let⟨t,rfl⟩:=rx;cases y with
  |non=>ext ry;calc PySem.EqNone.eq_str_none (zd I q (by simp))
  |bl j=>ext ry;calc PySem.EqMixed.eq_str_bool (zd I q (by simp))
  |int j=>let⟨t',rfl⟩:=ry;calc PySem.EqMixed.eq_str_int (zd I q (by simp))
  |str j=>let⟨t',rfl⟩:=ry;calc eq_str (zd I q Qd)
  |_=>calc absurd (show false=true from hs) A4
 |byt i=>
  let⟨t,rfl⟩:=rx;cases y with
  |byt j=>let⟨t',rfl⟩:=ry;calc PySem.W.eq_bytes (zd I q QJ)
  |_=>calc absurd (show false=true from hs) A4
 |_=>cases y <;> calc absurd (show false=true from hs) A4
def Vl:OpR X (compareOp .NotEq) rNe:=by
 intro zB s Y H x y v u Q I rx ry h;let⟨hs,q⟩:=h;cases x with
 |non=>
  ext rx;cases y with
  |non=>ext ry;calc PySem.EqNone.ne_none_none (zd I q (by simp))
  |bl j=>ext ry;calc PySem.EqNone.ne_none_bool (zd I q (by simp))
  |int j=>let⟨t',rfl⟩:=ry;calc PySem.EqNone.ne_none_int (zd I q (by simp))
  |str j=>let⟨t',rfl⟩:=ry;calc PySem.EqNone.ne_none_str (zd I q (by simp))
  |_=>calc absurd (show false=true from hs) A4
 |bl i=>
  ext rx;cases y with
  |non=>ext ry;calc PySem.EqNone.ne_bool_none (zd I q (by simp))
  |bl j=>ext ry;calc ne_bool (zd I q (BI not OO))
  |str j=>let⟨t',rfl⟩:=ry;calc PySem.EqMixed.ne_bool_str (zd I q (by simp))
  |_=>calc absurd (show false=true from hs) A4
 |int i=>
  let⟨t,rfl⟩:=rx;cases y with
  |non=>ext ry;calc PySem.EqNone.ne_int_none (zd I q (by simp))
  |int j=>let⟨t',rfl⟩:=ry;calc ne_int (zd I q (BI not QR))
  |str j=>let⟨t',rfl⟩:=ry;calc PySem.EqMixed.ne_int_str (zd I q (by simp))
  |_=>calc absurd (show false=true from hs) A4
 |str i=>
  let⟨t,rfl⟩:=rx;cases y with
  |non=>ext ry;calc PySem.EqNone.ne_str_none (zd I q (by simp))
  |bl j=>ext ry;calc PySem.EqMixed.ne_str_bool (zd I q (by simp))
  |int j=>let⟨t',rfl⟩:=ry;calc PySem.EqMixed.ne_str_int (zd I q (by simp))
  |str j=>let⟨t',rfl⟩:=ry;calc ne_str (zd I q (BI not Qd))
  |_=>calc absurd (show false=true from hs) A4
 |byt i=>
  let⟨t,rfl⟩:=rx;cases y with
  |byt j=>let⟨t',rfl⟩:=ry;calc PySem.W.ne_bytes (zd I q (BI not QJ))
  |_=>calc absurd (show false=true from hs) A4
 |_=>cases y <;> calc absurd (show false=true from hs) A4
def LI:OpR X (compareOp .Lt) (rI0 λi j=> .bl (decide (i<j))):=Io λ_ _ _ _ _ _ _ q=>lt_int q
def Xq:OpR X (compareOp .LtE) (rI0 λi j=> .bl (decide (i<=j))):=Io λ_ _ _ _ _ _ _ q=>le_int q
def XB:OpR X (compareOp .Gt) (rI0 λi j=> .bl (decide (j<i))):=Io λ_ _ _ _ _ _ _ q=>gt_int q
def Oz:OpR X (compareOp .GtE) (rI0 λi j=> .bl (decide (j<=i))):=Io λ_ _ _ _ _ _ _ q=>ge_int q
def OpR.or {f:Y2} {r r':R2} (h:OpR X f r) (h':OpR X f r'):OpR X f (λx y H Q=>r x y H Q\/r' x y H Q):=by
 intro zB s Y H x y v u Q I rx ry q;rcases q with q|q
 .exact h zB s Y H x y v u Q I rx ry q
 .exact h' zB s Y H x y v u Q I rx ry q
def DT (b:Expr) {op:CmpOp} (h:op≠.In:=by decide) (h2:op≠.NotIn:=by decide):behindInMarks op b=false:=by
 let e1:(op==CmpOp.In)=false:=by cases op <;> first|rfl|exact absurd rfl h
 let e2:(op==CmpOp.NotIn)=false:=by cases op <;> first|rfl|exact absurd rfl h2
 cases b <;> simp[behindInMarks,e1,e2]
def ZS {op:CmpOp} {r:R2} (ho:OpR X (compareOp op) r) (ha:PE X a ta) (hb:PE X b tb) (hm:behindInMarks op b=false):PE X (.Compare a [op] [b] pos) (tOp r ta tb):=by
 intro zB s Y H Q I h;calc wpAny_Compare1 (Kg ha hb I h λv u s2 x y H2 I2 rx ry q=>ho zB s2 Y H2 x y v u Q I2 rx ry q) hm
def Jr (t:TE):TT:=λY H Q=>t Y H λx H'=>∃ k,x=.bl k/\Q k H'
def bT {op:CmpOp} {r:R2} (ho:OpR X (compareOp op) r) (ha:PE X a ta) (hb:PE X b tb) (hm:behindInMarks op b=false):PT X (.Compare a [op] [b] pos) (Jr (tOp r ta tb)):=by
 intro zB s Y H Q I h;refine wpAny_isTrue_Compare1 (thn (ha zB s Y H _ I h) λv s1 ⟨x,H1,I1,r1,q1⟩=>thn (hb zB s1 Y H1 _ I1 q1) λu s2 ⟨y,H2,I2,r2,q2⟩=>
  thn (ho zB s2 Y H2 x y v u _ I2 r1 r2 q2) λc s3 ⟨z,H3,I3,r3,k,e,q3⟩=>?_) hm
 subst e;ext r3;calc ED ⟨H3,I3,q3⟩
def PF (r r':R2) (ta tb tc:TE):TE:=λY H Q=>ta Y H λx H1=>tb Y H1 λy H2=>r x y H2 λz H3=>∃ k,z=.bl k /\
 (if k=true then tc Y H3 λw' H4=>r' y w' H4 Q else Q (.bl false) H3)
def YR {op op':CmpOp} {r r':R2} (ho:OpR X (compareOp op) r) (ho':OpR X (compareOp op') r') (ha:PE X a ta) (hb:PE X b tb) (hc:PE X c tc)
  (hm:lastMarks [op,op'] [b,c]=false:=by with_unfolding_all rfl):PE X (.Compare a [op,op'] [b,c] pos) (PF r r' ta tb tc):=by
 intro zB s Y H Q I h;refine Compare_chain (thn (ha zB s Y H _ I h) λv s1 ⟨x,H1,I1,r1,q1⟩=>chain_link (thn (hb zB s1 Y H1 _ I1 q1) λu s2 ⟨y,H2,I2,r2,q2⟩=>
  thn (ho zB s2 Y H2 x y v u _ I2 r1 r2 q2) λd s3 ⟨z,H3,I3,r3,k,e,q3⟩=>?_)) hm
 subst e;ext r3;calc ED ?_;cases k with
 |false=>calc ite_ff ⟨.bl false,H3,I3,rfl,q3⟩
 |true=>calc ite_tt (chain_last (thn (hc zB s3 Y H3 _ I3 q3) λw' s4 ⟨z',H4,I4,r4,q4⟩=>ho' zB s4 Y H4 y z' u w' Q I4 r2 r4 q4))
def NI (K:Yb) (x:V) (H:Hp) (k:Bool):Prop :=
 match x with
 |.non=>k=false
 |.bl b=>k=b
 |.int i=>k=(i != 0)
 |.str y=>y.length<=sizeLine/\k=((y.length:Int) != 0)
 |.byt y=>y.size<=sizeLine/\k=((y.size:Int) != 0)
 |.ref p=>(∃ xs,SqL K H p xs/\k = !xs.isEmpty)\/(∃ xs,SqT K H p xs/\k = !xs.isEmpty) \/ ∃ kvs,H p=some (.dK kvs)/\k = !kvs.isEmpty
 |_=>False
def fS {κ:Type} {kvs:List (κ × V)} {vs:List (κ × Value)} (r:KV kvs vs):(!vs.isEmpty) = !kvs.isEmpty:=by
 cases r <;> rfl
def O8 {xs:List V} {its:Yf} (r:zU xs its):(!its.toArray.isEmpty) = !xs.isEmpty:=by
 cases r <;> simp
def GF:(sizeLine:Nat)<2 ^ 63:=by rw[CO];decide
def US:cN X (λx H Q=>∃ k,NI X.K x H k/\Q k H):=by
 intro zB s Y H x v Q I rx h;let⟨k,e,q⟩:=h;let hl:=GF;let hs:sizeLine=16777216:=CO;cases x with
 |non=>
  ext rx;let e':k=false:=e;subst e';calc truthy_none ⟨H,I,q⟩
 |bl b=>
  ext rx;let e':k=b:=e;subst e';calc ED ⟨H,I,q⟩
 |int i=>
  let⟨t,rfl⟩:=rx;let e':k=(i != 0):=e;subst e';calc PySem.P.truthy_int ⟨H,I,q⟩
 |str y=>
  let⟨t,rfl⟩:=rx;obtain ⟨hy,e'⟩:y.length<=sizeLine/\k=((y.length:Int) != 0):=e;subst e';calc PySem.P.truthy_str () ⟨H,I.tok _,q⟩
 |byt y=>
  let⟨t,rfl⟩:=rx;obtain ⟨hy,e'⟩:y.size<=sizeLine/\k=((y.size:Int) != 0):=e;subst e';calc PySem.W.truthy_bytes () ⟨H,I.tok _,q⟩
 |ref p=>
  ext rx;let e':(∃ xs,SqL X.K H p xs/\k = !xs.isEmpty)\/(∃ xs,SqT X.K H p xs/\k = !xs.isEmpty) \/ ∃ kvs,H p=some (.dK kvs)/\k = !kvs.isEmpty:=e;rcases e' with ⟨xs,hx,e'⟩|⟨xs,hx,e'⟩|⟨kvs,hx,e'⟩
  .subst e';let⟨its,r,pl,hz⟩:=I.list hx;let hlen:=r.length;exact wpAny_truthy_list pl.isList (by simp only[AX];omega) ⟨H,I.tok _,by rw[O8 r];calc q⟩
  .subst e';let⟨its,r,pl,hz⟩:=I.tuple hx;let hlen:=r.length;exact truthy_tuple pl (by simp only[AX];omega) ⟨H,I.tok _,by rw[O8 r];calc q⟩
  .subst e';obtain ⟨hz,hS,vs,r,m⟩:kvs.length<=sizeLine/\(p==sysModules)=false /\ ∃ vs,KV kvs vs/\s.heap.DictOf (zf X.prog X.w) p vs:=I.hok p _ hx;let hlen:kvs.length=vs.length:=Paired.length r;calc wpAny_truthy_dict hS m () ⟨H,I.tok _,by rw[fS r];calc q⟩
 |_=>calc (show False from e).elim
def fL (ha:PE X a ta) (he:∀ whole,isTrue a X.env whole=(do let v <- whole;standAt a.pos;holding [v] (truthy v))) :
  PT X a (λY H Q=>ta Y H λx H'=>∃ k,NI X.K x H' k/\Q k H'):=by
 intro zB s Y H Q I h;calc isTrue_plain (thn (ha zB s Y H _ I h) λv s1 ⟨x,H1,I1,r1,q1⟩=>US zB s1 Y H1 x v Q I1 r1 q1) (he _)
def EL {x:V} {us:Yf} (r:zU [x] us):∃ u,us=[u]/\zc x u:=by
 cases r with
 |cons r1 r2=>ext r2;calc ⟨_,rfl,r1⟩
def So {x y:V} {us:Yf} (r:zU [x,y] us):∃ u w',us=[u,w']/\zc x u/\zc y w':=by
 cases r with
 |cons r1 r2=>
  cases r2 with
  |cons r3 r4=>ext r4;calc ⟨_,_,rfl,r1,r3⟩
def fZ:CC X (.builtin "abs") (λxs H Q=>∃ i,xs=[.int i]/\Q (.int (if i<0 then -i else i)) H):=by
 intro zB s Y H xs us Q I r h;let⟨i,rfl,q⟩:=h;let⟨u,rfl,t,rfl⟩:=EL r;calc call_abs_int λu tk=>⟨.int (if i<0 then -i else i),H,I.tok _,⟨_,rfl⟩,q⟩
def bZ (hc:X.calm=true):CC X (.builtin "max") (λxs H Q=>∃ i j,xs=[.int i,.int j]/\Q (.int (if j>i then j else i)) H):=by
 intro zB s Y H xs us Q I r h;let⟨i,j,rfl,q⟩:=h;let⟨u,w',rfl,⟨t,rfl⟩,⟨t',rfl⟩⟩:=So r;refine max_two_ints (I.ok.hd hc) λh' tk k=>⟨_,H,I.kept k,?_,q⟩;by_cases hj:j>i
 .rw[AD hj,AD hj];exact ⟨_,rfl⟩
 .rw[AE hj,AE hj];calc ⟨_,rfl⟩
end
structure ObjM (h:Heap) (x dx C:Yt) (mA:Yh):Prop where
 obj:h.get? x=some (PySem.W.instObj C dx)
 ns:h.Ns1 dx mA
 ne:dx≠x
def Zy {h:Heap} {dx:Yt} {mA:Yh} (n:h.Ns1 dx mA):∃ od,h.get? dx=some od /\ ∀ name,PySem.W.lookIn name od=some (mA name):=by
 let⟨o,es,ep,ho,hd,hk,_,hm⟩:=n;refine ⟨o,ho,λname=>?_⟩;let e:=hm name;erw[nsFind,findBy]at e;rw[<-Array.find?_toList]at e;erw[PySem.W.lookIn];rw[hd];dsimp only;split
 .rename_i y q;rw[q]at e;exact BI some e
 .rename_i q;rw[q]at e;let a:es.toList.any (·.refKey)=false:=by
   rw[List.any_eq_false];intro y hy;let⟨z,t,hkey⟩:=hk y (Array.mem_toList_iff.mp hy);simp[DictEntry.refKey,hkey]
  let a':¬ es.toList.any (·.refKey)=true:=by rw[a];exact A4
  rw[AE a'];calc BI some e
def ObjM.look {h:Heap} {x dx C:Yt} {mA:Yh} (I:ObjM h x dx C mA):∃ od,PySem.W.InstAt h x (PySem.W.instObj C dx) C (some od) /\ ∀ name,PySem.W.lookIn name od=some (mA name) :=
 let ⟨od,ho,hl⟩:=Zy I.ns
 ⟨od,⟨I.obj,rfl,rfl,ho⟩,hl⟩
def DW.some_of {v:V} {o:Option Value} (r:DW (some v) o):∃ u,o=some u/\zc v u:=by
 cases o with
 |none=>calc (show False from r).elim
 |some u=>calc ⟨u,rfl,r⟩
section
variable {P:Ym} {w:Yo} {H H':Hp} {h h':Heap} {a C dx:Yt} {fs fs':List (Str × V)}
def eU (hok:HOk P w H h) (e:H a=some (.ins C dx fs)):∃ mA,ObjM h a dx C mA/\(∀ f,DW (fs.lookup f) (mA f))/\PySem.Within mA (fs.map (·.1))/\fs.length<=1000/\H dx=some (.own a):=by
 let⟨d,z,ne,ob,mA,n,r,q⟩:=(show zy P w H h a (.ins C dx fs)from hok a _ e);calc ⟨mA,⟨ob,n,ne⟩,r,q,z,d⟩
end
structure Cls (K:Yb) (C:Yt):Prop where
 pg:PySem.W.plainGet K C Str.empty=true
 hd:PySem.W.hasDictIn K C=true
 po:PySem.W.plainOver K C=true
 sa:PySem.W.findIn K (.ref C) "__setattr__" = some (some (.builtin "object.__setattr__"))
def Cls.get {K:Yb} {C:Yt} (c:Cls K C) (f:Str):PySem.W.plainGet K C f=true:=c.pg
section
variable {X:Cx} {zB:Yd} {Y:St} {H:Hp} {s:Yl} {A:Yn} {E:Yc} {Q:Yc} {c:Yu} {b:Bool}
set_option genInjectivity true in
inductive TyOf (K:Yb) (H:Hp):V->Value->Prop where
 |non:TyOf K H .non (.type "NoneType")
 |bl (x:Bool):TyOf K H (.bl x) (.type "bool")
 |int (i:Int):TyOf K H (.int i) (.type "int")
 |str (x:Str):TyOf K H (.str x) (.type "str")
 |flt (x:UInt64):TyOf K H (.flt x) (.type "float")
 |lst {a:Addr} {xs:List V} (e:H a=some (.lst xs)):TyOf K H (.ref a) (.type "list")
 |frz {a:Addr} {o:Obj} {xs:List V} (e:H a=some (.frz o (.lst xs))):TyOf K H (.ref a) (.type "list")
 |tup {a:Addr} {xs:List V} (e:H a=some (.tup xs)):TyOf K H (.ref a) (.type "tuple")
 |dK {a:Addr} {kvs:List (Key × V)} (e:H a=some (.dK kvs)):TyOf K H (.ref a) (.type "dict")
 |dT {a:Addr} {kvs:List (List Key × V)} (e:H a=some (.dT kvs)):TyOf K H (.ref a) (.type "dict")
 |ins {a C dx:Addr} {fs:List (Str × V)} (e:H a=some (.ins C dx fs)) (cl:Cls K C) (ha:PySem.W.findIn K (.ref C) "__class__" = some (some (.builtin "object.__class__")))
   (hn:PySem.W.specialIn K (.builtin "object.__class__") "__get__" = some (some (.builtin "getset_descriptor.__get__"))) (htk:PySem.W.takesIn K (.builtin "object.__class__")=some true)
   (hm:PySem.W.mroIn K C (.type "object")=some true):TyOf K H (.ref a) (.ref C)
def W6 {x:V} {u t:Yu} (I:Inv X zB Y H s) (rx:zc x u) (ty:TyOf X.K H x t) (e:PySem.W.kitOne X.K t c=some b) (h:∀ tk,Q (.bool b) { s with toks:=tk }) :
  wpAny (model X.prog X.w) A (call (.builtin "isinstance") [u,c]) Q E s:=by
 cases ty with
 |non=>cases (show u=Value.none from rx);exact Di PySem.W.kitx_none I.kIn True.intro e (λz=>nomatch z) h
 |bl y=>cases (show u=Value.bool y from rx);exact Di PySem.W.kitx_bool I.kIn True.intro e (λz=>nomatch z) h
 |int i=>let⟨t,q⟩:=(show ∃ t,u=Value.int i t from rx);ext q;exact Di PySem.W.kitx_int I.kIn True.intro e (λz=>nomatch z) h
 |str y=>let⟨t,q⟩:=(show ∃ t,u=Value.str y t from rx);ext q;exact Di PySem.W.kitx_str I.kIn True.intro e (λz=>nomatch z) h
 |flt y=>let⟨t,q⟩:=(show ∃ t,u=Value.float y t from rx);ext q;exact Di PySem.W.kitx_float I.kIn True.intro e (λz=>nomatch z) h
 | @lst a xs ea=>
  cases (show u=Value.ref a from rx);let⟨_,_,n,_,h1⟩:=(show zy X.prog X.w H s.heap a (.lst xs)from I.hok a _ ea);exact Di PySem.W.kitx_list I.kIn ⟨_,h1,rfl⟩ e (λz=>nomatch z) h
 | @frz a ob xs ea=>
  cases (show u=Value.ref a from rx);let⟨_,_,_,n,_,h1⟩:=(show zy X.prog X.w H s.heap a (.frz ob (.lst xs))from I.hok a _ ea);exact Di PySem.W.kitx_list I.kIn ⟨_,h1,rfl⟩ e (λz=>nomatch z) h
 | @tup a xs ea=>
  cases (show u=Value.ref a from rx);let⟨_,_,_,p⟩:=(show zy X.prog X.w H s.heap a (.tup xs)from I.hok a _ ea);let⟨o,h1,h2,_⟩:=p;exact Di PySem.W.kitx_tuple I.kIn ⟨o,h1,h2⟩ e (λz=>nomatch z) h
 | @dK a kvs ea=>
  cases (show u=Value.ref a from rx);let⟨_,_,vs,_,p⟩:=(show zy X.prog X.w H s.heap a (.dK kvs)from I.hok a _ ea);let⟨o,es,ep,h1,h2,_⟩:=p;exact Di PySem.W.kitx_dict I.kIn ⟨o,h1,h2.1⟩ e (λz=>nomatch z) h
 | @dT a kvs ea=>
  cases (show u=Value.ref a from rx);let⟨_,_,xs,_,o,es,ep,h1,h2,_⟩:=(show zy X.prog X.w H s.heap a (.dT kvs)from I.hok a _ ea);exact Di PySem.W.kitx_dict I.kIn ⟨o,h1,h2.1⟩ e (λz=>nomatch z) h
 | @ins a C dx fs ea cl ha hn htk hm=>
  cases (show u=Value.ref a from rx);let⟨mA,O,_⟩:=eU I.hok ea;let⟨od,J,_⟩:=O.look;calc Di (PySem.W.kitx_own (cl.get _) cl.hd ha hn htk hm) I.kIn J e (λz=>nomatch z) h
end
structure Room (k:Nat) (A:Yn):Prop where
 hd:A.handled=none
 dp:A.depth+3*k+5<recursionLimit
 un:A.units+16*k+200<cLine
def Room.mono {j k:Nat} {A:Yn} (r:Room k A) (h:j<=k):Room j A:=⟨r.hd,by have:=r.dp;omega,by have:=r.un;omega⟩
def Room.deeper {k:Nat} {A:Yn} (r:Room (k+1) A) (env:Env):Room k (A.deeper env) :=
 ⟨r.hd,by have:=r.dp;show A.depth+1+3*k+5<_;omega,by have:=r.un;show A.units+3+16*k+200<_;omega⟩
def Room.depth {k:Nat} {A:Yn} (r:Room k A):A.depth<recursionLimit:=by have:=r.dp;omega
def Room.units {k:Nat} {A:Yn} (r:Room k A):A.units+64<cLine:=by have:=r.un;omega
def Room.units0 {k:Nat} {A:Yn} (r:Room k A):A.units<cLine:=by have:=r.un;omega
def Xe:TA:=λ_ H Q=>Q [] H
def Ry (ta:TE) (tr:TA):TA:=λY H Q=>ta Y H λx H1=>tr Y H1 λxs H2=>Q (x::xs) H2
section
variable {X:Cx} {e:Expr} {es:Yi} {te:TE} {t:TA} {pos:Pos}
def Hy:PA X [] Xe:=λ_ _ _ _ H Q I h=>Calls.spliced_nil ⟨[],H,I,.nil,h⟩
def Gk (ha:PE X e te) (hr:PA X es t) (hs:starEach (e::es) X.env=(false,eval e X.env)::starEach es X.env:=by rfl):PA X (e::es) (Ry te t):=by
 intro pos zB s Y H Q I h;rw[hs];show wpAny _ _ (spliced ((false,eval e X.env)::backTo pos (starEach es X.env))) _ _ s;refine Calls.spliced_cons (thn (ha zB s Y H _ I h) λu s1 ⟨x,H1,I1,r1,q1⟩=>?_);calc thn (hr pos zB s1 Y H1 _ I1 q1) λus s2 ⟨xs,H2,I2,r2,q2⟩=>⟨x::xs,H2,I2,.cons r1 r2,q2⟩
def RF (t:TA):TE:=λY H Q=>t Y H λxs H1=>xs.length<=sizeLine /\ ∀ p,H1 p=none->Q (.ref p) (upd H1 p (.tup xs))
def Vn (t:TA):TE:=λY H Q=>t Y H λxs H1=>xs.length<=sizeLine /\ ∀ p,H1 p=none->Q (.ref p) (upd H1 p (.lst xs))
def Zu {x1} (h:PA X es t):PE X (.Tuple es x1 pos) (RF t):=by
 intro zB s Y H Q I hq;refine wpAny_Tuple_spliced (thn (h pos zB s Y H _ I hq) λus s1 ⟨xs,H1,I1,r,z,q⟩=>⟨by rw[<-r.length];calc z,?_⟩);let hf:H1 ⇑s1=none:=I1.hok.fresh (AF _);refine ⟨.ref ⇑s1,upd H1 ⇑s1 (.tup xs),I1.laid (t':=s1.toks) (λb u e=>AH _ e) (AF _) ?_,rfl,q _ hf⟩;calc ⟨z,us,r,⟨_,AK _ rfl,rfl,⟨_,rfl⟩,rfl⟩⟩
def dR (h:PA X es t):PE X (.List es pos) (Vn t):=by
 intro zB s Y H Q I hq;refine wpAny_List_spliced (thn (h pos zB s Y H _ I hq) λus s1 ⟨xs,H1,I1,r,z,q⟩=>⟨by rw[<-r.length];calc z,?_⟩);let hf:H1 ⇑s1=none:=I1.hok.fresh (AF _);refine ⟨.ref ⇑s1,upd H1 ⇑s1 (.lst xs),I1.laid (t':=s1.toks) (λb u e=>AH _ e) (AF _) ?_,rfl,q _ hf⟩;calc ⟨z,us,0,r,AK _ rfl⟩
end
abbrev Sp:=List V->Hp->VK->XK->Prop
abbrev CXT:=List Env->Hp->Shared->XK->Value->Shared->Prop
structure Env0 (P:Ym) (w:Yo) (K:Yb) (mg:Yh) (base:Heap) (A:Yn) (outer:List Env) (s:Yl) (H:Hp):Prop where
 frames:A.frames=some outer
 mod:Mod K mg base
 bs:∀ b o,base.get? b=some o->s.heap.get? b=some o/\H b=none
 bsz:base.objs.size<=⇑s
 funs:s.heap.FunFrames base outer
 frf:∀ b∈frs outer,H b=none
 hok:HOk P w H s.heap
 bare:AllBare s.gens
def CE (outer:List Env) (P:Ym) (w:Yo) (H:Hp) (s:Yl) (Q:VK) (u:Yu) (s':Yl):Prop :=
 ∃ v H',s'.os=s.os/\AllBare s'.gens/\Un (frs outer) [] H H' s.heap s'.heap/\HOk P w H' s'.heap/\zc v u/\Q v H'
def CR (CX:CXT) (outer:List Env) (P:Ym) (w:Yo) (H:Hp) (s:Yl) (Q:VK) (E:XK) (r:Result) (s':Yl):Prop :=
 match r with
 |.ok (.ret u)=>CE outer P w H s Q u s'
 |.ok _=>False
 |.error e=>CX outer H s E e s'
structure FnOk (P:Ym) (w:Yo) (K:Yb) (mg:Yh) (base:Heap) (CX:CXT) (k:Nat) (f:Yt) (fd:Yz) (ps:Yk) (sp:Sp):Prop where
 len:∀ vs H Q E,sp vs H Q E->vs.length=ps.length
 run:∀ (A:Yn) (outer:List Env) (s:Yl) (H:Hp) (args:Args) (us:Yf) (vs:List V) (Q:VK) (E:XK),Room k A->Env0 P w K mg base A outer s H->BindsTo s fd args (ps.zip us)->zU vs us->sp vs H Q E ->
  codeAny (model P w) A (.call (.ref f) args) (CR CX outer P w H s Q E) s
def FnOk.imp {P:Ym} {w:Yo} {K:Yb} {mg:Yh} {base:Heap} {CX:CXT} {k:Nat} {f:Yt} {fd:Yz} {ps:Yk} {sp sp':Sp} (F:FnOk P w K mg base CX k f fd ps sp)
  (h:∀ vs H Q E,sp' vs H Q E->sp vs H Q E):FnOk P w K mg base CX k f fd ps sp' :=
 ⟨λvs H Q E q=>F.len vs H Q E (h _ _ _ _ q),λA outer s H args us vs Q E hr he hb hv hs=>F.run A outer s H args us vs Q E hr he hb hv (h _ _ _ _ hs)⟩
section
variable {X:Cx} {zB:Yd} {Y:St} {H:Hp} {s s':Yl}
def Inv.env0 (I:Inv X zB Y H s):Env0 X.prog X.w X.K X.mg X.base X.A X.stack s H :=
 ⟨I.ok.frames,I.ok.mod,I.bs,BY I.ok.bsz I.sz,I.stack,I.stkFree,I.hok,I.bare⟩
def Inv.after {Q:VK} {u:Yu} (I:Inv X zB Y H s) (h:CE X.stack X.prog X.w H s Q u s'):EP X zB Y Q u s':=by
 let⟨v,H',os,bare,un,hok,r,q⟩:=h;let⟨hh,g,d,t,os'⟩:=s';obtain rfl:os'=s.os:=os;calc ⟨v,H',I.call (h':=hh) (g':=g) (d':=d) (t':=t) (ch:=[]) un hok bare (λb z=>absurd z (by simp)),r,q⟩
end
def fJ (sp:Sp) (dvs:List V) (E:XK) (t:TA):TE:=λY H Q=>t Y H λvs H1=>sp (vs++dvs) H1 Q E
def Fv (K:Yb) (fd:Yz) (ps:Yk) (ds:Yf):Prop :=
 ∀ (s:Yl) (us:Yf),K.In s.heap->(us++ds).length=ps.length->BindsTo s fd ⟨us,[]⟩ (ps.zip (us++ds))
def Fv.all {K:Yb} {fd:Yz} {ps:Yk} (h:∀ us:List Value,us.length=ps.length->bindArgs fd ⟨us,[]⟩=pure (ps.zip us)):Fv K fd ps []:=λs us _ hl=>by
 rw[CV]at hl ⊢;calc .of_eq (h us hl)
def Kx (CX:CXT) (X:Cx) (E:XK):Prop:=∀ (zB:Yd) (Y:St) (H:Hp) (s:Yl) (e:Yu) (s':Yl),Inv X zB Y H s->CX X.stack H s E e s'->X.xe e s'
section
variable {X:Cx} {CX:CXT} {k:Nat} {f C:Yt} {fd:Yz} {ps:Yk} {sp:Sp} {dvs:List V} {ds:Yf} {E:XK} {x m:Str} {p pos apos:Pos} {e o:Expr} {es:Yi} {ta:TE} {t:TA}
def Wr {zB:Yd} {Y:St} {H:Hp} {s:Yl} {Q:VK} {us:Yf} {vs:List V} (F:FnOk X.prog X.w X.K X.mg X.base CX k f fd ps sp) (hr:Room k X.A) (hb:Fv X.K fd ps ds) (hd:zU dvs ds) (hx:Kx CX X E)
  (I:Inv X zB Y H s) (r:zU vs us) (h:sp (vs++dvs) H Q E):wpAny (model X.prog X.w) X.A (call (.ref f) us) (EP X zB Y Q) X.xe s:=by
 let r2:zU (vs++dvs) (us++ds):=r.append hd;let hl:(us++ds).length=ps.length:=by rw[<-r2.length];exact F.len _ _ _ _ h
 refine wpAny_call (codeAny_mono (F.run X.A X.stack s H ⟨us,[]⟩ (us++ds) (vs++dvs) Q E hr I.env0 (hb s us I.kIn hl) r2 h) λr s' hq=>?_);cases r with
 |error e=>calc hx zB Y H s e s' I hq
 |ok fl=>
  cases fl with
  |ret u=>calc I.after hq
  |next=>calc False.elim hq
  |brk=>calc False.elim hq
  |cont=>calc False.elim hq
def T5 (F:FnOk X.prog X.w X.K X.mg X.base CX k f fd ps sp) (hr:Room k X.A) (hg:Gl X x) (hm:X.mg x=some (.ref f)) (hk:PySem.W.keepIn X.K (.ref f)=true) (hb:Fv X.K fd ps ds) (hd:zU dvs ds) (hx:Kx CX X E)
  (ha:PA X (e::es) t) (hdb:(x==("__debug__" : Str))=false:=by decide) (he:starEach (e::es) X.env=(false,eval e X.env)::starEach es X.env:=by rfl) (hpl:(backTo pos (starEach es X.env)).any (·.1)=false:=by rfl) :
  PE X (.Call (.Name x p) (e::es) [] pos) (fJ sp dvs E t):=by
 intro zB s Y H Q I h;calc E2 (fT I hg hm ?_ hdb);refine PySem.W.callWith_K (h₀:=X.base) I.ok.mod.kin hk (thn (ha pos zB s Y H _ I h) λus s1 ⟨vs,H1,I1,r,q⟩=>⟨I1.kIn,?_⟩) he hpl;calc Wr F hr hb hd hx I1 r q
end
structure FnScope (N P:Yk) (sc:Y0):Prop where
 kind:sc.kind=.function
 co:sc.isCoroutine=false
 gen:sc.isGenerator=false
 nd:N.Nodup
 pre:N.take P.length=P
 par:∀ x∈P,sc.names.lookup x=some .local\/sc.names.lookup x=some .cell
 nofree:∀ y∈sc.names,y.2≠.free
theorem Pz {kindOf:Str->Option NameKind} {x:Str}:∀ {binds:List (Str × Value)} {m:Yh},(∀ v,(x,v)∉binds)->bindL kindOf binds m x=m x
 |[],_,_=>rfl
 | (n,v)::r,m,h=>by
  erw[bindL];rw[Pz λw hw=>h w (AQ _ hw)];split
  .have:x≠n:=by rintro rfl;exact h v AM
   simp[this]
  .rfl
theorem Px {kindOf:Str->Option NameKind} {x:Str}:∀ {binds:List (Str × Value)} {m:Yh},(∀ v,(x,v)∉binds)->bindC kindOf binds m x=m x
 |[],_,_=>rfl
 | (n,v)::r,m,h=>by
  erw[bindC];rw[Px λw hw=>h w (AQ _ hw)];split
  .rfl
  .have:x≠n:=by rintro rfl;exact h v AM
   simp[this]
theorem Oj {kindOf:Str->Option NameKind} {x:Str} {v:Yu}:∀ {P:Yk} {vs:Yf} {i:Nat} {m:Yh},P.Nodup->P[i]?=some x->vs[i]?=some v->kindOf x=some .local ->
  bindL kindOf (P.zip vs) m x=some v
 |[],_,_,_,_,h,_,_=>by simp at h
 |_::_,[],_,_,_,_,h,_=>by simp at h
 |p::P,w::vs,0,m,nd,h1,h2,hk=>by
  simp at h1 h2;subst h1;subst h2;show bindL kindOf ((p,w)::P.zip vs) m p=_;erw[bindL];rw[Pz λv hv=>(List.nodup_cons.mp nd).1 (List.of_mem_zip hv).1,AD hk];simp
 |p::P,w::vs,i+1,m,nd,h1,h2,hk=>by
  show bindL kindOf ((p,w)::P.zip vs) m x=_;erw[bindL];calc Oj (i:=i) (List.nodup_cons.mp nd).2 (~~~h1) (~~~h2) hk
theorem OU {kindOf:Str->Option NameKind} {x:Str} {v:Yu}:∀ {P:Yk} {vs:Yf} {i:Nat} {m:Yh},P.Nodup->P[i]?=some x->vs[i]?=some v->kindOf x≠some .local ->
  bindC kindOf (P.zip vs) m x=some v
 |[],_,_,_,_,h,_,_=>by simp at h
 |_::_,[],_,_,_,_,h,_=>by simp at h
 |p::P,w::vs,0,m,nd,h1,h2,hk=>by
  simp at h1 h2;subst h1;subst h2;show bindC kindOf ((p,w)::P.zip vs) m p=_;erw[bindC];rw[Px λv hv=>(List.nodup_cons.mp nd).1 (List.of_mem_zip hv).1,AE hk];simp
 |p::P,w::vs,i+1,m,nd,h1,h2,hk=>by
  show bindC kindOf ((p,w)::P.zip vs) m x=_;erw[bindC];calc OU (i:=i) (List.nodup_cons.mp nd).2 (~~~h1) (~~~h2) hk
def start (N:Yk) (vs:List V):St:=vs.map some++List.replicate (N.length-vs.length) none
def FY (CX:CXT) (P:Ym) (w:Yo) (K:Yb) (mg:Yh) (base:Heap) (N:Yk) (qual:Str) (scope:Y0) (f:Yt) (cd:Yu) (A:Yn) (outer:List Env) (s:Yl) (H:Hp) (E:XK):Cx where
 prog:=P
 w:=w
 K:=K
 mg:=mg
 base:=base
 A:=A.deeper (envOfC qual scope ⇑s f cd)
 N:=N
 s₀:=s
 H₀:=H
 env:=envOfC qual scope ⇑s f cd
 outer:=outer
 stack:=envOfC qual scope ⇑s f cd::outer
 ex:=[]
 calm:=true
 fn:=λ_=>true
 pn:=[]
 xe:=λe s'=>wpAny (model P w) (A.deeper (envOfC qual scope ⇑s f cd)) (leaving (envOfC qual scope ⇑s f cd) e) (λ_ s''=>CX outer H s E e s'') (λe' s''=>CX outer H s E e' s'') s'
def LF {sc:Y0} {n:Nat} {x:Str} (h:sc.names.lookup x=some .cell):∃ c,(cellsFrom n sc.names []).lookup x=some c:=by
 let q:=PySem.W.cellsFrom_some sc.names n [] (.inl h);calc Option.isSome_iff_exists.mp q
def Vs {CX:CXT} {P:Ym} {w:Yo} {K:Yb} {mg:Yh} {base:Heap} {N ps:Yk} {qual:Str} {scope:Y0} {f:Yt} {cd:Yu} {A:Yn} {outer:List Env} {s s1:Yl} {H:Hp} {E:XK} {us:Yf} {vs:List V}
  (S:FnScope N ps scope) (hd:A.handled=none) (e0:Env0 P w K mg base A outer s H) (hl:vs.length=ps.length) (r:zU vs us)
  (x:InCallC s ⇑s (bindL (envOfC qual scope ⇑s f cd).kindOf (ps.zip us) λ_=>none) (cellsFrom (⇑s+1) scope.names []) (bindC (envOfC qual scope ⇑s f cd).kindOf (ps.zip us) λ_=>none) s1) :
  Inv (FY CX P w K mg base N qual scope f cd A outer s H E) [] (start N vs) H s1:=by
 let hpl:ps.length<=N.length:=by have:=BI List.length S.pre;rw[Cz]at this;omega
 let⟨h1,tk,rfl,hk⟩:=x.done;let noA:∀ b:Addr,b∉(FY CX P w K mg base N qual scope f cd A outer s H E).ex:=λb z=>absurd (show b∈([]:List Addr)from z) (by simp)
 refine ⟨⟨e0.mod,S.kind,rfl,rfl,AF _,λy z c h1 h2=>?_,λy hy=>?_,λy c _ h=>?_,λ_=>hd,Around.frames_deeper e0.frames,.inr ⟨rfl,rfl⟩,λb z=>absurd z (noA b),e0.bs,e0.bsz,λb _ _=>noA b,λb z=>absurd z (noA b),e0.funs,e0.frf⟩,
  rfl,e0.bare,Un.kept hk,⟨_,x.toInCall.ns,λi y v h1 h2 h3=>?_⟩,λy c h=>⟨_,x.cell y c h⟩,e0.hok.fresh (AF _),λy c h=>?_,λp hp=>absurd (show p∈([]:List (Addr × Obj))from hp) (by simp),e0.hok.kept hk,?_⟩
 .exact name_of_addr x.apart (Cn h1) (Cn h2)
 .have hy:scope.names.lookup y=some .cell\/scope.names.lookup y=some .free:=hy;rcases hy with hy|hy
  .exact LF hy
  .exact absurd rfl (S.nofree _ (Cn hy))
 .exact De (x.above y c (Cn h))
 .have hi:i<vs.length:=by
   erw[start]at h2;by_cases hi:i<vs.length
   .exact hi
   .rw[Gy (~~~hi)]at h2;rw[List.getElem?_replicate]at h2;split at h2 <;> ext h2
  let ha:vs[i]?=some v:=by
   erw[start]at h2;rw[BV (~~~hi),AW]at h2;cases e:vs[i]? with
   |none=>rw[e]at h2;ext h2
   |some a=>rw[e]at h2;ext h2;rfl
  let⟨u,hu,rv⟩:=r.get ha;let hp:ps[i]?=some y:=by
   rw[<-S.pre,List.getElem?_take_of_lt ()];exact h1
  let ndP:ps.Nodup:=by rw[<-S.pre];exact S.nd.sublist (List.take_sublist _ _)
  calc ⟨u,rv,?_⟩;rcases S.par y (Bn hp)with k|k
  .exact .inl ⟨k,Oj ndP hp hu k⟩
  .obtain ⟨c,e⟩:=LF (n:=⇑s+1) k;calc .inr ⟨.inl k,c,e,?_⟩;let q:=x.cell y c e;rw[OU ndP hp hu (by show scope.names.lookup y≠_;rw[k];decide)]at q;exact q
 .exact e0.hok.fresh (De (x.above y c (Cn h)))
 .unfold start;show _=N.length;rw[Aw,AI,List.length_replicate];omega
def cB {CX:CXT} {P:Ym} {w:Yo} {K:Yb} {mg:Yh} {base:Heap} {k:Nat} {f:Yt} {name qual:Str} {params:Arguments} {body:Yy} {scope:Y0} {dV kV doc pm cdv ct oc:Yu} {an od:Option Addr}
  {osl:Array (Option Value)} {N ps:Yk} {sp:Sp} (lk:K.lookup f=some ⟨oc,od,.func (PySem.W.fnOf name qual params body scope dV kV doc pm an cdv ct),osl⟩) (hcd:PySem.W.codeIn K cdv qual=true) (S:FnScope N ps scope)
  (len:∀ vs H Q E,sp vs H Q E->vs.length=ps.length)
  (hbody:∀ (A:Yn) (outer:List Env) (s:Yl) (H:Hp) (vs:List V) (Q:VK) (E:XK),Room k (A.deeper (envOfC qual scope ⇑s f cdv))->sp vs H Q E ->
   ∃ t,PSs (FY CX P w K mg base N qual scope f cdv A outer s H E) body t/\t { nx:=λ_ H'=>Q .non H',rt:=Q } (start N vs) H) :
  FnOk P w K mg base CX (k+1) f (PySem.W.fnOf name qual params body scope dV kV doc pm an cdv ct) ps sp:=by
 refine ⟨len,λA outer s H args us vs Q E hr e0 hb r hsp=>?_⟩;let hl:=len _ _ _ _ hsp;let KX:K.In s.heap:=e0.mod.kin.keeps λb o e=>(e0.bs b o e).1;let lim:s.heap.NoLimit:=e0.mod.nolimit.keeps λb o e=>(e0.bs b o e).1;let hkind:∀ y∈ps.zip us,scope.names.lookup y.1=some .local\/(scope.names.lookup y.1=some .cell/\((cellsFrom (⇑s+1) scope.names []).lookup y.1).isSome=true):=λ⟨n,v⟩ hy=>by
  rcases S.par n (List.of_mem_zip hy).1 with q|q
  .exact .inl q
  .exact .inr ⟨q,PySem.W.cellsFrom_some _ _ _ (.inl q)⟩
 refine codeAny_call_function hr.depth (KX _ _ lk) rfl S.co S.gen rfl (PySem.W.codeRec_of KX hcd) (hb _ _ _ _ ?_);refine wpAny_newFunctionEnv_cells S.kind hkind λenv he s1 x=>?_;subst he;refine ⟨lim.keeps x.toInCall.keep,codeAny_func ?_⟩;let⟨t,ht,hq⟩:=hbody A outer s H vs Q E (hr.deeper _) hsp;let I:Inv (FY CX P w K mg base N qual scope f cdv A outer s H E) [] (start N vs) H s1:=Vs S hr.hd e0 hl r x;refine AS (ht [] s1 (start N vs) H _ I hq) (λfl s' hs=>?_) λe s' hs=>hs;let fin:∀ {Y':St} {H':Hp} {v:V} {u:Yu},Inv (FY CX P w K mg base N qual scope f cdv A outer s H E) [] Y' H' s'->zc v u->Q v H'->CE outer P w H s Q u s' :=
  λ{Y' H' v u} J rv q=>⟨v,H',J.os,J.bare,J.base,J.hok,rv,q⟩
 cases fl with
 |ret u=>
  let⟨v,Y',H',J,rv,q⟩:=hs;calc fin J rv q
 |next=>
  let⟨Y',H',J,q⟩:=hs;calc fin (v:=V.non) (u:=Value.none) J rfl q
 |brk=>
  let⟨_,_,_,q⟩:=hs;calc False.elim q
 |cont=>
  let⟨_,_,_,q⟩:=hs;calc False.elim q
section
variable {X:Cx} {x:Str} {p pos:Pos} {e:Expr} {es:Yi} {t:TA} {id T:String} {r:List V->Hp->VK->Prop}
def tCB (r:List V->Hp->VK->Prop) (t:TA):TE:=λY H Q=>t Y H λvs H1=>r vs H1 Q
def Nz (hc:CC X (.builtin id) r) (hg:Gl X x) (hm:X.mg x=none) (hv:bootBuiltins x=some (.builtin id)) (ha:PA X (e::es) t) (hn:x ≠ "__name__" := by decide) (hdb:(x==("__debug__" : Str))=false:=by decide)
  (he:starEach (e::es) X.env=(false,eval e X.env)::starEach es X.env:=by rfl) (hpl:(backTo pos (starEach es X.env)).any (·.1)=false:=by rfl):PE X (.Call (.Name x p) (e::es) [] pos) (tCB r t):=by
 intro zB s Y H Q I h;calc E2 (C7 I hg hm hv ?_ hn hdb);calc PyProof.Rows.callWith_builtin1 (thn (ha pos zB s Y H _ I h) λus s1 ⟨vs,H1,I1,r1,q1⟩=>hc zB s1 Y H1 vs us Q I1 r1 q1) he hpl
def Lg (hc:CC X (.type T) r) (hg:Gl X x) (hm:X.mg x=none) (hv:bootBuiltins x=some (.type T)) (ha:PA X (e::es) t) (hn:x ≠ "__name__" := by decide) (hdb:(x==("__debug__" : Str))=false:=by decide)
  (he:starEach (e::es) X.env=(false,eval e X.env)::starEach es X.env:=by rfl) (hpl:(backTo pos (starEach es X.env)).any (·.1)=false:=by rfl):PE X (.Call (.Name x p) (e::es) [] pos) (tCB r t):=by
 intro zB s Y H Q I h;calc E2 (C7 I hg hm hv ?_ hn hdb);calc PyProof.Rows.callWith_type1 (thn (ha pos zB s Y H _ I h) λus s1 ⟨vs,H1,I1,r1,q1⟩=>hc zB s1 Y H1 vs us Q I1 r1 q1) he hpl
end
end L2
namespace HT
open PySem PyProof.Rows
section
variable {prog:Ym} {w:Yo} {A:Yn} {E:Yc} {s:Yl}
def WG {t b:Yt} {vs ws:Yf} {Q:Yc} (ht:IsTup s.heap t vs.toArray) (hb:IsTup s.heap b ws.toArray) (hv:vs≠[])
  (h1:ws=[]->Q (.ref t) s) (h2:ws≠[]->Q (.ref ⇑s) { s with heap:=s.heap.push { cls:=.type "tuple", data:=.seq (vs++ws).toArray } })
  (hsz:vs.length+ws.length<=sizeLine):wpAny (model prog w) A (binaryOp .Add (.ref t) (.ref b)) Q E s:=by
 let⟨⟨cls,dd,data,sl⟩,ho,hc,n,hd⟩:=id ht;let⟨⟨cls2,dd2,data2,sl2⟩,ho2,hc2,n2,hd2⟩:=id hb;simp only at hc hd hc2 hd2;subst hc hd hc2 hd2;let e:vs.toArray++ws.toArray=(vs++ws).toArray:=by simp
 by_cases hw:ws=[]
 .exact concat_meets ⟨_,ho,rfl⟩ ⟨_,ho2,rfl⟩ noFill_tuple_add seq_tuple_add PySem.F.slot_tuple_add PySem.F.entry_tuple_add (PySem.F.args_tuple_add_2 _ _)
   (tuple_addW1 t b vs.toArray ws.toArray n n2 dd dd2 sl sl2 (~~~hv) (by simp[hw])) ⟨ho,ho2,h1 hw⟩
 .refine concat_meets ⟨_,ho,rfl⟩ ⟨_,ho2,rfl⟩ noFill_tuple_add seq_tuple_add PySem.F.slot_tuple_add PySem.F.entry_tuple_add (PySem.F.args_tuple_add_2 _ _)
   (tuple_addW2 t b vs.toArray ws.toArray n n2 dd dd2 sl sl2 (~~~hv) (~~~hw) (by rw[AX,AX];calc hsz)) ⟨ho,ho2,?_⟩
  rw[e];calc h2 hw
def sIx (n d:Nat):Option Int->Nat
 |none=>d
 |some v=>if v<0 then (v+(n:Int)).toNat else min v.toNat n
def UT (n d k:Nat):sIx n d (some (k:Int))=min k n:=by
 show (if (k:Int)<0 then ((k:Int)+(n:Int)).toNat else min (k:Int).toNat n)=min k n;rw[AE (),Ef]
def bQ (n d:Nat) (hd:d<=n) (o:Ys):sIx n d o<=n:=by
 cases o with
 |none=>calc hd
 |some v=>
  show (if v<0 then (v+(n:Int)).toNat else min v.toNat n)<=n;by_cases hv:v<0
  .rw[AD hv];omega
  .rw[AE hv];calc Nat.min_le_right _ _
def Mn (v:Int) (n d:Nat):(if v<0 then max (v+(n:Int)) 0 else min v (n:Int))=((sIx n d (some v):Nat):Int):=by
 show (if v<0 then max (v+(n:Int)) 0 else min v (n:Int))=(((if v<0 then (v+(n:Int)).toNat else min v.toNat n):Nat):Int);by_cases hv:v<0
 .simp only[AD hv];omega
 .simp only[AE hv];omega
def Sg (lo hi:Ys) (n:Nat):Builtin.Slice.sliceAdjust lo hi 1 (n:Int)=(((sIx n 0 lo:Nat):Int),((sIx n n hi:Nat):Int)):=by
 let h1:¬ ((1:Int)<0):=()
 erw[Builtin.Slice.sliceAdjust];simp only[h1,Ah];refine Prod.ext ?_ ?_
 .cases lo with
  |none=>rfl
  |some v=>exact Mn v n 0
 .cases hi with
  |none=>rfl
  |some v=>calc Mn v n n
def XF (i j:Nat):Builtin.Slice.slicePlaces (i:Int) (j:Int) 1=j-i:=by
 erw[Builtin.Slice.slicePlaces];let h1:(1:Int)>0:=()
 simp only[h1,BC,Int.ediv_one];split <;> omega
def Q5 {v:Yu} {o:Ys} {Q:Option Int->Shared->Prop} (p:IsPart v o) (h:Q o s):wpAny (model prog w) A (Builtin.Slice.slicePartIndex v) Q E s:=by
 cases p with
 |none=>calc slicePart_none h
 |int i t=>calc slicePart_int h
def OZ {sl:Yt} {vl vu:Yu} {lo hi:Ys} {n:Nat} {Q:Int × Int × Nat->Shared->Prop} (hs:s.heap.IsSliceOf sl vl vu .none) (pl:IsPart vl lo) (pu:IsPart vu hi)
  (h:Q (((sIx n 0 lo:Nat):Int),1,sIx n n hi-sIx n 0 lo) s):wpAny (model prog w) A (Builtin.Slice.sliceApplied (.ref sl) (pure (n:Int))) Q E s:=by
 let⟨os,hos,hcs,hds⟩:=id hs;erw[Builtin.Slice.sliceApplied,Builtin.Slice.sliceFields];calc AA (AA (BF hos hds (x:=vl) rfl (AA (BF hos hds (x:=vu) rfl (AA (BF hos hds (x:=.none) rfl (AB ?_)))))));calc AA (slicePart_none ?_);show wpAny _ _ (if ((1:Int)==0)=true then _ else _) _ _ s;rw[AE ()];calc AA (Q5 pl (AA (Q5 pu (AA (AB ?_)))));show wpAny _ _ (match Builtin.Slice.sliceAdjust lo hi 1 (n:Int) with|(lo,hi)=>pure (lo,(1:Int),Builtin.Slice.slicePlaces lo hi 1)) _ _ s;rw[Sg lo hi n];show wpAny _ _ (pure (((sIx n 0 lo:Nat):Int),(1:Int),Builtin.Slice.slicePlaces ((sIx n 0 lo:Nat):Int) ((sIx n n hi:Nat):Int) 1)) _ _ s;rw[XF];calc AB h
def S8 (xs:Yp) (i k:Nat):((List.range k).filterMap λ(m:Nat)=>xs[((i:Int)+(m:Int)*1).toNat]?).toArray=((xs.toList.drop i).take k).toArray:=by
 let e:(λ(m:Nat)=>xs[((i:Int)+(m:Int)*1).toNat]?)=λm=>xs[i+m]?:=by
  funext m;have:((i:Int)+(m:Int)*1).toNat=i+m:=()
  rw[this]
 rw[e];have:=pick_run xs i k;rw[List.filterMap_map]at this;let e2:((λx=>xs[x]?)∘λx=>i+x)=λm=>xs[i+m]?:=rfl;rw[e2]at this;rw[this]
def eY {t sl:Yt} {items:Yp} {vl vu:Yu} {lo hi:Ys} {Q:Yc} (ht:IsTup s.heap t items) (hs:s.heap.IsSliceOf sl vl vu .none) (pl:IsPart vl lo) (pu:IsPart vu hi)
  (hw:¬ (sIx items.size 0 lo=0/\sIx items.size items.size hi=items.size))
  (h:Q (.ref ⇑s) { s with heap:=s.heap.push { cls:=.type "tuple", data:=.seq ((items.toList.drop (sIx items.size 0 lo)).take (sIx items.size items.size hi-sIx items.size 0 lo)).toArray } })
  (hsz:items.size<=sizeLine):wpAny (model prog w) A (getItem (.ref t) (.ref sl)) Q E s:=by
 let htake:sizeOk (.seq ((items.toList.drop (sIx items.size 0 lo)).take (sIx items.size items.size hi-sIx items.size 0 lo)).toArray):=by
  show ((items.toList.drop (sIx items.size 0 lo)).take (sIx items.size items.size hi-sIx items.size 0 lo)).toArray.size<=sizeLine;rw[AX,Cz,List.length_drop,Ae];omega
 let hj:sIx items.size items.size hi<=items.size:=bQ _ _ (AF _) hi;let⟨os,hos,hcs,hds⟩:=id hs;let hTs:s.TypeIs (.ref sl) "slice" := ⟨os,hos,hcs⟩;erw[getItem];try with_reducible refine A6 ?_
 first|refine AA (AB ?_)|skip
 refine AA (wpAny_sequenceKey ht.typeIs () ?_)
 refine AA (Bq (name:=Str.ofString "__getitem__") ht.typeIs Gd
  (Ap Gd ht.typeIs entry_tuple_getitem ?_ (args_tuple_getitem _ _)))
 show wpAny _ _ (Builtin.Tuple.tupleItemsOf (.ref t) >>= _) _ _ s;refine AA (tupleItemsOf_ ht ?_);refine AA (C8 hTs ?_);rw[AD ()];refine AA (OZ hs pl pu ?_);let hno:¬ ((((sIx items.size 0 lo:Nat):Int)==0&&(1:Int)==1&&(sIx items.size items.size hi-sIx items.size 0 lo)==items.size)=true):=by
  intro q;rw[Ay,Ay]at q;let q1:((sIx items.size 0 lo:Nat):Int)=0:=eq_of_beq q.1.1;let q2:sIx items.size items.size hi-sIx items.size 0 lo=items.size:=eq_of_beq q.2;exact hw ⟨(),()⟩
 show wpAny _ _ (if (((sIx items.size 0 lo:Nat):Int)==0&&(1:Int)==1&&(sIx items.size items.size hi-sIx items.size 0 lo)==items.size)=true then _ else _) _ _ s;rw[AE hno,S8]
 first
  |calc AA (m:=Builtin.Tuple.tupleExact _) (Ao (AB ⟨_,rfl,AB h⟩) htake)
  |calc AA (m:=Builtin.Tuple.tupleExact _) (Ao (AA (AB (AB ⟨_,rfl,AB h⟩))) htake)
  |calc AA (AA (m:=Builtin.Tuple.tupleExact _) (Ao (AB (AB ⟨_,rfl,AB h⟩)) htake))
  |calc AA (AA (m:=Builtin.Tuple.tupleExact _) (Ao (AB ⟨_,rfl,AB h⟩) htake))
end
end HT
namespace L2
abbrev TO:=St->Hp->(Option Int->Hp->Prop)->Prop
def PO (X:Cx) (e:Option Expr) (t:TO):Prop :=
 ∀ (zB:Yd) (s:Yl) (Y:St) (H:Hp) (Q:Option Int->Hp->Prop),Inv X zB Y H s->t Y H Q ->
  wpAny (model X.prog X.w) X.A (evalPart e X.env) (λu s'=>∃ o H',Inv X zB Y H' s'/\IsPart u o/\Q o H') X.xe s
def Rp:TO:=λ_ H Q=>Q none H
def cR (t:TE):TO:=λY H Q=>t Y H λx H1=>∃ i,x=.int i/\Q (some i) H1
section
variable {X:Cx} {e:Expr} {te:TE} {lo hi:Option Expr} {tl th:TO} {pos p2:Pos}
def Ve:PO X none Rp:=by
 intro zB s Y H Q I h;rw[evalPart_none];calc AB ⟨none,H,I,.none,h⟩
def TX (h:PE X e te):PO X (some e) (cR te):=by
 intro zB s Y H Q I hw;rw[evalPart_some];refine thn (h zB s Y H _ I hw) λu s1 ⟨x,H1,I1,r1,q1⟩=>?_;let⟨i,rfl,q⟩:=q1;let⟨t,rfl⟩:=r1;calc ⟨some i,H1,I1,.int i t,q⟩
def SlR (X:Cx) (r:V->Option Int->Option Int->Hp->VK->Prop):Prop :=
 ∀ (zB:Yd) (s:Yl) (Y:St) (H:Hp) (x:V) (v vl vu:Yu) (lo hi:Ys) (sl:Yt) (Q:VK),Inv X zB Y H s->zc x v->s.heap.IsSliceOf sl vl vu .none->IsPart vl lo->IsPart vu hi->r x lo hi H Q ->
  ∃ T id,typeLookup (.type T) "__getitem__" = pure (some (.builtin id))/\s.TypeIs v T/\wpAny (model X.prog X.w) X.A (getItem v (.ref sl)) (EP X zB Y Q) X.xe s
def SlR.or {r r':V->Option Int->Option Int->Hp->VK->Prop} (h:SlR X r) (h':SlR X r'):SlR X (λx lo hi H Q=>r x lo hi H Q\/r' x lo hi H Q):=by
 intro zB s Y H x v vl vu lo hi sl Q I rx hs pl pu q;rcases q with q|q
 .exact h zB s Y H x v vl vu lo hi sl Q I rx hs pl pu q
 .exact h' zB s Y H x v vl vu lo hi sl Q I rx hs pl pu q
def tSl (r:V->Option Int->Option Int->Hp->VK->Prop) (te:TE) (tl th:TO):TE:=λY H Q=>te Y H λx H1=>tl Y H1 λl H2=>th Y H2 λu H3=>r x l u H3 Q
def X0 {r:V->Option Int->Option Int->Hp->VK->Prop} (hr:SlR X r) (he:PE X e te) (hl:PO X lo tl) (hu:PO X hi th):PE X (.Subscript e (.Slice lo hi none p2) pos) (tSl r te tl th):=by
 intro zB s Y H Q I h;refine Subscript_ (thn (he zB s Y H _ I h) λv s1 ⟨x,H1,I1,r1,q1⟩=>?_);refine wpAny_Slice (thn (hl zB s1 Y H1 _ I1 q1) λvl s2 ⟨l,H2,I2,pl,q2⟩=>thn (hu zB s2 Y H2 _ I2 q2) λvu s3 ⟨u,H3,I3,pu,q3⟩=>?_);rw[evalPart_none];calc AB ?_;let I4:Inv X zB Y H3 { s3 with heap:=s3.heap.push { cls:=.type "slice", data:=.fields #[vl,vu,.none] } }:=I3.kept (t':=s3.toks) λb ob q=>AH _ q;let⟨T,id,hT,ht,hg⟩:=hr zB { s3 with heap:=s3.heap.push { cls:=.type "slice", data:=.fields #[vl,vu,.none] } } Y H3 x v vl vu l u ⇑s3 Q I4 r1 (Heap.IsSliceOf.new ..) pl pu q3;show wpAny (model X.prog X.w) X.A (subscriptTail e (.Slice lo hi none p2) v (.ref ⇑s3)) (EP X zB Y Q) X.xe { s3 with heap:=s3.heap.push { cls:=.type "slice", data:=.fields #[vl,vu,.none] } };calc tail_any (ops:=[.ref ⇑s3,v]) ht hT hg (by with_unfolding_all rfl)
def En (xs:List V) (lo hi:Ys):List V:=(xs.drop (HT.sIx xs.length 0 lo)).take (HT.sIx xs.length xs.length hi-HT.sIx xs.length 0 lo)
def NW (xs:List V) (lo hi:Ys):(En xs lo hi).length<=xs.length:=by
 erw[En];rw[Cz,List.length_drop];omega
def ZG (K:Yb):V->Option Int->Option Int->Hp->VK->Prop:=λx lo hi H Q=>∃ a xs,x=.ref a/\SqT K H a xs /\
 ¬ (HT.sIx xs.length 0 lo=0/\HT.sIx xs.length xs.length hi=xs.length) /\ ∀ p,H p=none->Q (.ref p) (upd H p (.tup (En xs lo hi)))
def aT:SlR X (ZG X.K):=by
 intro zB s Y H x v vl vu lo hi sl Q I rx hs pl pu h;let⟨a,xs,rfl,hx,hw,q⟩:=h;ext rx;let⟨its,r,ht,hz⟩:=I.tuple hx;let hlen:its.toArray.size=xs.length:=by rw[AX];exact r.length.symm
 calc ⟨"tuple", _,Gd.lookup,ht.typeIs,?_⟩;calc HT.eY ht hs pl pu (by rw[hlen];calc hw) ?_ (by rw[hlen];calc hz);rw[hlen];refine ⟨.ref ⇑s,_,I.laid (t':=s.toks) (o:=.tup (En xs lo hi)) (λb ob q=>AH _ q) (AF _) ?_,rfl,q _ (I.hok.fresh (AF _))⟩;calc ⟨BY (NW xs lo hi) hz,_,(r.drop (HT.sIx xs.length 0 lo)).take (HT.sIx xs.length xs.length hi-HT.sIx xs.length 0 lo),Dh.new _ _⟩
def OH (K:Yb):R2:=λx y H Q=>∃ a b xs ys,x=.ref a/\y=.ref b/\SqT K H a xs/\SqT K H b ys/\xs≠[]/\xs.length+ys.length<=sizeLine /\
 (ys=[]->Q (.ref a) H)/\(ys≠[] -> ∀ p,H p=none->Q (.ref p) (upd H p (.tup (xs++ys))))
def zU.nil_iff {xs:List V} {us:Yf} (r:zU xs us):us=[] ↔ xs=[]:=by
 cases r with
 |nil=>simp
 |cons _ _=>simp
def Xz:OpR X (binaryOp .Add) (OH X.K):=by
 intro zB s Y H x y v u Q I rx ry h;let⟨a,b,xs,ys,rfl,rfl,ha,hb,hx,hz,q1,q2⟩:=h;ext rx;ext ry;let⟨its,r1,p1,_⟩:=I.tuple ha;let⟨its2,r2,p2,_⟩:=I.tuple hb;refine HT.WG p1 p2 (λz=>hx (r1.nil_iff.mp z)) (λz=>⟨.ref a,H,I,rfl,q1 (r2.nil_iff.mp z)⟩) (λz=>?_) (by rw[<-r1.length,<-r2.length];calc hz);refine ⟨.ref ⇑s,_,I.laid (t':=s.toks) (o:=.tup (xs++ys)) (λb ob q=>AH _ q) (AF _) ?_,rfl,q2 (λw=>z (r2.nil_iff.mpr w)) _ (I.hok.fresh (AF _))⟩;calc ⟨by rw[Aw];calc hz,_,r1.append r2,Dh.new _ _⟩
end
def ixN (n:Nat) (i:Int):Option Nat:=if 0<=i then (if i<n then some i.toNat else none) else if -(n:Int)<=i then some (i+n).toNat else none
def atI {α:Type} (xs:List α) (i:Int):Option α:=(ixN xs.length i).bind λj=>xs[j]?
def KG {n:Nat} {i:Int} {j:Nat} (h:ixN n i=some j):seqIndex? i n=some j/\j<n /\ -(n:Int)<=i/\i<n:=by
 erw[ixN]at h;by_cases h0:0<=i
 .rw[AD h0]at h;by_cases h1:i<n
  .rw[AD h1]at h;let e:i.toNat=j:=BQ h;exact ⟨by rw[seqIndex_of h0 h1,e],(),(),h1⟩
  .rw[AE h1]at h;ext h
 .rw[AE h0]at h;by_cases h1 : -(n:Int)<=i
  .rw[AD h1]at h;let e:(i+n).toNat=j:=BQ h;exact ⟨by rw[seqIndex_neg () h1,e],(),h1,()⟩
  .rw[AE h1]at h;ext h
def Lr {α:Type} {xs:List α} {i:Int} {v:α} (h:atI xs i=some v):∃ j,seqIndex? i xs.length=some j/\xs[j]?=some v/\j<xs.length /\ -(xs.length:Int)<=i/\i<xs.length:=by
 erw[atI]at h;cases e:ixN xs.length i with
 |none=>rw[e]at h;ext h
 |some j=>
  rw[e]at h;let⟨h1,h2,h3,h4⟩:=KG e;calc ⟨j,h1,h,h2,h3,h4⟩
def Iv {α:Type} {xs:List α} {j:Nat} {v:α} (h:xs[j]?=some v):atI xs (j:Int)=some v:=by
 let hj:j<xs.length:=(AY.mp h).1;let e:ixN xs.length (j:Int)=some j:=by
  erw[ixN];rw[AD (),AD ()];simp
 erw[atI];rw[e];calc h
def N3 (b:Expr):Prop:=∀ o i,subscripted b false o i=operate [o,i] (getItem o i)
def IxR (X:Cx) (r:R2):Prop :=
 ∀ (value slice:Expr) (zB:Yd) (s:Yl) (Y:St) (H:Hp) (x y:V) (v u:Yu) (Q:VK),Inv X zB Y H s->zc x v->zc y u->r x y H Q ->
  subscripted slice false v u=operate [v,u] (getItem v u)->wpAny (model X.prog X.w) X.A (subscriptTail value slice v u) (EP X zB Y Q) X.xe s
def MtR (X:Cx) (id:String) (r:V->List V->Hp->VK->Prop):Prop :=
 ∀ (zB:Yd) (s:Yl) (Y:St) (H:Hp) (x:V) (xs:List V) (v:Yu) (us:Yf) (Q:VK),Inv X zB Y H s->zc x v->zU xs us->r x xs H Q ->
  wpAny (model X.prog X.w) X.A (call (.builtin id) (v::us)) (EP X zB Y Q) X.xe s
section
variable {X:Cx} {a b:Expr} {ta tb:TE} {pos:Pos}
def IxR.or {r r':R2} (h:IxR X r) (h':IxR X r'):IxR X (λx y H Q=>r x y H Q\/r' x y H Q):=by
 intro value slice zB s Y H x y v u Q I rx ry q hs;rcases q with q|q
 .exact h value slice zB s Y H x y v u Q I rx ry q hs
 .exact h' value slice zB s Y H x y v u Q I rx ry q hs
def T9 {r:R2} (hr:IxR X r) (ha:PE X a ta) (hb:PE X b tb) (hs:N3 b):PE X (.Subscript a b pos) (tOp r ta tb):=by
 intro zB s Y H Q I h;calc Subscript_ (Kg ha hb I h λv u s2 x y H2 I2 rx ry q=>hr a b zB s2 Y H2 x y v u Q I2 rx ry q (hs _ _))
def NU (K:Yb):R2:=λx y H Q=>∃ p xs i v,x=.ref p/\y=.int i/\SqL K H p xs/\atI xs i=some v/\Q v H
def Mb (K:Yb):R2:=λx y H Q=>∃ p xs i v,x=.ref p/\y=.int i/\SqT K H p xs/\atI xs i=some v/\Q v H
def P6:R2:=λx y H Q=>∃ z i c,x=.str z/\y=.int i/\z.length<=sizeLine/\atI z.cps.toList i=some c/\Q (.str ⟨#[c]⟩) H
def YB:IxR X (NU X.K):=by
 intro value slice zB s Y H x y v u Q I rx ry h hs;let⟨p,xs,i,z,rfl,rfl,hq,he,q⟩:=h;ext rx;let⟨t,rfl⟩:=ry;let⟨its,r,pl,hz⟩:=I.list hq;let⟨j,h1,h2,h3,h4,h5⟩:=Lr he;let⟨w,ew,rw'⟩:=r.get h2;let hl:=r.length;let hn:=GF;let fin:EP X zB Y Q w s:=⟨z,H,I,rw',q⟩;by_cases h0:0<=i
 .have hj:i.toNat=j:=by
   rw[seqIndex_of h0 h5]at h1;exact BQ h1
  exact item_listR pl.isList h0 () (by rw[hj];simpa using ew) fin hs
 .have hj:(i+(its.toArray.size:Int)).toNat=j:=by
   rw[seqIndex_neg () h4]at h1;rw[AX,<-hl];exact BQ h1
  exact subscriptTail_builtinR (x:=w) pl.isList.typeIs slot_list_getitem.lookup
   (wpAny_getItem_list_neg (Q:=λr s'=>r=w/\EP X zB Y Q r s') pl.isList () (by rw[AX] <;> omega) () (by rw[hj];simpa using ew) ⟨rfl,fin⟩) hs
def Wi:IxR X (Mb X.K):=by
 intro value slice zB s Y H x y v u Q I rx ry h hs;let⟨p,xs,i,z,rfl,rfl,hq,he,q⟩:=h;ext rx;let⟨t,rfl⟩:=ry;let⟨its,r,pl,hz⟩:=I.tuple hq;let⟨j,h1,h2,h3,h4,h5⟩:=Lr he;let⟨w,ew,rw'⟩:=r.get h2;let hl:=r.length;let hn:=GF;let fin:EP X zB Y Q w s:=⟨z,H,I,rw',q⟩
 exact subscriptTail_builtinR (x:=w) pl.typeIs slot_tuple_getitem.lookup
  (getItem_tuple (j:=j) (Q:=λr s'=>r=w/\EP X zB Y Q r s') pl () () (by rw[AX,<-hl];calc h1) (~~~ew) ⟨rfl,fin⟩) hs
def gR:IxR X P6:=by
 intro value slice zB s Y H x y v u Q I rx ry h hs;let⟨z,i,c,rfl,rfl,hz,he,q⟩:=h;let⟨t,rfl⟩:=rx;let⟨t',rfl⟩:=ry;let⟨j,h1,h2,h3,h4,h5⟩:=Lr he;let hl:z.cps.toList.length=z.length:=by simp[Str.length]
 rw[hl]at h1 h4 h5;let hn:=GF;exact tail_any (typeIs_str s z t) slot_str_getitem.lookup (getItem_str (c:=c) (by
  let e1:decide (i < -(2 ^ 63:Int))=false:=BB ();let e2:decide (i≥2 ^ 63)=false:=BB ();rw[e1,e2,Bool.or_false]) (by rw[h1];simpa using h2) ⟨.str ⟨#[c]⟩,H,I.tok _,⟨_,rfl⟩,q⟩) hs
def rIx (K:Yb):R2:=λx y H Q=>NU K x y H Q\/Mb K x y H Q\/P6 x y H Q
def ZL:IxR X (rIx X.K):=YB.or (Wi.or gR)
def bB (its:List Value) (n j:Nat) (u:Value):Obj.mapSeq (·.setIfInBounds j u) { cls:=.type "list", data:=.seq its.toArray n }={ cls:=.type "list", data:=.seq (its.set j u).toArray n }:=by
 simp[Obj.mapSeq]
def Inv.lst {zB:Yd} {Y:St} {H:Hp} {s:Yl} {p:Yt} {xs:List V} (I:Inv X zB Y H s) (h:H p=some (.lst xs)) :
  ∃ (its:List Value) (n:Nat),zU xs its/\s.heap.get? p=some { cls:=.type "list", data:=.seq its.toArray n }/\xs.length<=sizeLine:=by
 let⟨z,its,n,r,e⟩:=I.hok p _ h;calc ⟨its,n,r,e,z⟩
def Inv.lstUpd {zB:Yd} {Y:St} {H:Hp} {s:Yl} {p:Yt} {xs ys:List V} {its its':Yf} {n n':Nat} {f:Obj->Obj} (I:Inv X zB Y H s) (h:H p=some (.lst xs))
  (ho:s.heap.get? p=some { cls:=.type "list", data:=.seq its.toArray n }) (hf:f { cls:=.type "list", data:=.seq its.toArray n }={ cls:=.type "list", data:=.seq its'.toArray n' }) (r:zU ys its') (hz:ys.length<=sizeLine) (t:Nat) :
  Inv X zB Y (upd H p (.lst ys)) { s with heap:=s.heap.update p f,toks:=t }:=by
 let e:(s.heap.update p f).get? p=some { cls:=.type "list", data:=.seq its'.toArray n' }:=by
  rw[CA f ho (by rw[hf] <;> rfl),hf]
 refine I.write (x:=p) (e:=p) (by rw[h];trivial) (.inl rfl) (λb u hb q=>(DK _ _ (Ne.symm hb)).trans q) ⟨_,e⟩ ?_;calc ⟨hz,its',n',r,e⟩
def cK:V->V->V->Hp->(Hp->Prop)->Prop:=λo i v H Q=>∃ p xs k j,o=.ref p/\i=.int k/\H p=some (.lst xs)/\ixN xs.length k=some j/\Q (upd H p (.lst (xs.set j v)))
def eO:NH X cK:=by
 intro zB s Y H o i v ov iv u Q I ro ri rv h;let⟨p,xs,k,j,rfl,rfl,hp,hj,q⟩:=h;ext ro;let⟨t,rfl⟩:=ri;let⟨its,n,r,ho,hz⟩:=I.lst hp;let⟨h1,h2,h3,h4⟩:=KG hj;let hl:=r.length;let hn:=GF;let I':Inv X zB Y (upd H p (.lst (xs.set j v))) { s with heap:=s.heap.update p (Obj.mapSeq (·.setIfInBounds j u)) } :=
  I.lstUpd hp ho (bB its n j u) (r.set rv j) (by rw[List.length_set];calc hz) s.toks
 by_cases h0:0<=k
 .have hk:k.toNat=j:=by
   rw[seqIndex_of h0 h4]at h1;exact BQ h1
  exact PySem.W.ki_setAt ho h0 () (by rw[AX,<-hl];calc h4) (by rw[hk];calc ⟨_,I',q⟩)
 .have hk:(k+(its.toArray.size:Int)).toNat=j:=by
   rw[seqIndex_neg () h3]at h1;rw[AX,<-hl];exact BQ h1
  calc PySem.W.ki_setBack ho () (by rw[AX,<-hl];calc h3) () (by rw[hk];calc ⟨_,I',q⟩)
def WJ (lo hi:Ys) (n:Nat):(sliceBounds lo hi none n).1=((HT.sIx n 0 lo:Nat):Int)/\(sliceBounds lo hi none n).2.1=((HT.sIx n n hi:Nat):Int)/\(sliceBounds lo hi none n).2.2=1:=by
 refine ⟨?_,?_,rfl⟩
 .cases lo with
  |none=>simp[sliceBounds,HT.sIx]
  |some i=>
   simp only[sliceBounds,HT.sIx,Option.getD_none,show (1:Int)>0 by decide,BC];by_cases h:i<0
   .simp only[h,BC] <;> omega
   .simp only[h,Ah] <;> omega
 .cases hi with
  |none=>simp[sliceBounds,HT.sIx]
  |some i=>
   simp only[sliceBounds,HT.sIx,Option.getD_none,show (1:Int)>0 by decide,BC];by_cases h:i<0
   .simp only[h,BC] <;> omega
   .simp only[h,Ah] <;> omega
def gT (its:Yf) (lo hi:Ys):slicePick its.toArray lo hi none=((its.drop (HT.sIx its.length 0 lo)).take (HT.sIx its.length its.length hi-HT.sIx its.length 0 lo)).toArray:=by
 let⟨h1,h2,h3⟩:=WJ lo hi its.toArray.size;erw[slicePick];rw[h1,h2,h3];simp only[sliceRange_one,pick_run,AX] <;> rfl
def Wn (K:Yb):V->Option Int->Option Int->Hp->VK->Prop:=λx lo hi H Q=>∃ a xs,x=.ref a/\SqL K H a xs /\ ∀ p,H p=none->Q (.ref p) (upd H p (.lst (En xs lo hi)))
def Tz:SlR X (Wn X.K):=by
 intro zB s Y H x v vl vu lo hi sl Q I rx hs pl pu h;let⟨a,xs,rfl,hx,q⟩:=h;ext rx;let⟨its,r,ht,hz⟩:=I.list hx;let hlen:=r.length;calc ⟨"list", _,slot_list_getitem.lookup,ht.isList.typeIs,?_⟩;refine wpAny_getItem_list_slice ht.isList hs pl pu .none (by simp) ?_ (by rw[AX] <;> omega);rw[gT,<-hlen];refine ⟨.ref ⇑s,_,I.laid (t':=s.toks) (o:=.lst (En xs lo hi)) (λb ob q=>AH _ q) (AF _) ?_,rfl,q _ (I.hok.fresh (AF _))⟩;calc ⟨BY (NW xs lo hi) hz,_,0,(r.drop (HT.sIx xs.length 0 lo)).take (HT.sIx xs.length xs.length hi-HT.sIx xs.length 0 lo),AK _ rfl⟩
def Eb:V->Bool
 |.non=>true
 |.bl _=>true
 |.int _=>true
 |.str _=>true
 |_=>false
def eqV:V->V->Bool
 |.non,.non=>true
 |.bl a,.bl b=>a==b
 |.bl a,.int b=>(if a then 1 else 0)==b
 |.int a,.bl b=>a==(if b then 1 else 0)
 |.int a,.int b=>a==b
 |.str a,.str b=>a==b
 |_,_=>false
def Vm {A:Yn} {s:Yl} {y x:V} {u v:Yu} (ry:zc y u) (rx:zc x v) (fy:Eb y=true) (fx:Eb x=true):SeqAt.EqAt A s u v (eqV y x):=by
 cases y with
 |non=>
  ext ry;cases x with
  |non=>ext rx;calc SeqAt.EqAt.same _
  |bl b=>ext rx;calc SeqAt.EqAt.none_bool b
  |int b=>let⟨t,rfl⟩:=rx;calc SeqAt.EqAt.none_int b t
  |str b=>let⟨t,rfl⟩:=rx;calc SeqAt.EqAt.none_str b t
  |_=>calc absurd (show false=true from fx) A4
 |bl a=>
  ext ry;cases x with
  |non=>ext rx;calc SeqAt.EqAt.bool_none a
  |bl b=>ext rx;calc SeqAt.EqAt.bool_bool a b
  |int b=>let⟨t,rfl⟩:=rx;calc SeqAt.EqAt.bool_int a b t
  |str b=>let⟨t,rfl⟩:=rx;calc SeqAt.EqAt.bool_str a b t
  |_=>calc absurd (show false=true from fx) A4
 |int a=>
  let⟨t',rfl⟩:=ry;cases x with
  |non=>ext rx;calc SeqAt.EqAt.int_none a t'
  |bl b=>ext rx;calc SeqAt.EqAt.int_bool a t' b
  |int b=>let⟨t,rfl⟩:=rx;calc SeqAt.EqAt.int_int a t' b t
  |str b=>let⟨t,rfl⟩:=rx;calc SeqAt.EqAt.int_str a t' b t
  |_=>calc absurd (show false=true from fx) A4
 |str a=>
  let⟨t',rfl⟩:=ry;cases x with
  |non=>ext rx;calc SeqAt.EqAt.str_none a t'
  |bl b=>ext rx;calc SeqAt.EqAt.str_bool a t' b
  |int b=>let⟨t,rfl⟩:=rx;calc SeqAt.EqAt.str_int a t' b t
  |str b=>let⟨t,rfl⟩:=rx;calc SeqAt.EqAt.str_str a t' b t
  |_=>calc absurd (show false=true from fx) A4
 |_=>calc absurd (show false=true from fy) A4
def eqU (x:V) (u:Yu):Bool:=match u with
 |.none=>eqV .non x
 |.bool b=>eqV (.bl b) x
 |.int i _=>eqV (.int i) x
 |.str z _=>eqV (.str z) x
 |_=>false
def QN {x y:V} {u:Yu} (r:zc y u) (f:Eb y=true):eqU x u=eqV y x:=by
 cases y with
 |non=>ext r;rfl
 |bl b=>ext r;rfl
 |int i=>let⟨t,rfl⟩:=r;rfl
 |str z=>let⟨t,rfl⟩:=r;rfl
 |_=>calc absurd (show false=true from f) A4
theorem Kb {x:V}:∀ {xs:List V} {us:Yf},zU xs us->xs.all Eb=true->us.any (eqU x)=xs.any λy=>eqV y x
 |_,_,.nil,_=>rfl
 |y::xs,u::us,.cons r t,f=>by
  rw[List.all_cons,Ay]at f;rw[List.any_cons,List.any_cons,QN r f.1,Kb t f.2]
theorem K6 {A:Yn} {s:Yl} {x:V} {v:Yu} (rx:zc x v) (fx:Eb x=true):∀ {xs:List V} {us:Yf},zU xs us->xs.all Eb=true -> ∀ u∈us,SeqAt.EqAt A s u v (eqU x u)
 |_,_,.nil,_=>λu hu=>by ext hu
 |y::xs,u::us,.cons r t,f=>λu' hu=>by
  rw[List.all_cons,Ay]at f;rcases AJ.mp hu with rfl|hu
  .rw[QN r f.1];exact Vm r rx f.1 fx
  .exact K6 rx fx t f.2 u' hu
def inV (x:V) (xs:List V):Bool:=xs.any λy=>eqV y x
def rIn (K:Yb) (neg:Bool):R2:=λx y H Q=>∃ p xs,y=.ref p/\(SqL K H p xs\/SqT K H p xs)/\Eb x=true/\xs.all Eb=true/\Q (.bl (if neg then !inV x xs else inV x xs)) H
def Vi:OpR X (compareOp .NotIn) (rIn X.K true):=by
 intro zB s Y H x y v u Q I rx ry h;let⟨p,xs,rfl,hq,fx,fs,q⟩:=h;ext ry;rcases hq with hq|hq
 .obtain ⟨its,r,pl,hz⟩:=I.list hq;refine SeqAt.notIn_listAt (eqU x) pl.isList (λw hw=>K6 rx fx r fs w (~~~hw)) ⟨.bl _,H,I,rfl,?_⟩;rw[show its.toArray.any (eqU x)=its.any (eqU x) by simp,Kb r fs];exact q
 .obtain ⟨its,r,pl,hz⟩:=I.tuple hq;refine SeqAt.notIn_tupleAt (eqU x) pl (λw hw=>K6 rx fx r fs w (~~~hw)) ⟨.bl _,H,I,rfl,?_⟩;rw[show its.toArray.any (eqU x)=its.any (eqU x) by simp,Kb r fs];calc q
def b5:CC X (.builtin "len") (λxs H Q=>∃ p ys,xs=[.ref p]/\(SqL X.K H p ys\/SqT X.K H p ys)/\Q (.int ys.length) H):=by
 intro zB s Y H xs us Q I r h;let⟨p,ys,rfl,hq,q⟩:=h;let⟨u,rfl,rx⟩:=EL r;ext rx;let hn:=GF;rcases hq with hq|hq
 .obtain ⟨its,r',pl,hz⟩:=I.list hq;let hlen:=r'.length;exact Calls.call_len_list pl.isList (by simp only[AX] <;> omega) ⟨.int ys.length,H,I.tok _,⟨s.toks+1,by rw[AX,hlen]⟩,q⟩
 .obtain ⟨its,r',pl,hz⟩:=I.tuple hq;let hlen:=r'.length;exact len_tuple pl (by simp only[AX] <;> omega) ⟨.int ys.length,H,I.tok _,⟨s.toks+1,by rw[AX,hlen]⟩,q⟩
def S5:CC X (.type "list") (λxs H Q=>∃ p ys,xs=[.ref p]/\(SqL X.K H p ys\/SqT X.K H p ys) /\ ∀ l,H l=none->Q (.ref l) (upd H l (.lst ys))):=by
 intro zB s Y H xs us Q I r h;let⟨p,ys,rfl,hq,q⟩:=h;let⟨u,rfl,rx⟩:=EL r;ext rx
 let fin:∀ (its:Yf),zU ys its->ys.length<=sizeLine -> ∀ (h':Heap) (c':Nat),(∀ b o',s.heap.get? b=some o'->h'.get? b=some o') ->
   h'.get? ⇑s=some { cls:=.type "list", dict:=none,data:=.seq its.toArray c',slots:=#[] }->EP X zB Y Q (.ref ⇑s) { s with heap:=h' }:=λits r' hz h' c' kp e=>
  ⟨.ref ⇑s,_,I.laid (t':=s.toks) kp (AF _) (show zy X.prog X.w _ h' _ (.lst ys)from ⟨hz,its,c',r',e⟩),rfl,q _ (I.hok.fresh (AF _))⟩
 rcases hq with hq|hq
 .obtain ⟨its,r',pl,hz⟩:=I.list hq;let hlen:=r'.length;let⟨o,ho,hc,n,hd⟩:=pl.isList;exact call_list_seq p (.inl rfl) ho hc hd (λh' c' kp e=>fin its r' hz h' c' kp e) (by simp only[AX] <;> omega)
 .obtain ⟨its,r',pl,hz⟩:=I.tuple hq;let hlen:=r'.length;let⟨o,ho,hc,n,hd⟩:=pl;exact call_list_seq p (.inr rfl) ho hc hd (λh' c' kp e=>fin its r' hz h' c' kp e) (by simp only[AX] <;> omega)
def fE:CC X (.type "tuple") (λxs H Q=>∃ p ys,xs=[.ref p]/\((SqL X.K H p ys /\ ∀ l,H l=none->Q (.ref l) (upd H l (.tup ys)))\/(SqT X.K H p ys/\Q (.ref p) H))):=by
 intro zB s Y H xs us Q I r h;let⟨p,ys,rfl,h⟩:=h;let⟨u,rfl,rx⟩:=EL r;ext rx;rcases h with ⟨hq,q⟩|⟨hq,q⟩
 .obtain ⟨its,r',pl,hz⟩:=I.list hq;let hlen:=r'.length;refine call_tuple_list pl.isList (λh' kp=>?_) (by simp only[AX] <;> omega);let I1:Inv X zB Y H { s with heap:=h' }:=I.kept (t':=s.toks) kp;let I2:Inv X zB Y (upd H h'.objs.size (.tup ys)) { s with heap:=h'.push { cls:=.type "tuple", data:=.seq its.toArray } } :=
   I1.laid (t':=s.toks) (λb o e=>AH _ e) (AF _) (show zy X.prog X.w _ _ _ (.tup ys)from ⟨hz,its,r',Dh.new _ _⟩)
  exact ⟨.ref h'.objs.size,_,I2,rfl,q _ (I1.hok.fresh (AF _))⟩
 .obtain ⟨its,r',pl,hz⟩:=I.tuple hq;calc call_tuple_same pl ⟨.ref p,H,I,rfl,q⟩
def tyV (K:Yb) (T:String) (x:V) (H:Hp):Prop:=match x with
 |.str _=>T = "str"
 |.int _=>T = "int"
 |.ref p=>(T = "list" /\ ∃ xs,SqL K H p xs)\/(T = "tuple" /\ ((∃ o,K.lookup p=some o/\o.cls=.type "tuple" /\ o.dict=none) \/ ∃ xs,H p=some (.tup xs))) \/
   (T = "dict" /\ ((∃ kvs,H p=some (.dK kvs)) \/ ∃ kvs,H p=some (.dT kvs)))\/(T = "set" /\ ∃ S n,H p=some (.set S n))
 |_=>False
def Y5 {zB:Yd} {Y:St} {H:Hp} {s:Yl} {T:String} {x:V} {v:Yu} (I:Inv X zB Y H s) (r:zc x v) (ty:tyV X.K T x H) :
  s.TypeIs v T /\ ∀ a,v=.ref a -> ∃ ob,s.heap.get? a=some ob/\ob.dict=none:=by
 cases x with
 |str z=>
  let⟨t,rfl⟩:=r;cases (show T = "str" from ty);exact ⟨typeIs_str s z t,λ_ e=>nomatch e⟩
 |int i=>
  let⟨t,rfl⟩:=r;cases (show T = "int" from ty);exact ⟨typeIs_int s i t,λ_ e=>nomatch e⟩
 |ref p=>
  ext r;rcases ty with ⟨rfl,xs,hq⟩|⟨rfl,⟨o,hk,hc,hd⟩|⟨xs,hq⟩⟩|⟨rfl,hk⟩|⟨rfl,S,n,hk⟩
  .obtain ⟨its,_,pl,_⟩:=I.list hq;refine ⟨pl.isList.typeIs,λa e=>?_⟩;ext e;let⟨o,n,e,c,hd,_⟩:=pl;exact ⟨o,e,hd⟩
  .refine ⟨⟨o,I.kIn p o hk,hc⟩,λa e=>?_⟩;ext e;exact ⟨o,I.kIn _ o hk,hd⟩
  .obtain ⟨_,its,_,o,e,c,_,hd⟩:=I.hok p _ hq;refine ⟨⟨o,e,c⟩,λa e2=>?_⟩;ext e2;exact ⟨o,e,hd⟩
  .have z:∃ o,s.heap.get? p=some o/\o.ExactDict:=by
    rcases hk with ⟨kvs,hk⟩|⟨kvs,hk⟩
    .obtain ⟨_,_,_,_,o,_,_,e,ex,_⟩:=I.hok p _ hk;exact ⟨o,e,ex⟩
    .obtain ⟨_,_,_,_,o,_,_,e,ex,_⟩:=I.hok p _ hk;exact ⟨o,e,ex⟩
   let⟨o,e,ex⟩:=z;refine ⟨⟨o,e,ex.1⟩,λa e2=>?_⟩;ext e2;exact ⟨o,e,ex.2.1⟩
  .obtain ⟨o,_,_,_,e,ex,_⟩:=I.hok p _ hk;refine ⟨⟨o,e,ex.1⟩,λa e2=>?_⟩;ext e2;calc ⟨o,e,ex.2.1⟩
 |_=>calc False.elim ty
def tBM (K:Yb) (T:String) (r:V->List V->Hp->VK->Prop) (to:TE) (t:TA):TE:=λY H Q=>to Y H λx H1=>tyV K T x H1/\t Y H1 λxs H2=>r x xs H2 Q
variable {o e:Expr} {es:Yi} {to:TE} {t:TA} {name:Str} {apos cpos:Pos} {T id:String} {r:V->List V->Hp->VK->Prop}
def LC (pa:PlainAttrs T) (slot:Slot T name id) (hty:typeOf (.builtin id)=pure (.type "method_descriptor")) (hm:MtR X id r) (ho:PE X o to) (ha:PA X (e::es) t)
  (hbase:attributeBase o name X.env (eval o X.env)=eval o X.env:=by rfl)
  (hfew:((backTo cpos (starEach (e::es) X.env)).all (λx=> !x.1)&&(backToKw cpos (keywordEach [] X.env)).all (λx=>x.1.isSome)
   && decide ((e::es).length+([]:List Keyword).length+(if ([]:List Keyword).isEmpty then 0 else 1)<30))=true:=by rfl)
  (hline:(apos.endLine==cpos.line)=true:=by rfl) (hs:starEach (e::es) X.env=(false,eval e X.env)::starEach es X.env:=by rfl) (hplain:(backTo cpos (starEach es X.env)).any (·.1)=false:=by rfl) :
  PE X (.Call (.Attribute o name apos) (e::es) [] cpos) (tBM X.K T r to t):=by
 intro zB s Y H Q I h;refine wpAny_Call_method_late hbase hfew hline rfl (thn (ho zB s Y H _ I h) λv s1 ⟨x,H1,I1,r1,ty,q1⟩=>?_);let⟨h1,h2⟩:=Y5 I1 r1 ty;calc ⟨T,id,pa,slot,hty,h1,h2,?_⟩;let hA:=ha cpos zB s1 Y H1 _ I1 q1;rw[hs]at hA ⊢;refine Calls.callWith_builtin (by show (false||(backTo cpos (starEach es X.env)).any (·.1))=false;rw[hplain] <;> rfl) (Calls.evalArgs_plain ?_);calc thn hA λus s2 ⟨vs,H2,I2,r2,q2⟩=>hm zB s2 Y H2 x vs v us Q I2 r1 r2 q2
end
def MtM (X:Cx) (id:String) (r:V->List V->Hp->VK->Prop):Prop :=
 ∀ (zB:Yd) (s:Yl) (Y:St) (H:Hp) (x:V) (xs:List V) (v:Yu) (us:Yf) (Q:VK),Inv X zB Y H s->zc x v->zU xs us->r x xs H Q ->
  wpAny (model X.prog X.w) X.A (call (.builtin id) (v::us)) (EP X zB Y Q) X.xe s
def zU.one:∀ {x:V} {us:Yf},zU [x] us -> ∃ u,us=[u]/\zc x u:=by rintro x _ (_|⟨r,_|_⟩);exact⟨_,rfl,r⟩
def zU.zero:∀ {us:Yf},zU [] us->us=[]
 |_,.nil=>rfl
def zU.eraseIdx:∀ {xs:List V} {us:Yf} (i:Nat),zU xs us->zU (xs.eraseIdx i) (us.eraseIdx i)
 |_,_,_,.nil=> .nil
 |_,_,0,.cons _ t=>t
 |_,_,i+1,.cons r t=> .cons r (zU.eraseIdx i t)
theorem NY {α:Type}:∀ (l:List α) (i:Nat),(l.eraseIdx i).length<=l.length
 |[],_=>AF _
 |_::_,0=>Cu _
 |_::r,i+1=>Nat.succ_le_succ (NY r i)
section
variable {X:Cx} {zB:Yd} {Y:St} {H:Hp} {s:Yl} {l b:Yt} {xs ys zs:List V}
def Inv.lset {its its':Yf} {n:Nat} {f:Array Value->Array Value} {t':Nat} (I:Inv X zB Y H s) (hH:H l=some (.lst xs))
  (e:s.heap.get? l=some { cls:=.type "list", data:=.seq its.toArray n }) (hf:f its.toArray=its'.toArray) (hv:zU ys its') (hz:ys.length<=sizeLine) :
  Inv X zB Y (upd H l (.lst ys)) { s with heap:=s.heap.update l (Obj.mapSeq f),toks:=t' }:=by
 let q:=PySem.IsL.update e f;rw[hf]at q;refine I.write (x:=l) (e:=l) (by rw[hH];calc trivial) (.inl rfl) (λb' u hb hu=>(DK s.heap (Obj.mapSeq f) (Ne.symm hb)).trans hu) ⟨_,q⟩ ?_;calc ⟨hz,its',_,hv,q⟩
def Inv.lstM (I:Inv X zB Y H s) (hH:H l=some (.lst xs)):xs.length<=sizeLine /\ ∃ (its:List Value) (n:Nat),zU xs its/\xs.length=its.length/\s.heap.get? l=some { cls:=.type "list", data:=.seq its.toArray n }:=by
 let⟨z,its,n,r,e⟩:=I.hok l _ hH;calc ⟨z,its,n,r,r.length,e⟩
end
section
variable {X:Cx}
def NS:V->List V->Hp->VK->Prop:=λx vs H Q=>∃ l xs y,x=.ref l/\vs=[y]/\H l=some (.lst xs)/\xs.length<sizeLine/\Q .non (upd H l (.lst (xs++[y])))
def UW:MtM X "list.append" NS:=by
 intro zB s Y H x vs v us Q I rx rv h;let⟨l,xs,y,rfl,rfl,hH,hz,q⟩:=h;ext rx;let⟨u,rfl,ru⟩:=rv.one;let⟨z,its,n,r,hl,e⟩:=I.lstM hH;calc call_meets F.slot_list_append ⟨_,e,rfl⟩ F.entry_list_append (F.args_list_append_2 _ _) (PySem.list_append l its.toArray n u (by rw[AX];omega)) ⟨e,?_⟩;calc ⟨.non,_,I.lset (its':=its++[u]) hH e (by simp) (r.append (.cons ru .nil)) ?_,rfl,q⟩;rw[Aw,List.length_singleton];omega
def Mt:V->List V->Hp->VK->Prop:=λx vs H Q=>∃ l xs i k y,x=.ref l/\vs=[.int i]/\H l=some (.lst xs) /\ -(2 ^ 63)<=i/\i<2 ^ 63/\seqIndex? i xs.length=some k/\xs[k]?=some y/\Q y (upd H l (.lst (xs.eraseIdx k)))
def UK:MtM X "list.pop" Mt:=by
 intro zB s Y H x vs v us Q I rx rv h;let⟨l,xs,i,k,y,rfl,rfl,hH,h1,h2,hk,hy,q⟩:=h;ext rx;let⟨u,rfl,ru⟩:=rv.one;let⟨t,rfl⟩:=ru;let⟨z,its,n,r,hl,e⟩:=I.lstM hH;let⟨w,hw,rw'⟩:=r.get hy
 refine call_meets F.slot_list_pop ⟨_,e,rfl⟩ F.entry_list_pop (F.args_list_pop_2 _ _)
  (MeetsSeq.list_pop_at l its.toArray n i t k w (fitsIndex_both h1 h2) (by rw[AX,<-hl];calc hk) (by rw[<-CI];calc hw) (by rw[AX];omega)) ⟨e,?_⟩
 refine ⟨y,_,I.lset (its':=its.eraseIdx k) hH e ?_ (r.eraseIdx k) ?_,rw',q⟩
 .show its.toArray.eraseIdxIfInBounds k=(its.eraseIdx k).toArray;rw[List.eraseIdxIfInBounds_toArray]
 .have:=NY xs k;omega
end
end L2
namespace Att
open PySem PySem.W PySem.Calls PyProof.Rows
def WR {P:Params} {h:Heap}:∀ (ns:Ye) (vs:Yf),WellAll P h vs (ns.map WData.int)->IntsAre vs ns:=by
 intro ns;induction ns with
 |nil=>
  intro vs w;rw[List.map_nil]at w;ext w;calc .nil
 |cons n ns ih=>
  intro vs w;rw[Ab]at w;cases w with
  |cons a b=>
   ext a;calc .cons _ _ (ih _ b)
def bA {l:OpenLaw} {n:Nat} (hn:l.most=some n) {P:Params} {h:Heap} {args:List WData} {vals:Yf}
  (hpre:l.row.toRowW.claim.pre args=true) (hwl:WellAll P h vals args) :
  ∃ a vs ns,vals=[Value.ref a]/\args=[WData.list (ns.map WData.int)]/\h.get? a=some { cls:=.type "list", data:=.seq vs.toArray }/\IntsAre vs ns/\ns.length<=n:=by
 let hsh:WShape.hasAll [] args [.list .int]=true:=(pre_splitW hpre).1;let hc:l.pre.holds [] { args:=args }=true:=(pre_splitW hpre).2;let⟨d,r,rfl,h1,h2⟩:=hasAllW_cons hsh;obtain rfl:=hasAllW_nil h2;let⟨xs,rfl,h3⟩:=hasW_list h1;let⟨ns,rfl⟩:=items_int h3;let hlen:ns.length<=n:=by
  erw[OpenLaw.pre]at hc;let h4:(WTm.not (.lt (.lit (.int (n:Int))) (.len (.arg 0)))).holds [] { args:=[.list (ns.map .int)] }=true:=by
   let h4:=(holds_andW hc).1;rw[hn]at h4;exact h4
  let h5:=condW_of h4 (w_not (w_lt w_lit (w_len_list (w_arg rfl))));rw[AI]at h5;refine Nat.le_of_not_lt λq=>?_;let q':(n:Int)<((ns.length:Nat):Int):=()
  first
   | (rw[BG q']at h5;calc absurd h5 ())
   | (simp at h5;omega)
 cases hwl with
 |cons w1 w2=>
  ext w2;cases w1 with
  |list ho hall=>calc ⟨_,_,ns,rfl,rfl,ho,WR ns _ hall,hlen⟩
def Ue (l:OpenLaw) (args:List WData):l.row.toRowW.claim.post args (.bool true) args=true :=
 postW_of (r:=l.row.toRowW) (X:=(true==true))
  (show WShape.has [] (.bool true) .bool=true by first|rfl|decide|simp[WShape.has,WShape.arms,WShape.armsAll])
  (show (WTm.eq .res (.lit (.bool true))).value [] { args:=args,res:=some (.bool true),after:=args }=some (.bool (true==true))from w_eq_bool (w_res rfl) w_lit) rfl
def Sz {l:OpenLaw} {n:Nat} {q:Ym} {loose:Yk} {XP:(Str->Option Value)->Heap->Prop} {YP:World->Heap->Prop} {d:DefRec}
  (hn:l.most=some n) (hdf:d.params.defaults=[])
  (call:∀ (w:Yo) (s₀ s₁:Yl) (mg mb:Yh) (fa:Yt) (o:Obj) (pm cd doc:Yu) (a:Yt) (vs:Yf) (ns:Ye),
   Ground q loose [] XP w s₀ mg mb s₁.heap->YP w s₁.heap ->
   s₁.heap.get? fa=some o->o.data=.func (docDef d.name d.params d.body d.scope pm cd doc)->s₁.heap.CodeRec cd d.name->mg d.name=some (.ref fa) ->
   s₁.heap.get? a=some { cls:=.type "list", data:=.seq vs.toArray }->IntsAre vs ns->ns.length<=n->s₁.gens = #[] ->
   codeAny (model l.prog w) callerA (.call (.ref fa) ⟨[.ref a],[]⟩) (λr s'=>r=.ok (.ret (.bool true))/\OldK s₁.heap s'.heap/\s'.os=s₁.os/\AllBare s'.gens) s₁) :
  WalkO q loose XP YP l.row.toRowW d [] (λf vs=>PySem.call f vs):=by
 intro w s₀ s₁ mg mb G YY fa o pm cd doc dV kV ho hd hcd hD hmg hg args vals as hpre hlay hrd hwl hlo;obtain rfl:dV=.none:=Dflts.none hD hdf;obtain rfl:kV=.none:=Dflts.noKw hD;let⟨a,vs,ns,rfl,rfl,hobj,hints,hlen⟩:=bA hn hpre hwl;refine enter_call (codeAny_mono (call w s₀ s₁ mg mb fa o pm cd doc a vs ns G YY ho (fd_plain hd) hcd hmg hobj hints hlen hg) λr s' hq=>?_);let⟨rfl,h2,h3,h4⟩:=hq;calc ⟨.inl ⟨.bool true,.bool true,[],rfl,λ_=>rfl,.bool true,Ue l _,λ_=>⟨List.Pairwise.nil,λ_ hm=>(nomatch hm)⟩⟩,h2,h3,h4⟩
end Att
namespace L2
theorem QX:∀ {vs:Yf} {ns:Ye},IntsAre vs ns->zU (ns.map V.int) vs
 |_,_,.nil=> .nil
 |_,_,.cons n t h=> .cons ⟨t,rfl⟩ (QX h)
def JR (H:Hp):Prop:=∀ b,H b=none \/ ∃ o xs,H b=some (.frz o (.lst xs))
def WD {P:Ym} {w:Yo} {K:Yb} {mg mb:Yh} {CX:CXT} {k:Nat} {fa a:Yt} {fd:Yz} {x:Str} {sp:Sp} {s₁:Yl} {vs:Yf} {ns:Ye}
  (KX:K.In s₁.heap) (hns:s₁.heap.Ns mainGlobals mg) (hb:s₁.heap.Ns builtinsNs mb) (hbb:∀ x:Str,x ≠ "__name__" -> mb x=bootBuiltins x) (hlim:s₁.heap.NoLimit) (hbm:BMn mg s₁.heap) (hg:s₁.gens = #[])
  (ha:s₁.heap.get? a=some { cls:=.type "list", data:=.seq vs.toArray }) (hi:IntsAre vs ns) (hl:ns.length<=sizeLine) (hr:Room k callerA)
  (F:∀ base:Heap,K.In base->base.Ns mainGlobals mg->FnOk P w K mg base CX k fa fd [x] sp) (hbind:∀ (s:Yl) (u:Yu),BindsTo s fd ⟨[u],[]⟩ [(x,u)])
  (hsp:∀ H:Hp,JR H->SqL K H a (ns.map V.int)->sp [.ref a] H (λv _=>v=.bl true) λ_ _ _=>False)
  (hCX:∀ H e s',CX [] H s₁ (λ_ _ _=>False) e s'->False) :
  codeAny (model P w) callerA (.call (.ref fa) ⟨[.ref a],[]⟩) (λr s'=>r=.ok (.ret (.bool true))/\OldK s₁.heap s'.heap/\s'.os=s₁.os/\AllBare s'.gens) s₁:=by
 let rv:=QX hi;let lenV:=hi.length
 let core:∀ H:Hp,JR H->SqL K H a (ns.map V.int)->HOk P w H s₁.heap->(∀ b,H b≠none->b=a)->(H a≠none->K.lookup a=none) ->
   codeAny (model P w) callerA (.call (.ref fa) ⟨[.ref a],[]⟩) (λr s'=>r=.ok (.ret (.bool true))/\OldK s₁.heap s'.heap/\s'.os=s₁.os/\AllBare s'.gens) s₁:=by
  intro H hO hS hok hA hK;let base_of:∀ {b:Yt} {o:Obj},s₁.heap.get? b=some o->H b=none->(D7 s₁.heap H).get? b=some o:=λe n=>gJ e n;let noA:∀ {b:Yt} {o:Obj} {es:Array DictEntry} {ep:Nat},s₁.heap.get? b=some o->o.data=.dict es ep->H b=none:=λ{b o es ep} e d=>by
   cases q:H b with
   |none=>rfl
   |some u=>
    let e':b=a:=hA b (by rw[q];simp);subst e';rw[ha]at e;ext e;let d':Data.seq vs.toArray _=Data.dict es ep:=d;ext d'
  let nsK:∀ {b:Yt} {m:Yh},s₁.heap.Ns b m->(D7 s₁.heap H).Ns b m:=λ{b m} ⟨o,es,ep,e,d,r⟩=>⟨o,es,ep,base_of e (noA e d),d,r⟩;let hKb:K.In (D7 s₁.heap H):=λb o e=>base_of (KX b o e) (by
   cases q:H b with
   |none=>rfl
   |some u=>
    let e':b=a:=hA b (by rw[q];simp);subst e';rw[hK (by rw[q];simp)]at e;ext e)
  let bmK:BMn mg (D7 s₁.heap H):=by
   let⟨bm,ob,b1,b2,b3,b4⟩:=hbm;calc ⟨bm,ob,b1,b2,base_of b3 ?_,b4⟩;cases q:H bm with
   |none=>rfl
   |some u=>
    let e':bm=a:=hA bm (by rw[q];simp);subst e';rw[ha]at b3;ext b3;cases b4.2.2
  let hM:Mod K mg (D7 s₁.heap H):=⟨hKb,nsK hns,⟨mb,nsK hb,hbb⟩,let ⟨mc,h1,h2⟩:=hlim;⟨mc,nsK h1,h2⟩,bmK⟩;let e0:Env0 P w K mg (D7 s₁.heap H) callerA [] s₁ H:=⟨rfl,hM,λb o e=>Xb e,Nat.le_of_eq (R6 _ _),trivial,λb hb=>absurd (show b∈([]:List Addr)from hb) (by simp),hok,.of_eq hg⟩;refine codeAny_mono ((F _ hKb (nsK hns)).run callerA [] s₁ H ⟨[.ref a],[]⟩ [.ref a] [.ref a] _ _ hr e0 (hbind s₁ (.ref a)) (.cons rfl .nil) (hsp H hO hS)) λr s' h=>?_;cases r with
  |error e=>calc (hCX H e s' h).elim
  |ok fl=>
   cases fl with
   |next=>calc False.elim h
   |brk=>calc False.elim h
   |cont=>calc False.elim h
   |ret u=>
    let⟨v,H',os,bare,un,hok',r',q⟩:=h;let q':v=.bl true:=q;subst q';obtain rfl:u=Value.bool true:=r';refine ⟨rfl,OldK.of_keep λb o e=>?_,os,bare⟩;cases q:H b with
    |none=>calc un.keep b o e q (by intro z;calc absurd (show b∈([]:List Addr)from z) (by simp)) (by simp)
    |some u=>
     rcases hO b with z|⟨ob,xs,z⟩
     .rw[q]at z;ext z
     .have z2:=un.frzs b ob _ z;let⟨e1,_⟩:=hok b _ z;let⟨e2,_⟩:=hok' b _ z2;rw[e]at e1;ext e1;exact e2
 cases hk:K.lookup a with
 |some o=>
  let e:=KX a o hk;rw[ha]at e;ext e;refine core (λ_=>none) (λ_=> .inl rfl) (.inr ⟨_,vs.toArray,_,hk,rfl,rfl,rfl,by rw[AX,lenV];calc hl,by simpa using rv⟩) (λb u z=>by have z':(none:Option HO)=some u:=z;ext z') (λb z=>absurd rfl z) λz=>absurd rfl z
 |none=>
  refine core (λb=>if b=a then some (.frz { cls:=.type "list", data:=.seq vs.toArray } (.lst (ns.map V.int))) else none) (λb=>?_) (.inl (.inr ⟨{ cls:=.type "list", data:=.seq vs.toArray },AD rfl⟩)) (λb u z=>?_) (λb z=>?_) λ_=>hk
  .by_cases hb:b=a
   .exact .inr ⟨_,_,AD hb⟩
   .exact .inl (AE hb)
  .by_cases hb:b=a
   .have z':=(AD hb).symm.trans z;ext z';subst hb;exact ⟨ha,by rw[AI];calc hl,vs,_,rv,ha⟩
   .have z':=(AE hb).symm.trans z;ext z'
  .by_cases hb:b=a
   .exact hb
   .exact absurd (AE hb) z
def Sr {l:PySem.W.OpenLaw} {n k:Nat} {q:Ym} {loose:Yk} {XP:(Str->Option Value)->Heap->Prop} {YP:World->Heap->Prop} {d:DefRec} {K:Params->PySem.W.Frag} {CX:World->CXT} {sp:World->Sp} {x:Str}
  (hn:l.most=some n) (hn2:n<=sizeLine) (hdf:d.params.defaults=[]) (hr:Room k callerA)
  (hY:∀ (w:Yo) (h:Heap),YP w h->(K w.params).In h)
  (F:∀ (w:Yo) (mg:Yh) (fa:Yt) (h:Heap),(K w.params).In h->h.Ns mainGlobals mg->mg d.name=some (.ref fa) ->
   ∃ fd:FuncData,(∀ (s:Yl) (u:Yu),BindsTo s fd ⟨[u],[]⟩ [(x,u)]) /\
    ∀ base:Heap,(K w.params).In base->base.Ns mainGlobals mg->FnOk l.prog w (K w.params) mg base (CX w) k fa fd [x] (sp w))
  (hsp:∀ (w:Yo) (H:Hp) (a:Yt) (ns:Ye),ns.length<=n->JR H->SqL (K w.params) H a (ns.map V.int)->sp w [.ref a] H (λv _=>v=.bl true) λ_ _ _=>False)
  (hCX:∀ (w:Yo) (H:Hp) (s:Yl) (e:Yu) (s':Yl),CX w [] H s (λ_ _ _=>False) e s'->False) :
  PySem.W.WalkO q loose XP YP l.row.toRowW d [] (λf vs=>PySem.call f vs):=by
 refine Att.Sz hn hdf λw s₀ s₁ mg mb fa o pm cd doc a vs ns G YY ho hd hcd hmg hobj hints hlen hg=>?_;let KX:=hY w _ YY;let⟨fd,hb,hF⟩:=F w mg fa _ KX G.T.g hmg;calc WD KX G.T.g G.T.b G.T.builtins G.T.nolimit G.T.bmain hg hobj hints (BY hlen hn2) hr hF hb (λH hO hS=>hsp w H a ns hlen hO hS) λH e s'=>hCX w H s₁ e s'
def HB (s:Stmt):Arguments:=match s with
 |.FunctionDef _ a _ _ _ _ _ _ _ _=>a
 |_=>{ posonlyargs:=[],args:=[],vararg:=none,kwonlyargs:=[],kw_defaults:=[],kwarg:=none,defaults:=[] }
def Et (s:Stmt):List Stmt:=match s with
 |.FunctionDef _ _ b _ _ _ _ _ _ _=>b
 |_=>[]
def zK (s:Stmt):Scope:=match s with
 |.FunctionDef _ _ _ _ _ _ sc _ _ _=>sc
 |_=>{ kind:=.function,names:=[],isGenerator:=false,isCoroutine:=false }
abbrev CX0:CXT:=λ_ _ _ _ _ _=>False
abbrev E0:XK:=λ_ _ _=>False
def Ul {X:Cx}:Kx CX0 X E0:=λ_ _ _ _ _ _ _ h=>h.elim
structure Fun (K:Yb) (x qual:Str) (st:Stmt) (f:Yt) (fd:Yz):Prop where
 ex:∃ (oc:Yu) (od:Option Addr) (kV doc pm:Yu) (an:Option Addr) (cdv ct:Yu) (osl:Array (Option Value)),
  fd=PySem.W.fnOf x qual (HB st) (Et st) (zK st) .none kV doc pm an cdv ct/\K.lookup f=some ⟨oc,od,.func fd,osl⟩/\PySem.W.codeIn K cdv qual=true
 kp:PySem.W.keepIn K (.ref f)=true
section
variable {P:Ym} {w:Yo} {K:Yb} {mg:Yh} {base:Heap}
def Fun.ok {x qual:Str} {st:Stmt} {f:Yt} {fd:Yz} {N ps:Yk} {k:Nat} {sp:Sp} (F:Fun K x qual st f fd) (S:FnScope N ps (zK st)) (len:∀ vs H Q E,sp vs H Q E->vs.length=ps.length)
  (hbody:∀ (cdv:Yu) (A:Yn) (outer:List Env) (s:Yl) (H:Hp) (vs:List V) (Q:VK) (E:XK),Room k (A.deeper (envOfC qual (zK st) ⇑s f cdv))->sp vs H Q E ->
   ∃ t,PSs (FY CX0 P w K mg base N qual (zK st) f cdv A outer s H E).nox (Et st) t/\t { nx:=λ_ H'=>Q .non H',rt:=Q } (start N vs) H):FnOk P w K mg base CX0 (k+1) f fd ps sp:=by
 let⟨oc,od,kV,doc,pm,an,cdv,ct,osl,rfl,lk,hcd⟩:=F.ex;refine cB lk hcd S len λA outer s H vs Q E hr hsp=>?_;let⟨t,h,q⟩:=hbody cdv A outer s H vs Q E hr hsp;calc ⟨t,h.nox,q⟩
def Fun.binds {x qual:Str} {st:Stmt} {f:Yt} {fd:Yz} {ps:Yk} (F:Fun K x qual st f fd)
  (h:∀ (kV doc pm:Yu) (an:Option Addr) (cdv ct:Yu) (us:Yf),us.length=ps.length->bindArgs (PySem.W.fnOf x qual (HB st) (Et st) (zK st) .none kV doc pm an cdv ct) ⟨us,[]⟩=pure (ps.zip us)):Fv K fd ps []:=by
 let⟨oc,od,kV,doc,pm,an,cdv,ct,osl,rfl,lk,hcd⟩:=F.ex;calc .all (h kV doc pm an cdv ct)
def NK {x qual:Str} {st:Stmt} {f:Yt} {oc:Yu} {od an:Option Addr} {osl:Array (Option Value)} {kV doc pm cdv ct:Yu} (l:K.lookup f=some ⟨oc,od,.func (PySem.W.fnOf x qual (HB st) (Et st) (zK st) .none kV doc pm an cdv ct),osl⟩)
  (c:PySem.W.codeIn K cdv qual=true) (k:PySem.W.keepIn K (.ref f)=true):Fun K x qual st f (PySem.W.fnOf x qual (HB st) (Et st) (zK st) .none kV doc pm an cdv ct):=⟨⟨oc,od,kV,doc,pm,an,cdv,ct,osl,rfl,l,c⟩,k⟩
end
def HF {A:Yn} {k:Nat} (hr:Room k A):A.units+1<cLine:=Ez (Nat.add_le_add_left (by decide:1<=64) _) hr.units
section
variable {X:Cx}
def pv (i:Nat) {x:Str} {pos:Pos} (hN:X.N[i]?=some x:=by rfl) (hv:Vis X.env.scope x:=by first|exact Or.inl rfl|exact Or.inr (Or.inl rfl)|exact Or.inr (Or.inr rfl)) (hd:(x==("__debug__" : Str))=false:=by decide)
  (hcd:(x==("__classdict__" : Str))=false:=by decide):PE X (.Name x pos) (K0 i):=YC hN hv hd hcd
end
def Dd {A B:Prop} (h:B):if false=true then A else B:=by
 rw[AE A4];calc h
def DU {A B:Prop} (h:A):if true=true then A else B:=by
 rw[AD rfl];calc h
section
variable {κ:Type} [DecidableEq κ]
def Bu (kvs:List (κ × V)) (k:κ):Option V:=(kvs.find? λkv=>decide (kv.1=k)).map (·.2)
def BP (kvs:List (κ × V)) (k:κ) (v:V):List (κ × V) :=
 if (kvs.any λkv=>decide (kv.1=k))=true then kvs.map (λkv=>if kv.1=k then (kv.1,v) else kv) else kvs++[(k,v)]
def Iy {p:κ × V} {r:List (κ × V)} {k:κ} (e:p.1=k):Bu (p::r) k=some p.2:=by simp[Bu,Ed,e]
def Jb {p:κ × V} {r:List (κ × V)} {k:κ} (e:¬ p.1=k):Bu (p::r) k=Bu r k:=by simp[Bu,Ed,e]
theorem QL (k:κ):∀ kvs:List (κ × V),(kvs.any λkv=>decide (kv.1=k))=(Bu kvs k).isSome
 |[]=>rfl
 |p::r=>by
  rw[List.any_cons];by_cases e:p.1=k
  .simp only[Iy e,BG e,Bool.true_or,Option.isSome_some]
  .rw[Jb e,BB e,Bool.false_or];calc QL k r
def Hk (kvs:List (κ × V)) (k:κ) (v:V):(BP kvs k v).length<=kvs.length+1:=by
 erw[BP];split
 .rw[AI];omega
 .rw[Aw,Ci,Bw];omega
def DW.isSome_eq (r:DW o u):o.isSome=u.isSome:=by
 cases o with
 |none=>cases u with
  |none=>rfl
  |some _=>calc (show False from r).elim
 |some _=>cases u with
  |none=>calc (show False from r).elim
  |some _=>rfl
def KV.val {kvs:List (κ × V)} {vs:List (κ × Value)} (r:KV kvs vs) (k:κ):DW (Bu kvs k) (valueAt vs k):=by
 erw[KV]at r;induction r with
 |nil=>calc True.intro
 | @cons p q ps qs h t ih=>
  let⟨h1,h2⟩:=h;by_cases e:p.1=k
  .have e':q.1=k:=h1.symm.trans e;let b:valueAt (q::qs) k=some q.2:=by simp[valueAt,Ed,e']
   rw[Iy e,b];exact h2
  .have e':¬ q.1=k:=λz=>e (h1.trans z);let b:valueAt (q::qs) k=valueAt qs k:=by simp[valueAt,Ed,e']
   rw[Jb e,b];calc ih
def KV.any (r:KV kvs vs) (k:κ):(kvs.any λkv=>decide (kv.1=k))=vs.any λkv=>decide (kv.1=k):=by
 erw[KV]at r;induction r with
 |nil=>rfl
 |cons h t ih=>rw[List.any_cons,List.any_cons,ih,h.1]
def KV.repl (r:KV kvs vs) (k:κ) (ry:zc y u) :
  KV (kvs.map λkv=>if kv.1=k then (kv.1,y) else kv) (vs.map λkv=>if kv.1=k then (kv.1,u) else kv):=by
 unfold KV at r ⊢;induction r with
 |nil=>calc .nil
 | @cons p q ps qs h t ih=>
  rw[Ab,Ab];calc .cons ?_ ih;let⟨h1,h2⟩:=h;by_cases e:p.1=k
  .rw[AD e,AD (h1.symm.trans e)];exact ⟨h1,ry⟩
  .rw[AE e,AE (λz=>e (h1.trans z))];calc ⟨h1,h2⟩
def KV.put (r:KV kvs vs) (k:κ) (ry:zc y u):KV (BP kvs k y) (stored vs k u):=by
 erw[BP,stored];rw[r.any k];by_cases e:(vs.any λkv=>decide (kv.1=k))=true
 .rw[AD e,AD e];exact r.repl k ry
 .rw[AE e,AE e];calc Paired.snoc r ⟨rfl,ry⟩
def KV.length (r:KV kvs vs):kvs.length=vs.length:=Paired.length r
end
def Fp (r:zc (kV k) u):(zf P w).is k u=true:=by
 cases k with
 |inl i=>let⟨t,e⟩:=(show ∃ t,u=Value.int i t from r);subst e;calc fV P w i t
 |inr x=>let⟨t,e⟩:=(show ∃ t,u=Value.str x t from r);subst e;calc Rc P w x t
theorem OV:∀ {ks:List Key} {us:Yf},zU (ks.map kV) us->ItemsAre (zf P w) ks us
 |[],_,r=>by rw[List.map_nil]at r;ext r;calc .nil
 |k::ks,_,r=>by
  rw[Ab]at r;cases r with
  |cons h t=>calc .cons (Fp h) (OV t)
abbrev KT (H:Hp):List (List Key × V)->List (List Key × Addr × Value)->Prop:=Paired λp q=>p.1=q.1/\H q.2.1=some (.tup (p.1.map kV))/\zc p.2 q.2.2
def KT.val {H:Hp} {kvs:List (List Key × V)} {xs:List (List Key × Addr × Value)} (r:KT H kvs xs) (k:List Key):DW (Bu kvs k) ((atKey xs k).map (·.2)):=by
 induction r with
 |nil=>calc True.intro
 | @cons p q ps qs h t ih=>
  let⟨h1,_,h2⟩:=h;by_cases e:p.1=k
  .have e':q.1=k:=h1.symm.trans e;let b:atKey (q::qs) k=some q.2:=by simp[atKey,Ed,e']
   rw[Iy e,b];exact h2
  .have e':¬ q.1=k:=λz=>e (h1.trans z);let b:atKey (q::qs) k=atKey qs k:=by simp[atKey,Ed,e']
   rw[Jb e,b];calc ih
def KT.repl (r:KT H kvs xs) (k:List Key) (ry:zc y u) :
  KT H (kvs.map λkv=>if kv.1=k then (kv.1,y) else kv) (xs.map (putAt k u)):=by
 induction r with
 |nil=>calc .nil
 | @cons p q ps qs h t ih=>
  rw[Ab,Ab];calc .cons ?_ ih;let⟨h1,h2,h3⟩:=h;erw[putAt];by_cases e:p.1=k
  .rw[AD e,AD (h1.symm.trans e)];exact ⟨h1,h2,ry⟩
  .rw[AE e,AE (λz=>e (h1.trans z))];calc ⟨h1,h2,h3⟩
def KT.put (r:KT H kvs xs) (k:List Key) (hb:H b=some (.tup (k.map kV))) (ry:zc y u) :
  KT H (BP kvs k y) (storedH xs k b u):=by
 let e:(kvs.any λkv=>decide (kv.1=k))=(atKey xs k).isSome:=by
  rw[QL,(r.val k).isSome_eq,Option.isSome_map]
 erw[BP,storedH];rw[e];by_cases q:(atKey xs k).isSome=true
 .rw[AD q,AD q];exact r.repl k ry
 .rw[AE q,AE q];calc Paired.snoc r ⟨rfl,hb,ry⟩
def KT.keeps (r:KT H kvs xs) (ht:∀ b ys,H b=some (.tup ys)->H' b=some (.tup ys)):KT H' kvs xs :=
 Paired.mapP r λ_ _ z=>⟨z.1,ht _ _ z.2.1,z.2.2⟩
section
variable {P:Ym} {w:Yo} {H:Hp} {h:Heap} {a:Yt}
def Mj (ok:HOk P w H h) (e:Rd H a u):zy P w H h a u:=e.ok ok
def GK (ok:HOk P w H h) (e:Rd H a (.dK kvs)):kvs.length<=sizeLine/\(a==sysModules)=false /\ ∃ vs,KV kvs vs/\h.DictOf (zf P w) a vs :=
 show zy P w H h a (.dK kvs)from Mj ok e
def J3 (ok:HOk P w H h) (e:H a=some (.dK kvs)):kvs.length<=sizeLine/\(a==sysModules)=false /\ ∃ vs,KV kvs vs/\h.DictOf (zf P w) a vs:=GK ok (.inl e)
def FN (ok:HOk P w H h) (e:H a=some (.tup (ks.map kV))):(tupleKind (zf P w)).is h ks a:=by
 let⟨_,its,r,o,h1,h2,⟨n,h3⟩,_⟩:=(show zy P w H h a (.tup (ks.map kV))from ok a _ e);calc ⟨o,its.toArray,n,h1,h2,h3,by simpa using OV r⟩
def Gf (ok:HOk P w H h) (e:Rd H a (.dT kvs)):kvs.length<=sizeLine/\(a==sysModules)=false /\
  ∃ xs,KT H kvs xs/\h.DictOfH (tupleKind (zf P w)) a xs:=by
 let⟨z,y,xs,r,o,es,ep,h1,h2,h3,h4,h5⟩:=(show zy P w H h a (.dT kvs)from Mj ok e);refine ⟨z,y,xs,r,o,es,ep,h1,h2,h3,h4,λx hx=>?_,h5⟩;let all:∀ {l:List (List Key × V)} {m:List (List Key × Addr × Value)},KT H l m -> ∀ x∈m,(tupleKind (zf P w)).is h x.1 x.2.1:=by
  intro l m q;induction q with
  |nil=>intro x hx;calc nomatch hx
  | @cons p q ps qs hq t ih=>
   intro x hx;rcases AJ.mp hx with e|hx
   .subst e;exact FN ok (by rw[<-hq.1];calc hq.2.1)
   .exact ih x hx
 calc all r x hx
def QH (ok:HOk P w H h) (e:H a=some (.dT kvs)):kvs.length<=sizeLine/\(a==sysModules)=false /\
  ∃ xs,KT H kvs xs/\h.DictOfH (tupleKind (zf P w)) a xs:=Gf ok (.inl e)
end
def B1 (H:Hp) (a:Yt) (y:V) (r:Option V):Prop :=
 (∃ kvs k,Rd H a (.dK kvs)/\y=kV k/\r=Bu kvs k) \/ ∃ kvs k b,Rd H a (.dT kvs)/\y=.ref b/\H b=some (.tup (k.map kV))/\r=Bu kvs k
def Co (H:Hp) (a:Yt) (y v:V) (H':Hp):Prop :=
 (∃ kvs k,H a=some (.dK kvs)/\y=kV k/\kvs.length<sizeLine/\H'=upd H a (.dK (BP kvs k v))) \/
 ∃ kvs k b,H a=some (.dT kvs)/\y=.ref b/\H b=some (.tup (k.map kV))/\kvs.length<sizeLine/\H'=upd H a (.dT (BP kvs k v))
theorem B1.k {H:Hp} {a:Yt} {kvs:List (Key × V)} {k:Key} (e:H a=some (.dK kvs)):B1 H a (kV k) (Bu kvs k):=.inl ⟨kvs,k,.inl e,rfl,rfl⟩
def B1.t {k:List Key} (e:H a=some (.dT kvs)) (eb:H b=some (.tup (k.map kV))):B1 H a (.ref b) (Bu kvs k):=.inr ⟨kvs,k,b,.inl e,rfl,eb,rfl⟩
theorem Co.k {H:Hp} {a:Yt} {kvs:List (Key × V)} {k:Key} {v:V} (e:H a=some (.dK kvs)) (hl:kvs.length<sizeLine):Co H a (kV k) v (upd H a (.dK (BP kvs k v))):=.inl ⟨kvs,k,e,rfl,hl,rfl⟩
def Co.t {kvs:List (List Key × V)} {k:List Key} (e:H a=some (.dT kvs)) (eb:H b=some (.tup (k.map kV))) (hl:kvs.length<sizeLine) :
  Co H a (.ref b) v (upd H a (.dT (BP kvs k v))):=.inr ⟨kvs,k,b,e,rfl,eb,hl,rfl⟩
section
variable {X:Cx} {zB:Yd} {Y:St} {H:Hp} {s:Yl} {a:Yt} {y v:V} {u r:Yu} {o:Option V} {A:Yn} {E:Yc}
def Inv.big (I:Inv X zB Y H s):sysModules<⇑s:=by
 let h:mainGlobals<⇑s:=(I.mod.glob.keeps I.bk).lt;calc Nat.lt_trans () h
def UU (hu:A.units+1<cLine) (I:Inv X zB Y H s) (g:B1 H a y (some v)) (ry:zc y u) (h:∀ w' s',Inv X zB Y H s'->zc v w'->Q w' s') :
  wpAny (model X.prog X.w) A (getItem (.ref a) u) Q E s:=by
 rcases g with ⟨kvs,k,e,ey,l⟩|⟨kvs,k,b,e,ey,eb,l⟩
 .subst ey;let⟨z,hd,vs,rel,dd⟩:=GK I.hok e;let⟨w',hw,rw'⟩:=DW.some_of (by rw[l];calc rel.val k);exact wpAny_getItem_of (Fp ry) dd.mapOf hw (h w' _ (I.tok _) rw')
 .subst ey;cases (show u=Value.ref b from ry);let⟨z,hd,xs,rel,dd⟩:=Gf I.hok e;let⟨w',hw,rw'⟩:=DW.some_of (by rw[l];calc rel.val k);let⟨p,hp,hp2⟩:=Option.map_eq_some_iff.mp hw;calc wpAny_getItem_heap (tupleKind_room_in1 hu) (FN I.hok eb) dd hp ?_;rw[hp2];calc h w' _ (I.tok _) rw'
def cY (hu:A.units+1<cLine) (I:Inv X zB Y H s) (g:B1 H a y o) (ry:zc y u) (h:∀ s',Inv X zB Y H s'->Q (.bool o.isSome) s') :
  wpAny (model X.prog X.w) A (compareOp .In u (.ref a)) Q E s:=by
 rcases g with ⟨kvs,k,e,ey,l⟩|⟨kvs,k,b,e,ey,eb,l⟩
 .subst ey;let⟨z,hd,vs,rel,dd⟩:=GK I.hok e;calc wpAny_in_of (Fp ry) hd dd.mapOf ?_;rw[<-(rel.val k).isSome_eq,<-l];exact h _ (I.tok _)
 .subst ey;cases (show u=Value.ref b from ry);let⟨z,hd,xs,rel,dd⟩:=Gf I.hok e;calc wpAny_in_heap (tupleKind_room_in1 hu) (FN I.hok eb) hd dd ?_;let q:=(rel.val k).isSome_eq;rw[Option.isSome_map]at q;rw[<-q,<-l];calc h _ (I.tok _)
def gK (hu:A.units+1<cLine) (I:Inv X zB Y H s) (g:B1 H a y o) (ry:zc y u) (h:∀ s',Inv X zB Y H s'->Q (.bool (!o.isSome)) s') :
  wpAny (model X.prog X.w) A (compareOp .NotIn u (.ref a)) Q E s:=by
 rcases g with ⟨kvs,k,e,ey,l⟩|⟨kvs,k,b,e,ey,eb,l⟩
 .subst ey;let⟨z,hd,vs,rel,dd⟩:=GK I.hok e;calc wpAny_notIn_of (Fp ry) hd dd.mapOf ?_;rw[<-(rel.val k).isSome_eq,<-l];exact h _ (I.tok _)
 .subst ey;cases (show u=Value.ref b from ry);let⟨z,hd,xs,rel,dd⟩:=Gf I.hok e;calc wpAny_notIn_heap (tupleKind_room_in1 hu) (FN I.hok eb) hd dd ?_;let q:=(rel.val k).isSome_eq;rw[Option.isSome_map]at q;rw[<-q,<-l];calc h _ (I.tok _)
def Gb (I:Inv X zB Y H s) (mu:Mut (H a)) (hs:Heap.SameBut a s.heap h') (he:∃ q,h'.get? a=some q) (new:zy X.prog X.w (upd H a ob) h' a ob) :
  Inv X zB Y (upd H a ob) { s with heap:=h',toks:=t' } :=
 I.write mu (.inl rfl) (λb q hb z=>(hs.2 b hb).trans z) he new
def J9 (z:kvs.length<=sizeLine) (hd:(a==sysModules)=false) (rel:KV kvs vs) (dd:h'.DictOf (zf P w) a vs) :
  zy P w H' h' a (.dK kvs):=⟨z,hd,vs,rel,dd⟩
def gC (hu:A.units+1<cLine) (I:Inv X zB Y H s) (g:Co H a y v H') (ry:zc y u) (rv:zc v r) (h:∀ s',Inv X zB Y H' s'->Q Unit.unit s') :
  wpAny (model X.prog X.w) A (setItem (.ref a) u r) Q E s:=by
 rcases g with ⟨kvs,k,e,ey,l,eH⟩|⟨kvs,k,b,e,ey,eb,l,eH⟩
 .subst ey eH;let⟨z,hd,vs,rel,dd⟩:=J3 I.hok e;let hz:vs.length<=sizeLine:=by rw[<-rel.length];exact z
  let hl:(BP kvs k v).length<=sizeLine:=by have:=Hk kvs k v;omega
  refine wpAny_setItem_pairs (Fp ry) dd λh' dd' hs=>h _ ?_;let he:∃ q,h'.get? a=some q:=let ⟨q,_,_,hq,_⟩:=dd';⟨q,hq⟩;exact Gb I (by rw[e];calc True.intro) hs he (J9 hl hd (rel.put k rv) dd')
 .subst ey eH;cases (show u=Value.ref b from ry);let⟨z,hd,xs,rel,dd⟩:=QH I.hok e;let hz:xs.length<=sizeLine:=by rw[<-Paired.length rel];exact z
  let hl:(BP kvs k v).length<=sizeLine:=by have:=Hk kvs k v;omega
  refine wpAny_setItem_heap (tupleKind_room_in1 hu) (FN I.hok eb) dd λh' dd' hs=>h _ ?_;let⟨q,es,ep,hq,h2,h3,h4,_,h5⟩:=dd';refine Gb I (by rw[e];calc True.intro) hs ⟨q,hq⟩ ⟨hl,hd,_,(rel.put k eb rv).keeps λc ys ec=>?_,q,es,ep,hq,h2,h3,h4,h5⟩;rw[zS (Fz ec e (λz=>nomatch z))];calc ec
end
def Lb (i:Expr):Prop:=∀ ov iv,subscripted i false ov iv=operate [ov,iv] (getItem ov iv)
def XM {prog:Ym} {w:Yo} {A:Yn} {E:Yc} {s:Yl} {env:Env} {value slice:Expr} {pos:Pos} {T id:String} {Q:Yc}
  (hl:typeLookup (.type T) "__getitem__" = pure (some (.builtin id))) (hs:Lb slice)
  (h:wpAny (model prog w) A (eval value env) (λo s₁=>wpAny (model prog w) A (eval slice env) (λi s₂=>s₂.TypeIs o T/\wpAny (model prog w) A (getItem o i) Q E s₂) E s₁) E s) :
  wpAny (model prog w) A (eval (.Subscript value slice pos) env) Q E s:=by
 refine Subscript_ (AS h (λo s₁ h₁=>AS h₁ (λi s₂ h₂=>?_) λ_ _ x=>x) λ_ _ x=>x);let⟨hT,h₂⟩:=h₂;erw[subscriptTail];refine AA ?_;rw[getitemInPython_of_ne hT.not_modules];refine AA (wpAny_specialOf hT hl ?_);let fin:wpAny (model prog w) A (subscripted slice false o i) (λr s₃=>wpAny (model prog w) A (letTemporaryGo value o r >>= λ_=>pure r) Q E s₃) E s₂:=by
  rw[hs o i];exact wpAny_operating (AS h₂ (λr s₃ h₃=>AA (wpAny_letTemporaryGo (AB h₃))) λ_ _ x=>x)
 first
  |calc AB (AA fin)
  |calc AA (AB (AA fin))
  |calc AA fin
def fY (I:Inv X zB Y H s) (g:B1 H a y o):s.TypeIs (.ref a) "dict" := by
 rcases g with ⟨kvs,k,e,_,_⟩|⟨kvs,k,b,e,_,_,_⟩
 .obtain ⟨_,_,vs,_,dd⟩:=GK I.hok e;exact dd.typeIs
 .obtain ⟨_,_,xs,_,dd⟩:=Gf I.hok e;calc dd.typeIs
def gH (td ty:TE):TE:=λY H Q=>td Y H λx H1=>ty Y H1 λy H2=>∃ a v,x=.ref a/\B1 H2 a y (some v)/\Q v H2
def XE (ty td:TE):TE:=λY H Q=>ty Y H λy H1=>td Y H1 λx H2=>∃ a o,x=.ref a/\B1 H2 a y o/\Q (.bl o.isSome) H2
def VQ (ty td:TE):TE:=λY H Q=>ty Y H λy H1=>td Y H1 λx H2=>∃ a o,x=.ref a/\B1 H2 a y o/\Q (.bl (!o.isSome)) H2
def bM (td ty tv:TE):TS:=λD Y H=>tv Y H λv H1=>td Y H1 λx H2=>ty Y H2 λy H3=>∃ a H4,x=.ref a/\Co H3 a y v H4/\D.nx Y H4
section
variable {X:Cx} {o i e value:Expr} {pos pos' tpos:Pos} {td ty tv:TE}
def d8 (hu:X.A.units+1<cLine) (ho:PE X o td) (hi:PE X i ty) (hs:Lb i):PE X (.Subscript o i pos) (gH td ty):=by
 intro zB s Y H Q I h;refine XM PySem.F.slot_dict_getitem.lookup hs (thn (ho zB s Y H _ I h) λu s1 ⟨x,H1,I1,rx,q1⟩=>thn (hi zB s1 Y H1 _ I1 q1) λiv s2 ⟨y,H2,I2,ry,a,v,ex,g,q2⟩=>?_);subst ex;obtain rfl:u=Value.ref a:=rx;calc ⟨fY I2 g,UU hu I2 g ry λw' s3 I3 rw'=>⟨v,H2,I3,rw',q2⟩⟩
def Tf (hu:X.A.units+1<cLine) (hi:PE X i ty) (ho:PE X o td):PC X .In i o (XE ty td):=by
 intro zB s Y H Q I h;refine thn (hi zB s Y H _ I h) λiv s1 ⟨y,H1,I1,ry,q1⟩=>thn (ho zB s1 Y H1 _ I1 q1) λu s2 ⟨x,H2,I2,rx,a,ov,ex,g,q2⟩=>?_;subst ex;obtain rfl:u=Value.ref a:=rx;calc cY hu I2 g ry λs3 I3=>⟨.bl ov.isSome,H2,I3,rfl,q2⟩
def fO (hu:X.A.units+1<cLine) (hi:PE X i ty) (ho:PE X o td):PC X .NotIn i o (VQ ty td):=by
 intro zB s Y H Q I h;refine thn (hi zB s Y H _ I h) λiv s1 ⟨y,H1,I1,ry,q1⟩=>thn (ho zB s1 Y H1 _ I1 q1) λu s2 ⟨x,H2,I2,rx,a,ov,ex,g,q2⟩=>?_;subst ex;obtain rfl:u=Value.ref a:=rx;calc gK hu I2 g ry λs3 I3=>⟨.bl (!ov.isSome),H2,I3,rfl,q2⟩
def cM (hu:X.A.units+1<cLine) (ho:PE X o td) (hi:PE X i ty) (hv:PE X value tv) (hs:swapsWith value (some (.Subscript o i pos')) pos.line X.env=pure false) :
  PS X (.Assign [.Subscript o i pos'] value pos) (bM td ty tv):=by
 intro zB s Y H D I h;refine wpAny_Assign_Subscript (thn (hv zB s Y H _ I h) λr s1 ⟨v,H1,I1,rv,q1⟩=>thn (ho zB s1 Y H1 _ I1 q1) λu s2 ⟨x,H2,I2,rx,q2⟩=>thn (hi zB s2 Y H2 _ I2 q2) λiv s3 ⟨y,H3,I3,ry,a,H4,ex,g,q3⟩=>?_) hs;subst ex;obtain rfl:u=Value.ref a:=rx;calc gC hu I3 g ry rv λs4 I4=>⟨Y,H4,I4,q3⟩
end
def VA (h:Heap) (hb:sysModules<h.objs.size):zy P w H (h.push { cls:=.type "dict", data:=.dict #[] }) h.objs.size (.dK []) :=
 ⟨A8 _,beq_eq_false_iff_ne.mpr (Ne.symm (AU hb)),[],.nil,Heap.DictOf.new h⟩
def Kp:List (TE × TE)->St->Hp->(List (V × V)->Hp->Prop)->Prop
 |[],_,H,Q=>Q [] H
 | (tk,tv)::r,Y,H,Q=>tk Y H λx H1=>tv Y H1 λy H2=>Kp r Y H2 λps H3=>Q ((x,y)::ps) H3
abbrev VV:List (V × V)->List (Value × Value)->Prop:=Paired λp q=>zc p.1 q.1/\zc p.2 q.2
def PPs (X:Cx) (pos:Pos) (keys:List (Option Expr)) (values:Yi) (trs:List (TE × TE)):Prop :=
 ∀ (zB:Yd) (s:Yl) (Y:St) (H:Hp) (Q:List (V × V)->Hp->Prop),Inv X zB Y H s->Kp trs Y H Q ->
  wpAny (model X.prog X.w) X.A (evalPairs (pairTrees keys values X.env pos)) (λvs s'=>∃ ps H',Inv X zB Y H' s'/\VV ps vs/\Q ps H') X.xe s
def Wt:PPs X pos [] [] []:=λzB s Y H Q I h=>pairTrees_nil_walk ⟨[],H,I,.nil,h⟩
def Ww (hk:PE X k tk) (hv:PE X v tv) (hr:PPs X pos ks vs trs) :
  PPs X pos (some k::ks) (v::vs) ((tk,tv)::trs):=λzB s Y H Q I h=>
 pairTrees_cons_walk (thn (hk zB s Y H _ I h) λu s1 ⟨x,H1,I1,rx,q1⟩=>thn (hv zB s1 Y H1 _ I1 q1) λw2 s2 ⟨y,H2,I2,ry,q2⟩=>
  thn (hr zB s2 Y H2 _ I2 q2) λws s3 ⟨ps,H3,I3,rel,q3⟩=>⟨(x,y)::ps,H3,I3,.cons ⟨rx,ry⟩ rel,q3⟩)
def IM (kvs more:List (Key × V)):List (Key × V):=more.foldl (λacc kv=>BP acc kv.1 kv.2) kvs
def KV.merge:∀ {more:List (Key × V)} {rs:List (Key × Value)} {kvs:List (Key × V)} {vs:List (Key × Value)},KV more rs->KV kvs vs->KV (IM kvs more) (merged vs rs):=by
 intro more rs kvs vs r;erw[KV]at r;induction r generalizing kvs vs with
 |nil=>intro q;calc q
 | @cons p q ps qs h t ih=>
  intro r0;let e:KV (BP kvs p.1 p.2) (stored vs q.1 q.2):=by
   have:=r0.put p.1 h.2;rw[<-h.1];exact this
  calc ih e
theorem Qi:∀ (more kvs:List (Key × V)),(IM kvs more).length<=kvs.length+more.length
 |[],kvs=>by show kvs.length<=kvs.length+0;omega
 |p::r,kvs=>by
  let h1:=Qi r (BP kvs p.1 p.2);let h2:=Hk kvs p.1 p.2;show (IM (BP kvs p.1 p.2) r).length<=_;rw[Ci];omega
theorem Mu:∀ {kvs:List (Key × V)} {ws:List (Value × Value)},VV (kvs.map λkv=>(kV kv.1,kv.2)) ws -> ∃ rs,Carries (zf P w) ws rs/\KV kvs rs
 |[],_,r=>by rw[List.map_nil]at r;ext r;calc ⟨[],True.intro,.nil⟩
 |p::kvs,_,r=>by
  rw[Ab]at r;cases r with
  | @cons a b as bs h t=>
   let⟨rs,c,q⟩:=Mu t;let⟨b1,b2⟩:=b;calc ⟨(p.1,b2)::rs,⟨Fp h.1,rfl,c⟩,.cons ⟨rfl,h.2⟩ q⟩
def T6 (trs:List (TE × TE)):TE:=λY H Q=>∀ p,H p=none->Kp trs Y (upd H p (.dK [])) λps H2=>H2 p=some (.dK []) /\ ∃ kvs:List (Key × V),ps=kvs.map (λkv=>(kV kv.1,kv.2))/\kvs.length<=15/\Q (.ref p) (upd H2 p (.dK (IM [] kvs)))
def fX (h:PPs X pos keys values trs) (hall:keys.all (·.isSome)=true) (hl:keys.length=values.length) (h0:keys≠[])
  (h15:keys.length<=15):PE X (.Dict keys values pos) (T6 trs):=by
 intro zB s Y H Q I q;let hn:=I.hok.fresh (AF ⇑s);let I1:=I.laid (t':=s.toks) (λ_ _ q=>AH _ q) (AF _) (VA s.heap I.big);refine wpAny_Dict_walk (knd:=zf X.prog X.w) hall hl h0 h15 (thn (h zB _ Y _ _ I1 (q _ hn)) λws s2 ⟨ps,H2,I2,rel,e,kvs,ep,lk,q2⟩=>?_);subst ep;let⟨rs,c,rk⟩:=Mu rel;let⟨z,hd,vs0,r0,dd⟩:=J3 I2.hok e;ext r0;refine ⟨rs,c,dd,λh' dd' hs=>⟨.ref ⇑s,_,?_,rfl,q2⟩⟩;let hz:(IM [] kvs).length<=sizeLine:=by
  let h1:=Qi kvs [];rw[Bw]at h1;rw[CO];omega
 let he:∃ q,h'.get? ⇑s=some q:=let ⟨q,_,_,hq,_⟩:=dd';⟨q,hq⟩;calc Gb I2 (by rw[e];calc True.intro) hs he (J9 hz hd (rk.merge .nil) dd')
def IsD (H:Hp) (a:Yt):Prop:=(∃ kvs,Rd H a (.dK kvs)) \/ ∃ kvs,Rd H a (.dT kvs)
def Qm (I:Inv X zB Y H s) (d:IsD H a) :
  s.TypeIs (.ref a) "dict" /\ (∀ b,Value.ref a=.ref b -> ∃ ob,s.heap.get? b=some ob/\ob.dict=none)/\(a==sysModules)=false:=by
 rcases d with ⟨kvs,e⟩|⟨kvs,e⟩
 .obtain ⟨_,hd,vs,_,dd⟩:=GK I.hok e;refine ⟨dd.typeIs,λb q=>?_,hd⟩;ext q;let⟨ob,_,_,h1,h2,_⟩:=dd;exact ⟨ob,h1,h2.2.1⟩
 .obtain ⟨_,hd,xs,_,dd⟩:=Gf I.hok e;refine ⟨dd.typeIs,λb q=>?_,hd⟩;ext q;let⟨ob,_,_,h1,h2,_⟩:=dd;calc ⟨ob,h1,h2.2.1⟩
theorem Fw:∀ (names:List (Str × NameKind)) (n:Nat) (acc:Yv),cellsFrom n names acc=cellsFrom n names []++acc
 |[],_,_=>rfl
 | (name,kind)::r,n,acc=>by
  erw[cellsFrom];split
  .rw[Fw r (n+1) ((name,n)::acc),Fw r (n+1) [(name,n)],Dm];rfl
  .exact Fw r n acc
theorem Hi {α:Type} (x:Str):∀ (l r:List (Str × α)),(l++r).lookup x=(match l.lookup x with|some c=>some c|none=>r.lookup x)
 |[],r=>rfl
 | (k,v)::l,r=>by
  rw[List.cons_append,E7,E7];cases hb:x==k with
  |true=>rfl
  |false=>calc Hi x l r
theorem LS:∀ (names:List (Str × NameKind)) (acc:Yv),
  (∀ y∈names,y.2=.free -> ∃ c,env.cells.lookup y.1=some c) ->
  (∀ x c,acc.lookup x=some c->env.cells.lookup x=some c) ->
  ∃ cl:List (Str × Addr),(forIn names acc (λ(p:Str × NameKind) (cs:Yv)=>(do
    if p.2 == .free then
     let a <- cellOf env p.1;pure (ForInStep.yield ((p.1,a)::cs))
    else pure (ForInStep.yield cs):Sem (ForInStep (List (Str × Addr))))))=pure cl /\
   (∀ x c,cl.lookup x=some c->env.cells.lookup x=some c) /\
   (∀ x,(acc.lookup x).isSome=true->(cl.lookup x).isSome=true) /\ ∀ y∈names,y.2=.free->(cl.lookup y.1).isSome=true
 |[],acc,_,ha=>⟨acc,by rw[List.forIn_nil],ha,λ_ h=>h,λ_ h=>nomatch h⟩
 | (n,k)::r,acc,hf,ha=>by
  rw[List.forIn_cons];by_cases hk:k=.free
  .subst hk;let⟨c,hc⟩:=hf (n,.free) AM rfl;let hco:cellOf env n=pure c:=by erw[cellOf];rw[hc]
   let⟨cl,e,h1,h2,h3⟩:=LS r ((n,c)::acc) (λy hy=>hf y (AQ _ hy)) (λx d hx=>by
    rw[E7]at hx;cases hb:x==n with
    |true=>rw[hb]at hx;ext hx;rw[beq_iff_eq.mp hb];calc hc
    |false=>rw[hb]at hx;calc ha x d hx)
   refine ⟨cl,?_,h1,λx hx=>h2 x ?_,λy hy hk=>?_⟩
   .rw[<-e];simp only[beq_self_eq_true,BC,hco];rfl
   .rw[E7];cases hb:x==n with
    |true=>rfl
    |false=>exact hx
   .rcases AJ.mp hy with z|z
    .subst z;exact h2 n (by rw[E7];simp)
    .exact h3 y z hk
  .obtain ⟨cl,e,h1,h2,h3⟩:=LS r acc (λy hy=>hf y (AQ _ hy)) ha;refine ⟨cl,?_,h1,h2,λy hy hk'=>?_⟩
   .rw[<-e];have:(k==NameKind.free)=false:=by simpa using hk
    simp only[this,Ac,Ah];rfl
   .rcases AJ.mp hy with z|z
    .subst z;exact absurd hk' hk
    .exact h3 y z hk'
def XH (hf:∀ y∈scope.names,y.2=.free -> ∃ c,env.cells.lookup y.1=some c) :
  ∃ cl,closureFor scope env=pure cl/\(∀ x c,cl.lookup x=some c->env.cells.lookup x=some c) /\ ∀ y∈scope.names,y.2=.free->(cl.lookup y.1).isSome=true:=by
 let⟨cl,e,h1,_,h3⟩:=LS scope.names [] hf (λx c h=>nomatch h);calc ⟨cl,?_,h1,h3⟩;erw[closureFor];rw[show (pure cl:Sem _)=pure cl >>= pure from rfl,<-e]
def JP
  (hQ:Q (newEnv scope ⇑s globals (cellsFrom (⇑s+1) scope.names cl) qual none .none (some env) builtinsNs)
   { s with heap:=pushCells (s.heap.push { cls:=.type "dict", data:=.dict #[] }) scope.names }) :
  wpAny M A (newFunctionEnv scope globals cl [] qual none .none (some env)) Q E s:=by
 simp only[newFunctionEnv,Option.isSome_some,BC];calc AA (wpAny_alloc ?_);refine AA (wpAny_layCells _ (λname kind cells=>by cases hkc:kind==NameKind.cell <;> simp[hkc]) _ _ _ _ ?_);rw[show ({ s with heap:=s.heap.push { cls:=.type "dict", data:=.dict #[] } }:Shared).heap.objs.size=⇑s+1 from Ax ..];calc AA (AB (AB hQ))
def zG (X:Cx) (zB:Yd) (scope:Y0) (cl:Yv) (s:Yl) (H:Hp) (fp:Yg):Cx where
 prog:=X.prog
 w:=X.w
 K:=X.K
 mg:=X.mg
 base:=X.base
 A:=X.A
 N:=X.N
 s₀:=s
 H₀:=H
 env:={ scope:=relabel scope X.env,locals:=⇑s+1,globals:=X.env.globals,cells:=cellsFrom (⇑s+1+1) scope.names cl,qual:=X.env.qual,func:=none,code:=X.env.code,frame:=X.env.frame,builtins:=X.env.builtins }
 outer:=X.stack
 stack:=X.stack
 ex:=fp
 fn:=λx=>decide (scope.names.lookup x=some .cell)
 calm:=X.calm
 pn:=X.pn++zB
 xe:=λ_ _=>False
theorem GH {scope:Y0} {env:Env} (x:Str):∀ {names:List (Str × NameKind)} {k:NameKind},
  (names.map λ(n,k)=>if (k==NameKind.free&&env.scope.kind == .function&&env.kindOf n==some .cell) then (n,NameKind.cell) else (n,k)).lookup x=some k ->
  names.lookup x=some k\/(names.lookup x=some .free/\k=.cell)
 |[],_,h=>by simp at h
 | (n,k')::r,k,h=>by
  rw[Ab]at h;by_cases hc:(k'==NameKind.free&&env.scope.kind == .function&&env.kindOf n==some .cell)=true
  .simp only[hc,BC]at h;rw[E7]at h ⊢;cases hb:x==n with
   |true=>
    rw[hb]at h;simp only[Ay,beq_iff_eq]at hc;calc .inr ⟨by rw[hc.1.1],(BQ h).symm⟩
   |false=>rw[hb]at h;exact GH (scope:=scope) x h
  .simp only[hc,Ac,Ah]at h;rw[E7]at h ⊢;cases hb:x==n with
   |true=>rw[hb]at h;calc .inl h
   |false=>rw[hb]at h;calc GH (scope:=scope) x h
theorem ME:∀ (names:List (Str × NameKind)) (n:Nat) (acc:Yv) (x:Str) (c:Yt),(x,c)∈cellsFrom n names acc->(x,c)∉acc->(x,NameKind.cell)∈names
 |[],_,_,_,_,h,h'=>absurd h h'
 | (name,kind)::r,n,acc,x,c,h,h'=>by
  erw[cellsFrom]at h;cbv at h
  .rename_i hk;by_cases e:(x,c)=(name,n)
   .cases e;rw[beq_iff_eq]at hk;subst hk;exact AM
   .exact AQ _ (ME r _ _ x c h λz=>(AJ.mp z).elim e h')
  .exact AQ _ (ME r _ _ x c h h')
structure CompScope (X:Cx) (scope:Y0):Prop where
 kind:scope.kind=.function
 names:∀ y∈scope.names,y.2=.local->scope.names.lookup y.1=some .local
 cells:∀ y∈scope.names,y.2=.cell->scope.names.lookup y.1=some .cell
 free:∀ y∈scope.names,y.2=.free->X.env.kindOf y.1=some .cell\/X.env.kindOf y.1=some .free
def Ju (S:CompScope X scope) (I:Inv X zB Y H s) (hf:∀ b∈fp,BL X zB H b) (ho:∀ b:Nat,b∈fp->b<⇑s)
  (c1:∀ x c,cl.lookup x=some c->X.env.cells.lookup x=some c) (c2:∀ y∈scope.names,y.2=.free->(cl.lookup y.1).isSome=true)
  (hl:σc.length=Y.length) (hσ:∀ (i:Nat) x v,X.N[i]?=some x->σc[i]?=some (some v)->(relabel scope X.env).names.lookup x≠none->scope.names.lookup x=some .free/\Y[i]?=some (some v))
  (lo:Obj) (hlo:∀ v,lo.data≠.cell v) (hfr:lo.isFreed=false)
  (h4:s4={ s with heap:=pushCells ((s.heap.push lo).push { cls:=.type "dict", data:=.dict #[] }) scope.names }) :
  Inv (zG X zB scope cl s H fp) [(⇑s,lo)] σc H s4:=by
 subst h4;let sz1:(s.heap.push lo).objs.size=⇑s+1:=Ax ..;let sz2:((s.heap.push lo).push { cls:=.type "dict", data:=.dict #[] }).objs.size=⇑s+1+1:=by rw[Ax,sz1]
 let hk:∀ b o,s.heap.get? b=some o->(pushCells ((s.heap.push lo).push { cls:=.type "dict", data:=.dict #[] }) scope.names).get? b=some o:=λb o e=>
  pushCells_keeps _ _ b o (AH _ (AH _ e))
 let ok:=cellsFrom_ok scope.names ((s.heap.push lo).push { cls:=.type "dict", data:=.dict #[] }) (⇑s+1+1) [] ⟨λ_ _ hm=>(nomatch hm),List.Pairwise.nil⟩ (by rw[sz2];exact AF _);rw[sz2]at ok;let look:∀ x c,(cellsFrom (⇑s+1+1) scope.names cl).lookup x=some c->((cellsFrom (⇑s+1+1) scope.names []).lookup x=some c)\/((cellsFrom (⇑s+1+1) scope.names []).lookup x=none/\X.env.cells.lookup x=some c):=λx c e=>by
  rw[Fw,Hi]at e;cases q:(cellsFrom (⇑s+1+1) scope.names []).lookup x with
  |some d=>rw[q]at e;calc .inl e
  |none=>rw[q]at e;exact .inr ⟨rfl,c1 x c e⟩
 let old:∀ x (c:Nat),X.env.cells.lookup x=some c->c<⇑s:=λx c e=>let ⟨_,q⟩:=I.cell x c e;q.lt;let new:∀ x (c:Nat),(cellsFrom (⇑s+1+1) scope.names []).lookup x=some c->⇑s+1+1<=c:=λx c e=>(ok.empty x c (Cn e)).2;let own:∀ x,scope.names.lookup x=some .cell -> ∃ c,(cellsFrom (⇑s+1+1) scope.names []).lookup x=some c:=λx e=>LF e;let cne:∀ x (c:Nat),(cellsFrom (⇑s+1+1) scope.names cl).lookup x=some c->c<⇑s\/⇑s+1+1<=c:=λx c e=>by
  rcases look x c e with q|⟨_,q⟩
  .exact .inr (new x c q)
  .exact .inl (old x c q)
 refine ⟨⟨I.ok.mod,S.kind,I.ok.glob,I.ok.blt,Cu _,λx y c h1 h2=>?_,λx hx=>?_,λx c hx h=>?_,I.ok.hd,I.ok.frames,.inl rfl,λb hb=>⟨?_,λx c e z=>?_⟩,I.bs,BY I.ok.bsz I.sz,λb o e hb=>?_,λb hb z=>?_,I.stack,I.stkFree⟩,
  rfl,I.bare,Un.kept hk,⟨λ_=>none,?_,λi x v h1 h2 h3=>?_⟩,λx c e=>?_,I.hok.fresh (Cu _),λx c e=>?_,λp hp=>?_,I.hok.kept hk,hl.trans I.len⟩
 .rcases look x c h1 with a|⟨_,a⟩ <;> rcases look y c h2 with b|⟨_,b⟩
  .exact name_of_addr ok.apart (Cn a) (Cn b)
  .exact absurd (Ez (new x c a) (old y c b)) ()
  .exact absurd (Ez (new y c b) (old x c a)) ()
  .exact I.ok.inj x y c a b
 .have hx':(relabel scope X.env).names.lookup x=some .cell\/(relabel scope X.env).names.lookup x=some .free:=hx;let go:scope.names.lookup x=some .cell\/scope.names.lookup x=some .free:=by
   rcases hx' with q|q
   .rcases GH (scope:=scope) x q with z|z
    .exact .inl z
    .exact .inr z.1
   .rcases GH (scope:=scope) x q with z|z
    .exact .inr z
    .exact .inr z.1
  show ∃ c,(cellsFrom (⇑s+1+1) scope.names cl).lookup x=some c;rw[Fw,Hi];rcases go with q|q
  .obtain ⟨c,e⟩:=own x q;exact ⟨c,by rw[e]⟩
  .cases e:(cellsFrom (⇑s+1+1) scope.names []).lookup x with
   |some d=>calc ⟨d,rfl⟩
   |none=>exact Option.isSome_iff_exists.mp (c2 (x,.free) (Cn q) rfl)
 .obtain ⟨d,e⟩:=own x (C2 hx);let h':(cellsFrom (⇑s+1+1) scope.names cl).lookup x=some c:=h;rw[Fw,Hi,e]at h';ext h';exact BY (BY (Cu _) (Cu _)) (new x _ e)
 .exact AU (Bx (ho b hb))
 .rcases look x c e with q|⟨_,q⟩
  .have a:=new x c q;rw[z]at a;exact absurd (Ez a (ho b hb)) ()
  .exact (hf b hb).2.2.2.2.1 x c q z
 .rcases (hf b hb).2.2.2.1 with z|z
  .exact I.ok.noex b o e z
  .exact absurd (BH (AG e) (BY I.ok.bsz z)) (BK _)
 .rcases AJ.mp (I.stkSub b z)with q|q
  .exact (hf b hb).2.1 q
  .exact (hf b hb).2.2.1 q
 .have q:((s.heap.push lo).push { cls:=.type "dict", data:=.dict #[] }).Ns (s.heap.push lo).objs.size (λ_=>none):=Heap.Ns.new ..;rw[sz1]at q;exact q.keeps (pushCells_keeps _ _)
 .have h3':(relabel scope X.env).names.lookup x≠none:=by
   rcases h3 with z|z|z <;> (intro q;let z':(relabel scope X.env).names.lookup x=_:=z;rw[q]at z';ext z')
  let⟨fr,hv⟩:=hσ i x v h1 h2 h3';let⟨m,hn,hlk⟩:=I.loc;let kx:=S.free (x,.free) (Cn fr) rfl;let⟨u,rv,lk⟩:=hlk i x v h1 hv (by rcases kx with z|z;calc .inr (.inl z);calc .inr (.inr z));calc ⟨u,rv,?_⟩;rcases lk with ⟨z,_⟩|⟨_,c,e,ic⟩
  .rcases kx with k|k <;> (rw[k]at z;ext z)
  .have kind:(relabel scope X.env).names.lookup x=some .cell\/(relabel scope X.env).names.lookup x=some .free:=by
    cases q:(relabel scope X.env).names.lookup x with
    |none=>calc absurd q h3'
    |some k=>
     rcases GH (scope:=scope) x q with z|z
     .rw[fr]at z;ext z;exact .inr rfl
     .rw[z.2];exact .inl rfl
   refine .inr ⟨kind,c,?_,ic.keeps hk⟩;show (cellsFrom (⇑s+1+1) scope.names cl).lookup x=some c;rw[Fw,Hi];let⟨d,hd⟩:=Option.isSome_iff_exists.mp (c2 (x,.free) (Cn fr) rfl);have:=c1 x d hd;rw[e]at this;ext this;let nn:(cellsFrom (⇑s+1+1) scope.names []).lookup x=none:=by
    cases q:(cellsFrom (⇑s+1+1) scope.names []).lookup x with
    |none=>rfl
    |some d'=>
     let z:=S.cells (x,.cell) (ME scope.names _ [] x d' (Cn q) λz=>nomatch z) rfl;rw[fr]at z;ext z
   rw[nn];exact hd
 .rcases look x c e with q|⟨_,q⟩
  .exact ⟨none,(ok.empty x c (Cn q)).1⟩
  .obtain ⟨v,z⟩:=I.cell x c q;exact ⟨v,z.keeps hk⟩
 .rcases look x c e with q|⟨_,q⟩
  .exact I.hok.fresh (by have:=new x c q;omega)
  .exact I.freeC x c q
 .have hp':p∈X.pn++zB\/p=(⇑s,lo):=by
   rcases Au.mp hp with z|z
   .exact .inl z
   .exact .inr (~~~z)
  rcases hp' with z|z
  .obtain ⟨e,n,ne,nf,d⟩:=I.pin p z;let lt:(p.1:Nat)<⇑s:=AG e;refine ⟨hk _ _ e,n,?_,λq=>?_,d⟩
   .exact AU (Bx lt)
   .rcases AJ.mp (I.stkSub _ q)with r|r
    .exact ne r
    .exact nf r
  .subst z;refine ⟨pushCells_keeps _ _ _ _ (AH _ (AK _ hfr)),I.hok.fresh (AF _),?_,λq=>?_,hlo⟩
   .show ⇑s≠⇑s+1;omega
   .rcases AJ.mp (I.stkSub _ q)with r|r
    .exact absurd I.lt (by rw[<-r];calc BK _)
    .exact I.nofs (AF _) r
def clr (own:Yj) (Y:St):St:=own.foldl (λY i=>Y.set i none) Y
theorem FP:∀ (own:Yj) (Y:St),(clr own Y).length=Y.length
 |[],_=>rfl
 |i::r,Y=>by
  show (clr r (Y.set i none)).length=_;rw[FP r,List.length_set]
theorem E4:∀ (own:Yj) (Y:St) (j:Nat) (v:V),(clr own Y)[j]?=some (some v)->Y[j]?=some (some v)/\j∉own
 |[],_,_,_,h=>⟨h,λz=>nomatch z⟩
 |i::r,Y,j,v,h=>by
  let h':(clr r (Y.set i none))[j]?=some (some v):=h;let⟨a,b⟩:=E4 r _ j v h';rw[DA]at a;cbv at a
  .split at a <;> ext a
  .rename_i hne;calc ⟨a,λz=>(AJ.mp z).elim (λe=>hne e.symm) b⟩
def Ext (a b:St):Prop:=b.length=a.length /\ ∀ (i:Nat) v,a[i]?=some (some v)->b[i]?=some (some v)
def Ext.refl (a:St):Ext a a:=⟨rfl,λ_ _ h=>h⟩
def Ext.set (e:Ext (clr own Y) a) (h:i∈own):Ext (clr own Y) (a.set i (some v)):=by
 refine ⟨by rw[List.length_set];exact e.1,λj u q=>?_⟩;rw[DA];split
 .rename_i z;exact absurd (z▸h) (E4 own Y j u q).2
 .exact e.2 j u q
def DF (X:Cx) (ifs:Yi) (t:TT):Prop :=
 ∀ (zB:Yd) (s:Yl) (Y:St) (H:Hp) (Q:Bool->Hp->Prop),Inv X zB Y H s->t Y H Q ->
  wpAny (model X.prog X.w) X.A (forIn ifs true λc r=>if r=true then do let ok <- isTrue c X.env (eval c X.env);pure (ForInStep.yield ok) else pure (ForInStep.yield r)) (TP X zB Y Q) X.xe s
def U6:TT:=λ_ H Q=>Q true H
def X2:DF X [] U6:=λ_ _ _ H _ I h=>wpAny_tests_nil ⟨H,I,h⟩
def Y7 (h:PT X c t):DF X [c] t:=λzB s Y H Q I hq=>wpAny_tests_one (h zB s Y H Q I hq)
def Ud (I:Nat->Shared->Prop)
  (turn:∀ n s,I n s->wpAny (model prog w) A (pyNext it) (λr s₁=>match r with
   |none=>R (.ok .next) s₁
   |some v=>wpAny (model prog w) A (letOwnedTupleGo target it v) (λ_ s₁'=>wpAny (model prog w) A (assign target env v) (λ_ s₂=>
     wpAny (model prog w) A (forIn ifs true λc r=>if r=true then do let ok <- isTrue c env (eval c env);pure (ForInStep.yield ok) else pure (ForInStep.yield r)) (λok s₃=>
      if ok=true then wpAny (model prog w) A (eval elt env) (λx s₄=>
       wpAny (model prog w) A (call (.builtin "list.append") [acc,x]) (λ_ s₅=>∃ m,m<n/\I m s₅) (λ_ _=>False) s₄) (λ_ _=>False) s₃
      else ∃ m,m<n/\I m s₃) (λ_ _=>False) s₂) (λ_ _=>False) s₁') (λ_ _=>False) s₁) (λ_ _=>False) s)
  (n:Nat) (h:I n s) :
  codeAny (model prog w) A (.compLoop (.ListComp elt [⟨target,iter,ifs,0⟩] scope pos) 0 it acc env) R s:=by
 refine codeAny_loop rfl I (λn s hI=>?_) n h;show wpAny _ A ((compTurn (.ListComp elt [⟨target,iter,ifs,0⟩] scope pos) 0 it acc env).onRaise (λx=>do noteFrame x env;theTreesLotGoes x)) _ _ s;calc wpAny_noted ?_;rw[compTurn_list];refine AA (Ce (AA (AS (turn n s hI) (λr s₁ h₁=>?_) λ_ _ h'=>h'.elim)));cases r with
 |none=>calc AB h₁
 |some v=>
  refine AA (AS h₁ (λ_ s₁' h₁'=>?_) λ_ _ h'=>h'.elim);refine AA (AS h₁' (λ_ s₂ h₂=>AA (AS h₂ (λok s₃ h₃=>?_) λ_ _ h'=>h'.elim)) λ_ _ h'=>h'.elim);cases ok with
  |false=>calc AB ⟨rfl,h₃⟩
  |true=>
   calc AA (AA (AS h₃ (λx s₄ h₄=>AA (AS h₄ (λ_ s₅ h₅=>AB (AB ⟨rfl,h₅⟩)) λ_ _ h'=>h'.elim)) λ_ _ h'=>h'.elim))
def KJ (own:Yj) (wi:TI) (g:TG) (tc:TT) (te:TE):TE:=λY H Q=>wi Y H λJ H1=>∃ W:Nat->Nat->List V->Hp->Prop,(∃ m,W 0 m [] H1) /\ ∀ i m ys H,W i m ys H ->
 (J.stop i H/\ys.length<=sizeLine /\ ∀ D,H D=none->Q (.ref D) (upd H D (.lst ys))) \/
 (J.go i H /\ ∀ x H',J.yld i H x H'->g x (clr own Y) H' λσ2 H2=>Ext (clr own Y) σ2/\tc σ2 H2 λb H3=>
  if b=true then te σ2 H3 λv H4=>ys.length<sizeLine /\ ∃ m',m'<m/\W (i+1) m' (ys++[v]) H4 else ∃ m',m'<m/\W (i+1) m' ys H3)
abbrev zY (its:List Value) (n:Nat):Obj:={ cls:=.type "list", data:=.seq its.toArray n }
def Inv.repin (I:Inv X (pl++[(D,o)]) Y H s) (hpl:∀ p∈X.pn++pl,p.1≠D) (hs:Heap.SameBut D s.heap h') (hD:⇑X.s₀<=D) (hc:∀ x c,X.env.cells.lookup x=some c->c≠D)
  (e:h'.get? D=some o') (hn:∀ v,o'.data≠.cell v):Inv X (pl++[(D,o')]) Y H { s with heap:=h' }:=by
 let⟨e0,n0,ne0,nf0,d0⟩:=I.pin (D,o) (by simp);let I1:Inv X pl Y H s:=I.pins_of λp hp=>I.pin p (by simp[hp]);let I2:Inv X pl Y H { s with heap:=h' }:=I1.turned (λb u hb q=>hs.extBut b u hb q) n0 ne0 (.inr hD) hc hpl;exact I2.pins_of λp hp=>by
  rcases Au.mp hp with z|z
  .exact I2.pin p (Af _ z)
  .have:p=(D,o'):=by simpa using z
   subst this;calc ⟨e,n0,ne0,nf0,hn⟩
section
variable {pos:Pos}
 {own:Yj} {g:TG} {tc:TT} {te:TE} {E:Yc}
structure CompIn (X:Cx) (scope:Y0) (own:Yj):Prop where
 sc:CompScope X scope
 nm:∀ (i:Nat) x,X.N[i]?=some x->i∈own\/scope.names.lookup x=none\/scope.names.lookup x=some .free
def Ij (x:Str) (h:scope.names.lookup x=none):(relabel scope env).names.lookup x=none:=by
 cases q:(relabel scope env).names.lookup x with
 |none=>rfl
 |some k=>
  rcases GH (scope:=scope) x q with z|z
  .rw[h]at z;ext z
  .rw[h]at z;cases z.1
def Qx (C:CompIn X scope own) (hcalm:X.calm=true) (I:Inv X zB Y H s) (T:Turn X.prog X.w X.K tg J fp it tn) (st:tn 0 s.heap) (hf:∀ b∈fp,BL X zB H b)
  (c1:∀ x c,cl.lookup x=some c->X.env.cells.lookup x=some c) (c2:∀ y∈scope.names,y.2=.free->(cl.lookup y.1).isSome=true)
  (hg:PG (zG X zB scope cl s H fp) tg g) (hi:DF (zG X zB scope cl s H fp) ifs tc) (he:PE (zG X zB scope cl s H fp) elt te)
  {RR:Value->Addr->Result->Shared->Prop} {QQ:List V->Hp->Prop} {W:Nat->Nat->List V->Hp->Prop} {m0:Nat} (w0:W 0 m0 [] H)
  (turn:∀ i m ys H,W i m ys H->(J.stop i H/\ys.length<=sizeLine/\QQ ys H) \/
   (J.go i H /\ ∀ x H',J.yld i H x H'->g x (clr own Y) H' λσ2 H2=>Ext (clr own Y) σ2/\tc σ2 H2 λb H3=>
    if b=true then te σ2 H3 λv H4=>ys.length<sizeLine /\ ∃ m',m'<m/\W (i+1) m' (ys++[v]) H4 else ∃ m',m'<m/\W (i+1) m' ys H3))
  (fin:∀ σc H' s' its n ys,Inv (zG X zB scope cl s H fp) [(⇑s,zY its n)] σc H' s'->zU ys its->ys.length<=sizeLine->QQ ys H'->RR (.ref ⇑s) (⇑s+1) (.ok .next) s') :
  wpAny (model X.prog X.w) X.A (newList []) (λacc s₃=>wpAny (model X.prog X.w) X.A (newFunctionEnv scope X.env.globals cl [] X.env.qual none .none (some X.env)) (λcenv s₄=>
   codeAny (model X.prog X.w) X.A (.compStart (.ListComp elt [⟨tg,iter,ifs,0⟩] scope pos) 0 (.ref it) acc { cenv with scope:=relabel scope X.env }) (RR acc cenv.locals) s₄) E s₃) E s:=by
 let ob:∀ b:Nat,b∈fp->b<⇑s:=λb hb=>let ⟨_,e,_⟩:=T.obj 0 _ st b hb;AG e;refine Ao (JP ?_);let sz1:(s.heap.push (zY [] 0)).objs.size=⇑s+1:=Ax ..;let I4:=Ju C.sc I hf ob c1 c2 (FP own Y) (λi x v h1 h2 h3=>by
  let⟨a,b⟩:=E4 own Y i v h2;rcases C.nm i x h1 with z|z|z
  .exact absurd z b
  .exact absurd (Ij x z) h3
  .exact ⟨z,a⟩) (zY [] 0) (by intro v z;ext z) rfl rfl
 let st4:tn 0 (pushCells ((s.heap.push (zY [] 0)).push { cls:=.type "dict", data:=.dict #[] }) scope.names):=T.keep 0 _ _ st λb _ o e=>pushCells_keeps _ _ b o (AH _ (AH _ e));erw[newEnv];rw[sz1];let hDfp:⇑s∉fp:=λz=>BK _ (ob _ z);let hcD:∀ x c,(zG X zB scope cl s H fp).env.cells.lookup x=some c->c≠⇑s:=λx c e z=>by
  let⟨v,o,ho,hd⟩:=I4.cell x c e;let⟨q,_⟩:=I4.pin (⇑s,zY [] 0) (by simp);rw[z,q]at ho;ext ho;ext hd
 let fpk:∀ {H':Hp} {pl:Yd},(∀ b∈fp,H' b=none)->(∀ p∈pl,p.1=⇑s) -> ∀ b∈fp,BL (zG X zB scope cl s H fp) pl H' b:=λ{H' pl} hn hp b hb=>
  ⟨hn b hb,(I4.ok.exf b hb).1,I4.ok.exfs b hb,.inl hb,(I4.ok.exf b hb).2,λp hq=>by
   rcases Au.mp hq with z|z
   .exact (hf b hb).2.2.2.2.2 p z
   .intro e;let e2:=hp p z;rw[e]at e2;calc hDfp (e2▸hb)⟩
 let loop:codeAny (model X.prog X.w) X.A (.compLoop (.ListComp elt [⟨tg,iter,ifs,0⟩] scope pos) 0 (.ref it) (.ref ⇑s) (zG X zB scope cl s H fp).env) (RR (.ref ⇑s) (⇑s+1))
   { s with heap:=pushCells ((s.heap.push (zY [] 0)).push { cls:=.type "dict", data:=.dict #[] }) scope.names }:=by
  refine Ud (λn s'=>∃ i H' ys its k,Inv (zG X zB scope cl s H fp) [(⇑s,zY its k)] (clr own Y) H' s'/\zU ys its/\tn i s'.heap/\(∀ b∈fp,H' b=none)/\W i n ys H') ?_ m0
   ⟨0,H,[],[],0,I4,.nil,st4,λb hb=>(hf b hb).1,w0⟩
  rintro n s5 ⟨i,H5,ys,its,k,I5,r5,st5,f5,w5⟩;let pinD:∀ p∈[(⇑s,zY its k)],p.1=⇑s:=λp hp=>by
   have:p=(⇑s,zY its k):=by simpa using hp
   rw[this]
  rcases turn i n ys H5 w5 with ⟨stop,hz,qq⟩|⟨go,step⟩
  .refine thn (T.done (zG X zB scope cl s H fp) rfl rfl rfl hcalm i _ s5 _ H5 _ I5 (fpk f5 pinD) st5 stop) λr s6 ⟨hr,I6⟩=>?_;subst hr;exact fin _ H5 s6 its k ys I6 r5 hz qq
  .refine thn (T.item (zG X zB scope cl s H fp) rfl rfl rfl hcalm i _ s5 _ H5 _ I5 (fpk f5 pinD) st5 go) λr s6 ⟨u,hr,h6⟩=>?_;subst hr;refine thn h6 λ_ s7 ⟨x,H7,I7,r7,y7,st7,f7⟩=>?_;let I7':=I7.pinned (fpk f7 pinD) (T.obj _ _ st7);refine thn (hg _ s7 _ H7 x u _ I7' r7 (step x H7 y7)) λ_ s8 ⟨σ8,H8,I8,x8,q8⟩=>?_;refine thn (hi _ s8 σ8 H8 _ I8 q8) λok s9 ⟨H9,I9,q9⟩=>?_;let back:∀ {s':Yl} {Hx:Hp},Inv (zG X zB scope cl s H fp) ([(⇑s,zY its k)]++Dt fp s7.heap) σ8 Hx s'->tn (i+1) s'.heap /\ ∀ b∈fp,Hx b=none:=λ{s' Hx} Ix=>
    ⟨T.keep _ _ _ st7 λb hb o e=>(Ix.pin (b,o) (Af _ (Af _ (DB hb e)))).1,λb hb=>by
     let⟨o,e,d⟩:=T.obj _ _ st7 b hb;calc (Ix.pin (b,o) (Af _ (Af _ (DB hb e)))).2.1⟩
   cases ok with
   |false=>
    let⟨m',hm,w'⟩:=q9;let⟨b1,b2⟩:=back I9;calc ⟨m',hm,i+1,H9,ys,its,k,(I9.weak (by rw[x8.1]) x8.2).unpinned,r5,b1,b2,w'⟩
   |true=>
    refine thn (he _ s9 σ8 H9 _ I9 q9) λv s10 ⟨y,H10,I10,r10,hlt,m',hm,w'⟩=>?_;let⟨b1,b2⟩:=back I10;let J10:=(I10.weak (by rw[x8.1]) x8.2).unpinned;let⟨e10,n10,ne10,nf10,d10⟩:=J10.pin (⇑s,zY its k) (by simp);let hlen:its.toArray.size<=sizeLine:=by
     have:=r5.length;rw[AX,<-this];exact De hlt
    refine wpAny_list_append_plain (show s10.heap.PlainList ⇑s its.toArray from ⟨k,e10⟩) λh' hl' hs'=>?_;let⟨k',e'⟩:=hl';let e'':h'.get? ⇑s=some (zY (its++[v]) k'):=by rw[e'];simp[zY]
    refine ⟨m',hm,i+1,H10,ys++[y],its++[v],k',?_,r5.append (.cons r10 .nil),T.keep _ _ _ b1 λb hb o e=>hs'.extBut b o (λz=>hDfp (z▸hb)) e,b2,w'⟩;refine Inv.repin (pl:=[]) J10 (λp hp=>?_) hs' (AF _) hcD e'' (by intro v z;ext z);rw[CV]at hp;let hp':p∈X.pn++zB:=hp;exact AU (AG (I.pin p hp').1)
 calc codeAny_compStart_list loop (T.self _ 0 _ _ _ st4 loop)
end
def JJ (I:Inv X zB Y H s) (hf:∀ b∈fp,BL X zB H b)
  (Ic:Inv (zG X zB scope cl s H fp) [(⇑s,zY its n)] σc H' s') (rv:zU ys its) (hz:ys.length<=sizeLine) (hs:Heap.SameBut (⇑s+1) s'.heap h') :
  Inv X zB Y (upd H' ⇑s (.lst ys)) { s' with heap:=h' }/\H' ⇑s=none:=by
 let⟨eD,nD,_⟩:=Ic.pin (⇑s,zY its n) (by simp);let nC:H' (⇑s+1)=none:=Ic.free;let eD':h'.get? ⇑s=some (zY its n):=hs.extBut _ _ (AU (CM _)) eD;let lt1:∀ {b:Yt} {o:Obj},s.heap.get? b=some o->b≠⇑s+1/\b≠⇑s:=λe=>⟨AU (Bx (AG e)),AU (AG e)⟩;let tr:∀ b u,H' b=some u->b≠⇑s+1/\b≠⇑s:=λb u e=>⟨λz=>(by rw[z,nC]at e;ext e),λz=>(by rw[z,nD]at e;ext e)⟩;refine ⟨?_,nD⟩;let B:=Ic.base;let un:Un (frs X.stack) fp H (upd H' ⇑s (.lst ys)) s.heap h':=by
  refine ⟨λb o e q hb hx=>hs.extBut b o (lt1 e).1 (B.keep b o e q hb hx),λb o e q hb hx=>?_,λb o e q hx=>?_,λb o e hx=>?_,λb xs e=>?_,λb o xs e=>?_,λb ps e=>?_⟩
  .obtain ⟨sl,e1⟩:=B.slot b o e q hb hx;exact ⟨sl,hs.extBut b _ (lt1 e).1 e1⟩
  .rw[zS (lt1 e).2];exact B.free b o e q hx
  .obtain ⟨o',e1⟩:=B.there b o e hx;exact ⟨o',hs.extBut b _ (lt1 e).1 e1⟩
  .have q:=B.tups b xs e;rw[zS (tr b _ q).2];exact q
  .have q:=B.frzs b o xs e;rw[zS (tr b _ q).2];exact q
  .obtain ⟨more,q⟩:=B.tbls b ps e;exact ⟨more,by rw[zS (tr b _ q).2];calc q⟩
 let hok:HOk X.prog X.w (upd H' ⇑s (.lst ys)) h':=λb u e=>by
  by_cases hb:b=⇑s
  .subst hb;rw[CH]at e;ext e;exact ⟨hz,its,n,rv,eD'⟩
  .rw[zS hb]at e;refine (Ic.hok b u e).stay (λc v hc q=>hs.extBut c v ?_ q) (λc q=>by rw[zS (tr c _ q).2];exact q) λc xs q=>by rw[zS (tr c _ q).2];exact q
   rcases hc with z|z
   .rw[z];exact (tr b u e).1
   .exact (tr c _ z).1
 calc I.call' Ic.os un hok Ic.bare λb hb=>⟨(hf b hb).2.2.2.1,(hf b hb).2.1,(hf b hb).2.2.2.2.1,(hf b hb).2.2.2.2.2⟩
structure CompParts (X:Cx) (scope:Y0) (tg:Expr) (ifs:Yi) (elt:Expr) (g:TG) (tc:TT) (te:TE):Prop where
 g:∀ zB cl s H fp,PG (zG X zB scope cl s H fp) tg g
 c:∀ zB cl s H fp,DF (zG X zB scope cl s H fp) ifs tc
 e:∀ zB cl s H fp,PE (zG X zB scope cl s H fp) elt te
def CompScope.closure (S:CompScope X scope) (I:Inv X zB Y H s) :
  ∃ cl,closureFor scope X.env=pure cl/\(∀ x c,cl.lookup x=some c->X.env.cells.lookup x=some c) /\ ∀ y∈scope.names,y.2=.free->(cl.lookup y.1).isSome=true :=
 XH λy hy hk=>I.ok.has y.1 (S.free y hy hk)
def WM (C:CompIn X scope own) (hcalm:X.calm=true) (hi:PI X tg iter wi) (p:CompParts X scope tg ifs elt g tc te) (hs:∀ x,foldedSetIterable iter X.env x=pure x:=by intro _;rfl) :
  PE X (.ListComp elt [⟨tg,iter,ifs,0⟩] scope pos) (KJ own wi g tc te):=by
 intro zB s Y H Q I h;let⟨cl,hcl,c1,c2⟩:=C.sc.closure I;rw[eval_ListComp];refine GP rfl hs hcl C.sc.kind C.sc.names (thn (hi zB s Y H _ I h) λv s1 h1=>thn h1 λitv s2 h2=>?_);let⟨it,fp,tn,J,H2,e,I2,T,st2,f2,W,⟨m0,w0⟩,turn⟩:=h2;subst e;calc Qx C hcalm I2 T st2 f2 c1 c2 (p.g _ _ _ _ _) (p.c _ _ _ _ _) (p.e _ _ _ _ _) w0 turn ?_;intro σc H' s' its n ys Ic rv hz qq;let⟨m,hn,_⟩:=Ic.loc;refine ⟨m,hn,λh' hs'=>?_⟩;let⟨J',nD⟩:=JJ I2 f2 Ic rv hz hs';calc ⟨.ref ⇑s2,_,J',rfl,qq _ nD⟩
def VR (hN:X.N.Nodup) (hi':X.N[i]?=some x) (hx:Loc X.env.scope x) (hfn:X.fn x=true\/X.env.scope.names.lookup x=some .local)
  (C:CompIn X scope own) (hcalm:X.calm=true) (hi:PI X tg iter wi) (p:CompParts X scope tg ifs elt g tc te)
  (hsw:swapsWith (.ListComp elt [⟨tg,iter,ifs,0⟩] scope pos) (some (.Name x pos')) pos''.line X.env=pure true) (hs:∀ x,foldedSetIterable iter X.env x=pure x:=by intro _;rfl) :
  PS X (.Assign [.Name x pos'] (.ListComp elt [⟨tg,iter,ifs,0⟩] scope pos) pos'') (IJ (KJ own wi g tc te) (Cd i)):=by
 intro zB s Y H D I h;let⟨cl,hcl,c1,c2⟩:=C.sc.closure I;rw[exec_Assign_Name_used _ _ _ _ hsw];refine AA (Ce (AA ?_))
 refine AA (AS (GP rfl hs hcl C.sc.kind C.sc.names
  (thn (hi zB s Y H _ I h) λv s1 h1=>thn h1 λitv s2 h2=>?_)) (λ_ s' hq=>AB (AB hq)) λ_ _ e=>e)
 let⟨it,fp,tn,J,H2,e,I2,T,st2,f2,W,⟨m0,w0⟩,turn⟩:=h2;subst e
 refine Qx C hcalm I2 T st2 f2 c1 c2 (p.g _ _ _ _ _) (p.c _ _ _ _ _) (p.e _ _ _ _ _)
  w0 turn ?_
 intro σc H' s' its n ys Ic rv hz qq;let⟨m,hn,_⟩:=Ic.loc;let⟨J',nD⟩:=JJ I2 f2 Ic rv hz (.refl ..);let⟨oC,es,ep,hoC,hdC,r1,r2⟩:=id hn;let nC:upd H' ⇑s2 (.lst ys) (⇑s2+1)=none:=by rw[zS (B9 (CM _))];exact Ic.free
 let K':Inv X (zB++[(⇑s2+1,oC)]) Y (upd H' ⇑s2 (.lst ys)) s':=J'.pins_of λq hq=>by
  rcases Au.mp hq with z|z
  .exact J'.pin q (Af _ z)
  .have e:q=(⇑s2+1,oC):=by simpa using z
   subst e;refine ⟨hoC,nC,B9 (Bx I2.lt),I2.nofs (Cu _),λv z=>?_⟩;let z':oC.data=.cell v:=z;rw[hdC]at z';ext z'
 refine thn (LX hN hi' hx hfn _ s' Y _ (.ref ⇑s2) (.ref ⇑s2) _ K' rfl (qq _ nD)) λ_ s'' ⟨Y'',H'',I'',q''⟩=>?_;let⟨eC,_⟩:=I''.pin (⇑s2+1,oC) (by simp);refine ⟨m,⟨oC,es,ep,eC,hdC,r1,r2⟩,λh' hs'=>⟨Y'',H'',?_,q''⟩⟩;let I3:Inv X zB Y'' H'' s'':=I''.unpinned;let⟨_,nC'',neC,_,_⟩:=I''.pin (⇑s2+1,oC) (by simp);refine I3.turned (λb o hb e=>hs'.extBut b o hb e) nC'' neC (.inr (BY I2.sz (Cu _))) (λx c e z=>?_) (λq hq z=>?_)
 .obtain ⟨v,o,ho,hd⟩:=I3.cell x c e;rw[z,eC]at ho;ext ho;rw[hdC]at hd;ext hd
 .obtain ⟨e,_⟩:=I2.pin q hq;calc AU (Bx (AG e)) z
abbrev BE (elt t1 i1:Expr) (f1:Yi) (t2 i2:Expr) (f2:Yi) (scope:Y0) (pos:Pos):Expr:=.ListComp elt [⟨t1,i1,f1,0⟩,⟨t2,i2,f2,0⟩] scope pos
def Te (elt t1 i1:Expr) (f1:Yi) (t2 i2:Expr) (f2:Yi) (scope:Y0) (pos:Pos) (it acc:Yu) (env:Env) :
  compTurn (BE elt t1 i1 f1 t2 i2 f2 scope pos) 0 it acc env=(do
   standAt i1.pos;match <- pyNext it with
   |none=>pure (.done .next)
   |some v=>
    letOwnedTupleGo t1 it v;assign t1 env v;let mut ok:=true
    for c in f1 do
     if ok then ok <- isTrue c env (eval c env)
    if ok then
     let x <- eval i2 env;standAt i2.pos;let x <- foldedSetIterable i2 env x;let _ <- runOwn (.compStart (BE elt t1 i1 f1 t2 i2 f2 scope pos) 1 (<- holding [x] (pyIter x)) acc env) env
    again (.compLoop (BE elt t1 i1 f1 t2 i2 f2 scope pos) 0 it acc env)):=by rfl
def UP (elt t1 i1:Expr) (f1:Yi) (t2 i2:Expr) (f2:Yi) (scope:Y0) (pos:Pos) (it acc:Yu) (env:Env) :
  compTurn (BE elt t1 i1 f1 t2 i2 f2 scope pos) 1 it acc env=(do
   standAt i2.pos;match <- pyNext it with
   |none=>pure (.done .next)
   |some v=>
    letOwnedTupleGo t2 it v;assign t2 env v;let mut ok:=true
    for c in f2 do
     if ok then ok <- isTrue c env (eval c env)
    if ok then
     (do let _ <- call (.builtin "list.append") [acc,<-eval elt env])
    again (.compLoop (BE elt t1 i1 f1 t2 i2 f2 scope pos) 1 it acc env)):=by rfl
def Ut (I:Nat->Shared->Prop)
  (turn:∀ n s,I n s->wpAny (model prog w) A (pyNext it) (λr s₁=>match r with
   |none=>R (.ok .next) s₁
   |some v=>wpAny (model prog w) A (letOwnedTupleGo t2 it v) (λ_ s₁'=>wpAny (model prog w) A (assign t2 env v) (λ_ s₂=>
     wpAny (model prog w) A (forIn f2 true λc r=>if r=true then do let ok <- isTrue c env (eval c env);pure (ForInStep.yield ok) else pure (ForInStep.yield r)) (λok s₃=>
      if ok=true then wpAny (model prog w) A (eval elt env) (λx s₄=>
       wpAny (model prog w) A (call (.builtin "list.append") [acc,x]) (λ_ s₅=>∃ m,m<n/\I m s₅) (λ_ _=>False) s₄) (λ_ _=>False) s₃
      else ∃ m,m<n/\I m s₃) (λ_ _=>False) s₂) (λ_ _=>False) s₁') (λ_ _=>False) s₁) (λ_ _=>False) s)
  (n:Nat) (h:I n s) :
  codeAny (model prog w) A (.compLoop (BE elt t1 i1 f1 t2 i2 f2 scope pos) 1 it acc env) R s:=by
 refine codeAny_loop rfl I (λn s hI=>?_) n h;show wpAny _ A ((compTurn (BE elt t1 i1 f1 t2 i2 f2 scope pos) 1 it acc env).onRaise (λx=>do noteFrame x env;theTreesLotGoes x)) _ _ s;calc wpAny_noted ?_;rw[UP];refine AA (Ce (AA (AS (turn n s hI) (λr s₁ h₁=>?_) λ_ _ h'=>h'.elim)));cases r with
 |none=>calc AB h₁
 |some v=>
  refine AA (AS h₁ (λ_ s₁' h₁'=>?_) λ_ _ h'=>h'.elim);refine AA (AS h₁' (λ_ s₂ h₂=>AA (AS h₂ (λok s₃ h₃=>?_) λ_ _ h'=>h'.elim)) λ_ _ h'=>h'.elim);cases ok with
  |false=>calc AB ⟨rfl,h₃⟩
  |true=>
   calc AA (AA (AS h₃ (λx s₄ h₄=>AA (AS h₄ (λ_ s₅ h₅=>AB (AB ⟨rfl,h₅⟩)) λ_ _ h'=>h'.elim)) λ_ _ h'=>h'.elim))
def Vj
  (h0:codeAny (model prog w) A (.compLoop (BE elt t1 i1 f1 t2 i2 f2 scope pos) 1 it acc env) R s)
  (h:wpAny (model prog w) A (pyIter it) (λit' s'=>codeAny (model prog w) A (.compLoop (BE elt t1 i1 f1 t2 i2 f2 scope pos) 1 it' acc env) R s')
   (notedBy (model prog w) A env λx s'=>R (.error x) s') s) :
  codeAny (model prog w) A (.compStart (BE elt t1 i1 f1 t2 i2 f2 scope pos) 1 it acc env) R s:=by
 calc codeAny_of_tree ?_;show wpAny _ _ ((compStart (BE elt t1 i1 f1 t2 i2 f2 scope pos) 1 it acc env).onRaise (λx=>do noteFrame x env;standAt theWindowsPlace)) _ _ s;calc wpAny_notedAt ?_;erw[compStart];calc AA (wpAny_askSetting (wpAny_ite ?_));split
 .first
   |calc AA (AB (AB (And.intro rfl h0)))
   |exact AB (And.intro rfl h0)
 .first
   |exact AA (Bo (AA (Ce (AA (AS h (λit' s' h'=>AB (And.intro rfl h')) λ_ _ x=>x)))))
   | (calc AA (Bo ?_);show wpAny _ _ (standAt i2.pos >>= _) _ _ s;calc AA (Ce (AA (AS h (λit' s' h'=>AB (And.intro rfl h')) λ_ _ x=>x))))
def dG (hs2:∀ x,foldedSetIterable i2 env x=pure x) (I:Nat->Shared->Prop)
  (turn:∀ n s,I n s->wpAny (model prog w) A (pyNext it) (λr s₁=>match r with
   |none=>R (.ok .next) s₁
   |some v=>wpAny (model prog w) A (letOwnedTupleGo t1 it v) (λ_ s₁'=>wpAny (model prog w) A (assign t1 env v) (λ_ s₂=>
     wpAny (model prog w) A (forIn f1 true λc r=>if r=true then do let ok <- isTrue c env (eval c env);pure (ForInStep.yield ok) else pure (ForInStep.yield r)) (λok s₃=>
      if ok=true then wpAny (model prog w) A (eval i2 env) (λx s₄=>wpAny (model prog w) A (pyIter x) (λit2 s₅=>
       codeAny (model prog w) A (.compStart (BE elt t1 i1 f1 t2 i2 f2 scope pos) 1 it2 acc env) (λr s₆=>r=.ok .next /\ ∃ m,m<n/\I m s₆) s₅) (λ_ _=>False) s₄) (λ_ _=>False) s₃
      else ∃ m,m<n/\I m s₃) (λ_ _=>False) s₂) (λ_ _=>False) s₁') (λ_ _=>False) s₁) (λ_ _=>False) s)
  (n:Nat) (h:I n s) :
  codeAny (model prog w) A (.compLoop (BE elt t1 i1 f1 t2 i2 f2 scope pos) 0 it acc env) R s:=by
 refine codeAny_loop rfl I (λn s hI=>?_) n h;show wpAny _ A ((compTurn (BE elt t1 i1 f1 t2 i2 f2 scope pos) 0 it acc env).onRaise (λx=>do noteFrame x env;theTreesLotGoes x)) _ _ s;calc wpAny_noted ?_;rw[Te];refine AA (Ce (AA (AS (turn n s hI) (λr s₁ h₁=>?_) λ_ _ h'=>h'.elim)));cases r with
 |none=>calc AB h₁
 |some v=>
  refine AA (AS h₁ (λ_ s₁' h₁'=>?_) λ_ _ h'=>h'.elim);refine AA (AS h₁' (λ_ s₂ h₂=>AA (AS h₂ (λok s₃ h₃=>?_) λ_ _ h'=>h'.elim)) λ_ _ h'=>h'.elim);cases ok with
  |false=>calc AB ⟨rfl,h₃⟩
  |true=>
   refine AA (AS h₃ (λx s₄ h₄=>AA (Ce (AA (wpAny_of_eq (hs2 x) (AA (A6 (AS h₄ (λit2 s₅ h₅=>?_) λ_ _ h'=>h'.elim))))))) λ_ _ h'=>h'.elim);refine AA (wpAny_runOwn (codeAny_mono h₅ λr s₆ hr=>?_));let⟨rfl,hr⟩:=hr;calc AB ⟨rfl,hr⟩
def tIn (own2:Yj) (wi2:TI) (g2:TG) (tc2:TT) (te:TE) (σ2:St) (H3:Hp) (ys:List V) (QQ:List V->Hp->Prop):Prop :=
 wi2 σ2 H3 λJ2 H4=>∃ W2:Nat->Nat->List V->Hp->Prop,(∃ m,W2 0 m ys H4) /\ ∀ j m zs H,W2 j m zs H ->
  (J2.stop j H/\QQ zs H) \/
  (J2.go j H /\ ∀ x H',J2.yld j H x H'->g2 x (clr own2 σ2) H' λσ3 H5=>Ext (clr own2 σ2) σ3/\tc2 σ3 H5 λb H6=>
   if b=true then te σ3 H6 λv H7=>zs.length<sizeLine /\ ∃ m',m'<m/\W2 (j+1) m' (zs++[v]) H7 else ∃ m',m'<m/\W2 (j+1) m' zs H6)
section
variable {D:Yt}
 {own2:Yj} {wi2:TI} {g2:TG} {tc2:TT} {te:TE} {R:Yx}
def Se (hxe:C.xe=λ_ _=>False) (hcalm:C.calm=true) (hi:PI C t2 i2 wi2) (hg:PG C t2 g2) (hc:DF C f2 tc2) (he:PE C elt te) (hD:⇑C.s₀<=D)
  (hcD:∀ x c,C.env.cells.lookup x=some c->c≠D) (hpl:∀ p∈C.pn++pl,p.1≠D) (I:Inv C (pl++[(D,zY its k)]) Y H s) (rv:zU ys its) (h:tIn own2 wi2 g2 tc2 te Y H ys QQ)
  (fin:∀ s' H' its' k' zs,Inv C (pl++[(D,zY its' k')]) (clr own2 Y) H' s'->zU zs its'->QQ zs H'->R (.ok .next) s') :
  wpAny (model C.prog C.w) C.A (eval i2 C.env) (λx s₄=>wpAny (model C.prog C.w) C.A (pyIter x) (λit2 s₅=>
   codeAny (model C.prog C.w) C.A (.compStart (BE elt t1 i1 f1 t2 i2 f2 scope pos) 1 it2 (.ref D) C.env) R s₅) (λ_ _=>False) s₄) (λ_ _=>False) s:=by
 let hpi:=hi _ s Y H _ I h;rw[hxe]at hpi;refine thn hpi λv s1 h1=>thn h1 λitv s2 h2=>?_;let⟨it,fp,tn,J,H2,e,I2,T,st2,f2',W,⟨m0,w0⟩,turn⟩:=h2;subst e;let hDfp:D∉fp:=λz=>(f2' D z).2.2.2.2.2 (D,zY its k) (by simp) rfl;let loop:∀ s',(∃ H',Inv C (pl++[(D,zY its k)]) (clr own2 Y) H' s'/\tn 0 s'.heap/\(∀ b∈fp,H' b=none)/\W 0 m0 ys H')->codeAny (model C.prog C.w) C.A (.compLoop (BE elt t1 i1 f1 t2 i2 f2 scope pos) 1 (.ref it) (.ref D) C.env) R s':=by
  rintro s' ⟨H',I',st',hn',w'⟩;let fpk:∀ {H':Hp} {its:Yf} {k:Nat},(∀ b∈fp,H' b=none) -> ∀ b∈fp,BL C (pl++[(D,zY its k)]) H' b:=λ{H' its k} hn b hb=>by
   let⟨_,a2,a3,a4,a5,a6⟩:=f2' b hb;refine ⟨hn b hb,a2,a3,a4,a5,λp hp=>?_⟩;rcases Au.mp hp with z|z
   .exact a6 p (Bi _ z)
   .rcases Au.mp z with z|z
    .exact a6 p (Af _ (Bi _ z))
    .have:p=(D,zY its k):=by simpa using z
     rw[this];intro q;let q':D=b:=q;exact hDfp (q'▸hb)
  refine Ut (λn s'=>∃ i H' ys its k,Inv C (pl++[(D,zY its k)]) (clr own2 Y) H' s'/\zU ys its/\tn i s'.heap/\(∀ b∈fp,H' b=none)/\W i n ys H') ?_ m0 ⟨0,H',ys,its,k,I',rv,st',hn',w'⟩;rintro n s5 ⟨i,H5,ys,its,k,I5,r5,st5,f5,w5⟩;rcases turn i n ys H5 w5 with ⟨stop,qq⟩|⟨go,step⟩
  .refine thn (T.done C rfl rfl rfl hcalm i _ s5 _ H5 _ I5 (fpk f5) st5 stop) λr s6 ⟨hr,I6⟩=>?_;subst hr;exact fin s6 H5 its k ys I6 r5 qq
  .refine thn (T.item C rfl rfl rfl hcalm i _ s5 _ H5 _ I5 (fpk f5) st5 go) λr s6 ⟨u,hr,h6⟩=>?_;subst hr;refine thn h6 λ_ s7 ⟨x,H7,I7,r7,y7,st7,f7⟩=>?_;let I7':=I7.pinned (fpk f7) (T.obj _ _ st7);let hgg:=hg _ s7 _ H7 x u _ I7' r7 (step x H7 y7);rw[hxe]at hgg;refine thn hgg λ_ s8 ⟨σ8,H8,I8,x8,q8⟩=>?_;let hcc:=hc _ s8 σ8 H8 _ I8 q8;rw[hxe]at hcc;refine thn hcc λok s9 ⟨H9,I9,q9⟩=>?_;let back:∀ {s':Yl} {Hx:Hp},Inv C ((pl++[(D,zY its k)])++Dt fp s7.heap) σ8 Hx s'->tn (i+1) s'.heap /\ ∀ b∈fp,Hx b=none:=λ{s' Hx} Ix=>
    ⟨T.keep _ _ _ st7 λb hb o e=>(Ix.pin (b,o) (Af _ (Af _ (DB hb e)))).1,λb hb=>by
     let⟨o,e,d⟩:=T.obj _ _ st7 b hb;calc (Ix.pin (b,o) (Af _ (Af _ (DB hb e)))).2.1⟩
   cases ok with
   |false=>
    let⟨m',hm,w'⟩:=q9;let⟨b1,b2⟩:=back I9;calc ⟨m',hm,i+1,H9,ys,its,k,(I9.weak (by rw[x8.1]) x8.2).unpinned,r5,b1,b2,w'⟩
   |true=>
    let hee:=he _ s9 σ8 H9 _ I9 q9;rw[hxe]at hee;refine thn hee λv s10 ⟨y,H10,I10,r10,hlt,m',hm,w'⟩=>?_;let⟨b1,b2⟩:=back I10;let J10:=(I10.weak (by rw[x8.1]) x8.2).unpinned;let⟨e10,n10,ne10,nf10,d10⟩:=J10.pin (D,zY its k) (by simp);let hlen:its.toArray.size<=sizeLine:=by
     have:=r5.length;rw[AX,<-this];exact De hlt
    refine wpAny_list_append_plain (show s10.heap.PlainList D its.toArray from ⟨k,e10⟩) λh' hl' hs'=>?_;let⟨k',e'⟩:=hl';let e'':h'.get? D=some (zY (its++[v]) k'):=by rw[e'];simp[zY]
    refine ⟨m',hm,i+1,H10,ys++[y],its++[v],k',?_,r5.append (.cons r10 .nil),T.keep _ _ _ b1 λb hb o e=>hs'.extBut b o (λz=>hDfp (z▸hb)) e,b2,w'⟩;exact Inv.repin J10 hpl hs' hD hcD e'' (by intro v z;ext z)
 let l0:=loop s2 ⟨H2,I2.weak (FP own2 Y) (λi v h=>(E4 own2 Y i v h).1),st2,λb hb=>(f2' b hb).1,w0⟩;calc Vj l0 (T.self _ 0 _ _ _ st2 l0)
end
section
variable {pos:Pos}
 {own own2:Yj} {g g2:TG} {tc tc2:TT} {te:TE} {wi wi2:TI} {E:Yc}
theorem N1:∀ (own:Yj) (Y:St) (j:Nat),j∉own->(clr own Y)[j]?=Y[j]?
 |[],_,_,_=>rfl
 |i::r,Y,j,h=>by
  show (clr r (Y.set i none))[j]?=_;rw[N1 r _ j (λz=>h (AQ _ z)),Bz (λz=>h (by rw[z];calc AM))]
def OY (hsub:∀ i∈own2,i∈own) (C:CompIn X scope own) (hcalm:X.calm=true) (I:Inv X zB Y H s) (T:Turn X.prog X.w X.K t1 J fp it tn) (st:tn 0 s.heap) (hf:∀ b∈fp,BL X zB H b)
  (c1:∀ x c,cl.lookup x=some c->X.env.cells.lookup x=some c) (c2:∀ y∈scope.names,y.2=.free->(cl.lookup y.1).isSome=true)
  (hg:PG (zG X zB scope cl s H fp) t1 g) (hi:DF (zG X zB scope cl s H fp) f1 tc)
  (hi2:PI (zG X zB scope cl s H fp) t2 i2 wi2) (hg2:PG (zG X zB scope cl s H fp) t2 g2) (hc2:DF (zG X zB scope cl s H fp) f2 tc2) (he:PE (zG X zB scope cl s H fp) elt te)
  (hs2:∀ x,foldedSetIterable i2 (zG X zB scope cl s H fp).env x=pure x)
  {RR:Value->Addr->Result->Shared->Prop} {QQ:List V->Hp->Prop} {W:Nat->Nat->List V->Hp->Prop} {m0:Nat} (w0:W 0 m0 [] H)
  (turn:∀ i m ys H,W i m ys H->(J.stop i H/\ys.length<=sizeLine/\QQ ys H) \/
   (J.go i H /\ ∀ x H',J.yld i H x H'->g x (clr own Y) H' λσ2 H2=>Ext (clr own Y) σ2/\tc σ2 H2 λb H3=>
    if b=true then tIn own2 wi2 g2 tc2 te σ2 H3 ys λzs H4=>∃ m',m'<m/\W (i+1) m' zs H4 else ∃ m',m'<m/\W (i+1) m' ys H3))
  (fin:∀ σc H' s' its n ys,Inv (zG X zB scope cl s H fp) [(⇑s,zY its n)] σc H' s'->zU ys its->ys.length<=sizeLine->QQ ys H'->RR (.ref ⇑s) (⇑s+1) (.ok .next) s') :
  wpAny (model X.prog X.w) X.A (newList []) (λacc s₃=>wpAny (model X.prog X.w) X.A (newFunctionEnv scope X.env.globals cl [] X.env.qual none .none (some X.env)) (λcenv s₄=>
   codeAny (model X.prog X.w) X.A (.compStart (BE elt t1 i1 f1 t2 i2 f2 scope pos) 0 (.ref it) acc { cenv with scope:=relabel scope X.env }) (RR acc cenv.locals) s₄) E s₃) E s:=by
 let ob:∀ b:Nat,b∈fp->b<⇑s:=λb hb=>let ⟨_,e,_⟩:=T.obj 0 _ st b hb;AG e;refine Ao (JP ?_);let sz1:(s.heap.push (zY [] 0)).objs.size=⇑s+1:=Ax ..;let I4:=Ju C.sc I hf ob c1 c2 (FP own Y) (λi x v h1 h2 h3=>by
  let⟨a,b⟩:=E4 own Y i v h2;rcases C.nm i x h1 with z|z|z
  .exact absurd z b
  .exact absurd (Ij x z) h3
  .exact ⟨z,a⟩) (zY [] 0) (by intro v z;ext z) rfl rfl
 let st4:tn 0 (pushCells ((s.heap.push (zY [] 0)).push { cls:=.type "dict", data:=.dict #[] }) scope.names):=T.keep 0 _ _ st λb _ o e=>pushCells_keeps _ _ b o (AH _ (AH _ e));erw[newEnv];rw[sz1];let hDfp:⇑s∉fp:=λz=>BK _ (ob _ z);let hcD:∀ x c,(zG X zB scope cl s H fp).env.cells.lookup x=some c->c≠⇑s:=λx c e z=>by
  let⟨v,o,ho,hd⟩:=I4.cell x c e;let⟨q,_⟩:=I4.pin (⇑s,zY [] 0) (by simp);rw[z,q]at ho;ext ho;ext hd
 let fpk:∀ {H':Hp} {pl:Yd},(∀ b∈fp,H' b=none)->(∀ p∈pl,p.1=⇑s) -> ∀ b∈fp,BL (zG X zB scope cl s H fp) pl H' b:=λ{H' pl} hn hp b hb=>
  ⟨hn b hb,(I4.ok.exf b hb).1,I4.ok.exfs b hb,.inl hb,(I4.ok.exf b hb).2,λp hq=>by
   rcases Au.mp hq with z|z
   .exact (hf b hb).2.2.2.2.2 p z
   .intro e;let e2:=hp p z;rw[e]at e2;calc hDfp (e2▸hb)⟩
 let loop:codeAny (model X.prog X.w) X.A (.compLoop (BE elt t1 i1 f1 t2 i2 f2 scope pos) 0 (.ref it) (.ref ⇑s) (zG X zB scope cl s H fp).env) (RR (.ref ⇑s) (⇑s+1))
   { s with heap:=pushCells ((s.heap.push (zY [] 0)).push { cls:=.type "dict", data:=.dict #[] }) scope.names }:=by
  refine dG hs2 (λn s'=>∃ i H' ys its k,Inv (zG X zB scope cl s H fp) [(⇑s,zY its k)] (clr own Y) H' s'/\zU ys its/\tn i s'.heap/\(∀ b∈fp,H' b=none)/\W i n ys H') ?_ m0
   ⟨0,H,[],[],0,I4,.nil,st4,λb hb=>(hf b hb).1,w0⟩
  rintro n s5 ⟨i,H5,ys,its,k,I5,r5,st5,f5,w5⟩;let pinD:∀ p∈[(⇑s,zY its k)],p.1=⇑s:=λp hp=>by
   have:p=(⇑s,zY its k):=by simpa using hp
   rw[this]
  rcases turn i n ys H5 w5 with ⟨stop,hz,qq⟩|⟨go,step⟩
  .refine thn (T.done (zG X zB scope cl s H fp) rfl rfl rfl hcalm i _ s5 _ H5 _ I5 (fpk f5 pinD) st5 stop) λr s6 ⟨hr,I6⟩=>?_;subst hr;exact fin _ H5 s6 its k ys I6 r5 hz qq
  .refine thn (T.item (zG X zB scope cl s H fp) rfl rfl rfl hcalm i _ s5 _ H5 _ I5 (fpk f5 pinD) st5 go) λr s6 ⟨u,hr,h6⟩=>?_;subst hr;refine thn h6 λ_ s7 ⟨x,H7,I7,r7,y7,st7,f7⟩=>?_;let I7':=I7.pinned (fpk f7 pinD) (T.obj _ _ st7);refine thn (hg _ s7 _ H7 x u _ I7' r7 (step x H7 y7)) λ_ s8 ⟨σ8,H8,I8,x8,q8⟩=>?_;refine thn (hi _ s8 σ8 H8 _ I8 q8) λok s9 ⟨H9,I9,q9⟩=>?_;let back:∀ {σx:St} {s':Yl} {Hx:Hp} {its:Yf} {k:Nat},(clr own Y).length=σx.length->(∀ (i:Nat) v,(clr own Y)[i]?=some (some v)->σx[i]?=some (some v))->Inv (zG X zB scope cl s H fp) (Dt fp s7.heap++[(⇑s,zY its k)]) σx Hx s'->Inv (zG X zB scope cl s H fp) [(⇑s,zY its k)] (clr own Y) Hx s'/\tn (i+1) s'.heap /\ ∀ b∈fp,Hx b=none:=λ{σx s' Hx its k} hl hk Ix=>
    ⟨(Ix.weak hl hk).pins_of λp hp=>Ix.pin p (Af _ (Af _ hp)),
     T.keep _ _ _ st7 λb hb o e=>(Ix.pin (b,o) (Af _ (Bi _ (DB hb e)))).1,λb hb=>by
     let⟨o,e,d⟩:=T.obj _ _ st7 b hb;calc (Ix.pin (b,o) (Af _ (Bi _ (DB hb e)))).2.1⟩
   let I9':Inv (zG X zB scope cl s H fp) (Dt fp s7.heap++[(⇑s,zY its k)]) σ8 H9 s9:=I9.pins_of λp hp=>I9.pin p (Af _ (by
    rcases Au.mp hp with z|z
    .exact Af _ z
    .exact Bi _ z))
   cases ok with
   |false=>
    let⟨m',hm,w'⟩:=q9;let⟨b0,b1,b2⟩:=back (by rw[x8.1]) x8.2 I9';calc ⟨m',hm,i+1,H9,ys,its,k,b0,r5,b1,b2,w'⟩
   |true=>
    refine Se (C:=zG X zB scope cl s H fp) rfl hcalm hi2 hg2 hc2 he (AF _) hcD (λp hp=>?_) I9' r5 q9 λs' H' its' k' zs I' rv' q'=>?_
    .rcases Au.mp hp with z|z
     .exact AU (AG (I.pin p z).1)
     .obtain ⟨hb,_⟩:=QP z;exact AU (ob _ hb)
    .obtain ⟨m',hm,w'⟩:=q';let⟨b0,b1,b2⟩:=back (by rw[FP own2,x8.1]) (λi v hv=>by rw[N1 own2 _ i (λz=>(E4 own Y i v hv).2 (hsub i z))];calc x8.2 i v hv) I';exact ⟨rfl,m',hm,i+1,H',zs,its',k',b0,rv',b1,b2,w'⟩
 calc codeAny_compStart_list loop (T.self _ 0 _ _ _ st4 loop)
def Le (own own2:Yj) (wi:TI) (g:TG) (tc:TT) (wi2:TI) (g2:TG) (tc2:TT) (te:TE):TE:=λY H Q=>wi Y H λJ H1=>∃ W:Nat->Nat->List V->Hp->Prop,(∃ m,W 0 m [] H1) /\ ∀ i m ys H,W i m ys H ->
 (J.stop i H/\ys.length<=sizeLine /\ ∀ D,H D=none->Q (.ref D) (upd H D (.lst ys))) \/
 (J.go i H /\ ∀ x H',J.yld i H x H'->g x (clr own Y) H' λσ2 H2=>Ext (clr own Y) σ2/\tc σ2 H2 λb H3=>
  if b=true then tIn own2 wi2 g2 tc2 te σ2 H3 ys λzs H4=>∃ m',m'<m/\W (i+1) m' zs H4 else ∃ m',m'<m/\W (i+1) m' ys H3)
structure CompParts2 (X:Cx) (scope:Y0) (t1:Expr) (f1:Yi) (t2 i2:Expr) (f2:Yi) (elt:Expr) (g:TG) (tc:TT) (wi2:TI) (g2:TG) (tc2:TT) (te:TE):Prop where
 g:∀ zB cl s H fp,PG (zG X zB scope cl s H fp) t1 g
 c:∀ zB cl s H fp,DF (zG X zB scope cl s H fp) f1 tc
 w2:∀ zB cl s H fp,PI (zG X zB scope cl s H fp) t2 i2 wi2
 g2:∀ zB cl s H fp,PG (zG X zB scope cl s H fp) t2 g2
 c2:∀ zB cl s H fp,DF (zG X zB scope cl s H fp) f2 tc2
 e:∀ zB cl s H fp,PE (zG X zB scope cl s H fp) elt te
 s2:∀ zB cl s H fp x,foldedSetIterable i2 (zG X zB scope cl s H fp).env x=pure x
def cD (hsub:∀ i∈own2,i∈own) (C:CompIn X scope own) (hcalm:X.calm=true) (hi:PI X t1 i1 wi) (p:CompParts2 X scope t1 f1 t2 i2 f2 elt g tc wi2 g2 tc2 te) (hs:∀ x,foldedSetIterable i1 X.env x=pure x:=by intro _;rfl) :
  PE X (BE elt t1 i1 f1 t2 i2 f2 scope pos) (Le own own2 wi g tc wi2 g2 tc2 te):=by
 intro zB s Y H Q I h;let⟨cl,hcl,c1,c2⟩:=C.sc.closure I;rw[eval_ListComp];refine GP rfl hs hcl C.sc.kind C.sc.names (thn (hi zB s Y H _ I h) λv s1 h1=>thn h1 λitv s2 h2=>?_);let⟨it,fp,tn,J,H2,e,I2,T,st2,f2,W,⟨m0,w0⟩,turn⟩:=h2;subst e;calc OY hsub C hcalm I2 T st2 f2 c1 c2 (p.g _ _ _ _ _) (p.c _ _ _ _ _) (p.w2 _ _ _ _ _) (p.g2 _ _ _ _ _) (p.c2 _ _ _ _ _) (p.e _ _ _ _ _) (p.s2 _ _ _ _ _) w0 turn ?_;intro σc H' s' its n ys Ic rv hz qq;let⟨m,hn,_⟩:=Ic.loc;refine ⟨m,hn,λh' hs'=>?_⟩;let⟨J',nD⟩:=JJ I2 f2 Ic rv hz hs';calc ⟨.ref ⇑s2,_,J',rfl,qq _ nD⟩
end
end L2
namespace L3
open L2
abbrev Sv:=List (Option V)
def Hs (H:Hp) (v:Yu):Prop:=∃ a oc vs q t,v=.ref a/\H a=some (.frz oc (.ext λ_=>True))/\oc.data=.fields vs/\vs[1]?=some (.str q t)
structure Lm where
 f:Addr
 c:Value
 us:List V
set_option genInjectivity true in
inductive D where
 |non|bl (b:Bool)|int (i:Int)|str (x:Str)|tup (xs:List D)|ref (n:Nat)|fn (l:Lm) (ds:List D)
set_option genInjectivity true in
inductive MO where
 |lst (xs:List D)|fro (xs:List D)|dict (kvs:List (D × D))|dicT (kvs:List (D × D))|set (xs:List D)|froT (kvs:List (D × D))|froK (kvs:List (D × D))
mutual
def Rep (L:Yg) (H:Hp):D->V->Prop
 |.non,v=>v=.non
 |.bl b,v=>v=.bl b
 |.int i,v=>v=.int i
 |.str x,v=>v=.str x
 |.tup ds,v=>∃ a vs,v=.ref a/\H a=some (.tup vs)/\zE L H ds vs
 |.ref n,v=>∃ a,v=.ref a/\L[n]?=some a
 |.fn l ds,v=>v=.ref l.f/\Hs H l.c/\zE L H ds l.us
def zE (L:Yg) (H:Hp):List D->List V->Prop
 |[],vs=>vs=[]
 |d::ds,vs=>∃ v r,vs=v::r/\Rep L H d v/\zE L H ds r
end
def zE.length:∀ {ds:List D} {vs:List V},zE L H ds vs->vs.length=ds.length
 |[],_,h=>by erw[zE]at h;subst h;rfl
 |d::ds,_,h=>by
  erw[zE]at h;let⟨v,r,rfl,_,h2⟩:=h;simp[zE.length h2]
def zE.nil:zE L H [] []:=by erw[zE];rfl
def zE.cons (h:Rep L H d v) (t:zE L H ds vs):zE L H (d::ds) (v::vs):=by
 erw[zE];calc ⟨v,vs,rfl,h,t⟩
def zE.get:∀ {ds:List D} {vs:List V} {i:Nat} {d:D},zE L H ds vs->ds[i]?=some d -> ∃ v,vs[i]?=some v/\Rep L H d v
 |[],_,_,_,_,e=>by simp at e
 |d::ds,_,0,d',h,e=>by
  erw[zE]at h;let⟨v,r,rfl,h1,h2⟩:=h;simp at e;subst e;calc ⟨v,rfl,h1⟩
 |d::ds,_,i+1,d',h,e=>by
  erw[zE]at h;let⟨v,r,rfl,h1,h2⟩:=h;let⟨u,e1,e2⟩:=zE.get (i:=i) h2 (~~~e);calc ⟨u,by simpa using e1,e2⟩
def zE.app:∀ {ds es:List D} {vs ws:List V},zE L H ds vs->zE L H es ws->zE L H (ds++es) (vs++ws)
 |[],_,_,_,h,t=>by erw[zE]at h;subst h;calc t
 |d::ds,_,_,_,h,t=>by
  erw[zE]at h;let⟨v,r,rfl,h1,h2⟩:=h;calc .cons h1 (zE.app h2 t)
def zE.set (h:Rep L H d v):∀ {ds:List D} {vs:List V} (i:Nat),zE L H ds vs->zE L H (ds.set i d) (vs.set i v)
 |[],_,_,t=>by erw[zE]at t;subst t;calc .nil
 |_::_,_,0,t=>by
  erw[zE]at t;let⟨v',r,rfl,h1,h2⟩:=t;calc .cons h h2
 |_::_,_,i+1,t=>by
  erw[zE]at t;let⟨v',r,rfl,h1,h2⟩:=t;calc .cons h1 (zE.set h i h2)
def zE.drop:∀ {ds:List D} {vs:List V} (n:Nat),zE L H ds vs->zE L H (ds.drop n) (vs.drop n)
 |_,_,0,t=>t
 |[],_,n+1,t=>by erw[zE]at t;subst t;calc .nil
 |_::_,_,n+1,t=>by
  erw[zE]at t;let⟨v',r,rfl,h1,h2⟩:=t;calc zE.drop n h2
def zE.take:∀ {ds:List D} {vs:List V} (n:Nat),zE L H ds vs->zE L H (ds.take n) (vs.take n)
 |_,_,0,t=> .nil
 |[],_,n+1,t=>by erw[zE]at t;subst t;calc .nil
 |_::_,_,n+1,t=>by
  erw[zE]at t;let⟨v',r,rfl,h1,h2⟩:=t;calc .cons h1 (zE.take n h2)
def zE.eraseIdx:∀ {ds:List D} {vs:List V} (n:Nat),zE L H ds vs->zE L H (ds.eraseIdx n) (vs.eraseIdx n)
 |[],_,n,t=>by erw[zE]at t;subst t;calc .nil
 |_::_,_,0,t=>by
  erw[zE]at t;let⟨v',r,rfl,h1,h2⟩:=t;calc h2
 |_::_,_,n+1,t=>by
  erw[zE]at t;let⟨v',r,rfl,h1,h2⟩:=t;calc .cons h1 (zE.eraseIdx n h2)
def Hs.keep (h:∀ a o u,H a=some (.frz o u)->H' a=some (.frz o u)) (x:Hs H v):Hs H' v :=
 let ⟨a,oc,vs,q,t,e1,e2,r⟩:=x;⟨a,oc,vs,q,t,e1,h _ _ _ e2,r⟩
def E1 (H:Hp) (ps:Yp):Prop:=PySem.TriplesOk ps.toList /\ ∀ pos v,codeAmong pos ps.toList=some v->Hs H v
def E1.keep (h:∀ a o u,H a=some (.frz o u)->H' a=some (.frz o u)) (g:E1 H ps):E1 H' ps :=
 ⟨g.1,λpos v e=>(g.2 pos v e).keep h⟩
abbrev NT (o:HO):Prop:=∀ ps,o≠.tbl ps
structure Stp (L:Yg) (H:Hp) (L':Yg) (H':Hp):Prop where
 pre:∃ N,L'=L++N
 new:∀ a∈L',a∈L\/H a=none
 old:∀ a o,H a=some o->a∉L->NT o->H' a=some o
 tup:∀ a xs,H a=some (.tup xs)->H' a=some (.tup xs)
 frz:∀ a o u,H a=some (.frz o u)->H' a=some (.frz o u)
 tbl:∀ a ps,H a=some (.tbl ps) -> ∃ ps',H' a=some (.tbl ps')/\(E1 H ps->E1 H' ps')
def Stp.refl (L:Yg) (H:Hp):Stp L H L H:=⟨⟨[],by simp⟩,λ_ h=> .inl h,λ_ _ h _ _=>h,λ_ _ h=>h,λ_ _ _ h=>h,λ_ ps h=>⟨ps,h,id⟩⟩
def JV (hf:∀ a o u,H a=some (.frz o u)->H' a=some (.frz o u)) (h:∀ a ps,H a=some (.tbl ps)->H' a=some (.tbl ps)) :
  ∀ a ps,H a=some (.tbl ps) -> ∃ ps',H' a=some (.tbl ps')/\(E1 H ps->E1 H' ps'):=λa ps e=>⟨ps,h a ps e,.keep hf⟩
def Stp.trans (a:Stp L H L1 H1) (b:Stp L1 H1 L2 H2):Stp L H L2 H2:=by
 let⟨N,rfl⟩:=a.pre;let⟨N',rfl⟩:=b.pre;let back:∀ c,c∉L->H1 c=none->H c=none:=λc hc h1=>by
  cases q:H c with
  |none=>rfl
  |some o=>
   by_cases z:NT o
   .rw[a.old c o q hc z]at h1;ext h1
   .obtain ⟨ps,z⟩:=Classical.not_forall.mp z;rw[Classical.not_not.mp z]at q;let⟨ps',e,_⟩:=a.tbl c ps q;rw[e]at h1;ext h1
 refine ⟨⟨N++N',by simp⟩,λc hc=>?_,λc o e hc nt=>?_,λc xs e=>b.tup c xs (a.tup c xs e),λc o u e=>b.frz c o u (a.frz c o u e),λc ps e=>?_⟩
 .by_cases hL:c∈L
  .exact .inl hL
  .rcases b.new c hc with z|z
   .exact a.new c z
   .exact .inr (back c hL z)
 .refine b.old c o (a.old c o e hc nt) (λz=>?_) nt;rcases a.new c z with q|q
  .exact hc q
  .rw[q]at e;ext e
 .obtain ⟨p1,e1,g1⟩:=a.tbl c ps e;let⟨p2,e2,g2⟩:=b.tbl c p1 e1;calc ⟨p2,e2,λg=>g2 (g1 g)⟩
def Stp.grow (h:∀ a o,H a=some o->H' a=some o):Stp L H L H':=⟨⟨[],by simp⟩,λ_ h=> .inl h,λa o e _ _=>h a o e,λa _ e=>h a _ e,λa _ _ e=>h a _ e,JV (λa _ _ e=>h a _ e) λa _ e=>h a _ e⟩
def Stp.bare (s:Stp [] H N H'):Stp L H L H':=⟨⟨[],by simp⟩,λ_ h=> .inl h,λa o e _ nt=>s.old a o e (by simp) nt,s.tup,s.frz,s.tbl⟩
theorem Stp.upd (h:H p=none):Stp L H L (upd H p o):=.grow λa u e=>by rw[zS (DO e h)];calc e
def G4 {L N:Yg} {n:Nat} {a:Yt} (h:L[n]?=some a):(L++N)[n]?=some a:=by
 rw[BV (AY.mp h).1];calc h
mutual
theorem Rep.stp {L L':Yg} {H H':Hp} (s:Stp L H L' H'):∀ {d:D} {v:V},Rep L H d v->Rep L' H' d v
 |.non,_,h=>by unfold Rep at h ⊢;calc h
 |.bl _,_,h=>by unfold Rep at h ⊢;calc h
 |.int _,_,h=>by unfold Rep at h ⊢;calc h
 |.str _,_,h=>by unfold Rep at h ⊢;calc h
 |.tup ds,_,h=>by
  unfold Rep at h ⊢;let⟨a,vs,rfl,e,r⟩:=h;calc ⟨a,vs,rfl,s.tup a vs e,zE.stp s r⟩
 |.ref n,_,h=>by
  unfold Rep at h ⊢;let⟨a,rfl,e⟩:=h;let⟨N,rfl⟩:=s.pre;calc ⟨a,rfl,G4 e⟩
 |.fn _ ds,_,h=>by
  unfold Rep at h ⊢;calc ⟨h.1,h.2.1.keep s.frz,zE.stp s h.2.2⟩
theorem zE.stp (s:Stp L H L' H'):∀ {ds:List D} {vs:List V},zE L H ds vs->zE L' H' ds vs
 |[],_,h=>by unfold zE at h ⊢;calc h
 |d::ds,_,h=>by
  unfold zE at h ⊢;let⟨v,r,rfl,h1,h2⟩:=h;calc ⟨v,r,rfl,Rep.stp s h1,zE.stp s h2⟩
end
def Ak:D->Option Key
 |.int i=>some (.inl i)
 |.str x=>some (.inr x)
 |_=>none
def Dq:List D->Option (List Key)
 |[]=>some []
 |d::r=>match Ak d,Dq r with
  |some k,some ks=>some (k::ks)
  |_,_=>none
def tkD:D->Option (List Key)
 |.tup ds=>Dq ds
 |_=>none
def AO {κ:Type} (kf:D->Option κ) (L:Yg) (H:Hp):List (D × D)->List (κ × V)->Prop
 |[],vs=>vs=[]
 |p::r,vs=>∃ k v r',vs=(k,v)::r'/\kf p.1=some k/\Rep L H p.2 v/\AO kf L H r r'
def AO.stp {κ:Type} {kf:D->Option κ} {L L':Yg} {H H':Hp} (s:Stp L H L' H'):∀ {ps:List (D × D)} {vs:List (κ × V)},AO kf L H ps vs->AO kf L' H' ps vs
 |[],_,h=>h
 |p::r,_,h=>by
  let⟨k,v,r',rfl,e,h1,h2⟩:=h;calc ⟨k,v,r',rfl,e,h1.stp s,AO.stp s h2⟩
def AO.length {κ:Type} {kf:D->Option κ} {L:Yg} {H:Hp}:∀ {ps:List (D × D)} {vs:List (κ × V)},AO kf L H ps vs->vs.length=ps.length
 |[],_,h=>by erw[AO]at h;subst h;rfl
 |p::r,_,h=>by
  let⟨k,v,r',rfl,e,h1,h2⟩:=h;simp[AO.length h2]
def Cm (K:Yb) (L:Yg) (H:Hp) (a:Yt):MO->Prop
 |.lst xs=>∃ vs,H a=some (.lst vs)/\zE L H xs vs
 |.fro xs=>∃ o vs,H a=some (.frz o (.lst vs))/\zE L H xs vs
 |.dict ps=>∃ vs,H a=some (.dK vs)/\AO Ak L H ps vs
 |.dicT ps=>∃ vs,H a=some (.dT vs)/\AO tkD L H ps vs
 |.set _=>∃ o u,H a=some (.frz o u)
 |.froT ps=>∃ o vs,H a=some (.frz o (.dT vs))/\AO tkD L H ps vs
 |.froK ps=>∃ o vs,H a=some (.frz o (.dK vs))/\AO Ak L H ps vs
def Cm.there {K:Yb} {L:Yg} {H:Hp} {a:Yt} {m:MO} (h:Cm K L H a m):∃ o,H a=some o:=by
 cases m with
 |lst xs=>let⟨vs,e,_⟩:=h;calc ⟨_,e⟩
 |fro xs=>let⟨o,vs,e,_⟩:=h;calc ⟨_,e⟩
 |dict ps=>let⟨vs,e,_⟩:=h;calc ⟨_,e⟩
 |dicT ps=>let⟨vs,e,_⟩:=h;calc ⟨_,e⟩
 |set _=>let⟨o,u,e⟩:=h;calc ⟨_,e⟩
 |froT ps=>let⟨o,vs,e,_⟩:=h;calc ⟨_,e⟩
 |froK ps=>let⟨o,vs,e,_⟩:=h;calc ⟨_,e⟩
def Cm.stp {K:Yb} {L L':Yg} {H H':Hp} {a:Yt} {m:MO} (s:Stp L H L' H') (hk:∀ o,NT o->H a=some o->H' a=some o) (h:Cm K L H a m):Cm K L' H' a m:=by
 cases m with
 |lst xs=>let⟨vs,e,r⟩:=h;calc ⟨vs,hk _ (by intro _ z;ext z) e,r.stp s⟩
 |fro xs=>let⟨o,vs,e,r⟩:=h;calc ⟨o,vs,hk _ (by intro _ z;ext z) e,r.stp s⟩
 |dict ps=>let⟨vs,e,r⟩:=h;calc ⟨vs,hk _ (by intro _ z;ext z) e,r.stp s⟩
 |dicT ps=>let⟨vs,e,r⟩:=h;calc ⟨vs,hk _ (by intro _ z;ext z) e,r.stp s⟩
 |set _=>let⟨o,u,e⟩:=h;calc ⟨o,u,hk _ (by intro _ z;ext z) e⟩
 |froT ps=>let⟨o,vs,e,r⟩:=h;calc ⟨o,vs,hk _ (by intro _ z;ext z) e,r.stp s⟩
 |froK ps=>let⟨o,vs,e,r⟩:=h;calc ⟨o,vs,hk _ (by intro _ z;ext z) e,r.stp s⟩
def OR:List Str:=["levels", "least_word", "word_into", "shows_least", "shows_into"]
def Gu (K:Yb) (H:Hp):Prop:=∀ x∈OR,∀ c P,PySem.W.tabIn K x=some (c,P) -> ∃ ps,H P=some (.tbl ps)/\E1 H ps
def Gu.stp {K:Yb} {L L':Yg} {H H':Hp} (s:Stp L H L' H') (t:Gu K H):Gu K H':=λx hx c P e=>
 let ⟨ps,e1,g⟩:=t x hx c P e;let ⟨ps',e2,g2⟩:=s.tbl P ps e1
 ⟨ps',e2,g2 g⟩
structure Cor (K:Yb) (L:Yg) (M:List MO) (H:Hp):Prop where
 len:L.length=M.length
 nd:L.Nodup
 obj:∀ (n:Nat) a m,L[n]?=some a->M[n]?=some m->Cm K L H a m
 tab:Gu K H
def Ad (L:Yg) (H:Hp) (Y:List (Option D)) (τ:Sv):Prop:=τ.length=Y.length /\ ∀ (i:Nat) d,Y[i]?=some (some d) -> ∃ v,τ[i]?=some (some v)/\Rep L H d v
def Ad.stp (s:Stp L H L' H') (h:Ad L H Y τ):Ad L' H' Y τ :=
 ⟨h.1,λi d e=>let ⟨v,e1,r⟩:=h.2 i d e;⟨v,e1,r.stp s⟩⟩
def Cor.tracked {K:Yb} {L:Yg} {M:List MO} {H:Hp} (c:Cor K L M H) {a:Yt} (h:a∈L):∃ o,H a=some o:=by
 let⟨n,hn⟩:=List.getElem?_of_mem h;let hl:n<M.length:=by rw[<-c.len];exact (AY.mp hn).1
 let m:=c.obj n a M[n] hn (AL hl);calc m.there
def Cor.grow {K:Yb} {L:Yg} {M:List MO} {H H':Hp} (c:Cor K L M H) (h:∀ a o,H a=some o->H' a=some o):Cor K L M H':=by
 calc ⟨c.len,c.nd,λn a m e1 e2=>(c.obj n a m e1 e2).stp (.grow h) λo _ e=>h a o e,c.tab.stp (Stp.grow (L:=L) h)⟩
def Cor.bare {K:Yb} {L N:Yg} {M:List MO} {H H':Hp} (c:Cor K L M H) (s:Stp [] H N H'):Cor K L M H' :=
 ⟨c.len,c.nd,λn a m e1 e2=>(c.obj n a m e1 e2).stp s.bare λo nt e=>s.old a o e (by simp) nt,c.tab.stp s⟩
theorem Cor.upd {K:Yb} {L:Yg} {M:List MO} {H:Hp} {p:Yt} {o:HO} (c:Cor K L M H) (h:H p=none):Cor K L M (upd H p o):=c.grow λa u e=>by rw[zS (DO e h)];calc e
def Cor.write {K:Yb} {L:Yg} {M:List MO} {H:Hp} {n:Nat} {p:Yt} {xs xs':List D} {vs':List V} (c:Cor K L M H) (h1:L[n]?=some p) (h2:M[n]?=some (.lst xs)) (r:zE L H xs' vs') :
  Cor K L (M.set n (.lst xs')) (L2.upd H p (.lst vs'))/\Stp L H L (L2.upd H p (.lst vs')):=by
 let⟨vs,hp,_⟩:=c.obj n p _ h1 h2;let st:Stp L H L (L2.upd H p (.lst vs')):=by
  refine ⟨⟨[],by simp⟩,λa ha=> .inl ha,λa o e ha _=>?_,λa o e=>?_,λa o u e=>?_,JV (λa o u e=>?_) λa ps e=>?_⟩
  .rw[zS (show a≠p from λz=>ha (by rw[z];calc Bn h1))];exact e
  all_goals (rw[zS (Fz e hp (by intro z;ext z))];calc e)
 refine ⟨⟨by simp[c.len],c.nd,λk a m e1 e2=>?_,c.tab.stp st⟩,st⟩;rw[DA]at e2;cbv at e2
 .rename_i hk;subst hk;rw[h1]at e1;ext e1;cbv at e2
  .cases e2;exact ⟨vs',CH,r.stp st⟩
  .cases e2
 .rename_i hk;let hne:a≠p:=λz=>hk (by
   subst z;calc (List.getElem?_inj (AY.mp h1).1 c.nd).mp (h1.trans e1.symm))
  exact (c.obj k a m e1 e2).stp st λo _ e=>by rw[zS hne];exact e
set_option genInjectivity true in
inductive EV where
 |dat (d:D)|fl (xs:List D)
def zT (H0:Hp) (L:Yg) (H:Hp):EV->V->Prop
 |.dat d,v=>Rep L H d v
 |.fl xs,v=>∃ p vs,v=.ref p/\H0 p=none/\H p=some (.lst vs)/\p∉L/\zE L H xs vs
abbrev Sd:=List (Option D)
abbrev Mem:=List MO
abbrev FE:=Sd->Mem->Option (EV × Mem)
abbrev FD:=Sd->Mem->Option (D × Mem)
abbrev FT:=Sd->Mem->Option (Bool × Mem)
abbrev FA:=Sd->Mem->Option (List D × Mem)
def Stp.there {L L':Yg} {H H':Hp} (s:Stp L H L' H') {p:Yt} {o:HO} (h:H p=some o) (hp:p∉L):∃ o',H' p=some o':=by
  by_cases z:NT o
  .exact ⟨o,s.old p o h hp z⟩
  . let⟨ps,z⟩:=Classical.not_forall.mp z
    rw[Classical.not_not.mp z]at h;let⟨ps',e,_⟩:=s.tbl p ps h;calc ⟨_,e⟩
def Stp.out (s:Stp L H L' H') (h:H p=some o) (hp:p∉L):p∉L':=λz=>by
 rcases s.new p z with q|q
 .exact hp q
 .rw[h]at q;ext q
def zT.stp (s:Stp L H L' H') (h:zT H0 L H e v):zT H0 L' H' e v:=by
 cases e with
 |dat d=>calc Rep.stp s h
 |fl xs=>
  let⟨p,vs,rfl,e0,e1,e2,r⟩:=h;calc ⟨p,vs,rfl,e0,s.old p _ e1 e2 (by intro _ z;ext z),s.out e1 e2,r.stp s⟩
def zT.back {H0 H1:Hp} {L0 L1 L:Yg} {H:Hp} (s:Stp L0 H0 L1 H1) {M:List MO} {K:Yb} (c:Cor K L0 M H0) {e:EV} {v:V} (h:zT H1 L H e v) (hL:∀ a∈L1,a∈L):zT H0 L H e v:=by
 cases e with
 |dat d=>calc h
 |fl xs=>
  let⟨p,vs,rfl,e0,e1,e2,r⟩:=h;calc ⟨p,vs,rfl,?_,e1,e2,r⟩;cases q:H0 p with
  |none=>rfl
  |some o=>
   by_cases hp:p∈L0
   .obtain ⟨N,hN⟩:=s.pre;exact absurd (hL p (by rw[hN];calc Bi _ hp)) e2
   .obtain ⟨o',z⟩:=s.there q hp;rw[z]at e0;ext e0
section
variable (K:Yb)
def trE (f:FE):TE:=λτ H Q=>∃ L Y M d M',Cor K L M H/\Ad L H Y τ/\f Y M=some (d,M') /\ ∀ L' H' v,Stp L H L' H'->Cor K L' M' H'->zT H L' H' d v->Q v H'
def trD (f:FD):TE:=λτ H Q=>∃ L Y M d M',Cor K L M H/\Ad L H Y τ/\f Y M=some (d,M') /\ ∀ L' H' v,Stp L H L' H'->Cor K L' M' H'->Rep L' H' d v->Q v H'
def trT (f:FT):TT:=λτ H Q=>∃ L Y M d M',Cor K L M H/\Ad L H Y τ/\f Y M=some (d,M') /\ ∀ L' H',Stp L H L' H'->Cor K L' M' H'->Q d H'
def trA (f:FA):TA:=λτ H Q=>∃ L Y M ds M',Cor K L M H/\Ad L H Y τ/\f Y M=some (ds,M') /\ ∀ L' H' vs,Stp L H L' H'->Cor K L' M' H'->zE L' H' ds vs->Q vs H'
end
def mkE {K:Yb} {f:FE} {τ:Sv} {H:Hp} {Q:VK} {Y:Sd} {M M':Mem} {d:EV} (c:Cor K L M H) (r:Ad L H Y τ) (e:f Y M=some (d,M')) (q:∀ L' H' v,Stp L H L' H'->Cor K L' M' H'->zT H L' H' d v->Q v H'):trE K f τ H Q:=⟨_,_,_,_,_,c,r,e,q⟩
def mkD {K:Yb} {f:FD} {τ:Sv} {H:Hp} {Q:VK} {Y:Sd} {M M':Mem} {d:D} (c:Cor K L M H) (r:Ad L H Y τ) (e:f Y M=some (d,M')) (q:∀ L' H' v,Stp L H L' H'->Cor K L' M' H'->Rep L' H' d v->Q v H'):trD K f τ H Q:=⟨_,_,_,_,_,c,r,e,q⟩
def mkT {K:Yb} {f:FT} {τ:Sv} {H:Hp} {Q} {Y:Sd} {M M':Mem} {d} (c:Cor K L M H) (r:Ad L H Y τ) (e:f Y M=some (d,M')) (q:∀ L' H',Stp L H L' H'->Cor K L' M' H'->Q d H'):trT K f τ H Q:=⟨_,_,_,_,_,c,r,e,q⟩
def mkA {K:Yb} {f:FA} {τ:Sv} {H:Hp} {Q} {Y:Sd} {M M':Mem} {ds} (c:Cor K L M H) (r:Ad L H Y τ) (e:f Y M=some (ds,M')) (q:∀ L' H' vs,Stp L H L' H'->Cor K L' M' H'->zE L' H' ds vs->Q vs H'):trA K f τ H Q:=⟨_,_,_,_,_,c,r,e,q⟩
def PE.imp (h:PE X e t) (hi:∀ τ H Q,t' τ H Q->t τ H Q):PE X e t':=λzB s Y H Q I q=>h zB s Y H Q I (hi _ _ _ q)
def PT.imp (h:PT X e t) (hi:∀ τ H Q,t' τ H Q->t τ H Q):PT X e t':=λzB s Y H Q I q=>h zB s Y H Q I (hi _ _ _ q)
def PS.imp {st:Stmt} {t t':TS} (h:PS X st t) (hi:∀ D τ H,t' D τ H->t D τ H):PS X st t':=λzB s Y H D I q=>h zB s Y H D I (hi _ _ _ q)
def PSs.imp {st:Yy} {t t':TS} (h:PSs X st t) (hi:∀ D τ H,t' D τ H->t D τ H):PSs X st t':=λzB s Y H D I q=>h zB s Y H D I (hi _ _ _ q)
structure QE (X:Cx) (e:Expr) (f:FE):Prop where
 un:PE X e (trE X.K f)
structure QD (X:Cx) (e:Expr) (f:FD):Prop where
 un:PE X e (trD X.K f)
structure QT (X:Cx) (e:Expr) (f:FT):Prop where
 un:PT X e (trT X.K f)
structure QA (X:Cx) (es:Yi) (f:FA):Prop where
 un:PA X es (trA X.K f)
def toD (f:FE):FD:=λY M=>match f Y M with
 |some (.dat d,M')=>some (d,M')
 |some (.fl xs,M')=>some (.ref M'.length,M'++[.lst xs])
 |none=>none
mutual
theorem Rep.more (N:Yg):∀ {d:D} {v:V},Rep L H d v->Rep (L++N) H d v
 |.non,_,h=>by unfold Rep at h ⊢;calc h
 |.bl _,_,h=>by unfold Rep at h ⊢;calc h
 |.int _,_,h=>by unfold Rep at h ⊢;calc h
 |.str _,_,h=>by unfold Rep at h ⊢;calc h
 |.tup ds,_,h=>by
  unfold Rep at h ⊢;let⟨a,vs,rfl,e,r⟩:=h;calc ⟨a,vs,rfl,e,zE.more N r⟩
 |.ref n,_,h=>by
  unfold Rep at h ⊢;let⟨a,rfl,e⟩:=h;calc ⟨a,rfl,G4 e⟩
 |.fn _ ds,_,h=>by
  unfold Rep at h ⊢;calc ⟨h.1,h.2.1,zE.more N h.2.2⟩
theorem zE.more (N:Yg):∀ {ds:List D} {vs:List V},zE L H ds vs->zE (L++N) H ds vs
 |[],_,h=>by unfold zE at h ⊢;calc h
 |d::ds,_,h=>by
  unfold zE at h ⊢;let⟨v,r,rfl,h1,h2⟩:=h;calc ⟨v,r,rfl,Rep.more N h1,zE.more N h2⟩
end
def AO.more {κ:Type} {kf:D->Option κ} {L:Yg} {H:Hp} (N:Yg):∀ {ps:List (D × D)} {vs:List (κ × V)},AO kf L H ps vs->AO kf (L++N) H ps vs
 |[],_,h=>h
 |p::r,_,h=>by
  let⟨k,v,r',rfl,e,h1,h2⟩:=h;calc ⟨k,v,r',rfl,e,h1.more N,AO.more N h2⟩
def Cm.more {K:Yb} {L:Yg} {H:Hp} {a:Yt} {m:MO} (N:Yg) (h:Cm K L H a m):Cm K (L++N) H a m:=by
 cases m with
 |lst xs=>let⟨vs,e,r⟩:=h;calc ⟨vs,e,r.more N⟩
 |fro xs=>let⟨o,vs,e,r⟩:=h;calc ⟨o,vs,e,r.more N⟩
 |dict ps=>let⟨vs,e,r⟩:=h;calc ⟨vs,e,r.more N⟩
 |dicT ps=>let⟨vs,e,r⟩:=h;calc ⟨vs,e,r.more N⟩
 |set _=>calc h
 |froT ps=>let⟨o,vs,e,r⟩:=h;calc ⟨o,vs,e,r.more N⟩
 |froK ps=>let⟨o,vs,e,r⟩:=h;calc ⟨o,vs,e,r.more N⟩
def O7 {K:Yb} {L L':Yg} {M':List MO} {H H':Hp} {p:Yt} {xs:List D} {vs:List V} (s:Stp L H L' H') (c:Cor K L' M' H') (h0:H p=none) (h1:H' p=some (.lst vs)) (h2:p∉L') (r:zE L' H' xs vs) :
  Cor K (L'++[p]) (M'++[.lst xs]) H'/\Stp L H (L'++[p]) H':=by
 refine ⟨⟨by simp[c.len],?_,λn a m e1 e2=>?_,c.tab⟩,?_⟩
 .rw[EZ];exact ⟨c.nd,by simp,λa ha b hb z=>by
   have:b=p:=by simpa using hb
   subst this;subst z;calc h2 ha⟩
 .by_cases hn:n<L'.length
  .rw[BV hn]at e1;rw[BV (by rw[<-c.len];calc hn)]at e2;exact (c.obj n a m e1 e2).more [p]
  .have hn':n=L'.length:=by
    have:=(AY.mp e1).1;rw[Aw]at this;simp at this;omega
   subst hn';simp at e1;rw[c.len]at e2;simp at e2;subst e1;subst e2;exact ⟨vs,h1,r.more [p]⟩
 .obtain ⟨N,hN⟩:=s.pre;refine ⟨⟨N++[p],by rw[hN];simp⟩,λa ha=>?_,s.old,s.tup,s.frz,s.tbl⟩;rcases Au.mp ha with z|z
  .exact s.new a z
  .have:a=p:=by simpa using z
   subst this;calc .inr h0
def Rep.last {L:Yg} {M:List MO} {H:Hp} {K:Yb} {p:Yt} (c:Cor K L M H):Rep (L++[p]) H (.ref M.length) (.ref p):=by
 erw[Rep];calc ⟨p,rfl,by rw[<-c.len];simp⟩
def CZ {f:FE} (h:QE X e f):QD X e (toD f):=.mk <| PE.imp h.un λτ H Q zz=>by
 let⟨L,Y,M,d,M',c,rs,hf,q⟩:=zz;erw[toD]at hf;cbv at hf
 .rename_i d' M1 e1;ext hf;exact ⟨L,Y,M,_,_,c,rs,e1,λL' H' v s c' r=>q L' H' v s c' r⟩
 .rename_i xs M1 e1;ext hf;refine ⟨L,Y,M,_,_,c,rs,e1,λL' H' v s c' r=>?_⟩;let⟨p,vs,rfl,e0,e2,e3,r⟩:=r;let⟨c2,s2⟩:=O7 s c' e0 e2 e3 r;exact q _ H' _ s2 c2 (Rep.last c')
 .cases hf
def zC (i:Nat):FE:=λY M=>match Y[i]? with
 |some (some d)=>some (.dat d,M)
 |_=>none
def XI (h:PE X (.Name x pos) (K0 i)):QE X (.Name x pos) (zC i):=.mk <| PE.imp h λτ H Q zz=>by
 let⟨L,Y,M,d,M',c,rs,hf,q⟩:=zz;erw[zC]at hf;cbv at hf
 .rename_i d' e1;ext hf;let⟨v,e2,r⟩:=rs.2 i d' e1;exact ⟨v,e2,q L H v (.refl L H) c r⟩
 .cases hf
def fC (d:D):FE:=λ_ M=>some (.dat d,M)
def Qj (hd:∀ L H,Rep L H d v) (h:PE X e (tC v)):QE X e (fC d):=.mk <| PE.imp h λτ H Q zz=>by
 let⟨L,Y,M,d',M',c,rs,hf,q⟩:=zz;erw[fC]at hf;ext hf;calc q L H v (.refl L H) c (hd L H)
def aG {i j pos}:QE X (.Constant (.int i) j pos) (fC (.int i)):=Qj (λ_ _=>by erw[Rep];rfl) T8
def RS {b j pos}:QE X (.Constant (.bool b) j pos) (fC (.bl b)):=Qj (λ_ _=>by erw[Rep];rfl) XQ
def zR:FA:=λ_ M=>some ([],M)
def zD (f:FD) (g:FA):FA:=λY M=>match f Y M with
 |some (d,M1)=>match g Y M1 with
  |some (ds,M2)=>some (d::ds,M2)
  |none=>none
 |none=>none
def PA.imp (h:PA X es t) (hi:∀ τ H Q,t' τ H Q->t τ H Q):PA X es t':=λpos zB s Y H Q I q=>h pos zB s Y H Q I (hi _ _ _ q)
def Ot:QA X [] zR:=.mk <| PA.imp Hy λτ H Q zz=>by
 let⟨L,Y,M,d,M',c,rs,hf,q⟩:=zz;erw[zR]at hf;ext hf;calc q L H [] (.refl L H) c .nil
def Pq (h1:QD X e f) (h2:QA X es g) (hs:starEach (e::es) X.env=(false,eval e X.env)::starEach es X.env:=by rfl):QA X (e::es) (zD f g) :=
 .mk <| PA.imp (Gk h1.un h2.un hs) λτ H Q zz=>by
  let⟨L,Y,M,d,M',c,rs,hf,q⟩:=zz;erw[zD]at hf;cbv at hf
  .rename_i d1 M1 e1;cbv at hf
   .rename_i ds M2 e2;ext hf;refine ⟨L,Y,M,_,_,c,rs,e1,λL1 H1 v s1 c1 r1=>⟨L1,Y,M1,_,_,c1,rs.stp s1,e2,λL2 H2 vs s2 c2 r2=>?_⟩⟩;exact q L2 H2 _ (s1.trans s2) c2 (.cons (r1.stp s2) r2)
   .cases hf
  .cases hf
def Fd (g:FA):FE:=λY M=>match g Y M with
 |some (ds,M1)=>if ds.length<=sizeLine then some (.dat (.tup ds),M1) else none
 |none=>none
def By (g:FA):FE:=λY M=>match g Y M with
 |some (ds,M1)=>if ds.length<=sizeLine then some (.fl ds,M1) else none
 |none=>none
def Rep.newTup (h:H p=none) (r:zE L H ds vs):Rep L (upd H p (.tup vs)) (.tup ds) (.ref p):=by
 erw[Rep];calc ⟨p,vs,rfl,CH,r.stp (.upd h)⟩
def Tt {x1 pos} (h:QA X es g):QE X (.Tuple es x1 pos) (Fd g):=.mk <| PE.imp (Zu h.un) λτ H Q zz=>by
 let⟨L,Y,M,d,M',c,rs,hf,q⟩:=zz;erw[Fd]at hf;cbv at hf
 .rename_i ds M1 e1;cbv at hf
  .rename_i hz;ext hf;refine ⟨L,Y,M,_,_,c,rs,e1,λL1 H1 vs s1 c1 r1=>⟨by rw[r1.length];exact hz,λp hp=>?_⟩⟩;exact q L1 _ _ (s1.trans (.upd hp)) (c1.upd hp) (Rep.newTup hp r1)
  .cases hf
 .cases hf
def c6 {L L1:Yg} {H H1:Hp} {K:Yb} {M M1:List MO} (s:Stp L H L1 H1) (c:Cor K L M H) (c1:Cor K L1 M1 H1) {p:Yt} (hp:H1 p=none):H p=none/\p∉L1:=by
 let hp1:p∉L1:=λz=>by let⟨o,e⟩:=c1.tracked z;rw[hp]at e;ext e
 calc ⟨?_,hp1⟩;cases q:H p with
 |none=>rfl
 |some o=>
  have:p∉L:=λz=>hp1 (by let⟨N,hN⟩:=s.pre;rw[hN];calc Bi _ z);let⟨o',z⟩:=s.there q this;rw[z]at hp;ext hp
def zT.newLst {L L1:Yg} {H H1:Hp} {K:Yb} {M M1:List MO} {p:Yt} {ds:List D} {vs:List V} (s:Stp L H L1 H1) (c:Cor K L M H) (c1:Cor K L1 M1 H1) (hp:H1 p=none) (r:zE L1 H1 ds vs) :
  zT H L1 (upd H1 p (.lst vs)) (.fl ds) (.ref p):=by
 let⟨a,b⟩:=c6 s c c1 hp;calc ⟨p,vs,rfl,a,CH,b,r.stp (.upd hp)⟩
def d7 {pos} (h:QA X es g):QE X (.List es pos) (By g):=.mk <| PE.imp (dR h.un) λτ H Q zz=>by
 let⟨L,Y,M,d,M',c,rs,hf,q⟩:=zz;erw[By]at hf;cbv at hf
 .rename_i ds M1 e1;cbv at hf
  .rename_i hz;ext hf;refine ⟨L,Y,M,_,_,c,rs,e1,λL1 H1 vs s1 c1 r1=>⟨by rw[r1.length];exact hz,λp hp=>?_⟩⟩;exact q L1 _ _ (s1.trans (.upd hp)) (c1.upd hp) (zT.newLst s1 c c1 hp r1)
  .cases hf
 .cases hf
abbrev FAE:=Sd->Mem->Option (List EV × Mem)
def Ca (H0:Hp) (L:Yg) (H:Hp):List EV->List V->Prop
 |[],vs=>vs=[]
 |e::es,vs=>∃ v r,vs=v::r/\zT H0 L H e v/\Ca H0 L H es r
def Stp.sub (s:Stp L H L' H'):∀ a∈L,a∈L':=λa h=>by
 let⟨N,hN⟩:=s.pre;rw[hN];calc Bi _ h
def Ca.back {H0 H1:Hp} {L0 L1 L:Yg} {H:Hp} (s:Stp L0 H0 L1 H1) {M:List MO} {K:Yb} (c:Cor K L0 M H0) (hL:∀ a∈L1,a∈L):∀ {es:List EV} {vs:List V},Ca H1 L H es vs->Ca H0 L H es vs
 |[],_,h=>h
 |e::es,_,h=>by
  let⟨v,r,rfl,h1,h2⟩:=h;calc ⟨v,r,rfl,h1.back s c hL,Ca.back s c hL h2⟩
def Ob (K:Yb) (f:FAE):TA:=λτ H Q=>∃ L Y M ds M',Cor K L M H/\Ad L H Y τ/\f Y M=some (ds,M') /\ ∀ L' H' vs,Stp L H L' H'->Cor K L' M' H'->Ca H L' H' ds vs->Q vs H'
structure QAE (X:Cx) (es:Yi) (f:FAE):Prop where
 un:PA X es (Ob X.K f)
section
variable {X:Cx} {a b e:Expr} {es:Yi} {pos:Pos}
def za:FAE:=λ_ M=>some ([],M)
def zI (f:FE) (g:FAE):FAE:=λY M=>match f Y M with
 |some (d,M1)=>match g Y M1 with
  |some (ds,M2)=>some (d::ds,M2)
  |none=>none
 |none=>none
def gQ:QAE X [] za:=.mk <| PA.imp Hy λτ H Q zz=>by
 let⟨L,Y,M,d,M',c,rs,hf,q⟩:=zz;erw[za]at hf;ext hf;calc q L H [] (.refl L H) c rfl
def ZR (h1:QE X e f) (h2:QAE X es g) (hs:starEach (e::es) X.env=(false,eval e X.env)::starEach es X.env:=by rfl):QAE X (e::es) (zI f g) :=
 .mk <| PA.imp (Gk h1.un h2.un hs) λτ H Q zz=>by
  let⟨L,Y,M,d,M',c,rs,hf,q⟩:=zz;erw[zI]at hf;cbv at hf
  .rename_i d1 M1 e1;cbv at hf
   .rename_i ds M2 e2;ext hf;refine ⟨L,Y,M,_,_,c,rs,e1,λL1 H1 v s1 c1 r1=>⟨L1,Y,M1,_,_,c1,rs.stp s1,e2,λL2 H2 vs s2 c2 r2=>?_⟩⟩;exact q L2 H2 _ (s1.trans s2) c2 ⟨v,vs,rfl,r1.stp s2,r2.back s1 c s2.sub⟩
   .cases hf
  .cases hf
abbrev K2:=EV->EV->Mem->Option (EV × Mem)
def A9 (K:Yb) (r:R2) (k:K2):Prop:=∀ {L:Yg} {M M':Mem} {H H0:Hp} {x y d:EV} {v w:V} {Q:VK},Cor K L M H->zT H0 L H x v->zT H0 L H y w->k x y M=some (d,M') ->
 (∀ L' H' u,Stp L H L' H'->Cor K L' M' H'->zT H L' H' d u->Q u H')->r v w H Q
def fOp (k:K2) (f g:FE):FE:=λY M=>match f Y M with
 |some (x,M1)=>match g Y M1 with
  |some (y,M2)=>k x y M2
  |none=>none
 |none=>none
def F8 {K:Yb} {r:R2} {k:K2} {f g:FE} (hk:A9 K r k) {τ:Sv} {H:Hp} {Q:VK} (h:trE K (fOp k f g) τ H Q):tOp r (trE K f) (trE K g) τ H Q:=by
 let⟨L,Y,M,d,M',c,rs,hf,q⟩:=h;erw[fOp]at hf;cbv at hf
 .rename_i x M1 e1;cbv at hf
  .rename_i y M2 e2;refine (mkE c rs e1 (λL1 H1 v s1 c1 r1=>(mkE c1 (rs.stp s1) e2 (λL2 H2 w s2 c2 r2=>?_))));refine hk (H0:=H) c2 (r1.stp s2) (r2.back s1 c s2.sub) hf λL3 H3 u s3 c3 r3=>?_;exact q L3 H3 u ((s1.trans s2).trans s3) c3 (r3.back (s1.trans s2) c s3.sub)
  .cases hf
 .cases hf
def Gi (hk:A9 X.K r k) (ho:OpR X (binaryOp op) r) (h1:QE X a f) (h2:QE X b g):QE X (.BinOp a op b pos) (fOp k f g):=.mk <| PE.imp (YJ ho h1.un h2.un) λ_ _ _ h=>F8 hk h
def JB (hk:A9 X.K r k) (ho:OpR X (compareOp op) r) (h1:QE X a f) (h2:QE X b g) (hm:behindInMarks op b=false):QE X (.Compare a [op] [b] pos) (fOp k f g) :=
 .mk <| PE.imp (ZS ho h1.un h2.un hm) λ_ _ _ h=>F8 hk h
def tst (f:FE):FT:=λY M=>match f Y M with
 |some (.dat (.bl c),M')=>some (c,M')
 |_=>none
def Ky {K:Yb} {f:FE} {τ:Sv} {H:Hp} {Q:Bool->Hp->Prop} (h:trT K (tst f) τ H Q):Jr (trE K f) τ H Q:=by
 let⟨L,Y,M,d,M',c,rs,hf,q⟩:=h;erw[tst]at hf;cbv at hf
 .rename_i k M1 e1;ext hf;refine (mkE c rs e1 (λL1 H1 v s1 c1 r1=>?_));have:v=.bl d:=by erw[zT,Rep]at r1;exact r1
  exact ⟨d,this,q L1 H1 s1 c1⟩
 .cases hf
def Mo (h:∀ τ H Q,t τ H Q->t' τ H Q) (q:Jr t τ H Q):Jr t' τ H Q:=h _ _ _ q
def Ep {op:CmpOp} {r:R2} {k:K2} {f g:FE} (hk:A9 X.K r k) (ho:OpR X (compareOp op) r) (h1:QE X a f) (h2:QE X b g) (hm:behindInMarks op b=false):QT X (.Compare a [op] [b] pos) (tst (fOp k f g)) :=
 .mk <| PT.imp (bT ho h1.un h2.un hm) λ_ _ _ h=>Mo (λ_ _ _ z=>F8 hk z) (Ky h)
def Ua (h:QE X e f) (he:∀ whole,isTrue e X.env whole=(do let v <- whole;standAt e.pos;holding [v] (truthy v)):=by intro _;rfl):QT X e (tst f) :=
 .mk <| PT.imp (YM h.un he) λ_ _ _ h=>Ky h
def kI (C:Int->Int->Bool) (g:Int->Int->D):K2:=λx y M=>match x,y with
 |.dat (.int i),.dat (.int j)=>if C i j then some (.dat (g i j),M) else none
 |_,_=>none
def kI0 (g:Int->Int->D):K2:=kI (λ_ _=>true) g
def Hu {K:Yb} {C:Int->Int->Bool} {C':Int->Int->Prop} {g:Int->Int->D} {g':Int->Int->V} (hC:∀ i j,C i j=true->C' i j) (hg:∀ L H i j,Rep L H (g i j) (g' i j)):A9 K (rI C' g') (kI C g):=by
 intro L M M' H H0 x y d v w Q c rx ry hk q;erw[kI]at hk;cbv at hk
 .rename_i i j;cbv at hk
  .rename_i hc;ext hk;refine ⟨i,j,by erw[zT,Rep]at rx;calc rx,by erw[zT,Rep]at ry;calc ry,hC i j hc,q L H _ (.refl L H) c (hg L H i j)⟩
  .cases hk
 .cases hk
def ER {K:Yb} {g:Int->Int->D} {g':Int->Int->V} (hg:∀ L H i j,Rep L H (g i j) (g' i j)):A9 K (rI0 g') (kI0 g):=by
 intro L M M' H H0 x y d v w Q c rx ry hk q;let⟨i,j,h1,h2,_,h4⟩:=Hu (C:=λ_ _=>true) (C':=λ_ _=>True) (λ_ _ _=>trivial) hg c rx ry hk q;calc ⟨i,j,h1,h2,h4⟩
def B6:Rep L H (.int i) (.int i):=by erw[Rep];rfl
def Bl:Rep L H (.bl i) (.bl i):=by erw[Rep];rfl
def Fs (i j:Int):Bool:=(decide (-(2 ^ 64)<i)&&decide (i<2 ^ 64))||(decide (-(2 ^ 64)<j)&&decide (j<2 ^ 64))
abbrev gI:K2:=kI0 λi j=> .int (i+j)
abbrev Fc:K2:=kI0 λi j=> .int (i-j)
abbrev GC:K2:=kI Fs λi j=> .int (i*j)
abbrev Bv:K2:=kI (λ_ j=>decide (0<j)) λi j=> .int (i % j)
abbrev FX:K2:=kI (λ_ j=>decide (0<j)&&decide (j<1073741824)) λi j=> .int (i / j)
abbrev Ho:K2:=kI (λi j=>decide (0<=j)&&decide (j<=1000000)&&decide (i.natAbs<2 ^ 64)) λi j=> .int (i ^ j.toNat)
abbrev kLt:K2:=kI0 λi j=> .bl (decide (i<j))
abbrev kLe:K2:=kI0 λi j=> .bl (decide (i<=j))
abbrev kGt:K2:=kI0 λi j=> .bl (decide (j<i))
abbrev kGe:K2:=kI0 λi j=> .bl (decide (j<=i))
section
variable {f g:FE}
def ZD (h1:QE X a f) (h2:QE X b g):QE X (.BinOp a .Sub b pos) (fOp Fc f g):=Gi (ER λ_ _ _ _=>B6) RZ h1 h2
def cL (h1:QE X a f) (h2:QE X b g):QE X (.BinOp a .Mult b pos) (fOp GC f g):=Gi (Hu (λi j h=>by
 erw[Fs]at h;simp only[Bool.or_eq_true,Ay,D2]at h;calc h) λ_ _ _ _=>B6) Sl h1 h2
def b6 (h1:QE X a f) (h2:QE X b g):QE X (.BinOp a .Mod b pos) (fOp Bv f g):=Gi (Hu (λi j h=>C2 h) λ_ _ _ _=>B6) XC h1 h2
def aF (h1:QE X a f) (h2:QE X b g):QE X (.BinOp a .FloorDiv b pos) (fOp FX f g):=Gi (Hu (λi j h=>by
 simp only[Ay,D2]at h;calc h) λ_ _ _ _=>B6) Sj h1 h2
def Xf (h1:QE X a f) (h2:QE X b g):QE X (.BinOp a .Pow b pos) (fOp Ho f g):=Gi (Hu (λi j h=>by
 simp only[Ay,D2]at h;calc ⟨h.1.1,h.1.2,h.2⟩) λ_ _ _ _=>B6) eX h1 h2
def SN (h1:QE X a f) (h2:QE X b g):QE X (.Compare a [.Lt] [b] pos) (fOp kLt f g):=JB (ER λ_ _ _ _=>Bl) LI h1 h2 (DT _)
def UG (h1:QE X a f) (h2:QE X b g):QE X (.Compare a [.GtE] [b] pos) (fOp kGe f g):=JB (ER λ_ _ _ _=>Bl) Oz h1 h2 (DT _)
def S2 (h1:QE X a f) (h2:QE X b g):QT X (.Compare a [.Lt] [b] pos) (tst (fOp kLt f g)):=Ep (ER λ_ _ _ _=>Bl) LI h1 h2 (DT _)
def SW (h1:QE X a f) (h2:QE X b g):QT X (.Compare a [.Gt] [b] pos) (tst (fOp kGt f g)):=Ep (ER λ_ _ _ _=>Bl) XB h1 h2 (DT _)
def dD (h1:QE X a f) (h2:QE X b g):QT X (.Compare a [.GtE] [b] pos) (tst (fOp kGe f g)):=Ep (ER λ_ _ _ _=>Bl) Oz h1 h2 (DT _)
end
end
def BO (M:Mem):EV->Option (List D)
 |.fl xs=>some xs
 |.dat (.ref n)=>match M[n]? with
  |some (.lst xs)=>some xs
  |some (.fro xs)=>some xs
  |_=>none
 |_=>none
def Cr:EV->Option (List D)
 |.dat (.tup xs)=>some xs
 |_=>none
def zr (M:Mem) (x:EV):Option (List D):=match Cr x with
 |some xs=>some xs
 |none=>BO M x
def Cf {K:Yb} {L:Yg} {M:Mem} {H H0:Hp} {x:EV} {v:V} {xs:List D} (c:Cor K L M H) (r:zT H0 L H x v) (h:BO M x=some xs):∃ a vs,v=.ref a/\Rd H a (.lst vs)/\zE L H xs vs:=by
 cases x with
 |fl ys=>
  ext h;let⟨p,vs,rfl,_,e,_,r⟩:=r;calc ⟨p,vs,rfl,.inl e,r⟩
 |dat d=>
  cases d with
  |ref n=>
   erw[zT,Rep]at r;let⟨a,rfl,e⟩:=r;erw[BO]at h;dsimp only at h;cases q:M[n]? with
   |none=>rw[q]at h;ext h
   |some m=>
    rw[q]at h;let z:=c.obj n a m e q;cases m with
    |lst ys=>ext h;let⟨vs,e1,r1⟩:=z;calc ⟨a,vs,rfl,.inl e1,r1⟩
    |fro ys=>ext h;let⟨o,vs,e1,r1⟩:=z;calc ⟨a,vs,rfl,.inr ⟨o,e1⟩,r1⟩
    |dict _=>ext h
    |dicT _=>ext h
    |set _=>ext h
    |froT _=>ext h
    |froK _=>ext h
  |_=>ext h
def DH {L:Yg} {H H0:Hp} {x:EV} {v:V} {xs:List D} (r:zT H0 L H x v) (h:Cr x=some xs):∃ a vs,v=.ref a/\H a=some (.tup vs)/\zE L H xs vs:=by
 cases x with
 |fl ys=>ext h
 |dat d=>
  cases d with
  |tup ys=>ext h;erw[zT,Rep]at r;calc r
  |_=>ext h
def GQ {K:Yb} {L:Yg} {M:Mem} {H H0:Hp} {x:EV} {v:V} {xs:List D} (c:Cor K L M H) (r:zT H0 L H x v) (h:zr M x=some xs):∃ a vs,v=.ref a/\(SqL K H a vs\/SqT K H a vs)/\zE L H xs vs:=by
 erw[zr]at h;cases q:Cr x with
 |some ys=>
  rw[q]at h;ext h;let⟨a,vs,e,h1,h2⟩:=DH r q;calc ⟨a,vs,e,.inr (.of h1),h2⟩
 |none=>
  rw[q]at h;let⟨a,vs,e,h1,h2⟩:=Cf c r h;calc ⟨a,vs,e,.inl (.inl h1),h2⟩
def V3 {L:Yg} {H:Hp} {xs:List D} {vs:List V} {i:Int} {d:D} (r:zE L H xs vs) (h:atI xs i=some d):∃ v,atI vs i=some v/\Rep L H d v:=by
 unfold atI at h ⊢;rw[r.length];cases q:ixN xs.length i with
 |none=>rw[q]at h;ext h
 |some j=>rw[q]at h;calc r.get h
def X9 {L:Yg} {H:Hp} {i:Str}:Rep L H (.str i) (.str i):=by erw[Rep];rfl
def kIx:K2:=λx y M=>match y with
 |.dat (.int i)=>match zr M x with
  |some xs=>match atI xs i with
   |some d=>some (.dat d,M)
   |none=>none
  |none=>match x with
   |.dat (.str z)=>if z.length<=sizeLine then match atI z.cps.toList i with
     |some c=>some (.dat (.str ⟨#[c]⟩),M)
     |none=>none
    else none
   |_=>none
 |_=>none
def Vy {K:Yb}:A9 K (rIx K) kIx:=by
 intro L M M' H H0 x y d v w Q c rx ry hk q;erw[kIx]at hk;cbv at hk
 .rename_i i;let ew:w=.int i:=by erw[zT,Rep]at ry;exact ry
  cbv at hk
  .rename_i xs e1;cbv at hk
   .rename_i d' e2;ext hk;let⟨a,vs,rfl,hs,r⟩:=GQ c rx e1;let⟨u,e3,r3⟩:=V3 r e2;rcases hs with hs|hs
    .exact .inl ⟨a,vs,i,u,rfl,ew,hs,e3,q L H u (.refl L H) c r3⟩
    .exact .inr (.inl ⟨a,vs,i,u,rfl,ew,hs,e3,q L H u (.refl L H) c r3⟩)
   .cases hk
  .split at hk
   .rename_i z _;cbv at hk
    .rename_i hz;cbv at hk
     .rename_i ch e2;ext hk;let ev:v=.str z:=by erw[zT,Rep]at rx;exact rx
      exact .inr (.inr ⟨z,i,ch,ev,ew,hz,e2,q L H _ (.refl L H) c (X9 (L:=L) (H:=H))⟩)
     .cases hk
    .cases hk
   .cases hk
 .cases hk
section
variable {prog:Ym} {w:Yo} {A:Yn} {E:Yc} {s:Yl}
def fF {t sl:Yt} {items:Yp} {vl vu:Yu} {lo hi:Ys} {Q:Yc} (T:IsTup s.heap t items) (S:s.heap.IsSliceOf sl vl vu .none) (pl:IsPart vl lo) (pu:IsPart vu hi)
  (h1:HT.sIx items.size 0 lo=0) (h2:HT.sIx items.size items.size hi=items.size) (h:Q (.ref t) s):wpAny (model prog w) A (getItem (.ref t) (.ref sl)) Q E s:=by
 let⟨o,O,C,G⟩:=id S;let TS:s.TypeIs (.ref sl) "slice" := ⟨o,O,C⟩;erw[getItem];try with_reducible refine A6 ?_
 first|refine AA (AB ?_)|skip
 calc AA (wpAny_sequenceKey T.typeIs () ?_);calc AA (Bq (name:=Str.ofString "__getitem__") T.typeIs Gd (Ap Gd T.typeIs entry_tuple_getitem ?_ (args_tuple_getitem _ _)));calc AA (m:=Builtin.Tuple.tupleItemsOf (.ref t)) (tupleItemsOf_ T (AA (C8 TS ?_)));rw[AD ()];calc AA (HT.OZ S pl pu ?_);rw[h1,h2];show wpAny _ _ (if ((((0:Nat):Int)==0&&(1:Int)==1&&(items.size-0)==items.size))=true then _ else _) _ _ s;rw[AD (by simp)];erw[Builtin.Tuple.tupleIsExact];calc AA (AA (C8 T.typeIs (AB ?_)));rw[AD ()];calc AA (Bo (AB ⟨_,rfl,AB h⟩))
end
def bC (K:Yb):V->Option Int->Option Int->Hp->VK->Prop:=λx lo hi H Q=>∃ a xs,x=.ref a/\SqT K H a xs/\(HT.sIx xs.length 0 lo=0/\HT.sIx xs.length xs.length hi=xs.length)/\Q (.ref a) H
def aX {X:Cx}:SlR X (bC X.K):=by
 intro zB s Y H x v vl vu lo hi sl Q I rx hs pl pu h;let⟨a,xs,rfl,hx,hw,q⟩:=h;ext rx;let⟨its,r,ht,hz⟩:=I.tuple hx;let hlen:its.toArray.size=xs.length:=by rw[AX];exact r.length.symm
 calc ⟨"tuple", _,Gd.lookup,ht.typeIs,fF ht hs pl pu (by rw[hlen];calc hw.1) (by rw[hlen];calc hw.2) ⟨.ref a,H,I,rfl,q⟩⟩
section
variable {X:Cx} {a b e:Expr} {es:Yi} {pos:Pos} {f g:FE}
def Ur (h1:QE X a f) (h2:QE X b g) (hs:N3 b:=by intro _ _;rfl):QE X (.Subscript a b pos) (fOp kIx f g):=.mk <| PE.imp (T9 ZL h1.un h2.un hs) λ_ _ _ h=>F8 Vy h
abbrev FO:=Sd->Mem->Option (Option Int × Mem)
def trO (K:Yb) (f:FO):TO:=λτ H Q=>∃ L Y M d M',Cor K L M H/\Ad L H Y τ/\f Y M=some (d,M') /\ ∀ L' H',Stp L H L' H'->Cor K L' M' H'->Q d H'
structure QO (X:Cx) (e:Option Expr) (f:FO):Prop where
 un:PO X e (trO X.K f)
def DP:FO:=λ_ M=>some (none,M)
def Cg (f:FE):FO:=λY M=>match f Y M with
 |some (.dat (.int i),M')=>some (some i,M')
 |_=>none
def PO.imp {e:Option Expr} {t t':TO} (h:PO X e t) (hi:∀ τ H Q,t' τ H Q->t τ H Q):PO X e t':=λzB s Y H Q I q=>h zB s Y H Q I (hi _ _ _ q)
def fA:QO X none DP:=.mk <| PO.imp Ve λτ H Q zz=>by
 let⟨L,Y,M,d,M',c,rs,hf,q⟩:=zz;erw[DP]at hf;ext hf;calc q L H (.refl L H) c
def X6 (h:QE X e f):QO X (some e) (Cg f):=.mk <| PO.imp (TX h.un) λτ H Q zz=>by
 let⟨L,Y,M,d,M',c,rs,hf,q⟩:=zz;erw[Cg]at hf;cbv at hf
 .rename_i i M1 e1;ext hf;refine (mkE c rs e1 (λL1 H1 v s1 c1 r1=>?_));exact ⟨i,by erw[zT,Rep]at r1;calc r1,q L1 H1 s1 c1⟩
 .cases hf
def CP (xs:List D) (lo hi:Ys):List D:=(xs.drop (HT.sIx xs.length 0 lo)).take (HT.sIx xs.length xs.length hi-HT.sIx xs.length 0 lo)
def PR {L:Yg} {H:Hp} {xs:List D} {vs:List V} {lo hi:Ys} (r:zE L H xs vs):zE L H (CP xs lo hi) (En vs lo hi):=by
 erw[CP,En];rw[r.length];calc (r.drop _).take _
def kSl (x:EV) (lo hi:Ys) (M:Mem):Option (EV × Mem):=match Cr x with
 |some xs=>some (.dat (.tup (CP xs lo hi)),M)
 |none=>match BO M x with
  |some xs=>some (.fl (CP xs lo hi),M)
  |none=>none
def fSl (f:FE) (fl fh:FO):FE:=λY M=>match f Y M with
 |some (x,M1)=>match fl Y M1 with
  |some (lo,M2)=>match fh Y M2 with
   |some (hi,M3)=>kSl x lo hi M3
   |none=>none
  |none=>none
 |none=>none
def S9 {lo hi:Option Expr} {p2:Pos} {fl fh:FO} (h:QE X e f) (hl:QO X lo fl) (hh:QO X hi fh):QE X (.Subscript e (.Slice lo hi none p2) pos) (fSl f fl fh) :=
 .mk <| PE.imp (X0 (SlR.or Tz (SlR.or aT aX)) h.un hl.un hh.un) λτ H Q zz=>by
  let⟨L,Y,M,d,M',c,rs,hf,q⟩:=zz;erw[fSl]at hf;cbv at hf
  .rename_i x M1 e1;cbv at hf
   .rename_i l M2 e2;cbv at hf
    .rename_i u M3 e3;refine ⟨L,Y,M,_,_,c,rs,e1,λL1 H1 v s1 c1 r1=>⟨L1,Y,M1,_,_,c1,rs.stp s1,e2,λL2 H2 s2 c2=>⟨L2,Y,M2,_,_,c2,rs.stp (s1.trans s2),e3,λL3 H3 s3 c3=>?_⟩⟩⟩;let s:=(s1.trans s2).trans s3;let r3:zT H L3 H3 x v:=(r1.stp s2).stp s3;erw[kSl]at hf;cases t:Cr x with
     |some xs=>
      rw[t]at hf;dsimp only at hf;ext hf;let⟨a,vs,rfl,e4,r4⟩:=DH r3 t;by_cases hw:HT.sIx vs.length 0 l=0/\HT.sIx vs.length vs.length u=vs.length
      .refine .inr (.inr ⟨a,vs,rfl,.of e4,hw,?_⟩);let ec:CP xs l u=xs:=by
        erw[CP];rw[<-r4.length,hw.1,hw.2,r4.length];simp
       rw[ec]at q;calc q L3 H3 _ s c3 ?_;erw[zT,Rep];exact ⟨a,vs,rfl,e4,r4⟩
      .refine .inr (.inl ⟨a,vs,rfl,.of e4,hw,λp hp=>?_⟩);calc q L3 _ _ (s.trans (.upd hp)) (c3.upd hp) (Rep.newTup hp (PR r4))
     |none=>
      rw[t]at hf;dsimp only at hf;cbv at hf
      .rename_i xs e4;ext hf;let⟨a,vs,rfl,e5,r5⟩:=Cf c3 r3 e4;refine .inl ⟨a,vs,rfl,.inl e5,λp hp=>?_⟩;exact q L3 _ _ (s.trans (.upd hp)) (c3.upd hp) (zT.newLst s c c3 hp (PR r5))
      .cases hf
    .cases hf
   .cases hf
  .cases hf
abbrev KB:=List EV->Mem->Option (EV × Mem)
def C4 (K:Yb) (r:List V->Hp->VK->Prop) (k:KB):Prop:=∀ {L:Yg} {M M':Mem} {H H0:Hp} {xs:List EV} {d:EV} {vs:List V} {Q:VK},Cor K L M H->Ca H0 L H xs vs->k xs M=some (d,M') ->
 (∀ L' H' u,Stp L H L' H'->Cor K L' M' H'->zT H L' H' d u->Q u H')->r vs H Q
def fB (k:KB) (f:FAE):FE:=λY M=>match f Y M with
 |some (xs,M1)=>k xs M1
 |none=>none
def Qb {K:Yb} {r:List V->Hp->VK->Prop} {k:KB} {f:FAE} (hk:C4 K r k) {τ:Sv} {H:Hp} {Q:VK} (h:trE K (fB k f) τ H Q):tCB r (Ob K f) τ H Q:=by
 let⟨L,Y,M,d,M',c,rs,hf,q⟩:=h;erw[fB]at hf;cbv at hf
 .rename_i xs M1 e1;refine ⟨L,Y,M,_,_,c,rs,e1,λL1 H1 vs s1 c1 r1=>?_⟩;refine hk c1 r1 hf λL2 H2 u s2 c2 r2=>?_;exact q L2 H2 u (s1.trans s2) c2 (r2.back s1 c s2.sub)
 .cases hf
def Ca.one {H0:Hp} {L:Yg} {H:Hp} {x:EV} {vs:List V} (h:Ca H0 L H [x] vs):∃ v,vs=[v]/\zT H0 L H x v:=by
 let⟨v,r,rfl,h1,h2⟩:=h;erw[Ca]at h2;subst h2;calc ⟨v,rfl,h1⟩
def Al:KB:=λxs M=>match xs with
 |[x]=>match zr M x with
  |some ys=>some (.dat (.int ys.length),M)
  |none=>none
 |_=>none
def VB:C4 X.K (λxs H Q=>∃ p ys,xs=[.ref p]/\(SqL X.K H p ys\/SqT X.K H p ys)/\Q (.int ys.length) H) Al:=by
 intro L M M' H H0 xs d vs Q c r hk q;erw[Al]at hk;cbv at hk
 .rename_i x;cbv at hk
  .rename_i ys e1;ext hk;let⟨v,rfl,r1⟩:=r.one;let⟨a,ws,rfl,hs,r2⟩:=GQ c r1 e1;calc ⟨a,ws,rfl,hs,q L H _ (.refl L H) c ?_⟩;rw[r2.length];exact (B6 (L:=L) (H:=H))
  .cases hk
 .cases hk
def F6 {x:Str} {p:Pos} {id:String} {r:List V->Hp->VK->Prop} {k:KB} {f:FAE} (hk:C4 X.K r k) (hc:CC X (.builtin id) r) (hv:bootBuiltins x=some (.builtin id)) (hg:Gl X x) (hm:X.mg x=none) (ha:QAE X (e::es) f) (hn:x ≠ "__name__" := by decide) (hdb:(x==("__debug__" : Str))=false:=by decide)
  (he:starEach (e::es) X.env=(false,eval e X.env)::starEach es X.env:=by rfl) (hpl:(backTo pos (starEach es X.env)).any (·.1)=false:=by rfl):QE X (.Call (.Name x p) (e::es) [] pos) (fB k f) :=
 .mk <| PE.imp (Nz hc hg hm hv ha.un hn hdb he hpl) λ_ _ _ h=>Qb hk h
def Pl {x:Str} {p:Pos} {T:String} {r:List V->Hp->VK->Prop} {k:KB} {f:FAE} (hk:C4 X.K r k) (hc:CC X (.type T) r) (hv:bootBuiltins x=some (.type T)) (hg:Gl X x) (hm:X.mg x=none) (ha:QAE X (e::es) f) (hn:x ≠ "__name__" := by decide) (hdb:(x==("__debug__" : Str))=false:=by decide)
  (he:starEach (e::es) X.env=(false,eval e X.env)::starEach es X.env:=by rfl) (hpl:(backTo pos (starEach es X.env)).any (·.1)=false:=by rfl):QE X (.Call (.Name x p) (e::es) [] pos) (fB k f) :=
 .mk <| PE.imp (Lg hc hg hm hv ha.un hn hdb he hpl) λ_ _ _ h=>Qb hk h
def Bc:KB:=λxs M=>match xs with
 |[x]=>match zr M x with
  |some ys=>some (.dat (.tup ys),M)
  |none=>none
 |_=>none
def Y4:C4 X.K (λxs H Q=>∃ p ys,xs=[.ref p]/\((SqL X.K H p ys /\ ∀ l,H l=none->Q (.ref l) (upd H l (.tup ys)))\/(SqT X.K H p ys/\Q (.ref p) H))) Bc:=by
 intro L M M' H H0 xs d vs Q c r hk q;erw[Bc]at hk;cbv at hk
 .rename_i x;cbv at hk
  .rename_i ys e1;ext hk;let⟨v,rfl,r1⟩:=r.one;erw[zr]at e1;cases t:Cr x with
   |some zs=>
    rw[t]at e1;ext e1;let⟨a,ws,rfl,e2,r2⟩:=DH r1 t;calc ⟨a,ws,rfl,.inr ⟨.of e2,q L H _ (.refl L H) c ?_⟩⟩;erw[zT,Rep];calc ⟨a,ws,rfl,e2,r2⟩
   |none=>
    rw[t]at e1;let⟨a,ws,rfl,e2,r2⟩:=Cf c r1 e1;refine ⟨a,ws,rfl,.inl ⟨.inl e2,λp hp=>?_⟩⟩;exact q L _ _ (.upd hp) (c.upd hp) (Rep.newTup hp r2)
  .cases hk
 .cases hk
end
set_option genInjectivity true in
inductive Out where
  |nx|ret (d:D)|brk|cnt
abbrev FS:=Sd->Mem->Option (Out × Sd × Mem)
def SJ (E:Ends) (L:Yg) (H:Hp) (Y:Sd):Out->Prop
  |.nx=>∀ τ,Ad L H Y τ->E.nx τ H
  |.ret d=>∀ v,Rep L H d v->E.rt v H
  |.brk=>∀ τ,Ad L H Y τ->E.bk τ H
  |.cnt=>∀ τ,Ad L H Y τ->E.ct τ H
def trS (K:Yb) (f:FS):TS:=λE τ H=>∃ L Y M o Y' M',Cor K L M H/\Ad L H Y τ/\f Y M=some (o,Y',M') /\ ∀ L' H',Stp L H L' H'->Cor K L' M' H'->SJ E L' H' Y' o
structure QS (X:Cx) (st:Stmt) (f:FS):Prop where
  un:PS X st (trS X.K f)
structure QSs (X:Cx) (st:Yy) (f:FS):Prop where
  un:PSs X st (trS X.K f)
def Ad.set {L:Yg} {H:Hp} {Y:Sd} {τ:Sv} {i:Nat} {d:D} {v:V} (h:Ad L H Y τ) (r:Rep L H d v):Ad L H (Y.set i (some d)) (τ.set i (some v)):=by
  refine ⟨by simp[h.1],λj e q=>?_⟩;rw[DA]at q ⊢;cbv at q
  . rename_i z
    subst z;cbv at q
    . rename_i hl
      ext q;rw[AD rfl,AD (by rw[h.1];calc hl)];exact ⟨v,rfl,r⟩
    .cases q
  . rename_i z
    rw[AE z];calc h.2 j e q
def Of {K:Yb} {f:FE} {τ:Sv} {H:Hp} {Q:VK} (h:trD K (toD f) τ H Q):trE K f τ H Q:=by
  let⟨L,Y,M,d,M',c,rs,hf,q⟩:=h;erw[toD]at hf;cbv at hf
  . rename_i d' M1 e1
    ext hf;exact (mkE c rs e1 (λL' H' v s c' r=>q L' H' v s c' r))
  . rename_i xs M1 e1
    ext hf;refine (mkE c rs e1 (λL' H' v s c' r=>?_));let⟨p,vs,rfl,e0,e2,e3,r⟩:=r;let⟨c2,s2⟩:=O7 s c' e0 e2 e3 r;exact q _ H' _ s2 c2 (Rep.last c')
  .cases hf
def CS:FS:=λY M=>some (.nx,Y,M)
def zV (f g:FS):FS:=λY M=>match f Y M with
  |some (.nx,σ1,M1)=>g σ1 M1
  |r=>r
def sIf (c:FT) (f g:FS):FS:=λY M=>match c Y M with
  |some (true,M1)=>f Y M1
  |some (false,M1)=>g Y M1
  |none=>none
def AV (f:FE):FS:=λY M=>match toD f Y M with
  |some (d,M1)=>some (.ret d,Y,M1)
  |none=>none
def AN (i:Nat) (f:FE):FS:=λY M=>match toD f Y M with
  |some (d,M1)=>some (.nx,Y.set i (some d),M1)
  |none=>none
def Dr (f:FE):FS:=λY M=>match f Y M with
  |some (_,M1)=>some (.nx,Y,M1)
  |none=>none
section
variable {X:Cx} {st:Stmt} {rest:Yy} {e c:Expr} {pos:Pos}
def Zt:QSs X [] CS:=.mk <| PSs.imp Ub λE τ H zz=>by
  let⟨L,Y,M,o,Y',M',c,rs,hf,q⟩:=zz;erw[CS]at hf;ext hf;calc q L H (.refl L H) c τ rs
def Wj {f g:FS} (h1:QS X st f) (h2:QSs X rest g):QSs X (st::rest) (zV f g):=.mk <| PSs.imp (YU h1.un h2.un) λE τ H zz=>by
  let⟨L,Y,M,o,Y',M',c,rs,hf,q⟩:=zz;erw[zV]at hf;cbv at hf
  . rename_i σ1 M1 e1
    refine ⟨L,Y,M,_,_,_,c,rs,e1,λL1 H1 s1 c1 τ1 r1=>⟨L1,σ1,M1,_,_,_,c1,r1,hf,λL2 H2 s2 c2=>q L2 H2 (s1.trans s2) c2⟩⟩
  . rename_i hne
    refine ⟨L,Y,M,_,_,_,c,rs,hf,λL1 H1 s1 c1=>?_⟩;let z:=q L1 H1 s1 c1;cases o with
    |nx=>calc absurd hf (hne Y' M')
    |ret d=>calc z
    |brk=>calc z
    |cnt=>calc z
def YW {f:FS} (h1:QS X st f):QSs X [st] f:=.mk <| PSs.imp (Tc h1.un) λ_ _ _ h=>h
def UN {a b:Yy} {fc:FT} {f g:FS} (hc:QT X c fc) (ha:QSs X a f) (hb:QSs X b g):QS X (.If c a b pos) (sIf fc f g):=.mk <| PS.imp (Ws hc.un ha.un hb.un) λE τ H zz=>by
  let⟨L,Y,M,o,Y',M',c,rs,hf,q⟩:=zz;erw[sIf]at hf;cbv at hf
  . rename_i M1 e1
    refine (mkT c rs e1 (λL1 H1 s1 c1=>?_));exact DU ⟨L1,Y,M1,_,_,_,c1,rs.stp s1,hf,λL2 H2 s2 c2=>q L2 H2 (s1.trans s2) c2⟩
  . rename_i M1 e1
    refine (mkT c rs e1 (λL1 H1 s1 c1=>?_));exact Dd ⟨L1,Y,M1,_,_,_,c1,rs.stp s1,hf,λL2 H2 s2 c2=>q L2 H2 (s1.trans s2) c2⟩
  .cases hf
def Uz {f:FE} (h:QE X e f):QS X (.Return (some e) pos) (AV f):=.mk <| PS.imp (T3 (CZ h).un) λE τ H zz=>by
  let⟨L,Y,M,o,Y',M',c,rs,hf,q⟩:=zz;erw[AV]at hf;cbv at hf
  . rename_i d M1 e1
    ext hf;exact (mkD c rs e1 (λL1 H1 v s1 c1 r1=>q L1 H1 s1 c1 v r1))
  .cases hf
def MJ {K:Yb} {i:Nat} {f:FE} {t:TE} (ht:∀ τ H Q,trE K f τ H Q->t τ H Q) {E:Ends} {τ:Sv} {H:Hp} (h:trS K (AN i f) E τ H):IJ t (Cd i) E τ H:=by
  let⟨L,Y,M,o,Y',M',c,rs,hf,q⟩:=h;erw[AN]at hf;cbv at hf
  . rename_i d M1 e1
    ext hf;exact ht _ _ _ (Of (mkD c rs e1 (λL1 H1 v s1 c1 r1=>q L1 H1 s1 c1 _ ((rs.stp s1).set r1))))
  .cases hf
def YE {i:Nat} {x:Str} {f:FE} {pos':Pos} (hN:X.N.Nodup) (hi:X.N[i]?=some x) (hx:Loc X.env.scope x) (h:QE X e f) (hs:swapsWith e (some (.Name x pos')) pos.line X.env=pure false:=by rfl)
    (hf:X.fn x=true\/X.env.scope.names.lookup x=some .local:=by first|exact .inl rfl|exact .inr rfl|assumption):QS X (.Assign [.Name x pos'] e pos) (AN i f) := 
  .mk <| PS.imp (bO hN hi hx h.un hs hf) λ_ _ _ z=>MJ (λ_ _ _ z=>z) z
def XU {f:FE} (h:QE X e f) (hs:swapsWith e none pos.line X.env=pure false:=by rfl):QS X (.Expr e pos) (Dr f):=.mk <| PS.imp (ZJ h.un hs) λE τ H zz=>by
  let⟨L,Y,M,o,Y',M',c,rs,hf,q⟩:=zz;erw[Dr]at hf;cbv at hf
  . rename_i d M1 e1
    ext hf;exact (mkE c rs e1 (λL1 H1 v s1 c1 r1=>q L1 H1 s1 c1 τ (rs.stp s1)))
  .cases hf
abbrev FG:=D->Sd->Option Sd
def GOk (g:TG) (fg:FG):Prop:=∀ {L:Yg} {H:Hp} {Y Y':Sd} {τ:Sv} {d:D} {v:V} {Q:Sv->Hp->Prop},Ad L H Y τ->Rep L H d v->fg d Y=some Y'->(∀ τ',Ad L H Y' τ'->Q τ' H)->g v τ H Q
def gN (i:Nat):FG:=λd Y=>some (Y.set i (some d))
def bN {i:Nat}:GOk (Cd i) (gN i):=by
  intro L H Y Y' τ d v Q rs r hf q;erw[gN]at hf;ext hf;calc q _ (rs.set r)
abbrev FI:=Sd->Mem->Option (List D × Option (Mem->Prop) × Mem)
def BZ (g:Option (Mem->Prop)) (xs:List D) (M:Mem):Prop:=match g with
  |none=>True
  |some p=>p M
def Ll (K:Yb) (J:It) (L:Yg) (H:Hp) (xs:List D) (g:Option (Mem->Prop)):Prop:=∀ L' H' M',Stp L H L' H'->Cor K L' M' H'->BZ g xs M' ->
  (∀ (i:Nat) d,xs[i]?=some d->J.go i H' /\ ∀ v H'',J.yld i H' v H''->(∀ a o,H' a=some o->H'' a=some o)/\Rep L' H'' d v)/\J.stop xs.length H'
def trI (K:Yb) (f:FI):TI:=λτ H R=>∃ L Y M xs g M',Cor K L M H/\Ad L H Y τ/\f Y M=some (xs,g,M') /\ ∀ L' H' J,Stp L H L' H'->Cor K L' M' H'->Ll K J L' H' xs g->R J H'
def mkI {K:Yb} {f:FI} {τ:Sv} {H:Hp} {R} {Y:Sd} {M M':Mem} {xs g} (c:Cor K L M H) (r:Ad L H Y τ) (e:f Y M=some (xs,g,M')) (q:∀ L' H' J,Stp L H L' H'->Cor K L' M' H'->Ll K J L' H' xs g->R J H'):trI K f τ H R:=⟨_,_,_,_,_,_,c,r,e,q⟩
structure QI (X:Cx) (tg e:Expr) (f:FI):Prop where
  un:PI X tg e (trI X.K f)
def PI.imp {tg e:Expr} {t t':TI} (h:PI X tg e t) (hi:∀ τ H R,t' τ H R->t τ H R):PI X tg e t':=λzB s Y H R I q=>h zB s Y H R I (hi _ _ _ q)
def C0 (g:FG) (b:FS) (all:List D) (gd:Option (Mem->Prop)):List D->Sd->Mem->Option (Out × Sd × Mem)
  |[],Y,M=>open Classical in if BZ gd all M then some (.nx,Y,M) else none
  |x::r,Y,M=>open Classical in if BZ gd all M then match g x Y with
      |some σ1=>match b σ1 M with
        |some (.nx,σ2,M2)=>C0 g b all gd r σ2 M2
        |some (.cnt,σ2,M2)=>C0 g b all gd r σ2 M2
        |some (.brk,σ2,M2)=>some (.nx,σ2,M2)
        |some (.ret d,σ2,M2)=>some (.ret d,σ2,M2)
        |none=>none
      |none=>none
    else none
def Bh (fi:FI) (g:FG) (b:FS):FS:=λY M=>match fi Y M with
  |some (xs,gd,M1)=>C0 g b xs gd xs Y M1
  |none=>none
def GO {α:Type} {xs:List α} {i:Nat} (h:i<xs.length):xs.drop i=xs[i]::xs.drop (i+1):=List.drop_eq_getElem_cons h
def Stp.yld {L L':Yg} {H H' H'':Hp} (s:Stp L H L' H') (h:∀ a o,H' a=some o->H'' a=some o):Stp L H L' H'':=s.trans (.grow h)
set_option genInjectivity true in
inductive FW (K:Yb) (fg:FG) (b:FS) (xs:List D) (gd:Option (Mem->Prop)) (r:Option (Out × Sd × Mem)) (L1:Yg) (H1:Hp):Nat->Nat->Sv->Hp->Prop
  |mk {i:Nat} {τ':Sv} {H':Hp} {L':Yg} {Y':Sd} {M':Mem}:i<=xs.length->Stp L1 H1 L' H'->Cor K L' M' H'->Ad L' H' Y' τ'->C0 fg b xs gd (xs.drop i) Y' M'=r->FW K fg b xs gd r L1 H1 i (xs.length-i) τ' H'
def VI {K:Yb} {fi:FI} {g:TG} {fg:FG} {b:FS} (hg:GOk g fg) {E:Ends} {τ:Sv} {H:Hp} (h:trS K (Bh fi fg b) E τ H):Mv (trI K fi) g (trS K b) E τ H:=by
  let⟨L,Y,M,o,σf,Mf,c,rs,hf,q⟩:=h;erw[Bh]at hf;cbv at hf
  . rename_i xs gd M1 e1
    refine (mkI c rs e1 (λL1 H1 J s1 c1 it=>?_));calc ⟨FW K fg b xs gd (some (o,σf,Mf)) L1 H1,⟨_,.mk (A8 _) (.refl _ _) c1 (rs.stp s1) (~~~hf)⟩,?_⟩;rintro i m τ' H' ⟨hi,s',c',rs',e'⟩;rename_i L' Y' M';by_cases hlt:i<xs.length
    . rw[GO hlt]at e'
      erw[C0]at e';cbv at e'
      . rename_i hgd
        let⟨step,_⟩:=it L' H' M' s' c' hgd;let⟨go,yl⟩:=step i xs[i] (AL hlt);cases eg:fg xs[i] Y' with
        |none=>rw[eg]at e';ext e'
        |some σ1=>
          rw[eg]at e';dsimp only at e';refine .inr ⟨go,FW K fg b xs gd (some (o,σf,Mf)) L1 H1 (i+1) (xs.length-(i+1)),λτ2 H2 a=>⟨xs.length-(i+1),(),a⟩,λv H2 hy=>?_⟩;let⟨gr,rv⟩:=yl v H2 hy;refine hg (Ad.stp (.grow gr) rs') rv eg λτ2 r2=>?_;cases eb:b σ1 M' with
          |none=>rw[eb]at e';ext e'
          |some r=>
            let⟨o2,σ2,M2⟩:=r;rw[eb]at e';refine ⟨L',σ1,M',_,_,_,c'.grow gr,r2,eb,λL3 H3 s3 c3=>?_⟩;let s13:Stp L1 H1 L3 H3:=(s'.yld gr).trans s3;cases o2 with
            |nx=>exact λτ3 r3=> .mk hlt s13 c3 r3 e'
            |cnt=>exact λτ3 r3=> .mk hlt s13 c3 r3 e'
            |brk=>ext e';calc q L3 H3 (s1.trans s13) c3
            |ret d=>ext e';exact q L3 H3 (s1.trans s13) c3
      .cases e'
    . have hi':i=xs.length:=()
      subst hi';rw[List.drop_length]at e';erw[C0]at e';cbv at e'
      . rename_i hgd
        ext e';let⟨_,stop⟩:=it L' H' _ s' c' hgd;exact .inl ⟨stop,q L' H' (s1.trans s') c' τ' rs'⟩
      .cases e'
  .cases hf
def OE {tg iter:Expr} {body:Yy} {fi:FI} {g:TG} {fg:FG} {b:FS} (hg:GOk g fg) (hp:PassesOwn (model X.prog X.w) X.A X.env X.xe) (hc:X.calm=true) (hi:QI X tg iter fi) (ht:PG X tg g) (hb:QSs X body b)
    (hs:∀ x,foldedSetIterable iter X.env x=pure x:=by intro _;rfl):QS X (.For tg iter body [] pos) (Bh fi fg b):=.mk <| PS.imp (Sy hp hc hi.un ht hb.un hs) λ_ _ _ h=>VI hg h
end
section
variable {X:Cx} {e c iter tg elt:Expr} {pos:Pos} {scope:Y0} {ifs:Yi}
def Cb (c:FT) (b:FS):Nat->Sd->Mem->Option (Out × Sd × Mem)
  |0,_,_=>none
  |n+1,Y,M=>match c Y M with
    |some (true,M1)=>match b Y M1 with
      |some (.nx,σ2,M2)=>Cb c b n σ2 M2
      |some (.cnt,σ2,M2)=>Cb c b n σ2 M2
      |some (.brk,σ2,M2)=>some (.nx,σ2,M2)
      |some (.ret d,σ2,M2)=>some (.ret d,σ2,M2)
      |none=>none
    |some (false,M1)=>some (.nx,Y,M1)
    |none=>none
def bY {K:Yb} {fc:FT} {b:FS} {n:Nat} {E:Ends} {τ:Sv} {H:Hp} (h:trS K (Cb fc b n) E τ H):Nv (trT K fc) (trS K b) E τ H:=by
  let⟨L,Y,M,o,σf,Mf,c,rs,hf,q⟩:=h;refine ⟨λm τ' H'=>∃ L' Y' M',Stp L H L' H'/\Cor K L' M' H'/\Ad L' H' Y' τ'/\Cb fc b m Y' M'=some (o,σf,Mf),⟨n,L,Y,M,.refl _ _,c,rs,hf⟩,?_⟩;rintro m τ' H' ⟨L',Y',M',s',c',rs',e'⟩;cases m with
  |zero=>erw[Cb]at e';ext e'
  |succ m=>
    erw[Cb]at e';cbv at e'
    . rename_i M1 e1
      refine (mkT c' rs' e1 (λL1 H1 s1 c1=>DU ?_));refine ⟨λτ2 H2=>∃ L2 σ2 M2,Stp L H L2 H2/\Cor K L2 M2 H2/\Ad L2 H2 σ2 τ2/\Cb fc b m σ2 M2=some (o,σf,Mf),λτ2 H2 h2=>⟨m,CM m,h2⟩,?_⟩;cases eb:b Y' M1 with
      |none=>rw[eb]at e';ext e'
      |some r=>
        let⟨o2,σ2,M2⟩:=r;rw[eb]at e';refine ⟨L1,Y',M1,_,_,_,c1,rs'.stp s1,eb,λL3 H3 s3 c3=>?_⟩;let s13:Stp L H L3 H3:=(s'.trans s1).trans s3;cases o2 with
        |nx=>exact λτ3 r3=>⟨L3,σ2,M2,s13,c3,r3,e'⟩
        |cnt=>exact λτ3 r3=>⟨L3,σ2,M2,s13,c3,r3,e'⟩
        |brk=>ext e';calc q L3 H3 s13 c3
        |ret d=>ext e';exact q L3 H3 s13 c3
    . rename_i M1 e1
      ext e';exact ⟨L',_,M',_,_,c',rs',e1,λL1 H1 s1 c1=>Dd (q L1 H1 (s'.trans s1) c1 τ' (rs'.stp s1))⟩
    .cases e'
def Rg {body:Yy} {fc:FT} {b:FS} (n:Nat) (hp:PassesOwn (model X.prog X.w) X.A X.env X.xe) (hc:QT X c fc) (hb:QSs X body b):QS X (.While c body [] pos) (Cb fc b n) := 
  .mk <| PS.imp (Uj hp hc.un hb.un) λ_ _ _ h=>bY h
def BW (own:Yj) (Y:Sd):Sd:=own.foldl (λY i=>Y.set i none) Y
theorem GX {L:Yg} {H:Hp}:∀ (own:Yj) {Y:Sd} {τ:Sv},Ad L H Y τ->Ad L H (BW own Y) (clr own τ)
  |[],_,_,h=>h
  |i::r,Y,τ,h=>by
    refine GX r (Y:=Y.set i none) (τ:=τ.set i none) ⟨by simp[h.1],λj d q=>?_⟩;rw[DA]at q ⊢;cbv at q
    .split at q <;> ext q
    . rename_i z
      rw[AE z];calc h.2 j d q
def Am (g:FG) (tc:FT) (te:FE) (Y:Sd) (all:List D) (gd:Option (Mem->Prop)):List D->Mem->Option (List D × Mem)
  |[],M=>open Classical in if BZ gd all M then some ([],M) else none
  |x::r,M=>open Classical in if BZ gd all M then match g x Y with
      |some σ1=>match tc σ1 M with
        |some (true,M1)=>match toD te σ1 M1 with
          |some (d,M2)=>match Am g tc te Y all gd r M2 with
            |some (ds,M3)=>some (d::ds,M3)
            |none=>none
          |none=>none
        |some (false,M1)=>Am g tc te Y all gd r M1
        |none=>none
      |none=>none
    else none
def zu (own:Yj) (fi:FI) (g:FG) (tc:FT) (te:FE):FE:=λY M=>match fi Y M with
  |some (xs,gd,M1)=>if xs.length<=sizeLine then match Am g tc te (BW own Y) xs gd xs M1 with
      |some (ys,M2)=>some (.fl ys,M2)
      |none=>none
    else none
  |none=>none
/-- what a target of a comprehension does: it sets names of its own -/
def CK (own:Yj) (g:TG) (fg:FG):Prop:=∀ {L:Yg} {H:Hp} {Y Y':Sd} {τ τ0:Sv} {d:D} {v:V} {Q:Sv->Hp->Prop},Ad L H Y τ->Ext (clr own τ0) τ->Rep L H d v->fg d Y=some Y'->(∀ τ',Ad L H Y' τ'->Ext (clr own τ0) τ'->Q τ' H)->g v τ H Q
def Ey {own:Yj} {i:Nat} (hi:i∈own):CK own (Cd i) (gN i):=by
  intro L H Y Y' τ τ0 d v Q rs ex r hf q;erw[gN]at hf;ext hf;exact q _ (rs.set r) (ex.set hi)
set_option genInjectivity true in
inductive CW (K:Yb) (fg:FG) (tc:FT) (te:FE) (σ0:Sd) (xs:List D) (gd:Option (Mem->Prop)) (Mf:Mem) (zs:List D) (L1:Yg) (H1:Hp):Nat->Nat->List V->Hp->Prop
  |mk {i:Nat} {ys:List V} {H':Hp} {L':Yg} {M':Mem} {as bs:List D}:i<=xs.length->Stp L1 H1 L' H'->Cor K L' M' H'->zE L' H' as ys->as.length<=i->Am fg tc te σ0 xs gd (xs.drop i) M'=some (bs,Mf)->as++bs=zs->CW K fg tc te σ0 xs gd Mf zs L1 H1 i (xs.length-i) ys H'
def Ox {K:Yb} {own:Yj} {fi:FI} {g:TG} {fg:FG} {tc:FT} {te:FE} (hg:CK own g fg) {τ:Sv} {H:Hp} {Q:VK} (h:trE K (zu own fi fg tc te) τ H Q):KJ own (trI K fi) g (trT K tc) (trD K (toD te)) τ H Q:=by
  let⟨L,Y,M,d,Mf,c,rs,hf,q⟩:=h;erw[zu]at hf;cbv at hf
  . rename_i xs gd M1 e1
    cbv at hf
    . rename_i hz
      cbv at hf
      . rename_i zs M2 e2
        ext hf;refine (mkI c rs e1 (λL1 H1 J s1 c1 it=>?_));calc ⟨CW K fg tc te (BW own Y) xs gd Mf zs L1 H1,⟨_,.mk (A8 _) (.refl _ _) c1 .nil (AF _) (~~~e2) rfl⟩,?_⟩;rintro i m ys H' ⟨hi,s',c',r',hl,e',hab⟩;rename_i L' M' as bs;let hys:ys.length<=i:=by rw[r'.length];exact hl
        by_cases hlt:i<xs.length
        . rw[GO hlt]at e'
          erw[Am]at e';cbv at e'
          . rename_i hgd
            let⟨step,_⟩:=it L' H' M' s' c' hgd;let⟨go,yl⟩:=step i xs[i] (AL hlt);cbv at e'
            . rename_i σ1 eg
              refine .inr ⟨go,λv H2 hy=>?_⟩;let⟨gr,rv⟩:=yl v H2 hy;let s2:Stp L1 H1 L' H2:=s'.yld gr;refine hg (GX own ((rs.stp s1).stp s2)) (.refl _) rv eg λτ2 r2 x2=>⟨x2,?_⟩;cbv at e'
              . rename_i M3 e3
                cbv at e'
                . rename_i d M4 e4
                  cbv at e'
                  . rename_i ds M5 e5
                    ext e';refine (mkT (c'.grow gr) r2 e3 (λL3 H3 s3 c3=>DU ?_));refine (mkD c3 (r2.stp s3) e4 (λL4 H4 w s4 c4 r4=>?_));let st:Stp L' H' L4 H4:=((Stp.grow gr).trans s3).trans s4;refine ⟨Ez hys (BH hlt hz),xs.length-(i+1),(),.mk (as:=as++[d]) hlt (s'.trans st) c4 ((r'.stp st).app (.cons r4 .nil)) (by simp;omega) e5 (by rw[<-hab];simp)⟩
                  .cases e'
                .cases e'
              . rename_i M3 e3
                refine (mkT (c'.grow gr) r2 e3 (λL3 H3 s3 c3=>Dd ?_));let st:Stp L' H' L3 H3:=(Stp.grow gr).trans s3;exact ⟨xs.length-(i+1),(),.mk hlt (s'.trans st) c3 (r'.stp st) () e' hab⟩
              .cases e'
            .cases e'
          .cases e'
        . have hi':i=xs.length:=()
          subst hi';rw[List.drop_length]at e';erw[Am]at e';cbv at e'
          . rename_i hgd
            ext e';let⟨_,stop⟩:=it L' H' _ s' c' hgd;refine .inl ⟨stop,BY hys hz,λp hp=>?_⟩;rw[CV]at hab;subst hab;exact q L' _ _ ((s1.trans s').trans (.upd hp)) (c'.upd hp) (zT.newLst (s1.trans s') c c' hp r')
          .cases e'
      .cases hf
    .cases hf
  .cases hf
structure QIfs (X:Cx) (ifs:Yi) (f:FT):Prop where
  un:DF X ifs (trT X.K f)
def zq:FT:=λ_ M=>some (true,M)
def Sq:QIfs X [] zq:=.mk λzB s Y H Q I h=>by
  let⟨L,Y',M,d,M',c,rs,hf,q⟩:=h;erw[zq]at hf;ext hf;calc X2 zB s Y H Q I (q L H (.refl L H) c)
def Rq {f:FT} (h:QT X c f):QIfs X [c] f:=.mk (Y7 h.un)
/-- the parts of a comprehension in its block -/
structure QParts (X:Cx) (scope:Y0) (tg:Expr) (ifs:Yi) (elt:Expr) (g:TG) (tc:FT) (te:FE):Prop where
  g:∀ zB cl s H fp,PG (zG X zB scope cl s H fp) tg g
  c:∀ zB cl s H fp,QIfs (zG X zB scope cl s H fp) ifs tc
  e:∀ zB cl s H fp,QE (zG X zB scope cl s H fp) elt te
def QParts.parts {g:TG} {tc:FT} {te:FE} (p:QParts X scope tg ifs elt g tc te):CompParts X scope tg ifs elt g (trT X.K tc) (trD X.K (toD te)) :=
  ⟨p.g,λzB cl s H fp=>(p.c zB cl s H fp).un,λzB cl s H fp=>(CZ (p.e zB cl s H fp)).un⟩
def JA {own:Yj} {fi:FI} {g:TG} {fg:FG} {tc:FT} {te:FE} (hg:CK own g fg) (C:CompIn X scope own) (hcalm:X.calm=true) (hi:QI X tg iter fi) (p:QParts X scope tg ifs elt g tc te) (hs:∀ x,foldedSetIterable iter X.env x=pure x:=by intro _;rfl) :
    QE X (.ListComp elt [⟨tg,iter,ifs,0⟩] scope pos) (zu own fi fg tc te):=.mk <| PE.imp (WM C hcalm hi.un p.parts hs) λ_ _ _ h=>Ox hg h
def Zj {i:Nat} {x:Str} {pos' pos'':Pos} {own:Yj} {fi:FI} {g:TG} {fg:FG} {tc:FT} {te:FE} (hN:X.N.Nodup) (hi':X.N[i]?=some x) (hx:Loc X.env.scope x) (hfn:X.fn x=true\/X.env.scope.names.lookup x=some .local)
    (hsw:swapsWith (.ListComp elt [⟨tg,iter,ifs,0⟩] scope pos) (some (.Name x pos')) pos''.line X.env=pure true)
    (hg:CK own g fg) (C:CompIn X scope own) (hcalm:X.calm=true) (hi:QI X tg iter fi) (p:QParts X scope tg ifs elt g tc te) (hs:∀ x,foldedSetIterable iter X.env x=pure x:=by intro _;rfl) :
    QS X (.Assign [.Name x pos'] (.ListComp elt [⟨tg,iter,ifs,0⟩] scope pos) pos'') (AN i (zu own fi fg tc te)) := 
  .mk <| PS.imp (VR hN hi' hx hfn C hcalm hi.un p.parts hsw hs) λ_ _ _ z=>MJ (λ_ _ _ z=>Ox hg z) z
end
abbrev FF:=List D->Mem->Option (D × Mem)
def spF (K:Yb) (n:Nat) (g:FF):Sp:=λvs H Q _=>∃ L ds M d M',Cor K L M H/\zE L H ds vs/\ds.length=n/\g ds M=some (d,M') /\ ∀ L' H' v,Stp L H L' H'->Cor K L' M' H'->Rep L' H' d v->Q v H'
def zX (g:FF) (fa:FA):FE:=λY M=>match fa Y M with
 |some (ds,M1)=>match g ds M1 with
  |some (d,M2)=>some (.dat d,M2)
  |none=>none
 |none=>none
section
variable {X:Cx} {e:Expr} {es:Yi} {pos p:Pos} {x:Str} {k:Nat} {f:Yt} {fd:Yz} {ps:Yk}
def RC (F:FnOk X.prog X.w X.K X.mg X.base CX0 k f fd ps (spF X.K (e::es).length g)) (hr:Room k X.A) (hg:Gl X x) (hm:X.mg x=some (.ref f)) (hk:PySem.W.keepIn X.K (.ref f)=true) (hb:Fv X.K fd ps [])
  (ha:QA X (e::es) fa) (hl:∀ Y M ds M1,fa Y M=some (ds,M1)->ds.length=(e::es).length) (hdb:(x==("__debug__" : Str))=false:=by decide) (he:starEach (e::es) X.env=(false,eval e X.env)::starEach es X.env:=by rfl) (hpl:(backTo pos (starEach es X.env)).any (·.1)=false:=by rfl) :
  QE X (.Call (.Name x p) (e::es) [] pos) (zX g fa) :=
 .mk <| PE.imp (T5 F hr hg hm hk hb .nil Ul ha.un hdb he hpl) λτ H Q zz=>by
  let⟨L,Y,M,d,M',c,rs,hf,q⟩:=zz;erw[zX]at hf;cbv at hf
  .rename_i ds M1 e1;cbv at hf
   .rename_i d' M2 e2;ext hf;refine ⟨L,Y,M,_,_,c,rs,e1,λL1 H1 vs s1 c1 r1=>?_⟩;dsimp only;rw[CV];exact ⟨L1,ds,M1,d',_,c1,r1,hl _ _ _ _ e1,e2,λL2 H2 v s2 c2 r2=>q L2 H2 v (s1.trans s2) c2 r2⟩
   .cases hf
  .cases hf
def HV (fa:FA) (n:Nat):Prop:=∀ Y M ds M1,fa Y M=some (ds,M1)->ds.length=n
def Vt:HV zR 0:=λY M ds M1 h=>by erw[zR]at h;ext h;rfl
def a8 {f:FD} {g:FA} {n:Nat} (h:HV g n):HV (zD f g) (n+1):=λY M ds M1 q=>by
 erw[zD]at q;cbv at q
 .split at q
  .rename_i e2;ext q;simp[h _ _ _ _ e2]
  .cases q
 .cases q
def Aj (n:Nat) (b:FS):FF:=λds M=>match b (ds.map some++List.replicate (n-ds.length) none) M with
 |some (.ret d,_,M')=>some (d,M')
 |some (.nx,_,M')=>some (.non,M')
 |_=>none
def PJ:∀ {ds:List D} {vs:List V},zE L H ds vs->Ad L H (ds.map some++List.replicate (N.length-ds.length) none) (L2.start N vs):=λ{ds vs} r=>by
 erw[L2.start];let hl:=r.length;refine ⟨by simp[hl],λi d q=>?_⟩;by_cases hi:i<ds.length
 .rw[BV (~~~hi),AW]at q;rw[BV (by simpa [hl] using hi),AW];cases e1:ds[i]? with
  |none=>rw[e1]at q;ext q
  |some d'=>
   rw[e1]at q;ext q;let⟨v,e2,r2⟩:=r.get e1;exact ⟨v,by rw[e2];rfl,r2⟩
 .rw[Gy (~~~hi),List.getElem?_replicate]at q;split at q <;> ext q
def BJ {P:Ym} {w:Yo} {K:Yb} {mg:Yh} {base:Heap} {qual:Str} {st:Stmt} {N:Yk} {b:FS} {n:Nat} (F:Fun K x qual st f fd) (S:FnScope N ps (zK st)) (hn:ps.length=n)
  (hb:∀ (cdv:Yu) (A:Yn) (outer:List Env) (s:Yl) (H:Hp) (E:XK),Room k (A.deeper (envOfC qual (zK st) ⇑s f cdv))->QSs (FY CX0 P w K mg base N qual (zK st) f cdv A outer s H E).nox (Et st) b) :
  FnOk P w K mg base CX0 (k+1) f fd ps (spF K n (Aj N.length b)):=by
 refine F.ok S (λvs H Q E h=>?_) (λcdv A outer s H vs Q E hr h=>⟨_,(hb cdv A outer s H E hr).un,?_⟩)
 .obtain ⟨L,ds,M,d,M',c,r,hl,_⟩:=h;rw[r.length,hl,hn]
 .obtain ⟨L,ds,M,d,M',c,r,hl,hf,q⟩:=h;erw[Aj]at hf;cbv at hf
  .rename_i d' Y' M1 e1;ext hf;exact ⟨L,_,M,_,_,_,c,PJ r,e1,λL1 H1 s1 c1 v r1=>q L1 H1 v s1 c1 r1⟩
  .rename_i Y' M1 e1;ext hf;exact ⟨L,_,M,_,_,_,c,PJ r,e1,λL1 H1 s1 c1 τ' r1=>q L1 H1 .non s1 c1 (by erw[Rep];rfl)⟩
  .cases hf
mutual
def D.und (n:Nat):D->Bool
 |.tup ds=>D.unds n ds
 |.ref k=>decide (k<n)
 |.fn _ ds=>D.unds n ds
 |_=>true
def D.unds (n:Nat):List D->Bool
 |[]=>true
 |d::ds=>D.und n d&&D.unds n ds
end
mutual
theorem Rep.less:∀ {d:D} {v:V},D.und L.length d=true->Rep (L++N) H d v->Rep L H d v
 |.non,_,_,h=>by unfold Rep at h ⊢;calc h
 |.bl _,_,_,h=>by unfold Rep at h ⊢;calc h
 |.int _,_,_,h=>by unfold Rep at h ⊢;calc h
 |.str _,_,_,h=>by unfold Rep at h ⊢;calc h
 |.tup ds,_,hb,h=>by
  erw[D.und]at hb;unfold Rep at h ⊢;let⟨a,vs,rfl,e,r⟩:=h;calc ⟨a,vs,rfl,e,zE.less hb r⟩
 |.ref n,_,hb,h=>by
  erw[D.und]at hb;unfold Rep at h ⊢;let⟨a,rfl,e⟩:=h;calc ⟨a,rfl,by rwa [BV (C2 hb)]at e⟩
 |.fn _ ds,_,hb,h=>by
  erw[D.und]at hb;unfold Rep at h ⊢;calc ⟨h.1,h.2.1,zE.less hb h.2.2⟩
theorem zE.less:∀ {ds:List D} {vs:List V},D.unds L.length ds=true->zE (L++N) H ds vs->zE L H ds vs
 |[],_,_,h=>by unfold zE at h ⊢;calc h
 |d::ds,_,hb,h=>by
  erw[D.unds]at hb;rw[Ay]at hb;unfold zE at h ⊢;let⟨v,r,rfl,h1,h2⟩:=h;calc ⟨v,r,rfl,Rep.less hb.1 h1,zE.less hb.2 h2⟩
end
def AO.less {κ:Type} {kf:D->Option κ} {L N:Yg} {H:Hp}:∀ {ps:List (D × D)} {vs:List (κ × V)},(ps.all λp=>D.und L.length p.1&&D.und L.length p.2)=true->AO kf (L++N) H ps vs->AO kf L H ps vs
 |[],_,_,h=>h
 |p::r,_,hb,h=>by
  rw[List.all_cons,Ay,Ay]at hb;let⟨k,v,r',rfl,e,h1,h2⟩:=h;calc ⟨k,v,r',rfl,e,Rep.less hb.1.2 h1,AO.less hb.2 h2⟩
def MO.und (n:Nat):MO->Bool
 |.lst xs=>D.unds n xs
 |.fro xs=>D.unds n xs
 |.dict kvs=>kvs.all λp=>D.und n p.1&&D.und n p.2
 |.dicT kvs=>kvs.all λp=>D.und n p.1&&D.und n p.2
 |.set xs=>D.unds n xs
 |.froT kvs=>kvs.all λp=>D.und n p.1&&D.und n p.2
 |.froK kvs=>kvs.all λp=>D.und n p.1&&D.und n p.2
def Ec (g:FF):FF:=λds M=>match g ds M with
 |some (d,M')=>if D.und M.length d&&(M'.take M.length).all (MO.und M.length)&&decide (M.length<=M'.length) then some (d,M'.take M.length) else none
 |none=>none
def Ir {P:Ym} {w:Yo} {K:Yb} {mg:Yh} {base:Heap} {n:Nat} {g:FF} (h:FnOk P w K mg base CX0 k f fd ps (spF K n g)):FnOk P w K mg base CX0 k f fd ps (spF K n (Ec g)) :=
 h.imp λvs H Q E ⟨L,ds,M,d,M',c,r,hl,hf,q⟩=>by
  erw[Ec]at hf;cbv at hf
  .rename_i d' M1 e1;cbv at hf
   .rename_i hb;ext hf;simp only[Ay,D2,An]at hb;let⟨⟨hb1,hb2⟩,hb3⟩:=hb;refine ⟨L,ds,M,_,_,c,r,hl,e1,λL1 H1 v s1 c1 r1=>?_⟩;let⟨N,rfl⟩:=s1.pre;rw[<-c.len]at hb1 hb2 hb3;refine q L H1 v ⟨⟨[],by simp⟩,λa ha=> .inl ha,s1.old,s1.tup,s1.frz,s1.tbl⟩ ⟨?_,?_,λi a m e2 e3=>?_,c1.tab⟩ (Rep.less hb1 r1)
    .rw[Cz,<-c.len];omega
    .exact (EZ.mp c1.nd).1
    .rw[<-c.len]at e3;let hi:i<L.length:=(AY.mp e2).1;let hm:m∈M1.take L.length:=Bn e3;rw[List.getElem?_take_of_lt hi]at e3;let z:=c1.obj i a m (G4 e2) e3;let bl:=hb2 m hm;cases m with
     |lst xs=>let⟨ws,e4,r4⟩:=z;calc ⟨ws,e4,zE.less bl r4⟩
     |fro xs=>let⟨o,ws,e4,r4⟩:=z;calc ⟨o,ws,e4,zE.less bl r4⟩
     |dict ps=>let⟨vs,e,r⟩:=z;calc ⟨vs,e,AO.less bl r⟩
     |dicT ps=>let⟨vs,e,r⟩:=z;calc ⟨vs,e,AO.less bl r⟩
     |set _=>calc z
     |froT ps=>let⟨o,vs,e,r⟩:=z;calc ⟨o,vs,e,AO.less bl r⟩
     |froK ps=>let⟨o,vs,e,r⟩:=z;exact ⟨o,vs,e,AO.less bl r⟩
   .cases hf
  .cases hf
def Ct (g:FF):FF:=λds M=>if D.unds 0 ds then match g ds [] with
  |some (d,_)=>if D.und 0 d then some (d,M) else none
  |none=>none
 else none
def EN {P:Ym} {w:Yo} {K:Yb} {mg:Yh} {base:Heap} {n:Nat} {g:FF} (h:FnOk P w K mg base CX0 k f fd ps (spF K n g)):FnOk P w K mg base CX0 k f fd ps (spF K n (Ct g)) :=
 h.imp λvs H Q E ⟨L,ds,M,d,M',c,r,hl,hf,q⟩=>by
  erw[Ct]at hf;cbv at hf
  .rename_i hb0;cbv at hf
   .rename_i d' M1 e1;cbv at hf
    .rename_i hb;ext hf;refine ⟨[],ds,[],_,_,⟨rfl,.nil,λi a m e=>by simp at e,c.tab⟩,zE.less (L:=[]) (N:=L) hb0 (~~~r),hl,e1,λL1 H1 v s1 c1 r1=>?_⟩;exact q L H1 v s1.bare (c.bare s1) ((Rep.less (L:=[]) (N:=L1) hb (~~~r1)).more L |> λz=>by simpa using z)
    .cases hf
   .cases hf
  .cases hf
def Rm (hl:PE X l tl):PI X tg l (λY H R=>tl Y H λx H1=>∃ a,x=.ref a/\((∃ xs,SqL X.K H1 a xs)/\R (Itl X.K a) H1\/(∃ xs,SqT X.K H1 a xs)/\R (Itt X.K a) H1)):=by
 intro zB s Y H R I h;refine thn (hl zB s Y H _ I h) λv s1 ⟨y,H1,I1,r1,a,hy,h1⟩=>?_;subst hy;ext r1;let fpk:∀ b∈[⇑s1],BL X zB H1 b:=λb hb=>by
  let e:b=⇑s1:=by simpa using hb
  subst e;exact I1.fpOk (AF _) (I1.hok.fresh (AF _))
 rcases h1 with ⟨⟨xs,hq⟩,q⟩|⟨⟨xs,hq⟩,q⟩
 .obtain ⟨its,rv,pl,hz⟩:=I1.list hq;exact wpAny_pyIter_list pl.isList ⟨⇑s1,[⇑s1],_,_,H1,rfl,I1.kept (t':=s1.toks) λb o e=>AH _ e,aV a _,⟨_,AK _ rfl,rfl,rfl⟩,fpk,q⟩
 .obtain ⟨its,rv,pl,hz⟩:=I1.tuple hq;calc wpAny_pyIter_tuple (show s1.heap.IsTuple a its.toArray from pl) ⟨⇑s1,[⇑s1],_,_,H1,rfl,I1.kept (t':=s1.toks) λb o e=>AH _ e,cF a _,⟨_,AK _ rfl,rfl,rfl⟩,fpk,q⟩
def P2 (x:EV) (xs:List D):Option (Mem->Prop):=match x with
 |.dat (.ref n)=>some λM=>M[n]?=some (.lst xs)\/M[n]?=some (.fro xs)
 |_=>none
def Aa (f:FE):FI:=λY M=>match f Y M with
 |some (x,M1)=>match zr M1 x with
  |some xs=>some (xs,P2 x xs,M1)
  |none=>none
 |none=>none
def Bj (f:FA):FI:=λY M=>match f Y M with
 |some ([.int j],M1)=>if -(2 ^ 62)<=j/\j<2 ^ 62 then some ((List.range j.toNat).map λ(k:Nat)=>D.int k,none,M1) else none
 |some ([.int i,.int j],M1)=>if -(2 ^ 62)<=i/\i<2 ^ 62 /\ -(2 ^ 62)<=j/\j<2 ^ 62 then some ((List.range (j-i).toNat).map λ(k:Nat)=>D.int (i+k),none,M1) else none
 |_=>none
def eZ (h:QE X e g):QI X tg e (Aa g):=.mk <| PI.imp (Rm h.un) λτ H R zz=>by
 let⟨L,Y,M,xs,gd,M',c,rs,hf,q⟩:=zz;erw[Aa]at hf;cbv at hf
 .rename_i y M1 e1;cbv at hf
  .rename_i zs e2;ext hf;refine (mkE c rs e1 (λL1 H1 v s1 c1 r1=>?_));erw[zr]at e2;cases t:Cr y with
   |some ws=>
    rw[t]at e2;ext e2;let⟨a,vs,rfl,e3,r3⟩:=DH r1 t;refine ⟨a,rfl,.inr ⟨⟨vs,.of e3⟩,q L1 H1 _ s1 c1 λL2 H2 M2 s2 c2 _=>?_⟩⟩;let e4:=s2.tup a vs e3;let r4:=r3.stp s2;refine ⟨λi d hd=>?_,⟨vs,.of e4,by rw[r4.length];calc AF _⟩⟩;let⟨u,hu,ru⟩:=r4.get hd;refine ⟨⟨vs,u,.of e4,hu⟩,λv H3 ⟨hH,hv⟩=>?_⟩;subst hH;have:=hv vs (.of e4);rw[hu]at this;ext this;exact ⟨λ_ _ z=>z,ru⟩
   |none=>
    rw[t]at e2;dsimp only at e2;let⟨a,vs,rfl,e3,r3⟩:=Cf c1 r1 e2;refine ⟨a,rfl,.inl ⟨⟨vs,.inl e3⟩,q L1 H1 _ s1 c1 λL2 H2 M2 s2 c2 hgd=>?_⟩⟩;let key:∃ vs',SqL X.K H2 a vs'/\zE L2 H2 xs vs':=by
     cases y with
     |fl ys=>
      ext e2;let⟨p',vs',hp',_,e5,e6,r6⟩:=r1;ext hp';calc ⟨vs',.of (s2.old _ _ e5 e6 (by intro _ z;ext z)),r6.stp s2⟩
     |dat d=>
      cases d with
      |ref n=>
       erw[zT,Rep]at r1;let⟨a',ha',e5⟩:=r1;ext ha';let e6:L2[n]?=some a:=by let⟨N,hN⟩:=s2.pre;rw[hN];exact G4 e5
       rcases hgd with z|z
       .obtain ⟨vs',e7,r7⟩:=c2.obj n a _ e6 z;exact ⟨vs',.of e7,r7⟩
       .obtain ⟨o,vs',e7,r7⟩:=c2.obj n a _ e6 z;calc ⟨vs',.inl (.inr ⟨o,e7⟩),r7⟩
      |_=>ext e2
    let⟨vs',hq,r7⟩:=key;refine ⟨λi d hd=>?_,⟨vs',hq,by rw[r7.length];calc AF _⟩⟩;let⟨u,hu,ru⟩:=r7.get hd;refine ⟨⟨vs',u,hq,hu⟩,λv H3 ⟨hH,hv⟩=>?_⟩;subst hH;have:=hv vs' hq;rw[hu]at this;ext this;exact ⟨λ_ _ z=>z,ru⟩
  .cases hf
 .cases hf
def Il (h:zE L H [.int j] vs):vs=[.int j]:=by
 erw[zE]at h;let⟨v,r,rfl,h1,h2⟩:=h;erw[zE]at h2;erw[Rep]at h1;subst h1 h2;rfl
def aE (h:zE L H [.int i,.int j] vs):vs=[.int i,.int j]:=by
 erw[zE]at h;let⟨v,r,rfl,h1,h2⟩:=h;erw[Rep]at h1;rw[Il h2,h1]
def OA {K:Yb} {L:Yg} {H:Hp} {lo:Int} {n:Nat}:Ll K (Itr lo n) L H ((List.range n).map λ(k:Nat)=>D.int (lo+k)) none:=by
 intro L' H' M' s c _;refine ⟨λi d hd=>?_,by simp[Itr]⟩;rw[AW]at hd;cases q:(List.range n)[i]? with
 |none=>rw[q]at hd;ext hd
 |some k=>
  rw[q]at hd;ext hd;let hi:i<n:=by have:=(AY.mp q).1;simpa using this
  rw[List.getElem?_range hi]at q;ext q;refine ⟨hi,λv H'' ⟨hH,hv⟩=>?_⟩;subst hH hv;calc ⟨λ_ _ z=>z,B6⟩
def SR {tg a:Expr} {g:FA} (hg:Gl X "range") (hm:X.mg "range" = none) (ha:QA X [a] g) (hl:HV g 1) (hs:starEach [a] X.env=[(false,eval a X.env)]:=by rfl):QI X tg (.Call (.Name "range" p) [a] [] pos) (Bj g) :=
 .mk <| PI.imp (WN hg hm ha.un hs) λτ H R zz=>by
  let⟨L,Y,M,xs,gd,M',c,rs,hf,q⟩:=zz;erw[Bj]at hf;cbv at hf
  .rename_i j M1 e1;cbv at hf
   .rename_i hb;ext hf;refine (mkA c rs e1 (λL1 H1 vs s1 c1 r1=>⟨j,Il r1,hb.1,hb.2,q L1 H1 _ s1 c1 ?_⟩));let z:=OA (K:=X.K) (L:=L1) (H:=H1) (lo:=0) (n:=j.toNat);simpa using z
   .cases hf
  .rename_i e1;have:=hl _ _ _ _ e1;simp at this
  .cases hf
def YA (hg:Gl X "range") (hm:X.mg "range" = none) (ha:QA X [a,b] g) (hl:HV g 2) (hs:starEach [a,b] X.env=[(false,eval a X.env),(false,eval b X.env)]:=by rfl) (hs2:starEach [b] X.env=[(false,eval b X.env)]:=by rfl):QI X tg (.Call (.Name "range" p) [a,b] [] pos) (Bj g) :=
 .mk <| PI.imp (Xc hg hm ha.un hs hs2) λτ H R zz=>by
  let⟨L,Y,M,xs,gd,M',c,rs,hf,q⟩:=zz;erw[Bj]at hf;cbv at hf
  .rename_i e1;have:=hl _ _ _ _ e1;simp at this
  .rename_i i j M1 e1;cbv at hf
   .rename_i hb;ext hf;exact (mkA c rs e1 (λL1 H1 vs s1 c1 r1=>⟨i,j,aE r1,hb,q L1 H1 _ s1 c1 OA⟩))
   .cases hf
  .cases hf
end
section
variable {X:Cx} {a b c e:Expr} {es rest:Yi} {pos p apos cpos:Pos}
def EG (f g:FT):FT:=λY M=>match f Y M with
 |some (true,M1)=>g Y M1
 |r=>r
def CU (f g:FT):FT:=λY M=>match f Y M with
 |some (false,M1)=>g Y M1
 |r=>r
def DD (f:FT):FT:=λY M=>match f Y M with
 |some (k,M1)=>some (!k,M1)
 |none=>none
structure QW (X:Cx) (e:Expr) (f:FT):Prop where
 un:PW X e (trT X.K f)
def PW.imp (h:PW X e t) (hi:∀ τ H Q,t' τ H Q->t τ H Q):PW X e t':=λwh zB s Y H Q I q=>h wh zB s Y H Q I (hi _ _ _ q)
def X7 (h:QT X a f):QW X (.BoolOp .And [a] pos) f:=.mk (XA h.un)
def V5 (h:QT X a f):QW X (.BoolOp .Or [a] pos) f:=.mk (eE h.un)
def Ug (h1:QT X a f) (h2:QW X (.BoolOp .And (b::rest) pos) g):QW X (.BoolOp .And (a::b::rest) pos) (EG f g):=.mk <| PW.imp (XT h1.un h2.un) λτ H Q zz=>by
 let⟨L,Y,M,d,M',c,rs,hf,q⟩:=zz;erw[EG]at hf;cbv at hf
 .rename_i M1 e1;exact (mkT c rs e1 (λL1 H1 s1 c1=>DU (mkT c1 (rs.stp s1) hf (λL2 H2 s2 c2=>q L2 H2 (s1.trans s2) c2))))
 .rename_i hne;cases d with
  |true=>calc absurd hf (hne M')
  |false=>calc (mkT c rs hf (λL1 H1 s1 c1=>Dd (q L1 H1 s1 c1)))
def QU (h1:QT X a f) (h2:QW X (.BoolOp .Or (b::rest) pos) g):QW X (.BoolOp .Or (a::b::rest) pos) (CU f g):=.mk <| PW.imp (R5 h1.un h2.un) λτ H Q zz=>by
 let⟨L,Y,M,d,M',c,rs,hf,q⟩:=zz;erw[CU]at hf;cbv at hf
 .rename_i M1 e1;exact (mkT c rs e1 (λL1 H1 s1 c1=>Dd (mkT c1 (rs.stp s1) hf (λL2 H2 s2 c2=>q L2 H2 (s1.trans s2) c2))))
 .rename_i hne;cases d with
  |false=>calc absurd hf (hne M')
  |true=>calc (mkT c rs hf (λL1 H1 s1 c1=>DU (q L1 H1 s1 c1)))
def Qs (h:QW X e f):QT X e f:=.mk (PW.pt h.un)
def VD (h:QT X a f):QT X (.UnaryOp .Not a pos) (DD f):=.mk <| PT.imp (TL h.un) λτ H Q zz=>by
 let⟨L,Y,M,d,M',c,rs,hf,q⟩:=zz;erw[DD]at hf;cbv at hf
 .rename_i k M1 e1;ext hf;exact (mkT c rs e1 (λL1 H1 s1 c1=>q L1 H1 s1 c1))
 .cases hf
def Cv (f g:FE):FE:=λY M=>match f Y M with
 |some (.dat (.bl true),M1)=>g Y M1
 |some (.dat (.bl false),M1)=>some (.dat (.bl false),M1)
 |_=>none
def HH (f:FE):FE:=λY M=>match f Y M with
 |some (.dat (.bl k),M1)=>some (.dat (.bl (!k)),M1)
 |_=>none
def FQ (h:zT H0 L H (.dat (.bl k)) v):v=.bl k:=by erw[zT,Rep]at h;calc h
def bV {op} (h:QE X a f):QE X (.BoolOp op [a] pos) f:=.mk (TR h.un)
def RQ (h1:QE X a f) (h2:QE X (.BoolOp .And (b::rest) pos) g):QE X (.BoolOp .And (a::b::rest) pos) (Cv f g):=.mk <| PE.imp (YG h1.un h2.un) λτ H Q zz=>by
 let⟨L,Y,M,d,M',c,rs,hf,q⟩:=zz;erw[Cv]at hf;cbv at hf
 .rename_i M1 e1;exact (mkE c rs e1 (λL1 H1 v s1 c1 r1=>⟨true,FQ r1,DU (mkE c1 (rs.stp s1) hf (λL2 H2 w s2 c2 r2=>q L2 H2 w (s1.trans s2) c2 (r2.back s1 c s2.sub)))⟩))
 .rename_i M1 e1;ext hf;exact (mkE c rs e1 (λL1 H1 v s1 c1 r1=>⟨false,FQ r1,Dd (q L1 H1 _ s1 c1 (by have:=FQ r1;subst this;calc r1))⟩))
 .cases hf
def aO (h:QE X a f):QE X (.UnaryOp .Not a pos) (HH f):=.mk <| PE.imp (Zi h.un) λτ H Q zz=>by
 let⟨L,Y,M,d,M',c,rs,hf,q⟩:=zz;erw[HH]at hf;cbv at hf
 .rename_i k M1 e1;ext hf;exact (mkE c rs e1 (λL1 H1 v s1 c1 r1=>⟨k,FQ r1,q L1 H1 _ s1 c1 (by erw[zT,Rep];rfl)⟩))
 .cases hf
abbrev KM:=EV->List D->Mem->Option (D × Mem)
def fM (k:KM) (f:FE) (g:FA):FE:=λY M=>match f Y M with
 |some (x,M1)=>match BO M1 x with
  |some _=>match g Y M1 with
   |some (ds,M2)=>match k x ds M2 with
    |some (d,M3)=>some (.dat d,M3)
    |none=>none
   |none=>none
  |none=>none
 |none=>none
def Kk (K:Yb) (r:V->List V->Hp->VK->Prop) (k:KM):Prop:=∀ {L:Yg} {M M':Mem} {H H0:Hp} {x:EV} {ds:List D} {d:D} {v:V} {vs:List V} {Q:VK},Cor K L M H->zT H0 L H x v->zE L H ds vs->k x ds M=some (d,M') ->
 (∀ L' H' u,Stp L H L' H'->Cor K L' M' H'->Rep L' H' d u->Q u H')->r v vs H Q
def Np {K:PySem.W.Frag} {r:V->List V->Hp->VK->Prop} {k:KM} {f:FE} {g:FA} (hk:Kk K r k) {τ:Sv} {H:Hp} {Q:VK} (h:trE K (fM k f g) τ H Q):tBM K "list" r (trE K f) (trA K g) τ H Q:=by
 let⟨L,Y,M,d,M',c,rs,hf,q⟩:=h;erw[fM]at hf;cbv at hf
 .rename_i x M1 e1;cbv at hf
  .rename_i xs e2;cbv at hf
   .rename_i ds M2 e3;cbv at hf
    .rename_i d' M3 e4;ext hf;refine (mkE c rs e1 (λL1 H1 v s1 c1 r1=>?_));let⟨a,vs,rfl,e5,r5⟩:=Cf c1 r1 e2;refine ⟨.inl ⟨rfl,vs,.inl e5⟩,L1,Y,M1,_,_,c1,rs.stp s1,e3,λL2 H2 ws s2 c2 r2=>?_⟩;exact hk c2 (r1.stp s2) r2 e4 λL3 H3 u s3 c3 r3=>q L3 H3 u ((s1.trans s2).trans s3) c3 r3
    .cases hf
   .cases hf
  .cases hf
 .cases hf
def EA:KM:=λx ds M=>match x,ds with
 |.dat (.ref n),[d]=>match M[n]? with
  |some (.lst xs)=>if xs.length<sizeLine then some (.non,M.set n (.lst (xs++[d]))) else none
  |_=>none
 |_,_=>none
def zE.one (h:zE L H [d] vs):∃ v,vs=[v]/\Rep L H d v:=by
 erw[zE]at h;let⟨v,r,rfl,h1,h2⟩:=h;erw[zE]at h2;subst h2;calc ⟨v,rfl,h1⟩
def Tp {K:Yb}:Kk K NS EA:=by
 intro L M M' H H0 x ds d v vs Q c rx rd hk q;erw[EA]at hk;cbv at hk
 .rename_i n d';cbv at hk
  .rename_i xs e1;cbv at hk
   .rename_i hz;ext hk;erw[zT,Rep]at rx;let⟨a,rfl,e2⟩:=rx;let⟨ws,e3,r3⟩:=c.obj n a _ e2 e1;let⟨w,rfl,r4⟩:=rd.one;let⟨c5,s5⟩:=c.write e2 e1 (r3.app (.cons r4 .nil));exact ⟨a,ws,w,rfl,rfl,e3,by rw[r3.length];calc hz,q L _ _ s5 c5 (by erw[Rep];rfl)⟩
   .cases hk
  .cases hk
 .cases hk
def VH (h:QE X a f) (hg:QA X [e] g) (hbase:attributeBase a "append" X.env (eval a X.env)=eval a X.env:=by rfl)
  (hfew:((backTo cpos (starEach [e] X.env)).all (λx=> !x.1)&&(backToKw cpos (keywordEach [] X.env)).all (λx=>x.1.isSome)&&decide ([e].length+([]:List Keyword).length+(if ([]:List Keyword).isEmpty then 0 else 1)<30))=true:=by rfl)
  (hline:(apos.endLine==cpos.line)=true:=by rfl) (hs:starEach [e] X.env=(false,eval e X.env)::starEach [] X.env:=by rfl) (hplain:(backTo cpos (starEach [] X.env)).any (·.1)=false:=by rfl) :
  QE X (.Call (.Attribute a "append" apos) [e] [] cpos) (fM EA f g) :=
 .mk <| PE.imp (LC PySem.F.plainAttrs_list PySem.F.slot_list_append PySem.F.type_list_append UW h.un hg.un hbase hfew hline hs hplain) λ_ _ _ z=>Np Tp z
def DY:KM:=λx ds M=>match x,ds with
 |.dat (.ref n),[.int i]=>match M[n]? with
  |some (.lst xs)=>match ixN xs.length i with
   |some k=>match xs[k]? with
    |some d=>if -(2 ^ 63)<=i/\i<2 ^ 63 then some (d,M.set n (.lst (xs.eraseIdx k))) else none
    |none=>none
   |none=>none
  |_=>none
 |_,_=>none
def RT {K:Yb}:Kk K Mt DY:=by
 intro L M M' H H0 x ds d v vs Q c rx rd hk q;erw[DY]at hk;cbv at hk
 .rename_i n i;cbv at hk
  .rename_i xs e1;cbv at hk
   .rename_i k e2;cbv at hk
    .rename_i d' e3;cbv at hk
     .rename_i hb;ext hk;erw[zT,Rep]at rx;let⟨a,rfl,e4⟩:=rx;let⟨ws,e5,r5⟩:=c.obj n a _ e4 e1;let⟨u,e6,r6⟩:=r5.get e3;let⟨c5,s5⟩:=c.write e4 e1 (r5.eraseIdx k);exact ⟨a,ws,i,k,u,rfl,Il rd,e5,hb.1,hb.2,by rw[r5.length];calc (KG e2).1,e6,q L _ _ s5 c5 (r6.stp s5)⟩
     .cases hk
    .cases hk
   .cases hk
  .cases hk
 .cases hk
def cU (h:QE X a f) (hg:QA X [e] g) (hbase:attributeBase a "pop" X.env (eval a X.env)=eval a X.env:=by rfl)
  (hfew:((backTo cpos (starEach [e] X.env)).all (λx=> !x.1)&&(backToKw cpos (keywordEach [] X.env)).all (λx=>x.1.isSome)&&decide ([e].length+([]:List Keyword).length+(if ([]:List Keyword).isEmpty then 0 else 1)<30))=true:=by rfl)
  (hline:(apos.endLine==cpos.line)=true:=by rfl) (hs:starEach [e] X.env=(false,eval e X.env)::starEach [] X.env:=by rfl) (hplain:(backTo cpos (starEach [] X.env)).any (·.1)=false:=by rfl) :
  QE X (.Call (.Attribute a "pop" apos) [e] [] cpos) (fM DY f g) :=
 .mk <| PE.imp (LC PySem.F.plainAttrs_list PySem.F.slot_list_pop PySem.F.type_list_pop UK h.un hg.un hbase hfew hline hs hplain) λ_ _ _ z=>Np RT z
def Hd (x:EV) (i:D) (d:D) (M:Mem):Option Mem:=match x,i with
 |.dat (.ref n),.int i=>match M[n]? with
  |some (.lst xs)=>match ixN xs.length i with
   |some j=>some (M.set n (.lst (xs.set j d)))
   |none=>none
  |_=>none
 |_,_=>none
def G6 (fv fo fi:FE):FS:=λY M=>match toD fv Y M with
 |some (d,M1)=>match fo Y M1 with
  |some (x,M2)=>match toD fi Y M2 with
   |some (i,M3)=>match Hd x i d M3 with
    |some M4=>some (.nx,Y,M4)
    |none=>none
   |none=>none
  |none=>none
 |none=>none
def RN (hv:QE X v fv) (ho:QE X o fo) (hi:QE X i fi)
  (ha:∀ v,assign (.Subscript o i p) X.env v=(do
   let ov <- holding [v] (eval o X.env);let iv <- holding [v,ov] (eval i X.env);standAt p;holding [v,ov,iv] (setItem ov iv v);release [v,ov,iv] []):=by intro _;rfl)
  (hs:swapsWithSole [.Subscript o i p] v pos.line X.env=pure false:=by rfl) (hw:swappedStores [.Subscript o i p] v X.env=pure none:=by rfl) (h1:(assignEach [.Subscript o i p] X.env).map (·.2)=[assign (.Subscript o i p) X.env]:=by rfl) :
  QS X (.Assign [.Subscript o i p] v pos) (G6 fv fo fi):=.mk <| PS.imp (Mm (CZ hv).un (V6 ho.un (CZ hi).un eO ha) hs hw h1) λE τ H zz=>by
 let⟨L,Y,M,out,Y',M',c,rs,hf,q⟩:=zz;erw[G6]at hf;cbv at hf
 .rename_i d M1 e1;cbv at hf
  .rename_i x M2 e2;cbv at hf
   .rename_i j M3 e3;cbv at hf
    .rename_i M4 e4;ext hf;refine ⟨L,Y,M,_,_,c,rs,e1,λL1 H1 u s1 c1 r1=>⟨L1,Y,M1,_,_,c1,rs.stp s1,e2,λL2 H2 w s2 c2 r2=>⟨L2,Y,M2,_,_,c2,rs.stp (s1.trans s2),e3,λL3 H3 z s3 c3 r3=>?_⟩⟩⟩;let st:=(s1.trans s2).trans s3;erw[Hd]at e4;cbv at e4
     .rename_i n k;cbv at e4
      .rename_i xs e5;cbv at e4
       .rename_i m e6;ext e4;let r2':=r2.stp s3;erw[zT,Rep]at r2';let⟨a,rfl,e7⟩:=r2';let⟨ws,e8,r8⟩:=c3.obj n a _ e7 e5;let⟨c9,s9⟩:=c3.write e7 e5 (zE.set ((r1.stp s2).stp s3) m r8);exact ⟨a,ws,k,m,rfl,by erw[Rep]at r3;calc r3,e8,by rw[r8.length];calc e6,q L3 _ (st.trans s9) c9 τ ((rs.stp st).stp s9)⟩
       .cases e4
      .cases e4
     .cases e4
    .cases hf
   .cases hf
  .cases hf
 .cases hf
def G1:D->Option V
 |.non=>some .non
 |.bl k=>some (.bl k)
 |.int i=>some (.int i)
 |.str x=>some (.str x)
 |_=>none
def Jd (h:Rep L H d v) (e:G1 d=some u):v=u:=by
 cases d with
 |non=>ext e;erw[Rep]at h;calc h
 |bl _=>ext e;erw[Rep]at h;calc h
 |int _=>ext e;erw[Rep]at h;calc h
 |str _=>ext e;erw[Rep]at h;calc h
 |tup _=>ext e
 |ref _=>ext e
 |fn _ _=>ext e
def FL (neg:Bool):K2:=λx y M=>match x,y with
 |.dat d,.dat d'=>match G1 d,G1 d' with
  |some u,some w=>if Jj u w then some (.dat (.bl (if neg then !decide (u=w) else decide (u=w))),M) else none
  |_,_=>none
 |_,_=>none
def Ny (h:FL neg x y M=some (r,M')):∃ d d' u w,x=.dat d/\y=.dat d'/\G1 d=some u/\G1 d'=some w/\Jj u w=true/\r=.dat (.bl (if neg then !decide (u=w) else decide (u=w)))/\M'=M:=by
 erw[FL]at h;cbv at h
 .rename_i d d';cbv at h
  .rename_i u w e1 e2;cbv at h
   .rename_i hs;ext h;exact ⟨d,d',u,w,rfl,rfl,e1,e2,hs,rfl,rfl⟩
   .cases h
  .cases h
 .cases h
def N7 {K:Yb}:A9 K rEq (FL false):=by
 intro L M M' H H0 x y d v w Q c rx ry hk q;let⟨d1,d2,u,z,rfl,rfl,e1,e2,hs,rfl,rfl⟩:=Ny hk;let a1:=Jd rx e1;let a2:=Jd ry e2;subst a1 a2;calc ⟨hs,q L H _ (.refl L H) c (Bl (L:=L) (H:=H))⟩
def Y6 {K:Yb}:A9 K rNe (FL true):=by
 intro L M M' H H0 x y d v w Q c rx ry hk q;let⟨d1,d2,u,z,rfl,rfl,e1,e2,hs,rfl,rfl⟩:=Ny hk;let a1:=Jd rx e1;let a2:=Jd ry e2;subst a1 a2;calc ⟨hs,q L H _ (.refl L H) c (Bl (L:=L) (H:=H))⟩
def KU (neg:Bool) (K:Yb):R2:=λx y H Q=>∃ p q xs,x=.ref p/\y=.ref q/\SqL K H p xs/\SqL K H q []/\Q (.bl (if neg then !xs.isEmpty else xs.isEmpty)) H
def K7 (r:zU [] its):its=[]:=by ext r;rfl
def Ol (hu:X.A.units<cLine):OpR X (compareOp .Eq) (KU false X.K):=by
 intro zB s Y H x y v u Q I rx ry h;let⟨p,q,xs,rfl,rfl,h1,h2,hq⟩:=h;ext rx;ext ry;let⟨its,rv,pl,_⟩:=I.list h1;let⟨its2,rv2,pl2,_⟩:=I.list h2;cases K7 rv2;cases rv with
 |nil=>exact SeqAt.eq_listAt (e:=λ_=>true) pl.isList pl2.isList rfl hu (λj h1=>by simp at h1) ⟨.bl true,H,I,rfl,hq⟩
 |cons _ _=>calc SeqAt.eq_list_lengthsAt pl.isList pl2.isList (by simp) hu ⟨.bl false,H,I,rfl,hq⟩
def cQ (hu:X.A.units<cLine):OpR X (compareOp .NotEq) (KU true X.K):=by
 intro zB s Y H x y v u Q I rx ry h;let⟨p,q,xs,rfl,rfl,h1,h2,hq⟩:=h;ext rx;ext ry;let⟨its,rv,pl,_⟩:=I.list h1;let⟨its2,rv2,pl2,_⟩:=I.list h2;cases K7 rv2;cases rv with
 |nil=>exact SeqAt.RcNeAt.lists (e:=λ_=>true) pl.isList pl2.isList rfl hu (λj h1=>by simp at h1) _ _ _ _ ⟨.bl false,H,I,rfl,hq⟩
 |cons _ _=>calc SeqAt.RcNeAt.lists_lengths pl.isList pl2.isList (by simp) hu _ _ _ _ ⟨.bl true,H,I,rfl,hq⟩
def HS (neg:Bool):K2:=λx y M=>match BO M x,BO M y with
 |some xs,some []=>some (.dat (.bl (if neg then !xs.isEmpty else xs.isEmpty)),M)
 |_,_=>none
def Lk {K:Yb} {neg:Bool}:A9 K (KU neg K) (HS neg):=by
 intro L M M' H H0 x y d v w Q c rx ry hk q;erw[HS]at hk;cbv at hk
 .rename_i xs e1 e2;ext hk;let⟨p1,vs,rfl,h1,r1⟩:=Cf c rx e1;let⟨p2,ws,rfl,h2,r2⟩:=Cf c ry e2;erw[zE]at r2;subst r2;refine ⟨p1,p2,vs,rfl,rfl,.inl h1,.inl h2,q L H _ (.refl L H) c ?_⟩;have:vs.isEmpty=xs.isEmpty:=by
   have:=r1.length;cases vs <;> cases xs <;> simp_all
  rw[this];exact (Bl (L:=L) (H:=H))
 .cases hk
def kOr (k1 k2:K2):K2:=λx y M=>match k1 x y M with
 |some r=>some r
 |none=>k2 x y M
def Ip {K:Yb} {r1 r2:R2} {k1 k2:K2} (h1:A9 K r1 k1) (h2:A9 K r2 k2):A9 K (λx y H Q=>r1 x y H Q\/r2 x y H Q) (kOr k1 k2):=by
 intro L M M' H H0 x y d v w Q c rx ry hk q;erw[kOr]at hk;cbv at hk
 .rename_i r e1;ext hk;exact .inl (h1 c rx ry e1 q)
 .exact .inr (h2 c rx ry hk q)
abbrev kEq:K2:=kOr (FL false) (HS false)
abbrev kNe:K2:=kOr (FL true) (HS true)
variable {f g:FE}
def Zd (hu:X.A.units<cLine) (h1:QE X a f) (h2:QE X b g):QE X (.Compare a [.Eq] [b] pos) (fOp kEq f g):=JB (Ip N7 Lk) (Nk.or (Ol hu)) h1 h2 (DT _)
def gD (hu:X.A.units<cLine) (h1:QE X a f) (h2:QE X b g):QT X (.Compare a [.Eq] [b] pos) (tst (fOp kEq f g)):=Ep (Ip N7 Lk) (Nk.or (Ol hu)) h1 h2 (DT _)
def bF (hu:X.A.units<cLine) (h1:QE X a f) (h2:QE X b g):QT X (.Compare a [.NotEq] [b] pos) (tst (fOp kNe f g)):=Ep (Ip Y6 Lk) (Vl.or (cQ hu)) h1 h2 (DT _)
def FC:KB:=λxs M=>match xs with
 |[.dat (.int i)]=>some (.dat (.int (if i<0 then -i else i)),M)
 |_=>none
def dO {K:Yb}:C4 K (λxs H Q=>∃ i,xs=[.int i]/\Q (.int (if i<0 then -i else i)) H) FC:=by
 intro L M M' H H0 xs d vs Q c r hk q;erw[FC]at hk;cbv at hk
 .rename_i i;ext hk;let⟨v,rfl,r1⟩:=r.one;have:v=.int i:=by erw[zT,Rep]at r1;exact r1
  subst this;exact ⟨i,rfl,q L H _ (.refl L H) c (B6 (L:=L) (H:=H))⟩
 .cases hk
end
section
variable {X:Cx} {a b c e:Expr} {es rest:Yi} {pos p apos cpos:Pos}
def Wq {prog:Ym} {w:Yo} {A:Yn} {E:Yc} {s:Yl} {t b:Yt} {ws:Yf} {Q:Yc} (ht:IsTup s.heap t #[]) (hb:IsTup s.heap b ws.toArray) (h1:Q (.ref b) s) :
  wpAny (model prog w) A (binaryOp .Add (.ref t) (.ref b)) Q E s:=by
 let⟨⟨cls,dd,data,sl⟩,ho,hc,n,hd⟩:=id ht;let⟨⟨cls2,dd2,data2,sl2⟩,ho2,hc2,n2,hd2⟩:=id hb;simp only at hc hd hc2 hd2;subst hc hd hc2 hd2
 exact concat_meets ⟨_,ho,rfl⟩ ⟨_,ho2,rfl⟩ noFill_tuple_add seq_tuple_add PySem.F.slot_tuple_add PySem.F.entry_tuple_add (PySem.F.args_tuple_add_2 _ _)
   (tuple_addW0 t b #[] ws.toArray n n2 dd dd2 sl sl2 (by simp)) ⟨ho,ho2,h1⟩
def Pe (K:Yb):R2:=λx y H Q=>∃ a b ys,x=.ref a/\y=.ref b/\SqT K H a []/\SqT K H b ys/\Q (.ref b) H
def cC:OpR X (binaryOp .Add) (Pe X.K):=by
 intro zB s Y H x y v u Q I rx ry h;let⟨a,b,ys,rfl,rfl,ha,hb,q⟩:=h;ext rx;ext ry;let⟨its,r1,p1,_⟩:=I.tuple ha;let⟨its2,r2,p2,_⟩:=I.tuple hb;cases K7 r1;calc Wq p1 p2 ⟨.ref b,H,I,rfl,q⟩
def Lf:K2:=λx y M=>match Cr x,Cr y with
 |some xs,some ys=>if xs.length+ys.length<=sizeLine then some (.dat (.tup (xs++ys)),M) else none
 |_,_=>none
def ZA {K:Yb}:A9 K (λx y H Q=>OH K x y H Q\/Pe K x y H Q) Lf:=by
 intro L M M' H H0 x y d v w Q c rx ry hk q;erw[Lf]at hk;cbv at hk
 .rename_i xs ys e1 e2;cbv at hk
  .rename_i hz;ext hk;let⟨p1,vs,rfl,h1,r1⟩:=DH rx e1;let⟨p2,ws,rfl,h2,r2⟩:=DH ry e2;cases xs with
   |nil=>
    calc .inr ⟨p1,p2,ws,rfl,rfl,.of (by erw[zE]at r1;subst r1;calc h1),.of h2,q L H _ (.refl L H) c ?_⟩;erw[zT,Rep];calc ⟨p2,ws,rfl,h2,r2⟩
   |cons x0 xr=>
    let hv:vs≠[]:=λz=>by have:=r1.length;rw[z]at this;simp at this
    refine .inl ⟨p1,p2,vs,ws,rfl,rfl,.of h1,.of h2,hv,by rw[r1.length,r2.length];exact hz,λz=>?_,λz pp hp=>?_⟩
    .have:ys=[]:=by
      have:=r2.length;rw[z]at this;cases ys with
      |nil=>rfl
      |cons _ _=>simp at this
     subst this;calc q L H _ (.refl L H) c ?_;erw[zT,Rep];rw[CV];exact ⟨p1,vs,rfl,h1,r1⟩
    .exact q L _ _ (.upd hp) (c.upd hp) (Rep.newTup hp (r1.app r2))
  .cases hk
 .cases hk
abbrev Aq:K2:=kOr gI Lf
variable {f g:FE}
def Rn (h1:QE X a f) (h2:QE X b g):QE X (.BinOp a .Add b pos) (fOp Aq f g):=Gi (Ip (ER λ_ _ _ _=>B6) ZA) (Sk.or (Xz.or cC)) h1 h2
structure Kinds (K:Yb):Prop where
 k:∀ t T,t∈["NoneType", "bool", "int", "str", "list", "tuple", "dict"]->T∈["int", "bool", "str", "tuple"]->PySem.W.kitOne K (.type t) (.type T)=some (decide (t=T)||(decide (t = "bool")&&decide (T = "int")))
def Fu (M:Mem):EV->Option String
 |.dat .non=>some "NoneType"
 |.dat (.bl _)=>some "bool"
 |.dat (.int _)=>some "int"
 |.dat (.str _)=>some "str"
 |.dat (.tup _)=>some "tuple"
 |.fl _=>some "list"
 |.dat (.ref n)=>match M[n]? with
  |some (.lst _)=>some "list"
  |some (.fro _)=>some "list"
  |some (.dict _)=>some "dict"
  |some (.dicT _)=>some "dict"
  |_=>none
 |.dat (.fn _ _)=>none
def UQ {K:PySem.W.Frag} {L:List Addr} {M:Mem} {H H0:Hp} {x:EV} {v:V} {t:String} (c:Cor K L M H) (r:zT H0 L H x v) (h:Fu M x=some t):TyOf K H v (.type t)/\t∈["NoneType", "bool", "int", "str", "list", "tuple", "dict"]:=by
 erw[Fu]at h;cbv at h
 .cases h;erw[zT,Rep]at r;subst r;exact ⟨.non,by simp⟩
 .cases h;erw[zT,Rep]at r;subst r;exact ⟨.bl _,by simp⟩
 .cases h;erw[zT,Rep]at r;subst r;exact ⟨.int _,by simp⟩
 .cases h;erw[zT,Rep]at r;subst r;exact ⟨.str _,by simp⟩
 .cases h;erw[zT,Rep]at r;let⟨a,vs,rfl,e,_⟩:=r;exact ⟨.tup e,by simp⟩
 .cases h;let⟨p,vs,rfl,_,e,_⟩:=r;exact ⟨.lst e,by simp⟩
 .unfold zT Rep at r;let⟨a,rfl,e⟩:=r;cbv at h
  .rename_i e1;ext h;let⟨vs,q,_⟩:=c.obj _ a _ e e1;exact ⟨.lst q,by simp⟩
  .rename_i e1;ext h;let⟨o,vs,q,_⟩:=c.obj _ a _ e e1;exact ⟨.frz q,by simp⟩
  .rename_i e1;ext h;let⟨vs,q,_⟩:=c.obj _ a _ e e1;exact ⟨.dK q,by simp⟩
  .rename_i e1;ext h;let⟨vs,q,_⟩:=c.obj _ a _ e e1;exact ⟨.dT q,by simp⟩
  .cases h
 .cases h
def isT (t T:String):Bool:=decide (t=T)||(decide (t = "bool")&&decide (T = "int"))
def D9 (T:String) (f:FE):FE:=λY M=>match f Y M with
 |some (x,M1)=>match Fu M1 x with
  |some t=>some (.dat (.bl (isT t T)),M1)
  |none=>none
 |none=>none
def Og (K:Yb) (T:String):List V->Hp->VK->Prop:=λxs H Q=>∃ x t b,xs=[x,.ty T]/\TyOf K H x t/\PySem.W.kitOne K t (.type T)=some b/\Q (.bl b) H
def Q9:CC X (.builtin "isinstance") (Og X.K T):=by
 intro zB s Y H xs us Q I r h;let⟨x,t,b,rfl,ty,e,q⟩:=h;cases r with
 |cons r1 r2=>
  cases r2 with
  |cons r3 r4=>
   ext r4;ext r3;calc W6 I r1 ty e λtk=>⟨.bl b,H,I.tok _,rfl,q⟩
def Ko (hK:Kinds X.K) (hT:T∈["int", "bool", "str", "tuple"]) (hg:Gl X "isinstance") (hm:X.mg "isinstance" = none) (hg2:Gl X y) (hm2:X.mg y=none) (hv2:bootBuiltins y=some (.type T)) (hn2:y ≠ "__name__") (hd2:(y==("__debug__" : Str))=false) (h:QE X e f)
  (he:starEach (e::[.Name y p2]) X.env=(false,eval e X.env)::starEach [.Name y p2] X.env:=by rfl) (he2:starEach [.Name y p2] X.env=(false,eval (.Name y p2) X.env)::starEach [] X.env:=by rfl) (hpl:(backTo pos (starEach [.Name y p2] X.env)).any (·.1)=false:=by rfl) :
  QE X (.Call (.Name "isinstance" p1) [e,.Name y p2] [] pos) (D9 T f) :=
 .mk <| PE.imp (Nz (r:=Og X.K T) Q9 hg hm (by rfl) (Gk h.un (Gk (dJ (v:=.ty T) hg2 hm2 hv2 rfl hn2 hd2) Hy he2) he) () () he hpl) λτ H Q zz=>by
  let⟨L,Y,M,d,M',c,rs,hf,q⟩:=zz;erw[D9]at hf;cbv at hf
  .rename_i x M1 e1;cbv at hf
   .rename_i t e2;ext hf;refine (mkE c rs e1 (λL1 H1 v s1 c1 r1=>?_));let⟨ty,ht⟩:=UQ c1 r1 e2;exact ⟨v,_,_,rfl,ty,hK.k t T ht hT,q L1 H1 _ s1 c1 (Bl (L:=L1) (H:=H1))⟩
   .cases hf
  .cases hf
def HR (i j:Nat) (fa:FA):FS:=λY M=>match fa Y M with
 |some ([d,d'],M1)=>some (.nx,(Y.set i (some d)).set j (some d'),M1)
 |_=>none
def zE.two (h:zE L H [d,d'] vs):∃ v v',vs=[v,v']/\Rep L H d v/\Rep L H d' v':=by
 erw[zE]at h;let⟨v,r,rfl,h1,h2⟩:=h;let⟨v',rfl,h3⟩:=h2.one;calc ⟨v,v',rfl,h1,h3⟩
def Vb {kt k2 pt2} (hc:X.calm=true) (hN:X.N.Nodup) (hi:X.N[i]?=some x) (hj:X.N[j]?=some y) (hij:i≠j)
  (hx:X.env.scope.names.lookup x=some .local) (hy:X.env.scope.names.lookup y=some .local) (ha:QA X [a,b] fa)
  (hw:swappedStores [.Tuple [.Name x px,.Name y py] kt pt] (.Tuple [a,b] k2 pt2) X.env=pure (some [x,y]))
  (hs:swapsWithSole [.Tuple [.Name x px,.Name y py] kt pt] (.Tuple [a,b] k2 pt2) pos.line X.env=pure false:=by rfl) :
  QS X (.Assign [.Tuple [.Name x px,.Name y py] kt pt] (.Tuple [a,b] k2 pt2) pos) (HR i j fa):=.mk <| PS.imp (Xm hc hN hi hj hij hx hy ha.un hw hs) λE τ H zz=>by
 let⟨L,Y,M,o,Y',M',c,rs,hf,q⟩:=zz;erw[HR]at hf;cbv at hf
 .rename_i d d' M1 e1;ext hf;refine (mkA c rs e1 (λL1 H1 vs s1 c1 r1=>?_));let⟨v,v',rfl,r2,r3⟩:=r1.two;exact ⟨v,v',rfl,q L1 H1 s1 c1 _ (((rs.stp s1).set r2).set r3)⟩
 .cases hf
section
variable {fa:FAE}
def fU (hg:Gl X "len") (hm:X.mg "len" = none) (ha:QAE X [e] fa) (he:starEach [e] X.env=(false,eval e X.env)::starEach [] X.env:=by rfl) (hpl:(backTo pos (starEach [] X.env)).any (·.1)=false:=by rfl):QE X (.Call (.Name "len" p) [e] [] pos) (fB Al fa) :=
 F6 VB b5 PySem.boot_len hg hm ha () () he hpl
def dM (hg:Gl X "tuple") (hm:X.mg "tuple" = none) (ha:QAE X [e] fa) (he:starEach [e] X.env=(false,eval e X.env)::starEach [] X.env:=by rfl) (hpl:(backTo pos (starEach [] X.env)).any (·.1)=false:=by rfl):QE X (.Call (.Name "tuple" p) [e] [] pos) (fB Bc fa) :=
 Pl Y4 fE (by rfl) hg hm ha () () he hpl
def aJ (hg:Gl X "abs") (hm:X.mg "abs" = none) (ha:QAE X [e] fa) (he:starEach [e] X.env=(false,eval e X.env)::starEach [] X.env:=by rfl) (hpl:(backTo pos (starEach [] X.env)).any (·.1)=false:=by rfl):QE X (.Call (.Name "abs" p) [e] [] pos) (fB FC fa) :=
 F6 dO fZ (by rfl) hg hm ha () () he hpl
end
end
def Jg (sc scope:Y0):Bool:=scope.names.all λy=>
 (y.2 != .local||scope.names.lookup y.1==some .local)&&(y.2 != .cell||scope.names.lookup y.1==some .cell)&&(y.2 != .free||(sc.names.lookup y.1==some .cell||sc.names.lookup y.1==some .free))
def JF (N:Yk) (scope:Y0) (own:Yj):Bool:=(List.range N.length).all λi=>match N[i]? with
 |some x=>decide (i∈own)||(scope.names.lookup x==none)||(scope.names.lookup x==some .free)
 |none=>true
def Ql (hk:scope.kind=.function) (hs:X.env.scope=sc) (hN:X.N=N) (h1:Jg sc scope=true) (h2:JF N scope own=true):CompIn X scope own:=by
 erw[Jg]at h1;rw[An]at h1;refine ⟨⟨hk,λy hy e=>?_,λy hy e=>?_,λy hy e=>?_⟩,λi x e=>?_⟩
 .have:=h1 y hy;simp[e]at this;exact this
 .have:=h1 y hy;simp[e]at this;exact this
 .have:=h1 y hy;simp[e]at this;show X.env.scope.names.lookup y.1=_\/X.env.scope.names.lookup y.1=_;rw[hs];exact this
 .unfold JF at h2;rw[An]at h2;rw[hN]at e;let hi:i<N.length:=(AY.mp e).1;have:=h2 i (~~~hi);rw[e]at this;simp only[Bool.or_eq_true,D2,beq_iff_eq,or_assoc]at this;calc this
def JS (K:Yb):Bool:=K.all λp=>match p.2.cls with
 |.type n=>n != "list"
 |_=>true
theorem Om:∀ {K:Yb},K.lookup a=some o->(a,o)∈K
 |[],h=>by ext h
 | (b,u)::r,h=>by
  let h':List.lookup a ((b,u)::r)=some o:=h;rw[E7]at h';cases q:a==b with
  |true=>rw[q]at h';ext h';rw[beq_iff_eq.mp q];calc AM
  |false=>rw[q]at h';calc AQ _ (Om h')
def d6 {K:PySem.W.Frag} (h:JS K=true) {o:Obj} (e:K.lookup a=some o) (hc:o.cls=.type "list"):False:=by
 erw[JS]at h;rw[An]at h;have:=h (a,o) (Om e);simp[hc]at this
theorem PN:∀ (ns:Ye),zE L H (ns.map D.int) (ns.map V.int)
 |[]=> .nil
 |n::r=> .cons (by erw[Rep];rfl) (PN r)
def KL (K:Yb):Bool:=OR.all λx=>(PySem.W.tabIn K x).isNone
def TJ {K:Yb} {H:Hp} (h:KL K=true):Gu K H:=λx hx c P e=>by
 erw[KL]at h;have:=An.mp h x hx;rw[e]at this;ext this
def dY (hO:JR H):∀ b xs,H b≠some (.lst xs):=λb xs h1=>by
 rcases hO b with z|⟨o,xs,z⟩
 .rw[h1]at z;ext z
 .rw[h1]at z;ext z
def eK {K:Yb} {m:FF} {H:Hp} {a:Yt} {ns:Ye} {E:XK} (hL:JS K=true) (hT:Gu K H) (hO:∀ b xs,H b≠some (.lst xs)) (hS:SqL K H a (ns.map V.int)) (h:∃ M',m [.ref 0] [.fro (ns.map D.int)]=some (.bl true,M')) :
  spF K 1 m [.ref a] H (λv _=>v=.bl true) E:=by
 let⟨M',e⟩:=h;let hf:∃ o,H a=some (.frz o (.lst (ns.map V.int))):=by
  rcases hS with (h1|h1)|⟨o,its,n,h1,h2,_⟩
  .exact (hO _ _ h1).elim
  .exact h1
  .exact (d6 hL h1 h2).elim
 let⟨o,hf⟩:=hf;refine ⟨[a],[.ref 0],[.fro (ns.map D.int)],_,_,⟨rfl,by simp,λn b m e1 e2=>?_,hT⟩,.cons ?_ .nil,rfl,e,λL' H' v s c r=>?_⟩
 .cases n with
  |zero=>simp at e1 e2;subst e1;subst e2;calc ⟨o,_,hf,PN ns⟩
  |succ n=>simp at e1
 .unfold Rep;exact ⟨a,rfl,rfl⟩
 .unfold Rep at r;calc r
def Ok {α:Type} (x:Option (α × Mem)) (P:α->Mem->Prop):Prop:=∃ a M,x=some (a,M)/\P a M
def OkS (x:Option (Out × Sd × Mem)) (P:Out->Sd->Mem->Prop):Prop:=∃ o Y M,x=some (o,Y,M)/\P o Y M
def Ok.mono {α:Type} {x:Option (α × Mem)} {P Q:α->Mem->Prop} (h:Ok x P) (hq:∀ a M,P a M->Q a M):Ok x Q:=let ⟨a,M,e,p⟩:=h;⟨a,M,e,hq a M p⟩
def OkS.mono {x:Option (Out × Sd × Mem)} {P Q:Out->Sd->Mem->Prop} (h:OkS x P) (hq:∀ o Y M,P o Y M->Q o Y M):OkS x Q:=let ⟨a,Y,M,e,p⟩:=h;⟨a,Y,M,e,hq a Y M p⟩
def zg {α:Type} {a:α} {M:Mem} {P:α->Mem->Prop}:Ok (some (a,M)) P ↔ P a M:=⟨λ⟨_,_,e,p⟩=>by ext e;exact p,λp=>⟨a,M,rfl,p⟩⟩
def Jm {α:Type} {P:α->Mem->Prop}:Ok (none:Option (α × Mem)) P ↔ False:=⟨(λ⟨_,_,e,_⟩=>(nomatch e)),λh=>h.elim⟩
def b7 {o:Out} {Y:Sd} {M:Mem} {P:Out->Sd->Mem->Prop}:OkS (some (o,Y,M)) P ↔ P o Y M:=⟨λ⟨_,_,_,e,p⟩=>by ext e;exact p,λp=>⟨o,Y,M,rfl,p⟩⟩
def zm {i:Nat}:Ok (zC i Y M) P ↔ ∃ d,Y[i]?=some (some d)/\P (.dat d) M:=by
 erw[zC];constructor
 .rintro ⟨a,M1,e,p⟩;cbv at e
  .rename_i d e1;ext e;exact ⟨d,e1,p⟩
  .cases e
 .rintro ⟨d,e1,p⟩;rw[e1];calc ⟨_,_,rfl,p⟩
def As {d:D}:Ok (fC d Y M) P ↔ P (.dat d) M:=zg
def Ar {k:K2}:Ok (fOp k f g Y M) P ↔ Ok (f Y M) λx M1=>Ok (g Y M1) λy M2=>Ok (k x y M2) P:=by
 erw[fOp];constructor
 .rintro ⟨a,M1,e,p⟩;cbv at e
  .rename_i x M2 e1;cbv at e
   .rename_i y M3 e2;exact ⟨x,M2,e1,y,M3,e2,a,M1,e,p⟩
   .cases e
  .cases e
 .rintro ⟨x,M2,e1,y,M3,e2,a,M1,e,p⟩;rw[e1];dsimp only;rw[e2];calc ⟨a,M1,e,p⟩
def DC (P:D->Mem->Prop):EV->Mem->Prop
 |.dat d,M=>P d M
 |.fl xs,M=>P (.ref M.length) (M++[.lst xs])
def Bk {P:D->Mem->Prop}:Ok (toD f Y M) P ↔ Ok (f Y M) (DC P):=by
 erw[toD];constructor
 .rintro ⟨a,M1,e,p⟩;cbv at e
  .rename_i d M2 e1;ext e;exact ⟨_,_,e1,p⟩
  .rename_i xs M2 e1;ext e;exact ⟨_,_,e1,p⟩
  .cases e
 .rintro ⟨x,M2,e1,p⟩;rw[e1];cases x with
  |dat d=>calc ⟨d,M2,rfl,p⟩
  |fl xs=>calc ⟨_,_,rfl,p⟩
def zF {P:D->Mem->Prop} {d:D} {M:Mem}:DC P (.dat d) M ↔ P d M:=Iff.rfl
def J6 {P:D->Mem->Prop} {xs:List D} {M:Mem}:DC P (.fl xs) M ↔ P (.ref M.length) (M++[.lst xs]):=Iff.rfl
def D6:Ok (zR Y M) P ↔ P [] M:=zg
def DI {f:FD} {g:FA}:Ok (zD f g Y M) P ↔ Ok (f Y M) λd M1=>Ok (g Y M1) λds M2=>P (d::ds) M2:=by
 erw[zD];constructor
 .rintro ⟨a,M1,e,p⟩;cbv at e
  .rename_i x M2 e1;cbv at e
   .rename_i y M3 e2;ext e;exact ⟨x,M2,e1,y,_,e2,p⟩
   .cases e
  .cases e
 .rintro ⟨x,M2,e1,y,M3,e2,p⟩;rw[e1];dsimp only;rw[e2];calc ⟨_,_,rfl,p⟩
def EF:Ok (za Y M) P ↔ P [] M:=zg
def EH {f:FE} {g:FAE}:Ok (zI f g Y M) P ↔ Ok (f Y M) λd M1=>Ok (g Y M1) λds M2=>P (d::ds) M2:=by
 erw[zI];constructor
 .rintro ⟨a,M1,e,p⟩;cbv at e
  .rename_i x M2 e1;cbv at e
   .rename_i y M3 e2;ext e;exact ⟨x,M2,e1,y,_,e2,p⟩
   .cases e
  .cases e
 .rintro ⟨x,M2,e1,y,M3,e2,p⟩;rw[e1];dsimp only;rw[e2];calc ⟨_,_,rfl,p⟩
def Ge {a:FA}:Ok (By a Y M) P ↔ Ok (a Y M) λds M1=>ds.length<=sizeLine/\P (.fl ds) M1:=by
 erw[By];constructor
 .rintro ⟨x,M1,e,p⟩;cbv at e
  .rename_i ds M2 e1;cbv at e
   .rename_i hz;ext e;exact ⟨ds,_,e1,hz,p⟩
   .cases e
  .cases e
 .rintro ⟨ds,M1,e1,hz,p⟩;rw[e1];dsimp only;rw[AD hz];calc ⟨_,_,rfl,p⟩
def EU {k:KB} {a:FAE}:Ok (fB k a Y M) P ↔ Ok (a Y M) λxs M1=>Ok (k xs M1) P:=by
 erw[fB];constructor
 .rintro ⟨x,M1,e,p⟩;cbv at e
  .rename_i ds M2 e1;exact ⟨ds,_,e1,x,M1,e,p⟩
  .cases e
 .rintro ⟨ds,M1,e1,p⟩;rw[e1];calc p
def F5 {m:FF} {a:FA}:Ok (zX m a Y M) P ↔ Ok (a Y M) λds M1=>Ok (m ds M1) λd M2=>P (.dat d) M2:=by
 erw[zX];constructor
 .rintro ⟨x,M1,e,p⟩;cbv at e
  .rename_i ds M2 e1;cbv at e
   .rename_i d M3 e2;ext e;exact ⟨ds,_,e1,d,_,e2,p⟩
   .cases e
  .cases e
 .rintro ⟨ds,M1,e1,d,M2,e2,p⟩;rw[e1];dsimp only;rw[e2];calc ⟨_,_,rfl,p⟩
def IV {k:KM} {a:FA}:Ok (fM k f a Y M) P ↔ Ok (f Y M) λx M1=>(∃ xs,BO M1 x=some xs)/\Ok (a Y M1) λds M2=>Ok (k x ds M2) λd M3=>P (.dat d) M3:=by
 erw[fM];constructor
 .rintro ⟨x,M1,e,p⟩;cbv at e
  .rename_i y M2 e1;cbv at e
   .rename_i xs e2;cbv at e
    .rename_i ds M3 e3;cbv at e
     .rename_i d M4 e4;ext e;exact ⟨y,_,e1,⟨xs,e2⟩,ds,_,e3,d,_,e4,p⟩
     .cases e
    .cases e
   .cases e
  .cases e
 .rintro ⟨y,M1,e1,⟨xs,e2⟩,ds,M2,e3,d,M3,e4,p⟩;rw[e1];dsimp only;rw[e2];dsimp only;rw[e3];dsimp only;rw[e4];calc ⟨_,_,rfl,p⟩
def P5:Ok (DP Y M) P ↔ P none M:=zg
def Q3 (P:Option Int->Mem->Prop):EV->Mem->Prop
 |.dat (.int i),M=>P (some i) M
 |_,_=>False
def Nq {i:Int} {M:Mem}:Q3 P (.dat (.int i)) M ↔ P (some i) M:=Iff.rfl
def Ph:Ok (Cg f Y M) P ↔ Ok (f Y M) (Q3 P):=by
 erw[Cg];constructor
 .rintro ⟨x,M1,e,p⟩;cbv at e
  .rename_i i M2 e1;ext e;exact ⟨_,_,e1,p⟩
  .cases e
 .rintro ⟨x,M1,e1,p⟩;rw[e1];cases x with
  |fl xs=>calc p.elim
  |dat d=>
   cases d with
   |int i=>calc ⟨_,_,rfl,p⟩
   |_=>calc p.elim
def O6 {l h:FO}:Ok (fSl f l h Y M) P ↔ Ok (f Y M) λx M1=>Ok (l Y M1) λlo M2=>Ok (h Y M2) λhi M3=>Ok (kSl x lo hi M3) P:=by
 erw[fSl];constructor
 .rintro ⟨x,M1,e,p⟩;cbv at e
  .rename_i y M2 e1;cbv at e
   .rename_i lo M3 e2;cbv at e
    .rename_i hi M4 e3;exact ⟨y,_,e1,lo,_,e2,hi,_,e3,x,M1,e,p⟩
    .cases e
   .cases e
  .cases e
 .rintro ⟨y,M1,e1,lo,M2,e2,hi,M3,e3,p⟩;rw[e1];dsimp only;rw[e2];dsimp only;rw[e3];calc p
def blP (P:Bool->Mem->Prop):EV->Mem->Prop
 |.dat (.bl k),M=>P k M
 |_,_=>False
def Fi {P:Bool->Mem->Prop} {k:Bool} {M:Mem}:blP P (.dat (.bl k)) M ↔ P k M:=Iff.rfl
def MP {P:Bool->Mem->Prop}:Ok (tst f Y M) P ↔ Ok (f Y M) (blP P):=by
 erw[tst];constructor
 .rintro ⟨x,M1,e,p⟩;cbv at e
  .rename_i i M2 e1;ext e;exact ⟨_,_,e1,p⟩
  .cases e
 .rintro ⟨x,M1,e1,p⟩;rw[e1];cases x with
  |fl xs=>calc p.elim
  |dat d=>
   cases d with
   |bl i=>calc ⟨_,_,rfl,p⟩
   |_=>calc p.elim
def Lc:Ok (zq Y M) P ↔ P true M:=zg
def Uk:Ok (EG s t Y M) P ↔ Ok (s Y M) λk M1=>if k then Ok (t Y M1) P else P false M1:=by
 erw[EG];constructor
 .rintro ⟨x,M1,e,p⟩;cbv at e
  .rename_i M2 e1;exact ⟨true,M2,e1,by dsimp only;rw[AD rfl];calc ⟨x,M1,e,p⟩⟩
  .rename_i hn;cases x with
   |true=>calc absurd e (hn M1)
   |false=>exact ⟨false,M1,e,by simpa using p⟩
 .rintro ⟨x,M1,e1,p⟩;rw[e1];cases x with
  |true=>simpa using p
  |false=>calc ⟨false,M1,rfl,by simpa using p⟩
def nxP (k:Sd->Mem->Prop) (P:Out->Sd->Mem->Prop):Out->Sd->Mem->Prop
 |.nx,Y,M=>k Y M
 |o,Y,M=>P o Y M
def zW {k:Sd->Mem->Prop}:nxP k P .nx Y M ↔ k Y M:=Iff.rfl
def Xx {k:Sd->Mem->Prop} {d:D}:nxP k P (.ret d) Y M ↔ P (.ret d) Y M:=Iff.rfl
def ID:OkS (CS Y M) P ↔ P .nx Y M:=b7
def zL:OkS (zV f g Y M) P ↔ OkS (f Y M) (nxP (λσ1 M1=>OkS (g σ1 M1) P) P):=by
 erw[zV];constructor
 .rintro ⟨o,σ1,M1,e,p⟩;cbv at e
  .rename_i σ2 M2 e1;exact ⟨_,_,_,e1,o,σ1,M1,e,p⟩
  .rename_i hn;calc ⟨o,σ1,M1,e,?_⟩;cases o with
   |nx=>calc absurd e (hn σ1 M1)
   |_=>exact p
 .rintro ⟨o,σ1,M1,e1,p⟩;rw[e1];cases o with
  |nx=>calc p
  |_=>calc ⟨_,_,_,rfl,p⟩
def Gq {c:FT}:OkS (sIf c f g Y M) P ↔ Ok (c Y M) λk M1=>if k then OkS (f Y M1) P else OkS (g Y M1) P:=by
 erw[sIf];constructor
 .rintro ⟨o,σ1,M1,e,p⟩;cbv at e
  .rename_i M2 e1;exact ⟨_,_,e1,by dsimp only;rw[AD rfl];calc ⟨o,σ1,M1,e,p⟩⟩
  .rename_i M2 e1;exact ⟨_,_,e1,by simpa using ⟨o,σ1,M1,e,p⟩⟩
  .cases e
 .rintro ⟨x,M1,e1,p⟩;rw[e1];cases x with
  |true=>simpa using p
  |false=>simpa using p
def EJ {h:FE}:OkS (AV h Y M) P ↔ Ok (h Y M) (DC λd M1=>P (.ret d) Y M1):=by
 rw[<-Bk];erw[AV];constructor
 .rintro ⟨o,σ1,M1,e,p⟩;cbv at e
  .rename_i d M2 e1;ext e;exact ⟨_,_,e1,p⟩
  .cases e
 .rintro ⟨x,M1,e1,p⟩;rw[e1];calc ⟨_,_,_,rfl,p⟩
def zb {i:Nat} {h:FE}:OkS (AN i h Y M) P ↔ Ok (h Y M) (DC λd M1=>P .nx (Y.set i (some d)) M1):=by
 rw[<-Bk];erw[AN];constructor
 .rintro ⟨o,σ1,M1,e,p⟩;cbv at e
  .rename_i d M2 e1;ext e;exact ⟨_,_,e1,p⟩
  .cases e
 .rintro ⟨x,M1,e1,p⟩;rw[e1];calc ⟨_,_,_,rfl,p⟩
def Ja {h:FE}:OkS (Dr h Y M) P ↔ Ok (h Y M) λ_ M1=>P .nx Y M1:=by
 erw[Dr];constructor
 .rintro ⟨o,σ1,M1,e,p⟩;cbv at e
  .rename_i d M2 e1;ext e;exact ⟨_,_,e1,p⟩
  .cases e
 .rintro ⟨x,M1,e1,p⟩;rw[e1];calc ⟨_,_,_,rfl,p⟩
def Uq {i j:Nat} {a:FA}:OkS (HR i j a Y M) P ↔ Ok (a Y M) λds M1=>∃ d d',ds=[d,d']/\P .nx ((Y.set i (some d)).set j (some d')) M1:=by
 erw[HR];constructor
 .rintro ⟨o,σ1,M1,e,p⟩;cbv at e
  .rename_i d d' M2 e1;ext e;exact ⟨_,_,e1,d,d',rfl,p⟩
  .cases e
 .rintro ⟨x,M1,e1,d,d',rfl,p⟩;rw[e1];calc ⟨_,_,_,rfl,p⟩
def Nu {v o i:FE}:OkS (G6 v o i Y M) P ↔ Ok (v Y M) (DC λd M1=>Ok (o Y M1) λx M2=>Ok (i Y M2) (DC λj M3=>∃ M4,Hd x j d M3=some M4/\P .nx Y M4)):=by
 rw[<-Bk];erw[G6];constructor
 .rintro ⟨o,σ1,M1,e,p⟩;cbv at e
  .rename_i d M2 e1;cbv at e
   .rename_i x M3 e2;cbv at e
    .rename_i j M4 e3;cbv at e
     .rename_i M5 e4;ext e;calc ⟨_,_,e1,_,_,e2,?_⟩;dsimp only;rw[<-Bk];exact ⟨_,_,e3,_,e4,p⟩
     .cases e
    .cases e
   .cases e
  .cases e
 .rintro ⟨d,M1,e1,x,M2,e2,p⟩;rw[<-Bk]at p;let⟨j,M3,e3,M4,e4,p⟩:=p;rw[e1];dsimp only;rw[e2];dsimp only;rw[e3];dsimp only;rw[e4];calc ⟨_,_,_,rfl,p⟩
def BN {n:Nat} {ds:List D} {Q:D->Mem->Prop}:Ok (Aj n f ds M) Q ↔ OkS (f (ds.map some++List.replicate (n-ds.length) none) M) λo _ M1=>match o with|.ret d=>Q d M1|.nx=>Q .non M1|_=>False:=by
 erw[Aj];constructor
 .rintro ⟨o,M1,e,p⟩;cbv at e
  .rename_i d σ1 M2 e1;ext e;exact ⟨_,_,_,e1,p⟩
  .rename_i σ1 M2 e1;ext e;exact ⟨_,_,_,e1,p⟩
  .cases e
 .rintro ⟨o,σ1,M1,e1,p⟩;rw[e1];cases o with
  |ret d=>calc ⟨_,_,rfl,p⟩
  |nx=>calc ⟨_,_,rfl,p⟩
  |brk=>calc p.elim
  |cnt=>calc p.elim
theorem Hf {c:FT} {b:FS} (I:Nat->Sd->Mem->Prop) (hs:∀ m Y M,I m Y M->Ok (c Y M) λk M1=>if k then OkS (b Y M1) λo σ2 M2=>match o with|.nx=>∃ m',m'<m/\I m' σ2 M2|.cnt=>∃ m',m'<m/\I m' σ2 M2|.brk=>P .nx σ2 M2|.ret d=>P (.ret d) σ2 M2 else P .nx Y M1) :
  ∀ (n m:Nat) (Y:Sd) (M:Mem),m<n->I m Y M->OkS (Cb c b n Y M) P
 |0,m,Y,M,h,_=>absurd h (Nat.not_lt_zero _)
 |n+1,m,Y,M,h,hi=>by
  let⟨k,M1,e,q⟩:=hs m Y M hi;erw[Cb];rw[e];cases k with
  |false=>calc ⟨_,_,_,rfl,by simpa using q⟩
  |true=>
   rw[AD rfl]at q;let⟨o,σ2,M2,e2,q⟩:=q;dsimp only;rw[e2];cases o with
   |nx=>let⟨m',hm,q⟩:=q;calc Hf I hs n m' σ2 M2 () q
   |cnt=>let⟨m',hm,q⟩:=q;calc Hf I hs n m' σ2 M2 () q
   |brk=>calc ⟨_,_,_,rfl,q⟩
   |ret d=>calc ⟨_,_,_,rfl,q⟩
theorem Fl {g:FG} {b:FS} {all:List D} {gd:Option (Mem->Prop)} (I:List D->Sd->Mem->Prop)
  (hs:∀ x r Y M,I (x::r) Y M->BZ gd all M /\ ∃ σ1,g x Y=some σ1/\OkS (b σ1 M) λo σ2 M2=>match o with|.nx=>I r σ2 M2|.cnt=>I r σ2 M2|.brk=>P .nx σ2 M2|.ret d=>P (.ret d) σ2 M2)
  (he:∀ Y M,I [] Y M->BZ gd all M/\P .nx Y M):∀ (xs:List D) (Y:Sd) (M:Mem),I xs Y M->OkS (C0 g b all gd xs Y M) P
 |[],Y,M,hi=>by
  erw[C0];let⟨h1,h2⟩:=he Y M hi;rw[AD h1];calc ⟨_,_,_,rfl,h2⟩
 |x::r,Y,M,hi=>by
  erw[C0];let⟨h1,σ1,e1,o,σ2,M2,e2,q⟩:=hs x r Y M hi;rw[AD h1,e1];dsimp only;rw[e2];cases o with
  |nx=>calc Fl I hs he r σ2 M2 q
  |cnt=>calc Fl I hs he r σ2 M2 q
  |brk=>calc ⟨_,_,_,rfl,q⟩
  |ret d=>calc ⟨_,_,_,rfl,q⟩
def DQ {i:FI} {g:FG} {b:FS}:OkS (Bh i g b Y M) P ↔ ∃ xs gd M1,i Y M=some (xs,gd,M1)/\OkS (C0 g b xs gd xs Y M1) P:=by
 erw[Bh];constructor
 .rintro ⟨o,σ1,M1,e,p⟩;cbv at e
  .rename_i xs gd M2 e1;exact ⟨_,_,_,e1,_,_,_,e,p⟩
  .cases e
 .rintro ⟨xs,gd,M1,e1,p⟩;rw[e1];calc p
theorem GG {g:FG} {tc:FT} {te:FE} {all:List D} {gd:Option (Mem->Prop)} (I:List D->List D->Mem->Prop)
  (hs:∀ x r acc M,I (x::r) acc M->BZ gd all M /\ ∃ σ1,g x Y=some σ1/\Ok (tc σ1 M) λk M1=>if k then Ok (te σ1 M1) (DC λd M2=>I r (acc++[d]) M2) else I r acc M1)
  {Q:List D->Mem->Prop} (he:∀ acc M,I [] acc M->BZ gd all M/\Q acc M):∀ (xs acc:List D) (M:Mem),I xs acc M->Ok (Am g tc te Y all gd xs M) λys M1=>Q (acc++ys) M1
 |[],acc,M,hi=>by
  erw[Am];let⟨h1,h2⟩:=he acc M hi;rw[AD h1];calc ⟨_,_,rfl,by simpa using h2⟩
 |x::r,acc,M,hi=>by
  erw[Am];let⟨h1,σ1,e1,k,M1,e2,q⟩:=hs x r acc M hi;rw[AD h1,e1];dsimp only;rw[e2];cases k with
  |false=>calc GG I hs he r acc M1 (~~~q)
  |true=>
   rw[AD rfl,<-Bk]at q;let⟨d,M2,e3,q⟩:=q;dsimp only;rw[e3];let⟨ys,M3,e4,p⟩:=GG I hs he r (acc++[d]) M2 q;dsimp only;rw[e4];calc ⟨_,_,rfl,by simpa using p⟩
def ET {own:Yj} {i:FI} {g:FG} {tc:FT} {te:FE} {Q:EV->Mem->Prop}:Ok (zu own i g tc te Y M) Q ↔ ∃ xs gd M1,i Y M=some (xs,gd,M1)/\xs.length<=sizeLine/\Ok (Am g tc te (BW own Y) xs gd xs M1) λys M2=>Q (.fl ys) M2:=by
 erw[zu];constructor
 .rintro ⟨o,M1,e,p⟩;cbv at e
  .rename_i xs gd M2 e1;cbv at e
   .rename_i hz;cbv at e
    .rename_i ys M3 e2;ext e;exact ⟨_,_,_,e1,hz,_,_,e2,p⟩
    .cases e
   .cases e
  .cases e
 .rintro ⟨xs,gd,M1,e1,hz,ys,M2,e2,p⟩;rw[e1];dsimp only;rw[AD hz,e2];calc ⟨_,_,rfl,p⟩
def F7 {h:FE} {x:EV} {M1:Mem} {xs:List D} (e:h Y M=some (x,M1)) (e2:zr M1 x=some xs):Aa h Y M=some (xs,P2 x xs,M1):=by
 erw[Aa];rw[e];dsimp only;rw[e2]
def Nh {a:FA} {M1:Mem} {j:Int} (e:a Y M=some ([.int j],M1)) (h1:0<=j) (h2:j<2 ^ 62):Bj a Y M=some ((List.range j.toNat).map λ(k:Nat)=>D.int k,none,M1):=by
 erw[Bj];rw[e];dsimp only;rw[AD ⟨(),h2⟩]
def EW:Ok (Aq (.dat (.int i)) (.dat (.int j)) M) P ↔ P (.dat (.int (i+j))) M:=zg
def Ii:Ok (GC (.dat (.int i)) (.dat (.int j)) M) P ↔ Fs i j=true/\P (.dat (.int (i*j))) M:=by
 erw[GC,kI];dsimp only;split
 .rename_i h;rw[zg];simp[h]
 .rename_i h;rw[Jm];simp[h]
def Ft:Ok (Bv (.dat (.int i)) (.dat (.int j)) M) P ↔ 0<j/\P (.dat (.int (i % j))) M:=by
 erw[Bv,kI];dsimp only;split
 .rename_i h;rw[zg];simp at h;simp[h]
 .rename_i h;rw[Jm];simp at h;simp;intro h';omega
def LG:Ok (FX (.dat (.int i)) (.dat (.int j)) M) P ↔ (0<j/\j<1073741824)/\P (.dat (.int (i / j))) M:=by
 erw[FX,kI];dsimp only;split
 .rename_i h;rw[zg];simp at h;simp[h]
 .rename_i h;rw[Jm];simp at h;simp;intro h' h2;have:=h h';omega
def Nb:Ok (Ho (.dat (.int i)) (.dat (.int j)) M) P ↔ (0<=j/\j<=1000000/\i.natAbs<2 ^ 64)/\P (.dat (.int (i ^ j.toNat))) M:=by
 erw[Ho,kI];dsimp only;split
 .rename_i h;rw[zg];simp only[Ay,D2]at h;simp[h]
 .rename_i h;rw[Jm];simp only[Ay,D2,not_and]at h;simp only[false_iff,not_and];intro ⟨a,b,c⟩;calc absurd c (h ⟨a,b⟩)
def Pd:Ok (kLt (.dat (.int i)) (.dat (.int j)) M) P ↔ P (.dat (.bl (decide (i<j)))) M:=zg
def Td:Ok (kLe (.dat (.int i)) (.dat (.int j)) M) P ↔ P (.dat (.bl (decide (i<=j)))) M:=zg
def WV:Ok (kGt (.dat (.int i)) (.dat (.int j)) M) P ↔ P (.dat (.bl (decide (j<i)))) M:=zg
def Pa:Ok (kGe (.dat (.int i)) (.dat (.int j)) M) P ↔ P (.dat (.bl (decide (j<=i)))) M:=zg
def Pc:Ok (kEq (.dat (.int i)) (.dat (.int j)) M) P ↔ P (.dat (.bl (decide (i=j)))) M:=by
 have:kEq (.dat (.int i)) (.dat (.int j)) M=some (.dat (.bl (decide (V.int i=V.int j))),M):=rfl;rw[this,zg];simp
def Nr:Ok (kNe (.dat (.int i)) (.dat (.int j)) M) P ↔ P (.dat (.bl (decide (i≠j)))) M:=by
 have:kNe (.dat (.int i)) (.dat (.int j)) M=some (.dat (.bl (!decide (V.int i=V.int j))),M):=rfl;rw[this,zg];simp
def ZY {x:EV} {xs:List D} (h:BO M x=some xs) (hx:∀ d,x=.dat d->G1 d=none):Ok (kNe x (.fl []) M) P ↔ P (.dat (.bl (!xs.isEmpty))) M:=by
 let e1:FL true x (.fl []) M=none:=by cases x <;> rfl
 let e2:kNe x (.fl []) M=some (.dat (.bl (!xs.isEmpty)),M):=by
  erw[kNe,kOr];rw[e1];erw[HS];rw[h];rfl
 rw[e2,zg]
def IY {x:EV} {xs:List D} {d:D} (h:zr M x=some xs) (hd:atI xs i=some d) (p:P (.dat d) M):Ok (kIx x (.dat (.int i)) M) P:=by
 have:kIx x (.dat (.int i)) M=some (.dat d,M):=by erw[kIx];dsimp only;rw[h];dsimp only;rw[hd]
 rw[this,zg];calc p
def M0 {xs:List D} {k:Nat} {d:D} (h:xs[k]?=some d):atI xs (k:Int)=some d:=Iv h
def PL {xs:List D} {i:Int} {d:D} (h0:0<=i) (h:xs[i.toNat]?=some d):atI xs i=some d:=by
 have:i=((i.toNat:Nat):Int):=()
 rw[this];calc Iv h
def Nt {x:EV} {xs:List D} (h:zr M x=some xs):Ok (Al [x] M) P ↔ P (.dat (.int xs.length)) M:=by
 have:Al [x] M=some (.dat (.int xs.length),M):=by erw[Al];dsimp only;rw[h]
 rw[this,zg]
def Jo {x:EV} {xs:List D} (h:zr M x=some xs):Ok (Bc [x] M) P ↔ P (.dat (.tup xs)) M:=by
 have:Bc [x] M=some (.dat (.tup xs),M):=by erw[Bc];dsimp only;rw[h]
 rw[this,zg]
def Oq:Ok (FC [.dat (.int i)] M) P ↔ P (.dat (.int (if i<0 then -i else i))) M:=zg
def N0 {x:EV} {xs:List D} {lo hi:Ys} (h:BO M x=some xs) (ht:Cr x=none):Ok (kSl x lo hi M) P ↔ P (.fl (CP xs lo hi)) M:=by
 have:kSl x lo hi M=some (.fl (CP xs lo hi),M):=by erw[kSl];rw[ht];dsimp only;rw[h]
 rw[this,zg]
def Bg {xs:List D}:zr M (.dat (.tup xs))=some xs:=rfl
def C9 {xs:List D}:zr M (.fl xs)=some xs:=rfl
def Wm {xs:List D}:BO M (.fl xs)=some xs:=rfl
def F4 {n:Nat} {xs:List D} (h:M[n]?=some (.lst xs)):BO M (.dat (.ref n))=some xs:=by erw[BO];dsimp only;rw[h]
def LY {n:Nat} {xs:List D} (h:M[n]?=some (.fro xs)):BO M (.dat (.ref n))=some xs:=by erw[BO];dsimp only;rw[h]
def B8 {n:Nat} {xs:List D} (h:M[n]?=some (.lst xs)):zr M (.dat (.ref n))=some xs:=F4 h
def bH {n:Nat} {xs:List D} (h:M[n]?=some (.fro xs)):zr M (.dat (.ref n))=some xs:=LY h
def Ls {n:Nat} {xs:List D} {d:D} {Q:D->Mem->Prop} (h:M[n]?=some (.lst xs)) (hz:xs.length<sizeLine):Ok (EA (.dat (.ref n)) [d] M) Q ↔ Q .non (M.set n (.lst (xs++[d]))):=by
 have:EA (.dat (.ref n)) [d] M=some (.non,M.set n (.lst (xs++[d]))):=by erw[EA];dsimp only;rw[h];dsimp only;rw[AD hz]
 rw[this,zg]
def UR {n:Nat} {x:D} {xs:List D} {Q:D->Mem->Prop} (h:M[n]?=some (.lst (x::xs))):Ok (DY (.dat (.ref n)) [.int 0] M) Q ↔ Q x (M.set n (.lst xs)):=by
 have:DY (.dat (.ref n)) [.int 0] M=some (x,M.set n (.lst xs)):=by
  erw[DY];dsimp only;rw[h];dsimp only;let e:ixN (x::xs).length 0=some 0:=by erw[ixN];rw[AD (),AD (by simp)];rfl
  rw[e];dsimp only[List.getElem?_cons_zero];rw[AD ()];rfl
 rw[this,zg]
def Ml {n k:Nat} {xs:List D} {d:D} (h:M[n]?=some (.lst xs)) (hk:k<xs.length):Hd (.dat (.ref n)) (.int k) d M=some (M.set n (.lst (xs.set k d))):=by
 erw[Hd];dsimp only;rw[h];dsimp only;let e:ixN xs.length (k:Int)=some k:=by erw[ixN];rw[AD (),AD ()];simp
 rw[e]
def Lp {m:FF} {ds:List D} {M:Mem} {Q:D->Mem->Prop} (h:Ok (m ds M) λd M1=>(D.und M.length d=true/\M.length<=M1.length /\ ∀ (j:Nat) u,j<M.length->M1[j]?=some u->MO.und M.length u=true)/\Q d (M1.take M.length)):Ok (Ec m ds M) Q:=by
 let⟨d,M1,e,⟨h1,h2,h3⟩,q⟩:=h;erw[Ec];rw[e];dsimp only;rw[AD]
 .exact ⟨_,_,rfl,q⟩
 .simp only[Ay,D2,An];refine ⟨⟨h1,λu hu=>?_⟩,h2⟩;let⟨j,hj⟩:=List.getElem?_of_mem hu;let hlt:j<M.length:=by
   have:=(AY.mp hj).1;rw[Cz]at this;omega
  rw[List.getElem?_take_of_lt hlt]at hj;calc h3 j u hlt hj
def EM {m:FF} {ds:List D} {M:Mem} {Q:D->Mem->Prop} (h0:D.unds 0 ds=true) (h:Ok (m ds []) λd _=>D.und 0 d=true/\Q d M):Ok (Ct m ds M) Q:=by
 let⟨d,M1,e,h1,q⟩:=h;erw[Ct];rw[AD h0,e];dsimp only;rw[AD h1];calc ⟨_,_,rfl,q⟩
def TIt.but (x:h.IsTupleIter a t i) (hs:Heap.ExtBut b h h') (n:a≠b):h'.IsTupleIter a t i:=x.extBut hs n
def Tup.but (x:h.IsTuple a its) (hs:Heap.ExtBut b h h') (n:a≠b):h'.IsTuple a its:=x.extBut hs n
def JY (I:s.heap.IsTupleIter it t i) (T:s.heap.IsTuple t its) (hx:its[i]?=some x)
  (q:∀ h',h'.IsTupleIter it t (i+1)->Heap.SameBut it s.heap h'->Q x { s with heap:=h' }):wpAny (model prog w) A (Builtin.SmallTypes.nextOf (.ref it)) Q E s:=by
 let⟨o,O,C,FD⟩:=id I;let⟨u,U,_,m,G⟩:=T;erw[Builtin.SmallTypes.nextOf];calc AA (Bq I.typeIs PySem.F.slot_tuple_iterator_next (Ap PySem.F.slot_tuple_iterator_next I.typeIs PySem.F.entry_tuple_iterator_next ?_ (PySem.F.args_tuple_iterator_next_1 _)));calc AA (m:=field (.ref it) 0) (BF O FD (x:=.ref t) rfl ?_);rw[AE (show ¬ ((Value.ref t==Value.none)=true) by calc A4)];calc AA (BF O FD rfl ?_);calc AA (BU U G ?_);simp only[hx,Ef];calc AA (CF O FD (by simp) (AB ⟨x,rfl,AB (q _ ⟨_,CA _ O (Dy (Bp FD _)),(Obj.cls_mapFields ..).trans C,?_⟩ (Bd ..))⟩));rw[Bp FD];simp[rawInt]
def J8 (hh:A.handled=none) (I:s.heap.IsTupleIter it t i) (T:s.heap.IsTuple t its) (hx:its[i]?=none)
  (q:∀ h' e,Heap.ExtBut it s.heap h'->(∃ o,h'.get? e=some o/\o.cls=.type "StopIteration")->E (.ref e) { s with heap:=h' }):wpAny (model prog w) A (Builtin.SmallTypes.nextOf (.ref it)) Q E s:=by
 let⟨o,O,C,FD⟩:=id I;let⟨u,U,_,m,G⟩:=T;erw[Builtin.SmallTypes.nextOf];calc AA (Bq I.typeIs PySem.F.slot_tuple_iterator_next (Ap PySem.F.slot_tuple_iterator_next I.typeIs PySem.F.entry_tuple_iterator_next ?_ (PySem.F.args_tuple_iterator_next_1 _)));calc AA (m:=field (.ref it) 0) (BF O FD (x:=.ref t) rfl ?_);rw[AE (show ¬ ((Value.ref t==Value.none)=true) by calc A4)];calc AA (BF O FD rfl ?_);calc AA (BU U G ?_);simp only[hx,Ef];calc AA (Bo (AA (CF O FD (by simp) ?_)));calc AA ?_;simp only[newTuple,newExc];calc AA (Ao (AA (wpAny_of_eq (by first|rfl|(simp only[firstArgMember];rfl)) (Ao ?_ (by size_fits)))) (by size_fits));simp only[raiseNew];calc AA (wpAny_handled ?_);first|rw[hh]|rw[show A.in1.handled=none from hh]
 calc AA (AB (wpAny_throw (q _ _ (((Bd ..).extBut.push _).push _) ⟨_,AK _ rfl,rfl⟩)))
structure ZipT (h:Heap) (z TI TO i1 i2 t1 t2:Yt) (f:Yu) (k1 k2:Nat):Prop where
 z:IsZip h z TI TO f
 ti:IsPair h TI (.ref i1) (.ref i2)
 to:∃ a b,IsPair h TO a b
 a:h.IsTupleIter i1 t1 k1
 b:h.IsTupleIter i2 t2 k2
def VP {z TI TO i1 i2 t1 t2:Yt} {k:Nat} {xs ys:Yp} {x y:Yu} {Q:Option Value->Shared->Prop} (D:ZipApart z TI TO i1 i2 t1 t2) (Z:ZipT s.heap z TI TO i1 i2 t1 t2 .none k k)
  (T1:s.heap.IsTuple t1 xs) (T2:s.heap.IsTuple t2 ys) (hx:xs[k]?=some x) (hy:ys[k]?=some y)
  (q:∀ h',ZipT h' z TI TO i1 i2 t1 t2 (rawInt ⇑s) (k+1) (k+1)->IsPair h' ⇑s x y ->
   (∀ c o,c∉[z,TO,i1,i2]->s.heap.get? c=some o->h'.get? c=some o)->Q (some (.ref ⇑s)) { s with heap:=h' }):wpAny (model prog w) A (pyNext (.ref z)) Q E s:=by
 let⟨Z0,P0,⟨a,b,O0⟩,I1,I2⟩:=Z;let ty:s.TypeIs (.ref z) "zip" := ⟨_,Z0,rfl⟩;erw[pyNext];calc AA (CT (Bq ty ES (Ap ES ty PySem.F.entry_zip_next ?_ (PySem.F.args_zip_next_1 _))));calc AA (m:=field (.ref z) 2) (BF Z0 rfl rfl ?_);calc AA (BF Z0 rfl rfl ?_);calc AA (BU P0 rfl ?_);calc AA ?_;erw[Builtin.SmallTypes.ownedTupleIsFree];calc AA (BF Z0 rfl rfl (AB ?_));simp only[BC];refine AA (Bo (AA (BF Z0 rfl rfl (AA (Cq Z0 (by simp) λh1 Z1 e1=>?_)))));replace Z1:IsZip h1 z TI TO .ellipsis:=Z1;calc AA ?_;simp only[List.forIn_cons,List.forIn_nil,List.zipIdx_cons,List.zipIdx_nil];refine AA (AA (D1 (AA (JY (TIt.but I1 e1.extBut D.i1z) (Tup.but T1 e1.extBut D.l1z) hx λh2 J1 e2=>AB ?_))));let O2:IsPair h2 TO a b:=e2.extBut _ _ D.TOi1 (e1.extBut _ _ D.TOz O0);refine AA (BU O2 rfl (AA (wpAny_updateSeq_pair O2 λh3 O3 e3=>AA (wpAny_letGo (AB ?_)))));replace O3:IsPair h3 TO x b:=O3
 refine AA (AA (D1 (AA (JY (TIt.but (TIt.but (TIt.but I2 e1.extBut D.i2z) e2.extBut D.i12.symm) e3.extBut D.TOi2.symm)
  (Tup.but (Tup.but (Tup.but T2 e1.extBut D.l2z) e2.extBut D.l2i1) e3.extBut D.l2TO) hy λh4 J2 e4=>AB ?_))))
 let O4:IsPair h4 TO x b:=e4.extBut _ _ D.TOi2 O3;refine AA (BU O4 rfl (AA (wpAny_updateSeq_pair O4 λh5 O5 e5=>AA (wpAny_letGo (AB (AB ?_))))));replace O5:IsPair h5 TO x y:=O5;calc AA (BU O5 rfl (AA (wpAny_newTuple ?_)));let sz:h5.objs.size=⇑s:=by rw[e5.1,e4.1,e3.1,e2.1,e1.1]
 let Z5:IsZip h5 z TI TO .ellipsis:=e5.extBut _ _ D.TOz.symm (e4.extBut _ _ D.i2z.symm (e3.extBut _ _ D.TOz.symm (e2.extBut _ _ D.i1z.symm Z1)));let kp:∀ c o,c∉[z,TO,i1,i2]->s.heap.get? c=some o->h5.get? c=some o:=λc o n e=>by
  simp only[AJ,A7,Az,not_or]at n;let⟨n1,n2,n3,n4⟩:=n;exact e5.extBut _ _ n2 (e4.extBut _ _ n4 (e3.extBut _ _ n2 (e2.extBut _ _ n3 (e1.extBut _ _ n1 e))))
 let A5:h5.IsTupleIter i1 t1 (k+1):=TIt.but (TIt.but (TIt.but J1 e3.extBut D.TOi1.symm) e4.extBut D.i12) e5.extBut D.TOi1.symm;let B5:h5.IsTupleIter i2 t2 (k+1):=TIt.but J2 e5.extBut D.TOi2.symm;let zl:z<h5.objs.size:=AG Z5;calc AA ?_;erw[Builtin.SmallTypes.ownedTupleHandOut];let Z6:IsZip (h5.push { cls:=.type "tuple", data:=.seq #[x,y] }) z TI TO .ellipsis:=AH _ Z5;refine AA (Cq Z6 (by simp) λh7 Z7 e7=>?_);replace Z7:IsZip h7 z TI TO (rawInt h5.objs.size):=Z7;refine Cq Z7 (by simp) λh8 Z8 e8=>?_;replace Z8:IsZip h8 z TI TO (rawInt h5.objs.size):=Z8;let up:∀ c o,c≠z->h5.get? c=some o->h8.get? c=some o:=λc o n e=>e8.extBut _ _ n (e7.extBut _ _ n (AH _ e));let N8:IsPair h8 h5.objs.size x y:=e8.extBut _ _ (B9 zl) (e7.extBut _ _ (B9 zl) (AK _ rfl));rw[sz]at Z8 N8;calc AB ⟨_,rfl,?_⟩;rw[sz];refine AB (q h8 ⟨Z8,up _ _ D.TIz (kp _ _ (by simp[D.TIz,D.TITO,D.TIi1,D.TIi2]) P0),⟨_,_,up _ _ D.TOz O5⟩,?_,?_⟩ N8 λc o n e=>up c o (λm=>n (by simp[m])) (kp c o n e))
 .obtain ⟨o,e,r⟩:=A5;exact ⟨o,up _ _ D.i1z e,r⟩
 .obtain ⟨o,e,r⟩:=B5;calc ⟨o,up _ _ D.i2z e,r⟩
def d4 {z TI TO i1 i2 t1 t2:Yt} {k:Nat} {xs ys:Yp} {Q:Option Value->Shared->Prop} (hh:A.handled=none) (D:ZipApart z TI TO i1 i2 t1 t2) (Z:ZipT s.heap z TI TO i1 i2 t1 t2 .none k k)
  (T1:s.heap.IsTuple t1 xs) (T2:s.heap.IsTuple t2 ys) (he:xs[k]?=none\/ys[k]?=none)
  (q:∀ h',(∀ c o,c∉[z,TO,i1,i2]->s.heap.get? c=some o->h'.get? c=some o)->Q none { s with heap:=h' }):wpAny (model prog w) A (pyNext (.ref z)) Q E s:=by
 let⟨Z0,P0,⟨a,b,O0⟩,I1,I2⟩:=Z;let ty:s.TypeIs (.ref z) "zip" := ⟨_,Z0,rfl⟩
 let stop:∀ (e:Addr) (h':Heap),(∀ c o,c∉[z,TO,i1,i2]->s.heap.get? c=some o->h'.get? c=some o)->(∃ o,h'.get? e=some o/\o.cls=.type "StopIteration") ->
   wpAny (model prog w) A (do if (<- isInstance (.ref e) (.type "StopIteration")) then pure none else throw (.ref e):Sem (Option Value)) Q E { s with heap:=h' }:=λe h' k1 ⟨o,e1,e2⟩=>
  AA (Eu ⟨o,e1,e2⟩ isSubtype_stop (AB (q h' k1)))
 erw[pyNext];calc AA (CT (Bq ty ES (Ap ES ty PySem.F.entry_zip_next ?_ (PySem.F.args_zip_next_1 _))));calc AA (m:=field (.ref z) 2) (BF Z0 rfl rfl ?_);calc AA (BF Z0 rfl rfl ?_);calc AA (BU P0 rfl ?_);calc AA ?_;erw[Builtin.SmallTypes.ownedTupleIsFree];calc AA (BF Z0 rfl rfl (AB ?_));simp only[BC];refine AA (Bo (AA (BF Z0 rfl rfl (AA (Cq Z0 (by simp) λh1 Z1 e1=>?_)))));replace Z1:IsZip h1 z TI TO .ellipsis:=Z1;calc AA ?_;simp only[List.forIn_cons,List.forIn_nil,List.zipIdx_cons,List.zipIdx_nil];cases hx:xs[k]? with
 |none=>
  refine AA (AA (D1 (AA (J8 hh (TIt.but I1 e1.extBut D.i1z) (Tup.but T1 e1.extBut D.l1z) hx λh2 e e2 he=>?_))));let⟨oe,o1,o2⟩:=he;let Z2:IsZip h2 z TI TO .ellipsis:=e2 _ _ D.i1z.symm Z1;let ne:e≠z:=λm=>by subst m;rw[Z2]at o1;ext o1;simp at o2
  refine Cq Z2 (by simp) λh3 _ e3=>stop e h3 (λc o n x=>?_) ⟨oe,e3.extBut _ _ ne o1,o2⟩;simp only[AJ,A7,Az,not_or]at n;calc e3.extBut _ _ n.1 (e2 _ _ n.2.2.1 (e1.extBut _ _ n.1 x))
 |some x=>
  let hy:ys[k]?=none:=by
   rcases he with m|m
   .rw[hx]at m;ext m
   .exact m
  refine AA (AA (D1 (AA (JY (TIt.but I1 e1.extBut D.i1z) (Tup.but T1 e1.extBut D.l1z) hx λh2 J1 e2=>AB ?_))));let O2:IsPair h2 TO a b:=e2.extBut _ _ D.TOi1 (e1.extBut _ _ D.TOz O0);refine AA (BU O2 rfl (AA (wpAny_updateSeq_pair O2 λh3 O3 e3=>AA (wpAny_letGo (AB ?_)))))
  refine AA (AA (D1 (AA (J8 hh (TIt.but (TIt.but (TIt.but I2 e1.extBut D.i2z) e2.extBut D.i12.symm) e3.extBut D.TOi2.symm)
   (Tup.but (Tup.but (Tup.but T2 e1.extBut D.l2z) e2.extBut D.l2i1) e3.extBut D.l2TO) hy λh4 e e4 he=>?_))))
  let⟨oe,o1,o2⟩:=he;let Z4:IsZip h4 z TI TO .ellipsis:=e4 _ _ D.i2z.symm (e3.extBut _ _ D.TOz.symm (e2.extBut _ _ D.i1z.symm Z1));let ne:e≠z:=λm=>by subst m;rw[Z4]at o1;ext o1;simp at o2
  refine Cq Z4 (by simp) λh5 _ e5=>stop e h5 (λc o n x=>?_) ⟨oe,e5.extBut _ _ ne o1,o2⟩;simp only[AJ,A7,Az,not_or]at n;calc e5.extBut _ _ n.1 (e4 _ _ n.2.2.2 (e3.extBut _ _ n.2.1 (e2.extBut _ _ n.2.2.1 (e1.extBut _ _ n.1 x))))
abbrev HX (h:Heap) (a:Addr):Heap:=h.push { cls:=.type "tuple_iterator", data:=.fields #[.ref a,.int 0 0] }
abbrev JL (h:Heap) (a b:Yt):Heap:=HX (HX h a) b
abbrev JX (h:Heap) (a b:Addr):Heap:=(JL h a b).push { cls:=.type "tuple", data:=.seq #[.ref h.objs.size,.ref (HX h a).objs.size] }
abbrev Ih (h:Heap) (a b:Addr):Heap:=(JX h a b).push { cls:=.type "tuple", data:=.seq #[.none,.none] }
abbrev G7 (h:Heap) (a b:Addr):Heap:=(Ih h a b).push { cls:=.type "zip", data:=.fields #[.none,.bool false,.bool false,.ref (JL h a b).objs.size,.ref (JX h a b).objs.size] }
def VY (a b:Addr) (xs ys:Array Value):Meets (Builtin.«zip.__new__» ⟨[.type "zip", .ref a,.ref b],[]⟩) (λ_ R s=>s.heap.IsTuple a xs/\s.heap.IsTuple b ys/\R (.ok (.ret (.ref (Ih s.heap a b).objs.size))) { s with heap:=G7 s.heap a b }) :=
 .of_wp λprog w A R s h=>by
  let⟨hp,g,d,tk,os⟩:=s;let⟨Ta,Tb,h⟩:=h;let sz:=sub_zip;let U1:Heap.IsTuple (Shared.heap ⟨hp,g,d,tk,os⟩) a xs:=Ta;let U2:Heap.IsTuple (Shared.heap ⟨hp.push { cls:=.type "tuple_iterator", data:=.fields #[.ref a,.int 0 0] },g,d,tk,os⟩) b ys:=Heap.IsTuple.push Tb _;wp_walk using wpAny_pyIter_tuple U1,wpAny_pyIter_tuple U2;calc ⟨_,rfl,h⟩
def Uw (Ta:s.heap.IsTuple a xs) (Tb:s.heap.IsTuple b ys)
  (h:∀ h',ZipT h' (⇑s+4) (⇑s+2) (⇑s+3) ⇑s (⇑s+1) a b .none 0 0->(∀ c o,s.heap.get? c=some o->h'.get? c=some o)->Q (.ref (⇑s+4)) { s with heap:=h' }) :
  wpAny (model prog w) A (call (.type "zip") [.ref a,.ref b]) Q E s:=by
 refine callType_new PySem.F.called_zip () (PySem.F.typeCall_zip_2 _ _) (PySem.F.newCall_zip_2 _ _) (λobj=>PySem.F.args_object_init_3 obj _ _) PySem.F.entry_zip_new (VY a b xs ys) ⟨Ta,Tb,?_⟩;let q1:(HX s.heap a).objs.size=⇑s+1:=Ax ..;let q2:(JL s.heap a b).objs.size=⇑s+2:=by rw[Ax,q1]
 let q3:(JX s.heap a b).objs.size=⇑s+3:=by rw[Ax,q2]
 let q4:(Ih s.heap a b).objs.size=⇑s+4:=by rw[Ax,q3]
 let u:∀ {h:Heap} {c:Yt} {o p:Obj},h.get? c=some o->(h.push p).get? c=some o:=λe=>AH _ e;let p5:(G7 s.heap a b).get? (Ih s.heap a b).objs.size=some _:=AK _ rfl;let p4:(G7 s.heap a b).get? (JX s.heap a b).objs.size=some _:=u (AK _ rfl);let p3:(G7 s.heap a b).get? (JL s.heap a b).objs.size=some _:=u (u (AK _ rfl));let p2:(G7 s.heap a b).get? (HX s.heap a).objs.size=some _:=u (u (u (AK _ rfl)));let p1:(G7 s.heap a b).get? ⇑s=some _:=u (u (u (u (AK _ rfl))));rw[q2,q3,q4]at p5;rw[q1,q2]at p3;rw[q3]at p4;rw[q1]at p2;rw[q4];calc ⟨⟨_,p5,rfl⟩,h _ ⟨p5,p3,⟨_,_,p4⟩,⟨_,p1,rfl,rfl⟩,⟨_,p2,rfl,rfl⟩⟩ λc o x=>u (u (u (u (u x))))⟩
def R8 {X:Cx} {zB:Yd} {Y:L2.St} {H:Hp} {s:Yl} {h':Heap} {t':Nat} {ch:Yg} {T:Yt} {o:HO} (I:Inv X zB Y H s) (hf:∀ b∈ch,BL X zB H b)
  (k:∀ b u,b∉ch->s.heap.get? b=some u->h'.get? b=some u) (hT:⇑s<=T) (new:zy X.prog X.w (upd H T o) h' T o):Inv X zB Y (upd H T o) { s with heap:=h',toks:=t' }:=by
 let hn:H T=none:=I.hok.fresh hT;let nch:∀ b u,H b=some u->b∉ch:=λb u e z=>by rw[(hf b z).1]at e;ext e
 let un:∀ b u,H b=some u->upd H T o b=some u:=λb u e=>by rw[zS (DO e hn)];exact e
 refine I.step (λb hb=>⟨(hf b hb).2.2.2.1,(hf b hb).2.1,(hf b hb).2.2.2.2.1,(hf b hb).2.2.2.2.2⟩) (λb u _ _ hc e _=>k b u hc e) (λb u _ _ hc e _=>⟨u.slots,k b u hc e⟩)
  (λb u _ e n=>by rw[zS (λz=>by rw[z]at e;calc absurd (AG e) (Nat.not_lt.mpr hT))];calc n) (λb u hc e=>⟨u,k b u hc e⟩) (λb xs e=>un b _ e) (λb p u e=>un b _ e) (λb ps e=>⟨#[],by rw[un b _ e];simp⟩) (λm hm=>?_) (λb u e=>?_) I.bare
 .obtain ⟨p,es,ep,ho,r⟩:=hm;exact ⟨p,es,ep,k _ p (λz=>(hf _ z).2.1 rfl) ho,r⟩
 .by_cases hb:b=T
  .subst hb;rw[CH]at e;ext e;exact new
  .rw[zS hb]at e;refine (I.hok b u e).stay (λc v hc q=>k c v ?_ q) (λc q=>un c _ q) λc xs q=>un c _ q;rcases hc with z|z
   .rw[z];exact nch b u e
   .exact nch c _ z
def Hm {X:Cx} {zB:Yd} {Y:L2.St} {H:Hp} {s:Yl} {h':Heap} {t':Nat} {ch:Yg} (I:Inv X zB Y H s) (hf:∀ b∈ch,BL X zB H b)
  (k:∀ b u,b∉ch->s.heap.get? b=some u->h'.get? b=some u):Inv X zB Y H { s with heap:=h',toks:=t' }:=by
 let nch:∀ b u,H b=some u->b∉ch:=λb u e z=>by rw[(hf b z).1]at e;ext e
 refine I.step (λb hb=>⟨(hf b hb).2.2.2.1,(hf b hb).2.1,(hf b hb).2.2.2.2.1,(hf b hb).2.2.2.2.2⟩) (λb u _ _ hc e _=>k b u hc e) (λb u _ _ hc e _=>⟨u.slots,k b u hc e⟩)
  (λb u _ e n=>n) (λb u hc e=>⟨u,k b u hc e⟩) (λb xs e=>e) (λb p u e=>e) (λb ps e=>⟨#[],by rw[e];simp⟩) (λm hm=>?_) (λb u e=>?_) I.bare
 .obtain ⟨p,es,ep,ho,r⟩:=hm;exact ⟨p,es,ep,k _ p (λz=>(hf _ z).2.1 rfl) ho,r⟩
 .refine (I.hok b u e).stay (λc v hc q=>k c v ?_ q) (λc q=>q) λc xs q=>q;rcases hc with z|z
  .rw[z];exact nch b u e
  .exact nch c _ z
def Itz (K:Yb) (a b:Yt):It :=
 ⟨λi H=>∃ xs ys x y,SqT K H a xs/\SqT K H b ys/\xs[i]?=some x/\ys[i]?=some y,
  λi H v H'=>∃ T x y,v=.ref T/\H T=none/\H'=upd H T (.tup [x,y])/\(∀ xs,SqT K H a xs->xs[i]?=some x) /\ ∀ ys,SqT K H b ys->ys[i]?=some y,
  λi H=>∃ xs ys,SqT K H a xs/\SqT K H b ys/\(xs.length<=i\/ys.length<=i)⟩
def d3 {P:Ym} {w:Yo} {K:Yb} {es:Yi} {ek:Nat} {ep:Pos} {z TI TO i1 i2 a b:Yt} (D:ZipApart z TI TO i1 i2 a b) :
  Turn P w K (.Tuple es ek ep) (Itz K a b) [z,TI,TO,i1,i2] z (λi h=>ZipT h z TI TO i1 i2 a b .none i i) where
 mem:=by simp
 obj:=λi h Z c hc=>by
  let⟨Z0,P0,⟨x,y,O0⟩,⟨o1,e1,_,d1⟩,⟨o2,e2,_,d2⟩⟩:=Z;simp only[AJ,A7,Az]at hc;rcases hc with rfl|rfl|rfl|rfl|rfl
  .exact ⟨_,Z0,λv m=>by ext m⟩
  .exact ⟨_,P0,λv m=>by ext m⟩
  .exact ⟨_,O0,λv m=>by ext m⟩
  .exact ⟨_,e1,λv m=>by rw[d1]at m;ext m⟩
  .exact ⟨_,e2,λv m=>by rw[d2]at m;ext m⟩
 keep:=λi h h' Z k=>by
  let⟨Z0,P0,⟨x,y,O0⟩,⟨o1,e1,r1⟩,⟨o2,e2,r2⟩⟩:=Z;exact ⟨k z (by simp) _ Z0,k TI (by simp) _ P0,⟨x,y,k TO (by simp) _ O0⟩,⟨o1,k i1 (by simp) _ e1,r1⟩,⟨o2,k i2 (by simp) _ e2,r2⟩⟩
 item:=by
  intro X hP hw hK hc i zB s Y H E I hf Z hg;subst hP hw hK;let⟨xs,ys,x,y,sa,sb,hx,hy⟩:=hg;let⟨its,rv,p1,z1⟩:=I.tuple sa;let⟨its2,rv2,p2,z2⟩:=I.tuple sb;let⟨u,hu,ru⟩:=rv.get hx;let⟨u2,hu2,ru2⟩:=rv2.get hy;refine VP D Z (show s.heap.IsTuple a its.toArray from p1) (show s.heap.IsTuple b its2.toArray from p2) (~~~hu) (~~~hu2) λh' Z' N' kp=>⟨_,rfl,?_⟩;refine wpAny_letOwnedTupleGo_zip Z'.z λh2 Z2 e2=>?_;let hch:∀ c∈[z,TO,i1,i2],BL X zB H c:=λc hm=>hf c (by
   simp only[AJ,A7,Az]at hm ⊢;rcases hm with q|q|q|q <;> simp[q])
  let kk:∀ c o,c∉[z,TO,i1,i2]->s.heap.get? c=some o->h2.get? c=some o:=λc o n e=>e2.extBut _ _ (λm=>n (by simp[m])) (kp c o n e);let zlt:z<⇑s:=AG Z.z;let NT:IsPair h2 ⇑s u u2:=e2.extBut _ _ (B9 zlt) N';let hfr:H ⇑s=none:=I.hok.fresh (AF _);refine ⟨.ref ⇑s,upd H ⇑s (.tup [x,y]),R8 (s:=s) I hch kk (AF _) ?_,rfl,⟨_,x,y,rfl,hfr,rfl,λws hw=>?_,λws hw=>?_⟩,?_,λc hm=>?_⟩
  .exact ⟨by show 2<=sizeLine;decide,[u,u2],.cons ru (.cons ru2 .nil),⟨_,NT,rfl,⟨_,rfl⟩,rfl⟩⟩
  .rw[I.tuple_inj hw sa];exact hx
  .rw[I.tuple_inj hw sb];exact hy
  .obtain ⟨_,P1,⟨q1,q2,O1⟩,⟨o1,f1,r1⟩,⟨o2,f2,r2⟩⟩:=Z';exact ⟨Z2,e2.extBut _ _ D.TIz P1,⟨q1,q2,e2.extBut _ _ D.TOz O1⟩,⟨o1,e2.extBut _ _ D.i1z f1,r1⟩,⟨o2,e2.extBut _ _ D.i2z f2,r2⟩⟩
  .have lt:c<⇑s:=by
    let⟨Z0,P0,⟨q1,q2,O0⟩,⟨o1,f1,_⟩,⟨o2,f2,_⟩⟩:=Z;simp only[AJ,A7,Az]at hm;rcases hm with rfl|rfl|rfl|rfl|rfl
    .exact AG Z0
    .exact AG P0
    .exact AG O0
    .exact AG f1
    .exact AG f2
   rw[zS (AU lt)];exact (hf c hm).1
 done:=by
  intro X hP hw hK hc i zB s Y H E I hf Z hg;subst hP hw hK;let⟨xs,ys,sa,sb,hz⟩:=hg;let⟨its,rv,p1,z1⟩:=I.tuple sa;let⟨its2,rv2,p2,z2⟩:=I.tuple sb;let l1:=rv.length;let l2:=rv2.length;refine d4 (I.ok.hd hc) D Z (show s.heap.IsTuple a its.toArray from p1) (show s.heap.IsTuple b its2.toArray from p2) ?_ λh' kp=>⟨rfl,Hm I (λc hm=>hf c (by
   simp only[AJ,A7,Az]at hm ⊢;rcases hm with q|q|q|q <;> simp[q])) kp⟩
  rcases hz with q|q
  .exact .inl (by simp;omega)
  .exact .inr (by simp;omega)
 self:=λ_ _ _ _ _ Z h=>wpAny_pyIter_zip Z.z h
def Vh {ta:TA} (hg:Gl X "zip") (hm:X.mg "zip" = none) (ha:PA X [a,b] ta) (hs:starEach [a,b] X.env=[(false,eval a X.env),(false,eval b X.env)]:=by rfl) (hs2:starEach [b] X.env=[(false,eval b X.env)]:=by rfl) :
  PI X (.Tuple es ek ep) (.Call (.Name "zip" p) [a,b] [] pos) (λY H R=>ta Y H λvs H1=>∃ l1 l2 xs ys,vs=[.ref l1,.ref l2]/\SqT X.K H1 l1 xs/\SqT X.K H1 l2 ys/\R (Itz X.K l1 l2) H1):=by
 intro zB s Y H R I h;refine Call_ (C7 I hg hm (by rfl) (PyProof.Rows.callWith_type1 (thn (ha pos zB s Y H _ I h) λus s1 ⟨vs,H1,I1,r1,q1⟩=>?_) (by rw[hs,hs2]) (by rw[hs2];rfl)));let⟨l1,l2,xs,ys,rfl,s1',s2',q⟩:=q1;cases r1 with
 |cons r rr=>
  cases rr with
  |cons r' rr=>
   ext rr;ext r;ext r';let⟨its,rv,p1,_⟩:=I1.tuple s1';let⟨its2,rv2,p2,_⟩:=I1.tuple s2';let d1:l1<⇑s1:=by let⟨_,e,_⟩:=p1;exact AG e
   let d2:l2<⇑s1:=by let⟨_,e,_⟩:=p2;exact AG e
   refine Uw (show s1.heap.IsTuple l1 its.toArray from p1) (show s1.heap.IsTuple l2 its2.toArray from p2) λh' Z kp=>wpAny_pyIter_zip Z.z ?_;refine ⟨⇑s1+4,[⇑s1+4,⇑s1+2,⇑s1+3,⇑s1,⇑s1+1],_,_,H1,rfl,I1.kept kp,d3 (zipApart_new d1 d2),Z,λc hc=>?_,q⟩;let ge:⇑s1<=c:=by
    simp only[AJ,A7,Az]at hc;rcases hc with rfl|rfl|rfl|rfl|rfl
    .exact Ei _ 4
    .exact Ei _ 2
    .exact Ei _ 3
    .exact AF _
    .exact Ei _ 1
   calc I1.fpOk ge (I1.hok.fresh ge)
def Eo (g:FA):FI:=λY M=>match g Y M with
 |some ([.tup xs,.tup ys],M1)=>some ((xs.zip ys).map λq=>D.tup [q.1,q.2],none,M1)
 |_=>none
def SS (hg:Gl X "zip") (hm:X.mg "zip" = none) (ha:QA X [a,b] g) (hs:starEach [a,b] X.env=[(false,eval a X.env),(false,eval b X.env)]:=by rfl) (hs2:starEach [b] X.env=[(false,eval b X.env)]:=by rfl) :
  QI X (.Tuple es ek ep) (.Call (.Name "zip" p) [a,b] [] pos) (Eo g):=.mk <| PI.imp (Vh hg hm ha.un hs hs2) λτ H R zz=>by
 let⟨L,Y,M,xs,gd,M',c,rs,hf,q⟩:=zz;erw[Eo]at hf;cbv at hf
 .rename_i ds es' M1 e1;ext hf;refine ⟨L,Y,M,_,_,c,rs,e1,λL1 H1 vs s1 c1 r1=>?_⟩;let⟨v,v',rfl,r2,r3⟩:=r1.two;unfold Rep at r2 r3;let⟨l1,ws1,rfl,h1,q1⟩:=r2;let⟨l2,ws2,rfl,h2,q2⟩:=r3;refine ⟨l1,l2,ws1,ws2,rfl,.of h1,.of h2,q L1 H1 _ s1 c1 λL2 H2 M2 s2 c2 _=>?_⟩;let k1:=s2.tup l1 ws1 h1;let k2:=s2.tup l2 ws2 h2;let p1:=q1.stp s2;let p2:=q2.stp s2;refine ⟨λi d hd=>?_,⟨ws1,ws2,.of k1,.of k2,?_⟩⟩
  .rw[AW]at hd;cases e2:(ds.zip es')[i]? with
   |none=>rw[e2]at hd;ext hd
   |some pr=>
    rw[e2]at hd;ext hd;let⟨f1,f2⟩:=List.getElem?_zip_eq_some.mp e2;let⟨u,hu,ru⟩:=p1.get f1;let⟨u2,hu2,ru2⟩:=p2.get f2;refine ⟨⟨ws1,ws2,u,u2,.of k1,.of k2,hu,hu2⟩,λv H3 hy=>?_⟩;let⟨T,x,y,rfl,hT,rfl,hxx,hyy⟩:=hy;let ex:=hxx ws1 (.of k1);let ey:=hyy ws2 (.of k2);rw[hu]at ex;ext ex;rw[hu2]at ey;ext ey;exact ⟨λa o e=>by rw[zS (DO e hT)];calc e,Rep.newTup hT (.cons ru (.cons ru2 .nil))⟩
  .rw[AI,List.length_zip,p1.length,p2.length];omega
 .cases hf
def Gx (i j:Nat):FG:=λd Y=>match d with
 |.tup [x,y]=>some ((Y.set i (some x)).set j (some y))
 |_=>none
abbrev gP2 (K:Yb) (i j:Nat):TG:=Lq K 2 (Gn (Cd i) (Gn (Cd j) Kh))
def To {K:Yb} {i j:Nat}:GOk (gP2 K i j) (Gx i j):=by
 intro L H Y Y' τ d v Q rs r hf q;erw[Gx]at hf;cbv at hf
 .rename_i x y;ext hf;erw[Rep]at r;let⟨a,vs,rfl,e,r⟩:=r;let⟨v1,v2,rfl,r1,r2⟩:=r.two;exact ⟨a,_,rfl,.of e,rfl,v1,[v2],rfl,v2,[],rfl,rfl,q _ ((rs.set r1).set r2)⟩
 .cases hf
def SH {K:Yb} {own:Yj} {i j:Nat} (hi:i∈own) (hj:j∈own):CK own (gP2 K i j) (Gx i j):=by
 intro L H Y Y' τ τ0 d v Q rs ex r hf q;erw[Gx]at hf;cbv at hf
 .rename_i x y;ext hf;erw[Rep]at r;let⟨a,vs,rfl,e,r⟩:=r;let⟨v1,v2,rfl,r1,r2⟩:=r.two;exact ⟨a,_,rfl,.of e,rfl,v1,[v2],rfl,v2,[],rfl,rfl,q _ ((rs.set r1).set r2) ((ex.set hi).set hj)⟩
 .cases hf
section
variable {X:Cx} {a b c e:Expr} {es:Yi} {pos p p2 pos2:Pos} {f g h:FE}
theorem N5:∀ {bs:List Bool} {its:Yf},zU (bs.map V.bl) its -> ∀ (i:Nat) v,its[i]?=some v -> ∃ k,bs[i]?=some k/\v=.bool k
 |[],_,.nil,_,_,h=>by simp at h
 |k::bs,_,.cons r t,0,v,h=>by
  simp at h;subst h;calc ⟨k,rfl,r⟩
 |k::bs,_,.cons r t,i+1,v,h=>by
  let⟨k',e1,e2⟩:=N5 t i v (~~~h);calc ⟨k',by simpa using e1,e2⟩
def Su (bs:List Bool):((List.range bs.length).all λi=>(bs[i]?).getD true)=bs.all id:=by
 rw[C1,An,An];constructor
 .intro q k hk;let⟨i,hi,rfl⟩:=Ck hk;have:=q i (CD.mpr hi);rw[AL hi]at this;exact this
 .intro q i hi;rw[AL (CD.mp hi)];calc q _ (BR _)
def Qc (K:Yb) (F:List Bool->Bool):List V->Hp->VK->Prop:=λxs H Q=>∃ q bs,xs=[.ref q]/\SqL K H q (bs.map V.bl)/\Q (.bl (F bs)) H
def Xo (hc:X.calm=true):CC X (.builtin "all") (Qc X.K λbs=>bs.all id):=by
 intro zB s Y H xs us Q I r h;let⟨l,bs,rfl,hq,q⟩:=h;let⟨u,rfl,rx⟩:=EL r;ext rx;let⟨its,rv,pl,_⟩:=I.list hq;let hlt:l<⇑s:=by let⟨_,z,_⟩:=pl.isList;exact AG z
 refine call_all_walk (wpAny_pyIter_list pl.isList ⟨⇑s,[⇑s,l],[⇑s],its.toArray.size,_,_,λi=>(bs[i]?).getD true,rfl,Walks.list (A:=X.A.in1) (I.ok.hd hc) _ l (AU hlt) its.toArray,
  ⟨⟨_,AK _ rfl,rfl,rfl⟩,pl.isList.push _⟩,λi v s' Q' E' hP hQ=>?_,λh' tk hk=>?_⟩)
 .obtain ⟨k,z,rfl⟩:=N5 rv i v (~~~hP);dsimp only at hQ;rw[z]at hQ;exact ED hQ
 .have hl:=rv.length;rw[AI]at hl;rw[AX,<-hl,Su];calc ⟨.bl _,H,I.kept (t':=tk) λb o z=>hk b o (λm=>by rw[BD.mp m]at z;calc BK _ (AG z)) (AH _ z),rfl,q⟩
def Ee:List D->Option (List Bool)
 |[]=>some []
 |.bl k::r=>match Ee r with
  |some bs=>some (k::bs)
  |none=>none
 |_=>none
theorem OP:∀ {ds:List D} {bs:List Bool} {vs:List V},Ee ds=some bs->zE L H ds vs->vs=bs.map V.bl
 |[],bs,vs,e,r=>by ext e;erw[zE]at r;calc r
 |d::ds,bs,vs,e,r=>by
  erw[zE]at r;let⟨v,r',rfl,r1,r2⟩:=r;cases d with
  |bl k=>
   erw[Ee]at e;cases q:Ee ds with
   |none=>rw[q]at e;ext e
   |some bs'=>
    rw[q]at e;ext e;erw[Rep]at r1;rw[r1,OP q r2];rfl
  |_=>ext e
def GU (F:List Bool->Bool):KB:=λxs M=>match xs with
 |[x]=>match BO M x with
  |some ds=>match Ee ds with
   |some bs=>some (.dat (.bl (F bs)),M)
   |none=>none
  |none=>none
 |_=>none
def aY {K:Yb} {F:List Bool->Bool}:C4 K (Qc K F) (GU F):=by
 intro L M M' H H0 xs d vs Q c r hk q;erw[GU]at hk;cbv at hk
 .rename_i x;cbv at hk
  .rename_i ds e1;cbv at hk
   .rename_i bs e2;ext hk;let⟨v,rfl,r1⟩:=r.one;let⟨l,ws,rfl,h1,r2⟩:=Cf c r1 e1;have:=OP e2 r2;subst this;exact ⟨l,bs,rfl,.inl h1,q L H _ (.refl L H) c (Bl (L:=L) (H:=H))⟩
   .cases hk
  .cases hk
 .cases hk
abbrev D0:KB:=GU λbs=>bs.all id
section
variable {fa:FAE}
def cE (hc:X.calm=true) (hg:Gl X "all") (hm:X.mg "all" = none) (ha:QAE X [e] fa) (he:starEach [e] X.env=(false,eval e X.env)::starEach [] X.env:=by rfl) (hpl:(backTo pos (starEach [] X.env)).any (·.1)=false:=by rfl):QE X (.Call (.Name "all" p) [e] [] pos) (fB D0 fa) :=
 F6 aY (Xo hc) (by rfl) hg hm ha () () he hpl
end
def a9 (h:BO M x=some ds) (hb:Ee ds=some bs):Ok (GU F [x] M) P ↔ P (.dat (.bl (F bs))) M:=by
 have:GU F [x] M=some (.dat (.bl (F bs)),M):=by erw[GU];dsimp only;rw[h];dsimp only;rw[hb]
 rw[this,zg]
theorem OG:∀ bs:List Bool,Ee (bs.map D.bl)=some bs
 |[]=>rfl
 |k::bs=>by rw[Ab];erw[Ee];rw[OG bs]
def Lx:V->Bool
 |.non=>true
 |.bl _=>true
 |_=>false
def WQ:OpR X (compareOp .IsNot) (λx y H Q=>Lx y=true/\Q (.bl (!decide (x=y))) H):=by
 intro zB s Y H x y v u Q I rx ry h;let⟨hp,q⟩:=h;cases y with
 |non=>
  ext ry;refine wpAny_isNot_plain (by cases x <;> first|(ext rx;rfl)|(let⟨t,rfl⟩:=rx;rfl)) (zd I q ?_);cases x <;> first|(ext rx;rfl)|(let⟨t,rfl⟩:=rx;rfl)
 |bl k=>
  ext ry;refine wpAny_isNot_plain (by cases x <;> first|(ext rx;rfl)|(let⟨t,rfl⟩:=rx;rfl)) (zd I q ?_);cases x with
  |bl k'=>ext rx;cases k <;> cases k' <;> rfl
  |_=>first|(ext rx;rfl)|(let⟨t,rfl⟩:=rx;rfl)
 |_=>ext hp
def isD:EV->D->Option Bool
 |x,.non=>match x with
  |.dat .non=>some true
  |_=>some false
 |x,.bl k=>match x with
  |.dat (.bl k')=>some (decide (k'=k))
  |_=>some false
 |_,_=>none
def kIs (neg:Bool):K2:=λx y M=>match y with
 |.dat d=>match isD x d with
  |some k=>some (.dat (.bl (if neg then !k else k)),M)
  |none=>none
 |_=>none
def XN (rx:zT H0 L H x v) (ry:Rep L H d w) (e:isD x d=some k):Lx w=true/\decide (v=w)=k:=by
 cases d with
 |non=>
  erw[Rep]at ry;subst ry;calc ⟨rfl,?_⟩;cases x with
  |fl xs=>let⟨q,vs,rfl,_⟩:=rx;ext e;rfl
  |dat d'=>
   cases d' with
   |non=>erw[zT,Rep]at rx;subst rx;ext e;rfl
   |bl _=>erw[zT,Rep]at rx;subst rx;ext e;rfl
   |int _=>erw[zT,Rep]at rx;subst rx;ext e;rfl
   |str _=>erw[zT,Rep]at rx;subst rx;ext e;rfl
   |tup _=>erw[zT,Rep]at rx;let⟨q,vs,rfl,_⟩:=rx;ext e;rfl
   |ref _=>erw[zT,Rep]at rx;let⟨q,rfl,_⟩:=rx;ext e;rfl
   |fn _ _=>erw[zT,Rep]at rx;let⟨rfl,_⟩:=rx;ext e;rfl
 |bl k'=>
  erw[Rep]at ry;subst ry;calc ⟨rfl,?_⟩;cases x with
  |fl xs=>let⟨q,vs,rfl,_⟩:=rx;ext e;rfl
  |dat d'=>
   cases d' with
   |non=>erw[zT,Rep]at rx;subst rx;ext e;rfl
   |bl j=>erw[zT,Rep]at rx;subst rx;ext e;cases j <;> cases k' <;> rfl
   |int _=>erw[zT,Rep]at rx;subst rx;ext e;rfl
   |str _=>erw[zT,Rep]at rx;subst rx;ext e;rfl
   |tup _=>erw[zT,Rep]at rx;let⟨q,vs,rfl,_⟩:=rx;ext e;rfl
   |ref _=>erw[zT,Rep]at rx;let⟨q,rfl,_⟩:=rx;ext e;rfl
   |fn _ _=>erw[zT,Rep]at rx;let⟨rfl,_⟩:=rx;ext e;rfl
 |_=>ext e
def SK (h:kIs neg x y M=some (r,M')):∃ d k,y=.dat d/\isD x d=some k/\r=.dat (.bl (if neg then !k else k))/\M'=M:=by
 erw[kIs]at h;cbv at h
 .rename_i d;cbv at h
  .rename_i k e1;ext h;exact ⟨d,k,rfl,e1,rfl,rfl⟩
  .cases h
 .cases h
def U9 {K:Yb}:A9 K (λx y H Q=>Lx y=true/\Q (.bl (!decide (x=y))) H) (kIs true):=by
 intro L M M' H H0 x y d v w Q cc rx ry hk q;let⟨d',k,rfl,e,rfl,rfl⟩:=SK hk;let⟨h1,h2⟩:=XN rx ry e;calc ⟨h1,?_⟩;rw[h2];calc q L H _ (.refl L H) cc (Bl (L:=L) (H:=H))
def Z9 (h1:QE X a f) (h2:QE X b g):QT X (.Compare a [.IsNot] [b] pos) (tst (fOp (kIs true) f g)):=Ep U9 WQ h1 h2 (DT _)
def GN (k k':K2) (f g h:FE):FE:=λY M=>match f Y M with
 |some (x,M1)=>match g Y M1 with
  |some (y,M2)=>match k x y M2 with
   |some (.dat (.bl true),M3)=>match h Y M3 with
    |some (w,M4)=>k' y w M4
    |none=>none
   |some (.dat (.bl false),M3)=>some (.dat (.bl false),M3)
   |_=>none
  |none=>none
 |none=>none
def SU {K:Yb} {r r':R2} {k k':K2} (hk:A9 K r k) (hk':A9 K r' k') {τ:Sv} {H:Hp} {Q:VK} (z:trE K (GN k k' f g h) τ H Q):PF r r' (trE K f) (trE K g) (trE K h) τ H Q:=by
 let⟨L,Y,M,d,M',cc,rs,hf,q⟩:=z;erw[GN]at hf;cbv at hf
 .rename_i x M1 e1;cbv at hf
  .rename_i y M2 e2;refine (mkE cc rs e1 (λL1 H1 v s1 c1 r1=>(mkE c1 (rs.stp s1) e2 (λL2 H2 w s2 c2 r2=>?_))));cbv at hf
   .rename_i M3 e3;cbv at hf
    .rename_i u M4 e4;refine hk (H0:=H) c2 (r1.stp s2) (r2.back s1 cc s2.sub) e3 λL3 H3 t s3 c3 r3=>⟨true,FQ r3,DU ?_⟩;refine (mkE c3 (rs.stp ((s1.trans s2).trans s3)) e4 (λL4 H4 w4 s4 c4 r4=>?_));let s13:=(s1.trans s2).trans s3;refine hk' (H0:=H) c4 (((r2.back s1 cc s2.sub).stp s3).stp s4) (r4.back s13 cc s4.sub) hf λL5 H5 u5 s5 c5 r5=>?_;exact q L5 H5 u5 ((s13.trans s4).trans s5) c5 (r5.back (s13.trans s4) cc s5.sub)
    .cases hf
   .rename_i M3 e3;ext hf;refine hk (H0:=H) c2 (r1.stp s2) (r2.back s1 cc s2.sub) e3 λL3 H3 t s3 c3 r3=>⟨false,FQ r3,Dd ?_⟩;exact q L3 H3 _ ((s1.trans s2).trans s3) c3 (by have:=FQ r3;subst this;calc r3)
   .cases hf
  .cases hf
 .cases hf
def R3 (hk:A9 X.K r k) (hk':A9 X.K r' k') (ho:OpR X (compareOp op) r) (ho':OpR X (compareOp op') r') (h1:QE X a f) (h2:QE X b g) (h3:QE X c h)
  (hm:lastMarks [op,op'] [b,c]=false:=by with_unfolding_all rfl):QE X (.Compare a [op,op'] [b,c] pos) (GN k k' f g h):=.mk <| PE.imp (YR ho ho' h1.un h2.un h3.un hm) λ_ _ _ z=>SU hk hk' z
section
variable {M:Mem} {Y:Sd} {P:EV->Mem->Prop}
def eF:Ok (GN k k' f g h Y M) P ↔ Ok (f Y M) λx M1=>Ok (g Y M1) λy M2=>Ok (k x y M2) (blP λt M3=>if t then Ok (h Y M3) λw M4=>Ok (k' y w M4) P else P (.dat (.bl false)) M3):=by
 erw[GN];constructor
 .rintro ⟨x,M1,z,q⟩;cbv at z
  .rename_i y M2 e1;cbv at z
   .rename_i y' M3 e2;cbv at z
    .rename_i M4 e3;cbv at z
     .rename_i w M5 e4;exact ⟨_,_,e1,_,_,e2,_,_,e3,by rw[Fi,AD rfl];calc ⟨_,_,e4,_,_,z,q⟩⟩
     .cases z
    .rename_i M4 e3;ext z;exact ⟨_,_,e1,_,_,e2,_,_,e3,by rw[Fi];simpa using q⟩
    .cases z
   .cases z
  .cases z
 .rintro ⟨x,M1,e1,y,M2,e2,t,M3,e3,q⟩;rw[e1];dsimp only;rw[e2];dsimp only;rw[e3];cases t with
  |fl _=>calc q.elim
  |dat d=>
   cases d with
   |bl t=>
    rw[Fi]at q;cases t with
    |true=>
     rw[AD rfl]at q;let⟨w,M4,e4,q⟩:=q;dsimp only;rw[e4];calc q
    |false=>calc ⟨_,_,rfl,by simpa using q⟩
   |_=>calc q.elim
end
def Jk (f:FE):FE:=λY M=>match f Y M with
 |some (.dat (.int i),M1)=>some (.dat (.int (-i)),M1)
 |_=>none
def U5 (h1:QE X a f):QE X (.UnaryOp .USub a pos) (Jk f):=.mk <| PE.imp (eN YQ h1.un) λτ H Q zz=>by
 let⟨L,Y,M,d,M',cc,rs,hf,q⟩:=zz;erw[Jk]at hf;cbv at hf
 .rename_i i M1 e1;ext hf;refine (mkE cc rs e1 (λL1 H1 v s1 c1 r1=>?_));exact ⟨i,by erw[zT,Rep]at r1;calc r1,q L1 H1 _ s1 c1 (B6 (L:=L1) (H:=H1))⟩
 .cases hf
def GJ:KB:=λxs M=>match xs with
 |[x]=>match zr M x with
  |some ys=>some (.fl ys,M)
  |none=>none
 |_=>none
def Wl:C4 X.K (λxs H Q=>∃ q ys,xs=[.ref q]/\(SqL X.K H q ys\/SqT X.K H q ys) /\ ∀ l,H l=none->Q (.ref l) (upd H l (.lst ys))) GJ:=by
 intro L M M' H H0 xs d vs Q cc r hk q;erw[GJ]at hk;cbv at hk
 .rename_i x;cbv at hk
  .rename_i ys e1;ext hk;let⟨v,rfl,r1⟩:=r.one;let⟨l,ws,rfl,hs,r2⟩:=GQ cc r1 e1;refine ⟨l,ws,rfl,hs,λk hk=>?_⟩;exact q L _ _ (.upd hk) (cc.upd hk) (zT.newLst (.refl L H) cc cc hk r2)
  .cases hk
 .cases hk
def Tn (hg:Gl X "list") (hm:X.mg "list" = none) (ha:QAE X [e] fa) (he:starEach [e] X.env=(false,eval e X.env)::starEach [] X.env:=by rfl) (hpl:(backTo pos (starEach [] X.env)).any (·.1)=false:=by rfl):QE X (.Call (.Name "list" p) [e] [] pos) (fB GJ fa) :=
 Pl Wl S5 (by rfl) hg hm ha () () he hpl
end
open AutoSeq1 (wpAny_loadPart')
def RX {r:Yt} {lo hi:Int} {t u v:Tok} {n:Nat} {Q:List Value->Shared->Prop} (hh:A.handled=none) (R:IsRange s.heap r lo hi 1 t u v) (sm:Builtin.Range.small lo hi 1=true) (hn:Builtin.Range.rangeSize lo hi 1=n) (hz:n<=2 ^ 24)
  (q:∀ h' tk (acc:Yp),(∀ b o,s.heap.get? b=some o->h'.get? b=some o)->ItemsOf (λi v=>∃ t,v=.int (lo+i*1) t) acc n->Q acc.toList { s with heap:=h',toks:=tk }):wpAny (model prog w) A (collect (.ref r)) Q E s:=by
 erw[collect];calc AA (wpAny_runValue (CG PySem.F.entry_proto_collect ?_));rw[Cs PySem.F.plain_proto_collect _];calc AA (Ao (AB ⟨Ds PySem.F.plain_list_iadd _,CG PySem.F.entry_list_iadd ?_⟩));rw[Cs PySem.F.plain_list_iadd _];let S0:(s.heap.push { cls:=.type "list", data:=.seq ([]:List Value).toArray }).get? ⇑s=some { cls:=.type "list", data:=.seq #[] 0 }:=AK _ rfl
 let fin:∀ (h':Heap) (tk:Nat) (acc:Array Value) (k:Nat),(∀ b o,b≠⇑s->(s.heap.push { cls:=.type "list", data:=.seq ([]:List Value).toArray }).get? b=some o->h'.get? b=some o) ->
   h'.get? ⇑s=some { cls:=.type "list", dict:=none,data:=.seq acc k,slots:=#[] }->ItemsOf (λi v=>∃ t,v=.int (lo+i*1) t) acc n ->
   wpAny (model prog w) A (match Value.ref ⇑s with
    |Value.ref a=>do
     match (<- load a).data with
      |Data.seq xs _=>pure xs.toList
      |_=>unsupported "internal:collect"
    |_=>unsupported "internal:collect") Q E { s with heap:=h',toks:=tk }:=λh' tk acc k kp e it=>by
  refine AA (wpAny_load e (AB (q h' tk acc (λb o m=>kp b o (AU (AG m)) (AH _ m)) it)))
 refine AS (wpAny_extend_range
  (R:=λr s'=>r=.ok (.ret (.ref ⇑s)) /\ ∃ h' tk acc k,s'={ s with heap:=h',toks:=tk }/\(∀ b o,b≠⇑s->(s.heap.push { cls:=.type "list", data:=.seq ([]:List Value).toArray }).get? b=some o->h'.get? b=some o) /\
   h'.get? ⇑s=some { cls:=.type "list", dict:=none,data:=.seq acc k,slots:=#[] }/\ItemsOf (λi v=>∃ t,v=.int (lo+i*1) t) acc n)
  hh (AH _ R) sm hn hz ⇑s (.ref ⇑s) 0 S0 λh' tk acc k kp e it=>⟨rfl,h',tk,acc,k,rfl,kp,e,it⟩) (λf s' z=>?_) (λe s' z=>?_)
 .cases f with
  |done f=>
   let⟨e,h',tk,acc,k,rfl,z1,z2,z3⟩:=z;ext e;calc fin h' tk acc k z1 z2 z3
  |again c'=>exact ⟨z.1,codeAny_mono z.2 λr s'' z=>by let⟨rfl,h',tk,acc,k,rfl,z1,z2,z3⟩:=z;calc fin h' tk acc k z1 z2 z3⟩
 .exact absurd z.1 (by simp)
def Xs (r:Yt) (lo hi:Int) (t u v:Tok) (n:Nat) (sm:Builtin.Range.small lo hi 1=true) (hn:Builtin.Range.rangeSize lo hi 1=n) (hz:n<=2 ^ 24) :
  Meets (Builtin.«tuple.__new__» ⟨[.type "tuple", .ref r],[]⟩) (λA R s=>A.handled=none/\IsRange s.heap r lo hi 1 t u v /\
   ∀ (h':Heap) (tk:Nat) (acc:Array Value),(∀ b o,s.heap.get? b=some o->h'.get? b=some o)->ItemsOf (λi v=>∃ t,v=.int (lo+i*1) t) acc n->R (.ok (.ret (.ref h'.objs.size))) { s with heap:=h'.push { cls:=.type "tuple", data:=.seq acc },toks:=tk }) :=
 .of_wp λprog w A R s h=>by
  let⟨hp,g,d,tk,os⟩:=s;let⟨hh,Ra,h⟩:=h;let h1:=sub_tuple_self;let h2:=init_tuple_lookup;let h3:=madeHere_tuple;let T:Shared.TypeIs ⟨hp,g,d,tk,os⟩ (.ref r) "range" := ⟨_,Ra,rfl⟩;wp_walk using wpAny_loadPart' Ra,C8 T,RX (show A.in1.handled=none from hh) Ra sm hn hz;intro h' tk' acc kp it;calc AA (m:=Builtin.Tuple.tupleExact acc.toList.toArray) ?_;erw[Builtin.Tuple.tupleExact];let sz:acc.toList.toArray.size<=sizeLine:=by rw[AX,Ae,it.1,CO];omega
  calc Ao (AB ⟨_,rfl,?_⟩) sz;let e:acc.toList.toArray=acc:=by simp
  rw[e];calc h h' tk' acc kp it
section
variable {X:Cx} {a e:Expr} {es:Yi} {pos p p2 pos2:Pos} {f:FE}
def fP:CC X (.type "range") (λxs H Q=>∃ j,xs=[.int j] /\ ∀ l,H l=none->Q (.ref l) (upd H l (.rng 0 j))):=by
 intro zB s Y H xs us Q I r h;let⟨j,rfl,q⟩:=h;let⟨u,rfl,rx⟩:=EL r;let⟨t,rfl⟩:=rx;refine call_range_1 ⟨.ref ⇑s,_,I.laid (λb o z=>AH _ z) (AF _) ?_,rfl,q _ (I.hok.fresh (AF _))⟩;calc ⟨_,_,_,AK _ rfl⟩
def upV (n:Nat):List V:=(List.range n).map λ(k:Nat)=>V.int k
def gF (h:ItemsOf (λi v=>∃ t,v=.int ((0:Int)+i*1) t) acc n):zU (upV n) acc.toList:=by
 let⟨hz,hi⟩:=h;have:∀ (xs:Yf) (k:Nat),(∀ j v,xs[j]?=some v -> ∃ t,v=Value.int ((k+j:Nat):Int) t)->zU ((List.range' k xs.length).map λ(k:Nat)=>V.int k) xs:=by
  intro xs;induction xs with
  |nil=>intro k _;calc .nil
  |cons x xs ih=>
   intro k hk;rw[Ci,List.range'_succ,Ab];refine .cons ?_ (ih (k+1) λj v e=>?_)
   .obtain ⟨t,e⟩:=hk 0 x rfl;exact ⟨t,by simpa using e⟩
   .obtain ⟨t,e'⟩:=hk (j+1) v (~~~e);exact ⟨t,by rw[e'];congr 2;omega⟩
 let q:=this acc.toList 0 (λj v e=>by
  let⟨t,e'⟩:=hi j v (~~~e);calc ⟨t,by rw[e'];congr 1;omega⟩)
 erw[upV];rw[List.range_eq_range'];rw[Ae,hz]at q;calc q
def Tj (h0:0<=j) (h1:j<=16777216):Builtin.Range.small 0 j 1=true/\Builtin.Range.rangeSize 0 j 1=(j.toNat:Int):=by
 calc ⟨small_one () () () (),?_⟩;rw[rangeSize_one];split <;> omega
def gM (mk:List V->HO):List V->Hp->VK->Prop:=λxs H Q=>∃ r j,xs=[.ref r]/\H r=some (.rng 0 j)/\0<=j/\j<=16777216 /\ ∀ l,H l=none->Q (.ref l) (upd H l (mk (upV j.toNat)))
def TU (n:Nat):(upV n).length=n:=by erw[upV];simp
def SY (hc:X.calm=true):CC X (.type "tuple") (gM HO.tup):=by
 intro zB s Y H xs us Q I r h;let⟨l,j,rfl,hr,h0,h1,q⟩:=h;let⟨u,rfl,rx⟩:=EL r;ext rx;let⟨t,u,v,er⟩:=(show zy X.prog X.w H s.heap l (.rng 0 j)from I.hok l _ hr);let⟨sm,sz⟩:=Tj h0 h1
 refine callType_new PySem.F.called_tuple () (PySem.F.typeCall_tuple_1 _) (PySem.F.newCall_tuple_1 _) (λobj=>PySem.F.args_object_init_2 obj _) PySem.F.entry_tuple_new (Xs l 0 j t u v j.toNat sm sz ())
  ⟨I.ok.hd hc,er,λh' tk acc kp it=>⟨⟨_,AK _ rfl,rfl⟩,?_⟩⟩
 let I1:Inv X zB Y H { s with heap:=h',toks:=tk }:=I.kept kp;refine ⟨.ref h'.objs.size,_,I1.laid (t':=tk) (λb o z=>AH _ z) (AF _) ?_,rfl,q _ (I1.hok.fresh (AF _))⟩;calc ⟨by rw[TU,CO];omega,acc.toList,gF it,by simpa using Dh.new h' acc⟩
def upD (n:Nat):List D:=(List.range n).map λ(k:Nat)=>D.int k
def W8 (n:Nat):zE L H (upD n) (upV n):=by
 have:∀ xs:List Nat,zE L H (xs.map λ(k:Nat)=>D.int k) (xs.map λ(k:Nat)=>V.int k):=by
  intro xs;induction xs with
  |nil=>calc .nil
  |cons x xs ih=>exact .cons B6 ih
 calc this _
def Fe (f:FE):FE:=λY M=>match f Y M with
 |some (.dat (.int j),M1)=>if 0<=j/\j<=16777216 then some (.dat (.tup (upD j.toNat)),M1) else none
 |_=>none
def dS (hc:X.calm=true) (hg:Gl X "tuple") (hm:X.mg "tuple" = none) (hg2:Gl X "range") (hm2:X.mg "range" = none) (ha:QE X a f)
  (he:starEach [Expr.Call (.Name "range" p2) [a] [] pos2] X.env=(false,eval (Expr.Call (.Name "range" p2) [a] [] pos2) X.env)::starEach [] X.env:=by rfl) (hpl:(backTo pos (starEach [] X.env)).any (·.1)=false:=by rfl)
  (he2:starEach [a] X.env=(false,eval a X.env)::starEach [] X.env:=by rfl) (hpl2:(backTo pos2 (starEach [] X.env)).any (·.1)=false:=by rfl) :
  QE X (.Call (.Name "tuple" p) [.Call (.Name "range" p2) [a] [] pos2] [] pos) (Fe f) :=
 .mk <| PE.imp (Lg (SY hc) hg hm (by rfl) (Gk (Lg fP hg2 hm2 boot_range (Gk ha.un Hy he2) () () he2 hpl2) Hy he) () () he hpl) λτ H Q zz=>by
  let⟨L,Y,M,d,M',c,rs,hf,q⟩:=zz;erw[Fe]at hf;cbv at hf
  .rename_i j M1 e1;cbv at hf
   .rename_i hb;ext hf;refine (mkE c rs e1 (λL1 H1 v s1 c1 r1=>⟨j,by erw[zT,Rep]at r1;rw[r1],λl hl=>⟨l,j,rfl,CH,hb.1,hb.2,λk hk=>?_⟩⟩));exact q L1 _ _ ((s1.trans (.upd hl)).trans (.upd hk)) ((c1.upd hl).upd hk) (Rep.newTup hk (W8 _))
   .cases hf
  .cases hf
section
variable {M:Mem} {Y:Sd} {P:EV->Mem->Prop}
def YO (e:f Y M=some (.dat (.int j),M)) (h0:0<=j) (h1:j<=16777216) (q:P (.dat (.tup (upD j.toNat))) M):Ok (Fe f Y M) P:=by
 calc ⟨_,_,?_,q⟩;erw[Fe];rw[e];dsimp only;rw[AD ⟨h0,h1⟩]
end
end
def IB:Expr->Bool
 |.Starred .. =>false
 |_=>true
def zO (h:IB e=true):starEach (e::es) env=(false,eval e env)::starEach es env:=by
 cases e <;> first|rfl|ext h
def HG (h:IB e=true):starEach [e] env=[(false,eval e env)]:=zO h
def Kv (h:IB e=true) (h':IB e'=true):starEach [e,e'] env=[(false,eval e env),(false,eval e' env)]:=by rw[zO h,HG h']
theorem GD:∀ {es:Yi},es.all IB=true->(backTo pos (starEach es env)).any (·.1)=false
 |[],_=>rfl
 |e::es,h=>by
  rw[List.all_cons,Ay]at h;rw[zO h.1];have:=GD (pos:=pos) (env:=env) h.2;simpa [backTo] using this
def Cor.pushO {K:Yb} {L:Yg} {M:List MO} {H:Hp} {p:Yt} {o:HO} {m:MO} (c:Cor K L M H) (h:H p=none) (new:Cm K (L++[p]) (L2.upd H p o) p m) :
  Cor K (L++[p]) (M++[m]) (L2.upd H p o)/\Stp L H (L++[p]) (L2.upd H p o):=by
 let hp:p∉L:=λz=>by let⟨o,e⟩:=c.tracked z;rw[h]at e;ext e
 let st:Stp L H (L++[p]) (L2.upd H p o):=by
  refine ⟨⟨[p],rfl⟩,λa ha=>?_,λa o e _ _=>?_,λa o e=>?_,λa o u e=>?_,JV (λa o u e=>?_) λa ps e=>?_⟩
  .rcases Au.mp ha with z|z
   .exact .inl z
   .have:a=p:=by simpa using z
    subst this;exact .inr h
  all_goals (rw[zS (DO e h)];calc e)
 refine ⟨⟨by simp[c.len],?_,λn a m e1 e2=>?_,c.tab.stp st⟩,st⟩
 .rw[EZ];exact ⟨c.nd,by simp,λa ha b hb z=>by
   have:b=p:=by simpa using hb
   subst this;subst z;calc hp ha⟩
 .by_cases hn:n<L.length
  .rw[BV hn]at e1;rw[BV (by rw[<-c.len];calc hn)]at e2;exact (c.obj n a m e1 e2).stp st λo _ e=>by rw[zS (DO e h)];exact e
  .have hn':n=L.length:=by
    have:=(AY.mp e1).1;rw[Aw]at this;simp at this;omega
   subst hn';simp at e1;rw[c.len]at e2;simp at e2;subst e1;subst e2;calc new
def Cm.nt {K:Yb} {L:Yg} {H:Hp} {a:Yt} {m:MO} (h:Cm K L H a m) {o:HO} (e:H a=some o):NT o:=λps z=>by
 subst z;cases m with
 |lst xs=>let⟨vs,e',_⟩:=h;rw[e]at e';ext e'
 |fro xs=>let⟨o,vs,e',_⟩:=h;rw[e]at e';ext e'
 |dict ps=>let⟨vs,e',_⟩:=h;rw[e]at e';ext e'
 |dicT ps=>let⟨vs,e',_⟩:=h;rw[e]at e';ext e'
 |set _=>let⟨o,u,e'⟩:=h;rw[e]at e';ext e'
 |froT ps=>let⟨o,vs,e',_⟩:=h;rw[e]at e';ext e'
 |froK ps=>let⟨o,vs,e',_⟩:=h;rw[e]at e';ext e'
def Cor.nt {K:Yb} {L:Yg} {M:List MO} {H:Hp} {n:Nat} {p:Yt} {o:HO} (c:Cor K L M H) (h1:L[n]?=some p) (ho:H p=some o):NT o :=
 (c.obj n p _ h1 (AL (by rw[<-c.len];calc (AY.mp h1).1))).nt ho
def Cor.put {K:Yb} {L:Yg} {M:List MO} {H:Hp} {n:Nat} {p:Yt} {o o':HO} {m:MO} (c:Cor K L M H) (h1:L[n]?=some p) (ho:H p=some o) (ht:∀ xs,o≠.tup xs) (hf:∀ a u,o≠.frz a u)
  (new:Stp L H L (L2.upd H p o')->Cm K L (L2.upd H p o') p m):Cor K L (M.set n m) (L2.upd H p o')/\Stp L H L (L2.upd H p o'):=by
 let st:Stp L H L (L2.upd H p o'):=by
  let nt:=c.nt h1 ho;refine ⟨⟨[],by simp⟩,λa ha=> .inl ha,λa o e ha _=>?_,λa xs e=>?_,λa b u e=>?_,JV (λa b u e=>?_) λa ps e=>?_⟩
  .rw[zS (show a≠p from λz=>ha (by rw[z];calc Bn h1))];exact e
  .rw[zS (Fz e ho (λz=>ht xs z.symm))];exact e
  .rw[zS (Fz e ho (λz=>hf b u z.symm))];exact e
  .rw[zS (Fz e ho (λz=>hf b u z.symm))];exact e
  .rw[zS (Fz e ho (λz=>nt ps z.symm))];exact e
 refine ⟨⟨by simp[c.len],c.nd,λk a m' e1 e2=>?_,c.tab.stp st⟩,st⟩;rw[DA]at e2;cbv at e2
 .rename_i hk;subst hk;rw[h1]at e1;ext e1;cbv at e2
  .cases e2;exact new st
  .cases e2
 .rename_i hk;let hne:a≠p:=λz=>hk (by
   subst z;calc (List.getElem?_inj (AY.mp h1).1 c.nd).mp (h1.trans e1.symm))
  exact (c.obj k a m' e1 e2).stp st λo _ e=>by rw[zS hne];calc e
section
variable {X:Cx} {a b e:Expr} {pos:Pos} {f g:FE}
def IK (fk fv:FE):FE:=λY M=>match toD fk Y (M++[.dict []]) with
 |some (k,M1)=>match toD fv Y M1 with
  |some (v,M2)=>match M2[M.length]?,Ak k with
   |some (.dict []),some _=>some (.dat (.ref M.length),M2.set M.length (.dict [(k,v)]))
   |_,_=>none
  |none=>none
 |none=>none
def IA (h:Rep L H d v) (e:Ak d=some k):v=kV k:=by
 cases d with
 |int i=>ext e;erw[Rep]at h;calc h
 |str x=>ext e;erw[Rep]at h;calc h
 |_=>ext e
def WW {fk fv:FE} (h1:QE X a fk) (h2:QE X b fv):QE X (.Dict [some a] [b] pos) (IK fk fv):=.mk <| PE.imp (fX (Ww (CZ h1).un (CZ h2).un Wt) rfl rfl (by simp) (by simp)) λτ H Q ⟨L,Y,M,d,M',c,rs,hf,q⟩ p hp=>by
 erw[IK]at hf;cbv at hf
 .rename_i k M1 e1;cbv at hf
  .rename_i v M2 e2;cbv at hf
   .rename_i kk e3 e4;ext hf;let⟨c0,s0⟩:=c.pushO (m:=.dict []) hp ⟨[],CH,rfl⟩;refine ⟨L++[p],Y,_,_,_,c0,rs.stp s0,e1,λL1 H1 x st1 c1 r1=>⟨L1,Y,M1,_,_,c1,(rs.stp s0).stp st1,e2,λL2 H2 y st2 c2 r2=>?_⟩⟩;let st:=(s0.trans st1).trans st2;let hx:=IA r1 e4;let lp:L2[M.length]?=some p:=by
     let⟨N,hN⟩:=(st1.trans st2).pre;rw[hN,<-c.len];simp
    let⟨vs,ev,dv⟩:=c2.obj _ p _ lp e3;erw[AO]at dv;subst dv;calc ⟨ev,[(kk,y)],by rw[hx];rfl,by simp,?_⟩;let⟨c3,s3⟩:=c2.put (m:=.dict [(k,v)]) lp ev (λ_ z=>by ext z) (λ_ _ z=>by ext z) λs3=>⟨_,CH,kk,y,[],rfl,e4,r2.stp s3,rfl⟩;calc q _ _ _ (st.trans s3) c3 ?_;erw[zT,Rep];exact ⟨p,rfl,lp⟩
   .cases hf
  .cases hf
 .cases hf
end
def Zf (hu:X.A.units<cLine):OpR X (compareOp .Eq) (λx y H Q=>∃ p q xs,x=.ref p/\y=.ref q/\SqT X.K H p xs/\SqT X.K H q []/\Q (.bl xs.isEmpty) H):=by
 intro zB s Y H x y v u Q I rx ry z;let⟨p,q,xs,rfl,rfl,hp,hq,z⟩:=z;ext rx;ext ry;let⟨its,r,ht,hz⟩:=I.tuple hp;let⟨its2,r2,ht2,_⟩:=I.tuple hq;let e2:=r2.zero;subst e2;refine SeqAt.eq_tupleAt (e:=λ_=>true) ht ht2 hu (λj h1 h2=>by simp at h2) ?_;let e:((List.range (min its.toArray.size ([]:List Value).toArray.size)).all (λ_=>true)&&its.toArray.size==([]:List Value).toArray.size)=xs.isEmpty:=by
  let hl:=r.length;rw[AX,<-hl];cases xs with
  |nil=>rfl
  |cons x r=>simp
 rw[e];calc zd I z rfl
def Gz:K2:=λx y M=>match x,y with
 |.dat (.tup xs),.dat (.tup [])=>some (.dat (.bl xs.isEmpty),M)
 |_,_=>none
def YF {K:Yb}:A9 K (λx y H Q=>∃ p q xs,x=.ref p/\y=.ref q/\SqT K H p xs/\SqT K H q []/\Q (.bl xs.isEmpty) H) Gz:=by
 intro L M M' H H0 x y d v w Q cc rx ry hk q;erw[Gz]at hk;cbv at hk
 .rename_i xs;ext hk;let⟨a,ws,rfl,e2,r2⟩:=DH rx rfl;let⟨b,ws',rfl,e3,r3⟩:=DH ry rfl;have:ws'=[]:=by erw[zE]at r3;exact r3
  subst this;refine ⟨a,b,ws,rfl,rfl,.of e2,.of e3,?_⟩;let e:ws.isEmpty=xs.isEmpty:=by
   let hl:=r2.length;cases xs <;> cases ws <;> first|rfl|(simp at hl)
  rw[e];exact q L H _ (.refl L H) cc (Bl (L:=L) (H:=H))
 .cases hk
def RL (hu:X.A.units<cLine) (h1:QE X a f) (h2:QE X b g):QT X (.Compare a [.Eq] [b] pos) (tst (fOp Gz f g)):=Ep YF (Zf hu) h1 h2 (DT _)
def zk:List D->Option (List Int)
 |[]=>some []
 |.int i::r=>match zk r with
  |some bs=>some (i::bs)
  |none=>none
 |_=>none
theorem Fq:∀ {ds:List D} {bs:Ye} {vs:List V},zk ds=some bs->zE L H ds vs->vs=bs.map V.int
 |[],bs,vs,e,r=>by ext e;erw[zE]at r;calc r
 |d::ds,bs,vs,e,r=>by
  erw[zE]at r;let⟨v,r',rfl,r1,r2⟩:=r;cases d with
  |int k=>
   erw[zk]at e;cases q:zk ds with
   |none=>rw[q]at e;ext e
   |some bs'=>
    rw[q]at e;ext e;erw[Rep]at r1;rw[r1,Fq q r2];rfl
  |_=>ext e
theorem Dx:∀ xs:List Int,zk (xs.map D.int)=some xs
 |[]=>rfl
 |x::r=>by rw[Ab];erw[zk];rw[Dx r]
def V8 (xs:Ye):(xs.map V.int).all Eb=true:=by
 rw[An];intro x hx;let⟨i,_,rfl⟩:=AR.mp hx;rfl
def Ux (i:Int) (xs:Ye):inV (.int i) (xs.map V.int)=xs.any λy=>decide (y=i):=by
 erw[inV];rw[List.any_map];congr 1
def kIn (neg:Bool):K2:=λx y M=>match x with
 |.dat (.int i)=>match zr M y with
  |some ds=>match zk ds with
   |some xs=>some (.dat (.bl (if neg then !(xs.any λy=>decide (y=i)) else xs.any λy=>decide (y=i))),M)
   |none=>none
  |none=>none
 |_=>none
def cA {K:Yb} {neg:Bool}:A9 K (rIn K neg) (kIn neg):=by
 intro L M M' H H0 x y d v w Q cc rx ry hk q;erw[kIn]at hk;cbv at hk
 .rename_i i;cbv at hk
  .rename_i ds e1;cbv at hk
   .rename_i xs e2;ext hk;let ev:v=.int i:=by erw[zT,Rep]at rx;exact rx
    let⟨p,vs,rfl,hs,r⟩:=GQ cc ry e1;have:=Fq e2 r;subst this;calc ⟨p,_,rfl,hs,by rw[ev];rfl,V8 xs,?_⟩;rw[ev,Ux];exact q L H _ (.refl L H) cc (Bl (L:=L) (H:=H))
   .cases hk
  .cases hk
 .cases hk
def Wv (h1:QE X a f) (h2:QE X b g) (hm:behindInMarks .NotIn b=false:=by rfl):QT X (.Compare a [.NotIn] [b] pos) (tst (fOp (kIn true) f g)):=Ep cA Vi h1 h2 hm
end L3
namespace L2
def SX (elt target iter:Expr) (ifs:Yi) (scope:Y0) (pos:Pos) (it acc:Yu) (env:Env) :
  compTurn (.SetComp elt [⟨target,iter,ifs,0⟩] scope pos) 0 it acc env=(do
   standAt iter.pos;match <- pyNext it with
   |none=>pure (.done .next)
   |some v=>
    letOwnedTupleGo target it v;assign target env v;let mut ok:=true
    for c in ifs do
     if ok then ok <- isTrue c env (eval c env)
    if ok then (do let v <- eval elt env;standAt elt.pos;let _ <- call (.builtin "set.add") [acc,v])
    again (.compLoop (.SetComp elt [⟨target,iter,ifs,0⟩] scope pos) 0 it acc env)):=by rfl
def PQ (I:Nat->Shared->Prop)
  (turn:∀ n s,I n s->wpAny (model prog w) A (pyNext it) (λr s₁=>match r with
   |none=>R (.ok .next) s₁
   |some v=>wpAny (model prog w) A (letOwnedTupleGo target it v) (λ_ s₁'=>wpAny (model prog w) A (assign target env v) (λ_ s₂=>
     wpAny (model prog w) A (forIn ifs true λc r=>if r=true then do let ok <- isTrue c env (eval c env);pure (ForInStep.yield ok) else pure (ForInStep.yield r)) (λok s₃=>
      if ok=true then wpAny (model prog w) A (eval elt env) (λx s₄=>
       wpAny (model prog w) A (call (.builtin "set.add") [acc,x]) (λ_ s₅=>∃ m,m<n/\I m s₅) (λ_ _=>False) s₄) (λ_ _=>False) s₃
      else ∃ m,m<n/\I m s₃) (λ_ _=>False) s₂) (λ_ _=>False) s₁') (λ_ _=>False) s₁) (λ_ _=>False) s)
  (n:Nat) (h:I n s) :
  codeAny (model prog w) A (.compLoop (.SetComp elt [⟨target,iter,ifs,0⟩] scope pos) 0 it acc env) R s:=by
 refine codeAny_loop rfl I (λn s hI=>?_) n h;show wpAny _ A ((compTurn (.SetComp elt [⟨target,iter,ifs,0⟩] scope pos) 0 it acc env).onRaise (λx=>do noteFrame x env;theTreesLotGoes x)) _ _ s;calc wpAny_noted ?_;rw[SX];refine AA (Ce (AA (AS (turn n s hI) (λr s₁ h₁=>?_) λ_ _ h'=>h'.elim)));cases r with
 |none=>calc AB h₁
 |some v=>
  refine AA (AS h₁ (λ_ s₁' h₁'=>?_) λ_ _ h'=>h'.elim);refine AA (AS h₁' (λ_ s₂ h₂=>AA (AS h₂ (λok s₃ h₃=>?_) λ_ _ h'=>h'.elim)) λ_ _ h'=>h'.elim);cases ok with
  |false=>calc AB ⟨rfl,h₃⟩
  |true=>
   calc AA (AA (AS h₃ (λx s₄ h₄=>AA (Ce (AA (AS h₄ (λ_ s₅ h₅=>AB (AB ⟨rfl,h₅⟩)) λ_ _ h'=>h'.elim)))) λ_ _ h'=>h'.elim))
end L2
namespace LR
open PySem.Sem (wp)
def Sw (ht:IsTup s.heap t items) (hj:j<items.size) (hi:∃ v,items[j]=.int i v) (hno:∀ m (hm:m<items.size),m<j -> ∃ k v,items[m]=.int k v/\k≠i)
  (h:Q (.int j s.toks) { s with toks:=s.toks+1 }):wpAny (model prog w) A (call (.builtin "tuple.index") [.ref t,.int i u]) Q E s:=by
 refine Ap F.slot_tuple_index ht.typeIs F.entry_tuple_index ?_ (F.args_tuple_index_2 _ _);unfold Builtin.«tuple.index»;refine AA (wpAny_of_eq rfl ?_);refine AA (tupleItemsOf_ ht ?_);refine AA (AB (AA (AB ?_)));show wpAny _ _ (forIn [:min items.size items.size] ((none:Option PySem.Fin),Unit.unit) _ >>= _) _ _ s;rw[Nat.min_self];let L:∀ (k m:Nat),m+k=items.size->m<=j -> ∀ (E':Yc),wpAny (model prog w) A.in1 (forIn (List.range' m k) ((none:Option PySem.Fin),Unit.unit) λ(i_1:Nat) (__s:Option PySem.Fin × Unit)=>
       match items[i_1]? with
       |some y=>do
        let __do_lift <- eqBool y (Value.int i u)
        if __do_lift=true then do
          let __do_lift <- retInt (i_1:Int);pure (ForInStep.done (some __do_lift,Unit.unit))
         else pure (ForInStep.yield (none,Unit.unit))
       |x=>pure (ForInStep.yield (none,Unit.unit))) (λr s'=>r=(some (Fin.done (Flow.ret (Value.int j s.toks))),Unit.unit)/\s'={ s with toks:=s.toks+1 }) E' s:=by
  intro k;induction k with
  |zero=>intro m hm hle;omega
  |succ k ih=>
   intro m hm hle E';let hlt:m<items.size:=()
   rw[List.range'_succ,List.forIn_cons];let e:items[m]?=some items[m]:=BM hlt;rw[e];by_cases q:m=j
   .subst q;let⟨v,hv⟩:=hi;rw[hv];calc AA (AA (wpAny_eqBool_int ?_));rw[AD (by simp)];exact AA (AA (wpAny_mkInt (AB (AB (AB ⟨rfl,rfl⟩)))))
   .obtain ⟨k',v,hv,hk⟩:=hno m hlt ();rw[hv];calc AA (AA (wpAny_eqBool_int ?_));rw[AE (~~~hk)];exact AB (ih (m+1) () () E')
 calc AA ?_;rw[Std.Legacy.Range.forIn_eq_forIn_range'];let er:List.range' ([:items.size]:Std.Legacy.Range).start ([:items.size]:Std.Legacy.Range).size ([:items.size]:Std.Legacy.Range).step=List.range' 0 items.size:=by simp[Std.Legacy.Range.size]
 rw[er];refine AS (L items.size 0 () (A8 _) _) (λr s' ⟨hr,hs⟩=>?_) λ_ _ e=>e;subst hr hs;calc AB ⟨_,rfl,h⟩
end LR
namespace L3
open L2
def OQ {xs:Ye} {its:Yf} (r:zU (xs.map V.int) its) (hm:m<its.toArray.size):∃ v,its.toArray[m]=.int (xs.getD m 0) v:=by
 let hl:m<xs.length:=by have:=r.length;simp at this hm;omega
 let⟨u,e,q⟩:=r.get (i:=m) (x:=.int (xs.getD m 0)) (by simp[hl]);let⟨t,rfl⟩:=q;calc ⟨t,?_⟩;have:its.toArray[m]?=some (.int (xs.getD m 0) t):=by simpa using e
 rw[BM hm]at this;calc BQ this
def Th:MtR X "tuple.index" (λx vs H Q=>∃ (p:Addr) (i:Int) (xs:List Int),x=.ref p/\vs=[.int i]/\SqT X.K H p (xs.map V.int)/\i∈xs/\Q (.int (xs.idxOf i)) H):=by
 intro zB s Y H x xs v us Q I rx rv z;let⟨p,i,ns,rfl,rfl,hp,hi,q⟩:=z;ext rx;let⟨u,rfl,ru⟩:=rv.one;let⟨t,rfl⟩:=ru;let⟨its,r,ht,hz⟩:=I.tuple hp;let hl:its.toArray.size=ns.length:=by have:=r.length;simp at this ⊢;omega
 let hj:ns.idxOf i<ns.length:=List.idxOf_lt_length_iff.mpr hi;refine LR.Sw ht () ?_ (λm hm hlt=>?_) ⟨.int (ns.idxOf i),H,I.tok _,⟨_,rfl⟩,q⟩
 .obtain ⟨v,e⟩:=OQ r (m:=ns.idxOf i) ();calc ⟨v,?_⟩;rw[e,Ai,AL hj];simp
 .obtain ⟨v,e⟩:=OQ r hm;refine ⟨_,v,e,λz=>?_⟩;let hm':m<ns.length:=()
  rw[Ai,AL hm']at z;have:=List.not_of_lt_findIdx (show m<ns.findIdx (· == i)from hlt);simp at z this;calc this z
end L3
end
namespace ST
open PySem
abbrev Up (xs:Array Nat):Prop:=xs.toList.Pairwise (· < ·)
def Up.get (h:Up xs) (hik:i<k) (hk:k<xs.size):xs[i]'()<xs[k]:=by
 have:=List.pairwise_iff_getElem.mp h i k (by simpa using (show i<xs.size by omega)) (~~~hk) hik;simpa using this
theorem La (h:Up xs) (j:Nat):∀ (fuel lo hi:Nat),lo<=hi->hi<=xs.size->hi-lo<=fuel->(∀ i (hi':i<xs.size),i<lo->xs[i]<j)->(∀ i (hi':i<xs.size),hi<=i->j<=xs[i]) ->
  (SetTable.below.go xs j fuel lo hi<=xs.size)/\(∀ i (hi':i<xs.size),i<SetTable.below.go xs j fuel lo hi->xs[i]<j)/\(∀ i (hi':i<xs.size),SetTable.below.go xs j fuel lo hi<=i->j<=xs[i])
 |0,lo,hi,h1,h2,h3,a,b=>by
  have:lo=hi:=()
  subst this;erw[SetTable.below.go];calc ⟨h2,a,b⟩
 |fuel+1,lo,hi,h1,h2,h3,a,b=>by
  erw[SetTable.below.go];by_cases hl:lo<hi
  .rw[AD hl];dsimp only;let hm:(lo+hi) / 2<xs.size:=()
   let eg:xs.getD ((lo+hi) / 2) j=xs[(lo+hi) / 2]:=by simp[Array.getD,hm]
   rw[eg];by_cases hc:xs[(lo+hi) / 2]<j
   .rw[AD hc];refine La h j fuel _ _ () h2 () (λi hi' hlt=>?_) b;rcases DM i ((lo+hi) / 2)with z|z
    .exact Nat.lt_trans (h.get z hm) hc
    .have:i=(lo+hi) / 2:=()
     subst this;exact hc
   .rw[AE hc];refine La h j fuel _ _ () () () a (λi hi' hge=>?_);rcases DM ((lo+hi) / 2) i with z|z
    .have:=h.get z hi';omega
    .have:i=(lo+hi) / 2:=()
     subst this;omega
  .rw[AE hl];have:lo=hi:=()
   subst this;calc ⟨h2,a,b⟩
def FU (h:Up xs) (j:Nat):SetTable.below xs j<=xs.size/\(∀ i (hi':i<xs.size),i<SetTable.below xs j->xs[i]<j)/\(∀ i (hi':i<xs.size),SetTable.below xs j<=i->j<=xs[i]):=by
 erw[SetTable.below];calc La h j xs.size 0 xs.size (A8 _) (AF _) () (λi _ z=>()) (λi hi' z=>())
def Q8 (h:Up xs):SetTable.below xs 0=0:=by
 let⟨a,b,c⟩:=FU h 0;rcases Nat.eq_zero_or_pos (SetTable.below xs 0)with z|z
 .exact z
 .have:=b 0 () z;omega
def NP (h:Up xs) (hk:k<xs.size):SetTable.below xs (xs[k]+1)=k+1:=by
 let⟨a,b,c⟩:=FU h (xs[k]+1);rcases Nat.lt_trichotomy (SetTable.below xs (xs[k]+1)) (k+1)with z|z|z
 .have:=c k hk ();omega
 .exact z
 .have h1:k+1<xs.size:=()
  have:=b (k+1) h1 z;have:=h.get (show k<k+1 by omega) h1;omega
def IL {α:Type} (xs:Array α) (p:Nat) (x:α):(SetTable.insertAt xs p x).toList=xs.toList.take p++x::xs.toList.drop p:=by
  erw[SetTable.insertAt];simp;have:xs.toList.length<=xs.size:=by simp
  rw[List.take_of_length_le (by simp)]
def NJ (h : Up xs) (hj : j ∉ xs.toList) : Up (SetTable.insertAt xs (SetTable.below xs j) j) := by
  obtain ⟨a, b, c⟩ := FU h j;unfold Up;rw [IL];rw [List.pairwise_append];have hT : ∀ x ∈ xs.toList.take (SetTable.below xs j), x < j := fun x hx => by
    let⟨i,hi,e⟩:=Ck hx;rw[List.getElem_take]at e;rw[Cz]at hi
    have h1 : i < xs.size := by have : xs.toList.length = xs.size := by simp
                                omega
    have:=b i h1 ();rw[<-e];simpa using this
  have hD : ∀ x ∈ xs.toList.drop (SetTable.below xs j), j < x := fun x hx => by
    let⟨i,hi,e⟩:=Ck hx;rw[List.getElem_drop]at e;rw[List.length_drop]at hi
    have h1 : SetTable.below xs j + i < xs.size := by have : xs.toList.length = xs.size := by simp
                                                      omega
    let h2:=c _ h1 ();let h3:x≠j:=λz=>hj (z▸List.mem_of_mem_drop hx);let e':xs[SetTable.below xs j+i]=x:=by simpa using e
    omega
  refine ⟨h.sublist (List.take_sublist _ _),DN.mpr ⟨hD,h.sublist (List.drop_sublist _ _)⟩,λx hx y hy=>?_⟩;rcases AJ.mp hy with z|z
  .rw[z];exact hT x hx
  .exact Nat.lt_trans (hT x hx) (hD y z)
def Ig (j:Nat):SetTable.has #[] j=false:=by
 erw[SetTable.has];simp
def XY {t:SetTable} (h:Up t.place) (he:t.slot j=.empty):j∉t.place.toList:=λhm=>by
 let⟨a,b,c⟩:=FU h j;let⟨k,hk,e⟩:=Ck hm;let hk':k<t.place.size:=by simpa using hk
 let e':t.place[k]=j:=by simpa using e
 let eb:SetTable.below t.place j=k:=by
  rcases Nat.lt_trichotomy (SetTable.below t.place j) k with z|z|z
  .have h1:SetTable.below t.place j<t.place.size:=()
   have:=c _ h1 (AF _);have:=h.get z hk';omega
  .exact z
  .have:=b k hk' z;omega
 erw[SetTable.slot]at he;rw[eb,AD (by simp[hk',e'])]at he;ext he
theorem Oi (hd:t.dummies = #[]):∀ (fuel:Nat) (p:SetTable.Probe) {j:Nat} {d:Option Nat},p.dummy=none->SetTable.probe.go t hashAt h fuel p=some (.empty j d)->d=none/\t.slot j=.empty
 |0,_,_,_,_,e=>by erw[SetTable.probe.go]at e;ext e
 |fuel+1,p,j,d,hp,e=>by
  erw[SetTable.probe.go]at e;cbv at e
  .rename_i hs;ext e;exact ⟨hp,hs⟩
  .rename_i hs;erw[SetTable.slot]at hs;dsimp only at hs;rw[hd,Ig]at hs;split at hs <;> first|cases hs|simp at hs
  .split at e
   .cases e
   .refine Oi hd fuel _ ?_ e;erw[SetTable.advance];split <;> simp[hp]
def cS {t:SetTable} (hu:Up t.place) (hd:t.dummies = #[]) (e:t.freeSlot h=some (j,b)):b=false/\j∉t.place.toList:=by
 erw[SetTable.freeSlot]at e;cbv at e
 .rename_i j' d hp;erw[SetTable.probe]at hp;let⟨h1,h2⟩:=Oi hd _ _ (by rfl) hp;subst h1;simp at e;let⟨rfl,rfl⟩:=e;exact ⟨rfl,XY hu h2⟩
 .cases e
structure TabOk (w:Yo) (t:SetTable):Prop where
 led:t.led = !w.params.followText "set-order"
 up:Up t.place
 nod:t.dummies = #[]
def Vw (n:Nat):Up (Array.range n):=by
 erw[Up];rw[Array.toList_range];calc List.pairwise_lt_range
def TabOk.standIn (h:TabOk w t) (n:Nat):TabOk w (t.standIn n):=⟨h.led,Vw n,rfl⟩
def TabOk.orStandIn (h:TabOk w t) (n:Nat):TabOk w (t.orStandIn n):=by
 erw[SetTable.orStandIn];split
 .exact h
 .exact h.standIn n
def TabOk.put (h:TabOk w t) (hj:j∉t.place.toList):TabOk w (t.put j).1:=by
 erw[SetTable.put];calc ⟨h.led,NJ h.up hj,?_⟩;rw[h.nod,Ig];rfl
theorem TabOk.layNew (h:TabOk w t) (es:Yw) (hh:Int) (x:Yu):TabOk w (layNew t es hh x).2.1:=by
 erw[PySem.layNew];split
 .rename_i j b e;exact (h.put (cS h.up h.nod e).2).orStandIn _
 .exact h.standIn _
def TabOk.relaid (h:TabOk w t) (e:t.relaid hs wanted=some (t',order)):TabOk w t':=by
 erw[SetTable.relaid,SetTable.laid]at e;cases q:SetTable.layClean (SetTable.sizeAbove wanted-1) hs with
 |none=>rw[q]at e;ext e
 |some owner=>
  rw[q]at e;simp only[Option.bind_eq_bind,Ek,Option.pure_def,Option.some.injEq,Prod.mk.injEq]at e;let⟨rfl,_⟩:=e;calc ⟨h.led,?_,rfl⟩;erw[Up];rw[EY,List.pairwise_filterMap];refine List.pairwise_lt_range.imp λ{a b} hab x hx y hy=>?_;cases o1:owner.getD a none with
  |none=>rw[o1]at hx;ext hx
  |some u=>
   cases o2:owner.getD b none with
   |none=>rw[o2]at hy;ext hy
   |some v=>
    rw[o1]at hx;rw[o2]at hy;ext hx;ext hy;calc hab
theorem TabOk.relayAll (h:TabOk w t) (es:Yw) (wanted:Nat):TabOk w (relayAll t es wanted).2.1:=by
 erw[PySem.relayAll];split
 .rename_i t' order e;dsimp only;split
  .exact h.relaid e
  .exact h.standIn _
 .exact h.standIn _
theorem TabOk.plain (h:TabOk w t) (b:Bool):TabOk w { t with plain:=b }:=⟨h.led,h.up,h.nod⟩
def TabOk.fresh:TabOk w (SetTable.fresh 0 0 (!w.params.followText "set-order")):=⟨rfl,List.Pairwise.nil,rfl⟩
open Sem (wp)
set_option genInjectivity true in
inductive F2 {α β:Type} (R:α->β->Prop):List α->List β->Prop
 |nil:F2 R [] []
 |cons {x y xs ys}:R x y->F2 R xs ys->F2 R (x::xs) (y::ys)
section
variable [DecidableEq K]
def Ld (knd:KeyKind prog w K) (e:Int × Value) (k:K):Prop:=(knd.is k e.2=true/\e.1=knd.hash k)/\e.2.scannable=true
structure SetK (knd:KeyKind prog w K) (o:Obj) (es:Yw) (ep:Nat) (t:SetTable) (ks:List K):Prop where
 ex:o.ExactSet
 data:o.data=.set es ep t
 tab:TabOk w t
 fits:t.fits es.size=true
 bound:es.size<scanBound
 ent:∃ ks',ks'.Perm ks/\F2 (Ld knd) es.toList ks'
def ins (ks:List K) (k:K):List K:=if k∈ks then ks else ks++[k]
variable {knd:KeyKind prog w K}
theorem zv {α β:Type} {R:α->β->Prop}:∀ {xs:List α} {ys:List β},F2 R xs ys->xs.length=ys.length
 |_,_,.nil=>rfl
 |_,_,.cons _ h=>by simp[zv h]
theorem JU {α β:Type} {R:α->β->Prop}:∀ {xs:List α} {ys:List β},F2 R xs ys -> ∀ x∈xs,∃ y∈ys,R x y
 |_,_,.nil,x,hx=>by ext hx
 |_,_,.cons h r,x,hx=>by
  rcases AJ.mp hx with z|z
  .subst z;exact ⟨_,AM,h⟩
  .obtain ⟨y,hy,q⟩:=JU r x z;calc ⟨y,AQ _ hy,q⟩
theorem Mr {α β:Type} {R:α->β->Prop}:∀ {xs:List α} {ys:List β},F2 R xs ys -> ∀ y∈ys,∃ x∈xs,R x y
 |_,_,.nil,x,hx=>by ext hx
 |_,_,.cons h r,x,hx=>by
  rcases AJ.mp hx with z|z
  .subst z;exact ⟨_,AM,h⟩
  .obtain ⟨y,hy,q⟩:=Mr r x z;calc ⟨y,AQ _ hy,q⟩
theorem Ku {α β:Type} {R:α->β->Prop}:∀ {xs:List α} {ys:List β} {us:List α} {vs:List β},F2 R xs ys->F2 R us vs->F2 R (xs++us) (ys++vs)
 |_,_,_,_,.nil,h=>h
 |_,_,_,_,.cons h r,q=> .cons h (Ku r q)
def HP {α β:Type} {R:α->β->Prop} {xs xs':List α} (p:xs'.Perm xs):∀ {ys:List β},F2 R xs ys -> ∃ ys',ys'.Perm ys/\F2 R xs' ys':=by
 let p':=p.symm;clear p;induction p' with
 |nil=>intro ys h;calc ⟨ys,.refl _,h⟩
 |cons x _ ih=>
  intro ys h;cases h with
  |cons h r=>
   let⟨ys',q1,q2⟩:=ih r;calc ⟨_,q1.cons _,.cons h q2⟩
 |swap x y l=>
  intro ys h;cases h with
  |cons h r=>
   cases r with
   |cons h2 r=>
    calc ⟨_,List.Perm.swap _ _ _,.cons h2 (.cons h r)⟩
 |trans _ _ ih1 ih2=>
  intro ys h;let⟨ys',q1,q2⟩:=ih1 h;let⟨ys'',r1,r2⟩:=ih2 q2;calc ⟨ys'',r1.trans q1,r2⟩
def SetK.size (h:SetK knd o es ep t ks):es.size=ks.length:=by
 let⟨ks',p,f⟩:=h.ent;rw[<-p.length_eq,<-zv f,Ae]
def SetK.elems (h:SetK knd o es ep t ks):ElemsOf knd es.toList:=λe he=>by
 let⟨ks',p,f⟩:=h.ent;let⟨k,_,q⟩:=JU f e he;calc ⟨⟨k,q.1⟩,q.2⟩
def SetK.mem (h:SetK knd o es ep t ks) (k:K):k∈ks ↔ ∃ e∈es.toList,knd.is k e.2=true:=by
 let⟨ks',p,f⟩:=h.ent;rw[<-p.mem_iff];constructor
 .intro hk;let⟨e,he,q⟩:=Mr f k hk;exact ⟨e,he,q.1.1⟩
 .rintro ⟨e,he,q⟩;let⟨k',hk',q'⟩:=JU f e he;rw[knd.inj e.2 k k' q q'.1.1];calc hk'
variable {s:Yl}
def SetK.typeIs (h:SetK knd o es ep t ks) (ho:s.heap.get? a=some o):s.TypeIs (.ref a) "set" := ⟨o,ho,h.ex.1⟩
def JM {h:Heap} (ho:h.get? a=some o) (hd:o.data=.set es ep t) :
  (h.update a (Obj.putSet es' t')).get? a=some { o with data:=.set es' (ep+1) t' }:=by
 have:=CA (Obj.putSet es' t') ho (by rw[putSet_of es' t' hd];rfl);rw[putSet_of es' t' hd]at this;calc this
def NG {Q:Bool->Shared->Prop} (hkey:knd.is k x=true) (hsc:x.scannable=true) (ho:s.heap.get? a=some o) (hS:SetK knd o es ep t ks) (hroom:ks.length+1<scanBound)
  (h:∀ h' o' es' ep' t' b,Heap.SameBut a s.heap h'->h'.get? a=some o'->SetK knd o' es' ep' t' (ins ks k)->Q b { s with heap:=h' }) :
  wpAny (model prog w) A (setAddHashed a x (knd.hash k)) Q E s:=by
 let hd:=hS.data;let hf:=hS.fits;let hel:=hS.elems;let hb:=hS.bound;let hb1:es.size+1<scanBound:=by rw[hS.size];exact hroom
 erw[setAddHashed,setAddHashedIn];calc A6 (AA (B7 ho hd hf ?_));dsimp only;rw[byScan_of hsc hb hel];simp only[↓reduceIte];erw[setAddByScan];calc AA ?_;calc AA (Bo ?_);calc AA (wpAny_setScan_of hkey ho hd hf hel ?_);cases hr:List.findIdx? (λe=>knd.is k e.2) es.toList with
 |some j=>
  let⟨hj,hpj,_⟩:=List.findIdx?_eq_some_iff_getElem.mp hr;let hSk:k∈ks:=(hS.mem k).mpr ⟨es.toList[j],BR hj,hpj⟩;calc AB (AB ?_);let e:s={ s with heap:=s.heap }:=by ext s;rfl
  rw[e];calc h s.heap o es ep t _ (Heap.SameBut.refl a s.heap) ho ?_;erw[ins];rw[AD hSk];calc hS
 |none=>
  let hSk:k∉ks:=λhk=>by
   let⟨e,he,hp⟩:=(hS.mem k).mp hk;have:=List.findIdx?_eq_none_iff.mp hr e he;rw[hp]at this;exact Bool.noConfusion this
  let hgw:∀ (b:Bool) {s₁:Shared} {Q':Unit->Shared->Prop},Q' Unit.unit s₁->wpAny (model prog w) A (match b with|true=>rule "set.scan.the-table-gave-way" |false=>pure Unit.unit) Q' E s₁ :=
   λb s₁ Q' hq=>by cases b <;> first|exact AB hq|exact Bo hq
  let hperm:=layNew_perm t es (knd.hash k) x;let hfits:=layNew_fits t es (knd.hash k) x;let htab:=hS.tab.layNew es (knd.hash k) x;generalize hL:layNew t es (knd.hash k) x=L at hperm hfits htab ⊢;let⟨es1,t1,wasDummy,gave⟩:=L;rw[Array.toList_push]at hperm;let hb1':es1.size<scanBound:=by rw[<-Ae,hperm.length_eq,Aw,Ae];simpa using hb1
  let⟨ks',p,f⟩:=hS.ent;let f1:F2 (Ld knd) (es.toList++[(knd.hash k,x)]) (ks'++[k]):=Ku f (.cons ⟨⟨hkey,rfl⟩,hsc⟩ .nil);let⟨ks1,p1,f2⟩:=HP hperm f1;let pI:ks1.Perm (ins ks k):=by
   erw[ins];rw[AE hSk];exact p1.trans (p.append_right _)
  refine AA (hgw _ ?_)
  let tail:∀ t2:SetTable,TabOk w t2->t2.fits es1.size=true->wpAny (model prog w) A (do
    storeSet a es1 t2
    if (!wasDummy&&t2.tooFull)=true then do
      (match (relayAll t2 es1 (SetTable.grown es1.size)).2.2 with|true=>rule "set.scan.the-table-gave-way" |false=>pure Unit.unit)
      storeSet a (relayAll t2 es1 (SetTable.grown es1.size)).1 (relayAll t2 es1 (SetTable.grown es1.size)).2.1;pure (some true)
     else pure (some true)) (λr s'=>wpAny (model prog w) A (match r with|some added=>pure added|none=>setAddHashedIn a x (knd.hash k) 99999) Q E s') E s:=by
   intro t2 T2 F2;calc AA (wpAny_storeSet_of ho hd ?_ (fits_of_scanBound hb1'));let g1:=JM (es':=es1) (t':=t2) ho hd;let sb1:=Bd s.heap a (Obj.putSet es1 t2);let S1:SetK knd { o with data:=.set es1 (ep+1) t2 } es1 (ep+1) t2 (ins ks k):=⟨hS.ex,rfl,T2,F2,hb1',ks1,pI,f2⟩;split
   .have hp:=relayAll_perm t2 es1 (SetTable.grown es1.size);let hfr:=relayAll_fits t2 es1 (SetTable.grown es1.size);let htr:=T2.relayAll es1 (SetTable.grown es1.size);generalize hRl:relayAll t2 es1 (SetTable.grown es1.size)=Rl at hp hfr htr ⊢;let⟨es2,t3,gave2⟩:=Rl;let hsz:es2.size=es1.size:=by rw[<-Ae,hp.length_eq,Ae]
    let hb2:es2.size<scanBound:=by rw[hsz];exact hb1'
    let⟨ks2,p2,f3⟩:=HP hp f2;calc AA (hgw _ ?_);calc AA (wpAny_storeSet_of g1 rfl ?_ (fits_of_scanBound hb2));let g2:=JM (es':=es2) (t':=t3) g1 rfl;exact AB (AB (h _ _ _ _ _ _ (sb1.trans (Bd _ a _)) g2 ⟨hS.ex,rfl,htr,hfr,hb2,ks2,p2.trans pI,f3⟩))
   .exact AB (AB (h _ _ _ _ _ _ sb1 g1 S1))
  split
  .refine AA ?_;rw[hashByValue_scannable 8 hsc];refine AB ?_;refine tail _ ?_ ?_
   .split
    .exact htab
    .exact htab.plain _
   .split
    .exact hfits
    .exact SetTable.fits_plain_off hfits
  .refine AA (AB ?_);simp only[↓reduceIte];calc tail _ htab hfits
def X8 (hkey:knd.is k x=true) (hsc:x.scannable=true) (ho:s.heap.get? a=some o) (hS:SetK knd o es ep t ks) (hroom:ks.length+1<scanBound)
  (h:∀ h' o' es' ep' t',Heap.SameBut a s.heap h'->h'.get? a=some o'->SetK knd o' es' ep' t' (ins ks k)->Q .none { s with heap:=h',toks:=s.toks+1 }) :
  wpAny (model prog w) A (call (.builtin "set.add") [.ref a,x]) Q E s:=by
 calc Ap F.slot_set_add (hS.typeIs ho) F.entry_set_add ?_ (F.args_set_add_2 _ _);unfold Builtin.«set.add» Builtin.Frozenset.oneOther;simp only[Cj,Ba];erw[Builtin.Frozenset.addrOf,setAdd];calc AA (AB ?_);try dsimp only
 calc AA (AB ?_);try dsimp only
 calc AA ?_;calc A6 ?_;calc AA (knd.pyHash hkey ?_);refine NG hkey hsc ho hS hroom λh' o' es' ep' t' b hsb ho' hS'=>?_;calc AB ⟨_,rfl,h h' o' es' ep' t' hsb ho' hS'⟩
def zN (w:World):Obj:={ cls:=.type "set", dict:=none,data:=.set #[] 0 (.fresh 0 0 (!w.params.followText "set-order")) }
def SetK.fresh:SetK knd (zN w) #[] 0 (.fresh 0 0 (!w.params.followText "set-order")) []:=⟨⟨rfl,rfl,rfl⟩,rfl,.fresh,by rfl,(),[],.refl _,.nil⟩
def QY (h:Q (.ref ⇑s) { s with heap:=s.heap.push (zN w) }) :
  wpAny (model prog w) A (newSet (.type "set")) Q E s:=by
 erw[newSet,setsByText];calc AA (AA (wpAny_askSetting (AB ?_)));simp only[newObj];calc AA (wpAny_alloc (AB h))
end
open PySem.Spec PyProof.Rows
open Sem (wp)
def OF:Manifest.owners.lookup (String.ofList ['r','o','t','a','r','e','t','i','_','t','e','s'].reverse)=some Manifest.sig_set_iterator:=by kernel_rfl
def zP:Slot "set_iterator" "__next__" "set_iterator.__next__" := .of (owner := "set_iterator") (n := "__next__") (by rw[typeLookup_type,builtinLookup_eq_fast];kernel_rfl) (by decide+kernel) (by decide+kernel) (by decide+kernel) (by first|exact .inl (by decide+kernel)|calc .inr (by decide+kernel)) (by rw[isSubtype_type];kernel_rfl)
def Ms:Slot "set_iterator" "__iter__" "set_iterator.__iter__" := .of (owner := "set_iterator") (n := "__iter__") (by rw[typeLookup_type,builtinLookup_eq_fast];kernel_rfl) (by decide+kernel) (by decide+kernel) (by decide+kernel) (by first|exact .inl (by decide+kernel)|calc .inr (by decide+kernel)) (by rw[isSubtype_type];kernel_rfl)
def FH (a:Value):argsOk "set_iterator.__next__" ⟨[a],[]⟩:=by
 erw[argsOk];rw[signature?_of (n:=['_','_','t','x','e','n','_','_']) (by kernel_rfl) OF];kernel_rfl
def VF (a:Value):argsOk "set_iterator.__iter__" ⟨[a],[]⟩:=by
 erw[argsOk];rw[signature?_of (n:=['_','_','r','e','t','i','_','_']) (by kernel_rfl) OF];kernel_rfl
def Eh:entryFor table "set_iterator.__next__" = some Builtin.«set_iterator.__next__»:=entryFor_of_tree (by kernel_rfl)
def W3:entryFor table "set_iterator.__iter__" = some Builtin.«dict_keyiterator.__iter__» :=
 entryFor_alias (id' := "dict_keyiterator.__iter__") (by kernel_rfl) (by first|rfl|decide+kernel|(erw[String.splitOn];simp +decide [String.splitOnAux])) (by decide+kernel) (by kernel_rfl)
def PX:entryFor table "set.__iter__" = some Builtin.«frozenset.__iter__» :=
 entryFor_alias (id' := "frozenset.__iter__") (by kernel_rfl) rfl (by decide+kernel) (by kernel_rfl)
def zj (f:Value) (i:Nat) (a:Addr) (n ep:Nat):Obj:={ cls:=.type "set_iterator", data:=.fields #[f,rawInt i,.ref a,rawInt n,rawInt ep] }
theorem Ie {α:Type}:∀ {l:List α} {i:Nat} (h:i<l.length),(l[i]::l.eraseIdx i).Perm l
 |[],i,h=>by simp at h
 |x::l,0,h=>by simp
 |x::l,i+1,h=>by
  have:=Ie (~~~h);rw[List.getElem_cons_succ,List.eraseIdx_cons_succ];calc (List.Perm.swap _ _ _).trans (this.cons x)
def Q6 {α:Type} {l:List α} (h:i<l.length) (e:n+1=l.length):n=(l.eraseIdx i).length:=by
 rw[List.length_eraseIdx,AD h];omega
theorem QG {α:Type} (next:Nat->Nat):∀ (fuel k:Nat) (left:List α) (out:Array α),fuel=left.length->(pickOrder.go next fuel k left out).toList.Perm (out.toList++left)
 |0,k,left,out,h=>by
  have:left=[]:=E5.mp h.symm;subst this;erw[pickOrder.go];simp
 |fuel+1,k,left,out,h=>by
  erw[pickOrder.go];let hl:0<left.length:=()
  let hm:next k % left.length<left.length:=Nat.mod_lt _ hl
  rw[AL hm];calc (QG next fuel (k+1) _ _ (Q6 hm h)).trans ?_;rw[Array.toList_push,Dm];calc (Ie hm).append_left _
def JT {α:Type} (next:Nat->Nat) (xs:Array α):(pickOrder next xs).toList.Perm xs.toList:=by
 erw[pickOrder];simpa using QG next xs.size 0 xs.toList #[] (by simp)
section
variable {s:Yl}
def Zx (h0:n≠0) (h:∀ r d,r<n->Q r { s with drawn:=d }):wpAny (model prog w) A (choose src n) Q E s :=
 λΓ p hΓ=>⟨h0,h _ _ (Nat.mod_lt _ ())⟩
theorem KD {α:Type}:∀ (n:Nat) (xs:List α) {s:Yl} {Q:List α->Shared->Prop},n=xs.length->(∀ ys d,ys.Perm xs->Q ys { s with drawn:=d })->wpAny (model prog w) A (drawOrder n xs) Q E s
 |0,xs,s,Q,h,q=>by
  have:xs=[]:=E5.mp h.symm;subst this;let e:s={ s with drawn:=s.drawn }:=by ext s;rfl
  rw[e];calc AB (q [] s.drawn (.refl _))
 |n+1,[],s,Q,h,q=>by ext h
 |n+1,x::xs,s,Q,h,q=>by
  erw[drawOrder];refine AA (Zx (by simp) λr d hr=>?_);rw[AL hr];refine AA (KD n _ (Q6 hr h) λys d' hp=>AB ?_);calc q _ d' ((hp.cons _).trans (Ie hr))
variable {K:Type} [DecidableEq K] {ks:List K}
def DZ (h:s.heap.get? I=some (zj f i a n ep)):s.TypeIs (.ref I) "set_iterator" := ⟨_,h,rfl⟩
def Jc (hI:s.heap.get? I=some (zj f i a n ep)) (h:Q (.ref I) s):wpAny (model prog w) A (pyIter (.ref I)) Q E s:=by
 calc wpAny_pyIter_slot (DZ hI) Ms (Ap Ms (DZ hI) W3 ?_ (VF _));calc AB ⟨_,rfl, "set_iterator", _,DZ hI,zP.lookup,h⟩
structure Nexts (prog:Ym) (w:Yo) (o:Obj) (a:Yt) (ep:Nat) (n:Nat) (at_:Nat->Nat) (ord:Yf):Prop where
 len:ord.length=n
 nx:∀ (A:Yn) (E:Yc) (i:Nat) (s:Yl) (Q:Option (Value × Nat)->Shared->Prop),i<=n->s.heap.get? a=some o->Q ((ord[i]?).map λx=>(x,at_ (i+1))) s->wpAny (model prog w) A (setNext a (at_ i) i ep) Q E s
def MS (N:Nexts prog w o a ep ks.length at_ ord) (hS:SetK knd o es ep t ks) (hI:s.heap.get? I=some (zj (rawInt (at_ i)) i a ks.length ep)) (ho:s.heap.get? a=some o)
  (hx:ord[i]?=some x) (hQ:∀ h',h'.get? I=some (zj (rawInt (at_ (i+1))) (i+1) a ks.length ep)->Heap.SameBut I s.heap h'->Q (some x) { s with heap:=h' }):wpAny (model prog w) A (pyNext (.ref I)) Q E s:=by
 let hT:=DZ hI;let hi:i<ks.length:=by have:=(AY.mp hx).1;rw[N.len]at this;exact this
 erw[pyNext];calc AA (CT (Bq hT zP (Ap zP hT Eh ?_ (FH _))));unfold Builtin.«set_iterator.__next__» slotArgs;simp only[Cj,B2,Ac,↓reduceIte,Bw,DV,Bb,Ba];calc AA (D4 hI rfl ?_);dsimp only[rawInt];calc AA (D3 ho hS.data hS.fits ?_);rw[AE (by rw[hS.size];simp)];calc AA (N.nx _ _ i s _ () ho ?_);rw[hx];dsimp only[Option.map];calc AA (CF hI rfl (by simp) ?_);let e1:=CA (Obj.mapFields λvs=>vs.set! 0 (rawInt (at_ (i+1)))) hI (Dy (Bp rfl _));calc AA (CF e1 (Bp rfl _) (by simp) ?_);let e2:=CA (Obj.mapFields λvs=>vs.set! 1 (rawInt ((i:Int)+1))) e1 (Dy (Bp (Bp rfl _) _));calc AB ⟨x,rfl,AB (hQ _ ?_ ((Bd ..).trans (Bd ..)))⟩;calc e2.trans ?_;simp[Obj.mapFields,zj,rawInt]
end
open Sem (wp)
section
variable {K:Type} [DecidableEq K] {knd:KeyKind prog w K}
def Lh (hh:A.handled=none) (N:Nexts prog w o a ep ks.length at_ ord) (hS:SetK knd o es ep t ks) (hI:s.heap.get? I=some (zj (rawInt (at_ ks.length)) ks.length a ks.length ep)) (ho:s.heap.get? a=some o)
  (hQ:∀ h',Heap.ExtBut I s.heap h'->Q none { s with heap:=h' }):wpAny (model prog w) A (pyNext (.ref I)) Q E s:=by
 let hT:=DZ hI;erw[pyNext];calc AA (CT (Bq hT zP (Ap zP hT Eh ?_ (FH _))));unfold Builtin.«set_iterator.__next__» slotArgs;simp only[Cj,B2,Ac,↓reduceIte,Bw,DV,Bb,Ba];calc AA (D4 hI rfl ?_);dsimp only[rawInt];calc AA (D3 ho hS.data hS.fits ?_);rw[AE (by rw[hS.size];simp)];calc AA (N.nx _ _ ks.length s _ (AF _) ho ?_);rw[Cy (by rw[N.len];calc AF _)];dsimp only[Option.map];calc AA (CF hI rfl (by simp) ?_);simp only[newExc,newTuple,Ba,Bb];calc AA (Ao (AA (wpAny_of_eq (by first|rfl|(simp only[firstArgMember];rfl)) (AA (Ao ?_ (by size_fits))))) (by size_fits));simp only[raiseNew];calc AA (wpAny_handled ?_);rw[show A.in1.handled=none from hh];calc AA (AB (wpAny_throw ?_));calc AA (Eu ⟨_,AK _ rfl,rfl⟩ isSubtype_stop (AB ?_));calc hQ _ (((Bd ..).extBut.push _).push _)
def KY (hh:A.handled=none) (hne:a≠I) (N:Nexts prog w o a ep ks.length at_ ord) (hS:SetK knd o es ep t ks) :
  Walks prog w A I [I,a] [I] ks.length (λi v=>ord[i]?=some v) (λi h=>h.get? I=some (zj (rawInt (at_ i)) i a ks.length ep)/\h.get? a=some o) where
 sub:=λb hb=>by simp at hb;simp[hb]
 frame:=λ_ _ _ st hk=>⟨hk I (by simp) _ st.1,hk a (by simp) _ st.2⟩;item:=λi s Q E hi st hQ=>by
  let hx:ord[i]?=some (ord[i]'(by rw[N.len];calc hi)):=AL _;refine MS N hS st.1 st.2 hx λh' hI' hs'=>?_;exact hQ _ h' s.toks hx ⟨hI',hs'.extBut a o hne st.2⟩ λb u hb ee=>hs'.extBut b u (λh=>hb (by simp[h])) ee
 done:=λs Q E st hQ=>Lh hh N hS st.1 st.2 λh' he'=>hQ h' s.toks λb u hb ee=>he' b u (λh=>hb (by simp[h])) ee;self:=λ_ _ _ _ st hQ=>Jc st.1 hQ
def MB {pl:Yj} (hS:SetK knd o es ep t ks) (hl:pl.length=ks.length) (hI:s.heap.get? I=some (zj (.ref T) i a ks.length ep)) (ho:s.heap.get? a=some o)
  (hT:IsTup s.heap T (pl.map λ(k:Nat)=>rawInt k).toArray)
  (hx:(pl[i]?).bind (λk=>(es[k]?).map (·.2))=some x) (hQ:∀ h',h'.get? I=some (zj (.ref T) (i+1) a ks.length ep)->Heap.SameBut I s.heap h'->Q (some x) { s with heap:=h' }):wpAny (model prog w) A (pyNext (.ref I)) Q E s:=by
 let hTy:=DZ hI;let⟨oT,hoT,hcT,nT,hdT⟩:=id hT;cases hp:pl[i]? with
 |none=>rw[hp]at hx;ext hx
 |some k=>
  rw[hp]at hx;cases he:es[k]? with
  |none=>simp only[Ek]at hx;rw[he]at hx;ext hx
  |some e=>
   simp only[Ek]at hx;rw[he]at hx;ext hx;erw[pyNext];calc AA (CT (Bq hTy zP (Ap zP hTy Eh ?_ (FH _))));unfold Builtin.«set_iterator.__next__» slotArgs;simp only[Cj,B2,Ac,↓reduceIte,Bw,DV,Bb,Ba];calc AA (D4 hI rfl ?_);dsimp only[rawInt];calc AA (D3 ho hS.data hS.fits ?_);rw[AE (by rw[hS.size];simp)];calc AA (BU hoT hdT ?_);dsimp only;let e5:(List.map (λ(k:Nat)=>rawInt k) pl).toArray[(i:Int).toNat]?=some (rawInt k):=by simp[hp]
   rw[e5];dsimp only[rawInt];erw[setNextDrawn];simp only[Ba];calc AA (B7 ho hS.data hS.fits ?_);rw[AE (by simp)];let e6:es[(k:Int).toNat]?=some e:=by simpa using he
   rw[e6];let⟨e1,e2⟩:=e;simp only[Bb];calc AA (CF hI rfl (by simp) ?_);calc AB ⟨e2,rfl,AB (hQ _ ?_ (Bd ..))⟩;calc (CA _ hI (Dy (Bp rfl _))).trans ?_;simp[Obj.mapFields,zj,rawInt]
def LK {pl:Yj} (hh:A.handled=none) (hS:SetK knd o es ep t ks) (hl:pl.length=ks.length) (hI:s.heap.get? I=some (zj (.ref T) ks.length a ks.length ep)) (ho:s.heap.get? a=some o)
  (hT:IsTup s.heap T (pl.map λ(k:Nat)=>rawInt k).toArray) (hQ:∀ h',Heap.ExtBut I s.heap h'->Q none { s with heap:=h' }):wpAny (model prog w) A (pyNext (.ref I)) Q E s:=by
 let hTy:=DZ hI;let⟨oT,hoT,hcT,nT,hdT⟩:=id hT;erw[pyNext];calc AA (CT (Bq hTy zP (Ap zP hTy Eh ?_ (FH _))));unfold Builtin.«set_iterator.__next__» slotArgs;simp only[Cj,B2,Ac,↓reduceIte,Bw,DV,Bb,Ba];calc AA (D4 hI rfl ?_);dsimp only[rawInt];calc AA (D3 ho hS.data hS.fits ?_);rw[AE (by rw[hS.size];simp)];calc AA (BU hoT hdT ?_);dsimp only;let e5:(List.map (λ(k:Nat)=>rawInt k) pl).toArray[(ks.length:Int).toNat]?=none:=by simp[hl]
 rw[e5];dsimp only[rawInt];calc AA (CF hI rfl (by simp) ?_);let e1:=CA (Obj.mapFields λvs=>vs.set! 0 (rawInt 0)) hI (Dy (Bp rfl _));calc AA (CF e1 (Bp rfl _) (by simp) ?_);simp only[newExc,newTuple,Ba,Bb];calc AA (Ao (AA (wpAny_of_eq (by first|rfl|(simp only[firstArgMember];rfl)) (AA (Ao ?_ (by size_fits))))) (by size_fits));simp only[raiseNew];calc AA (wpAny_handled ?_);rw[show A.in1.handled=none from hh];calc AA (AB (wpAny_throw ?_));calc AA (Eu ⟨_,AK _ rfl,rfl⟩ isSubtype_stop (AB ?_));calc hQ _ ((((Bd ..).trans (Bd ..)).extBut.push _).push _)
def KP {pl:Yj} (hh:A.handled=none) (hne:a≠I) (hneT:T≠I) (hS:SetK knd o es ep t ks) (hl:pl.length=ks.length) (hb:∀ k∈pl,k<es.size) :
  Walks prog w A I [I,a,T] [I] ks.length (λi v=>(pl[i]?).bind (λk=>(es[k]?).map (·.2))=some v) (λi h=>h.get? I=some (zj (.ref T) i a ks.length ep)/\h.get? a=some o/\IsTup h T (pl.map λ(k:Nat)=>rawInt k).toArray) where
 sub:=λb hb=>by simp at hb;simp[hb]
 frame:=λ_ _ _ st hk=>⟨hk I (by simp) _ st.1,hk a (by simp) _ st.2.1,let ⟨oT,ho,r⟩:=st.2.2;⟨oT,hk T (by simp) oT ho,r⟩⟩;item:=λi s Q E hi st hQ=>by
  let hi':i<pl.length:=by rw[hl];exact hi
  let hk:pl[i]<es.size:=hb _ (BR hi');let hx:(pl[i]?).bind (λk=>(es[k]?).map (·.2))=some (es[pl[i]].2):=by
   rw[AL hi'];simp[hk]
  refine MB hS hl st.1 st.2.1 st.2.2 hx λh' hI' hs'=>?_;exact hQ _ h' s.toks hx ⟨hI',hs'.extBut a o hne st.2.1,st.2.2.extBut hs'.extBut hneT⟩ λb u hb ee=>hs'.extBut b u (λh=>hb (by simp[h])) ee
 done:=λs Q E st hQ=>LK hh hS hl st.1 st.2.1 st.2.2 λh' he'=>hQ h' s.toks λb u hb ee=>he' b u (λh=>hb (by simp[h])) ee;self:=λ_ _ _ _ st hQ=>Jc st.1 hQ
end
open Sem (wp)
def Nm {prog:Ym} {w:Yo} {A:Yn} {I:Yt} {fp wr:Yg} {n:Nat} {P P':Nat->Value->Prop} {St:Nat->Heap->Prop} (W:Walks prog w A I fp wr n P St) (h:∀ i v,P i v->P' i v):Walks prog w A I fp wr n P' St where
 sub:=W.sub;frame:=W.frame;item:=λi s Q E hi st hQ=>W.item i s Q E hi st λv h' tk hP=>hQ v h' tk (h i v hP);done:=W.done;self:=W.self
section
variable {K:Type} [DecidableEq K] {knd:KeyKind prog w K}
def E3 (h:Q (w.params.followText "set-order") s):wpAny (model prog w) A setsByText Q E s:=by
 erw[setsByText];calc AA (wpAny_askSetting (AB h))
def Kd (hS:SetK knd o es ep t ks) (hT:w.params.followText "set-order" = true):Nexts prog w o a ep ks.length (λ_=>0) ((pickOrder (w.params.setOrder a ep) es).toList.map (·.2)) where
 len:=by rw[AI,(JT _ es).length_eq,Ae,hS.size]
 nx:=λA E i s Q hi ho hQ=>by
  erw[setNext];refine AA (B7 ho hS.data hS.fits ?_);refine AA (E3 ?_);rw[hT,AD rfl,AE (by simp)];refine AA ?_;erw[setWalk];refine AA (B7 ho hS.data hS.fits ?_);refine AA (E3 ?_);rw[hT,AD rfl];refine AA (wpAny_askSetting (AB ?_));refine AB ?_;let e:(Option.map (λ(e:Int × Value)=>(e.2,0)) (pickOrder (w.params.setOrder a ep) es)[i]?)=Option.map (λx=>(x,0)) ((pickOrder (w.params.setOrder a ep) es).toList.map (·.2))[i]?:=by
   rw[AW,CI];cases (pickOrder (w.params.setOrder a ep) es)[i]? <;> rfl
  show Q (Option.map (λ(e:Int × Value)=>(e.2,0)) (pickOrder (w.params.setOrder a ep) es)[i]?) s;rw[e];calc hQ
def HL (t:SetTable):Nat->Nat
 |0=>0
 |i+1=>t.place.getD i 0+1
def Ng (h:Up t.place) (hi:i<=t.place.size):SetTable.below t.place (HL t i)=i:=by
 cases i with
 |zero=>calc Q8 h
 |succ i=>
  show SetTable.below t.place (t.place.getD i 0+1)=i+1;let hl:i<t.place.size:=()
  let e:t.place.getD i 0=t.place[i]:=by simp[Array.getD,hl]
  rw[e];calc NP h hl
def MY (hS:SetK knd o es ep t ks):t.place.size=es.size:=by
 have:=hS.fits;simp only[SetTable.fits,Ay,beq_iff_eq]at this;calc this.1
def Jw (hS:SetK knd o es ep t ks) (hT:w.params.followText "set-order" = false) (hd:(!t.plain&&decide (es.size>1))=false):Nexts prog w o a ep ks.length (HL t) (es.toList.map (·.2)) where
 len:=by rw[AI,Ae,hS.size]
 nx:=λA E i s Q hi ho hQ=>by
  let hz:=MY hS;erw[setNext];calc AA (B7 ho hS.data hS.fits ?_);calc AA (E3 ?_);rw[hT,AE ()];show wpAny _ _ (if (!t.plain&&decide (es.size>1))=true then _ else _) _ _ _;rw[AE (by rw[hd];decide)];let hl:t.led=true:=by rw[hS.tab.led,hT];rfl
  calc AA ?_;show wpAny _ _ (if (!t.led && !es.isEmpty)=true then unsupported "set:maker-not-led" else pure Unit.unit) _ _ _;rw[AE (by rw[hl];simp)];calc AB ?_;rw[Ng hS.tab.up (by rw[hz,hS.size];calc hi)];calc AB ?_;rw[AW,CI]at hQ;by_cases q:i<es.size
  .have q2:i<t.place.size:=by rw[hz];exact q
   rw[BM q,BM q2];rw[BM q]at hQ;let e:HL t (i+1)=t.place[i]+1:=by
    show t.place.getD i 0+1=_;simp[Array.getD,q2]
   simp only[Option.map]at hQ;rw[e]at hQ;exact hQ
  .have:i=es.size:=by rw[hS.size]at q ⊢;omega
   rw[Fx ()]at hQ ⊢;calc hQ
def MW (ho:s.heap.get? a=some o) (hS:SetK knd o es ep t ks)
  (h:∀ (h':Heap) (d:Drawn) (I:Yt) (fp:Yg) (ord:Yf) (St:Nat->Heap->Prop),(∀ b u,s.heap.get? b=some u->h'.get? b=some u)->⇑s<=I->(∀ b∈fp,b<h'.objs.size/\(b=a\/⇑s<=b)) ->
   (∀ A:Around,A.handled=none->Walks prog w A I fp [I] ks.length (λi v=>ord[i]?=some v) St)->St 0 h'->ord.Perm (es.toList.map (·.2))->Q (.ref I) { s with heap:=h',drawn:=d }) :
  wpAny (model prog w) A (pyIter (.ref a)) Q E s:=by
 let hT:=hS.typeIs ho;let hal:a<⇑s:=AG ho;refine wpAny_pyIter_slot hT F.slot_set_iter (Ap F.slot_set_iter hT PX ?_ (F.args_set_iter_1 _));unfold Builtin.«frozenset.__iter__» Builtin.Frozenset.slot0 slotArgs Builtin.Frozenset.addrOf Builtin.Frozenset.sizeOf;simp only[Cj,B2,Ac,↓reduceIte,Bw,DV,Bb,Ba];refine AA (D3 ho hS.data hS.fits ?_);erw[setDrawn];simp only[Ba];refine AA (B7 ho hS.data hS.fits ?_);refine AA (E3 ?_);simp only[Bb];let hsz:=hS.size;let plain:∀ (at_:Nat->Nat) (ord:Yf),at_ 0=0->Nexts prog w o a ep ks.length at_ ord->ord.Perm (es.toList.map (·.2))->Q (.ref ⇑s) { s with heap:=s.heap.push (zj (rawInt 0) 0 a ks.length ep) }:=by
  intro at_ ord h0 N hp;let e:s.heap.push (zj (rawInt 0) 0 a ks.length ep)=s.heap.push (zj (rawInt 0) 0 a ks.length ep):=rfl
  have:=h (s.heap.push (zj (rawInt 0) 0 a ks.length ep)) s.drawn ⇑s [⇑s,a] ord (λi h=>h.get? ⇑s=some (zj (rawInt (at_ i)) i a ks.length ep)/\h.get? a=some o)
   (λb u e=>AH _ e) (AF _) (λb hb=>by
    rw[Ax];rcases AJ.mp hb with z|z
    .rw[z];exact ⟨CM _,.inr (AF _)⟩
    .rw[BD.mp z];calc ⟨Bx hal,.inl rfl⟩)
   (λA hh=>KY hh (AU hal) N hS) ⟨by rw[h0];calc AK _ rfl,AH _ ho⟩ hp
  exact this
 let mk:∀ (s1:Yl) (f:Yu) (hv:s1.heap.get? a=some o) {Q':Fin->Shared->Prop},Q' (.done (.ret (.ref ⇑s1))) { s1 with heap:=s1.heap.push (zj f 0 a ks.length ep) }->wpAny (model prog w) A.in1 (do
   let e <- setEpoch a;let r <- newFields "set_iterator" [f,rawInt 0,Value.ref a,rawInt es.size,rawInt e];ret r) Q' E s1:=by
  intro s1 f hv Q' hq;calc AA (wpAny_setEpoch_of hv hS.data hS.fits ?_);erw[newFields];calc AA (Ao (AB ?_));rw[hsz];exact hq
 let ty:∀ (s1:Shared) (f:Value),(∃ T' r,Shared.TypeIs { s1 with heap:=s1.heap.push (zj f 0 a ks.length ep) } (.ref ⇑s1) T'/\typeLookup (Value.type T') (Str.ofString "__next__")=pure (some r)/\True):=λs1 f=>⟨"set_iterator", _,⟨_,AK _ rfl,rfl⟩,zP.lookup,trivial⟩;show wpAny _ _ (if (!w.params.followText "set-order" && (!t.plain&&decide (es.size>1)))=true then _ else _) _ _ _;by_cases hc:(!w.params.followText "set-order" && (!t.plain&&decide (es.size>1)))=true
 .rw[AD hc];refine AA (KD _ _ (by simp) λpl d hp=>?_);refine AA ?_;erw[newTuple];let hpl:pl.length=ks.length:=by rw[hp.length_eq,Dv,hsz]
  refine Ao ?_ (by
   show (List.map (λ(i:Nat)=>rawInt i) pl).toArray.size<=sizeLine;rw[AX,AI,hpl,<-hsz];calc fits_of_scanBound hS.bound)
  generalize hH:s.heap.push { cls:=.type "tuple", data:=.seq (List.map (λ(i:Nat)=>rawInt i) pl).toArray }=H;let kH:∀ b u,s.heap.get? b=some u->H.get? b=some u:=λb u e=>by rw[<-hH];exact AH _ e
  let hT1:IsTup H ⇑s (pl.map λ(k:Nat)=>rawInt k).toArray:=⟨_,by rw[<-hH];calc AK _ rfl,rfl,0,rfl⟩;let szH:H.objs.size=⇑s+1:=by rw[<-hH];exact Ax ..
  let szlt:⇑s<H.objs.size:=by rw[szH];exact CM _
  let alt:a<H.objs.size:=Nat.lt_trans hal szlt;calc mk { s with heap:=H,drawn:=d } (.ref ⇑s) (kH _ _ ho) ?_;let⟨T',r,e1,e2,_⟩:=ty { s with heap:=H,drawn:=d } (.ref ⇑s);calc ⟨_,rfl,T',r,e1,e2,?_⟩;let kH2:∀ b u,s.heap.get? b=some u->(H.push (zj (.ref ⇑s) 0 a ks.length ep)).get? b=some u:=λb u e=>AH _ (kH b u e);refine h _ d H.objs.size [H.objs.size,a,⇑s] (pl.map λk=>((es[k]?).map (·.2)).getD .none) (λi h=>h.get? H.objs.size=some (zj (.ref ⇑s) i a ks.length ep)/\h.get? a=some o/\IsTup h ⇑s (pl.map λ(k:Nat)=>rawInt k).toArray) kH2 (by rw[szH];calc Cu _) (λb hb=>?_) (λA hh=>?_) ⟨AK _ rfl,kH2 a o ho,?_⟩ ?_
  .rw[Ax];simp only[AJ,A7,Az]at hb;rcases hb with z|z|z
   .rw[z];exact ⟨CM _,.inr (De szlt)⟩
   .rw[z];exact ⟨Bx alt,.inl rfl⟩
   .rw[z];exact ⟨Bx szlt,.inr (AF _)⟩
  .have hb:∀ k∈pl,k<es.size:=λk hk=>by have:=hp.mem_iff.mp hk;simpa using this
   refine Nm (KP hh (AU alt) (AU szlt) hS hpl hb) λi v hv=>?_;rw[AW];cases q:pl[i]? with
   |none=>rw[q]at hv;ext hv
   |some k=>
    rw[q]at hv;simp only[Ek]at hv;rw[Option.map_some,hv];rfl
  .exact hT1.push _
  .have e:es.toList.map (·.2)=(List.range es.size).map λk=>((es[k]?).map (·.2)).getD .none:=by
    apply E6;intro i;rw[AW,AW,CI];by_cases q:i<es.size
    .rw[List.getElem?_range q,BM q];simp[q]
    .rw[Fx (),Cy (by simp;omega)];rfl
   rw[e];exact hp.map _
 .rw[AE hc];calc mk s (rawInt 0) ho ?_;let⟨T',r,e1,e2,_⟩:=ty s (rawInt 0);calc ⟨_,rfl,T',r,e1,e2,?_⟩;cases hX:w.params.followText "set-order" with
  |true=>calc plain _ _ rfl (Kd hS hX) ((JT _ es).map _)
  |false=>
   rw[hX]at hc;calc plain _ _ rfl (Jw hS hX (~~~hc)) (.refl _)
end
open Sem (wp)
section
variable {K:Type} [DecidableEq K] {knd:KeyKind prog w K}
def VT:isSubtype (.type "set") (.type "set")=pure true:=sub_set_self
def Nn (hT:s.TypeIs (.ref a) "set") (h:Q false s):wpAny (model prog w) A (Builtin.List.listLengthHint (.ref a)) Q E s:=by
 erw[Builtin.List.listLengthHint];calc AA (wpAny_specialOf hT F.slot_set_len.lookup ?_);let hsp:splitId "set.__len__" = some ("set", "__len__"):=by decide+kernel
 dsimp only;rw[hsp];calc AA (Eu hT VT ?_);rw[AE (),AD (by decide+kernel)];calc AA (C8 hT ?_);calc AB h
def collect_set (hh:A.handled=none) (ho:s.heap.get? a=some o) (hS:SetK knd o es ep t ks)
  (hQ:∀ (s':Yl) (acc:Yf),(∀ b u,s.heap.get? b=some u->s'.heap.get? b=some u)->s'.os=s.os->s'.gens=s.gens->acc.Perm (es.toList.map (·.2))->Q acc s'):wpAny (model prog w) A (collect (.ref a)) Q E s:=by
 let hal:a<⇑s:=AG ho;let hn:ks.length<=sizeLine:=by rw[<-hS.size];exact fits_of_scanBound hS.bound
 erw[collect];calc AA (wpAny_runValue (CG F.entry_proto_collect ?_));rw[Cs F.plain_proto_collect _];calc AA (Ao (AB ⟨Ds F.plain_list_iadd _,CG F.entry_list_iadd ?_⟩));rw[Cs F.plain_list_iadd _];generalize hH:s.heap.push { cls:=.type "list", data:=.seq ([]:List Value).toArray }=H;let kH:∀ b u,s.heap.get? b=some u->H.get? b=some u:=λb u e=>by rw[<-hH];exact AH _ e
 let szH:H.objs.size=⇑s+1:=by rw[<-hH];exact Ax ..
 let hL1:H.get? ⇑s=some { cls:=.type "list", data:=.seq ([]:List Value).toArray }:=by rw[<-hH];exact AK _ rfl
 let ho1:=kH a o ho;show wpAny _ A.in1 (Builtin.List.listExtendWith (.ref ⇑s) (.ref a) (.ref ⇑s)) _ _ { s with heap:=H };erw[Builtin.List.listExtendWith];let hT1:Shared.TypeIs { s with heap:=H } (.ref a) "set" := ⟨o,ho1,hS.ex.1⟩;calc AA (C8 hT1 ?_);let hneL:⇑s≠a:=B9 hal;let h1:Builtin.List.listSameRef (.ref ⇑s) (.ref a)=false:=by simp[Builtin.List.listSameRef,hneL]
 let h2:(Value.type "set" == Value.type "list")=false:=()
 let h3:(Value.type "set" == Value.type "tuple")=false:=()
 simp only[h1,h2,h3,Bool.or_false,Ac,Ah];refine AA (MW ho1 hS λh2 d I fp ord St k2 hI2 hfp W st0 hp=>?_);let ho2:=k2 a o ho1;refine AA (A6 (Nn ⟨o,ho2,hS.ex.1⟩ ?_));rw[AD (by decide+kernel)];refine AA (Bo (AA ?_));let hL2:=k2 _ _ hL1;refine AA (wpAny_updateSeq hL2 rfl ?_);let hS2:=CA (Obj.mapSeq (·.push Value.none)) hL2 rfl;refine wpAny_updateSeq hS2 rfl ?_;let hS3:=CA (Obj.mapSeq (·.pop)) hS2 rfl;generalize hH3:(h2.update ⇑s (Obj.mapSeq (·.push Value.none))).update ⇑s (Obj.mapSeq (·.pop))=H3 at hS3;let oth:∀ b u,b≠⇑s->h2.get? b=some u->H3.get? b=some u:=λb u hb e=>by
  rw[<-hH3];exact (DK _ _ (Ne.symm hb)).trans ((DK _ _ (Ne.symm hb)).trans e)
 let hSf:⇑s∉fp:=λhm=>by
  rcases (hfp _ hm).2 with z|z
  .exact hneL z
  .have z':H.objs.size<=⇑s:=z;rw[szH]at z';exact absurd z' (Nat.not_succ_le_self _)
 let WS:=(W A.in1.in1 hh).toS;let st3:St 0 H3:=(W A.in1.in1 hh).frame 0 _ _ st0 λb hb u e=>oth b u (λz=>hSf (z▸hb)) e;let hI3:I≠⇑s:=λz=>by
  let z':H.objs.size<=I:=hI2;rw[szH,z]at z';exact absurd z' (Nat.not_succ_le_self _)
 refine AB ⟨Ds F.plain_extend_loop _,codeAny_extend_loopS (WalksS.of_in1 WS) hn _ hSf _ ks.length 0 { s with heap:=H3,drawn:=d } _ _ rfl (A8 _) st3 hS3 (ItemsOf.nil _) λs' acc' c' hm hS' hacc=>?_⟩;refine AA (wpAny_load hS' (AB (hQ s' _ (λb u e=>hm.heap b u (λq=>?_) (oth b u (λz=>BK _ (z▸AG e)) (k2 b u (kH b u e)))) hm.os hm.gens ?_)))
 .rcases AJ.mp q with z|z
  .exact BK _ (z▸AG e)
  .have z':H.objs.size<=I:=hI2;rw[<-BD.mp z,szH]at z';exact BK _ (Nat.lt_trans (BH (CM _) z') (AG e))
 .have e:acc'.toList=ord:=by
   let hl:ord.length=ks.length:=by rw[hp.length_eq,AI,Ae,hS.size]
   apply E6;intro i;rw[CI];by_cases q:i<ks.length
   .have q':i<acc'.size:=by rw[hacc.1];exact q
    rw[BM q'];exact (hacc.2 i _ (BM q')).symm
   .rw[Fx (by rw[hacc.1];omega),Cy ()]
  rw[e];calc hp
end
end ST
section
open PySem PySem.Spec PyProof.Rows
namespace L2
open ST
def Mi {elt target iter ifs rest scope pos it acc env}
  (h0:codeAny (model prog w) A (.compLoop (.SetComp elt (⟨target,iter,ifs,0⟩::rest) scope pos) 0 it acc env) R s)
  (h:wpAny (model prog w) A (pyIter it) (λit' s'=>codeAny (model prog w) A (.compLoop (.SetComp elt (⟨target,iter,ifs,0⟩::rest) scope pos) 0 it' acc env) R s')
   (notedBy (model prog w) A env λx s'=>R (.error x) s') s) :
  codeAny (model prog w) A (.compStart (.SetComp elt (⟨target,iter,ifs,0⟩::rest) scope pos) 0 it acc env) R s:=by
 calc codeAny_of_tree ?_;show wpAny _ _ ((compStart (.SetComp elt (⟨target,iter,ifs,0⟩::rest) scope pos) 0 it acc env).onRaise (λx=>do noteFrame x env;standAt theWindowsPlace)) _ _ s;calc wpAny_notedAt ?_;erw[compStart];calc AA (wpAny_askSetting (wpAny_ite ?_));split
 .first
   |calc AA (AB (AB (And.intro rfl h0)))
   |exact AB (And.intro rfl h0)
 .first
   |exact AA (Bo (AA (Ce (AA (AS h (λit' s' h'=>AB (And.intro rfl h')) λ_ _ x=>x)))))
   | (calc AA (Bo ?_);show wpAny _ _ (standAt iter.pos >>= _) _ _ s;calc AA (Ce (AA (AS h (λit' s' h'=>AB (And.intro rfl h')) λ_ _ x=>x))))
section
variable {pos:Pos}
 {own:Yj} {g:TG} {tc:TT} {te:TE} {E:Yc}
def Vc (h:SetK (intKind prog w) o es ep t ks):∀ v,o.data≠.cell v:=λv z=>by rw[h.data]at z;ext z
def VC (C:CompIn X scope own) (hcalm:X.calm=true) (I:Inv X zB Y H s) (T:Turn X.prog X.w X.K tg J fp it tn) (st:tn 0 s.heap) (hf:∀ b∈fp,BL X zB H b)
  (c1:∀ x c,cl.lookup x=some c->X.env.cells.lookup x=some c) (c2:∀ y∈scope.names,y.2=.free->(cl.lookup y.1).isSome=true)
  (hg:PG (zG X zB scope cl s H fp) tg g) (hi:DF (zG X zB scope cl s H fp) ifs tc) (he:PE (zG X zB scope cl s H fp) elt te)
  {RR:Value->Addr->Result->Shared->Prop} {QQ:List Int->Hp->Prop} {W:Nat->Nat->List Int->Hp->Prop} {m0:Nat} (w0:W 0 m0 [] H)
  (turn:∀ i m ys H,W i m ys H->(J.stop i H/\QQ ys H) \/
   (J.go i H /\ ∀ x H',J.yld i H x H'->g x (clr own Y) H' λσ2 H2=>Ext (clr own Y) σ2/\tc σ2 H2 λb H3=>
    if b=true then te σ2 H3 λv H4=>∃ k,v=.int k/\ys.length+1<scanBound /\ ∃ m',m'<m/\W (i+1) m' (ins ys k) H4 else ∃ m',m'<m/\W (i+1) m' ys H3))
  (fin:∀ σc H' s' o es ep t ys,Inv (zG X zB scope cl s H fp) [(⇑s,o)] σc H' s'->SetK (intKind X.prog X.w) o es ep t ys->QQ ys H'->RR (.ref ⇑s) (⇑s+1) (.ok .next) s') :
  wpAny (model X.prog X.w) X.A (newSet (.type "set")) (λacc s₃=>wpAny (model X.prog X.w) X.A (newFunctionEnv scope X.env.globals cl [] X.env.qual none .none (some X.env)) (λcenv s₄=>
   codeAny (model X.prog X.w) X.A (.compStart (.SetComp elt [⟨tg,iter,ifs,0⟩] scope pos) 0 (.ref it) acc { cenv with scope:=relabel scope X.env }) (RR acc cenv.locals) s₄) E s₃) E s:=by
 let ob:∀ b:Nat,b∈fp->b<⇑s:=λb hb=>let ⟨_,e,_⟩:=T.obj 0 _ st b hb;AG e;refine QY (JP ?_);let sz1:(s.heap.push (zN X.w)).objs.size=⇑s+1:=Ax ..;let I4:=Ju C.sc I hf ob c1 c2 (FP own Y) (λi x v h1 h2 h3=>by
  let⟨a,b⟩:=E4 own Y i v h2;rcases C.nm i x h1 with z|z|z
  .exact absurd z b
  .exact absurd (Ij x z) h3
  .exact ⟨z,a⟩) (zN X.w) (by intro v z;ext z) rfl rfl
 let st4:tn 0 (pushCells ((s.heap.push (zN X.w)).push { cls:=.type "dict", data:=.dict #[] }) scope.names):=T.keep 0 _ _ st λb _ o e=>pushCells_keeps _ _ b o (AH _ (AH _ e));erw[newEnv];rw[sz1];let hDfp:⇑s∉fp:=λz=>BK _ (ob _ z);let hcD:∀ x c,(zG X zB scope cl s H fp).env.cells.lookup x=some c->c≠⇑s:=λx c e z=>by
  let⟨v,o,ho,hd⟩:=I4.cell x c e;let⟨q,_⟩:=I4.pin (⇑s,zN X.w) (by simp);rw[z,q]at ho;ext ho;ext hd
 let fpk:∀ {H':Hp} {pl:Yd},(∀ b∈fp,H' b=none)->(∀ p∈pl,p.1=⇑s) -> ∀ b∈fp,BL (zG X zB scope cl s H fp) pl H' b:=λ{H' pl} hn hp b hb=>
  ⟨hn b hb,(I4.ok.exf b hb).1,I4.ok.exfs b hb,.inl hb,(I4.ok.exf b hb).2,λp hq=>by
   rcases Au.mp hq with z|z
   .exact (hf b hb).2.2.2.2.2 p z
   .intro e;let e2:=hp p z;rw[e]at e2;calc hDfp (e2▸hb)⟩
 let loop:codeAny (model X.prog X.w) X.A (.compLoop (.SetComp elt [⟨tg,iter,ifs,0⟩] scope pos) 0 (.ref it) (.ref ⇑s) (zG X zB scope cl s H fp).env) (RR (.ref ⇑s) (⇑s+1))
   { s with heap:=pushCells ((s.heap.push (zN X.w)).push { cls:=.type "dict", data:=.dict #[] }) scope.names }:=by
  refine PQ (λn s'=>∃ i H' ys o es ep t,Inv (zG X zB scope cl s H fp) [(⇑s,o)] (clr own Y) H' s'/\SetK (intKind X.prog X.w) o es ep t ys/\tn i s'.heap/\(∀ b∈fp,H' b=none)/\W i n ys H') ?_ m0
   ⟨0,H,[],zN X.w,_,_,_,I4,.fresh,st4,λb hb=>(hf b hb).1,w0⟩
  rintro n s5 ⟨i,H5,ys,o,es,ep,t,I5,r5,st5,f5,w5⟩;let pinD:∀ p∈[(⇑s,o)],p.1=⇑s:=λp hp=>by
   have:p=(⇑s,o):=by simpa using hp
   rw[this]
  rcases turn i n ys H5 w5 with ⟨stop,qq⟩|⟨go,step⟩
  .refine thn (T.done (zG X zB scope cl s H fp) rfl rfl rfl hcalm i _ s5 _ H5 _ I5 (fpk f5 pinD) st5 stop) λr s6 ⟨hr,I6⟩=>?_;subst hr;exact fin _ H5 s6 o es ep t ys I6 r5 qq
  .refine thn (T.item (zG X zB scope cl s H fp) rfl rfl rfl hcalm i _ s5 _ H5 _ I5 (fpk f5 pinD) st5 go) λr s6 ⟨u,hr,h6⟩=>?_;subst hr;refine thn h6 λ_ s7 ⟨x,H7,I7,r7,y7,st7,f7⟩=>?_;let I7':=I7.pinned (fpk f7 pinD) (T.obj _ _ st7);refine thn (hg _ s7 _ H7 x u _ I7' r7 (step x H7 y7)) λ_ s8 ⟨σ8,H8,I8,x8,q8⟩=>?_;refine thn (hi _ s8 σ8 H8 _ I8 q8) λok s9 ⟨H9,I9,q9⟩=>?_;let back:∀ {s':Yl} {Hx:Hp},Inv (zG X zB scope cl s H fp) ([(⇑s,o)]++Dt fp s7.heap) σ8 Hx s'->tn (i+1) s'.heap /\ ∀ b∈fp,Hx b=none:=λ{s' Hx} Ix=>
    ⟨T.keep _ _ _ st7 λb hb o e=>(Ix.pin (b,o) (Af _ (Af _ (DB hb e)))).1,λb hb=>by
     let⟨o,e,d⟩:=T.obj _ _ st7 b hb;calc (Ix.pin (b,o) (Af _ (Af _ (DB hb e)))).2.1⟩
   cases ok with
   |false=>
    let⟨m',hm,w'⟩:=q9;let⟨b1,b2⟩:=back I9;calc ⟨m',hm,i+1,H9,ys,o,es,ep,t,(I9.weak (by rw[x8.1]) x8.2).unpinned,r5,b1,b2,w'⟩
   |true=>
    refine thn (he _ s9 σ8 H9 _ I9 q9) λv s10 ⟨y,H10,I10,r10,k,hk,hlt,m',hm,w'⟩=>?_;subst hk;let⟨b1,b2⟩:=back I10;let J10:=(I10.weak (by rw[x8.1]) x8.2).unpinned;let⟨e10,n10,ne10,nf10,d10⟩:=J10.pin (⇑s,o) (by simp);obtain ⟨tk,hv⟩:∃ tk,v=.int k tk:=r10;subst hv;refine X8 (intKind_is _ _ _ _) rfl e10 r5 hlt λh' o' es' ep' t' hs' e' S'=>?_;refine ⟨m',hm,i+1,H10,ins ys k,o',es',ep',t',?_,S',T.keep _ _ _ b1 λb hb o e=>hs'.extBut b o (λz=>hDfp (z▸hb)) e,b2,w'⟩;refine (Inv.repin (pl:=[]) J10 (λp hp=>?_) hs' (AF _) hcD e' (Vc S')).tok _;rw[CV]at hp;let hp':p∈X.pn++zB:=hp;exact AU (AG (I.pin p hp').1)
 calc Mi loop (T.self _ 0 _ _ _ st4 loop)
def Q0 (I:Inv X zB Y H s) (hf:∀ b∈fp,BL X zB H b)
  (Ic:Inv (zG X zB scope cl s H fp) [(⇑s,oD)] σc H' s') (hs:Heap.SameBut (⇑s+1) s'.heap h') :
  Inv X zB Y H' { s' with heap:=h' }/\h'.get? ⇑s=some oD:=by
 let⟨eD,nD,_⟩:=Ic.pin (⇑s,oD) (by simp);let nC:H' (⇑s+1)=none:=Ic.free;let eD':h'.get? ⇑s=some oD:=hs.extBut _ _ (AU (CM _)) eD;let lt1:∀ {b:Yt} {o:Obj},s.heap.get? b=some o->b≠⇑s+1:=λe=>AU (Bx (AG e));let tr:∀ b u,H' b=some u->b≠⇑s+1:=λb u e z=>by rw[z,nC]at e;ext e
 refine ⟨?_,eD'⟩;let B:=Ic.base;let un:Un (frs X.stack) fp H H' s.heap h':=by
  refine ⟨λb o e q hb hx=>hs.extBut b o (lt1 e) (B.keep b o e q hb hx),λb o e q hb hx=>?_,λb o e q hx=>B.free b o e q hx,λb o e hx=>?_,λb xs e=>B.tups b xs e,λb o xs e=>B.frzs b o xs e,λb ps e=>B.tbls b ps e⟩
  .obtain ⟨sl,e1⟩:=B.slot b o e q hb hx;exact ⟨sl,hs.extBut b _ (lt1 e) e1⟩
  .obtain ⟨o',e1⟩:=B.there b o e hx;exact ⟨o',hs.extBut b _ (lt1 e) e1⟩
 let hok:HOk X.prog X.w H' h':=λb u e=>by
  refine (Ic.hok b u e).stay (λc v hc q=>hs.extBut c v ?_ q) (λc q=>q) λc xs q=>q;rcases hc with z|z
  .rw[z];exact tr b u e
  .exact tr c _ z
 calc I.call' Ic.os un hok Ic.bare λb hb=>⟨(hf b hb).2.2.2.1,(hf b hb).2.1,(hf b hb).2.2.2.2.1,(hf b hb).2.2.2.2.2⟩
end
abbrev TZ:=St->Hp->(List Int->Hp->Prop)->Prop
def PZ (X:Cx) (e:Expr) (t:TZ):Prop:=∀ (zB:Yd) (s:Yl) (Y:St) (H:Hp) (Q:List Int->Hp->Prop),Inv X zB Y H s->t Y H Q ->
 wpAny (model X.prog X.w) X.A (eval e X.env) (λv s'=>∃ a o es ep tb ks H',v=.ref a/\s'.heap.get? a=some o/\SetK (intKind X.prog X.w) o es ep tb ks/\Inv X zB Y H' s'/\Q ks H') X.xe s
def QC (own:Yj) (wi:TI) (g:TG) (tc:TT) (te:TE):TZ:=λY H Q=>wi Y H λJ H1=>∃ W:Nat->Nat->List Int->Hp->Prop,(∃ m,W 0 m [] H1) /\ ∀ i m ys H,W i m ys H ->
 (J.stop i H/\Q ys H) \/
 (J.go i H /\ ∀ x H',J.yld i H x H'->g x (clr own Y) H' λσ2 H2=>Ext (clr own Y) σ2/\tc σ2 H2 λb H3=>
  if b=true then te σ2 H3 λv H4=>∃ k,v=.int k/\ys.length+1<scanBound /\ ∃ m',m'<m/\W (i+1) m' (ins ys k) H4 else ∃ m',m'<m/\W (i+1) m' ys H3)
def X3 (C:CompIn X scope own) (hcalm:X.calm=true) (hi:PI X tg iter wi) (p:CompParts X scope tg ifs elt g tc te) (hs:∀ x,foldedSetIterable iter X.env x=pure x:=by intro _;rfl) :
  PZ X (.SetComp elt [⟨tg,iter,ifs,0⟩] scope pos) (QC own wi g tc te):=by
 intro zB s Y H Q I h;let⟨cl,hcl,c1,c2⟩:=C.sc.closure I;rw[arm_eval_SetComp];refine GP rfl hs hcl C.sc.kind C.sc.names (thn (hi zB s Y H _ I h) λv s1 h1=>thn h1 λitv s2 h2=>?_);let⟨it,fp,tn,J,H2,e,I2,T,st2,f2,W,⟨m0,w0⟩,turn⟩:=h2;subst e;calc VC C hcalm I2 T st2 f2 c1 c2 (p.g _ _ _ _ _) (p.c _ _ _ _ _) (p.e _ _ _ _ _) w0 turn ?_;intro σc H' s' o es ep t ys Ic rv qq;let⟨m,hn,_⟩:=Ic.loc;refine ⟨m,hn,λh' hs'=>?_⟩;let⟨J',eD⟩:=Q0 I2 f2 Ic hs';calc ⟨_,o,es,ep,t,ys,H',rfl,eD,rv,J',qq⟩
end L2
namespace ST
open PySem.Sem (wp)
section
variable {prog:Ym} {w:Yo} {A:Yn} {E:Yc} {s:Yl}
variable {K:Type} [DecidableEq K] {knd:KeyKind prog w K}
def zJ (ks:List K):List K:=ks.foldl ins []
def HM (ks:List K) (k:K):zJ (ks++[k])=ins (zJ ks) k:=by erw[zJ];rw[List.foldl_append];rfl
def Xu (ks:List K) (k:K):(ins ks k).length<=ks.length+1:=by erw[ins];split <;> simp
def U7 (ks:List K) (k:K):ks.length<=(ins ks k).length:=by erw[ins];split <;> simp
def ZW (val:Nat->K) (h:i<=n):(zJ ((List.range i).map val)).length<=(zJ ((List.range n).map val)).length:=by
  induction n with
  | zero => have : i = 0 := by omega
            subst this;calc AF _
  |succ n ih=>
    by_cases q:i=n+1
    .subst q;exact AF _
    . rw[List.range_succ,Dw,show List.map val [n]=[val n]from rfl,HM]
      calc BY (ih ()) (U7 _ _)
def Fb (ks:List K):(zJ ks).length<=ks.length:=by
 have:∀ (l acc:List K),(l.foldl ins acc).length<=acc.length+l.length:=by
  intro l;induction l with
  |nil=>intro acc;simp
  |cons x r ih=>intro acc;have:=ih (ins acc x);have:=Xu acc x;simp only[List.foldl_cons,Ci];omega
 simpa [zJ] using this ks []
def dP (ks:List K) (k x:K):x∈ins ks k ↔ x∈ks\/x=k:=by
 erw[ins];split
 .rename_i h;constructor
  .exact .inl
  .rintro (z|z)
   .exact z
   .rw[z];exact h
 .simp
def Gp (ks:List K) (x:K):x∈zJ ks ↔ x∈ks:=by
  have:∀ (l acc:List K),x∈l.foldl ins acc ↔ x∈acc\/x∈l:=by
    intro l;induction l with
    |nil=>intro acc;simp
    |cons y r ih=>intro acc;rw[List.foldl_cons,ih,dP,AJ];simp[or_assoc]
  simpa [zJ] using this ks []
def bL (h : ks.Nodup) (k : K) : (ins ks k).Nodup := by
  erw[ins];split
  .exact h
  · rename_i q
    rw[EZ]
    exact ⟨h, by simp, fun a ha b hb z => by have : b = k := by simpa using hb
                                             subst this;subst z;calc q ha⟩
def K4 (ks:List K):(zJ ks).Nodup:=by
 have:∀ (l acc:List K),acc.Nodup->(l.foldl ins acc).Nodup:=by
  intro l;induction l with
  |nil=>intro acc h;calc h
  |cons y r ih=>intro acc h;exact ih _ (bL h y)
 calc this ks [] (by simp)
def U0 (a:Yu) (h:Q₁ (.ref ⇑s) { s with heap:=s.heap.push (zN w) }) :
  codeAny (model prog w) A (.call (.builtin "set.__new__") ⟨[.type "set", a],[]⟩) (wants Q₁ E) s:=by
 calc codeAny_of_tree ?_;show wpAny _ A.in1 (do checkBuiltinCall "set.__new__" ⟨[.type "set", a],[]⟩;again (.builtin "set.__new__" ⟨[.type "set", a],[]⟩)) _ _ s;calc AA (wpAny_of_eq (F.newCall_set_1 a) (AB ⟨Ds F.plain_set_new _,CG F.entry_set_new ?_⟩));rw[Cs F.plain_set_new _];unfold Builtin.«set.__new__» Builtin.Frozenset.newClass;let hsub:=sub_set_self;let⟨hp,g,d,tk,os⟩:=s;wp_walk;calc wpAny_askSetting (AB ?_);simp only[newObj];calc AA (wpAny_alloc (AB ?_));calc AB h
variable {R:Yx} {I:Yt} {fp wr:Yg} {G:Array GenState->Array GenState->Prop} {n:Nat} {P:Nat->Value->Prop} {St:Nat->Shared->Prop}
def VL (W:WalksS prog w A.in1 I fp wr G n P St) (S:Yt) (hSf:S∉fp) (val:Nat->K) (hval:∀ i v,P i v->knd.is (val i) v=true/\v.scannable=true) (hb:(zJ ((List.range n).map val)).length+1<scanBound) :
  ∀ (k i:Nat) (s:Yl) (o:Obj) (es:Yw) (ep:Nat) (t:SetTable),n-i=k->i<=n->St i s->s.heap.get? S=some o->SetK knd o es ep t (zJ ((List.range i).map val)) ->
   (∀ s' o' es' ep' t',Moved (S::wr) G s s'->s'.heap.get? S=some o'->SetK knd o' es' ep' t' (zJ ((List.range n).map val))->R (.ok (.ret .none)) s') ->
   codeAny (model prog w) A (.builtin "set.update.loop" ⟨[.ref S,.ref I],[]⟩) R s:=by
 let hSw:S∉wr:=λh=>hSf (W.sub _ h);let hsub:∀ b∈wr,b∈S::wr:=λb hb=>AQ _ hb;intro k;induction k with
 |zero=>
  intro i s o es ep t hk hi hst ho hS hR;let hin:i=n:=()
  subst hin;calc CG F.entry_set_update_loop ?_;rw[Cs F.plain_set_update_loop _];refine AA (W.done s _ _ hst λs' hm=>?_);calc AB (hR s' o es ep t (hm.mono hsub) (hm.heap S _ hSw ho) hS)
 |succ k ih=>
  intro i s o es ep t hk hi hst ho hS hR;let hlt:i<n:=()
  calc CG F.entry_set_update_loop ?_;rw[Cs F.plain_set_update_loop _];refine AA (W.item i s _ _ hlt hst λv s' hP hst' hm=>?_);let⟨hv1,hv2⟩:=hval i v hP;let ho':=hm.heap S _ hSw ho;calc AA (A6 ?_);erw[setAdd];calc A6 ?_;calc AA (knd.pyHash hv1 ?_);let hroom:(zJ ((List.range i).map val)).length+1<scanBound:=by have:=ZW val (De hlt);omega
  refine NG hv1 hv2 ho' hS hroom λh' o2 es2 ep2 t2 b hsb ho2 hS2=>?_;let hS3:SetK knd o2 es2 ep2 t2 (zJ ((List.range (i+1)).map val)):=by
   rw[List.range_succ,Dw];rw[show List.map val [i]=[val i]from rfl,HM];exact hS2
  refine AB ⟨Ds F.plain_set_update_loop _,ih (i+1) _ o2 es2 ep2 t2 () hlt (W.frame _ s' _ _ hst' (Cu _) λb hb o e=>?_) ho2 hS3 λs'' o' es' ep' t' hm'' ho'' hS''=>?_⟩
  .rw[hsb.2 b (λh:b=S=>hSf (by rw[<-h];calc hb))];exact e
  .refine hR s'' o' es' ep' t' (Moved.trans W.gtrans ((hm.mono hsub).then_heap (Cu _) λb o hb e=>?_) hm'') ho'' hS'';rw[hsb.2 b (λh:b=S=>hb (by rw[h];calc AM))];calc e
end
section
variable {prog:Ym} {w:Yo} {A:Yn} {E:Yc} {s:Yl}
variable {K:Type} [DecidableEq K] {knd:KeyKind prog w K}
def VW:isSubtype (.type "tuple") (.type "set")=pure false:=by rw[isSubtype_type];kernel_rfl
def Tq:isSubtype (.type "tuple") (.type "frozenset")=pure false:=by rw[isSubtype_type];kernel_rfl
def OW {K:Type} (ks:List K) (d:K):(List.range ks.length).map (λi=>ks.getD i d)=ks:=by
 apply E6;intro i;rw[AW];by_cases q:i<ks.length
 .rw[List.getElem?_range q,AL q];simp[q]
 .rw[Cy (~~~q),Cy (Nat.le_of_not_lt q)];rfl
set_option maxHeartbeats 3200000 in
def Zq [Inhabited K] (hty:ty = "list" \/ ty = "tuple")
  (hh:A.handled=none) (hl:∃ ol,s.heap.get? l=some ol/\ol.cls=.type ty /\ ∃ nl,ol.data=.seq items nl) (hi:F2 (λv k=>knd.is k v=true/\v.scannable=true) items.toList ks) (hb:(zJ ks).length+1<scanBound)
  (h:∀ (h':Heap) (tk:Nat) (o:Obj) (es:Yw) (ep:Nat) (t:SetTable),h'.get? ⇑s=some o->SetK knd o es ep t (zJ ks) ->
   (∀ b o,b<⇑s->s.heap.get? b=some o->h'.get? b=some o)->Q (.ref ⇑s) { s with heap:=h',toks:=tk }) :
  wpAny (model prog w) A (call (.type "set") [.ref l]) Q E s:=by
 let⟨c,tl,hmro⟩:=F.called_set.mro;let hmade:=F.called_set.made;let hsub:=F.called_set.sub;let hlen:items.size=ks.length:=by rw[<-Ae];exact zv hi
 calc wpAny_call (codeAny_of_tree ?_);calc AB ⟨Code.quiet_builtin _ (by decide+kernel),CG F.entry_type_call ?_⟩;rw[Around.under_plain (weight_type_call_type "set" [.ref l] []) rfl];let h1:=F.called_set.notType;let h2:=F.called_set.canCreate;let hct:=F.typeCall_set_1 (.ref l);repeat (any_goals (first|assumption|wp_step))
 refine codeAny_mono (U0 (.ref l) (E:=E) (Q₁:=λobj s₁=>obj=.ref ⇑s/\s₁={ s with heap:=s.heap.push (zN w) }) ⟨rfl,rfl⟩) λr s₁ hr=>?_;cases r with
 |error e=>calc hr
 |ok fl=>
  cases fl with
  |ret obj=>
   let⟨rfl,rfl⟩:=hr;let hS:(s.heap.push (zN w)).get? ⇑s=some (zN w):=AK _ rfl;let hT:Shared.TypeIs { s with heap:=s.heap.push (zN w) } (.ref ⇑s) "set" := ⟨_,hS,rfl⟩;let hli:=F.called_set.init.lookup;let hbi:=F.called_set.init.bind (.ref ⇑s);repeat (any_goals (first|assumption|wp_step))
   refine codeAny_mono (codeAny_call_builtin (R:=wants (λr s₂=>r=.none /\ ∃ h' tk o es ep t,s₂={ s with heap:=h',toks:=tk }/\h'.get? ⇑s=some o/\SetK knd o es ep t (zJ ks) /\
     (∀ b o,b<⇑s->s.heap.get? b=some o->h'.get? b=some o)) E) F.called_set.init.plain F.entry_set_init (check_set_init_1 hT ?_)) λr₂ s₂ hr₂=>?_
   .obtain ⟨ol,hol,hcl,nl,hdl⟩:=hl;let⟨ocls,odict,odata,oslots⟩:=ol;simp only at hcl hdl;subst hcl;subst hdl;let hlS:l<⇑s:=AG hol;let hol':(s.heap.push (zN w)).get? l=some { cls:=.type ty,dict:=odict,data:=.seq items nl,slots:=oslots }:=AH _ hol;let hh3:A.in1.in1.in1.handled=none:=by simp[hh]
    let hneI:l≠(s.heap.push (zN w)).objs.size:=by
     rw[Ax];exact AU (Bx hlS)
    let hSf:⇑s∉[(s.heap.push (zN w)).objs.size,l]:=by
     rw[Ax];simp only[AJ,BD,A7,Az,not_or];exact ⟨AU (CM _),B9 hlS⟩
    let hval:∀ (d:K) (i:Nat) (v:Yu),items[i]?=some v->knd.is (ks.getD i d) v=true/\v.scannable=true:=λd i v hv=>by
     let e:items.toList[i]?=some v:=by rw[CI];exact hv
     have:∀ {xs:Yf} {ys:List K},F2 (λv k=>knd.is k v=true/\v.scannable=true) xs ys -> ∀ (i:Nat),xs[i]?=some v->knd.is (ys.getD i d) v=true/\v.scannable=true:=by
      intro xs ys f;induction f with
      |nil=>intro i e;simp at e
      |cons q _ ih=>
       intro i e;cases i with
       |zero=>simp at e;subst e;calc q
       |succ i=>exact ih i (~~~e)
     exact this hi i e
    let fin:∀ (I:Yt) (hI:I=(s.heap.push (zN w)).objs.size) (P':Fin->Shared->Prop) (s':Yl) (o':Obj) (es':Yw) (ep':Nat) (t':SetTable) (itO:Obj),
      Moved (⇑s::[I]) (λa b=>b=a) { s with heap:=(s.heap.push (zN w)).push itO } s'->s'.heap.get? ⇑s=some o'->SetK knd o' es' ep' t' (zJ ks) ->
      (∃ h' tk o es ep t,s'={ s with heap:=h',toks:=tk }/\h'.get? ⇑s=some o/\SetK knd o es ep t (zJ ks)/\(∀ b o,b<⇑s->s.heap.get? b=some o->h'.get? b=some o)):=by
     intro I hI P' s' o' es' ep' t' itO hm ho' hS';let⟨h',g',d',tk',os'⟩:=s';let eg:g'=s.gens:=hm.gens;let ed:d'=s.drawn:=hm.drawn;let eo:os'=s.os:=hm.os;subst eg;subst ed;subst eo;refine ⟨h',tk',o',es',ep',t',rfl,ho',hS',λb o hb e=>?_⟩;let hb1:b≠⇑s:=AU hb;let hb2:b≠I:=by rw[hI,Ax];exact AU (Bx hb)
     exact hm.heap b o (by simp only[AJ,BD,A7,Az,not_or];calc ⟨hb1,hb2⟩) (AH _ (AH _ e))
    let go:∀ (d:K) (St:Nat->Heap->Prop) (itO:Obj) (W:Walks prog w A.in1.in1.in1 (s.heap.push (zN w)).objs.size [(s.heap.push (zN w)).objs.size,l] [(s.heap.push (zN w)).objs.size] items.size (λi v=>items[i]?=some v) St),St 0 ((s.heap.push (zN w)).push itO) ->
      ∀ {R':Yx},(∀ s',(∃ h' tk o es ep t,s'={ s with heap:=h',toks:=tk }/\h'.get? ⇑s=some o/\SetK knd o es ep t (zJ ks)/\(∀ b o,b<⇑s->s.heap.get? b=some o->h'.get? b=some o))->R' (.ok (.ret .none)) s') ->
      codeAny (model prog w) A.in1.in1 (.builtin "set.update.loop" ⟨[.ref ⇑s,.ref (s.heap.push (zN w)).objs.size],[]⟩) R' { s with heap:=(s.heap.push (zN w)).push itO }:=by
     intro d St itO W st R' hR;refine VL W.toS ⇑s hSf (λi=>ks.getD i d) (hval d) (by rw[hlen,OW];calc hb) (items.size-0) 0 _ (zN w) _ _ _ () (A8 _) st (AH _ hS) .fresh λs' o' es' ep' t' hm ho' hS'=>?_;refine hR s' (fin _ rfl (λ_ _=>True) s' o' es' ep' t' itO hm ho' ?_);rw[hlen,OW]at hS';exact hS'
    rcases hty with rfl|rfl
    .have hsls:=F.sub_list_set;let hslf:=F.sub_list_frozenset;let hne:(Value.type "list" == Value.type "dict")=false:=()
     let hl1:(s.heap.push (zN w)).IsList l items:=⟨_,hol',rfl,nl,rfl⟩;unfold Builtin.«set.__init__» noKeywords Builtin.Frozenset.updateFrom;generalize hPI:pyIter=PI;wp_walk;subst hPI;calc wpAny_pyIter_list hl1 ?_;calc AA (wpAny_runValue ?_);refine go default _ _ (Walks.list hh3 _ l hneI items) ⟨⟨_,AK _ rfl,rfl,rfl⟩,(hl1.push _)⟩ λs' q=>?_;calc AB ?_;exact AB ⟨rfl,q⟩
    .have hsls:=VW;let hslf:=Tq;let hne:(Value.type "tuple" == Value.type "dict")=false:=()
     let hl1:(s.heap.push (zN w)).IsTuple l items:=⟨_,hol',rfl,nl,rfl⟩;unfold Builtin.«set.__init__» noKeywords Builtin.Frozenset.updateFrom;generalize hPI:pyIter=PI;wp_walk;subst hPI;calc wpAny_pyIter_tuple hl1 ?_;calc AA (wpAny_runValue ?_);refine go default _ _ (Walks.tuple hh3 _ l hneI items) ⟨⟨_,AK _ rfl,rfl,rfl⟩,(hl1.push _)⟩ λs' q=>?_;calc AB ?_;exact AB ⟨rfl,q⟩
   .cases r₂ with
    |error e=>calc hr₂
    |ok fl₂=>
     cases fl₂ with
     |ret r=>
      let⟨rfl,h',tk,o,es,ep,t,rfl,ho',hS',hk'⟩:=hr₂;repeat (any_goals (first|assumption|wp_step))
      calc h _ _ _ _ _ _ ho' hS' hk'
     |_=>calc hr₂.elim
  |_=>calc hr.elim
end
def Ag (ks:Ye):List Int:=ks.mergeSort λa b=>decide (a<=b)
def EK (ks:Ye):(Ag ks).Perm ks:=List.mergeSort_perm _ _
def He (ks:Ye):(Ag ks).Pairwise (· <= ·):=by
 have:=List.pairwise_mergeSort (le:=λ(a b:Int)=>decide (a<=b)) (λa b c h1 h2=>by simp at h1 h2 ⊢;omega) (λa b=>by simp;omega) ks;calc this.imp λh=>by simpa using h
theorem NB:∀ {xs ys:Ye},xs.Perm ys->xs.Pairwise (· <= ·)->ys.Pairwise (· <= ·)->xs=ys
 |[],ys,p,_,_=>by have:=p.length_eq;simp at this;rw[E5.mp this.symm]
 |x::xs,[],p,_,_=>by have:=p.length_eq;simp at this
 |x::xs,y::ys,p,h1,h2=>by
  let hx:=DN.mp h1;let hy:=DN.mp h2;let e:x=y:=by
   let a:x∈y::ys:=p.mem_iff.mp AM;let b:y∈x::xs:=p.mem_iff.mpr AM;rcases AJ.mp a with z|z
   .exact z
   .rcases AJ.mp b with q|q
    .exact q.symm
    .exact Int.le_antisymm (hx.1 y q) (hy.1 x z)
  subst e;rw[NB (p.cons_inv) hx.2 hy.2]
def Ni (p:xs.Perm ys) (h:xs.Pairwise (· <= ·)):xs=Ag ys:=NB (p.trans (EK ys).symm) h (He ys)
def K1
  (hc:wpAny (model prog w) A.in1 (collect v) (λvs s1=>∃ ns,IntsAre vs ns/\vs.length<64 /\ ∀ (h':Heap) (out:List Value) (n:Nat),(∀ b u,s1.heap.get? b=some u->h'.get? b=some u)->h'.get? ⇑s1=some (seqObj "list" out.toArray n)->IntsAre out (Ag ns)->Q (.ref ⇑s1) { s1 with heap:=h' }) E s) :
  wpAny (model prog w) A (call (.builtin "sorted") [v]) Q E s:=by
 calc Calls.call_function_entry kind_sorted plain_sorted entry_sorted (args_sorted1 _) ?_;unfold Builtin.«sorted»;calc AA (AB ?_);refine AA (AS hc (λvs s1 h1=>?_) λ_ _ h'=>h');let⟨ns,hI,h64,h⟩:=h1;calc AA (wpAny_newList ?_ (by rw[CO];omega));let hoL:(s1.heap.push (seqObj "list" vs.toArray 0)).get? ⇑s1=some (seqObj "list" vs.toArray 0):=AK _ rfl;refine AA (A6 (Ap slot_list_sort ⟨_,hoL,rfl⟩ entry_list_sort (list_sort_tree hoL hI h64 λout ns' a1 a2 a3=>⟨_,rfl,?_⟩) (args_list_sort _)));calc AB ⟨_,rfl,?_⟩;let g1:=get?_update_seq hoL (λ_=> #[]);let g2:(((s1.heap.push (seqObj "list" vs.toArray 0)).update ⇑s1 (Obj.mapSeq λ_=> #[])).push (seqObj "tuple" vs.toArray 0)).get? ⇑s1=_:=AH _ g1;let g3:=AH (seqObj "list" #[] 0) g2;let g4:=get?_update_seq g3 (λ_=>out);let eS:=Ni a2 a3;subst eS;refine h _ out.toList _ (λb u e=>?_) (by rw[Array.toArray_toList];calc g4) a1;let hb:⇑s1≠b:=λz=>BK _ (z▸AG e);calc (DK _ _ hb).trans (AH _ (AH _ ((DK _ _ hb).trans (AH _ e))))
def RH (h:F2 (Ld (intKind prog w)) es ks):IntsAre (es.map (·.2)) ks:=by
 induction h with
 |nil=>calc .nil
 |cons h _ ih=>
  let⟨⟨h1,_⟩,_⟩:=h;let⟨t,e⟩:=Value.isInt_shape h1;rw[Ab,e];calc .cons _ _ ih
def Wu (p:us.Perm vs):∀ {ks:Ye},IntsAre vs ks -> ∃ ks',ks'.Perm ks/\IntsAre us ks':=by
 let p':=p.symm;clear p;induction p' with
 |nil=>intro ks h;calc ⟨ks,.refl _,h⟩
 |cons x _ ih=>
  intro ks h;cases h with
  |cons n t r=>
   let⟨ys',q1,q2⟩:=ih r;calc ⟨_,q1.cons _,.cons _ _ q2⟩
 |swap x y l=>
  intro ks h;cases h with
  |cons n t r=>
   cases r with
   |cons n2 t2 r=>calc ⟨_,List.Perm.swap _ _ _,.cons _ _ (.cons _ _ r)⟩
 |trans _ _ ih1 ih2=>
  intro ks h;let⟨ys',q1,q2⟩:=ih1 h;let⟨ys'',r1,r2⟩:=ih2 q2;calc ⟨ys'',r1.trans q1,r2⟩
def U8 (p:xs.Perm ys):Ag xs=Ag ys:=Ni ((EK xs).trans p) (He xs)
def Rh (hh:A.handled=none) (ho:s.heap.get? a=some o) (hS:SetK (intKind prog w) o es ep t ks) (h64:ks.length<64)
  (h:∀ (s1:Shared) (h':Heap) (out:List Value) (n:Nat),(∀ b u,s.heap.get? b=some u->s1.heap.get? b=some u)->s1.os=s.os->s1.gens=s.gens->(∀ b u,s1.heap.get? b=some u->h'.get? b=some u)->h'.get? ⇑s1=some (seqObj "list" out.toArray n)->IntsAre out (Ag ks)->Q (.ref ⇑s1) { s1 with heap:=h' }) :
  wpAny (model prog w) A (call (.builtin "sorted") [.ref a]) Q E s:=by
 refine K1 (collect_set hh ho hS λs' acc k1 k2 k3 hp=>?_);let⟨ks',p,f⟩:=hS.ent;let⟨ks2,p2,f2⟩:=Wu hp (RH f);refine ⟨ks2,f2,?_,λh' out n e1 e2 e3=>?_⟩
 .rw[hp.length_eq,AI,Ae,hS.size];exact h64
 .rw[U8 (p2.trans p)]at e3;calc h s' h' out n k1 k2 k3 e1 e2 e3
def UO (hty:ty = "list" \/ ty = "tuple") (hl:∃ ol,s.heap.get? l=some ol/\ol.cls=.type ty /\ ∃ nl,ol.data=.seq vs.toArray nl)
  (h:Q vs { s with heap:=(s.heap.push (seqObj "list" #[] 0)).update ⇑s (Obj.mapSeq (· ++ vs.toArray)) }) (hsz:vs.length<=sizeLine) :
  wpAny (model prog w) A (collect (.ref l)) Q E s:=by
 let⟨o,ho,hc,n,hd⟩:=id hl;erw[collect];calc AA (wpAny_runValue (CG entry_proto_collect' ?_));calc AA (wpAny_newList (AB ⟨Code.quiet_builtin _ (by decide+kernel),CG entry_list_iadd' ?_⟩));show wpAny _ _ (Builtin.List.listExtendWith (.ref ⇑s) (.ref l) (.ref ⇑s)) _ _ { s with heap:=s.heap.push (seqObj "list" #[] 0) };erw[Builtin.List.listExtendWith];let ho':(s.heap.push (seqObj "list" #[] 0)).get? l=some o:=AH _ ho;calc AA (C8 ⟨o,ho',hc⟩ ?_);let ht:(Value.type ty==Value.type "list" || Value.type ty==Value.type "tuple")=true:=by rcases hty with rfl|rfl <;> decide
 rw[AD (by rw[Bool.or_assoc,ht];simp)];calc AA (listItems_at ho' hd ?_);calc AA (listItems_at (AK _ rfl) rfl ?_);rw[AE (by simp)];calc AA (listUpdate_at (AK _ rfl) rfl ?_ (A8 _) (by show (#[]++vs.toArray).size<=sizeLine+1;simp only[Array.size_append,AX,Bw];omega));refine AB ?_
 show wpAny (model prog w) A (do
   let o <- load ⇑s;match o.data with
   |.seq xs _=>pure xs.toList
   |_=>unsupported "internal:collect") Q E { s with heap:=(s.heap.push (seqObj "list" #[] 0)).update ⇑s (Obj.mapSeq (· ++ vs.toArray)) }
 calc AA (wpAny_load (get?_update_seq (AK _ rfl) _) ?_);show wpAny _ _ (pure ((#[]:Array Value)++vs.toArray).toList) Q E _;rw[show ((#[]:Array Value)++vs.toArray).toList=vs by simp];calc AB h
def aH (hty:ty = "list" \/ ty = "tuple") (hl:∃ ol,s.heap.get? l=some ol/\ol.cls=.type ty /\ ∃ nl,ol.data=.seq vs.toArray nl) (hI:IntsAre vs ns) (h64:vs.length<64)
  (h:∀ (h1 h':Heap) (out:List Value) (n:Nat),(∀ b u,s.heap.get? b=some u->h1.get? b=some u)->(∀ b u,h1.get? b=some u->h'.get? b=some u)->h'.get? h1.objs.size=some (seqObj "list" out.toArray n)->IntsAre out (Ag ns)->Q (.ref h1.objs.size) { s with heap:=h' }) :
  wpAny (model prog w) A (call (.builtin "sorted") [.ref l]) Q E s:=by
 refine K1 (UO hty hl ⟨ns,hI,h64,λh' out n e1 e2 e3=>h _ h' out n (λb u e=>?_) e1 e2 e3⟩ (by rw[CO];omega));let hb:⇑s≠b:=λz=>BK _ (z▸AG e);calc (DK _ _ hb).trans (AH _ e)
end ST
namespace L2
open ST
def Inv.kept' (I:Inv X zB Y H s) (k:∀ b u,s.heap.get? b=some u->s1.heap.get? b=some u) (ho:s1.os=s.os) (hg:s1.gens=s.gens):Inv X zB Y H s1 :=
 I.call' (ch:=[]) ho (Un.kept k) (I.hok.kept k) (by rw[hg];calc I.bare) λb hb=>nomatch hb
theorem Ik:∀ {ns:Ye} {us:Yf},IntsAre us ns->zU (ns.map V.int) us
 |_,_,.nil=> .nil
 |_,_,.cons n t h=> .cons ⟨t,rfl⟩ (Ik h)
theorem Ke:∀ {ns:Ye} {us:Yf},zU (ns.map V.int) us->IntsAre us ns
 |[],_,.nil=> .nil
 |n::ns,_,.cons r h=>by let⟨t,rfl⟩:=r;calc .cons n t (Ke h)
def Kr (ks:Ye):(Ag ks).length=ks.length:=(EK ks).length_eq
def dF (hc:X.calm=true) (hg:Gl X "sorted") (hm:X.mg "sorted" = none) (ha:PZ X e t) (hs:starEach [e] X.env=(false,eval e X.env)::starEach [] X.env:=by rfl) (hpl:(backTo pos (starEach [] X.env)).any (·.1)=false:=by rfl) :
  PE X (.Call (.Name "sorted" p) [e] [] pos) (λY H Q=>t Y H λks H1=>ks.length<64 /\ ∀ q,H1 q=none->Q (.ref q) (upd H1 q (.lst ((Ag ks).map V.int)))):=by
 intro zB s Y H Q I h;calc E2 (C7 I hg hm (by rfl) ?_ () ());calc callWith_builtin1 ?_ hs hpl;rw[hs];refine Calls.spliced_cons (thn (ha zB s Y H _ I h) λu s1 ⟨a,o,es,ep,tb,ks,H1,hv,ho,hS,I1,h64,q⟩=>Calls.spliced_nil ?_);subst hv;refine Rh (I1.ok.hd hc) ho hS h64 λs2 h' out n k1 k2 k3 k4 e4 i4=>?_;let I2:Inv X zB Y H1 s2:=I1.kept' k1 k2 k3;let hf:H1 ⇑s2=none:=I2.hok.fresh (AF _);calc ⟨.ref ⇑s2,upd H1 ⇑s2 (.lst ((Ag ks).map V.int)),I2.laid k4 (AF _) ⟨by rw[AI,Kr,CO];omega,out,n,Ik i4,e4⟩,rfl,q _ hf⟩
def T4:CC X (.builtin "sorted") (λxs H Q=>∃ a ns,xs=[.ref a]/\(SqL X.K H a (ns.map V.int)\/SqT X.K H a (ns.map V.int))/\ns.length<64 /\ ∀ q,H q=none->Q (.ref q) (upd H q (.lst ((Ag ns).map V.int)))):=by
 intro zB s Y H xs us Q I r h;let⟨a,ns,rfl,hq,h64,q⟩:=h;obtain ⟨u,rfl,rfl⟩:∃ u,us=[u]/\u=.ref a:=by
  cases r with
  |cons r1 r2=>ext r2;exact ⟨_,rfl,r1⟩
 let key:∃ (ty:String) (its:List Value),(ty = "list" \/ ty = "tuple")/\(∃ ol,s.heap.get? a=some ol/\ol.cls=.type ty /\ ∃ nl,ol.data=.seq its.toArray nl)/\zU (ns.map V.int) its:=by
  rcases hq with hq|hq
  .obtain ⟨its,rv,⟨ol,nl,e1,e2,_,e3⟩,_⟩:=I.list hq;exact ⟨"list", its,.inl rfl,⟨ol,e1,e2,nl,e3⟩,rv⟩
  .obtain ⟨its,rv,⟨ol,e1,e2,nl,e3⟩,_⟩:=I.tuple hq;exact ⟨"tuple", its,.inr rfl,⟨ol,e1,e2,nl,e3⟩,rv⟩
 let⟨ty,its,hty,hl,rv⟩:=key;refine aH hty hl (Ke rv) (by rw[<-rv.length,AI];calc h64) λh1 h' out n k1 k4 e4 i4=>?_;let I2:Inv X zB Y H { s with heap:=h1 }:=I.kept k1;let hf:H h1.objs.size=none:=I2.hok.fresh (AF _);calc ⟨.ref h1.objs.size,upd H h1.objs.size (.lst ((Ag ns).map V.int)),I2.laid k4 (AF _) ⟨by rw[AI,Kr,CO];omega,out,n,Ik i4,e4⟩,rfl,q _ hf⟩
def S7 (hc:X.calm=true) (hg:Gl X "set") (hm:X.mg "set" = none) (ha:PE X e te) (hs:starEach [e] X.env=(false,eval e X.env)::starEach [] X.env:=by rfl) (hpl:(backTo pos (starEach [] X.env)).any (·.1)=false:=by rfl) :
  PZ X (.Call (.Name "set" p) [e] [] pos) (λY H Q=>te Y H λx H1=>∃ a ns,x=.ref a/\(SqL X.K H1 a (ns.map V.int)\/SqT X.K H1 a (ns.map V.int))/\(zJ ns).length+1<scanBound/\Q (zJ ns) H1):=by
 intro zB s Y H Q I h;refine E2 (C7 I hg hm (by rfl) ?_ () ());refine callWith_type1 ?_ hs hpl;rw[hs];refine Calls.spliced_cons (thn (ha zB s Y H _ I h) λu s1 ⟨x,H1,I1,r1,a,ns,hx,hq,hb,q⟩=>Calls.spliced_nil ?_);subst hx;ext r1;let key:∃ (ty:String) (its:List Value),(ty = "list" \/ ty = "tuple")/\(∃ ol,s1.heap.get? a=some ol/\ol.cls=.type ty /\ ∃ nl,ol.data=.seq its.toArray nl)/\zU (ns.map V.int) its:=by
  rcases hq with hq|hq
  .obtain ⟨its,rv,⟨ol,nl,e1,e2,_,e3⟩,_⟩:=I1.list hq;exact ⟨"list", its,.inl rfl,⟨ol,e1,e2,nl,e3⟩,rv⟩
  .obtain ⟨its,rv,⟨ol,e1,e2,nl,e3⟩,_⟩:=I1.tuple hq;exact ⟨"tuple", its,.inr rfl,⟨ol,e1,e2,nl,e3⟩,rv⟩
 let⟨ty,its,hty,hl,rv⟩:=key;let hi:F2 (λv k=>(intKind X.prog X.w).is k v=true/\v.scannable=true) its.toArray.toList ns:=by
  rw[List.toList_toArray];have:=Ke rv;clear rv hq q hb hl;induction this with
  |nil=>calc .nil
  |cons n t _ ih=>exact .cons ⟨intKind_is _ _ _ _,rfl⟩ ih
 refine Zq hty (I1.ok.hd hc) hl hi hb λh' tk o es ep t ho hS k=>?_;let I2:Inv X zB Y H1 { s1 with heap:=h',toks:=tk }:=I1.kept λb u e=>k b u (AG e) e;calc ⟨_,o,es,ep,t,_,H1,rfl,ho,hS,I2,q⟩
end L2
namespace L3
open L2 ST
abbrev FZ:=Sd->Mem->Option (List Int × Mem)
def trZ (K:Yb) (f:FZ):TZ:=λτ H Q=>∃ L Y M ks M',Cor K L M H/\Ad L H Y τ/\f Y M=some (ks,M') /\ ∀ L' H',Stp L H L' H'->Cor K L' M' H'->Q ks H'
structure QZ (X:Cx) (e:Expr) (f:FZ):Prop where
 un:PZ X e (trZ X.K f)
def PZ.imp (h:PZ X e t) (hi:∀ τ H Q,t' τ H Q->t τ H Q):PZ X e t':=λzB s Y H Q I q=>h zB s Y H Q I (hi _ _ _ q)
def HD (own:Yj) (fi:FI) (g:FG) (tc:FT) (te:FE):FZ:=λY M=>match zu own fi g tc te Y M with
 |some (.fl ys,M2)=>match zk ys with
  |some ks=>if ks.length+1<scanBound then some (zJ ks,M2) else none
  |none=>none
 |_=>none
theorem PB:∀ {as bs:List D} {zs:Ye},zk (as++bs)=some zs -> ∃ xs ys,zk as=some xs/\zk bs=some ys/\zs=xs++ys
 |[],bs,zs,h=>⟨[],zs,rfl,h,rfl⟩
 |a::as,bs,zs,h=>by
  cases a with
  |int i=>
   rw[List.cons_append]at h;erw[zk]at h;cbv at h
   .rename_i us e;ext h;let⟨xs,ys,e1,e2,e3⟩:=PB e;calc ⟨i::xs,ys,?_,e2,by rw[e3];rfl⟩;erw[zk];rw[e1]
   .cases h
  |_=>ext h
def Xg (h:zk as=some xs):zk (as++[.int i])=some (xs++[i]):=by
 induction as generalizing xs with
 |nil=>ext h;rfl
 |cons a as ih=>
  cases a with
  |int j=>
   erw[zk]at h;cbv at h
   .rename_i us e;ext h;rw[List.cons_append];erw[zk];rw[ih e];rfl
   .cases h
  |_=>ext h
def eI {K:Yb} {own:Yj} {fi:FI} {g:TG} {fg:FG} {tc:FT} {te:FE} (hg:CK own g fg) {τ:Sv} {H:Hp} {Q:List Int->Hp->Prop} (h:trZ K (HD own fi fg tc te) τ H Q):QC own (trI K fi) g (trT K tc) (trD K (toD te)) τ H Q:=by
 let⟨L,Y,M,d,Mf,c,rs,hf,q⟩:=h;erw[HD,zu]at hf;cases e1:fi Y M with
 |none=>rw[e1]at hf;ext hf
 |some r=>
  let⟨xs,gd,M1⟩:=r;rw[e1]at hf;dsimp only at hf;by_cases hz:xs.length<=sizeLine
  .rw[AD hz]at hf;cases e2:Am fg tc te (BW own Y) xs gd xs M1 with
   |none=>rw[e2]at hf;ext hf
   |some r=>
    let⟨zs,M2⟩:=r;rw[e2]at hf;dsimp only at hf;cbv at hf
    .rename_i kz ez;cbv at hf
     .rename_i hb;ext hf;refine (mkI c rs e1 (λL1 H1 J s1 c1 it=>?_))
      refine ⟨λi m ys H'=>m=xs.length-i/\i<=xs.length /\ ∃ L' M' as bs ka,Stp L1 H1 L' H'/\Cor K L' M' H'/\zk as=some ka/\ys=zJ ka/\Am fg tc te (BW own Y) xs gd (xs.drop i) M'=some (bs,Mf)/\as++bs=zs,
       ⟨xs.length,by simp,A8 _,L1,M1,[],zs,[],.refl _ _,c1,rfl,rfl,by simpa using e2,rfl⟩,?_⟩
      intro i m ys H' hI;refine qz λG=>?_;let⟨eI1,hi,L',M',as,bs,ka,s',c',r',hl,e',hab⟩:=hI;calc G ?_;clear G;subst eI1;by_cases hlt:i<xs.length
      .rw[GO hlt]at e';erw[Am]at e';cbv at e'
       .rename_i hgd;let⟨step,_⟩:=it L' H' M' s' c' hgd;let⟨go,yl⟩:=step i xs[i] (AL hlt);cbv at e'
        .rename_i σ1 eg;refine .inr ⟨go,λv H2 hy=>?_⟩;let⟨gr,rv⟩:=yl v H2 hy;let s2:Stp L1 H1 L' H2:=s'.yld gr;refine hg (GX own ((rs.stp s1).stp s2)) (.refl _) rv eg λτ2 r2 x2=>⟨x2,?_⟩;cbv at e'
         .rename_i M3 e3;cbv at e'
          .rename_i d M4 e4;cbv at e'
           .rename_i ds M5 e5;ext e';refine (mkT (c'.grow gr) r2 e3 (λL3 H3 s3 c3=>DU ?_));refine (mkD c3 (r2.stp s3) e4 (λL4 H4 w s4 c4 r4=>?_));let st:Stp L' H' L4 H4:=((Stp.grow gr).trans s3).trans s4;let ez':=ez;rw[<-hab]at ez';let⟨x1,y1,g1,g2,g3⟩:=PB ez';obtain ⟨k,hk⟩:∃ k,d=.int k:=by
             cases d with
             |int k=>calc ⟨k,rfl⟩
             |_=>ext g2
            subst hk;let ew:w=.int k:=by erw[Rep]at r4;exact r4
            let hka:ka.length<=kz.length:=by
             rw[r']at g1;ext g1;rw[g3,Aw];omega
            calc ⟨k,ew,?_,xs.length-(i+1),(),rfl,hlt,L4,M4,as++[.int k],ds,ka++[k],s'.trans st,c4,Xg r',by rw[hl,HM],e5,by rw[<-hab];simp⟩;rw[hl];have:=Fb ka;omega
           .cases e'
          .cases e'
         .rename_i M3 e3;refine (mkT (c'.grow gr) r2 e3 (λL3 H3 s3 c3=>Dd ?_));let st:Stp L' H' L3 H3:=(Stp.grow gr).trans s3;exact ⟨xs.length-(i+1),(),rfl,hlt,L3,M3,as,bs,ka,s'.trans st,c3,r',hl,e',hab⟩
         .cases e'
        .cases e'
       .cases e'
      .have hi':i=xs.length:=()
       subst hi';rw[List.drop_length]at e';erw[Am]at e';cbv at e'
       .rename_i hgd;ext e';let⟨_,stop⟩:=it L' H' _ s' c' hgd;rw[CV]at hab;subst hab;rw[r']at ez;ext ez;calc .inl ⟨stop,?_⟩;rw[hl];exact q L' H' (s1.trans s') c'
       .cases e'
     .cases hf
    .cases hf
  .rw[AE hz]at hf;ext hf
section
variable {X:Cx} {scope:Y0} {tg elt iter:Expr} {ifs:Yi} {pos p:Pos} {own:Yj} {e:Expr} {f:FE}
def bS (hg:CK own g fg) (C:CompIn X scope own) (hcalm:X.calm=true) (hi:QI X tg iter fi) (p:QParts X scope tg ifs elt g tc te) (hs:∀ x,foldedSetIterable iter X.env x=pure x:=by intro _;rfl) :
  QZ X (.SetComp elt [⟨tg,iter,ifs,0⟩] scope pos) (HD own fi fg tc te) :=
 .mk <| PZ.imp (X3 C hcalm hi.un p.parts hs) λ_ _ _ h=>eI hg h
def FJ (f:FE):FZ:=λY M=>match f Y M with
 |some (x,M1)=>match zr M1 x with
  |some ds=>match zk ds with
   |some ks=>if (zJ ks).length+1<scanBound then some (zJ ks,M1) else none
   |none=>none
  |none=>none
 |none=>none
def ZQ (hc:X.calm=true) (hg:Gl X "set") (hm:X.mg "set" = none) (h:QE X e f) (hs:starEach [e] X.env=(false,eval e X.env)::starEach [] X.env:=by rfl) (hpl:(backTo pos (starEach [] X.env)).any (·.1)=false:=by rfl) :
  QZ X (.Call (.Name "set" p) [e] [] pos) (FJ f):=.mk <| PZ.imp (S7 hc hg hm h.un hs hpl) λτ H Q zz=>by
 let⟨L,Y,M,d,M',c,rs,hf,q⟩:=zz;erw[FJ]at hf;cbv at hf
 .rename_i x M1 e1;cbv at hf
  .rename_i ds e2;cbv at hf
   .rename_i ks e3;cbv at hf
    .rename_i hb;ext hf;refine (mkE c rs e1 (λL1 H1 v s1 c1 r1=>?_));let⟨a,vs,rfl,hsq,r⟩:=GQ c1 r1 e2;have:=Fq e3 r;subst this;exact ⟨a,ks,rfl,hsq,hb,q L1 H1 s1 c1⟩
    .cases hf
   .cases hf
  .cases hf
 .cases hf
def IQ (f:FZ):FE:=λY M=>match f Y M with
 |some (ks,M1)=>if ks.length<64 then some (.fl ((Ag ks).map D.int),M1) else none
 |none=>none
theorem JQ:∀ (ns:Ye),zE L H (ns.map D.int) (ns.map V.int)
 |[]=> .nil
 |n::ns=> .cons B6 (JQ ns)
def WT (hc:X.calm=true) (hg:Gl X "sorted") (hm:X.mg "sorted" = none) (h:QZ X e fz) (hs:starEach [e] X.env=(false,eval e X.env)::starEach [] X.env:=by rfl) (hpl:(backTo pos (starEach [] X.env)).any (·.1)=false:=by rfl) :
  QE X (.Call (.Name "sorted" p) [e] [] pos) (IQ fz):=.mk <| PE.imp (dF hc hg hm h.un hs hpl) λτ H Q zz=>by
 let⟨L,Y,M,d,M',c,rs,hf,q⟩:=zz;erw[IQ]at hf;cbv at hf
 .rename_i ks M1 e1;cbv at hf
  .rename_i hb;ext hf;refine ⟨L,Y,M,_,_,c,rs,e1,λL1 H1 s1 c1=>⟨hb,λp hp=>?_⟩⟩;exact q L1 _ _ (s1.trans (.upd hp)) (c1.upd hp) (zT.newLst s1 c c1 hp (JQ _))
  .cases hf
 .cases hf
def Dp:KB:=λxs M=>match xs with
 |[x]=>match zr M x with
  |some ds=>match zk ds with
   |some ks=>if ks.length<64 then some (.fl ((Ag ks).map D.int),M) else none
   |none=>none
  |none=>none
 |_=>none
def zT.newLst' {L:Yg} {H:Hp} {K:Yb} {M:List MO} {p:Yt} {ds:List D} {vs:List V} (c:Cor K L M H) (hp:H p=none) (r:zE L H ds vs):zT H L (upd H p (.lst vs)) (.fl ds) (.ref p):=zT.newLst (.refl L H) c c hp r
def WK:C4 X.K (λxs H Q=>∃ a ns,xs=[.ref a]/\(SqL X.K H a (ns.map V.int)\/SqT X.K H a (ns.map V.int))/\ns.length<64 /\ ∀ q,H q=none->Q (.ref q) (upd H q (.lst ((Ag ns).map V.int)))) Dp:=by
 intro L M M' H H0 xs d vs Q c r hk q;erw[Dp]at hk;cbv at hk
 .rename_i x;cbv at hk
  .rename_i ys e1;cbv at hk
   .rename_i ks e2;cbv at hk
    .rename_i hb;ext hk;let⟨v,rfl,r1⟩:=r.one;let⟨a,ws,rfl,hs,r2⟩:=GQ c r1 e1;have:=Fq e2 r2;subst this;exact ⟨a,ks,rfl,hs,hb,λp hp=>q L _ _ (.upd hp) (c.upd hp) (zT.newLst' c hp (JQ _))⟩
    .cases hk
   .cases hk
  .cases hk
 .cases hk
def Xt (hg:Gl X "sorted") (hm:X.mg "sorted" = none) (ha:QAE X [e] fa) (he:starEach [e] X.env=(false,eval e X.env)::starEach [] X.env:=by rfl) (hpl:(backTo pos (starEach [] X.env)).any (·.1)=false:=by rfl):QE X (.Call (.Name "sorted" p) [e] [] pos) (fB Dp fa) :=
 F6 WK T4 (by rfl) hg hm ha () () he hpl
end
open AutoSeq1 (wpAny_loadPart')
section
variable {κ:Type} [DecidableEq κ]
def Cc (kf:D->Option κ) (kvs:List (D × D)) (k:κ):Option D:=(kvs.find? λp=>decide (kf p.1=some k)).map (·.2)
def Es (kf:D->Option κ) (kvs:List (D × D)) (k:κ) (kd v:D):List (D × D) :=
 if (kvs.any λp=>decide (kf p.1=some k))=true then kvs.map λp=>if kf p.1=some k then (p.1,v) else p else kvs++[(kd,v)]
theorem IP (k:κ):∀ {kvs:List (D × D)} {vs:List (κ × V)},AO kf L H kvs vs->(Cc kf kvs k=none/\Bu vs k=none) \/ ∃ d v,Cc kf kvs k=some d/\Bu vs k=some v/\Rep L H d v
 |[],vs,h=>by erw[AO]at h;subst h;calc .inl ⟨rfl,rfl⟩
 |p::r,vs,h=>by
  let⟨k',v,r',rfl,e,h1,h2⟩:=h;by_cases q:k'=k
  .subst q;exact .inr ⟨p.2,v,by erw[Cc];rw[Ed,e];simp,by rw[Iy rfl],h1⟩
  .have e1:Cc kf (p::r) k=Cc kf r k:=by erw[Cc];rw[Ed,e];simp[q]
   rw[e1,Jb q];calc IP k h2
theorem P7 (k:κ):∀ {kvs:List (D × D)} {vs:List (κ × V)},AO kf L H kvs vs->(kvs.any λp=>decide (kf p.1=some k))=(vs.any λkv=>decide (kv.1=k))
 |[],vs,h=>by erw[AO]at h;subst h;rfl
 |p::r,vs,h=>by
  let⟨k',v,r',rfl,e,h1,h2⟩:=h;rw[List.any_cons,List.any_cons,P7 k h2,e];simp
theorem Kt (k:κ) (hd:Rep L H d u):∀ {kvs:List (D × D)} {vs:List (κ × V)},AO kf L H kvs vs->AO kf L H (kvs.map λp=>if kf p.1=some k then (p.1,d) else p) (vs.map λkv=>if kv.1=k then (kv.1,u) else kv)
 |[],vs,h=>by erw[AO]at h;subst h;rfl
 |p::r,vs,h=>by
  let⟨k',v,r',rfl,e,h1,h2⟩:=h;rw[Ab,Ab];by_cases q:k'=k
  .subst q;rw[AD e,AD rfl];exact ⟨k',u,_,rfl,e,hd,Kt k' hd h2⟩
  .rw[AE (by rw[e];simpa using q),AE q];calc ⟨k',v,_,rfl,e,h1,Kt k hd h2⟩
theorem PM (hk:kf kd=some k) (hd:Rep L H d u):∀ {kvs:List (D × D)} {vs:List (κ × V)},AO kf L H kvs vs->AO kf L H (kvs++[(kd,d)]) (vs++[(k,u)])
 |[],vs,h=>by erw[AO]at h;subst h;calc ⟨k,u,[],rfl,hk,hd,rfl⟩
 |p::r,vs,h=>by
  let⟨k',v,r',rfl,e,h1,h2⟩:=h;calc ⟨k',v,_,rfl,e,h1,PM hk hd h2⟩
def Pr {kf:D->Option κ} {L:Yg} {H:Hp} {k:κ} {kd d:D} {u:V} (hk:kf kd=some k) (hd:Rep L H d u) {kvs:List (D × D)} {vs:List (κ × V)} (h:AO kf L H kvs vs):AO kf L H (Es kf kvs k kd d) (BP vs k u):=by
 erw[Es,BP];rw[P7 k h];split
 .exact Kt k hd h
 .exact PM hk hd h
end
theorem Mg:∀ {ds:List D} {vs:List V} {ks:List Key},zE L H ds vs->Dq ds=some ks->vs=ks.map kV
 |[],vs,ks,h,e=>by ext e;erw[zE]at h;calc h
 |d::ds,vs,ks,h,e=>by
  erw[zE]at h;let⟨v,r,rfl,h1,h2⟩:=h;erw[Dq]at e;cases e1:Ak d with
  |none=>rw[e1]at e;ext e
  |some k=>
   cases e2:Dq ds with
   |none=>rw[e1,e2]at e;ext e
   |some ks'=>
    rw[e1,e2]at e;ext e;rw[IA h1 e1,Mg h2 e2];rfl
def LJ (h:Rep L H d v) (e:tkD d=some ks):∃ b,v=.ref b/\H b=some (.tup (ks.map kV)):=by
 cases d with
 |tup ds=>
  erw[Rep]at h;let⟨a,vs,rfl,e1,r⟩:=h;calc ⟨a,rfl,by rw[e1,Mg r e]⟩
 |_=>ext e
def FK (M:Mem) (x:EV) (k:D):Option (Option D):=match x with
 |.dat (.ref n)=>match M[n]? with
  |some (.dict kvs)=>match Ak k with
   |some kk=>some (Cc Ak kvs kk)
   |none=>none
  |some (.dicT kvs)=>match tkD k with
   |some kk=>some (Cc tkD kvs kk)
   |none=>none
  |some (.froK kvs)=>match Ak k with
   |some kk=>some (Cc Ak kvs kk)
   |none=>none
  |some (.froT kvs)=>match tkD k with
   |some kk=>some (Cc tkD kvs kk)
   |none=>none
  |_=>none
 |_=>none
def PU (L:Yg) (H:Hp):Option D->Option V->Prop
 |none,o=>o=none
 |some d,o=>∃ v,o=some v/\Rep L H d v
def LD {K:Yb} {L:Yg} {M:Mem} {H H0:Hp} {x:EV} {v w:V} {k:D} {o:Option D} (c:Cor K L M H) (rx:zT H0 L H x v) (rk:Rep L H k w) (e:FK M x k=some o):∃ a ov,v=.ref a/\B1 H a w ov/\PU L H o ov:=by
 cases x with
 |fl xs=>ext e
 |dat d=>
  cases d with
  |ref n=>
   erw[zT,Rep]at rx;let⟨a,rfl,ea⟩:=rx;erw[FK]at e;dsimp only at e;cases q:M[n]? with
   |none=>rw[q]at e;ext e
   |some m=>
    rw[q]at e;let z:=c.obj n a m ea q;cases m with
    |dict kvs=>
     dsimp only at e;cases e2:Ak k with
     |none=>rw[e2]at e;ext e
     |some kk=>
      rw[e2]at e;ext e;let⟨vs,e3,r⟩:=z;refine ⟨a,Bu vs kk,rfl,?_,?_⟩
      .rw[IA rk e2];exact B1.k e3
      .rcases IP kk r with ⟨h1,h2⟩|⟨d,v,h1,h2,h3⟩
       .rw[h1,h2];rfl
       .rw[h1,h2];calc ⟨v,rfl,h3⟩
    |dicT kvs=>
     dsimp only at e;cases e2:tkD k with
     |none=>rw[e2]at e;ext e
     |some kk=>
      rw[e2]at e;ext e;let⟨vs,e3,r⟩:=z;let⟨b,rfl,eb⟩:=LJ rk e2;calc ⟨a,Bu vs kk,rfl,B1.t e3 eb,?_⟩;rcases IP kk r with ⟨h1,h2⟩|⟨d,v,h1,h2,h3⟩
      .rw[h1,h2];rfl
      .rw[h1,h2];calc ⟨v,rfl,h3⟩
    |froK kvs=>
     dsimp only at e;cases e2:Ak k with
     |none=>rw[e2]at e;ext e
     |some kk=>
      rw[e2]at e;ext e;let⟨ob,vs,e3,r⟩:=z;calc ⟨a,Bu vs kk,rfl,.inl ⟨vs,kk,.inr ⟨ob,e3⟩,IA rk e2,rfl⟩,?_⟩;rcases IP kk r with ⟨h1,h2⟩|⟨d,v,h1,h2,h3⟩
      .rw[h1,h2];rfl
      .rw[h1,h2];calc ⟨v,rfl,h3⟩
    |froT kvs=>
     dsimp only at e;cases e2:tkD k with
     |none=>rw[e2]at e;ext e
     |some kk=>
      rw[e2]at e;ext e;let⟨ob,vs,e3,r⟩:=z;let⟨b,rfl,eb⟩:=LJ rk e2;calc ⟨a,Bu vs kk,rfl,.inr ⟨vs,kk,b,.inr ⟨ob,e3⟩,rfl,eb,rfl⟩,?_⟩;rcases IP kk r with ⟨h1,h2⟩|⟨d,v,h1,h2,h3⟩
      .rw[h1,h2];rfl
      .rw[h1,h2];calc ⟨v,rfl,h3⟩
    |_=>ext e
  |_=>ext e
def FV (M:Mem) (n:Nat) (k v:D):Option Mem:=match M[n]? with
 |some (.dict kvs)=>match Ak k with
  |some kk=>if kvs.length<sizeLine then some (M.set n (.dict (Es Ak kvs kk k v))) else none
  |none=>none
 |some (.dicT kvs)=>match tkD k with
  |some kk=>if kvs.length<sizeLine then some (M.set n (.dicT (Es tkD kvs kk k v))) else none
  |none=>none
 |_=>none
def Qn {K:Yb} {L:Yg} {M M':Mem} {H:Hp} {n:Nat} {a:Yt} {k v:D} {w u:V} (c:Cor K L M H) (ea:L[n]?=some a) (rk:Rep L H k w) (rv:Rep L H v u) (e:FV M n k v=some M'):∃ H',Co H a w u H'/\Cor K L M' H'/\Stp L H L H':=by
 erw[FV]at e;cases q:M[n]? with
 |none=>rw[q]at e;ext e
 |some m=>
  rw[q]at e;let z:=c.obj n a m ea q;cases m with
  |dict kvs=>
   dsimp only at e;cases e2:Ak k with
   |none=>rw[e2]at e;ext e
   |some kk=>
    rw[e2]at e;dsimp only at e;cbv at e
    .rename_i hl;ext e;let⟨vs,e3,r⟩:=z;let⟨c3,s3⟩:=c.put (m:=.dict (Es Ak kvs kk k v)) (o':=.dK (BP vs kk u)) ea e3 (λ_ z=>by ext z) (λ_ _ z=>by ext z) λs3=>⟨_,CH,(Pr e2 rv r).stp s3⟩;calc ⟨_,?_,c3,s3⟩;rw[IA rk e2];exact Co.k e3 (by rw[r.length];calc hl)
    .cases e
  |dicT kvs=>
   dsimp only at e;cases e2:tkD k with
   |none=>rw[e2]at e;ext e
   |some kk=>
    rw[e2]at e;dsimp only at e;cbv at e
    .rename_i hl;ext e;let⟨vs,e3,r⟩:=z;let⟨b,rfl,eb⟩:=LJ rk e2;let⟨c3,s3⟩:=c.put (m:=.dicT (Es tkD kvs kk k v)) (o':=.dT (BP vs kk u)) ea e3 (λ_ z=>by ext z) (λ_ _ z=>by ext z) λs3=>⟨_,CH,(Pr e2 rv r).stp s3⟩;exact ⟨_,Co.t e3 eb (by rw[r.length];calc hl),c3,s3⟩
    .cases e
  |_=>ext e
section
variable {X:Cx} {a b e o i value:Expr} {pos pos' apos cpos:Pos} {f g h:FE}
def CN:K2:=λx y M=>match y with
 |.dat k=>match FK M x k with
  |some (some d)=>some (.dat d,M)
  |_=>none
 |_=>none
def V1 {K:Yb}:A9 K (λx y H Q=>∃ a v,x=.ref a/\B1 H a y (some v)/\Q v H) CN:=by
 intro L M M' H H0 x y d v w Q c rx ry hk q;erw[CN]at hk;cbv at hk
 .rename_i k;cbv at hk
  .rename_i d' e1;ext hk;let⟨a,ov,rfl,h1,h2⟩:=LD c rx ry e1;let⟨u,rfl,r⟩:=h2;exact ⟨a,u,rfl,h1,q L H u (.refl L H) c r⟩
  .cases hk
 .cases hk
def VX (hu:X.A.units+1<cLine) (h1:QE X o f) (h2:QE X i g) (hs:Lb i:=by intro _ _;rfl):QE X (.Subscript o i pos) (fOp CN f g):=.mk <| PE.imp (d8 hu h1.un h2.un hs) λ_ _ _ h=>F8 V1 h
def DG (neg:Bool):K2:=λx y M=>match x with
  |.dat k=>match FK M y k with
    |some o=>some (.dat (.bl (if neg then !o.isSome else o.isSome)),M)
    |none=>none
  |_=>none
def Qo {o:Option D} {ov:Option V} (h:PU L H o ov):ov.isSome=o.isSome:=by
  cases o with
  | none => have h' : ov = none := h
            rw[h'];rfl
  |some d=>let⟨v,rfl,_⟩:=h;rfl
def RI {K:Yb}:A9 K (λy x H Q=>∃ a o,x=.ref a/\B1 H a y o/\Q (.bl o.isSome) H) (DG false):=by
 intro L M M' H H0 x y d v w Q c rx ry hk q;erw[DG]at hk;cbv at hk
 .rename_i k;cbv at hk
  .rename_i o e1;ext hk;let⟨a,ov,rfl,h1,h2⟩:=LD c ry rx e1;calc ⟨a,ov,rfl,h1,?_⟩;rw[Qo h2];exact q L H _ (.refl L H) c (Bl (L:=L) (H:=H))
  .cases hk
 .cases hk
def Zv {K:Yb}:A9 K (λy x H Q=>∃ a o,x=.ref a/\B1 H a y o/\Q (.bl (!o.isSome)) H) (DG true):=by
 intro L M M' H H0 x y d v w Q c rx ry hk q;erw[DG]at hk;cbv at hk
 .rename_i k;cbv at hk
  .rename_i o e1;ext hk;let⟨a,ov,rfl,h1,h2⟩:=LD c ry rx e1;calc ⟨a,ov,rfl,h1,?_⟩;rw[Qo h2];exact q L H _ (.refl L H) c (Bl (L:=L) (H:=H))
  .cases hk
 .cases hk
def YI (hu:X.A.units+1<cLine) (h1:QE X a f) (h2:QE X b g) (hm:behindInMarks .In b=false:=by rfl):QE X (.Compare a [.In] [b] pos) (fOp (DG false) f g):=.mk <| PE.imp (Xj (Tf hu h1.un h2.un) hm) λ_ _ _ h=>F8 RI h
def Vx (hu:X.A.units+1<cLine) (h1:QE X a f) (h2:QE X b g) (hm:behindInMarks .NotIn b=false:=by rfl):QT X (.Compare a [.NotIn] [b] pos) (tst (fOp (DG true) f g)):=.mk <| PT.imp (V9 (fO hu h1.un h2.un) hm) λ_ _ _ h=>Mo (λ_ _ _ z=>F8 Zv z) (Ky h)
def IC (fv fo fi:FE):FS:=λY M=>match toD fv Y M with
 |some (v,M1)=>match toD fo Y M1 with
  |some (.ref n,M2)=>match toD fi Y M2 with
   |some (k,M3)=>match FV M3 n k v with
    |some M4=>some (.nx,Y,M4)
    |none=>none
   |none=>none
  |_=>none
 |none=>none
def Wb (hu:X.A.units+1<cLine) (hv:QE X value f) (ho:QE X o g) (hi:QE X i h) (hs:swapsWith value (some (.Subscript o i pos')) pos.line X.env=pure false:=by rfl):QS X (.Assign [.Subscript o i pos'] value pos) (IC f g h) :=
 .mk <| PS.imp (cM hu (CZ ho).un (CZ hi).un (CZ hv).un hs) λE τ H zz=>by
  let⟨L,Y,M,out,Y',M',c,rs,hf,q⟩:=zz;erw[IC]at hf;cbv at hf
  .rename_i v M1 e1;cbv at hf
   .rename_i n M2 e2;cbv at hf
    .rename_i k M3 e3;cbv at hf
     .rename_i M4 e4;ext hf;refine (mkD c rs e1 (λL1 H1 u s1 c1 r1=>(mkD c1 (rs.stp s1) e2 (λL2 H2 y s2 c2 r2=>(mkD c2 ((rs.stp s1).stp s2) e3 (λL3 H3 z s3 c3 r3=>?_))))));erw[Rep]at r2;let⟨a,rfl,ea⟩:=r2;let ea3:L3[n]?=some a:=by let⟨N,hN⟩:=s3.pre;rw[hN];exact G4 ea
      let⟨H4,h1,h2,h3⟩:=Qn c3 ea3 r3 ((r1.stp s2).stp s3) e4;exact ⟨a,H4,rfl,h1,q L3 H4 (((s1.trans s2).trans s3).trans h3) h2 τ ((((rs.stp s1).stp s2).stp s3).stp h3)⟩
     .cases hf
    .cases hf
   .cases hf
  .cases hf
end
end L3
namespace L2
def cW (hu:A.units+1<cLine) (I:Inv X zB Y H s) (g:Co H a y v H') (ry:zc y u) (rv:zc v r) (h:∀ s',Inv X zB Y H' s'->Heap.SameBut a s.heap s'.heap->Q Unit.unit s') :
  wpAny (model X.prog X.w) A (dictSet a u r) Q E s:=by
 rcases g with ⟨kvs,k,e,ey,l,eH⟩|⟨kvs,k,b,e,ey,eb,l,eH⟩
 .subst ey eH;let⟨z,hd,vs,rel,dd⟩:=J3 I.hok e;let hz:vs.length<=sizeLine:=by rw[<-rel.length];exact z
  let hl:(BP kvs k v).length<=sizeLine:=by have:=Hk kvs k v;omega
  refine wpAny_dictSet_pairs (Fp ry) dd λh' dd' hs=>h _ ?_ hs;let he:∃ q,h'.get? a=some q:=let ⟨q,_,_,hq,_⟩:=dd';⟨q,hq⟩;exact Gb I (by rw[e];calc True.intro) hs he (J9 hl hd (rel.put k rv) dd')
 .subst ey eH;cases (show u=Value.ref b from ry);let⟨z,hd,xs,rel,dd⟩:=QH I.hok e;let hz:xs.length<=sizeLine:=by rw[<-Paired.length rel];exact z
  let hl:(BP kvs k v).length<=sizeLine:=by have:=Hk kvs k v;omega
  refine wpAny_dictSet_heap (show (tupleKind (zf X.prog X.w)).room A from Nat.lt_of_succ_lt hu) (FN I.hok eb) dd λh' dd' hs=>h _ ?_ hs;let⟨q,es,ep,hq,h2,h3,h4,_,h5⟩:=dd';refine Gb I (by rw[e];calc True.intro) hs ⟨q,hq⟩ ⟨hl,hd,_,(rel.put k eb rv).keeps λc ys ec=>?_,q,es,ep,hq,h2,h3,h4,h5⟩;rw[zS (Fz ec e (λz=>nomatch z))];calc ec
def HK (isT:Bool):HO:=if isT then .dT [] else .dK []
abbrev Fo:Obj:={ cls:=.type "dict", data:=.dict #[] }
end L2
namespace L3
open L2
def LL (isT:Bool):MO:=if isT then .dicT [] else .dict []
def zx:Nat->D->Bool
 |0,.int _=>true
 |n+1,.tup ds=>ds.all (zx n)
 |_,_=>false
def Av:Nat->D->D->Bool
 |0,.int i,.int j=>decide (i=j)
 |n+1,.tup xs,.tup ys=>xs.length==ys.length&&(xs.zip ys).all λq=>Av n q.1 q.2
 |_,_,_=>false
theorem MI:∀ (n:Nat) (x:D),zx n x=true->Av n x x=true
 |0,.int i,_=>by simp[Av]
 |n+1,.tup xs,h=>by
  erw[zx]at h;erw[Av];rw[An]at h;simp only[beq_self_eq_true,Bool.true_and];rw[An];intro q hq;have:q.1=q.2:=by
   let⟨i,hi,e⟩:=Ck hq;rw[List.getElem_zip]at e;rw[<-e]
  rw[<-this];calc MI n _ (h q.1 (List.of_mem_zip hq).1)
 |0,.non,h=>by ext h
 |0,.bl _,h=>by ext h
 |0,.str _,h=>by ext h
 |0,.tup _,h=>by ext h
 |0,.ref _,h=>by ext h
 |n+1,.non,h=>by ext h
 |n+1,.bl _,h=>by ext h
 |n+1,.int _,h=>by ext h
 |n+1,.str _,h=>by ext h
 |n+1,.ref _,h=>by ext h
def Rf:∀ (n:Nat) (x y:D),zx n x=true->zx n y=true->Av n x y=true->x=y:=by
 intro n;induction n with
 |zero=>
  intro x y hx hy h;cases x <;> first|cases hx|skip
  cases y <;> first|cases hy|skip
  erw[Av]at h;rw[C2 h]
 |succ n ih=>
  intro x y hx hy h;cases x <;> first|cases hx|skip
  cases y <;> first|cases hy|skip
  rename_i xs ys;unfold zx at hx hy;erw[Av]at h;rw[An]at hx hy;rw[Ay,beq_iff_eq,An]at h;congr 1;apply List.ext_getElem h.1;intro i h1 h2;refine ih _ _ (hx _ (BR h1)) (hy _ (BR h2)) ?_;exact h.2 (xs[i],ys[i]) (by
   let hz:i<(xs.zip ys).length:=by rw[List.length_zip];omega
   have:=BR hz;rw[List.getElem_zip]at this;calc this)
def Sb:∀ (n:Nat) (x y:D) (v:V),zx n x=true->zx n y=true->Rep L H x v->Rep L H y v->x=y:=by
 intro n;induction n with
 |zero=>
  intro x y v hx hy rx ry;cases x <;> first|cases hx|skip
  cases y <;> first|cases hy|skip
  unfold Rep at rx ry;rw[rx]at ry;ext ry;rfl
 |succ n ih=>
  intro x y v hx hy rx ry;cases x <;> first|cases hx|skip
  cases y <;> first|cases hy|skip
  rename_i xs ys;unfold zx at hx hy;rw[An]at hx hy;unfold Rep at rx ry;let⟨a,vs,rfl,e,r⟩:=rx;let⟨a',vs',e1,e2,r'⟩:=ry;ext e1;rw[e]at e2;ext e2;congr 1;let hl:xs.length=ys.length:=by rw[<-r.length,r'.length]
  apply List.ext_getElem hl;intro i h1 h2;let⟨u,hu,ru⟩:=r.get (AL h1);let⟨u',hu',ru'⟩:=r'.get (AL h2);rw[hu]at hu';ext hu';calc ih _ _ u (hx _ (BR h1)) (hy _ (BR h2)) ru ru'
def HN {xs ys:List D} (f:D->D->Bool) (h:xs.length=ys.length):((List.range xs.length).all λj=>f (xs.getD j .non) (ys.getD j .non))=(xs.zip ys).all λq=>f q.1 q.2:=by
  rw[C1,An,An];constructor
  . intro hh q hq
    let⟨i,hi,e⟩:=Ck hq;rw[List.getElem_zip]at e;rw[List.length_zip]at hi;have:=hh i (by simp;omega);rw[<-e];simpa [Ai,show i<xs.length by omega,show i<ys.length by omega] using this
  . intro hh i hi
    let h1:i<xs.length:=by simpa using hi
    let h2:i<ys.length:=()
    let hz:i<(xs.zip ys).length:=by rw[List.length_zip];omega
    have:=hh (xs.zip ys)[i] (BR hz);rw[List.getElem_zip]at this;simpa [Ai,h1,h2] using this
def cI (I : Inv X zB Y H s) : ∀ (n : Nat) (A : Around) (x y : D) (v w : V) (u u' : Value), A.units + n < cLine -> zx n x = true -> zx n y = true -> Rep L H x v -> Rep L H y w -> zc v u -> zc w u' -> SeqAt.EqAt A s u u' (Av n x y) := by
  intro n;induction n with
  |zero=>
    intro A x y v w u u' hu hx hy rx ry ru ru';cases x <;> first|cases hx|skip
    cases y <;> first|cases hy|skip
    unfold Rep at rx ry;subst rx;subst ry;let⟨t,rfl⟩:=ru;let⟨t',rfl⟩:=ru';have:=SeqAt.EqAt.int_int (A:=A) (s:=s) ‹Int› t ‹Int› t';erw[Av];rename_i i j;let h:=SeqAt.EqAt.int_int (A:=A) (s:=s) i t j t';let e:(i==j)=decide (i=j):=by by_cases q:i=j <;> simp[q]
    rw[e]at h;calc h
  | succ n ih =>
    intro A x y v w u u' hu hx hy rx ry ru ru';cases x <;> first|cases hx|skip
    cases y <;> first|cases hy|skip
    rename_i xs ys;let hx':=hx;let hy':=hy;let rx':=rx;let ry':=ry;unfold zx at hx hy;rw[An]at hx hy;unfold Rep at rx ry;let⟨a,vs,rfl,e,r⟩:=rx;let⟨b,ws,rfl,e2,r2⟩:=ry;ext ru;ext ru';by_cases hab:a=b
    . subst hab
      have:=Sb (n+1) _ _ _ hx' hy' rx' ry';rw[this,MI (n+1) _ hy'];exact SeqAt.EqAt.same _
    · refine SeqAt.EqAt.of_refs hab ?_
      let⟨its,rv,p1,_⟩:=I.tuple (.of e);let⟨its2,rv2,p2,_⟩:=I.tuple (.of e2);let l1:its.toArray.size=xs.length:=by rw[AX,<-rv.length,r.length]
      let l2:its2.toArray.size=ys.length:=by rw[AX,<-rv2.length,r2.length]
      have key := SeqAt.RcAt.tuples (A := A) (items := its.toArray) (items2 := its2.toArray) (e := fun j => Av n (xs.getD j .non) (ys.getD j .non)) p1 p2 (by omega) (fun j h1 h2 => by
        let j1:j<xs.length:=()
        let j2:j<ys.length:=()
        let⟨q1,g1,t1⟩:=r.get (AL j1);let⟨q2,g2,t2⟩:=r2.get (AL j2);let⟨o1,k1,m1⟩:=rv.get g1;let⟨o2,k2,m2⟩:=rv2.get g2
        have z1 : its.toArray[j] = o1 := by have : its.toArray[j]? = some o1 := by simpa using k1
                                            rw[BM h1]at this;exact BQ this
        have z2 : its2.toArray[j] = o2 := by have : its2.toArray[j]? = some o2 := by simpa using k2
                                             rw[BM h2]at this;exact BQ this
        rw[z1,z2];let w1:xs.getD j .non=xs[j]:=by simp[Ai,j1]
        let w2:ys.getD j .non=ys[j]:=by simp[Ai,j2]
        rw[w1,w2];calc ih A.in1 _ _ _ _ _ _ (by show A.units+1+n<cLine;omega) (hx _ (BR j1)) (hy _ (BR j2)) t1 t2 m1 m2)
      let fin:((List.range (min its.toArray.size its2.toArray.size)).all (λj=>Av n (xs.getD j .non) (ys.getD j .non))&&its.toArray.size==its2.toArray.size)=Av (n+1) (.tup xs) (.tup ys):=by
        rw[l1,l2];show _=(xs.length==ys.length&&(xs.zip ys).all λq=>Av n q.1 q.2);by_cases hl:xs.length=ys.length
        .rw[hl,Nat.min_self,<-hl,HN (Av n) hl,Bool.and_comm]
        . have:(xs.length==ys.length)=false:=by simpa using hl
          rw[this];simp
      rw[fin]at key;calc key
def nb (neg b:Bool):Bool:=if neg then !b else b
def rTr (neg:Bool) (K:Yb) (n:Nat):R2:=λx y H Q=>∃ (L:Yg) (xs ys:List D),(xs.all (zx n)=true/\ys.all (zx n)=true) /\
 ((Rep L H (.tup xs) x/\Rep L H (.tup ys) y) \/ ∃ a b vs ws,x=.ref a/\y=.ref b/\SqL K H a vs/\SqL K H b ws/\zE L H xs vs/\zE L H ys ws)/\Q (.bl (nb neg (Av (n+1) (.tup xs) (.tup ys)))) H
def Qy (I:Inv X zB Y H s) (hu:A.units+n<cLine) (hx:xs.all (zx n)=true) (hy:ys.all (zx n)=true) (r:zE L H xs vs) (r2:zE L H ys ws) (rv:zU vs its) (rv2:zU ws its2) (j:Nat) (h1:j<its.toArray.size) (h2:j<its2.toArray.size) :
  SeqAt.EqAt A s its.toArray[j] its2.toArray[j] (Av n (xs.getD j .non) (ys.getD j .non)):=by
 rw[An]at hx hy;let l1:its.toArray.size=xs.length:=by rw[AX,<-rv.length,r.length]
 let l2:its2.toArray.size=ys.length:=by rw[AX,<-rv2.length,r2.length]
 let j1:j<xs.length:=()
 let j2:j<ys.length:=()
 let⟨q1,g1,t1⟩:=r.get (AL j1);let⟨q2,g2,t2⟩:=r2.get (AL j2);let⟨o1,k1,m1⟩:=rv.get g1;let⟨o2,k2,m2⟩:=rv2.get g2;let z1:its.toArray[j]=o1:=by
  have:its.toArray[j]?=some o1:=by simpa using k1
  rw[BM h1]at this;exact BQ this
 let z2:its2.toArray[j]=o2:=by
  have:its2.toArray[j]?=some o2:=by simpa using k2
  rw[BM h2]at this;exact BQ this
 let w1:xs.getD j .non=xs[j]:=by simp[Ai,j1]
 let w2:ys.getD j .non=ys[j]:=by simp[Ai,j2]
 rw[z1,z2,w1,w2];calc cI I n A _ _ _ _ _ _ hu (hx _ (BR j1)) (hy _ (BR j2)) t1 t2 m1 m2
def Nc (l1:a=xs.length) (l2:b=ys.length):((List.range (min a b)).all (λj=>Av n (xs.getD j .non) (ys.getD j .non))&&a==b)=Av (n+1) (.tup xs) (.tup ys):=by
 subst l1 l2;show _=(xs.length==ys.length&&(xs.zip ys).all λq=>Av n q.1 q.2);by_cases hl:xs.length=ys.length
 .rw[hl,Nat.min_self,<-hl,HN (Av n) hl,Bool.and_comm]
 .have:(xs.length==ys.length)=false:=by simpa using hl
  rw[this];simp
def ZE (hl:xs.length=ys.length):((List.range xs.length).all λj=>Av n (xs.getD j .non) (ys.getD j .non))=Av (n+1) (.tup xs) (.tup ys):=by
 rw[<-Nc rfl rfl,hl,Nat.min_self];simp
def YT (hl:xs.length≠ys.length):Av (n+1) (.tup xs) (.tup ys)=false:=by
 show (xs.length==ys.length&&_)=false;rw[show (xs.length==ys.length)=false by simpa using hl];rfl
def Tw (n:Nat) (hu:X.A.units+1+n<cLine):OpR X (compareOp .Eq) (rTr false X.K n):=by
 intro zB s Y H x y v u Q I rx ry h;let⟨L,xs,ys,⟨hx,hy⟩,hc,q⟩:=h;let hu1:X.A.in1.units+n<cLine:=hu;rcases hc with ⟨p1,p2⟩|⟨a,b,vs,ws,rfl,rfl,s1,s2,r1,r2⟩
 .unfold Rep at p1 p2;let⟨a,vs,rfl,e1,r1⟩:=p1;let⟨b,ws,rfl,e2,r2⟩:=p2;ext rx;ext ry;let⟨its,rv,t1,_⟩:=I.tuple (.of e1);let⟨its2,rv2,t2,_⟩:=I.tuple (.of e2);refine SeqAt.eq_tupleAt t1 t2 () (λj h1 h2=>Qy I hu1 hx hy r1 r2 rv rv2 j h1 h2) ?_;rw[Nc (by rw[AX,<-rv.length,r1.length]) (by rw[AX,<-rv2.length,r2.length])];exact ⟨.bl _,H,I,rfl,q⟩
 .cases rx;ext ry;let⟨its,rv,t1,_⟩:=I.list s1;let⟨its2,rv2,t2,_⟩:=I.list s2;let l1:its.toArray.size=xs.length:=by rw[AX,<-rv.length,r1.length]
  let l2:its2.toArray.size=ys.length:=by rw[AX,<-rv2.length,r2.length]
  by_cases hl:xs.length=ys.length
  .refine SeqAt.eq_listAt t1.isList t2.isList () () (λj h1 h2=>Qy I hu1 hx hy r1 r2 rv rv2 j h1 h2) ?_;rw[l1,ZE hl];exact ⟨.bl _,H,I,rfl,q⟩
  .refine SeqAt.eq_list_lengthsAt t1.isList t2.isList (by rw[l1,l2];simpa using hl) () ?_;rw[YT hl]at q;calc ⟨.bl false,H,I,rfl,q⟩
def kTr (neg:Bool) (n:Nat):K2:=λx y M=>match Cr x,Cr y with
 |some xs,some ys=>if xs.all (zx n)&&ys.all (zx n) then some (.dat (.bl (nb neg (Av (n+1) (.tup xs) (.tup ys)))),M) else none
 |_,_=>match BO M x,BO M y with
  |some xs,some ys=>if xs.all (zx n)&&ys.all (zx n) then some (.dat (.bl (nb neg (Av (n+1) (.tup xs) (.tup ys)))),M) else none
  |_,_=>none
def aU {K:Yb} {neg:Bool} {n:Nat}:A9 K (rTr neg K n) (kTr neg n):=by
 intro L M M' H H0 x y d v w Q c rx ry hk q;erw[kTr]at hk;cbv at hk
 .rename_i xs ys e1 e2;cbv at hk
  .rename_i hb;ext hk;rw[Ay]at hb;let⟨p,vs,rfl,h1,r1⟩:=DH rx e1;let⟨p',ws,rfl,h2,r2⟩:=DH ry e2;refine ⟨L,xs,ys,hb,.inl ⟨?_,?_⟩,q L H _ (.refl L H) c (Bl (L:=L) (H:=H))⟩
   .unfold Rep;exact ⟨p,vs,rfl,h1,r1⟩
   .unfold Rep;exact ⟨p',ws,rfl,h2,r2⟩
  .cases hk
 .split at hk
  .rename_i xs ys e1 e2;cbv at hk
   .rename_i hb;ext hk;rw[Ay]at hb;let⟨p,vs,rfl,h1,r1⟩:=Cf c rx e1;let⟨p',ws,rfl,h2,r2⟩:=Cf c ry e2;exact ⟨L,xs,ys,hb,.inr ⟨p,p',vs,ws,rfl,rfl,.inl h1,.inl h2,r1,r2⟩,q L H _ (.refl L H) c (Bl (L:=L) (H:=H))⟩
   .cases hk
  .cases hk
def XR (n:Nat) (hu:X.A.units+1+n<cLine) (h1:QE X a f) (h2:QE X b g):QE X (.Compare a [.Eq] [b] pos) (fOp (kTr false n) f g):=JB aU (Tw n hu) h1 h2 (DT _)
def Pn (n:Nat) (hn:n<=8) (hr:Room k A):A.units+1+n<cLine:=by
 have:=hr.units;omega
def GW (f g:FE):FE:=λY M=>match toD f Y M with
 |some (.tup ds,M1)=>match zk ds with
  |some xs=>match toD g Y M1 with
   |some (.int i,M2)=>if i∈xs then some (.dat (.int (xs.idxOf i)),M2) else none
   |_=>none
  |none=>none
 |_=>none
def dB (h:QE X o f) (hg:QE X e g) (hbase:attributeBase o "index" X.env (eval o X.env)=eval o X.env:=by rfl)
  (hfew:((backTo cpos (starEach [e] X.env)).all (λx=> !x.1)&&(backToKw cpos (keywordEach [] X.env)).all (λx=>x.1.isSome)&&decide ([e].length+([]:List Keyword).length+(if ([]:List Keyword).isEmpty then 0 else 1)<30))=true:=by rfl)
  (hline:(apos.endLine==cpos.line)=true:=by rfl) (hs:starEach [e] X.env=(false,eval e X.env)::starEach [] X.env:=by rfl) (hplain:(backTo cpos (starEach [] X.env)).any (·.1)=false:=by rfl) :
  QE X (.Call (.Attribute o "index" apos) [e] [] cpos) (GW f g) :=
 .mk <| PE.imp (LC PySem.F.plainAttrs_tuple PySem.F.slot_tuple_index PySem.F.type_tuple_index Th (CZ h).un (Pq (CZ hg) Ot hs).un hbase hfew hline hs hplain) λτ H Q zz=>by
  let⟨L,Y,M,d,M',c,rs,hf,q⟩:=zz;erw[GW]at hf;cbv at hf
  .rename_i ds M1 e1;cbv at hf
   .rename_i xs e2;cbv at hf
    .rename_i i Mq e3;cbv at hf
     .rename_i hi;ext hf;refine ⟨L,Y,M,_,_,c,rs,e1,λL1 H1 u s1 c1 r1=>?_⟩;erw[Rep]at r1;let⟨p,vs,rfl,h1,r⟩:=r1;let ev:=Fq e2 r;subst ev;refine ⟨.inr (.inl ⟨rfl,.inr ⟨_,h1⟩⟩),L1,Y,M1,_,_,c1,rs.stp s1,(show zD (toD g) zR Y M1=some ([D.int i],M') by erw[zD,zR];rw[e3]),λL2 H2 ws s2 c2 r2=>?_⟩;let ew:=Il r2;subst ew;exact ⟨p,i,xs,rfl,rfl,.of (s2.tup p _ h1),hi,q L2 H2 _ (s1.trans s2) c2 (B6 (L:=L2) (H:=H2))⟩
     .cases hf
    .cases hf
   .cases hf
  .cases hf
open Builtin
def Hq:KB:=λxs M=>match xs with
 |[.dat (.int i),.dat (.int j)]=>some (.dat (.int (if j>i then j else i)),M)
 |_=>none
def Xp (r:Ca H0 L H [.dat (.int i),.dat (.int j)] vs):vs=[.int i,.int j]:=by
 erw[Ca]at r;let⟨v,r1,rfl,a1,a2⟩:=r;erw[Ca]at a2;let⟨v2,r2,rfl,b1,b2⟩:=a2;erw[Ca]at b2;subst b2;unfold zT Rep at a1 b1;subst a1 b1;rfl
def Uu {K:Yb}:C4 K (λxs H Q=>∃ i j,xs=[.int i,.int j]/\Q (.int (if j>i then j else i)) H) Hq:=by
 intro L M M' H H0 xs d vs Q c r hk q;erw[Hq]at hk;cbv at hk
 .rename_i i j;ext hk;exact ⟨i,j,Xp r,q L H _ (.refl L H) c (B6 (L:=L) (H:=H))⟩
 .cases hk
def XD (hcalm:X.calm=true) (hg:Gl X "max") (hm:X.mg "max" = none) (ha:QAE X [e,e2] fa) (he:starEach [e,e2] X.env=(false,eval e X.env)::starEach [e2] X.env:=by rfl) (hpl:(backTo pos (starEach [e2] X.env)).any (·.1)=false:=by rfl):QE X (.Call (.Name "max" p) [e,e2] [] pos) (fB Hq fa) :=
 F6 Uu (bZ hcalm) (by rfl) hg hm ha () () he hpl
def Gr (fg:FG) (f:FE):FS:=λY M=>match toD f Y M with
 |some (d,M1)=>match fg d Y with
  |some σ1=>some (.nx,σ1,M1)
  |none=>none
 |none=>none
def RV (hk:GOk g fg) (h:QE X e f) (hg:PG X tg g) (hs:swapsWithSole [tg] e pos.line X.env=pure false:=by rfl) (hw:swappedStores [tg] e X.env=pure none:=by rfl)
  (h1:(assignEach [tg] X.env).map (·.2)=[assign tg X.env]:=by rfl):QS X (.Assign [tg] e pos) (Gr fg f) :=
 .mk <| PS.imp (Mm h.un hg hs hw h1) λE τ H zz=>by
  let⟨L,Y,M,o,Y',M',c,rs,hf,q⟩:=zz;erw[Gr]at hf;cbv at hf
  .rename_i d M1 e1;cbv at hf
   .rename_i σ1 e2;ext hf;refine Of ⟨L,Y,M,_,_,c,rs,e1,λL1 H1 v s1 c1 r1=>?_⟩;exact hk (rs.stp s1) r1 e2 λτ' rs'=>q L1 H1 s1 c1 τ' rs'
   .cases hf
  .cases hf
def Pt:OkS (Gr fg f Y M) P ↔ Ok (f Y M) (DC λd M1=>∃ σ1,fg d Y=some σ1/\P .nx σ1 M1):=by
 rw[<-Bk];erw[Gr];constructor
 .rintro ⟨o,Y',M',e,p⟩;cbv at e
  .rename_i d M1 e1;cbv at e
   .rename_i σ1 e2;ext e;exact ⟨d,_,e1,_,e2,p⟩
   .cases e
  .cases e
 .rintro ⟨d,M1,e1,σ1,e2,p⟩;calc ⟨.nx,σ1,M1,?_,p⟩;rw[e1];dsimp only;rw[e2]
def SI (b:Bool) (h:Heap) (it t:Yt) (k:Nat):Prop:=if b then h.IsTupleIter it t k else h.IsListIter it t k
def SO (b:Bool) (h:Heap) (t:Yt) (xs:Yp):Prop:=if b then h.IsTuple t xs else h.IsList t xs
abbrev itO (b:Bool) (t:Addr):Obj:={ cls:=.type (if b then "tuple_iterator" else "list_iterator"),data:=.fields #[.ref t,.int 0 0] }
def SI.keep (x:SI b h it t k) (e:∀ o,h.get? it=some o->h'.get? it=some o):SI b h' it t k:=by
 cases b with
 |true=>let⟨o,q,r⟩:=(show h.IsTupleIter it t k from x);calc (show h'.IsTupleIter it t k from ⟨o,e o q,r⟩)
 |false=>let⟨o,q,r⟩:=(show h.IsListIter it t k from x);calc (show h'.IsListIter it t k from ⟨o,e o q,r⟩)
def SO.keep (x:SO b h t xs) (e:∀ o,h.get? t=some o->h'.get? t=some o):SO b h' t xs:=by
 cases b with
 |true=>let⟨o,q,r⟩:=(show h.IsTuple t xs from x);calc (show h'.IsTuple t xs from ⟨o,e o q,r⟩)
 |false=>let⟨o,q,r⟩:=(show h.IsList t xs from x);calc (show h'.IsList t xs from ⟨o,e o q,r⟩)
def SI.but (x:SI b h a t i) (hs:Heap.ExtBut c h h') (n:a≠c):SI b h' a t i:=x.keep λo e=>hs a o n e
def SO.but (x:SO b h a its) (hs:Heap.ExtBut c h h') (n:a≠c):SO b h' a its:=x.keep λo e=>hs a o n e
def G3 (I:SI b s.heap it t i) (T:SO b s.heap t its) (hx:its[i]?=some x)
  (q:∀ h',SI b h' it t (i+1)->Heap.SameBut it s.heap h'->Q x { s with heap:=h' }):wpAny (model prog w) A (Builtin.SmallTypes.nextOf (.ref it)) Q E s:=by
 cases b with
 |true=>calc JY (show s.heap.IsTupleIter it t i from I) (show s.heap.IsTuple t its from T) hx q
 |false=>calc wpAny_nextOf_list_item (show s.heap.IsListIter it t i from I) (show s.heap.IsList t its from T) hx q
def Jq (hh:A.handled=none) (I:SI b s.heap it t i) (T:SO b s.heap t its) (hx:its[i]?=none)
  (q:∀ h' e,Heap.ExtBut it s.heap h'->(∃ o,h'.get? e=some o/\o.cls=.type "StopIteration")->E (.ref e) { s with heap:=h' }):wpAny (model prog w) A (Builtin.SmallTypes.nextOf (.ref it)) Q E s:=by
 cases b with
 |true=>calc J8 hh (show s.heap.IsTupleIter it t i from I) (show s.heap.IsTuple t its from T) hx q
 |false=>calc wpAny_nextOf_list_end hh (show s.heap.IsListIter it t i from I) (show s.heap.IsList t its from T) hx q
def Kc (hl:SO b s.heap l items) (hQ:Q (.ref ⇑s) { s with heap:=s.heap.push (itO b l) }):wpAny (model prog w) A (pyIter (.ref l)) Q E s:=by
 cases b with
 |true=>calc wpAny_pyIter_tuple (show s.heap.IsTuple l items from hl) hQ
 |false=>calc wpAny_pyIter_list (show s.heap.IsList l items from hl) hQ
structure ZipG (b1 b2:Bool) (h:Heap) (z TI TO i1 i2 t1 t2:Yt) (f:Yu) (k1 k2:Nat):Prop where
 z:IsZip h z TI TO f
 ti:IsPair h TI (.ref i1) (.ref i2)
 to:∃ a b,IsPair h TO a b
 a:SI b1 h i1 t1 k1
 b:SI b2 h i2 t2 k2
def Ly (e:h.get? it=some (itO b t)):SI b h it t 0:=by
 cases b with
 |true=>calc (show h.IsTupleIter it t 0 from ⟨_,e,rfl,rfl⟩)
 |false=>calc (show h.IsListIter it t 0 from ⟨_,e,rfl,rfl⟩)
abbrev HJ (b1:Bool) (h:Heap) (a:Yt):Heap:=h.push (itO b1 a)
abbrev Jf (b1 b2:Bool) (h:Heap) (a b:Yt):Heap:=HJ b2 (HJ b1 h a) b
abbrev Iq (b1 b2:Bool) (h:Heap) (a b:Addr):Heap:=(Jf b1 b2 h a b).push { cls:=.type "tuple", data:=.seq #[.ref h.objs.size,.ref (HJ b1 h a).objs.size] }
abbrev JI (b1 b2:Bool) (h:Heap) (a b:Addr):Heap:=(Iq b1 b2 h a b).push { cls:=.type "tuple", data:=.seq #[.none,.none] }
abbrev HC (b1 b2:Bool) (h:Heap) (a b:Addr):Heap:=(JI b1 b2 h a b).push { cls:=.type "zip", data:=.fields #[.none,.bool false,.bool false,.ref (Jf b1 b2 h a b).objs.size,.ref (Iq b1 b2 h a b).objs.size] }
def Uh (b1 b2:Bool) (a b:Addr) (xs ys:Array Value):Meets (Builtin.«zip.__new__» ⟨[.type "zip", .ref a,.ref b],[]⟩) (λ_ R s=>SO b1 s.heap a xs/\SO b2 s.heap b ys/\R (.ok (.ret (.ref (JI b1 b2 s.heap a b).objs.size))) { s with heap:=HC b1 b2 s.heap a b }) :=
 .of_wp λprog w A R s h=>by
  let⟨hp,g,d,tk,os⟩:=s;let⟨Ta,Tb,h⟩:=h;let sz:=sub_zip;let U1:SO b1 (Shared.heap ⟨hp,g,d,tk,os⟩) a xs:=Ta;let U2:SO b2 (Shared.heap ⟨hp.push (itO b1 a),g,d,tk,os⟩) b ys:=Tb.keep λo e=>AH _ e;wp_walk using Kc U1,Kc U2;calc ⟨_,rfl,h⟩
def Ru (Ta:SO b1 s.heap a xs) (Tb:SO b2 s.heap b ys)
  (h:∀ h',ZipG b1 b2 h' (⇑s+4) (⇑s+2) (⇑s+3) ⇑s (⇑s+1) a b .none 0 0->(∀ c o,s.heap.get? c=some o->h'.get? c=some o)->Q (.ref (⇑s+4)) { s with heap:=h' }) :
  wpAny (model prog w) A (call (.type "zip") [.ref a,.ref b]) Q E s:=by
 refine callType_new PySem.F.called_zip () (PySem.F.typeCall_zip_2 _ _) (PySem.F.newCall_zip_2 _ _) (λobj=>PySem.F.args_object_init_3 obj _ _) PySem.F.entry_zip_new (Uh b1 b2 a b xs ys) ⟨Ta,Tb,?_⟩;let q1:(HJ b1 s.heap a).objs.size=⇑s+1:=Ax ..;let q2:(Jf b1 b2 s.heap a b).objs.size=⇑s+2:=by rw[Ax,q1]
 let q3:(Iq b1 b2 s.heap a b).objs.size=⇑s+3:=by rw[Ax,q2]
 let q4:(JI b1 b2 s.heap a b).objs.size=⇑s+4:=by rw[Ax,q3]
 let u:∀ {h:Heap} {c:Yt} {o p:Obj},h.get? c=some o->(h.push p).get? c=some o:=λe=>AH _ e;let p5:(HC b1 b2 s.heap a b).get? (JI b1 b2 s.heap a b).objs.size=some _:=AK _ rfl;let p4:(HC b1 b2 s.heap a b).get? (Iq b1 b2 s.heap a b).objs.size=some _:=u (AK _ rfl);let p3:(HC b1 b2 s.heap a b).get? (Jf b1 b2 s.heap a b).objs.size=some _:=u (u (AK _ rfl));let p2:(HC b1 b2 s.heap a b).get? (HJ b1 s.heap a).objs.size=some _:=u (u (u (AK _ rfl)));let p1:(HC b1 b2 s.heap a b).get? ⇑s=some _:=u (u (u (u (AK _ rfl))));rw[q2,q3,q4]at p5;rw[q1,q2]at p3;rw[q3]at p4;rw[q1]at p2;rw[q4];calc ⟨⟨_,p5,rfl⟩,h _ ⟨p5,p3,⟨_,_,p4⟩,Ly p1,Ly p2⟩ λc o x=>u (u (u (u (u x))))⟩
def SqG (K:Yb) (b:Bool) (H:Hp) (a:Yt) (xs:List V):Prop:=if b then SqT K H a xs else SqL K H a xs
def MR (I:Inv X zB Y H s) (h:SqG X.K b H a xs):∃ its,zU xs its/\SO b s.heap a its.toArray:=by
 cases b with
 |true=>let⟨its,rv,p1,_⟩:=I.tuple h;calc ⟨its,rv,p1⟩
 |false=>let⟨its,rv,p1,_⟩:=I.list h;calc ⟨its,rv,p1.isList⟩
def Jx (x:SO b h a its):a<h.objs.size:=by
 cases b with
 |true=>let⟨_,e,_⟩:=(show h.IsTuple a its from x);calc AG e
 |false=>let⟨_,e,_⟩:=(show h.IsList a its from x);calc AG e
def Pb {K:Yb} {L1:Yg} {M1:Mem} {H1:Hp} {x:D} {v:V} {xs:List D} (c1:Cor K L1 M1 H1) (r1:Rep L1 H1 x v) (e:zr M1 (.dat x)=some xs) :
  ∃ b l,v=.ref l/\(∃ vs,SqG K b H1 l vs) /\ ∀ L2 H2 M2,Stp L1 H1 L2 H2->Cor K L2 M2 H2->zr M2 (.dat x)=some xs -> ∃ vs',SqG K b H2 l vs'/\zE L2 H2 xs vs':=by
 let r1':zT H1 L1 H1 (.dat x) v:=r1;cases x with
 |tup ds=>
  ext e;let⟨a,vs,rfl,e3,r3⟩:=DH r1' rfl;exact ⟨true,a,rfl,⟨vs,(show SqT K H1 a vs from .of e3)⟩,λL2 H2 M2 s2 c2 _=>⟨vs,(show SqT K H2 a vs from .of (s2.tup a vs e3)),r3.stp s2⟩⟩
 |ref n=>
  let e2:BO M1 (.dat (.ref n))=some xs:=e;let⟨a,vs,rfl,e3,r3⟩:=Cf c1 r1' e2;refine ⟨false,a,rfl,⟨vs,(show SqL K H1 a vs from .inl e3)⟩,λL2 H2 M2 s2 c2 hq=>?_⟩;erw[Rep]at r1;let⟨a',ha',e5⟩:=r1;ext ha';let e6:L2[n]?=some a:=by let⟨N,hN⟩:=s2.pre;rw[hN];exact G4 e5
  let r2:zT H2 L2 H2 (.dat (.ref n)) (.ref a):=by erw[zT,Rep];exact ⟨a,rfl,e6⟩
  let⟨a2,vs',h2,e7,r7⟩:=Cf c2 r2 (show BO M2 (.dat (.ref n))=some xs from hq);ext h2;calc ⟨vs',(show SqL K H2 a vs' from .inl e7),r7⟩
 |_=>ext e
def YL {ns:Ye} {its:Yf} (r:zU (ns.map V.int) its) {i:Nat} {v:Yu} (h:its.toArray[i]?=some v):∃ t,v=.int (ns.getD i 0) t:=by
 let h':its[i]?=some v:=by simpa using h
 let hi:i<its.length:=(AY.mp h').1;let hl:=r.length;rw[AI]at hl;let hx:(ns.map V.int)[i]?=some (.int (ns.getD i 0)):=by
  rw[AW,Ai,AL ()];rfl
 let⟨u,hu,ru⟩:=r.get hx;rw[h']at hu;ext hu;let⟨t,rfl⟩:=ru;calc ⟨t,rfl⟩
def VE (hh:A.handled=none) (b:Bool) (I ax:Yt) (hne:ax≠I) (items:Yp) :
  Walks prog w A I [I,ax] [I] items.size (λi v=>items[i]?=some v) (λi h=>SI b h I ax i/\SO b h ax items):=by
 cases b with
 |true=>calc Walks.tuple hh I ax hne items
 |false=>calc Walks.list hh I ax hne items
section
variable {X:Cx} {a e e2 o:Expr} {pos p apos cpos:Pos} {f:FE}
def HQ (f:FE):FT:=λY M=>match f Y M with
 |some (x,M1)=>match zr M1 x with
  |some xs=>some (!xs.isEmpty,M1)
  |none=>none
 |none=>none
def YK (h:QE X a f) (he:∀ whole,isTrue a X.env whole=(do let v <- whole;standAt a.pos;holding [v] (truthy v)):=by intro _;rfl):QT X a (HQ f) :=
 .mk <| PT.imp (fL h.un he) λτ H Q zz=>by
  let⟨L,Y,M,d,M',c,rs,hf,q⟩:=zz;erw[HQ]at hf;cbv at hf
  .rename_i x M1 e1;cbv at hf
   .rename_i xs e2;ext hf;refine (mkE c rs e1 (λL1 H1 v s1 c1 r1=>⟨!xs.isEmpty,?_,q L1 H1 s1 c1⟩));erw[zr]at e2;let emp:∀ {vs:List V},zE L1 H1 xs vs->(!xs.isEmpty) = !vs.isEmpty:=λ{vs} r=>by
     have:=r.length;cases xs <;> cases vs <;> first|rfl|simp at this
    cases t:Cr x with
    |some ws=>
     rw[t]at e2;ext e2;let⟨l,vs,rfl,e3,r3⟩:=DH r1 t;calc .inr (.inl ⟨vs,.of e3,emp r3⟩)
    |none=>
     rw[t]at e2;dsimp only at e2;let⟨l,vs,rfl,e3,r3⟩:=Cf c1 r1 e2;exact .inl ⟨vs,.inl e3,emp r3⟩
   .cases hf
  .cases hf
def DR (i j k:Nat):FG:=λd Y=>match d with
 |.tup [x,y,z]=>some (((Y.set i (some x)).set j (some y)).set k (some z))
 |_=>none
abbrev gP3 (K:Yb) (i j k:Nat):TG:=Lq K 3 (Gn (Cd i) (Gn (Cd j) (Gn (Cd k) Kh)))
def Oa (r:zE L H [x,y,z] vs):∃ v1 v2 v3,vs=[v1,v2,v3]/\Rep L H x v1/\Rep L H y v2/\Rep L H z v3:=by
 erw[zE]at r;let⟨v1,r',rfl,h1,r⟩:=r;let⟨v2,v3,rfl,h2,h3⟩:=r.two;calc ⟨v1,v2,v3,rfl,h1,h2,h3⟩
def eV {K:Yb} {i j k:Nat}:GOk (gP3 K i j k) (DR i j k):=by
 intro L H Y Y' τ d v Q rs r hf q;erw[DR]at hf;cbv at hf
 .rename_i x y z;ext hf;erw[Rep]at r;let⟨a,vs,rfl,e,r⟩:=r;let⟨v1,v2,v3,rfl,r1,r2,r3⟩:=Oa r;exact ⟨a,_,rfl,.of e,rfl,v1,[v2,v3],rfl,v2,[v3],rfl,v3,[],rfl,rfl,q _ (((rs.set r1).set r2).set r3)⟩
 .cases hf
def Pj {K:Yb} {own:Yj} {i j k:Nat} (hi:i∈own) (hj:j∈own) (hk:k∈own):CK own (gP3 K i j k) (DR i j k):=by
 intro L H Y Y' τ τ0 d v Q rs ex r hf q;erw[DR]at hf;cbv at hf
 .rename_i x y z;ext hf;erw[Rep]at r;let⟨a,vs,rfl,e,r⟩:=r;let⟨v1,v2,v3,rfl,r1,r2,r3⟩:=Oa r;exact ⟨a,_,rfl,.of e,rfl,v1,[v2,v3],rfl,v2,[v3],rfl,v3,[],rfl,rfl,q _ (((rs.set r1).set r2).set r3) (((ex.set hi).set hj).set hk)⟩
 .cases hf
end
def EO (fg:FG) (tc:FT) (fi2:FI) (own2:Yj) (fg2:FG) (tc2:FT) (te:FE) (Y:Sd) (all:List D) (gd:Option (Mem->Prop)):List D->List D->Mem->Option (List D × Mem)
 |[],acc,M=>open Classical in if BZ gd all M then some (acc,M) else none
 |x::r,acc,M=>open Classical in if BZ gd all M then match fg x Y with
   |some σ1=>match tc σ1 M with
    |some (true,M1)=>match fi2 σ1 M1 with
     |some (ys,gd2,M2)=>if acc.length+ys.length<=sizeLine then match Am fg2 tc2 te (BW own2 σ1) ys gd2 ys M2 with
       |some (ds,M3)=>EO fg tc fi2 own2 fg2 tc2 te Y all gd r (acc++ds) M3
       |none=>none
      else none
     |none=>none
    |some (false,M1)=>EO fg tc fi2 own2 fg2 tc2 te Y all gd r acc M1
    |none=>none
   |none=>none
  else none
def D5 (own own2:Yj) (fi:FI) (fg:FG) (tc:FT) (fi2:FI) (fg2:FG) (tc2:FT) (te:FE):FE:=λY M=>match fi Y M with
 |some (xs,gd,M1)=>match EO fg tc fi2 own2 fg2 tc2 te (BW own Y) xs gd xs [] M1 with
  |some (ys,M2)=>some (.fl ys,M2)
  |none=>none
 |none=>none
def Qk {K:Yb} {own own2:Yj} {fi fi2:FI} {g g2:TG} {fg fg2:FG} {tc tc2:FT} {te:FE} (hg:CK own g fg) (hg2:CK own2 g2 fg2) {τ:Sv} {H:Hp} {Q:VK} (h:trE K (D5 own own2 fi fg tc fi2 fg2 tc2 te) τ H Q) :
  Le own own2 (trI K fi) g (trT K tc) (trI K fi2) g2 (trT K tc2) (trD K (toD te)) τ H Q:=by
 let⟨L,Y,M,d,Mf,c,rs,hf,q⟩:=h;erw[D5]at hf;cbv at hf
 .rename_i xs gd M1 e1;cbv at hf
  .rename_i zs M2 e2;ext hf;refine (mkI c rs e1 (λL1 H1 J s1 c1 it=>?_))
   refine ⟨λi m ys H'=>m=xs.length-i/\i<=xs.length /\ ∃ L' M' as,Stp L1 H1 L' H'/\Cor K L' M' H'/\zE L' H' as ys/\as.length<=sizeLine/\EO fg tc fi2 own2 fg2 tc2 te (BW own Y) xs gd (xs.drop i) as M'=some (zs,Mf),
    ⟨xs.length,by simp,A8 _,L1,M1,[],.refl _ _,c1,.nil,A8 _,by simpa using e2⟩,?_⟩
   intro i m ys H' hI;refine qz λG=>?_;let⟨eI1,hi,L',M',as,s',c',r',hl,e'⟩:=hI;calc G ?_;clear G;subst eI1;by_cases hlt:i<xs.length
   .rw[GO hlt]at e';erw[EO]at e';cbv at e'
    .rename_i hgd;let⟨step,_⟩:=it L' H' M' s' c' hgd;let⟨go,yl⟩:=step i xs[i] (AL hlt);cbv at e'
     .rename_i σ1 eg;refine .inr ⟨go,λv H2 hy=>?_⟩;let⟨gr,rv⟩:=yl v H2 hy;let s2:Stp L1 H1 L' H2:=s'.yld gr;refine hg (GX own ((rs.stp s1).stp s2)) (.refl _) rv eg λτ2 r2 x2=>⟨x2,?_⟩;cbv at e'
      .rename_i M3 e3;cbv at e'
       .rename_i ys2 gd2 M4 e4;cbv at e'
        .rename_i hz2;cbv at e'
         .rename_i ds M5 e5;refine (mkT (c'.grow gr) r2 e3 (λL3 H3 s3 c3=>DU ?_));let st3:Stp L' H' L3 H3:=(Stp.grow gr).trans s3;refine (mkI c3 (r2.stp s3) e4 (λL4 H4 J2 s4 c4 it2=>?_))
          refine ⟨λj m2 ws H5=>m2=ys2.length-j/\j<=ys2.length /\ ∃ L5 M6 bs cs,Stp L4 H4 L5 H5/\Cor K L5 M6 H5/\zE L5 H5 (as++bs) ws/\bs.length<=j/\Am fg2 tc2 te (BW own2 σ1) ys2 gd2 (ys2.drop j) M6=some (cs,M5)/\bs++cs=ds,
           ⟨ys2.length,by simp,A8 _,L4,M4,[],ds,.refl _ _,c4,by simpa using (r'.stp st3).stp s4,AF _,by simpa using e5,rfl⟩,?_⟩
          intro j m2 ws H5 hI;refine qz λG=>?_;let⟨eI1,hj,L5,M6,bs,cs,s5,c5,r5,hbl,e6,hbc⟩:=hI;calc G ?_;clear G;subst eI1;let hws:ws.length<=as.length+j:=by rw[r5.length,Aw];omega
          by_cases hlt2:j<ys2.length
          .rw[GO hlt2]at e6;erw[Am]at e6;cbv at e6
           .rename_i hgd2;let⟨step2,_⟩:=it2 L5 H5 M6 s5 c5 hgd2;let⟨go2,yl2⟩:=step2 j ys2[j] (AL hlt2);cbv at e6
            .rename_i σ2 eg2;refine .inr ⟨go2,λv2 H6 hy2=>?_⟩;let⟨gr2,rv2⟩:=yl2 v2 H6 hy2;let s6:Stp L4 H4 L5 H6:=s5.yld gr2;refine hg2 (GX own2 (((r2.stp s3).stp s4).stp s6)) (.refl _) rv2 eg2 λτ3 r3 x3=>⟨x3,?_⟩;cbv at e6
             .rename_i M7 e7;cbv at e6
              .rename_i d M8 e8;cbv at e6
               .rename_i ds' M9 e9;ext e6;refine (mkT (c5.grow gr2) r3 e7 (λL7 H7 s7 c7=>DU ?_));refine (mkD c7 (r3.stp s7) e8 (λL8 H8 w s8 c8 r8=>?_));let st:Stp L5 H5 L8 H8:=((Stp.grow gr2).trans s7).trans s8;calc ⟨(),ys2.length-(j+1),(),rfl,hlt2,L8,M8,bs++[d],ds',s5.trans st,c8,?_,by simp;omega,e9,by rw[<-hbc];simp⟩;have:=(r5.stp st).app (.cons r8 .nil);simpa using this
               .cases e6
              .cases e6
             .rename_i M7 e7;refine (mkT (c5.grow gr2) r3 e7 (λL7 H7 s7 c7=>Dd ?_));let st:Stp L5 H5 L7 H7:=(Stp.grow gr2).trans s7;exact ⟨ys2.length-(j+1),(),rfl,hlt2,L7,M7,bs,cs,s5.trans st,c7,r5.stp st,(),e6,hbc⟩
             .cases e6
            .cases e6
           .cases e6
          .have hj':j=ys2.length:=()
           subst hj';rw[List.drop_length]at e6;erw[Am]at e6;cbv at e6
           .rename_i hgd2;ext e6;let⟨_,stop2⟩:=it2 L5 H5 _ s5 c5 hgd2;rw[CV]at hbc;subst hbc;refine .inl ⟨stop2,xs.length-(i+1),(),rfl,hlt,L5,M5,as++bs,s'.trans ((st3.trans s4).trans s5),c5,r5,by rw[Aw];omega,e'⟩
           .cases e6
         .cases e'
        .cases e'
       .cases e'
      .rename_i M3 e3;refine (mkT (c'.grow gr) r2 e3 (λL3 H3 s3 c3=>Dd ?_));let st:Stp L' H' L3 H3:=(Stp.grow gr).trans s3;exact ⟨xs.length-(i+1),(),rfl,hlt,L3,M3,as,s'.trans st,c3,r'.stp st,hl,e'⟩
      .cases e'
     .cases e'
    .cases e'
   .have hi':i=xs.length:=()
    subst hi';rw[List.drop_length]at e';erw[EO]at e';cbv at e'
    .rename_i hgd;ext e';let⟨_,stop⟩:=it L' H' _ s' c' hgd;refine .inl ⟨stop,by rw[r'.length];exact hl,λp hp=>?_⟩;exact q L' _ _ ((s1.trans s').trans (.upd hp)) (c'.upd hp) (zT.newLst (s1.trans s') c c' hp r')
    .cases e'
  .cases hf
 .cases hf
section
variable {X:Cx} {scope:Y0} {elt t1 i1 t2 i2:Expr} {f1 f2:Yi} {pos:Pos}
structure QParts2 (X:Cx) (scope:Y0) (t1:Expr) (f1:Yi) (t2 i2:Expr) (f2:Yi) (elt:Expr) (g:TG) (tc:FT) (fi2:FI) (g2:TG) (tc2:FT) (te:FE):Prop where
 g:∀ zB cl s H fp,PG (zG X zB scope cl s H fp) t1 g
 c:∀ zB cl s H fp,QIfs (zG X zB scope cl s H fp) f1 tc
 w2:∀ zB cl s H fp,QI (zG X zB scope cl s H fp) t2 i2 fi2
 g2:∀ zB cl s H fp,PG (zG X zB scope cl s H fp) t2 g2
 c2:∀ zB cl s H fp,QIfs (zG X zB scope cl s H fp) f2 tc2
 e:∀ zB cl s H fp,QE (zG X zB scope cl s H fp) elt te
 s2:∀ zB cl s H fp x,foldedSetIterable i2 (zG X zB scope cl s H fp).env x=pure x
def V2 {own own2:Yj} {fi fi2:FI} {g g2:TG} {fg fg2:FG} {tc tc2:FT} {te:FE} (hsub:∀ i∈own2,i∈own) (hg:CK own g fg) (hg2:CK own2 g2 fg2) (C:CompIn X scope own) (hcalm:X.calm=true) (hi:QI X t1 i1 fi) (p:QParts2 X scope t1 f1 t2 i2 f2 elt g tc fi2 g2 tc2 te) (hs:∀ x,foldedSetIterable i1 X.env x=pure x:=by intro _;rfl) :
  QE X (BE elt t1 i1 f1 t2 i2 f2 scope pos) (D5 own own2 fi fg tc fi2 fg2 tc2 te) :=
 .mk <| PE.imp (cD hsub C hcalm hi.un ⟨p.g,λzB cl s H fp=>(p.c zB cl s H fp).un,λzB cl s H fp=>(p.w2 zB cl s H fp).un,p.g2,λzB cl s H fp=>(p.c2 zB cl s H fp).un,λzB cl s H fp=>(CZ (p.e zB cl s H fp)).un,p.s2⟩ hs) λ_ _ _ h=>Qk hg hg2 h
end
open SeqAt
structure Df (K:Yb) (mg:Yh) (x:Str) (st:Stmt) (ps:Yk) where
 f:Addr
 fd:FuncData
 F:Fun K x x st f fd
 b:Fv K fd ps []
 m:mg x=some (.ref f)
structure Dg (K:Yb) (x:Str) (st:Stmt) where
 f:Addr
 {od an:Option Addr}
 {sl:Array (Option Value)}
 {oc kV dc pm cd ct:Yu}
 a:PySem.W.nsIn K mainGlobals x=some (some (.ref f))
 l:K.lookup f=some ⟨oc,od,.func (PySem.W.fnOf x x (HB st) (Et st) (zK st) .none kV dc pm an cd ct),sl⟩
 c:PySem.W.codeIn K cd x=true
 k:PySem.W.keepIn K (.ref f)=true
abbrev Dg.df {K:Yb} {x:Str} {st:Stmt} {ps:Yk} {h:Heap} {mg:Yh} (g:Dg K x st) (X:K.In h) (G:h.Ns mainGlobals mg)
  (hb:∀ (kV doc pm:Yu) (an:Option Addr) (cdv ct:Yu) (us:Yf),us.length=ps.length->bindArgs (PySem.W.fnOf x x (HB st) (Et st) (zK st) .none kV doc pm an cdv ct) ⟨us,[]⟩=pure (ps.zip us)):Df K mg x st ps :=
 ⟨g.f,_,NK g.l g.c g.k,(NK g.l g.c g.k).binds hb,PySem.W.mg_of X G g.a⟩
abbrev Od (P:Ym) (w:Yo) (base:Heap) (k:Nat) {K:Yb} {mg:Yh} {x:Str} {st:Stmt} {ps:Yk} (d:Df K mg x st ps) (m:FF):Prop:=FnOk P w K mg base CX0 k d.f d.fd ps (spF K ps.length m)
abbrev Zn (K:Yb) (x:Str):Prop:=PySem.W.nsIn K mainGlobals x=some none
abbrev Ki (K:Yb) (t T:String) (b:Bool):Prop:=PySem.W.kitOne K (.type t) (.type T)=some b
theorem qS {P:List Value->Prop} {n:Nat} (h:∀ a us,us.length=n->P (a::us)):∀ us:List Value,us.length=n+1->P us
 |a::us,e=>h a us (Nat.succ.inj e)
def Hr {P:List Value->Prop} (h:∀ a,P [a]):∀ us:List Value,us.length=1->P us:=qS λa us z=>List.length_eq_zero_iff.mp z▸h a
def Dl {P:List Value->Prop} (h:∀ a b,P [a,b]):∀ us:List Value,us.length=2->P us:=qS λa=>qS λb us z=>List.length_eq_zero_iff.mp z▸h a b
def Ff {P:List Value->Prop} (h:∀ a b c,P [a,b,c]):∀ us:List Value,us.length=3->P us:=qS λa=>qS λb=>qS λc us z=>List.length_eq_zero_iff.mp z▸h a b c
def YV {P:List Value->Prop} (h:∀ a b c d e,P [a,b,c,d,e]):∀ us:List Value,us.length=5->P us:=qS λa=>qS λb=>qS λc=>qS λd=>qS λe us z=>List.length_eq_zero_iff.mp z▸h a b c d e
section
variable {st:Stmt}
def UX {d:Df X.K X.mg x st ps} (F:FnOk X.prog X.w X.K X.mg X.base CX0 k d.f d.fd ps (spF X.K (e::es).length g)) (hr:Room k X.A) (hg:Gl X x)
  (ha:QA X (e::es) fa) (hl:∀ Y M ds M1,fa Y M=some (ds,M1)->ds.length=(e::es).length) (hdb:(x==("__debug__" : Str))=false) (he:starEach (e::es) X.env=(false,eval e X.env)::starEach es X.env) (hpl:(backTo pos (starEach es X.env)).any (·.1)=false) :
  QE X (.Call (.Name x p) (e::es) [] pos) (zX g fa):=RC F hr hg d.m d.F.kp d.b ha hl hdb he hpl
def Wk (hN:X.N.Nodup) (hi:X.N[i]?=some x) (h:QE X e f) (hx:Loc X.env.scope x:=by first|exact Or.inl rfl|exact Or.inr rfl) (hs:swapsWith e (some (.Name x pos')) pos.line X.env=pure false:=by rfl)
  (hf:X.fn x=true\/X.env.scope.names.lookup x=some .local:=by first|exact .inl rfl|exact .inr rfl|assumption):QS X (.Assign [.Name x pos'] e pos) (AN i f):=YE hN hi hx h hs hf
def W5 (hN:X.N.Nodup) (hi:X.N[i]?=some x) (hx:Loc X.env.scope x:=by first|exact Or.inl rfl|calc Or.inr rfl) (hf:X.fn x=true\/X.env.scope.names.lookup x=some .local:=by first|exact .inl rfl|exact .inr rfl|assumption):PG X (.Name x pos) (Cd i):=LX hN hi hx hf
end
def Rz (h:Ak d=some k):Rep L H d (kV k):=by
 cases d with
 |int i=>ext h;erw[Rep];rfl
 |str x=>ext h;erw[Rep];rfl
 |_=>ext h
theorem Nd:∀ {ds:List D} {ks:List Key},Dq ds=some ks->zE L H ds (ks.map kV)
 |[],ks,h=>by ext h;calc .nil
 |d::ds,ks,h=>by
  erw[Dq]at h;cases e1:Ak d with
  |none=>rw[e1]at h;ext h
  |some k=>
   cases e2:Dq ds with
   |none=>rw[e1,e2]at h;ext h
   |some ks'=>rw[e1,e2]at h;ext h;calc .cons (Rz e1) (Nd e2)
def d5 (h:tkD d=some k) (e:H b=some (.tup (k.map kV))):Rep L H d (.ref b):=by
 cases d with
 |tup ds=>erw[Rep];calc ⟨b,_,rfl,e,Nd h⟩
 |_=>ext h
def Jv (hd:(d==sysModules)=false) (hT:s.TypeIs (.ref d) "dict") (ho:s.heap.get? d=some o) (hdat:o.data=.dict es ep)
  (hQ:Q (.ref ⇑s) { s with heap:=s.heap.push { cls:=.type "dict_keyiterator", data:=.fields #[.ref d,.int 0 0,.int es.size 0,.int ep 0] } }):wpAny (model prog w) A (pyIter (.ref d)) Q E s:=by
 calc wpAny_pyIter_slot hT F.slot_dict_iter (Ap F.slot_dict_iter hT F.entry_dict_iter ?_ (F.args_dict_iter_1 _));unfold Builtin.«dict.__iter__»;calc AA ?_;erw[Builtin.Dict.dictSlotNone];calc AA (wpAny_notOrdered_dict hT ?_);calc AB ?_;show wpAny _ _ (Builtin.Dict.showsAll d >>= _) _ _ s;erw[Builtin.Dict.showsAll];rw[AE (by rw[hd];calc A4)];calc AA (AB (AA (wpAny_dictEntries ho hdat (AA (wpAny_dictEpoch ho hdat ?_)))));calc AA (Ao (AB ⟨_,rfl, "dict_keyiterator", _,⟨_,AK _ rfl,rfl⟩,F.slot_dict_keyiterator_next.lookup,?_⟩));simpa [rawInt] using hQ
def PD (hit:s.heap.IsKeyIter it d i es.size ep) (hod:s.heap.get? d=some o) (hdd:o.data=.dict es ep) (hx:es[i]?=some e)
  (hQ:∀ h',h'.IsKeyIter it d (i+1) es.size ep->Heap.SameBut it s.heap h'->Q (some e.key) { s with heap:=h' }):wpAny (model prog w) A (pyNext (.ref it)) Q E s:=by
 let⟨q,ho,hc,hd⟩:=id hit;let⟨hlt,hxe⟩:=Array.getElem?_eq_some_iff.mp hx;erw[pyNext];calc AA (CT (Bq hit.typeIs F.slot_dict_keyiterator_next (Ap F.slot_dict_keyiterator_next hit.typeIs F.entry_dict_keyiterator_next ?_ (F.args_dict_keyiterator_next_1 _))));calc AA (AB (AA (AA ?_)));first|refine AA (wpAny_typeNameOfWhole_keyiter hit.typeIs (AB ?_))|refine AA (wpAny_typeNameOf_keyiter hit.typeIs (AB ?_))
 calc AA (D4 ho hd ?_);simp only[show Builtin.Dict_items.ownsTuple "dict_keyiterator" = false by decide,Ac,Ah];show wpAny _ _ (if (Value.ref d==Value.none)=true then _ else _) _ _ s;rw[AE (show ¬ ((Value.ref d==Value.none)=true)from A4)];calc AA (AB (AA (wpAny_dictEntries hod hdd ?_)));rw[AE (by simp)];calc AA (AB (AA (wpAny_dictEpoch hod hdd ?_)));rw[AE (by simp)];calc AB ?_;simp only[show ¬ ((i:Int)<0)from by omega,Ah,Ef,BM hlt,hxe];calc AA ?_;first|refine AA (wpAny_typeNameOfWhole_keyiter hit.typeIs (AB ?_))|refine AA (wpAny_typeNameOf_keyiter hit.typeIs (AB ?_))
 refine AA (wpAny_isOneOf_keyiter hit.typeIs ?_);show wpAny _ _ (setField (.ref it) 1 (rawInt ((i:Int)+1)) >>= _) _ _ s;refine AA (CF ho hd (by simp) ?_);let hit':(s.heap.update it (Obj.mapFields (·.setIfInBounds 1 (rawInt ((i:Int)+1))))).IsKeyIter it d (i+1) es.size ep :=
  ⟨_,CA _ ho (Dy (Bp hd _)),(Obj.cls_mapFields ..).trans hc,by rw[Bp hd];simp[rawInt]⟩
 calc AA (A6 (AA (wpAny_isOneOf_keyiter hit'.typeIs ?_)));calc AB (AB ⟨_,rfl,AB (hQ _ hit' (Bd ..))⟩)
def Pg (hh:A.handled=none) (hit:s.heap.IsKeyIter it d i es.size ep) (hod:s.heap.get? d=some o) (hdd:o.data=.dict es ep) (hge:es.size<=i)
  (hQ:∀ h',Heap.ExtBut it s.heap h'->Q none { s with heap:=h' }):wpAny (model prog w) A (pyNext (.ref it)) Q E s:=by
 let⟨q,ho,hc,hd⟩:=id hit;erw[pyNext];calc AA (CT (Bq hit.typeIs F.slot_dict_keyiterator_next (Ap F.slot_dict_keyiterator_next hit.typeIs F.entry_dict_keyiterator_next ?_ (F.args_dict_keyiterator_next_1 _))));calc AA (AB (AA (AA ?_)));first|refine AA (wpAny_typeNameOfWhole_keyiter hit.typeIs (AB ?_))|refine AA (wpAny_typeNameOf_keyiter hit.typeIs (AB ?_))
 calc AA (D4 ho hd ?_);simp only[show Builtin.Dict_items.ownsTuple "dict_keyiterator" = false by decide,Ac,Ah];show wpAny _ _ (if (Value.ref d==Value.none)=true then _ else _) _ _ s;rw[AE (show ¬ ((Value.ref d==Value.none)=true)from A4)];calc AA (AB (AA (wpAny_dictEntries hod hdd ?_)));rw[AE (by simp)];calc AA (AB (AA (wpAny_dictEpoch hod hdd ?_)));rw[AE (by simp)];calc AB ?_;simp only[show ¬ ((i:Int)<0)from by omega,Ah,Ef,Fx hge];calc AA ?_;first|refine AA (wpAny_typeNameOfWhole_keyiter hit.typeIs (AB ?_))|refine AA (wpAny_typeNameOf_keyiter hit.typeIs (AB ?_))
 show wpAny _ _ (setField (.ref it) 0 .none >>= _) _ _ s;calc AA (CF ho hd (by simp) ?_);calc AA ?_;simp only[newExc,newTuple];calc AA (Ao ?_ (by size_fits));calc AA (wpAny_of_eq (by first|rfl|(simp only[firstArgMember];rfl)) ?_);calc Ao ?_ (by size_fits);simp only[raiseNew];calc AA (wpAny_handled ?_);rw[show A.in1.handled=none from hh];calc AA (AB (wpAny_throw ?_));calc AA (Eu ⟨_,AK _ rfl,rfl⟩ isSubtype_stop ?_);calc AB (hQ _ (((Bd ..).extBut.push _).push _))
def gO (lo:(d==sysModules)=false) (hc:o.cls=.type "dict") (hdd:o.data=.dict es ep):PySem.W.KdlSrc prog w "dict" d d es.size (λi v=>∃ e,es[i]?=some e/\v=e.key) (λh=>h.get? d=some o) where
 type:=λ_ h=>⟨o,h,hc⟩;there:=λ_ h=>⟨AG h,AG h⟩;keep:=λ_ _ h k=>k d (.inl rfl) o h;notList:=()
 notTuple:=()
 hint:=λ_ _ _ _ h hq=>PySem.W.kdl_hint_dict ⟨o,h,hc⟩ hq
 iter:=λA s hh h=>⟨_,λi h'=>h'.IsKeyIter ⇑s d i es.size ep/\h'.get? d=some o,(λ_ _ hq=>Jv lo ⟨o,h,hc⟩ h hdd hq),⟨λb hb=>by simp at hb;simp[hb],
  λ_ _ _ st hk=>⟨st.1.at λo e=>hk _ (by simp) o e,hk d (by simp) o st.2⟩,
  λi s2 Q E hi st hQ=>PD (e:=es[i]) st.1 st.2 hdd (by simp[hi]) λh' hit' hs'=>hQ _ h' s2.toks ⟨es[i],by simp[hi],rfl⟩ ⟨hit',hs'.extBut _ _ (AU (AG h)) st.2⟩ λb q hb e=>hs'.extBut b q (λz=>hb (by simp[z])) e,
  λs2 Q E st hQ=>Pg hh st.1 st.2 hdd (AF _) λh' he'=>hQ h' s2.toks λb q hb e=>he' b q (λz=>hb (by simp[z])) e,
  λ_ _ _ _ st hQ=>wpAny_pyIter_keyiter st.1 hQ⟩,⟨⟨_,AK _ rfl,rfl,rfl⟩,AH _ h⟩⟩
theorem Q2:∀ {ys:List V} {us:Yf},ys.length=us.length->(∀ (i:Nat) y u,ys[i]?=some y->us[i]?=some u->zc y u)->zU ys us
 |[],[],_,_=> .nil
 |[],_::_,h,_=>by ext h
 |_::_,[],h,_=>by ext h
 |y::ys,u::us,h,q=> .cons (q 0 y u rfl rfl) (Q2 (Nat.succ.inj h) λi y' u' e1 e2=>q (i+1) y' u' (~~~e1) (~~~e2))
end L3
namespace ST
section
variable {prog:Ym} {w:Yo} {A:Yn} {E:Yc} {s:Yl} {κ:SortKind} {vs:Yf} {r:Yr}
def EE (prog:Ym) (w:Yo) (s:Yl) (κ:SortKind) (vs:Yf) (r:Yr):Prop :=
 ∀ (A:Yn) (E:Yc) (x y:Yu) (Q:Bool->Shared->Prop),x∈vs->y∈vs->Q (decide (r x<r y)) s->wpAny (model prog w) A (keyLt' κ x y) Q E s
def SM (R:EE prog w s κ vs r) {st:SortSt} {x y:Keyed} {Q:Option Bool->SortSt->Prop} (hk:kindOf st=κ) (hx:x.1∈vs) (hy:y.1∈vs) (h:Q (some (decide (r x.1<r y.1))) st) :
  wpS (model prog w) A E s (lt' x y) Q st:=by
 rw[lt'_eq];calc wpS_bind (wpS_get ?_);rw[hk];calc wpS_bind (wpS_lift (CT (R _ _ _ _ _ hx hy ⟨rfl,wpS_pure h⟩)))
def UI (R:EE prog w s κ vs r) {st:SortSt} {i j:Nat} {x y:Keyed} {Q:Option Bool->SortSt->Prop} (hk:kindOf st=κ) (ei:(arrOf st)[i]?=some x) (ej:(arrOf st)[j]?=some y) (hx:x.1∈vs) (hy:y.1∈vs)
  (h:Q (some (decide (r x.1<r y.1))) st):wpS (model prog w) A E s (ltAt' i j) Q st:=by
 rw[ltAt'_eq];calc wpS_bind (wpS_get ?_);show wpS _ _ _ _ (elem' (arrOf st) i >>= λx=>elem' (arrOf st) j >>= λy=>lt' x y) Q st;rw[elem'_eq,elem'_eq,ei,ej];calc wpS_bind (wpS_pure (wpS_bind (wpS_pure (SM R hk hx hy h))))
def BX (h:Heap) (v:Value) (xs:List Int):Prop:=∃ b o us n,v=.ref b/\h.get? b=some o/\o.cls=.type "tuple" /\ o.data=.seq us n/\IntsAre us.toList xs
def BX.keep (t:BX h v xs) (k:∀ b o,v=.ref b->h.get? b=some o->h'.get? b=some o):BX h' v xs:=by
 let⟨b,o,us,n,rfl,h1,h2,h3,h4⟩:=t;calc ⟨b,o,us,n,rfl,k b o rfl h1,h2,h3,h4⟩
def AZ:List Int->List Int->Bool
 |[],[]=>false
 |[],_::_=>true
 |_::_,[]=>false
 |x::xs,y::ys=>if x=y then AZ xs ys else decide (x<y)
def R7 (h:Q (decide (a<b)) s):wpAny (model prog w) A (oneLt' false (.int a t) (.int b u)) Q E s:=by
 rw[oneLt'_eq];simp only[Ac,Ah];refine AA (richCompare_gives (typeIs_int s a t) (typeIs_int s b u) F.slot_int_lt F.entry_int_lt (F.args_int_lt_2 _ _) (gives_int_lt a b t u) (λx=>nomatch x) ?_);calc ED h
def ZN (h:Q (decide (a<b)) s):wpAny (model prog w) A (oneLt' c (.int a t) (.int b u)) Q E s:=by
 ext c
 .exact R7 h
 .exact oneLt_int h
def Uo (hx:BX s.heap x xs) (hy:BX s.heap y ys) (h:Q (AZ xs ys) s):wpAny (model prog w) A (keyLt' (tuples' c) x y) Q E s:=by
 let⟨a,o1,us,n1,rfl,h1,h2,h3,h4⟩:=hx;let⟨b,o2,ws,n2,rfl,g1,g2,g3,g4⟩:=hy;calc AA (listItems_at h1 h3 (AA (listItems_at g1 g3 ?_)));refine AA (wpAny_forIn_list _ (λrest c s'=>c=(none,Unit.unit)/\s'=s /\ ∃ us' ws' xs' ys' k,rest=(us'.zip ws').zipIdx k/\IntsAre us' xs'/\IntsAre ws' ys'/\AZ xs ys=AZ xs' ys'/\us.size+ws'.length=ws.size+us'.length) (λc s'=>s'=s/\Q (match c.1 with|some b=>b|none=>decide (us.size<ws.size)) s) ?turn ?fin _ _ ⟨rfl,rfl,_,_,_,_,0,rfl,h4,g4,rfl,by simp;omega⟩ |> λz=>AS z ?post λ_ _ e=>e)
 case turn=>
  rintro ⟨⟨p,q⟩,i⟩ rest c s' ⟨rfl,rfl,us',ws',xs',ys',k,e,i1,i2,e2,e3⟩;cases i1 with
  |nil=>simp at e
  | @cons n t us1 xs1 i1=>
   cases i2 with
   |nil=>simp at e
   | @cons m u ws1 ys1 i2=>
    simp only[List.zip_cons_cons,List.zipIdx_cons]at e;injection e with ea eb
    ext ea;calc AA (wpAny_eqBool_int ?_);rw[show AZ (n::xs1) (m::ys1)=if n=m then AZ xs1 ys1 else decide (n<m)from rfl]at e2;by_cases hnm:n=m
    .subst hnm;simp only[beq_self_eq_true,B2,Ac,Ah];rw[AD rfl]at e2;simp only[Ci]at e3;exact AB ⟨rfl,rfl,_,_,_,_,_,eb,i1,i2,e2,()⟩
    .rw[AE hnm]at e2;have:(n==m)=false:=by simpa using hnm
     rw[this];simp only[Bool.not_false,BC];calc AA ?_;calc ZN (AB ⟨rfl,?_⟩);rw[<-e2];exact h
 case fin=>
  rintro c s' ⟨rfl,rfl,us',ws',xs',ys',k,e,i1,i2,e2,e3⟩;refine ⟨rfl,?_⟩;let key:AZ xs ys=decide (us.size<ws.size):=by
   rw[e2];cases i1 with
   |nil=>
    cases i2 with
    |nil=>simp at e3;simp[AZ,e3]
    |cons m u i2=>simp at e3;simp[AZ];omega
   |cons n t i1=>
    cases i2 with
    |nil=>simp at e3;simp[AZ];omega
    |cons m u i2=>simp at e
  rw[<-key];exact h
 case post=>
  rintro ⟨c1,c2⟩ s' ⟨rfl,q⟩;cases c1 with
  |some b=>calc AB q
  |none=>calc AB q
theorem Nf:∀ ds:List (Int × Tok),IntsAre (ds.map λp=> .int p.1 p.2) (ds.map (·.1))
 |[]=> .nil
 |p::ds=> .cons p.1 p.2 (Nf ds)
def We (hv:BX s.heap v (x::xs)) (h:∀ t,Q (some (.int x t)) s):wpAny (model prog w) A (firstOfTuple' v) Q E s:=by
 let⟨a,o1,us,n1,rfl,h1,h2,h3,h4⟩:=hv;calc AA (C8 ⟨o1,h1,h2⟩ ?_);rw[AE ()];calc AA (listItems_at h1 h3 (AB ?_));let⟨us⟩:=us;cases h4 with
 |cons n t i=>calc h t
theorem My:∀ {vs:Yf} {Q:List (Option Value)->Shared->Prop},(∀ v∈vs,∃ x xs,BX s.heap v (x::xs))->(∀ ds:List (Int × Tok),ds.length=vs.length->Q (ds.map λp=>some (.int p.1 p.2)) s)->wpAny (model prog w) A (vs.mapM firstOfTuple') Q E s
 |[],Q,_,q=>by rw[List.mapM_nil];calc AB (q [] rfl)
 |v::vs,Q,h,q=>by
  rw[List.mapM_cons];let⟨x,xs,hv⟩:=h v (AM ..);refine AA (We hv λt=>AA (My (λu hu=>h u (AQ _ hu)) λds hl=>AB ?_));calc q ((x,t)::ds) (by simp[hl])
def UD (h:∀ u∈v::vs,∃ x xs,BX s.heap u (x::xs)) (q:Q (tuples' true) s):wpAny (model prog w) A (keyKind' (v::vs).toArray) Q E s:=by
 rw[keyKind'_eq,List.mapM_toArray];refine AA ?_;rw[map_eq_pure_bind];refine AA (My h λds hl=>AB ?_);rw[AD (by simp)];refine AA (Bo ?_);let e:Array.filterMap id (List.map (λp=>some (Value.int p.1 p.2)) ds).toArray=(ds.map λp=>Value.int p.1 p.2).toArray:=by
  rw[List.filterMap_toArray,List.filterMap_map];exact BI List.toArray (List.filterMap_eq_map'▸rfl)
 rw[e,oneTypeOnly'_eq,List.mapM_toArray,mapM_typeOf_ints (Nf ds)];cases ds with
 |nil=>ext hl
 |cons d ds=>
  let hall:((List.map (λ_=>Value.type "int") (List.map (λp:Int × Tok=>Value.int p.1 p.2) (d::ds))).toArray.all λx=>x==Value.type "int")=true:=by
   simp only[List.all_toArray,List.all_map,An];intro _ _;rfl
  let h0:(List.map (λ_=>Value.type "int") (List.map (λp:Int × Tok=>Value.int p.1 p.2) (d::ds))).toArray[0]?=some (Value.type "int"):=by simp
  simp only[map_pure,Bb];rw[h0];simp only[hall,BC,Bb];calc AB q
end
theorem J7:∀ x:List Int,AZ x x=false
 |[]=>rfl
 |a::x=>by rw[show AZ (a::x) (a::x)=if a=a then AZ x x else decide (a<a)from rfl,AD rfl];calc J7 x
def QV (a b:Int) (x y:Ye):AZ (a::x) (b::y)=if a=b then AZ x y else decide (a<b):=rfl
theorem Iz:∀ {x y:Ye},AZ x y=false->AZ y x=false->x=y
 |[],[],_,_=>rfl
 |[],_::_,h,_=>by ext h
 |_::_,[],_,h=>by ext h
 |a::x,b::y,h1,h2=>by
  rw[QV]at h1 h2;by_cases e:a=b
  .subst e;rw[AD rfl]at h1 h2;rw[Iz h1 h2]
  .rw[AE e]at h1;rw[AE (Ne.symm e)]at h2;have:=of_decide_eq_false h1;have:=of_decide_eq_false h2;omega
theorem Ia:∀ {x y z:Ye},AZ x y=true->AZ y z=true->AZ x z=true
 |[],[],_,h,_=>by ext h
 |_::_,[],_,h,_=>by ext h
 |_,_::_,[],_,h=>by ext h
 |[],_::_,_::_,_,_=>rfl
 |a::x,b::y,c::z,h1,h2=>by
  rw[QV]at h1 h2 ⊢;by_cases e:a=b
  .subst e;rw[AD rfl]at h1;by_cases e2:a=c
   .rw[AD e2]at h2 ⊢;exact Ia h1 h2
   .rw[AE e2]at h2 ⊢;exact h2
  .rw[AE e]at h1;let l1:=C2 h1;by_cases e2:b=c
   .subst e2;rw[AE e];exact h1
   .rw[AE e2]at h2;let l2:=C2 h2;rw[AE ()];calc BG ()
def rkI (ks:Ya) (k:Ye):Nat:=ks.countP λa=>AZ a k
theorem NN {α:Type} {p q:α->Bool}:∀ {l:List α} {x:α},x∈l->p x=false->q x=true->(∀ y,p y=true->q y=true)->l.countP p<l.countP q
 |[],_,h,_,_,_=>by ext h
 |y::l,x,h,h1,h2,h3=>by
  let hm:l.countP p<=l.countP q:=List.countP_mono_left λz _ hz=>h3 z hz;rw[List.countP_cons,List.countP_cons];rcases AJ.mp h with rfl|h
  .rw[h1,h2];simp;omega
  .have:=NN h h1 h2 h3;cases hp:p y with
   |true=>rw[h3 y hp];simp;omega
   |false=>cases q y <;> simp <;> omega
def Qr {ks:Ya} {x y:Ye} (hx:x∈ks) (hy:y∈ks):AZ x y=decide (rkI ks x<rkI ks y):=by
 let go:∀ {x y:Ye},x∈ks->AZ x y=true->rkI ks x<rkI ks y:=λ{x y} hx h=>
  NN hx (J7 x) h λz hz=>Ia hz h
 cases e:AZ x y with
 |true=>calc (BG (go hx e)).symm
 |false=>
  cases e2:AZ y x with
  |true=>have:=go hy e2;calc (BB ()).symm
  |false=>rw[Iz e e2];calc (BB ()).symm
section
variable {prog:Ym} {w:Yo} {A:Yn} {E:Yc} {s:Yl} {κ:SortKind} {vs:Yf}
def BX.uniq (a:BX h v xs) (b:BX h v ys):xs=ys:=by
 let⟨b1,o1,us,n1,rfl,h1,h2,h3,h4⟩:=a;let⟨b2,o2,ws,n2,e,g1,g2,g3,g4⟩:=b;ext e;rw[h1]at g1;ext g1;rw[h3]at g3;ext g3;rw[<-h4.nums,<-g4.nums]
open Classical in
def CL (h:Heap) (v:Yu):List Int:=if z:∃ xs,BX h v xs then z.choose else []
def Ew (t:BX h v xs):CL h v=xs:=by
 erw[CL];rw[dif_pos ⟨xs,t⟩];calc BX.uniq (Classical.choose_spec (⟨xs,t⟩:∃ xs,BX h v xs)) t
def LQ (h:Heap) (vs:Yf):Prop:=∀ v∈vs,∃ x xs,BX h v (x::xs)
def rkV (h:Heap) (vs:Yf) (v:Yu):Nat:=rkI (vs.map (CL h)) (CL h v)
def Xi (h:LQ s.heap vs):EE prog w s (tuples' true) vs (rkV s.heap vs):=by
 intro A E x y Q hx hy q;let⟨a,as,ha⟩:=h x hx;let⟨b,bs,hb⟩:=h y hy;calc Uo ha hb ?_;rw[<-Ew ha,<-Ew hb,Qr (List.mem_map_of_mem hx) (List.mem_map_of_mem hy)];calc q
def gE {F:Array Value->Prop} {a:Addr} {n:Nat} {P:Fin->Shared->Prop} (ho:s.heap.get? a=some (seqObj "list" vs.toArray n)) (hz:vs.length<=sizeLine)
  (hF:∀ out,F out->out.size=vs.length) (hs:vs.length<2->F vs.toArray)
  (hr:2<=vs.length -> ∀ h6:Heap,(∀ b o,b≠a->s.heap.get? b=some o->h6.get? b=some o)->(∀ (A:Yn) (E:Yc) (Q:SortKind->Shared->Prop),Q κ { s with heap:=h6 }->wpAny (model prog w) A (keyKind' vs.toArray) Q E { s with heap:=h6 }) /\
   ∀ (A:Yn) (E:Yc),wpS (model prog w) A E { s with heap:=h6 } sortRuns' (λ_ st=>failedOf st=none/\F ((arrOf st).map (·.2))) (SortSt.mk' κ (pairsOf vs) #[] 7 none))
  (h:∀ out,F out->P (.done (.ret .none)) { s with heap:=sortedHeap s.heap a vs out }):wpAny (model prog w) A (Builtin.«list.sort» ⟨[.ref a],[]⟩) P E s:=by
 let ha:a<⇑s:=AG ho;rw[list_sort_plain];refine AA (listItems_at ho rfl (AA (listUpdate_at ho rfl ?_)));obtain ⟨e1,o1⟩:∃ e,(s.heap.update a (Obj.mapSeq λ_=> #[])).get? a=some (seqObj "list" #[] e):=⟨_,get?_update_seq ho λ_=> #[]⟩;refine AA (seqEpoch_at o1 rfl (AA (wpAny_newTuple ?_ (~~~hz))));refine AA (wpAny_newList (A6 ?_));generalize hH:((s.heap.update a (Obj.mapSeq λ_=> #[])).push (seqObj "tuple" vs.toArray 0)).push (seqObj "list" #[] 0)=h6;let k6:∀ b o,b≠a->s.heap.get? b=some o->h6.get? b=some o:=λb o hb e=>by
  rw[<-hH];exact AH _ (AH _ ((DK _ _ (Ne.symm hb)).trans e))
 let o6:h6.get? a=some (seqObj "list" #[] e1):=by rw[<-hH];exact AH _ (AH _ o1)
 let fin:∀ st:SortSt,failedOf st=none->F ((arrOf st).map (·.2))->wpAny (model prog w) A (do
   let t:=(<- seqEpoch a) != e1;Builtin.List.listUpdate (.ref a) λ_=>(arrOf st).map (·.2);if let some e:=failedOf st then rule "list.sort.comparison-raised"; throw e
   if t then rule "list.sort.modified"; raiseError "ValueError" "list modified during sort"
   ret .none) P E { s with heap:=h6 }:=by
  intro st h1 h2;calc AA (seqEpoch_at o6 rfl (AA (listUpdate_at o6 rfl ?_ (hsz2:=by show (Array.map _ _).size<=_;rw[hF _ h2];omega))));rw[h1];simp only[DV,Ac,Ah];calc AB ?_;have:=h _ h2;erw[sortedHeap]at this;rw[hH]at this;exact this
 dsimp only;by_cases h2:vs.toArray.size<2
 .rw[AD h2,AD h2];refine AA (AB ?_);rw[StateT.run_pure];refine AA (AB ?_);refine fin (SortSt.mk' general' (vs.toArray.zip vs.toArray) #[] 7 none) rfl ?_;let e:((vs.toArray.zip vs.toArray).map (·.2))=vs.toArray:=by
   apply Array.toList_inj.mp;rw[Array.toList_map,Array.toList_zip,List.map_snd_zip (AF _)]
  rw[e];exact hs (~~~h2)
 .rw[AE h2,AE h2];let⟨g1,g2⟩:=hr (by simp at h2;omega) h6 k6;calc AA (g1 _ _ _ ?_);refine AA (AS (g2 _ _) ?_ λ_ _ e=>e);rintro ⟨⟨⟩,st⟩ s' ⟨rfl,h3,h4⟩;calc fin st h3 h4
def fI (K:PySem.W.KdlSrc prog w T r d n P OK) (hh:A.handled=none) (hok:OK s.heap) (hSr:S≠r) (hSd:S≠d) (hS:s.heap.get? S=some { cls:=.type "list", data:=.seq #[] })
  (hR:∀ h' tk acc c',(∀ b u,b≠S->s.heap.get? b=some u->h'.get? b=some u)->h'.get? S=some { cls:=.type "list", dict:=none,data:=.seq acc c',slots:=#[] }->ItemsOf P acc n->R (.ok (.ret (.ref S))) { s with heap:=h',toks:=tk }) (hn:n<=sizeLine):codeAny (model prog w) A (.builtin "list.__iadd__" ⟨[.ref S,.ref r],[]⟩) R s:=by
 calc CG F.entry_list_iadd ?_;rw[Cs F.plain_list_iadd _];calc PySem.W.kdl_extend K hh hok S hSr hSd (.ref S) 0 hS hR hn
def bP (K:PySem.W.KdlSrc prog w T r d n P OK) (hh:A.handled=none) (hok:OK s.heap) (hn:n<=sizeLine)
  (hQ:∀ h' tk acc,(∀ b u,s.heap.get? b=some u->h'.get? b=some u)->⇑s<=h'.objs.size->ItemsOf P acc n->Q acc.toList { s with heap:=h',toks:=tk }):wpAny (model prog w) A (collect (.ref r)) Q E s:=by
 erw[collect];calc AA (wpAny_runValue (CG F.entry_proto_collect ?_));rw[Cs F.plain_proto_collect _];let hlt:=K.there _ hok;refine AA (Ao (AB ⟨Ds F.plain_list_iadd _,fI K hh (K.keep _ _ hok λb _ o e=>AH _ e) (B9 hlt.1) (B9 hlt.2) (AK _ rfl) (λh' tk acc c' hk hS' hacc=>?_) hn⟩));calc AA (wpAny_load hS' (AB (hQ h' tk acc (λb u e=>hk b u (AU (AG e)) (AH _ e)) (De (AG hS')) hacc)))
end
end ST
namespace L3
open L2 ST
def kkI (xs:Ye):List Key:=xs.map .inl
def Qa:D->Option (List Int)
 |.tup ds=>zk ds
 |_=>none
def Dz:List D->Option (List (List Int))
 |[]=>some []
 |d::r=>match Qa d,Dz r with
  |some x,some xs=>some (x::xs)
  |_,_=>none
theorem OB:∀ {ds:List D} {xs:Ye},zk ds=some xs->Dq ds=some (kkI xs)
 |[],_,h=>by ext h;rfl
 |.int i::r,xs,h=>by
  erw[zk]at h;cbv at h
  .rename_i bs e;ext h;erw[Dq];rw[OB e];rfl
  .cases h
 |.non::_,_,h=>by ext h
 |.bl _::_,_,h=>by ext h
 |.str _::_,_,h=>by ext h
 |.tup _::_,_,h=>by ext h
 |.ref _::_,_,h=>by ext h
 |.fn _ _::_,_,h=>by ext h
theorem Po:∀ {xs:Ye} {its:Yf},zU ((kkI xs).map kV) its->IntsAre its xs
 |[],_,h=>by ext h;calc .nil
 |x::xs,_,h=>by
  cases h with
  |cons r1 r2=>let⟨t,rfl⟩:=r1;calc .cons _ _ (Po r2)
section
variable {X:Cx}
def eQ (o:zy P w H h b (.tup ((kkI xs).map kV))):BX h (.ref b) xs:=by
 let⟨_,its,r,o,e,c,⟨n,d⟩,_⟩:=o;calc ⟨b,o,its.toArray,n,rfl,e,c,d,by simpa using Po r⟩
end
end L3
namespace ST
section
variable {prog:Ym} {w:Yo} {A:Yn} {E:Yc} {s:Yl} {κ:SortKind} {vs:Yf} {r:Yr} {a b:Array Keyed}
def Oh {a:Array Keyed} {i:Nat} {x:Keyed} (e:a[i]?=some x):x∈a.toList:=by
 let⟨hi,rfl⟩:=Array.getElem?_eq_some_iff.mp e;simp
def EB {α:Type} {c:Prop} [Decidable c] {m1 m2:StateT SortSt Sem α} {Q:α->SortSt->Prop} {st:SortSt} (h1:c->wpS (model prog w) A E s m1 Q st) (h2:¬ c->wpS (model prog w) A E s m2 Q st):wpS (model prog w) A E s (if c then m1 else m2) Q st:=by
 split
 .exact h1 (by assumption)
 .exact h2 (by assumption)
def OI (h:i<a.size):a[i]?=some a[i]:=BM h
def gU {α β:Type} {x:StateT SortSt Sem α} {f:α->StateT SortSt Sem β} {Q:β->SortSt->Prop} {st:SortSt} {S:(α->SortSt->Prop)->Prop} (h:∀ P,S P->wpS (model prog w) A E s x P st) (g:S λv st=>wpS (model prog w) A E s (f v) Q st):wpS (model prog w) A E s (x >>= f) Q st:=wpS_bind (h _ g)
end
def KR (r:Yr) (xs:Array Keyed) (i:Nat):Nat:=match xs[i]? with
 |some p=>r p.1
 |none=>0
def RUp (r:Yr) (xs:Array Keyed) (lo hi:Nat):Prop:=∀ i j,lo<=i->i<=j->j<hi->KR r xs i<=KR r xs j
def RDn (r:Yr) (xs:Array Keyed) (lo hi:Nat):Prop:=∀ i j,lo<=i->i<=j->j<hi->KR r xs j<=KR r xs i
section
variable {prog:Ym} {w:Yo} {A:Yn} {E:Yc} {s:Yl} {κ:SortKind} {vs:Yf} {r:Yr}
def II {xs ys:Array Keyed} {i j:Nat} (h:xs[i]?=ys[j]?):KR r xs i=KR r ys j:=by erw[KR];rw[h]
def MG {xs:Array Keyed} {i j:Nat} (hj:j<=xs.size) (k:Nat):KR r (mirror xs i j ((j-i) / 2)) k=if i<=k/\k<j then KR r xs (i+j-1-k) else KR r xs k:=by
 let e:=getElem?_mirror_all (i:=i) hj k;cbv at e
 .rw[AD (by assumption)];exact II e
 .rw[AE (by assumption)];calc II e
def Nj {xs:Array Keyed} {src d:Nat} (hs:src<xs.size) (hd:d<=src) (k:Nat):KR r (bubble xs src d) k=if k=src-d then KR r xs src else if src-d<k/\k<=src then KR r xs (k-1) else KR r xs k:=by
 let e:=getElem?_bubble hs d hd k;cbv at e
 .rw[AD (by assumption)];exact II e
 .rw[AE (by assumption)];cbv at e
  .rw[AD (by assumption)];exact II e
  .rw[AE (by assumption)];calc II e
def Hz {xs:Array Keyed} {i j:Nat} (hj:j<=xs.size) (he:∀ k,i<=k->k<j->KR r xs k=KR r xs (j-1)) (k:Nat):KR r (mirror xs i j ((j-i) / 2)) k=KR r xs k:=by
 rw[MG hj];split
 .rw[he _ () (),he k () ()]
 .rfl
structure CB (lo:Nat) (st0 st:SortSt):Prop where
 k:kindOf st=kindOf st0
 p:pendingOf st=pendingOf st0
 f:failedOf st=failedOf st0
 perm:(arrOf st).Perm (arrOf st0)
 pre:∀ j,j<lo->(arrOf st)[j]?=(arrOf st0)[j]?
def CB.refl (lo:Nat) (st:SortSt):CB lo st st:=⟨rfl,rfl,rfl,.refl _,λ_ _=>rfl⟩
def CB.size {lo:Nat} {st0 st:SortSt} (h:CB lo st0 st):(arrOf st).size=(arrOf st0).size:=h.perm.size_eq
def CB.mir {lo i j:Nat} {st0 st:SortSt} (h:CB lo st0 st) (hi:lo<=i) (hj:j<=(arrOf st0).size):CB lo st0 (setArr st (mirror (arrOf st) i j ((j-i) / 2))) :=
 ⟨h.k,h.p,h.f,(mirror_perm _ _ _ _).trans h.perm,λk hk=>by
  show (mirror (arrOf st) i j ((j-i) / 2))[k]?=_;rw[getElem?_mirror_all (by rw[h.size];calc hj),AE ()];calc h.pre k hk⟩
def CB.bub {lo src d:Nat} {st0 st:SortSt} (h:CB lo st0 st) (hs:src<(arrOf st0).size) (hd:d<=src) (hl:lo<=src-d):CB lo st0 (setArr st (bubble (arrOf st) src d)) :=
 ⟨h.k,h.p,h.f,(bubble_perm _ _ _).trans h.perm,λk hk=>by
  show (bubble (arrOf st) src d)[k]?=_;rw[getElem?_bubble (by rw[h.size];calc hs) d hd,AE (),AE ()];calc h.pre k hk⟩
variable {st0 st:SortSt} {lo nrem n:Nat}
def IS (R:EE prog w s κ vs r) (hk:kindOf st0=κ) (hv:∀ x∈(arrOf st0).toList,x.1∈vs) (c:CB lo st0 st) {i j:Nat} (hi:i<(arrOf st0).size) (hj:j<(arrOf st0).size) {Q:Option Bool->SortSt->Prop} (h:Q (some (decide (KR r (arrOf st) i<KR r (arrOf st) j))) st) :
  wpS (model prog w) A E s (ltAt' i j) Q st:=by
 let ei:(arrOf st)[i]?=some ((arrOf st)[i]'(by rw[c.size];calc hi)):=OI _;let ej:(arrOf st)[j]?=some ((arrOf st)[j]'(by rw[c.size];calc hj)):=OI _;let pm:=Array.perm_iff_toList_perm.mp c.perm;calc UI R (c.k.trans hk) ei ej (hv _ (pm.mem_iff.mp (Oh ei))) (hv _ (pm.mem_iff.mp (Oh ej))) ?_;erw[KR]at h;rw[ei,ej]at h;calc h
def PY (lo a nrem:Nat):StateT SortSt Sem (Option (Option Nat) × Nat):=forIn [a:nrem] ((none,a):Option (Option Nat) × Nat) λ_ c=>do
 let x <- ltAt' (lo+c.2) (lo+c.2-1)
 match x with
 |some smaller=>if smaller=true then pure (ForInStep.done (none,c.2)) else pure (ForInStep.yield (none,c.2+1))
 |_=>pure (ForInStep.done (some none,c.2))
def PK (R:EE prog w s κ vs r) (hk:kindOf st0=κ) (hv:∀ x∈(arrOf st0).toList,x.1∈vs) (c:CB lo st0 st) (hz:lo+nrem<=(arrOf st0).size) (h1:1<=n) (h2:n<=nrem) (hu:RUp r (arrOf st) lo (lo+n)) {Q:Option (Option Nat) × Nat->SortSt->Prop}
  (h:∀ m,n<=m->m<=nrem->RUp r (arrOf st) lo (lo+m)->(m=nrem\/KR r (arrOf st) (lo+m)<KR r (arrOf st) (lo+m-1))->Q (none,m) st):wpS (model prog w) A E s (PY lo n nrem) Q st:=by
 erw[PY];refine wpS_forRange (I:=λx c st'=>st'=st/\c=(none,x)/\RUp r (arrOf st) lo (lo+x)) ?step ?fin ⟨rfl,rfl,hu⟩
 case fin=>
  intro c' st' hI;refine qz λG=>?_;let⟨eI1,eI2,hs⟩:=hI;calc G ?_;clear G;subst eI1 eI2;rw[show max n nrem=nrem by omega]at hs ⊢;exact h nrem h2 (AF _) hs (.inl rfl)
 case step=>
  intro x c' st' hax hxn hI;refine qz λG=>?_;let⟨eI1,eI2,hs⟩:=hI;calc G ?_;clear G;subst eI1 eI2;calc wpS_bind (IS R hk hv c () () ?_);dsimp only;by_cases hl:KR r (arrOf st') (lo+x)<KR r (arrOf st') (lo+x-1)
  .rw[BG hl,AD rfl];exact wpS_pure (h x hax () hs (.inr hl))
  .rw[BB hl,AE ()];refine wpS_pure ⟨rfl,rfl,λi j h3 h4 h5=>?_⟩;by_cases hj:j<lo+x
   .exact hs i j h3 h4 hj
   .have hj':j=lo+x:=()
    by_cases hij:i=j
    .rw[hij];exact AF _
    .have:=hs i (lo+x-1) h3 () ();rw[hj'];omega
def R9 (R:EE prog w s κ vs r) (hk:kindOf st0=κ) (hv:∀ x∈(arrOf st0).toList,x.1∈vs) (hz:lo+nrem<=(arrOf st0).size) (h1:1<=nrem) {Q:Option Nat->SortSt->Prop}
  (h:∀ m st,CB lo st0 st->1<=m->m<=nrem->RUp r (arrOf st) lo (lo+m)->Q (some m) st):wpS (model prog w) A E s (countRun' lo nrem) Q st0:=by
 let one:∀ xs,RUp r xs lo (lo+1):=λxs i j a b c=>by rw[show i=j by omega];exact AF _
 refine wpS_bind (PK R hk hv (.refl lo st0) hz (AF 1) h1 (one _) λn n1 n2 hu hor=>?_);refine EB (λc1=>wpS_pure (h n st0 (.refl lo st0) n1 n2 hu)) (λc1=>?_);let hn:n<nrem:=by simp at c1;omega
 let hlt:=hor.resolve_left ();let mirU:∀ {st:SortSt} {n m neq:Nat},CB lo st0 st->m<=nrem->RDn r (arrOf st) lo (lo+m)->RUp r (mirror (arrOf st) lo (lo+m) ((lo+m-lo) / 2)) lo (lo+m):=λ{st n m neq} c hm hd i j a1 a2 a3=>by
  rw[MG (by rw[c.size];omega),MG (by rw[c.size];omega),AD (),AD ()];exact hd _ _ () () ()
 refine EB (λc2=>?_) (λc2=>?_)
 case' refine_1=>
  calc wpS_bind (IS R hk hv (.refl lo st0) () (by dsimp only;omega) ?_);dsimp only;by_cases hrose:KR r (arrOf st0) lo<KR r (arrOf st0) (lo+n-1)
  case pos=>
   rw[BG hrose,AD rfl];exact wpS_pure (h n st0 (.refl lo st0) n1 n2 hu)
  case' neg=>
   rw[BB hrose,AE ()];let hall:∀ k,lo<=k->k<lo+n->KR r (arrOf st0) k=KR r (arrOf st0) (lo+n-1):=λk k1 k2=>by
    let a1:=hu lo k (AF _) k1 k2;let a2:=hu k (lo+n-1) k1 () ();omega
   refine wpS_bind (wpS_modify ?_);let cb:CB lo st0 (setArr st0 (mirror (arrOf st0) lo (lo+n) ((lo+n-lo) / 2))):=(CB.refl lo st0).mir (AF _) ();let dn:RDn r (mirror (arrOf st0) lo (lo+n) ((lo+n-lo) / 2)) lo (lo+(n+1)):=λi j a1 a2 a3=>by
    rw[Hz () hall,Hz () hall];by_cases hj:j<lo+n
    .rw[hall i a1 (),hall j () hj];exact AF _
    .by_cases hi:i<lo+n
     .rw[hall i a1 hi,show j=lo+n by omega];omega
     .rw[show i=j by omega];exact AF _
 case' refine_2=>
  let cb:CB lo st0 st0:=.refl lo st0;let dn:RDn r (arrOf st0) lo (lo+(n+1)):=λi j a1 a2 a3=>by
   let hn1:n=1:=by dsimp only at c2;omega
   subst hn1;by_cases hij:i=j
   .rw[hij];exact AF _
   .rw[show i=lo by omega,show j=lo+1 by omega];rw[show lo+1-1=lo by omega]at hlt;omega
 all_goals
  calc wpS_bind (wpS_lift (Bo ⟨rfl,?_⟩));refine wpS_bind (wpS_mono (wpS_forRange (I:=λx c st'=>∃ neq,c=(none,x,neq)/\CB lo st0 st'/\RDn r (arrOf st') lo (lo+x)/\neq+1<=x /\ ∀ i,lo+x-(neq+1)<=i->i<lo+x->KR r (arrOf st') i=KR r (arrOf st') (lo+x-1)) (Q:=λc st'=>∃ x neq,c=(none,x,neq)/\CB lo st0 st'/\1<=x/\x<=nrem/\RDn r (arrOf st') lo (lo+x)/\neq+1<=x /\ ∀ i,lo+x-(neq+1)<=i->i<lo+x->KR r (arrOf st') i=KR r (arrOf st') (lo+x-1)) ?step ?fin ⟨0,rfl,cb,dn,(),λi a1 a2=>by congr 1;omega⟩) ?post)
  case fin=>
   intro c st' hI;refine qz λG=>?_;let⟨neq,eI1,cb,dn,q1,q2⟩:=hI;calc G ?_;clear G;subst eI1;rw[show max (n+1) nrem=nrem by omega]at dn q1 q2 ⊢;exact ⟨nrem,neq,rfl,cb,h1,AF _,dn,q1,q2⟩
  case step=>
   intro x c st' hx1 hx2 hI;refine qz λG=>?_;let⟨neq,eI1,cb,dn,q1,q2⟩:=hI;refine G ?_;clear G;subst eI1;let hx1':n+1<=x:=hx1;refine wpS_bind (IS R hk hv cb (by dsimp only;omega) (by dsimp only;omega) ?_);dsimp only;let step1:∀ ys:Array Keyed,(∀ k,KR r ys k=KR r (arrOf st') k)->KR r (arrOf st') (lo+x)<=KR r (arrOf st') (lo+x-1)->RDn r ys lo (lo+(x+1)):=λys hy hle i j a1 a2 a3=>by
    rw[hy,hy];by_cases hj:j<lo+x
    .exact dn i j a1 a2 hj
    .by_cases hij:i=j
     .rw[hij];exact AF _
     .have:=dn i (lo+x-1) a1 () ();rw[show j=lo+x by omega];omega
   by_cases hl:KR r (arrOf st') (lo+x)<KR r (arrOf st') (lo+x-1)
   .rw[BG hl,AD rfl];refine EB (λc3=>wpS_bind (wpS_modify (wpS_pure ⟨0,rfl,cb.mir () (),step1 _ (Hz (by rw[cb.size];omega) q2) (),(),λi a1 a2=>by congr 1;omega⟩))) (λc3=>wpS_pure ⟨0,rfl,cb,step1 _ (λ_=>rfl) (),(),λi a1 a2=>by congr 1;omega⟩)
   .rw[BB hl,AE ()];refine wpS_bind (IS R hk hv cb () () ?_);dsimp only;by_cases hg:KR r (arrOf st') (lo+x-1)<KR r (arrOf st') (lo+x)
    .rw[BG hg,AD rfl];exact wpS_pure ⟨x,neq,rfl,cb,(),(),dn,q1,q2⟩
    .rw[BB hg,AE ()];refine wpS_pure ⟨neq+1,rfl,cb,step1 _ (λ_=>rfl) (),(),λi a1 a2=>?_⟩;rw[show lo+(x+1)-1=lo+x by omega];by_cases hi:i=lo+x
     .rw[hi]
     .rw[q2 i () ()];omega
  case post=>
   intro c st' hI;refine qz λG=>?_;let⟨x,neq,eI1,cb,x1,x2,dn,q1,q2⟩:=hI;calc G ?_;clear G;subst eI1;refine EB (λc3=>?_) (λc3=>?_)
   case' refine_1=>
    refine wpS_bind (wpS_modify ?_);replace dn:RDn r (mirror (arrOf st') (lo+x-(neq+1)) (lo+x) ((lo+x-(lo+x-(neq+1))) / 2)) lo (lo+x):=λi j a1 a2 a3=>by
     rw[Hz (by rw[cb.size];omega) q2,Hz (by rw[cb.size];omega) q2];exact dn i j a1 a2 a3
    replace cb:=cb.mir (i:=lo+x-(neq+1)) (j:=lo+x) () ()
   all_goals
    calc wpS_bind (wpS_modify ?_);let cb2:=cb.mir (i:=lo) (j:=lo+x) (AF _) ();calc wpS_bind (PK R hk hv cb2 hz x1 x2 (mirU (n:=0) (neq:=0) cb x2 dn) λm m1 m2 hu2 _=>wpS_pure (h m _ cb2 () m2 hu2))
end
section
variable {prog:Ym} {w:Yo} {A:Yn} {E:Yc} {s:Yl} {κ:SortKind} {vs:Yf} {r:Yr} {st0 st:SortSt} {lo n ok:Nat}
def Vp (R:EE prog w s κ vs r) (hk:kindOf st0=κ) (hv:∀ x∈(arrOf st0).toList,x.1∈vs) (c0:CB lo st0 st) (hz:lo+n<=(arrOf st0).size) (h1:1<=ok) (h2:ok<=n) (hu:RUp r (arrOf st) lo (lo+ok))
  (h:∀ st',CB lo st0 st'->RUp r (arrOf st') lo (lo+n)->Q true st'):wpS (model prog w) A E s (binarySort' lo n ok) Q st:=by
 refine wpS_bind (wpS_mono (wpS_forRange (I:=λk c st'=>c=(none,Unit.unit)/\CB lo st0 st'/\RUp r (arrOf st') lo (lo+k)) (Q:=λc st'=>c=(none,Unit.unit)/\CB lo st0 st'/\RUp r (arrOf st') lo (lo+n)) ?step ?fin ⟨rfl,c0,by rw[show max ok 1=ok by omega];calc hu⟩) ?post)
 case fin=>
  intro c st' hI;refine qz λG=>?_;let⟨eI1,cb,hu⟩:=hI;calc G ?_;clear G;subst eI1;rw[show max (max ok 1) n=n by omega]at hu;exact ⟨rfl,cb,hu⟩
 case post=>
  intro c st' hI;refine qz λG=>?_;let⟨eI1,cb,hu⟩:=hI;calc G ?_;clear G;subst eI1;exact wpS_pure (h st' cb hu)
 case step=>
  intro k c st' hk1 hk2 hI;refine qz λG=>?_;let⟨eI1,cb,hu⟩:=hI;calc G ?_;clear G;subst eI1;let hk0:1<=k:=()
  refine wpS_bind (wpS_mono (wpS_forRange (I:=λx c st''=>st''=st' /\ ∃ a b,c=(none,a,b)/\a<=b/\b<=k/\b-a<=k-x/\(∀ i,i<a->KR r (arrOf st') (lo+i)<=KR r (arrOf st') (lo+k))/\(∀ i,b<=i->i<k->KR r (arrOf st') (lo+k)<=KR r (arrOf st') (lo+i))) (Q:=λc st''=>st''=st' /\ ∃ a b,c=(none,a,b)/\a<=k/\(∀ i,i<a->KR r (arrOf st') (lo+i)<=KR r (arrOf st') (lo+k))/\(∀ i,a<=i->i<k->KR r (arrOf st') (lo+k)<=KR r (arrOf st') (lo+i))) ?step1 ?fin1 ⟨rfl,0,k,rfl,(),(),(),λi hi=>(),λi a1 a2=>()⟩) ?post1)
  case fin1=>
   intro c st'' hI;refine qz λG=>?_;let⟨eI1,a,b,eI2,q1,q2,q3,q4,q5⟩:=hI;calc G ?_;clear G;subst eI1 eI2;exact ⟨rfl,a,b,rfl,(),q4,λi a1 a2=>q5 i () a2⟩
  case step1=>
   intro x c st'' _ hx hI;refine qz λG=>?_;let⟨eI1,a,b,eI2,q1,q2,q3,q4,q5⟩:=hI;calc G ?_;clear G;subst eI1 eI2;refine EB (λc1=>wpS_pure ⟨rfl,a,b,rfl,(),q4,λi a1 a2=>q5 i (by dsimp only at c1;omega) a2⟩) (λc1=>?_);let c1':a<b:=by dsimp only at c1;omega
   calc wpS_bind (IS R hk hv cb () (by dsimp only;omega) ?_);dsimp only;by_cases hl:KR r (arrOf st'') (lo+k)<KR r (arrOf st'') (lo+(a+b) / 2)
   .rw[BG hl,AD rfl];refine wpS_pure ⟨rfl,a,(a+b) / 2,rfl,(),(),(),q4,λi a1 a2=>?_⟩;have:=hu (lo+(a+b) / 2) (lo+i) () () ();omega
   .rw[BB hl,AE ()];refine wpS_pure ⟨rfl,(a+b) / 2+1,b,rfl,(),(),(),λi a1=>?_,q5⟩;have:=hu (lo+i) (lo+(a+b) / 2) () () ();omega
  case post1=>
   intro c st'' hI;refine qz λG=>?_;let⟨eI1,a,b,eI2,q1,q4,q5⟩:=hI;calc G ?_;clear G;subst eI1 eI2;refine wpS_bind (wpS_modify (wpS_pure ⟨rfl,cb.bub () (by dsimp only;omega) (by dsimp only;omega),λi j a1 a2 a3=>?_⟩));let hs:lo+k<(arrOf st'').size:=by rw[cb.size];omega
   show KR r (bubble (arrOf st'') (lo+k) (lo+k-(lo+a))) i<=KR r (bubble (arrOf st'') (lo+k) (lo+k-(lo+a))) j;rw[Nj hs (),Nj hs ()];rw[show lo+k-(lo+k-(lo+a))=lo+a by omega];by_cases i1:i=lo+a
   .rw[AD i1];by_cases j1:j=lo+a
    .rw[AD j1];exact AF _
    .rw[AE j1,AD ()];have:=q5 (j-1-lo) () ();rw[show lo+(j-1-lo)=j-1 by omega]at this;exact this
   .rw[AE i1];by_cases i2:lo+a<i/\i<=lo+k
    .rw[AD i2,AE (),AD ()];exact hu _ _ () () ()
    .rw[AE i2];by_cases j1:j=lo+a
     .rw[AD j1];have:=q4 (i-lo) ();rw[show lo+(i-lo)=i by omega]at this;exact this
     .rw[AE j1];by_cases j2:lo+a<j/\j<=lo+k
      .rw[AD j2];exact hu _ _ a1 () ()
      .rw[AE j2];calc hu _ _ a1 a2 ()
end
section
variable {prog:Ym} {w:Yo} {A:Yn} {E:Yc} {s:Yl} {κ:SortKind} {vs:Yf} {r:Yr}
def leL (a b:Ye):Bool:=!AZ b a
def DL (ts:Ya):List (List Int):=ts.mergeSort leL
def VM (a b c:Ye) (h1:leL a b=true) (h2:leL b c=true):leL a c=true:=by
 unfold leL at *;rw[Bool.not_eq_true']at *;cases e:AZ c a with
 |false=>rfl
 |true=>
  cases e2:AZ b a with
  |true=>rw[e2]at h1;ext h1
  |false=>
   cases e3:AZ a b with
   |true=>rw[Ia e e3]at h2;ext h2
   |false=>rw[Iz e2 e3]at h2;rw[h2]at e;ext e
def ZX (a b:Ye):(leL a b||leL b a)=true:=by
 erw[leL];cases e:AZ b a with
 |false=>rfl
 |true=>
  cases e2:AZ a b with
  |false=>rfl
  |true=>have:=Ia e e2;rw[J7]at this;ext this
def Ib (ts:Ya):(DL ts).Perm ts:=List.mergeSort_perm ts leL
def J5 (ts:Ya):(DL ts).Pairwise λa b=>AZ b a=false:=(List.pairwise_mergeSort VM ZX ts).imp λ{a b} h=>by erw[leL]at h;simpa using h
theorem Pm:∀ {xs ys:Ya},xs.Perm ys->xs.Pairwise (λa b=>AZ b a=false)->ys.Pairwise (λa b=>AZ b a=false)->xs=ys
 |[],ys,h,_,_=>by rw[List.nil_perm.mp h]
 |x::xs,[],h,_,_=>by have:=h.length_eq;simp at this
 |x::xs,y::ys,h,hx,hy=>by
  let px:=DN.mp hx;let py:=DN.mp hy;let e:x=y:=by
   let m1:x∈y::ys:=h.mem_iff.mp AM;let m2:y∈x::xs:=h.mem_iff.mpr AM;rcases AJ.mp m1 with z|z
   .exact z
   .rcases AJ.mp m2 with z'|z'
    .exact z'.symm
    .exact Iz (py.1 x z) (px.1 y z')
  subst e;rw[Pm (List.Perm.cons_inv h) px.2 py.2]
def QM (h:xs.Perm ts) (hp:xs.Pairwise λa b=>AZ b a=false):xs=DL ts:=Pm (h.trans (Ib ts).symm) hp (J5 ts)
end
end ST
namespace L3
open L2 ST
def Jl (H:Hp) (ys:List V) (ts:Ya):Prop:=ys.length=ts.length /\ ∀ (i:Nat) t,ts[i]?=some t -> ∃ b,ys[i]?=some (.ref b)/\H b=some (.tup ((kkI t).map kV))
def Vu (hl:its.length=ts.length) (ha:∀ (i:Nat) u,its[i]?=some u -> ∃ t b,ts[i]?=some t/\u=.ref b/\H b=some (.tup ((kkI t).map kV))/\BX h1 (.ref b) t)
  (hp:out.Perm its) (hs:out.Pairwise λx y=>AZ (CL h1 y) (CL h1 x)=false):∃ ys,zU ys out/\Jl H ys (DL ts):=by
 let key:∀ u∈its,∃ t b,u=.ref b/\H b=some (.tup ((kkI t).map kV))/\CL h1 u=t:=λu hu=>by
  let⟨i,hi⟩:=List.mem_iff_getElem?.mp hu;let⟨t,b,_,rfl,e1,e2⟩:=ha i u hi;exact ⟨t,b,rfl,e1,Ew e2⟩
 let e0:its.map (CL h1)=ts:=by
  apply E6;intro i;rw[AW];by_cases hi:i<its.length
  .rw[AL hi];let⟨t,b,e1,e2,_,e4⟩:=ha i _ (AL hi);rw[e1,e2];exact BI some (Ew e4)
  .rw[Cy (),Cy ()];rfl
 let e1:out.map (CL h1)=DL ts:=QM (by rw[<-e0];calc hp.map _) (EY.mpr hs);refine ⟨out.map λu=>match u with|.ref b=> .ref b|_=> .non,?_,?_,λi t et=>?_⟩
 .refine Q2 (by simp) λi y u ey eu=>?_;rw[AW,eu]at ey;let⟨t,b,rfl,_⟩:=key u (hp.mem_iff.mp (Bn eu));ext ey;rfl
 .rw[AI,<-e1,AI]
 .rw[<-e1,AW]at et;cases eu:out[i]? with
  |none=>rw[eu]at et;ext et
  |some u=>
   rw[eu]at et;let⟨t',b,rfl,e2,e3⟩:=key u (hp.mem_iff.mp (Bn eu));let et':CL h1 (.ref b)=t:=BQ et;rw[e3]at et';subst et';calc ⟨b,by rw[AW,eu];rfl,e2⟩
theorem OL:∀ {ts:Ya} {ys:List V},Jl H ys ts->zE L H (ts.map λt=>D.tup (t.map D.int)) ys
 |[],ys,h=>by
  have:ys=[]:=E5.mp h.1;subst this;calc .nil
 |t::ts,[],h=>by have:=h.1;ext this
 |t::ts,y::ys,h=>by
  let⟨b,e1,e2⟩:=h.2 0 t rfl;ext e1;refine .cons (d5 ?_ e2) (OL ⟨Nat.succ.inj h.1,λi u e=>by let⟨b,q1,q2⟩:=h.2 (i+1) u (~~~e);calc ⟨b,by simpa using q1,q2⟩⟩);calc OB (Dx t)
theorem Qf:∀ {ds:List D} {ts:Ya} {vs:List V},Dz ds=some ts->zE L H ds vs->Jl H vs ts
 |[],ts,vs,h,r=>by ext h;erw[zE]at r;subst r;exact ⟨rfl,λi t e=>by simp at e⟩
 |d::ds,ts,vs,h,r=>by
  erw[Dz]at h;cbv at h
  .rename_i x xs h1 h2;ext h;erw[zE]at r;let⟨v,r',rfl,r1,r2⟩:=r;let⟨l2,q2⟩:=Qf h2 r2;refine ⟨by simp[l2],λi t e=>?_⟩;cases i with
   |succ i=>let⟨b,z1,z2⟩:=q2 i t (~~~e);calc ⟨b,by simpa using z1,z2⟩
   |zero=>
    ext e;cases d with
    |tup es=>
     erw[Rep]at r1;let⟨a,ws,rfl,e1,r3⟩:=r1;have:=Fq h1 r3;subst this;calc ⟨a,rfl,?_⟩;rw[e1];erw[kkI];rw[Be];rfl
    |_=>ext h1
  .cases h
section
variable {X:Cx}
def GV (ts:Ya):Bool:=ts.all λt=> !t.isEmpty
def fD (h:GV ts=true):∀ t∈ts,t≠[]:=λt ht e=>by
 erw[GV]at h;rw[An]at h;have:=h t ht;rw[e]at this;ext this
end
end L3
namespace L2
def QF:entryFor table "dict.update.loop" = some Builtin.«dict.update.loop»:=entryFor_of_tree (by kernel_rfl)
def JZ:plainId "dict.update.loop" = true:=by decide+kernel
def Co.some {H H1:Hp} {d:Yt} {k x:V} (p:Co H d k x H1):H d≠none /\ ∀ b,b≠d->H1 b=H b:=by
 rcases p with ⟨kvs,k,e,_,_,rfl⟩|⟨kvs,k,b,e,_,_,_,rfl⟩
 .exact ⟨by rw[e];simp,λb hb=>zS hb⟩
 .exact ⟨by rw[e];simp,λb hb=>zS hb⟩
open ST
section
variable {X:Cx} {e:Expr} {p pos:Pos}
def Zp (hg:Gl X "len") (hm:X.mg "len" = none) (ha:PZ X e t) (hs:starEach [e] X.env=(false,eval e X.env)::starEach [] X.env:=by rfl) (hpl:(backTo pos (starEach [] X.env)).any (·.1)=false:=by rfl) :
  PE X (.Call (.Name "len" p) [e] [] pos) (λY H Q=>t Y H λks H1=>Q (.int ks.length) H1):=by
 intro zB s Y H Q I h;calc E2 (C7 I hg hm (by rfl) ?_ () ());calc callWith_builtin1 ?_ hs hpl;rw[hs];refine Calls.spliced_cons (thn (ha zB s Y H _ I h) λu s1 ⟨a,o,es,ep,tb,ks,H1,hv,ho,hS,I1,q⟩=>Calls.spliced_nil ?_);subst hv;let hb:=hS.bound;let hsb:scanBound<2 ^ 62:=()
 let hn:es.size=ks.length:=by
  let⟨ks',p,f⟩:=hS.ent;have:=zv f;rw[<-p.length_eq,<-this,Ae]
 calc call_len_set ho hS.ex hS.data hS.fits () ⟨.int ks.length,H1,I1.tok _,?_,q⟩;calc ⟨_,by rw[hn]⟩
end
end L2
namespace L3
open L2 ST
section
variable {X:Cx} {e:Expr} {p pos:Pos}
def GB (f:FZ):FE:=λY M=>match f Y M with
 |some (ks,M1)=>some (.dat (.int ks.length),M1)
 |none=>none
def S4 (hg:Gl X "len") (hm:X.mg "len" = none) (h:QZ X e fz) (hs:starEach [e] X.env=(false,eval e X.env)::starEach [] X.env:=by rfl) (hpl:(backTo pos (starEach [] X.env)).any (·.1)=false:=by rfl) :
  QE X (.Call (.Name "len" p) [e] [] pos) (GB fz):=.mk <| PE.imp (Zp hg hm h.un hs hpl) λτ H Q zz=>by
 let⟨L,Y,M,d,M',c,rs,hf,q⟩:=zz;erw[GB]at hf;cbv at hf
 .rename_i ks M1 e1;ext hf;exact ⟨L,Y,M,_,_,c,rs,e1,λL1 H1 s1 c1=>q L1 H1 _ s1 c1 (B6 (L:=L1) (H:=H1))⟩
 .cases hf
end
section
variable {prog:Ym} {w:Yo} {A:Yn} {E:Yc} {s:Yl}
def ZK (h:Q (s.heap.get? a) s):wpAny (model prog w) A (loadIfAlive a) Q E s:=λΓ p _=>by
 erw[loadIfAlive];rw[Sem.wp_loadIfAlive];simpa using h
abbrev Cp (f:Value) (g:Bool) (TI TO:Addr):Obj:={ cls:=.type "zip", dict:=none,data:=.fields #[f,.bool g,.bool false,.ref TI,.ref TO],slots:=#[] }
structure ZipA (b1 b2:Bool) (h:Heap) (z TI TO i1 i2 t1 t2:Yt) (k:Nat):Prop where
 z:∃ f g,(f=.none \/ ∃ T:Addr,f=rawInt T)/\h.get? z=some (Cp f g TI TO)
 ti:IsPair h TI (.ref i1) (.ref i2)
 to:∃ a b,IsPair h TO a b
 a:SI b1 h i1 t1 k
 b:SI b2 h i2 t2 k
def Jn {z TI TO:Yt} {f:Yu} {g:Bool} {Q:Bool->Shared->Prop} (hf:f=.none \/ ∃ T:Addr,f=rawInt T) (Z0:s.heap.get? z=some (Cp f g TI TO)) (qt:Q true s) (qf:∀ h' g',h'.get? z=some (Cp f g' TI TO)->Heap.SameBut z s.heap h'->Q false { s with heap:=h' }):wpAny (model prog w) A (Builtin.SmallTypes.ownedTupleIsFree (.ref z)) Q E s:=by
 erw[Builtin.SmallTypes.ownedTupleIsFree];rcases hf with rfl|⟨T,rfl⟩
 .exact AA (BF Z0 rfl (x:=.none) rfl (AB qt))
 .refine AA (BF Z0 rfl (x:=rawInt T) rfl ?_);erw[rawInt];dsimp only;calc AA (ZK ?_);cases AT:s.heap.get? ((T:Int)).toNat with
  |none=>calc AB qt
  |some o=>
   simp only[Option.isNone_some,Ac,Ah];calc AA (BF Z0 rfl (x:=.bool g) rfl ?_);ext g
   .rw[AD ()];exact AA (Cq Z0 (by simp) λh1 Z1 e1=>AB (qf h1 true Z1 e1))
   .rw[AE ()];calc AB (qf s.heap true Z0 (Heap.SameBut.refl _ _))
def bR {b1 b2:Bool} {z TI TO i1 i2 t1 t2:Yt} {k:Nat} {xs ys:Yp} {x y:Yu} {Q:Option Value->Shared->Prop} (D:ZipApart z TI TO i1 i2 t1 t2) (Z:ZipA b1 b2 s.heap z TI TO i1 i2 t1 t2 k)
  (T1:SO b1 s.heap t1 xs) (T2:SO b2 s.heap t2 ys) (hx:xs[k]?=some x) (hy:ys[k]?=some y)
  (q:∀ h',ZipA b1 b2 h' z TI TO i1 i2 t1 t2 (k+1)->IsPair h' ⇑s x y ->
   (∀ c o,c∉[z,TO,i1,i2]->s.heap.get? c=some o->h'.get? c=some o)->Q (some (.ref ⇑s)) { s with heap:=h' }):wpAny (model prog w) A (pyNext (.ref z)) Q E s:=by
 let⟨⟨f,g,hf,Z0⟩,P0,⟨a,b,O0⟩,I1,I2⟩:=Z;let ty:s.TypeIs (.ref z) "zip" := ⟨_,Z0,rfl⟩;erw[pyNext];calc AA (CT (Bq (name:=Str.ofString "__next__") ty ES (Ap ES ty PySem.F.entry_zip_next ?_ (PySem.F.args_zip_next_1 _))));calc AA (m:=field (.ref z) 2) (BF Z0 rfl (x:=.bool false) rfl ?_);calc AA (m:=field (.ref z) 3) (BF Z0 rfl (x:=.ref TI) rfl ?_);calc AA (BU P0 rfl ?_);refine AA (m:=Builtin.SmallTypes.ownedTupleIsFree (.ref z)) (Jn hf Z0 ?_ λh1 g' Z1 e1=>?_)
 .rw[AD rfl];refine AA (Bo (AA (BF Z0 rfl (x:=.ref TO) rfl (AA (Cq Z0 (by simp) λh1 Z1 e1=>?_)))));replace Z1:h1.get? z=some (Cp .ellipsis g TI TO):=Z1;refine AA ?_;simp only[List.forIn_cons,List.forIn_nil,List.zipIdx_cons,List.zipIdx_nil];refine AA (AA (D1 (AA (m:=Builtin.SmallTypes.nextOf (.ref i1)) (G3 (SI.but I1 e1.extBut D.i1z) (SO.but T1 e1.extBut D.l1z) hx λh2 J1 e2=>AB ?_))));let O2:IsPair h2 TO a b:=e2.extBut _ _ D.TOi1 (e1.extBut _ _ D.TOz O0);refine AA (BU O2 rfl (AA (wpAny_updateSeq_pair O2 λh3 O3 e3=>AA (wpAny_letGo (AB ?_)))));replace O3:IsPair h3 TO x b:=O3
  refine AA (AA (D1 (AA (m:=Builtin.SmallTypes.nextOf (.ref i2)) (G3 (SI.but (SI.but (SI.but I2 e1.extBut D.i2z) e2.extBut D.i12.symm) e3.extBut D.TOi2.symm)
   (SO.but (SO.but (SO.but T2 e1.extBut D.l2z) e2.extBut D.l2i1) e3.extBut D.l2TO) hy λh4 J2 e4=>AB ?_))))
  let O4:IsPair h4 TO x b:=e4.extBut _ _ D.TOi2 O3;refine AA (BU O4 rfl (AA (wpAny_updateSeq_pair O4 λh5 O5 e5=>AA (wpAny_letGo (AB (AB ?_))))));replace O5:IsPair h5 TO x y:=O5;calc AA (BU O5 rfl (AA (wpAny_newTuple ?_)));let sz:h5.objs.size=⇑s:=by rw[e5.1,e4.1,e3.1,e2.1,e1.1]
  let Z5:h5.get? z=some (Cp .ellipsis g TI TO):=e5.extBut _ _ D.TOz.symm (e4.extBut _ _ D.i2z.symm (e3.extBut _ _ D.TOz.symm (e2.extBut _ _ D.i1z.symm Z1)));let kp:∀ c o,c∉[z,TO,i1,i2]->s.heap.get? c=some o->h5.get? c=some o:=λc o n e=>by
   simp only[AJ,A7,Az,not_or]at n;let⟨n1,n2,n3,n4⟩:=n;exact e5.extBut _ _ n2 (e4.extBut _ _ n4 (e3.extBut _ _ n2 (e2.extBut _ _ n3 (e1.extBut _ _ n1 e))))
  let A5:SI b1 h5 i1 t1 (k+1):=SI.but (SI.but (SI.but J1 e3.extBut D.TOi1.symm) e4.extBut D.i12) e5.extBut D.TOi1.symm;let B5:SI b2 h5 i2 t2 (k+1):=SI.but J2 e5.extBut D.TOi2.symm;let zl:z<h5.objs.size:=AG Z5;calc AA (m:=Builtin.SmallTypes.ownedTupleHandOut (.ref z) (.ref h5.objs.size)) ?_;erw[Builtin.SmallTypes.ownedTupleHandOut];let Z6:(h5.push { cls:=.type "tuple", data:=.seq #[x,y] }).get? z=some (Cp .ellipsis g TI TO):=AH _ Z5;refine AA (Cq Z6 (by simp) λh7 Z7 e7=>?_);replace Z7:h7.get? z=some (Cp (rawInt h5.objs.size) g TI TO):=Z7;refine Cq Z7 (by simp) λh8 Z8 e8=>?_;replace Z8:h8.get? z=some (Cp (rawInt h5.objs.size) false TI TO):=Z8;let up:∀ c o,c≠z->h5.get? c=some o->h8.get? c=some o:=λc o n e=>e8.extBut _ _ n (e7.extBut _ _ n (AH _ e));let N8:IsPair h8 h5.objs.size x y:=e8.extBut _ _ (B9 zl) (e7.extBut _ _ (B9 zl) (AK _ rfl));rw[sz]at Z8 N8;calc AB ⟨_,rfl,?_⟩;rw[sz];refine AB (q h8 ⟨⟨_,false,.inr ⟨_,rfl⟩,Z8⟩,up _ _ D.TIz (kp _ _ (by simp[D.TIz,D.TITO,D.TIi1,D.TIi2]) P0),⟨_,_,up _ _ D.TOz O5⟩,?_,?_⟩ N8 λc o n e=>up c o (λm=>n (by simp[m])) (kp c o n e))
  .exact A5.keep λo e=>up _ o D.i1z e
  .exact B5.keep λo e=>up _ o D.i2z e
 .rw[AE ()];dsimp only;rw[<-Array.forIn_toList];simp only[List.forIn_cons,List.forIn_nil];refine AA (AA (AA (A6 (AA (m:=Builtin.SmallTypes.nextOf (.ref i1)) (G3 (SI.but I1 e1.extBut D.i1z) (SO.but T1 e1.extBut D.l1z) hx λh2 J1 e2=>AB (AB ?_))))));refine AA (AA (A6 (AA (m:=Builtin.SmallTypes.nextOf (.ref i2)) (G3 (SI.but (SI.but I2 e1.extBut D.i2z) e2.extBut D.i12.symm) (SO.but (SO.but T2 e1.extBut D.l2z) e2.extBut D.l2i1) hy λh4 J2 e4=>AB (AB (AB ?_))))));let sz:h4.objs.size=⇑s:=by rw[e4.1,e2.1,e1.1]
  let kp:∀ c o,c∉[z,i1,i2]->s.heap.get? c=some o->h4.get? c=some o:=λc o n e=>by
   simp only[AJ,A7,Az,not_or]at n;exact e4.extBut _ _ n.2.2 (e2.extBut _ _ n.2.1 (e1.extBut _ _ n.1 e))
  let Z4:h4.get? z=some (Cp f g' TI TO):=e4.extBut _ _ D.i2z.symm (e2.extBut _ _ D.i1z.symm Z1);calc AA (wpAny_newTuple (hsz:=by show 2<=sizeLine;rw[CO];omega) (AB ⟨_,rfl,?_⟩));let up:∀ c o,h4.get? c=some o->(h4.push { cls:=.type "tuple", data:=.seq #[x,y] }).get? c=some o:=λc o e=>AH _ e;let N8:IsPair (h4.push { cls:=.type "tuple", data:=.seq #[x,y] }) h4.objs.size x y:=AK _ rfl;rw[sz]at N8;show wpAny _ _ (pure (some (Value.ref h4.objs.size))) _ _ _;rw[sz];refine AB (q _ ⟨⟨f,g',hf,up _ _ Z4⟩,up _ _ (kp _ _ (by simp[D.TIz,D.TIi1,D.TIi2]) P0),⟨a,b,up _ _ (kp _ _ (by simp[D.TOz,D.TOi1,D.TOi2]) O0)⟩,?_,?_⟩ N8 λc o n e=>up c o (kp c o (λm=>n (by simp only[AJ,A7,Az]at m ⊢;rcases m with m|m|m <;> simp[m])) e))
  .exact (SI.but J1 e4.extBut D.i12).keep λo e=>up _ o e
  .exact J2.keep λo e=>up _ o e
def SV {b1 b2:Bool} {z TI TO i1 i2 t1 t2:Yt} {k:Nat} {xs ys:Yp} {Q:Option Value->Shared->Prop} (hh:A.handled=none) (D:ZipApart z TI TO i1 i2 t1 t2) (Z:ZipA b1 b2 s.heap z TI TO i1 i2 t1 t2 k)
  (T1:SO b1 s.heap t1 xs) (T2:SO b2 s.heap t2 ys) (he:xs[k]?=none\/ys[k]?=none)
  (q:∀ h',(∀ c o,c∉[z,TO,i1,i2]->s.heap.get? c=some o->h'.get? c=some o)->Q none { s with heap:=h' }):wpAny (model prog w) A (pyNext (.ref z)) Q E s:=by
 let⟨⟨f,g,hf,Z0⟩,P0,⟨a,b,O0⟩,I1,I2⟩:=Z;let ty:s.TypeIs (.ref z) "zip" := ⟨_,Z0,rfl⟩
 let stop:∀ (e:Addr) (h':Heap),(∀ c o,c∉[z,TO,i1,i2]->s.heap.get? c=some o->h'.get? c=some o)->(∃ o,h'.get? e=some o/\o.cls=.type "StopIteration") ->
   wpAny (model prog w) A (do if (<- isInstance (.ref e) (.type "StopIteration")) then pure none else throw (.ref e):Sem (Option Value)) Q E { s with heap:=h' }:=λe h' k1 ⟨o,e1,e2⟩=>
  AA (Eu (T := "StopIteration") (b:=true) ⟨o,e1,e2⟩ isSubtype_stop (AB (q h' k1)))
 erw[pyNext];calc AA (CT (Bq (name:=Str.ofString "__next__") ty ES (Ap ES ty PySem.F.entry_zip_next ?_ (PySem.F.args_zip_next_1 _))));calc AA (m:=field (.ref z) 2) (BF Z0 rfl (x:=.bool false) rfl ?_);calc AA (m:=field (.ref z) 3) (BF Z0 rfl (x:=.ref TI) rfl ?_);calc AA (BU P0 rfl ?_);refine AA (m:=Builtin.SmallTypes.ownedTupleIsFree (.ref z)) (Jn hf Z0 ?_ λh1 g' Z1 e1=>?_)
 .rw[AD rfl];refine AA (Bo (AA (BF Z0 rfl (x:=.ref TO) rfl (AA (Cq Z0 (by simp) λh1 Z1 e1=>?_)))));replace Z1:h1.get? z=some (Cp .ellipsis g TI TO):=Z1;calc AA ?_;simp only[List.forIn_cons,List.forIn_nil,List.zipIdx_cons,List.zipIdx_nil];cases hx:xs[k]? with
  |none=>
   refine AA (AA (D1 (AA (m:=Builtin.SmallTypes.nextOf (.ref i1)) (Jq hh (SI.but I1 e1.extBut D.i1z) (SO.but T1 e1.extBut D.l1z) hx λh2 e e2 he=>?_))));let⟨oe,o1,o2⟩:=he;let Z2:h2.get? z=some (Cp .ellipsis g TI TO):=e2 _ _ D.i1z.symm Z1;let ne:e≠z:=λm=>by subst m;rw[Z2]at o1;ext o1;simp at o2
   refine Cq Z2 (by simp) λh3 _ e3=>stop e h3 (λc o n x=>?_) ⟨oe,e3.extBut _ _ ne o1,o2⟩;simp only[AJ,A7,Az,not_or]at n;calc e3.extBut _ _ n.1 (e2 _ _ n.2.2.1 (e1.extBut _ _ n.1 x))
  |some x=>
   let hy:ys[k]?=none:=by
    rcases he with m|m
    .rw[hx]at m;ext m
    .exact m
   refine AA (AA (D1 (AA (m:=Builtin.SmallTypes.nextOf (.ref i1)) (G3 (SI.but I1 e1.extBut D.i1z) (SO.but T1 e1.extBut D.l1z) hx λh2 J1 e2=>AB ?_))));let O2:IsPair h2 TO a b:=e2.extBut _ _ D.TOi1 (e1.extBut _ _ D.TOz O0);refine AA (BU O2 rfl (AA (wpAny_updateSeq_pair O2 λh3 O3 e3=>AA (wpAny_letGo (AB ?_)))))
   refine AA (AA (D1 (AA (m:=Builtin.SmallTypes.nextOf (.ref i2)) (Jq hh (SI.but (SI.but (SI.but I2 e1.extBut D.i2z) e2.extBut D.i12.symm) e3.extBut D.TOi2.symm)
    (SO.but (SO.but (SO.but T2 e1.extBut D.l2z) e2.extBut D.l2i1) e3.extBut D.l2TO) hy λh4 e e4 he=>?_))))
   let⟨oe,o1,o2⟩:=he;let Z4:h4.get? z=some (Cp .ellipsis g TI TO):=e4 _ _ D.i2z.symm (e3.extBut _ _ D.TOz.symm (e2.extBut _ _ D.i1z.symm Z1));let ne:e≠z:=λm=>by subst m;rw[Z4]at o1;ext o1;simp at o2
   refine Cq Z4 (by simp) λh5 _ e5=>stop e h5 (λc o n x=>?_) ⟨oe,e5.extBut _ _ ne o1,o2⟩;simp only[AJ,A7,Az,not_or]at n;exact e5.extBut _ _ n.1 (e4 _ _ n.2.2.2 (e3.extBut _ _ n.2.1 (e2.extBut _ _ n.2.2.1 (e1.extBut _ _ n.1 x))))
 .rw[AE ()];dsimp only;rw[<-Array.forIn_toList];simp only[List.forIn_cons,List.forIn_nil];cases hx:xs[k]? with
  |none=>
   refine AA (AA (AA (A6 (AA (m:=Builtin.SmallTypes.nextOf (.ref i1)) (Jq hh (SI.but I1 e1.extBut D.i1z) (SO.but T1 e1.extBut D.l1z) hx λh2 e e2 he=>?_)))));refine stop e h2 (λc o n x=>?_) he;simp only[AJ,A7,Az,not_or]at n;calc e2 _ _ n.2.2.1 (e1.extBut _ _ n.1 x)
  |some x=>
   let hy:ys[k]?=none:=by
    rcases he with m|m
    .rw[hx]at m;ext m
    .exact m
   refine AA (AA (AA (A6 (AA (m:=Builtin.SmallTypes.nextOf (.ref i1)) (G3 (SI.but I1 e1.extBut D.i1z) (SO.but T1 e1.extBut D.l1z) hx λh2 J1 e2=>AB (AB ?_))))));refine AA (AA (A6 (AA (m:=Builtin.SmallTypes.nextOf (.ref i2)) (Jq hh (SI.but (SI.but I2 e1.extBut D.i2z) e2.extBut D.i12.symm) (SO.but (SO.but T2 e1.extBut D.l2z) e2.extBut D.l2i1) hy λh4 e e4 he=>?_))));refine stop e h4 (λc o n x=>?_) he;simp only[AJ,A7,Az,not_or]at n;calc e4 _ _ n.2.2.2 (e2.extBut _ _ n.2.2.1 (e1.extBut _ _ n.1 x))
def fK {z TI TO:Yt} {f:Yu} {g:Bool} {Q:Yc} (Z0:s.heap.get? z=some (Cp f g TI TO)) (h:Q (.ref z) s):wpAny (model prog w) A (pyIter (.ref z)) Q E s :=
 let ty:s.TypeIs (.ref z) "zip" := ⟨_,Z0,rfl⟩;wpAny_pyIter_slot ty PySem.F.slot_zip_iter (Ap PySem.F.slot_zip_iter ty PySem.F.entry_zip_iter (show wpAny _ _ (ret (.ref z)) _ _ s from AB ⟨_,rfl, "zip", _,ty,ES.lookup,h⟩) (PySem.F.args_zip_iter_1 _))
end
theorem ND:∀ {ns:Ye} {us:Yf},us.length=ns.length->(∀ (i:Nat) u,us[i]?=some u -> ∃ n t,ns[i]?=some n/\u=Value.int n t)->IntsAre us ns
 |[],[],_,_=> .nil
 |[],_::_,h,_=>nomatch h
 |_::_,[],h,_=>nomatch h
 |n::ns,u::us,h,ha=>by
  let⟨m,t,e,rfl⟩:=ha 0 u rfl;ext e;exact .cons n t (ND (Nat.succ.inj h) λi v e=>by
   let⟨m,t,e1,e2⟩:=ha (i+1) v (~~~e);calc ⟨m,t,by simpa using e1,e2⟩)
theorem KQ:∀ {es:List DictEntry} {kvs:List (Key × Value)},Pairs (zf P w) es kvs -> ∀ (i:Nat) e,es[i]?=some e -> ∃ kv,kvs[i]?=some kv/\El kv.1 e.key=true
 |_,_,.nil,i,e,h=>by simp at h
 |_,_,.cons h1 h2 h3,0,e,h=>by ext h;calc ⟨_,rfl,h1⟩
 |_,_,.cons h1 h2 h3,i+1,e,h=>KQ h3 i e (~~~h)
theorem JO:∀ {kvs:List (Key × V)} {vs:List (Key × Value)},KV kvs vs->vs.map (·.1)=kvs.map (·.1)
 |_,_,.nil=>rfl
 |_,_,.cons h1 h2=>by rw[Ab,Ab,JO h2,h1.1]
section
variable {X:Cx}
def Va (hc:X.calm=true):CC X (.builtin "sorted") (λxs H Q=>∃ d kvs ns,xs=[.ref d]/\H d=some (.dK kvs)/\kvs.map (·.1)=ns.map Sum.inl/\ns.length<64 /\ ∀ q,H q=none->Q (.ref q) (upd H q (.lst ((Ag ns).map V.int)))):=by
 intro zB s Y H xs us Q I r h;let⟨d,kvs,ns,rfl,ed,ens,h64,q⟩:=h;let⟨u,rfl,rx⟩:=EL r;ext rx;let⟨z1,z2,vs,rv,o,es,ep,h1,h2,h3,h4,h5,h6⟩:=(show zy X.prog X.w H s.heap d (.dK kvs)from I.hok d _ ed);let hvl:vs.map (·.1)=ns.map Sum.inl:=(JO rv).trans ens;let hsz:es.size=ns.length:=by
  rw[<-Ae,Pairs.length h5];have:=BI List.length hvl;simpa using this
 refine K1 (bP (gO z2 h2.1 h3) (I.ok.hd hc) h1 (by rw[hsz,CO];omega) λh' tk acc hk hle hacc=>?_);let hal:acc.toList.length=ns.length:=by rw[Ae,hacc.1,hsz]
 refine ⟨ns,ND hal λi u e=>?_,by rw[hal];exact h64,λh2' out n hk2 hL hI=>?_⟩
 .rw[CI]at e;let⟨e',he',rfl⟩:=hacc.2 i u e;let⟨kv,e1,e2⟩:=KQ h5 i e' (by rw[CI];exact he');let e3:(ns.map Sum.inl)[i]?=some kv.1:=by rw[<-hvl,AW,e1];rfl
  rw[AW]at e3;cases hn:ns[i]? with
  |none=>rw[hn]at e3;ext e3
  |some m=>
   rw[hn]at e3;let e4:Sum.inl m=kv.1:=BQ e3;rw[<-e4]at e2;rcases zw e2 with ⟨j,t,ej,ev⟩|⟨x,t,ej,_⟩
   .cases ej;exact ⟨m,t,rfl,ev⟩
   .cases ej
 .exact ⟨.ref h'.objs.size,_,I.laid (t':=tk) (λb o e=>hk2 b o (hk b o e)) hle (show zy X.prog X.w _ h2' _ (.lst ((Ag ns).map V.int))from ⟨by rw[AI,Kr,CO];omega,out,n,Ik hI,hL⟩),rfl,q _ (I.hok.fresh hle)⟩
def GY:KB:=λxs M=>match xs with
 |[.dat (.ref n)]=>match M[n]? with
  |some (.dict ps)=>match zk (ps.map (·.1)) with
   |some ns=>if ns.length<64 then some (.fl ((Ag ns).map D.int),M) else none
   |none=>none
  |_=>none
 |_=>none
theorem Oy:∀ {ps:List (D × D)} {ns:Ye} {kvs:List (Key × V)},zk (ps.map (·.1))=some ns->AO Ak L H ps kvs->kvs.map (·.1)=ns.map Sum.inl
 |[],ns,kvs,h,r=>by ext h;erw[AO]at r;subst r;rfl
 | (.int i,x)::ps,ns,kvs,h,r=>by
  erw[AO]at r;let⟨k,v,r',rfl,ek,_,r2⟩:=r;ext ek;rw[Ab]at h;erw[zk]at h;cbv at h
  .rename_i bs e1;ext h;rw[Ab,Ab,Oy e1 r2]
  .cases h
 | (.non,x)::ps,_,_,h,_|(.bl _,x)::ps,_,_,h,_|(.str _,x)::ps,_,_,h,_|(.tup _,x)::ps,_,_,h,_|(.ref _,x)::ps,_,_,h,_=>nomatch h
def U3:C4 X.K (λxs H Q=>∃ d kvs ns,xs=[.ref d]/\H d=some (.dK kvs)/\kvs.map (·.1)=ns.map Sum.inl/\ns.length<64 /\ ∀ q,H q=none->Q (.ref q) (upd H q (.lst ((Ag ns).map V.int)))) GY:=by
 intro L M M' H H0 xs d vs Q cc r hk q;erw[GY]at hk;cbv at hk
 .rename_i n;cbv at hk
  .rename_i ps e1;cbv at hk
   .rename_i ns e2;cbv at hk
    .rename_i hb;ext hk;let⟨v,rfl,r1⟩:=r.one;erw[zT,Rep]at r1;let⟨a,rfl,ea⟩:=r1;let⟨ws,e3,r3⟩:=cc.obj n a _ ea e1;exact ⟨a,ws,ns,rfl,e3,Oy e2 r3,hb,λl hl=>q L _ _ (.upd hl) (cc.upd hl) (zT.newLst' cc hl (JQ _))⟩
    .cases hk
   .cases hk
  .cases hk
 .cases hk
def U4 (hc:X.calm=true) (hg:Gl X "sorted") (hm:X.mg "sorted" = none) (ha:QAE X [e] fa) (he:starEach [e] X.env=(false,eval e X.env)::starEach [] X.env:=by rfl) (hpl:(backTo pos (starEach [] X.env)).any (·.1)=false:=by rfl):QE X (.Call (.Name "sorted" p) [e] [] pos) (fB GY fa) :=
 F6 U3 (Va hc) (by rfl) hg hm ha () () he hpl
end
def QB (I:Inv X zB Y H s) (hd:o.data=.dict es ep) (e:H d=some (.frz o (.dK kvs))) :
  s.heap.get? d=some o /\ ∃ vs,KV kvs vs/\Pairs (zf X.prog X.w) es.toList vs/\kvs.length=es.size:=by
 let⟨h0,_,_,vs,r,o',es',ep',h1,_,h3,_,h4,_⟩:=(show zy X.prog X.w H s.heap d (.frz o (.dK kvs))from I.hok d _ e);rw[h0]at h1;ext h1;rw[hd]at h3;ext h3;calc ⟨h0,vs,r,h4,?_⟩;let h5:=Pairs.length h4;let h6:=BI List.length (JO r);simp at h5 h6;omega
def Uy (I:Inv X zB Y H s) (ed:H d=some (.dK kvs)):∃ o es en,s.heap.get? d=some o/\o.data=.dict es en/\Inv X zB Y (upd H d (.frz o (.dK kvs))) s:=by
 let⟨z1,z2,vs,r,o,es',en,h1,h2,h3,h4,h5,h6⟩:=(show zy X.prog X.w H s.heap d (.dK kvs)from I.hok d _ ed);calc ⟨o,es',en,h1,h3,Gb (s:=s) (h':=s.heap) (t':=s.toks) (ob:=.frz o (.dK kvs)) I (by rw[ed];calc True.intro) (Heap.SameBut.refl _ _) ⟨o,h1⟩ ⟨h1,z1,z2,vs,r,o,es',en,h1,h2,h3,h4,h5,h6⟩⟩
def VJ (h:El k v=true):zc (kV k) v:=by
 rcases zw h with ⟨i,t,rfl,rfl⟩|⟨x,t,rfl,rfl⟩
 .exact ⟨t,rfl⟩
 .exact ⟨t,rfl⟩
def Xk:∀ {d:D} {k:Key},Ak d=some k->Rep L H d (kV k)
 |.int i,k,h=>by ext h;erw[Rep];rfl
 |.str x,k,h=>by ext h;erw[Rep];rfl
theorem NR {κ:Type} {kf:D->Option κ} {L:Yg} {H:Hp}:∀ {ps:List (D × D)} {vs:List (κ × V)} {i:Nat} {p:D × D},AO kf L H ps vs->ps[i]?=some p -> ∃ k x,vs[i]?=some (k,x)/\kf p.1=some k/\Rep L H p.2 x
 |[],_,i,p,_,e=>by simp at e
 |q::ps,vs,i,p,r,e=>by
  erw[AO]at r;let⟨k,v,r',rfl,ek,r1,r2⟩:=r;cases i with
  |zero=>ext e;calc ⟨k,v,rfl,ek,r1⟩
  |succ i=>calc NR (i:=i) r2 (~~~e)
def Hw (d:Yt) (o:Obj) (kvs:List (Key × V)):It :=
 ⟨λi H=>H d=some (.frz o (.dK kvs))/\i<kvs.length,
  λi H v H'=>∃ k x,kvs[i]?=some (k,x)/\v=kV k/\H'=H,
  λi H=>H d=some (.frz o (.dK kvs))/\kvs.length<=i⟩
def Mw {P:Ym} {w:Yo} {K:Yb} {tg:Expr} {it d:Yt} {o:Obj} {kvs:List (Key × V)} {es:Array DictEntry} {en:Nat} (hd:o.data=.dict es en) :
  Turn P w K tg (Hw d o kvs) [it] it (λi h=>h.IsKeyIter it d i es.size en) where
 mem:=BD.mpr rfl;obj:=λi h he c hc=>by
  cases BD.mp hc;let⟨q,h1,h2,h3⟩:=he;exact ⟨_,h1,λv m=>by rw[h3]at m;ext m⟩
 keep:=λi h h' he k=>by
  let⟨q,h1,h2,h3⟩:=he;exact ⟨q,k it (BD.mpr rfl) _ h1,h2,h3⟩
 item:=by
  intro X hP hw hK hc i zB s Y H E I hf he hg;subst hP hw hK;let⟨hg,hi⟩:=hg;let⟨h0,vs,r,h4,hl⟩:=QB I hd hg;let hx:es[i]?=some es[i]:=BM ();let⟨kv,e1,e2⟩:=KQ h4 i es[i] (by rw[CI];calc hx);rcases hkx:kvs[i]with ⟨k,x⟩;let hk:kvs[i]?=some (k,x):=by rw[AL hi,hkx]
  let ek:kv.1=k:=by
   let a1:(vs.map (·.1))[i]?=some kv.1:=by rw[AW,e1];rfl
   rw[JO r,AW,hk]at a1;exact (BQ a1).symm
  rw[ek]at e2;refine PD he h0 hd hx λh' he' hs'=>⟨_,rfl,?_⟩;let⟨q,h8,h9,h10⟩:=id he';refine Je h8 h9 h10 () ⟨kV k,H,Hm (s:=s) (h':=h') (t':=s.toks) I hf λc q n z=>hs'.extBut c q (λy=>n (BD.mpr y)) z,VJ e2,⟨k,x,hk,rfl,rfl⟩,he',λc hm=>(hf c hm).1⟩
 done:=by
  intro X hP hw hK hc i zB s Y H E I hf he hg;subst hP hw hK;let⟨hg,hi⟩:=hg;let⟨h0,vs,r,h4,hl⟩:=QB I hd hg;exact Pg (I.ok.hd hc) he h0 hd () λh' x=>⟨rfl,Hm (s:=s) (h':=h') (t':=s.toks) I hf λc q n z=>x c q (λy=>n (BD.mpr y)) z⟩
 self:=λA i s Q E he h=>wpAny_pyIter_keyiter he h
section
variable {X:Cx} {e:Expr} {tg:Expr} {f:FE}
def dA {td:TE} (ho:PE X e td):PI X tg e (λY H R=>td Y H λx H1=>∃ d kvs,x=.ref d/\((H1 d=some (.dK kvs) /\ ∀ o,R (Hw d o kvs) (upd H1 d (.frz o (.dK kvs)))) \/ ∃ o,H1 d=some (.frz o (.dK kvs))/\R (Hw d o kvs) H1)):=by
 intro zB s Y H R I h;refine thn (ho zB s Y H _ I h) λv s1 ⟨x,H1,I1,r1,d,kvs,ex,q⟩=>?_;subst ex;ext r1;rcases q with ⟨ed,q⟩|⟨o,ed,q⟩
 .obtain ⟨t1,t2,t3⟩:=Qm I1 (.inl ⟨kvs,.inl ed⟩);let⟨o,es',en,h1,h3,I0⟩:=Uy I1 ed;calc Jv (o:=o) (es:=es') (ep:=en) t3 t1 h1 h3 ?_;refine ⟨_,[_],_,_,_,rfl,I0.kept (t':=s1.toks) λb q z=>AH _ z,Mw h3,⟨_,AK _ rfl,rfl,rfl⟩,λc hc=>?_,q o⟩;cases BD.mp hc;exact I0.fpOk (AF _) (I0.hok.fresh (AF _))
 .obtain ⟨t1,t2,t3⟩:=Qm I1 (.inl ⟨kvs,.inr ⟨o,ed⟩⟩);let⟨h1,_,_,vs,r,o',es',en,h1',h2,h3,h4,h5,h6⟩:=(show zy X.prog X.w H1 s1.heap d (.frz o (.dK kvs))from I1.hok d _ ed);rw[h1]at h1';ext h1';calc Jv (o:=o) (es:=es') (ep:=en) t3 t1 h1 h3 ?_;refine ⟨_,[_],_,_,_,rfl,I1.kept (t':=s1.toks) λb q z=>AH _ z,Mw h3,⟨_,AK _ rfl,rfl,rfl⟩,λc hc=>?_,q⟩;cases BD.mp hc;calc I1.fpOk (AF _) (I1.hok.fresh (AF _))
def Gs (f:FE):FI:=λY M=>match f Y M with
 |some (.dat (.ref n),M1)=>match M1[n]? with
  |some (.dict ps)=>some (ps.map (·.1),none,M1.set n (.froK ps))
  |some (.froK ps)=>some (ps.map (·.1),none,M1)
  |_=>none
 |_=>none
def YX (h:QE X e f):QI X tg e (Gs f):=.mk <| PI.imp (dA h.un) λτ H R zz=>by
 let⟨L,Y,M,xs,gd,M',c,rs,hf,q⟩:=zz;let fin:∀ {L2:Yg} {H2:Hp} {ps:List (D × D)} {a:Yt} {o:Obj} {vs:List (Key × V)},H2 a=some (.frz o (.dK vs))->AO Ak L2 H2 ps vs -> ∀ (i:Nat) (d:D),(ps.map (·.1))[i]?=some d->(Hw a o vs).go i H2 /\ ∀ v H3,(Hw a o vs).yld i H2 v H3->(∀ a o,H2 a=some o->H3 a=some o)/\Rep L2 H3 d v:=by
  intro L2 H2 ps a o vs hz r4 i d hd;rw[AW]at hd;cases hp:ps[i]? with
  |none=>rw[hp]at hd;ext hd
  |some p=>
   rw[hp]at hd;ext hd;let⟨k,x,hk,ek,rx⟩:=NR r4 hp;refine ⟨⟨hz,(AY.mp hk).1⟩,λv H3 hy=>?_⟩;let⟨k',x',hk',rfl,rfl⟩:=hy;rw[hk]at hk';ext hk';exact ⟨λa o e=>e,Xk ek⟩
 erw[Gs]at hf;cbv at hf
 .rename_i n M1 e1;cbv at hf
  .rename_i ps e2;ext hf;refine ⟨L,Y,M,_,_,c,rs,e1,λL1 H1 v s1 c1 r1=>?_⟩;erw[zT,Rep]at r1;let⟨a,rfl,ea⟩:=r1;let⟨vs,e3,r3⟩:=c1.obj n a _ ea e2;refine ⟨a,vs,rfl,.inl ⟨e3,λo=>?_⟩⟩;let⟨c2,s2⟩:=c1.put (m:=.froK ps) (o':=.frz o (.dK vs)) ea e3 (λ_ z=>by ext z) (λ_ _ z=>by ext z) λs2=>⟨o,_,CH,r3.stp s2⟩;refine q L1 _ _ (s1.trans s2) c2 λL2 H2 M2 s3 c3 _=>?_;let hz:H2 a=some (.frz o (.dK vs)):=s3.frz _ _ _ CH;let r4:=r3.stp (s2.trans s3);exact ⟨λi d hd=>fin hz r4 i d hd,hz,by rw[AI,r4.length];calc AF _⟩
  .rename_i ps e2;ext hf;refine ⟨L,Y,M,_,_,c,rs,e1,λL1 H1 v s1 c1 r1=>?_⟩;erw[zT,Rep]at r1;let⟨a,rfl,ea⟩:=r1;let⟨o,vs,e3,r3⟩:=c1.obj n a _ ea e2;calc ⟨a,vs,rfl,.inr ⟨o,e3,?_⟩⟩;refine q L1 _ _ s1 c1 λL2 H2 M2 s3 c3 _=>?_;let hz:H2 a=some (.frz o (.dK vs)):=s3.frz _ _ _ e3;let r4:=r3.stp s3;exact ⟨λi d hd=>fin hz r4 i d hd,hz,by rw[AI,r4.length];calc AF _⟩
  .cases hf
 .cases hf
end
def Zz:typeLookup (.type "zip") "__getattr__" = pure none:=by rw[typeLookup_type,builtinLookup_eq_fast];kernel_rfl
def eJ:typeLookup (.type "zip") "keys" = pure none:=by rw[typeLookup_type,builtinLookup_eq_fast];kernel_rfl
def fG:entryFor table "zip.__getattribute__" = some Builtin.«object.__getattribute__» :=
 entryFor_alias (id' := "object.__getattribute__") (by kernel_rfl) (by decide+kernel) (by decide+kernel) (by kernel_rfl)
def gP (a:Yt) (fs:Yp) (sl:Array (Option Value)) (u:Tok) :
  Meets (Builtin.«object.__getattribute__» ⟨[.ref a,.str "keys" u],[]⟩) (λA R s=>s.heap.get? a=some { cls:=.type "zip", dict:=none,data:=.fields fs,slots:=sl }/\raisesAttr (.ref a) "keys" A R s) :=
 Meets.of_wp λprog w A R s hs=>by
  let⟨hp,g,d,tk,os⟩:=s;let⟨hx,hs⟩:=hs;let hT:(⟨hp,g,d,tk,os⟩:Shared).TypeIs (.ref a) "zip" := ⟨_,hx,rfl⟩;let hmiss:=eJ;let hname:(["__module__", "__name__", "__qualname__", "__doc__", "__annotations__"]:List Str).contains "keys" = false:=()
  unfold Builtin.«object.__getattribute__»;repeat (any_goals (first|assumption|wp_step))
  try simp only[hname,Ac,Ah]
  repeat (any_goals (first|assumption|wp_step))
  calc wpAny_raiseAttrError hs.1 hs.2 (attrMsg_fits (by decide+kernel) (by size_fits))
section
variable {prog:Ym} {w:Yo} {A:Yn} {E:Yc} {s:Yl}
set_option maxHeartbeats 4000000 in
def eM (hx:s.heap.get? a=some { cls:=.type "zip", dict:=none,data:=.fields fs,slots:=sl }) (hA:A.handled=none)
  (h:∀ h' tk,(∀ b u,s.heap.get? b=some u->h'.get? b=some u)->Q none { s with heap:=h',toks:=tk }):wpAny (model prog w) A (getAttr? (.ref a) "keys") Q E s:=by
 let⟨hp,g,d,tk,os⟩:=s;let hT:∀ tk',(⟨hp,g,d,tk',os⟩:Shared).TypeIs (.ref a) "zip" := λ_=>⟨_,hx,rfl⟩;let f1:=sub_AttributeError;let f3:=F.slot_zip_getattribute.lookup;let f4:=F.slot_zip_getattribute.bind (.ref a);let f5:=Zz;erw[getAttr?,getAttrBy?,getAttrBy];repeat (any_goals (first|assumption|exact hT _|((with_reducible show wpAny _ _ (call (Value.builtin "zip.__getattribute__") _ _) _ _ _);calc call_meets F.slot_zip_getattribute (hT _) fG (F.args_zip_getattribute_2 _ _) (gP a fs sl _) ⟨hx,hA,λh' tk' e hx'=>?_⟩)|wp_step))
 let⟨t',u',he⟩:=hx'.there;show wpAny _ _ (getattributeRaised _ _ _ _ _ _ _) _ _ _;erw[getattributeRaised];repeat (any_goals (first|assumption|wp_step))
 calc h _ _ hx'.keeps
end
set_option genInjectivity true in
inductive PutsP (d:Yt):List (V × V)->Hp->Hp->Prop
 |nil {H:Hp}:PutsP d [] H H
 |cons {k x:V} {ps:List (V × V)} {H H1 H2:Hp}:Co H d k x H1->PutsP d ps H1 H2->PutsP d ((k,x)::ps) H H2
section
variable {X:Cx} {zB:Yd} {Y:L2.St} {A:Yn}
def R1 {b1 b2:Bool} {d z TI TO i1 i2 t1 t2:Yt} {xs ys:Yf} {R:Yx} (hu:A.units+2<cLine) (hA:A.handled=none) (D:ZipApart z TI TO i1 i2 t1 t2) (hd:d∉[z,TI,TO,i1,i2,t1,t2]) {ps:List (V × V)} {H H2:Hp} (P:PutsP d ps H H2) :
  ∀ (k:Nat) (j:Int) (s:Yl),Inv X zB Y H s->(∀ b∈[z,TO,i1,i2],BL X zB H b)->ZipA b1 b2 s.heap z TI TO i1 i2 t1 t2 k->SO b1 s.heap t1 xs.toArray->SO b2 s.heap t2 ys.toArray ->
   (t1∉[z,TO,i1,i2]/\t2∉[z,TO,i1,i2])->(∀ (i:Nat) p,ps[i]?=some p -> ∃ x y,xs[k+i]?=some x/\ys[k+i]?=some y/\zc p.1 x/\zc p.2 y)->(xs.length<=k+ps.length\/ys.length<=k+ps.length) ->
   (∀ s',Inv X zB Y H2 s'->R (.ok (.ret .none)) s')->codeAny (model X.prog X.w) A (.builtin "dict.update.loop" ⟨[.ref d,.ref z,rawInt j,.none],[]⟩) R s:=by
 induction P with
 |nil=>
  intro k j s I hf Z T1 T2 ht hp he hR;calc CG QF ?_;rw[Cs JZ _];show wpAny _ A.in1 (pyNext (.ref z) >>= _) _ _ s;refine AA (SV (~~~hA) D Z T1 T2 (he.imp (λq=>by simp at q ⊢;omega) λq=>by simp at q ⊢;omega) λh' kk=>?_);show wpAny _ A.in1 (Builtin.Dict.addKeywords d [] >>= _) _ _ _;calc AA (AB ?_);exact AB (hR _ (Hm (s:=s) (h':=h') (t':=s.toks) I (ch:=[z,TO,i1,i2]) hf λb u hb e=>kk b u hb e))
 | @cons k x ps H H1 H2 dp _ ih=>
  intro n j s I hf Z T1 T2 ht hp he hR;let⟨u1,u2,e1,e2,r1,r2⟩:=hp 0 _ rfl;calc CG QF ?_;rw[Cs JZ _];show wpAny _ A.in1 (pyNext (.ref z) >>= _) _ _ s;refine AA (bR D Z T1 T2 (x:=u1) (y:=u2) (~~~e1) (~~~e2) λh' Z' N' kk=>?_);let I1:Inv X zB Y H { s with heap:=h' }:=Hm (s:=s) (h':=h') (t':=s.toks) I (ch:=[z,TO,i1,i2]) hf λb u hb e=>kk b u hb e;show wpAny _ A.in1 (holding [.ref ⇑s] _ >>= _) _ _ _;calc AA (A6 ?_);calc AA (wpAny_tryCatch ?_);erw[Builtin.Dict.pairItems];calc AA (C8 (T := "tuple") ⟨_,N',rfl⟩ ?_);rw[AD ()];calc AA (BU N' rfl (AB ?_));show wpAny _ A.in1 (holding [u1,u2] (dictSet d u1 u2)) _ _ _;refine A6 (cW (show A.in1.units+1<cLine from hu) I1 dp r1 r2 λs3 I3 hs=>?_);let⟨dn,ds⟩:=dp.some;let nd:∀ b∈[z,TI,TO,i1,i2,t1,t2],b≠d:=λb hb e=>hd (e▸hb);let kp:∀ b∈[z,TI,TO,i1,i2,t1,t2],∀ o,h'.get? b=some o->s3.heap.get? b=some o:=λb hb o e=>by rw[hs.2 b (nd b hb)];exact e
  let⟨⟨f,g,hff,Z0⟩,P0,⟨x0,y0,O0⟩,J1,J2⟩:=Z'
  refine AB ⟨Ds JZ _,ih (n+1) (j+1) s3 I3 (λb hb=>?_) ⟨⟨f,g,hff,kp z (by simp) _ Z0⟩,kp TI (by simp) _ P0,⟨x0,y0,kp TO (by simp) _ O0⟩,J1.keep λo e=>kp i1 (by simp) o e,J2.keep λo e=>kp i2 (by simp) o e⟩
   (T1.keep λo e=>kp t1 (by simp) o (kk t1 o ht.1 e)) (T2.keep λo e=>kp t2 (by simp) o (kk t2 o ht.2 e)) ht (λi p e=>?_) ?_ hR⟩
  .have hb':b≠d:=nd b (by
    simp only[AJ,A7,Az]at hb ⊢;rcases hb with q|q|q|q <;> simp[q])
   exact ⟨(ds b hb').trans (hf b hb).1,(hf b hb).2⟩
  .obtain ⟨a1,a2,q1,q2,q3,q4⟩:=hp (i+1) p (~~~e);exact ⟨a1,a2,by rw[show n+1+i=n+(i+1) by omega];calc q1,by rw[show n+1+i=n+(i+1) by omega];calc q2,q3,q4⟩
  .simp only[Ci]at he;omega
end
section
variable {X:Cx} {a b:Expr} {p p2 pos pos2:Pos}
def ZU (hu:X.A.units+1+4<cLine) (hc:X.calm=true) (hgT:Gl X "dict") (hmT:X.mg "dict" = none) (hg:Gl X "zip") (hm:X.mg "zip" = none) (ha:PA X [a,b] ta)
  (hs:starEach [a,b] X.env=[(false,eval a X.env),(false,eval b X.env)]:=by rfl) (hs2:starEach [b] X.env=[(false,eval b X.env)]:=by rfl)
  (hs':starEach [.Call (.Name "zip" p2) [a,b] [] pos2] X.env=(false,eval (.Call (.Name "zip" p2) [a,b] [] pos2) X.env)::starEach [] X.env:=by rfl) (hpl':(backTo pos (starEach [] X.env)).any (·.1)=false:=by rfl) :
  PE X (.Call (.Name "dict" p) [.Call (.Name "zip" p2) [a,b] [] pos2] [] pos) (λY H Q=>ta Y H λvs H1=>∃ b1 b2 l1 l2 xs ys isT,vs=[.ref l1,.ref l2]/\SqG X.K b1 H1 l1 xs/\SqG X.K b2 H1 l2 ys /\
   ∀ q,H1 q=none -> ∃ H2,PutsP q (xs.zip ys) (upd H1 q (HK isT)) H2/\Q (.ref q) H2):=by
 intro zB s Y H Q I h;calc E2 (C7 I hgT hmT (by rfl) ?_ () ());calc callWith_type1 ?_ hs' hpl';rw[hs'];show wpAny _ _ (spliced ((false,eval (.Call (.Name "zip" p2) [a,b] [] pos2) X.env)::backTo pos (starEach [] X.env))) _ _ s;calc Calls.spliced_cons ?_;refine Call_ (C7 I hg hm (by rfl) (PyProof.Rows.callWith_type1 (thn (ha pos2 zB s Y H _ I h) λus s1 ⟨vs,H1,I1,r1,q1⟩=>?_) (by rw[hs,hs2]) (by rw[hs2];rfl)));let⟨b1,b2,l1,l2,xs,ys,isT,rfl,s1',s2',q⟩:=q1;cases r1 with
 |cons r rr=>
  cases rr with
  |cons r' rr=>
   ext rr;ext r;ext r';let⟨its,rv,p1⟩:=MR I1 s1';let⟨its2,rv2,p2⟩:=MR I1 s2';let d1:l1<⇑s1:=Jx p1;let d2:l2<⇑s1:=Jx p2;let d1':@LT.lt Nat _ l1 ⇑s1:=d1;let d2':@LT.lt Nat _ l2 ⇑s1:=d2;let n1:=rv.length;let n2:=rv2.length;let hA:X.A.handled=none:=I1.ok.hd hc;refine Ru p1 p2 λh' Z kp=>Calls.spliced_nil ?_;let I2:Inv X zB Y H1 { s1 with heap:=h' }:=I1.kept (t':=s1.toks) kp;let hz:=AG Z.z;let hq:H1 h'.objs.size=none:=I2.hok.fresh (AF _);let⟨H2,P,qq⟩:=q _ hq;refine callType_codes (Q₁:=λobj s₁=>obj=.ref h'.objs.size/\s₁={ s1 with heap:=h'.push Fo }) F.kt_called_dict (F.kt_typeCall_dict_1 _) F.entry_dict_init (kt_code_dict_new (s:={ s1 with heap:=h' }) _ ⟨rfl,rfl⟩) ?_;rintro obj s₁ ⟨rfl,rfl⟩;let big:sysModules<h'.objs.size:=I2.big;let hsm:(h'.objs.size==sysModules)=false:=by rw[beq_eq_false_iff_ne];exact B9 big
   let pD:(h'.push Fo).get? h'.objs.size=some Fo:=AK _ rfl;let I3:Inv X zB Y (upd H1 h'.objs.size (HK isT)) { s1 with heap:=h'.push Fo }:=by
    refine I2.laid (t':=s1.toks) (λb q z=>AH _ z) (AF _) ?_;cases isT with
    |false=>exact ⟨A8 _,hsm,[],.nil,Fo,#[],0,pD,⟨rfl,rfl,rfl⟩,rfl,λ_ he=>by simp at he,.nil,List.nodup_nil⟩
    |true=>exact ⟨A8 _,hsm,[],.nil,Fo,#[],0,pD,⟨rfl,rfl,rfl⟩,rfl,rfl,List.nodup_nil⟩
   let hZ1:(h'.push Fo).get? (⇑s1+4)=_:=AH _ Z.z;calc ⟨⟨_,pD,rfl⟩,F.args_dict_init_2 _ _,?_⟩;unfold Builtin.«dict.__init__»;calc AA ?_;erw[Builtin.Dict.selfAndRest];calc AA (wpAny_notOrdered_dict ⟨_,pD,rfl⟩ ?_);show wpAny _ _ (pure (h'.objs.size,[Value.ref (⇑s1+4)])) _ _ _;calc AB ?_;show wpAny _ _ (Builtin.Dict.updateFrom "dict.__init__" h'.objs.size (.ref (⇑s1+4)) [] .none) _ _ _;erw[Builtin.Dict.updateFrom];calc AA (C8 (T := "zip") ⟨_,hZ1,rfl⟩ ?_);rw[AD ()];refine AA (eM hZ1 (~~~hA) λh2 tk k=>?_);let I4:Inv X zB Y (upd H1 h'.objs.size (HK isT)) { s1 with heap:=h2,toks:=tk }:=I3.kept (t':=tk) k;rw[AD (show (none:Option Value).isNone=true from rfl)];calc AA (Bo ?_);let kk:∀ c o,h'.get? c=some o->h2.get? c=some o:=λc o e=>k c o (AH _ e);calc AA (fK (s:={ s1 with heap:=h2,toks:=tk }) (kk _ _ Z.z) ?_);calc AB ⟨Ds JZ _,?_⟩;let l4:⇑s1+4<h'.objs.size:=hz
   refine R1 (b1:=b1) (b2:=b2) (xs:=its) (ys:=its2) (show X.A.in1.units+2<cLine from Ez (by show X.A.units+1+2<=_;omega) hu) (~~~hA) (zipApart_new d1 d2) (λm=>?_) P 0 0 _ I4 (λb hb=>?_)
    ⟨⟨.none,false,.inl rfl,kk _ _ Z.z⟩,kk _ _ Z.ti,let ⟨x,y,e⟩:=Z.to;⟨x,y,kk _ _ e⟩,Z.a.keep λo e=>kk _ o e,Z.b.keep λo e=>kk _ o e⟩ (p1.keep λo e=>kk _ o (kp _ o e)) (p2.keep λo e=>kk _ o (kp _ o e)) ⟨λm=>?_,λm=>?_⟩ (λi pr e=>?_) ?_ λs' I'=>⟨rfl,.ref h'.objs.size,H2,I',rfl,qq⟩
   .simp only[AJ,A7,Az]at m;rcases m with q|q|q|q|q|q|q <;> (have q':=BI (id:Nat->Nat) q;simp only[id]at q';omega)
   .have g:⇑s1<=b/\b<h'.objs.size:=by
     simp only[AJ,A7,Az]at hb;rcases hb with rfl|rfl|rfl|rfl
     .exact ⟨Ei _ 4,l4⟩
     .exact ⟨Ei _ 3,Nat.lt_of_succ_lt l4⟩
     .exact ⟨AF _,Ez (Ei _ 4) l4⟩
     .exact ⟨Ei _ 1,Ez (Nat.add_le_add_left () _) l4⟩
    let ff:=I1.fpOk g.1 (I1.hok.fresh g.1);exact ⟨by rw[zS (AU g.2)];calc ff.1,ff.2⟩
   .simp only[AJ,A7,Az]at m;rcases m with q|q|q|q <;> (have q':=BI (id:Nat->Nat) q;simp only[id]at q';omega)
   .simp only[AJ,A7,Az]at m;rcases m with q|q|q|q <;> (have q':=BI (id:Nat->Nat) q;simp only[id]at q';omega)
   .obtain ⟨f1,f2⟩:=List.getElem?_zip_eq_some.mp e;let⟨u,hu',ru⟩:=rv.get f1;let⟨u2,hu2,ru2⟩:=rv2.get f2;exact ⟨u,u2,by rw[Nat.zero_add];calc hu',by rw[Nat.zero_add];calc hu2,ru,ru2⟩
   .rw[List.length_zip,Nat.zero_add,<-n1,<-n2];omega
end
def G8 (n:Nat):List (D × D)->Mem->Option Mem
 |[],M=>some M
 | (k,v)::ds,M=>match FV M n k v with
  |some M1=>G8 n ds M1
  |none=>none
def GR (isT:Bool) (g:FA):FE:=λY M=>match g Y M with
 |some ([x,y],M1)=>match zr M1 (.dat x),zr M1 (.dat y) with
  |some xs,some ys=>match G8 M1.length (xs.zip ys) (M1++[LL isT]) with
   |some M2=>some (.dat (.ref M1.length),M2)
   |none=>none
  |_,_=>none
 |_=>none
theorem Md {K:Yb} {n:Nat} {p:Yt}:∀ {xs ys:List D} {L:Yg} {M M':Mem} {H:Hp} {us vs:List V},Cor K L M H->L[n]?=some p->zE L H xs us->zE L H ys vs->G8 n (xs.zip ys) M=some M' -> ∃ H',PutsP p (us.zip vs) H H'/\Cor K L M' H'/\Stp L H L H'
 |[],ys,L,M,M',H,us,vs,c,lp,r,r',e=>by
  erw[zE]at r;subst r;rw[List.zip_nil_left]at e;ext e;rw[List.zip_nil_left];calc ⟨H,.nil,c,.refl L H⟩
 |x::xs,[],L,M,M',H,us,vs,c,lp,r,r',e=>by
  erw[zE]at r';subst r';rw[List.zip_nil_right]at e;ext e;rw[List.zip_nil_right];calc ⟨H,.nil,c,.refl L H⟩
 |x::xs,y::ys,L,M,M',H,us,vs,c,lp,r,r',e=>by
  unfold zE at r r';let⟨u,us',rfl,r1,r2⟩:=r;let⟨v,vs',rfl,r3,r4⟩:=r';rw[List.zip_cons_cons]at e ⊢;erw[G8]at e;cbv at e
  .rename_i M1 e1;let⟨H1,dp,c1,s1⟩:=Qn c lp r1 r3 e1;let⟨H2,P,c2,s2⟩:=Md c1 lp (r2.stp s1) (r4.stp s1) e;exact ⟨H2,.cons dp P,c2,s1.trans s2⟩
  .cases e
section
variable {X:Cx} {a b:Expr} {p p2 pos pos2:Pos}
def VN (isT:Bool) (hu:X.A.units+1+4<cLine) (hc:X.calm=true) (hgT:Gl X "dict") (hmT:X.mg "dict" = none) (hg:Gl X "zip") (hm:X.mg "zip" = none) (ha:QA X [a,b] g)
  (hs:starEach [a,b] X.env=[(false,eval a X.env),(false,eval b X.env)]:=by rfl) (hs2:starEach [b] X.env=[(false,eval b X.env)]:=by rfl)
  (hs':starEach [.Call (.Name "zip" p2) [a,b] [] pos2] X.env=(false,eval (.Call (.Name "zip" p2) [a,b] [] pos2) X.env)::starEach [] X.env:=by rfl) (hpl':(backTo pos (starEach [] X.env)).any (·.1)=false:=by rfl) :
  QE X (.Call (.Name "dict" p) [.Call (.Name "zip" p2) [a,b] [] pos2] [] pos) (GR isT g):=.mk <| PE.imp (ZU hu hc hgT hmT hg hm ha.un hs hs2 hs' hpl') λτ H Q zz=>by
 let⟨L,Y,M,d,M',c,rs,hf,q⟩:=zz;erw[GR]at hf;cbv at hf
 .rename_i x y M1 e1;cbv at hf
  .rename_i ds es' e2 e3;cbv at hf
   .rename_i M2 e4;ext hf;refine ⟨L,Y,M,_,_,c,rs,e1,λL1 H1 vs s1 c1 r1=>?_⟩;let⟨v,v',rfl,r2,r3⟩:=r1.two;let⟨b1,l1,rfl,_,k1⟩:=Pb c1 r2 e2;let⟨b2,l2,rfl,_,k2⟩:=Pb c1 r3 e3;let⟨ws1,g1,p1⟩:=k1 L1 H1 _ (.refl _ _) c1 e2;let⟨ws2,g2,p2⟩:=k2 L1 H1 _ (.refl _ _) c1 e3;refine ⟨b1,b2,l1,l2,ws1,ws2,isT,rfl,g1,g2,λp hp=>?_⟩;obtain ⟨c0,s0⟩:Cor X.K (L1++[p]) (M1++[LL isT]) (upd H1 p (HK isT))/\Stp L1 H1 (L1++[p]) (upd H1 p (HK isT)):=by
     cases isT with
     |true=>calc c1.pushO (m:=.dicT []) hp ⟨[],CH,rfl⟩
     |false=>exact c1.pushO (m:=.dict []) hp ⟨[],CH,rfl⟩
    let lp0:(L1++[p])[M1.length]?=some p:=by rw[<-c1.len];simp
    let⟨H2,P,c2,s2⟩:=Md c0 lp0 (p1.stp s0) (p2.stp s0) e4;calc ⟨H2,P,q _ _ _ ((s1.trans s0).trans s2) c2 ?_⟩;erw[zT,Rep];exact ⟨p,rfl,lp0⟩
   .cases hf
  .cases hf
 .cases hf
end
end L3
namespace L2
section
variable {X:Cx} {scope:Y0} {elt t1 i1 t2 i2:Expr} {f1 f2:Yi} {pos:Pos} {own own2:Yj} {wi wi2:TI} {g g2:TG} {tc tc2:TT} {te:TE}
def V0 (hN:X.N.Nodup) (hi':X.N[i]?=some x) (hx:Loc X.env.scope x) (hfn:X.fn x=true\/X.env.scope.names.lookup x=some .local)
  (hsub:∀ i∈own2,i∈own) (C:CompIn X scope own) (hcalm:X.calm=true) (hi:PI X t1 i1 wi) (p:CompParts2 X scope t1 f1 t2 i2 f2 elt g tc wi2 g2 tc2 te)
  (hsw:swapsWith (BE elt t1 i1 f1 t2 i2 f2 scope pos) (some (.Name x pos')) pos''.line X.env=pure true) (hs:∀ x,foldedSetIterable i1 X.env x=pure x:=by intro _;rfl) :
  PS X (.Assign [.Name x pos'] (BE elt t1 i1 f1 t2 i2 f2 scope pos) pos'') (IJ (Le own own2 wi g tc wi2 g2 tc2 te) (Cd i)):=by
 intro zB s Y H D I h;let⟨cl,hcl,c1,c2⟩:=C.sc.closure I;rw[exec_Assign_Name_used _ _ _ _ hsw];calc AA (Ce (AA ?_));show wpAny _ X.A (do let _ <- comprehension (BE elt t1 i1 f1 t2 i2 f2 scope pos) scope X.env _ (newList []) false (eval i1 X.env) (some (assign (.Name x pos') X.env))) _ _ s
 refine AA (AS (GP (use:=some (assign (.Name x pos') X.env)) (Q:=λ_ s'=>SP X zB D .next s') rfl hs hcl C.sc.kind C.sc.names
  (thn (hi zB s Y H _ I h) λv s1 h1=>thn h1 λitv s2 h2=>?_)) (λ_ s' hq=>AB (AB hq)) λ_ _ e=>e)
 let⟨it,fp,tn,J,H2,e,I2,T,st2,f2,W,⟨m0,w0⟩,turn⟩:=h2;subst e
 refine OY hsub C hcalm I2 T st2 f2 c1 c2 (p.g _ _ _ _ _) (p.c _ _ _ _ _) (p.w2 _ _ _ _ _) (p.g2 _ _ _ _ _) (p.c2 _ _ _ _ _) (p.e _ _ _ _ _) (p.s2 _ _ _ _ _) (RR:=λacc C r s'=>compPost (model X.prog X.w) X.A X.xe (some (assign (.Name x pos') X.env)) (λ_ s'=>SP X zB D .next s') acc C r s')
  (QQ:=λys H=>∀ E,H E=none->Cd i (.ref E) Y (upd H E (.lst ys)) D.nx) w0 turn ?_
 intro σc H' s' its n ys Ic rv hz qq;let⟨m,hn,_⟩:=Ic.loc;let⟨J',nD⟩:=JJ (h':=s'.heap) I2 f2 Ic rv hz (.refl ..);let⟨oC,es,ep,hoC,hdC,r1,r2⟩:=id hn;let nC:upd H' ⇑s2 (.lst ys) (⇑s2+1)=none:=by rw[zS (B9 (CM _))];exact Ic.free
 let K':Inv X (zB++[(⇑s2+1,oC)]) Y (upd H' ⇑s2 (.lst ys)) s':=J'.pins_of λq hq=>by
  rcases Au.mp hq with z|z
  .exact J'.pin q (Af _ z)
  .have e:q=(⇑s2+1,oC):=by simpa using z
   subst e;refine ⟨hoC,nC,B9 (Bx I2.lt),I2.nofs (Cu _),λv z=>?_⟩;let z':oC.data=.cell v:=z;rw[hdC]at z';ext z'
 show wpAny _ X.A (assign (.Name x pos') X.env (.ref ⇑s2)) _ _ _;refine thn (LX hN hi' hx hfn _ s' Y _ (.ref ⇑s2) (.ref ⇑s2) _ K' rfl (qq _ nD)) λ_ s'' ⟨Y'',H'',I'',q''⟩=>?_;let⟨eC,_⟩:=I''.pin (⇑s2+1,oC) (by simp);refine ⟨m,⟨oC,es,ep,eC,hdC,r1,r2⟩,λh' hs'=>⟨Y'',H'',?_,q''⟩⟩;let I3:Inv X zB Y'' H'' s'':=I''.unpinned;let⟨_,nC'',neC,_,_⟩:=I''.pin (⇑s2+1,oC) (by simp);refine I3.turned (t':=s''.toks) (it:=⇑s2+1) (λb o hb e=>hs'.extBut b o hb e) nC'' neC (.inr (BY I2.sz (Cu _))) (λx c e z=>?_) (λq hq z=>?_)
 .obtain ⟨v,o,ho,hd⟩:=I3.cell x c e;rw[z,eC]at ho;ext ho;rw[hdC]at hd;ext hd
 .obtain ⟨e,_⟩:=I2.pin q hq;calc AU (Bx (AG e)) z
end
end L2
namespace L3
open L2
section
variable {X:Cx} {scope:Y0} {elt t1 i1 t2 i2:Expr} {f1 f2:Yi} {pos:Pos}
def Zw (hN:X.N.Nodup) (hi':X.N[i]?=some x) (hx:Loc X.env.scope x) (hfn:X.fn x=true\/X.env.scope.names.lookup x=some .local)
  (hsw:swapsWith (BE elt t1 i1 f1 t2 i2 f2 scope pos) (some (.Name x pos')) pos''.line X.env=pure true)
  (hsub:∀ i∈own2,i∈own) (hg:CK own g fg) (hg2:CK own2 g2 fg2) (C:CompIn X scope own) (hcalm:X.calm=true) (hi:QI X t1 i1 fi) (p:QParts2 X scope t1 f1 t2 i2 f2 elt g tc fi2 g2 tc2 te) (hs:∀ x,foldedSetIterable i1 X.env x=pure x:=by intro _;rfl) :
  QS X (.Assign [.Name x pos'] (BE elt t1 i1 f1 t2 i2 f2 scope pos) pos'') (AN i (D5 own own2 fi fg tc fi2 fg2 tc2 te)) :=
 .mk <| PS.imp (V0 hN hi' hx hfn hsub C hcalm hi.un ⟨p.g,λzB cl s H fp=>(p.c zB cl s H fp).un,λzB cl s H fp=>(p.w2 zB cl s H fp).un,p.g2,λzB cl s H fp=>(p.c2 zB cl s H fp).un,λzB cl s H fp=>(CZ (p.e zB cl s H fp)).un,p.s2⟩ hsw hs) λ_ _ _ z=>MJ (λ_ _ _ z=>Qk hg hg2 z) z
end
theorem Qg (ns:Ye):∀ i,i<=ns.length->preSum (λi=>ns.getD i 0) i=(ns.take i).sum
 |0,_=>by simp[preSum]
 |i+1,h=>by
  rw[preSum,Qg ns i (),List.take_add_one,AL (),List.sum_append,Ai,AL ()];simp
section
variable {X:Cx} {e:Expr} {pos p:Pos}
def dN (hc:X.calm=true):CC X (.builtin "sum") (λxs H Q=>∃ (a:Addr) (ns:List Int),xs=[.ref a]/\SqG X.K false H a (ns.map V.int)/\Q (.int ns.sum) H):=by
 intro zB s Y H xs us Q I r h;let⟨a,ns,rfl,hs,q⟩:=h;let⟨u,rfl,ru⟩:=EL r;ext ru;let⟨its,rv,p1⟩:=MR I hs;let hl:its.toArray.size=ns.length:=by have:=rv.length;simp at this ⊢;omega
 let hlt:=Jx p1;let W:=(VE (prog:=X.prog) (w:=X.w) (A:=X.A.in1) (I.ok.hd hc) false ⇑s a (AU hlt) its.toArray).toS;refine call_sum_walkAnyS (Kc p1 ⟨⇑s,_,_,_,_,_,_,λi=>ns.getD i 0,rfl,W,⟨Ly (AK _ rfl),p1.keep λo e=>AH _ e⟩,λc hc'=>?_,λ_ _ hv=>YL rv hv,λs' t' hm=>?_⟩)
 .show c<(s.heap.push (itO false a)).objs.size;rw[Ax];simp only[AJ,A7,Az]at hc';rcases hc' with rfl|rfl
  .exact CM _
  .exact Bx hlt
 .obtain ⟨h',g',d',tk',os'⟩:=s';let e1:g'=s.gens:=hm.gens;let e2:d'=s.drawn:=hm.drawn;let e3:os'=s.os:=hm.os;subst e1 e2 e3;rw[hl,Qg ns _ (AF _),List.take_of_length_le (AF _)];calc ⟨.int ns.sum,H,I.kept λb o e=>hm.heap b o (λhb=>absurd (AG e) ((BD.mp hb)▸BK _)) (AH _ e),⟨t',rfl⟩,q⟩
def FR:KB:=λxs M=>match xs with
 |[.fl ds]=>match zk ds with
  |some ns=>some (.dat (.int ns.sum),M)
  |_=>none
 |_=>none
def Tr {K:Yb}:C4 K (λxs H Q=>∃ (a:Yt) (ns:Ye),xs=[.ref a]/\SqG K false H a (ns.map V.int)/\Q (.int ns.sum) H) FR:=by
 intro L M M' H H0 xs d vs Q c r hk q;erw[FR]at hk;cbv at hk
 .rename_i ds;cbv at hk
  .rename_i ns e2;ext hk;let⟨v,rfl,r1⟩:=r.one;let⟨l,vs',rfl,hq,rr⟩:=Cf c r1 (show BO M (.fl ds)=some ds from rfl);let ev:=Fq e2 rr;subst ev;exact ⟨l,ns,rfl,.inl hq,q L H _ (.refl L H) c (B6 (L:=L) (H:=H))⟩
  .cases hk
 .cases hk
def RU (hcalm:X.calm=true) (hg:Gl X "sum") (hm:X.mg "sum" = none) (ha:QAE X [e] fa) (he:starEach [e] X.env=(false,eval e X.env)::starEach [] X.env:=by rfl) (hpl:(backTo pos (starEach [] X.env)).any (·.1)=false:=by rfl):QE X (.Call (.Name "sum" p) [e] [] pos) (fB FR fa) :=
 F6 Tr (dN hcalm) (by rfl) hg hm ha () () he hpl
end
open ST
end L3
namespace ST
section
variable {prog:Ym} {w:Yo} {A:Yn} {E:Yc} {s:Yl} {κ:SortKind} {vs:Yf} {r:Yr} {st:SortSt}
def YZ:∀ n,n<64->minRun' n n 0=n:=by decide+kernel
def Dn (r:Yr) (st0 st:SortSt):Prop:=failedOf st=none/\(arrOf st).toList.Perm (arrOf st0).toList/\(arrOf st).toList.Pairwise (λx y=>r x.1<=r y.1)/\(pendingOf st).size<=1
def cT (hn:xs.size<=n) (hu:RUp r xs 0 n):xs.toList.Pairwise (λx y=>r x.1<=r y.1):=by
 rw[List.pairwise_iff_getElem];intro i j hi hj hij;rw[Ae]at hi hj;have:=hu i j (A8 _) (De hij) ();erw[KR]at this;rw[BM hi,BM hj]at this;calc this
def Xa (R:EE prog w s κ vs r) (hk:kindOf st=κ) (hf:failedOf st=none) (hp0:pendingOf st = #[]) (hv:∀ x∈(arrOf st).toList,x.1∈vs) (hn:(arrOf st).size<64)
  (q:∀ st',Dn r st st'->Q Unit.unit st'):wpS (model prog w) A E s sortRuns' Q st:=by
 let hm:=YZ _ hn;calc wpS_bind (wpS_get ?_);refine wpS_bind (wpS_mono (wpS_forRange (I:=λx c st'=>(c=(none,0)/\x=0/\st'=st)\/(c=(none,(arrOf st).size)/\Dn r st st')) (Q:=λc st'=>(∃ lo,c=(none,lo))/\Dn r st st') ?step ?fin (.inl ⟨rfl,rfl,rfl⟩)) ?post)
 case fin=>
  rintro c st' (⟨rfl,hx,rfl⟩|⟨rfl,hd⟩)
  .have h0:max 0 (arrOf st').size=0:=hx;let e:(arrOf st').toList=[]:=E5.mp (by rw[Ae];omega);exact ⟨⟨_,rfl⟩,hf,.refl _,by rw[e];calc .nil,by rw[hp0];simp⟩
  .exact ⟨⟨_,rfl⟩,hd⟩
 case post=>
  rintro c st' ⟨⟨lo,rfl⟩,hd⟩;refine wpS_bind (wpS_mono (wpS_forRange (I:=λx c st2=>c=(none,Unit.unit)/\Dn r st st2) (Q:=λc st2=>c=(none,Unit.unit)/\Dn r st st2) ?step2 (λ_ _ z=>z) ⟨rfl,hd⟩) ?post2)
  case step2=>
   rintro x c st2 _ hx ⟨rfl,hd⟩;calc wpS_bind (wpS_get ?_);exact EB (λ_=>wpS_pure ⟨rfl,hd⟩) (λc1=>absurd hd.2.2.2 c1)
  case post2=>
   rintro c st2 ⟨rfl,hd⟩;exact wpS_pure (q st2 hd)
 case step=>
  rintro x c st' _ hx (⟨rfl,rfl,rfl⟩|⟨rfl,hd⟩)
  .refine EB (λc1=>?_) (λc1=>?_)
   .have c1':(arrOf st').size<=0:=c1;let e:(arrOf st').toList=[]:=E5.mp (by rw[Ae];omega);exact wpS_pure ⟨⟨_,rfl⟩,hf,.refl _,by rw[e];calc .nil,by rw[hp0];simp⟩
   let c1':0<(arrOf st').size:=Nat.lt_of_not_le c1;refine wpS_bind (R9 (lo:=0) (nrem:=(arrOf st').size-0) R hk hv () () λn st1 cb n1 n2 hu=>?_);let fin:∀ (n:Nat) (st1:SortSt),CB 0 st' st1->RUp r (arrOf st1) 0 (0+n)->n=(arrOf st').size->((none:Option Unit),0+n)=(none,(arrOf st').size)/\Dn r st' (setPending st1 ((pendingOf st1).push (0,n,0))):=λn st1 cb hu e=>⟨by rw[e,Nat.zero_add],cb.f.trans hf,cb.perm.toList,cT (by have:=cb.size;show (arrOf st1).size<=0+n;omega) hu,by
    show ((pendingOf st1).push (0,n,0)).size<=1;rw[Array.size_push,cb.p,hp0];simp⟩
   refine EB (λc2=>?_) (λc2=>?_)
   .refine wpS_bind (wpS_lift (Bo ⟨rfl,?_⟩));let c2':n<minRun' (arrOf st').size (arrOf st').size 0:=c2;refine wpS_bind (Vp (n:=min ((arrOf st').size-0) (minRun' (arrOf st').size (arrOf st').size 0)) R hk hv cb () n1 () hu λst2 cb2 hu2=>?_);refine EB (λz=>absurd z ()) (λ_=>?_);refine wpS_bind (wpS_get ?_);split
    .rename_i hb;let hb:(pendingOf st2).back?=some _:=hb;rw[cb2.p,hp0]at hb;ext hb
    .exact wpS_bind (wpS_modify (wpS_pure (.inr (fin _ st2 cb2 hu2 (show min ((arrOf st').size-0) (minRun' (arrOf st').size (arrOf st').size 0)=(arrOf st').size by rw[hm];omega)))))
   .have c2':¬ n<minRun' (arrOf st').size (arrOf st').size 0:=c2;refine wpS_bind (wpS_get ?_);split
    .rename_i hb;let hb:(pendingOf st1).back?=some _:=hb;rw[cb.p,hp0]at hb;ext hb
    .exact wpS_bind (wpS_modify (wpS_pure (.inr (fin _ st1 cb hu ()))))
  .exact EB (λ_=>wpS_pure ⟨⟨_,rfl⟩,hd⟩) (λc1=>absurd (AF _) c1)
end
section
variable {prog:Ym} {w:Yo} {A:Yn} {E:Yc} {s:Yl} {κ:SortKind} {vs:Yf} {r:Yr}
def Ts (h64:vs.length<64) (R:EE prog w s κ vs r):wpS (model prog w) A E s sortRuns' (λ_ st=>failedOf st=none/\((arrOf st).map (·.2)).toList.Perm vs/\((arrOf st).map (·.2)).toList.Pairwise λx y=>r x<=r y) (SortSt.mk' κ (pairsOf vs) #[] 7 none):=by
 let hz:(pairsOf vs).toList=vs.zip vs:=pairsOf_toList vs;let hv:∀ p∈(pairsOf vs).toList,p.1∈vs:=λp hp=>by rw[hz]at hp;exact (mem_zip_self hp).2
 let hl:(pairsOf vs).size<64:=by rw[<-Ae,hz,List.length_zip];omega
 refine Xa R rfl rfl rfl hv hl λst hd=>⟨hd.1,?_,?_⟩
 .rw[Array.toList_map];have:=hd.2.1.map (·.2);rw[show (arrOf (SortSt.mk' κ (pairsOf vs) #[] 7 none)).toList=vs.zip vs from hz,List.map_snd_zip (AF _)]at this;exact this
 .rw[Array.toList_map];let hp:(arrOf st).toList.Perm (vs.zip vs):=hz▸hd.2.1;refine EY.mpr ((List.Pairwise.and_mem.mp hd.2.2.1).imp λ{x y} h=>?_);let hx:=(mem_zip_self (hp.mem_iff.mp h.1)).1;let hy:=(mem_zip_self (hp.mem_iff.mp h.2.1)).1;rw[<-hx,<-hy];calc h.2.2
def dX
  (hc:wpAny (model prog w) A.in1 (collect v) (λvs s1=>vs.length<64/\LQ s1.heap vs /\
   ∀ (h':Heap) (out:List Value) (n:Nat),(∀ b u,s1.heap.get? b=some u->h'.get? b=some u)->h'.get? ⇑s1=some (seqObj "list" out.toArray n)->out.Perm vs->out.Pairwise (λx y=>AZ (CL s1.heap y) (CL s1.heap x)=false)->Q (.ref ⇑s1) { s1 with heap:=h' }) E s) :
  wpAny (model prog w) A (call (.builtin "sorted") [v]) Q E s:=by
 calc Calls.call_function_entry kind_sorted plain_sorted entry_sorted (args_sorted1 _) ?_;unfold Builtin.«sorted»;calc AA (m:=checkCount "sorted" 1 1 _) (AB ?_);refine AA (AS hc (λvs s1 z=>?_) λ_ _ e=>e);let⟨h64,ht,h⟩:=z;let hz:vs.length<=sizeLine:=BY (De h64) ();calc AA (wpAny_newList ?_ hz);let hoL:(s1.heap.push (seqObj "list" vs.toArray 0)).get? ⇑s1=some (seqObj "list" vs.toArray 0):=AK _ rfl;refine AA (A6 (Ap slot_list_sort ⟨_,hoL,rfl⟩ entry_list_sort (gE (κ:=tuples' true) (F:=λout=>out.toList.Perm vs/\out.toList.Pairwise (λx y=>AZ (CL s1.heap y) (CL s1.heap x)=false)) (s:={ s1 with heap:=s1.heap.push (seqObj "list" vs.toArray 0) }) hoL hz (λout e=>by rw[<-Ae];calc e.1.length_eq) (λh2=>⟨by simp,?_⟩) ?_ λout e=>⟨_,rfl,?_⟩) (args_list_sort _)))
 .match vs,h2 with
  |[],_=>calc .nil
  |[x],_=>simp
  |_::_::_,h2=>simp at h2;omega
 .intro h2 h6 k6;let kT:∀ {v xs},BX s1.heap v xs->BX h6 v xs:=λ{v xs} t=>t.keep λb o _ e=>k6 b o (λz=>BK _ (z▸AG e)) (AH _ e);let ht6:LQ h6 vs:=λv hv=>let ⟨x,xs,t⟩:=ht v hv;⟨x,xs,kT t⟩;refine ⟨λA E Q q=>?_,λA E=>wpS_mono (Ts h64 (Xi (s:={ s1 with heap:=h6 }) ht6)) ?_⟩
  .match vs,h2,ht6 with
   |v::vs,_,ht6=>exact UD (s:={ s1 with heap:=h6 }) ht6 q
  .rintro _ st ⟨e1,e2,e3⟩;refine ⟨e1,e2,(List.Pairwise.and_mem.mp e3).imp λ{x y} z=>?_⟩;let mx:=e2.mem_iff.mp z.1;let my:=e2.mem_iff.mp z.2.1;let⟨a,as,tx⟩:=ht x mx;let⟨b,bs,ty⟩:=ht y my;rw[Ew tx,Ew ty,<-Ew (kT tx),<-Ew (kT ty),Qr (ks:=vs.map (CL h6)) (List.mem_map_of_mem my) (List.mem_map_of_mem mx)];have:rkV h6 vs x<=rkV h6 vs y:=z.2.2;erw[rkV]at this;exact BB ()
 .refine AB ⟨_,rfl,?_⟩;let g1:=get?_update_seq hoL (λ_=> #[]);let g4:=get?_update_seq (AH (seqObj "list" #[] 0) (AH (seqObj "tuple" vs.toArray 0) g1)) (λ_=>out);refine h _ out.toList _ (λb u e=>?_) (by rw[Array.toArray_toList];calc g4) e.1 e.2;let hb:⇑s1≠b:=λz=>BK _ (z▸AG e);calc (DK _ _ hb).trans (AH _ (AH _ ((DK _ _ hb).trans (AH _ e))))
end
open PySem.SetTable
def stp (mask:Nat) (p:Probe):Probe :=
 if p.more>0 then { p with j:=p.j+1,more:=p.more-1 } else
 { p with j:=(leap mask p.i p.perturb).1,more:=runEnd mask (leap mask p.i p.perturb).1-(leap mask p.i p.perturb).1,i:=(leap mask p.i p.perturb).1,perturb:=(leap mask p.i p.perturb).2 }
def sta (mask i q:Nat):Probe:={ j:=i,more:=runEnd mask i-i,i,perturb:=q,dummy:=none }
def pth (mask:Nat) (h:Int):Nat->Probe
 |0=>sta mask (bits h % (mask+1)) (bits h)
 |n+1=>stp mask (pth mask h n)
def NO (t:SetTable) (p:Probe):t.advance p=stp t.mask p:=rfl
theorem NZ (mask:Nat) (h:Int):∀ n,(pth mask h n).dummy=none
 |0=>rfl
 |n+1=>by
  have:=NZ mask h n;simp only[pth,stp];split <;> calc this
def rs (mask:Nat) (h:Int):Nat->Nat × Nat
 |0=>(bits h % (mask+1),bits h)
 |k+1=>leap mask (rs mask h k).1 (rs mask h k).2
def ix (mask:Nat) (h:Int):Nat->Nat
 |0=>0
 |k+1=>ix mask h k+(runEnd mask (rs mask h k).1-(rs mask h k).1)+1
def ON (mask i:Nat):i<=runEnd mask i/\runEnd mask i-i<=9:=by
 erw[runEnd];split <;> omega
theorem Qe (mask:Nat) (h:Int):∀ k,ix mask h k<=10*k
 |0=>AF _
 |k+1=>by
  have:=Qe mask h k;have:=(ON mask (rs mask h k).1).2;simp only[ix];omega
theorem LV (mask:Nat) (h:Int) (n i q:Nat) (e:pth mask h n=sta mask i q):∀ k,k<=runEnd mask i-i->pth mask h (n+k)={ sta mask i q with j:=i+k,more:=runEnd mask i-i-k }
 |0,_=>by rw[Nat.add_zero,e];rfl
 |k+1,hk=>by
  have:=LV mask h n i q e k ();rw[<-Nat.add_assoc,pth,this];let hp:runEnd mask i-i-k>0:=()
  simp only[stp,hp,BC,sta];congr 1
theorem JD (mask:Nat) (h:Int):∀ k,pth mask h (ix mask h k)=sta mask (rs mask h k).1 (rs mask h k).2
 |0=>rfl
 |k+1=>by
  have:=LV mask h _ _ _ (JD mask h k) _ (AF _);rw[ix,pth,this];simp[stp,sta,rs]
theorem OC (mask:Nat) (h:Int):∀ k,(rs mask h k).2=bits h / 32 ^ k
 |0=>by simp[rs]
 |k+1=>by
  simp only[rs,leap,OC mask h k];rw[Nat.div_div_eq_div_mul,Nat.pow_succ]
def W4 (h:Int):bits h<2 ^ 64:=by
 erw[bits];omega
def Sn (mask:Nat) (h:Int) (k:Nat):(rs mask h (13+k)).2=0:=by
 rw[OC];apply Nat.div_eq_of_lt;calc BH (W4 h) ?_;rw[Nat.pow_add];have:1<=32 ^ k:=Nat.pow_pos ()
 calc 2 ^ 64<=32 ^ 13*1:=()
  _<=_:=Nat.mul_le_mul_left _ this
def orb (m:Nat):Nat->Nat->Nat
 |0,i=>i
 |k+1,i=>(orb m k i*5+1) % m
theorem IZ (m:Nat) (a:Nat):∀ b i,orb m (b+a) i=orb m b (orb m a i)
 |0,i=>by simp[orb]
 |b+1,i=>by
  have:=IZ m a b i;rw[show b+1+a=(b+a)+1 from (),orb,this];rfl
theorem MN (mask:Nat) (h:Int):∀ k,(rs mask h (13+k)).1=orb (mask+1) k (rs mask h 13).1
 |0=>rfl
 |k+1=>by
  rw[<-Nat.add_assoc,rs,leap];have:=Sn mask h k;simp only[this,MN mask h k,orb]
def NF (mask:Nat) (h:Int):∀ k,(rs mask h k).1<mask+1
 |0=>Nat.mod_lt _ ()
 |k+1=>Nat.mod_lt _ ()
def Msk (mask:Nat):Prop:=mask=7\/mask=31\/mask=127
def gG:∀ i<8,∃ a<8,orb 8 a 0=i:=()
def aL:∀ i<32,∃ a<32,orb 32 a 0=i:=by decide+kernel
def WY:∀ i<128,∃ a<128,orb 128 a 0=i:=by decide+kernel
def fH {mask:Nat} (h:Msk mask):(∀ i<mask+1,∃ a<mask+1,orb (mask+1) a 0=i)/\orb (mask+1) (mask+1) 0=0:=by
 rcases h with e|e|e <;> subst e
 .exact ⟨gG,()⟩
 .exact ⟨aL,by decide+kernel⟩
 .exact ⟨WY,by decide+kernel⟩
def Mx {mask:Nat} (h:Msk mask) {i j:Nat} (hi:i<mask+1) (hj:j<mask+1):∃ k,k<=mask/\orb (mask+1) k i=j:=by
 let⟨q,z⟩:=fH h;let⟨a,ha,ea⟩:=q i hi;let⟨b,hb,eb⟩:=q j hj;rcases DM b a with c|c
 .refine ⟨b+(mask+1)-a,(),?_⟩;rw[<-ea,<-IZ,show b+(mask+1)-a+a=b+(mask+1)from by omega,IZ,z,eb]
 .refine ⟨b-a,(),?_⟩;rw[<-ea,<-IZ,show b-a+a=b from (),eb]
def Wh {mask:Nat} (hm:Msk mask) (h:Int) {j:Nat} (hj:j<=mask):∃ n<10*turns mask,(pth mask h n).j=j:=by
 let⟨k,hk,e⟩:=Mx hm (NF mask h 13) (show j<mask+1 by omega);refine ⟨ix mask h (13+k),?_,?_⟩
 .have:=Qe mask h (13+k);erw[turns];omega
 .rw[JD,<-e,<-MN];rfl
def Qw (mask:Nat) (h:i<=mask):i+(runEnd mask i-i)<=mask:=by
 erw[runEnd];split <;> omega
def Qu (mask:Nat) (h:Int) (n:Nat):(pth mask h n).j+(pth mask h n).more<=mask:=by
 induction n with
 |zero=>calc Qw mask (Nat.le_of_lt_succ (Nat.mod_lt _ ()))
 |succ n ih=>
  simp only[pth,stp];split
  .simp only;omega
  .exact Qw mask (Nat.le_of_lt_succ (Nat.mod_lt _ ()))
def OT {t:SetTable} (hu:Up t.place) (h:i<t.place.size):t.slot t.place[i]=.live i:=by
 let e:below t.place t.place[i]=i:=by
  let⟨a,b,c⟩:=FU hu t.place[i];rcases Nat.lt_trichotomy (below t.place t.place[i]) i with q|q|q
  .have:=c _ () (AF _);have:=hu.get q h;omega
  .exact q
  .have:=b i h q;omega
 erw[slot];simp[e,h]
def Ri {t:SetTable} (hd:t.dummies = #[]) (h:j∉t.place.toList):t.slot j=.empty:=by
 let h1:(t.place[below t.place j]?==some j)=false:=by
  rw[beq_eq_false_iff_ne];intro e;exact h (~~~Array.mem_of_getElem? e)
 erw[slot];simp[h1,hd,Ig]
theorem N9 {t:SetTable} (hu:Up t.place) (hd:t.dummies = #[]) (ha:Nat->Int) (h:Int):∀ fuel n,(∃ m,n<=m/\m<n+fuel/\(pth t.mask h m).j∉t.place.toList) ->
  ∃ m,n<=m/\(∀ k,n<=k->k<m -> ∃ i,∃ hi:i<t.place.size,t.place[i]=(pth t.mask h k).j/\ha i≠h) /\
   ((probe.go t ha h fuel (pth t.mask h n)=some (.empty (pth t.mask h m).j none)/\(pth t.mask h m).j∉t.place.toList) \/
    ∃ i,∃ hi:i<t.place.size,t.place[i]=(pth t.mask h m).j/\ha i=h/\probe.go t ha h fuel (pth t.mask h n)=some (.candidate (pth t.mask h m).j i (pth t.mask h (m+1))))
 |0,n,⟨m,a,b,_⟩=>absurd b ()
 |fuel+1,n,⟨m,a,b,c⟩=>by
  by_cases hn:(pth t.mask h n).j∈t.place.toList
  .obtain ⟨i,hi,e⟩:=Ck hn;let hi':i<t.place.size:=by simpa using hi
   let e':t.place[i]=(pth t.mask h n).j:=by simpa using e
   let hs:=OT hu hi';rw[e']at hs;erw[probe.go];rw[hs];by_cases q:ha i=h
   .refine ⟨n,AF _,λk h1 h2=>absurd h1 (),.inr ⟨i,hi',e',q,?_⟩⟩;simp only[q,beq_self_eq_true,BC,NO];rfl
   .have hne:n≠m:=λz=>c (z▸hn);let⟨m',h1,h2,h3⟩:=N9 hu hd ha h fuel (n+1) ⟨m,(),(),c⟩;refine ⟨m',(),λk k1 k2=>?_,?_⟩
    .rcases Nat.eq_or_lt_of_le k1 with z|z
     .subst z;exact ⟨i,hi',e',q⟩
     .exact h2 k z k2
    .have hb:(ha i==h)=false:=by simpa using q
     simp only[hb,NO];exact h3
  .unfold probe.go;rw[Ri hd hn];refine ⟨n,AF _,λk h1 h2=>absurd h1 (),.inl ⟨?_,hn⟩⟩;rw[NZ]
def OnP (mask:Nat) (h:Int) (j:Nat) (S:Nat->Prop):Prop:=∃ n,(pth mask h n).j=j /\ ∀ m<n,S (pth mask h m).j
def OnP.mono {mask:Nat} {h:Int} {j:Nat} {S S':Nat->Prop} (q:OnP mask h j S) (hs:∀ j,S j->S' j):OnP mask h j S':=by
 let⟨n,a,b⟩:=q;calc ⟨n,a,λm hm=>hs _ (b m hm)⟩
structure PT (t:SetTable) (es:List (Int × Value)):Prop where
 up:Up t.place
 nod:t.dummies = #[]
 msk:Msk t.mask
 siz:t.place.size=es.length
 inb:∀ j∈t.place.toList,j<=t.mask
 on:∀ p∈t.place.toList.zip es,OnP t.mask p.2.1 p.1 (· ∈ t.place.toList)
def cX (hu:Up xs) (h:j∈xs.toList):below xs (j+1)=below xs j+1:=by
 let⟨i,hi,e⟩:=Ck h;let hi':i<xs.size:=by simpa using hi
 let e':xs[i]=j:=by simpa using e
 rw[<-e',NP hu hi'];let⟨a,b,c⟩:=FU hu xs[i];rcases Nat.lt_trichotomy (below xs xs[i]) i with q|q|q
 .have:=c _ () (AF _);have:=hu.get q hi';omega
 .omega
 .have:=b i hi' q;omega
theorem Mh (hu:Up xs):∀ n,(∀ j<n,j∈xs.toList)->below xs n=n
 |0,_=>Q8 hu
 |n+1,h=>by rw[cX hu (h n ()),Mh hu n (λj hj=>h j ())]
def Wa {xs:Array Nat} (hu:Up xs) {mask:Nat} (h:xs.size<=mask):∃ j,j<=mask/\j∉xs.toList:=by
 refine qz λhc=>?_;have:=Mh hu (mask+1) (λj hj=>qz λq=>hc ⟨j,(),q⟩);have:=(FU hu (mask+1)).1;omega
def PT.free {t:SetTable} {es:List (Int × Value)} (q:PT t es) (hr:es.length<=t.mask) (h:Int):∃ n<10*turns t.mask,(pth t.mask h n).j∉t.place.toList:=by
 let⟨j,hj,e⟩:=Wa q.up (mask:=t.mask) (by rw[q.siz];calc hr);let⟨n,hn,en⟩:=Wh q.msk h hj;calc ⟨n,hn,en▸e⟩
def PT.put (q:PT t es.toList) (hj:j∉t.place.toList) (hm:j<=t.mask) (ho:OnP t.mask h j (· ∈ t.place.toList)) :
  PT (t.put j).1 (insertAt es (t.put j).2 (h,x)).toList:=by
 let hp:(t.put j).1.place.toList=t.place.toList.take (below t.place j)++j::t.place.toList.drop (below t.place j):=IL _ _ _;let hsub:∀ i,i∈t.place.toList->i∈(t.put j).1.place.toList:=λi hi=>by
  rw[hp,Au,AJ];rw[<-List.take_append_drop (below t.place j) t.place.toList,Au]at hi;exact hi.elim .inl (λz=> .inr (.inr z))
 let hof:∀ i,i∈(t.put j).1.place.toList->i=j\/i∈t.place.toList:=λi hi=>by
  rw[hp,Au,AJ]at hi;rcases hi with z|z|z
  .exact .inr (List.mem_of_mem_take z)
  .exact .inl z
  .exact .inr (List.mem_of_mem_drop z)
 let hsz:t.place.toList.length=es.toList.length:=by
  have:=q.siz;simpa using this
 refine ⟨NJ q.up hj,?_,q.msk,?_,λi hi=>?_,λp hp'=>?_⟩
 .show (if has t.dummies j then _ else t.dummies) = #[];rw[q.nod,Ig];rfl
 .have h1:=BI List.length hp;rw[IL];simp only[Aw,Ci,Cz,List.length_drop,Ae]at h1 ⊢;have:=q.siz;simp only[Ae]at this;show (t.put j).1.place.size=min (below t.place j) es.size+(es.size-below t.place j+1);omega
 .rcases hof i hi with z|z
  .subst z;exact hm
  .exact q.inb i z
 .rw[hp,IL,List.zip_append (by
   show (List.take (below t.place j) t.place.toList).length=(List.take (below t.place j) es.toList).length;simp only[Cz,hsz]),List.zip_cons_cons,Au,AJ]at hp'
  let hz:∀ p,p∈t.place.toList.zip es.toList->OnP (t.put j).1.mask p.2.1 p.1 (· ∈ (t.put j).1.place.toList):=λp z=>(q.on p z).mono hsub;rcases hp' with z|z|z
  .refine hz p ?_;let e:List.zip (List.take (below t.place j) t.place.toList) (List.take (t.put j).2 es.toList)=List.take (below t.place j) (t.place.toList.zip es.toList):=by
    simp only[List.zip_eq_zipWith,List.take_zipWith];rfl
   rw[e]at z;exact List.mem_of_mem_take z
  .subst z;exact ho.mono hsub
  .refine hz p ?_;let e:List.zip (List.drop (below t.place j) t.place.toList) (List.drop (t.put j).2 es.toList)=List.drop (below t.place j) (t.place.toList.zip es.toList):=by
    simp only[List.zip_eq_zipWith,List.drop_zipWith];rfl
   rw[e]at z;calc List.mem_of_mem_drop z
theorem Mk (mask:Nat) (h:Int):∀ a b,a<b->ix mask h a<ix mask h b
 |a,0,hab=>absurd hab ()
 |a,b+1,hab=>by
  simp only[ix];rcases Nat.eq_or_lt_of_le (Nat.le_of_lt_succ hab)with z|z
  .subst z;omega
  .have:=Mk mask h a b z;omega
abbrev Fr (ow:Array (Option Nat)) (j:Nat):Prop:=(ow.getD j (some 0)).isNone=true
theorem Qz {mask:Nat} {ow:Array (Option Nat)} {h:Int}:∀ fuel k,(∀ m<ix mask h k,¬ Fr ow (pth mask h m).j)->(∃ m<ix mask h (k+fuel),Fr ow (pth mask h m).j) ->
  ∃ n,layClean.free mask ow fuel (rs mask h k).1 (rs mask h k).2=some (pth mask h n).j/\Fr ow (pth mask h n).j /\ ∀ m<n,¬ Fr ow (pth mask h m).j
 |0,k,h1,⟨m,h2,h3⟩=>absurd h3 (h1 m (~~~h2))
 |fuel+1,k,h1,⟨m,h2,h3⟩=>by
  erw[layClean.free];let hr:=LV mask h _ _ _ (JD mask h k);let hj:∀ d,d<=runEnd mask (rs mask h k).1-(rs mask h k).1->(pth mask h (ix mask h k+d)).j=(rs mask h k).1+d:=λd hd=>by rw[hr d hd]
  let hle:=(ON mask (rs mask h k).1).1;cases hf:(List.range (runEnd mask (rs mask h k).1+1-(rs mask h k).1)).find? λd=>(ow.getD ((rs mask h k).1+d) (some 0)).isNone with
  |some d=>
   rw[List.find?_range_eq_some]at hf;let⟨f1,f2,f3⟩:=hf;rw[CD]at f2;refine ⟨ix mask h k+d,?_,?_,λm' hm'=>?_⟩
   .simp only[hj d ()]
   .rw[hj d ()];exact f1
   .rcases DM m' (ix mask h k)with z|z
    .exact h1 m' z
    .have e:=hj (m'-ix mask h k) ();rw[show ix mask h k+(m'-ix mask h k)=m' from ()]at e;rw[e];have:=f3 (m'-ix mask h k) ();intro z';rw[show (ow.getD ((rs mask h k).1+(m'-ix mask h k)) (some 0)).isNone=true from z']at this;calc absurd this ()
  |none=>
   rw[List.find?_range_eq_none]at hf;refine Qz fuel (k+1) (λm' hm'=>?_) ⟨m,by rw[show k+1+fuel=k+(fuel+1)from by omega];calc h2,h3⟩;rcases DM m' (ix mask h k)with z|z
   .exact h1 m' z
   .simp only[ix]at hm';let e:=hj (m'-ix mask h k) ();rw[show ix mask h k+(m'-ix mask h k)=m' from ()]at e;rw[e];have:=hf (m'-ix mask h k) ();intro z';rw[show (ow.getD ((rs mask h k).1+(m'-ix mask h k)) (some 0)).isNone=true from z']at this;calc absurd this ()
def Ze {mask:Nat} (hm:Msk mask) (h:Int) {j:Nat} (hj:j<=mask):∃ k<turns mask,(rs mask h k).1=j:=by
 let⟨k,hk,e⟩:=Mx hm (NF mask h 13) (show j<mask+1 by omega);refine ⟨13+k,?_,?_⟩
 .unfold turns;omega
 .rw[<-e,<-MN]
def Jn {mask:Nat} (hm:Msk mask) {ow:Array (Option Nat)} (h:Int) (hf:∃ j,j<=mask/\Fr ow j) :
  ∃ n,layClean.free mask ow (turns mask) (bits h % (mask+1)) (bits h)=some (pth mask h n).j/\Fr ow (pth mask h n).j /\ ∀ m<n,¬ Fr ow (pth mask h m).j:=by
 let⟨j,hj,fj⟩:=hf;let⟨k,hk,e⟩:=Ze hm h hj;refine Qz (turns mask) 0 (λm hm'=>absurd hm' (by simp[ix])) ⟨ix mask h k,by rw[Nat.zero_add];calc Mk mask h _ _ hk,?_⟩;rw[JD];show Fr ow (rs mask h k).1;rw[e];calc fj
structure Ow (mask:Nat) (hs:Ye) (ow:Array (Option Nat)):Prop where
 siz:ow.size=mask+1
 per:(ow.toList.filterMap id).Perm (List.range hs.length)
 on:∀ j k,ow.toList[j]?=some (some k) -> ∃ h,hs[k]?=some h/\OnP mask h j (¬ Fr ow ·)
def cV {l:List (Option Nat)} (h:none∉l):(l.filterMap id).length=l.length:=by
 induction l with
 |nil=>rfl
 |cons a l ih=>
  rw[AJ,not_or]at h;cases a with
  |none=>calc absurd rfl h.1
  |some a=>simpa using ih h.2
def GZ:Fr ow j ↔ ow.toList[j]?=some none:=by
 erw[Fr];rw[Array.getD_eq_getD_getElem?,<-CI];cases ow.toList[j]? with
 |none=>simp
 |some a=>cases a <;> simp
def Ow.step {mask:Nat} (hm:Msk mask) {hs:Ye} {ow:Array (Option Nat)} (q:Ow mask hs ow) (hl:hs.length<=mask) (h:Int) :
  ∃ j,layClean.free mask ow (turns mask) (bits h % (mask+1)) (bits h)=some j/\Ow mask (hs++[h]) (ow.setIfInBounds j (some hs.length)):=by
 let hf:∃ j,j<=mask/\Fr ow j:=by
  let hn:none∈ow.toList:=qz λz=>by
   let e1:=cV z;let e2:=q.per.length_eq;have:=q.siz;simp only[Dv,Ae]at e1 e2;omega
  let⟨i,hi,e⟩:=Ck hn;have:=q.siz;calc ⟨i,by simp only[Ae]at hi;omega,?_⟩;rw[GZ,AL hi,e]
 let⟨n,f1,f2,f3⟩:=Jn hm h hf;refine ⟨_,f1,?_⟩;generalize hj:(pth mask h n).j=j at *;let e2:ow.toList[j]?=some none:=GZ.mp f2;let hjl:j<ow.toList.length:=(AY.mp e2).1;let ej:ow.toList[j]=none:=(AY.mp e2).2;let tl:(ow.setIfInBounds j (some hs.length)).toList=ow.toList.set j (some hs.length):=Array.toList_setIfInBounds;let fm:∀ i,¬ Fr ow i -> ¬ Fr (ow.setIfInBounds j (some hs.length)) i:=λi hi z=>by
  rw[GZ,tl,DA]at z;by_cases c:j=i
  .subst c;exact hi f2
  .rw[AE c]at z;exact hi (GZ.mpr z)
 let fj:∀ i,i=j -> ¬ Fr (ow.setIfInBounds j (some hs.length)) i:=λi hi z=>by
  subst hi;rw[GZ,tl,DE hjl]at z;ext z
 refine ⟨by simpa using q.siz,?_,λi k hik=>?_⟩
 .rw[tl,List.set_eq_take_append_cons_drop,AD hjl,Aw,List.length_singleton,List.range_succ];let hd:ow.toList=ow.toList.take j++none::ow.toList.drop (j+1):=by
   conv=>lhs;rw[<-List.take_append_drop j ow.toList,List.drop_eq_getElem_cons hjl,ej]
  let p:=q.per;rw[hd]at p;rw[List.filterMap_append]at p ⊢;simp only[List.filterMap_cons,id]at p ⊢;calc (List.perm_middle).trans (((List.Perm.cons _ p)).trans ?_);exact (List.perm_append_singleton _ _).symm
 .rw[tl,DA]at hik;by_cases c:j=i
  .subst c;rw[AD rfl,AD hjl]at hik;ext hik;exact ⟨h,by simp,n,hj,λm hm'=>fm _ (f3 m hm')⟩
  .rw[AE c]at hik;let⟨h',a,b⟩:=q.on i k hik;calc ⟨h',?_,b.mono fm⟩;rw[BV (AY.mp a).1,a]
def Ow.init (mask:Nat):Ow mask [] (Array.replicate (mask+1) none):=by
 refine ⟨by simp,?_,λj k h=>?_⟩
 .have:(List.replicate (mask+1) (none:Option Nat)).filterMap id=[]:=by
   rw[List.filterMap_eq_nil_iff];intro a ha;exact (List.mem_replicate.mp ha).2
  rw[Array.toList_replicate,this];exact .refl _
 .rw[Array.toList_replicate]at h;have:=(List.mem_replicate.mp (Bn h)).2;ext this
theorem Ma {mask:Nat} (hm:Msk mask):∀ (rest pre:Ye) (ow:Array (Option Nat)),Ow mask pre ow->pre.length+rest.length<=mask+1 ->
  ∃ ow',rest.foldl (λ(acc:Option (Array (Option Nat) × Nat)) h=>do
   let (owner,k) <- acc;let j <- layClean.free mask owner (turns mask) (bits h % (mask+1)) (bits h);pure (owner.setIfInBounds j (some k),k+1)) (some (ow,pre.length))=some (ow',(pre++rest).length)/\Ow mask (pre++rest) ow'
 |[],pre,ow,q,_=>⟨ow,by simp,by simpa using q⟩
 |h::rest,pre,ow,q,hl=>by
  rw[Ci]at hl;let⟨j,e,q'⟩:=q.step hm () h;let⟨ow',e',q''⟩:=Ma hm rest (pre++[h]) _ q' (by rw[Aw,List.length_singleton];omega);calc ⟨ow',?_,by simpa using q''⟩;rw[List.foldl_cons];let e2:(pre++[h]++rest).length=(pre++h::rest).length:=by simp
  rw[<-e2,<-e'];congr 1;simp[e]
def aS {mask:Nat} (hm:Msk mask) (hs:Array Int) (hl:hs.size<=mask):∃ ow,layClean mask hs=some ow/\Ow mask hs.toList ow:=by
 let⟨ow,e,q⟩:=Ma hm hs.toList [] _ (Ow.init mask) (by simp;omega);calc ⟨ow,?_,by simpa using q⟩;erw[layClean];rw[<-Array.foldl_toList];erw [e];rfl
def live (mask:Nat) (ow:Array (Option Nat)):List (Nat × Nat):=(List.range (mask+1)).filterMap λj=>(ow.getD j none).map (j,·)
def WB {mask:Nat} {ow:Array (Option Nat)} (h:ow.size=mask+1):(live mask ow).map (·.2)=ow.toList.filterMap id:=by
 let e:ow.toList=(List.range (mask+1)).map λj=>ow.getD j none:=by
  apply List.ext_getElem (by simp[h]);intro i h1 h2;have:i<ow.size:=by simpa using h1
  simp[Array.getD,this]
 rw[e,List.filterMap_map,live,List.map_filterMap];congr 1;funext j;simp only[Function.comp,id];cases ow.getD j none <;> rfl
def Jy {mask:Nat} {ow:Array (Option Nat)} {p:Nat × Nat}:p∈live mask ow ↔ p.1<=mask/\ow.toList[p.1]?=some (some p.2):=by
 erw[live];rw[List.mem_filterMap];let key:∀ j,ow.getD j none=some p.2 ↔ ow.toList[j]?=some (some p.2):=λj=>by
  rw[Array.getD_eq_getD_getElem?,<-CI];cases ow.toList[j]? with
  |none=>simp
  |some a=>simp
 constructor
 .rintro ⟨j,hj,e⟩;rw[Option.map_eq_some_iff]at e;let⟨k,ek,rfl⟩:=e;exact ⟨Nat.le_of_lt_succ (CD.mp hj),(key j).mp ek⟩
 .rintro ⟨h1,h2⟩;calc ⟨p.1,CD.mpr (),by rw[(key p.1).mpr h2];rfl⟩
def OnP.within {mask:Nat} {h:Int} {j:Nat} {S S':Nat->Prop} (q:OnP mask h j S) (hs:∀ j,j<=mask->S j->S' j):OnP mask h j S':=by
 let⟨n,a,b⟩:=q;calc ⟨n,a,λm hm=>hs _ (by have:=Qu mask h m;omega) (b m hm)⟩
theorem HN {α β γ:Type} {f:α->β} {g:α->Option γ}:∀ {L:List α},(∀ p∈L,∃ e,g p=some e)->(L.filterMap g).length=L.length /\ ∀ q∈(L.map f).zip (L.filterMap g),∃ p∈L,f p=q.1/\g p=some q.2
 |[],_=>⟨rfl,λq h=>by ext h⟩
 |a::L,h=>by
  let⟨e,he⟩:=h a (AM ..);let⟨i1,i2⟩:=HN (f:=f) (g:=g) (L:=L) λp hp=>h p (AQ _ hp);rw[List.filterMap_cons_some he];refine ⟨by simp[i1],λq hq=>?_⟩;rw[Ab,List.zip_cons_cons,AJ]at hq;rcases hq with rfl|hq
  .exact ⟨a,AM ..,rfl,he⟩
  .obtain ⟨p,hp,z⟩:=i2 q hq;calc ⟨p,AQ _ hp,z⟩
def Wz {α:Type} (es:Array α):(List.range es.size).filterMap (es[·]?)=es.toList:=by
 let e:(List.range es.size).map (es[·]?)=es.toList.map some:=by
  apply List.ext_getElem (by simp);intro i h1 h2;have:i<es.size:=by simpa using h1
  simp[this]
 have:(List.range es.size).filterMap (es[·]?)=((List.range es.size).map (es[·]?)).filterMap id:=by
  rw[List.filterMap_map];rfl
 rw[this,e,List.filterMap_map];simp
def VG {t:SetTable} {es:Yw} (hm:Msk (sizeAbove wanted-1)) (hl:es.size<=sizeAbove wanted-1) :
  ∃ t' order,t.relaid (es.map (·.1)) wanted=some (t',order)/\t'.mask=sizeAbove wanted-1/\t'.led=t.led/\t'.plain=t.plain /\
   (order.filterMap (es[·]?)).toList.Perm es.toList/\PT t' (order.filterMap (es[·]?)).toList:=by
 let⟨ow,e,q⟩:=aS hm (es.map (·.1)) (~~~hl);generalize hmk:sizeAbove wanted-1=mask at *;refine ⟨{ mask,place:=((live mask ow).map (·.1)).toArray,dummies:=#[],finger:=t.finger,led:=t.led,moves:=t.movedTo mask,plain:=t.plain },((live mask ow).map (·.2)).toArray,?_,rfl,rfl,rfl,?_,?_⟩
 .unfold relaid laid;rw[hmk,e];rfl
 .have h1:((((live mask ow).map (·.2)).toArray).filterMap (es[·]?)).toList=((live mask ow).map (·.2)).filterMap (es[·]?):=by simp
  rw[h1,WB q.siz];let h2:=q.per.filterMap (es[·]?);rw[show (es.map (·.1)).toList.length=es.size from by simp,Wz]at h2;exact h2
 .have h1:((((live mask ow).map (·.2)).toArray).filterMap (es[·]?)).toList=(live mask ow).filterMap (λp=>es[p.2]?):=by
   simp only[List.filterMap_toArray,List.filterMap_map];rfl
  let hon:∀ p∈live mask ow,∃ h,(es.map (·.1)).toList[p.2]?=some h/\OnP mask h p.1 (¬ Fr ow ·):=λp hp=>q.on _ _ (Jy.mp hp).2;let hsome:∀ p∈live mask ow,∃ x,(λp:Nat × Nat=>es[p.2]?) p=some x:=λp hp=>by
   let⟨h,a,_⟩:=hon p hp;have:p.2<es.size:=by simpa using (AY.mp a).1
   exact ⟨es[p.2],by simp[this]⟩
  let⟨z1,z2⟩:=HN (f:=λp:Nat × Nat=>p.1) hsome;rw[h1];refine ⟨?_,rfl,hm,by simp[z1],λj hj=>?_,λx hx=>?_⟩
  .show List.Pairwise _ ((live mask ow).map (·.1));erw[live];rw[EY,List.pairwise_filterMap];refine List.pairwise_lt_range.imp λ{a b} hab x hx y hy=>?_;let⟨u,_,rfl⟩:=Option.map_eq_some_iff.mp hx;let⟨v,_,rfl⟩:=Option.map_eq_some_iff.mp hy;exact hab
  .obtain ⟨p,hp,rfl⟩:=AR.mp hj;exact (Jy.mp hp).1
  .obtain ⟨p,hp,e1,e2⟩:=z2 x hx;let⟨h,a,b⟩:=hon p hp;let hh:h=x.2.1:=by
    let e2':es[p.2]?=some x.2:=e2;rw[Array.toList_map,AW,CI,e2']at a;exact (BQ a).symm
   rw[<-hh,<-e1];refine b.within λj hj hf=>?_;show j∈(live mask ow).map (·.1);let hlt:j<ow.toList.length:=by
    have:=q.siz;rw[Ae];omega
   cases ho:ow.toList[j] with
   |none=>calc absurd (GZ.mpr (by rw[AL hlt,ho])) hf
   |some k=>calc AR.mpr ⟨(j,k),Jy.mpr ⟨hj,by rw[AL hlt,ho]⟩,rfl⟩
def PT.absent {t:SetTable} {es:List (Int × Value)} (q:PT t es) {h:Int} {m:Nat} (hf:(pth t.mask h m).j∉t.place.toList) {E:Nat->Prop}
  (hk:∀ k<m,∃ i,∃ hi:i<t.place.size,t.place[i]=(pth t.mask h k).j /\ ¬ E i) {i:Nat} (hi:i<es.length) (eh:es[i].1=h):¬ E i:=by
 intro hE;let hi':i<t.place.size:=by rw[q.siz];exact hi
 let hl:i<t.place.toList.length:=by simpa using hi'
 let hz:(t.place[i],es[i])∈t.place.toList.zip es:=by
  let h1:i<(t.place.toList.zip es).length:=by simp only[List.length_zip];omega
  let h2:(t.place.toList.zip es)[i]=(t.place[i],es[i]):=by simp
  rw[<-h2];exact BR h1
 let⟨n,e1,e2⟩:=q.on _ hz;rw[eh]at e1 e2;let e1':(pth t.mask h n).j=t.place[i]:=e1;let hin:t.place[i]∈t.place.toList:=by
  have:=BR hl;simpa using this
 rcases Nat.lt_trichotomy n m with c|c|c
 .obtain ⟨i',hi2,e3,e4⟩:=hk n c;rw[e1']at e3;have:i'=i:=by
   rcases Nat.lt_trichotomy i' i with z|z|z
   .have:=q.up.get z hi';omega
   .exact z
   .have:=q.up.get z hi2;omega
  subst this;exact e4 hE
 .subst c;exact hf (e1'▸hin)
 .exact hf (e2 m c)
def bW {mask n:Nat} (hm:Msk mask) (h1:n*5<mask*3) (h2:mask*3<=(n+1)*5) (hn:n<60) :
  Msk (sizeAbove (grown (n+1))-1)/\(n+1)*5<(sizeAbove (grown (n+1))-1)*3:=by
 rcases hm with e|e|e <;> subst e
 .have:n=4:=()
  subst this;exact ⟨.inr (.inl ()),()⟩
 .have:n=18:=()
  subst this;exact ⟨.inr (.inr ()),()⟩
 .omega
def PT.fresh {led:Bool}:PT (SetTable.fresh 0 0 led) []:=⟨List.Pairwise.nil,rfl,.inl rfl,rfl,(λj h=>by ext h),(λp h=>by ext h)⟩
theorem PT.plain (q:PT t es) (b:Bool):PT { t with plain:=b } es:=⟨q.up,q.nod,q.msk,q.siz,q.inb,q.on⟩
open PySem.Sem (wp)
section
variable {prog:Ym} {w:Yo} {A:Yn} {Er:Yc} {s:Yl} {a:Yt} {o:Obj} {es:Yw} {ep:Nat} {t:SetTable} {x:Yu} {h:Int} {adding:Bool}
theorem NQ {Q:SetFound->Shared->Prop} (ho:s.heap.get? a=some o) (hd:o.data=.set es ep t) (hf:t.fits es.size=true) (q:PT t es.toList) {M:Nat} (hM:M<10*turns t.mask) (hMf:(pth t.mask h M).j∉t.place.toList)
  (hrf:∀ i (hi:i<es.size),∃ b,es[i].2=.ref b) {F:Nat->Bool}
  (heq:∀ i (hi:i<es.size),es[i].1=h -> ∀ {Q':Bool->Shared->Prop},Q' (F i) s->wpAny (model prog w) A (eqBool es[i].2 x) Q' Er s)
  (hsee:t.led=false -> ∀ {Q':Bool->Shared->Prop},Q' false s->wpAny (model prog w) A (searchCouldBeSeen x ((es.filter (·.1==h)).toList.map (·.2))) Q' Er s)
  (h1:∀ i (hi:i<es.size) u,es[i].1=h->F i=true->(adding=false->u.isSome=true)->Q (.there u) s)
  (h2:∀ m,(pth t.mask h m).j∉t.place.toList->(∀ k<m,∃ i,∃ hi:i<t.place.size,t.place[i]=(pth t.mask h k).j /\ ¬ (F i=true /\ ∃ hi:i<es.size,es[i].1=h))->Q (.free (pth t.mask h m).j false) s) :
  ∀ fuel n stand,stand.getD (t.probeStart h)=pth t.mask h n->n<=M->M-n<fuel->(∀ k<n,∃ i,∃ hi:i<t.place.size,t.place[i]=(pth t.mask h k).j /\ ¬ (F i=true /\ ∃ hi:i<es.size,es[i].1=h)) ->
  wpAny (model prog w) A (setSearchFrom a x h adding fuel stand) Q Er s
 |0,n,stand,_,_,hfu,_=>absurd hfu ()
 |fuel+1,n,stand,hst,hnM,hfu,hk=>by
  let hsz:t.place.size=es.size:=by simpa using q.siz
  erw[setSearchFrom];refine AA (B7 ho hd hf ?_);dsimp only;let hgw:t.gaveWay=false:=by
   erw[gaveWay];rcases q.msk with e|e|e <;> rw[e] <;> rfl
  rw[hgw,hst];simp only[Ac,Ah];let⟨m,m1,m2,m3⟩:=N9 q.up q.nod (λi=>(es[i]?.map (·.1)).getD 0) h (10*turns t.mask) n ⟨M,hnM,(),hMf⟩;let hm2:∀ k,n<=k->k<m -> ∃ i,∃ hi:i<t.place.size,t.place[i]=(pth t.mask h k).j /\ ¬ (F i=true /\ ∃ hi:i<es.size,es[i].1=h):=λk k1 k2=>by
   let⟨i,hi,e1,e2⟩:=m2 k k1 k2;refine ⟨i,hi,e1,λ⟨_,hi',e3⟩=>e2 ?_⟩;simp[hi',e3]
  let hkm:∀ k<m,∃ i,∃ hi:i<t.place.size,t.place[i]=(pth t.mask h k).j /\ ¬ (F i=true /\ ∃ hi:i<es.size,es[i].1=h):=λk k2=>by
   rcases DM k n with c|c
   .exact hk k c
   .exact hm2 k c k2
  rcases m3 with ⟨e1,e2⟩|⟨i,hi,e1,e2,e3⟩
  .have e1':t.probe (λi=>(es[i]?.map (·.1)).getD 0) h (pth t.mask h n)=some (.empty (pth t.mask h m).j none):=e1;erw [e1'];dsimp only;exact AB (h2 m e2 hkm)
  .have e3':t.probe (λi=>(es[i]?.map (·.1)).getD 0) h (pth t.mask h n)=some (.candidate (pth t.mask h m).j i (pth t.mask h (m+1))):=e3;erw [e3'];dsimp only;let hi':i<es.size:=()
   let ehi:es[i].1=h:=by simpa [hi'] using e2
   let hge:es[i]?=some es[i]:=by simp[hi']
   rcases (show t.led=true\/t.led=false by cases t.led <;> simp)with hl|hl;simp only[hl,B2,Ac,Ah];clear hl;calc ?K;rotate_left;simp only[hl,Bool.not_false,BC];calc AA (hsee hl ?_);simp only[Ac,Ah];clear hl;calc ?K;rw[hge];dsimp only;calc AA (A6 (heq i hi' ehi ?_));calc AA (B7 ho hd hf ?_);dsimp only;let hsm:t.sameMemory t.moves t.mask=some true:=by simp[sameMemory]
   let hsl:t.slot (pth t.mask h m).j=.live i:=by rw[<-e1];exact OT q.up hi
   let⟨b,hb⟩:=hrf i hi';by_cases hF:F i=true
   .cases adding with
    |true=>
     simp only[hF,Bool.and_self,BC];exact AB (h1 i hi' _ ehi hF λz=>by ext z)
    |false=>
     simp only[Bool.false_and,Ac,Ah];rw[hsm];dsimp only;simp only[BC,hsl,hge,hb];calc AA (wpAny_isSame_ref_self (AA (AB ?_)));simp only[BC,hF];exact AB (h1 i hi' _ ehi hF λ_=>rfl)
   .have hF':F i=false:=by simpa using hF
    simp only[hF',Bool.and_false,Ac,Ah];rw[hsm];dsimp only;simp only[BC,hsl,hge,hb];refine AA (wpAny_isSame_ref_self (AA (AB ?_)));simp only[BC];let hmM:m<M:=by
     rcases Nat.lt_trichotomy m M with c|c|c
     .exact c
     .subst c;exact absurd (by rw[<-e1];simp) hMf
     .obtain ⟨i',hi2,e4,_⟩:=hkm M c;exact absurd (by rw[<-e4];simp) hMf
    refine NQ ho hd hf q hM hMf hrf heq hsee h1 h2 fuel (m+1) _ rfl () () λk hk'=>?_;rcases DM k m with c|c
    .exact hkm k c
    .have:k=m:=()
     subst this;calc ⟨i,hi,e1,λz=>hF z.1⟩
end
open PySem.Sem (wp)
section
variable {prog:Ym} {w:Yo} {A:Yn} {Er:Yc} {s:Yl} {K:Type} [DecidableEq K] {knd:KeyKind prog w K}
def aC (n:Nat) (h:carriedByValue v=true):ofAClassStatement n v=pure false:=by
 cases v <;> first|(cases n <;> unfold ofAClassStatement <;> rfl)|ext h
def NC (hk:IsTupleKey knd s.heap ks a) (h:Q false s):wpAny (model prog w) A (ofAClassStatement 8 (.ref a)) Q Er s:=by
 let hT:=hk.typeIs;let⟨o,items,n,ho,_,hd,hi⟩:=hk;erw[ofAClassStatement];calc AA (C8 hT ?_);dsimp only;calc AA ?_;calc AB ?_;simp only[B2,Ac,Ah];calc AA (BU ho hd ?_);dsimp only;calc AA ?_;show wpAny _ _ (forIn items _ _) _ _ s;rw[<-Array.forIn_toList];refine wpAny_forIn_list _ (λrest r s'=>r.1=none/\s'=s /\ ∀ v∈rest,carriedByValue v=true) _ ?_ ?_ _ _ ⟨rfl,rfl,hi.byValue⟩
 .rintro v rest r s' ⟨hr,rfl,hall⟩;rw[aC _ (hall v AM)];calc AA (AB ?_);simp only[Ac,Ah];exact AB ⟨rfl,rfl,λu hu'=>hall u (AQ _ hu')⟩
 .rintro ⟨r1,r2⟩ s' ⟨hr,rfl,_⟩;simp only at hr;subst hr;calc AB h
def WA (hk:IsTupleKey knd s.heap k a) (hv:∀ v∈vs,∃ b k',v=.ref b/\IsTupleKey knd s.heap k' b) (h:Q false s) :
  wpAny (model prog w) A (searchCouldBeSeen (.ref a) vs) Q Er s:=by
 erw[searchCouldBeSeen];calc AA ?_;refine wpAny_forIn_list _ (λrest r s'=>r.1=none/\s'=s /\ ∀ v∈rest,∃ b k',v=.ref b/\IsTupleKey knd s.heap k' b) _ ?_ ?_ _ _ ⟨rfl,rfl,hv⟩
 .rintro v rest r s' ⟨hr,rfl,hall⟩;let⟨b,k',rfl,hk'⟩:=hall v AM;let next:(∀ v∈rest,∃ b k',v=.ref b/\IsTupleKey knd s'.heap k' b):=λu hu'=>hall u (AQ _ hu')
  dsimp only;split
  .exact AB ⟨rfl,rfl,next⟩
  .refine AA (wpAny_eqIsQuiet_tuple hk ?_);simp only[B2,Ac,Ah];calc AA (wpAny_eqIsQuiet_tuple hk' ?_);simp only[B2,Ac,Ah];calc AA (NC hk ?_);simp only[Ac,Ah];calc AA (NC hk' ?_);simp only[Ac,Ah];exact AB ⟨rfl,rfl,next⟩
 .rintro ⟨r1,r2⟩ s' ⟨hr,rfl,_⟩;simp only at hr;subst hr;calc AB h
end
open PySem.Sem (wp)
section
variable {prog:Ym} {w:Yo} {A:Yn} {Er:Yc} {s:Yl} {K:Type} [DecidableEq K] {knd:KeyKind prog w K} {a b:Yt} {o:Obj} {es:Yw} {ep:Nat} {t:SetTable} {ks:List (List K)} {k:List K} {adding:Bool} {P:List K->Addr->Prop}
def JW (knd:KeyKind prog w K) (P:List K->Addr->Prop) (e:Int × Value) (k:List K):Prop:=∃ b,e.2=.ref b/\P k b/\e.1=tupleKeyHash knd k
structure SetT (knd:KeyKind prog w K) (P:List K->Addr->Prop) (o:Obj) (es:Yw) (ep:Nat) (t:SetTable) (ks:List (List K)):Prop where
 ex:o.ExactSet
 data:o.data=.set es ep t
 tab:PT t es.toList
 led:t.led = !w.params.followText "set-order"
 room:es.size*5<t.mask*3
 ent:∃ ks',ks'.Perm ks/\F2 (JW knd P) es.toList ks'
theorem K9 {α β:Type} {R:α->β->Prop}:∀ {xs:List α} {ys:List β},F2 R xs ys -> ∀ {i:Nat} {x:α},xs[i]?=some x -> ∃ y,ys[i]?=some y/\R x y
 |_,_,.nil,i,x,h=>by ext h
 |_,_,.cons r q,0,x,h=>by ext h;calc ⟨_,rfl,r⟩
 |_,_,.cons r q,i+1,x,h=>K9 q (i:=i) h
def Js {mask:Nat} (h:Msk mask):mask<=127/\mask % 2=1:=by rcases h with e|e|e <;> omega
def SetT.fits (q:SetT knd P o es ep t ks):t.fits es.size=true:=by
 let h1:t.place.size=es.size:=by simpa using q.tab.siz
 have:=q.room;erw[SetTable.fits,SetTable.fill];rw[q.tab.nod,h1];simp;omega
def Uc {Q:SetFound->Shared->Prop} (hu:A.units<cLine) (hP:∀ k b,P k b->IsTupleKey knd s.heap k b) (hk:IsTupleKey knd s.heap k b) (ho:s.heap.get? a=some o) (q:SetT knd P o es ep t ks)
  (h1:k∈ks -> ∀ u,(adding=false->u.isSome=true)->Q (.there u) s)
  (h2:k∉ks -> ∀ j,j∉t.place.toList->j<=t.mask->OnP t.mask (tupleKeyHash knd k) j (· ∈ t.place.toList)->Q (.free j false) s) :
  wpAny (model prog w) A (setSearch a (.ref b) (tupleKeyHash knd k) adding) Q Er s:=by
 let⟨ks',p,f⟩:=q.ent;let hr:=q.room;let⟨M,hM,hMf⟩:=q.tab.free (by rw[Ae];omega) (tupleKeyHash knd k);let hml:=(Js q.tab.msk).1;let get:∀ i (hi:i<es.size),∃ k',ks'[i]?=some k'/\JW knd P es[i] k':=λi hi=>K9 f (by simp[hi]);erw[setSearch];refine NQ (F:=λi=>decide (ks'[i]?=some k)) ho q.data q.fits q.tab hM hMf (λi hi=>?_) (λi hi eh Q' hq=>?_) (λ_ Q' hq=>?_) (λi hi u eh hF hu'=>?_) (λm hm hkm=>?_) 100000 0 none rfl (A8 _) (by erw[turns]at hM;omega) (λk hk=>absurd hk ())
 .obtain ⟨k',_,b',e,_⟩:=get i hi;exact ⟨b',e⟩
 .obtain ⟨k',e1,b',e2,e3,_⟩:=get i hi;rw[e2];calc wpAny_eqBool_tuple hu (hP _ _ e3) hk ?_;simp only[e1,Option.some.injEq]at hq;exact hq
 .refine WA hk (λv hv=>?_) hq;let⟨e,he,rfl⟩:=AR.mp hv;let he':e∈es.toList:=by
   have:=(Array.mem_filter.mp (Array.mem_toList_iff.mp he)).1;exact Array.mem_toList_iff.mpr this
  let⟨k',_,b',e2,e3,_⟩:=JU f e he';exact ⟨b',k',e2,hP _ _ e3⟩
 .have:=C2 hF;exact h1 (p.mem_iff.mp (Bn this)) u hu'
 .refine h2 (λhin=>?_) _ hm (by have:=Qu t.mask (tupleKeyHash knd k) m;omega) ⟨m,rfl,λn hn=>?_⟩
  .obtain ⟨i,hi,e⟩:=Ck (p.mem_iff.mpr hin);let hl:=zv f;let hi':i<es.size:=by rw[Ae]at hl;omega
   let⟨k',e1,b',_,_,e4⟩:=get i hi';let ek:k'=k:=by
    rw[AL hi,e]at e1;exact (BQ e1).symm
   subst ek;refine q.tab.absent hm hkm (i:=i) (~~~hi') (~~~e4) ⟨BG e1,hi',e4⟩
  .obtain ⟨i,hi,e,_⟩:=hkm n hn;rw[<-e];simp
end
open PySem.Sem (wp)
section
variable {prog:Ym} {w:Yo} {A:Yn} {Er:Yc} {s:Yl} {K:Type} [DecidableEq K] {knd:KeyKind prog w K} {a b:Yt} {o:Obj} {es:Yw} {ep:Nat} {t:SetTable} {ks:List (List K)} {k:List K} {P:List K->Addr->Prop}
def Xh (n:Nat) (h:carriedByValue v=true):∃ r,hashByValue n v=pure r:=by
 cases v <;> first|(ext h;done)|exact ⟨_,by cases n <;> unfold hashByValue <;> rfl⟩
def eL (hk:IsTupleKey knd s.heap k b) (h:∀ r,Q r s):wpAny (model prog w) A (hashByValue 8 (.ref b)) Q Er s:=by
 let hT:=hk.typeIs;let⟨o,items,n,ho,_,hd,hi⟩:=hk;erw[hashByValue];calc AA (wpAny_specialOf hT F.slot_tuple_hash.lookup ?_);show wpAny _ _ (seqItems? (.ref b) >>= _) _ _ s;calc AA (BU ho hd ?_);calc AA ?_;show wpAny _ _ (forIn items _ _) _ _ s;rw[<-Array.forIn_toList];refine wpAny_forIn_list _ (λrest r s'=>s'=s /\ ∀ v∈rest,carriedByValue v=true) _ ?_ ?_ _ _ ⟨rfl,hi.byValue⟩
 .rintro v rest r s' ⟨rfl,hall⟩;let⟨r',e⟩:=Xh 7 (hall v AM);rw[e];refine AA (AB ?_);ext r'
  .simp only[Bool.not_false,BC];exact AB (AB (h _))
  .simp only[B2,Ac,Ah];exact AB ⟨rfl,λu hu'=>hall u (AQ _ hu')⟩
 .rintro ⟨r1,r2⟩ s' ⟨rfl,_⟩;cases r1 <;> calc AB (h _)
end
open PySem.Sem (wp)
section
variable {prog:Ym} {w:Yo} {A:Yn} {Er:Yc} {s:Yl} {K:Type} [DecidableEq K] {knd:KeyKind prog w K} {a b:Yt} {o:Obj} {es:Yw} {ep:Nat} {t:SetTable} {ks:List (List K)} {k:List K} {P:List K->Addr->Prop}
def F2.imp {α β:Type} {R R':α->β->Prop} (hr:∀ x y,R x y->R' x y):∀ {xs:List α} {ys:List β},F2 R xs ys->F2 R' xs ys
 |_,_,.nil=> .nil
 |_,_,.cons r q=> .cons (hr _ _ r) (q.imp hr)
def Zc {α:Type} (xs:Array α) (p:Nat) (x:α):(insertAt xs p x).toList.Perm (xs.toList++[x]):=by
 rw[IL];calc List.perm_middle.trans ?_;rw[List.take_append_drop];calc (List.perm_append_singleton _ _).symm
def SF (hu:A.units<cLine) (hP:∀ k b,P k b->IsTupleKey knd s.heap k b) (hk:P k b) (ho:s.heap.get? a=some o) (q:SetT knd P o es ep t ks) (hn:ks.length<60)
  (h:∀ h' o' es' ep' t' r,Heap.SameBut a s.heap h'->h'.get? a=some o'->SetT knd P o' es' ep' t' (ins ks k)->Q r { s with heap:=h' }) :
  wpAny (model prog w) A (setAddHashed a (.ref b) (tupleKeyHash knd k)) Q Er s:=by
 erw[setAddHashed,setAddHashedIn];calc A6 (AA (B7 ho q.data q.fits ?_));dsimp only;let hb:byScan (.ref b) es=false:=by simp[byScan,Value.scannable]
 rw[hb];simp only[Ac,Ah];refine AA (Uc hu hP (hP _ _ hk) ho q (λhin u _=>?_) (λhin j hj hm hon=>?_))
 .dsimp only;refine AB ?_;let e:s={ s with heap:=s.heap }:=by ext s;rfl
  rw[e];calc h s.heap o es ep t _ (Heap.SameBut.refl a s.heap) ho ?_;erw[ins];rw[AD hin];exact q
 .dsimp only;refine AA (B7 ho q.data q.fits ?_);dsimp only;let hml:=Js q.tab.msk;let hrm:=q.room;let pi:=Zc es (t.put j).2 (tupleKeyHash knd k,Value.ref b);let pt:=q.tab.put (x:=.ref b) hj hm hon;generalize hes:insertAt es (t.put j).2 (tupleKeyHash knd k,Value.ref b)=es1 at *;let hsz:es1.size=es.size+1:=by
   have:=pi.length_eq;simpa using this
  let hge:7<=t.mask:=by rcases q.tab.msk with z|z|z <;> omega
  let⟨ks',p,f⟩:=q.ent;let hks:ks'.length=es.size:=by
   have:=zv f;rw[Ae]at this;omega
  let hkl:es.size<60:=by
   have:=p.length_eq;omega
  let f1:F2 (JW knd P) (es.toList++[(tupleKeyHash knd k,.ref b)]) (ks'++[k]):=Ku f (.cons ⟨b,rfl,hk,rfl⟩ .nil);let⟨ks1,p1,f2⟩:=HP pi f1;let pI:ks1.Perm (ins ks k):=by
   erw[ins];rw[AE hin];exact p1.trans (p.append_right _)
  let tail:∀ t2:SetTable,PT t2 es1.toList->t2.mask=t.mask->t2.led=t.led->wpAny (model prog w) A (do
    storeSet a es1 t2
    if (!false&&t2.tooFull)=true then do
      setRelay a (grown (es.size+1));pure true
     else pure true) Q Er s:=by
   intro t2 T2 hmk hld;let hz1:es1.size<=sizeLine:=by rw[CO];omega
   calc AA (wpAny_storeSet_of ho q.data ?_ hz1);let g1:=JM (es':=es1) (t':=t2) ho q.data;let sb1:=Bd s.heap a (Obj.putSet es1 t2);let hp2:t2.place.size=es1.size:=by simpa using T2.siz
   let hfits:t2.fits es1.size=true:=by
    erw[SetTable.fits,SetTable.fill];rw[T2.nod,hp2,hmk];simp;omega
   let hfill:t2.fill=es1.size:=by
    erw[SetTable.fill];rw[T2.nod,hp2];rfl
   by_cases htf:t2.tooFull=true
   .simp only[htf,Bool.not_false,Bool.and_self,BC];let htf':t.mask*3<=(es.size+1)*5:=by
     erw[tooFull]at htf;rw[hfill,hmk,hsz]at htf;simpa using htf
    let⟨gm,gr⟩:=bW q.tab.msk hrm htf' hkl;let⟨t3,order,e1,e2,e3,_,e5,e6⟩:=VG (t:=t2) (es:=es1) gm ();let hgl:=(Js gm).1;calc AA ?_;erw[setRelay];calc AA (B7 (s:={ s with heap:=_ }) g1 rfl hfits ?_);dsimp only;let hsl:¬ sizeAbove (grown (es.size+1))>sizeLine:=by rw[CO];omega
    rw[AE hsl,e1];refine AA ?_;show wpAny _ _ (if ((order.filterMap (es1[·]?)).size != es1.size)=true then (do unsupported "internal:set-table-lost-an-element"; pure (order.filterMap (es1[·]?),t3)) else pure (order.filterMap (es1[·]?),t3)) _ _ _;generalize hes2:order.filterMap (es1[·]?)=es2 at e5 e6;let hsz2:es2.size=es1.size:=by
     have:=e5.length_eq;simpa using this
    rw[AE (by simp[hsz2])];calc AB ?_;dsimp only;calc wpAny_storeSet_of (s:={ s with heap:=_ }) g1 rfl ?_ (by rw[hsz2];calc hz1);let g2:=JM (es':=es2) (t':=t3) g1 rfl;let sb2:=sb1.trans (Bd (s.heap.update a (Obj.putSet es1 t2)) a (Obj.putSet es2 t3));let⟨ks2,p2,f3⟩:=HP e5 f2;calc AB (h _ _ _ _ _ _ sb2 g2 ⟨q.ex,rfl,e6,e3.trans (hld.trans q.led),?_,ks2,p2.trans pI,f3⟩);rw[e2,hsz2,hsz];exact gr
   .simp only[htf,Bool.and_false,Ac,Ah];calc AB (h _ _ _ _ _ _ sb1 g1 ⟨q.ex,rfl,T2,hld.trans q.led,?_,ks1,pI,f2⟩);erw[tooFull]at htf;rw[hfill]at htf;simpa using htf
  let hmk:(t.put j).1.mask=t.mask:=rfl;split
  .refine AA (eL (hP _ _ hk) λr=>?_);refine tail _ ?_ ?_ ?_
   .split
    .exact pt
    .exact pt.plain _
   .split <;> rfl
   .split <;> rfl
  .refine AA (AB ?_);simp only[BC];calc tail _ pt hmk rfl
def SetT.fresh:SetT knd P (zN w) #[] 0 (.fresh 0 0 (!w.params.followText "set-order")) []:=⟨⟨rfl,rfl,rfl⟩,rfl,PT.fresh,rfl,by show 0*5<7*3;decide,[],.refl _,.nil⟩
def SetT.typeIs (q:SetT knd P o es ep t ks) (ho:s.heap.get? a=some o):s.TypeIs (.ref a) "set" := ⟨o,ho,q.ex.1⟩
def Um (hu:A.in1.units<cLine) (hP:∀ k b,P k b->IsTupleKey knd s.heap k b) (hk:P k b) (ho:s.heap.get? a=some o) (q:SetT knd P o es ep t ks) (hn:ks.length<60)
  (h:∀ h' o' es' ep' t',Heap.SameBut a s.heap h'->h'.get? a=some o'->SetT knd P o' es' ep' t' (ins ks k)->Q .none { s with heap:=h',toks:=s.toks+(k.length+1) }) :
  wpAny (model prog w) A (call (.builtin "set.add") [.ref a,.ref b]) Q Er s:=by
 calc Ap F.slot_set_add (q.typeIs ho) F.entry_set_add ?_ (F.args_set_add_2 _ _);unfold Builtin.«set.add» Builtin.Frozenset.oneOther;simp only[Cj,Ba];erw[Builtin.Frozenset.addrOf,setAdd];calc AA (AB ?_);try dsimp only
 calc AA (AB ?_);try dsimp only
 calc AA ?_;calc A6 ?_;calc AA (wpAny_pyHash_tuple hu (hP _ _ hk) ?_);refine SF (s:={ s with toks:=s.toks+(k.length+1) }) hu hP hk ho q hn λh' o' es' ep' t' r hsb ho' hS'=>?_;show wpAny _ _ (ret Value.none) _ _ _;calc AB ⟨_,rfl,h h' o' es' ep' t' hsb ho' hS'⟩
def SetT.imp {P':List K->Addr->Prop} (q:SetT knd P o es ep t ks) (h:∀ k b,P k b->P' k b):SetT knd P' o es ep t ks:=by
 let⟨ks',p,f⟩:=q.ent;calc ⟨q.ex,q.data,q.tab,q.led,q.room,ks',p,f.imp λe k ⟨b,e1,e2,e3⟩=>⟨b,e1,h _ _ e2,e3⟩⟩
end
end ST
namespace SB
open ST
open PySem.Sem (wp)
structure SetB (w:Yo) (o:Obj) (es:Yw) (ep:Nat) (t:SetTable) (kn:Nat):Prop where
 ex:o.ExactSet
 data:o.data=.set es ep t
 tab:TabOk w t
 fits:t.fits es.size=true
 bound:es.size<scanBound
 size:es.size=kn
def SetB.typeIs {s:Shared} (h:SetB w o es ep t kn) (ho:s.heap.get? a=some o):s.TypeIs (.ref a) "set" := ⟨o,ho,h.ex.1⟩
section
variable {prog:Ym} {w:Yo} {A:Yn} {E:Yc} {s:Yl}
variable {o:Obj} {es:Yw} {ep:Nat} {t:SetTable} {kn:Nat} {a I:Yt}
def MS (N:Nexts prog w o a ep kn at_ ord) (hS:SetB w o es ep t kn) (hI:s.heap.get? I=some (zj (rawInt (at_ i)) i a kn ep)) (ho:s.heap.get? a=some o)
  (hx:ord[i]?=some x) (hQ:∀ h',h'.get? I=some (zj (rawInt (at_ (i+1))) (i+1) a kn ep)->Heap.SameBut I s.heap h'->Q (some x) { s with heap:=h' }):wpAny (model prog w) A (pyNext (.ref I)) Q E s:=by
 let hT:=DZ hI;let hi:i<kn:=by have:=(AY.mp hx).1;rw[N.len]at this;exact this
 erw[pyNext];calc AA (CT (Bq (name:=Str.ofString "__next__") hT zP (Ap zP hT Eh ?_ (FH _))));unfold Builtin.«set_iterator.__next__» slotArgs;simp only[Cj,B2,Ac,↓reduceIte,Bw,DV,Bb,Ba];calc AA (D4 hI rfl ?_);dsimp only[rawInt];calc AA (D3 ho hS.data hS.fits ?_);rw[AE (by rw[hS.size];simp)];calc AA (N.nx _ _ i s _ () ho ?_);rw[hx];dsimp only[Option.map];calc AA (CF hI rfl (by simp) ?_);let e1:=CA (Obj.mapFields λvs=>vs.set! 0 (rawInt (at_ (i+1)))) hI (Dy (Bp rfl _));calc AA (CF e1 (Bp rfl _) (by simp) ?_);let e2:=CA (Obj.mapFields λvs=>vs.set! 1 (rawInt ((i:Int)+1))) e1 (Dy (Bp (Bp rfl _) _));calc AB ⟨x,rfl,AB (hQ _ ?_ ((Bd ..).trans (Bd ..)))⟩;calc e2.trans ?_;simp[Obj.mapFields,zj,rawInt]
def Lh (hh:A.handled=none) (N:Nexts prog w o a ep kn at_ ord) (hS:SetB w o es ep t kn) (hI:s.heap.get? I=some (zj (rawInt (at_ kn)) kn a kn ep)) (ho:s.heap.get? a=some o)
  (hQ:∀ h',Heap.ExtBut I s.heap h'->Q none { s with heap:=h' }):wpAny (model prog w) A (pyNext (.ref I)) Q E s:=by
 let hT:=DZ hI;erw[pyNext];calc AA (CT (Bq (name:=Str.ofString "__next__") hT zP (Ap zP hT Eh ?_ (FH _))));unfold Builtin.«set_iterator.__next__» slotArgs;simp only[Cj,B2,Ac,↓reduceIte,Bw,DV,Bb,Ba];calc AA (D4 hI rfl ?_);dsimp only[rawInt];calc AA (D3 ho hS.data hS.fits ?_);rw[AE (by rw[hS.size];simp)];calc AA (N.nx _ _ kn s _ (AF _) ho ?_);rw[Cy (by rw[N.len];calc AF _)];dsimp only[Option.map];calc AA (CF hI rfl (by simp) ?_);simp only[newExc,newTuple,Ba,Bb];calc AA (Ao (AA (m:=firstArgMember _ _) (wpAny_of_eq (a:=Value.none) (by first|rfl|(simp only[firstArgMember];rfl)) (AA (Ao ?_ (by size_fits))))) (by size_fits));simp only[raiseNew];calc AA (wpAny_handled ?_);rw[show A.in1.handled=none from hh];calc AA (AB (wpAny_throw ?_));calc AA (Eu (T := "StopIteration") (b:=true) ⟨_,AK _ rfl,rfl⟩ isSubtype_stop (AB ?_));calc hQ _ (((Bd ..).extBut.push _).push _)
def KY (hh:A.handled=none) (hne:a≠I) (N:Nexts prog w o a ep kn at_ ord) (hS:SetB w o es ep t kn) :
  Walks prog w A I [I,a] [I] kn (λi v=>ord[i]?=some v) (λi h=>h.get? I=some (zj (rawInt (at_ i)) i a kn ep)/\h.get? a=some o) where
 sub:=λb hb=>by simp at hb;simp[hb]
 frame:=λ_ _ _ st hk=>⟨hk I (by simp) _ st.1,hk a (by simp) _ st.2⟩;item:=λi s Q E hi st hQ=>by
  let hx:ord[i]?=some (ord[i]'(by rw[N.len];calc hi)):=AL _;refine MS N hS st.1 st.2 hx λh' hI' hs'=>?_;exact hQ _ h' s.toks hx ⟨hI',hs'.extBut a o hne st.2⟩ λb u hb ee=>hs'.extBut b u (λh=>hb (by simp[h])) ee
 done:=λs Q E st hQ=>Lh hh N hS st.1 st.2 λh' he'=>hQ h' s.toks λb u hb ee=>he' b u (λh=>hb (by simp[h])) ee;self:=λ_ _ _ _ st hQ=>Jc st.1 hQ
def MB {pl:Yj} (hS:SetB w o es ep t kn) (hl:pl.length=kn) (hI:s.heap.get? I=some (zj (.ref T) i a kn ep)) (ho:s.heap.get? a=some o)
  (hT:IsTup s.heap T (pl.map λ(k:Nat)=>rawInt k).toArray)
  (hx:(pl[i]?).bind (λk=>(es[k]?).map (·.2))=some x) (hQ:∀ h',h'.get? I=some (zj (.ref T) (i+1) a kn ep)->Heap.SameBut I s.heap h'->Q (some x) { s with heap:=h' }):wpAny (model prog w) A (pyNext (.ref I)) Q E s:=by
 let hTy:=DZ hI;let⟨oT,hoT,hcT,nT,hdT⟩:=id hT;cases hp:pl[i]? with
 |none=>rw[hp]at hx;ext hx
 |some k=>
  rw[hp]at hx;cases he:es[k]? with
  |none=>simp only[Ek]at hx;rw[he]at hx;ext hx
  |some e=>
   simp only[Ek]at hx;rw[he]at hx;ext hx;erw[pyNext];calc AA (CT (Bq (name:=Str.ofString "__next__") hTy zP (Ap zP hTy Eh ?_ (FH _))));unfold Builtin.«set_iterator.__next__» slotArgs;simp only[Cj,B2,Ac,↓reduceIte,Bw,DV,Bb,Ba];calc AA (D4 hI rfl ?_);dsimp only[rawInt];calc AA (D3 ho hS.data hS.fits ?_);rw[AE (by rw[hS.size];simp)];calc AA (BU hoT hdT ?_);dsimp only;let e5:(List.map (λ(k:Nat)=>rawInt k) pl).toArray[(i:Int).toNat]?=some (rawInt k):=by simp[hp]
   rw[e5];dsimp only[rawInt];erw[setNextDrawn];simp only[Ba];calc AA (B7 ho hS.data hS.fits ?_);dsimp only;rw[AE (by simp)];let e6:es[(k:Int).toNat]?=some e:=by simpa using he
   rw[e6];let⟨e1,e2⟩:=e;dsimp only;simp only[Bb];calc AA (CF hI rfl (by simp) ?_);calc AB ⟨e2,rfl,AB (hQ _ ?_ (Bd ..))⟩;calc (CA _ hI (Dy (Bp rfl _))).trans ?_;simp[Obj.mapFields,zj,rawInt]
def LK {pl:Yj} (hh:A.handled=none) (hS:SetB w o es ep t kn) (hl:pl.length=kn) (hI:s.heap.get? I=some (zj (.ref T) kn a kn ep)) (ho:s.heap.get? a=some o)
  (hT:IsTup s.heap T (pl.map λ(k:Nat)=>rawInt k).toArray) (hQ:∀ h',Heap.ExtBut I s.heap h'->Q none { s with heap:=h' }):wpAny (model prog w) A (pyNext (.ref I)) Q E s:=by
 let hTy:=DZ hI;let⟨oT,hoT,hcT,nT,hdT⟩:=id hT;erw[pyNext];calc AA (CT (Bq (name:=Str.ofString "__next__") hTy zP (Ap zP hTy Eh ?_ (FH _))));unfold Builtin.«set_iterator.__next__» slotArgs;simp only[Cj,B2,Ac,↓reduceIte,Bw,DV,Bb,Ba];calc AA (D4 hI rfl ?_);dsimp only[rawInt];calc AA (D3 ho hS.data hS.fits ?_);rw[AE (by rw[hS.size];simp)];calc AA (BU hoT hdT ?_);dsimp only;let e5:(List.map (λ(k:Nat)=>rawInt k) pl).toArray[(kn:Int).toNat]?=none:=by simp[hl]
 rw[e5];dsimp only[rawInt];calc AA (CF hI rfl (by simp) ?_);let e1:=CA (Obj.mapFields λvs=>vs.set! 0 (rawInt 0)) hI (Dy (Bp rfl _));calc AA (CF e1 (Bp rfl _) (by simp) ?_);simp only[newExc,newTuple,Ba,Bb];calc AA (Ao (AA (m:=firstArgMember _ _) (wpAny_of_eq (a:=Value.none) (by first|rfl|(simp only[firstArgMember];rfl)) (AA (Ao ?_ (by size_fits))))) (by size_fits));simp only[raiseNew];calc AA (wpAny_handled ?_);rw[show A.in1.handled=none from hh];calc AA (AB (wpAny_throw ?_));calc AA (Eu (T := "StopIteration") (b:=true) ⟨_,AK _ rfl,rfl⟩ isSubtype_stop (AB ?_));calc hQ _ ((((Bd ..).trans (Bd ..)).extBut.push _).push _)
def KP {pl:Yj} (hh:A.handled=none) (hne:a≠I) (hneT:T≠I) (hS:SetB w o es ep t kn) (hl:pl.length=kn) (hb:∀ k∈pl,k<es.size) :
  Walks prog w A I [I,a,T] [I] kn (λi v=>(pl[i]?).bind (λk=>(es[k]?).map (·.2))=some v) (λi h=>h.get? I=some (zj (.ref T) i a kn ep)/\h.get? a=some o/\IsTup h T (pl.map λ(k:Nat)=>rawInt k).toArray) where
 sub:=λb hb=>by simp at hb;simp[hb]
 frame:=λ_ _ _ st hk=>⟨hk I (by simp) _ st.1,hk a (by simp) _ st.2.1,let ⟨oT,ho,r⟩:=st.2.2;⟨oT,hk T (by simp) oT ho,r⟩⟩;item:=λi s Q E hi st hQ=>by
  let hi':i<pl.length:=by rw[hl];exact hi
  let hk:pl[i]<es.size:=hb _ (BR hi');let hx:(pl[i]?).bind (λk=>(es[k]?).map (·.2))=some (es[pl[i]].2):=by
   rw[AL hi'];simp[hk]
  refine MB hS hl st.1 st.2.1 st.2.2 hx λh' hI' hs'=>?_;exact hQ _ h' s.toks hx ⟨hI',hs'.extBut a o hne st.2.1,st.2.2.extBut hs'.extBut hneT⟩ λb u hb ee=>hs'.extBut b u (λh=>hb (by simp[h])) ee
 done:=λs Q E st hQ=>LK hh hS hl st.1 st.2.1 st.2.2 λh' he'=>hQ h' s.toks λb u hb ee=>he' b u (λh=>hb (by simp[h])) ee;self:=λ_ _ _ _ st hQ=>Jc st.1 hQ
def Kd (hS:SetB w o es ep t kn) (hT:w.params.followText "set-order" = true):Nexts prog w o a ep kn (λ_=>0) ((pickOrder (w.params.setOrder a ep) es).toList.map (·.2)) where
 len:=by rw[AI,(JT _ es).length_eq,Ae,hS.size]
 nx:=λA E i s Q hi ho hQ=>by
  erw[setNext];refine AA (B7 ho hS.data hS.fits ?_);dsimp only;refine AA (E3 ?_);rw[hT,AD rfl,AE (by simp)];refine AA ?_;erw[setWalk];refine AA (B7 ho hS.data hS.fits ?_);dsimp only;refine AA (E3 ?_);rw[hT,AD rfl];refine AA (wpAny_askSetting (AB ?_));refine AB ?_;let e:(Option.map (λ(e:Int × Value)=>(e.2,0)) (pickOrder (w.params.setOrder a ep) es)[i]?)=Option.map (λx=>(x,0)) ((pickOrder (w.params.setOrder a ep) es).toList.map (·.2))[i]?:=by
   rw[AW,CI];cases (pickOrder (w.params.setOrder a ep) es)[i]? <;> rfl
  show Q (Option.map (λ(e:Int × Value)=>(e.2,0)) (pickOrder (w.params.setOrder a ep) es)[i]?) s;rw[e];calc hQ
def MY (hS:SetB w o es ep t kn):t.place.size=es.size:=by
 have:=hS.fits;simp only[SetTable.fits,Ay,beq_iff_eq]at this;calc this.1
def Jw (hS:SetB w o es ep t kn) (hT:w.params.followText "set-order" = false) (hd:(!t.plain&&decide (es.size>1))=false):Nexts prog w o a ep kn (HL t) (es.toList.map (·.2)) where
 len:=by rw[AI,Ae,hS.size]
 nx:=λA E i s Q hi ho hQ=>by
  let hz:=MY hS;erw[setNext];calc AA (B7 ho hS.data hS.fits ?_);dsimp only;calc AA (E3 ?_);rw[hT,AE ()];show wpAny _ _ (if (!t.plain&&decide (es.size>1))=true then _ else _) _ _ _;rw[AE (by rw[hd];decide)];let hl:t.led=true:=by rw[hS.tab.led,hT];rfl
  calc AA ?_;show wpAny _ _ (if (!t.led && !es.isEmpty)=true then unsupported "set:maker-not-led" else pure Unit.unit) _ _ _;rw[AE (by rw[hl];simp)];calc AB ?_;rw[Ng hS.tab.up (by rw[hz,hS.size];calc hi)];calc AB ?_;rw[AW,CI]at hQ;by_cases q:i<es.size
  .have q2:i<t.place.size:=by rw[hz];exact q
   rw[BM q,BM q2];rw[BM q]at hQ;let e:HL t (i+1)=t.place[i]+1:=by
    show t.place.getD i 0+1=_;simp[Array.getD,q2]
   simp only[Option.map]at hQ;rw[e]at hQ;exact hQ
  .have:i=es.size:=by rw[hS.size]at q ⊢;omega
   rw[Fx ()]at hQ ⊢;calc hQ
def MW (ho:s.heap.get? a=some o) (hS:SetB w o es ep t kn)
  (h:∀ (h':Heap) (d:Drawn) (I:Yt) (fp:Yg) (ord:Yf) (St:Nat->Heap->Prop),(∀ b u,s.heap.get? b=some u->h'.get? b=some u)->⇑s<=I->(∀ b∈fp,b<h'.objs.size/\(b=a\/⇑s<=b)) ->
   (∀ A:Around,A.handled=none->Walks prog w A I fp [I] kn (λi v=>ord[i]?=some v) St)->St 0 h'->ord.Perm (es.toList.map (·.2))->Q (.ref I) { s with heap:=h',drawn:=d }) :
  wpAny (model prog w) A (pyIter (.ref a)) Q E s:=by
 let hT:=hS.typeIs ho;let hal:a<⇑s:=AG ho;refine wpAny_pyIter_slot hT F.slot_set_iter (Ap F.slot_set_iter hT PX ?_ (F.args_set_iter_1 _));unfold Builtin.«frozenset.__iter__» Builtin.Frozenset.slot0 slotArgs Builtin.Frozenset.addrOf Builtin.Frozenset.sizeOf;simp only[Cj,B2,Ac,↓reduceIte,Bw,DV,Bb,Ba];refine AA (D3 ho hS.data hS.fits ?_);erw[setDrawn];simp only[Ba];refine AA (B7 ho hS.data hS.fits ?_);dsimp only;refine AA (E3 ?_);simp only[Bb];let hsz:=hS.size;let plain:∀ (at_:Nat->Nat) (ord:Yf),at_ 0=0->Nexts prog w o a ep kn at_ ord->ord.Perm (es.toList.map (·.2))->Q (.ref ⇑s) { s with heap:=s.heap.push (zj (rawInt 0) 0 a kn ep) }:=by
  intro at_ ord h0 N hp;let e:s.heap.push (zj (rawInt 0) 0 a kn ep)=s.heap.push (zj (rawInt 0) 0 a kn ep):=rfl
  have:=h (s.heap.push (zj (rawInt 0) 0 a kn ep)) s.drawn ⇑s [⇑s,a] ord (λi h=>h.get? ⇑s=some (zj (rawInt (at_ i)) i a kn ep)/\h.get? a=some o)
   (λb u e=>AH _ e) (AF _) (λb hb=>by
    rw[Ax];rcases AJ.mp hb with z|z
    .rw[z];exact ⟨CM _,.inr (AF _)⟩
    .rw[BD.mp z];calc ⟨Bx hal,.inl rfl⟩)
   (λA hh=>KY hh (AU hal) N hS) ⟨by rw[h0];calc AK _ rfl,AH _ ho⟩ hp
  exact this
 let mk:∀ (s1:Yl) (f:Yu) (hv:s1.heap.get? a=some o) {Q':Fin->Shared->Prop},Q' (.done (.ret (.ref ⇑s1))) { s1 with heap:=s1.heap.push (zj f 0 a kn ep) }->wpAny (model prog w) A.in1 (do
   let e <- setEpoch a;let r <- newFields "set_iterator" [f,rawInt 0,Value.ref a,rawInt es.size,rawInt e];ret r) Q' E s1:=by
  intro s1 f hv Q' hq;calc AA (wpAny_setEpoch_of hv hS.data hS.fits ?_);erw[newFields];calc AA (Ao (AB ?_));rw[hsz];exact hq
 let ty:∀ (s1:Shared) (f:Value),(∃ T' r,Shared.TypeIs { s1 with heap:=s1.heap.push (zj f 0 a kn ep) } (.ref ⇑s1) T'/\typeLookup (Value.type T') (Str.ofString "__next__")=pure (some r)/\True):=λs1 f=>⟨"set_iterator", _,⟨_,AK _ rfl,rfl⟩,zP.lookup,trivial⟩;show wpAny _ _ (if (!w.params.followText "set-order" && (!t.plain&&decide (es.size>1)))=true then _ else _) _ _ _;by_cases hc:(!w.params.followText "set-order" && (!t.plain&&decide (es.size>1)))=true
 .rw[AD hc];refine AA (KD _ _ (by simp) λpl d hp=>?_);refine AA ?_;erw[newTuple];let hpl:pl.length=kn:=by rw[hp.length_eq,Dv,hsz]
  refine Ao ?_ (by
   show (List.map (λ(i:Nat)=>rawInt i) pl).toArray.size<=sizeLine;rw[AX,AI,hpl,<-hsz];calc fits_of_scanBound hS.bound)
  generalize hH:s.heap.push { cls:=.type "tuple", data:=.seq (List.map (λ(i:Nat)=>rawInt i) pl).toArray }=H;let kH:∀ b u,s.heap.get? b=some u->H.get? b=some u:=λb u e=>by rw[<-hH];exact AH _ e
  let hT1:IsTup H ⇑s (pl.map λ(k:Nat)=>rawInt k).toArray:=⟨_,by rw[<-hH];calc AK _ rfl,rfl,0,rfl⟩;let szH:H.objs.size=⇑s+1:=by rw[<-hH];exact Ax ..
  let szlt:⇑s<H.objs.size:=by rw[szH];exact CM _
  let alt:a<H.objs.size:=Nat.lt_trans hal szlt;calc mk { s with heap:=H,drawn:=d } (.ref ⇑s) (kH _ _ ho) ?_;let⟨T',r,e1,e2,_⟩:=ty { s with heap:=H,drawn:=d } (.ref ⇑s);calc ⟨_,rfl,T',r,e1,e2,?_⟩;let kH2:∀ b u,s.heap.get? b=some u->(H.push (zj (.ref ⇑s) 0 a kn ep)).get? b=some u:=λb u e=>AH _ (kH b u e);refine h _ d H.objs.size [H.objs.size,a,⇑s] (pl.map λk=>((es[k]?).map (·.2)).getD .none) (λi h=>h.get? H.objs.size=some (zj (.ref ⇑s) i a kn ep)/\h.get? a=some o/\IsTup h ⇑s (pl.map λ(k:Nat)=>rawInt k).toArray) kH2 (by rw[szH];calc Cu _) (λb hb=>?_) (λA hh=>?_) ⟨AK _ rfl,kH2 a o ho,?_⟩ ?_
  .rw[Ax];simp only[AJ,A7,Az]at hb;rcases hb with z|z|z
   .rw[z];exact ⟨CM _,.inr (De szlt)⟩
   .rw[z];exact ⟨Bx alt,.inl rfl⟩
   .rw[z];exact ⟨Bx szlt,.inr (AF _)⟩
  .have hb:∀ k∈pl,k<es.size:=λk hk=>by have:=hp.mem_iff.mp hk;simpa using this
   refine Nm (KP hh (a:=a) (I:=H.objs.size) (T:=⇑s) (AU alt) (AU szlt) hS hpl hb) λi v hv=>?_;rw[AW];cases q:pl[i]? with
   |none=>rw[q]at hv;ext hv
   |some k=>
    rw[q]at hv;simp only[Ek]at hv;rw[Option.map_some,hv];rfl
  .exact hT1.push _
  .have e:es.toList.map (·.2)=(List.range es.size).map λk=>((es[k]?).map (·.2)).getD .none:=by
    apply E6;intro i;rw[AW,AW,CI];by_cases q:i<es.size
    .rw[List.getElem?_range q,BM q];simp[q]
    .rw[Fx (),Cy (by simp;omega)];rfl
   rw[e];exact hp.map _
 .rw[AE hc];calc mk s (rawInt 0) ho ?_;let⟨T',r,e1,e2,_⟩:=ty s (rawInt 0);calc ⟨_,rfl,T',r,e1,e2,?_⟩;cases hX:w.params.followText "set-order" with
  |true=>calc plain _ _ rfl (Kd hS hX) ((JT _ es).map _)
  |false=>
   rw[hX]at hc;calc plain _ _ rfl (Jw hS hX (~~~hc)) (.refl _)
def collect_set (hh:A.handled=none) (ho:s.heap.get? a=some o) (hS:SetB w o es ep t kn)
  (hQ:∀ (s':Yl) (acc:Yf),(∀ b u,s.heap.get? b=some u->s'.heap.get? b=some u)->s'.os=s.os->s'.gens=s.gens->acc.Perm (es.toList.map (·.2))->Q acc s'):wpAny (model prog w) A (collect (.ref a)) Q E s:=by
 let hal:a<⇑s:=AG ho;let hn:kn<=sizeLine:=by rw[<-hS.size];exact fits_of_scanBound hS.bound
 erw[collect];calc AA (wpAny_runValue (CG F.entry_proto_collect ?_));rw[Cs F.plain_proto_collect _];show wpAny _ A.in1 (newList [] >>= λl=>again (.builtin "list.__iadd__" ⟨[l,.ref a],[]⟩)) _ _ s;calc AA (Ao (AB ⟨Ds F.plain_list_iadd _,CG F.entry_list_iadd ?_⟩));rw[Cs F.plain_list_iadd _];generalize hH:s.heap.push { cls:=.type "list", data:=.seq ([]:List Value).toArray }=H;let kH:∀ b u,s.heap.get? b=some u->H.get? b=some u:=λb u e=>by rw[<-hH];exact AH _ e
 let szH:H.objs.size=⇑s+1:=by rw[<-hH];exact Ax ..
 let hL1:H.get? ⇑s=some { cls:=.type "list", data:=.seq ([]:List Value).toArray }:=by rw[<-hH];exact AK _ rfl
 let ho1:=kH a o ho;show wpAny _ A.in1 (Builtin.List.listExtendWith (.ref ⇑s) (.ref a) (.ref ⇑s)) _ _ { s with heap:=H };erw[Builtin.List.listExtendWith];let hT1:Shared.TypeIs { s with heap:=H } (.ref a) "set" := ⟨o,ho1,hS.ex.1⟩;calc AA (C8 hT1 ?_);let hneL:⇑s≠a:=B9 hal;let h1:Builtin.List.listSameRef (.ref ⇑s) (.ref a)=false:=by simp[Builtin.List.listSameRef,hneL]
 let h2:(Value.type "set" == Value.type "list")=false:=()
 let h3:(Value.type "set" == Value.type "tuple")=false:=()
 simp only[h1,h2,h3,Bool.or_false,Ac,Ah];refine AA (MW (s:={ s with heap:=H }) ho1 hS λh2 d I fp ord St k2 hI2 hfp W st0 hp=>?_);let ho2:=k2 a o ho1;refine AA (A6 (Nn (s:={ s with heap:=h2,drawn:=d }) ⟨o,ho2,hS.ex.1⟩ ?_));rw[AD (by decide+kernel)];refine AA (Bo (AA ?_));show wpAny _ A.in1 (updateSeq ⇑s (·.push .none) >>= λ_=>updateSeq ⇑s (·.pop)) _ _ _;let hL2:=k2 _ _ hL1;refine AA (wpAny_updateSeq (s:={ s with heap:=h2,drawn:=d }) hL2 rfl ?_);let hS2:=CA (Obj.mapSeq (·.push Value.none)) hL2 rfl;refine wpAny_updateSeq hS2 rfl ?_;let hS3:=CA (Obj.mapSeq (·.pop)) hS2 rfl;generalize hH3:(h2.update ⇑s (Obj.mapSeq (·.push Value.none))).update ⇑s (Obj.mapSeq (·.pop))=H3 at hS3;let oth:∀ b u,b≠⇑s->h2.get? b=some u->H3.get? b=some u:=λb u hb e=>by
  rw[<-hH3];exact (DK _ _ (Ne.symm hb)).trans ((DK _ _ (Ne.symm hb)).trans e)
 let hSf:⇑s∉fp:=λhm=>by
  rcases (hfp _ hm).2 with z|z
  .exact hneL z
  .have z':H.objs.size<=⇑s:=z;rw[szH]at z';exact absurd z' (Nat.not_succ_le_self _)
 let WS:=(W A.in1.in1 hh).toS;let st3:St 0 H3:=(W A.in1.in1 hh).frame 0 _ _ st0 λb hb u e=>oth b u (λz=>hSf (z▸hb)) e;let hI3:I≠⇑s:=λz=>by
  let z':H.objs.size<=I:=hI2;rw[szH,z]at z';exact absurd z' (Nat.not_succ_le_self _)
 refine AB ⟨Ds F.plain_extend_loop _,codeAny_extend_loopS (A:=A) (WalksS.of_in1 WS) hn _ hSf _ kn 0 { s with heap:=H3,drawn:=d } _ _ rfl (A8 _) st3 hS3 (ItemsOf.nil _) λs' acc' c' hm hS' hacc=>?_⟩;show wpAny _ A (load ⇑s >>= _) _ _ s';refine AA (wpAny_load hS' (AB (hQ s' _ (λb u e=>hm.heap b u (λq=>?_) (oth b u (λz=>BK _ (z▸AG e)) (k2 b u (kH b u e)))) hm.os hm.gens ?_)))
 .rcases AJ.mp q with z|z
  .exact BK _ (z▸AG e)
  .have z':H.objs.size<=I:=hI2;rw[<-BD.mp z,szH]at z';exact BK _ (Nat.lt_trans (BH (CM _) z') (AG e))
 .have e:acc'.toList=ord:=by
   let hl:ord.length=kn:=by rw[hp.length_eq,AI,Ae,hS.size]
   apply E6;intro i;rw[CI];by_cases q:i<kn
   .have q':i<acc'.size:=by rw[hacc.1];exact q
    rw[BM q'];exact (hacc.2 i _ (BM q')).symm
   .rw[Fx (by rw[hacc.1];omega),Cy ()]
  rw[e];calc hp
end
end SB
namespace ST
open PySem PySem.SetTable
def SetT.base {prog:Ym} {w:Yo} {K:Type} [DecidableEq K] {knd:KeyKind prog w K} {o:Obj} {es:Yw} {ep:Nat} {t:SetTable} {ks:List (List K)} {P:List K->Addr->Prop} (q:SetT knd P o es ep t ks):SB.SetB w o es ep t ks.length:=by
 let⟨ks',p,f⟩:=q.ent;refine ⟨q.ex,q.data,⟨q.led,q.tab.up,q.tab.nod⟩,q.fits,?_,?_⟩
 .have h1:=q.room;let h2:=(Js q.tab.msk).1;let h3:scanBound=4096:=rfl;omega
 .rw[<-p.length_eq,<-zv f,Ae]
end ST
namespace L2
open ST
abbrev TPk (H:Hp):List Key->Addr->Prop:=λk b=>H b=some (.tup (k.map kV))
section
variable {X:Cx} {zB:Yd} {Y:St} {H:Hp} {s:Yl} {scope:Y0} {cl:Yv} {fp:Yg} {it:Yt} {tn:Nat->Heap->Prop} {J:It} {tg elt iter:Expr} {ifs:Yi} {pos:Pos}
 {own:Yj} {g:TG} {tc:TT} {te:TE} {E:Yc}
def bE (h:SetT (zf prog w) P o es ep t ks):∀ v,o.data≠.cell v:=λv z=>by rw[h.data]at z;ext z
def RO (C:CompIn X scope own) (hcalm:X.calm=true) (hu:X.A.units+1<cLine) (I:Inv X zB Y H s) (T:Turn X.prog X.w X.K tg J fp it tn) (st:tn 0 s.heap) (hf:∀ b∈fp,BL X zB H b)
  (c1:∀ x c,cl.lookup x=some c->X.env.cells.lookup x=some c) (c2:∀ y∈scope.names,y.2=.free->(cl.lookup y.1).isSome=true)
  (hg:PG (zG X zB scope cl s H fp) tg g) (hi:DF (zG X zB scope cl s H fp) ifs tc) (he:PE (zG X zB scope cl s H fp) elt te)
  {RR:Value->Addr->Result->Shared->Prop} {QQ:List (List Key)->Hp->Prop} {W:Nat->Nat->List (List Key)->Hp->Prop} {m0:Nat} (w0:W 0 m0 [] H)
  (turn:∀ i m ys H,W i m ys H->(J.stop i H/\QQ ys H) \/
   (J.go i H /\ ∀ x H',J.yld i H x H'->g x (clr own Y) H' λσ2 H2=>Ext (clr own Y) σ2/\tc σ2 H2 λb H3=>
    if b=true then te σ2 H3 λv H4=>∃ k p,v=.ref p/\TPk H4 k p/\ys.length<60/\(∀ k b,TPk H k b->TPk H4 k b) /\ ∃ m',m'<m/\W (i+1) m' (ins ys k) H4 else (∀ k b,TPk H k b->TPk H3 k b) /\ ∃ m',m'<m/\W (i+1) m' ys H3))
  (fin:∀ σc H' s' o es ep t ys,Inv (zG X zB scope cl s H fp) [(⇑s,o)] σc H' s'->SetT (zf X.prog X.w) (TPk H') o es ep t ys->QQ ys H'->RR (.ref ⇑s) (⇑s+1) (.ok .next) s') :
  wpAny (model X.prog X.w) X.A (newSet (.type "set")) (λacc s₃=>wpAny (model X.prog X.w) X.A (newFunctionEnv scope X.env.globals cl [] X.env.qual none .none (some X.env)) (λcenv s₄=>
   codeAny (model X.prog X.w) X.A (.compStart (.SetComp elt [⟨tg,iter,ifs,0⟩] scope pos) 0 (.ref it) acc { cenv with scope:=relabel scope X.env }) (RR acc cenv.locals) s₄) E s₃) E s:=by
 let ob:∀ b:Nat,b∈fp->b<⇑s:=λb hb=>let ⟨_,e,_⟩:=T.obj 0 _ st b hb;AG e;refine QY (JP ?_);let sz1:(s.heap.push (zN X.w)).objs.size=⇑s+1:=Ax ..;let I4:=Ju (X:=X) (zB:=zB) (Y:=Y) (σc:=clr own Y) (H:=H) (s:=s) (scope:=scope) (cl:=cl) (fp:=fp) C.sc I hf ob c1 c2 (FP own Y) (λi x v h1 h2 h3=>by
  let⟨a,b⟩:=E4 own Y i v h2;rcases C.nm i x h1 with z|z|z
  .exact absurd z b
  .exact absurd (Ij x z) h3
  .exact ⟨z,a⟩) (zN X.w) (by intro v z;ext z) rfl rfl
 let st4:tn 0 (pushCells ((s.heap.push (zN X.w)).push { cls:=.type "dict", data:=.dict #[] }) scope.names):=T.keep 0 _ _ st λb _ o e=>pushCells_keeps _ _ b o (AH _ (AH _ e));dsimp only;erw[newEnv];dsimp only;rw[sz1];let hDfp:⇑s∉fp:=λz=>BK _ (ob _ z);let hcD:∀ x c,(zG X zB scope cl s H fp).env.cells.lookup x=some c->c≠⇑s:=λx c e z=>by
  let⟨v,o,ho,hd⟩:=I4.cell x c e;let⟨q,_⟩:=I4.pin (⇑s,zN X.w) (by simp);rw[z,q]at ho;ext ho;ext hd
 let fpk:∀ {H':Hp} {pl:Yd},(∀ b∈fp,H' b=none)->(∀ p∈pl,p.1=⇑s) -> ∀ b∈fp,BL (zG X zB scope cl s H fp) pl H' b:=λ{H' pl} hn hp b hb=>
  ⟨hn b hb,(I4.ok.exf b hb).1,I4.ok.exfs b hb,.inl hb,(I4.ok.exf b hb).2,λp hq=>by
   rcases Au.mp hq with z|z
   .exact (hf b hb).2.2.2.2.2 p z
   .intro e;let e2:=hp p z;rw[e]at e2;calc hDfp (e2▸hb)⟩
 let loop:codeAny (model X.prog X.w) X.A (.compLoop (.SetComp elt [⟨tg,iter,ifs,0⟩] scope pos) 0 (.ref it) (.ref ⇑s) (zG X zB scope cl s H fp).env) (RR (.ref ⇑s) (⇑s+1))
   { s with heap:=pushCells ((s.heap.push (zN X.w)).push { cls:=.type "dict", data:=.dict #[] }) scope.names }:=by
  refine PQ (λn s'=>∃ i H' ys o es ep t,Inv (zG X zB scope cl s H fp) [(⇑s,o)] (clr own Y) H' s'/\SetT (zf X.prog X.w) (TPk H') o es ep t ys/\tn i s'.heap/\(∀ b∈fp,H' b=none)/\W i n ys H') ?_ m0
   ⟨0,H,[],zN X.w,_,_,_,I4,.fresh,st4,λb hb=>(hf b hb).1,w0⟩
  rintro n s5 ⟨i,H5,ys,o,es,ep,t,I5,r5,st5,f5,w5⟩;let pinD:∀ p∈[(⇑s,o)],p.1=⇑s:=λp hp=>by
   have:p=(⇑s,o):=by simpa using hp
   rw[this]
  rcases turn i n ys H5 w5 with ⟨stop,qq⟩|⟨go,step⟩
  .refine thn (T.done (zG X zB scope cl s H fp) rfl rfl rfl hcalm i _ s5 _ H5 _ I5 (fpk f5 pinD) st5 stop) λr s6 ⟨hr,I6⟩=>?_;subst hr;exact fin _ H5 s6 o es ep t ys I6 r5 qq
  .refine thn (T.item (zG X zB scope cl s H fp) rfl rfl rfl hcalm i _ s5 _ H5 _ I5 (fpk f5 pinD) st5 go) λr s6 ⟨u,hr,h6⟩=>?_;subst hr;refine thn h6 λ_ s7 ⟨x,H7,I7,r7,y7,st7,f7⟩=>?_;let I7':=I7.pinned (fpk f7 pinD) (T.obj _ _ st7);refine thn (hg _ s7 _ H7 x u _ I7' r7 (step x H7 y7)) λ_ s8 ⟨σ8,H8,I8,x8,q8⟩=>?_;refine thn (hi _ s8 σ8 H8 _ I8 q8) λok s9 ⟨H9,I9,q9⟩=>?_;let back:∀ {s':Yl} {Hx:Hp},Inv (zG X zB scope cl s H fp) ([(⇑s,o)]++Dt fp s7.heap) σ8 Hx s'->tn (i+1) s'.heap /\ ∀ b∈fp,Hx b=none:=λ{s' Hx} Ix=>
    ⟨T.keep _ _ _ st7 λb hb o e=>(Ix.pin (b,o) (Af _ (Af _ (DB hb e)))).1,λb hb=>by
     let⟨o,e,d⟩:=T.obj _ _ st7 b hb;calc (Ix.pin (b,o) (Af _ (Af _ (DB hb e)))).2.1⟩
   cases ok with
   |false=>
    let⟨hts,m',hm,w'⟩:=q9;let⟨b1,b2⟩:=back I9;calc ⟨m',hm,i+1,H9,ys,o,es,ep,t,(I9.weak (by rw[x8.1]) x8.2).unpinned,r5.imp hts,b1,b2,w'⟩
   |true=>
    refine thn (he _ s9 σ8 H9 _ I9 q9) λv s10 ⟨y,H10,I10,r10,k,p,hk,hp10,hlt,hts,m',hm,w'⟩=>?_;subst hk;let⟨b1,b2⟩:=back I10;let J10:=(I10.weak (by rw[x8.1]) x8.2).unpinned;let⟨e10,n10,ne10,nf10,d10⟩:=J10.pin (⇑s,o) (by simp);let hv:v=.ref p:=r10;subst hv;refine Um (knd:=zf X.prog X.w) (P:=TPk H10) (tupleKind_room_in1 (knd:=zf X.prog X.w) hu) (λk b e=>FN J10.hok e) hp10 e10 (r5.imp hts) hlt λh' o' es' ep' t' hs' e' S'=>?_;refine ⟨m',hm,i+1,H10,ins ys k,o',es',ep',t',?_,S',T.keep _ _ _ b1 λb hb o e=>hs'.extBut b o (λz=>hDfp (z▸hb)) e,b2,w'⟩;refine (Inv.repin (pl:=[]) J10 (λp hp=>?_) hs' (AF _) hcD e' (bE S')).tok _;rw[CV]at hp;let hp':p∈X.pn++zB:=hp;exact AU (AG (I.pin p hp').1)
 calc Mi loop (T.self _ 0 _ _ _ st4 loop)
end
abbrev TZT:=St->Hp->(List (List Key)->Hp->Prop)->Prop
def PZT (X:Cx) (e:Expr) (t:TZT):Prop:=∀ (zB:Yd) (s:Yl) (Y:St) (H:Hp) (Q:List (List Key)->Hp->Prop),Inv X zB Y H s->t Y H Q ->
 wpAny (model X.prog X.w) X.A (eval e X.env) (λv s'=>∃ a o es ep tb ks H',v=.ref a/\s'.heap.get? a=some o/\SetT (zf X.prog X.w) (TPk H') o es ep tb ks/\Inv X zB Y H' s'/\Q ks H') X.xe s
def NL (own:Yj) (wi:TI) (g:TG) (tc:TT) (te:TE):TZT:=λY H Q=>wi Y H λJ H1=>∃ W:Nat->Nat->List (List Key)->Hp->Prop,(∃ m,W 0 m [] H1) /\ ∀ i m ys H,W i m ys H ->
 (J.stop i H/\Q ys H) \/
 (J.go i H /\ ∀ x H',J.yld i H x H'->g x (clr own Y) H' λσ2 H2=>Ext (clr own Y) σ2/\tc σ2 H2 λb H3=>
  if b=true then te σ2 H3 λv H4=>∃ k p,v=.ref p/\TPk H4 k p/\ys.length<60/\(∀ k b,TPk H k b->TPk H4 k b) /\ ∃ m',m'<m/\W (i+1) m' (ins ys k) H4 else (∀ k b,TPk H k b->TPk H3 k b) /\ ∃ m',m'<m/\W (i+1) m' ys H3)
section
variable {X:Cx} {scope:Y0} {tg elt iter:Expr} {ifs:Yi} {pos:Pos} {own:Yj} {wi:TI} {g:TG} {tc:TT} {te:TE}
def dW (C:CompIn X scope own) (hcalm:X.calm=true) (hu:X.A.units+1<cLine) (hi:PI X tg iter wi) (p:CompParts X scope tg ifs elt g tc te) (hs:∀ x,foldedSetIterable iter X.env x=pure x:=by intro _;rfl) :
  PZT X (.SetComp elt [⟨tg,iter,ifs,0⟩] scope pos) (NL own wi g tc te):=by
 intro zB s Y H Q I h;let⟨cl,hcl,c1,c2⟩:=C.sc.closure I;rw[arm_eval_SetComp];refine GP (use:=none) rfl hs hcl C.sc.kind C.sc.names (thn (hi zB s Y H _ I h) λv s1 h1=>thn h1 λitv s2 h2=>?_);let⟨it,fp,tn,J,H2,e,I2,T,st2,f2,W,⟨m0,w0⟩,turn⟩:=h2;subst e;refine RO C hcalm hu I2 T st2 f2 c1 c2 (p.g _ _ _ _ _) (p.c _ _ _ _ _) (p.e _ _ _ _ _) (RR:=λacc C r s'=>compPost (model X.prog X.w) X.A X.xe none (λv s'=>∃ a o es ep tb ks H',v=.ref a/\s'.heap.get? a=some o/\SetT (zf X.prog X.w) (TPk H') o es ep tb ks/\Inv X zB Y H' s'/\Q ks H') acc C r s') (QQ:=Q) w0 turn ?_;intro σc H' s' o es ep t ys Ic rv qq;let⟨m,hn,_⟩:=Ic.loc;refine ⟨m,hn,λh' hs'=>?_⟩;let⟨J',eD⟩:=Q0 I2 f2 Ic hs';calc ⟨_,o,es,ep,t,ys,H',rfl,eD,rv,J',qq⟩
end
end L2
namespace L3
open L2 ST
theorem Q1 {prog:Ym} {w:Yo} {K:Type} [DecidableEq K] {knd:KeyKind prog w K} {P:List K->Addr->Prop}:∀ {es:List (Int × Value)} {ks:List (List K)},F2 (JW knd P) es ks->F2 (λv k=>∃ b,v=.ref b/\P k b) (es.map (·.2)) ks
 |_,_,.nil=> .nil
 |_,_,.cons ⟨b,h1,h2,_⟩ r=> .cons ⟨b,h1,h2⟩ (Q1 r)
def WO {α β:Type} {f:α->β}:∀ {ys:List β} {xs:List α},ys.Perm (xs.map f) -> ∃ zs:List α,zs.Perm xs/\ys=zs.map f:=by
 let key:∀ {ys ws:List β},ys.Perm ws -> ∀ {xs:List α},ws=xs.map f -> ∃ zs:List α,zs.Perm xs/\ys=zs.map f:=by
  intro ys ws h;induction h with
  |nil=>intro xs e;calc ⟨xs,.refl _,e⟩
  |cons a p ih=>
   intro xs e;cases xs with
   |nil=>ext e
   |cons x xs=>injection e with e1 e2;let⟨zs,h1,h2⟩:=ih e2;calc ⟨x::zs,h1.cons x,by rw[e1,h2];rfl⟩
  |swap a b l=>
   intro xs e;cases xs with
   |nil=>ext e
   |cons x xs=>
    cases xs with
    |nil=>ext e
    |cons y xs=>injection e with e1 e2;injection e2 with e2 e3;calc ⟨y::x::xs,.swap x y xs,by rw[e1,e2,e3];rfl⟩
  |trans _ _ ih1 ih2=>
   intro xs e;let⟨zs,h1,h2⟩:=ih2 e;let⟨us,h3,h4⟩:=ih1 h2;exact ⟨us,h3.trans h1,h4⟩
 intro ys xs h;calc key h rfl
def RP (h:kkI a=kkI b):a=b:=by
 erw[kkI]at h;calc (List.map_inj_right (λx y e=>by injection e)).mp h
def Xy (ks:Ya) (k:Ye):ins (ks.map kkI) (kkI k)=(ins ks k).map kkI:=by
 have:kkI k∈ks.map kkI ↔ k∈ks:=⟨λh=>by let⟨y,h1,h2⟩:=AR.mp h;rw[<-RP h2];exact h1,λh=>List.mem_map_of_mem h⟩;erw[ins];by_cases h:k∈ks
 .rw[AD h,AD (this.mpr h)]
 .rw[AE h,AE (λz=>h (this.mp z)),Dw];rfl
section
variable {X:Cx} {scope:Y0} {tg elt iter e:Expr} {ifs:Yi} {pos pos1 p:Pos} {own:Yj}
def VZ {t:TZT} (hc:X.calm=true) (hg:Gl X "sorted") (hm:X.mg "sorted" = none) (ha:PZT X e t) (hs:starEach [e] X.env=(false,eval e X.env)::starEach [] X.env:=by rfl) (hpl:(backTo pos (starEach [] X.env)).any (·.1)=false:=by rfl) :
  PE X (.Call (.Name "sorted" p) [e] [] pos) (λY H Q=>t Y H λks H1=>∃ ts,ks=ts.map kkI/\(∀ t∈ts,t≠[])/\ts.length<64 /\ ∀ ys l,Jl H1 ys (DL ts)->H1 l=none->Q (.ref l) (upd H1 l (.lst ys))):=by
 intro zB s Y H Q I h;calc E2 (C7 I hg hm (by rfl) ?_ () ());calc callWith_builtin1 ?_ hs hpl;rw[hs];show wpAny _ _ (spliced ((false,eval e X.env)::backTo pos (starEach [] X.env))) _ _ s;refine Calls.spliced_cons (thn (ha zB s Y H _ I h) λu s1 z=>Calls.spliced_nil ?_);let⟨a,o,es,ep,tb,ks,H1,hv,ho,hS,I1,ts,hts,hne,h64,q⟩:=z;subst hv;subst hts;refine dX (SB.collect_set (I1.ok.hd hc) ho hS.base λs2 acc k1 k2 k3 hp=>?_);let⟨ks',p,f⟩:=hS.ent;let⟨ks2,p2,f2⟩:=HP hp (Q1 f);let⟨ts2,pt,e2⟩:=WO (p2.trans p);subst e2;let I2:Inv X zB Y H1 s2:=I1.kept' k1 k2 k3;let hal:acc.length=ts2.length:=by rw[zv f2,AI]
 let hl2:=pt.length_eq;let a2:∀ (i:Nat) u,acc[i]?=some u -> ∃ t b,ts2[i]?=some t/\u=.ref b/\H1 b=some (.tup ((kkI t).map kV))/\BX s2.heap (.ref b) t:=λi u e=>by
  let⟨k,e1,b,e3,e2⟩:=K9 f2 e;rw[AW]at e1;let⟨t,e4,rfl⟩:=Option.map_eq_some_iff.mp e1;exact ⟨t,b,e4,e3,e2,eQ (I2.hok b _ e2)⟩
 refine ⟨(),λv hv'=>?_,λh' out n hk hL hp' hs'=>?_⟩
 .obtain ⟨i,hi⟩:=List.mem_iff_getElem?.mp hv';let⟨t,b,e1,rfl,_,tt⟩:=a2 i v hi;cases t with
  |nil=>calc absurd rfl (hne _ (pt.mem_iff.mp (Bn e1)))
  |cons x t=>exact ⟨x,t,tt⟩
 .obtain ⟨ys,rvy,tv⟩:=Vu hal a2 hp' hs';let es:DL ts2=DL ts:=QM ((Ib ts2).trans pt) (J5 ts2);rw[es]at tv;calc ⟨.ref ⇑s2,upd H1 ⇑s2 (.lst ys),I2.laid (t':=s2.toks) hk (AF _) ⟨by rw[tv.1,(Ib ts).length_eq,CO];omega,out,n,rvy,hL⟩,rfl,q ys _ tv (I2.hok.fresh (AF _))⟩
def HY (own:Yj) (fi:FI) (g:FG) (tc:FT) (te:FE):FE:=λY M=>match zu own fi g tc te Y M with
 |some (.fl ys,M2)=>match Dz ys with
  |some ts=>if GV ts=true/\ts.length<60 then some (.fl ((DL (zJ ts)).map λt=>D.tup (t.map D.int)),M2) else none
  |none=>none
 |_=>none
def aW {K:Yb} {fi:FI} {g:TG} {fg:FG} {tc:FT} {te:FE} (hg:CK own g fg) {τ:Sv} {H:Hp} {Q:List (List Key)->Hp->Prop} {L:Yg} {Y:Sd} {M Mf:Mem} {zs:List D} {ts:Ya} (c:Cor K L M H) (rs:Ad L H Y τ) (hf:zu own fi fg tc te Y M=some (.fl zs,Mf)) (hts:Dz zs=some ts) (hn:ts.length<60)
  (q:∀ L' H',Stp L H L' H'->Cor K L' Mf H'->Q ((zJ ts).map kkI) H'):NL own (trI K fi) g (trT K tc) (trD K (toD te)) τ H Q:=by
 erw[zu]at hf;cases e1:fi Y M with
 |none=>rw[e1]at hf;ext hf
 |some r=>
  let⟨xs,gd,M1⟩:=r;rw[e1]at hf;dsimp only at hf;by_cases hz:xs.length<=sizeLine
  .rw[AD hz]at hf;cases e2:Am fg tc te (BW own Y) xs gd xs M1 with
   |none=>rw[e2]at hf;ext hf
   |some r=>
    let⟨zs,M2⟩:=r;rw[e2]at hf;ext hf;refine ⟨L,Y,M,_,_,_,c,rs,e1,λL1 H1 J s1 c1 it=>?_⟩
    refine ⟨λi m ys H'=>m=xs.length-i/\i<=xs.length /\ ∃ L' M' bs ka kb,Stp L1 H1 L' H'/\Cor K L' M' H'/\ys=(zJ ka).map kkI/\Am fg tc te (BW own Y) xs gd (xs.drop i) M'=some (bs,Mf)/\Dz bs=some kb/\ka++kb=ts,
     ⟨xs.length,by simp,A8 _,L1,M1,zs,[],ts,.refl _ _,c1,rfl,by simpa using e2,hts,rfl⟩,?_⟩
    rintro i m ys H' ⟨rfl,hi,L',M',bs,ka,kb,s',c',hl,e',ekb,hab⟩;by_cases hlt:i<xs.length
    .rw[GO hlt]at e';erw[Am]at e';cbv at e'
     .rename_i hgd;let⟨step,_⟩:=it L' H' M' s' c' hgd;let⟨go,yl⟩:=step i xs[i] (AL hlt);cbv at e'
      .rename_i σ1 eg;refine .inr ⟨go,λv H2 hy=>?_⟩;let⟨gr,rv⟩:=yl v H2 hy;let s2:Stp L1 H1 L' H2:=s'.yld gr;refine hg (GX own ((rs.stp s1).stp s2)) (.refl _) rv eg λτ2 r2 x2=>⟨x2,?_⟩;cbv at e'
       .rename_i M3 e3;cbv at e'
        .rename_i d M4 e4;cbv at e'
         .rename_i ds M5 e5;ext e';refine ⟨L',σ1,M',_,_,c'.grow gr,r2,e3,λL3 H3 s3 c3=>DU ?_⟩;refine ⟨L3,σ1,M3,_,_,c3,r2.stp s3,e4,λL4 H4 w s4 c4 r4=>?_⟩;let st:Stp L' H' L4 H4:=((Stp.grow gr).trans s3).trans s4;erw[Dz]at ekb;cbv at ekb
          .rename_i x kr h1 h2;ext ekb;let⟨b,eb1,eb2⟩:=(Qf (ds:=[d]) (ts:=[x]) (vs:=[w]) (by erw[Dz];rw[h1];rfl) (.cons r4 .nil)).2 0 x rfl;ext eb1;let hla:=Fb ka;have:=BI List.length hab;simp only[Aw,Ci]at this;refine ⟨kkI x,b,rfl,eb2,by rw[hl,AI];omega,λk b e=>st.tup b _ e,xs.length-(i+1),(),rfl,hlt,L4,M4,ds,ka++[x],kr,s'.trans st,c4,by rw[hl,Xy,HM],e5,h2,by rw[<-hab];simp⟩
          .cases ekb
         .cases e'
        .cases e'
       .rename_i M3 e3;refine ⟨L',σ1,M',_,_,c'.grow gr,r2,e3,λL3 H3 s3 c3=>Dd ?_⟩;let st:Stp L' H' L3 H3:=(Stp.grow gr).trans s3;exact ⟨λk b e=>st.tup b _ e,xs.length-(i+1),(),rfl,hlt,L3,M3,bs,ka,kb,s'.trans st,c3,hl,e',ekb,hab⟩
       .cases e'
      .cases e'
     .cases e'
    .have hi':i=xs.length:=()
     subst hi';rw[List.drop_length]at e';erw[Am]at e';cbv at e'
     .rename_i hgd;ext e';let⟨_,stop⟩:=it L' H' _ s' c' hgd;ext ekb;rw[CV]at hab;subst hab;calc .inl ⟨stop,?_⟩;rw[hl];exact q L' H' (s1.trans s') c'
     .cases e'
  .rw[AE hz]at hf;ext hf
def bD {fi:FI} {g:TG} {fg:FG} {tc:FT} {te:FE} (hu:X.A.units+1<cLine) (hgl:Gl X "sorted") (hm:X.mg "sorted" = none) (hg:CK own g fg) (C:CompIn X scope own) (hc:X.calm=true) (hi:QI X tg iter fi) (p1:QParts X scope tg ifs elt g tc te) (hss:∀ x,foldedSetIterable iter X.env x=pure x:=by intro _;rfl)
  (hs:starEach [.SetComp elt [⟨tg,iter,ifs,0⟩] scope pos1] X.env=(false,eval (.SetComp elt [⟨tg,iter,ifs,0⟩] scope pos1) X.env)::starEach [] X.env:=by rfl) (hpl:(backTo pos (starEach [] X.env)).any (·.1)=false:=by rfl) :
  QE X (.Call (.Name "sorted" p) [.SetComp elt [⟨tg,iter,ifs,0⟩] scope pos1] [] pos) (HY own fi fg tc te):=.mk <| PE.imp (VZ hc hgl hm (dW C hc hu hi.un p1.parts hss) hs hpl) λτ H Q h=>by
 let⟨L,Y,M,d,M',c,rs,hf,q⟩:=h;erw[HY]at hf;cbv at hf
 .rename_i ys M2 e1;cbv at hf
  .rename_i ts e2;cbv at hf
   .rename_i hb;ext hf;let hne:=fD hb.1;refine aW hg c rs e1 e2 hb.2 λL1 H1 s1 c1=>⟨zJ ts,rfl,λt ht=>hne t ((Gp ts t).mp ht),by have:=Fb ts;omega,λys l tv hl=>?_⟩;exact q L1 _ _ (s1.trans (.upd hl)) (c1.upd hl) (zT.newLst s1 c c1 hl (OL tv))
   .cases hf
  .cases hf
 .cases hf
end
end L3
namespace Law
open L2 L3
def Kl:FS:=(zV (AN 1 (fOp Aq (fB Al (zI (zC 0) za)) (fC (.int 3))))
  (zV (Bh (Aa (fSl (zC 0) DP (Cg (fC (.int 63))))) (gN 2) (AN 1 (fOp Bv (fOp Aq (fOp Aq (fOp GC (zC 1) (fC (.int 6364136223846793))) (fOp Bv (zC 2) (fOp Ho (fC (.int 10)) (fC (.int 30))))) (fC (.int 1442695040888963))) (fC (.int 2305843009213693951)))))
  (AV (By (zD (toD (zu [2] (Aa (fSl (zC 0) DP (Cg (fC (.int 63))))) (gN 2) (tst (fOp kGe (fB FC (zI (zC 2) za)) (fOp Ho (fC (.int 10)) (fC (.int 18))))) (fB FC (zI (zC 2) za)))) (zD (toD (zC 1)) zR))))))
def Hn:FF:=Aj 3 Kl
def L9:FS:=(zV (Cb (EG (tst (fOp kNe (fOp kIx (zC 0) (fC (.int 0))) (By zR))) (tst (fOp kEq (fOp kIx (fOp kIx (zC 0) (fC (.int 0))) (fC (.int 0))) (fC (.int 0))))) (Dr (fM DY (fOp kIx (zC 0) (fC (.int 0))) (zD (toD (fC (.int 0))) zR))) 100)
  (zV (sIf (tst (fOp kNe (fOp kIx (zC 0) (fC (.int 0))) (By zR))) (zV (AN 2 (fOp Bv (fOp kIx (fOp kIx (zC 0) (fC (.int 0))) (fC (.int 0))) (zC 1)))
  (zV (G6 (fOp FX (fOp kIx (fOp kIx (zC 0) (fC (.int 0))) (fC (.int 0))) (zC 1)) (fOp kIx (zC 0) (fC (.int 0))) (fC (.int 0)))
  (AV (zC 2)))) CS)
  (zV (G6 (fOp Bv (fOp Aq (fOp GC (fOp kIx (zC 0) (fC (.int 1))) (fC (.int 6364136223846793))) (fC (.int 1442695040888963))) (fC (.int 2305843009213693951))) (zC 0) (fC (.int 1)))
  (AV (fOp Bv (fOp FX (fOp Bv (fOp GC (fOp kIx (zC 0) (fC (.int 1))) (fOp kIx (zC 0) (fC (.int 1)))) (fC (.int 2305843009213693921))) (fC (.int 65537))) (zC 1))))))
def zZ:FF:=Aj 3 L9
structure Gen (M:Mem) (n k:Nat):Prop where
 ex:∃ (c:Ye) (s:Int),M[n]?=some (.lst [.ref k,.int s])/\M[k]?=some (.lst (c.map D.int))/\(∀ x∈c,0<=x)/\c.length<=63/\0<=s/\s<2305843009213693951
 ne:n≠k
 wf:∀ (j:Nat) u,M[j]?=some u->MO.und M.length u=true
structure Nx (M M':Mem) (n k:Nat):Prop where
 gen:Gen M' n k
 len:M'.length=M.length
 fr:∀ j,j≠n->j≠k->M'[j]?=M[j]?
def Nx.refl (h:Gen M n k):Nx M M n k:=⟨h,rfl,λ_ _ _=>rfl⟩
def Nx.trans {M M1 M2:Mem} {n k:Nat} (a:Nx M M1 n k) (b:Nx M1 M2 n k):Nx M M2 n k:=⟨b.gen,b.len.trans a.len,λj h1 h2=>(b.fr j h1 h2).trans (a.fr j h1 h2)⟩
theorem zo (n:Nat):∀ c:List Int,D.unds n (c.map D.int)=true
 |[]=>rfl
 |x::r=>by
  show (D.und n (D.int x)&&D.unds n (r.map D.int))=true;rw[zo n r];rfl
def Gen.lt (h:Gen M n k):n<M.length/\k<M.length:=by
 let⟨c,s,e1,e2,_⟩:=h.ex;calc ⟨(AY.mp e1).1,(AY.mp e2).1⟩
def Gen.put {M:Mem} (h:Gen M n k) {c:Ye} (hc:∀ x∈c,0<=x) (hl:c.length<=63) (h0:0<=s) (h1:s<2305843009213693951) :
  Nx M ((M.set k (.lst (c.map D.int))).set n (.lst [.ref k,.int s])) n k:=by
 let⟨hn,hk⟩:=h.lt;refine ⟨⟨⟨c,s,?_,?_,hc,hl,h0,h1⟩,h.ne,λj u e=>?_⟩,by simp,λj h1 h2=>?_⟩
 .rw[DE (~~~hn)]
 .rw[Bz h.ne,DE hk]
 .rw[List.length_set,List.length_set];rw[DA]at e;cbv at e
  .split at e
   .cases e;show D.unds _ _=true;erw[D.unds,D.unds,D.unds,D.und];simp[hk]
   .cases e
  .rw[DA]at e;cbv at e
   .rename_i z;subst z;ext e;exact zo _ _
   .exact h.wf j u e
 .rw[Bz (Ne.symm h1),Bz (Ne.symm h2)]
def Jh {M:Mem} (h:M[k]?=some u):M.set k u=M:=by
 apply E6;intro i;rw[DA];split
 .rename_i e;subst e;rw[AD (AY.mp h).1];exact h.symm
 .rfl
theorem Iw:∀ {a b:Ye},a.map D.int=b.map D.int->a=b
 |[],[],_=>rfl
 |[],_::_,h=>by ext h
 |_::_,[],h=>by ext h
 |x::a,y::b,h=>by
  rw[Ab,Ab]at h;let h1:=(List.cons.inj h).1;let h2:=Iw (List.cons.inj h).2;ext h1;rw[h2]
def at0 {x:D} {xs:List D}:atI (x::xs) 0=some x:=M0 rfl
def at1 {x y:D} {xs:List D}:atI (x::y::xs) 1=some y:=M0 rfl
def Ui (h:Gen M n k) (h0:0<m) (h1:m<1073741824) :
  Ok (zZ [.ref n,.int m] M) λd M'=>(∃ i,d=.int i/\0<=i/\i<m)/\Nx M M' n k:=by
 erw[zZ];rw[BN];erw[L9];rw[zL];let st:∀ {M:Mem} {c:Ye} {s:Int} {Y:Sd} {P:EV->Mem->Prop},Y[0]?=some (some (.ref n))->M[n]?=some (.lst [.ref k,.int s])->P (.dat (.ref k)) M->Ok (fOp kIx (zC 0) (fC (.int 0)) Y M) P:=λhσ hM p=>
  Ar.mpr (zm.mpr ⟨_,hσ,As.mpr (IY (B8 hM) at0 p)⟩)
 let sd:∀ {M:Mem} {s:Int} {Y:Sd} {P:EV->Mem->Prop},Y[0]?=some (some (.ref n))->M[n]?=some (.lst [.ref k,.int s])->P (.dat (.int s)) M->Ok (fOp kIx (zC 0) (fC (.int 1)) Y M) P:=λhσ hM p=>
  Ar.mpr (zm.mpr ⟨_,hσ,As.mpr (IY (B8 hM) at1 p)⟩)
 let hd:∀ {M:Mem} {c:Ye} {x s:Int} {Y:Sd} {P:EV->Mem->Prop},Y[0]?=some (some (.ref n))->M[n]?=some (.lst [.ref k,.int s])->M[k]?=some (.lst ((x::c).map D.int))->P (.dat (.int x)) M->Ok (fOp kIx (fOp kIx (zC 0) (fC (.int 0))) (fC (.int 0)) Y M) P:=λ{M c x s Y P} hσ hM hK p=>
  Ar.mpr (st (c:=c) hσ hM (As.mpr (IY (B8 hK) at0 p)))
 let ne:∀ {M:Mem} {c:Ye} {s:Int} {Y:Sd} {P:Bool->Mem->Prop},Y[0]?=some (some (.ref n))->M[n]?=some (.lst [.ref k,.int s])->M[k]?=some (.lst (c.map D.int))->P (!c.isEmpty) M->Ok (tst (fOp kNe (fOp kIx (zC 0) (fC (.int 0))) (By zR)) Y M) P:=λ{M c s Y P} hσ hM hK p=>by
  calc MP.mpr (Ar.mpr (st (c:=c) hσ hM (Ge.mpr (D6.mpr ⟨A8 _,?_⟩))));rw[ZY (F4 hK) (by intro d e;ext e;rfl)];rw[Fi];simpa using p
 let W:∀ (fuel m':Nat) (Y:Sd) (M':Mem),m'<fuel->((Y=[some (.ref n),some (.int m),none]/\Nx M M' n k) /\ ∃ (c:Ye) (s:Int),M'[n]?=some (.lst [.ref k,.int s])/\M'[k]?=some (.lst (c.map D.int))/\c.length=m') ->
   OkS (Cb (EG (tst (fOp kNe (fOp kIx (zC 0) (fC (.int 0))) (By zR))) (tst (fOp kEq (fOp kIx (fOp kIx (zC 0) (fC (.int 0))) (fC (.int 0))) (fC (.int 0))))) (Dr (fM DY (fOp kIx (zC 0) (fC (.int 0))) (zD (toD (fC (.int 0))) zR))) fuel Y M')
    (λo σ1 M1=>o=.nx/\σ1=[some (.ref n),some (.int m),none]/\Nx M M1 n k):=by
  intro fuel m' Y M' hlt hI;refine Hf (I:=λm' Y M'=>(Y=[some (.ref n),some (.int m),none]/\Nx M M' n k) /\ ∃ (c:Ye) (s:Int),M'[n]?=some (.lst [.ref k,.int s])/\M'[k]?=some (.lst (c.map D.int))/\c.length=m') ?_ fuel m' Y M' hlt hI;rintro m' Y M' ⟨⟨rfl,nx⟩,c,s,e1,e2,hl⟩;calc Uk.mpr (ne rfl e1 e2 ?_);cases c with
  |nil=>simp;calc nx
  |cons x c=>
   simp only[List.isEmpty_cons,Bool.not_false,BC];calc MP.mpr (Ar.mpr (hd rfl e1 e2 (As.mpr (Pc.mpr (Fi.mpr ?_)))));by_cases hx:x=0
   .rw[AD (~~~hx)];refine Ja.mpr (IV.mpr (st (c:=c) rfl e1 ⟨⟨_,F4 e2⟩,DI.mpr (Bk.mpr (As.mpr (zF.mpr (D6.mpr ?_))))⟩));rw[Ab]at e2;rw[UR e2];refine ⟨c.length,by rw[<-hl];simp,?_⟩;let⟨c',s',z1,z2,z3,z4,z5,z6⟩:=nx.gen.ex;rw[e1]at z1;ext z1;rw[e2]at z2;let hcc:c'=x::c:=by
     have:(x::c).map D.int=c'.map D.int:=by have:=z2;simp only[Option.some.injEq,MO.lst.injEq]at this;simpa using this
     exact (Iw this).symm
    subst hcc;let P:=nx.gen.put (c:=c) (s:=s) (λy hy=>z3 y (AQ _ hy)) (by simp at z4;omega) z5 z6;let q:((M'.set k (.lst (c.map D.int))).set n (.lst [.ref k,.int s]))=M'.set k (.lst (c.map D.int)):=Jh (by rw[Bz (Ne.symm nx.gen.ne)];calc e1);rw[q]at P;let hk:=nx.gen.lt.2;refine ⟨⟨rfl,nx.trans P⟩,c,s,?_,?_,rfl⟩
    .rw[Bz (Ne.symm nx.gen.ne)];exact e1
    .rw[DE hk]
   .rw[AE (~~~hx)];first|exact ⟨rfl,rfl,nx⟩|exact ⟨trivial,trivial,nx⟩|simpa using nx
 let⟨c,s,e1,e2,e3,e4,_⟩:=h.ex;calc OkS.mono (W 100 c.length _ M () ⟨⟨rfl,.refl h⟩,c,s,e1,e2,rfl⟩) ?_;rintro o Y M1 ⟨rfl,rfl,nx⟩;rw[zW,zL,Gq];let⟨c,s,e1,e2,e3,e4,e5,e6⟩:=nx.gen.ex;calc ne rfl e1 e2 ?_;cases c with
 |nil=>
  simp only[Cj,B2,Ac,Ah];rw[ID,zW,zL,Nu];refine Ar.mpr (Ar.mpr (Ar.mpr (sd rfl e1 (As.mpr (Ii.mpr ⟨by simp[Fs] <;> omega,As.mpr (EW.mpr (As.mpr (Ft.mpr ⟨(),?_⟩)))⟩)))));rw[zF];calc zm.mpr ⟨_,rfl,As.mpr ?_⟩;rw[zF];let hs0:0<=(s*6364136223846793+1442695040888963) % 2305843009213693951:=Int.emod_nonneg _ ();let hs1:(s*6364136223846793+1442695040888963) % 2305843009213693951<2305843009213693951:=E8 _ ();generalize (s*6364136223846793+1442695040888963) % 2305843009213693951=s' at hs0 hs1;let P:=nx.gen.put (c:=[]) (λ_ h=>by ext h) (by simp) hs0 hs1;rw[Jh (show M1[k]?=some (.lst (([]:List Int).map D.int))from e2)]at P;calc ⟨_,Ml (k:=1) e1 (by simp),?_⟩;rw[zW,EJ];let e1':(M1.set n (.lst [.ref k,.int s']))[n]?=some (.lst [.ref k,.int s']):=DE nx.gen.lt.1;refine Ar.mpr (Ar.mpr (Ar.mpr (Ar.mpr (sd rfl e1' (sd rfl e1' (Ii.mpr ⟨by simp[Fs] <;> omega,As.mpr (Ft.mpr ⟨(),As.mpr (LG.mpr ⟨(),zm.mpr ⟨_,rfl,Ft.mpr ⟨h0,?_⟩⟩⟩)⟩)⟩))))));rw[zF];calc ⟨⟨_,rfl,Int.emod_nonneg _ (),E8 _ h0⟩,nx.trans P⟩
 |cons x c=>
  simp only[List.isEmpty_cons,Bool.not_false,BC];rw[zL,zb];refine Ar.mpr (hd rfl e1 e2 (zm.mpr ⟨_,rfl,Ft.mpr ⟨h0,?_⟩⟩));rw[zF,zW,zL,Nu];refine Ar.mpr (hd rfl e1 e2 (zm.mpr ⟨_,rfl,LG.mpr ⟨⟨h0,h1⟩,?_⟩⟩));rw[zF];refine st (c:=c) rfl e1 (As.mpr ?_);rw[zF];refine ⟨_,Ml (k:=0) e2 (by simp),?_⟩;rw[zW,EJ];refine zm.mpr ⟨_,rfl,?_⟩;rw[zF,Xx];let hx:=e3 x AM;let P:=nx.gen.put (c:=(x / m)::c) (λy hy=>by
   rcases AJ.mp hy with z|z
   .subst z;exact Int.ediv_nonneg hx ()
   .exact e3 y (AQ _ z)) (~~~e4) e5 e6
  rw[Jh (by rw[Bz (Ne.symm nx.gen.ne)];calc e1)]at P;calc ⟨⟨_,rfl,Int.emod_nonneg _ (),E8 _ h0⟩,nx.trans P⟩
def P8 (ns:Ye) (lo hi:Ys):∃ c:List Int,L3.CP (ns.map D.int) lo hi=c.map D.int/\c.length<=ns.length:=by
 refine ⟨(ns.drop (HT.sIx ns.length 0 lo)).take (HT.sIx ns.length ns.length hi-HT.sIx ns.length 0 lo),?_,?_⟩
 .unfold L3.CP;rw[AI,List.map_take,List.map_drop]
 .rw[Cz,List.length_drop];omega
def JH (h:x::r=c.map D.int):∃ y c',c=y::c'/\x=.int y/\r=c'.map D.int:=by
 cases c with
 |nil=>ext h
 |cons y c'=>rw[Ab]at h;calc ⟨y,c',rfl,(List.cons.inj h).1,(List.cons.inj h).2⟩
def zn:BZ none xs M:=trivial
def zt (h:n<=100000):n<=sizeLine:=BY h ()
def RJ {ns:Ye} (h:ns.length<=63):Ok (Hn [.ref 0] [.fro (ns.map D.int)]) λd M'=>d=.ref 2/\Gen M' 2 1/\M'[0]?=some (.fro (ns.map D.int))/\M'.length=3:=by
 erw[Hn];rw[BN];erw[Kl];let e0:([.fro (ns.map D.int)]:Mem)[0]?=some (.fro (ns.map D.int)):=rfl;let⟨cut,ec,lc⟩:=P8 ns none (some 63);let sl:∀ {Y:Sd} {P:EV->Mem->Prop},Y[0]?=some (some (.ref 0))->P (.fl (cut.map D.int)) [.fro (ns.map D.int)]->Ok (fSl (zC 0) DP (Cg (fC (.int 63))) Y [.fro (ns.map D.int)]) P:=λhσ p=>by
  calc O6.mpr (zm.mpr ⟨_,hσ,P5.mpr (Ph.mpr (As.mpr (Nq.mpr ?_)))⟩);rw[N0 (LY e0) rfl,ec];exact p
 rw[zL,zb];calc Ar.mpr (EU.mpr (EH.mpr (zm.mpr ⟨_,rfl,EF.mpr ((Nt (bH e0)).mpr (As.mpr (EW.mpr ?_)))⟩)));rw[zF,zW,zL,DQ];let⟨x,M1,ex,px⟩:=sl (Y:=[some (.ref 0),some (.int (((ns.map D.int).length:Int)+3)),none]) (P:=λx M=>x=.fl (cut.map D.int)/\M=[.fro (ns.map D.int)]) rfl ⟨rfl,rfl⟩;let⟨rfl,rfl⟩:=px;calc ⟨_,_,_,F7 ex C9,?_⟩;refine Fl (I:=λr Y M=>M=[.fro (ns.map D.int)]/\(∃ c:List Int,r=c.map D.int) /\ ∃ s y,Y=[some (.ref 0),some (.int s),y]/\0<=s/\s<2305843009213693951) ?_ ?_ _ _ _ ⟨rfl,⟨cut,rfl⟩,_,none,rfl,by simp;omega,by simp;omega⟩
 .rintro x r Y M ⟨rfl,⟨c,hc⟩,s,y,rfl,h0,h1⟩;let⟨z,c',rfl,rfl,rfl⟩:=JH hc;calc ⟨zn,_,rfl,?_⟩;rw[zb];calc Ar.mpr (Ar.mpr (Ar.mpr (Ar.mpr (zm.mpr ⟨_,rfl,As.mpr (Ii.mpr ⟨by simp[Fs],?_⟩)⟩))));calc Ar.mpr (zm.mpr ⟨_,rfl,Ar.mpr (As.mpr (As.mpr (Nb.mpr ⟨(),Ft.mpr ⟨(),EW.mpr (As.mpr (EW.mpr (As.mpr (Ft.mpr ⟨(),?_⟩))))⟩⟩)))⟩);rw[zF];exact ⟨rfl,⟨c',rfl⟩,_,_,rfl,Int.emod_nonneg _ (),E8 _ ()⟩
 .rintro Y M ⟨rfl,_,s,y,rfl,h0,h1⟩;refine ⟨zn,?_⟩;rw[zW,EJ,Ge,DI,Bk,ET];let⟨x,M1,ex,px⟩:=sl (Y:=[some (.ref 0),some (.int s),y]) (P:=λx M=>x=.fl (cut.map D.int)/\M=[.fro (ns.map D.int)]) rfl ⟨rfl,rfl⟩;let⟨rfl,rfl⟩:=px;refine ⟨_,_,_,F7 ex C9,by rw[AI];exact zt (),?_⟩;refine Ok.mono (GG (I:=λr acc M=>M=[.fro (ns.map D.int)]/\(∃ c:List Int,r=c.map D.int)/\r.length+acc.length<=63 /\ ∃ b:List Int,acc=b.map D.int /\ ∀ x∈b,0<=x) (Q:=λacc M=>M=[.fro (ns.map D.int)]/\acc.length<=63 /\ ∃ b:List Int,acc=b.map D.int /\ ∀ x∈b,0<=x) ?_ ?_ _ [] _ ⟨rfl,⟨cut,rfl⟩,by simp;omega,[],rfl,λ_ h=>by ext h⟩) ?_
  .rintro x r acc M ⟨rfl,⟨c,hc⟩,hl,b,rfl,hb⟩;let⟨z,c',rfl,rfl,rfl⟩:=JH hc;refine ⟨zn,_,rfl,?_⟩;refine MP.mpr (Ar.mpr (EU.mpr (EH.mpr (zm.mpr ⟨_,rfl,EF.mpr (Oq.mpr (Ar.mpr (As.mpr (As.mpr (Nb.mpr ⟨(),Pa.mpr (Fi.mpr ?_)⟩)))))⟩))));by_cases hz:(10:Int) ^ (18:Int).toNat<=(if z<0 then -z else z)
   .rw[AD (~~~hz)];refine EU.mpr (EH.mpr (zm.mpr ⟨_,rfl,EF.mpr (Oq.mpr (zF.mpr ⟨rfl,⟨c',rfl⟩,?_,b++[if z<0 then -z else z],by simp,?_⟩))⟩))
    .simp at hl ⊢;omega
    .intro y hy;rcases Au.mp hy with q|q
     .exact hb y q
     .have:y=if z<0 then -z else z:=by simpa using q
      rw[this];split <;> omega
   .rw[AE (~~~hz)];exact ⟨rfl,⟨c',rfl⟩,by simp at hl ⊢;omega,b,rfl,hb⟩
  .rintro acc M ⟨rfl,_,hl,hb⟩;exact ⟨zn,rfl,by simpa using hl,hb⟩
  .rintro ys M ⟨rfl,hl,b,hb,hp⟩;rw[List.nil_append]at hb hl;subst hb;rw[J6,DI,Bk,zm];calc ⟨_,rfl,?_⟩;rw[zF,D6];calc ⟨zt (by simp),?_⟩;rw[J6];calc ⟨rfl,⟨⟨b,s,rfl,rfl,hp,by simpa using hl,h0,h1⟩,(),?_⟩,rfl,rfl⟩;intro j u e;match j,e with
   |0,e=>ext e;calc zo _ _
   |1,e=>ext e;calc zo _ _
   |2,e=>ext e;rfl
   |j+3,e=>simp at e
mutual
theorem JG (h:a<=b):∀ {d:D},D.und a d=true->D.und b d=true
 |.non,_=>by erw[D.und];rfl
 |.bl _,_=>by erw[D.und];rfl
 |.int _,_=>by erw[D.und];rfl
 |.str _,_=>by erw[D.und];rfl
 |.tup ds,e=>by unfold D.und at e ⊢;calc Fg h e
 |.ref k,e=>by unfold D.und at e ⊢;simp at e ⊢;omega
 |.fn _ ds,e=>by unfold D.und at e ⊢;calc Fg h e
theorem Fg (h:a<=b):∀ {ds:List D},D.unds a ds=true->D.unds b ds=true
 |[],_=>by erw[D.unds];rfl
 |d::ds,e=>by
  unfold D.unds at e ⊢;rw[Ay]at e ⊢;calc ⟨JG h e.1,Fg h e.2⟩
end
def TN (h:a<=b) (e:MO.und a u=true):MO.und b u=true:=by
 cases u with
 |lst xs=>calc Fg h e
 |fro xs=>calc Fg h e
 |set xs=>calc Fg h e
 |dict kvs|dicT kvs|froT kvs|froK kvs=>
  unfold MO.und at e ⊢;rw[An]at e ⊢;intro p hp;have:=e p hp;rw[Ay]at this ⊢;calc ⟨JG h this.1,JG h this.2⟩
theorem N2:∀ {xs ys:List D},D.unds n (xs++ys)=(D.unds n xs&&D.unds n ys)
 |[],ys=>by simp[D.unds]
 |x::xs,ys=>by
  show (D.und n x&&D.unds n (xs++ys))=((D.und n x&&D.unds n xs)&&D.unds n ys);rw[N2,Bool.and_assoc]
theorem IE:∀ {xs:List D},(∀ x∈xs,D.und n x=true)->D.unds n xs=true
 |[],_=>rfl
 |x::xs,h=>by
  show (D.und n x&&D.unds n xs)=true;rw[h x AM,IE λy hy=>h y (AQ _ hy)];rfl
def CY (c:Ye):D.und n (.tup (c.map D.int))=true:=by erw[D.und];calc zo n c
def Gen.app (h:Gen A n k) (hu:∀ u∈us,MO.und (A.length+us.length) u=true):Gen (A++us) n k:=by
 let⟨c,s,e1,e2,r⟩:=h.ex;let⟨hn,hk⟩:=h.lt;refine ⟨⟨c,s,by rw[BV hn];calc e1,by rw[BV hk];calc e2,r⟩,h.ne,λj u e=>?_⟩;rw[Aw];by_cases hj:j<A.length
 .rw[BV hj]at e;exact TN () (h.wf j u e)
 .rw[Gy ()]at e;calc hu u (Bn e)
def Nx.split (h:Gen A n k) (x:Nx (A++us) M n k):∃ A',M=A'++us/\Nx A A' n k:=by
 let⟨hn,hk⟩:=h.lt;let hl:=x.len;rw[Aw]at hl;let ed:M.drop A.length=us:=by
  apply E6;intro i;rw[List.getElem?_drop,x.fr _ () (),Gy ()];congr 1;omega
 calc ⟨M.take A.length,by rw[<-ed,List.take_append_drop],?_⟩;let tk:∀ j,j<A.length->(M.take A.length)[j]?=M[j]?:=λj hj=>List.getElem?_take_of_lt hj;let tl:(M.take A.length).length=A.length:=by rw[Cz];omega
 let⟨c,s,e1,e2,r⟩:=x.gen.ex;refine ⟨⟨⟨c,s,(tk n hn).trans e1,(tk k hk).trans e2,r⟩,h.ne,λj u e=>?_⟩,tl,λj h1 h2=>?_⟩
 .rw[tl];let hj:j<A.length:=by have:=(AY.mp e).1;rw[tl]at this;exact this
  rw[tk j hj]at e;by_cases q1:j=n
  .subst q1;rw[e1]at e;ext e;show D.unds _ _=true;erw[D.unds,D.unds,D.unds,D.und];simp[hk]
  .by_cases q2:j=k
   .subst q2;rw[e2]at e;ext e;exact zo _ _
   .rw[x.fr j q1 q2,BV hj]at e;exact h.wf j u e
 .by_cases hj:j<A.length
  .rw[tk j hj,x.fr j h1 h2,BV hj]
  .rw[Cy (by rw[tl];omega),Cy ()]
def DX (h:Gen M n k) (ha:fa Y M=some (.dat (.ref n),M)) (hb:fb Y M=some (.dat (.int m),M)) (h0:0<m) (h1:m<1073741824)
  (q:∀ i M',0<=i->i<m->Nx M M' n k->P (.dat (.int i)) M'):Ok (zX zZ (zD (toD fa) (zD (toD fb) zR)) Y M) P:=by
 rw[F5,DI,Bk];calc ⟨_,_,ha,?_⟩;rw[zF,DI,Bk];calc ⟨_,_,hb,?_⟩;rw[zF,D6];calc Ok.mono (Ui h h0 h1) ?_;rintro d M' ⟨⟨i,rfl,i0,i1⟩,nx⟩;calc q i M' i0 i1 nx
def DS (i:Nat):Nat->List D
 |0=>[]
 |n+1=> .int i::DS (i+1) n
def Rv (n:Nat):∀ i,((List.range' i n).map λ(k:Nat)=>D.int k)=DS i n:=by
 induction n with
 |zero=>intro i;rfl
 |succ n ih=>intro i;rw[List.range'_succ,Ab,ih];rfl
def Qq (n:Nat):((List.range n).map λ(k:Nat)=>D.int k)=DS 0 n:=by rw[List.range_eq_range',Rv]
theorem Gg:∀ (n i:Nat),(DS i n).length=n
 |0,_=>rfl
 |n+1,i=>by show (DS (i+1) n).length+1=_;rw[Gg n]
def PV (n:Nat) (I:Nat->Sd->Mem->Prop)
  (hs:∀ i Y M,i<n->I i Y M -> ∃ σ1,g (.int i) Y=some σ1/\OkS (b σ1 M) λo σ2 M2=>match o with|.nx=>I (i+1) σ2 M2|.cnt=>I (i+1) σ2 M2|.brk=>P .nx σ2 M2|.ret d=>P (.ret d) σ2 M2)
  (he:∀ Y M,I n Y M->P .nx Y M) (Y:Sd) (M:Mem) (h0:I 0 Y M):OkS (C0 g b all none (DS 0 n) Y M) P:=by
 refine Fl (I:=λr Y M=>∃ i,i<=n/\r=DS i (n-i)/\I i Y M) ?_ ?_ _ _ _ ⟨0,A8 _,by simp,h0⟩
 .rintro x r Y M ⟨i,hi,e,hI⟩;let hlt:i<n:=by
   rcases DM i n with z|z
   .exact z
   .rw[show n-i=0 by omega]at e;ext e
  rw[show n-i=(n-(i+1))+1 by omega]at e;let⟨rfl,rfl⟩:=List.cons.inj e;let⟨σ1,e1,q⟩:=hs i Y M hlt hI;calc ⟨zn,σ1,e1,OkS.mono q ?_⟩;intro o σ2 M2 z;cases o with
  |nx=>calc ⟨i+1,hlt,rfl,z⟩
  |cnt=>calc ⟨i+1,hlt,rfl,z⟩
  |brk=>calc z
  |ret d=>exact z
 .rintro Y M ⟨i,hi,e,hI⟩;have:i=n:=by
   rcases DM i n with z|z
   .rw[show n-i=(n-(i+1))+1 by omega]at e;ext e
   .omega
  subst this;calc ⟨zn,he Y M hI⟩
def Hh (n:Nat) (I:Nat->List D->Mem->Prop)
  (hs:∀ i acc M,i<n->I i acc M -> ∃ σ1,g (.int i) Y=some σ1/\Ok (te σ1 M) (DC λd M2=>I (i+1) (acc++[d]) M2)) (h0:I 0 [] M) :
  Ok (Am g zq te Y all none (DS 0 n) M) λys M1=>I n ys M1:=by
 refine Ok.mono (GG (I:=λr acc M=>∃ i,i<=n/\r=DS i (n-i)/\I i acc M) (Q:=λacc M=>I n acc M) ?_ ?_ _ [] _ ⟨0,A8 _,by simp,h0⟩) λys M1 q=>by simpa using q
 .rintro x r acc M ⟨i,hi,e,hI⟩;let hlt:i<n:=by
   rcases DM i n with z|z
   .exact z
   .rw[show n-i=0 by omega]at e;ext e
  rw[show n-i=(n-(i+1))+1 by omega]at e;let⟨rfl,rfl⟩:=List.cons.inj e;let⟨σ1,e1,q⟩:=hs i acc M hlt hI;calc ⟨zn,σ1,e1,Lc.mpr ?_⟩;rw[AD rfl];calc Ok.mono q ?_;intro x M2 z;cases x with
  |dat d=>calc ⟨i+1,hlt,rfl,z⟩
  |fl xs=>exact ⟨i+1,hlt,rfl,z⟩
 .rintro acc M ⟨i,hi,e,hI⟩;have:i=n:=by
   rcases DM i n with z|z
   .rw[show n-i=(n-(i+1))+1 by omega]at e;ext e
   .omega
  subst this;calc ⟨zn,hI⟩
def G9 (e:f Y M=some (.dat (.int j),M)) (h1:0<=j) (h2:j<2 ^ 62):Bj (zD (toD f) zR) Y M=some (DS 0 j.toNat,none,M):=by
 let e':(zD (toD f) zR) Y M=some ([.int j],M):=by erw[zD,toD,zR];rw[e]
 rw[Nh e' h1 h2,Qq]
def mD (zA:Ya):D:=.tup (zA.map λr=> .tup (r.map D.int))
structure IsM (zA:Ya) (l:Nat):Prop where
 r0:0<zA.length
 l0:0<l
 row:∀ r∈zA,r.length=l /\ ∀ g∈r,0<=g/\g<zA.length
def EC (zA:Ya):D.und n (mD zA)=true:=by
 erw[mD,D.und];refine IE λx hx=>?_;let⟨r,_,rfl⟩:=AR.mp hx;calc CY r
def zQ {α:Type} {x:Option (α × Mem)} {a:α} {M:Mem} (h:Ok x λb M'=>b=a/\M'=M):x=some (a,M):=by
 let⟨b,M',e,rfl,rfl⟩:=h;calc e
def zM {α:Type} {x:Option (α × Mem)} {a:α} {M:Mem} {P:α->Mem->Prop} (h:x=some (a,M)) (p:P a M):Ok x P:=⟨a,M,h,p⟩
def F3 {c:FT} {a g:FS} {Y:Sd} {M:Mem} {P:Out->Sd->Mem->Prop} (hc:c Y M=some (false,M)) (h:OkS (g Y M) P):OkS (zV (sIf c a CS) g Y M) P:=by
 rw[zL,Gq];calc zM hc ?_;rw[AE (),ID];calc h
def BS {f:FE} {Y:Sd} {M M':Mem} {k:Bool} (h:f Y M=some (.dat (.bl k),M')):DD (tst f) Y M=some (!k,M'):=by
 erw[DD,tst];rw[h]
def zi {f:FE} {Y:Sd} {M:Mem} {d:D} (h:f Y M=some (.dat d,M)):zD (toD f) zR Y M=some ([d],M):=by
 erw[zD,toD,zR];rw[h]
def zh {f:FE} {g:FA} {Y:Sd} {M:Mem} {d:D} {ds:List D} (h:f Y M=some (.dat d,M)) (hg:g Y M=some (ds,M)):zD (toD f) g Y M=some (d::ds,M):=by
 erw[zD,toD];rw[h];dsimp only;rw[hg]
def ze {m:FF} {a:FA} {Y:Sd} {M M':Mem} {ds:List D} {d:D} (h:a Y M=some (ds,M)) (hm:m ds M=some (d,M')):zX m a Y M=some (.dat d,M'):=by
 erw[zX];rw[h];dsimp only;rw[hm]
def zH {k:K2} {f g:FE} {Y:Sd} {M:Mem} {x y:EV} {r:Option (EV × Mem)} (hf:f Y M=some (x,M)) (hg:g Y M=some (y,M)) (hk:k x y M=r):fOp k f g Y M=r:=by
 erw[fOp];rw[hf];dsimp only;rw[hg];calc hk
def Dj {x:EV} {xs:List D} {i:Int} {d:D} {M:Mem} (h:zr M x=some xs) (hd:atI xs i=some d):kIx x (.dat (.int i)) M=some (.dat d,M):=zQ (IY h hd ⟨rfl,rfl⟩)
def F9 {f:FE} {x:EV} {xs:List D} {Y:Sd} {M:Mem} (hf:f Y M=some (x,M)) (h:zr M x=some xs):fB Al (zI f za) Y M=some (.dat (.int xs.length),M):=by
 erw[fB,zI,za];rw[hf];calc zQ ((Nt h).mpr ⟨rfl,rfl⟩)
def MH:FS:=(zV (AN 3 (zC 1))
  (zV (Bh (Aa (zC 2)) (gN 4) (AN 3 (fOp kIx (fOp kIx (zC 0) (zC 3)) (zC 4))))
  (AV (zC 3))))
def HA:FF:=Ct (Aj 5 MH)
def Cw (zA:Ya) (h g:Int):Int:=(zA.getD h.toNat []).getD g.toNat 0
def Bs (zA:Ya) (room:Int) (word:Ye):Int:=word.foldl (Cw zA) room
def NM {zA:Ya} {h:Int} (h0:0<=h) (h1:h<zA.length):atI (zA.map λr=>D.tup (r.map D.int)) h=some (.tup ((zA.getD h.toNat []).map D.int)):=by
 calc PL h0 ?_;rw[AW,Ai,AL ()];rfl
def Ln {r:Ye} {g:Int} (h0:0<=g) (h1:g<r.length):atI (r.map D.int) g=some (.int (r.getD g.toNat 0)):=by
 calc PL h0 ?_;rw[AW,Ai,AL ()];rfl
def IsM.get {zA:Ya} {l:Nat} (m:IsM zA l) {h:Int} (h0:0<=h) (h1:h<zA.length):(zA.getD h.toNat []).length=l /\ ∀ g∈zA.getD h.toNat [],0<=g/\g<zA.length:=by
 calc m.row _ ?_;rw[Ai,AL ()];calc BR _
def IsM.step {zA:Ya} {l:Nat} (m:IsM zA l) {h g:Int} (h0:0<=h) (h1:h<zA.length) (g0:0<=g) (g1:g<l):0<=Cw zA h g/\Cw zA h g<zA.length:=by
 let⟨q1,q2⟩:=m.get h0 h1;calc q2 _ ?_;erw[Cw];rw[Ai (l:=zA.getD h.toNat []),AL ()];calc BR _
def IsM.ix {zA:Ya} {l:Nat} (m:IsM zA l) {h g:Int} (h0:0<=h) (h1:h<zA.length) (g0:0<=g) (g1:g<l) {f1 f2 f3:FE} {Y:Sd} {M:Mem} (e1:f1 Y M=some (.dat (mD zA),M)) (e2:f2 Y M=some (.dat (.int h),M)) (e3:f3 Y M=some (.dat (.int g),M)) :
  fOp kIx (fOp kIx f1 f2) f3 Y M=some (.dat (.int (Cw zA h g)),M):=by
 let⟨q1,_⟩:=m.get h0 h1;calc zH (zH e1 e2 (Dj Bg (NM h0 h1))) e3 (Dj Bg (Ln g0 ()))
def Z3 {zA:Ya} {l:Nat} (m:IsM zA l) {room:Int} {word:Ye} {M:Mem} (h0:0<=room) (h1:room<zA.length) (hw:∀ g∈word,0<=g/\g<l):HA [mD zA,.int room,.tup (word.map D.int)] M=some (.int (Bs zA room word),M):=by
 calc zQ ?_;erw[HA];calc EM (by erw[D.unds,D.unds,D.unds,D.unds];rw[EC];simp[CY,D.und,zo]) ?_;rw[BN];erw[MH];rw[zL,zb];calc zm.mpr ⟨_,rfl,?_⟩;rw[zF,zW,zL,DQ];calc ⟨_,_,_,F7 rfl Bg,?_⟩;refine Fl (I:=λr Y M'=>M'=[] /\ ∃ (h:Int) (y:Option D) (c:Ye),Y=[some (mD zA),some (.int room),some (.tup (word.map D.int)),some (.int h),y]/\r=c.map D.int/\(∀ g∈c,0<=g/\g<(l:Int))/\0<=h/\h<zA.length/\Bs zA h c=Bs zA room word) ?_ ?_ _ _ _ ⟨rfl,room,none,word,rfl,rfl,hw,h0,h1,rfl⟩
 .rintro x r Y M' ⟨rfl,h,y,c,rfl,hc,hg,h0,h1,e⟩;let⟨z,c',rfl,rfl,rfl⟩:=JH hc;calc ⟨zn,_,rfl,?_⟩;rw[zb];let⟨g0,g1⟩:=hg z AM;calc zM (m.ix h0 h1 g0 g1 rfl rfl rfl) ?_;rw[zF];let⟨s0,s1⟩:=m.step h0 h1 g0 g1;exact ⟨rfl,_,_,c',rfl,rfl,λg hg'=>hg g (AQ _ hg'),s0,s1,e⟩
 .rintro Y M' ⟨rfl,h,y,c,rfl,hc,hg,h0,h1,e⟩;refine ⟨zn,?_⟩;rw[zW,EJ];refine zm.mpr ⟨_,rfl,?_⟩;rw[zF];have:c=[]:=by cases c with|nil=>rfl|cons _ _=>ext hc
  subst this;calc ⟨rfl,?_,rfl⟩;rw[<-e];rfl
def Wg {zA:Ya} {l:Nat} (m:IsM zA l) {room:Int} {word:Ye} {Y:Sd} {M:Mem} {f1 f2 f3:FE} (h0:0<=room) (h1:room<zA.length) (hw:∀ g∈word,0<=g/\g<l)
  (e1:f1 Y M=some (.dat (mD zA),M)) (e2:f2 Y M=some (.dat (.int room),M)) (e3:f3 Y M=some (.dat (.tup (word.map D.int)),M)) :
  zX HA (zD (toD f1) (zD (toD f2) (zD (toD f3) zR))) Y M=some (.dat (.int (Bs zA room word)),M) :=
 ze (zh e1 (zh e2 (zi e3))) (Z3 m h0 h1 hw)
def T7 {Y:Sd} {M:Mem} {ns:Ye} {j:Nat} {i:Int} (hσ:Y[i.toNat]?=Y[i.toNat]?) (hi:zC j Y M=some (.dat (.ref 0),M)) (h0:M[0]?=some (.fro (ns.map D.int))):∃ c:List Int,fSl (zC j) DP (Cg (fC (.int i))) Y M=some (.fl (c.map D.int),M)/\c.length<=ns.length:=by
 let⟨c,ec,lc⟩:=P8 ns none (some i);calc ⟨c,zQ (O6.mpr (zM hi (P5.mpr (Ph.mpr (As.mpr (Nq.mpr ?_)))))),lc⟩;rw[N0 (LY h0) rfl,ec];calc ⟨rfl,rfl⟩
def Hb (hf:f Y M=some (x,M)) (ht:Fu M x=some t):D9 T f Y M=some (.dat (.bl (isT t T)),M):=by
 erw[D9];rw[hf];dsimp only;rw[ht]
def B3 (h:f Y M=some (.dat (.bl k),M')):tst f Y M=some (k,M'):=by erw[tst];rw[h]
def isV (hf:f Y M=some (x,M)) (ht:Fu M x=some t) (h:isT t T=k):D9 T f Y M=some (.dat (.bl k),M):=by
 rw[Hb hf ht,h]
def C6 (hc:c Y M=some (true,M)) (h:OkS (a Y M) (nxP (λσ1 M1=>OkS (g σ1 M1) P) P)):OkS (zV (sIf c a b) g Y M) P:=by
 rw[zL,Gq];calc zM hc ?_;rw[AD rfl];calc h
def BA (hf:f Y M=some (.dat d,M)) (h:P (.ret d) Y M):OkS (AV f Y M) P:=by
 rw[EJ];calc zM hf h
def Vg (hf:f Y M=some (.dat (.bl true),M)) (hg:g Y M=some (.dat (.bl true),M)):Cv f g Y M=some (.dat (.bl true),M):=by
 erw[Cv];rw[hf];calc hg
def EI {α:Type} (as:List α) (enc out:α->D) (hi:fi Y M=some (as.map enc,gd,M)) (hgd:BZ gd (as.map enc) M) (hz:as.length<=100000)
  (he:∀ a∈as,∃ σ1,g (enc a) (BW own Y)=some σ1/\te σ1 M=some (.dat (out a),M)):zu own fi g zq te Y M=some (.fl (as.map out),M):=by
 calc zQ (ET.mpr ⟨_,_,_,hi,by rw[AI];calc zt hz,?_⟩);refine Ok.mono (GG (I:=λr acc M'=>M'=M /\ ∃ ra rb:List α,as=rb++ra/\r=ra.map enc/\acc=rb.map out) (Q:=λacc M'=>M'=M/\acc=as.map out) ?_ ?_ _ [] _ ⟨rfl,as,[],rfl,rfl,rfl⟩) ?_
 .rintro x r acc M' ⟨rfl,ra,rb,hab,hr,rfl⟩;cases ra with
  |nil=>ext hr
  |cons a ra=>
   rw[Ab]at hr;let⟨rfl,rfl⟩:=List.cons.inj hr;let⟨σ1,e1,e2⟩:=he a (by rw[hab];simp);calc ⟨hgd,σ1,e1,Lc.mpr ?_⟩;rw[AD rfl];calc zM e2 ?_;rw[zF];exact ⟨rfl,ra,rb++[a],by rw[hab];simp,rfl,by simp⟩
 .rintro acc M' ⟨rfl,ra,rb,hab,hr,rfl⟩;cases ra with
  |nil=>rw[CV]at hab;subst hab;calc ⟨hgd,rfl,rfl⟩
  |cons a ra=>ext hr
 .rintro ys M' ⟨rfl,h⟩;rw[List.nil_append]at h;subst h;calc ⟨rfl,rfl⟩
def Fn (hf:f Y M=some (x,M)) (h:zr M x=some xs):fB Bc (zI f za) Y M=some (.dat (.tup xs),M):=by
 erw[fB,zI,za];rw[hf];calc zQ ((Jo h).mpr ⟨rfl,rfl⟩)
def CJ (hf:f Y M=some (.dat (.tup xs),M)):Aa f Y M=some (xs,none,M):=F7 hf Bg
def Fh (hf:f Y M=some (.dat d,M)) (h:OkS (g (Y.set i (some d)) M) P):OkS (zV (AN i f) g Y M) P:=by
 rw[zL,zb];calc zM hf h
def Y8 (h:f Y M=some (.dat d,M')):zD (toD f) zR Y M=some ([d],M'):=by
 erw[zD,toD,zR];rw[h]
open ST
def ris (xs:Ye):List Int:=Ag (zJ xs)
def Dk (xs:Ye) (x:Int):x∈ris xs ↔ x∈xs:=by
 erw[ris];rw[(EK _).mem_iff,Gp]
def HE (xs:Ye):(ris xs).Pairwise (· < ·):=by
 let h1:=He (zJ xs);let h2:(ris xs).Nodup:=(EK _).nodup_iff.mpr (K4 xs);unfold ris at h2 ⊢;exact (h1.and h2).imp λ{a b} h=>by have:=h.1;have:=h.2;omega
theorem Lu:∀ {xs ys:Ye},xs.Pairwise (· < ·)->ys.Pairwise (· < ·)->(∀ x,x∈xs ↔ x∈ys)->xs=ys
 |[],[],_,_,_=>rfl
 |[],y::ys,_,_,h=>by have:=(h y).mpr AM;ext this
 |x::xs,[],_,_,h=>by have:=(h x).mp AM;ext this
 |x::xs,y::ys,h1,h2,h=>by
  let hx:=DN.mp h1;let hy:=DN.mp h2;let e:x=y:=by
   let a:=(h x).mp AM;let b:=(h y).mpr AM;rcases AJ.mp a with z|z
   .exact z
   .rcases AJ.mp b with q|q
    .exact q.symm
    .have:=hx.1 y q;have:=hy.1 x z;omega
  subst e;rw[Lu hx.2 hy.2 λz=>?_];constructor
  .intro hz;rcases AJ.mp ((h z).mp (AQ _ hz))with q|q
   .subst q;have:=hx.1 _ hz;omega
   .exact q
  .intro hz;rcases AJ.mp ((h z).mpr (AQ _ hz))with q|q
   .subst q;have:=hy.1 _ hz;omega
   .exact q
def aR (h:∀ x,x∈xs ↔ x∈ys):ris xs=ris ys:=Lu (HE xs) (HE ys) λx=>by rw[Dk,Dk];calc h x
def cP (h:xs.Pairwise (· < ·)):ris xs=xs:=Lu (HE xs) h λx=>Dk xs x
def Rx (h:0<xs.length):0<(ris xs).length:=by
 cases xs with
 |nil=>ext h
 |cons x r=>calc List.length_pos_of_mem ((Dk (x::r) x).mpr AM)
def V4 (f:Int->Int) (xs:Ye):ris ((ris xs).map f)=ris (xs.map f):=aR λx=>by simp[Dk]
def Us (h:zu own fi g tc te Y M=some (.fl (ks.map D.int),M)) (hz:ks.length<=4000):HD own fi g tc te Y M=some (zJ ks,M):=by
 erw[HD];rw[h];dsimp only;rw[Dx];dsimp only;rw[AD (by erw[scanBound];omega)]
def Si (h:f Y M=some (x,M)) (hx:zr M x=some (ks.map D.int)) (hz:(zJ ks).length<=4000):FJ f Y M=some (zJ ks,M):=by
 erw[FJ];rw[h];dsimp only;rw[hx];dsimp only;rw[Dx];dsimp only;rw[AD (by erw[scanBound];omega)]
def OD (h:f Y M=some (x,M)) (hx:zr M x=some (ks.map D.int)) (hz:ks.length<=4000):FJ f Y M=some (zJ ks,M):=Si h hx (BY (Fb ks) hz)
def bJ (h:fz Y M=some (zJ ks,M)) (hz:(zJ ks).length<64):IQ fz Y M=some (.fl ((ris ks).map D.int),M):=by
 erw[IQ];rw[h];dsimp only;rw[AD hz];rfl
def LH:FS:=(AV (fB Bc (zI (IQ (HD [3] (Aa (zC 1)) (gN 3) zq (fOp kIx (fOp kIx (zC 0) (zC 3)) (zC 2)))) za)))
def HZ:FF:=Ct (Aj 4 LH)
def LB:FS:=(zV (AN 3 (By (zD (toD (zC 1)) zR)))
  (zV (Bh (Aa (zC 2)) (gN 4) (Dr (fM EA (zC 3) (zD (toD (zX HZ (zD (toD (zC 0)) (zD (toD (fOp kIx (zC 3) (Jk (fC (.int 1))))) (zD (toD (zC 4)) zR))))) zR))))
  (AV (fB Bc (zI (zC 3) za)))))
def Hc:FF:=Ct (Aj 5 LB)
def K3:FS:=(AV (fOp kIx (zX Hc (zD (toD (zC 0)) (zD (toD (zC 1)) (zD (toD (zC 2)) zR)))) (Jk (fC (.int 1)))))
def GA:FF:=Ct (Aj 3 K3)
def setR (zA:Ya) (S:Ye) (g:Int):List Int:=ris (S.map λh=>Cw zA h g)
def broR (zA:Ya) (S word:Ye):List Int:=word.foldl (setR zA) S
structure IsS (zA:Ya) (S:Ye):Prop where
 pw:S.Pairwise (· < ·)
 n0:0<S.length
 mem:∀ x∈S,0<=x/\x<(zA.length:Int)
theorem HW:∀ {S:Ye} {a:Int} {n:Nat},S.Pairwise (· < ·)->(∀ x∈S,a<=x/\x<a+(n:Int))->S.length<=n
 |[],_,_,_,_=>A8 _
 |x::S,a,n,h,hm=>by
  let hx:=DN.mp h;let⟨m0,m1⟩:=hm x AM;let hn:0<n:=()
  have:=HW (a:=x+1) (n:=(a+n-(x+1)).toNat) hx.2 λy hy=>by
   have:=hx.1 y hy;have:=(hm y (AQ _ hy)).2;omega
  simp only[Ci];omega
def IsS.len (h:IsS zA S):S.length<=zA.length:=HW h.pw (a:=0) λx hx=>by have:=h.mem x hx;omega
theorem IsM.setR {zA:Ya} {l:Nat} (m:IsM zA l) {S:Ye} (s:IsS zA S) {g:Int} (g0:0<=g) (g1:g<l):IsS zA (setR zA S g):=by
 refine ⟨HE _,Rx (by rw[AI];calc s.n0),λx hx=>?_⟩;let⟨y,hy,rfl⟩:=AR.mp ((Dk _ _).mp hx);let⟨y0,y1⟩:=s.mem y hy;calc m.step y0 y1 g0 g1
theorem IsM.broR {zA:Ya} {l:Nat} (m:IsM zA l):∀ (word:Ye) {S:Ye},IsS zA S->(∀ g∈word,0<=g/\g<(l:Int))->IsS zA (broR zA S word)
 |[],S,s,_=>s
 |g::r,S,s,hw=>by
  let⟨g0,g1⟩:=hw g AM;calc IsM.broR m r (m.setR s g0 g1) λx hx=>hw x (AQ _ hx)
theorem Oo (zA:Ya):∀ (word:Ye) (S:Ye),broR zA (ris S) word=ris (S.map λr=>Bs zA r word)
 |[],S=>by show ris S=ris (S.map λr=>r);rw[List.map_id']
 |g::w,S=>by
  show broR zA (setR zA (ris S) g) w=_;erw[setR];rw[V4];rw[Oo zA w];rw[Be];rfl
def JN (h:S.Pairwise (· < ·)) (word:Ye):broR zA S word=ris (S.map λr=>Bs zA r word):=by
 have:=Oo zA word S;rw[cP h]at this;calc this
def tI (xs:Ye):D:=.tup (xs.map D.int)
def Ss {zA:Ya} {l:Nat} (m:IsM zA l) (hR:zA.length<64) {S:Ye} (s:IsS zA S) {g:Int} (g0:0<=g) (g1:g<l) {M:Mem}:HZ [mD zA,tI S,.int g] M=some (tI (setR zA S g),M):=by
 calc zQ ?_;erw[HZ];calc EM (by erw[D.unds,D.unds,D.unds,D.unds];rw[EC];simp[tI,CY,D.und,zo]) ?_;rw[BN];erw[LH];let hl:=s.len;let hz:(zJ (S.map λh=>Cw zA h g)).length<64:=by have:=Fb (S.map λh=>Cw zA h g);rw[AI]at this;omega
 calc BA ?_ ⟨by erw[tI];calc CY _,rfl,rfl⟩;calc Fn (bJ (Us ?_ (by rw[AI];omega)) hz) C9;refine (EI S D.int (λh=> .int (Cw zA h g)) (CJ rfl) trivial () λh hh=>⟨_,rfl,?_⟩).trans ?_
 .obtain ⟨h0,h1⟩:=s.mem h hh;exact m.ix h0 h1 g0 g1 rfl rfl rfl
 .rw[Be];rfl
def Ej (zA:Ya) (S:Ye):List Int->List (List Int)
 |[]=>[S]
 |g::w=>S::Ej zA (setR zA S g) w
def Q7 {α:Type} (xs:List α) (x:α):atI (xs++[x]) (-1)=some x:=by
 erw[atI,ixN];rw[AE (),AD (by simp;omega)];have:((-1:Int)+((xs++[x]).length:Int)).toNat=xs.length:=by simp;omega
 simp only[Ek];rw[this];simp
def Zg {zA:Ya} {l:Nat} (m:IsM zA l) (hR:zA.length<64) {S word:Ye} (s:IsS zA S) (hw:∀ g∈word,0<=g/\g<(l:Int)) (hz:word.length<=90000) {M:Mem}:Hc [mD zA,tI S,tI word] M=some (.tup ((Ej zA S word).map tI),M):=by
 calc zQ ?_;erw[Hc];calc EM (by erw[D.unds,D.unds,D.unds,D.unds];rw[EC];simp[tI,CY,D.und,zo]) ?_;rw[BN];erw[LB];rw[zL,zb];calc Ge.mpr (DI.mpr (Bk.mpr (zm.mpr ⟨_,rfl,zF.mpr (D6.mpr ⟨zt (by simp),?_⟩)⟩)));rw[J6,zW,zL,DQ];calc ⟨_,_,_,F7 rfl Bg,?_⟩;refine Fl (I:=λr Y M'=>∃ (y:Option D) (c:Ye) (acc:Ya) (T:Ye),Y=[some (mD zA),some (tI S),some (tI word),some (.ref 0),y]/\r=c.map D.int/\(∀ g∈c,0<=g/\g<(l:Int))/\IsS zA T/\M'=[.lst ((acc++[T]).map tI)]/\acc++Ej zA T c=Ej zA S word/\acc.length+c.length=word.length) ?_ ?_ _ _ _ ⟨none,word,[],S,rfl,rfl,hw,s,rfl,rfl,by simp⟩
 .rintro x r Y M' ⟨y,c,acc,T,rfl,hc,hg,sT,rfl,e,hl⟩;let⟨z,c',rfl,rfl,rfl⟩:=JH hc;refine ⟨zn,_,rfl,?_⟩;rw[Ja];let⟨g0,g1⟩:=hg z AM;let eA:([MO.lst ((acc++[T]).map tI)]:Mem)[0]?=some (.lst ((acc++[T]).map tI)):=rfl;refine IV.mpr (zm.mpr ⟨_,rfl,⟨_,F4 eA⟩,DI.mpr (Bk.mpr ?_)⟩);refine zM (ze (zh rfl (zh (zH rfl rfl (Dj (B8 eA) ?_)) (zi rfl))) (Ss m hR sT g0 g1)) ?_
  .rw[Dw];exact Q7 _ _
  .rw[zF,D6,Ls eA (by rw[AI,Aw];simp at hl ⊢;exact BH (m:=95000) () (zt ()))];refine ⟨_,c',acc++[T],setR zA T z,rfl,rfl,λg hg'=>hg g (AQ _ hg'),m.setR sT g0 g1,?_,?_,by simp at hl ⊢;omega⟩
   .simp
   .rw[<-e];simp[Ej]
 .rintro Y M' ⟨y,c,acc,T,rfl,hc,hg,sT,rfl,e,hl⟩;have:c=[]:=by cases c with|nil=>rfl|cons _ _=>ext hc
  subst this;calc ⟨zn,?_⟩;rw[zW];calc BA (Fn rfl (B8 (show ([MO.lst ((acc++[T]).map tI)]:Mem)[0]?=some (.lst ((acc++[T]).map tI))from rfl))) ?_;let e':acc++[T]=Ej zA S word:=by rw[<-e];rfl
  rw[e'];calc ⟨?_,rfl,rfl⟩;erw[D.und];refine IE λx hx=>?_;let⟨r,_,rfl⟩:=AR.mp hx;calc CY r
theorem Mp (zA:Ya):∀ (word S:Ye),∃ us,Ej zA S word=us++[broR zA S word]
 |[],S=>⟨[],rfl⟩
 |g::w,S=>by
  let⟨us,e⟩:=Mp zA w (setR zA S g);calc ⟨S::us,by show S::Ej zA _ w=_;rw[e];rfl⟩
def Pw (m:IsM zA l) (hR:zA.length<64) (s:IsS zA S) (hw:∀ g∈word,0<=g/\g<(l:Int)) (hz:word.length<=90000):GA [mD zA,tI S,tI word] M=some (tI (broR zA S word),M):=by
 calc zQ ?_;erw[GA];calc EM (by erw[D.unds,D.unds,D.unds,D.unds];rw[EC];simp[tI,CY,D.und,zo]) ?_;rw[BN];erw[K3];let⟨us,e⟩:=Mp zA word S;calc BA (zH (ze (zh rfl (zh rfl (zi rfl))) (Zg m hR s hw hz)) rfl (Dj Bg ?_)) ⟨by erw[tI];calc CY _,rfl,rfl⟩;rw[e,Dw];calc Q7 _ _
def RW (h:Gen M n k) (ha:fa Y M=some (.dat (.ref n),M)) (hb:fb Y M=some (.dat (.int m),M)) (h0:0<m) (h1:m<1073741824) :
  Ok (zX zZ (zD (toD fa) (zD (toD fb) zR)) Y M) λx Mc=>∃ cnt:Int,x=.dat (.int cnt)/\0<=cnt/\cnt<m/\Nx M Mc n k:=DX h ha hb h0 h1 λi M' i0 i1 nx=>⟨i,rfl,i0,i1,nx⟩
def ZM (hB:B<=90000) (l0:0<l) (l1:l<1073741824) (hc:Ok (fcnt Y M) λx Mc=>∃ cnt:Int,x=.dat (.int cnt)/\0<=cnt/\cnt<B/\Nx M Mc n k)
  (hs:∀ (i:Nat) M3,fs ((BW [j] Y).set j (some (.int i))) M3=some (.dat (.ref n),M3)) (hl:∀ (i:Nat) M3,fl ((BW [j] Y).set j (some (.int i))) M3=some (.dat (.int l),M3))
  (q:∀ w M',(∀ g∈w,0<=g/\g<l)->(w.length:Int)<B->Nx M M' n k->P (.dat (tI w)) M') :
  Ok (fB Bc (zI (zu [j] (Bj (zD (toD fcnt) zR)) (gN j) zq (zX zZ (zD (toD fs) (zD (toD fl) zR)))) za) Y M) P:=by
 refine EU.mpr (EH.mpr (ET.mpr ?_));let⟨x,Mc,ex,cnt,rfl,c0,c1,nxc⟩:=hc;let er2:Bj (zD (toD fcnt) zR) Y M=some (DS 0 cnt.toNat,none,Mc):=by
  rw[Nh (Y8 ex) () (),Qq]
 calc ⟨_,_,_,er2,by rw[Gg];calc zt (),?_⟩;refine Ok.mono (Hh (n:=cnt.toNat) (I:=λj acc M3=>∃ w:List Int,acc=w.map D.int/\w.length=j/\(∀ g∈w,0<=g/\g<l)/\Nx M M3 n k) ?_ ⟨[],rfl,rfl,(λ_ h=>by ext h),nxc⟩) ?_
 .rintro i acc M3 hj ⟨w,rfl,hw,hg,nx3⟩;refine ⟨_,rfl,DX nx3.gen (hs i M3) (hl i M3) l0 l1 λz M4 z0 z1 nx4=>?_⟩;rw[zF];refine ⟨w++[z],by simp,by simp[hw],λu hu=>?_,nx3.trans nx4⟩;rcases Au.mp hu with y|y
  .exact hg u y
  .have:u=z:=by simpa using y
   subst this;exact ⟨z0,z1⟩
 rintro ys M3 ⟨ls,rfl,hls,hg,nx3⟩;calc EF.mpr ((Jo C9).mpr ?_);calc q ls M3 hg () nx3
theorem Oc:∀ {l:Ye} (_:l.Nodup) {k:Nat},k<l.length->l.idxOf (l.getD k 0)=k
 |y::l,h,0,_=>by simp
 |y::l,h,k+1,hk=>by
  let hn:=List.nodup_cons.mp h;let hk':k<l.length:=by simpa using hk
  let hm:l.getD k 0∈l:=by rw[Ai,AL hk'];exact BR _
  let hne:y≠l.getD k 0:=λe=>hn.1 (e▸hm);show (y::l).idxOf (l.getD k 0)=k+1;rw[List.idxOf_cons,show (y==l.getD k 0)=false by simpa using hne];simp only[cond_false];rw[Oc hn.2 hk']
def UB (h:(kvs.any λp=>decide (Ak p.1=some (.inl x)))=false):Es Ak kvs (.inl x) (.int x) v=kvs++[(.int x,v)]:=by
 erw[Es];rw[h];rfl
def WE {M:Mem} {n:Nat} {xs:List D} {k:Nat} {d:D} {Q:D->Mem->Prop} (h:M[n]?=some (.lst xs)) (hk:xs[k]?=some d) (hz:k<90000) (q:Q d (M.set n (.lst (xs.eraseIdx k)))):Ok (DY (.dat (.ref n)) [.int (k:Int)] M) Q:=by
 calc ⟨d,M.set n (.lst (xs.eraseIdx k)),?_,q⟩;let hl:k<xs.length:=(AY.mp hk).1;erw[DY];dsimp only;rw[h];dsimp only;let e:ixN xs.length (k:Int)=some k:=by erw[ixN];rw[AD (),AD ()];simp
 rw[e];dsimp only;rw[hk];dsimp only;rw[AD ⟨(),()⟩]
def RM {l r:Ye} (h:k<r.length):((l++[r[k]])++r.eraseIdx k).Perm (l++r):=by
 rw[Dm];calc (Ie h).append_left l
theorem NV {α β:Type} (f:α->β):∀ (l:List α) (k:Nat),(l.map f).eraseIdx k=(l.eraseIdx k).map f
 |[],_=>rfl
 |x::l,0=>rfl
 |x::l,k+1=>by show f x::(l.map f).eraseIdx k=_;rw[NV f l k];rfl
def IF (e:f Y M=some (.dat (mD zA),M)):fB Al (zI f za) Y M=some (.dat (.int zA.length),M):=by
 have:=F9 e Bg;rw[AI]at this;calc this
def EX (e:f Y M=some (.dat (tI xs),M)):fB Al (zI f za) Y M=some (.dat (.int xs.length),M):=by
 have:=F9 e Bg;rw[AI]at this;calc this
def J4:FS:=(AV (Cv (D9 "int" (zC 0)) (HH (D9 "bool" (zC 0)))))
def G2:FF:=Aj 1 J4
def KA:FS:=(AV (Cv (zX G2 (zD (toD (zC 0)) zR)) (GN kLe kLt (fC (.int 0)) (zC 0) (zC 1))))
def IX:FF:=Aj 2 KA
def MD:FS:=(AV (Cv (D9 "tuple" (zC 0)) (fB D0 (zI (zu [2] (Aa (zC 0)) (gN 2) zq (zX IX (zD (toD (zC 2)) (zD (toD (zC 1)) zR)))) za))))
def Gm:FF:=Aj 3 MD
mutual
def Vd (M:Mem):D->Prop
 |.ref n=>∃ t,Fu M (.dat (.ref n))=some t/\(t = "list" \/ t = "dict")
 |.tup ds=>ds.length<=100000/\Vds M ds
 |.fn _ _=>False
 |_=>True
def Vds (M:Mem):List D->Prop
 |[]=>True
 |d::ds=>Vd M d/\Vds M ds
end
def Vds.mem:∀ {ds:List D},Vds M ds -> ∀ d∈ds,Vd M d
 |[],_,d,h=>by ext h
 |x::ds,hv,d,h=>by
  erw[Vds]at hv;rcases AJ.mp h with q|q
  .subst q;exact hv.1
  .exact Vds.mem hv.2 d q
def Vds.of:∀ {ds:List D},(∀ d∈ds,Vd M d)->Vds M ds
 |[],_=>trivial
 |x::ds,h=>⟨h x AM,Vds.of λd hd=>h d (AQ _ hd)⟩
def Iu:D->Bool
 |.int _=>true
 |_=>false
def C5 (n:Int):D->Bool
 |.int i=>decide (0<=i)&&decide (i<n)
 |_=>false
def tbD (n:Int):D->Bool
 |.tup ds=>ds.all (C5 n)
 |_=>false
def Zm:D->Nat
 |.tup ds=>ds.length
 |_=>0
def LW:D->Bool
 |.tup _=>true
 |_=>false
def cH (out:D->D) (hf:f Y M=some (.dat (.tup ds),M)) (hz:ds.length<=100000)
  (he:∀ a∈ds,∃ σ1,g a (BW own Y)=some σ1/\te σ1 M=some (.dat (out a),M)):zu own (Aa f) g zq te Y M=some (.fl (ds.map out),M) :=
 EI (gd:=none) ds id out (by rw[List.map_id];calc CJ hf) trivial hz he
def Vd.ty (h:Vd M d):∃ t,Fu M (.dat d)=some t/\isT t "tuple" = LW d/\(isT t "int" && !isT t "bool")=Iu d:=by
 cases d with
 |non=>calc ⟨_,rfl,(show isT "NoneType" "tuple" = false by decide),(show (isT "NoneType" "int" && !isT "NoneType" "bool")=false by decide)⟩
 |bl k=>calc ⟨_,rfl,(show isT "bool" "tuple" = false by decide),(show (isT "bool" "int" && !isT "bool" "bool")=false by decide)⟩
 |int i=>calc ⟨_,rfl,(show isT "int" "tuple" = false by decide),(show (isT "int" "int" && !isT "int" "bool")=true by decide)⟩
 |str x=>calc ⟨_,rfl,(show isT "str" "tuple" = false by decide),(show (isT "str" "int" && !isT "str" "bool")=false by decide)⟩
 |tup ds=>calc ⟨_,rfl,(show isT "tuple" "tuple" = true by decide),(show (isT "tuple" "int" && !isT "tuple" "bool")=false by decide)⟩
 |ref n=>
  erw[Vd]at h;let⟨t,e,h⟩:=h;rcases h with rfl|rfl
  .exact ⟨_,e,(show isT "list" "tuple" = false by decide),(show (isT "list" "int" && !isT "list" "bool")=false by decide)⟩
  .exact ⟨_,e,(show isT "dict" "tuple" = false by decide),(show (isT "dict" "int" && !isT "dict" "bool")=false by decide)⟩
 |fn _ _=>calc h.elim
def Gw (hf:f Y M=some (.dat (.bl a),M)) (hg:a=true->g Y M=some (.dat (.bl b),M)):Cv f g Y M=some (.dat (.bl (a&&b)),M):=by
 erw[Cv];rw[hf];cases a with
 |true=>calc hg rfl
 |false=>rfl
def VS (hf:f Y M=some (.dat (.bl a),M)):HH f Y M=some (.dat (.bl (!a)),M):=by erw[HH];rw[hf]
def LO (h:f (ds.map some++List.replicate (n-ds.length) none) M=some (.dat d,M)):Aj n (AV f) ds M=some (d,M):=by
 calc zQ ?_;rw[BN];calc BA h ⟨rfl,rfl⟩
def KI (h:Vd M d):G2 [d] M=some (.bl (Iu d),M):=by
 let⟨t,e,_,q⟩:=h.ty;erw[G2,J4];calc LO ?_;rw[<-q];calc Gw (Hb rfl e) λ_=>VS (Hb rfl e)
def cO (h:Vd M d):IX [d,.int n] M=some (.bl (C5 n d),M):=by
 erw[IX,KA];calc LO ?_;let hw:=ze (Y:=[some d,some (.int n)]) (a:=zD (toD (zC 0)) zR) (zi rfl) (KI h);let e:C5 n d=(Iu d&&C5 n d):=by cases d <;> rfl
 rw[e];refine Gw hw λhi=>?_;cases d with
 |int i=>
  calc zQ (eF.mpr (As.mpr (zm.mpr ⟨_,rfl,Td.mpr (Fi.mpr ?_)⟩)));by_cases h0:0<=i
  .rw[AD (~~~h0)];calc zm.mpr ⟨_,rfl,Pd.mpr ⟨?_,rfl⟩⟩;simp[C5,h0]
  .rw[AE (~~~h0)];calc ⟨by simp[C5,h0],rfl⟩
 |_=>ext hi
def G5 {bs:List Bool} (h:f Y M=some (.fl (bs.map D.bl),M)):fB D0 (zI f za) Y M=some (.dat (.bl (bs.all id)),M):=by
 erw[fB,zI,za];rw[h];calc zQ ((a9 Wm (OG bs)).mpr ⟨rfl,rfl⟩)
def JK {α:Type} (xs:List α) (p:α->Bool):(xs.map p).all id=xs.all p:=by rw[List.all_map];rfl
def OS (h:Vd M d):Gm [d,.int n] M=some (.bl (tbD n d),M):=by
 erw[Gm,MD];calc LO ?_;let⟨t,e,q,_⟩:=h.ty;cases d with
 |tup ds=>
  let hh:Vd M (.tup ds):=h;erw[Vd]at hh;have:tbD n (.tup ds)=(true&&(ds.map (C5 n)).all id):=by rw[Bool.true_and,JK];rfl
  rw[this];refine Gw (by rw[Hb rfl e,q];rfl) λ_=>G5 ?_;rw[Be];exact cH (λx=> .bl (C5 n x)) rfl hh.1 λx hx=>⟨_,rfl,ze (zh rfl (zi rfl)) (cO (hh.2.mem x hx))⟩
 |_=>
  have:∀ b,(false&&b)=false:=λb=>rfl;refine (Gw (a:=false) (b:=true) (by rw[Hb rfl e,q];rfl) λz=>by ext z).trans ?_;rfl
def Rt {xs:List D} {lo hi:Ys} {M:Mem}:kSl (.dat (.tup xs)) lo hi M=some (.dat (.tup (L3.CP xs lo hi)),M):=rfl
def slE {f:FE} {fl fh:FO} {Y:Sd} {M:Mem} {xs:List D} {lo hi:Ys} (hf:f Y M=some (.dat (.tup xs),M)) (hl:fl Y M=some (lo,M)) (hh:fh Y M=some (hi,M)):fSl f fl fh Y M=some (.dat (.tup (L3.CP xs lo hi)),M):=by
 erw[fSl];rw[hf];dsimp only;rw[hl];dsimp only;rw[hh];calc Rt
def oS (h:f Y M=some (.dat (.int i),M)):Cg f Y M=some (some i,M):=by erw[Cg];rw[h]
abbrev gL (k:Nat) (s:Int):MO:=.lst [.ref k,.int s]
def Ti (hk:k<N):MO.und N (gL k s)=true:=by
 show D.unds _ _=true;erw[D.unds,D.unds,D.unds,D.und];simp[hk]
structure Nw (M M':Mem) (n k:Nat):Prop where
 gen:Gen M' n k
 len:M.length<=M'.length
 fr:∀ j,j<M.length->j≠n->j≠k->M'[j]?=M[j]?
def Nw.trans {M M1 M2:Mem} {n k:Nat} (a:Nw M M1 n k) (b:Nw M1 M2 n k):Nw M M2 n k :=
 ⟨b.gen,BY a.len b.len,λj h h1 h2=>(b.fr j (BH h a.len) h1 h2).trans (a.fr j h h1 h2)⟩
def Nx.nw (x:Nx M M' n k):Nw M M' n k:=⟨x.gen,by rw[x.len];exact AF _,λj _ h1 h2=>x.fr j h1 h2⟩
def Gen.lst (h:Gen A n k) (xs:List D) (hx:D.unds A.length xs=true):Nw A (A++[.lst xs]) n k:=⟨h.app λu hu=>by
 have:u=.lst xs:=by simpa using hu
 subst this;exact Fg (by simp) hx,by simp,λj hj _ _=>BV hj⟩
def Nw.setB (h:Nw M A n k) (g:Gen M n k) (hj:M.length<=j) (hu:MO.und A.length u=true):Nw M (A.set j u) n k:=by
 let⟨hn,hk⟩:=g.lt;let⟨c,s,e1,e2,r⟩:=h.gen.ex;refine ⟨⟨⟨c,s,by rw[Bz ()];calc e1,by rw[Bz ()];calc e2,r⟩,g.ne,λi v e=>?_⟩,by rw[List.length_set];exact h.len,λi hi h1 h2=>by rw[Bz ()];calc h.fr i hi h1 h2⟩;rw[List.length_set];rw[DA]at e;cbv at e
 .split at e
  .cases e;exact hu
  .cases e
 .exact h.gen.wf i v e
def Nw.wf0 (h:Nw M M' n k) (g:Gen M n k):∀ (j:Nat) u,j<M.length->M'[j]?=some u->MO.und M.length u=true:=λj u hj e=>by
 let⟨hn,hk⟩:=g.lt;let⟨c,s,e1,e2,r⟩:=h.gen.ex;by_cases q1:j=n
 .subst q1;rw[e1]at e;ext e;exact Ti hk
 .by_cases q2:j=k
  .subst q2;rw[e2]at e;ext e;exact zo _ _
  .rw[h.fr j hj q1 q2]at e;calc g.wf j u e
def Nw.trim (h:Nw M M' n k) (g:Gen M n k):Nw M (M'.take M.length) n k:=by
 let⟨hn,hk⟩:=g.lt;let tk:∀ j,j<M.length->(M'.take M.length)[j]?=M'[j]?:=λj hj=>List.getElem?_take_of_lt hj;let tl:(M'.take M.length).length=M.length:=by have:=h.len;rw[Cz];omega
 let⟨c,s,e1,e2,r⟩:=h.gen.ex;refine ⟨⟨⟨c,s,(tk n hn).trans e1,(tk k hk).trans e2,r⟩,g.ne,λj u e=>?_⟩,(),λj hj h1 h2=>(tk j hj).trans (h.fr j hj h1 h2)⟩;let hj:j<M.length:=by have:=(AY.mp e).1;omega
 rw[tk j hj]at e;rw[tl];calc h.wf0 g j u hj e
def Nw.get (h:Nw M M' n k) (e:M[j]?=some u) (h1:j≠n) (h2:j≠k):M'[j]?=some u :=
 (h.fr j (AY.mp e).1 h1 h2).trans e
end Law
namespace Lac
open L2 L3 ST Law
def Ea (h:P (.ref M.length) (M++[.lst xs])):DC P (.fl xs) M:=h
def DJ (A:Mem) (u:MO):(A++[u])[A.length]?=some u:=by simp
def Hv (h:0<b):Bv (.dat (.int a)) (.dat (.int b)) M=some (.dat (.int (a % b)),M):=zQ (Ft.mpr ⟨h,rfl,rfl⟩)
theorem Pp {α:Type} (enc out:α->D) (keep:α->Bool):∀ (as:List α),(∀ a∈as,∃ σ1,g (enc a) Y=some σ1/\tc σ1 M=some (keep a,M)/\(keep a=true->te σ1 M=some (.dat (out a),M)))->Am g tc te Y all none (as.map enc) M=some ((as.filter keep).map out,M)
 |[],_=>by
  rw[List.map_nil];erw[Am];rw[AD (show BZ none all M from trivial)];rfl
 |a::r,h=>by
  let⟨σ1,e1,e2,e3⟩:=h a AM;let ih:=Pp (all:=all) enc out keep r λb hb=>h b (AQ _ hb);rw[Ab];erw[Am];rw[AD (show BZ none all M from trivial),e1];dsimp only;rw[e2];cases hk:keep a with
  |false=>
   dsimp only;rw[ih,List.filter_cons_of_neg (by simp[hk])]
  |true=>
   dsimp only;rw[show toD te σ1 M=some (out a,M) by erw[toD];rw[e3 hk]];dsimp only;rw[ih,List.filter_cons_of_pos hk];rfl
def Q4 {α β:Type} (as:List α) (enc:α->D) (bs:α->List β) (enc2:β->D) (keep:α->β->Bool) (out:α->β->D) (B:Nat)
  (hi:fi Y M=some (as.map enc,none,M)) (hB:∀ a∈as,(bs a).length<=B) (hz:as.length*B<=90000)
  (he:∀ a∈as,∃ σ1,fg (enc a) (BW own Y)=some σ1/\fi2 σ1 M=some ((bs a).map enc2,none,M) /\ ∀ b∈bs a,∃ σ2,fg2 (enc2 b) (BW own2 σ1)=some σ2/\tc2 σ2 M=some (keep a b,M)/\(keep a b=true->te σ2 M=some (.dat (out a b),M))) :
  D5 own own2 fi fg zq fi2 fg2 tc2 te Y M=some (.fl (as.flatMap λa=>((bs a).filter (keep a)).map (out a)),M):=by
 let key:∀ (r:List α) (acc:List D),(∀ a∈r,a∈as)->acc.length+r.length*B<=90000->EO fg zq fi2 own2 fg2 tc2 te (BW own Y) (as.map enc) none (r.map enc) acc M=some (acc++r.flatMap λa=>((bs a).filter (keep a)).map (out a),M):=by
  intro r;induction r with
  |nil=>
   intro acc _ _;rw[List.map_nil];erw[EO];rw[AD (show BZ none (as.map enc) M from trivial)];simp
  |cons a r ih=>
   intro acc hs hl;let ha:=hs a AM;let⟨σ1,e1,e2,e3⟩:=he a ha;let hb:=hB a ha;let hlen:(((bs a).filter (keep a)).map (out a)).length<=(bs a).length:=by rw[AI];exact List.length_filter_le _ _
   rw[Ci,Nat.add_mul]at hl;rw[Ab];erw[EO];rw[AD (show BZ none (as.map enc) M from trivial),e1];dsimp only;rw[show zq σ1 M=some (true,M)from rfl];dsimp only;rw[e2];dsimp only;rw[AD (zt (by rw[AI];omega)),Pp enc2 (out a) (keep a) (bs a) e3];dsimp only;rw[ih _ (λb hb=>hs b (AQ _ hb)) (by rw[Aw];omega)];rw[List.flatMap_cons,Dm]
 erw[D5];rw[hi];dsimp only;rw[key as [] (λ_ h=>h) (~~~hz)];simp
def Dc (zA:Ya):List Int:=(List.range zA.length).map λ(k:Nat)=>(k:Int)
def ZV:x∈Dc zA ↔ 0<=x/\x<(zA.length:Int):=by
 erw[Dc];simp only[AR,CD];constructor
 .rintro ⟨k,hk,rfl⟩;omega
 .rintro ⟨h0,h1⟩;calc ⟨x.toNat,(),()⟩
def XW (h:f Y M=some (.dat (.ref j),M)) (hj:M[j]?=some (.lst xs)):HQ f Y M=some (!xs.isEmpty,M):=by
 erw[HQ];rw[h];dsimp only;rw[B8 hj]
def Gh (ha:a Y M=some (true,M)):CU a b Y M=some (true,M):=by erw[CU];rw[ha]
def B4 (ha:a Y M=some (false,M)) (hb:b Y M=some (k,M)):CU a b Y M=some (k,M):=by erw[CU];rw[ha];calc hb
def aC' {f:FE} {g:FA} {Y:Sd} {M M1 M2:Mem} {d:D} {ds:List D} (h:toD f Y M=some (d,M1)) (hg:g Y M1=some (ds,M2)):zD (toD f) g Y M=some (d::ds,M2):=by
 erw[zD];rw[h];dsimp only;rw[hg]
def aQ (h:f Y M=some (.dat d,M)):toD f Y M=some (d,M):=by erw[toD];rw[h]
def Qh {g:FA} {Y:Sd} {M M1:Mem} {ds:List D} (h:g Y M=some (ds,M1)) (hz:ds.length<=100000):By g Y M=some (.fl ds,M1):=by
 erw[By];rw[h];dsimp only;rw[AD (zt hz)]
def Me {g:FA} {Y:Sd} {M M1:Mem} {ds:List D} (h:g Y M=some (ds,M1)) (hz:ds.length<=100000):Fd g Y M=some (.dat (.tup ds),M1):=by
 erw[Fd];rw[h];dsimp only;rw[AD (zt hz)]
def aD (e1:f Y M=some (.dat (.int i),M)) (e2:g Y M=some (.dat (.int j),M)) (h1:0<=i) (h2:i<=90000) (h3:0<=j) (h4:j<=90000):Bj (zD (toD f) (zD (toD g) zR)) Y M=some ((List.range (j-i).toNat).map (λ(k:Nat)=>D.int (i+k)),none,M):=by
 erw[Bj];rw[zh e1 (zi e2)];dsimp only;rw[AD ⟨(),(),(),()⟩]
def Xr (hf:f Y M=some (.dat (.int i),M)) (hg:g Y M=some (.dat (.int j),M)):fB Hq (zI f (zI g za)) Y M=some (.dat (.int (if j>i then j else i)),M):=by
 erw[fB,zI,za];rw[hf];dsimp only;rw[hg];rfl
def bK {m:FF} {a:FA} {Y:Sd} {M M1 M':Mem} {ds:List D} {d:D} (h:a Y M=some (ds,M1)) (hm:m ds M1=some (d,M')):zX m a Y M=some (.dat d,M'):=by
 erw[zX];rw[h];dsimp only;rw[hm]
theorem MZ {α:Type} (hgd:BZ gd all M) (enc out:α->D) (keep:α->Bool):∀ (as:List α),(∀ a∈as,∃ σ1,g (enc a) Y=some σ1/\tc σ1 M=some (keep a,M)/\(keep a=true->te σ1 M=some (.dat (out a),M)))->Am g tc te Y all gd (as.map enc) M=some ((as.filter keep).map out,M)
 |[],_=>by
  rw[List.map_nil];erw[Am];rw[AD hgd];rfl
 |a::r,h=>by
  let⟨σ1,e1,e2,e3⟩:=h a AM;let ih:=MZ hgd enc out keep r λb hb=>h b (AQ _ hb);rw[Ab];erw[Am];rw[AD hgd,e1];dsimp only;rw[e2];cases hk:keep a with
  |false=>
   dsimp only;rw[ih,List.filter_cons_of_neg (by simp[hk])]
  |true=>
   dsimp only;rw[show toD te σ1 M=some (out a,M) by erw[toD];rw[e3 hk]];dsimp only;rw[ih,List.filter_cons_of_pos hk];rfl
def OX {α:Type} {own:Yj} {fi:FI} {g:FG} {tc:FT} {te:FE} {Y:Sd} {M M1:Mem} {gd:Option (Mem->Prop)} (as:List α) (enc out:α->D) (keep:α->Bool) (hi:fi Y M=some (as.map enc,gd,M1)) (hgd:BZ gd (as.map enc) M1) (hz:as.length<=100000)
  (he:∀ a∈as,∃ σ1,g (enc a) (BW own Y)=some σ1/\tc σ1 M1=some (keep a,M1)/\(keep a=true->te σ1 M1=some (.dat (out a),M1))):zu own fi g tc te Y M=some (.fl ((as.filter keep).map out),M1) :=
 zQ (ET.mpr ⟨_,_,_,hi,by rw[AI];calc zt hz,zM (MZ hgd enc out keep as he) ⟨rfl,rfl⟩⟩)
def eqE:kEq (.dat (.int a)) (.dat (.int b)) M=some (.dat (.bl (decide (a=b))),M):=zQ (Pc.mpr ⟨rfl,rfl⟩)
def IG:Fc (.dat (.int a)) (.dat (.int b)) M=some (.dat (.int (a-b)),M):=rfl
abbrev Wd (l:Nat) (w:Ye):Prop:=∀ x∈w,0<=x/\x<(l:Int)
def Vq (hf:f Y M=some (x,M)) (h:zr M x=some xs):fB GJ (zI f za) Y M=some (.fl xs,M):=by
 erw[fB,zI,za];rw[hf];dsimp only;erw[GJ];dsimp only;rw[h]
def Jp (m:IsM zA l):IsS zA (Dc zA):=by
 let r0:=m.r0;refine ⟨?_,by erw[Dc];simp;omega,λx hx=>ZV.mp hx⟩;erw[Dc];calc EY.mpr (List.Pairwise.imp (λ{a b} h=>()) List.pairwise_lt_range)
def Sh (h1:fv Y M=some (.dat v,M)) (h2:fo Y M=some (.dat (.ref n),M)) (h3:fi Y M=some (.dat k,M)) (h4:FV M n k v=some M4) (q:P .nx Y M4):OkS (IC fv fo fi Y M) P:=by
 calc ⟨.nx,Y,M4,?_,q⟩;erw[IC,toD];rw[h1];dsimp only;rw[h2];dsimp only;rw[h3];dsimp only;rw[h4]
def IT:FS:=(zV (sIf (CU (DD (tst (zX Gm (zD (toD (zC 1)) (zD (toD (fB Al (zI (zC 0) za))) zR))))) (tst (fOp kEq (fB Al (zI (zC 1) za)) (fC (.int 0))))) (AV (fC (.bl false))) CS)
  (AV (fB D0 (zI (zu [2,3] (Eo (zD (toD (zC 1)) (zD (toD (fSl (zC 1) (Cg (fC (.int 1))) DP)) zR))) (Gx 2 3) zq (fOp kLt (zC 2) (zC 3))) za))))
def Fy:FF:=Aj 4 IT
def TQ {xs:List D} {lo hi:Ys} {a b:Nat} (ha:HT.sIx xs.length 0 lo=a) (hb:HT.sIx xs.length xs.length hi=b):L3.CP xs lo hi=(xs.drop a).take (b-a):=by
 erw[L3.CP];rw[ha,hb]
def SD (n:Nat) (d:Nat):HT.sIx n d none=d:=rfl
def MV (h:∀ x∈c,0<=x/\x<R):tbD R (tI c)=true:=by
 show List.all _ _=true;rw[An];intro d hd;let⟨i,hi,rfl⟩:=AR.mp hd;have:=h i hi;simp[C5,this.1,this.2]
end Lac
namespace Lac
def gl (zA:Ya) (x:Int):List Int:=zA.getD x.toNat []
structure Wsh (zA:Ya) (m:Nat) (L:Ya):Prop where
 len:L.length=zA.length
 nd:∀ l∈L,l.Nodup
 rg:∀ l∈L,∀ x∈l,0<=x/\x<(zA.length:Int)
 self:∀ r,r<zA.length->(r:Int)∈L.getD r []
 edge:∀ r,r<zA.length -> ∀ g∈zA.getD r [],g∈L.getD r []
 tr:∀ u v,u<zA.length->v<m->(v:Int)∈L.getD u [] -> ∀ w∈L.getD v [],w∈L.getD u []
 snd:∀ S:Int->Prop,(∀ x,0<=x->x<(zA.length:Int)->S x -> ∀ g∈gl zA x,S g) -> ∀ u,u<zA.length->S (u:Int) -> ∀ w∈L.getD u [],S w
def HI {α:Type} {L:List (List α)} (h:r<L.length):L.getD r []∈L:=by
 rw[Ai,AL h];calc BR _
structure Part (zA:Ya) (p:Ye):Prop where
 pw:p.Pairwise (· < ·)
 n0:0<p.length
 mem:∀ x∈p,0<=x/\x<(zA.length:Int)
 cl:∀ x∈p,∀ g∈gl zA x,g∈p
 con:∀ S:Int->Prop,(∀ x∈p,S x -> ∀ g∈gl zA x,S g) -> ∀ x∈p,S x -> ∀ y∈p,S y
section
variable {zA L:Ya}
def Wsh.gl_mem (h:Wsh zA zA.length L) (h0:0<=x) (h1:x<(zA.length:Int)) (hg:g∈gl zA x):g∈L.getD x.toNat []:=h.edge x.toNat () g hg
def Wsh.rgx (h:Wsh zA zA.length L) {x y:Int} (h0:0<=x) (h1:x<(zA.length:Int)) (hy:y∈L.getD x.toNat []):0<=y/\y<(zA.length:Int):=h.rg _ (HI (by have:=h.len;omega)) y hy
def Wsh.trx (h:Wsh zA zA.length L) (h0:0<=x) (h1:x<(zA.length:Int)) (hy:y∈L.getD x.toNat []) (hz:z∈L.getD y.toNat []):z∈L.getD x.toNat []:=by
 let⟨y0,y1⟩:=h.rgx h0 h1 hy;calc h.tr x.toNat y.toNat () () (by rw[show ((y.toNat:Nat):Int)=y by omega];calc hy) z hz
def Wsh.part (h:Wsh zA zA.length L) (hr:r<zA.length) {p:Ye} (pw:p.Pairwise (· < ·)) (hp:∀ x,x∈p ↔ x∈L.getD r []) (hb:∀ x∈p,(r:Int)∈L.getD x.toNat []):Part zA p:=by
 let hrp:(r:Int)∈p:=(hp _).mpr (h.self r hr);let er:((r:Int)).toNat=r:=()
 let mem:∀ x∈p,0<=x/\x<(zA.length:Int):=λx hx=>h.rg _ (HI (by have:=h.len;omega)) x ((hp x).mp hx);let inn:∀ x∈p,∀ y,y∈L.getD x.toNat [] ↔ y∈p:=λx hx y=>by
  let⟨x0,x1⟩:=mem x hx;constructor
  .intro hy;calc (hp y).mpr ?_;have:=h.trx (x:=(r:Int)) () () (by rw[er];calc (hp x).mp hx) hy;rw[er]at this;exact this
  .intro hy;exact h.trx x0 x1 (hb x hx) (by rw[er];calc (hp y).mp hy)
 refine ⟨pw,List.length_pos_of_mem hrp,mem,λx hx g hg=>?_,λS hS x hx sx y hy=>?_⟩
 .obtain ⟨x0,x1⟩:=mem x hx;exact (inn x hx g).mp (h.gl_mem x0 x1 hg)
 .obtain ⟨x0,x1⟩:=mem x hx;let ex:((x.toNat:Nat):Int)=x:=()
  have:=h.snd (λz=>S z/\z∈p) (λz z0 z1 ⟨sz,zp⟩ g hg=>⟨hS z zp sz g hg,(inn z zp g).mp (h.gl_mem z0 z1 hg)⟩) x.toNat () (by rw[ex];calc ⟨sx,hx⟩) y ((inn x hx y).mpr hy);calc this.1
def RD (L:Ya) (h:0<L.length):∃ r,r<L.length /\ ∀ s,s<L.length->(L.getD r []).length<=(L.getD s []).length:=by
 let key:∀ k r,r<L.length->(L.getD r []).length<=k -> ∃ r,r<L.length /\ ∀ s,s<L.length->(L.getD r []).length<=(L.getD s []).length:=by
  intro k;induction k with
  |zero=>intro r hr hk;exact ⟨r,hr,λs _=>()⟩
  |succ k ih=>
   intro r hr hk;by_cases q:∃ s,s<L.length/\(L.getD s []).length<(L.getD r []).length
   .obtain ⟨s,hs,q⟩:=q;exact ih s hs ()
   .exact ⟨r,hr,λs hs=>by
     apply Nat.le_of_not_lt;intro z;calc q ⟨s,hs,z⟩⟩
 calc key _ 0 h (AF _)
def Wsh.some (h:Wsh zA zA.length L) (h0:0<zA.length):∃ r,r<zA.length /\ ∀ x∈L.getD r [],(r:Int)∈L.getD x.toNat []:=by
 let hl:=h.len;let⟨r,hr,hm⟩:=RD L ();rw[hl]at hr;let er:((r:Int)).toNat=r:=()
 refine ⟨r,hr,λx hx=>?_⟩;let⟨x0,x1⟩:=h.rgx (x:=(r:Int)) () () (by rw[er];exact hx);let sub:∀ y∈L.getD x.toNat [],y∈L.getD r []:=λy hy=>by
  have:=h.trx (x:=(r:Int)) () () (by rw[er];calc hx) hy;rw[er]at this;exact this
 let ndx:=h.nd _ (HI (r:=x.toNat) ());let le:=hm x.toNat ();refine qz λhn=>?_;let hsub:∀ y∈L.getD x.toNat [],y∈(L.getD r []).erase (r:Int):=λy hy=>(List.mem_erase_of_ne (show y≠(r:Int)from λe=>hn (e▸hy))).mpr (sub y hy);let l1:=ndx.length_le_of_subset hsub;let l2:=List.length_pos_of_mem (h.self r hr);rw[List.length_erase_of_mem (h.self r hr)]at l1;omega
def O9 {p q:Ye} (hp:p.Pairwise (· < ·)) (hq:q.Pairwise (· < ·)) (h:∀ x,x∈p ↔ x∈q):p=q:=by
 let np:p.Nodup:=hp.imp λz=>Int.ne_of_lt z;let nq:q.Nodup:=hq.imp λz=>Int.ne_of_lt z;calc ((List.perm_ext_iff_of_nodup np nq).mpr h).eq_of_pairwise (λa b _ _ h1 h2=>absurd (Int.lt_trans h1 h2) (Int.lt_irrefl _)) hp hq
def Part.apart (hp:Part zA p) (hq:Part zA q) (h1:x∈p) (h2:x∈q):p=q:=by
 refine O9 hp.pw hq.pw λy=>⟨λhy=>?_,λhy=>?_⟩
 .exact hp.con (· ∈ q) (λz _ sz g hg=>hq.cl z sz g hg) x h1 h2 y hy
 .exact hq.con (· ∈ p) (λz _ sz g hg=>hp.cl z sz g hg) x h2 h1 y hy
structure Phs (zA:Ya) (p:Ye) (b:Int) (φ:Int->Int):Prop where
 b1:1<=b
 rg:∀ x∈p,0<=φ x/\φ x<b
 st:∀ x∈p,∀ g∈gl zA x,φ g=(φ x+1) % b
def Phs.all (hP:Part zA p) (h:Phs zA p b φ) (hg:∀ x∈p,gl zA x≠[]) (z0:0<=z) (z1:z<b):∃ x∈p,φ x=z:=by
 let b1:=h.b1;let nx:∀ z,(∃ x∈p,φ x=z) -> ∃ x∈p,φ x=(z+1) % b:=by
  rintro z ⟨x,hx,rfl⟩;let⟨g,hgm⟩:=List.exists_mem_of_ne_nil _ (hg x hx);exact ⟨g,hP.cl x hx g hgm,h.st x hx g hgm⟩
 let⟨x,hx⟩:=List.exists_mem_of_ne_nil p (by have:=hP.n0;intro e;rw[e]at this;simp at this);let⟨r0,r1⟩:=h.rg x hx;let many:∀ k:Nat,∃ y∈p,φ y=(φ x+(k:Int)) % b:=by
  intro k;induction k with
  |zero=>calc ⟨x,hx,by rw[Int.emod_eq_of_lt () ()];simp⟩
  |succ k ih=>
   let⟨y,hy,e⟩:=nx _ ih;calc ⟨y,hy,e.trans ?_⟩;rw[Int.emod_add_emod];congr 1;omega
 let⟨y,hy,e⟩:=many (z+b-φ x).toNat;calc ⟨y,hy,e.trans ?_⟩;rw[show φ x+(((z+b-φ x).toNat:Nat):Int)=z+b by omega,Int.add_emod_right,Int.emod_eq_of_lt z0 z1]
end
open L2 L3 ST Law
def K5:FS:=(zV (AN 5 (fOp Bv (fOp Aq (fOp Fc (zC 4) (zC 1)) (fC (.int 1))) (zC 3)))
  (AV (fOp Aq (fOp Aq (zC 1) (zC 5)) (fOp GC (zC 3) (zX zZ (zD (toD (zC 0)) (zD (toD (fOp Aq (fOp FX (fOp Fc (fOp Fc (zC 2) (fC (.int 1))) (zC 5)) (zC 3)) (fC (.int 1)))) zR)))))))
def Hj:FF:=Aj 6 K5
def Kn:FS:=(zV (AN 3 (fOp Aq (fC (.int 1)) (zX zZ (zD (toD (zC 0)) (zD (toD (zC 1)) zR)))))
  (zV (AN 4 (fOp Aq (fC (.int 1)) (zX zZ (zD (toD (zC 0)) (zD (toD (zC 2)) zR)))))
  (zV (AN 5 (fB Dp (zI (By (zD (toD (fC (.int 0))) (zD (toD (zX zZ (zD (toD (zC 0)) (zD (toD (fOp Aq (zC 3) (fC (.int 1)))) zR)))) (zD (toD (zX zZ (zD (toD (zC 0)) (zD (toD (fOp Aq (zC 3) (fC (.int 1)))) zR)))) (zD (toD (zC 3)) zR))))) za)))
  (zV (AN 6 (zX zZ (zD (toD (zC 0)) (zD (toD (fC (.int 2))) zR))))
  (zV (AN 7 (By zR))
  (zV (Bh (Bj (zD (toD (fC (.int 3))) zR)) (gN 8) (zV (AN 9 (fOp Fc (fOp kIx (zC 5) (fOp Aq (zC 8) (fC (.int 1)))) (fOp kIx (zC 5) (zC 8))))
  (zV (AN 10 (fOp Aq (fC (.int 1)) (zX zZ (zD (toD (zC 0)) (zD (toD (fB Hq (zI (fC (.int 1)) (zI (zC 9) za)))) zR)))))
  (Bh (Bj (zD (toD (fOp kIx (zC 5) (zC 8))) (zD (toD (fOp kIx (zC 5) (fOp Aq (zC 8) (fC (.int 1))))) zR))) (gN 11) (zV (AN 12 (zu [13] (Bj (zD (toD (zC 4)) zR)) (gN 13) zq (zX Hj (zD (toD (zC 0)) (zD (toD (fOp kIx (zC 5) (zC 8))) (zD (toD (zC 9)) (zD (toD (zC 10)) (zD (toD (zC 11)) zR))))))))
  (zV (sIf (EG (tst (fOp kEq (zC 8) (fC (.int 2)))) (tst (fOp kEq (zC 6) (fC (.int 1))))) (AN 12 (zu [13] (Bj (zD (toD (zC 4)) zR)) (gN 13) zq (zX zZ (zD (toD (zC 0)) (zD (toD (zC 3)) zR))))) CS)
  (Dr (fM EA (zC 7) (zD (toD (fB Bc (zI (fB Dp (zI (zC 12) za)) za))) zR)))))))))
  (AV (fB Bc (zI (zC 7) za)))))))))
def Ht:FF:=Ec (Aj 14 Kn)
theorem N6:∀ {ds:List D},ds.all (C5 n)=true -> ∃ xs:List Int,ds=xs.map D.int /\ ∀ x∈xs,0<=x/\x<n
 |[],_=>⟨[],rfl,λ_ h=>by ext h⟩
 |d::ds,h=>by
  rw[List.all_cons,Ay]at h;let⟨xs,rfl,hx⟩:=N6 h.2;let h1:=h.1;cases d with
  |int i=>
   simp only[C5,Ay,D2]at h1;exact ⟨i::xs,rfl,λx hm=>by
    rcases AJ.mp hm with z|z
    .subst z;exact h1
    .exact hx x z⟩
  |_=>ext h1
def QK:tbD n d=true ↔ ∃ xs:List Int,d=tI xs /\ ∀ x∈xs,0<=x/\x<n:=by
 constructor
 .intro h;cases d with
  |tup ds=>
   let⟨xs,rfl,hx⟩:=N6 (show ds.all (C5 n)=true from h);calc ⟨xs,rfl,hx⟩
  |_=>ext h
 .rintro ⟨xs,rfl,h⟩;calc MV h
theorem Qp:∀ {S:Ye},((S.zip (S.drop 1)).map λq=>decide (q.1<q.2)).all id=true ↔ S.Pairwise (· < ·)
 |[]=>by simp
 |[a]=>by simp
 |a::b::r=>by
  let ih:=Qp (S:=b::r);let e:((a::b::r).zip ((a::b::r).drop 1)).map (λq=>decide (q.1<q.2))=decide (a<b)::((b::r).zip ((b::r).drop 1)).map (λq=>decide (q.1<q.2)):=rfl;rw[e,List.all_cons,Ay,ih];constructor
  .rintro ⟨h1,h2⟩;let h1:a<b:=C2 h1;refine DN.mpr ⟨λc hc=>?_,h2⟩;rcases AJ.mp hc with z|z
   .rw[z];exact h1
   .exact Int.lt_trans h1 ((DN.mp h2).1 c z)
  .intro h;let⟨h1,h2⟩:=DN.mp h;calc ⟨BG (h1 b AM),h2⟩
def TK (hd:Vd M d):∃ b,Fy [mD zA,d] M=some (.bl b,M)/\(b=true ↔ ∃ S,d=tI S/\IsS zA S):=by
 let e:=OS (n:=zA.length) hd;cases h:tbD zA.length d with
 |false=>
  refine ⟨false,?_,(λz=>by ext z),?_⟩
  .refine zQ ?_;erw[Fy];rw[BN];erw[IT];rw[h]at e;exact C6 (Gh (BS (ze (zh (d:=d) rfl (zi (IF rfl))) e))) (BA (d:=.bl false) rfl ⟨rfl,rfl⟩)
  .rintro ⟨S,rfl,s⟩;rw[MV s.mem]at h;ext h
 |true=>
  rw[h]at e;let⟨S,rfl,hS⟩:=QK.mp h;let hl:S.length<=100000:=by
   let hh:Vd M (.tup (S.map D.int)):=hd;erw[Vd]at hh;simpa using hh.1
  by_cases s0:S.length=0
  .refine ⟨false,?_,(λz=>by ext z),?_⟩
   .refine zQ ?_;erw[Fy];rw[BN];erw[IT];calc C6 (B4 (BS (ze (zh (d:=tI S) rfl (zi (IF rfl))) e)) (B3 (zH (EX rfl) rfl (eqE.trans ?_)))) (BA rfl ⟨rfl,rfl⟩);rw[BG ()]
   .rintro ⟨S',e',s⟩;have:S=S':=Iw (D.tup.inj e');subst this;have:=s.n0;omega
  .refine ⟨((S.zip (S.drop 1)).map λq=>decide (q.1<q.2)).all id,?_,?_⟩
   .refine zQ ?_;erw[Fy];rw[BN];erw[IT];show OkS (zV _ _ [some (mD zA),some (tI S),none,none] M) _;refine F3 (B4 (BS (ze (zh rfl (zi (IF rfl))) e)) (B3 (zH (EX rfl) rfl (eqE.trans ?_)))) ?_
    .rw[BB ()]
    let c1:L3.CP (S.map D.int) (some 1) none=(S.drop 1).map D.int:=by
     rw[TQ (by show HT.sIx _ _ (some ((1:Nat):Int))=1;rw[HT.UT,AI];omega) (by rw[SD,AI]),List.map_drop];exact List.take_of_length_le (by simp)
    let hi:Eo (zD (toD (zC 1)) (zD (toD (fSl (zC 1) (Cg (fC (.int 1))) DP)) zR)) [some (mD zA),some (tI S),none,none] M=some ((S.zip (S.drop 1)).map (λq=>D.tup [.int q.1,.int q.2]),none,M):=by
     let s1:=slE (f:=zC 1) (Y:=[some (mD zA),some (tI S),none,none]) rfl (oS (f:=fC (.int 1)) rfl) (rfl:DP _ M=some (none,M));rw[c1]at s1;have:=zh (f:=zC 1) rfl (zi s1);erw[Eo];rw[this];show some ((((S.map D.int).zip ((S.drop 1).map D.int)).map λq=>D.tup [q.1,q.2]),none,M)=_;congr 2;rw[List.zip_map,Be];rfl
    calc BA (G5 ?_) ⟨rfl,rfl⟩;rw[Be];exact EI (S.zip (S.drop 1)) (λq=>D.tup [.int q.1,.int q.2]) (λq=> .bl (decide (q.1<q.2))) hi trivial (by rw[List.length_zip];omega) λq _=>⟨_,rfl,zH rfl rfl rfl⟩
   .rw[Qp];constructor
    .exact λh=>⟨S,rfl,⟨h,(),hS⟩⟩
    .rintro ⟨S',e',s⟩;have:S=S':=Iw (D.tup.inj e');subst this;calc s.pw
def GI (I:Nat->Sd->Mem->Prop) (hg:∀ t Y M,I t Y M->BZ gd all M)
  (hs:∀ t x Y M,xs[t]?=some x->I t Y M -> ∃ σ1,g x Y=some σ1/\OkS (b σ1 M) λo σ2 M2=>match o with|.nx=>I (t+1) σ2 M2|.cnt=>I (t+1) σ2 M2|.brk=>P .nx σ2 M2|.ret d=>P (.ret d) σ2 M2)
  (he:∀ Y M,I xs.length Y M->P .nx Y M) (Y:Sd) (M:Mem) (h0:I 0 Y M):OkS (C0 g b all gd xs Y M) P:=by
 refine Fl (I:=λr Y M=>∃ t,r=xs.drop t/\t<=xs.length/\I t Y M) ?_ ?_ _ _ _ ⟨0,rfl,A8 _,h0⟩
 .rintro x r Y M ⟨t,e,ht,hI⟩;let hx:xs[t]?=some x:=by
   have:=BI (·[0]?) e;simpa using this.symm
  let hr:r=xs.drop (t+1):=by
   have:=BI (List.drop 1) e;simpa using this
  let hlt:=(AY.mp hx).1;let⟨σ1,e1,q⟩:=hs t x Y M hx hI;calc ⟨hg t Y M hI,σ1,e1,OkS.mono q ?_⟩;intro o σ2 M2 z;cases o with
  |nx=>calc ⟨t+1,hr,hlt,z⟩
  |cnt=>calc ⟨t+1,hr,hlt,z⟩
  |brk=>calc z
  |ret d=>exact z
 .rintro Y M ⟨t,e,ht,hI⟩;have:t=xs.length:=by
   have:=BI List.length e;rw[List.length_drop]at this;simp at this;omega
  subst this;calc ⟨hg _ Y M hI,he Y M hI⟩
def Py (hf:f Y M=some (x,M)) (hx:zr M x=some (ks.map D.int)) (hz:ks.length<64):fB Dp (zI f za) Y M=some (.fl ((Ag ks).map D.int),M):=by
 erw[fB,zI,za];rw[hf];show Dp [x] M=_;erw[Dp];dsimp only;rw[hx];dsimp only;rw[Dx];dsimp only;rw[AD hz]
def Du:Aq (.dat (.int i)) (.dat (.int j)) M=some (.dat (.int (i+j)),M):=zQ (EW.mpr ⟨rfl,rfl⟩)
def ZI (h:0<j/\j<1073741824):FX (.dat (.int i)) (.dat (.int j)) M=some (.dat (.int (i / j)),M):=zQ (LG.mpr ⟨h,rfl,rfl⟩)
def aP (h:Gen M n k) (b1:1<=beat) (bm:beat<=many) (hm:many<=1000):Ok (Hj [.ref n,.int low,.int many,.int beat,.int room] M) λd M'=>(∃ v,d=.int v/\low<=v/\v<low+many)/\Nx M M' n k:=by
 erw[Hj];rw[BN];erw[K5];calc Fh (zH (zH (zH rfl rfl IG) rfl Du) rfl (Hv ())) ?_;let f0:0<=(room-low+1) % beat:=Int.emod_nonneg _ ();let f1:=E8 (room-low+1) (show 0<beat by omega);generalize (room-low+1) % beat=first at f0 f1
 rw[EJ];let d0:0<=(many-1-first) / beat:=Int.ediv_nonneg () ();let d1:(many-1-first) / beat<=many-1-first:=Int.ediv_le_self _ ()
 refine Ar.mpr (zM (zH rfl rfl Du) (Ar.mpr (zm.mpr ⟨_,rfl,DX h rfl (zH (zH (zH (zH rfl rfl IG) rfl IG) rfl (ZI ())) rfl Du) () () λv M' v0 v1 nx=>Ii.mpr ⟨?_,EW.mpr ?_⟩⟩)))
 .unfold Fs;simp;omega
 .have e:beat*v<=many-1-first:=by
   let h1:v<=(many-1-first) / beat:=()
   let h2:=Int.mul_le_mul_of_nonneg_left h1 (show 0<=beat by omega);let h3:=Int.mul_ediv_self_le (x:=many-1-first) (k:=beat) ();omega
  let e0:0<=beat*v:=Int.mul_nonneg () v0;rw[zF];calc ⟨⟨_,rfl,(),()⟩,nx⟩
def Zl (a0:0<=a) (a1:a<=R) (b0:0<=b) (b1:b<=R):∃ c1 c2,Ag [0,a,b,R]=[0,c1,c2,R]/\0<=c1/\c1<=c2/\c2<=R:=by
 let key:∀ c1 c2:Int,[0,a,b,R].Perm [0,c1,c2,R]->0<=c1->c1<=c2->c2<=R->Ag [0,a,b,R]=[0,c1,c2,R]:=λc1 c2 hp h0 h1 h2=>by
  refine ((EK _).trans hp).eq_of_pairwise (λx y _ _ hx hy=>Int.le_antisymm hx hy) (He _) ?_;simp;omega
 rcases Int.le_total a b with h|h
 .exact ⟨a,b,key a b (.refl _) a0 h b1,a0,h,b1⟩
 .exact ⟨b,a,key b a (.cons _ (.swap _ _ _)) b0 h a1,b0,h,a1⟩
def Na (zA:Ya):D.unds n (zA.map tI)=true:=IE λx hx=>by
 let⟨r,_,rfl⟩:=AR.mp hx;calc CY r
def UE (ha:a Y M=some (k1,M)) (hb:b Y M=some (k2,M)):EG a b Y M=some (k1&&k2,M):=by
 erw[EG];rw[ha];ext k1
 .rfl
 .exact hb
def aK (h:Gen M n k):Ok (Ht [.ref n,.int 26,.int 6] M) λd M'=>∃ zA l,d=mD zA/\IsM zA l/\zA.length<=26/\l<=6/\Nw M M' n k/\M'.length=M.length:=by
 let⟨hn,hk⟩:=h.lt;erw[Ht];refine Lp ?_;rw[BN];erw[Kn];show OkS (zV _ _ [some (.ref n),some (.int 26),some (.int 6),none,none,none,none,none,none,none,none,none,none,none] M) _;rw[zL,zb];refine Ar.mpr (As.mpr (DX h rfl rfl () () λR0 M1 r0 r1 nx1=>EW.mpr ?_));rw[zF,zW,zL,zb];refine Ar.mpr (As.mpr (DX nx1.gen rfl rfl () () λW0 M2 w0 w1 nx2=>EW.mpr ?_));rw[zF,zW,zL,zb];generalize eR:1+R0=R;generalize eW:1+W0=W;show Ok (fB _ _ [some (.ref n),some (.int 26),some (.int 6),some (.int R),some (.int W),none,none,none,none,none,none,none,none,none] M2) _;let hR:∀ A:Mem,fOp Aq (zC 3) (fC (.int 1)) [some (.ref n),some (.int 26),some (.int 6),some (.int R),some (.int W),none,none,none,none,none,none,none,none,none] A=some (.dat (.int (R+1)),A):=λA=>zH (x:=.dat (.int R)) rfl rfl Du;refine EU.mpr (EH.mpr (Ge.mpr (DI.mpr (Bk.mpr (As.mpr (zF.mpr (DI.mpr (Bk.mpr (DX nx2.gen rfl (hR _) () () λa M3 a0 a1 nx3=>zF.mpr (DI.mpr (Bk.mpr (DX nx3.gen rfl (hR _) () () λb M4 b0 b1 nx4=>zF.mpr (DI.mpr (Bk.mpr (zm.mpr ⟨_,rfl,zF.mpr (D6.mpr ⟨zt (by simp),EF.mpr ?_⟩)⟩)))))))))))))));let⟨c1,c2,ec,c10,c12,c2R⟩:=Zl (R:=R) a0 () b0 ();let es:Dp [.fl [.int 0,.int a,.int b,.int R]] M4=some (.fl ([0,c1,c2,R].map D.int),M4):=by
  have:=Py (f:=λ_ _=>some (.fl ([0,a,b,R].map D.int),M4)) (Y:=[]) (M:=M4) (x:=.fl ([0,a,b,R].map D.int)) (ks:=[0,a,b,R]) rfl C9 (by simp);rw[ec]at this;exact this
 calc zM es (Ea ?_);let nw4:=(((nx1.trans nx2).trans nx3).trans nx4).nw;let lp:M.length<=M4.length:=nw4.len;let nw5:=nw4.trans (nw4.gen.lst ([0,c1,c2,R].map D.int) (zo _ _));let e5:(M4++[MO.lst ([0,c1,c2,R].map D.int)])[M4.length]?=some (.lst ([0,c1,c2,R].map D.int)):=DJ _ _;generalize M4++[MO.lst ([0,c1,c2,R].map D.int)]=M5 at nw5 e5;generalize M4.length=p at lp e5;rw[zW,zL,zb];refine DX nw5.gen rfl rfl () () λF M6 F0 F1 nx6=>?_;let nw6:=nw5.trans nx6.nw;let e6:=nx6.nw.get e5 () ();rw[zF,zW,zL,zb];calc Ge.mpr (D6.mpr ⟨zt (by simp),Ea ?_⟩);let nw7:=nw6.trans (nw6.gen.lst [] rfl);let lp2:p<M6.length:=(AY.mp e6).1;let lq:M.length<=M6.length:=nw6.len;let e7:=(nw6.gen.lst [] rfl).get e6 () ();let e7':(M6++[MO.lst ([]:List D)])[M6.length]?=some (.lst (([]:List (List Int)).map tI)):=DJ _ _;generalize M6++[MO.lst ([]:List D)]=M7 at nw7 e7 e7';generalize M6.length=q at lp2 lq e7';rw[zW];show OkS (zV _ _ [some (.ref n),some (.int 26),some (.int 6),some (.int R),some (.int W),some (.ref p),some (.int F),some (.ref q),none,none,none,none,none,none] M7) _;rw[zL,DQ];calc ⟨_,_,_,G9 (j:=3) rfl () (),?_⟩;refine PV (n:=3) (I:=λt Y A=>(∃ y8 y9 y10 y11 y12 y13,Y=[some (.ref n),some (.int 26),some (.int 6),some (.int R),some (.int W),some (.ref p),some (.int F),some (.ref q),y8,y9,y10,y11,y12,y13])/\Nw M A n k/\A[p]?=some (.lst ([0,c1,c2,R].map D.int)) /\ ∃ zA:List (List Int),A[q]?=some (.lst (zA.map tI))/\(zA.length:Int)=[0,c1,c2,R].getD t 0 /\ ∀ r∈zA,r.length=W.toNat /\ ∀ g∈r,0<=g/\g<R) ?_ ?_ _ _ ⟨⟨_,_,_,_,_,_,rfl⟩,nw7,e7,[],e7',rfl,λ_ h=>by ext h⟩
 .rintro t Y A ht ⟨⟨y8,y9,y10,y11,y12,y13,rfl⟩,nw,ep,zA,eq,hrl,hrow⟩;refine ⟨_,rfl,?_⟩;let cu:∃ u v:Int,[0,c1,c2,R].getD t 0=u/\[0,c1,c2,R].getD (t+1) 0=v/\0<=u/\u<=v/\v<=R:=by
   calc ⟨_,_,rfl,rfl,?_⟩;rcases (show t=0\/t=1\/t=2 by omega)with rfl|rfl|rfl
   .exact ⟨Int.le_refl 0,c10,Int.le_trans c12 c2R⟩
   .exact ⟨c10,c12,c2R⟩
   .exact ⟨Int.le_trans c10 c12,c2R,Int.le_refl _⟩
  let⟨u,v,eu,ev,u0,uv,vR⟩:=cu;let iu:∀ (Y:Sd) (A:Mem),A[p]?=some (.lst ([0,c1,c2,R].map D.int))->Y[5]?=some (some (.ref p))->Y[8]?=some (some (.int (t:Nat)))->fOp kIx (zC 5) (zC 8) Y A=some (.dat (.int u),A):=λY A ep s5 s8=>by
   calc zH (by erw[zC];rw[s5]) (by erw[zC];rw[s8]) (Dj (B8 ep) ?_);rw[Ln () (by simp;omega),Ef,eu]
  let iv:∀ (Y:Sd) (A:Mem),A[p]?=some (.lst ([0,c1,c2,R].map D.int))->Y[5]?=some (some (.ref p))->Y[8]?=some (some (.int (t:Nat)))->fOp kIx (zC 5) (fOp Aq (zC 8) (fC (.int 1))) Y A=some (.dat (.int v),A):=λY A ep s5 s8=>by
   calc zH (by erw[zC];rw[s5]) (zH (by erw[zC];rw[s8]) rfl Du) (Dj (B8 ep) ?_);rw[Ln () (by simp;omega),show ((t:Nat)+1:Int).toNat=t+1 by omega,ev]
  show OkS (zV _ _ [some (.ref n),some (.int 26),some (.int 6),some (.int R),some (.int W),some (.ref p),some (.int F),some (.ref q),some (.int (t:Nat)),y9,y10,y11,y12,y13] A) _;calc Fh (zH (iv _ _ ep rfl rfl) (iu _ _ ep rfl rfl) IG) ?_;rw[zL,zb];let hmx:(if v-u>1 then v-u else 1)<=26/\1<=(if v-u>1 then v-u else 1)/\(u<v->(if v-u>1 then v-u else 1)=v-u):=by split <;> omega
  refine Ar.mpr (As.mpr (DX nw.gen rfl (Xr (j:=v-u) rfl rfl) () () λB0 A1 B00 B01 nx8=>EW.mpr ?_));rw[zF,zW];generalize eB:1+B0=B;let nw8:=nw.trans nx8.nw;let ep1:=nx8.nw.get ep () ();let eq1:=nx8.nw.get eq () ();show OkS (Bh _ _ _ [some (.ref n),some (.int 26),some (.int 6),some (.int R),some (.int W),some (.ref p),some (.int F),some (.ref q),some (.int (t:Nat)),some (.int (v-u)),some (.int B),y11,y12,y13] A1) _;rw[DQ];calc ⟨_,_,_,aD (iu _ _ ep1 rfl rfl) (iv _ _ ep1 rfl rfl) () () () (),?_⟩;rw[eu]at hrl;refine GI (gd:=none) (I:=λs Y A=>(∃ y11 y12 y13,Y=[some (.ref n),some (.int 26),some (.int 6),some (.int R),some (.int W),some (.ref p),some (.int F),some (.ref q),some (.int (t:Nat)),some (.int (v-u)),some (.int B),y11,y12,y13])/\Nw M A n k/\A[p]?=some (.lst ([0,c1,c2,R].map D.int)) /\ ∃ zA:List (List Int),A[q]?=some (.lst (zA.map tI))/\(zA.length:Int)=u+(s:Int) /\ ∀ r∈zA,r.length=W.toNat /\ ∀ g∈r,0<=g/\g<R) (λ_ _ _ _=>trivial) ?_ ?_ _ _ ⟨⟨_,_,_,rfl⟩,nw8,ep1,zA,eq1,(),hrow⟩
  .rintro s x Y A ex ⟨⟨y11,y12,y13,rfl⟩,nw,ep,zA,eq,hrl,hrow⟩;let hs:s<(v-u).toNat:=by
    have:=(AY.mp ex).1;rw[AI,Dv]at this;exact this
   rw[AW,List.getElem?_range hs]at ex;ext ex;calc ⟨_,rfl,?_⟩;let hBm:B<=v-u:=by have:=hmx.2.2 ();omega
   let fin:∀ (A':Mem) (z:Nat) (c:Ye) (y13:Option D),Nw A A' n k->A'[z]?=some (.lst (c.map D.int))->c.length=W.toNat->(∀ g∈c,0<=g/\g<R)->OkS (Dr (fM EA (zC 7) (zD (toD (fB Bc (zI (fB Dp (zI (zC 12) za)) za))) zR)) [some (.ref n),some (.int 26),some (.int 6),some (.int R),some (.int W),some (.ref p),some (.int F),some (.ref q),some (.int (t:Nat)),some (.int (v-u)),some (.int B),some (.int (u+(s:Int))),some (.ref z),y13] A') λo σ2 M2=>match o with
     |.nx=>(∃ y11 y12 y13,σ2=[some (.ref n),some (.int 26),some (.int 6),some (.int R),some (.int W),some (.ref p),some (.int F),some (.ref q),some (.int (t:Nat)),some (.int (v-u)),some (.int B),y11,y12,y13])/\Nw M M2 n k/\M2[p]?=some (.lst ([0,c1,c2,R].map D.int)) /\ ∃ zA:List (List Int),M2[q]?=some (.lst (zA.map tI))/\(zA.length:Int)=u+((s+1:Nat):Int) /\ ∀ r∈zA,r.length=W.toNat /\ ∀ g∈r,0<=g/\g<R
     |_=>False:=by
    intro A' z c y13 nw' ez hc hcr;let ep':=nw'.get ep () ();let eq':=nw'.get eq () ();rw[Ja];calc IV.mpr (zm.mpr ⟨_,rfl,⟨_,F4 eq'⟩,?_⟩);calc zM (zi (d:=tI (Ag c)) (Fn (Py (x:=.dat (.ref z)) rfl (B8 ez) ()) C9)) ?_;refine (Ls eq' (BH (by rw[AI];omega) (zt (n:=100) ()))).mpr ⟨⟨_,_,_,rfl⟩,(nw.trans nw').setB h lq ?_,?_,zA++[Ag c],?_,by rw[Aw];simp;omega,λr hr=>?_⟩
    .show D.unds _ _=true;rw[N2,Na];show (true&&D.unds _ [tI (Ag c)])=true;erw[D.unds,D.unds];rw[show D.und A'.length (tI (Ag c))=true from CY _];rfl
    .rw[Bz ()];exact ep'
    .rw[DE (AY.mp eq').1,Dw];rfl
    .rcases Au.mp hr with z|z
     .exact hrow r z
     .rw[BD.mp z];exact ⟨by rw[(EK c).length_eq];exact hc,λg hg=>hcr g ((EK c).mem_iff.mp hg)⟩
   show OkS (zV _ _ [some (.ref n),some (.int 26),some (.int 6),some (.int R),some (.int W),some (.ref p),some (.int F),some (.ref q),some (.int (t:Nat)),some (.int (v-u)),some (.int B),some (.int (u+(s:Int))),y12,y13] A) _;rw[zL,zb];calc ET.mpr ⟨_,_,_,G9 (j:=W) rfl () (),by rw[Gg];calc zt (),?_⟩;refine Ok.mono (Hh (n:=W.toNat) (I:=λj acc A'=>Nx A A' n k /\ ∃ c:List Int,acc=c.map D.int/\c.length=j /\ ∀ g∈c,0<=g/\g<R) ?_ ⟨.refl nw.gen,[],rfl,rfl,λ_ h=>by ext h⟩) ?_
   .rintro j acc A' hj ⟨nx,c,rfl,hc,hcr⟩;refine ⟨_,rfl,?_⟩;refine F5.mpr (zM (zh (d:=.ref n) rfl (zh (iu _ _ (nx.nw.get ep () ()) rfl rfl) (zh (d:=.int (v-u)) rfl (zh (d:=.int B) rfl (zi (d:=.int (u+(s:Int))) rfl))))) (Ok.mono (aP nx.gen () hBm ()) ?_));rintro d A2 ⟨⟨w,rfl,w0,w1⟩,nx2⟩;rw[zF];refine ⟨nx.trans nx2,c++[w],by simp,by simp[hc],λg hg=>?_⟩;rcases Au.mp hg with z|z
    .exact hcr g z
    .rw[BD.mp z];omega
   .rintro ys A' ⟨nx,c,rfl,hc,hcr⟩;calc Ea ?_;rw[zW];let nw1:=nx.nw.trans (nx.gen.lst (c.map D.int) (zo _ _));let e1:(A'++[MO.lst (c.map D.int)])[A'.length]?=some (.lst (c.map D.int)):=DJ _ _;generalize A'++[MO.lst (c.map D.int)]=A2 at nw1 e1;generalize A'.length=z at e1;show OkS (zV _ _ [some (.ref n),some (.int 26),some (.int 6),some (.int R),some (.int W),some (.ref p),some (.int F),some (.ref q),some (.int (t:Nat)),some (.int (v-u)),some (.int B),some (.int (u+(s:Int))),some (.ref z),y13] A2) _;let hcond:=UE (a:=tst (fOp kEq (zC 8) (fC (.int 2)))) (b:=tst (fOp kEq (zC 6) (fC (.int 1)))) (Y:=[some (.ref n),some (.int 26),some (.int 6),some (.int R),some (.int W),some (.ref p),some (.int F),some (.ref q),some (.int (t:Nat)),some (.int (v-u)),some (.int B),some (.int (u+(s:Int))),some (.ref z),y13]) (M:=A2) (B3 (zH (x:=.dat (.int (t:Nat))) (y:=.dat (.int 2)) rfl rfl eqE)) (B3 (zH (x:=.dat (.int F)) (y:=.dat (.int 1)) rfl rfl eqE));cases hk2:(decide (((t:Nat):Int)=2)&&decide (F=1)) with
    |false=>
     rw[hk2]at hcond;calc F3 hcond (OkS.mono (fin A2 z c y13 nw1 e1 hc hcr) ?_);intro o σ2 M2 x;cases o with
     |nx=>calc x
     |_=>ext x
    |true=>
     rw[hk2]at hcond;calc C6 hcond ?_;rw[zb];calc ET.mpr ⟨_,_,_,G9 (j:=W) rfl () (),by rw[Gg];calc zt (),?_⟩;refine Ok.mono (Hh (n:=W.toNat) (I:=λj acc A'=>Nx A2 A' n k /\ ∃ c:List Int,acc=c.map D.int/\c.length=j /\ ∀ g∈c,0<=g/\g<R) ?_ ⟨.refl nw1.gen,[],rfl,rfl,λ_ h=>by ext h⟩) ?_
     .rintro j acc A' hj ⟨nx,c,rfl,hc,hcr⟩;refine ⟨_,rfl,DX (m:=R) nx.gen rfl rfl () () λw A3 w0 w1 nx2=>?_⟩;rw[zF];refine ⟨nx.trans nx2,c++[w],by simp,by simp[hc],λg hg=>?_⟩;rcases Au.mp hg with z|z
      .exact hcr g z
      .rw[BD.mp z];omega
     .rintro ys A' ⟨nx,c,rfl,hc,hcr⟩;calc Ea ?_;rw[zW];let nw2:=nw1.trans (nx.nw.trans (nx.gen.lst (c.map D.int) (zo _ _)));let e2:(A'++[MO.lst (c.map D.int)])[A'.length]?=some (.lst (c.map D.int)):=DJ _ _;calc OkS.mono (fin _ _ c _ nw2 e2 hc hcr) ?_;intro o σ2 M2 x;cases o with
      |nx=>calc x
      |_=>ext x
  .rintro Y A ⟨⟨y11,y12,y13,rfl⟩,nw,ep,zA,eq,hrl,hrow⟩;rw[AI,Dv]at hrl;exact ⟨⟨_,_,_,_,_,_,rfl⟩,nw,ep,zA,eq,by rw[ev];omega,hrow⟩
 .rintro Y A ⟨⟨y8,y9,y10,y11,y12,y13,rfl⟩,nw,ep,zA,eq,hrl,hrow⟩;let hrl:(zA.length:Int)=R:=hrl;rw[zW];calc BA (d:=mD zA) (Fn (x:=.dat (.ref q)) rfl (B8 eq)) ?_;refine ⟨⟨EC zA,nw.len,λj u hj e=>nw.wf0 h j u hj e⟩,zA,W.toNat,rfl,⟨(),(),λr hr=>?_⟩,(),(),nw.trim h,by have:=nw.len;rw[Cz];omega⟩;let⟨q1,q2⟩:=hrow r hr;calc ⟨q1,λg hg=>by rw[hrl];calc q2 g hg⟩
def Ex (M A:Mem):Prop:=∃ us,A=M++us
def Ex.refl (M:Mem):Ex M M:=⟨[],by simp⟩
def Ex.app (h:Ex M A) (vs:Mem):Ex M (A++vs):=by let⟨us,rfl⟩:=h;calc ⟨us++vs,by simp⟩
def Ex.len (h:Ex M A):M.length<=A.length:=by let⟨us,rfl⟩:=h;simp
def Ex.set (h:Ex M A) (hp:M.length<=p) (u:MO):Ex M (A.set p u):=by
 let⟨us,rfl⟩:=h;calc ⟨us.set (p-M.length) u,by rw[List.set_append_right _ _ hp]⟩
def Ex.take (h:Ex M A):A.take M.length=M:=by let⟨us,rfl⟩:=h;simp
def K8 {A:Mem} {j:Nat} {u:MO} (e:A[j]?=some u) (vs:Mem):(A++vs)[j]?=some u:=by rw[BV (AY.mp e).1];calc e
def P4 {m:FF} {ds:List D} {M:Mem} {Q:D->Prop} (wf:∀ (j:Nat) u,M[j]?=some u->MO.und M.length u=true) (h:Ok (m ds M) λd A=>D.und 0 d=true/\Ex M A/\Q d):Ok (Ec m ds M) λd A=>A=M/\Q d:=by
 calc Lp (Ok.mono h ?_);rintro d A ⟨hd,hx,q⟩;refine ⟨⟨JG (A8 _) hd,hx.len,λj u hj e=>wf j u ?_⟩,hx.take,q⟩;let⟨us,rfl⟩:=hx;rw[BV hj]at e;calc e
def Pf {c:Ye} (h:zr M y=some (c.map D.int)):kIn neg (.dat (.int x)) y M=some (.dat (.bl (if neg then !decide (x∈c) else decide (x∈c))),M):=by
 erw[kIn];dsimp only;rw[h];dsimp only;rw[Dx];have:(c.any λy=>decide (y=x))=decide (x∈c):=by
  rw[C1,List.any_eq_true,decide_eq_true_iff];exact ⟨λ⟨y,hy,e⟩=>by rw[<-C2 e];exact hy,λhx=>⟨x,hx,by simp⟩⟩
 dsimp only;rw[this]
section
variable {zA:Ya} {l:Nat}
def Ji (m:IsM zA l) (x0:0<=x) (x1:x<(zA.length:Int)) (hf:f Y A=some (.dat (mD zA),A)) (hg:g Y A=some (.dat (.int x),A)):fOp kIx f g Y A=some (.dat (tI (gl zA x)),A):=zH hf hg (Dj Bg (NM x0 x1))
def Eg (m:IsM zA l) (x0:0<=x) (x1:x<(zA.length:Int)):(gl zA x).length=l /\ ∀ g∈gl zA x,0<=g/\g<(zA.length:Int):=m.get x0 x1
end
def Hg (p:Ye):zx 1 (tI p)=true:=by
 show (p.map D.int).all (zx 0)=true;rw[An];intro x hx;let⟨i,_,rfl⟩:=AR.mp hx;rfl
def LN (h:tI p=tI q):p=q:=(List.map_inj_right (f:=D.int) (λ_ _ h=>D.int.inj h)).mp (D.tup.inj h)
theorem Qv:∀ ts:List (List Int),Dz (ts.map tI)=some ts
 |[]=>rfl
 |t::ts=>by
  rw[Ab];erw[Dz];rw[Qv ts,show Qa (tI t)=some t from Dx t]
def phK (ks:Ye) (φ:Int->Int):List (D × D):=ks.map λx=>(.int x,.int (φ x))
def UY:((phK ks φ).any λp=>decide (Ak p.1=some (.inl x)))=decide (x∈ks):=by
 erw[phK];rw[C1,List.any_eq_true,decide_eq_true_iff];constructor
 .rintro ⟨p,hp,e⟩;let⟨y,hy,rfl⟩:=AR.mp hp;let e:=C2 e;have:y=x:=by injection e with e;injection e
  rw[<-this];exact hy
 .intro hx;calc ⟨_,AR.mpr ⟨x,hx,rfl⟩,BG rfl⟩
theorem Ka:∀ {ks:Ye},Cc Ak (phK ks φ) (.inl x)=if x∈ks then some (.int (φ x)) else none
 |[]=>rfl
 |k::ks=>by
  let ih:=Ka (φ:=φ) (x:=x) (ks:=ks);unfold Cc phK at ih ⊢;rw[Ab,Ed];by_cases h:k=x
  .subst h;rw[show decide (Ak (D.int k)=some (.inl k))=true from BG rfl,AD AM];rfl
  .rw[show decide (Ak (D.int k)=some (.inl x))=false from BB λe=>h (by injection e with e;injection e)];dsimp only;rw[ih];by_cases hx:x∈ks
   .rw[AD hx,AD (AQ _ hx)]
   .rw[AE hx,AE λe=>(AJ.mp e).elim (λz=>h z.symm) hx]
def Oe (h:∀ x∈ks,φ x=ψ x):phK ks φ=phK ks ψ:=List.map_congr_left λx hx=>by rw[h x hx]
def Nl (e:A[n]?=some (.dict (phK ks φ))) (hx:x∉ks) (hz:ks.length<=1000):FV A n (.int x) (.int v)=some (A.set n (.dict (phK (ks++[x]) λy=>if y=x then v else φ y))):=by
 erw[FV];rw[e];dsimp only;rw[show Ak (D.int x)=some (.inl x)from rfl];dsimp only;rw[AD (BH (show (phK ks φ).length<100000 by erw[phK];rw[AI];omega) (zt (AF _))),UB (by rw[UY,BB hx])];rw[Oe (ψ:=λy=>if y=x then v else φ y) λy hy=>(AE (show ¬ y=x from λe=>hx (e▸hy))).symm];erw[phK];rw[Dw];simp
def Kf (e:A[n]?=some (.dict (phK ks φ))\/A[n]?=some (.froK (phK ks φ))):DG neg (.dat (.int x)) (.dat (.ref n)) A=some (.dat (.bl (if neg then !decide (x∈ks) else decide (x∈ks))),A):=by
 have:FK A (.dat (.ref n)) (.int x)=some (Cc Ak (phK ks φ) (.inl x)):=by
  erw[FK];rcases e with e|e <;> (dsimp only;rw[e];rfl)
 erw[DG];dsimp only;rw[this];dsimp only;rw[Ka];by_cases h:x∈ks
 .rw[AD h,BG h];rfl
 .rw[AE h,BB h];rfl
def Ga (e:A[n]?=some (.dict (phK ks φ))\/A[n]?=some (.froK (phK ks φ))) (hx:x∈ks):CN (.dat (.ref n)) (.dat (.int x)) A=some (.dat (.int (φ x)),A):=by
 have:FK A (.dat (.ref n)) (.int x)=some (Cc Ak (phK ks φ) (.inl x)):=by
  erw[FK];rcases e with e|e <;> (dsimp only;rw[e];rfl)
 erw[CN];dsimp only;rw[this,Ka,AD hx]
section
variable {zA:Ya} {l:Nat}
def Part.len (h:Part zA p):p.length<=zA.length:=by
 have:=HW (a:=0) (n:=zA.length) h.pw λx hx=>by have:=h.mem x hx;omega
 calc this
def NA {p:Ye} (h:p[i]?=some x):atI (p.map D.int) (i:Nat)=some (.int x):=Iv (by rw[AW,h];rfl)
abbrev Bt:=List Int × Int × List Int
def btD (t:Bt):D:=.tup [tI t.1,.int t.2.1,tI t.2.2]
structure IsB (zA:Ya) (t:Bt):Prop where
 part:Part zA t.1
 le:t.2.1<=26
 ph:∃ φ,t.2.2=t.1.map φ/\Phs zA t.1 t.2.1 φ/\φ (t.1.headD 0)=0
structure Bm (zA:Ya) (t:Bt):Prop where
 part:Part zA t.1
 ph:∃ φ,t.2.2=t.1.map φ/\Phs zA t.1 t.2.1 φ/\φ (t.1.headD 0)=0
 max:∀ b ψ,Phs zA t.1 b ψ->ψ (t.1.headD 0)=0->b<=t.2.1
structure Tok (zA:Ya) (T:List Bt):Prop where
 pw:(T.map (·.1)).Pairwise (λa b=>AZ b a=false)
 nd:(T.map (·.1)).Nodup
 all:∀ q,q∈T.map (·.1) ↔ Part zA q
 bm:∀ t∈T,Bm zA t
def Phs.le (m:IsM zA l) (hP:Part zA p) (h:Phs zA p b φ):b<=(p.length:Int):=by
 let b1:=h.b1;let hg:∀ x∈p,gl zA x≠[]:=λx hx e=>by
  let⟨x0,x1⟩:=hP.mem x hx;let h1:=(Eg m x0 x1).1;rw[e,Bw]at h1;have:=m.l0;omega
 let h1:((List.range b.toNat).map λ(k:Nat)=>(k:Int)).length<=(p.map φ).length:=by
  refine List.Nodup.length_le_of_subset ?_ λz hz=>?_
  .unfold List.Nodup;rw[EY];exact (List.nodup_range (n:=b.toNat)).imp λh e=>h (Int.ofNat.inj e)
  .obtain ⟨k,hk,rfl⟩:=AR.mp hz;let⟨x,hx,e⟩:=h.all hP hg (z:=(k:Nat)) () (by have:=CD.mp hk;omega);exact AR.mpr ⟨x,hx,e⟩
 rw[AI,Dv,AI]at h1;omega
def MU (t:Bt):D.und n (btD t)=true:=by
 erw[btD,D.und,D.unds,D.unds,D.unds,D.unds];rw[show D.und n (tI t.1)=true from CY _,show D.und n (tI t.2.2)=true from CY _];rfl
def W7 (T:List Bt):D.unds n (T.map btD)=true:=IE λx hx=>by
 let⟨t,_,rfl⟩:=AR.mp hx;calc MU t
end
def MM:FS:=(zV (AN 2 (IK (zC 1) (fC (.int 0))))
  (zV (AN 3 (By (zD (toD (zC 1)) zR)))
  (zV (Cb (HQ (zC 3)) (zV (AN 4 (By zR))
  (zV (Bh (Aa (zC 3)) (gN 5) (Bh (Aa (fOp kIx (zC 0) (zC 5))) (gN 6) (sIf (tst (fOp (DG true) (zC 6) (zC 2))) (zV (IC (fOp Aq (fOp CN (zC 2) (zC 5)) (fC (.int 1))) (zC 2) (zC 6))
  (Dr (fM EA (zC 4) (zD (toD (zC 6)) zR)))) CS)))
  (AN 3 (zC 4)))) 100)
  (AV (zC 2)))))
def Gj:FF:=Aj 7 MM
def JC:FS:=(zV (AN 1 (zu [2] (Bj (zD (toD (fB Al (zI (zC 0) za))) zR)) (gN 2) zq (fB Bc (zI (fB GY (zI (zX Gj (zD (toD (zC 0)) (zD (toD (zC 2)) zR))) za)) za))))
  (AV (fB Bc (zI (HY [3] (Aa (zC 1)) (gN 3) (tst (fB D0 (zI (zu [2] (Aa (zC 3)) (gN 2) zq (fOp (kTr false 0) (fOp kIx (zC 1) (zC 2)) (zC 3))) za))) (zC 3)) za))))
def Ha:FF:=Ct (Aj 4 JC)
section
variable {zA:Ya} {l:Nat} {r:Int} {ks:Ye} {φ:Int->Int}
structure Bf (zA:Ya) (r:Int) (ks:Ye) (φ:Int->Int):Prop where
 nd:ks.Nodup
 rg:∀ x∈ks,0<=x/\x<(zA.length:Int)
 self:r∈ks
 zero:φ r=0
 pos:∀ x∈ks,0<=φ x
 pre:∀ x∈ks,(x=r/\φ x=0) \/ ∃ y∈ks,x∈gl zA y/\φ x=φ y+1
def Bf.len (h:Bf zA r ks φ):ks.length<=zA.length:=by
 let h1:=h.nd.length_le_of_subset (l₂:=(List.range zA.length).map λ(k:Nat)=>(k:Int)) λx hx=>by
  let⟨x0,x1⟩:=h.rg x hx;exact AR.mpr ⟨x.toNat,CD.mpr (),()⟩
 rw[AI,Dv]at h1;calc h1
def Bf.put (h:Bf zA r ks φ) (hy:y∈ks) (hg:g∈gl zA y) (gr:0<=g/\g<(zA.length:Int)) (hn:g∉ks):Bf zA r (ks++[g]) (λx=>if x=g then φ y+1 else φ x):=by
 let old:∀ x∈ks,(if x=g then φ y+1 else φ x)=φ x:=λx hx=>AE (show ¬ x=g from λe=>hn (e▸hx));refine ⟨EZ.mpr ⟨h.nd,by simp,λa ha b hb e=>hn (by rw[BD.mp hb]at e;rw[<-e];calc ha)⟩,λx hx=>?_,Bi _ h.self,(old r h.self).trans h.zero,λx hx=>?_,λx hx=>?_⟩ <;> rcases Au.mp hx with z|z
 .exact h.rg x z
 .rw[BD.mp z];exact gr
 .rw[old x z];exact h.pos x z
 .rw[BD.mp z,AD rfl];have:=h.pos y hy;omega
 .rcases h.pre x z with q|⟨y',q1,q2,q3⟩
  .exact .inl ⟨q.1,(old x z).trans q.2⟩
  .exact .inr ⟨y',Bi _ q1,q2,by rw[old x z,old y' q1];calc q3⟩
 .rw[BD.mp z];calc .inr ⟨y,Bi _ hy,hg,by rw[AD rfl,old y hy]⟩
def Bf.ind (h:Bf zA r ks φ) {S:Int->Prop} (s0:S r) (hS:∀ y∈ks,S y -> ∀ x∈ks,x∈gl zA y->φ x=φ y+1->S x):∀ x∈ks,S x:=by
 let key:∀ (n:Nat),∀ x∈ks,(φ x).toNat<=n->S x:=by
  intro n;induction n with
  |zero=>
   intro x hx hn;rcases h.pre x hx with q|⟨y,q1,q2,q3⟩
   .rw[q.1];exact s0
   .have:=h.pos y q1;omega
  |succ n ih=>
   intro x hx hn;rcases h.pre x hx with q|⟨y,q1,q2,q3⟩
   .rw[q.1];exact s0
   .have:=h.pos y q1;exact hS y q1 (ih y q1 ()) x hx q2 q3
 calc λx hx=>key _ x hx (AF _)
def Bf.snd (h:Bf zA r ks φ) {S:Int->Prop} (hS:∀ x∈ks,S x -> ∀ g∈gl zA x,S g) (s0:S r):∀ x∈ks,S x:=h.ind s0 λy hy sy x _ hx _=>hS y hy sy x hx
def KW (m:IsM zA l) (h26:zA.length<=26) (r0:0<=r) (r1:r<(zA.length:Int)) (M:Mem):Ok (Gj [mD zA,.int r] M) λd A=>∃ ks φ,d=.ref M.length/\Ex M A/\A[M.length]?=some (.dict (phK ks φ))/\Bf zA r ks φ /\ ∀ x∈ks,∀ g∈gl zA x,g∈ks:=by
 erw[Gj];rw[BN];erw[MM];show OkS (zV _ _ [some (mD zA),some (.int r),none,none,none,none,none] M) _;let hd1:IK (zC 1) (fC (.int 0)) [some (mD zA),some (.int r),none,none,none,none,none] M=some (.dat (.ref M.length),M++[.dict (phK [r] λ_=>0)]):=by
  erw[IK];rw[show toD (zC 1) [some (mD zA),some (.int r),none,none,none,none,none] (M++[.dict []])=some (.int r,M++[.dict []])from rfl];dsimp only;rw[show toD (fC (.int 0)) [some (mD zA),some (.int r),none,none,none,none,none] (M++[MO.dict []])=some (.int 0,M++[MO.dict []])from rfl];dsimp only;rw[DJ];show some (EV.dat (D.ref M.length),(M++[MO.dict []]).set M.length (.dict [(.int r,.int 0)]))=_;rw[List.set_append_right _ _ (AF _),Nat.sub_self];rfl
 rw[zL,zb];calc zM hd1 ?_;rw[zF,zW,zL,zb];calc zM (Qh (zi (d:=.int r) rfl) (by simp)) (Ea ?_);rw[zW];let e3:((M++[MO.dict (phK [r] λ_=>0)])++[MO.lst [D.int r]])[M.length]?=some (.dict (phK [r] λ_=>0)):=K8 (DJ _ _) _;let e4:((M++[MO.dict (phK [r] λ_=>0)])++[MO.lst [D.int r]])[(M++[MO.dict (phK [r] λ_=>0)]).length]?=some (.lst ([r].map D.int)):=DJ _ _;rw[show (M++[MO.dict (phK [r] λ_=>0)]).length=M.length+1 by simp]at e4 ⊢;let hx0:Ex M ((M++[MO.dict (phK [r] λ_=>0)])++[MO.lst [D.int r]]):=((Ex.refl M).app _).app _;generalize (M++[MO.dict (phK [r] λ_=>0)])++[MO.lst [D.int r]]=A0 at e3 e4 hx0;show OkS (zV _ _ [some (mD zA),some (.int r),some (.ref M.length),some (.ref (M.length+1)),none,none,none] A0) _;let hb0:Bf zA r [r] λ_=>0:=⟨by simp,λx hx=>by rw[BD.mp hx];exact ⟨r0,r1⟩,by simp,rfl,λ_ _=>Int.le_refl _,λx hx=> .inl ⟨BD.mp hx,rfl⟩⟩;rw[zL];refine Hf (I:=λw Y A=>∃ (z:Nat) (ks lv:Ye) (φ:Int->Int) (y4 y5 y6:Option D),Y=[some (mD zA),some (.int r),some (.ref M.length),some (.ref z),y4,y5,y6]/\Ex M A/\M.length<z/\A[M.length]?=some (.dict (phK ks φ))/\A[z]?=some (.lst (lv.map D.int))/\Bf zA r ks φ/\(∀ x∈lv,x∈ks)/\(∀ x∈ks,x∈lv \/ ∀ g∈gl zA x,g∈ks)/\w=(26-ks.length)+if lv.isEmpty then 0 else 1) ?_ 100 26 _ _ () ⟨M.length+1,[r],[r],λ_=>0,_,_,_,rfl,hx0,(),e3,e4,hb0,λ_ h=>h,λ_ h=> .inl h,rfl⟩;rintro w Y A ⟨z,ks,lv,φ,y4,y5,y6,rfl,hx,hz,ed,el,hb,hsub,hcl,rfl⟩;calc zM (XW (f:=zC 3) (j:=z) rfl el) ?_;by_cases hlv:lv=[]
 .subst hlv;rw[AE (),zW];exact BA (d:=.ref M.length) rfl ⟨ks,φ,rfl,hx,ed,hb,λx hx g hg=>(hcl x hx).elim (λh=>by ext h) λh=>h g hg⟩
 let hne:lv.isEmpty=false:=by cases lv with|nil=>exact absurd rfl hlv|cons _ _=>rfl
 rw[AD (by cases lv with|nil=>exact absurd rfl hlv|cons _ _=>rfl),zL,zb];calc Ge.mpr (D6.mpr ⟨zt (by simp),Ea ?_⟩);rw[zW];let hq:z<A.length:=(AY.mp el).1;let ed1:=K8 ed [MO.lst ([]:List D)];let el1:=K8 el [MO.lst ([]:List D)];let eq1:(A++[MO.lst ([]:List D)])[A.length]?=some (.lst (([]:List Int).map D.int)):=DJ _ _;let hx1:=hx.app [MO.lst ([]:List D)];generalize A++[MO.lst ([]:List D)]=A1 at ed1 el1 eq1 hx1;generalize A.length=q at hq eq1;show OkS (zV _ _ [some (mD zA),some (.int r),some (.ref M.length),some (.ref z),some (.ref q),y5,y6] A1) _;rw[zL,DQ];calc ⟨_,_,_,F7 (h:=zC 3) (x:=.dat (.ref z)) rfl (B8 el1),?_⟩;refine GI (I:=λt Y A=>∃ (bs:Ye) (ψ:Int->Int) (y5 y6:Option D),Y=[some (mD zA),some (.int r),some (.ref M.length),some (.ref z),some (.ref q),y5,y6]/\Ex M A/\A[M.length]?=some (.dict (phK (ks++bs) ψ))/\A[z]?=some (.lst (lv.map D.int))/\A[q]?=some (.lst (bs.map D.int))/\Bf zA r (ks++bs) ψ /\ ∀ i,i<t -> ∀ x,lv[i]?=some x -> ∀ g∈gl zA x,g∈ks++bs) (λt Y A h=>by let⟨_,_,_,_,_,_,_,h,_⟩:=h;calc Or.inl h) ?_ ?_ _ _ ⟨[],φ,_,_,rfl,hx1,by rw[CV];calc ed1,el1,eq1,by rw[CV];exact hb,λi hi=>absurd hi (Nat.not_lt_zero _)⟩
 .rintro t d Y A et ⟨bs,ψ,y5,y6,rfl,hx,ed,el,eq,hb,hdone⟩;rw[AW]at et;let⟨x,ex,rfl⟩:=Option.map_eq_some_iff.mp et;let hxk:=hsub x (Bn ex);let⟨x0,x1⟩:=hb.rg x (Bi _ hxk);refine ⟨_,rfl,?_⟩;show OkS (Bh _ _ _ [some (mD zA),some (.int r),some (.ref M.length),some (.ref z),some (.ref q),some (.int x),y6] A) _;rw[DQ];refine ⟨_,_,_,CJ (Ji m x0 x1 rfl rfl),?_⟩;refine GI (gd:=none) (I:=λs Y A=>∃ (bs:Ye) (ψ:Int->Int) (y6:Option D),Y=[some (mD zA),some (.int r),some (.ref M.length),some (.ref z),some (.ref q),some (.int x),y6]/\Ex M A/\A[M.length]?=some (.dict (phK (ks++bs) ψ))/\A[z]?=some (.lst (lv.map D.int))/\A[q]?=some (.lst (bs.map D.int))/\Bf zA r (ks++bs) ψ/\(∀ i,i<t -> ∀ x,lv[i]?=some x -> ∀ g∈gl zA x,g∈ks++bs) /\ ∀ i,i<s -> ∀ g,(gl zA x)[i]?=some g->g∈ks++bs) (λ_ _ _ _=>zn) ?_ ?_ _ _ ⟨bs,ψ,_,rfl,hx,ed,el,eq,hb,hdone,λi hi=>absurd hi (Nat.not_lt_zero _)⟩
  .rintro s d Y A et ⟨bs,ψ,y6,rfl,hx,ed,el,eq,hb,hdone,hs⟩;rw[AW]at et;let⟨g,eg,rfl⟩:=Option.map_eq_some_iff.mp et;let hgm:g∈gl zA x:=Bn eg;refine ⟨_,rfl,?_⟩;show OkS (sIf _ _ _ [some (mD zA),some (.int r),some (.ref M.length),some (.ref z),some (.ref q),some (.int x),some (.int g)] A) _;rw[Gq];refine zM (B3 (zH (x:=.dat (.int g)) (y:=.dat (.ref M.length)) rfl rfl (Kf (neg:=true) (.inl ed)))) ?_;let hkl:=hb.len;by_cases hg:g∈ks++bs
   .rw[AE (by simp only[BG hg];decide),ID];refine ⟨bs,ψ,_,rfl,hx,ed,el,eq,hb,hdone,λi hi g' eg'=>?_⟩;by_cases e:i=s
    .subst e;rw[eg]at eg';ext eg';exact hg
    .exact hs i () g' eg'
   .rw[AD (by simp only[BB hg];decide),zL];refine Sh (v:=.int (ψ x+1)) (k:=.int g) (n:=M.length) (zH (zH (x:=.dat (.ref M.length)) (y:=.dat (.int x)) rfl rfl (Ga (.inl ed) (Bi _ hxk))) rfl Du) rfl rfl (Nl ed hg ()) ?_;let hb':=hb.put (Bi _ hxk) hgm ((Eg m x0 x1).2 g hgm) hg;rw[Dm]at hb' ⊢;generalize (λy=>if y=g then ψ x+1 else ψ y)=ψ' at hb';let ed1:(A.set M.length (.dict (phK (ks++(bs++[g])) ψ')))[M.length]?=some (.dict (phK (ks++(bs++[g])) ψ')):=DE (AY.mp ed).1;let el1:(A.set M.length (.dict (phK (ks++(bs++[g])) ψ')))[z]?=some (.lst (lv.map D.int)):=by rw[Bz ()];exact el
    let eq1:(A.set M.length (.dict (phK (ks++(bs++[g])) ψ')))[q]?=some (.lst (bs.map D.int)):=by rw[Bz ()];exact eq
    let hx1:=hx.set (AF _) (.dict (phK (ks++(bs++[g])) ψ'));generalize A.set M.length (.dict (phK (ks++(bs++[g])) ψ'))=A1 at ed1 el1 eq1 hx1;rw[zW,Ja];calc IV.mpr (zm.mpr ⟨_,rfl,⟨_,F4 eq1⟩,zM (zi (d:=.int g) rfl) ?_⟩);rw[Aw]at hkl;refine (Ls eq1 (BH (by rw[AI];omega) (zt (n:=100) ()))).mpr ⟨bs++[g],ψ',_,rfl,hx1.set () _,by rw[Bz ()];calc ed1,by rw[Bz ()];calc el1,by rw[DE (AY.mp eq1).1,Dw];rfl,hb',λi hi y ey g' hg'=>?_,λi hi g' eg'=>?_⟩
    .rw[<-Dm];exact Bi _ (hdone i hi y ey g' hg')
    .by_cases e:i=s
     .subst e;rw[eg]at eg';ext eg';simp
     .rw[<-Dm];exact Bi _ (hs i () g' eg')
  .rintro Y A ⟨bs,ψ,y6,rfl,hx,ed,el,eq,hb,hdone,hs⟩;refine ⟨bs,ψ,_,_,rfl,hx,ed,el,eq,hb,λi hi y ey g hg=>?_⟩;by_cases e:i=t
   .subst e;rw[ex]at ey;ext ey;let⟨j,hj,ej⟩:=List.mem_iff_getElem.mp hg;exact hs j (by rw[AI];calc hj) g (by rw[AL hj,ej])
   .exact hdone i () y ey g hg
 .rintro Y A ⟨bs,ψ,y5,y6,rfl,hx,ed,el,eq,hb,hdone⟩;rw[zW,zb];refine zm.mpr ⟨_,rfl,zF.mpr ⟨(26-(ks++bs).length)+(if bs.isEmpty then 0 else 1),?_,q,ks++bs,bs,ψ,_,_,_,rfl,hx,(),ed,eq,hb,λx h=>Af _ h,λx hx=>?_,rfl⟩⟩
  .have hkl:=hb.len;rw[hne];rw[Aw]at hkl ⊢;cases bs with
   |nil=>simp
   |cons a b=>simp at hkl ⊢;omega
  .rcases Au.mp hx with h|h
   .rcases hcl x h with h'|h'
    .obtain ⟨i,hi,ei⟩:=List.mem_iff_getElem.mp h';exact .inr λg hg=>hdone i (by rw[AI];calc hi) x (by rw[AL hi,ei]) g hg
    .exact .inr λg hg=>Bi _ (h' g hg)
   .exact .inl h
end
section
variable {zA:Ya} {l:Nat}
structure Rs (zA:Ya) (r:Int) (g:Ye):Prop where
 pw:g.Pairwise (· < ·)
 rg:∀ x∈g,0<=x/\x<(zA.length:Int)
 self:r∈g
 cl:∀ x∈g,∀ y∈gl zA x,y∈g
 snd:∀ S:Int->Prop,(∀ x∈g,S x -> ∀ y∈gl zA x,S y)->S r -> ∀ x∈g,S x
def Rs.of (h:Bf zA r ks φ) (hc:∀ x∈ks,∀ g∈gl zA x,g∈ks):Rs zA r (Ag ks):=by
 let hp:=EK ks;refine ⟨((He ks).and (hp.nodup_iff.mpr h.nd)).imp λ{a b} h=>by have:=h.1;have:=h.2;omega,λx hx=>h.rg x (hp.mem_iff.mp hx),hp.mem_iff.mpr h.self,λx hx y hy=>hp.mem_iff.mpr (hc x (hp.mem_iff.mp hx) y hy),λS hS s0 x hx=>?_⟩;calc h.snd (λx hx=>hS x (hp.mem_iff.mpr hx)) s0 x (hp.mem_iff.mp hx)
def Uv {GL:Ya} (hG:∀ r,r<zA.length->Rs zA (r:Nat) (GL.getD r [])) (hl:GL.length=zA.length):(p∈GL /\ ∀ x∈p,GL.getD x.toNat []=p) ↔ Part zA p:=by
 constructor
 .rintro ⟨hp,hx⟩;let⟨r,hr,e⟩:=Ck hp;let g:=hG r ();rw[Ai,AL hr,Option.getD_some,e]at g;refine ⟨g.pw,List.length_pos_of_mem g.self,g.rg,g.cl,λS hS x hxp sx y hy=>?_⟩;let⟨x0,x1⟩:=g.rg x hxp;let g2:=hG x.toNat ();rw[hx x hxp,show ((x.toNat:Nat):Int)=x by omega]at g2;exact g2.snd S hS sx y hy
 .intro hP;let key:∀ x∈p,GL.getD x.toNat []=p:=λx hx=>by
   let⟨x0,x1⟩:=hP.mem x hx;let g:=hG x.toNat ();rw[show ((x.toNat:Nat):Int)=x by omega]at g;exact O9 g.pw hP.pw λy=>⟨λhy=>g.snd (· ∈ p) (λz _ hz u hu=>hP.cl z hz u hu) hx y hy,λhy=>hP.con (· ∈ GL.getD x.toNat []) (λz _ hz u hu=>g.cl z hz u hu) x hx g.self y hy⟩
  calc ⟨?_,key⟩;let⟨x,hx⟩:=List.exists_mem_of_ne_nil p (by have:=hP.n0;intro e;rw[e]at this;simp at this);let⟨x0,x1⟩:=hP.mem x hx;rw[<-key x hx];calc HI ()
def Y3 (a b:Ye) (M:Mem):kTr false 0 (.dat (tI a)) (.dat (tI b)) M=some (.dat (.bl (decide (a=b))),M):=by
 let e:Av 1 (tI a) (tI b)=decide (a=b):=by
  rw[C1,decide_eq_true_iff];exact ⟨λh=>LN (Rf 1 _ _ (Hg a) (Hg b) h),λh=>by rw[h];calc MI 1 _ (Hg b)⟩
 show (if ((a.map D.int).all (zx 0)&&(b.map D.int).all (zx 0))=true then some (EV.dat (.bl (nb false (Av 1 (tI a) (tI b)))),M) else none)=_;rw[show (a.map D.int).all (zx 0)=true from Hg a,show (b.map D.int).all (zx 0)=true from Hg b,AD (),e];rfl
def UJ (e:A[n]?=some (.dict (phK ks φ))) (h:ks.length<64):GY [.dat (.ref n)] A=some (.fl ((Ag ks).map D.int),A):=by
 erw[GY];dsimp only;rw[e];dsimp only;rw[show (phK ks φ).map (·.1)=ks.map D.int by erw[phK];rw[Be];rfl,Dx];dsimp only;rw[AD h]
def dC {own:Yj} {fi:FI} {g:FG} {tc:FT} {te:FE} {Y:Sd} {M M1:Mem} {ts:Ya} (h:zu own fi g tc te Y M=some (.fl (ts.map tI),M1)) (hn:GV ts=true) (hl:ts.length<60):HY own fi g tc te Y M=some (.fl ((DL (zJ ts)).map tI),M1):=by
 erw[HY];rw[h];dsimp only;rw[Qv];dsimp only;rw[AD ⟨hn,hl⟩];rfl
def TH (m:IsM zA l) (h26:zA.length<=26) (M:Mem):Ok (Aj 4 JC [mD zA] M) λd _=>∃ PP:List (List Int),d=.tup (PP.map tI)/\PP.Nodup/\PP.length<=26/\PP.Pairwise (λa b=>AZ b a=false) /\ ∀ q,q∈PP ↔ Part zA q:=by
 rw[BN];erw[JC];show OkS (zV _ _ [some (mD zA),none,none,none] M) _;rw[zL,zb];calc ET.mpr ⟨_,_,_,G9 (IF rfl) () (),by rw[Gg];calc zt (),?_⟩;rw[Ef];refine Ok.mono (Hh (n:=zA.length) (I:=λi acc A=>∃ GL:List (List Int),acc=GL.map tI/\GL.length=i /\ ∀ r,r<i->Rs zA (r:Nat) (GL.getD r [])) ?_ ⟨[],rfl,rfl,λr hr=>absurd hr (Nat.not_lt_zero _)⟩) ?_
 .rintro i acc A hi ⟨GL,rfl,hGl,hG⟩;refine ⟨_,rfl,?_⟩;refine EU.mpr (EH.mpr (EU.mpr (EH.mpr (F5.mpr (zM (zh (d:=mD zA) rfl (zi (d:=.int (i:Nat)) rfl)) (Ok.mono (KW m h26 (r:=(i:Nat)) () () A) ?_))))));rintro d A' ⟨ks,φ,rfl,_,ed,hb,hc⟩;let hkl:=hb.len;refine EF.mpr (zM (UJ ed ()) (EF.mpr (zM (a:=.dat (tI (Ag ks))) (M:=A') rfl (zF.mpr ⟨GL++[Ag ks],by rw[Dw];rfl,by simp[hGl],λr hr=>?_⟩))));by_cases q:r=i
  .subst q;rw[Ai,Gy (),hGl,Nat.sub_self];exact Rs.of hb hc
  .rw[Ai,BV (),<-Ai];exact hG r ()
 .rintro ys A ⟨GL,rfl,hGl,hG⟩;refine Ea ?_;rw[zW];let e1:(A++[MO.lst (GL.map tI)])[A.length]?=some (.lst (GL.map tI)):=DJ _ _;generalize A++[MO.lst (GL.map tI)]=A1 at e1;generalize A.length=p at e1;show OkS (AV _ [some (mD zA),some (.ref p),none,none] A1) _;let hc:=OX (own:=[3]) (fi:=Aa (zC 1)) (g:=gN 3) (tc:=tst (fB D0 (zI (zu [2] (Aa (zC 3)) (gN 2) zq (fOp (kTr false 0) (fOp kIx (zC 1) (zC 2)) (zC 3))) za))) (te:=zC 3) (Y:=[some (mD zA),some (.ref p),none,none]) (M:=A1) GL tI tI (λs=>s.all λx=>decide (GL.getD x.toNat []=s)) (F7 (h:=zC 1) (x:=.dat (.ref p)) rfl (B8 e1)) (Or.inl e1) () λs hs=>⟨_,rfl,by
   let⟨r,hr,e⟩:=Ck hs;let g:=hG r ();rw[Ai,AL hr,Option.getD_some,e]at g;let hsl:s.length<=26:=by
    have:=HW (a:=0) (n:=zA.length) g.pw λx hx=>by have:=g.rg x hx;omega
    omega
   have:=G5 (bs:=s.map λx=>decide (GL.getD x.toNat []=s)) ((EI (own:=[2]) (fi:=Aa (zC 3)) (g:=gN 2) (te:=fOp (kTr false 0) (fOp kIx (zC 1) (zC 2)) (zC 3)) (Y:=[some (mD zA),some (.ref p),none,some (tI s)]) (M:=A1) s D.int (λx=> .bl (decide (GL.getD x.toNat []=s))) (gd:=none) (CJ rfl) trivial () λx hx=>⟨_,rfl,by
    let⟨x0,x1⟩:=g.rg x hx;let hlt:x.toNat<GL.length:=()
    calc zH (x:=.dat (tI (GL.getD x.toNat []))) (y:=.dat (tI s)) (zH (x:=.dat (.ref p)) (y:=.dat (.int x)) rfl rfl (Dj (B8 e1) ?_)) rfl (Y3 _ _ _);have:=Iv (xs:=GL.map tI) (j:=x.toNat) (v:=tI (GL.getD x.toNat [])) (by rw[AW,Ai,AL hlt];rfl);rw[show ((x.toNat:Nat):Int)=x by omega]at this;calc this⟩).trans (by rw[Be];rfl))
   rw[JK]at this;exact B3 this,λ_=>rfl⟩
  let hmem:∀ q,q∈GL.filter (λs=>s.all λx=>decide (GL.getD x.toNat []=s)) ↔ Part zA q:=λq=>by
   rw[List.mem_filter,<-Uv hG hGl,An];exact and_congr_right λ_=>⟨λh x hx=>C2 (h x hx),λh x hx=>BG (h x hx)⟩
  let hfl:=List.length_filter_le (λs:List Int=>s.all λx=>decide (GL.getD x.toNat []=s)) GL;generalize GL.filter (λs=>s.all λx=>decide (GL.getD x.toNat []=s))=ts at hc hmem hfl;let hne:GV ts=true:=by
   erw[GV];rw[An];intro f hf;have:=((hmem f).mp hf).n0;cases f with
   |nil=>simp at this
   |cons a b=>rfl
  let hpm:=Ib (zJ ts);let hil:=Fb ts;calc BA (d:=.tup ((DL (zJ ts)).map tI)) (Fn (dC hc hne ()) C9) ⟨_,rfl,hpm.nodup_iff.mpr (K4 ts),by rw[hpm.length_eq];omega,J5 _,λq=>by rw[hpm.mem_iff,Gp,hmem]⟩
def bX (m:IsM zA l) (h26:zA.length<=26):∃ PP:List (List Int),(∀ M,Ha [mD zA] M=some (.tup (PP.map tI),M))/\PP.Nodup/\PP.length<=26/\PP.Pairwise (λa b=>AZ b a=false) /\ ∀ q,q∈PP ↔ Part zA q:=by
 let⟨d,A,e,PP,rfl,q⟩:=TH m h26 [];refine ⟨PP,λM=>zQ ?_,q⟩;erw[Ha];calc EM (by erw[D.unds,D.unds];rw[EC];rfl) ⟨_,A,e,by erw[D.und];calc Na PP,rfl,rfl⟩
end
def Jt:FS:=(zV (Cb (tst (fOp kGt (zC 1) (fC (.int 0)))) (HR 0 1 (zD (toD (zC 1)) (zD (toD (fOp Bv (zC 0) (zC 1))) zR))) 100)
  (AV (zC 0)))
def IU:FF:=Ct (Aj 2 Jt)
def JE:FS:=(zV (AN 2 (zX Gj (zD (toD (zC 0)) (zD (toD (fOp kIx (zC 1) (fC (.int 0)))) zR))))
  (zV (AN 3 (fC (.int 0)))
  (zV (Bh (Aa (zC 1)) (gN 4) (Bh (Aa (fOp kIx (zC 0) (zC 4))) (gN 5) (AN 3 (zX IU (zD (toD (zC 3)) (zD (toD (fB FC (zI (fOp Fc (fOp Aq (fOp CN (zC 2) (zC 4)) (fC (.int 1))) (fOp CN (zC 2) (zC 5))) za))) zR))))))
  (AV (Fd (zD (toD (zC 1)) (zD (toD (zC 3)) (zD (toD (fB Bc (zI (zu [4] (Aa (zC 1)) (gN 4) zq (fOp Bv (fOp CN (zC 2) (zC 4)) (zC 3))) za))) zR))))))))
def GS:FF:=Ct (Aj 6 JE)
def KN:FS:=(AV (fB Bc (zI (zu [1] (Aa (zX Ha (zD (toD (zC 0)) zR))) (gN 1) zq (zX GS (zD (toD (zC 0)) (zD (toD (zC 1)) zR)))) za)))
def IW:FF:=Ct (Aj 2 KN)
def XZ (a0:0<=a) (b0:0<=b) (b1:b<100):∃ g:Int,(∀ M,IU [.int a,.int b] M=some (.int g,M))/\0<=g /\ ∀ c,c ∣ g ↔ c ∣ a/\c ∣ b:=by
 suffices h:Ok (Aj 2 Jt [.int a,.int b] []) λd _=>∃ g:Int,d=.int g/\0<=g /\ ∀ c,c ∣ g ↔ c ∣ a/\c ∣ b by
  let⟨d,A,e,g,rfl,q⟩:=h;refine ⟨g,λM=>zQ ?_,q⟩;erw[IU];exact EM rfl ⟨_,A,e,rfl,rfl,rfl⟩
 rw[BN];erw[Jt];show OkS (zV _ _ [some (.int a),some (.int b)] []) _;rw[zL];refine Hf (I:=λw Y A=>∃ x y:Int,Y=[some (.int x),some (.int y)]/\0<=x/\0<=y/\(w:Int)=y /\ ∀ c,c ∣ x/\c ∣ y ↔ c ∣ a/\c ∣ b) ?_ 100 b.toNat _ _ () ⟨a,b,rfl,a0,b0,(),λ_=>Iff.rfl⟩;rintro w Y A ⟨x,y,rfl,x0,y0,hw,hc⟩;calc zM (B3 (zH (x:=.dat (.int y)) (y:=.dat (.int 0)) rfl rfl (zQ (WV.mpr ⟨rfl,rfl⟩)))) ?_;by_cases h:0<y
 .rw[AD (~~~h),Uq];let m0:0<=x % y:=Int.emod_nonneg _ ();let m1:=E8 x h;refine zM (zh (d:=.int y) rfl (zi (zH (x:=.dat (.int x)) (y:=.dat (.int y)) rfl rfl (Hv h)))) ⟨_,_,rfl,(x % y).toNat,(),y,x % y,rfl,y0,m0,(),λc=>?_⟩;rw[<-hc];let e:=Int.mul_ediv_add_emod x y;constructor
  .rintro ⟨h1,h2⟩;exact ⟨by rw[<-e];calc Int.dvd_add (Int.dvd_trans h1 (Int.dvd_mul_right _ _)) h2,h1⟩
  .rintro ⟨h1,h2⟩;calc ⟨h2,?_⟩;rw[Int.emod_def];exact Int.dvd_sub h1 (Int.dvd_trans h2 (Int.dvd_mul_right _ _))
 .rw[AE (~~~h),zW];have:y=0:=()
  subst this;calc BA (d:=.int x) rfl ⟨x,rfl,x0,λc=>by rw[<-hc];exact ⟨λh=>⟨h,Int.dvd_zero c⟩,λh=>h.1⟩⟩
def Zk (hf:f Y M=some (.dat (.int i),M)):fB FC (zI f za) Y M=some (.dat (.int (if i<0 then -i else i)),M):=by
 erw[fB,zI,za];rw[hf];rfl
section
variable {zA:Ya} {l:Nat} {r:Int} {ks:Ye} {φ:Int->Int}
def Bf.lt (h:Bf zA r ks φ) (hx:x∈ks):φ x<(ks.length:Int):=by
 let key:∀ x∈ks,∀ n:Nat,(n:Int)<=φ x->(n:Int)∈ks.map φ:=by
  refine h.ind (S:=λx=>∀ n:Nat,(n:Int)<=φ x->(n:Int)∈ks.map φ) (λn hn=>?_) λy hy sy x hx _ e n hn=>?_
  .rw[h.zero]at hn;exact AR.mpr ⟨r,h.self,by rw[h.zero];omega⟩
  .by_cases q:(n:Int)=φ x
   .exact AR.mpr ⟨x,hx,q.symm⟩
   .exact sy n ()
 let p0:=h.pos x hx;let h1:((List.range ((φ x).toNat+1)).map λ(k:Nat)=>(k:Int)).length<=(ks.map φ).length:=by
  refine List.Nodup.length_le_of_subset ?_ λz hz=>?_
  .unfold List.Nodup;rw[EY];exact (List.nodup_range (n:=(φ x).toNat+1)).imp λh e=>h (Int.ofNat.inj e)
  .obtain ⟨k,hk,rfl⟩:=AR.mp hz;have:=CD.mp hk;exact key x hx k ()
 rw[AI,Dv,AI]at h1;omega
def Bf.bm (m:IsM zA l) (hP:Part zA p) (h:Bf zA (p.headD 0) ks φ) (hk:∀ x,x∈ks ↔ x∈p) (b1:1<=B) (hB:∀ c,c ∣ B ↔ ∀ x∈p,∀ g∈gl zA x,c ∣ φ x+1-φ g):Bm zA (p,B,p.map λx=>φ x % B):=by
 refine ⟨hP,⟨λx=>φ x % B,rfl,⟨b1,λx _=>⟨Int.emod_nonneg _ (),E8 _ ()⟩,λx hx g hg=>?_⟩,?_⟩,λb ψ hψ h0=>?_⟩
 .have:=(hB B).mp (Int.dvd_refl B) x hx g hg;rw[Int.emod_add_emod];exact (Int.emod_eq_emod_iff_emod_sub_eq_zero.mpr (Int.emod_eq_zero_of_dvd this)).symm
 .show φ (p.headD 0) % B=0;rw[h.zero];rfl
 .have hb1:=hψ.b1;let st:∀ x∈p,∀ g∈gl zA x,b ∣ ψ x+1-ψ g:=λx hx g hg=>by
   rw[hψ.st x hx g hg];have:=Int.emod_emod_of_dvd (ψ x+1) (Int.dvd_refl b);exact Int.dvd_of_emod_eq_zero (Int.emod_eq_emod_iff_emod_sub_eq_zero.mp this.symm)
  let cg:∀ x∈ks,b ∣ φ x-ψ x:=h.ind (S:=λx=>b ∣ φ x-ψ x) (by rw[h.zero,h0];exact Int.dvd_zero b) λy hy sy x hx hg e=>by
   let h2:=st y ((hk y).mp hy) x hg;have:φ x-ψ x=(φ y-ψ y)+(ψ y+1-ψ x):=()
   rw[this];exact Int.dvd_add sy h2
  refine Int.le_of_dvd (show 0<B by omega) ((hB b).mpr λx hx g hg=>?_);have:φ x+1-φ g=(φ x-ψ x)+(ψ x+1-ψ g)-(φ g-ψ g):=()
  rw[this];calc Int.dvd_sub (Int.dvd_add (cg x ((hk x).mpr hx)) (st x hx g hg)) (cg g ((hk g).mpr (hP.cl x hx g hg)))
def Zo:c ∣ (if i<0 then -i else i) ↔ c ∣ i:=by
 split
 .exact Int.dvd_neg
 .exact Iff.rfl
def Sa (m:IsM zA l) (h26:zA.length<=26) (hP:Part zA p):Ok (Aj 6 JE [mD zA,tI p] []) λd _=>∃ t:Bt,d=btD t/\t.1=p/\Bm zA t:=by
 let hpl:=hP.len;obtain ⟨p0,hp0⟩:∃ x,p[0]?=some x:=⟨_,AL hP.n0⟩;let hd0:p.headD 0=p0:=by
  cases p with
  |nil=>ext hp0
  |cons a r=>exact BQ hp0
 let hp0m:p0∈p:=Bn hp0;let⟨q0,q1⟩:=hP.mem p0 hp0m;rw[BN];erw[JE];show OkS (zV _ _ [some (mD zA),some (tI p),none,none,none,none] []) _;rw[zL,zb];calc F5.mpr (zM (zh (d:=mD zA) rfl (zi (zH (x:=.dat (tI p)) (y:=.dat (.int 0)) rfl rfl (Dj Bg (NA hp0))))) (Ok.mono (KW m h26 q0 q1 []) ?_));rintro d A ⟨ks,φ,rfl,_,ed,hb,hcl⟩;rw[zF,zW];let ed:A[0]?=some (.dict (phK ks φ)):=ed;let hk:∀ x,x∈ks ↔ x∈p:=λx=>⟨hb.snd (S:=(· ∈ p)) (λz _ hz g hg=>hP.cl z hz g hg) hp0m x,hP.con (· ∈ ks) (λz _ hz g hg=>hcl z hz g hg) p0 hp0m hb.self x⟩;let hkl:=hb.len;calc Fh (d:=.int 0) rfl ?_;show OkS (zV _ _ [some (mD zA),some (tI p),some (.ref 0),some (.int 0),none,none] A) _;rw[zL,DQ];calc ⟨_,_,_,CJ rfl,?_⟩;refine GI (gd:=none) (I:=λt Y A'=>∃ (B:Int) (y4 y5:Option D),Y=[some (mD zA),some (tI p),some (.ref 0),some (.int B),y4,y5]/\A'=A/\0<=B /\ ∀ c,c ∣ B ↔ ∀ i,i<t -> ∀ x,p[i]?=some x -> ∀ g∈gl zA x,c ∣ φ x+1-φ g) (λ_ _ _ _=>zn) ?_ ?_ _ _ ⟨0,_,_,rfl,rfl,Int.le_refl _,λc=>⟨λ_ i hi=>absurd hi (Nat.not_lt_zero _),λ_=>Int.dvd_zero c⟩⟩
 .rintro t d Y A' et ⟨B,y4,y5,rfl,rfl,B0,hB⟩;rw[AW]at et;let⟨x,ex,rfl⟩:=Option.map_eq_some_iff.mp et;let hxp:=Bn ex;let⟨x0,x1⟩:=hP.mem x hxp;let hxk:=(hk x).mpr hxp;refine ⟨_,rfl,?_⟩;show OkS (Bh _ _ _ [some (mD zA),some (tI p),some (.ref 0),some (.int B),some (.int x),y5] A') _;rw[DQ];refine ⟨_,_,_,CJ (Ji m x0 x1 rfl rfl),?_⟩;refine GI (gd:=none) (I:=λs Y A2=>∃ (B:Int) (y5:Option D),Y=[some (mD zA),some (tI p),some (.ref 0),some (.int B),some (.int x),y5]/\A2=A'/\0<=B /\ ∀ c,c ∣ B ↔ (∀ i,i<t -> ∀ x,p[i]?=some x -> ∀ g∈gl zA x,c ∣ φ x+1-φ g) /\ ∀ i,i<s -> ∀ g,(gl zA x)[i]?=some g->c ∣ φ x+1-φ g) (λ_ _ _ _=>zn) ?_ ?_ _ _ ⟨B,_,rfl,rfl,B0,λc=>(hB c).trans ⟨λh=>⟨h,λi hi=>absurd hi (Nat.not_lt_zero _)⟩,λh=>h.1⟩⟩
  .rintro s d Y A2 et ⟨B,y5,rfl,rfl,B0,hB⟩;rw[AW]at et;let⟨g,eg,rfl⟩:=Option.map_eq_some_iff.mp et;let hgm:g∈gl zA x:=Bn eg;let hgk:=(hk g).mpr (hP.cl x hxp g hgm);refine ⟨_,rfl,?_⟩;show OkS (AN _ _ [some (mD zA),some (tI p),some (.ref 0),some (.int B),some (.int x),some (.int g)] A2) _;let bx:=hb.lt hxk;let bg:=hb.lt hgk;let px:=hb.pos x hxk;let pg:=hb.pos g hgk;let⟨G,eG,G0,hG⟩:=XZ (a:=B) (b:=if φ x+1-φ g<0 then -(φ x+1-φ g) else φ x+1-φ g) B0 (by split <;> omega) (by split <;> omega);rw[zb];refine zM (ze (zh (d:=.int B) rfl (zi (Zk (zH (zH (zH (x:=.dat (.ref 0)) (y:=.dat (.int x)) rfl rfl (Ga (.inl ed) hxk)) rfl Du) (zH (x:=.dat (.ref 0)) (y:=.dat (.int g)) rfl rfl (Ga (.inl ed) hgk)) IG)))) (eG A2)) (zF.mpr ⟨G,_,rfl,rfl,G0,λc=>?_⟩);rw[hG,Zo,hB];constructor
   .rintro ⟨⟨h1,h2⟩,h3⟩;refine ⟨h1,λi hi g' eg'=>?_⟩;by_cases e:i=s
    .subst e;rw[eg]at eg';ext eg';exact h3
    .exact h2 i () g' eg'
   .rintro ⟨h1,h2⟩;exact ⟨⟨h1,λi hi=>h2 i ()⟩,h2 s () g eg⟩
  .rintro Y A2 ⟨B,y5,rfl,rfl,B0,hB⟩;refine ⟨B,_,_,rfl,rfl,B0,λc=>(hB c).trans ?_⟩;constructor
   .rintro ⟨h1,h2⟩ i hi y ey g hg;by_cases e:i=t
    .subst e;rw[ex]at ey;ext ey;let⟨j,hj,ej⟩:=List.mem_iff_getElem.mp hg;exact h2 j (by rw[AI];calc hj) g (by rw[AL hj,ej])
    .exact h1 i () y ey g hg
   .exact λh=>⟨λi hi=>h i (),λi hi g eg=>h t () x ex g (Bn eg)⟩
 .rintro Y A' ⟨B,y4,y5,rfl,rfl,B0,hB⟩;let hB':∀ c,c ∣ B ↔ ∀ x∈p,∀ g∈gl zA x,c ∣ φ x+1-φ g:=λc=>(hB c).trans ⟨λh x hx=>by
   let⟨i,hi,ei⟩:=List.mem_iff_getElem.mp hx;exact h i (by rw[AI];calc hi) x (by rw[AL hi,ei]),λh i _ x ex=>h x (Bn ex)⟩
  let b1:1<=B:=by
   refine Int.not_lt.mp λhlt=>?_;have:B=0:=()
   subst this;let nx:∀ n:Nat,∃ x∈p,(n:Int)<=φ x:=by
    intro n;induction n with
    |zero=>calc ⟨p0,hp0m,hb.pos p0 hb.self⟩
    |succ n ih=>
     let⟨x,hx,e⟩:=ih;let hl:=(Eg m (hP.mem x hx).1 (hP.mem x hx).2).1;let⟨g,hg⟩:=List.exists_mem_of_ne_nil (gl zA x) λe=>by rw[e,Bw]at hl;have:=m.l0;omega
     have:=Int.zero_dvd.mp ((hB' 0).mp (Int.dvd_refl 0) x hx g hg);exact ⟨g,hP.cl x hx g hg,()⟩
   let⟨x,hx,e⟩:=nx 30;have:=hb.lt ((hk x).mpr hx);omega
  rw[zW];refine BA (d:=btD (p,B,p.map λx=>φ x % B)) (Me (zh (d:=tI p) rfl (zh (d:=.int B) rfl (zi (d:=tI (p.map λx=>φ x % B)) ?_))) (by simp)) ⟨_,rfl,rfl,(hd0▸hb:Bf zA (p.headD 0) ks φ).bm m hP hk b1 hB'⟩;refine (Fn (EI (gd:=none) p D.int (λx=> .int (φ x % B)) (CJ rfl) trivial () λx hx=>⟨_,rfl,zH (x:=.dat (.int (φ x))) (y:=.dat (.int B)) (zH (x:=.dat (.ref 0)) (y:=.dat (.int x)) rfl rfl (Ga (.inl ed) ((hk x).mpr hx))) rfl (Hv ())⟩) C9).trans ?_;erw[tI];rw[Be];rfl
def Sf (m:IsM zA l) (h26:zA.length<=26) (hP:Part zA p):∃ t:Bt,(∀ M,GS [mD zA,tI p] M=some (btD t,M))/\t.1=p/\Bm zA t:=by
 let⟨d,A,e,t,rfl,q⟩:=Sa m h26 hP;refine ⟨t,λM=>zQ ?_,q⟩;erw[GS];calc EM (by erw[D.unds,D.unds,D.unds];rw[EC,show D.und 0 (tI p)=true from CY _];rfl) ⟨_,A,e,MU t,rfl,rfl⟩
def Xw (m:IsM zA l) (h26:zA.length<=26):∃ T:List Bt,(∀ M,IW [mD zA] M=some (.tup (T.map btD),M))/\T.length<=26/\Tok zA T:=by
 let⟨PP,eP,hnd,hPl,hpw,hP⟩:=bX m h26;let hc:∀ p:List Int,∃ t:Bt,p∈PP->(∀ M,GS [mD zA,tI p] M=some (btD t,M))/\t.1=p/\Bm zA t:=λp=>by
  by_cases h:p∈PP
  .obtain ⟨t,q⟩:=Sf m h26 ((hP p).mp h);exact ⟨t,λ_=>q⟩
  .exact ⟨([],0,[]),λz=>absurd z h⟩
 let⟨τ,hτ⟩:=Classical.axiomOfChoice hc;let e1:(PP.map τ).map (·.1)=PP:=by
  rw[Be];exact (List.map_congr_left λp hp=>(hτ p hp).2.1).trans (List.map_id _)
 refine ⟨PP.map τ,λM=>zQ ?_,by rw[AI];calc hPl,by rw[e1];calc hpw,by rw[e1];exact hnd,λq=>by rw[e1];exact hP q,λt ht=>?_⟩
 .unfold IW;calc EM (by erw[D.unds,D.unds];rw[EC];rfl) ?_;rw[BN];erw[KN];show OkS (AV _ [some (mD zA),none] []) _;refine BA (d:=.tup ((PP.map τ).map btD)) ((Fn (EI (gd:=none) PP tI (λp=>btD (τ p)) (CJ (ze (zi (d:=mD zA) rfl) (eP []))) trivial () λp hp=>⟨_,rfl,ze (zh (d:=mD zA) rfl (zi (d:=tI p) rfl)) ((hτ p hp).1 [])⟩) C9).trans ?_) ⟨by erw[D.und];calc W7 _,rfl,rfl⟩;rw[Be];rfl
 .obtain ⟨p,hp,rfl⟩:=AR.mp ht;calc (hτ p hp).2.2
end
def Kz:FS:=(AV (fB D0 (zI (D5 [4,3] [3] (Gs (zC 1)) (gN 4) zq (Aa (fOp kIx (zC 0) (zC 4))) (gN 3) zq (Cv (fOp (DG false) (zC 3) (zC 1)) (fOp kEq (fOp CN (zC 1) (zC 3)) (fOp Bv (fOp Aq (fOp CN (zC 1) (zC 4)) (fC (.int 1))) (zC 2))))) za)))
def HU:FF:=Aj 5 Kz
def KS:FS:=(zV (sIf (CU (DD (tst (D9 "tuple" (zC 1)))) (tst (fOp kNe (fB Al (zI (zC 1) za)) (fC (.int 3))))) (AV (fC (.bl false))) CS)
  (zV (Gr (DR 2 3 4) (zC 1))
  (zV (sIf (CU (DD (tst (zX Fy (zD (toD (zC 0)) (zD (toD (zC 2)) zR))))) (CU (DD (tst (zX G2 (zD (toD (zC 3)) zR)))) (DD (tst (zX Gm (zD (toD (zC 4)) (zD (toD (zC 3)) zR))))))) (AV (fC (.bl false))) CS)
  (zV (sIf (CU (tst (fOp kNe (fB Al (zI (zC 4) za)) (fB Al (zI (zC 2) za)))) (tst (fOp kNe (GB (FJ (zC 4))) (zC 3)))) (AV (fC (.bl false))) CS)
  (AV (zX HU (zD (toD (zC 0)) (zD (toD (GR false (zD (toD (zC 2)) (zD (toD (zC 4)) zR)))) (zD (toD (zC 3)) zR)))))))))
def Fj:FF:=Ec (Aj 5 KS)
def Lv:FS:=(zV (sIf (CU (DD (tst (D9 "tuple" (zC 1)))) (DD (tst (fB D0 (zI (zu [2] (Aa (zC 1)) (gN 2) zq (zX Fj (zD (toD (zC 0)) (zD (toD (zC 2)) zR)))) za))))) (AV (fC (.bl false))) CS)
  (zV (AN 3 (D5 [5,6,7,4] [4] (Aa (zC 1)) (DR 5 6 7) zq (Aa (zC 5)) (gN 4) zq (zC 4)))
  (AV (fOp kEq (GB (FJ (zC 3))) (fB Al (zI (zC 3) za))))))
def Fm:FF:=Ec (Aj 8 Lv)
def C3 (p:Prop):Bool:=@decide p (Classical.propDecidable p)
def MT (h:p):C3 p=true:=by erw[C3];calc @BG p (Classical.propDecidable p) h
def D8 (h:¬ p):C3 p=false:=by erw[C3];calc @BB p (Classical.propDecidable p) h
def MF:C3 p=true ↔ p:=⟨λh=>qz λn=>(by rw[D8 n]at h;ext h),MT⟩
def Br (zA:Ya) (d:D):Prop:=∃ p b φ,d=.tup [tI p,.int b,tI (p.map φ)]/\IsS zA p/\(∀ x∈p,0<=φ x/\φ x<b)/\((zJ (p.map φ)).length:Int)=b /\ ∀ x∈p,∀ g∈gl zA x,g∈p/\φ g=(φ x+1) % b
def Ou {p:Ye} (h:p.Pairwise (· < ·)):p.Nodup:=h.imp λz=>Int.ne_of_lt z
def Xv {p f:Ye} (nd:p.Nodup) (hl:f.length=p.length):f=p.map λx=>f.getD (p.idxOf x) 0:=by
 refine List.ext_getElem (by rw[AI,hl]) λi h1 h2=>?_;let hi:i<p.length:=()
 have:=Oc nd hi;rw[Ai,AL hi]at this;rw[List.getElem_map,show p.idxOf p[i]=i from this,Ai,AL h1];rfl
theorem NX:∀ (rest done:Ye) (A:Mem),A[n]?=some (.dict (phK done φ))->(done++rest).Nodup->(done++rest).length<=1000->G8 n ((rest.map D.int).zip ((rest.map φ).map D.int)) A=some (A.set n (.dict (phK (done++rest) φ)))
 |[],done,A,e,_,_=>by
  rw[CV];show some A=_;rw[Jh e]
 |x::rest,done,A,e,nd,hz=>by
  let hx:x∉done:=λh=>by
   have:=(EZ.mp nd).2.2 x h x AM;exact this rfl
  let hz':done.length+(rest.length+1)<=1000:=by simpa using hz
  rw[Ab,Ab,Ab,List.zip_cons_cons];erw[G8];rw[Nl e hx ()];dsimp only;let e2:phK (done++[x]) (λy=>if y=x then φ x else φ y)=phK (done++[x]) φ:=Oe λy _=>by
   by_cases q:y=x
   .subst q;exact AD rfl
   .exact AE q
  rw[e2];let hn:=(AY.mp e).1;rw[NX rest (done++[x]) (A.set n (.dict (phK (done++[x]) φ))) (DE hn) (by rw[Dm];calc nd) (by rw[Dm];calc hz),List.set_set,Dm];rfl
section
variable {zA:Ya} {l:Nat}
def Wf (m:IsM zA l) (h26:zA.length<=26) (hl:l<=6) (hp:∀ x∈p,0<=x/\x<(zA.length:Int)) (hpl:p.length<=26) (b1:1<=b) (e:A[n]?=some (.dict (phK p φ))):HU [mD zA,.ref n,.int b] A=some (.bl (decide (∀ x∈p,∀ g∈gl zA x,g∈p/\φ g=(φ x+1) % b)),A.set n (.froK (phK p φ))):=by
 let hn:=(AY.mp e).1;let ef:(A.set n (.froK (phK p φ)))[n]?=some (.froK (phK p φ)):=DE hn;refine zQ ?_;erw[HU];rw[BN];erw[Kz];show OkS (AV _ [some (mD zA),some (.ref n),some (.int b),none,none] A) _;let hc:D5 [4,3] [3] (Gs (zC 1)) (gN 4) zq (Aa (fOp kIx (zC 0) (zC 4))) (gN 3) zq (Cv (fOp (DG false) (zC 3) (zC 1)) (fOp kEq (fOp CN (zC 1) (zC 3)) (fOp Bv (fOp Aq (fOp CN (zC 1) (zC 4)) (fC (.int 1))) (zC 2)))) [some (mD zA),some (.ref n),some (.int b),none,none] A=some (.fl (p.flatMap λx=>((gl zA x).filter λ_=>true).map λg=>D.bl (decide (g∈p)&&decide (g∈p->φ g=(φ x+1) % b))),A.set n (.froK (phK p φ))):=by
  let key:=Q4 (own:=[4,3]) (own2:=[3]) (fi:=λ_ _=>some (p.map D.int,none,A.set n (.froK (phK p φ)))) (fi2:=Aa (fOp kIx (zC 0) (zC 4))) (fg:=gN 4) (fg2:=gN 3) (tc2:=zq) (te:=Cv (fOp (DG false) (zC 3) (zC 1)) (fOp kEq (fOp CN (zC 1) (zC 3)) (fOp Bv (fOp Aq (fOp CN (zC 1) (zC 4)) (fC (.int 1))) (zC 2)))) (Y:=[some (mD zA),some (.ref n),some (.int b),none,none]) (M:=A.set n (.froK (phK p φ))) p D.int (λx=>gl zA x) D.int (λ_ _=>true) (λx g=>D.bl (decide (g∈p)&&decide (g∈p->φ g=(φ x+1) % b))) 6 rfl (λx hx=>by rw[(Eg m (hp x hx).1 (hp x hx).2).1];calc hl) () λx hx=>⟨_,rfl,CJ (Ji m (hp x hx).1 (hp x hx).2 rfl rfl),λg hg=>⟨_,rfl,rfl,λ_=>?_⟩⟩
  .unfold D5 at key ⊢;let hi:Gs (zC 1) [some (mD zA),some (.ref n),some (.int b),none,none] A=some (p.map D.int,none,A.set n (.froK (phK p φ))):=by
    erw[Gs];rw[show zC 1 [some (mD zA),some (.ref n),some (.int b),none,none] A=some (.dat (.ref n),A)from rfl];dsimp only;rw[e];dsimp only;erw[phK];rw[Be];rfl
   rw[hi];exact key
  .by_cases hgp:g∈p
   .refine (Gw (zH (x:=.dat (.int g)) rfl rfl (Kf (.inr ef))) λ_=>zH (zH rfl rfl (Ga (.inr ef) hgp)) (zH (zH (zH rfl rfl (Ga (.inr ef) hx)) rfl Du) rfl (Hv ())) eqE).trans ?_;rw[show decide (g∈p->φ g=(φ x+1) % b)=decide (φ g=(φ x+1) % b)from by simp[hgp]];rfl
   .refine (Gw (zH rfl rfl (Kf (.inr ef))) λh=>?_);exact absurd (C2 h) hgp
 rw[EJ];refine zM (M:=A.set n (.froK (phK p φ))) ?_ (zF.mpr ⟨rfl,rfl⟩);erw[fB,zI,za];rw[hc];show D0 [.fl _] _=_;let hb:(p.flatMap λx=>((gl zA x).filter λ_=>true).map λg=>D.bl (decide (g∈p)&&decide (g∈p->φ g=(φ x+1) % b)))=(p.flatMap λx=>(gl zA x).map λg=>(decide (g∈p)&&decide (g∈p->φ g=(φ x+1) % b))).map D.bl:=by
  rw[List.map_flatMap];congr 1;funext x;rw[List.filter_eq_self.mpr (λ_ _=>rfl),Be];rfl
 let ha:=G5 (f:=λ_ M=>some (.fl ((p.flatMap λx=>(gl zA x).map λg=>(decide (g∈p)&&decide (g∈p->φ g=(φ x+1) % b))).map D.bl),M)) (Y:=[]) (M:=A.set n (.froK (phK p φ))) rfl;rw[hb];suffices hX:((p.flatMap λx=>(gl zA x).map λg=>(decide (g∈p)&&decide (g∈p->φ g=(φ x+1) % b))).all id)=decide (∀ x∈p,∀ g∈gl zA x,g∈p/\φ g=(φ x+1) % b) by rw[hX]at ha;exact ha
 rw[C1,An,decide_eq_true_iff];simp only[List.mem_flatMap,AR,id];constructor
 .intro h x hx g hg;have:=h _ ⟨x,hx,g,hg,rfl⟩;simp only[Ay,D2]at this;exact ⟨this.1,this.2 this.1⟩
 .rintro h k ⟨x,hx,g,hg,rfl⟩;let⟨q1,q2⟩:=h x hx g hg;simp[q1,q2]
end
def Vo (hg:g Y M=some ([tI p,tI (p.map φ)],M)) (nd:p.Nodup) (hz:p.length<=1000):toD (GR false g) Y M=some (.ref M.length,M++[.dict (phK p φ)]):=by
 let e:=NX (φ:=φ) p [] (M++[LL false]) (DJ _ _) nd hz;suffices h:GR false g Y M=some (.dat (.ref M.length),M++[.dict (phK p φ)]) by erw[toD];rw[h]
 erw[GR];rw[hg];dsimp only;rw[show zr M (.dat (tI p))=some (p.map D.int)from Bg,show zr M (.dat (tI (p.map φ)))=some ((p.map φ).map D.int)from Bg];dsimp only;rw[e];rw[List.set_append_right _ _ (AF _),Nat.sub_self];rfl
def neI:kNe (.dat (.int i)) (.dat (.int j)) M=some (.dat (.bl (decide (i≠j))),M):=zQ (Nr.mpr ⟨rfl,rfl⟩)
def OJ (h:f Y M=some (ks,M)):GB f Y M=some (.dat (.int ks.length),M):=by erw[GB];rw[h]
def OM:∀ (R:Ye),(zJ R).length=R.length ↔ R.Nodup:=by
 let key:∀ (k:Nat) (R:Ye),R.length=k->((zJ R).length=R.length ↔ R.Nodup):=by
  intro k;induction k with
  |zero=>intro R h;rw[E5.mp h];simp[zJ]
  |succ k ih=>
   intro R h;obtain ⟨S,x,rfl⟩:∃ S x,R=S++[x]:=⟨R.dropLast,R.getLast (by intro e;rw[e]at h;ext h),(List.dropLast_concat_getLast _).symm⟩;rw[Aw]at h;let ih:=ih S (by simp at h;omega);let l1:=Fb S;rw[HM,Aw,EZ];erw[ST.ins];by_cases hx:x∈zJ S
   .rw[AD hx];let hx':=(Gp S x).mp hx;constructor
    .intro h2;simp at h2;omega
    .intro h2;exact absurd rfl (h2.2.2 x hx' x (by simp))
   .rw[AE hx,Aw];let hx':x∉S:=λz=>hx ((Gp S x).mpr z);constructor
    .intro h2;refine ⟨ih.mp (by simp at h2;omega),by simp,λa ha b hb e=>hx' ?_⟩;rw[BD.mp hb]at e;rw[<-e];exact ha
    .intro h2;rw[ih.mpr h2.1]
 calc λR=>key _ R rfl
section
variable {zA:Ya} {l:Nat}
def Ov (h:IsS zA S) (h26:zA.length<=26):S.length<=26:=by
 have:=HW (a:=0) (n:=zA.length) h.pw λx hx=>by have:=h.mem x hx;omega
 omega
def Hl (h:D.tup [tI p,.int b,tI f]=D.tup [tI p',.int b',tI f']):p=p'/\b=b'/\f=f':=by
 injection h with h
 injection h with h1 h
 injection h with h2 h
 injection h with h3 h
 calc ⟨LN h1,D.int.inj h2,LN h3⟩
def XS (m:IsM zA l) (h26:zA.length<=26) (hl:l<=6) (wf:∀ (j:Nat) u,M[j]?=some u->MO.und M.length u=true) (hd:Vd M d):Fj [mD zA,d] M=some (.bl (C3 (Br zA d)),M):=by
 suffices h:Ok (Fj [mD zA,d] M) (λr A=>A=M/\r=.bl (C3 (Br zA d))) by
  let⟨r,A,e,rfl,rfl⟩:=h;exact e
 erw[Fj];calc P4 wf ?_;rw[BN];erw[KS];let⟨t,ht,htt,_⟩:=hd.ty;cases hT:LW d with
 |false=>
  have:¬ Br zA d:=by rintro ⟨p,b,φ,rfl,_⟩;ext hT
  calc C6 (Gh (BS (isV rfl ht (htt.trans hT)))) (BA rfl ⟨rfl,.refl M,by rw[D8 this]⟩)
 |true=>
  obtain ⟨ds,rfl⟩:∃ ds,d=.tup ds:=by cases d <;> first|exact ⟨_,rfl⟩|ext hT
  let hv:∀ x∈ds,Vd M x:=by
   have:=hd;erw[Vd]at this;exact this.2.mem
  by_cases h3:ds.length=3
  .obtain ⟨a,b,c,rfl⟩:∃ a b c,ds=[a,b,c]:=by
    match ds,h3 with
    |[a,b,c],_=>exact ⟨a,b,c,rfl⟩
   calc F3 (B4 (BS (isV rfl ht (htt.trans hT))) ((B3 (zH (F9 rfl Bg) rfl neI)).trans (by simp))) ?_;rw[zL,Pt];calc zm.mpr ⟨_,rfl,zF.mpr ⟨_,rfl,?_⟩⟩;rw[zW];let va:=hv a (by simp);let vb:=hv b (by simp);let vc:=hv c (by simp);let⟨ks,es,hs⟩:=TK va;cases ks with
   |false=>
    have:¬ Br zA (.tup [a,b,c]):=by
     rintro ⟨p,b',φ,e,hS,_⟩;injection e with e
     injection e with e1 e
     have:=hs.mpr ⟨p,e1,hS⟩;ext this
    calc C6 (Gh (BS (ze (zh rfl (zi rfl)) es))) (BA rfl ⟨rfl,.refl M,by rw[D8 this]⟩)
   |true=>
    let⟨p,rfl,hS⟩:=hs.mp rfl;let hpl:=Ov hS h26;cases hw:Iu b with
    |false=>
     have:¬ Br zA (.tup [tI p,b,c]):=by
      rintro ⟨p',b',φ,e,_⟩;injection e with e
      injection e with e1 e
      injection e with e2 e
      rw[e2]at hw;ext hw
     let ew:=KI vb;rw[hw]at ew;calc C6 (B4 (BS (ze (zh rfl (zi rfl)) es)) (Gh (BS (ze (zi rfl) ew)))) (BA rfl ⟨rfl,.refl M,by rw[D8 this]⟩)
    |true=>
     obtain ⟨β,rfl⟩:∃ β,b=.int β:=by cases b <;> first|exact ⟨_,rfl⟩|ext hw
     let ew:=KI vb;rw[hw]at ew;let et:=OS (n:=β) vc;cases htb:tbD β c with
     |false=>
      have:¬ Br zA (.tup [tI p,.int β,c]):=by
       rintro ⟨p',b',φ,e,_,hr,_⟩;injection e with e
       injection e with e1 e
       injection e with e2 e
       injection e with e3 e
       let e2:=D.int.inj e2;rw[e3,e2,MV λx hx=>by let⟨y,hy,rfl⟩:=AR.mp hx;calc hr y hy]at htb;ext htb
      rw[htb]at et;calc C6 (B4 (BS (ze (zh (d:=mD zA) rfl (zi (d:=tI p) rfl)) es)) (B4 (BS (ze (zi rfl) ew)) (BS (ze (zh rfl (zi rfl)) et)))) (BA rfl ⟨rfl,.refl M,by rw[D8 this]⟩)
     |true=>
      rw[htb]at et;let⟨f,rfl,hf⟩:=QK.mp htb;calc F3 (B4 (BS (ze (zh rfl (zi rfl)) es)) (B4 (BS (ze (zi rfl) ew)) (BS (ze (zh rfl (zi rfl)) et)))) ?_;let c1:tst (fOp kNe (fB Al (zI (zC 4) za)) (fB Al (zI (zC 2) za))) [some (mD zA),some (.tup [tI p,.int β,tI f]),some (tI p),some (.int β),some (tI f)] M=some (decide ((f.length:Int)≠(p.length:Int)),M):=B3 (zH (EX rfl) (EX rfl) neI);by_cases hlen:f.length=p.length
      .rw[BB (by simp[hlen])]at c1;let c2:tst (fOp kNe (GB (FJ (zC 4))) (zC 3)) [some (mD zA),some (.tup [tI p,.int β,tI f]),some (tI p),some (.int β),some (tI f)] M=some (decide (((zJ f).length:Int)≠β),M):=B3 (zH (OJ (OD rfl Bg ())) (y:=.dat (.int β)) rfl neI);by_cases hset:((zJ f).length:Int)=β
       .rw[BB (by simp[hset])]at c2;refine F3 (B4 c1 c2) ?_;let nd:=Ou hS.pw;obtain ⟨φ,hφ⟩:∃ φ:Int->Int,f=p.map φ:=⟨_,Xv nd hlen⟩;subst hφ;let hr:∀ x∈p,0<=φ x/\φ x<β:=λx hx=>hf _ (AR.mpr ⟨x,hx,rfl⟩);let b1:1<=β:=by
         let⟨x,hx⟩:=List.exists_mem_of_length_pos hS.n0;have:=hr x hx;omega
        let er:=Wf m h26 hl (φ:=φ) hS.mem hpl b1 (A:=M++[.dict (phK p φ)]) (DJ _ _);rw[EJ];calc zM (bK (aC' (aQ rfl) (aC' (Vo (zh rfl (zi rfl)) nd ()) (zi rfl))) er) (zF.mpr ⟨rfl,((Ex.refl M).app _).set (AF _) _,?_⟩);congr 1;rw[C1,decide_eq_true_iff,MF];constructor
        .intro h;exact ⟨p,β,φ,rfl,hS,hr,hset,h⟩
        .rintro ⟨p',b',φ',e,_,_,_,h⟩;let⟨rfl,rfl,e3⟩:=Hl e;let ex:∀ x∈p,φ x=φ' x:=List.map_inj_left.mp e3;intro x hx g hg;let⟨q1,q2⟩:=h x hx g hg;exact ⟨q1,by rw[ex g q1,ex x hx];calc q2⟩
       .have:¬ Br zA (.tup [tI p,.int β,tI f]):=by
         rintro ⟨p',b',φ',e,_,_,h,_⟩;let⟨rfl,rfl,e3⟩:=Hl e;rw[e3]at hset;exact hset h
        rw[BG (by simp[hset])]at c2;exact C6 (B4 c1 c2) (BA rfl ⟨rfl,.refl M,by rw[D8 this]⟩)
      .have:¬ Br zA (.tup [tI p,.int β,tI f]):=by
        rintro ⟨p',b',φ',e,_⟩;let⟨rfl,rfl,e3⟩:=Hl e;rw[e3,AI]at hlen;exact hlen rfl
       rw[BG ()]at c1;exact C6 (Gh c1) (BA rfl ⟨rfl,.refl M,by rw[D8 this]⟩)
  .have:¬ Br zA (.tup ds):=by
    rintro ⟨p,b,φ,e,_⟩;injection e with e
    rw[e]at h3;exact h3 rfl
   calc C6 (B4 (BS (isV rfl ht (htt.trans hT))) ((B3 (zH (F9 rfl Bg) rfl neI)).trans (by rw[BG ()]))) (BA rfl ⟨rfl,.refl M,by rw[D8 this]⟩)
def Shw (zA:Ya) (d:D):Prop:=∃ T:List Bt,d=.tup (T.map btD)/\(∀ t∈T,Br zA (btD t))/\(T.flatMap (·.1)).Nodup
def Tv (h:∀ d∈ds,Br zA d):∃ T:List Bt,ds=T.map btD:=by
 induction ds with
 |nil=>calc ⟨[],rfl⟩
 |cons d ds ih=>
  let⟨T,e⟩:=ih λx hx=>h x (AQ _ hx);let⟨p,b,φ,rfl,_⟩:=h d AM;calc ⟨(p,b,p.map φ)::T,by rw[e];rfl⟩
def aM (h:btD s=btD t):s=t:=by
 let⟨a,b,c⟩:=s;let⟨a',b',c'⟩:=t;let⟨rfl,rfl,rfl⟩:=Hl h;rfl
def aZ (m:IsM zA l) (h26:zA.length<=26) (hl:l<=6) (wf:∀ (j:Nat) u,M[j]?=some u->MO.und M.length u=true) (hd:Vd M d) (hz:Zm d<=100):Fm [mD zA,d] M=some (.bl (C3 (Shw zA d)),M):=by
 suffices h:Ok (Fm [mD zA,d] M) (λr A=>A=M/\r=.bl (C3 (Shw zA d))) by
  let⟨r,A,e,rfl,rfl⟩:=h;exact e
 erw[Fm];calc P4 wf ?_;rw[BN];erw[Lv];let⟨t,ht,htt,_⟩:=hd.ty;cases hT:LW d with
 |false=>
  have:¬ Shw zA d:=by rintro ⟨T,rfl,_⟩;ext hT
  calc C6 (Gh (BS (isV rfl ht (htt.trans hT)))) (BA rfl ⟨rfl,.refl M,by rw[D8 this]⟩)
 |true=>
  obtain ⟨ds,rfl⟩:∃ ds,d=.tup ds:=by cases d <;> first|exact ⟨_,rfl⟩|ext hT
  let hz:ds.length<=100:=hz;let hv:∀ x∈ds,Vd M x:=by
   have:=hd;erw[Vd]at this;exact this.2.mem
  let hall:=G5 (bs:=ds.map λx=>C3 (Br zA x)) ((EI (own:=[2]) (fi:=Aa (zC 1)) (g:=gN 2) (te:=zX Fj (zD (toD (zC 0)) (zD (toD (zC 2)) zR))) (Y:=[some (mD zA),some (.tup ds),none,none,none,none,none,none]) (M:=M) ds id (λx=> .bl (C3 (Br zA x))) (gd:=none) (by rw[List.map_id];calc CJ rfl) trivial () λx hx=>⟨_,rfl,ze (zh (d:=mD zA) rfl (zi (d:=x) rfl)) (XS m h26 hl wf (hv x hx))⟩).trans (by rw[Be];rfl));rw[JK]at hall;cases hA:ds.all λx=>C3 (Br zA x) with
  |false=>
   rw[hA]at hall;have:¬ Shw zA (.tup ds):=by
    rintro ⟨T,e,hT,_⟩;injection e with e
    rw[e,An.mpr λx hx=>by let⟨t,ht,rfl⟩:=AR.mp hx;calc MT (hT t ht)]at hA;ext hA
   calc C6 (B4 (BS (isV rfl ht (htt.trans hT))) (BS hall)) (BA (d:=.bl false) rfl ⟨rfl,.refl M,by rw[D8 this]⟩)
  |true=>
   rw[hA]at hall;let hB:∀ x∈ds,Br zA x:=λx hx=>MF.mp (An.mp hA x hx);let⟨T,rfl⟩:=Tv hB;let hTB:∀ t∈T,Br zA (btD t):=λt ht=>hB _ (AR.mpr ⟨t,ht,rfl⟩);let hT26:∀ t∈T,t.1.length<=26:=λt ht=>by
    let⟨p,b,φ,e,hS,_⟩:=hTB t ht;let⟨e1,_⟩:=Hl e;rw[e1];exact Ov hS h26
   rw[AI]at hz;refine F3 (B4 (BS (isV rfl ht (htt.trans hT))) (BS hall)) ?_;rw[zL,zb];let hc:=Q4 (own:=[5,6,7,4]) (own2:=[4]) (fi:=Aa (zC 1)) (fi2:=Aa (zC 5)) (fg:=DR 5 6 7) (fg2:=gN 4) (tc2:=zq) (te:=zC 4) (Y:=[some (mD zA),some (.tup (T.map btD)),none,none,none,none,none,none]) (M:=M) T btD (λt=>t.1) D.int (λ_ _=>true) (λ_ x=> .int x) 26 (CJ rfl) hT26 () λt ht=>⟨_,rfl,CJ rfl,λx hx=>⟨_,rfl,rfl,λ_=>rfl⟩⟩;let hR:(T.flatMap λt=>((t.1).filter λ_=>true).map λx=>D.int x)=(T.flatMap (·.1)).map D.int:=by
    rw[List.map_flatMap];congr 1;funext t;rw[List.filter_eq_self.mpr (λ_ _=>rfl)]
   rw[hR]at hc;refine zM hc (Ea ?_);rw[zW];let hRl:(T.flatMap (·.1)).length<=2600:=by
    have:∀ T:List Bt,(∀ t∈T,t.1.length<=26)->(T.flatMap (·.1)).length<=T.length*26:=by
     intro T;induction T with
     |nil=>intro _;calc AF _
     |cons t T ih=>
      intro h;let h1:=h t AM;let h2:=ih λs hs=>h s (AQ _ hs);rw[List.flatMap_cons,Aw,Ci];omega
    have:=this T hT26;omega
   generalize hRR:T.flatMap (·.1)=R at hRl;let e3:(M++[MO.lst (R.map D.int)])[M.length]?=some (.lst (R.map D.int)):=DJ _ _;let el:=F9 (f:=zC 3) (Y:=[some (mD zA),some (.tup (T.map btD)),none,some (.ref M.length),none,none,none,none]) (M:=M++[MO.lst (R.map D.int)]) (x:=.dat (.ref M.length)) rfl (B8 e3);rw[AI]at el;calc BA (zH (OJ (OD (x:=.dat (.ref M.length)) rfl (B8 e3) ())) el eqE) ⟨rfl,(Ex.refl M).app _,?_⟩;congr 1;rw[C1,decide_eq_true_iff,MF];constructor
   .intro h;exact ⟨T,rfl,hTB,by rw[hRR];calc (OM R).mp (Int.ofNat.inj h)⟩
   .rintro ⟨T',e,_,h⟩;have:T=T':=(List.map_inj_right λa b e=>aM e).mp (D.tup.inj e);subst this;rw[hRR]at h;rw[(OM R).mpr h]
end
def Xd (c0:0<=c) (h:∀ z,z∈YY ↔ 0<=z/\z<c):((zJ YY).length:Int)=c:=by
 let p:(zJ YY).Perm ((List.range c.toNat).map λ(k:Nat)=>(k:Int)):=(List.perm_ext_iff_of_nodup (K4 YY) (by erw[List.Nodup];rw[EY];exact (List.nodup_range).imp λh e=>h (Int.ofNat.inj e))).mpr λz=>by
  rw[Gp,h,AR];constructor
  .intro hz;exact ⟨z.toNat,CD.mpr (),()⟩
  .rintro ⟨k,hk,rfl⟩;have:=CD.mp hk;omega
 rw[p.length_eq,AI,Dv];omega
section
variable {zA:Ya} {l:Nat}
def Part.set (h:Part zA p):IsS zA p:=⟨h.pw,h.n0,h.mem⟩
def Phs.cnt (m:IsM zA l) (hP:Part zA p) (h:Phs zA p b φ):((zJ (p.map φ)).length:Int)=b:=by
 let b1:=h.b1;refine Xd () λz=>⟨λhz=>?_,λhz=>?_⟩
 .obtain ⟨x,hx,rfl⟩:=AR.mp hz;exact h.rg x hx
 .obtain ⟨x,hx,e⟩:=h.all hP (λx hx e=>by
   let h1:=(Eg m (hP.mem x hx).1 (hP.mem x hx).2).1;rw[e,Bw]at h1;have:=m.l0;omega) hz.1 hz.2
  calc AR.mpr ⟨x,hx,e⟩
def Phs.bt (m:IsM zA l) (hP:Part zA p) (h:Phs zA p b φ):Br zA (btD (p,b,p.map φ)) :=
 ⟨p,b,φ,rfl,hP.set,h.rg,h.cnt m hP,λx hx g hg=>⟨hP.cl x hx g hg,h.st x hx g hg⟩⟩
def IsB.bt (m:IsM zA l) (h:IsB zA t):Br zA (btD t):=by
 let⟨p,b,f⟩:=t;let⟨φ,e,hφ,_⟩:=h.ph;let e:f=p.map φ:=e;subst e;calc hφ.bt m h.part
theorem Mz:∀ {T:List Bt},(∀ t∈T,IsB zA t)->(T.map (·.1)).Nodup->(T.flatMap (·.1)).Nodup
 |[],_,_=>List.nodup_nil
 |t::T,h,nd=>by
  rw[Ab,List.nodup_cons]at nd;rw[List.flatMap_cons,EZ];refine ⟨Ou (h t AM).part.pw,Mz (λs hs=>h s (AQ _ hs)) nd.2,λx hx y hy e=>?_⟩;subst e;let⟨s,hs,hxs⟩:=List.mem_flatMap.mp hy;have:=(h t AM).part.apart (h s (AQ _ hs)).part hx hxs;calc nd.1 (AR.mpr ⟨s,hs,this.symm⟩)
def WL (m:IsM zA l) {T:List Bt} (h:∀ t∈T,IsB zA t) (nd:(T.map (·.1)).Nodup):Shw zA (.tup (T.map btD)):=⟨T,rfl,λt ht=>(h t ht).bt m,Mz h nd⟩
end
section
variable {zA R:Ya} {l:Nat}
def ZO (m:IsM zA l) (h26:zA.length<=26):∃ p,Part zA p:=by
 let hc:∀ r:Nat,∃ g:List Int,r<zA.length->Rs zA (r:Nat) g:=λr=>by
  by_cases h:r<zA.length
  .obtain ⟨_,_,_,ks,φ,_,_,_,hb,hcl⟩:=KW m h26 (r:=(r:Nat)) () () [];exact ⟨_,λ_=>Rs.of hb hcl⟩
  .exact ⟨[],λz=>absurd z h⟩
 let⟨γ,hγ⟩:=Classical.axiomOfChoice hc;let gt:∀ r,r<zA.length->((List.range zA.length).map γ).getD r []=γ r:=λr hr=>by
  rw[Ai,AW,List.getElem?_range hr];rfl
 let hW:Wsh zA zA.length ((List.range zA.length).map γ):=by
  refine ⟨by simp,λl hl=>?_,λl hl=>?_,λr hr=>?_,λr hr g hg=>?_,λu v hu hv huv w hw=>?_,λS hS u hu su w hw=>?_⟩
  .obtain ⟨r,hr,rfl⟩:=AR.mp hl;exact (hγ r (CD.mp hr)).pw.imp λz=>Int.ne_of_lt z
  .obtain ⟨r,hr,rfl⟩:=AR.mp hl;exact (hγ r (CD.mp hr)).rg
  .rw[gt r hr];exact (hγ r hr).self
  .rw[gt r hr];exact (hγ r hr).cl r (hγ r hr).self g (by erw[gl];rw[Ef];calc hg)
  .rw[gt u hu]at huv ⊢;rw[gt v hv]at hw;exact (hγ v hv).snd (· ∈ γ u) (λx _ hx y hy=>(hγ u hu).cl x hx y hy) huv w hw
  .rw[gt u hu]at hw;exact (hγ u hu).snd S (λx hx sx y hy=>hS x ((hγ u hu).rg x hx).1 ((hγ u hu).rg x hx).2 sx y hy) su w hw
 let⟨r,hr,hb⟩:=hW.some m.r0;calc ⟨γ r,hW.part hr (hγ r hr).pw (λx=>by rw[gt r hr]) λx hx=>hb x (by rw[gt r hr];calc hx)⟩
structure Shf (zA R:Ya):Prop where
 len:R.length=zA.length
 pm:∀ r,r<zA.length->(R.getD r []).Perm (zA.getD r [])
theorem Shf.m (h:Shf zA R) (m:IsM zA l):IsM R l:=by
 refine ⟨by rw[h.len];exact m.r0,m.l0,λr hr=>?_⟩;let⟨i,hi,rfl⟩:=Ck hr;let hp:=h.pm i (by rw[<-h.len];calc hi);rw[Ai,AL hi,Option.getD_some]at hp;let⟨h1,h2⟩:=m.row _ (HI (r:=i) (L:=zA) (by rw[<-h.len];calc hi));calc ⟨hp.length_eq.trans h1,λg hg=>by rw[h.len];calc h2 g (hp.mem_iff.mp hg)⟩
def Shf.step (h:Shf zA R) (m:IsM zA l) (x0:0<=x) (x1:x<(zA.length:Int)) (g0:0<=g) (g1:g<(l:Int)):Cw R x g∈gl zA x:=by
 let hp:=h.pm x.toNat ();calc hp.mem_iff.mp ?_;let hl:(R.getD x.toNat []).length=l:=hp.length_eq.trans (Eg m x0 x1).1;erw[Cw];generalize R.getD x.toNat []=r at hl;rw[Ai,AL ()];calc BR _
section
variable {p:Ye} {b:Int} {φ:Int->Int}
def Shf.led (h:Shf zA R) (m:IsM zA l) (hP:Part zA p) (hφ:Phs zA p b φ):∀ (w:Ye),Wd l w -> ∀ x∈p,Bs R x w∈p/\φ (Bs R x w)=(φ x+(w.length:Int)) % b
 |[],_,x,hx=>⟨hx,by
  let⟨r0,r1⟩:=hφ.rg x hx;rw[Bw,show φ x+((0:Nat):Int)=φ x by omega,Int.emod_eq_of_lt r0 r1];rfl⟩
 |g::w,hw,x,hx=>by
  let⟨x0,x1⟩:=hP.mem x hx;let⟨g0,g1⟩:=hw g AM;let hs:=h.step m x0 x1 g0 g1;let⟨h1,h2⟩:=Shf.led h m hP hφ w (λy hy=>hw y (AQ _ hy)) (Cw R x g) (hP.cl x hx _ hs);calc ⟨h1,h2.trans ?_⟩;rw[hφ.st x hx _ hs,Int.emod_add_emod,Ci];congr 1;omega
def Shf.img (h:Shf zA R) (m:IsM zA l) (hP:Part zA p) (hφ:Phs zA p b φ) (hw:Wd l w):(∀ x∈broR R p w,x∈p)/\b<=((broR R p w).length:Int):=by
 let hl:=h.led m hP hφ w hw;let hb1:=hφ.b1;rw[JN hP.pw];refine ⟨λx hx=>?_,?_⟩
 .obtain ⟨y,hy,rfl⟩:=AR.mp ((Dk _ _).mp hx);exact (hl y hy).1
 .have hg:∀ x∈p,gl zA x≠[]:=λx hx e=>by
   let h1:=(Eg m (hP.mem x hx).1 (hP.mem x hx).2).1;rw[e,Bw]at h1;have:=m.l0;omega
  let h1:((List.range b.toNat).map λ(k:Nat)=>(k:Int)).length<=((ris (p.map λr=>Bs R r w)).map φ).length:=by
   refine List.Nodup.length_le_of_subset ?_ λz hz=>?_
   .unfold List.Nodup;rw[EY];exact (List.nodup_range (n:=b.toNat)).imp λh e=>h (Int.ofNat.inj e)
   .obtain ⟨k,hk,rfl⟩:=AR.mp hz;let hk:=CD.mp hk;let⟨x,hx,e⟩:=hφ.all hP hg (z:=((k:Int)-(w.length:Int)) % b) (Int.emod_nonneg _ ()) (E8 _ ());calc AR.mpr ⟨Bs R x w,(Dk _ _).mpr (AR.mpr ⟨x,hx,rfl⟩),(hl x hx).2.trans ?_⟩;rw[e,Int.emod_add_emod,show (k:Int)-(w.length:Int)+(w.length:Int)=k by omega,Int.emod_eq_of_lt () ()]
  rw[AI,Dv,AI]at h1;omega
end
theorem N4:∀ {T:List Bt},(∀ t∈T,Part zA t.1)->(T.map (·.1)).Nodup->(∀ t∈T,(f t).Nodup /\ ∀ x∈f t,x∈t.1)->(T.flatMap f).Nodup
 |[],_,_,_=>List.nodup_nil
 |t::T,h,nd,hf=>by
  rw[Ab,List.nodup_cons]at nd;rw[List.flatMap_cons,EZ];refine ⟨(hf t AM).1,N4 (λs hs=>h s (AQ _ hs)) nd.2 (λs hs=>hf s (AQ _ hs)),λx hx y hy e=>?_⟩;subst e;let⟨s,hs,hxs⟩:=List.mem_flatMap.mp hy;have:=(h t AM).apart (h s (AQ _ hs)) ((hf t AM).2 x hx) ((hf s (AQ _ hs)).2 x hxs);calc nd.1 (AR.mpr ⟨s,hs,this.symm⟩)
theorem P9 {f:Bt->List Int}:∀ {T:List Bt},(∀ t∈T,t.2.1<=((f t).length:Int))->(T.map λt=>t.2.1).sum<=((T.flatMap f).length:Int)
 |[],_=>by simp
 |t::T,h=>by
  let h1:=h t AM;let h2:=P9 (λs hs=>h s (AQ _ hs));rw[Ab,List.sum_cons,List.flatMap_cons,Aw];omega
def Bm.isB (m:IsM zA l) (h26:zA.length<=26) (h:Bm zA t):IsB zA t:=by
 calc ⟨h.part,?_,h.ph⟩;let⟨φ,_,hφ,_⟩:=h.ph;let h1:=hφ.le m h.part;let h2:=h.part.len;omega
def RY (h:Shf zA R) (m:IsM zA l) {T:List Bt} (hT:Tok zA T) {w:Ye} (hw:Wd l w):(T.map λt=>t.2.1).sum<=((broR R (Dc zA) w).length:Int):=by
 refine Int.le_trans (P9 (f:=λt=>broR R t.1 w) λt ht=>?_) ?_
 .obtain ⟨φ,_,hφ,_⟩:=(hT.bm t ht).ph;exact (h.img m (hT.bm t ht).part hφ hw).2
 .refine Int.ofNat_le.mpr (List.Nodup.length_le_of_subset (N4 (λt ht=>(hT.bm t ht).part) hT.nd λt ht=>?_) λx hx=>?_)
  .obtain ⟨φ,_,hφ,_⟩:=(hT.bm t ht).ph;calc ⟨?_,(h.img m (hT.bm t ht).part hφ hw).1⟩;rw[JN (hT.bm t ht).part.pw];exact (HE _).imp λz=>Int.ne_of_lt z
  .obtain ⟨t,ht,hx⟩:=List.mem_flatMap.mp hx;let hP:=(hT.bm t ht).part;rw[JN hP.pw]at hx;rw[JN (Jp m).pw];let⟨y,hy,rfl⟩:=AR.mp ((Dk _ _).mp hx);calc (Dk _ _).mpr (AR.mpr ⟨y,?_,rfl⟩);let⟨y0,y1⟩:=hP.mem y hy;erw[Dc];calc AR.mpr ⟨y.toNat,CD.mpr (),()⟩
end
def LA:FS:=(zV (AN 2 (fB GJ (zI (zC 1) za)))
  (AV (fB Bc (zI (zu [3] (Bj (zD (toD (fB Al (zI (zC 1) za))) zR)) (gN 3) zq (fM DY (zC 2) (zD (toD (zX zZ (zD (toD (zC 0)) (zD (toD (fB Al (zI (zC 2) za))) zR)))) zR))) za))))
def IH:FF:=Ec (Aj 4 LA)
def Kw:FS:=(zV (Gr (DR 3 4 5) (zC 2))
  (zV (Bh (Eo (zD (toD (zC 3)) (zD (toD (zC 5)) zR))) (Gx 6 7) (zV (AN 8 (zX HA (zD (toD (zC 0)) (zD (toD (zC 6)) (zD (toD (zC 1)) zR)))))
  (sIf (CU (tst (fOp (kIn true) (zC 8) (zC 3))) (tst (fOp kNe (fOp kIx (zC 5) (GW (zC 3) (zC 8))) (fOp Bv (fOp Aq (zC 7) (fB Al (zI (zC 1) za))) (zC 4))))) (AV (fC (.bl false))) CS)))
  (zV (AN 9 (zX GA (zD (toD (zC 0)) (zD (toD (zC 3)) (zD (toD (zC 1)) zR)))))
  (AV (Cv (fOp kGe (fB Al (zI (zC 9) za)) (zC 4)) (fOp kEq (zu [6] (Aa (zC 9)) (gN 6) (tst (fOp (kIn true) (zC 6) (zC 3))) (zC 6)) (By zR)))))))
def Gv:FF:=Ct (Aj 10 Kw)
section
variable {zA R:Ya} {l:Nat}
def UC (h:Gen M n k) (h1:row.length<=1000):Ok (IH [.ref n,tI row] M) λd M'=>Nx M M' n k /\ ∃ o:List Int,d=tI o/\o.Perm row:=by
 erw[IH];calc Lp ?_;rw[BN];erw[LA];show OkS (zV _ _ [some (.ref n),some (tI row),none,none] M) _;rw[zL,zb];calc zM (Vq (f:=zC 1) (x:=.dat (tI row)) rfl Bg) (Ea ?_);rw[zW,EJ];show Ok (fB _ _ [some (.ref n),some (tI row),some (.ref M.length),none] _) _;calc EU.mpr (EH.mpr (ET.mpr ⟨_,_,_,G9 (j:=(row.length:Int)) (EX rfl) () (),by rw[Gg];calc zt (),?_⟩));refine Ok.mono (Hh (n:=(row.length:Int).toNat) (I:=λi acc M2=>∃ (A:Mem) (l r:Ye),M2=A++[.lst (r.map D.int)]/\Nx M A n k/\acc=l.map D.int/\l.length=i/\(l++r).Perm row) ?_ ⟨M,[],row,rfl,.refl h,rfl,rfl,.refl _⟩) ?_
 .rintro i acc M2 hi ⟨A,l,r,rfl,nxA,rfl,hl,hp⟩;let hlen:l.length+r.length=row.length:=by have:=hp.length_eq;simpa using this
  let hr:0<r.length:=()
  let gA:Gen (A++[MO.lst (r.map D.int)]) n k:=nxA.gen.app (by
   intro u hu;have:u=.lst (r.map D.int):=by simpa using hu
   subst this;calc zo _ _)
  let eA:(A++[MO.lst (r.map D.int)])[M.length]?=some (.lst (r.map D.int)):=by rw[<-nxA.len];simp
  calc ⟨_,rfl,IV.mpr (zm.mpr ⟨.ref M.length,rfl,⟨_,F4 eA⟩,DI.mpr (Bk.mpr ?_)⟩)⟩;let el:=F9 (f:=zC 2) (Y:=(BW [3] [some (.ref n),some (tI row),some (.ref M.length),none]).set 3 (some (.int i))) (x:=.dat (.ref M.length)) rfl (B8 eA);rw[AI]at el;refine DX gA rfl el () () λg M4 g0 g1 nx4=>?_;let⟨A2,rfl,nx5⟩:=nx4.split nxA.gen;rw[zF,D6];let nxB:=nxA.trans nx5;let eB:(A2++[MO.lst (r.map D.int)])[M.length]?=some (.lst (r.map D.int)):=by rw[<-nxB.len];simp
  obtain ⟨gn,rfl⟩:∃ gn:Nat,g=gn:=⟨g.toNat,()⟩;let hg:gn<r.length:=()
  calc WE (d:=.int r[gn]) eB (by rw[AW,AL hg];rfl) () ?_;rw[zF];calc ⟨A2,l++[r[gn]],r.eraseIdx gn,?_,nxB,by simp,by simp[hl],(RM hg).trans hp⟩;rw[<-nxB.len,List.set_append_right _ _ (AF _)];rw[Nat.sub_self,List.set_cons_zero,NV]
 .rintro ys M2 ⟨A,l,r,rfl,nxA,rfl,hl,hp⟩;refine EF.mpr ((Jo C9).mpr ?_);rw[zF];let hr:r=[]:=by
   have:=hp.length_eq;simp at this;exact E5.mp ()
  subst hr;rw[CV]at hp;let tk:(A++[MO.lst (([]:List Int).map D.int)]).take M.length=A:=by rw[<-nxA.len];simp
  refine ⟨⟨CY _,by rw[Aw,nxA.len];omega,λj u hj e=>?_⟩,by rw[tk];calc nxA,l,rfl,hp⟩;rw[BV (by rw[nxA.len];calc hj)]at e;have:=nxA.gen.wf j u e;rw[nxA.len]at this;calc this
def TC (hf:f Y M=some (.dat (tI xs),M)) (hg:g Y M=some (.dat (.int i),M)) (hi:i∈xs):GW f g Y M=some (.dat (.int (xs.idxOf i)),M):=by
 erw[GW];let e1:toD f Y M=some (.tup (xs.map D.int),M):=by erw[toD];rw[hf];rfl
 let e2:toD g Y M=some (.int i,M):=by erw[toD];rw[hg]
 rw[e1];dsimp only;rw[Dx];dsimp only;rw[e2];dsimp only;rw[AD hi]
def XG (s:Shf zA R) (m:IsM zA l) (h26:zA.length<=26) (hB:Bm zA t) (hw:Wd l w) (hwl:w.length<=1000) (M:Mem):Gv [mD R,tI w,btD t] M=some (.bl true,M):=by
 let⟨p,b,f⟩:=t;let⟨φ,e,hφ,_⟩:=hB.ph;let e:f=p.map φ:=e;subst e;let hP:Part zA p:=hB.part;let hφ:Phs zA p b φ:=hφ;let hpl:=hP.len;let hb1:=hφ.b1;let mR:=s.m m;let sl:=s.len;let hsp:IsS R p:=⟨hP.pw,hP.n0,λx hx=>by rw[sl];exact hP.mem x hx⟩;refine zQ ?_;erw[Gv];refine EM (by erw[D.unds,D.unds,D.unds,D.unds];rw[EC,show D.und 0 (tI w)=true from CY _,MU];rfl) ?_;rw[BN];erw[Kw];show OkS (zV _ _ [some (mD R),some (tI w),some (btD (p,b,p.map φ)),none,none,none,none,none,none,none] []) _;rw[zL,Pt];refine zm.mpr ⟨_,rfl,zF.mpr ⟨_,rfl,?_⟩⟩;rw[zW];show OkS (zV _ _ [some (mD R),some (tI w),some (btD (p,b,p.map φ)),some (tI p),some (.int b),some (tI (p.map φ)),none,none,none,none] []) _;rw[zL,DQ];let hz:Eo (zD (toD (zC 3)) (zD (toD (zC 5)) zR)) [some (mD R),some (tI w),some (btD (p,b,p.map φ)),some (tI p),some (.int b),some (tI (p.map φ)),none,none,none,none] []=some (p.map (λx=>D.tup [.int x,.int (φ x)]),none,[]):=by
  erw[Eo];rw[zh (d:=tI p) rfl (zi (d:=tI (p.map φ)) rfl)];show some ((((p.map D.int).zip ((p.map φ).map D.int)).map λq=>D.tup [q.1,q.2]),none,([]:Mem))=_;congr 2;rw[Be,List.zip_map',Be];rfl
 calc ⟨_,_,_,hz,?_⟩;refine GI (gd:=none) (I:=λ_ Y A=>A=[] /\ ∃ y6 y7 y8,Y=[some (mD R),some (tI w),some (btD (p,b,p.map φ)),some (tI p),some (.int b),some (tI (p.map φ)),y6,y7,y8,none]) (λ_ _ _ _=>zn) ?_ ?_ _ _ ⟨rfl,_,_,_,rfl⟩
 .rintro i d Y A ed ⟨rfl,y6,y7,y8,rfl⟩;rw[AW]at ed;let⟨x,ex,rfl⟩:=Option.map_eq_some_iff.mp ed;let hx:=Bn ex;let⟨x0,x1⟩:=hP.mem x hx;let⟨l1,l2⟩:=s.led m hP hφ w hw x hx;refine ⟨_,rfl,?_⟩;show OkS (zV _ _ [some (mD R),some (tI w),some (btD (p,b,p.map φ)),some (tI p),some (.int b),some (tI (p.map φ)),some (.int x),some (.int (φ x)),y8,none] []) _;refine Fh (d:=.int (Bs R x w)) (Wg mR x0 (by rw[sl];exact x1) hw rfl rfl rfl) ?_;show OkS (sIf _ _ _ [some (mD R),some (tI w),some (btD (p,b,p.map φ)),some (tI p),some (.int b),some (tI (p.map φ)),some (.int x),some (.int (φ x)),some (.int (Bs R x w)),none] []) _;let hi:p.idxOf (Bs R x w)<p.length:=List.idxOf_lt_length_of_mem l1;let hat:(p.map φ)[p.idxOf (Bs R x w)]?=some (φ (Bs R x w)):=by
   rw[AW,AL hi,List.getElem_idxOf];rfl
  let c1:tst (fOp (kIn true) (zC 8) (zC 3)) [some (mD R),some (tI w),some (btD (p,b,p.map φ)),some (tI p),some (.int b),some (tI (p.map φ)),some (.int x),some (.int (φ x)),some (.int (Bs R x w)),none] []=some (false,[]):=(B3 (zH (x:=.dat (.int (Bs R x w))) (y:=.dat (tI p)) rfl rfl (Pf (neg:=true) Bg))).trans (by rw[AD rfl,BG l1];rfl);let c2:tst (fOp kNe (fOp kIx (zC 5) (GW (zC 3) (zC 8))) (fOp Bv (fOp Aq (zC 7) (fB Al (zI (zC 1) za))) (zC 4))) [some (mD R),some (tI w),some (btD (p,b,p.map φ)),some (tI p),some (.int b),some (tI (p.map φ)),some (.int x),some (.int (φ x)),some (.int (Bs R x w)),none] []=some (false,[]):=by
   calc (B3 (zH (zH (x:=.dat (tI (p.map φ))) rfl (TC (xs:=p) rfl rfl l1) (Dj Bg (NA hat))) (zH (zH (x:=.dat (.int (φ x))) rfl (EX (xs:=w) rfl) Du) (y:=.dat (.int b)) rfl (Hv ())) (zQ (Nr.mpr ⟨rfl,rfl⟩)))).trans ?_;rw[l2];simp
  rw[Gq];calc zM (B4 c1 c2) ?_;rw[AE (),ID];exact ⟨rfl,_,_,_,rfl⟩
 .rintro Y A ⟨rfl,y6,y7,y8,rfl⟩;let⟨i1,i2⟩:=s.img m hP hφ hw;rw[zW];calc Fh (d:=tI (broR R p w)) (ze (zh (d:=mD R) rfl (zh (d:=tI p) rfl (zi (d:=tI w) rfl))) (Pw mR () hsp hw ())) ?_;let hbl:=(mR.broR w hsp hw).len;generalize broR R p w=J at i1 i2 hbl;show OkS (AV _ [some (mD R),some (tI w),some (btD (p,b,p.map φ)),some (tI p),some (.int b),some (tI (p.map φ)),y6,y7,y8,some (tI J)] []) _;let c3:=OX (own:=[6]) (fi:=Aa (zC 9)) (g:=gN 6) (tc:=tst (fOp (kIn true) (zC 6) (zC 3))) (te:=zC 6) (Y:=[some (mD R),some (tI w),some (btD (p,b,p.map φ)),some (tI p),some (.int b),some (tI (p.map φ)),y6,y7,y8,some (tI J)]) (M:=[]) (gd:=none) J D.int D.int (λx=> !decide (x∈p)) (CJ rfl) trivial () λx hx=>⟨_,rfl,(B3 (zH (x:=.dat (.int x)) (y:=.dat (tI p)) rfl rfl (Pf (neg:=true) Bg))).trans (by rw[AD rfl]),λ_=>rfl⟩;rw[show (J.filter λx=> !decide (x∈p))=[]from List.filter_eq_nil_iff.mpr λx hx=>by rw[BG (i1 x hx)];decide]at c3;calc BA (d:=.bl true) (Vg ?_ (zH c3 (Qh (ds:=[]) rfl (by simp)) rfl)) ⟨rfl,rfl,rfl⟩;calc (zH (EX (xs:=J) rfl) (y:=.dat (.int b)) rfl (zQ (Pa.mpr ⟨rfl,rfl⟩))).trans ?_;rw[BG ()]
end
def Km:FS:=(zV (AN 1 (zX Hn (zD (toD (zC 0)) zR)))
  (zV (Bh (Bj (zD (toD (fOp Aq (fC (.int 2)) (fB Al (zI (fSl (zC 0) DP (Cg (fC (.int 8)))) za)))) zR)) (gN 2) (zV (AN 3 (zX Ht (zD (toD (zC 1)) (zD (toD (fC (.int 26))) (zD (toD (fC (.int 6))) zR)))))
  (zV (AN 4 (fB Bc (zI (zu [5] (Aa (zC 3)) (gN 5) zq (zX IH (zD (toD (zC 1)) (zD (toD (zC 5)) zR)))) za)))
  (zV (AN 6 (fB Bc (zI (zu [7] (Bj (zD (toD (zX zZ (zD (toD (zC 1)) (zD (toD (fC (.int 41))) zR)))) zR)) (gN 7) zq (zX zZ (zD (toD (zC 1)) (zD (toD (fB Al (zI (fOp kIx (zC 3) (fC (.int 0))) za))) zR)))) za)))
  (zV (AN 8 (zX IW (zD (toD (zC 3)) zR)))
  (zV (sIf (CU (tst (fOp Gz (zC 8) (Fd zR))) (DD (tst (fB D0 (zI (zu [9] (Aa (zC 8)) (gN 9) zq (zX Gv (zD (toD (zC 4)) (zD (toD (zC 6)) (zD (toD (zC 9)) zR))))) za))))) (AV (fC (.bl false))) CS)
  (zV (AN 10 (fB FR (zI (zu [12,11,13] (Aa (zC 8)) (DR 12 11 13) zq (zC 11)) za)))
  (sIf (CU (tst (fOp kLt (fB Al (zI (zX GA (zD (toD (zC 4)) (zD (toD (Fe (fB Al (zI (zC 3) za)))) (zD (toD (zC 6)) zR)))) za)) (zC 10))) (tst (fOp (kIs true) (zX Fm (zD (toD (zC 3)) (zD (toD (zC 8)) zR))) (fC (.bl true))))) (AV (fC (.bl false))) CS))))))))
  (AV (fC (.bl true)))))
def Em:FF:=Aj 14 Km
def PH (h:c.length<=100000):Vd M (tI c):=by
 erw[tI,Vd];refine ⟨by rw[AI];exact h,Vds.of λd hd=>?_⟩;let⟨i,_,rfl⟩:=AR.mp hd;erw[Vd];trivial
def aA (I:Nat->List D->Mem->Prop)
  (hs:∀ i x acc M,xs[i]?=some x->I i acc M -> ∃ σ1,g x Y=some σ1/\Ok (te σ1 M) (DC λd M2=>I (i+1) (acc++[d]) M2)) (h0:I 0 [] M) :
  Ok (Am g zq te Y all none xs M) λys M1=>I xs.length ys M1:=by
 refine Ok.mono (GG (I:=λr acc M=>∃ i,i<=xs.length/\r=xs.drop i/\I i acc M) (Q:=λacc M=>I xs.length acc M) ?_ ?_ _ [] _ ⟨0,A8 _,by simp,h0⟩) λys M1 q=>by simpa using q
 .rintro x r acc M ⟨i,hi,e,hI⟩;let hx:xs[i]?=some x:=by
   have:=BI (·[0]?) e;simpa using this.symm
  let hr:r=xs.drop (i+1):=by
   have:=BI (List.drop 1) e;simpa using this
  let hlt:=(AY.mp hx).1;let⟨σ1,e1,q⟩:=hs i x acc M hx hI;calc ⟨zn,σ1,e1,Lc.mpr ?_⟩;rw[AD rfl];calc Ok.mono q ?_;intro x M2 z;cases x with
  |dat d=>calc ⟨i+1,hlt,hr,z⟩
  |fl xs=>exact ⟨i+1,hlt,hr,z⟩
 .rintro acc M ⟨i,hi,e,hI⟩;have:i=xs.length:=by
   have:=BI List.length e;rw[List.length_drop]at this;simp at this;omega
  subst this;calc ⟨zn,hI⟩
def ZH (hz:zA.length<=1000) (hf:f Y M=some (.dat (.int zA.length),M)):Fe f Y M=some (.dat (tI (Dc zA)),M):=by
 calc zQ (YO (j:=(zA.length:Int)) hf () () ⟨?_,rfl⟩);erw[upD,tI,Dc];rw[Be,show (zA.length:Int).toNat=zA.length by omega];rfl
def S3 (ns:Ye) (h:ns.length<=63):∃ M',Em [.ref 0] [.fro (ns.map D.int)]=some (.bl true,M'):=by
 suffices hh:Ok (Em [.ref 0] [.fro (ns.map D.int)]) λd _=>d=.bl true by
  let⟨d,M',e,rfl⟩:=hh;exact ⟨M',e⟩
 erw[Em];rw[BN];erw[Km];show OkS (zV _ _ [some (.ref 0),none,none,none,none,none,none,none,none,none,none,none,none,none] _) _;rw[zL,zb];calc F5.mpr (zM (zi (d:=.ref 0) rfl) (Ok.mono (RJ h) ?_));rintro d M1 ⟨rfl,g1,e0,hl3⟩;rw[zF,zW];show OkS (zV _ _ [some (.ref 0),some (.ref 2),none,none,none,none,none,none,none,none,none,none,none,none] M1) _;rw[zL,DQ];let⟨c,ec,lc⟩:=T7 (Y:=[some (.ref 0),some (.ref 2),none,none,none,none,none,none,none,none,none,none,none,none]) (M:=M1) (j:=0) (i:=8) rfl rfl e0;let elen:=F9 ec C9;rw[AI]at elen;calc ⟨_,_,_,G9 (j:=2+(c.length:Int)) (zH (x:=.dat (.int 2)) rfl elen Du) () (),?_⟩;refine PV (n:=(2+(c.length:Int)).toNat) (I:=λt Y A=>(∃ y2 y3 y4 y5 y6 y7 y8 y9 y10 y11 y12 y13,Y=[some (.ref 0),some (.ref 2),y2,y3,y4,y5,y6,y7,y8,y9,y10,y11,y12,y13])/\Gen A 2 1) ?_ ?_ _ _ ⟨⟨_,_,_,_,_,_,_,_,_,_,_,_,rfl⟩,g1⟩
 .rintro t Y A0 ht ⟨⟨y2,y3,y4,y5,y6,y7,y8,y9,y10,y11,y12,y13,rfl⟩,g0⟩;refine ⟨_,rfl,?_⟩;show OkS (zV _ _ [some (.ref 0),some (.ref 2),some (.int (t:Nat)),y3,y4,y5,y6,y7,y8,y9,y10,y11,y12,y13] A0) _;rw[zL,zb];refine F5.mpr (zM (zh (d:=.ref 2) rfl (zh (d:=.int 26) rfl (zi (d:=.int 6) rfl))) (Ok.mono (aK g0) ?_));rintro d A1 ⟨zA,l,rfl,m,h26,hl,nw1,hlen1⟩;rw[zF,zW];let hl0:=m.l0;let hr0:=m.r0;show OkS (zV _ _ [some (.ref 0),some (.ref 2),some (.int (t:Nat)),some (mD zA),y4,y5,y6,y7,y8,y9,y10,y11,y12,y13] A1) _;rw[zL,zb];refine EU.mpr (EH.mpr (ET.mpr ⟨_,_,_,CJ (xs:=zA.map tI) rfl,by rw[AI];exact zt (),?_⟩));refine Ok.mono (aA (I:=λi acc A=>Gen A 2 1 /\ ∃ R:List (List Int),acc=R.map tI/\R.length=i /\ ∀ r,r<i->(R.getD r []).Perm (zA.getD r [])) ?_ ⟨nw1.gen,[],rfl,rfl,λr hr=>absurd hr (Nat.not_lt_zero _)⟩) ?_
  .rintro i d acc A ei ⟨gA,R,rfl,hRl,hR⟩;rw[AW]at ei;let⟨row,er,rfl⟩:=Option.map_eq_some_iff.mp ei;let hrl:=(m.row row (Bn er)).1;refine ⟨_,rfl,F5.mpr (zM (zh (d:=.ref 2) rfl (zi (d:=tI row) rfl)) (Ok.mono (UC gA ()) ?_))⟩;rintro d A' ⟨nx,o,rfl,hp⟩;refine zF.mpr ⟨nx.gen,R++[o],by rw[Dw];rfl,by simp[hRl],λr hr=>?_⟩;by_cases q:r=i
   .subst q;rw[Ai,Gy (),hRl,Nat.sub_self,Ai,er];exact hp
   .rw[Ai,BV (),<-Ai];exact hR r ()
  rintro ys A2 ⟨g2,R,rfl,hRl,hR⟩;rw[AI]at hRl hR;let sh:Shf zA R:=⟨hRl,hR⟩;let mR:=sh.m m;calc EF.mpr ((Jo C9).mpr (zF.mpr ?_));rw[zW];show OkS (zV _ _ [some (.ref 0),some (.ref 2),some (.int (t:Nat)),some (mD zA),some (mD R),y5,y6,y7,y8,y9,y10,y11,y12,y13] A2) _;rw[zL,zb];refine ZM (B:=41) (l:=(l:Int)) () () () (RW g2 rfl rfl () ()) (λi M3=>rfl) (λi M3=>?_) λw A3 hw hwl nx3=>?_
  .obtain ⟨h1,_⟩:=Eg m (x:=0) () ();rw[<-h1];exact EX (Ji m (x:=0) () () rfl rfl)
  let g3:=nx3.gen;rw[zF,zW];let⟨T,eT,hTl,hT⟩:=Xw m h26;let⟨p0,hp0⟩:=ZO m h26;let hTne:T≠[]:=λe=>by
   have:=(hT.all p0).mpr hp0;rw[e]at this;ext this
  refine Fh (ze (zi (d:=mD zA) rfl) (eT A3)) ?_;show OkS (zV _ _ [some (.ref 0),some (.ref 2),some (.int (t:Nat)),some (mD zA),some (mD R),y5,some (tI w),y7,some (.tup (T.map btD)),y9,y10,y11,y12,y13] A3) _;let hk:=G5 (bs:=T.map λ_=>true) ((EI (own:=[9]) (fi:=Aa (zC 8)) (g:=gN 9) (te:=zX Gv (zD (toD (zC 4)) (zD (toD (zC 6)) (zD (toD (zC 9)) zR)))) (Y:=[some (.ref 0),some (.ref 2),some (.int (t:Nat)),some (mD zA),some (mD R),y5,some (tI w),y7,some (.tup (T.map btD)),y9,y10,y11,y12,y13]) (M:=A3) T btD (λ_=> .bl true) (gd:=none) (CJ rfl) trivial () λt' ht'=>⟨_,rfl,ze (zh (d:=mD R) rfl (zh (d:=tI w) rfl (zi (d:=btD t') rfl))) (XG sh m h26 (hT.bm t' ht') hw () A3)⟩).trans (by rw[Be];rfl));rw[JK,show (T.all λ_=>true)=true from An.mpr λ_ _=>rfl]at hk;let h0:tst (fOp Gz (zC 8) (Fd zR)) [some (.ref 0),some (.ref 2),some (.int (t:Nat)),some (mD zA),some (mD R),y5,some (tI w),y7,some (.tup (T.map btD)),y9,y10,y11,y12,y13] A3=some (false,A3):=by
   calc (B3 (zH (x:=.dat (.tup (T.map btD))) rfl (Me (ds:=[]) rfl (by simp)) (show Gz (.dat (.tup (T.map btD))) (.dat (.tup [])) A3=some (.dat (.bl (T.map btD).isEmpty),A3)from rfl))).trans ?_;cases T with
   |nil=>calc absurd rfl hTne
   |cons a b=>rfl
  refine F3 (B4 h0 (BS hk)) ?_;let hsum:fB FR (zI (zu [12,11,13] (Aa (zC 8)) (DR 12 11 13) zq (zC 11)) za) [some (.ref 0),some (.ref 2),some (.int (t:Nat)),some (mD zA),some (mD R),y5,some (tI w),y7,some (.tup (T.map btD)),y9,y10,y11,y12,y13] A3=some (.dat (.int (T.map λt=>t.2.1).sum),A3):=by
   let hc:=EI (own:=[12,11,13]) (fi:=Aa (zC 8)) (g:=DR 12 11 13) (te:=zC 11) (Y:=[some (.ref 0),some (.ref 2),some (.int (t:Nat)),some (mD zA),some (mD R),y5,some (tI w),y7,some (.tup (T.map btD)),y9,y10,y11,y12,y13]) (M:=A3) T btD (λt=> .int t.2.1) (gd:=none) (CJ rfl) trivial () λt' ht'=>⟨_,rfl,rfl⟩;erw[fB,zI,za];rw[hc];show FR [.fl (T.map λt=>D.int t.2.1)] A3=_;rw[show (T.map λt=>D.int t.2.1)=(T.map λt=>t.2.1).map D.int by rw[Be];rfl];erw[FR];dsimp only;rw[Dx]
  refine Fh hsum ?_;show OkS (sIf _ _ _ [some (.ref 0),some (.ref 2),some (.int (t:Nat)),some (mD zA),some (mD R),y5,some (tI w),y7,some (.tup (T.map btD)),y9,some (.int (T.map λt=>t.2.1).sum),y11,y12,y13] A3) _;let hroom:IsS R (Dc zA):=⟨(Jp m).pw,(Jp m).n0,λx hx=>by rw[hRl];exact (Jp m).mem x hx⟩;let htot:=RY sh m hT hw;let c1:tst (fOp kLt (fB Al (zI (zX GA (zD (toD (zC 4)) (zD (toD (Fe (fB Al (zI (zC 3) za)))) (zD (toD (zC 6)) zR)))) za)) (zC 10)) [some (.ref 0),some (.ref 2),some (.int (t:Nat)),some (mD zA),some (mD R),y5,some (tI w),y7,some (.tup (T.map btD)),y9,some (.int (T.map λt=>t.2.1).sum),y11,y12,y13] A3=some (false,A3):=by
   refine (B3 (zH (EX (xs:=broR R (Dc zA) w) (ze (zh (d:=mD R) rfl (zh (ZH () (IF rfl)) (zi (d:=tI w) rfl))) (Pw mR () hroom hw ()))) (y:=.dat (.int (T.map λt=>t.2.1).sum)) rfl (zQ (Pd.mpr ⟨rfl,rfl⟩)))).trans ?_;rw[BB ()]
  let hvd:Vd A3 (.tup (T.map btD)):=by
   erw[Vd];refine ⟨by rw[AI];omega,Vds.of λd hd=>?_⟩;let⟨t',ht',rfl⟩:=AR.mp hd;let b:=hT.bm t' ht';let hpl:=b.part.len;let⟨φ,e,_⟩:=b.ph;let hl2:t'.2.2.length<=26:=by rw[e,AI];omega
   erw[btD,Vd];refine ⟨by simp,PH (),?_,PH (),?_⟩
   .unfold Vd;trivial
   .trivial
  let c2:tst (fOp (kIs true) (zX Fm (zD (toD (zC 3)) (zD (toD (zC 8)) zR))) (fC (.bl true))) [some (.ref 0),some (.ref 2),some (.int (t:Nat)),some (mD zA),some (mD R),y5,some (tI w),y7,some (.tup (T.map btD)),y9,some (.int (T.map λt=>t.2.1).sum),y11,y12,y13] A3=some (false,A3):=by
   let e:=aZ m h26 hl g3.wf hvd (by show (T.map btD).length<=100;rw[AI];omega);rw[MT (WL m (λt' ht'=>(hT.bm t' ht').isB m h26) hT.nd)]at e;exact B3 (zH (x:=.dat (.bl true)) (y:=.dat (.bl true)) (ze (zh (d:=mD zA) rfl (zi (d:=.tup (T.map btD)) rfl)) e) rfl rfl)
  rw[Gq];calc zM (B4 c1 c2) ?_;rw[AE (),ID];exact ⟨⟨_,_,_,_,_,_,_,_,_,_,_,_,rfl⟩,g3⟩
 .rintro Y A ⟨⟨y2,y3,y4,y5,y6,y7,y8,y9,y10,y11,y12,y13,rfl⟩,nw⟩;rw[zW];calc BA (d:=.bl true) rfl rfl
end Lac
set_option maxHeartbeats 4000000
namespace Lac
open L2 L3 Law
-- the text by places
def top (i:Nat):Stmt:=PySem.Challenge.pw_bringhome_k59_whole_beats_bind_each_word.main.body.getD i (.Pass ⟨0,0,0,0⟩)
abbrev Lw:Stmt:=top 1
abbrev MQ:Stmt:=top 2
abbrev Kj:Stmt:=top 3
abbrev KH:Stmt:=top 4
abbrev Jz:Stmt:=top 6
abbrev Lj:Stmt:=top 7
abbrev L6:Stmt:=top 9
abbrev MK:Stmt:=top 10
abbrev KZ:Stmt:=top 11
abbrev Li:Stmt:=top 12
abbrev Kq:Stmt:=top 13
abbrev MC:Stmt:=top 14
abbrev LP:Stmt:=top 16
abbrev LZ:Stmt:=top 17
abbrev Ks:Stmt:=top 18
abbrev J0:Stmt:=top 19
abbrev KO:Stmt:=top 21
abbrev LM:Stmt:=top 22
abbrev MX:Stmt:=top 23
abbrev MA:Stmt:=top 24
abbrev Lo:Stmt:=top 25
abbrev LU:Stmt:=top 26
abbrev KC:Stmt:=top 27
structure Txt (K:Yb) (mg:Yh) where
  kA:Df K mg "is_whole" Lw ["thing"]
  kB:Df K mg "is_below" MQ ["thing", "many"]
  kC:Df K mg "is_tuple_below" Kj ["thing", "many"]
  kD:Df K mg "is_set" KH ["machine", "thing"]
  kE:Df K mg "distances" Jz ["web", "room"]
  kF:Df K mg "closed_parts" Lj ["web"]
  kG:Df K mg "greatest_divisor" L6 ["one", "other"]
  kJ:Df K mg "beat_of" MK ["web", "part"]
  kK:Df K mg "beats" KZ ["web"]
  kL:Df K mg "goes_round" Li ["web", "phase_of", "beat"]
  kM:Df K mg "is_beat" Kq ["web", "thing"]
  kN:Df K mg "shows_beats" MC ["web", "told"]
  kO:Df K mg "led" LP ["machine", "room", "word"]
  kP:Df K mg "stepped" LZ ["machine", "rooms", "letter"]
  kQ:Df K mg "walked" Ks ["machine", "rooms", "word"]
  kR:Df K mg "brought" J0 ["machine", "rooms", "word"]
  kS:Df K mg "_law_begin" KO ["_law_script"]
  kU:Df K mg "_law_next" LM ["_law_state", "_law_many"]
  kW:Df K mg "_law_phased" MX ["_law_state", "_law_low", "_law_many", "_law_beat", "_law_room"]
  kX:Df K mg "_law_web" MA ["_law_state", "_law_most", "_law_ways_most"]
  kY:Df K mg "_law_shuffled" Lo ["_law_state", "_law_row"]
  kZ:Df K mg "_law_keeps" LU ["_law_machine", "_law_word", "_law_one"]
  kAA:Df K mg "law" KC ["_law_script"]
  kAB:mg "isinstance" = none
  kAC:mg "int" = none
  kAD:mg "bool" = none
  kAE:mg "tuple" = none
  kAF:mg "all" = none
  kAG:mg "len" = none
  kAH:mg "zip" = none
  kAI:mg "sorted" = none
  kAJ:mg "range" = none
  kAK:mg "abs" = none
  kAL:mg "dict" = none
  kAM:mg "set" = none
  kAN:mg "max" = none
  kAO:mg "list" = none
  kAP:mg "sum" = none
  kinds:Kinds K
section
variable {P:Ym} {w:Yo} {K:Yb} {mg:Yh} {base:Heap}
def E9 {X:Cx} {scope sc:Y0} {own:Yj} {N ps:Yk} (_:FnScope N ps sc) (hk:scope.kind=.function) (hs:X.env.scope=sc) (hN:X.N=N) (h1:Jg sc scope=true) (h2:JF N scope own=true):CompIn X scope own:=Ql hk hs hN h1 h2
def ZT {X:Cx} {scope sc sd:Y0} {own:Yj} {N ps:Yk} (_:FnScope N ps sd) (hk:scope.kind=.function) (hs:X.env.scope=sc) (hN:X.N=N) (h1:Jg sc scope=true) (h2:JF N scope own=true):CompIn X scope own:=Ql hk hs hN h1 h2
set_option hygiene false in
local macro_rules | `(tactic| decreasing_trivial)=> `(tactic| repeat' first
  |calc XI (pv _)
  |calc CZ ?_
  |calc Pq ?_ ?_ (zO rfl)
  |calc a8 ?_
  |calc aG
  |calc Ot
  |calc Wj ?_ ?_
  |calc YW ?_
  |calc W5 sc.nd rfl
  |calc Vt
  |calc ZR ?_ ?_ (zO rfl)
  |calc gQ
  |calc UX (by first|exact UH T|exact Xn T|exact Zh T|exact TY T|exact V7 T|exact X5 T|exact cZ T|exact S6 T|exact TF T|exact b9 T|exact UL T|exact gB T|exact dU T|exact RE T|exact ZZ T|exact aB T|exact SG T|exact SQ T|exact YS T|exact f6 T|exact gS T|calc dE T) (hr.mono ()) rfl ?_ ?_ () (zO rfl) (GD rfl)
  |calc Uz ?_
  |calc Ur ?_ ?_
  |calc eZ ?_
  |calc Rn ?_ ?_
  |calc Sq
  |calc fU rfl T.kAG ?_ (zO rfl) rfl
  |calc UA ?_ ?_
  |calc Zt
  |calc UN ?_ ?_ ?_
  |calc b6 ?_ ?_
  |calc dM rfl T.kAE ?_ (zO rfl) rfl
  |refine JA (Ey ()) (E9 sc rfl rfl rfl (by decide+kernel) (by decide+kernel)) rfl ?_ ⟨λ_ _ _ _ _=>?_,λ_ _ _ _ _=>?_,λ_ _ _ _ _=>?_⟩
  |calc OE bN PassesOwn.never rfl ?_ ?_ ?_
  |calc RS
  |calc d7 ?_
  |calc VD ?_
  |calc V5 ?_
  |calc SR rfl T.kAJ ?_ ?_ (HG rfl)
  |calc VX (HF hr) ?_ ?_
  |calc cE rfl rfl T.kAF ?_ (zO rfl) rfl
  |calc bF hr.units0 ?_ ?_
  |calc Xl
  |calc WH rfl ?_
  |calc bV ?_
  |calc RQ ?_ ?_
  |calc ZD ?_ ?_
  |calc XU ?_
  |calc fA
  |calc X6 ?_
  |calc S9 ?_ ?_ ?_
  |calc cL ?_ ?_
  |calc gD hr.units0 ?_ ?_
  |calc VH ?_ ?_
  |calc Rg _ PassesOwn.never ?_ ?_
  |calc Zd hr.units0 ?_ ?_
  |calc aJ rfl T.kAK ?_ (zO rfl) rfl
  |calc Rq ?_
  |calc aF ?_ ?_
  |calc Ko T.kinds () rfl T.kAB rfl T.kAE (by rfl) () () ?_ (zO rfl) (zO rfl) (GD rfl)
  |calc Xf ?_ ?_
  |calc X7 ?_
  |calc cU ?_ ?_
  |calc RN ?_ ?_ ?_
  |calc Tt ?_
  |calc U5 ?_
  |calc Xt rfl T.kAI ?_ (zO rfl) rfl
  |refine Zj sc.nd rfl (by first|exact Or.inl rfl|calc Or.inr rfl) (by first|exact .inl rfl|calc .inr rfl) rfl (Ey ()) (E9 sc rfl rfl rfl (by decide+kernel) (by decide+kernel)) rfl ?_ ⟨λ_ _ _ _ _=>?_,λ_ _ _ _ _=>?_,λ_ _ _ _ _=>?_⟩
  |calc SS rfl T.kAH ?_ (Kv rfl rfl) (HG rfl)
  |calc RV (eV (K:=K)) ?_ ?_
  |calc Wv ?_ ?_
  |calc ZQ rfl rfl T.kAM ?_ (zO rfl) rfl
  |calc S4 rfl T.kAG ?_ (zO rfl) rfl
  |calc Ko T.kinds () rfl T.kAB rfl T.kAC (by rfl) () () ?_ (zO rfl) (zO rfl) (GD rfl)
  |calc Ko T.kinds () rfl T.kAB rfl T.kAD (by rfl) () () ?_ (zO rfl) (zO rfl) (GD rfl)
  |calc aO ?_
  |calc WW ?_ ?_
  |calc YK ?_
  |calc Vx (HF hr) ?_ ?_
  |calc Wb (HF hr) ?_ ?_ ?_
  |calc SW ?_ ?_
  |calc Vb rfl sc.nd rfl rfl () rfl rfl ?_ rfl
  |calc YX ?_
  |calc YI (HF hr) ?_ ?_
  |refine V2 () (Ey ()) (Ey ()) (E9 sc rfl rfl rfl (by decide+kernel) (by decide+kernel)) rfl ?_ ⟨λ_ _ _ _ _=>?_,λ_ _ _ _ _=>?_,λ_ _ _ _ _=>?_,λ_ _ _ _ _=>?_,λ_ _ _ _ _=>?_,λ_ _ _ _ _=>?_,λ_ _ _ _ _ _=>rfl⟩
  |refine bS (Ey ()) (E9 sc rfl rfl rfl (by decide+kernel) (by decide+kernel)) rfl ?_ ⟨λ_ _ _ _ _=>?_,λ_ _ _ _ _=>?_,λ_ _ _ _ _=>?_⟩
  |calc WT rfl rfl T.kAI ?_ (zO rfl) rfl
  |calc dD ?_ ?_
  |refine R3 (ER λ_ _ _ _=>Bl) (ER λ_ _ _ _=>Bl) Xq LI ?_ ?_ ?_
  |calc U4 rfl rfl T.kAI ?_ (zO rfl) rfl
  |calc XR 0 (Pn 0 () hr) ?_ ?_
  |refine JA (Ey ()) (ZT sc rfl rfl rfl (by rfl) (by decide+kernel)) rfl ?_ ⟨λ_ _ _ _ _=>?_,λ_ _ _ _ _=>?_,λ_ _ _ _ _=>?_⟩
  |refine bD (HF hr) rfl T.kAI (Ey ()) (E9 sc rfl rfl rfl (by decide+kernel) (by decide+kernel)) rfl ?_ ⟨λ_ _ _ _ _=>?_,λ_ _ _ _ _=>?_,λ_ _ _ _ _=>?_⟩ (by intro _;rfl) (zO rfl) rfl
  |calc Tn rfl T.kAO ?_ (zO rfl) rfl
  |calc XD rfl rfl T.kAN ?_ (zO rfl) (GD rfl)
  |calc YA rfl T.kAJ ?_ ?_ (Kv rfl rfl) (HG rfl)
  |calc SN ?_ ?_
  |refine JA (SH (K:=K) () ()) (E9 sc rfl rfl rfl (by decide+kernel) (by decide+kernel)) rfl ?_ ⟨λ_ _ _ _ _=>?_,λ_ _ _ _ _=>?_,λ_ _ _ _ _=>?_⟩
  |calc dB ?_ ?_
  |calc OE (To (K:=K)) PassesOwn.never rfl ?_ ?_ ?_
  |calc UG ?_ ?_
  |calc QU ?_ ?_
  |calc VN false (Pn 4 () hr) rfl rfl T.kAL rfl T.kAH ?_ (Kv rfl rfl) (HG rfl) (zO rfl) rfl
  |refine Zw sc.nd rfl (by first|exact Or.inl rfl|calc Or.inr rfl) (by first|exact .inl rfl|calc .inr rfl) rfl () (Pj (K:=K) () () ()) (Ey ()) (E9 sc rfl rfl rfl (by decide+kernel) (by decide+kernel)) rfl ?_ ⟨λ_ _ _ _ _=>?_,λ_ _ _ _ _=>?_,λ_ _ _ _ _=>?_,λ_ _ _ _ _=>?_,λ_ _ _ _ _=>?_,λ_ _ _ _ _=>?_,λ_ _ _ _ _ _=>rfl⟩
  |calc RL hr.units0 ?_ ?_
  |refine JA (Pj (K:=K) () () ()) (E9 sc rfl rfl rfl (by decide+kernel) (by decide+kernel)) rfl ?_ ⟨λ_ _ _ _ _=>?_,λ_ _ _ _ _=>?_,λ_ _ _ _ _=>?_⟩
  |calc RU rfl rfl T.kAP ?_ (zO rfl) rfl
  |calc dS rfl rfl T.kAE rfl T.kAJ ?_ (zO rfl) rfl (zO rfl) rfl
  |calc S2 ?_ ?_
  |calc Z9 ?_ ?_
  |calc Wk sc.nd rfl ?_
  |calc Qs (QU ?_ ?_)
  |calc Qs (Ug ?_ ?_)
  |calc Ua ?_)
abbrev Wo:List Str:=["thing"]
def Rb:FnScope Wo ["thing"] (zK Lw):=by ∎
def Xn (T:Txt K mg):Od P w base 1 T.kA G2:=by
  erw[G2];let sc:=Rb;exact BJ (n:=1) T.kA.F sc rfl (λcdv A outer s H E hr=>by
    erw[J4];decreasing_trivial)
abbrev VU:List Str:=["web", "room", "found", "level", "behind", "here", "goal"]
def Zs:FnScope VU ["web", "room"] (zK Jz):=by ∎
def Zh (T:Txt K mg):Od P w base 1 T.kE Gj:=by
  erw[Gj];let sc:=Zs;exact BJ (n:=2) T.kE.F sc rfl (λcdv A outer s H E hr=>by
    erw[MM];decreasing_trivial)
abbrev fQ:List Str:=["one", "other"]
def a7:FnScope fQ ["one", "other"] (zK L6):=by ∎
def X5 (T:Txt K mg):Od P w base 1 T.kG IU:=by
  erw[IU];let sc:=a7;exact EN (BJ (n:=2) T.kG.F sc rfl (λcdv A outer s H E hr=>by
    erw[Jt];decreasing_trivial))
abbrev ZF:List Str:=["web", "phase_of", "beat", "goal", "room"]
def X1:FnScope ZF ["web", "phase_of", "beat"] (zK Li):=by ∎
def ZZ (T:Txt K mg):Od P w base 1 T.kL HU:=by
  erw[HU];let sc:=X1;exact BJ (n:=3) T.kL.F sc rfl (λcdv A outer s H E hr=>by
    erw[Kz];decreasing_trivial)
abbrev Vk:List Str:=["machine", "room", "word", "here", "letter"]
def b8:FnScope Vk ["machine", "room", "word"] (zK LP):=by ∎
def dU (T:Txt K mg):Od P w base 1 T.kO HA:=by
  erw[HA];let sc:=b8;exact EN (BJ (n:=3) T.kO.F sc rfl (λcdv A outer s H E hr=>by
    erw[MH];decreasing_trivial))
abbrev Wy:List Str:=["machine", "rooms", "letter", "room"]
def Za:FnScope Wy ["machine", "rooms", "letter"] (zK LZ):=by ∎
def cZ (T:Txt K mg):Od P w base 1 T.kP HZ:=by
  erw[HZ];let sc:=Za;exact EN (BJ (n:=3) T.kP.F sc rfl (λcdv A outer s H E hr=>by
    erw[LH];decreasing_trivial))
abbrev fN:List Str:=["_law_script", "_law_seed", "_law_cell"]
def UZ:FnScope fN ["_law_script"] (zK KO):=by ∎
def SG (T:Txt K mg):Od P w base 1 T.kS Hn:=by
  erw[Hn];let sc:=UZ;exact BJ (n:=1) T.kS.F sc rfl (λcdv A outer s H E hr=>by
    erw[Kl];decreasing_trivial)
abbrev Vr:List Str:=["_law_state", "_law_many", "_law_digit"]
def RB:FnScope Vr ["_law_state", "_law_many"] (zK LM):=by ∎
def UH (T:Txt K mg):Od P w base 1 T.kU zZ:=by
  erw[zZ];let sc:=RB;exact BJ (n:=2) T.kU.F sc rfl (λcdv A outer s H E hr=>by
    erw[L9];decreasing_trivial)
abbrev Rk:List Str:=["thing", "many"]
def Y9:FnScope Rk ["thing", "many"] (zK MQ):=by ∎
def S6 (T:Txt K mg):Od P w base 2 T.kB IX:=by
  erw[IX];let sc:=Y9;exact BJ (n:=2) T.kB.F sc rfl (λcdv A outer s H E hr=>by
    erw[KA];decreasing_trivial)
abbrev fW:List Str:=["web", "goals", "room", "some"]
def Rr:FnScope fW ["web"] (zK Lj):=by ∎
def TF (T:Txt K mg):Od P w base 2 T.kF Ha:=by
  erw[Ha];let sc:=Rr;exact EN (BJ (n:=1) T.kF.F sc rfl (λcdv A outer s H E hr=>by
    erw[JC];decreasing_trivial))
abbrev Zb:List Str:=["web", "part", "found", "beat", "room", "goal"]
def SA:FnScope Zb ["web", "part"] (zK MK):=by ∎
def b9 (T:Txt K mg):Od P w base 2 T.kJ GS:=by
  erw[GS];let sc:=SA;exact EN (BJ (n:=2) T.kJ.F sc rfl (λcdv A outer s H E hr=>by
    erw[JE];decreasing_trivial))
abbrev f9:List Str:=["machine", "rooms", "word", "sets", "letter"]
def TV:FnScope f9 ["machine", "rooms", "word"] (zK Ks):=by ∎
def UL (T:Txt K mg):Od P w base 2 T.kQ Hc:=by
  erw[Hc];let sc:=TV;exact EN (BJ (n:=3) T.kQ.F sc rfl (λcdv A outer s H E hr=>by
    erw[LB];decreasing_trivial))
abbrev TM:List Str:=["_law_state", "_law_low", "_law_many", "_law_beat", "_law_room", "_law_first"]
def cG:FnScope TM ["_law_state", "_law_low", "_law_many", "_law_beat", "_law_room"] (zK MX):=by ∎
def gB (T:Txt K mg):Od P w base 2 T.kW Hj:=by
  erw[Hj];let sc:=cG;exact BJ (n:=5) T.kW.F sc rfl (λcdv A outer s H E hr=>by
    erw[K5];decreasing_trivial)
abbrev Vv:List Str:=["_law_state", "_law_row", "_law_left", "_law_k"]
def YN:FnScope Vv ["_law_state", "_law_row"] (zK Lo):=by ∎
def YS (T:Txt K mg):Od P w base 2 T.kY IH:=by
  erw[IH];let sc:=YN;exact Ir (BJ (n:=2) T.kY.F sc rfl (λcdv A outer s H E hr=>by
    erw[LA];decreasing_trivial))
abbrev aN:List Str:=["thing", "many", "part"]
def Rj:FnScope aN ["thing", "many"] (zK Kj):=by ∎
def TY (T:Txt K mg):Od P w base 3 T.kC Gm:=by
  erw[Gm];let sc:=Rj;exact BJ (n:=2) T.kC.F sc rfl (λcdv A outer s H E hr=>by
    erw[MD];decreasing_trivial)
abbrev dZ:List Str:=["web", "part"]
def bG:FnScope dZ ["web"] (zK KZ):=by ∎
def f6 (T:Txt K mg):Od P w base 3 T.kK IW:=by
  erw[IW];let sc:=bG;exact EN (BJ (n:=1) T.kK.F sc rfl (λcdv A outer s H E hr=>by
    erw[KN];decreasing_trivial))
abbrev XX:List Str:=["machine", "rooms", "word"]
def Wc:FnScope XX ["machine", "rooms", "word"] (zK J0):=by ∎
def V7 (T:Txt K mg):Od P w base 3 T.kR GA:=by
  erw[GA];let sc:=Wc;exact EN (BJ (n:=3) T.kR.F sc rfl (λcdv A outer s H E hr=>by
    erw[K3];decreasing_trivial))
abbrev Tu:List Str:=["_law_state", "_law_most", "_law_ways_most", "_law_rooms", "_law_ways", "_law_cuts", "_law_loose", "_law_rows", "_law_k", "_law_many", "_law_beat", "_law_room", "_law_goals", "_law_j"]
def VO:FnScope Tu ["_law_state", "_law_most", "_law_ways_most"] (zK MA):=by ∎
def SQ (T:Txt K mg):Od P w base 3 T.kX Ht:=by
  erw[Ht];let sc:=VO;exact Ir (BJ (n:=3) T.kX.F sc rfl (λcdv A outer s H E hr=>by
    erw[Kn];decreasing_trivial))
abbrev WC:List Str:=["machine", "thing", "one", "other"]
def RG:FnScope WC ["machine", "thing"] (zK KH):=by ∎
def RE (T:Txt K mg):Od P w base 4 T.kD Fy:=by
  erw[Fy];let sc:=RG;exact BJ (n:=2) T.kD.F sc rfl (λcdv A outer s H E hr=>by
    erw[IT];decreasing_trivial)
abbrev W9:List Str:=["_law_machine", "_law_word", "_law_one", "_law_part", "_law_beat", "_law_phases", "_law_room", "_law_phase", "_law_goal", "_law_left"]
def X4:FnScope W9 ["_law_machine", "_law_word", "_law_one"] (zK LU):=by ∎
def gS (T:Txt K mg):Od P w base 4 T.kZ Gv:=by
  erw[Gv];let sc:=X4;exact EN (BJ (n:=3) T.kZ.F sc rfl (λcdv A outer s H E hr=>by
    erw[Kw];decreasing_trivial))
abbrev Ro:List Str:=["web", "thing", "part", "beat", "phases"]
def WI:FnScope Ro ["web", "thing"] (zK Kq):=by ∎
def aB (T:Txt K mg):Od P w base 5 T.kM Fj:=by
  erw[Fj];let sc:=WI;exact Ir (BJ (n:=2) T.kM.F sc rfl (λcdv A outer s H E hr=>by
    erw[KS];decreasing_trivial))
abbrev dQ:List Str:=["web", "told", "thing", "rooms", "room", "part", "beat", "phases"]
def ZC:FnScope dQ ["web", "told"] (zK MC):=by ∎
def dE (T:Txt K mg):Od P w base 6 T.kN Fm:=by
  erw[Fm];let sc:=ZC;exact Ir (BJ (n:=2) T.kN.F sc rfl (λcdv A outer s H E hr=>by
    erw[Lv];decreasing_trivial))
abbrev WU:List Str:=["_law_script", "_law_state", "_law_turn", "_law_web_here", "_law_machine", "_law_row", "_law_word", "_law_k", "_law_told", "_law_one", "_law_total", "_law_beat", "_law_part", "_law_phases"]
def fR:FnScope WU ["_law_script"] (zK KC):=by ∎
def bI (T:Txt K mg):Od P w base 7 T.kAA Em:=by
  erw[Em];let sc:=fR;exact BJ (n:=1) T.kAA.F sc rfl (λcdv A outer s H E hr=>by
    erw[Km];decreasing_trivial)
end
def R4 {l:PySem.W.OpenLaw} {w:World} {K:PySem.W.Frag} {h:Heap} {mg:Str->Option Value} {fa:Addr} (X:K.In h) (G:h.Ns mainGlobals mg) (hfa:mg "law" = some (.ref fa))
    (g1:Dg K "is_whole" Lw) (g2:Dg K "is_below" MQ) (g3:Dg K "is_tuple_below" Kj) (g4:Dg K "is_set" KH) (g5:Dg K "distances" Jz) (g6:Dg K "closed_parts" Lj) (g7:Dg K "greatest_divisor" L6) (g8:Dg K "beat_of" MK) (g9:Dg K "beats" KZ) (g10:Dg K "goes_round" Li) (g11:Dg K "is_beat" Kq) (g12:Dg K "shows_beats" MC) (g13:Dg K "led" LP) (g14:Dg K "stepped" LZ) (g15:Dg K "walked" Ks) (g16:Dg K "brought" J0) (g17:Dg K "_law_begin" KO) (g18:Dg K "_law_next" LM) (g19:Dg K "_law_phased" MX) (g20:Dg K "_law_web" MA) (g21:Dg K "_law_shuffled" Lo) (g22:Dg K "_law_keeps" LU) (g23:Dg K "law" KC) (z1:Zn K "isinstance") (z2:Zn K "int") (z3:Zn K "bool") (z4:Zn K "tuple") (z5:Zn K "all") (z6:Zn K "len") (z7:Zn K "zip") (z8:Zn K "sorted") (z9:Zn K "range") (z10:Zn K "abs") (z11:Zn K "dict") (z12:Zn K "set") (z13:Zn K "max") (z14:Zn K "list") (z15:Zn K "sum") (y1:Ki K "NoneType" "int" false) (y2:Ki K "NoneType" "bool" false) (y3:Ki K "NoneType" "str" false) (y4:Ki K "NoneType" "tuple" false) (y5:Ki K "bool" "int" true) (y6:Ki K "bool" "bool" true) (y7:Ki K "bool" "str" false) (y8:Ki K "bool" "tuple" false) (y9:Ki K "int" "int" true) (y10:Ki K "int" "bool" false) (y11:Ki K "int" "str" false) (y12:Ki K "int" "tuple" false) (y13:Ki K "str" "int" false) (y14:Ki K "str" "bool" false) (y15:Ki K "str" "str" true) (y16:Ki K "str" "tuple" false) (y17:Ki K "list" "int" false) (y18:Ki K "list" "bool" false) (y19:Ki K "list" "str" false) (y20:Ki K "list" "tuple" false) (y21:Ki K "tuple" "int" false) (y22:Ki K "tuple" "bool" false) (y23:Ki K "tuple" "str" false) (y24:Ki K "tuple" "tuple" true) (y25:Ki K "dict" "int" false) (y26:Ki K "dict" "bool" false) (y27:Ki K "dict" "str" false) (y28:Ki K "dict" "tuple" false) :
    ∃ fd:FuncData,(∀ (s:Shared) (v:Value),BindsTo s fd ⟨[v],[]⟩ [("_law_script", v)]) /\ ∀ base:Heap,K.In base->base.Ns mainGlobals mg->FnOk l.prog w K mg base CX0 7 fa fd ["_law_script"] (spF K 1 Em):=by
  let e:=hfa.symm.trans (PySem.W.mg_of X G g23.a);ext e;let kinds:Kinds K:=⟨by
    intro t T ht hT;simp only[AJ,A7,Az]at ht hT;rcases ht with rfl|rfl|rfl|rfl|rfl|rfl|rfl <;> rcases hT with rfl|rfl|rfl|rfl <;> assumption⟩
  letI T:Txt K mg:=⟨g1.df X G λ_ _ _ _ _ _=>Hr λ_=>rfl,g2.df X G λ_ _ _ _ _ _=>Dl λ_ _=>rfl,g3.df X G λ_ _ _ _ _ _=>Dl λ_ _=>rfl,g4.df X G λ_ _ _ _ _ _=>Dl λ_ _=>rfl,g5.df X G λ_ _ _ _ _ _=>Dl λ_ _=>rfl,g6.df X G λ_ _ _ _ _ _=>Hr λ_=>rfl,g7.df X G λ_ _ _ _ _ _=>Dl λ_ _=>rfl,g8.df X G λ_ _ _ _ _ _=>Dl λ_ _=>rfl,g9.df X G λ_ _ _ _ _ _=>Hr λ_=>rfl,g10.df X G λ_ _ _ _ _ _=>Ff λ_ _ _=>rfl,g11.df X G λ_ _ _ _ _ _=>Dl λ_ _=>rfl,g12.df X G λ_ _ _ _ _ _=>Dl λ_ _=>rfl,g13.df X G λ_ _ _ _ _ _=>Ff λ_ _ _=>rfl,g14.df X G λ_ _ _ _ _ _=>Ff λ_ _ _=>rfl,g15.df X G λ_ _ _ _ _ _=>Ff λ_ _ _=>rfl,g16.df X G λ_ _ _ _ _ _=>Ff λ_ _ _=>rfl,g17.df X G λ_ _ _ _ _ _=>Hr λ_=>rfl,g18.df X G λ_ _ _ _ _ _=>Dl λ_ _=>rfl,g19.df X G λ_ _ _ _ _ _=>YV λ_ _ _ _ _=>rfl,g20.df X G λ_ _ _ _ _ _=>Ff λ_ _ _=>rfl,g21.df X G λ_ _ _ _ _ _=>Dl λ_ _=>rfl,g22.df X G λ_ _ _ _ _ _=>Ff λ_ _ _=>rfl,g23.df X G λ_ _ _ _ _ _=>Hr λ_=>rfl,CQ X G z1,CQ X G z2,CQ X G z3,CQ X G z4,CQ X G z5,CQ X G z6,CQ X G z7,CQ X G z8,CQ X G z9,CQ X G z10,CQ X G z11,CQ X G z12,CQ X G z13,CQ X G z14,CQ X G z15,kinds⟩;refine ⟨T.kAA.fd,λs v=> .of_eq rfl,λbase _ _=>?_⟩;calc bI (P:=l.prog) (w:=w) (base:=base) T
def Zr {l:PySem.W.OpenLaw} {q:Ym} {loose:Yk} {XP:(Str->Option Value)->Heap->Prop} {YP:World->Heap->Prop} {d:DefRec} {K:Params->PySem.W.Frag} (hn:l.most=some 63) (hdf:d.params.defaults=[])
    (hY:∀ (w:Yo) (h:Heap),YP w h->(K w.params).In h) (hL:∀ w:World,JS (K w.params)=true) (hT:∀ w:World,KL (K w.params)=true)
    (F:∀ (w:Yo) (mg:Yh) (fa:Yt) (h:Heap),(K w.params).In h->h.Ns mainGlobals mg->mg d.name=some (.ref fa) ->
      ∃ fd:FuncData,(∀ (s:Shared) (u:Value),BindsTo s fd ⟨[u],[]⟩ [("_law_script", u)]) /\ ∀ base:Heap,(K w.params).In base->base.Ns mainGlobals mg->FnOk l.prog w (K w.params) mg base CX0 7 fa fd ["_law_script"] (spF (K w.params) 1 Em)) :
    PySem.W.WalkO q loose XP YP l.row.toRowW d [] (λf vs=>PySem.call f vs) :=
  L2.Sr (n:=63) (k:=7) (x := "_law_script") (CX:=λ_=>CX0) (sp:=λw=>spF (K w.params) 1 Em) hn () hdf ⟨rfl,(),()⟩ hY F
    (λw H a ns hl hO hS=>eK (hL w) (TJ (hT w)) (dY hO) hS (S3 ns hl)) λ_ _ _ _ _ z=>z
end Lac
end
open PySem PySem.W PyProof.Rows
set_option maxRecDepth 100000 in
set_option maxHeartbeats 0 in
theorem PySem.Challenge.cw_bringhome_k59_whole_beats_bind_each_word_holds : PySem.Challenge.rw_bringhome_k59_whole_beats_bind_each_word.Holds := by
  w_on;o_law;k_head;(case hw=>w_witness2);k_fill;refine Lac.Zr (l:=PySem.Challenge.rw_bringhome_k59_whole_beats_bind_each_word) rfl rfl (λw h YY=>PySem.W.kIn_of YY) (λw=>by rfl) (λw=>by rfl) ?F
  case F=>
    intro w mg fa h KX G hmg;apply Lac.R4 KX G hmg;all_goals first|exact ⟨_,by k_is,by k_is,by k_is,by k_is⟩|(erw[L3.Zn];k_is)|(erw[L3.Ki];kit_is)|k_is
