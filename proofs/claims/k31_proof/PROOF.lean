import PyProof.Rows.All
import Wide.All
import OpenK.AllK
import Wide.FinOn
import Lean
import PyProof.EqAt
import PyProof.EqKinds
import PyProof.TupleCall
import PyProof.NeKinds
import PyProof.ZipIter
import PyProof.ListRange
import PyProof.TupleOfSeq
import PyProof.ConsumeWalk
import PyProof.IsRules
import PyProof.SetKind
import PyProof.SetRoads
import PyProof.Rows.SetFrom
import PyProof.Draws
import PyProof.EnumMake
import PyProof.DictCompW
import PyProof.ListMulRoad
import PyProof.Rows.SeqMore2
import PyProof.WalkInts
import PyProof.DictRoadsH
import PyProof.DictItems
import KE.KDictList
import PySem.Challenge.RW_bringhome_k31_whole_together_or_apart
section
open PySem
abbrev Ya:=List (List Int)
abbrev Yb:=W.Frag
abbrev Yc:=Value->Shared->Prop
abbrev Yd:=List (Addr × Obj)
abbrev Ye:=List Int
abbrev Yf:=List Value
abbrev Yg:=List Addr
abbrev Yh:=Str->Option Value
abbrev Yi:=List Expr
abbrev Yj:=List Nat
abbrev Yk:=List Str
abbrev Yl:=Shared
abbrev Ym:=Program
abbrev Yn:=Around
abbrev Yo:=World
abbrev Yp:=Array Value
abbrev Yq:=List Int->Prop
abbrev Yr:=Value->Nat
abbrev Ys:=Option Int
abbrev Yt:=Addr
abbrev Yu:=Value
abbrev Yv:=List (Str × Addr)
abbrev Yw:=Array (Int × Value)
abbrev Yx:=Result->Shared->Prop
abbrev Yy:=List Stmt
abbrev Yz:=FuncData
abbrev Y0:=Scope
abbrev Y1:=List Int->List (List Int)
abbrev Y2:=Value->Value->Sem Value
end
namespace PySem.W.Fast
def tw13276668181099144487:=0
def tw2851595483361948553:=0
def tw16007839100194660895:=0
def tw483086055988499074:=0
def tw10520068027166124903:=0
def tw4176071234814920601:=0
def tw6992802064372257778:=0
def tw11366012080336829158:=0
def tw17586745598420822041:=0
def tw6268053253613421915:=0
def tw2743313324523540813:=0
def tw8156476717605453512:=0
def tw10457289936985063021:=0
def tw171850213258458828:=0
def tw3674413835233824872:=0
def tw10074918646195431057:=0
def tw7870313531357233090:=0
def tw13964820829124049121:=0
def tw15015519721528214158:=0
def tw17644434410620897299:=0
def tw5319237181532015435:=0
def tw10053464200204487759:=0
def tw7503044337933367675:=0
def tw14503154358642384600:=0
def tw13353981762670048612:=0
def tw13144651991705755753:=0
def tw18063311155619181169:=0
def tw12700111948740823750:=0
def tw13563921689341539291:=0
def tw18064419507943945159:=0
def tw5739332324208477967:=0
def tw12868548847537761982:=0
def tw16004352505596117567:=0
def tw5353690332171770608:=0
def tw11314113936144753306:=0
def tw7729424789971649696:=0
def tw17459507511165879841:=0
def tw2232015865465718135:=0
def tw13560258143881565826:=0
def tw6264817907772303121:=0
def tw1999600614980153529:=0
def tw10239611367992488666:=0
def tw16642876341134041542:=0
def tw1697491597275964018:=0
def tw18435652518376554690:=0
def tw10892329640002275771:=0
def tw17469536597895639899:=0
def tw12866524476227573271:=0
def tw15323644802146672484:=0
def tw328169466510921789:=0
def tw7068085084793238975:=0
def tw11243039634915557253:=0
def tw14109662260062996540:=0
def tw7908266443691070374:=0
def tw13437269583844191666:=0
def tw7887065381173441611:=0
def tw13847721719600819395:=0
def tw2846944132939338999:=0
def tw13630786846310174995:=0
def tw16415768903174115716:=0
def tw16633583074128879738:=0
def tw12478980127514031216:=0
def tw15162389603930536332:=0
def tw5651204465100064846:=0
def tw2446951540349654911:=0
def tw16022613812726211100:=0
def tw16456569682789636885:=0
def tw14459051828895023167:=0
def tw13622583326446601420:=0
def tw987600242329457996:=0
def tw14011648957429630044:=0
def tw4993103363455332079:=0
def tw7136169953249350325:=0
def tw1843754779241910044:=0
def tw2296762256783965546:=0
def tw5814411906128115057:=0
def tw8811267297946018096:=0
def tw7396469699655056342:=0
def tw7082765152447467027:=0
def tw8030501934564649555:=0
def tw8749143894820272783:=0
def tw2033491495962498877:=0
def tw3961943356043240617:=0
def tw5464267031400026333:=0
def tw5683469331042143478:=0
def tw10266749146350085875:=0
def tw12312177730368065568:=0
def tw3776423170034725066:=0
def tw2698265833670261562:=0
def tw3779648688646896657:=0
def tw13873098134111157400:=0
def tw17077492592760008434:=0
def tw16057841523473284956:=0
def tw12004328970312468820:=0
def tw138227465146899412:=0
def tw8340828472321350537:=0
def tw11509576648413810674:=0
def tw14049285327514350142:=0
def tw11009462793723712532:=0
def tw17380530103839549750:=0
def tw16437565997421876521:=0
def tw14575046321450459210:=0
def tw8075002082771795002:=0
def tw11893873414183639619:=0
def tw4962727788847164693:=0
def tw1016374368530382214:=0
def tw16963218341723184432:=0
def tw17189208687327010042:=0
def tw9733873495465574797:=0
def tw12684504186784109692:=0
def tw14472168203169249120:=0
def tw13989767284913173198:=0
def tw7737556609715409903:=0
def tw1232271833057833930:=0
def tw633034706456411465:=0
def tw5446884538595963687:=0
def tw7931374808980723762:=0
def tw14897715149331780603:=0
def tw7382155721280237185:=0
def tw7063184861947939174:=0
def tw326496614453179755:=0
def tw1884582828267098836:=0
def tw6928923777361478644:=0
def tw3505581769269274215:=0
def tw14128214691685440696:=0
def tw7685453315100812137:=0
def tw4754337687392007194:=0
def tw8484036810115406474:=0
def tw13140024867169067780:=0
def tw8806490948231217011:=0
def tw17752179123332969498:=0
def tw6654285017296124732:=0
def tw17334757437714636944:=0
def tw15953542146261852707:=0
def tw1885931049741019287:=0
def tw10724435470819306767:=0
def tw7366987399648993943:=0
def tw3713247491219158183:=0
def tw7417158352902497567:=0
def tw11350723042144828485:=0
def tw17275471945068000126:=0
def tw15341684076182498757:=0
def tw8616729207201343502:=0
def tw7450709133769143244:=0
def tw1580672278375328549:=0
def tw6622974102661847052:=0
def tw7853994757674631345:=0
def tw6758225584081492183:=0
def tw7951472620915600120:=0
def tw10080615140994728611:=0
def tw13857273723851517796:=0
def tw14528565996100001449:=0
def tw2680411424058382897:=0
def tw5881584522424132428:=0
def tw2470740943219092177:=0
def tw16295809060429627408:=0
def tw12292022627138546599:=0
def tw5334618118039270325:=0
def tw14116144993768761436:=0
def tw9286507917232498522:=0
end PySem.W.Fast
section
open PySem PySem.Spec PyProof.Rows
def AA:type_of% @wpAny_bind:=@wpAny_bind
def AJ:type_of% @Heap.get?_push_of_some:=@Heap.get?_push_of_some
def AD:type_of% @wpAny_pure:=@wpAny_pure
def AK:type_of% @List.getElem?_eq_some_iff:=@List.getElem?_eq_some_iff
def AS:type_of% @List.getElem?_eq_getElem:=@List.getElem?_eq_getElem
def BW:type_of% @List.getD_eq_getElem?_getD:=@List.getD_eq_getElem?_getD
def AF:type_of% @Nat.le_refl:=@Nat.le_refl
def AW:type_of% @List.getElem?_append_left:=@List.getElem?_append_left
def AR:type_of% @List.size_toArray:=@List.size_toArray
def AG:type_of% @List.length_map:=@List.length_map
def AV:type_of% @Heap.get?_push_size:=@Heap.get?_push_size
def AH:type_of% @Heap.lt_size:=@Heap.lt_size
def AI:type_of% @List.mem_cons:=@List.mem_cons
def Am:type_of% @List.mem_cons_of_mem:=@List.mem_cons_of_mem
def Ad:type_of% @List.mem_cons_self:=@List.mem_cons_self
def AB:type_of% @if_pos:=@if_pos
def An:type_of% @List.length_append:=@List.length_append
def Ag:type_of% @List.mem_map:=@List.mem_map
def AE:type_of% @if_neg:=@if_neg
def AX:type_of% @List.map_cons:=@List.map_cons
def Ah:type_of% @List.mem_append_right:=@List.mem_append_right
def Ab:type_of% @Nat.ne_of_lt:=@Nat.ne_of_lt
def BA:type_of% @Bool.false_ne_true:=@Bool.false_ne_true
def Az:type_of% @List.getElem?_map:=@List.getElem?_map
def Ae:type_of% @List.map_map:=@List.map_map
def BB:type_of% @Nat.lt_of_lt_of_le:=@Nat.lt_of_lt_of_le
def Ai:type_of% @List.mem_append:=@List.mem_append
def AZ:type_of% @Nat.le_trans:=@Nat.le_trans
def Aq:type_of% @List.mem_singleton:=@List.mem_singleton
def A9:type_of% @wpAny_newObj_type:=@wpAny_newObj_type
def A8:type_of% @List.getElem?_set_ne:=@List.getElem?_set_ne
def BU:type_of% @List.not_mem_nil:=@List.not_mem_nil
def AN:type_of% @wpAny_mono:=@wpAny_mono
def Ba:type_of% @List.length_cons:=@List.length_cons
def Bg:type_of% @List.getElem_mem:=@List.getElem_mem
def AU:type_of% @decide_eq_false:=@decide_eq_false
def A6:type_of% @Bool.and_eq_true:=@Bool.and_eq_true
def A0:type_of% @List.all_eq_true:=@List.all_eq_true
def CD:type_of% @wpAny_callSpecial?_slot:=@wpAny_callSpecial?_slot
def BI:type_of% @wpAny_call_entry:=@wpAny_call_entry
def Bo:type_of% @List.mem_range:=@List.mem_range
def Bc:type_of% @wpAny_field:=@wpAny_field
def Bv:type_of% @Heap.size_push:=@Heap.size_push
def D2:type_of% @Heap.get?_update_other:=@Heap.get?_update_other
def BV:type_of% @Nat.lt_irrefl:=@Nat.lt_irrefl
def BK:type_of% @Array.length_toList:=@Array.length_toList
def BF:type_of% @List.append_nil:=@List.append_nil
def Cd:type_of% @Array.getElem?_eq_getElem:=@Array.getElem?_eq_getElem
def BQ:type_of% @Nat.zero_le:=@Nat.zero_le
def D4:type_of% @Heap.get?_update_self:=@Heap.get?_update_self
def Cn:type_of% @Nat.lt_succ_of_lt:=@Nat.lt_succ_of_lt
def D3:type_of% @wpAny_seqItems:=@wpAny_seqItems
def FJ:type_of% @List.mem_of_getElem?:=@List.mem_of_getElem?
def CK:type_of% @List.map_append:=@List.map_append
def B2:type_of% @wpAny_holding:=@wpAny_holding
def C2:type_of% @List.getElem?_set_self:=@List.getElem?_set_self
def CQ:type_of% @of_decide_eq_true:=@of_decide_eq_true
def Dq:type_of% @Nat.lt_succ_self:=@Nat.lt_succ_self
def B1:type_of% @wpAny_standAt:=@wpAny_standAt
def Co:type_of% @PySem.W.mg_none_of:=@PySem.W.mg_none_of
def B0:type_of% @Option.some.inj:=@Option.some.inj
def CV:type_of% @Bool.false_eq_true:=@Bool.false_eq_true
def Cu:type_of% @PySem.mem_of_lookup:=@PySem.mem_of_lookup
def C5:type_of% @Heap.SameBut.update:=@Heap.SameBut.update
def Cf:type_of% @List.cons.inj:=@List.cons.inj
def BL:type_of% @List.append_assoc:=@List.append_assoc
def AO:type_of% @decide_eq_true:=@decide_eq_true
def FV:type_of% @List.getElem?_eq_none:=@List.getElem?_eq_none
def DV:type_of% @List.getElem?_append_right:=@List.getElem?_append_right
def C9:type_of% @List.mem_filter:=@List.mem_filter
def EL:type_of% @wpAny_truthy_bool:=@wpAny_truthy_bool
def CA:type_of% @decide_eq_true_eq:=@decide_eq_true_eq
def DS:type_of% @List.nodup_append:=@List.nodup_append
def CS:type_of% @List.mem_append_left:=@List.mem_append_left
def DR:type_of% @wpAny_setField_rec:=@wpAny_setField_rec
def Dp:type_of% @Obj.data_mapFields:=@Obj.data_mapFields
def EK:type_of% @List.nodup_cons:=@List.nodup_cons
def Be:type_of% @or_false:=@or_false
def BY:type_of% @wpAny_rule:=@wpAny_rule
def CG:type_of% @List.length_take:=@List.length_take
def Es:type_of% @List.pairwise_map:=@List.pairwise_map
def D7:type_of% @List.length_nil:=@List.length_nil
def Cz:type_of% @Nat.ne_of_gt:=@Nat.ne_of_gt
def Fx:type_of% @List.take_of_length_le:=@List.take_of_length_le
def Ga:type_of% @PyProof.Rows.slot_tuple_getitem:=@PyProof.Rows.slot_tuple_getitem
def D5:type_of% @List.getElem?_set:=@List.getElem?_set
def DL:type_of% @wpAny_attempt:=@wpAny_attempt
def Eh:type_of% @Nat.mul_le_mul:=@Nat.mul_le_mul
def Dl:type_of% @PySem.W.kia_one:=@PySem.W.kia_one
def Bj:type_of% @Array.getElem?_toList:=@Array.getElem?_toList
def DC:type_of% @Nat.le_succ:=@Nat.le_succ
def Dn:type_of% @wpAny_setField:=@wpAny_setField
def Ec:type_of% @List.find?_cons:=@List.find?_cons
def BJ:type_of% @congrArg:=@congrArg
def GF:type_of% @List.set_append_right:=@List.set_append_right
def Ge:type_of% @wpAny_comprehension_free:=@wpAny_comprehension_free
def ET:type_of% @List.length_range:=@List.length_range
def FQ:type_of% @List.length_eq_zero_iff:=@List.length_eq_zero_iff
def Ep:type_of% @List.getElem_of_mem:=@List.getElem_of_mem
def FN:type_of% @List.lookup_cons:=@List.lookup_cons
def DY:type_of% @List.pairwise_cons:=@List.pairwise_cons
def Fu:type_of% @List.length_filter_le:=@List.length_filter_le
def Dj:type_of% @List.length_drop:=@List.length_drop
def DW:type_of% @List.take_append_drop:=@List.take_append_drop
def DB:type_of% @Nat.le_of_lt:=@Nat.le_of_lt
end
set_option Elab.async false
set_option linter.all false
set_option maxRecDepth 100000
set_option genSizeOf false
set_option genInjectivity false
set_option compiler.extract_closed false
noncomputable section
section
open PySem PySem.Spec PyProof.Rows
namespace L2
noncomputable abbrev Key:=Sum Int Str
noncomputable def Gu:Key->Value->Bool
 |.inl k,v=>Value.isInt k v
 |.inr x,v=>Value.isStrOf x v
noncomputable def TM (w:Yo):Key->Int
 |.inl k=>hashInt k
 |.inr x=>hashStr w x
def EO:∀ {k:Key} {v:Yu},Gu k v=true->(∃ i t,k=Sum.inl i/\v=Value.int i t)\/(∃ x t,k=Sum.inr x/\v=Value.str x t)
 |.inl i,v,h=>by
  obtain ⟨t,e⟩:=Value.isInt_shape (k:=i) (v:=v) h;exact .inl ⟨i,t,rfl,e⟩
 |.inr x,v,h=>by
  obtain ⟨t,e⟩:=Value.isStrOf_shape (x:=x) (v:=v) h;exact .inr ⟨x,t,rfl,e⟩
def V4 (i:Int) (t:Tok):Gu (.inl i) (.int i t)=true:=by simp[Gu,Value.isInt]
def Ua (x:Str) (t:Tok):Gu (.inr x) (.str x t)=true:=by simp[Gu,Value.isStrOf]
def Wm (a b:Int):decide ((Sum.inl a:Key)=Sum.inl b)=(a==b):=by
 by_cases e:a=b
 .subst e;simp
 .have h:¬ (Sum.inl a:Key)=Sum.inl b:=λq=>e (Sum.inl.inj q);rw[AU h];exact (beq_eq_false_iff_ne.mpr e).symm
def Xt (a b:Str):decide ((Sum.inr a:Key)=Sum.inr b)=decide (a=b):=by
 by_cases e:a=b
 .subst e;simp
 .have h:¬ (Sum.inr a:Key)=Sum.inr b:=λq=>e (Sum.inr.inj q);rw[AU h,AU e]
def jT (a:Int) (b:Str):decide ((Sum.inl a:Key)=Sum.inr b)=false:=AU (λq=>nomatch q)
def Xy (a:Str) (b:Int):decide ((Sum.inr a:Key)=Sum.inl b)=false:=AU (λq=>nomatch q)
noncomputable def Bb (prog:Ym) (w:Yo):PySem.KeyKind prog w Key where
 is:=Gu
 hash:=TM w
 inj:=λv a b ha hb=>by
  rcases EO ha with ⟨i,t,rfl,rfl⟩|⟨x,t,rfl,rfl⟩
  .rcases EO hb with ⟨j,u,rfl,e⟩|⟨y,u,rfl,e⟩
   .injection e with e1 _;rw[e1]
   .exact nomatch e
  .rcases EO hb with ⟨j,u,rfl,e⟩|⟨y,u,rfl,e⟩
   .exact nomatch e
   .injection e with e1 _;rw[e1]
 byValue:=λk v h=>by
  rcases EO h with ⟨i,t,rfl,rfl⟩|⟨x,t,rfl,rfl⟩ <;> rfl
 pyHash:=λhv h=>by
  rcases EO hv with ⟨i,t,rfl,rfl⟩|⟨x,t,rfl,rfl⟩
  .exact wpAny_pyHash_int h
  .exact wpAny_pyHash_str h
 eqBool:=λhu hv h=>by
  rcases EO hu with ⟨i,t,rfl,rfl⟩|⟨x,t,rfl,rfl⟩
  .rcases EO hv with ⟨j,u,rfl,rfl⟩|⟨y,u,rfl,rfl⟩
   .rw[Wm]at h;exact wpAny_eqBool_int h
   .rw[jT]at h;exact SeqAt.EqAt.int_str i t y u _ _ _ _ h
  .rcases EO hv with ⟨j,u,rfl,rfl⟩|⟨y,u,rfl,rfl⟩
   .rw[Xy]at h;exact SeqAt.EqAt.str_int x t j u _ _ _ _ h
   .rw[Xt]at h;exact wpAny_eqBool_str h
 «strs»:=λk x t v h=>by
  rcases EO h with ⟨i,u,rfl,e⟩|⟨y,u,rfl,e⟩
  .exact nomatch e
  .injection e with e1 _
   subst e1
   cases v <;> rfl
def d4 (prog:Ym) (w:Yo) (i:Int) (t:Tok):(Bb prog w).is (.inl i) (.int i t)=true:=V4 i t
def Xi (prog:Ym) (w:Yo) (x:Str) (t:Tok):(Bb prog w).is (.inr x) (.str x t)=true:=Ua x t
set_option genInjectivity true in
inductive V where
 |non|bl (b:Bool)|int (i:Int)|str (x:Str)|byt (b:Array UInt8)|flt (b:UInt64)|ref (a:Yt)|ty (n:String)
 deriving DecidableEq
def zj:V->Value->Prop
 |.non,u=>u=Value.none
 |.bl b,u=>u=Value.bool b
 |.int i,u=>∃ t,u=Value.int i t
 |.str x,u=>∃ t,u=Value.str x t
 |.byt b,u=>∃ t,u=Value.bytes b t
 |.flt b,u=>∃ t,u=Value.float b t
 |.ref a,u=>u=Value.ref a
 |.ty n,u=>u=Value.type n
abbrev zY:List V->List Value->Prop:=Paired zj
def zY.length {xs:List V} {us:Yf} (r:zY xs us):xs.length=us.length:=Paired.length r
def zY.get:∀ {xs:List V} {us:Yf} {i:Nat} {x:V},zY xs us->xs[i]?=some x -> ∃ u,us[i]?=some u/\zj x u
 |_,_,_,_,.nil,e=>by simp at e
 |_,_,0,_,.cons r _,e=>by simp at e;subst e;exact ⟨_,rfl,r⟩
 |_,_,i+1,x,.cons _ t,e=>by
  obtain ⟨u,h1,h2⟩:=zY.get (i:=i) (x:=x) t (by simpa using e);exact ⟨u,by simpa using h1,h2⟩
def zY.set {x:V} {u:Yu} (r:zj x u):∀ {xs:List V} {us:Yf} (i:Nat),zY xs us->zY (xs.set i x) (us.set i u)
 |_,_,_,.nil=> .nil
 |_,_,0,.cons _ t=> .cons r t
 |_,_,i+1,.cons q t=> .cons q (zY.set r i t)
def zY.append:∀ {xs ys:List V} {us ws:Yf},zY xs us->zY ys ws->zY (xs++ys) (us++ws)
 |_,_,_,_,.nil,s=>s
 |_,_,_,_,.cons r t,s=> .cons r (zY.append t s)
def zY.take:∀ {xs:List V} {us:Yf} (n:Nat),zY xs us->zY (xs.take n) (us.take n)
 |_,_,0,_=> .nil
 |_,_,_+1,.nil=> .nil
 |_,_,n+1,.cons r t=> .cons r (zY.take n t)
def zY.drop:∀ {xs:List V} {us:Yf} (n:Nat),zY xs us->zY (xs.drop n) (us.drop n)
 |_,_,0,r=>r
 |_,_,_+1,.nil=> .nil
 |_,_,n+1,.cons _ t=>zY.drop n t
def C3:Option V->Option Value->Prop
 |some v,some u=>zj v u
 |none,none=>True
 |_,_=>False
def KV {κ:Type}:List (κ × V)->List (κ × Value)->Prop:=Paired λ(p:κ × V) (q:κ × Value)=>p.1=q.1/\zj p.2 q.2
noncomputable def kV:Key->V
 |.inl i=> .int i
 |.inr x=> .str x
set_option genInjectivity true in
inductive HO where
 |lst (xs:List V)
 |tup (xs:List V)
 |dK (kvs:List (Key × V))|dT (kvs:List (List Key × V))
 |set (S:Int->Bool) (n:Nat)
 |ins (C dx:Yt) (fs:List (Str × V))
 |own (x:Yt)
 |xd (fs:List (Str × V))
 |met (f x:Yt)
 |rng (lo hi:Int)
 |frz (o:Obj) (u:HO)
 |tbl (ps:Yp)
 |ext (φ:Heap->Prop)
noncomputable abbrev Hp:=Addr->Option HO
noncomputable def upd (H:Hp) (a:Yt) (o:HO):Hp:=λb=>if b=a then some o else H b
def zr {H:Hp} {a:Yt} {o:HO}:upd H a o a=some o:=by unfold upd;rw[AB rfl]
def zT {H:Hp} {a b:Yt} {o:HO} (h:b≠a):upd H a o b=H b:=by unfold upd;rw[AE h]
def Fo {H:Hp} {a b:Yt} {o u:HO} (h:H a=some o) (h':H b=some u) (d:o≠u):a≠b:=by
 intro e;subst e;rw[h]at h';exact d (B0 h')
def zv {H:Hp} {a b:Yt} {o:HO} (h:H a=some o) (h':H b=none):a≠b:=by
 intro e;subst e;rw[h]at h';cases h'
def Du (h:Heap) (a:Addr) (items:Array Value):Prop:=∃ o,h.get? a=some o/\o.cls=.type "tuple" /\ (∃ n,o.data=.seq items n)/\o.dict=none
def Du.tup {h:Heap} {a:Yt} {items:Yp} (x:Du h a items):IsTup h a items:=let ⟨o,e,c,d,_⟩:=x;⟨o,e,c,d⟩
def Du.lt {h:Heap} {a:Yt} {items:Yp} (x:Du h a items):a<h.objs.size:=let ⟨_,e,_⟩:=x;AH e
def Du.new (h:Heap) (items:Array Value):Du (h.push { cls:=.type "tuple", data:=.seq items }) h.objs.size items:=⟨_,AV _ rfl,rfl,⟨_,rfl⟩,rfl⟩
section
variable (P:Ym) (w:Yo)
def z0 (H:Hp) (h:Heap) (a:Yt):HO->Prop
 |.lst xs=>xs.length<=sizeLine /\ ∃ (its:List Value) (n:Nat),zY xs its/\h.get? a=some { cls:=.type "list", data:=.seq its.toArray n }
 |.tup xs=>xs.length<=sizeLine /\ ∃ its:List Value,zY xs its/\Du h a its.toArray
 |.dK kvs=>kvs.length<=sizeLine/\(a==sysModules)=false /\ ∃ vs,KV kvs vs/\h.DictOf (Bb P w) a vs
 |.dT kvs=>kvs.length<=sizeLine/\(a==sysModules)=false /\ ∃ xs:List (List Key × Addr × Value),
   Paired (λ(p:List Key × V) (q:List Key × Addr × Value)=>p.1=q.1/\H q.2.1=some (.tup (p.1.map kV))/\zj p.2 q.2.2) kvs xs /\
   ∃ o es ep,h.get? a=some o/\o.ExactDict/\o.data=.dict es ep/\es.toList=xs.map (entryOfKey (tupleKind (Bb P w)))/\(xs.map (·.1)).Nodup
 |.set S n=>h.SetOf (intKind P w) a S n
 |.ins C dx fs=>H dx=some (.own a)/\fs.length<=1000/\dx≠a/\h.get? a=some (PySem.W.instObj C dx) /\
   ∃ mA,h.Ns1 dx mA/\(∀ f,C3 (fs.lookup f) (mA f))/\PySem.Within mA (fs.map (·.1))
 |.own _=>∃ o,h.get? a=some o
 |.xd fs=>∃ mA,h.Ns1 a mA /\ ∀ f,C3 (fs.lookup f) (mA f)
 |.rng lo hi=>∃ t u v,h.get? a=some { cls:=.type "range", data:=.fields #[.int lo t,.int hi u,.int 1 v] }
 |.frz o u=>h.get? a=some o/\z0 H h a u
 |.tbl ps=>h.get? a=some { cls:=.none,data:=.fields ps }
 |.met f x=>h.get? a=some (PySem.W.methodObj (.ref f) (.ref x))
 |.ext φ=>φ h/\(∃ o,h.get? a=some o) /\ ∀ h1 h2:Heap,φ h1->(∀ o,h1.get? a=some o->h2.get? a=some o)->φ h2
def HOk (H:Hp) (h:Heap):Prop:=∀ a o,H a=some o->z0 P w H h a o
end
section
variable {P:Ym} {w:Yo} {H H':Hp} {h h':Heap} {a:Yt} {o:HO}
def z0.lt (x:z0 P w H h a o):a<h.objs.size:=by
 cases o with
 |lst xs=>obtain ⟨_,_,_,_,e⟩:=x;exact AH e
 |tup xs=>obtain ⟨_,_,_,p⟩:=x;exact p.lt
 |dK kvs=>obtain ⟨_,_,_,_,o,_,_,e,_⟩:=x;exact AH e
 |dT kvs=>obtain ⟨_,_,_,_,o,_,_,e,_⟩:=x;exact AH e
 |set S n=>obtain ⟨o,_,_,_,e,_⟩:=x;exact AH e
 |ins C dx fs=>obtain ⟨_,_,_,e,_⟩:=x;exact AH e
 |own y=>obtain ⟨_,e⟩:=x;exact AH e
 |xd fs=>obtain ⟨_,⟨_,_,_,e,_⟩,_⟩:=x;exact AH e
 |rng lo hi=>obtain ⟨_,_,_,e⟩:=x;exact AH e
 |frz ob u=>obtain ⟨e,_⟩:=x;exact AH e
 |tbl ps=>exact AH (show h.get? a=some _ from x)
 |met f y=>exact AH (show h.get? a=some _ from x)
 |ext φ=>obtain ⟨_,⟨_,e⟩,_⟩:=x;exact AH e
def Paired.mapP {α β:Type} {F G:α->β->Prop}:∀ {l₁:List α} {l₂:List β},Paired F l₁ l₂->(∀ a b,F a b->G a b)->Paired G l₁ l₂
 |_,_,.nil,_=> .nil
 |_,_,.cons r t,f=> .cons (f _ _ r) (Paired.mapP t f)
def z0.stay (x:z0 P w H h a o) (k:∀ b u,(b=a\/H b=some (.own a))->h.get? b=some u->h'.get? b=some u)
  (ho:∀ b,H b=some (.own a)->H' b=some (.own a)) (ht:∀ b xs,H b=some (.tup xs)->H' b=some (.tup xs)):z0 P w H' h' a o:=by
 induction o with
 |lst xs=>obtain ⟨z,its,n,r,e⟩:=x;exact ⟨z,its,n,r,k _ _ (.inl rfl) e⟩
 |tup xs=>obtain ⟨z,its,r,ob,e,c⟩:=x;exact ⟨z,its,r,ob,k _ _ (.inl rfl) e,c⟩
 |dK kvs=>obtain ⟨z,y,vs,r,ob,es,ep,e,c⟩:=x;exact ⟨z,y,vs,r,ob,es,ep,k _ _ (.inl rfl) e,c⟩
 |dT kvs=>
  obtain ⟨z,y,xs,r,ob,es,ep,e,c⟩:=x;exact ⟨z,y,xs,Paired.mapP r λp q z=>⟨z.1,ht _ _ z.2.1,z.2.2⟩,ob,es,ep,k _ _ (.inl rfl) e,c⟩
 |set S n=>obtain ⟨ob,es,ep,t,e,c⟩:=x;exact ⟨ob,es,ep,t,k _ _ (.inl rfl) e,c⟩
 |ins C dx fs=>
  obtain ⟨d,z,ne,e,mA,⟨od,es,ep,e2,c⟩,r⟩:=x;exact ⟨ho _ d,z,ne,k _ _ (.inl rfl) e,mA,⟨od,es,ep,k _ _ (.inr d) e2,c⟩,r⟩
 |own y=>obtain ⟨ob,e⟩:=x;exact ⟨ob,k _ _ (.inl rfl) e⟩
 |xd fs=>obtain ⟨mA,⟨od,es,ep,e,c⟩,r⟩:=x;exact ⟨mA,⟨od,es,ep,k _ _ (.inl rfl) e,c⟩,r⟩
 |rng lo hi=>obtain ⟨t,u,v,e⟩:=x;exact ⟨t,u,v,k _ _ (.inl rfl) e⟩
 |frz ob u ih=>obtain ⟨e,q⟩:=x;exact ⟨k _ _ (.inl rfl) e,ih q⟩
 |tbl ps=>
  have e:h.get? a=some { cls:=.none,data:=.fields ps }:=x;show h'.get? a=some { cls:=.none,data:=.fields ps };exact k a _ (.inl rfl) e
 |met f y=>
  have e:h.get? a=some (PySem.W.methodObj (.ref f) (.ref y)):=x;show h'.get? a=some (PySem.W.methodObj (.ref f) (.ref y));exact k a _ (.inl rfl) e
 |ext φ=>obtain ⟨p,⟨o,e⟩,st⟩:=x;exact ⟨st _ _ p λo q=>k _ _ (.inl rfl) q,⟨o,k _ _ (.inl rfl) e⟩,st⟩
def HOk.lt (x:HOk P w H h) (e:H a=some o):a<h.objs.size:=(x a o e).lt
def HOk.fresh (x:HOk P w H h) (e:h.objs.size<=a):H a=none:=by
 cases q:H a with
 |none=>rfl
 |some u=>exact absurd (BB (x.lt q) e) (BV _)
def HOk.kept (x:HOk P w H h) (k:∀ b u,h.get? b=some u->h'.get? b=some u):HOk P w H h':=λa o e=>
 (x a o e).stay (λb u _ q=>k b u q) (λ_ q=>q) λ_ _ q=>q
def HOk.laid (x:HOk P w H h) (k:∀ b u,h.get? b=some u->h'.get? b=some u) (hp:h.objs.size<=a) (new:z0 P w (upd H a o) h' a o):HOk P w (upd H a o) h':=λb u e=>by
 have hn:=x.fresh hp;by_cases hb:b=a
 .subst hb;rw[zr]at e;cases e;exact new
 .rw[zT hb]at e;exact (x b u e).stay (λc v _ q=>k c v q) (λc q=>by rw[zT (zv q hn)];exact q) λc xs q=>by rw[zT (zv q hn)];exact q
end
def Rd (H:Hp) (a:Yt) (u:HO):Prop:=H a=some u \/ ∃ o,H a=some (.frz o u)
def Rd.ok {P:Ym} {w:Yo} {H:Hp} {h:Heap} {a:Yt} {u:HO} (r:Rd H a u) (x:HOk P w H h):z0 P w H h a u:=by
 rcases r with r|⟨o,r⟩
 .exact x a u r
 .obtain ⟨_,q⟩:=x a _ r;exact q
def Mut:Option HO->Prop
 |some (.lst _)=>True
 |some (.dK _)=>True
 |some (.dT _)=>True
 |some (.set _ _)=>True
 |some (.ins _ _ _)=>True
 |some (.ext _)=>True
 |_=>False
section
variable {P:Ym} {w:Yo} {H:Hp} {h h':Heap} {x e:Yt} {o':HO}
def HOk.write (ok:HOk P w H h) (mu:Mut (H x)) (he:e=x\/H e=some (.own x)) (k:∀ b u,b≠e->h.get? b=some u->h'.get? b=some u) (heo:∃ u,h'.get? e=some u)
  (new:z0 P w (upd H x o') h' x o'):HOk P w (upd H x o') h':=λb u q=>by
 have nown:∀ c y,H c=some (.own y)->c≠x:=λc y r z=>by subst z;rw[r]at mu;exact mu
 have ntup:∀ c xs,H c=some (.tup xs)->c≠x:=λc xs r z=>by subst z;rw[r]at mu;exact mu
 by_cases hb:b=x
 .subst hb;rw[zr]at q;cases q;exact new
 .rw[zT hb]at q;by_cases hbe:b=e
  .have q':H b=some (.own x):=by
    rcases he with z|z
    .exact absurd (hbe.trans z) hb
    .rw[hbe];exact z
   rw[q]at q';cases q';obtain ⟨v,hv⟩:=heo;exact ⟨v,by rw[hbe];exact hv⟩
  .refine (ok b u q).stay (λc v hc r=>k c v ?_ r) (λc r=>by rw[zT (nown c b r)];exact r) λc xs r=>by rw[zT (ntup c xs r)];exact r
   rcases hc with rfl|hc
   .exact hbe
   .rintro rfl;rcases he with z|z
    .exact nown c b hc z
    .rw[hc]at z;cases z;exact hb rfl
end
structure Un (fs ex:Yg) (H H':Hp) (h h':Heap):Prop where
 keep:∀ b o,h.get? b=some o->H b=none->b∉fs->b∉ex->h'.get? b=some o
 slot:∀ b o,h.get? b=some o->H b=none->b∈fs->b∉ex -> ∃ sl,h'.get? b=some { o with slots:=sl }
 free:∀ b o,h.get? b=some o->H b=none->b∉ex->H' b=none
 there:∀ b o,h.get? b=some o->b∉ex -> ∃ o',h'.get? b=some o'
 tups:∀ b xs,H b=some (.tup xs)->H' b=some (.tup xs)
 frzs:∀ b o u,H b=some (.frz o u)->H' b=some (.frz o u)
 tbls:∀ b ps,H b=some (.tbl ps) -> ∃ more,H' b=some (.tbl (ps++more))
section
variable {fs fs' ex ex':Yg} {H H1 H2:Hp} {h h1 h2 h':Heap} {a x e:Yt} {o:HO}
def Un.any (u:Un fs ex H H1 h h1) {b:Yt} {ob:Obj} (q:h.get? b=some ob) (n:H b=none) (hx:b∉ex):∃ sl,h1.get? b=some { ob with slots:=sl }:=by
 by_cases hb:b∈fs
 .exact u.slot b ob q n hb hx
 .exact ⟨ob.slots,u.keep b ob q n hb hx⟩
def Un.kept (k:∀ b u,h.get? b=some u->h'.get? b=some u):Un fs ex H H h h' :=
 ⟨λb ob q _ _ _=>k b ob q,λb ob q _ _ _=>⟨ob.slots,k b ob q⟩,λ_ _ _ n _=>n,λb ob q _=>⟨ob,k b ob q⟩,λ_ _ q=>q,λ_ _ _ q=>q,λ_ ps q=>⟨#[],by rw[q];simp⟩⟩
def Un.refl:Un fs ex H H h h:=Un.kept λ_ _ q=>q
def Un.laid (k:∀ b u,h.get? b=some u->h'.get? b=some u) (hp:h.objs.size<=a) (hn:H a=none):Un fs ex H (upd H a o) h h' where
 keep:=λb u q _ _ _=>k b u q;slot:=λb u q _ _ _=>⟨u.slots,k b u q⟩;free:=λb u q n _=>by rw[zT (Ab (BB (AH q) hp))];exact n
 there:=λb u q _=>⟨u,k b u q⟩;tups:=λb xs q=>by rw[zT (zv q hn)];exact q
 frzs:=λb u xs q=>by rw[zT (zv q hn)];exact q
 tbls:=λb ps q=>⟨#[],by rw[zT (zv q hn),q];simp⟩
def Un.write (mu:Mut (H x)) (he:e=x\/H e=some (.own x)) (k:∀ b u,b≠e->h.get? b=some u->h'.get? b=some u) (heo:∃ u,h'.get? e=some u):Un fs ex H (upd H x o) h h':=by
 have hx:∀ b,H b=none->b≠x:=λb n z=>by subst z;rw[n]at mu;exact mu
 have hb:∀ b,H b=none->b≠e:=λb n z=>by
  subst z;rcases he with r|r
  .exact hx b n r
  .rw[n]at r;cases r
 have hm:∀ b u,H b=some u -> ¬ Mut (some u)->b≠x:=λb u q nm z=>by subst z;rw[q]at mu;exact nm mu
 refine ⟨λb u q n _ _=>k b u (hb b n) q,λb u q n _ _=>⟨u.slots,k b u (hb b n) q⟩,λb u q n _=>by rw[zT (hx b n)];exact n,λb u q _=>?_,
  λb xs q=>by rw[zT (hm b _ q λz=>z)];exact q,λb u xs q=>by rw[zT (hm b _ q λz=>z)];exact q,λb ps q=>⟨#[],by rw[zT (hm b _ q λz=>z),q];simp⟩⟩
 by_cases hbe:b=e
 .subst hbe;exact heo
 .exact ⟨u,k b u hbe q⟩
end
noncomputable def trk (h:Heap) (H:Hp):List Addr:=(List.range h.objs.size).filter λa=>(H a).isSome
noncomputable def EY (h:Heap) (H:Hp):Heap:=PySem.W.hideAll h (trk h H)
def ZF (h:Heap) (H:Hp):(EY h H).objs.size=h.objs.size:=PySem.W.hideAll_size _ _
def SF {h:Heap} {H:Hp} {b:Yt} {o:Obj} (e:h.get? b=some o) (n:H b=none):(EY h H).get? b=some o :=
 PySem.W.hideAll_get _ e λhm=>by
  have q:(H b).isSome=true:=(C9.mp hm).2;rw[n]at q;simp at q
def WH {h:Heap} {H:Hp} {b:Yt} {o:Obj} (e:(EY h H).get? b=some o):h.get? b=some o/\H b=none:=by
 have e':h.get? b=some o:=PySem.W.of_hideAll (trk h H) e;refine ⟨e',?_⟩;cases q:H b with
 |none=>rfl
 |some x=>
  have hm:b∈trk h H:=C9.mpr ⟨Bo.mpr (AH e'),by simp[q]⟩;have z:(EY h H).get? b=none:=PySem.W.hideAll_none (trk h H) hm;rw[z]at e;cases e
structure Mod (K:Yb) (mg:Yh) (base:Heap):Prop where
 kin:K.In base
 glob:base.Ns mainGlobals mg
 blt:∃ mb,base.Ns builtinsNs mb /\ ∀ x:Str,x ≠ "__name__" -> mb x=bootBuiltins x
 nolimit:base.NoLimit
structure Cx where
 prog:Program
 w:World
 K:PySem.W.Frag
 mg:Str->Option Value
 base:Heap
 A:Around
 N:List Str
 s₀:Shared
 H₀:Hp
 env:Env
 outer:List Env
 stack:List Env
 ex:List Addr
 fn:Str->Bool
 calm:Bool
 pn:List (Addr × Obj)
 xe:Value->Shared->Prop
noncomputable def frs (l:List Env):List Addr:=l.filterMap (·.frame)
noncomputable abbrev Cx.fs (X:Cx):List Addr:=frs X.outer
def Vis (sc:Y0) (x:Str):Prop:=sc.names.lookup x=some .local\/sc.names.lookup x=some .cell\/sc.names.lookup x=some .free
def Loc (sc:Y0) (x:Str):Prop:=sc.names.lookup x=some .local\/sc.names.lookup x=some .cell
def jL (env:Env) (h:Heap) (m:Yh) (x:Str) (u:Yu):Prop :=
 (env.kindOf x=some .local/\m x=some u)\/((env.kindOf x=some .cell\/env.kindOf x=some .free) /\ ∃ c,env.cells.lookup x=some c/\h.IsCell c (some u))
structure Cx.Ok (X:Cx):Prop where
 mod:Mod X.K X.mg X.base
 kind:X.env.scope.kind=.function
 glob:X.env.globals=mainGlobals
 blt:X.env.builtins=builtinsNs
 above:X.s₀.heap.objs.size<=X.env.locals
 inj:∀ x y c,X.env.cells.lookup x=some c->X.env.cells.lookup y=some c->x=y
 has:∀ x,(X.env.kindOf x=some .cell\/X.env.kindOf x=some .free) -> ∃ c,X.env.cells.lookup x=some c
 cab:∀ x c,X.fn x=true->X.env.cells.lookup x=some c->X.s₀.heap.objs.size<=c
 hd:X.calm=true->X.A.handled=none
 frames:X.A.frames=some X.stack
 stk:X.stack=X.outer\/(X.stack=X.env::X.outer/\X.env.frame=some X.env.locals)
 exf:∀ b∈X.ex,b≠X.env.locals /\ ∀ x c,X.env.cells.lookup x=some c->c≠b
 bs:∀ b o,X.base.get? b=some o->X.s₀.heap.get? b=some o/\X.H₀ b=none
 bsz:X.base.objs.size<=X.s₀.heap.objs.size
 noex:∀ b o,X.base.get? b=some o->b∉X.ex
 exfs:∀ b∈X.ex,b∉X.fs
 funs:X.s₀.heap.FunFrames X.base X.outer
 frf:∀ b∈X.fs,X.H₀ b=none
structure Inv (X:Cx) (zB:Yd) (Y:List (Option V)) (H:Hp) (s:Yl):Prop where
 ok:X.Ok
 os:s.os=X.s₀.os
 bare:AllBare s.gens
 base:Un X.fs X.ex X.H₀ H X.s₀.heap s.heap
 loc:∃ m,s.heap.Ns X.env.locals m /\ ∀ (i:Nat) (x:Str) (v:V),X.N[i]?=some x->Y[i]?=some (some v)->Vis X.env.scope x -> ∃ u,zj v u/\jL X.env s.heap m x u
 cell:∀ x c,X.env.cells.lookup x=some c -> ∃ v,s.heap.IsCell c v
 free:H X.env.locals=none
 freeC:∀ x c,X.env.cells.lookup x=some c->H c=none
 pin:∀ p∈X.pn++zB,s.heap.get? p.1=some p.2/\H p.1=none/\p.1≠X.env.locals/\p.1∉X.fs /\ ∀ v,p.2.data≠.cell v
 hok:HOk X.prog X.w H s.heap
 len:Y.length=X.N.length
section
variable {X:Cx} {zB:Yd} {Y:List (Option V)} {H H':Hp} {s:Yl} {h':Heap}
def Cx.Ok.nofr (ok:X.Ok) {b:Yt} {o:Obj} (e:X.base.get? b=some o):b∉X.fs:=λhb=>by
 have:=(ok.funs.mem hb).1;rw[e]at this;cases this
def Inv.bs (I:Inv X zB Y H s):∀ b o,X.base.get? b=some o->s.heap.get? b=some o/\H b=none:=λb o e=>
 ⟨I.base.keep b o (I.ok.bs b o e).1 (I.ok.bs b o e).2 (I.ok.nofr e) (I.ok.noex b o e),I.base.free b o (I.ok.bs b o e).1 (I.ok.bs b o e).2 (I.ok.noex b o e)⟩
def Inv.bk (I:Inv X zB Y H s):∀ b o,X.base.get? b=some o->s.heap.get? b=some o:=λb o e=>(I.bs b o e).1
def Inv.mod (I:Inv X zB Y H s):Mod X.K X.mg X.base:=I.ok.mod
def Inv.kIn (I:Inv X zB Y H s):X.K.In s.heap:=I.ok.mod.kin.keeps I.bk
def Inv.lt (I:Inv X zB Y H s):X.env.locals<s.heap.objs.size:=let ⟨_,hn,_⟩:=I.loc;hn.lt
def Inv.sz (I:Inv X zB Y H s):X.s₀.heap.objs.size<=s.heap.objs.size:=AZ I.ok.above (DB I.lt)
def Inv.nofs (I:Inv X zB Y H s) {a:Yt} (h:s.heap.objs.size<=a):a∉X.fs:=λhb=>by
 obtain ⟨_,o,ho,_⟩:=I.ok.funs.mem hb;exact absurd (BB (AH ho) (AZ I.sz h)) (BV _)
def Inv.cne (I:Inv X zB Y H s):∀ x c,X.env.cells.lookup x=some c->c≠X.env.locals:=λx c e z=>by
 obtain ⟨v,o,ho,hd⟩:=I.cell x c e;obtain ⟨m,⟨o',es,ep,ho',hd',_⟩,_⟩:=I.loc;rw[z,ho']at ho;cases ho;rw[hd']at hd;cases hd
def Inv.funs (I:Inv X zB Y H s):s.heap.FunFrames X.base X.outer:=by
 have all:∀ (l:List Env),(∀ b∈frs l,b∈X.fs)->X.s₀.heap.FunFrames X.base l->s.heap.FunFrames X.base l:=by
  intro l;induction l with
  |nil=>intro _ _;trivial
  |cons env r ih=>
   intro hs hl;obtain ⟨hk,⟨L,o,hf,hn,ho,hd⟩,hr⟩:=hl;have hL:L∈X.fs:=hs L (by unfold frs;rw[List.filterMap_cons,hf];exact Ad);obtain ⟨sl,e⟩:=I.base.slot L o ho (I.ok.frf L hL) hL λz=>I.ok.exfs L z hL;exact ⟨hk,⟨L,_,hf,hn,e,hd⟩,ih (λb hb=>hs b (by unfold frs;rw[List.filterMap_cons,hf];exact Am _ hb)) hr⟩
 exact all X.outer (λ_ hb=>hb) I.ok.funs
def Inv.stack (I:Inv X zB Y H s):s.heap.FunFrames X.base X.stack:=by
 rcases I.ok.stk with e|⟨e,hf⟩
 .rw[e];exact I.funs
 .rw[e];obtain ⟨m,hn,_⟩:=I.loc;refine .cons (by rw[I.ok.kind];decide) hf hn ?_ I.funs;exact Heap.get?_none_of_le (AZ I.ok.bsz I.ok.above)
def Inv.stkSub (I:Inv X zB Y H s):∀ b∈frs X.stack,b∈X.env.locals::X.fs:=λb hb=>by
 rcases I.ok.stk with e|⟨e,hf⟩
 .rw[e]at hb;exact Am _ hb
 .rw[e]at hb;unfold frs at hb;rw[List.filterMap_cons,hf]at hb;exact hb
def Inv.stkFree (I:Inv X zB Y H s):∀ b∈frs X.stack,H b=none:=λb hb=>by
 rcases AI.mp (I.stkSub b hb)with e|hb
 .rw[e];exact I.free
 .obtain ⟨_,o,ho,_⟩:=I.ok.funs.mem hb;exact I.base.free b o ho (I.ok.frf b hb) λz=>I.ok.exfs b z hb
def Inv.step {g':Array GenState} {t':Nat} {d':Drawn} {ch:Yg} (I:Inv X zB Y H s)
  (hch:∀ b∈ch,(b∈X.ex\/X.s₀.heap.objs.size<=b)/\b≠X.env.locals/\(∀ x c,X.env.cells.lookup x=some c->c≠b) /\ ∀ p∈X.pn++zB,p.1≠b)
  (keep:∀ b o,b≠X.env.locals->b∉X.fs->b∉ch->s.heap.get? b=some o->H b=none->h'.get? b=some o)
  (slot:∀ b o,b≠X.env.locals->b∈X.fs->b∉ch->s.heap.get? b=some o->H b=none -> ∃ sl,h'.get? b=some { o with slots:=sl }) (free:∀ b o,b∉ch->s.heap.get? b=some o->H b=none->H' b=none)
  (there:∀ b o,b∉ch->s.heap.get? b=some o -> ∃ o',h'.get? b=some o')
  (tups:∀ b xs,H b=some (.tup xs)->H' b=some (.tup xs)) (frzs:∀ b o u,H b=some (.frz o u)->H' b=some (.frz o u)) (tbls:∀ b ps,H b=some (.tbl ps) -> ∃ more,H' b=some (.tbl (ps++more)))
  (ns:∀ m,s.heap.Ns X.env.locals m->h'.Ns X.env.locals m) (hok:HOk X.prog X.w H' h') (hg:AllBare g') :
  Inv X zB Y H' { s with heap:=h',gens:=g',drawn:=d',toks:=t' }:=by
 have neL:∀ b o,X.s₀.heap.get? b=some o->b≠X.env.locals:=λb o e=>Ab (BB (AH e) I.ok.above);have neC:∀ b o,X.s₀.heap.get? b=some o->b∉X.ex->b∉ch:=λb o e hx hb=>by
  rcases (hch b hb).1 with z|z
  .exact hx z
  .exact absurd (BB (AH e) z) (BV _)
 have cellK:∀ x c,X.env.cells.lookup x=some c -> ∀ v,s.heap.IsCell c v->h'.IsCell c v:=λx c e v ⟨o,ho,hd⟩=>by
  have nch:c∉ch:=λz=>(hch c z).2.2.1 x c e rfl;by_cases hc:c∈X.fs
  .obtain ⟨sl,q⟩:=slot c o (I.cne x c e) hc nch ho (I.freeC x c e);exact ⟨_,q,hd⟩
  .exact ⟨o,keep c o (I.cne x c e) hc nch ho (I.freeC x c e),hd⟩
 refine ⟨I.ok,I.os,hg,⟨λb o e n hb hx=>?_,λb o e n hb hx=>?_,λb o e n hx=>?_,λb o e hx=>?_,λb xs e=>tups b xs (I.base.tups b xs e),λb o xs e=>frzs b o xs (I.base.frzs b o xs e),λb ps e=>?_⟩,?_,λx c e=>?_,?_,λx c e=>?_,λp hp=>?_,hok,I.len⟩
 .exact keep b o (neL b o e) hb (neC b o e hx) (I.base.keep b o e n hb hx) (I.base.free b o e n hx)
 .obtain ⟨sl,e1⟩:=I.base.slot b o e n hb hx;obtain ⟨sl',e2⟩:=slot b _ (neL b o e) hb (neC b o e hx) e1 (I.base.free b o e n hx);exact ⟨sl',e2⟩
 .obtain ⟨o',e1⟩:=I.base.there b o e hx;exact free b o' (neC b o e hx) e1 (I.base.free b o e n hx)
 .obtain ⟨o',e1⟩:=I.base.there b o e hx;exact there b o' (neC b o e hx) e1
 .obtain ⟨m1,e1⟩:=I.base.tbls b ps e;obtain ⟨m2,e2⟩:=tbls b _ e1;exact ⟨m1++m2,by rw[e2,Array.append_assoc]⟩
 .obtain ⟨m,hn,hl⟩:=I.loc;refine ⟨m,ns m hn,λi x v e1 e2 e3=>?_⟩;obtain ⟨u,r,l⟩:=hl i x v e1 e2 e3;refine ⟨u,r,?_⟩;rcases l with l|⟨k,c,e,z⟩
  .exact .inl l
  .exact .inr ⟨k,c,e,cellK x c e _ z⟩
 .obtain ⟨v,z⟩:=I.cell x c e;exact ⟨v,cellK x c e v z⟩
 .obtain ⟨m,⟨o,_,_,ho,_⟩,_⟩:=I.loc;exact free _ o (λz=>(hch _ z).2.1 rfl) ho I.free
 .obtain ⟨v,o,ho,hd⟩:=I.cell x c e;exact free c o (λz=>(hch c z).2.2.1 x c e rfl) ho (I.freeC x c e)
 .obtain ⟨e,n,ne,nf,d⟩:=I.pin p hp;have nch:p.1∉ch:=λz=>(hch p.1 z).2.2.2 p hp rfl;exact ⟨keep p.1 p.2 ne nf nch e n,free p.1 p.2 nch e n,ne,nf,d⟩
def Inv.un {t':Nat} (I:Inv X zB Y H s) (u:Un X.fs [] H H' s.heap h') (hok:HOk X.prog X.w H' h'):Inv X zB Y H' { s with heap:=h',toks:=t' }:=by
 obtain ⟨m,⟨o,es,ep,ho,r⟩,_⟩:=id I.loc;obtain ⟨sl,hL⟩:=u.any ho I.free (by simp);exact I.step (g':=s.gens) (d':=s.drawn) (ch:=[]) (λ_ z=>nomatch z) (λb o _ hb _ e n=>u.keep b o e n hb (by simp)) (λb o _ hb _ e n=>u.slot b o e n hb (by simp)) (λb o _ e n=>u.free b o e n (by simp)) (λb o _ e=>u.there b o e (by simp)) u.tups u.frzs u.tbls (λm' hm=>by
  obtain ⟨o',es',ep',ho',r'⟩:=hm;rw[ho]at ho';cases ho';exact ⟨_,es',ep',hL,r'⟩) hok I.bare
def Inv.call {g':Array GenState} {t':Nat} {d':Drawn} {ch:Yg} (I:Inv X zB Y H s) (u:Un (frs X.stack) ch H H' s.heap h') (hok:HOk X.prog X.w H' h') (hg:AllBare g')
  (hch:∀ b∈ch,(b∈X.ex\/X.s₀.heap.objs.size<=b)/\b≠X.env.locals/\(∀ x c,X.env.cells.lookup x=some c->c≠b) /\ ∀ p∈X.pn++zB,p.1≠b) :
  Inv X zB Y H' { s with heap:=h',gens:=g',drawn:=d',toks:=t' }:=by
 obtain ⟨m,⟨o,es,ep,ho,r⟩,_⟩:=id I.loc;obtain ⟨sl,hL⟩:=u.any ho I.free λz=>(hch _ z).2.1 rfl;exact I.step (ch:=ch) hch (λb o hL hb hc e n=>u.keep b o e n (λz=>(AI.mp (I.stkSub b z)).elim hL hb) hc) (λb o _ _ hc e n=>u.any e n hc) (λb o hc e n=>u.free b o e n hc) (λb o hc e=>u.there b o e hc) u.tups u.frzs u.tbls (λm' hm=>by
  obtain ⟨o',es',ep',ho',r'⟩:=hm;rw[ho]at ho';cases ho';exact ⟨_,es',ep',hL,r'⟩) hok hg
def Inv.turned {t':Nat} {it:Yt} (I:Inv X zB Y H s) (k:∀ b o,b≠it->s.heap.get? b=some o->h'.get? b=some o) (hn:H it=none) (hL:it≠X.env.locals)
  (h1:it∈X.ex\/X.s₀.heap.objs.size<=it) (h2:∀ x c,X.env.cells.lookup x=some c->c≠it) (h3:∀ p∈X.pn++zB,p.1≠it):Inv X zB Y H { s with heap:=h',toks:=t' }:=by
 have nit:∀ b u,H b=some u->b≠it:=λb u e z=>by rw[z,hn]at e;cases e
 refine I.step (g':=s.gens) (d':=s.drawn) (ch:=[it]) (λb hb=>?_) (λb o _ _ hc e _=>k b o (λz=>hc (by simp[z])) e) (λb o _ _ hc e _=>⟨o.slots,k b o (λz=>hc (by simp[z])) e⟩) (λ_ _ _ _ n=>n)
  (λb o hc e=>⟨o,k b o (λz=>hc (by simp[z])) e⟩) (λ_ _ e=>e) (λ_ _ _ e=>e) (λb ps e=>⟨#[],by rw[e];simp⟩) (λm hm=>?_) (λb u e=>?_) I.bare
 .have e:b=it:=by simpa using hb
  subst e;exact ⟨h1,hL,h2,h3⟩
 .obtain ⟨o,es,ep,ho,r⟩:=hm;exact ⟨o,es,ep,k _ o (Ne.symm hL) ho,r⟩
 .refine (I.hok b u e).stay (λc v hc q=>k c v ?_ q) (λ_ q=>q) λ_ _ q=>q;rcases hc with z|z
  .rw[z];exact nit b u e
  .exact nit c _ z
def Inv.tok (I:Inv X zB Y H s) (t:Nat):Inv X zB Y H { s with toks:=t }:=I.un (h':=s.heap) (t':=t) Un.refl I.hok
def Inv.kept {t':Nat} (I:Inv X zB Y H s) (k:∀ b u,s.heap.get? b=some u->h'.get? b=some u):Inv X zB Y H { s with heap:=h',toks:=t' }:=I.un (Un.kept k) (I.hok.kept k)
def Inv.laid {a:Yt} {o:HO} {t':Nat} (I:Inv X zB Y H s) (k:∀ b u,s.heap.get? b=some u->h'.get? b=some u) (hp:s.heap.objs.size<=a) (new:z0 X.prog X.w (upd H a o) h' a o) :
  Inv X zB Y (upd H a o) { s with heap:=h',toks:=t' }:=I.un (Un.laid k hp (I.hok.fresh hp)) (I.hok.laid k hp new)
def Inv.write {x e:Yt} {o:HO} {t':Nat} (I:Inv X zB Y H s) (mu:Mut (H x)) (he:e=x\/H e=some (.own x)) (k:∀ b u,b≠e->s.heap.get? b=some u->h'.get? b=some u) (heo:∃ u,h'.get? e=some u)
  (new:z0 X.prog X.w (upd H x o) h' x o):Inv X zB Y (upd H x o) { s with heap:=h',toks:=t' }:=I.un (Un.write mu he k heo) (I.hok.write mu he k heo new)
def Inv.weak {Y':List (Option V)} (I:Inv X zB Y H s) (hl:Y'.length=Y.length) (w:∀ (i:Nat) v,Y'[i]?=some (some v)->Y[i]?=some (some v)):Inv X zB Y' H s :=
 ⟨I.ok,I.os,I.bare,I.base,let ⟨m,hn,hl'⟩:=I.loc;⟨m,hn,λi x v e1 e2 e3=>hl' i x v e1 (w i v e2) e3⟩,I.cell,I.free,I.freeC,I.pin,I.hok,hl.trans I.len⟩
def Inv.pins_of {pins':Yd} (I:Inv X zB Y H s) (h:∀ p∈pins',s.heap.get? p.1=some p.2/\H p.1=none/\p.1≠X.env.locals/\p.1∉X.fs /\ ∀ v,p.2.data≠.cell v):Inv X pins' Y H s :=
 ⟨I.ok,I.os,I.bare,I.base,I.loc,I.cell,I.free,I.freeC,λp hp=>(Ai.mp hp).elim (λz=>I.pin p (CS _ z)) (h p),I.hok,I.len⟩
def N7 {N:Yk} (hN:N.Nodup) {i j:Nat} {x:Str} (a:N[i]?=some x) (b:N[j]?=some x):i=j:=by
 obtain ⟨h1,e1⟩:=AK.mp a;obtain ⟨h2,e2⟩:=AK.mp b;exact (List.getElem_inj hN).mp (e1.trans e2.symm)
def iP {M:Model} {A:Yn} {E:Yc} {i:Nat} {x:Str} {v:V} {u:Yu} {Q:Unit->Shared->Prop} (I:Inv X zB Y H s) (hN:X.N.Nodup) (hi:X.N[i]?=some x) (hx:Loc X.env.scope x) (r:zj v u)
  (h:∀ s',Inv X zB (Y.set i (some v)) H s'->(∃ a,Heap.SameBut a s.heap s'.heap/\(a=X.env.locals\/X.env.cells.lookup x=some a))->Q () s') (hf:X.fn x=true\/X.env.scope.names.lookup x=some .local:=by first|exact .inl rfl|exact .inr rfl|assumption):wpAny M A (storeName X.env x u) Q E s:=by
 obtain ⟨m,hn,hl⟩:=id I.loc;have hcls:(X.env.scope.kind == .class||(X.env.scope.kind == .module&&X.env.locals != X.env.globals))=false:=by rw[I.ok.kind];rfl
 have hiσ:i<Y.length:=by rw[I.len];exact (AK.mp hi).1
 have cne:=I.cne;have tracked:∀ {a:Yt} {h':Heap},(∃ o,s.heap.get? a=some o/\H a=none)->Heap.SameBut a s.heap h'->HOk X.prog X.w H h':=λ{a h'} ha hs b ob e=>by
  obtain ⟨_,_,hfree⟩:=ha;refine (I.hok b ob e).stay (λc w' hc q=>(hs.2 c ?_).trans q) (λ_ q=>q) λ_ _ q=>q;rintro rfl;rcases hc with rfl|hc
  .rw[hfree]at e;cases e
  .rw[hfree]at hc;cases hc
 rcases hx with hk|hk
 .refine wpAny_storeName_local hk hn (λh' hn' hs=>?_) hcls;obtain ⟨oL,_,_,hoL,_⟩:=id hn;refine h _ ⟨I.ok,I.os,I.bare,⟨λb o e n hb hx=>?_,λb o e n hb hx=>?_,I.base.free,λb o e hx=>?_,I.base.tups,I.base.frzs,I.base.tbls⟩,⟨_,hn',λj y v' e1 e2 e3=>?_⟩,λy c e=>?_,I.free,I.freeC,λp hp=>?_,tracked ⟨oL,hoL,I.free⟩ hs,by simpa using I.len⟩ ⟨_,hs,.inl rfl⟩
  .exact (hs.2 b (Ab (BB (AH e) I.ok.above))).trans (I.base.keep b o e n hb hx)
  .obtain ⟨sl,e1⟩:=I.base.slot b o e n hb hx;exact ⟨sl,(hs.2 b (Ab (BB (AH e) I.ok.above))).trans e1⟩
  .obtain ⟨o',e1⟩:=I.base.there b o e hx;exact ⟨o',(hs.2 b (Ab (BB (AH e) I.ok.above))).trans e1⟩
  .by_cases hj:j=i
   .subst hj;rw[hi]at e1;cases e1;rw[C2 hiσ]at e2;cases e2;exact ⟨u,r,.inl ⟨hk,by simp⟩⟩
   .rw[A8 (Ne.symm hj)]at e2;obtain ⟨u',r',q⟩:=hl j y v' e1 e2 e3;refine ⟨u',r',?_⟩;rcases q with ⟨k,e⟩|⟨k,c,e,z⟩
    .refine .inl ⟨k,?_⟩;have:y≠x:=λe=>hj (N7 hN e1 (e▸hi));simp[this,e]
    .exact .inr ⟨k,c,e,z.sameBut hs (cne y c e)⟩
  .obtain ⟨w',z⟩:=I.cell y c e;exact ⟨w',z.sameBut hs (cne y c e)⟩
  .obtain ⟨e,n,ne,nf,d⟩:=I.pin p hp;exact ⟨(hs.2 p.1 ne).trans e,n,ne,nf,d⟩
 .have hfn:X.fn x=true:=by
   rcases hf with z|z
   .exact z
   .rw[z]at hk;cases hk
  obtain ⟨c,hc⟩:=I.ok.has x (.inl hk);obtain ⟨w',z⟩:=I.cell x c hc;refine wpAny_storeName_cell I.ok.kind hk hc z (λh' hc' hs=>?_);obtain ⟨oc,hoc,hocd⟩:=id z;refine h { s with heap:=h' } ⟨I.ok,I.os,I.bare,⟨λb o e n hb hx=>?_,λb o e n hb hx=>?_,I.base.free,λb o e hx=>?_,I.base.tups,I.base.frzs,I.base.tbls⟩,⟨m,hn.sameBut hs (Ne.symm (cne x c hc)),λj y v' e1 e2 e3=>?_⟩,λy c' e=>?_,I.free,I.freeC,λp hp=>?_,tracked ⟨oc,hoc,I.freeC x c hc⟩ hs,by simpa using I.len⟩ ⟨c,hs,.inr hc⟩
  .exact (hs.2 b (Ab (BB (AH e) (I.ok.cab x c hfn hc)))).trans (I.base.keep b o e n hb hx)
  .obtain ⟨sl,e1⟩:=I.base.slot b o e n hb hx;exact ⟨sl,(hs.2 b (Ab (BB (AH e) (I.ok.cab x c hfn hc)))).trans e1⟩
  .obtain ⟨o',e1⟩:=I.base.there b o e hx;exact ⟨o',(hs.2 b (Ab (BB (AH e) (I.ok.cab x c hfn hc)))).trans e1⟩
  .by_cases hj:j=i
   .subst hj;rw[hi]at e1;cases e1;rw[C2 hiσ]at e2;cases e2;exact ⟨u,r,.inr ⟨.inl hk,c,hc,hc'⟩⟩
   .rw[A8 (Ne.symm hj)]at e2;obtain ⟨u',r',q⟩:=hl j y v' e1 e2 e3;refine ⟨u',r',?_⟩;rcases q with q|⟨k,c',e,z'⟩
    .exact .inl q
    .refine .inr ⟨k,c',e,z'.sameBut hs ?_⟩;rintro rfl;exact hj (N7 hN e1 (I.ok.inj _ _ _ e hc▸hi))
  .by_cases hcc:c'=c
   .subst hcc;exact ⟨_,hc'⟩
   .obtain ⟨w2,z2⟩:=I.cell y c' e;exact ⟨w2,z2.sameBut hs hcc⟩
  .obtain ⟨e,n,ne,nf,d⟩:=I.pin p hp;refine ⟨(hs.2 p.1 ?_).trans e,n,ne,nf,d⟩;intro q;rw[q,hoc]at e;have q':oc=p.2:=B0 e;exact d w' (by rw[<-q'];exact hocd)
def NI {M:Model} {A:Yn} {E:Yc} {i:Nat} {x:Str} {v:V} {u:Yu} {Q:Unit->Shared->Prop} (I:Inv X zB Y H s) (hN:X.N.Nodup) (hi:X.N[i]?=some x) (hx:Loc X.env.scope x) (r:zj v u)
  (h:∀ s',Inv X zB (Y.set i (some v)) H s'->Q () s') (hf:X.fn x=true\/X.env.scope.names.lookup x=some .local:=by first|exact .inl rfl|exact .inr rfl|assumption):wpAny M A (storeName X.env x u) Q E s :=
 iP I hN hi hx r (λs' I' _=>h s' I') hf
def Inv.call' {s':Yl} {ch:Yg} (I:Inv X zB Y H s) (ho:s'.os=s.os) (u:Un (frs X.stack) ch H H' s.heap s'.heap) (hok:HOk X.prog X.w H' s'.heap) (hg:AllBare s'.gens)
  (hch:∀ b∈ch,(b∈X.ex\/X.s₀.heap.objs.size<=b)/\b≠X.env.locals/\(∀ x c,X.env.cells.lookup x=some c->c≠b) /\ ∀ p∈X.pn++zB,p.1≠b):Inv X zB Y H' s':=by
 obtain ⟨h',g',d',t',o'⟩:=s';have e:o'=s.os:=ho;subst e;exact I.call (g':=g') (t':=t') (d':=d') u hok hg hch
end
noncomputable abbrev XK:=Value->Option Addr->Hp->Prop
noncomputable abbrev St:=List (Option V)
noncomputable abbrev VK:=V->Hp->Prop
noncomputable abbrev TE:=St->Hp->VK->Prop
noncomputable abbrev TT:=St->Hp->(Bool->Hp->Prop)->Prop
noncomputable abbrev TA:=St->Hp->(List V->Hp->Prop)->Prop
structure Ends where
 nx:St->Hp->Prop
 rt:VK
 bk:St->Hp->Prop:=λ_ _=>False
 ct:St->Hp->Prop:=λ_ _=>False
noncomputable abbrev TS:=Ends->St->Hp->Prop
def EP (X:Cx) (zB:Yd) (Y:St) (Q:VK) (u:Yu) (s':Yl):Prop:=∃ v H',Inv X zB Y H' s'/\zj v u/\Q v H'
def TP (X:Cx) (zB:Yd) (Y:St) (Q:Bool->Hp->Prop) (b:Bool) (s':Yl):Prop:=∃ H',Inv X zB Y H' s'/\Q b H'
def AP (X:Cx) (zB:Yd) (Y:St) (Q:List V->Hp->Prop) (us:Yf) (s':Yl):Prop:=∃ vs H',Inv X zB Y H' s'/\zY vs us/\Q vs H'
def SP (X:Cx) (zB:Yd) (D:Ends) (f:Flow) (s':Yl):Prop :=
 match f with
 |.next=>∃ Y' H',Inv X zB Y' H' s'/\D.nx Y' H'
 |.brk=>∃ Y' H',Inv X zB Y' H' s'/\D.bk Y' H'
 |.cont=>∃ Y' H',Inv X zB Y' H' s'/\D.ct Y' H'
 |.ret u=>∃ v Y' H',Inv X zB Y' H' s'/\zj v u/\D.rt v H'
def PE (X:Cx) (e:Expr) (t:TE):Prop :=
 ∀ (zB:Yd) (s:Yl) (Y:St) (H:Hp) (Q:VK),Inv X zB Y H s->t Y H Q->wpAny (model X.prog X.w) X.A (eval e X.env) (EP X zB Y Q) X.xe s
def PT (X:Cx) (e:Expr) (t:TT):Prop :=
 ∀ (zB:Yd) (s:Yl) (Y:St) (H:Hp) (Q:Bool->Hp->Prop),Inv X zB Y H s->t Y H Q->wpAny (model X.prog X.w) X.A (isTrue e X.env (eval e X.env)) (TP X zB Y Q) X.xe s
def PW (X:Cx) (e:Expr) (t:TT):Prop :=
 ∀ (whole:Sem Value) (zB:Yd) (s:Yl) (Y:St) (H:Hp) (Q:Bool->Hp->Prop),Inv X zB Y H s->t Y H Q->wpAny (model X.prog X.w) X.A (isTrue e X.env whole) (TP X zB Y Q) X.xe s
def PW.pt {X:Cx} {e:Expr} {t:TT} (h:PW X e t):PT X e t:=h _
def PA (X:Cx) (es:Yi) (t:TA):Prop :=
 ∀ (pos:Pos) (zB:Yd) (s:Yl) (Y:St) (H:Hp) (Q:List V->Hp->Prop),Inv X zB Y H s->t Y H Q->wpAny (model X.prog X.w) X.A (spliced (backTo pos (starEach es X.env))) (AP X zB Y Q) X.xe s
def PS (X:Cx) (st:Stmt) (t:TS):Prop :=
 ∀ (zB:Yd) (s:Yl) (Y:St) (H:Hp) (D:Ends),Inv X zB Y H s->t D Y H->wpAny (model X.prog X.w) X.A (exec st X.env) (SP X zB D) X.xe s
def PSs (X:Cx) (st:Yy) (t:TS):Prop :=
 ∀ (zB:Yd) (s:Yl) (Y:St) (H:Hp) (D:Ends),Inv X zB Y H s->t D Y H->wpAny (model X.prog X.w) X.A (execs st X.env) (SP X zB D) X.xe s
def thn {α:Type} {t:Sem α} {Q Q':α->Shared->Prop} {M:Model} {A:Yn} {E:Yc} {s:Yl} (h:wpAny M A t Q E s) (hQ:∀ a s,Q a s->Q' a s):wpAny M A t Q' E s:=AN h hQ λ_ _ x=>x
section
variable {X:Cx}
noncomputable def Lf (i:Nat):TE:=λY H Q=>∃ v,Y[i]?=some (some v)/\Q v H
noncomputable def tC (v:V):TE:=λ_ H Q=>Q v H
def Ss {i:Nat} {x:Str} {pos:Pos} (hN:X.N[i]?=some x) (hv:Vis X.env.scope x) (hd:(x==("__debug__" : Str))=false:=by decide) (hcd:(x==("__classdict__" : Str))=false:=by decide):PE X (.Name x pos) (Lf i):=by
 intro zB s Y H Q I h;obtain ⟨v,e,h⟩:=h;obtain ⟨m,hn,hl⟩:=I.loc;obtain ⟨u,r,l⟩:=hl i x v hN e hv;have fin:EP X zB Y Q u s:=⟨v,H,I,r,h⟩;rcases l with ⟨hk,hm⟩|⟨hk,c,hc,hcell⟩
 .exact wpAny_Name (wpAny_loadName_local I.ok.kind hk hn hm fin) hd
 .rcases hk with hk|hk
  .exact wpAny_Name (wpAny_loadName_cell I.ok.kind hk hc hcell fin) hd
  .exact wpAny_Name (wpAny_loadName_free I.ok.kind hk hc hcell fin hcd) hd
def d6 {i j pos}:PE X (.Constant (.int i) j pos) (tC (.int i)):=λ_ _ _ H _ I h=>wpAny_Constant_int ⟨.int i,H,I.tok _,⟨_,rfl⟩,h⟩
def Ze {b j pos}:PE X (.Constant (.bool b) j pos) (tC (.bl b)):=λ_ _ _ H _ I h=>Constant_bool ⟨.bl b,H,I,rfl,h⟩
def Gl (X:Cx) (x:Str):Prop:=X.env.kindOf x=some .globalImplicit
def dG {E:Yc} {zB:Yd} {s:Yl} {Y:St} {H:Hp} {x:Str} {u:Yu} {pos:Pos} {Q:Yc} (I:Inv X zB Y H s) (hg:Gl X x) (hm:X.mg x=some u) (h:Q u s)
  (hd:(x==("__debug__" : Str))=false:=by decide):wpAny (model X.prog X.w) X.A (eval (.Name x pos) X.env) Q E s :=
 Calls.Name_function_global I.ok.kind hg (Calls.loadGlobal_global (by rw[I.ok.glob];exact I.mod.glob.keeps I.bk) hm h) hd
def Fz {E:Yc} {zB:Yd} {s:Yl} {Y:St} {H:Hp} {x:Str} {u:Yu} {pos:Pos} {Q:Yc} (I:Inv X zB Y H s) (hg:Gl X x) (hm:X.mg x=none) (hv:bootBuiltins x=some u) (h:Q u s)
  (hn:x ≠ "__name__" := by decide) (hd:(x==("__debug__" : Str))=false:=by decide):wpAny (model X.prog X.w) X.A (eval (.Name x pos) X.env) Q E s:=by
 obtain ⟨mb,h1,h2⟩:=I.mod.blt;exact Calls.Name_function_global I.ok.kind hg (Calls.loadGlobal_builtin (by rw[I.ok.glob];exact I.mod.glob.keeps I.bk) hm (by rw[I.ok.blt];exact h1.keeps I.bk) ((h2 x hn).trans hv) h) hd
def Xh {x:Str} {v:V} {u:Value} {pos:Pos} (hg:Gl X x) (hm:X.mg x=none) (hv:bootBuiltins x=some u) (r:zj v u) (hn:x ≠ "__name__" := by decide) (hd:(x==("__debug__" : Str))=false:=by decide):PE X (.Name x pos) (tC v) :=
 λ_ _ _ H _ I h=>Fz I hg hm hv ⟨v,H,I,r,h⟩ hn hd
variable {a b:Expr} {ta tb:TE} {pos:Pos}
def PC (X:Cx) (op:CmpOp) (a b:Expr) (t:TE):Prop :=
 ∀ (zB:Yd) (s:Yl) (Y:St) (H:Hp) (Q:VK),Inv X zB Y H s->t Y H Q ->
  wpAny (model X.prog X.w) X.A (eval a X.env) (λv s₁=>wpAny (model X.prog X.w) X.A (eval b X.env) (λu s₂=>wpAny (model X.prog X.w) X.A (compareOp op v u) (EP X zB Y Q) X.xe s₂) X.xe s₁) X.xe s
noncomputable def tB (t:TE):TT:=λY H Q=>t Y H λx H1=>∃ c,x=.bl c/\Q c H1
def Xe {op:CmpOp} {t:TE} (h:PC X op a b t) (h1:behindInMarks op b=false:=by first|exact nobehind _ (by decide) (by decide)|rfl):PE X (.Compare a [op] [b] pos) t:=λzB s Y H Q I hw=>wpAny_Compare1 (h zB s Y H Q I hw) h1
def PU {op:CmpOp} {t:TE} (h:PC X op a b t) (h1:behindInMarks op b=false:=by first|exact nobehind _ (by decide) (by decide)|rfl):PT X (.Compare a [op] [b] pos) (tB t):=by
 intro zB s Y H Q I hw;refine wpAny_isTrue_Compare1 (thn (h zB s Y H _ I hw) λv s1 h1=>thn h1 λu s2 h2=>thn h2 λc s3 ⟨x,H1,I1,r1,q1⟩=>?_) h1;obtain ⟨d,rfl,q⟩:=q1;cases r1;exact EL ⟨H1,I1,q⟩
def Uu {e:Expr} {t:TE} (h:PE X e t) (he:∀ whole,isTrue e X.env whole=(do let v <- whole;standAt e.pos;holding [v] (truthy v)):=by intro _;rfl):PT X e (tB t):=by
 intro zB s Y H Q I hw;refine isTrue_plain (thn (h zB s Y H _ I hw) λv s1 ⟨x,H1,I1,r1,q1⟩=>?_) (he _);obtain ⟨d,rfl,q⟩:=q1;cases r1;exact EL ⟨H1,I1,q⟩
variable {tA tB':TT} {rest:Yi}
noncomputable def Xl (t u:TT):TT:=λY H Q=>t Y H λc H1=>if c=true then u Y H1 Q else Q false H1
noncomputable def tOr (t u:TT):TT:=λY H Q=>t Y H λc H1=>if c=true then Q true H1 else u Y H1 Q
noncomputable def XD (t:TT):TT:=λY H Q=>t Y H λc H1=>Q (!c) H1
def f6 (ha:PT X a tA):PW X (.BoolOp .And [a] pos) tA:=by
 intro wh zB s Y H Q I h;refine isTrue_and (thn (ha zB s Y H Q I h) λc s1 e=>?_);cases c with
 |true=>exact isTrue_and_nil e
 |false=>exact e
def fX (ha:PT X a tA):PW X (.BoolOp .Or [a] pos) tA:=by
 intro wh zB s Y H Q I h;refine isTrue_or (thn (ha zB s Y H Q I h) λc s1 e=>?_);cases c with
 |false=>exact isTrue_or_nil e
 |true=>exact e
def Zj (ha:PT X a tA) (hb:PW X (.BoolOp .And (b::rest) pos) tB'):PW X (.BoolOp .And (a::b::rest) pos) (Xl tA tB'):=by
 intro wh zB s Y H Q I h;refine isTrue_and (thn (ha zB s Y H _ I h) λc s1 ⟨H1,I1,q1⟩=>?_);cases c with
 |true=>exact hb wh zB s1 Y H1 Q I1 q1
 |false=>exact ⟨H1,I1,q1⟩
def Zi (ha:PT X a tA) (hb:PW X (.BoolOp .Or (b::rest) pos) tB'):PW X (.BoolOp .Or (a::b::rest) pos) (tOr tA tB'):=by
 intro wh zB s Y H Q I h;refine isTrue_or (thn (ha zB s Y H _ I h) λc s1 ⟨H1,I1,q1⟩=>?_);cases c with
 |true=>exact ⟨H1,I1,q1⟩
 |false=>exact hb wh zB s1 Y H1 Q I1 q1
def aW (ha:PT X a tA):PT X (.UnaryOp .Not a pos) (XD tA):=by
 intro zB s Y H Q I h;exact isTrue_not (ha zB s Y H (λc H1=>Q (!c) H1) I h)
noncomputable def cI (ta tb:TE):TE:=λY H Q=>ta Y H λx H1=>∃ c,x=.bl c/\if c=true then tb Y H1 Q else Q (.bl false) H1
noncomputable def i9 (ta:TE):TE:=λY H Q=>ta Y H λx H1=>∃ c,x=.bl c/\Q (.bl (!c)) H1
def To {op} {t:TE} (h:PE X a t):PE X (.BoolOp op [a] pos) t:=λzB s Y H Q I hw=>BoolOp_one (h zB s Y H Q I hw)
def aC (ha:PE X a ta) (hb:PE X (.BoolOp .And (b::rest) pos) tb):PE X (.BoolOp .And (a::b::rest) pos) (cI ta tb):=by
 intro zB s Y H Q I h;refine BoolOp_and (thn (ha zB s Y H _ I h) λv s1 ⟨x,H1,I1,r1,q1⟩=>?_);obtain ⟨c,rfl,q1⟩:=q1;cases r1;refine EL ?_;cases c with
 |true=>exact hb zB s1 Y H1 Q I1 q1
 |false=>exact ⟨.bl false,H1,I1,rfl,q1⟩
def YC (ha:PE X a ta):PE X (.UnaryOp .Not a pos) (i9 ta):=by
 intro zB s Y H Q I h;refine UnaryOp_ (thn (ha zB s Y H _ I h) λv s1 ⟨x,H1,I1,r1,q1⟩=>?_);obtain ⟨c,rfl,q1⟩:=q1;cases r1;exact not_of (EL ⟨.bl (!c),H1,I1,rfl,q1⟩)
end
def SqL (K:Yb) (H:Hp) (a:Yt) (xs:List V):Prop :=
 Rd H a (.lst xs) \/
  ∃ (o:Obj) (its:Array Value) (n:Nat),K.lookup a=some o/\o.cls=.type "list" /\ o.dict=none/\o.data=.seq its n/\its.size<=sizeLine/\zY xs its.toList
def SqT (K:Yb) (H:Hp) (a:Yt) (xs:List V):Prop :=
 Rd H a (.tup xs) \/
  ∃ (o:Obj) (its:Array Value) (n:Nat),K.lookup a=some o/\o.cls=.type "tuple" /\ o.data=.seq its n/\its.size<=sizeLine/\zY xs its.toList
noncomputable def jE:Value->Option V
 |.none=>some .non
 |.bool b=>some (.bl b)
 |.int i _=>some (.int i)
 |.str x _=>some (.str x)
 |.bytes b _=>some (.byt b)
 |.float b _=>some (.flt b)
 |.ref a=>some (.ref a)
 |.type n=>some (.ty n)
 |_=>none
def zj.abs {x:V} {u:Yu} (r:zj x u):jE u=some x:=by
 cases x with
 |non=>cases r;rfl
 |bl _=>cases r;rfl
 |int _=>obtain ⟨t,rfl⟩:=r;rfl
 |str _=>obtain ⟨t,rfl⟩:=r;rfl
 |byt _=>obtain ⟨t,rfl⟩:=r;rfl
 |flt _=>obtain ⟨t,rfl⟩:=r;rfl
 |ref _=>cases r;rfl
 |ty _=>cases r;rfl
def zj.inj {x y:V} {u:Yu} (r:zj x u) (q:zj y u):x=y:=B0 (r.abs.symm.trans q.abs)
def zY.inj:∀ {xs ys:List V} {us:Yf},zY xs us->zY ys us->xs=ys
 |_,_,_,.nil,.nil=>rfl
 |_,_,_,.cons r t,.cons r' t'=>by rw[r.inj r',zY.inj t t']
section
variable {X:Cx} {zB:Yd} {Y:St} {H:Hp} {s:Yl} {a:Yt} {xs ys:List V}
def SqL.of {K:Yb} (h:H a=some (.lst xs)):SqL K H a xs:=.inl (.inl h)
def SqT.of {K:Yb} (h:H a=some (.tup xs)):SqT K H a xs:=.inl (.inl h)
def Inv.list (I:Inv X zB Y H s) (h:SqL X.K H a xs):∃ its:List Value,zY xs its/\PlainL s.heap a its.toArray/\xs.length<=sizeLine:=by
 rcases h with h|⟨o,its,n,hk,hc,hd,hs,hz,r⟩
 .obtain ⟨z,its,n,r,e⟩:=h.ok I.hok;exact ⟨its,r,⟨_,n,e,rfl,rfl,rfl⟩,z⟩
 .refine ⟨its.toList,r,⟨o,n,I.kIn a o hk,hc,hd,by simpa using hs⟩,?_⟩;have e:=r.length;simp only[BK]at e;omega
def Inv.tuple (I:Inv X zB Y H s) (h:SqT X.K H a xs):∃ its:List Value,zY xs its/\IsTup s.heap a its.toArray/\xs.length<=sizeLine:=by
 rcases h with h|⟨o,its,n,hk,hc,hs,hz,r⟩
 .obtain ⟨z,its,r,p⟩:=h.ok I.hok;exact ⟨its,r,p.tup,z⟩
 .refine ⟨its.toList,r,⟨o,I.kIn a o hk,hc,n,by simpa using hs⟩,?_⟩;have e:=r.length;simp only[BK]at e;omega
def Inv.list_inj (I:Inv X zB Y H s) (h:SqL X.K H a xs) (h':SqL X.K H a ys):xs=ys:=by
 obtain ⟨its,r,⟨o,n,e,_,_,d⟩,_⟩:=I.list h;obtain ⟨its',r',⟨o',n',e',_,_,d'⟩,_⟩:=I.list h';rw[e]at e';cases e';rw[d]at d';injection d' with d1 _
 have:its=its':=by simpa using BJ Array.toList d1
 subst this;exact r.inj r'
def Inv.tuple_inj (I:Inv X zB Y H s) (h:SqT X.K H a xs) (h':SqT X.K H a ys):xs=ys:=by
 obtain ⟨its,r,⟨o,e,_,n,d⟩,_⟩:=I.tuple h;obtain ⟨its',r',⟨o',e',_,n',d'⟩,_⟩:=I.tuple h';rw[e]at e';cases e';rw[d]at d';injection d' with d1 _
 have:its=its':=by simpa using BJ Array.toList d1
 subst this;exact r.inj r'
end
noncomputable abbrev Cx.wish (X:Cx) (E:Yc):Cx:={ X with xe:=E }
noncomputable abbrev Cx.nox (X:Cx):Cx:=X.wish λ_ _=>False
def Cx.Ok.wish {X:Cx} (ok:X.Ok) (E:Yc):(X.wish E).Ok :=
 ⟨ok.mod,ok.kind,ok.glob,ok.blt,ok.above,ok.inj,ok.has,ok.cab,ok.hd,ok.frames,ok.stk,ok.exf,ok.bs,ok.bsz,ok.noex,ok.exfs,ok.funs,ok.frf⟩
def Cx.Ok.unwish {X:Cx} {E:Yc} (ok:(X.wish E).Ok):X.Ok :=
 ⟨ok.mod,ok.kind,ok.glob,ok.blt,ok.above,ok.inj,ok.has,ok.cab,ok.hd,ok.frames,ok.stk,ok.exf,ok.bs,ok.bsz,ok.noex,ok.exfs,ok.funs,ok.frf⟩
section
variable {X:Cx} {zB:Yd} {Y:St} {H:Hp} {s:Yl} {E:Yc}
def Inv.wish (I:Inv X zB Y H s) (E:Yc):Inv (X.wish E) zB Y H s:=⟨I.ok.wish E,I.os,I.bare,I.base,I.loc,I.cell,I.free,I.freeC,I.pin,I.hok,I.len⟩
def Inv.unwish (I:Inv (X.wish E) zB Y H s):Inv X zB Y H s:=⟨I.ok.unwish,I.os,I.bare,I.base,I.loc,I.cell,I.free,I.freeC,I.pin,I.hok,I.len⟩
def SP.unwish {D:Ends} {f:Flow} {s':Yl} (h:SP (X.wish E) zB D f s'):SP X zB D f s':=by
 cases f with
 |next=>obtain ⟨Y',H',I,q⟩:=h;exact ⟨Y',H',I.unwish,q⟩
 |brk=>obtain ⟨Y',H',I,q⟩:=h;exact ⟨Y',H',I.unwish,q⟩
 |cont=>obtain ⟨Y',H',I,q⟩:=h;exact ⟨Y',H',I.unwish,q⟩
 |ret u=>obtain ⟨v,Y',H',I,r,q⟩:=h;exact ⟨v,Y',H',I.unwish,r,q⟩
def PSs.nox {st:Yy} {t:TS} (h:PSs X.nox st t):PSs X st t:=λzB s Y H D I hw=>
 AN (h zB s Y H D (I.wish _) hw) (λ_ _ q=>q.unwish) λ_ _ z=>False.elim z
end
section
variable {X:Cx} {st:Stmt} {rest:Yy} {t u:TS} {e:Expr} {te:TE} {pos:Pos}
noncomputable def T8:TS:=λD Y H=>D.nx Y H
noncomputable def dN (t u:TS):TS:=λD Y H=>t { D with nx:=u D } Y H
def iS:PSs X [] T8:=λ_ _ Y H _ I h=>wpAny_execs_nil ⟨Y,H,I,h⟩
def gJ (h1:PS X st t) (h2:PSs X rest u):PSs X (st::rest) (dN t u):=by
 intro zB s Y H D I h;refine wpAny_execs_cons (thn (h1 zB s Y H { D with nx:=u D } I h) λf s1 q=>?_);cases f with
 |next=>
  obtain ⟨Y',H',I',q⟩:=q;exact h2 zB s1 Y' H' D I' q
 |ret v=>exact q
 |brk=>exact q
 |cont=>exact q
def aP (h1:PS X st t):PSs X [st] t:=by
 intro zB s Y H D I h;refine wpAny_execs_cons (thn (h1 zB s Y H D I h) λf s1 q=>?_);cases f with
 |next=>exact wpAny_execs_nil q
 |ret v=>exact q
 |brk=>exact q
 |cont=>exact q
def Inv.quiet {zB:Yd} {Y:St} {H:Hp} {s:Yl} (I:Inv X zB Y H s):interactive X.env=false:=by simp[interactive,I.ok.kind]
noncomputable def R6 (te:TE):TS:=λD Y H=>te Y H λ_ H1=>D.nx Y H1
def fT (he:PE X e te) (hs:swapsWith e none pos.line X.env=pure false:=by rfl):PS X (.Expr e pos) (R6 te):=by
 intro zB s Y H D I h;exact wpAny_Expr_any (thn (he zB s Y H _ I h) λv s1 ⟨x,H1,I1,r1,q1⟩=>⟨Y,H1,I1,q1⟩) I.quiet hs
noncomputable def X1 (te:TE):TS:=λD Y H=>te Y H D.rt
def Xc (he:PE X e te):PS X (.Return (some e) pos) (X1 te):=by
 intro zB s Y H D I h;exact wpAny_Return_some (thn (he zB s Y H _ I h) λv s1 ⟨x,H1,I1,r1,q1⟩=>⟨x,Y,H1,I1,r1,q1⟩)
noncomputable def aA (c:TT) (t u:TS):TS:=λD Y H=>c Y H λb H1=>if b=true then t D Y H1 else u D Y H1
def YU {c:Expr} {a b:Yy} {tc:TT} (hc:PT X c tc) (ha:PSs X a t) (hb:PSs X b u):PS X (.If c a b pos) (aA tc t u):=by
 intro zB s Y H D I h;refine wpAny_If (thn (hc zB s Y H _ I h) λd s1 ⟨H1,I1,q1⟩=>?_);cases d with
 |true=>exact ha zB s1 Y H1 D I1 q1
 |false=>exact hb zB s1 Y H1 D I1 q1
end
noncomputable abbrev TG:=V->St->Hp->(St->Hp->Prop)->Prop
noncomputable abbrev TGs:=List V->St->Hp->(St->Hp->Prop)->Prop
def PG (X:Cx) (target:Expr) (t:TG):Prop :=
 ∀ (zB:Yd) (s:Yl) (Y:St) (H:Hp) (v:V) (u:Yu) (Q:St->Hp->Prop),Inv X zB Y H s->zj v u->t v Y H Q ->
  wpAny (model X.prog X.w) X.A (assign target X.env u) (λ_ s'=>∃ Y' H',Inv X zB Y' H' s'/\Q Y' H') X.xe s
def PGs (X:Cx) (ts:Yi) (t:TGs):Prop :=
 ∀ (zB:Yd) (s:Yl) (Y:St) (H:Hp) (vs:List V) (us:Yf) (Q:St->Hp->Prop),Inv X zB Y H s->zY vs us->t vs Y H Q ->
  wpAny (model X.prog X.w) X.A (assignInOrder ((assignEach ts X.env).map (·.2)) us) (λ_ s'=>∃ Y' H',Inv X zB Y' H' s'/\Q Y' H') X.xe s
noncomputable abbrev Kt:=V->V->V->Hp->(Hp->Prop)->Prop
def RH (X:Cx) (t:Kt):Prop :=
 ∀ (zB:Yd) (s:Yl) (Y:St) (H:Hp) (o i v:V) (ov iv u:Yu) (Q:Hp->Prop),Inv X zB Y H s->zj o ov->zj i iv->zj v u->t o i v H Q ->
  wpAny (model X.prog X.w) X.A (setItem ov iv u) (λ_ s'=>∃ H',Inv X zB Y H' s'/\Q H') X.xe s
section
variable {X:Cx} {pos:Pos}
noncomputable def Bu (i:Nat):TG:=λv Y H Q=>Q (Y.set i (some v)) H
def K9 {i:Nat} {x:Str} (hN:X.N.Nodup) (hi:X.N[i]?=some x) (hx:Loc X.env.scope x) (hf:X.fn x=true\/X.env.scope.names.lookup x=some .local:=by first|exact .inl rfl|exact .inr rfl|assumption):PG X (.Name x pos) (Bu i):=by
 intro zB s Y H v u Q I r h;exact wpAny_assign_Name (NI I hN hi hx r (λs' I'=>⟨_,H,I',h⟩) hf)
noncomputable def Hb:TGs:=λvs Y H Q=>vs=[]/\Q Y H
noncomputable def Dy (t:TG) (u:TGs):TGs:=λvs Y H Q=>∃ v r,vs=v::r/\t v Y H λY' H'=>u r Y' H' Q
def W8:PGs X [] Hb:=by
 intro zB s Y H vs us Q I r h;obtain ⟨e,h⟩:=h;subst e;cases r;exact assignInOrder_nil ⟨Y,H,I,h⟩
def iF {e:Expr} {es:Yi} {t:TG} {u:TGs} (h1:PG X e t) (h2:PGs X es u)
  (hs:(assignEach (e::es) X.env).map (·.2)=assign e X.env::(assignEach es X.env).map (·.2):=by rfl):PGs X (e::es) (Dy t u):=by
 intro zB s Y H vs us Q I r h;obtain ⟨v,vr,e1,h⟩:=h;subst e1;cases r with
 |cons r rr=>
  rw[hs];refine assignInOrder_cons (thn (h1 zB s Y H _ _ _ I r h) λ_ s1 ⟨σ1,H1,I1,q1⟩=>?_);exact h2 zB s1 σ1 H1 _ _ Q I1 rr q1
noncomputable def HC (K:Yb) (n:Nat) (t:TGs):TG:=λv Y H Q=>∃ a xs,v=.ref a/\SqT K H a xs/\xs.length=n/\t xs Y H Q
def Va {es:Yi} {k:Nat} {t:TGs} {n:Nat} (hc:X.calm=true) (h:PGs X es t)
  (hn:(assignEach es X.env).length=n:=by rfl) (hst:(assignEach es X.env).findIdx? (·.1)=none:=by rfl):PG X (.Tuple es k pos) (HC X.K n t):=by
 intro zB s Y H v u Q I r hw;obtain ⟨a,xs,e1,hq,hl,hw⟩:=hw;subst e1;cases r;obtain ⟨its,rv,ht,hz⟩:=I.tuple hq;refine assign_Tuple_tuple (I.ok.hd hc) ht (by simp[hn,<-hl,rv.length]) hst λh' hx=>?_;have I1:Inv X zB Y H { s with heap:=h' }:=I.kept (t':=s.toks) λb o e=>hx b o (Ab (AH e)) e;exact h zB _ Y H xs _ Q I1 (by simpa using rv) hw
noncomputable def We (to ti:TE) (t:Kt):TG:=λv Y H Q=>to Y H λo H1=>ti Y H1 λi H2=>t o i v H2 λH3=>Q Y H3
def UP {o i:Expr} {to ti:TE} {t:Kt} (ho:PE X o to) (hi:PE X i ti) (hs:RH X t)
  (ha:∀ v,assign (.Subscript o i pos) X.env v=(do
   let ov <- holding [v] (eval o X.env);let iv <- holding [v,ov] (eval i X.env);standAt pos;holding [v,ov,iv] (setItem ov iv v);release [v,ov,iv] []):=by intro _;rfl):PG X (.Subscript o i pos) (We to ti t):=by
 intro zB s Y H v u Q I r h;rw[ha];refine AA (B2 (thn (ho zB s Y H _ I h) λov s1 ⟨x,H1,I1,r1,q1⟩=>?_));refine AA (B2 (thn (hi zB s1 Y H1 _ I1 q1) λiv s2 ⟨y,H2,I2,r2,q2⟩=>?_));refine AA (B1 (AA (B2 (thn (hs zB s2 Y H2 x y v ov iv u _ I2 r1 r2 r q2) λ_ s3 ⟨H3,I3,q3⟩=>?_))));exact wpAny_release ⟨Y,H3,I3,q3⟩
noncomputable def HD (te:TE) (g:TG):TS:=λD Y H=>te Y H λx H1=>g x Y H1 D.nx
def RJ {tg e:Expr} {te:TE} {g:TG} (he:PE X e te) (hg:PG X tg g) (hs:swapsWithSole [tg] e pos.line X.env=pure false:=by rfl) (hw:swappedStores [tg] e X.env=pure none:=by rfl)
  (h1:(assignEach [tg] X.env).map (·.2)=[assign tg X.env]:=by rfl):PS X (.Assign [tg] e pos) (HD te g):=by
 intro zB s Y H D I h;refine wpAny_Assign_stores (thn (he zB s Y H _ I h) λv s1 ⟨x,H1,I1,r1,q1⟩=>?_) hs hw;rw[h1];exact thn (hg zB s1 Y H1 x v _ I1 r1 q1) λ_ s2 q=>q
def aX {i:Nat} {x:Str} {e:Expr} {te:TE} {pos':Pos} (hN:X.N.Nodup) (hi:X.N[i]?=some x) (hx:Loc X.env.scope x) (he:PE X e te) (hs:swapsWith e (some (.Name x pos')) pos.line X.env=pure false:=by rfl) (hf:X.fn x=true\/X.env.scope.names.lookup x=some .local:=by first|exact .inl rfl|exact .inr rfl|assumption) :
  PS X (.Assign [.Name x pos'] e pos) (HD te (Bu i)):=by
 intro zB s Y H D I h;refine wpAny_Assign_Name (thn (he zB s Y H _ I h) λv s1 ⟨y,H1,I1,r1,q1⟩=>?_) hs;exact NI I1 hN hi hx r1 (λs2 I2=>⟨_,H1,I2,q1⟩) hf
noncomputable def Q0 (c:TT) (tb:TS):TS:=λD Y H=>∃ W:Nat->St->Hp->Prop,(∃ m,W m Y H) /\ ∀ m Y H,W m Y H ->
 c Y H λb H1=>if b=true then ∃ N:St->Hp->Prop,(∀ Y' H',N Y' H' -> ∃ m',m'<m/\W m' Y' H')/\tb { D with nx:=N,ct:=N,bk:=D.nx } Y H1 else D.nx Y H1
def XO {c:Expr} {body:Yy} {tc:TT} {tb:TS} (hp:PassesOwn (model X.prog X.w) X.A X.env X.xe) (hc:PT X c tc) (hb:PSs X body tb):PS X (.While c body [] pos) (Q0 tc tb):=by
 intro zB s Y H D I h;obtain ⟨W,⟨m0,w0⟩,turn⟩:=h;refine wpAny_While (codeAny_whileLoop (λn s'=>∃ Y' H',Inv X zB Y' H' s'/\W n Y' H') ?_ m0 ⟨Y,H,I,w0⟩);rintro n s1 ⟨σ1,H1,I1,w1⟩;refine wpAny_passesOwn hp (thn (hc zB s1 σ1 H1 _ I1 (turn n σ1 H1 w1)) λb s2 ⟨H2,I2,q2⟩=>?_);cases b with
 |true=>
  obtain ⟨N,hN,q2⟩:=q2;rw[AB rfl];refine wpAny_passesOwn hp (thn (hb zB s2 σ1 H2 _ I2 q2) λf s3 q3=>?_);cases f with
  |next=>
   obtain ⟨σ3,H3,I3,n3⟩:=q3;obtain ⟨m',hm,w3⟩:=hN σ3 H3 n3;exact ⟨m',hm,σ3,H3,I3,w3⟩
  |cont=>
   obtain ⟨σ3,H3,I3,n3⟩:=q3;obtain ⟨m',hm,w3⟩:=hN σ3 H3 n3;exact ⟨m',hm,σ3,H3,I3,w3⟩
  |brk=>exact q3
  |ret v=>exact q3
 |false=>
  rw[AE BA];exact wpAny_execs_nil ⟨σ1,H2,I2,q2⟩
end
structure It where
 go:Nat->Hp->Prop
 yld:Nat->Hp->V->Hp->Prop
 stop:Nat->Hp->Prop
def BH (X:Cx) (zB:Yd) (H:Hp) (b:Yt):Prop :=
 H b=none/\b≠X.env.locals/\b∉X.fs/\(b∈X.ex\/X.s₀.heap.objs.size<=b)/\(∀ x c,X.env.cells.lookup x=some c->c≠b) /\ ∀ p∈X.pn++zB,p.1≠b
def Inv.fpOk {X:Cx} {zB:Yd} {Y:St} {H H':Hp} {s:Yl} {b:Yt} (I:Inv X zB Y H s) (hb:s.heap.objs.size<=b) (hn:H' b=none):BH X zB H' b:=by
 refine ⟨hn,Cz (BB I.lt hb),I.nofs hb,.inr (AZ I.sz hb),λx c e z=>?_,λp hp z=>?_⟩
 .obtain ⟨v,q⟩:=I.cell x c e;exact absurd (BB q.lt (by rw[z];exact hb)) (BV _)
 .exact absurd (BB (AH (I.pin p hp).1) (by rw[z];exact hb)) (BV _)
structure Turn (P:Ym) (w:Yo) (K:Yb) (tg:Expr) (J:It) (fp:Yg) (it:Yt) (tn:Nat->Heap->Prop):Prop where
 mem:it∈fp
 obj:∀ i h,tn i h -> ∀ b∈fp,∃ o,h.get? b=some o /\ ∀ v,o.data≠.cell v
 keep:∀ i h h',tn i h->(∀ b∈fp,∀ o,h.get? b=some o->h'.get? b=some o)->tn i h'
 item:∀ (X:Cx),X.prog=P->X.w=w->X.K=K->X.calm=true -> ∀ (i:Nat) (zB:Yd) (s:Yl) (Y:St) (H:Hp) (E:Yc),Inv X zB Y H s->(∀ b∈fp,BH X zB H b)->tn i s.heap->J.go i H ->
  wpAny (model P w) X.A (pyNext (.ref it)) (λr s1=>∃ u,r=some u /\
   wpAny (model P w) X.A (letOwnedTupleGo tg (.ref it) u) (λ_ s2=>∃ x H',Inv X zB Y H' s2/\zj x u/\J.yld i H x H'/\tn (i+1) s2.heap /\ ∀ b∈fp,H' b=none) E s1) E s
 done:∀ (X:Cx),X.prog=P->X.w=w->X.K=K->X.calm=true -> ∀ (i:Nat) (zB:Yd) (s:Yl) (Y:St) (H:Hp) (E:Yc),Inv X zB Y H s->(∀ b∈fp,BH X zB H b)->tn i s.heap->J.stop i H ->
  wpAny (model P w) X.A (pyNext (.ref it)) (λr s1=>r=none/\Inv X zB Y H s1) E s
 self:∀ (A:Yn) (i:Nat) (s:Yl) (Q:Yc) (E:Yc),tn i s.heap->Q (.ref it) s->wpAny (model P w) A (pyIter (.ref it)) Q E s
noncomputable abbrev TI:=St->Hp->(It->Hp->Prop)->Prop
def PIE (X:Cx) (zB:Yd) (Y:St) (tg:Expr) (R:It->Hp->Prop) (itv:Yu) (s2:Yl):Prop :=
 ∃ (it:Yt) (fp:Yg) (tn:Nat->Heap->Prop) (J:It) (H':Hp),itv=.ref it/\Inv X zB Y H' s2/\Turn X.prog X.w X.K tg J fp it tn/\tn 0 s2.heap/\(∀ b∈fp,BH X zB H' b)/\R J H'
def PI (X:Cx) (tg iter:Expr) (wi:TI):Prop :=
  ∀ (zB:Yd) (s:Yl) (Y:St) (H:Hp) (R:It->Hp->Prop),Inv X zB Y H s->wi Y H R ->
    wpAny (model X.prog X.w) X.A (eval iter X.env) (λv s1=>wpAny (model X.prog X.w) X.A (pyIter v) (PIE X zB Y tg R) X.xe s1) X.xe s
def JW {M:Model} {A:Yn} {E:Yc} {s:Yl} {tg:Expr} {it:Yt} {u:Yu} {o:Obj} {n:String} {vs:Yp} {Q:Unit->Shared->Prop} (ho:s.heap.get? it=some o) (hc:o.cls=.type n) (hd:o.data=.fields vs)
    (hn:["enumerate", "zip", "dict_itemiterator", "dict_reverseitemiterator", "odict_iterator", "itertools.zip_longest", "itertools.pairwise"].contains n=false) (hQ:Q () s):wpAny M A (letOwnedTupleGo tg (.ref it) u) Q E s:=by
  unfold letOwnedTupleGo
  cases tg <;> first
    |exact AD hQ
    | (cases u <;> first
        |exact AD hQ
        | (refine AA (wpAny_load ho ?_)
           rw[hc,hd];show wpAny M A (if (["enumerate", "zip", "dict_itemiterator", "dict_reverseitemiterator", "odict_iterator", "itertools.zip_longest", "itertools.pairwise"].contains n&&vs[0]?==some (rawInt _))=true then _ else _) Q E s;rw[AE (by intro h;rw[hn,Bool.false_and]at h;cases h)];exact AD hQ))
noncomputable def Itl (K:Yb) (a:Yt):It :=
 ⟨λi H=>∃ xs x,SqL K H a xs/\xs[i]?=some x,λi H x H'=>H'=H /\ ∀ xs,SqL K H a xs->xs[i]?=some x,λi H=>∃ xs,SqL K H a xs/\xs.length<=i⟩
noncomputable def Itt (K:Yb) (a:Yt):It :=
 ⟨λi H=>∃ xs x,SqT K H a xs/\xs[i]?=some x,λi H x H'=>H'=H /\ ∀ xs,SqT K H a xs->xs[i]?=some x,λi H=>∃ xs,SqT K H a xs/\xs.length<=i⟩
noncomputable def Itr (lo:Int) (n:Nat):It:=⟨λi _=>i<n,λi H x H'=>H'=H/\x=.int (lo+i),λi _=>n<=i⟩
def gT {P:Ym} {w:Yo} {K:Yb} {tg:Expr} (a it:Yt):Turn P w K tg (Itl K a) [it] it (λi h=>h.IsListIter it a i) where
 mem:=by simp
 obj:=λi h st b hb=>by
  have e:b=it:=by simpa using hb
  subst e;obtain ⟨o,e,c,d⟩:=st;exact ⟨o,e,λv z=>by rw[d]at z;cases z⟩
 keep:=λi h h' st k=>st.at λo e=>k it (by simp) o e;item:=by
  intro X hP hw hK hc i zB s Y H E I hf st hg;subst hP hw hK;obtain ⟨xs,x,hq,hx⟩:=hg;obtain ⟨its,rv,p,hz⟩:=I.list hq;obtain ⟨u,hu,ru⟩:=rv.get hx;obtain ⟨f0,f1,f2,f3,f4,f5⟩:=hf it (by simp);refine wpAny_pyNext_list_item st p.isList (x:=u) (by simpa using hu) λh' st' sb=>?_;have I1:Inv X zB Y H { s with heap:=h' }:=I.turned (t':=s.toks) (λb o hb e=>(sb.2 b hb).trans e) f0 f1 f3 f4 f5;obtain ⟨o,e,c,d⟩:=id st';exact ⟨u,rfl,JW (s:={ s with heap:=h' }) e c d (by decide) ⟨x,H,I1,ru,⟨rfl,λys hy=>by rw[I.list_inj hy hq];exact hx⟩,st',λb hb=>(hf b hb).1⟩⟩
 done:=by
  intro X hP hw hK hc i zB s Y H E I hf st hg;subst hP hw hK;obtain ⟨xs,hq,hx⟩:=hg;obtain ⟨its,rv,p,hz⟩:=I.list hq;obtain ⟨f0,f1,f2,f3,f4,f5⟩:=hf it (by simp);have hl:=rv.length;exact wpAny_pyNext_list_end (I.ok.hd hc) st p.isList (by simp;omega) λh' eb=>⟨rfl,I.turned (t':=s.toks) (λb o hb e=>eb b o hb e) f0 f1 f3 f4 f5⟩
 self:=λ_ _ _ _ _ st h=>wpAny_pyIter_listiter st h
def WT {P:Ym} {w:Yo} {K:Yb} {tg:Expr} (a it:Yt):Turn P w K tg (Itt K a) [it] it (λi h=>h.IsTupleIter it a i) where
 mem:=by simp
 obj:=λi h st b hb=>by
  have e:b=it:=by simpa using hb
  subst e;obtain ⟨o,e,c,d⟩:=st;exact ⟨o,e,λv z=>by rw[d]at z;cases z⟩
 keep:=λi h h' st k=>st.at λo e=>k it (by simp) o e;item:=by
  intro X hP hw hK hc i zB s Y H E I hf st hg;subst hP hw hK;obtain ⟨xs,x,hq,hx⟩:=hg;obtain ⟨its,rv,p,hz⟩:=I.tuple hq;obtain ⟨u,hu,ru⟩:=rv.get hx;obtain ⟨f0,f1,f2,f3,f4,f5⟩:=hf it (by simp);refine wpAny_pyNext_tuple_item st (show s.heap.IsTuple a its.toArray from p) (x:=u) (by simpa using hu) λh' st' sb=>?_;have I1:Inv X zB Y H { s with heap:=h' }:=I.turned (t':=s.toks) (λb o hb e=>(sb.2 b hb).trans e) f0 f1 f3 f4 f5;obtain ⟨o,e,c,d⟩:=id st';exact ⟨u,rfl,JW (s:={ s with heap:=h' }) e c d (by decide) ⟨x,H,I1,ru,⟨rfl,λys hy=>by rw[I.tuple_inj hy hq];exact hx⟩,st',λb hb=>(hf b hb).1⟩⟩
 done:=by
  intro X hP hw hK hc i zB s Y H E I hf st hg;subst hP hw hK;obtain ⟨xs,hq,hx⟩:=hg;obtain ⟨its,rv,p,hz⟩:=I.tuple hq;obtain ⟨f0,f1,f2,f3,f4,f5⟩:=hf it (by simp);have hl:=rv.length;exact wpAny_pyNext_tuple_end (I.ok.hd hc) st (show s.heap.IsTuple a its.toArray from p) (by simp;omega) λh' eb=>⟨rfl,I.turned (t':=s.toks) (λb o hb e=>eb b o hb e) f0 f1 f3 f4 f5⟩
 self:=λ_ _ _ _ _ st h=>wpAny_pyIter_tupleiter st h
def i5 {P:Ym} {w:Yo} {K:Yb} {tg:Expr} (it:Yt) (lo:Int) (n:Nat):Turn P w K tg (Itr lo n) [it] it (λi h=>IsRangeIter h it (lo+(i:Nat)*1) ((n:Int)-(i:Nat)) 1) where
 mem:=by simp
 obj:=λi h st b hb=>by
  have e:b=it:=by simpa using hb
  subst e;exact ⟨_,st,λv z=>by
   have z':Data.fields _=Data.cell v:=z;cases z'⟩
 keep:=λi h h' st k=>k it (by simp) _ st;item:=by
  intro X hP hw hK hc i zB s Y H E I hf st hg;subst hP hw hK;obtain ⟨f0,f1,f2,f3,f4,f5⟩:=hf it (by simp);have W:=Walks.range (prog:=X.prog) (w:=X.w) (I.ok.hd hc) it lo 1 n;refine W.item i s _ _ hg st λv h' tk hv st' kk=>?_;obtain ⟨t,rfl⟩:=hv;have I1:Inv X zB Y H { s with heap:=h',toks:=tk }:=I.turned (λb o hb e=>kk b o (by simpa using hb) e) f0 f1 f3 f4 f5;refine ⟨_,rfl,JW (s:={ s with heap:=h',toks:=tk }) (n := "range_iterator") st' rfl rfl (by decide) ⟨.int (lo+i),H,I1,⟨t,?_⟩,⟨rfl,rfl⟩,st',λb hb=>(hf b hb).1⟩⟩;rw[Int.mul_one]
 done:=by
  intro X hP hw hK hc i zB s Y H E I hf st hg;subst hP hw hK;obtain ⟨f0,f1,f2,f3,f4,f5⟩:=hf it (by simp);exact wpAny_pyNext_range_end (I.ok.hd hc) st (by have:n<=i:=hg;omega) λh' eb=>⟨rfl,I.turned (t':=s.toks) (λb o hb e=>eb b o hb e) f0 f1 f3 f4 f5⟩
 self:=λ_ _ _ _ _ st h=>wpAny_pyIter_rangeiter st h
section
variable {X:Cx} {tg:Expr}
def iL {zB:Yd} {Y:St} {H:Hp} {s:Yl} {R:It->Hp->Prop} {E:Yc} {lo hi:Int} {t u v:Tok} {tk:Nat} (I:Inv X zB Y H s) (h1 : -(2 ^ 62)<=lo) (h2:lo<2 ^ 62) (h3 : -(2 ^ 62)<=hi) (h4:hi<2 ^ 62)
  (q:R (Itr lo (hi-lo).toNat) H):wpAny (model X.prog X.w) X.A (pyIter (.ref s.heap.objs.size)) (PIE X zB Y tg R) E { s with heap:=s.heap.push { cls:=.type "range", data:=.fields #[.int lo t,.int hi u,.int 1 v] },toks:=tk }:=by
 refine wpAny_pyIter_range (IsRange.new ..) (small_one h1 h2 h3 h4) ?_;have I1:Inv X zB Y H { s with heap:=s.heap.push { cls:=.type "range", data:=.fields #[.int lo t,.int hi u,.int 1 v] },toks:=tk }:=I.kept λb o e=>AJ _ e
 refine ⟨(s.heap.push { cls:=.type "range", data:=.fields #[.int lo t,.int hi u,.int 1 v] }).objs.size,[(s.heap.push { cls:=.type "range", data:=.fields #[.int lo t,.int hi u,.int 1 v] }).objs.size],_,_,H,rfl,
  I1.kept (t':=tk) λb o e=>AJ _ e,i5 _ lo (hi-lo).toNat,?_,λb hb=>?_,q⟩
 .have e1:lo+((0:Nat):Int)*1=lo:=by simp
  have e2:(((hi-lo).toNat:Nat):Int)-((0:Nat):Int)=Builtin.Range.rangeSize lo hi 1:=by rw[rangeSize_one];split <;> omega
  show IsRangeIter _ _ (lo+((0:Nat):Int)*1) ((((hi-lo).toNat:Nat):Int)-((0:Nat):Int)) 1;rw[e1,e2];exact AV _ rfl
 .have e:b=(s.heap.push { cls:=.type "range", data:=.fields #[.int lo t,.int hi u,.int 1 v] }).objs.size:=by simpa using hb
  subst e;exact I1.fpOk (AF _) (I1.hok.fresh (AF _))
noncomputable def eI (ta:TA):TI:=λY H R=>ta Y H λvs H1=>∃ j:Int,vs=[.int j] /\ -(2 ^ 62)<=j/\j<2 ^ 62/\R (Itr 0 j.toNat) H1
def j7 {a:Expr} {ta:TA} {p pos:Pos} (hg:Gl X "range") (hm:X.mg "range" = none) (ha:PA X [a] ta) (hs:starEach [a] X.env=[(false,eval a X.env)]:=by rfl):PI X tg (.Call (.Name "range" p) [a] [] pos) (eI ta):=by
 intro zB s Y H R I h;refine Call_ (Fz I hg hm boot_range (PyProof.Rows.callWith_type1 (thn (ha pos zB s Y H _ I h) λus s1 ⟨vs,H1,I1,r1,q1⟩=>?_) hs rfl));obtain ⟨j,e,q1,q2,q⟩:=q1;subst e;cases r1 with
 |cons r rr=>
  cases rr;obtain ⟨t,rfl⟩:=r;exact call_range_1 (iL I1 (by omega) (by omega) q1 q2 (by simpa using q))
noncomputable def NV (wi:TI) (g:TG) (tb:TS):TS:=λD Y H=>wi Y H λJ H1=>∃ W:Nat->Nat->St->Hp->Prop,(∃ m,W 0 m Y H1) /\ ∀ i m Y H,W i m Y H ->
 (J.stop i H/\D.nx Y H)\/(J.go i H /\ ∃ N:St->Hp->Prop,(∀ Y' H',N Y' H' -> ∃ m',m'<m/\W (i+1) m' Y' H') /\ ∀ x H',J.yld i H x H'->g x Y H' λσ2 H2=>tb { D with nx:=N,ct:=N,bk:=D.nx } σ2 H2)
noncomputable def EF (fp:Yg) (h:Heap):List (Addr × Obj):=fp.filterMap λb=>(h.get? b).map λo=>(b,o)
def DD {fp:Yg} {h:Heap} {b:Yt} {o:Obj} (hb:b∈fp) (e:h.get? b=some o):(b,o)∈EF fp h:=List.mem_filterMap.mpr ⟨b,hb,by rw[e];rfl⟩
def QJ {fp:Yg} {h:Heap} {p:Addr × Obj} (hp:p∈EF fp h):p.1∈fp/\h.get? p.1=some p.2:=by
 obtain ⟨b,hb,e⟩:=List.mem_filterMap.mp hp;cases q:h.get? b with
 |none=>rw[q]at e;cases e
 |some o=>
  rw[q]at e;have e':(b,o)=p:=B0 e;subst e';exact ⟨hb,q⟩
def Inv.pinned {zB:Yd} {Y:St} {H:Hp} {s:Yl} {fp:Yg} (I:Inv X zB Y H s) (hf:∀ b∈fp,BH X zB H b) (ho:∀ b∈fp,∃ o,s.heap.get? b=some o /\ ∀ v,o.data≠.cell v):Inv X (zB++EF fp s.heap) Y H s :=
 I.pins_of λp hp=>(Ai.mp hp).elim (λz=>I.pin p (Ah _ z)) λz=>by
  obtain ⟨hb,e⟩:=QJ z;obtain ⟨f0,f1,f2,_⟩:=hf p.1 hb;obtain ⟨o,e',d⟩:=ho p.1 hb;rw[e]at e';cases e';exact ⟨e,f0,f1,f2,d⟩
def Inv.unpinned {zB pl:Yd} {Y:St} {H:Hp} {s:Yl} (I:Inv X (zB++pl) Y H s):Inv X zB Y H s:=I.pins_of λp hp=>I.pin p (Ah _ (CS _ hp))
def VI {iter:Expr} {body:Yy} {wi:TI} {g:TG} {tb:TS} {pos:Pos} (hp:PassesOwn (model X.prog X.w) X.A X.env X.xe) (hc:X.calm=true) (hi:PI X tg iter wi) (hg:PG X tg g) (hb:PSs X body tb)
  (hs:∀ x,foldedSetIterable iter X.env x=pure x:=by intro _;rfl):PS X (.For tg iter body [] pos) (NV wi g tb):=by
 intro zB s Y H D I h;refine wpAny_For (thn (hi zB s Y H _ I h) λv s1 h1=>thn h1 λitv s2 h2=>?_) hs;obtain ⟨it,fp,tn,J,H2,e,I2,T,st2,f2,W,⟨m0,w0⟩,turn⟩:=h2;subst e;have stat:∀ {H':Hp},(∀ b∈fp,H' b=none) -> ∀ b∈fp,BH X zB H' b:=λhn b hb=>⟨hn b hb,(f2 b hb).2⟩;refine codeAny_forLoop_any (λn s'=>∃ i Y' H',Inv X zB Y' H' s'/\tn i s'.heap/\(∀ b∈fp,H' b=none)/\W i n Y' H') ?_ m0 ⟨0,Y,H2,I2,st2,λb hb=>(f2 b hb).1,w0⟩;rintro n s3 ⟨i,σ3,H3,I3,st3,fr3,w3⟩;rcases turn i n σ3 H3 w3 with ⟨stop,qn⟩|⟨go,N,hN,step⟩
 .refine wpAny_passesOwn hp (thn (T.done X rfl rfl rfl hc i zB s3 σ3 H3 X.xe I3 (stat fr3) st3 stop) λr s4 ⟨hr,I4⟩=>?_);subst hr;exact wpAny_execs_nil ⟨σ3,H3,I4,qn⟩
 .refine wpAny_passesOwn hp (thn (T.item X rfl rfl rfl hc i zB s3 σ3 H3 X.xe I3 (stat fr3) st3 go) λr s4 ⟨u,hr,h4⟩=>?_);subst hr;refine wpAny_passesOwn hp (thn h4 λ_ s5 ⟨x,H5,I5,r5,y5,st5,fr5⟩=>?_);have I5':=I5.pinned (stat fr5) (T.obj _ _ st5);refine wpAny_passesOwn hp (thn (hg _ s5 σ3 H5 x u _ I5' r5 (step x H5 y5)) λ_ s6 ⟨σ6,H6,I6,q6⟩=>?_);refine wpAny_passesOwn hp (thn (hb _ s6 σ6 H6 _ I6 q6) λf s7 q7=>?_);have again:∀ {σ7:St} {H7:Hp},Inv X (zB++EF fp s5.heap) σ7 H7 s7->N σ7 H7 -> ∃ m,m<n /\ ∃ i Y' H',Inv X zB Y' H' s7/\tn i s7.heap/\(∀ b∈fp,H' b=none)/\W i m Y' H':=λ{σ7 H7} I7 n7=>by
   obtain ⟨m',hm,w7⟩:=hN σ7 H7 n7;refine ⟨m',hm,i+1,σ7,H7,I7.unpinned,T.keep _ _ _ st5 λb hb o e=>(I7.pin (b,o) (Ah _ (Ah _ (DD hb e)))).1,λb hb=>?_,w7⟩;obtain ⟨o,e,d⟩:=T.obj _ _ st5 b hb;exact (I7.pin (b,o) (Ah _ (Ah _ (DD hb e)))).2.1
  cases f with
  |next=>obtain ⟨σ7,H7,I7,n7⟩:=q7;exact again I7 n7
  |cont=>obtain ⟨σ7,H7,I7,n7⟩:=q7;exact again I7 n7
  |brk=>obtain ⟨σ7,H7,I7,q7⟩:=q7;exact ⟨σ7,H7,I7.unpinned,q7⟩
  |ret v=>obtain ⟨x7,σ7,H7,I7,r7,q7⟩:=q7;exact ⟨x7,σ7,H7,I7.unpinned,r7,q7⟩
end
noncomputable abbrev R2:=V->V->Hp->VK->Prop
def OpR (X:Cx) (f:Y2) (r:R2):Prop :=
 ∀ (zB:Yd) (s:Yl) (Y:St) (H:Hp) (x y:V) (v u:Yu) (Q:VK),Inv X zB Y H s->zj x v->zj y u->r x y H Q ->
  wpAny (model X.prog X.w) X.A (f v u) (EP X zB Y Q) X.xe s
def Bk (X:Cx) (f:Yu) (r:List V->Hp->VK->Prop):Prop :=
 ∀ (zB:Yd) (s:Yl) (Y:St) (H:Hp) (xs:List V) (us:Yf) (Q:VK),Inv X zB Y H s->zY xs us->r xs H Q ->
  wpAny (model X.prog X.w) X.A (call f us) (EP X zB Y Q) X.xe s
def Vl (X:Cx) (r:V->Hp->(Bool->Hp->Prop)->Prop):Prop :=
 ∀ (zB:Yd) (s:Yl) (Y:St) (H:Hp) (x:V) (v:Yu) (Q:Bool->Hp->Prop),Inv X zB Y H s->zj x v->r x H Q ->
  wpAny (model X.prog X.w) X.A (truthy v) (TP X zB Y Q) X.xe s
noncomputable def tOp (r:R2) (ta tb:TE):TE:=λY H Q=>ta Y H λx H1=>tb Y H1 λy H2=>r x y H2 Q
noncomputable def rI (C:Int->Int->Prop) (g:Int->Int->V):R2:=λx y H Q=>∃ i j,x=.int i/\y=.int j/\C i j/\Q (g i j) H
noncomputable def rI0 (g:Int->Int->V):R2:=λx y H Q=>∃ i j,x=.int i/\y=.int j/\Q (g i j) H
section
variable {X:Cx} {a b c:Expr} {ta tb tc:TE} {pos:Pos}
def KJ (ha:PE X a ta) (hb:PE X b tb) {zB:Yd} {s:Yl} {Y:St} {H:Hp} {R:V->V->Hp->Prop} (I:Inv X zB Y H s)
  (h:ta Y H λx H1=>tb Y H1 λy H2=>R x y H2) {Q:Yc} {f:Y2}
  (hf:∀ v u s2 x y H2,Inv X zB Y H2 s2->zj x v->zj y u->R x y H2->wpAny (model X.prog X.w) X.A (f v u) Q X.xe s2) :
  wpAny (model X.prog X.w) X.A (eval a X.env) (λv s₁=>wpAny (model X.prog X.w) X.A (eval b X.env) (λu s₂=>wpAny (model X.prog X.w) X.A (f v u) Q X.xe s₂) X.xe s₁) X.xe s:=by
 refine thn (ha zB s Y H _ I h) λv s1 ⟨x,H1,I1,r1,q1⟩=>?_;refine thn (hb zB s1 Y H1 _ I1 q1) λu s2 ⟨y,H2,I2,r2,q2⟩=>?_;exact hf v u s2 x y H2 I2 r1 r2 q2
def bO {op:Operator} {r:R2} (ho:OpR X (binaryOp op) r) (ha:PE X a ta) (hb:PE X b tb):PE X (.BinOp a op b pos) (tOp r ta tb):=by
 intro zB s Y H Q I h;exact wpAny_BinOp (KJ ha hb I h λv u s2 x y H2 I2 rx ry q=>ho zB s2 Y H2 x y v u Q I2 rx ry q)
def opI {f:Y2} {C:Int->Int->Prop} {g:Int->Int->Int}
  (rule:∀ (i j:Int) (t u:Tok) (s:Yl) (Q:Yc) (E:Yc),C i j->Q (.int (g i j) s.toks) { s with toks:=s.toks+1 }->wpAny (model X.prog X.w) X.A (f (.int i t) (.int j u)) Q E s) :
  OpR X f (rI C λi j=> .int (g i j)):=by
 intro zB s Y H x y v u Q I rx ry h;obtain ⟨i,j,rfl,rfl,hc,q⟩:=h;obtain ⟨t,rfl⟩:=rx;obtain ⟨t',rfl⟩:=ry;exact rule i j t t' s _ _ hc ⟨.int (g i j),H,I.tok _,⟨_,rfl⟩,q⟩
def Qr {f:Y2} {g:Int->Int->Int}
  (rule:∀ (i j:Int) (t u:Tok) (s:Yl) (Q:Yc) (E:Yc),Q (.int (g i j) s.toks) { s with toks:=s.toks+1 }->wpAny (model X.prog X.w) X.A (f (.int i t) (.int j u)) Q E s) :
  OpR X f (rI0 λi j=> .int (g i j)):=by
 intro zB s Y H x y v u Q I rx ry h;obtain ⟨i,j,rfl,rfl,q⟩:=h;obtain ⟨t,rfl⟩:=rx;obtain ⟨t',rfl⟩:=ry;exact rule i j t t' s _ _ ⟨.int (g i j),H,I.tok _,⟨_,rfl⟩,q⟩
def JB {f:Y2} {g:Int->Int->Bool}
  (rule:∀ (i j:Int) (t u:Tok) (s:Yl) (Q:Yc) (E:Yc),Q (.bool (g i j)) s->wpAny (model X.prog X.w) X.A (f (.int i t) (.int j u)) Q E s) :
  OpR X f (rI0 λi j=> .bl (g i j)):=by
 intro zB s Y H x y v u Q I rx ry h;obtain ⟨i,j,rfl,rfl,q⟩:=h;obtain ⟨t,rfl⟩:=rx;obtain ⟨t',rfl⟩:=ry;exact rule i j t t' s _ _ ⟨.bl (g i j),H,I,rfl,q⟩
def UH (i j:Int):Prop:=0<j/\j<1073741824
def ZO (i j:Int):Prop:=0<=j/\j<=1000000/\i.natAbs<2 ^ 64
def LV (i j:Int):Prop:=(-(2 ^ 64)<i/\i<2 ^ 64)\/(-(2 ^ 64)<j/\j<2 ^ 64)
def LV.ok {i j:Int} (h:LV i j):IntMulOk i j:=by
 rcases h with ⟨h1,h2⟩|⟨h1,h2⟩
 .exact .of_left (intBits_le_64 h1 h2)
 .exact .of_right (intBits_le_64 h1 h2)
def XC:OpR X (binaryOp .Add) (rI0 λi j=> .int (i+j)):=Qr λ_ _ _ _ _ _ _ q=>add_int q
def ZP:OpR X (binaryOp .Sub) (rI0 λi j=> .int (i-j)):=Qr λ_ _ _ _ _ _ _ q=>sub_int q
def iU:OpR X (binaryOp .Mult) (rI LV λi j=> .int (i*j)):=opI λ_ _ _ _ _ _ _ hc q=>mul_int q hc.ok
def ZW:OpR X (binaryOp .FloorDiv) (rI UH λi j=> .int (i / j)):=opI λi j _ _ _ _ _ hc q=>by
 have h1:(0:Int)<j:=hc.1;have h2:j<1073741824:=hc.2;exact floordiv_int (by omega) (by rw[Int.fdiv_eq_ediv_of_nonneg i (by omega)];exact q) (.inl (PyProof.noPylong_small (by omega)))
def V6:OpR X (binaryOp .Mod) (rI (λ_ j=>0<j) λi j=> .int (i % j)):=opI λi j _ _ _ _ _ hc q=>by
 have h1:(0:Int)<j:=hc;exact mod_int' (by omega) (by rw[Int.fmod_eq_emod_of_nonneg i (by omega)];exact q)
def gZ:OpR X (binaryOp .Pow) (rI ZO λi j=> .int (i ^ j.toNat)):=opI λ_ _ _ _ _ _ _ hc q=>pow_int_small hc.1 hc.2.1 hc.2.2 q
end
noncomputable def Iv:V->V->Bool
 |.non,.non=>true|.non,.int _=>true|.int _,.non=>true|.non,.bl _=>true|.bl _,.non=>true|.non,.str _=>true|.str _,.non=>true
 |.int _,.int _=>true|.bl _,.bl _=>true|.str _,.str _=>true|.byt _,.byt _=>true
 |.int _,.str _=>true|.str _,.int _=>true|.bl _,.str _=>true|.str _,.bl _=>true
 |_,_=>false
noncomputable def rEq:R2:=λx y H Q=>Iv x y=true/\Q (.bl (decide (x=y))) H
noncomputable def rNe:R2:=λx y H Q=>Iv x y=true/\Q (.bl (!decide (x=y))) H
def NL {i j:Int}:decide (V.int i=V.int j)=(i==j):=by
 rw[Bool.eq_iff_iff];simp
def OC {i j:Bool}:decide (V.bl i=V.bl j)=(i==j):=by
 rw[Bool.eq_iff_iff];simp
def OS {i j:Str}:decide (V.str i=V.str j)=(i==j):=by
 rw[Bool.eq_iff_iff];simp
def OA {i j:Array UInt8}:decide (V.byt i=V.byt j)=(i.toList==j.toList):=by
 rw[Bool.eq_iff_iff];cases i;cases j;simp
section
variable {X:Cx} {a b c:Expr} {ta tb tc:TE} {pos:Pos}
def zk {zB:Yd} {Y:St} {H:Hp} {s:Yl} {Q:VK} {k k':Bool} (I:Inv X zB Y H s) (q:Q (.bl k) H) (e:k=k'):EP X zB Y Q (.bool k') s:=by
 subst e;exact ⟨.bl k,H,I,rfl,q⟩
def Ny:OpR X (compareOp .Eq) rEq:=by
 intro zB s Y H x y v u Q I rx ry h;obtain ⟨hs,q⟩:=h;cases x with
 |non=>
  cases rx;cases y with
  |non=>cases ry;exact PySem.EqNone.eq_none_none (zk I q (by simp))
  |bl j=>cases ry;exact PySem.EqNone.eq_none_bool (zk I q (by simp))
  |int j=>obtain ⟨t',rfl⟩:=ry;exact PySem.EqNone.eq_none_int (zk I q (by simp))
  |str j=>obtain ⟨t',rfl⟩:=ry;exact PySem.EqNone.eq_none_str (zk I q (by simp))
  |_=>exact absurd (show false=true from hs) BA
 |bl i=>
  cases rx;cases y with
  |non=>cases ry;exact PySem.EqNone.eq_bool_none (zk I q (by simp))
  |bl j=>cases ry;exact eq_bool (zk I q OC)
  |str j=>obtain ⟨t',rfl⟩:=ry;exact PySem.EqMixed.eq_bool_str (zk I q (by simp))
  |_=>exact absurd (show false=true from hs) BA
 |int i=>
  obtain ⟨t,rfl⟩:=rx;cases y with
  |non=>cases ry;exact PySem.EqNone.eq_int_none (zk I q (by simp))
  |int j=>obtain ⟨t',rfl⟩:=ry;exact eq_int (zk I q NL)
  |str j=>obtain ⟨t',rfl⟩:=ry;exact PySem.EqMixed.eq_int_str (zk I q (by simp))
  |_=>exact absurd (show false=true from hs) BA
 |str i=>
  obtain ⟨t,rfl⟩:=rx;cases y with
  |non=>cases ry;exact PySem.EqNone.eq_str_none (zk I q (by simp))
  |bl j=>cases ry;exact PySem.EqMixed.eq_str_bool (zk I q (by simp))
  |int j=>obtain ⟨t',rfl⟩:=ry;exact PySem.EqMixed.eq_str_int (zk I q (by simp))
  |str j=>obtain ⟨t',rfl⟩:=ry;exact eq_str (zk I q OS)
  |_=>exact absurd (show false=true from hs) BA
 |byt i=>
  obtain ⟨t,rfl⟩:=rx;cases y with
  |byt j=>obtain ⟨t',rfl⟩:=ry;exact PySem.W.eq_bytes (zk I q OA)
  |_=>exact absurd (show false=true from hs) BA
 |_=>cases y <;> exact absurd (show false=true from hs) BA
def gX:OpR X (compareOp .NotEq) rNe:=by
 intro zB s Y H x y v u Q I rx ry h;obtain ⟨hs,q⟩:=h;cases x with
 |non=>
  cases rx;cases y with
  |non=>cases ry;exact PySem.EqNone.ne_none_none (zk I q (by simp))
  |bl j=>cases ry;exact PySem.EqNone.ne_none_bool (zk I q (by simp))
  |int j=>obtain ⟨t',rfl⟩:=ry;exact PySem.EqNone.ne_none_int (zk I q (by simp))
  |str j=>obtain ⟨t',rfl⟩:=ry;exact PySem.EqNone.ne_none_str (zk I q (by simp))
  |_=>exact absurd (show false=true from hs) BA
 |bl i=>
  cases rx;cases y with
  |non=>cases ry;exact PySem.EqNone.ne_bool_none (zk I q (by simp))
  |bl j=>cases ry;exact ne_bool (zk I q (BJ not OC))
  |str j=>obtain ⟨t',rfl⟩:=ry;exact PySem.EqMixed.ne_bool_str (zk I q (by simp))
  |_=>exact absurd (show false=true from hs) BA
 |int i=>
  obtain ⟨t,rfl⟩:=rx;cases y with
  |non=>cases ry;exact PySem.EqNone.ne_int_none (zk I q (by simp))
  |int j=>obtain ⟨t',rfl⟩:=ry;exact ne_int (zk I q (BJ not NL))
  |str j=>obtain ⟨t',rfl⟩:=ry;exact PySem.EqMixed.ne_int_str (zk I q (by simp))
  |_=>exact absurd (show false=true from hs) BA
 |str i=>
  obtain ⟨t,rfl⟩:=rx;cases y with
  |non=>cases ry;exact PySem.EqNone.ne_str_none (zk I q (by simp))
  |bl j=>cases ry;exact PySem.EqMixed.ne_str_bool (zk I q (by simp))
  |int j=>obtain ⟨t',rfl⟩:=ry;exact PySem.EqMixed.ne_str_int (zk I q (by simp))
  |str j=>obtain ⟨t',rfl⟩:=ry;exact ne_str (zk I q (BJ not OS))
  |_=>exact absurd (show false=true from hs) BA
 |byt i=>
  obtain ⟨t,rfl⟩:=rx;cases y with
  |byt j=>obtain ⟨t',rfl⟩:=ry;exact PySem.W.ne_bytes (zk I q (BJ not OA))
  |_=>exact absurd (show false=true from hs) BA
 |_=>cases y <;> exact absurd (show false=true from hs) BA
def La:OpR X (compareOp .Lt) (rI0 λi j=> .bl (decide (i<j))):=JB λ_ _ _ _ _ _ _ q=>lt_int q
def Xb:OpR X (compareOp .LtE) (rI0 λi j=> .bl (decide (i<=j))):=JB λ_ _ _ _ _ _ _ q=>le_int q
def Nk:OpR X (compareOp .Gt) (rI0 λi j=> .bl (decide (j<i))):=JB λ_ _ _ _ _ _ _ q=>gt_int q
def SX:OpR X (compareOp .GtE) (rI0 λi j=> .bl (decide (j<=i))):=JB λ_ _ _ _ _ _ _ q=>ge_int q
def OpR.or {f:Y2} {r r':R2} (h:OpR X f r) (h':OpR X f r'):OpR X f (λx y H Q=>r x y H Q\/r' x y H Q):=by
 intro zB s Y H x y v u Q I rx ry q;rcases q with q|q
 .exact h zB s Y H x y v u Q I rx ry q
 .exact h' zB s Y H x y v u Q I rx ry q
def EE (b:Expr) {op:CmpOp} (h:op≠.In:=by decide) (h2:op≠.NotIn:=by decide):behindInMarks op b=false:=by
 have e1:(op==CmpOp.In)=false:=by cases op <;> first|rfl|exact absurd rfl h
 have e2:(op==CmpOp.NotIn)=false:=by cases op <;> first|rfl|exact absurd rfl h2
 cases b <;> simp[behindInMarks,e1,e2]
def aJ {op:CmpOp} {r:R2} (ho:OpR X (compareOp op) r) (ha:PE X a ta) (hb:PE X b tb) (hm:behindInMarks op b=false):PE X (.Compare a [op] [b] pos) (tOp r ta tb):=by
 intro zB s Y H Q I h;exact wpAny_Compare1 (KJ ha hb I h λv u s2 x y H2 I2 rx ry q=>ho zB s2 Y H2 x y v u Q I2 rx ry q) hm
noncomputable def Jk (t:TE):TT:=λY H Q=>t Y H λx H'=>∃ k,x=.bl k/\Q k H'
def VA {op:CmpOp} {r:R2} (ho:OpR X (compareOp op) r) (ha:PE X a ta) (hb:PE X b tb) (hm:behindInMarks op b=false):PT X (.Compare a [op] [b] pos) (Jk (tOp r ta tb)):=by
 intro zB s Y H Q I h;refine wpAny_isTrue_Compare1 (thn (ha zB s Y H _ I h) λv s1 ⟨x,H1,I1,r1,q1⟩=>thn (hb zB s1 Y H1 _ I1 q1) λu s2 ⟨y,H2,I2,r2,q2⟩=>
  thn (ho zB s2 Y H2 x y v u _ I2 r1 r2 q2) λc s3 ⟨z,H3,I3,r3,k,e,q3⟩=>?_) hm
 subst e;cases r3;exact EL ⟨H3,I3,q3⟩
noncomputable def RS (r r':R2) (ta tb tc:TE):TE:=λY H Q=>ta Y H λx H1=>tb Y H1 λy H2=>r x y H2 λz H3=>∃ k,z=.bl k /\
 (if k=true then tc Y H3 λw' H4=>r' y w' H4 Q else Q (.bl false) H3)
def b4 {op op':CmpOp} {r r':R2} (ho:OpR X (compareOp op) r) (ho':OpR X (compareOp op') r') (ha:PE X a ta) (hb:PE X b tb) (hc:PE X c tc)
  (hm:lastMarks [op,op'] [b,c]=false:=by with_unfolding_all rfl):PE X (.Compare a [op,op'] [b,c] pos) (RS r r' ta tb tc):=by
 intro zB s Y H Q I h;refine Compare_chain (thn (ha zB s Y H _ I h) λv s1 ⟨x,H1,I1,r1,q1⟩=>chain_link (thn (hb zB s1 Y H1 _ I1 q1) λu s2 ⟨y,H2,I2,r2,q2⟩=>
  thn (ho zB s2 Y H2 x y v u _ I2 r1 r2 q2) λd s3 ⟨z,H3,I3,r3,k,e,q3⟩=>?_)) hm
 subst e;cases r3;refine EL ?_;cases k with
 |false=>exact ite_ff ⟨.bl false,H3,I3,rfl,q3⟩
 |true=>exact ite_tt (chain_last (thn (hc zB s3 Y H3 _ I3 q3) λw' s4 ⟨z',H4,I4,r4,q4⟩=>ho' zB s4 Y H4 y z' u w' Q I4 r2 r4 q4))
def PR (K:Yb) (x:V) (H:Hp) (k:Bool):Prop :=
 match x with
 |.non=>k=false
 |.bl b=>k=b
 |.int i=>k=(i != 0)
 |.str y=>y.length<=sizeLine/\k=((y.length:Int) != 0)
 |.byt y=>y.size<=sizeLine/\k=((y.size:Int) != 0)
 |.ref p=>(∃ xs,SqL K H p xs/\k = !xs.isEmpty)\/(∃ xs,SqT K H p xs/\k = !xs.isEmpty) \/ ∃ kvs,H p=some (.dK kvs)/\k = !kvs.isEmpty
 |_=>False
def WI {κ:Type} {kvs:List (κ × V)} {vs:List (κ × Value)} (r:KV kvs vs):(!vs.isEmpty) = !kvs.isEmpty:=by
 cases r <;> rfl
def Pe {xs:List V} {its:Yf} (r:zY xs its):(!its.toArray.isEmpty) = !xs.isEmpty:=by
 cases r <;> simp
def Fc:(sizeLine:Nat)<2 ^ 63:=by rw[sizeLine_eq];decide
def hG:Vl X (λx H Q=>∃ k,PR X.K x H k/\Q k H):=by
 intro zB s Y H x v Q I rx h;obtain ⟨k,e,q⟩:=h;have hl:=Fc;have hs:sizeLine=16777216:=sizeLine_eq;cases x with
 |non=>
  cases rx;have e':k=false:=e;subst e';exact truthy_none ⟨H,I,q⟩
 |bl b=>
  cases rx;have e':k=b:=e;subst e';exact EL ⟨H,I,q⟩
 |int i=>
  obtain ⟨t,rfl⟩:=rx;have e':k=(i != 0):=e;subst e';exact PySem.P.truthy_int ⟨H,I,q⟩
 |str y=>
  obtain ⟨t,rfl⟩:=rx;obtain ⟨hy,e'⟩:y.length<=sizeLine/\k=((y.length:Int) != 0):=e;subst e';exact PySem.P.truthy_str (by omega) ⟨H,I.tok _,q⟩
 |byt y=>
  obtain ⟨t,rfl⟩:=rx;obtain ⟨hy,e'⟩:y.size<=sizeLine/\k=((y.size:Int) != 0):=e;subst e';exact PySem.W.truthy_bytes (by omega) ⟨H,I.tok _,q⟩
 |ref p=>
  cases rx;have e':(∃ xs,SqL X.K H p xs/\k = !xs.isEmpty)\/(∃ xs,SqT X.K H p xs/\k = !xs.isEmpty) \/ ∃ kvs,H p=some (.dK kvs)/\k = !kvs.isEmpty:=e;rcases e' with ⟨xs,hx,e'⟩|⟨xs,hx,e'⟩|⟨kvs,hx,e'⟩
  .subst e';obtain ⟨its,r,pl,hz⟩:=I.list hx;have hlen:=r.length;exact wpAny_truthy_list pl.isList (by simp only[AR];omega) ⟨H,I.tok _,by rw[Pe r];exact q⟩
  .subst e';obtain ⟨its,r,pl,hz⟩:=I.tuple hx;have hlen:=r.length;exact truthy_tuple pl (by simp only[AR];omega) ⟨H,I.tok _,by rw[Pe r];exact q⟩
  .subst e';obtain ⟨hz,hS,vs,r,m⟩:kvs.length<=sizeLine/\(p==sysModules)=false /\ ∃ vs,KV kvs vs/\s.heap.DictOf (Bb X.prog X.w) p vs:=I.hok p _ hx;have hlen:kvs.length=vs.length:=Paired.length r;exact wpAny_truthy_dict hS m (by omega) ⟨H,I.tok _,by rw[WI r];exact q⟩
 |_=>exact (show False from e).elim
def dS (ha:PE X a ta) (he:∀ whole,isTrue a X.env whole=(do let v <- whole;standAt a.pos;holding [v] (truthy v))) :
  PT X a (λY H Q=>ta Y H λx H'=>∃ k,PR X.K x H' k/\Q k H'):=by
 intro zB s Y H Q I h;exact isTrue_plain (thn (ha zB s Y H _ I h) λv s1 ⟨x,H1,I1,r1,q1⟩=>hG zB s1 Y H1 x v Q I1 r1 q1) (he _)
def Cs {x:V} {us:Yf} (r:zY [x] us):∃ u,us=[u]/\zj x u:=by
 cases r with
 |cons r1 r2=>cases r2;exact ⟨_,rfl,r1⟩
def Nf {x y:V} {us:Yf} (r:zY [x,y] us):∃ u w',us=[u,w']/\zj x u/\zj y w':=by
 cases r with
 |cons r1 r2=>
  cases r2 with
  |cons r3 r4=>cases r4;exact ⟨_,_,rfl,r1,r3⟩
def Zs:Bk X (.builtin "abs") (λxs H Q=>∃ i,xs=[.int i]/\Q (.int (if i<0 then -i else i)) H):=by
 intro zB s Y H xs us Q I r h;obtain ⟨i,rfl,q⟩:=h;obtain ⟨u,rfl,t,rfl⟩:=Cs r;exact call_abs_int λu tk=>⟨.int (if i<0 then -i else i),H,I.tok _,⟨_,rfl⟩,q⟩
def Xa (hc:X.calm=true):Bk X (.builtin "max") (λxs H Q=>∃ i j,xs=[.int i,.int j]/\Q (.int (if j>i then j else i)) H):=by
 intro zB s Y H xs us Q I r h;obtain ⟨i,j,rfl,q⟩:=h;obtain ⟨u,w',rfl,⟨t,rfl⟩,⟨t',rfl⟩⟩:=Nf r;refine max_two_ints (I.ok.hd hc) λh' tk k=>⟨_,H,I.kept k,?_,q⟩;by_cases hj:j>i
 .rw[AB hj,AB hj];exact ⟨_,rfl⟩
 .rw[AE hj,AE hj];exact ⟨_,rfl⟩
def W7 (hc:X.calm=true):Bk X (.builtin "min") (λxs H Q=>∃ i j,xs=[.int i,.int j]/\Q (.int (if j<i then j else i)) H):=by
 intro zB s Y H xs us Q I r h;obtain ⟨i,j,rfl,q⟩:=h;obtain ⟨u,w',rfl,⟨t,rfl⟩,⟨t',rfl⟩⟩:=Nf r;refine min_two_ints (I.ok.hd hc) λh' tk k=>⟨_,H,I.kept k,?_,q⟩;by_cases hj:j<i
 .rw[AB hj,AB hj];exact ⟨_,rfl⟩
 .rw[AE hj,AE hj];exact ⟨_,rfl⟩
def S8:Bk X (.type "int") (λxs H Q=>(∃ i,xs=[.int i]/\Q (.int i) H) \/ ∃ k,xs=[.bl k]/\Q (.int (if k then 1 else 0)) H):=by
 intro zB s Y H xs us Q I r h;rcases h with ⟨i,rfl,q⟩|⟨k,rfl,q⟩
 .obtain ⟨u,rfl,t,rfl⟩:=Cs r;exact call_int_int ⟨.int i,H,I,⟨_,rfl⟩,q⟩
 .obtain ⟨u,rfl,r1⟩:=Cs r;cases r1;exact call_int_bool ⟨.int (if k then 1 else 0),H,I.tok _,⟨_,rfl⟩,q⟩
end
structure ObjM (h:Heap) (x dx C:Yt) (mA:Yh):Prop where
 obj:h.get? x=some (PySem.W.instObj C dx)
 ns:h.Ns1 dx mA
 ne:dx≠x
def fJ {h:Heap} {dx:Yt} {mA:Yh} (n:h.Ns1 dx mA):∃ od,h.get? dx=some od /\ ∀ name,PySem.W.lookIn name od=some (mA name):=by
 obtain ⟨o,es,ep,ho,hd,hk,_,hm⟩:=n;refine ⟨o,ho,λname=>?_⟩;have e:=hm name;unfold nsFind findBy at e;rw[<-Array.find?_toList]at e;unfold PySem.W.lookIn;rw[hd];dsimp only;split
 .rename_i y q;rw[q]at e;exact BJ some e
 .rename_i q;rw[q]at e;have a:es.toList.any (·.refKey)=false:=by
   rw[List.any_eq_false];intro y hy;obtain ⟨z,t,hkey⟩:=hk y (Array.mem_toList_iff.mp hy);simp[DictEntry.refKey,hkey]
  have a':¬ es.toList.any (·.refKey)=true:=by rw[a];exact BA
  rw[AE a'];exact BJ some e
def ObjM.look {h:Heap} {x dx C:Yt} {mA:Yh} (I:ObjM h x dx C mA):∃ od,PySem.W.InstAt h x (PySem.W.instObj C dx) C (some od) /\ ∀ name,PySem.W.lookIn name od=some (mA name) :=
 let ⟨od,ho,hl⟩:=fJ I.ns
 ⟨od,⟨I.obj,rfl,rfl,ho⟩,hl⟩
def C3.some_of {v:V} {o:Option Value} (r:C3 (some v) o):∃ u,o=some u/\zj v u:=by
 cases o with
 |none=>exact (show False from r).elim
 |some u=>exact ⟨u,rfl,r⟩
section
variable {P:Ym} {w:Yo} {H H':Hp} {h h':Heap} {a C dx:Yt} {fs fs':List (Str × V)}
def i3 (hok:HOk P w H h) (e:H a=some (.ins C dx fs)):∃ mA,ObjM h a dx C mA/\(∀ f,C3 (fs.lookup f) (mA f))/\PySem.Within mA (fs.map (·.1))/\fs.length<=1000/\H dx=some (.own a):=by
 obtain ⟨d,z,ne,ob,mA,n,r,q⟩:=(show z0 P w H h a (.ins C dx fs)from hok a _ e);exact ⟨mA,⟨ob,n,ne⟩,r,q,z,d⟩
end
structure Cls (K:Yb) (C:Yt):Prop where
 pg:PySem.W.plainGet K C Str.empty=true
 hd:PySem.W.hasDictIn K C=true
 po:PySem.W.plainOver K C=true
 sa:PySem.W.findIn K (.ref C) "__setattr__" = some (some (.builtin "object.__setattr__"))
def Cls.get {K:Yb} {C:Yt} (c:Cls K C) (f:Str):PySem.W.plainGet K C f=true:=c.pg
section
variable {X:Cx} {zB:Yd} {Y:St} {H:Hp} {s:Yl} {A:Yn} {E:Yc} {Q:Yc} {c:Yu} {b:Bool}
set_option genInjectivity true in
inductive TyOf (K:Yb) (H:Hp):V->Value->Prop where
 |non:TyOf K H .non (.type "NoneType")
 |bl (x:Bool):TyOf K H (.bl x) (.type "bool")
 |int (i:Int):TyOf K H (.int i) (.type "int")
 |str (x:Str):TyOf K H (.str x) (.type "str")
 |flt (x:UInt64):TyOf K H (.flt x) (.type "float")
 |lst {a:Addr} {xs:List V} (e:H a=some (.lst xs)):TyOf K H (.ref a) (.type "list")
 |frz {a:Addr} {o:Obj} {xs:List V} (e:H a=some (.frz o (.lst xs))):TyOf K H (.ref a) (.type "list")
 |tup {a:Addr} {xs:List V} (e:H a=some (.tup xs)):TyOf K H (.ref a) (.type "tuple")
 |dK {a:Addr} {kvs:List (Key × V)} (e:H a=some (.dK kvs)):TyOf K H (.ref a) (.type "dict")
 |dT {a:Addr} {kvs:List (List Key × V)} (e:H a=some (.dT kvs)):TyOf K H (.ref a) (.type "dict")
 |ins {a C dx:Addr} {fs:List (Str × V)} (e:H a=some (.ins C dx fs)) (cl:Cls K C) (ha:PySem.W.findIn K (.ref C) "__class__" = some (some (.builtin "object.__class__")))
   (hn:PySem.W.specialIn K (.builtin "object.__class__") "__get__" = some (some (.builtin "getset_descriptor.__get__"))) (htk:PySem.W.takesIn K (.builtin "object.__class__")=some true)
   (hm:PySem.W.mroIn K C (.type "object")=some true):TyOf K H (.ref a) (.ref C)
def ZG {x:V} {u t:Yu} (I:Inv X zB Y H s) (rx:zj x u) (ty:TyOf X.K H x t) (e:PySem.W.kitOne X.K t c=some b) (h:∀ tk,Q (.bool b) { s with toks:=tk }) :
  wpAny (model X.prog X.w) A (call (.builtin "isinstance") [u,c]) Q E s:=by
 cases ty with
 |non=>cases (show u=Value.none from rx);exact Dl PySem.W.kitx_none I.kIn True.intro e (λz=>nomatch z) h
 |bl y=>cases (show u=Value.bool y from rx);exact Dl PySem.W.kitx_bool I.kIn True.intro e (λz=>nomatch z) h
 |int i=>obtain ⟨t,q⟩:=(show ∃ t,u=Value.int i t from rx);cases q;exact Dl PySem.W.kitx_int I.kIn True.intro e (λz=>nomatch z) h
 |str y=>obtain ⟨t,q⟩:=(show ∃ t,u=Value.str y t from rx);cases q;exact Dl PySem.W.kitx_str I.kIn True.intro e (λz=>nomatch z) h
 |flt y=>obtain ⟨t,q⟩:=(show ∃ t,u=Value.float y t from rx);cases q;exact Dl PySem.W.kitx_float I.kIn True.intro e (λz=>nomatch z) h
 | @lst a xs ea=>
  cases (show u=Value.ref a from rx);obtain ⟨_,_,n,_,h1⟩:=(show z0 X.prog X.w H s.heap a (.lst xs)from I.hok a _ ea);exact Dl PySem.W.kitx_list I.kIn ⟨_,h1,rfl⟩ e (λz=>nomatch z) h
 | @frz a ob xs ea=>
  cases (show u=Value.ref a from rx);obtain ⟨_,_,_,n,_,h1⟩:=(show z0 X.prog X.w H s.heap a (.frz ob (.lst xs))from I.hok a _ ea);exact Dl PySem.W.kitx_list I.kIn ⟨_,h1,rfl⟩ e (λz=>nomatch z) h
 | @tup a xs ea=>
  cases (show u=Value.ref a from rx);obtain ⟨_,_,_,p⟩:=(show z0 X.prog X.w H s.heap a (.tup xs)from I.hok a _ ea);obtain ⟨o,h1,h2,_⟩:=p;exact Dl PySem.W.kitx_tuple I.kIn ⟨o,h1,h2⟩ e (λz=>nomatch z) h
 | @dK a kvs ea=>
  cases (show u=Value.ref a from rx);obtain ⟨_,_,vs,_,p⟩:=(show z0 X.prog X.w H s.heap a (.dK kvs)from I.hok a _ ea);obtain ⟨o,es,ep,h1,h2,_⟩:=p;exact Dl PySem.W.kitx_dict I.kIn ⟨o,h1,h2.1⟩ e (λz=>nomatch z) h
 | @dT a kvs ea=>
  cases (show u=Value.ref a from rx);obtain ⟨_,_,xs,_,o,es,ep,h1,h2,_⟩:=(show z0 X.prog X.w H s.heap a (.dT kvs)from I.hok a _ ea);exact Dl PySem.W.kitx_dict I.kIn ⟨o,h1,h2.1⟩ e (λz=>nomatch z) h
 | @ins a C dx fs ea cl ha hn htk hm=>
  cases (show u=Value.ref a from rx);obtain ⟨mA,O,_⟩:=i3 I.hok ea;obtain ⟨od,J,_⟩:=O.look;exact Dl (PySem.W.kitx_own (cl.get _) cl.hd ha hn htk hm) I.kIn J e (λz=>nomatch z) h
end
structure Room (k:Nat) (A:Yn):Prop where
 hd:A.handled=none
 dp:A.depth+3*k+5<recursionLimit
 un:A.units+16*k+200<cLine
def Room.mono {j k:Nat} {A:Yn} (r:Room k A) (h:j<=k):Room j A:=⟨r.hd,by have:=r.dp;omega,by have:=r.un;omega⟩
def Room.deeper {k:Nat} {A:Yn} (r:Room (k+1) A) (env:Env):Room k (A.deeper env) :=
 ⟨r.hd,by have:=r.dp;show A.depth+1+3*k+5<_;omega,by have:=r.un;show A.units+3+16*k+200<_;omega⟩
def Room.depth {k:Nat} {A:Yn} (r:Room k A):A.depth<recursionLimit:=by have:=r.dp;omega
def Room.units {k:Nat} {A:Yn} (r:Room k A):A.units+64<cLine:=by have:=r.un;omega
def Room.units0 {k:Nat} {A:Yn} (r:Room k A):A.units<cLine:=by have:=r.un;omega
noncomputable def X7:TA:=λ_ H Q=>Q [] H
noncomputable def b5 (ta:TE) (tr:TA):TA:=λY H Q=>ta Y H λx H1=>tr Y H1 λxs H2=>Q (x::xs) H2
section
variable {X:Cx} {e:Expr} {es:Yi} {te:TE} {t:TA} {pos:Pos}
def Fj:PA X [] X7:=λ_ _ _ _ H Q I h=>Calls.spliced_nil ⟨[],H,I,.nil,h⟩
def FY (ha:PE X e te) (hr:PA X es t) (hs:starEach (e::es) X.env=(false,eval e X.env)::starEach es X.env:=by rfl):PA X (e::es) (b5 te t):=by
 intro pos zB s Y H Q I h;rw[hs];show wpAny _ _ (spliced ((false,eval e X.env)::backTo pos (starEach es X.env))) _ _ s;refine Calls.spliced_cons (thn (ha zB s Y H _ I h) λu s1 ⟨x,H1,I1,r1,q1⟩=>?_);exact thn (hr pos zB s1 Y H1 _ I1 q1) λus s2 ⟨xs,H2,I2,r2,q2⟩=>⟨x::xs,H2,I2,.cons r1 r2,q2⟩
noncomputable def bC (t:TA):TE:=λY H Q=>t Y H λxs H1=>xs.length<=sizeLine /\ ∀ p,H1 p=none->Q (.ref p) (upd H1 p (.tup xs))
noncomputable def V7 (t:TA):TE:=λY H Q=>t Y H λxs H1=>xs.length<=sizeLine /\ ∀ p,H1 p=none->Q (.ref p) (upd H1 p (.lst xs))
def Wl {x1} (h:PA X es t):PE X (.Tuple es x1 pos) (bC t):=by
 intro zB s Y H Q I hq;refine wpAny_Tuple_spliced (thn (h pos zB s Y H _ I hq) λus s1 ⟨xs,H1,I1,r,z,q⟩=>⟨by rw[<-r.length];exact z,?_⟩);have hf:H1 s1.heap.objs.size=none:=I1.hok.fresh (AF _);refine ⟨.ref s1.heap.objs.size,upd H1 s1.heap.objs.size (.tup xs),I1.laid (t':=s1.toks) (λb u e=>AJ _ e) (AF _) ?_,rfl,q _ hf⟩;exact ⟨z,us,r,⟨_,AV _ rfl,rfl,⟨_,rfl⟩,rfl⟩⟩
def Zd (h:PA X es t):PE X (.List es pos) (V7 t):=by
 intro zB s Y H Q I hq;refine wpAny_List_spliced (thn (h pos zB s Y H _ I hq) λus s1 ⟨xs,H1,I1,r,z,q⟩=>⟨by rw[<-r.length];exact z,?_⟩);have hf:H1 s1.heap.objs.size=none:=I1.hok.fresh (AF _);refine ⟨.ref s1.heap.objs.size,upd H1 s1.heap.objs.size (.lst xs),I1.laid (t':=s1.toks) (λb u e=>AJ _ e) (AF _) ?_,rfl,q _ hf⟩;exact ⟨z,us,0,r,AV _ rfl⟩
end
noncomputable abbrev Sp:=List V->Hp->VK->XK->Prop
noncomputable abbrev CXT:=List Env->Hp->Shared->XK->Value->Shared->Prop
structure Env0 (P:Ym) (w:Yo) (K:Yb) (mg:Yh) (base:Heap) (A:Yn) (outer:List Env) (s:Yl) (H:Hp):Prop where
 frames:A.frames=some outer
 mod:Mod K mg base
 bs:∀ b o,base.get? b=some o->s.heap.get? b=some o/\H b=none
 bsz:base.objs.size<=s.heap.objs.size
 funs:s.heap.FunFrames base outer
 frf:∀ b∈frs outer,H b=none
 hok:HOk P w H s.heap
 bare:AllBare s.gens
def CE (outer:List Env) (P:Ym) (w:Yo) (H:Hp) (s:Yl) (Q:VK) (u:Yu) (s':Yl):Prop :=
 ∃ v H',s'.os=s.os/\AllBare s'.gens/\Un (frs outer) [] H H' s.heap s'.heap/\HOk P w H' s'.heap/\zj v u/\Q v H'
def CR (CX:CXT) (outer:List Env) (P:Ym) (w:Yo) (H:Hp) (s:Yl) (Q:VK) (E:XK) (r:Result) (s':Yl):Prop :=
 match r with
 |.ok (.ret u)=>CE outer P w H s Q u s'
 |.ok _=>False
 |.error e=>CX outer H s E e s'
structure FnOk (P:Ym) (w:Yo) (K:Yb) (mg:Yh) (base:Heap) (CX:CXT) (k:Nat) (f:Yt) (fd:Yz) (ps:Yk) (sp:Sp):Prop where
 len:∀ vs H Q E,sp vs H Q E->vs.length=ps.length
 run:∀ (A:Yn) (outer:List Env) (s:Yl) (H:Hp) (args:Args) (us:Yf) (vs:List V) (Q:VK) (E:XK),Room k A->Env0 P w K mg base A outer s H->BindsTo s fd args (ps.zip us)->zY vs us->sp vs H Q E ->
  codeAny (model P w) A (.call (.ref f) args) (CR CX outer P w H s Q E) s
def FnOk.imp {P:Ym} {w:Yo} {K:Yb} {mg:Yh} {base:Heap} {CX:CXT} {k:Nat} {f:Yt} {fd:Yz} {ps:Yk} {sp sp':Sp} (F:FnOk P w K mg base CX k f fd ps sp)
  (h:∀ vs H Q E,sp' vs H Q E->sp vs H Q E):FnOk P w K mg base CX k f fd ps sp' :=
 ⟨λvs H Q E q=>F.len vs H Q E (h _ _ _ _ q),λA outer s H args us vs Q E hr he hb hv hs=>F.run A outer s H args us vs Q E hr he hb hv (h _ _ _ _ hs)⟩
section
variable {X:Cx} {zB:Yd} {Y:St} {H:Hp} {s s':Yl}
def Inv.env0 (I:Inv X zB Y H s):Env0 X.prog X.w X.K X.mg X.base X.A X.stack s H :=
 ⟨I.ok.frames,I.ok.mod,I.bs,AZ I.ok.bsz I.sz,I.stack,I.stkFree,I.hok,I.bare⟩
def Inv.after {Q:VK} {u:Yu} (I:Inv X zB Y H s) (h:CE X.stack X.prog X.w H s Q u s'):EP X zB Y Q u s':=by
 obtain ⟨v,H',os,bare,un,hok,r,q⟩:=h;obtain ⟨hh,g,d,t,os'⟩:=s';obtain rfl:os'=s.os:=os;exact ⟨v,H',I.call (h':=hh) (g':=g) (d':=d) (t':=t) (ch:=[]) un hok bare (λb z=>absurd z (by simp)),r,q⟩
end
noncomputable def iJ (sp:Sp) (dvs:List V) (E:XK) (t:TA):TE:=λY H Q=>t Y H λvs H1=>sp (vs++dvs) H1 Q E
def GJ (K:Yb) (fd:Yz) (ps:Yk) (ds:Yf):Prop :=
 ∀ (s:Yl) (us:Yf),K.In s.heap->(us++ds).length=ps.length->BindsTo s fd ⟨us,[]⟩ (ps.zip (us++ds))
def GJ.all {K:Yb} {fd:Yz} {ps:Yk} (h:∀ us:List Value,us.length=ps.length->bindArgs fd ⟨us,[]⟩=pure (ps.zip us)):GJ K fd ps []:=λs us _ hl=>by
 rw[BF]at hl ⊢;exact .of_eq (h us hl)
def ME (CX:CXT) (X:Cx) (E:XK):Prop:=∀ (zB:Yd) (Y:St) (H:Hp) (s:Yl) (e:Yu) (s':Yl),Inv X zB Y H s->CX X.stack H s E e s'->X.xe e s'
section
variable {X:Cx} {CX:CXT} {k:Nat} {f C:Yt} {fd:Yz} {ps:Yk} {sp:Sp} {dvs:List V} {ds:Yf} {E:XK} {x m:Str} {p pos apos:Pos} {e o:Expr} {es:Yi} {ta:TE} {t:TA}
def VY {zB:Yd} {Y:St} {H:Hp} {s:Yl} {Q:VK} {us:Yf} {vs:List V} (F:FnOk X.prog X.w X.K X.mg X.base CX k f fd ps sp) (hr:Room k X.A) (hb:GJ X.K fd ps ds) (hd:zY dvs ds) (hx:ME CX X E)
  (I:Inv X zB Y H s) (r:zY vs us) (h:sp (vs++dvs) H Q E):wpAny (model X.prog X.w) X.A (call (.ref f) us) (EP X zB Y Q) X.xe s:=by
 have r2:zY (vs++dvs) (us++ds):=r.append hd;have hl:(us++ds).length=ps.length:=by rw[<-r2.length];exact F.len _ _ _ _ h
 refine wpAny_call (codeAny_mono (F.run X.A X.stack s H ⟨us,[]⟩ (us++ds) (vs++dvs) Q E hr I.env0 (hb s us I.kIn hl) r2 h) λr s' hq=>?_);cases r with
 |error e=>exact hx zB Y H s e s' I hq
 |ok fl=>
  cases fl with
  |ret u=>exact I.after hq
  |next=>exact False.elim hq
  |brk=>exact False.elim hq
  |cont=>exact False.elim hq
def WD (F:FnOk X.prog X.w X.K X.mg X.base CX k f fd ps sp) (hr:Room k X.A) (hg:Gl X x) (hm:X.mg x=some (.ref f)) (hk:PySem.W.keepIn X.K (.ref f)=true) (hb:GJ X.K fd ps ds) (hd:zY dvs ds) (hx:ME CX X E)
  (ha:PA X (e::es) t) (hdb:(x==("__debug__" : Str))=false:=by decide) (he:starEach (e::es) X.env=(false,eval e X.env)::starEach es X.env:=by rfl) (hpl:(backTo pos (starEach es X.env)).any (·.1)=false:=by rfl) :
  PE X (.Call (.Name x p) (e::es) [] pos) (iJ sp dvs E t):=by
 intro zB s Y H Q I h;refine wpAny_Call_Name_kw (dG I hg hm ?_ hdb);refine PySem.W.callWith_K (h₀:=X.base) I.ok.mod.kin hk (thn (ha pos zB s Y H _ I h) λus s1 ⟨vs,H1,I1,r,q⟩=>⟨I1.kIn,?_⟩) he hpl;exact VY F hr hb hd hx I1 r q
end
structure FnScope (N P:Yk) (sc:Y0):Prop where
 kind:sc.kind=.function
 co:sc.isCoroutine=false
 gen:sc.isGenerator=false
 nd:N.Nodup
 pre:N.take P.length=P
 par:∀ x∈P,sc.names.lookup x=some .local\/sc.names.lookup x=some .cell
 nofree:∀ y∈sc.names,y.2≠.free
theorem QM {kindOf:Str->Option NameKind} {x:Str}:∀ {binds:List (Str × Value)} {m:Yh},(∀ v,(x,v)∉binds)->bindL kindOf binds m x=m x
 |[],_,_=>rfl
 | (n,v)::r,m,h=>by
  unfold bindL;rw[QM λw hw=>h w (Am _ hw)];split
  .have:x≠n:=by rintro rfl;exact h v Ad
   simp[this]
  .rfl
theorem N6 {kindOf:Str->Option NameKind} {x:Str}:∀ {binds:List (Str × Value)} {m:Yh},(∀ v,(x,v)∉binds)->bindC kindOf binds m x=m x
 |[],_,_=>rfl
 | (n,v)::r,m,h=>by
  unfold bindC;rw[N6 λw hw=>h w (Am _ hw)];split
  .rfl
  .have:x≠n:=by rintro rfl;exact h v Ad
   simp[this]
theorem P7 {kindOf:Str->Option NameKind} {x:Str} {v:Yu}:∀ {P:Yk} {vs:Yf} {i:Nat} {m:Yh},P.Nodup->P[i]?=some x->vs[i]?=some v->kindOf x=some .local ->
  bindL kindOf (P.zip vs) m x=some v
 |[],_,_,_,_,h,_,_=>by simp at h
 |_::_,[],_,_,_,_,h,_=>by simp at h
 |p::P,w::vs,0,m,nd,h1,h2,hk=>by
  simp at h1 h2;subst h1;subst h2;show bindL kindOf ((p,w)::P.zip vs) m p=_;unfold bindL;rw[QM λv hv=>(EK.mp nd).1 (List.of_mem_zip hv).1,AB hk];simp
 |p::P,w::vs,i+1,m,nd,h1,h2,hk=>by
  show bindL kindOf ((p,w)::P.zip vs) m x=_;unfold bindL;exact P7 (i:=i) (EK.mp nd).2 (by simpa using h1) (by simpa using h2) hk
theorem Oy {kindOf:Str->Option NameKind} {x:Str} {v:Yu}:∀ {P:Yk} {vs:Yf} {i:Nat} {m:Yh},P.Nodup->P[i]?=some x->vs[i]?=some v->kindOf x≠some .local ->
  bindC kindOf (P.zip vs) m x=some v
 |[],_,_,_,_,h,_,_=>by simp at h
 |_::_,[],_,_,_,_,h,_=>by simp at h
 |p::P,w::vs,0,m,nd,h1,h2,hk=>by
  simp at h1 h2;subst h1;subst h2;show bindC kindOf ((p,w)::P.zip vs) m p=_;unfold bindC;rw[N6 λv hv=>(EK.mp nd).1 (List.of_mem_zip hv).1,AE hk];simp
 |p::P,w::vs,i+1,m,nd,h1,h2,hk=>by
  show bindC kindOf ((p,w)::P.zip vs) m x=_;unfold bindC;exact Oy (i:=i) (EK.mp nd).2 (by simpa using h1) (by simpa using h2) hk
noncomputable def EG (N:Yk) (vs:List V):St:=vs.map some++List.replicate (N.length-vs.length) none
noncomputable def F1 (CX:CXT) (P:Ym) (w:Yo) (K:Yb) (mg:Yh) (base:Heap) (N:Yk) (qual:Str) (scope:Y0) (f:Yt) (cd:Yu) (A:Yn) (outer:List Env) (s:Yl) (H:Hp) (E:XK):Cx where
 prog:=P
 w:=w
 K:=K
 mg:=mg
 base:=base
 A:=A.deeper (envOfC qual scope s.heap.objs.size f cd)
 N:=N
 s₀:=s
 H₀:=H
 env:=envOfC qual scope s.heap.objs.size f cd
 outer:=outer
 stack:=envOfC qual scope s.heap.objs.size f cd::outer
 ex:=[]
 calm:=true
 fn:=λ_=>true
 pn:=[]
 xe:=λe s'=>wpAny (model P w) (A.deeper (envOfC qual scope s.heap.objs.size f cd)) (leaving (envOfC qual scope s.heap.objs.size f cd) e) (λ_ s''=>CX outer H s E e s'') (λe' s''=>CX outer H s E e' s'') s'
def Jz {sc:Y0} {n:Nat} {x:Str} (h:sc.names.lookup x=some .cell):∃ c,(cellsFrom n sc.names []).lookup x=some c:=by
 have q:=PySem.W.cellsFrom_some sc.names n [] (.inl h);exact Option.isSome_iff_exists.mp q
def YH {CX:CXT} {P:Ym} {w:Yo} {K:Yb} {mg:Yh} {base:Heap} {N ps:Yk} {qual:Str} {scope:Y0} {f:Yt} {cd:Yu} {A:Yn} {outer:List Env} {s s1:Yl} {H:Hp} {E:XK} {us:Yf} {vs:List V}
  (S:FnScope N ps scope) (hd:A.handled=none) (e0:Env0 P w K mg base A outer s H) (hl:vs.length=ps.length) (r:zY vs us)
  (x:InCallC s s.heap.objs.size (bindL (envOfC qual scope s.heap.objs.size f cd).kindOf (ps.zip us) λ_=>none) (cellsFrom (s.heap.objs.size+1) scope.names []) (bindC (envOfC qual scope s.heap.objs.size f cd).kindOf (ps.zip us) λ_=>none) s1) :
  Inv (F1 CX P w K mg base N qual scope f cd A outer s H E) [] (EG N vs) H s1:=by
 have hpl:ps.length<=N.length:=by have:=BJ List.length S.pre;rw[CG]at this;omega
 obtain ⟨h1,tk,rfl,hk⟩:=x.done;have noA:∀ b:Addr,b∉(F1 CX P w K mg base N qual scope f cd A outer s H E).ex:=λb z=>absurd (show b∈([]:List Addr)from z) (by simp)
 refine ⟨⟨e0.mod,S.kind,rfl,rfl,AF _,λy z c h1 h2=>?_,λy hy=>?_,λy c _ h=>?_,λ_=>hd,Around.frames_deeper e0.frames,.inr ⟨rfl,rfl⟩,λb z=>absurd z (noA b),e0.bs,e0.bsz,λb _ _=>noA b,λb z=>absurd z (noA b),e0.funs,e0.frf⟩,
  rfl,e0.bare,Un.kept hk,⟨_,x.toInCall.ns,λi y v h1 h2 h3=>?_⟩,λy c h=>⟨_,x.cell y c h⟩,e0.hok.fresh (AF _),λy c h=>?_,λp hp=>absurd (show p∈([]:List (Addr × Obj))from hp) (by simp),e0.hok.kept hk,?_⟩
 .exact name_of_addr x.apart (Cu h1) (Cu h2)
 .have hy:scope.names.lookup y=some .cell\/scope.names.lookup y=some .free:=hy;rcases hy with hy|hy
  .exact Jz hy
  .exact absurd rfl (S.nofree _ (Cu hy))
 .exact DB (x.above y c (Cu h))
 .have hi:i<vs.length:=by
   unfold EG at h2;by_cases hi:i<vs.length
   .exact hi
   .rw[DV (by simpa using hi)]at h2;rw[List.getElem?_replicate]at h2;split at h2 <;> cases h2
  have ha:vs[i]?=some v:=by
   unfold EG at h2;rw[AW (by simpa using hi),Az]at h2;cases e:vs[i]? with
   |none=>rw[e]at h2;cases h2
   |some a=>rw[e]at h2;cases h2;rfl
  obtain ⟨u,hu,rv⟩:=r.get ha;have hp:ps[i]?=some y:=by
   rw[<-S.pre,List.getElem?_take_of_lt (by omega)];exact h1
  have ndP:ps.Nodup:=by rw[<-S.pre];exact S.nd.sublist (List.take_sublist _ _)
  refine ⟨u,rv,?_⟩;rcases S.par y (FJ hp)with k|k
  .exact .inl ⟨k,P7 ndP hp hu k⟩
  .obtain ⟨c,e⟩:=Jz (n:=s.heap.objs.size+1) k;refine .inr ⟨.inl k,c,e,?_⟩;have q:=x.cell y c e;rw[Oy ndP hp hu (by show scope.names.lookup y≠_;rw[k];decide)]at q;exact q
 .exact e0.hok.fresh (DB (x.above y c (Cu h)))
 .unfold EG;show _=N.length;rw[An,AG,List.length_replicate];omega
def Wc {CX:CXT} {P:Ym} {w:Yo} {K:Yb} {mg:Yh} {base:Heap} {k:Nat} {f:Yt} {name qual:Str} {params:Arguments} {body:Yy} {scope:Y0} {dV kV doc pm cdv ct oc:Yu} {an od:Option Addr}
  {osl:Array (Option Value)} {N ps:Yk} {sp:Sp} (lk:K.lookup f=some ⟨oc,od,.func (PySem.W.fnOf name qual params body scope dV kV doc pm an cdv ct),osl⟩) (hcd:PySem.W.codeIn K cdv qual=true) (S:FnScope N ps scope)
  (len:∀ vs H Q E,sp vs H Q E->vs.length=ps.length)
  (hbody:∀ (A:Yn) (outer:List Env) (s:Yl) (H:Hp) (vs:List V) (Q:VK) (E:XK),Room k (A.deeper (envOfC qual scope s.heap.objs.size f cdv))->sp vs H Q E ->
   ∃ t,PSs (F1 CX P w K mg base N qual scope f cdv A outer s H E) body t/\t { nx:=λ_ H'=>Q .non H',rt:=Q } (EG N vs) H) :
  FnOk P w K mg base CX (k+1) f (PySem.W.fnOf name qual params body scope dV kV doc pm an cdv ct) ps sp:=by
 refine ⟨len,λA outer s H args us vs Q E hr e0 hb r hsp=>?_⟩;have hl:=len _ _ _ _ hsp;have KX:K.In s.heap:=e0.mod.kin.keeps λb o e=>(e0.bs b o e).1;have lim:s.heap.NoLimit:=e0.mod.nolimit.keeps λb o e=>(e0.bs b o e).1;have hkind:∀ y∈ps.zip us,scope.names.lookup y.1=some .local\/(scope.names.lookup y.1=some .cell/\((cellsFrom (s.heap.objs.size+1) scope.names []).lookup y.1).isSome=true):=λ⟨n,v⟩ hy=>by
  rcases S.par n (List.of_mem_zip hy).1 with q|q
  .exact .inl q
  .exact .inr ⟨q,PySem.W.cellsFrom_some _ _ _ (.inl q)⟩
 refine codeAny_call_function hr.depth (KX _ _ lk) rfl S.co S.gen rfl (PySem.W.codeRec_of KX hcd) (hb _ _ _ _ ?_);refine wpAny_newFunctionEnv_cells S.kind hkind λenv he s1 x=>?_;subst he;refine ⟨lim.keeps x.toInCall.keep,codeAny_func ?_⟩;obtain ⟨t,ht,hq⟩:=hbody A outer s H vs Q E (hr.deeper _) hsp;have I:Inv (F1 CX P w K mg base N qual scope f cdv A outer s H E) [] (EG N vs) H s1:=YH S hr.hd e0 hl r x;refine AN (ht [] s1 (EG N vs) H _ I hq) (λfl s' hs=>?_) λe s' hs=>hs;have fin:∀ {Y':St} {H':Hp} {v:V} {u:Yu},Inv (F1 CX P w K mg base N qual scope f cdv A outer s H E) [] Y' H' s'->zj v u->Q v H'->CE outer P w H s Q u s' :=
  λ{Y' H' v u} J rv q=>⟨v,H',J.os,J.bare,J.base,J.hok,rv,q⟩
 cases fl with
 |ret u=>
  obtain ⟨v,Y',H',J,rv,q⟩:=hs;exact fin J rv q
 |next=>
  obtain ⟨Y',H',J,q⟩:=hs;exact fin (v:=V.non) (u:=Value.none) J rfl q
 |brk=>
  obtain ⟨_,_,_,q⟩:=hs;exact False.elim q
 |cont=>
  obtain ⟨_,_,_,q⟩:=hs;exact False.elim q
section
variable {X:Cx} {x:Str} {p pos:Pos} {e:Expr} {es:Yi} {t:TA} {id T:String} {r:List V->Hp->VK->Prop}
noncomputable def tCB (r:List V->Hp->VK->Prop) (t:TA):TE:=λY H Q=>t Y H λvs H1=>r vs H1 Q
def Qv (hc:Bk X (.builtin id) r) (hg:Gl X x) (hm:X.mg x=none) (hv:bootBuiltins x=some (.builtin id)) (ha:PA X (e::es) t) (hn:x ≠ "__name__" := by decide) (hdb:(x==("__debug__" : Str))=false:=by decide)
  (he:starEach (e::es) X.env=(false,eval e X.env)::starEach es X.env:=by rfl) (hpl:(backTo pos (starEach es X.env)).any (·.1)=false:=by rfl):PE X (.Call (.Name x p) (e::es) [] pos) (tCB r t):=by
 intro zB s Y H Q I h;refine wpAny_Call_Name_kw (Fz I hg hm hv ?_ hn hdb);exact PyProof.Rows.callWith_builtin1 (thn (ha pos zB s Y H _ I h) λus s1 ⟨vs,H1,I1,r1,q1⟩=>hc zB s1 Y H1 vs us Q I1 r1 q1) he hpl
def HY (hc:Bk X (.type T) r) (hg:Gl X x) (hm:X.mg x=none) (hv:bootBuiltins x=some (.type T)) (ha:PA X (e::es) t) (hn:x ≠ "__name__" := by decide) (hdb:(x==("__debug__" : Str))=false:=by decide)
  (he:starEach (e::es) X.env=(false,eval e X.env)::starEach es X.env:=by rfl) (hpl:(backTo pos (starEach es X.env)).any (·.1)=false:=by rfl):PE X (.Call (.Name x p) (e::es) [] pos) (tCB r t):=by
 intro zB s Y H Q I h;refine wpAny_Call_Name_kw (Fz I hg hm hv ?_ hn hdb);exact PyProof.Rows.callWith_type1 (thn (ha pos zB s Y H _ I h) λus s1 ⟨vs,H1,I1,r1,q1⟩=>hc zB s1 Y H1 vs us Q I1 r1 q1) he hpl
end
end L2
namespace HT
open PySem PyProof.Rows
section
variable {prog:Ym} {w:Yo} {A:Yn} {E:Yc} {s:Yl}
def Wr {t b:Yt} {vs ws:Yf} {Q:Yc} (ht:IsTup s.heap t vs.toArray) (hb:IsTup s.heap b ws.toArray) (hv:vs≠[])
  (h1:ws=[]->Q (.ref t) s) (h2:ws≠[]->Q (.ref s.heap.objs.size) { s with heap:=s.heap.push { cls:=.type "tuple", data:=.seq (vs++ws).toArray } })
  (hsz:vs.length+ws.length<=sizeLine):wpAny (model prog w) A (binaryOp .Add (.ref t) (.ref b)) Q E s:=by
 obtain ⟨⟨cls,dd,data,sl⟩,ho,hc,n,hd⟩:=id ht;obtain ⟨⟨cls2,dd2,data2,sl2⟩,ho2,hc2,n2,hd2⟩:=id hb;simp only at hc hd hc2 hd2;subst hc hd hc2 hd2;have e:vs.toArray++ws.toArray=(vs++ws).toArray:=by simp
 by_cases hw:ws=[]
 .exact concat_meets ⟨_,ho,rfl⟩ ⟨_,ho2,rfl⟩ noFill_tuple_add seq_tuple_add PySem.F.slot_tuple_add PySem.F.entry_tuple_add (PySem.F.args_tuple_add_2 _ _)
   (tuple_addW1 t b vs.toArray ws.toArray n n2 dd dd2 sl sl2 (by simpa using hv) (by simp[hw])) ⟨ho,ho2,h1 hw⟩
 .refine concat_meets ⟨_,ho,rfl⟩ ⟨_,ho2,rfl⟩ noFill_tuple_add seq_tuple_add PySem.F.slot_tuple_add PySem.F.entry_tuple_add (PySem.F.args_tuple_add_2 _ _)
   (tuple_addW2 t b vs.toArray ws.toArray n n2 dd dd2 sl sl2 (by simpa using hv) (by simpa using hw) (by rw[AR,AR];exact hsz)) ⟨ho,ho2,?_⟩
  rw[e];exact h2 hw
noncomputable def sIx (n d:Nat):Option Int->Nat
 |none=>d
 |some v=>if v<0 then (v+(n:Int)).toNat else min v.toNat n
def Qy (n d k:Nat):sIx n d (some (k:Int))=min k n:=by
 show (if (k:Int)<0 then ((k:Int)+(n:Int)).toNat else min (k:Int).toNat n)=min k n;rw[AE (by omega),Int.toNat_natCast]
def Sg (n d:Nat) (hd:d<=n) (o:Ys):sIx n d o<=n:=by
 cases o with
 |none=>exact hd
 |some v=>
  show (if v<0 then (v+(n:Int)).toNat else min v.toNat n)<=n;by_cases hv:v<0
  .rw[AB hv];omega
  .rw[AE hv];exact Nat.min_le_right _ _
def Py (v:Int) (n d:Nat):(if v<0 then max (v+(n:Int)) 0 else min v (n:Int))=((sIx n d (some v):Nat):Int):=by
 show (if v<0 then max (v+(n:Int)) 0 else min v (n:Int))=(((if v<0 then (v+(n:Int)).toNat else min v.toNat n):Nat):Int);by_cases hv:v<0
 .simp only[AB hv];omega
 .simp only[AE hv];omega
def YK (lo hi:Ys) (n:Nat):Builtin.Slice.sliceAdjust lo hi 1 (n:Int)=(((sIx n 0 lo:Nat):Int),((sIx n n hi:Nat):Int)):=by
 have h1:¬ ((1:Int)<0):=by omega
 unfold Builtin.Slice.sliceAdjust;simp only[h1,if_false];refine Prod.ext ?_ ?_
 .cases lo with
  |none=>rfl
  |some v=>exact Py v n 0
 .cases hi with
  |none=>rfl
  |some v=>exact Py v n n
def Vt (i j:Nat):Builtin.Slice.slicePlaces (i:Int) (j:Int) 1=j-i:=by
 unfold Builtin.Slice.slicePlaces;have h1:(1:Int)>0:=by omega
 simp only[h1,if_true,Int.ediv_one];split <;> omega
def Qf {v:Yu} {o:Ys} {Q:Option Int->Shared->Prop} (p:IsPart v o) (h:Q o s):wpAny (model prog w) A (Builtin.Slice.slicePartIndex v) Q E s:=by
 cases p with
 |none=>exact slicePart_none h
 |int i t=>exact slicePart_int h
def Qa {sl:Yt} {vl vu:Yu} {lo hi:Ys} {n:Nat} {Q:Int × Int × Nat->Shared->Prop} (hs:s.heap.IsSliceOf sl vl vu .none) (pl:IsPart vl lo) (pu:IsPart vu hi)
  (h:Q (((sIx n 0 lo:Nat):Int),1,sIx n n hi-sIx n 0 lo) s):wpAny (model prog w) A (Builtin.Slice.sliceApplied (.ref sl) (pure (n:Int))) Q E s:=by
 obtain ⟨os,hos,hcs,hds⟩:=id hs;unfold Builtin.Slice.sliceApplied Builtin.Slice.sliceFields;refine AA (AA (Bc hos hds (x:=vl) rfl (AA (Bc hos hds (x:=vu) rfl (AA (Bc hos hds (x:=.none) rfl (AD ?_)))))));refine AA (slicePart_none ?_);show wpAny _ _ (if ((1:Int)==0)=true then _ else _) _ _ s;rw[AE (by decide)];refine AA (Qf pl (AA (Qf pu (AA (AD ?_)))));show wpAny _ _ (match Builtin.Slice.sliceAdjust lo hi 1 (n:Int) with|(lo,hi)=>pure (lo,(1:Int),Builtin.Slice.slicePlaces lo hi 1)) _ _ s;rw[YK lo hi n];show wpAny _ _ (pure (((sIx n 0 lo:Nat):Int),(1:Int),Builtin.Slice.slicePlaces ((sIx n 0 lo:Nat):Int) ((sIx n n hi:Nat):Int) 1)) _ _ s;rw[Vt];exact AD h
def Tc (xs:Yp) (i k:Nat):((List.range k).filterMap λ(m:Nat)=>xs[((i:Int)+(m:Int)*1).toNat]?).toArray=((xs.toList.drop i).take k).toArray:=by
 have e:(λ(m:Nat)=>xs[((i:Int)+(m:Int)*1).toNat]?)=λm=>xs[i+m]?:=by
  funext m;have:((i:Int)+(m:Int)*1).toNat=i+m:=by omega
  rw[this]
 rw[e];have:=pick_run xs i k;rw[List.filterMap_map]at this;have e2:((λx=>xs[x]?)∘λx=>i+x)=λm=>xs[i+m]?:=rfl;rw[e2]at this;rw[this]
def Ug {t sl:Yt} {items:Yp} {vl vu:Yu} {lo hi:Ys} {Q:Yc} (ht:IsTup s.heap t items) (hs:s.heap.IsSliceOf sl vl vu .none) (pl:IsPart vl lo) (pu:IsPart vu hi)
  (hw:¬ (sIx items.size 0 lo=0/\sIx items.size items.size hi=items.size))
  (h:Q (.ref s.heap.objs.size) { s with heap:=s.heap.push { cls:=.type "tuple", data:=.seq ((items.toList.drop (sIx items.size 0 lo)).take (sIx items.size items.size hi-sIx items.size 0 lo)).toArray } })
  (hsz:items.size<=sizeLine):wpAny (model prog w) A (getItem (.ref t) (.ref sl)) Q E s:=by
 have htake:sizeOk (.seq ((items.toList.drop (sIx items.size 0 lo)).take (sIx items.size items.size hi-sIx items.size 0 lo)).toArray):=by
  show ((items.toList.drop (sIx items.size 0 lo)).take (sIx items.size items.size hi-sIx items.size 0 lo)).toArray.size<=sizeLine;rw[AR,CG,Dj,BK];omega
 have hj:sIx items.size items.size hi<=items.size:=Sg _ _ (AF _) hi;obtain ⟨os,hos,hcs,hds⟩:=id hs;have hTs:s.TypeIs (.ref sl) "slice" := ⟨os,hos,hcs⟩;unfold getItem;try with_reducible refine B2 ?_
 first|refine AA (AD ?_)|skip
 refine AA (wpAny_sequenceKey ht.typeIs (by decide) ?_)
 refine AA (CD (name:=Str.ofString "__getitem__") ht.typeIs Ga
  (BI Ga ht.typeIs entry_tuple_getitem ?_ (args_tuple_getitem _ _)))
 show wpAny _ _ (Builtin.Tuple.tupleItemsOf (.ref t) >>= _) _ _ s;refine AA (tupleItemsOf_ ht ?_);refine AA (wpAny_typeOf hTs ?_);rw[AB (by decide)];refine AA (Qa hs pl pu ?_);have hno:¬ ((((sIx items.size 0 lo:Nat):Int)==0&&(1:Int)==1&&(sIx items.size items.size hi-sIx items.size 0 lo)==items.size)=true):=by
  intro q;rw[A6,A6]at q;have q1:((sIx items.size 0 lo:Nat):Int)=0:=eq_of_beq q.1.1;have q2:sIx items.size items.size hi-sIx items.size 0 lo=items.size:=eq_of_beq q.2;exact hw ⟨by omega,by omega⟩
 show wpAny _ _ (if (((sIx items.size 0 lo:Nat):Int)==0&&(1:Int)==1&&(sIx items.size items.size hi-sIx items.size 0 lo)==items.size)=true then _ else _) _ _ s;rw[AE hno,Tc]
 first
  |exact AA (m:=Builtin.Tuple.tupleExact _) (A9 (AD ⟨_,rfl,AD h⟩) htake)
  |exact AA (m:=Builtin.Tuple.tupleExact _) (A9 (AA (AD (AD ⟨_,rfl,AD h⟩))) htake)
  |exact AA (AA (m:=Builtin.Tuple.tupleExact _) (A9 (AD (AD ⟨_,rfl,AD h⟩)) htake))
  |exact AA (AA (m:=Builtin.Tuple.tupleExact _) (A9 (AD ⟨_,rfl,AD h⟩) htake))
end
end HT
namespace L2
noncomputable abbrev TO:=St->Hp->(Option Int->Hp->Prop)->Prop
def PO (X:Cx) (e:Option Expr) (t:TO):Prop :=
 ∀ (zB:Yd) (s:Yl) (Y:St) (H:Hp) (Q:Option Int->Hp->Prop),Inv X zB Y H s->t Y H Q ->
  wpAny (model X.prog X.w) X.A (evalPart e X.env) (λu s'=>∃ o H',Inv X zB Y H' s'/\IsPart u o/\Q o H') X.xe s
noncomputable def gI:TO:=λ_ H Q=>Q none H
noncomputable def dW (t:TE):TO:=λY H Q=>t Y H λx H1=>∃ i,x=.int i/\Q (some i) H1
section
variable {X:Cx} {e:Expr} {te:TE} {lo hi:Option Expr} {tl th:TO} {pos p2:Pos}
def SV:PO X none gI:=by
 intro zB s Y H Q I h;rw[evalPart_none];exact AD ⟨none,H,I,.none,h⟩
def Y6 (h:PE X e te):PO X (some e) (dW te):=by
 intro zB s Y H Q I hw;rw[evalPart_some];refine thn (h zB s Y H _ I hw) λu s1 ⟨x,H1,I1,r1,q1⟩=>?_;obtain ⟨i,rfl,q⟩:=q1;obtain ⟨t,rfl⟩:=r1;exact ⟨some i,H1,I1,.int i t,q⟩
def SlR (X:Cx) (r:V->Option Int->Option Int->Hp->VK->Prop):Prop :=
 ∀ (zB:Yd) (s:Yl) (Y:St) (H:Hp) (x:V) (v vl vu:Yu) (lo hi:Ys) (sl:Yt) (Q:VK),Inv X zB Y H s->zj x v->s.heap.IsSliceOf sl vl vu .none->IsPart vl lo->IsPart vu hi->r x lo hi H Q ->
  ∃ T id,typeLookup (.type T) "__getitem__" = pure (some (.builtin id))/\s.TypeIs v T/\wpAny (model X.prog X.w) X.A (getItem v (.ref sl)) (EP X zB Y Q) X.xe s
def SlR.or {r r':V->Option Int->Option Int->Hp->VK->Prop} (h:SlR X r) (h':SlR X r'):SlR X (λx lo hi H Q=>r x lo hi H Q\/r' x lo hi H Q):=by
 intro zB s Y H x v vl vu lo hi sl Q I rx hs pl pu q;rcases q with q|q
 .exact h zB s Y H x v vl vu lo hi sl Q I rx hs pl pu q
 .exact h' zB s Y H x v vl vu lo hi sl Q I rx hs pl pu q
noncomputable def tSl (r:V->Option Int->Option Int->Hp->VK->Prop) (te:TE) (tl th:TO):TE:=λY H Q=>te Y H λx H1=>tl Y H1 λl H2=>th Y H2 λu H3=>r x l u H3 Q
def jX {r:V->Option Int->Option Int->Hp->VK->Prop} (hr:SlR X r) (he:PE X e te) (hl:PO X lo tl) (hu:PO X hi th):PE X (.Subscript e (.Slice lo hi none p2) pos) (tSl r te tl th):=by
 intro zB s Y H Q I h;refine Subscript_ (thn (he zB s Y H _ I h) λv s1 ⟨x,H1,I1,r1,q1⟩=>?_);refine wpAny_Slice (thn (hl zB s1 Y H1 _ I1 q1) λvl s2 ⟨l,H2,I2,pl,q2⟩=>thn (hu zB s2 Y H2 _ I2 q2) λvu s3 ⟨u,H3,I3,pu,q3⟩=>?_);rw[evalPart_none];refine AD ?_;have I4:Inv X zB Y H3 { s3 with heap:=s3.heap.push { cls:=.type "slice", data:=.fields #[vl,vu,.none] } }:=I3.kept (t':=s3.toks) λb ob q=>AJ _ q;obtain ⟨T,id,hT,ht,hg⟩:=hr zB { s3 with heap:=s3.heap.push { cls:=.type "slice", data:=.fields #[vl,vu,.none] } } Y H3 x v vl vu l u s3.heap.objs.size Q I4 r1 (Heap.IsSliceOf.new ..) pl pu q3;show wpAny (model X.prog X.w) X.A (subscriptTail e (.Slice lo hi none p2) v (.ref s3.heap.objs.size)) (EP X zB Y Q) X.xe { s3 with heap:=s3.heap.push { cls:=.type "slice", data:=.fields #[vl,vu,.none] } };exact tail_any (ops:=[.ref s3.heap.objs.size,v]) ht hT hg (by with_unfolding_all rfl)
noncomputable def FC (xs:List V) (lo hi:Ys):List V:=(xs.drop (HT.sIx xs.length 0 lo)).take (HT.sIx xs.length xs.length hi-HT.sIx xs.length 0 lo)
def NZ (xs:List V) (lo hi:Ys):(FC xs lo hi).length<=xs.length:=by
 unfold FC;rw[CG,Dj];omega
def Vi (K:Yb):V->Option Int->Option Int->Hp->VK->Prop:=λx lo hi H Q=>∃ a xs,x=.ref a/\SqT K H a xs /\
 ¬ (HT.sIx xs.length 0 lo=0/\HT.sIx xs.length xs.length hi=xs.length) /\ ∀ p,H p=none->Q (.ref p) (upd H p (.tup (FC xs lo hi)))
def R7:SlR X (Vi X.K):=by
 intro zB s Y H x v vl vu lo hi sl Q I rx hs pl pu h;obtain ⟨a,xs,rfl,hx,hw,q⟩:=h;cases rx;obtain ⟨its,r,ht,hz⟩:=I.tuple hx;have hlen:its.toArray.size=xs.length:=by rw[AR];exact r.length.symm
 refine ⟨"tuple", _,Ga.lookup,ht.typeIs,?_⟩;refine HT.Ug ht hs pl pu (by rw[hlen];exact hw) ?_ (by rw[hlen];exact hz);rw[hlen];refine ⟨.ref s.heap.objs.size,_,I.laid (t':=s.toks) (o:=.tup (FC xs lo hi)) (λb ob q=>AJ _ q) (AF _) ?_,rfl,q _ (I.hok.fresh (AF _))⟩;exact ⟨AZ (NZ xs lo hi) hz,_,(r.drop (HT.sIx xs.length 0 lo)).take (HT.sIx xs.length xs.length hi-HT.sIx xs.length 0 lo),Du.new _ _⟩
noncomputable def Ql (K:Yb):R2:=λx y H Q=>∃ a b xs ys,x=.ref a/\y=.ref b/\SqT K H a xs/\SqT K H b ys/\xs≠[]/\xs.length+ys.length<=sizeLine /\
 (ys=[]->Q (.ref a) H)/\(ys≠[] -> ∀ p,H p=none->Q (.ref p) (upd H p (.tup (xs++ys))))
def zY.nil_iff {xs:List V} {us:Yf} (r:zY xs us):us=[] ↔ xs=[]:=by
 cases r with
 |nil=>simp
 |cons _ _=>simp
def iV:OpR X (binaryOp .Add) (Ql X.K):=by
 intro zB s Y H x y v u Q I rx ry h;obtain ⟨a,b,xs,ys,rfl,rfl,ha,hb,hx,hz,q1,q2⟩:=h;cases rx;cases ry;obtain ⟨its,r1,p1,_⟩:=I.tuple ha;obtain ⟨its2,r2,p2,_⟩:=I.tuple hb;refine HT.Wr p1 p2 (λz=>hx (r1.nil_iff.mp z)) (λz=>⟨.ref a,H,I,rfl,q1 (r2.nil_iff.mp z)⟩) (λz=>?_) (by rw[<-r1.length,<-r2.length];exact hz);refine ⟨.ref s.heap.objs.size,_,I.laid (t':=s.toks) (o:=.tup (xs++ys)) (λb ob q=>AJ _ q) (AF _) ?_,rfl,q2 (λw=>z (r2.nil_iff.mpr w)) _ (I.hok.fresh (AF _))⟩;exact ⟨by rw[An];exact hz,_,r1.append r2,Du.new _ _⟩
end
noncomputable def ixN (n:Nat) (i:Int):Option Nat:=if 0<=i then (if i<n then some i.toNat else none) else if -(n:Int)<=i then some (i+n).toNat else none
noncomputable def atI {α:Type} (xs:List α) (i:Int):Option α:=(ixN xs.length i).bind λj=>xs[j]?
def Kb {n:Nat} {i:Int} {j:Nat} (h:ixN n i=some j):seqIndex? i n=some j/\j<n /\ -(n:Int)<=i/\i<n:=by
 unfold ixN at h;by_cases h0:0<=i
 .rw[AB h0]at h;by_cases h1:i<n
  .rw[AB h1]at h;have e:i.toNat=j:=B0 h;exact ⟨by rw[seqIndex_of h0 h1,e],by omega,by omega,h1⟩
  .rw[AE h1]at h;cases h
 .rw[AE h0]at h;by_cases h1 : -(n:Int)<=i
  .rw[AB h1]at h;have e:(i+n).toNat=j:=B0 h;exact ⟨by rw[seqIndex_neg (by omega) h1,e],by omega,h1,by omega⟩
  .rw[AE h1]at h;cases h
def Ll {α:Type} {xs:List α} {i:Int} {v:α} (h:atI xs i=some v):∃ j,seqIndex? i xs.length=some j/\xs[j]?=some v/\j<xs.length /\ -(xs.length:Int)<=i/\i<xs.length:=by
 unfold atI at h;cases e:ixN xs.length i with
 |none=>rw[e]at h;cases h
 |some j=>
  rw[e]at h;obtain ⟨h1,h2,h3,h4⟩:=Kb e;exact ⟨j,h1,h,h2,h3,h4⟩
def Ow {α:Type} {xs:List α} {j:Nat} {v:α} (h:xs[j]?=some v):atI xs (j:Int)=some v:=by
 have hj:j<xs.length:=(AK.mp h).1;have e:ixN xs.length (j:Int)=some j:=by
  unfold ixN;rw[AB (by omega),AB (by omega)];simp
 unfold atI;rw[e];exact h
def RW (b:Expr):Prop:=∀ o i,subscripted b false o i=operate [o,i] (getItem o i)
def IxR (X:Cx) (r:R2):Prop :=
 ∀ (value slice:Expr) (zB:Yd) (s:Yl) (Y:St) (H:Hp) (x y:V) (v u:Yu) (Q:VK),Inv X zB Y H s->zj x v->zj y u->r x y H Q ->
  subscripted slice false v u=operate [v,u] (getItem v u)->wpAny (model X.prog X.w) X.A (subscriptTail value slice v u) (EP X zB Y Q) X.xe s
def MtR (X:Cx) (id:String) (r:V->List V->Hp->VK->Prop):Prop :=
 ∀ (zB:Yd) (s:Yl) (Y:St) (H:Hp) (x:V) (xs:List V) (v:Yu) (us:Yf) (Q:VK),Inv X zB Y H s->zj x v->zY xs us->r x xs H Q ->
  wpAny (model X.prog X.w) X.A (call (.builtin id) (v::us)) (EP X zB Y Q) X.xe s
section
variable {X:Cx} {a b:Expr} {ta tb:TE} {pos:Pos}
def IxR.or {r r':R2} (h:IxR X r) (h':IxR X r'):IxR X (λx y H Q=>r x y H Q\/r' x y H Q):=by
 intro value slice zB s Y H x y v u Q I rx ry q hs;rcases q with q|q
 .exact h value slice zB s Y H x y v u Q I rx ry q hs
 .exact h' value slice zB s Y H x y v u Q I rx ry q hs
def W6 {r:R2} (hr:IxR X r) (ha:PE X a ta) (hb:PE X b tb) (hs:RW b):PE X (.Subscript a b pos) (tOp r ta tb):=by
 intro zB s Y H Q I h;exact Subscript_ (KJ ha hb I h λv u s2 x y H2 I2 rx ry q=>hr a b zB s2 Y H2 x y v u Q I2 rx ry q (hs _ _))
noncomputable def Ot (K:Yb):R2:=λx y H Q=>∃ p xs i v,x=.ref p/\y=.int i/\SqL K H p xs/\atI xs i=some v/\Q v H
noncomputable def Px (K:Yb):R2:=λx y H Q=>∃ p xs i v,x=.ref p/\y=.int i/\SqT K H p xs/\atI xs i=some v/\Q v H
noncomputable def QH:R2:=λx y H Q=>∃ z i c,x=.str z/\y=.int i/\z.length<=sizeLine/\atI z.cps.toList i=some c/\Q (.str ⟨#[c]⟩) H
def T3:IxR X (Ot X.K):=by
 intro value slice zB s Y H x y v u Q I rx ry h hs;obtain ⟨p,xs,i,z,rfl,rfl,hq,he,q⟩:=h;cases rx;obtain ⟨t,rfl⟩:=ry;obtain ⟨its,r,pl,hz⟩:=I.list hq;obtain ⟨j,h1,h2,h3,h4,h5⟩:=Ll he;obtain ⟨w,ew,rw'⟩:=r.get h2;have hl:=r.length;have hn:=Fc;have fin:EP X zB Y Q w s:=⟨z,H,I,rw',q⟩;by_cases h0:0<=i
 .have hj:i.toNat=j:=by
   rw[seqIndex_of h0 h5]at h1;exact B0 h1
  exact item_listR pl.isList h0 (by omega) (by rw[hj];simpa using ew) fin hs
 .have hj:(i+(its.toArray.size:Int)).toNat=j:=by
   rw[seqIndex_neg (by omega) h4]at h1;rw[AR,<-hl];exact B0 h1
  exact subscriptTail_builtinR (x:=w) pl.isList.typeIs slot_list_getitem.lookup
   (wpAny_getItem_list_neg (Q:=λr s'=>r=w/\EP X zB Y Q r s') pl.isList (by omega) (by rw[AR] <;> omega) (by omega) (by rw[hj];simpa using ew) ⟨rfl,fin⟩) hs
def bU:IxR X (Px X.K):=by
 intro value slice zB s Y H x y v u Q I rx ry h hs;obtain ⟨p,xs,i,z,rfl,rfl,hq,he,q⟩:=h;cases rx;obtain ⟨t,rfl⟩:=ry;obtain ⟨its,r,pl,hz⟩:=I.tuple hq;obtain ⟨j,h1,h2,h3,h4,h5⟩:=Ll he;obtain ⟨w,ew,rw'⟩:=r.get h2;have hl:=r.length;have hn:=Fc;have fin:EP X zB Y Q w s:=⟨z,H,I,rw',q⟩
 exact subscriptTail_builtinR (x:=w) pl.typeIs slot_tuple_getitem.lookup
  (getItem_tuple (j:=j) (Q:=λr s'=>r=w/\EP X zB Y Q r s') pl (by omega) (by omega) (by rw[AR,<-hl];exact h1) (by simpa using ew) ⟨rfl,fin⟩) hs
def XZ:IxR X QH:=by
 intro value slice zB s Y H x y v u Q I rx ry h hs;obtain ⟨z,i,c,rfl,rfl,hz,he,q⟩:=h;obtain ⟨t,rfl⟩:=rx;obtain ⟨t',rfl⟩:=ry;obtain ⟨j,h1,h2,h3,h4,h5⟩:=Ll he;have hl:z.cps.toList.length=z.length:=by simp[Str.length]
 rw[hl]at h1 h4 h5;have hn:=Fc;exact tail_any (typeIs_str s z t) slot_str_getitem.lookup (getItem_str (c:=c) (by
  have e1:decide (i < -(2 ^ 63:Int))=false:=AU (by omega);have e2:decide (i≥2 ^ 63)=false:=AU (by omega);rw[e1,e2,Bool.or_false]) (by rw[h1];simpa using h2) ⟨.str ⟨#[c]⟩,H,I.tok _,⟨_,rfl⟩,q⟩) hs
noncomputable def rIx (K:Yb):R2:=λx y H Q=>Ot K x y H Q\/Px K x y H Q\/QH x y H Q
def WW:IxR X (rIx X.K):=T3.or (bU.or XZ)
def Wk (its:List Value) (n j:Nat) (u:Value):Obj.mapSeq (·.setIfInBounds j u) { cls:=.type "list", data:=.seq its.toArray n }={ cls:=.type "list", data:=.seq (its.set j u).toArray n }:=by
 simp[Obj.mapSeq]
def Inv.lst {zB:Yd} {Y:St} {H:Hp} {s:Yl} {p:Yt} {xs:List V} (I:Inv X zB Y H s) (h:H p=some (.lst xs)) :
  ∃ (its:List Value) (n:Nat),zY xs its/\s.heap.get? p=some { cls:=.type "list", data:=.seq its.toArray n }/\xs.length<=sizeLine:=by
 obtain ⟨z,its,n,r,e⟩:=I.hok p _ h;exact ⟨its,n,r,e,z⟩
def Inv.lstUpd {zB:Yd} {Y:St} {H:Hp} {s:Yl} {p:Yt} {xs ys:List V} {its its':Yf} {n n':Nat} {f:Obj->Obj} (I:Inv X zB Y H s) (h:H p=some (.lst xs))
  (ho:s.heap.get? p=some { cls:=.type "list", data:=.seq its.toArray n }) (hf:f { cls:=.type "list", data:=.seq its.toArray n }={ cls:=.type "list", data:=.seq its'.toArray n' }) (r:zY ys its') (hz:ys.length<=sizeLine) (t:Nat) :
  Inv X zB Y (upd H p (.lst ys)) { s with heap:=s.heap.update p f,toks:=t }:=by
 have e:(s.heap.update p f).get? p=some { cls:=.type "list", data:=.seq its'.toArray n' }:=by
  rw[D4 f ho (by rw[hf] <;> rfl),hf]
 refine I.write (x:=p) (e:=p) (by rw[h];trivial) (.inl rfl) (λb u hb q=>(D2 _ _ (Ne.symm hb)).trans q) ⟨_,e⟩ ?_;exact ⟨hz,its',n',r,e⟩
def iO:V->V->V->Hp->(Hp->Prop)->Prop:=λo i v H Q=>∃ p xs k j,o=.ref p/\i=.int k/\H p=some (.lst xs)/\ixN xs.length k=some j/\Q (upd H p (.lst (xs.set j v)))
def Ul:RH X iO:=by
 intro zB s Y H o i v ov iv u Q I ro ri rv h;obtain ⟨p,xs,k,j,rfl,rfl,hp,hj,q⟩:=h;cases ro;obtain ⟨t,rfl⟩:=ri;obtain ⟨its,n,r,ho,hz⟩:=I.lst hp;obtain ⟨h1,h2,h3,h4⟩:=Kb hj;have hl:=r.length;have hn:=Fc;have I':Inv X zB Y (upd H p (.lst (xs.set j v))) { s with heap:=s.heap.update p (Obj.mapSeq (·.setIfInBounds j u)) } :=
  I.lstUpd hp ho (Wk its n j u) (r.set rv j) (by rw[List.length_set];exact hz) s.toks
 by_cases h0:0<=k
 .have hk:k.toNat=j:=by
   rw[seqIndex_of h0 h4]at h1;exact B0 h1
  exact PySem.W.ki_setAt ho h0 (by omega) (by rw[AR,<-hl];exact h4) (by rw[hk];exact ⟨_,I',q⟩)
 .have hk:(k+(its.toArray.size:Int)).toNat=j:=by
   rw[seqIndex_neg (by omega) h3]at h1;rw[AR,<-hl];exact B0 h1
  exact PySem.W.ki_setBack ho (by omega) (by rw[AR,<-hl];exact h3) (by omega) (by rw[hk];exact ⟨_,I',q⟩)
def bX (lo hi:Ys) (n:Nat):(sliceBounds lo hi none n).1=((HT.sIx n 0 lo:Nat):Int)/\(sliceBounds lo hi none n).2.1=((HT.sIx n n hi:Nat):Int)/\(sliceBounds lo hi none n).2.2=1:=by
 refine ⟨?_,?_,rfl⟩
 .cases lo with
  |none=>simp[sliceBounds,HT.sIx]
  |some i=>
   simp only[sliceBounds,HT.sIx,Option.getD_none,show (1:Int)>0 by decide,if_true];by_cases h:i<0
   .simp only[h,if_true] <;> omega
   .simp only[h,if_false] <;> omega
 .cases hi with
  |none=>simp[sliceBounds,HT.sIx]
  |some i=>
   simp only[sliceBounds,HT.sIx,Option.getD_none,show (1:Int)>0 by decide,if_true];by_cases h:i<0
   .simp only[h,if_true] <;> omega
   .simp only[h,if_false] <;> omega
def iZ (its:Yf) (lo hi:Ys):slicePick its.toArray lo hi none=((its.drop (HT.sIx its.length 0 lo)).take (HT.sIx its.length its.length hi-HT.sIx its.length 0 lo)).toArray:=by
 obtain ⟨h1,h2,h3⟩:=bX lo hi its.toArray.size;unfold slicePick;rw[h1,h2,h3];simp only[sliceRange_one,pick_run,AR] <;> rfl
def eJ (K:Yb):V->Option Int->Option Int->Hp->VK->Prop:=λx lo hi H Q=>∃ a xs,x=.ref a/\SqL K H a xs /\ ∀ p,H p=none->Q (.ref p) (upd H p (.lst (FC xs lo hi)))
def U7:SlR X (eJ X.K):=by
 intro zB s Y H x v vl vu lo hi sl Q I rx hs pl pu h;obtain ⟨a,xs,rfl,hx,q⟩:=h;cases rx;obtain ⟨its,r,ht,hz⟩:=I.list hx;have hlen:=r.length;refine ⟨"list", _,slot_list_getitem.lookup,ht.isList.typeIs,?_⟩;refine wpAny_getItem_list_slice ht.isList hs pl pu .none (by simp) ?_ (by rw[AR] <;> omega);rw[iZ,<-hlen];refine ⟨.ref s.heap.objs.size,_,I.laid (t':=s.toks) (o:=.lst (FC xs lo hi)) (λb ob q=>AJ _ q) (AF _) ?_,rfl,q _ (I.hok.fresh (AF _))⟩;exact ⟨AZ (NZ xs lo hi) hz,_,0,(r.drop (HT.sIx xs.length 0 lo)).take (HT.sIx xs.length xs.length hi-HT.sIx xs.length 0 lo),AV _ rfl⟩
def aG:Bk X (.builtin "len") (λxs H Q=>∃ p ys,xs=[.ref p]/\(SqL X.K H p ys\/SqT X.K H p ys)/\Q (.int ys.length) H):=by
 intro zB s Y H xs us Q I r h;obtain ⟨p,ys,rfl,hq,q⟩:=h;obtain ⟨u,rfl,rx⟩:=Cs r;cases rx;have hn:=Fc;rcases hq with hq|hq
 .obtain ⟨its,r',pl,hz⟩:=I.list hq;have hlen:=r'.length;exact Calls.call_len_list pl.isList (by simp only[AR] <;> omega) ⟨.int ys.length,H,I.tok _,⟨s.toks+1,by rw[AR,hlen]⟩,q⟩
 .obtain ⟨its,r',pl,hz⟩:=I.tuple hq;have hlen:=r'.length;exact len_tuple pl (by simp only[AR] <;> omega) ⟨.int ys.length,H,I.tok _,⟨s.toks+1,by rw[AR,hlen]⟩,q⟩
def Y9:Bk X (.type "list") (λxs H Q=>∃ p ys,xs=[.ref p]/\(SqL X.K H p ys\/SqT X.K H p ys) /\ ∀ l,H l=none->Q (.ref l) (upd H l (.lst ys))):=by
 intro zB s Y H xs us Q I r h;obtain ⟨p,ys,rfl,hq,q⟩:=h;obtain ⟨u,rfl,rx⟩:=Cs r;cases rx
 have fin:∀ (its:Yf),zY ys its->ys.length<=sizeLine -> ∀ (h':Heap) (c':Nat),(∀ b o',s.heap.get? b=some o'->h'.get? b=some o') ->
   h'.get? s.heap.objs.size=some { cls:=.type "list", dict:=none,data:=.seq its.toArray c',slots:=#[] }->EP X zB Y Q (.ref s.heap.objs.size) { s with heap:=h' }:=λits r' hz h' c' kp e=>
  ⟨.ref s.heap.objs.size,_,I.laid (t':=s.toks) kp (AF _) (show z0 X.prog X.w _ h' _ (.lst ys)from ⟨hz,its,c',r',e⟩),rfl,q _ (I.hok.fresh (AF _))⟩
 rcases hq with hq|hq
 .obtain ⟨its,r',pl,hz⟩:=I.list hq;have hlen:=r'.length;obtain ⟨o,ho,hc,n,hd⟩:=pl.isList;exact call_list_seq p (.inl rfl) ho hc hd (λh' c' kp e=>fin its r' hz h' c' kp e) (by simp only[AR] <;> omega)
 .obtain ⟨its,r',pl,hz⟩:=I.tuple hq;have hlen:=r'.length;obtain ⟨o,ho,hc,n,hd⟩:=pl;exact call_list_seq p (.inr rfl) ho hc hd (λh' c' kp e=>fin its r' hz h' c' kp e) (by simp only[AR] <;> omega)
def UQ:Bk X (.type "tuple") (λxs H Q=>∃ p ys,xs=[.ref p]/\((SqL X.K H p ys /\ ∀ l,H l=none->Q (.ref l) (upd H l (.tup ys)))\/(SqT X.K H p ys/\Q (.ref p) H))):=by
 intro zB s Y H xs us Q I r h;obtain ⟨p,ys,rfl,h⟩:=h;obtain ⟨u,rfl,rx⟩:=Cs r;cases rx;rcases h with ⟨hq,q⟩|⟨hq,q⟩
 .obtain ⟨its,r',pl,hz⟩:=I.list hq;have hlen:=r'.length;refine call_tuple_list pl.isList (λh' kp=>?_) (by simp only[AR] <;> omega);have I1:Inv X zB Y H { s with heap:=h' }:=I.kept (t':=s.toks) kp;have I2:Inv X zB Y (upd H h'.objs.size (.tup ys)) { s with heap:=h'.push { cls:=.type "tuple", data:=.seq its.toArray } } :=
   I1.laid (t':=s.toks) (λb o e=>AJ _ e) (AF _) (show z0 X.prog X.w _ _ _ (.tup ys)from ⟨hz,its,r',Du.new _ _⟩)
  exact ⟨.ref h'.objs.size,_,I2,rfl,q _ (I1.hok.fresh (AF _))⟩
 .obtain ⟨its,r',pl,hz⟩:=I.tuple hq;exact call_tuple_same pl ⟨.ref p,H,I,rfl,q⟩
def tyV (K:Yb) (T:String) (x:V) (H:Hp):Prop:=match x with
 |.str _=>T = "str"
 |.int _=>T = "int"
 |.ref p=>(T = "list" /\ ∃ xs,SqL K H p xs)\/(T = "tuple" /\ ((∃ o,K.lookup p=some o/\o.cls=.type "tuple" /\ o.dict=none) \/ ∃ xs,H p=some (.tup xs))) \/
   (T = "dict" /\ ((∃ kvs,H p=some (.dK kvs)) \/ ∃ kvs,H p=some (.dT kvs)))\/(T = "set" /\ ∃ S n,H p=some (.set S n))
 |_=>False
def bJ {zB:Yd} {Y:St} {H:Hp} {s:Yl} {T:String} {x:V} {v:Yu} (I:Inv X zB Y H s) (r:zj x v) (ty:tyV X.K T x H) :
  s.TypeIs v T /\ ∀ a,v=.ref a -> ∃ ob,s.heap.get? a=some ob/\ob.dict=none:=by
 cases x with
 |str z=>
  obtain ⟨t,rfl⟩:=r;cases (show T = "str" from ty);exact ⟨typeIs_str s z t,λ_ e=>nomatch e⟩
 |int i=>
  obtain ⟨t,rfl⟩:=r;cases (show T = "int" from ty);exact ⟨typeIs_int s i t,λ_ e=>nomatch e⟩
 |ref p=>
  cases r;rcases ty with ⟨rfl,xs,hq⟩|⟨rfl,⟨o,hk,hc,hd⟩|⟨xs,hq⟩⟩|⟨rfl,hk⟩|⟨rfl,S,n,hk⟩
  .obtain ⟨its,_,pl,_⟩:=I.list hq;refine ⟨pl.isList.typeIs,λa e=>?_⟩;cases e;obtain ⟨o,n,e,c,hd,_⟩:=pl;exact ⟨o,e,hd⟩
  .refine ⟨⟨o,I.kIn p o hk,hc⟩,λa e=>?_⟩;cases e;exact ⟨o,I.kIn _ o hk,hd⟩
  .obtain ⟨_,its,_,o,e,c,_,hd⟩:=I.hok p _ hq;refine ⟨⟨o,e,c⟩,λa e2=>?_⟩;cases e2;exact ⟨o,e,hd⟩
  .have z:∃ o,s.heap.get? p=some o/\o.ExactDict:=by
    rcases hk with ⟨kvs,hk⟩|⟨kvs,hk⟩
    .obtain ⟨_,_,_,_,o,_,_,e,ex,_⟩:=I.hok p _ hk;exact ⟨o,e,ex⟩
    .obtain ⟨_,_,_,_,o,_,_,e,ex,_⟩:=I.hok p _ hk;exact ⟨o,e,ex⟩
   obtain ⟨o,e,ex⟩:=z;refine ⟨⟨o,e,ex.1⟩,λa e2=>?_⟩;cases e2;exact ⟨o,e,ex.2.1⟩
  .obtain ⟨o,_,_,_,e,ex,_⟩:=I.hok p _ hk;refine ⟨⟨o,e,ex.1⟩,λa e2=>?_⟩;cases e2;exact ⟨o,e,ex.2.1⟩
 |_=>exact False.elim ty
noncomputable def tBM (K:Yb) (T:String) (r:V->List V->Hp->VK->Prop) (to:TE) (t:TA):TE:=λY H Q=>to Y H λx H1=>tyV K T x H1/\t Y H1 λxs H2=>r x xs H2 Q
variable {o e:Expr} {es:Yi} {to:TE} {t:TA} {name:Str} {apos cpos:Pos} {T id:String} {r:V->List V->Hp->VK->Prop}
def Ig (pa:PlainAttrs T) (slot:Slot T name id) (hty:typeOf (.builtin id)=pure (.type "method_descriptor")) (hm:MtR X id r) (ho:PE X o to) (ha:PA X (e::es) t)
  (hbase:attributeBase o name X.env (eval o X.env)=eval o X.env:=by rfl)
  (hfew:((backTo cpos (starEach (e::es) X.env)).all (λx=> !x.1)&&(backToKw cpos (keywordEach [] X.env)).all (λx=>x.1.isSome)
   && decide ((e::es).length+([]:List Keyword).length+(if ([]:List Keyword).isEmpty then 0 else 1)<30))=true:=by rfl)
  (hline:(apos.endLine==cpos.line)=true:=by rfl) (hs:starEach (e::es) X.env=(false,eval e X.env)::starEach es X.env:=by rfl) (hplain:(backTo cpos (starEach es X.env)).any (·.1)=false:=by rfl) :
  PE X (.Call (.Attribute o name apos) (e::es) [] cpos) (tBM X.K T r to t):=by
 intro zB s Y H Q I h;refine wpAny_Call_method_late hbase hfew hline rfl (thn (ho zB s Y H _ I h) λv s1 ⟨x,H1,I1,r1,ty,q1⟩=>?_);obtain ⟨h1,h2⟩:=bJ I1 r1 ty;refine ⟨T,id,pa,slot,hty,h1,h2,?_⟩;have hA:=ha cpos zB s1 Y H1 _ I1 q1;rw[hs]at hA ⊢;refine Calls.callWith_builtin (by show (false||(backTo cpos (starEach es X.env)).any (·.1))=false;rw[hplain] <;> rfl) (Calls.evalArgs_plain ?_);exact thn hA λus s2 ⟨vs,H2,I2,r2,q2⟩=>hm zB s2 Y H2 x vs v us Q I2 r1 r2 q2
end
def MtM (X:Cx) (id:String) (r:V->List V->Hp->VK->Prop):Prop :=
 ∀ (zB:Yd) (s:Yl) (Y:St) (H:Hp) (x:V) (xs:List V) (v:Yu) (us:Yf) (Q:VK),Inv X zB Y H s->zj x v->zY xs us->r x xs H Q ->
  wpAny (model X.prog X.w) X.A (call (.builtin id) (v::us)) (EP X zB Y Q) X.xe s
def zY.one:∀ {x:V} {us:Yf},zY [x] us -> ∃ u,us=[u]/\zj x u
 |_,_,.cons r .nil=>⟨_,rfl,r⟩
def zY.two:∀ {x y:V} {us:Yf},zY [x,y] us -> ∃ u v,us=[u,v]/\zj x u/\zj y v
 |_,_,_,.cons r (.cons q .nil)=>⟨_,_,rfl,r,q⟩
def zY.eraseIdx:∀ {xs:List V} {us:Yf} (i:Nat),zY xs us->zY (xs.eraseIdx i) (us.eraseIdx i)
 |_,_,_,.nil=> .nil
 |_,_,0,.cons _ t=>t
 |_,_,i+1,.cons r t=> .cons r (zY.eraseIdx i t)
theorem Pz {α:Type}:∀ (l:List α) (i:Nat),(l.eraseIdx i).length<=l.length
 |[],_=>AF _
 |_::_,0=>DC _
 |_::r,i+1=>Nat.succ_le_succ (Pz r i)
section
variable {X:Cx} {zB:Yd} {Y:St} {H:Hp} {s:Yl} {l b:Yt} {xs ys zs:List V}
def Inv.lset {its its':Yf} {n:Nat} {f:Array Value->Array Value} {t':Nat} (I:Inv X zB Y H s) (hH:H l=some (.lst xs))
  (e:s.heap.get? l=some { cls:=.type "list", data:=.seq its.toArray n }) (hf:f its.toArray=its'.toArray) (hv:zY ys its') (hz:ys.length<=sizeLine) :
  Inv X zB Y (upd H l (.lst ys)) { s with heap:=s.heap.update l (Obj.mapSeq f),toks:=t' }:=by
 have q:=PySem.IsL.update e f;rw[hf]at q;refine I.write (x:=l) (e:=l) (by rw[hH];exact trivial) (.inl rfl) (λb' u hb hu=>(D2 s.heap (Obj.mapSeq f) (Ne.symm hb)).trans hu) ⟨_,q⟩ ?_;exact ⟨hz,its',_,hv,q⟩
def Inv.lnew {its:Yf} {t':Nat} (I:Inv X zB Y H s) (hv:zY ys its) (hz:ys.length<=sizeLine) :
  Inv X zB Y (upd H s.heap.objs.size (.lst ys)) { s with heap:=s.heap.push { cls:=.type "list", data:=.seq its.toArray },toks:=t' } :=
 I.laid (λ_ _ q=>AJ _ q) (AF _) ⟨hz,its,0,hv,AV _ rfl⟩
def Inv.fresh (I:Inv X zB Y H s):H s.heap.objs.size=none:=I.hok.fresh (AF _)
def Inv.lstM (I:Inv X zB Y H s) (hH:H l=some (.lst xs)):xs.length<=sizeLine /\ ∃ (its:List Value) (n:Nat),zY xs its/\xs.length=its.length/\s.heap.get? l=some { cls:=.type "list", data:=.seq its.toArray n }:=by
 obtain ⟨z,its,n,r,e⟩:=I.hok l _ hH;exact ⟨z,its,n,r,r.length,e⟩
def ZX {n:Nat} (h:n<=sizeLine):Builtin.List.listTooLong n=false:=by
 unfold Builtin.List.listTooLong;exact AU (by omega)
end
section
variable {X:Cx}
def P9:V->List V->Hp->VK->Prop:=λx vs H Q=>∃ l xs y,x=.ref l/\vs=[y]/\H l=some (.lst xs)/\xs.length<sizeLine/\Q .non (upd H l (.lst (xs++[y])))
def Xg:MtM X "list.append" P9:=by
 intro zB s Y H x vs v us Q I rx rv h;obtain ⟨l,xs,y,rfl,rfl,hH,hz,q⟩:=h;cases rx;obtain ⟨u,rfl,ru⟩:=rv.one;obtain ⟨z,its,n,r,hl,e⟩:=I.lstM hH;refine call_meets F.slot_list_append ⟨_,e,rfl⟩ F.entry_list_append (F.args_list_append_2 _ _) (PySem.list_append l its.toArray n u (by rw[AR];omega)) ⟨e,?_⟩;refine ⟨.non,_,I.lset (its':=its++[u]) hH e (by simp) (r.append (.cons ru .nil)) ?_,rfl,q⟩;rw[An,List.length_singleton];omega
def OY:V->List V->Hp->VK->Prop:=λx vs H Q=>∃ l b xs zs,x=.ref l/\vs=[.ref b]/\H l=some (.lst xs)/\H b=some (.lst zs)/\xs.length+zs.length<=sizeLine/\Q .non (upd H l (.lst (xs++zs)))
def WR:MtM X "list.extend" OY:=by
 intro zB s Y H x vs v us Q I rx rv h;obtain ⟨l,b,xs,zs,rfl,rfl,hH,hB,hz,q⟩:=h;cases rx;obtain ⟨u,rfl,ru⟩:=rv.one;cases ru;obtain ⟨z,its,n,r,hl,e⟩:=I.lstM hH;obtain ⟨z2,its2,n2,r2,hl2,e2⟩:=I.lstM hB;have hsz:its.toArray.size+its2.toArray.size<=sizeLine:=by rw[AR,AR];omega
 have hlong:¬ (!its.toArray.isEmpty&&Builtin.List.listTooLong (its.toArray.size+its2.toArray.size))=true:=by
  rw[ZX hsz,Bool.and_false];exact BA
 refine call_meets F.slot_list_extend ⟨_,e,rfl⟩ F.entry_list_extend (F.args_list_extend_2 _ _)
  (AutoSeq1.list_extend_list_list_0 l its.toArray n b its2.toArray n2 hlong (by rw[AR];omega) (by omega)) ⟨e,e2,?_⟩
 refine ⟨.non,_,I.lset (its':=its++its2) hH e (by simp) (r.append r2) ?_,rfl,q⟩;rw[An];omega
def Q7:V->List V->Hp->VK->Prop:=λx vs H Q=>∃ l xs i k y,x=.ref l/\vs=[.int i]/\H l=some (.lst xs) /\ -(2 ^ 63)<=i/\i<2 ^ 63/\seqIndex? i xs.length=some k/\xs[k]?=some y/\Q y (upd H l (.lst (xs.eraseIdx k)))
def Vq:MtM X "list.pop" Q7:=by
 intro zB s Y H x vs v us Q I rx rv h;obtain ⟨l,xs,i,k,y,rfl,rfl,hH,h1,h2,hk,hy,q⟩:=h;cases rx;obtain ⟨u,rfl,ru⟩:=rv.one;obtain ⟨t,rfl⟩:=ru;obtain ⟨z,its,n,r,hl,e⟩:=I.lstM hH;obtain ⟨w,hw,rw'⟩:=r.get hy
 refine call_meets F.slot_list_pop ⟨_,e,rfl⟩ F.entry_list_pop (F.args_list_pop_2 _ _)
  (MeetsSeq.list_pop_at l its.toArray n i t k w (fitsIndex_both h1 h2) (by rw[AR,<-hl];exact hk) (by rw[<-Bj];exact hw) (by rw[AR];omega)) ⟨e,?_⟩
 refine ⟨y,_,I.lset (its':=its.eraseIdx k) hH e ?_ (r.eraseIdx k) ?_,rw',q⟩
 .show its.toArray.eraseIdxIfInBounds k=(its.eraseIdx k).toArray;rw[List.eraseIdxIfInBounds_toArray]
 .have:=Pz xs k;omega
noncomputable def QK:R2:=λx y H Q=>∃ l b xs zs,x=.ref l/\y=.ref b/\H l=some (.lst xs)/\H b=some (.lst zs)/\xs.length+zs.length<=sizeLine /\ ∀ p,H p=none->Q (.ref p) (upd H p (.lst (xs++zs)))
def eG:OpR X (binaryOp .Add) QK:=by
 intro zB s Y H x y v u Q I rx ry h;obtain ⟨l,b,xs,zs,rfl,rfl,hH,hB,hz,q⟩:=h;cases rx;cases ry;obtain ⟨z,its,n,r,hl,e⟩:=I.lstM hH;obtain ⟨z2,its2,n2,r2,hl2,e2⟩:=I.lstM hB;refine PySem.P.add_list e e2 ?_ (by rw[AR,AR];omega);have ea:its.toArray++its2.toArray=(its++its2).toArray:=by simp
 rw[ea];exact ⟨.ref _,_,I.lnew (t':=s.toks) (r.append r2) (by rw[An];omega),rfl,q _ I.fresh⟩
end
end L2
namespace Att
open PySem PySem.W PySem.Calls PyProof.Rows
def Zp {P:Params} {h:Heap}:∀ (ns:Ye) (vs:Yf),WellAll P h vs (ns.map WData.int)->IntsAre vs ns:=by
 intro ns;induction ns with
 |nil=>
  intro vs w;rw[List.map_nil]at w;cases w;exact .nil
 |cons n ns ih=>
  intro vs w;rw[AX]at w;cases w with
  |cons a b=>
   cases a;exact .cons _ _ (ih _ b)
def Wv {l:OpenLaw} {n:Nat} (hn:l.most=some n) {P:Params} {h:Heap} {args:List WData} {vals:Yf}
  (hpre:l.row.toRowW.claim.pre args=true) (hwl:WellAll P h vals args) :
  ∃ a vs ns,vals=[Value.ref a]/\args=[WData.list (ns.map WData.int)]/\h.get? a=some { cls:=.type "list", data:=.seq vs.toArray }/\IntsAre vs ns/\ns.length<=n:=by
 have hsh:WShape.hasAll [] args [.list .int]=true:=(pre_splitW hpre).1;have hc:l.pre.holds [] { args:=args }=true:=(pre_splitW hpre).2;obtain ⟨d,r,rfl,h1,h2⟩:=hasAllW_cons hsh;obtain rfl:=hasAllW_nil h2;obtain ⟨xs,rfl,h3⟩:=hasW_list h1;obtain ⟨ns,rfl⟩:=items_int h3;have hlen:ns.length<=n:=by
  unfold OpenLaw.pre at hc;have h4:(WTm.not (.lt (.lit (.int (n:Int))) (.len (.arg 0)))).holds [] { args:=[.list (ns.map .int)] }=true:=by
   have h4:=(holds_andW hc).1;rw[hn]at h4;exact h4
  have h5:=condW_of h4 (w_not (w_lt w_lit (w_len_list (w_arg rfl))));rw[AG]at h5;refine Nat.le_of_not_lt λq=>?_;have q':(n:Int)<((ns.length:Nat):Int):=by omega
  first
   | (rw[AO q']at h5;exact absurd h5 (by decide))
   | (simp at h5;omega)
 cases hwl with
 |cons w1 w2=>
  cases w2;cases w1 with
  |list ho hall=>exact ⟨_,_,ns,rfl,rfl,ho,Zp ns _ hall,hlen⟩
def cS (l:OpenLaw) (args:List WData):l.row.toRowW.claim.post args (.bool true) args=true :=
 postW_of (r:=l.row.toRowW) (X:=(true==true))
  (show WShape.has [] (.bool true) .bool=true by first|rfl|decide|simp[WShape.has,WShape.arms,WShape.armsAll])
  (show (WTm.eq .res (.lit (.bool true))).value [] { args:=args,res:=some (.bool true),after:=args }=some (.bool (true==true))from w_eq_bool (w_res rfl) w_lit) rfl
def dE {l:OpenLaw} {n:Nat} {q:Ym} {loose:Yk} {XP:(Str->Option Value)->Heap->Prop} {YP:World->Heap->Prop} {d:DefRec}
  (hn:l.most=some n) (hdf:d.params.defaults=[])
  (call:∀ (w:Yo) (s₀ s₁:Yl) (mg mb:Yh) (fa:Yt) (o:Obj) (pm cd doc:Yu) (a:Yt) (vs:Yf) (ns:Ye),
   Ground q loose [] XP w s₀ mg mb s₁.heap->YP w s₁.heap ->
   s₁.heap.get? fa=some o->o.data=.func (docDef d.name d.params d.body d.scope pm cd doc)->s₁.heap.CodeRec cd d.name->mg d.name=some (.ref fa) ->
   s₁.heap.get? a=some { cls:=.type "list", data:=.seq vs.toArray }->IntsAre vs ns->ns.length<=n->s₁.gens = #[] ->
   codeAny (model l.prog w) callerA (.call (.ref fa) ⟨[.ref a],[]⟩) (λr s'=>r=.ok (.ret (.bool true))/\OldK s₁.heap s'.heap/\s'.os=s₁.os/\AllBare s'.gens) s₁) :
  WalkO q loose XP YP l.row.toRowW d [] (λf vs=>PySem.call f vs):=by
 intro w s₀ s₁ mg mb G YY fa o pm cd doc dV kV ho hd hcd hD hmg hg args vals as hpre hlay hrd hwl hlo;obtain rfl:dV=.none:=Dflts.none hD hdf;obtain rfl:kV=.none:=Dflts.noKw hD;obtain ⟨a,vs,ns,rfl,rfl,hobj,hints,hlen⟩:=Wv hn hpre hwl;refine enter_call (codeAny_mono (call w s₀ s₁ mg mb fa o pm cd doc a vs ns G YY ho (fd_plain hd) hcd hmg hobj hints hlen hg) λr s' hq=>?_);obtain ⟨rfl,h2,h3,h4⟩:=hq;exact ⟨.inl ⟨.bool true,.bool true,[],rfl,λ_=>rfl,.bool true,cS l _,λ_=>⟨List.Pairwise.nil,λ_ hm=>(nomatch hm)⟩⟩,h2,h3,h4⟩
end Att
namespace L2
theorem Nd:∀ {vs:Yf} {ns:Ye},IntsAre vs ns->zY (ns.map V.int) vs
 |_,_,.nil=> .nil
 |_,_,.cons n t h=> .cons ⟨t,rfl⟩ (Nd h)
def IX (H:Hp):Prop:=∀ b,H b=none \/ ∃ o xs,H b=some (.frz o (.lst xs))
def eE {P:Ym} {w:Yo} {K:Yb} {mg mb:Yh} {CX:CXT} {k:Nat} {fa a:Yt} {fd:Yz} {x:Str} {sp:Sp} {s₁:Yl} {vs:Yf} {ns:Ye}
  (KX:K.In s₁.heap) (hns:s₁.heap.Ns mainGlobals mg) (hb:s₁.heap.Ns builtinsNs mb) (hbb:∀ x:Str,x ≠ "__name__" -> mb x=bootBuiltins x) (hlim:s₁.heap.NoLimit) (hg:s₁.gens = #[])
  (ha:s₁.heap.get? a=some { cls:=.type "list", data:=.seq vs.toArray }) (hi:IntsAre vs ns) (hl:ns.length<=sizeLine) (hr:Room k callerA)
  (F:∀ base:Heap,K.In base->base.Ns mainGlobals mg->FnOk P w K mg base CX k fa fd [x] sp) (hbind:∀ (s:Yl) (u:Yu),BindsTo s fd ⟨[u],[]⟩ [(x,u)])
  (hsp:∀ H:Hp,IX H->SqL K H a (ns.map V.int)->sp [.ref a] H (λv _=>v=.bl true) λ_ _ _=>False)
  (hCX:∀ H e s',CX [] H s₁ (λ_ _ _=>False) e s'->False) :
  codeAny (model P w) callerA (.call (.ref fa) ⟨[.ref a],[]⟩) (λr s'=>r=.ok (.ret (.bool true))/\OldK s₁.heap s'.heap/\s'.os=s₁.os/\AllBare s'.gens) s₁:=by
 have rv:=Nd hi;have lenV:=hi.length
 have core:∀ H:Hp,IX H->SqL K H a (ns.map V.int)->HOk P w H s₁.heap->(∀ b,H b≠none->b=a)->(H a≠none->K.lookup a=none) ->
   codeAny (model P w) callerA (.call (.ref fa) ⟨[.ref a],[]⟩) (λr s'=>r=.ok (.ret (.bool true))/\OldK s₁.heap s'.heap/\s'.os=s₁.os/\AllBare s'.gens) s₁:=by
  intro H hO hS hok hA hK;have base_of:∀ {b:Yt} {o:Obj},s₁.heap.get? b=some o->H b=none->(EY s₁.heap H).get? b=some o:=λe n=>SF e n;have noA:∀ {b:Yt} {o:Obj} {es:Array DictEntry} {ep:Nat},s₁.heap.get? b=some o->o.data=.dict es ep->H b=none:=λ{b o es ep} e d=>by
   cases q:H b with
   |none=>rfl
   |some u=>
    have e':b=a:=hA b (by rw[q];simp);subst e';rw[ha]at e;cases e;have d':Data.seq vs.toArray _=Data.dict es ep:=d;cases d'
  have nsK:∀ {b:Yt} {m:Yh},s₁.heap.Ns b m->(EY s₁.heap H).Ns b m:=λ{b m} ⟨o,es,ep,e,d,r⟩=>⟨o,es,ep,base_of e (noA e d),d,r⟩;have hKb:K.In (EY s₁.heap H):=λb o e=>base_of (KX b o e) (by
   cases q:H b with
   |none=>rfl
   |some u=>
    have e':b=a:=hA b (by rw[q];simp);subst e';rw[hK (by rw[q];simp)]at e;cases e)
  have hM:Mod K mg (EY s₁.heap H):=⟨hKb,nsK hns,⟨mb,nsK hb,hbb⟩,let ⟨mc,h1,h2⟩:=hlim;⟨mc,nsK h1,h2⟩⟩;have e0:Env0 P w K mg (EY s₁.heap H) callerA [] s₁ H:=⟨rfl,hM,λb o e=>WH e,Nat.le_of_eq (ZF _ _),trivial,λb hb=>absurd (show b∈([]:List Addr)from hb) (by simp),hok,.of_eq hg⟩;refine codeAny_mono ((F _ hKb (nsK hns)).run callerA [] s₁ H ⟨[.ref a],[]⟩ [.ref a] [.ref a] _ _ hr e0 (hbind s₁ (.ref a)) (.cons rfl .nil) (hsp H hO hS)) λr s' h=>?_;cases r with
  |error e=>exact (hCX H e s' h).elim
  |ok fl=>
   cases fl with
   |next=>exact False.elim h
   |brk=>exact False.elim h
   |cont=>exact False.elim h
   |ret u=>
    obtain ⟨v,H',os,bare,un,hok',r',q⟩:=h;have q':v=.bl true:=q;subst q';obtain rfl:u=Value.bool true:=r';refine ⟨rfl,OldK.of_keep λb o e=>?_,os,bare⟩;cases q:H b with
    |none=>exact un.keep b o e q (by intro z;exact absurd (show b∈([]:List Addr)from z) (by simp)) (by simp)
    |some u=>
     rcases hO b with z|⟨ob,xs,z⟩
     .rw[q]at z;cases z
     .have z2:=un.frzs b ob _ z;obtain ⟨e1,_⟩:=hok b _ z;obtain ⟨e2,_⟩:=hok' b _ z2;rw[e]at e1;cases e1;exact e2
 cases hk:K.lookup a with
 |some o=>
  have e:=KX a o hk;rw[ha]at e;cases e;refine core (λ_=>none) (λ_=> .inl rfl) (.inr ⟨_,vs.toArray,_,hk,rfl,rfl,rfl,by rw[AR,lenV];exact hl,by simpa using rv⟩) (λb u z=>by have z':(none:Option HO)=some u:=z;cases z') (λb z=>absurd rfl z) λz=>absurd rfl z
 |none=>
  refine core (λb=>if b=a then some (.frz { cls:=.type "list", data:=.seq vs.toArray } (.lst (ns.map V.int))) else none) (λb=>?_) (.inl (.inr ⟨{ cls:=.type "list", data:=.seq vs.toArray },AB rfl⟩)) (λb u z=>?_) (λb z=>?_) λ_=>hk
  .by_cases hb:b=a
   .exact .inr ⟨_,_,AB hb⟩
   .exact .inl (AE hb)
  .by_cases hb:b=a
   .have z':=(AB hb).symm.trans z;cases z';subst hb;exact ⟨ha,by rw[AG];exact hl,vs,_,rv,ha⟩
   .have z':=(AE hb).symm.trans z;cases z'
  .by_cases hb:b=a
   .exact hb
   .exact absurd (AE hb) z
def YJ {l:PySem.W.OpenLaw} {n k:Nat} {q:Ym} {loose:Yk} {XP:(Str->Option Value)->Heap->Prop} {YP:World->Heap->Prop} {d:DefRec} {K:Params->PySem.W.Frag} {CX:World->CXT} {sp:World->Sp} {x:Str}
  (hn:l.most=some n) (hn2:n<=sizeLine) (hdf:d.params.defaults=[]) (hr:Room k callerA)
  (hY:∀ (w:Yo) (h:Heap),YP w h->(K w.params).In h)
  (F:∀ (w:Yo) (mg:Yh) (fa:Yt) (h:Heap),(K w.params).In h->h.Ns mainGlobals mg->mg d.name=some (.ref fa) ->
   ∃ fd:FuncData,(∀ (s:Yl) (u:Yu),BindsTo s fd ⟨[u],[]⟩ [(x,u)]) /\
    ∀ base:Heap,(K w.params).In base->base.Ns mainGlobals mg->FnOk l.prog w (K w.params) mg base (CX w) k fa fd [x] (sp w))
  (hsp:∀ (w:Yo) (H:Hp) (a:Yt) (ns:Ye),ns.length<=n->IX H->SqL (K w.params) H a (ns.map V.int)->sp w [.ref a] H (λv _=>v=.bl true) λ_ _ _=>False)
  (hCX:∀ (w:Yo) (H:Hp) (s:Yl) (e:Yu) (s':Yl),CX w [] H s (λ_ _ _=>False) e s'->False) :
  PySem.W.WalkO q loose XP YP l.row.toRowW d [] (λf vs=>PySem.call f vs):=by
 refine Att.dE hn hdf λw s₀ s₁ mg mb fa o pm cd doc a vs ns G YY ho hd hcd hmg hobj hints hlen hg=>?_;have KX:=hY w _ YY;obtain ⟨fd,hb,hF⟩:=F w mg fa _ KX G.T.g hmg;exact eE KX G.T.g G.T.b G.T.builtins G.T.nolimit hg hobj hints (AZ hlen hn2) hr hF hb (λH hO hS=>hsp w H a ns hlen hO hS) λH e s'=>hCX w H s₁ e s'
noncomputable def Gp (s:Stmt):Arguments:=match s with
 |.FunctionDef _ a _ _ _ _ _ _ _ _=>a
 |_=>{ posonlyargs:=[],args:=[],vararg:=none,kwonlyargs:=[],kw_defaults:=[],kwarg:=none,defaults:=[] }
noncomputable def Ey (s:Stmt):List Stmt:=match s with
 |.FunctionDef _ _ b _ _ _ _ _ _ _=>b
 |_=>[]
noncomputable def zO (s:Stmt):Scope:=match s with
 |.FunctionDef _ _ _ _ _ _ sc _ _ _=>sc
 |_=>{ kind:=.function,names:=[],isGenerator:=false,isCoroutine:=false }
noncomputable abbrev CX0:CXT:=λ_ _ _ _ _ _=>False
noncomputable abbrev E0:XK:=λ_ _ _=>False
def Zt {X:Cx}:ME CX0 X E0:=λ_ _ _ _ _ _ _ h=>h.elim
structure Fun (K:Yb) (x qual:Str) (st:Stmt) (f:Yt) (fd:Yz):Prop where
 ex:∃ (oc:Yu) (od:Option Addr) (kV doc pm:Yu) (an:Option Addr) (cdv ct:Yu) (osl:Array (Option Value)),
  fd=PySem.W.fnOf x qual (Gp st) (Ey st) (zO st) .none kV doc pm an cdv ct/\K.lookup f=some ⟨oc,od,.func fd,osl⟩/\PySem.W.codeIn K cdv qual=true
 kp:PySem.W.keepIn K (.ref f)=true
section
variable {P:Ym} {w:Yo} {K:Yb} {mg:Yh} {base:Heap}
def Fun.ok {x qual:Str} {st:Stmt} {f:Yt} {fd:Yz} {N ps:Yk} {k:Nat} {sp:Sp} (F:Fun K x qual st f fd) (S:FnScope N ps (zO st)) (len:∀ vs H Q E,sp vs H Q E->vs.length=ps.length)
  (hbody:∀ (cdv:Yu) (A:Yn) (outer:List Env) (s:Yl) (H:Hp) (vs:List V) (Q:VK) (E:XK),Room k (A.deeper (envOfC qual (zO st) s.heap.objs.size f cdv))->sp vs H Q E ->
   ∃ t,PSs (F1 CX0 P w K mg base N qual (zO st) f cdv A outer s H E).nox (Ey st) t/\t { nx:=λ_ H'=>Q .non H',rt:=Q } (EG N vs) H):FnOk P w K mg base CX0 (k+1) f fd ps sp:=by
 obtain ⟨oc,od,kV,doc,pm,an,cdv,ct,osl,rfl,lk,hcd⟩:=F.ex;refine Wc lk hcd S len λA outer s H vs Q E hr hsp=>?_;obtain ⟨t,h,q⟩:=hbody cdv A outer s H vs Q E hr hsp;exact ⟨t,h.nox,q⟩
def Fun.binds {x qual:Str} {st:Stmt} {f:Yt} {fd:Yz} {ps:Yk} (F:Fun K x qual st f fd)
  (h:∀ (kV doc pm:Yu) (an:Option Addr) (cdv ct:Yu) (us:Yf),us.length=ps.length->bindArgs (PySem.W.fnOf x qual (Gp st) (Ey st) (zO st) .none kV doc pm an cdv ct) ⟨us,[]⟩=pure (ps.zip us)):GJ K fd ps []:=by
 obtain ⟨oc,od,kV,doc,pm,an,cdv,ct,osl,rfl,lk,hcd⟩:=F.ex;exact .all (h kV doc pm an cdv ct)
def N5 {x qual:Str} {st:Stmt} {f:Yt} {oc:Yu} {od an:Option Addr} {osl:Array (Option Value)} {kV doc pm cdv ct:Yu} (l:K.lookup f=some ⟨oc,od,.func (PySem.W.fnOf x qual (Gp st) (Ey st) (zO st) .none kV doc pm an cdv ct),osl⟩)
  (c:PySem.W.codeIn K cdv qual=true) (k:PySem.W.keepIn K (.ref f)=true):Fun K x qual st f (PySem.W.fnOf x qual (Gp st) (Ey st) (zO st) .none kV doc pm an cdv ct):=⟨⟨oc,od,kV,doc,pm,an,cdv,ct,osl,rfl,l,c⟩,k⟩
end
def Eb {A:Yn} {k:Nat} (hr:Room k A):A.units+1<cLine:=Nat.lt_of_le_of_lt (Nat.add_le_add_left (by decide:1<=64) _) hr.units
section
variable {X:Cx}
def pv (i:Nat) {x:Str} {pos:Pos} (hN:X.N[i]?=some x:=by rfl) (hv:Vis X.env.scope x:=by first|exact Or.inl rfl|exact Or.inr (Or.inl rfl)|exact Or.inr (Or.inr rfl)) (hd:(x==("__debug__" : Str))=false:=by decide)
  (hcd:(x==("__classdict__" : Str))=false:=by decide):PE X (.Name x pos) (Lf i):=Ss hN hv hd hcd
end
def DT {A B:Prop} (h:B):if false=true then A else B:=by
 rw[AE BA];exact h
def Dd {A B:Prop} (h:A):if true=true then A else B:=by
 rw[AB rfl];exact h
section
variable {κ:Type} [DecidableEq κ]
noncomputable def By (kvs:List (κ × V)) (k:κ):Option V:=(kvs.find? λkv=>decide (kv.1=k)).map (·.2)
noncomputable def Bx (kvs:List (κ × V)) (k:κ) (v:V):List (κ × V) :=
 if (kvs.any λkv=>decide (kv.1=k))=true then kvs.map (λkv=>if kv.1=k then (kv.1,v) else kv) else kvs++[(k,v)]
def JG {p:κ × V} {r:List (κ × V)} {k:κ} (e:p.1=k):By (p::r) k=some p.2:=by simp[By,Ec,e]
def Jg {p:κ × V} {r:List (κ × V)} {k:κ} (e:¬ p.1=k):By (p::r) k=By r k:=by simp[By,Ec,e]
theorem O8 (k:κ):∀ kvs:List (κ × V),(kvs.any λkv=>decide (kv.1=k))=(By kvs k).isSome
 |[]=>rfl
 |p::r=>by
  rw[List.any_cons];by_cases e:p.1=k
  .simp only[JG e,AO e,Bool.true_or,Option.isSome_some]
  .rw[Jg e,AU e,Bool.false_or];exact O8 k r
def Jc (kvs:List (κ × V)) (k:κ) (v:V):(Bx kvs k v).length<=kvs.length+1:=by
 unfold Bx;split
 .rw[AG];omega
 .rw[An,Ba,D7];omega
def C3.isSome_eq (r:C3 o u):o.isSome=u.isSome:=by
 cases o with
 |none=>cases u with
  |none=>rfl
  |some _=>exact (show False from r).elim
 |some _=>cases u with
  |none=>exact (show False from r).elim
  |some _=>rfl
def C3.getD (r:C3 o u) (rd:zj d d'):zj (o.getD d) (u.getD d'):=by
 cases o with
 |none=>cases u with
  |none=>exact rd
  |some _=>exact (show False from r).elim
 |some _=>cases u with
  |none=>exact (show False from r).elim
  |some _=>exact r
def KV.val {kvs:List (κ × V)} {vs:List (κ × Value)} (r:KV kvs vs) (k:κ):C3 (By kvs k) (valueAt vs k):=by
 unfold KV at r;induction r with
 |nil=>exact True.intro
 | @cons p q ps qs h t ih=>
  obtain ⟨h1,h2⟩:=h;by_cases e:p.1=k
  .have e':q.1=k:=h1.symm.trans e;have b:valueAt (q::qs) k=some q.2:=by simp[valueAt,Ec,e']
   rw[JG e,b];exact h2
  .have e':¬ q.1=k:=λz=>e (h1.trans z);have b:valueAt (q::qs) k=valueAt qs k:=by simp[valueAt,Ec,e']
   rw[Jg e,b];exact ih
def KV.any (r:KV kvs vs) (k:κ):(kvs.any λkv=>decide (kv.1=k))=vs.any λkv=>decide (kv.1=k):=by
 unfold KV at r;induction r with
 |nil=>rfl
 |cons h t ih=>rw[List.any_cons,List.any_cons,ih,h.1]
def KV.repl (r:KV kvs vs) (k:κ) (ry:zj y u) :
  KV (kvs.map λkv=>if kv.1=k then (kv.1,y) else kv) (vs.map λkv=>if kv.1=k then (kv.1,u) else kv):=by
 unfold KV at r ⊢;induction r with
 |nil=>exact .nil
 | @cons p q ps qs h t ih=>
  rw[AX,AX];refine .cons ?_ ih;obtain ⟨h1,h2⟩:=h;by_cases e:p.1=k
  .rw[AB e,AB (h1.symm.trans e)];exact ⟨h1,ry⟩
  .rw[AE e,AE (λz=>e (h1.trans z))];exact ⟨h1,h2⟩
def KV.put (r:KV kvs vs) (k:κ) (ry:zj y u):KV (Bx kvs k y) (stored vs k u):=by
 unfold Bx stored;rw[r.any k];by_cases e:(vs.any λkv=>decide (kv.1=k))=true
 .rw[AB e,AB e];exact r.repl k ry
 .rw[AE e,AE e];exact Paired.snoc r ⟨rfl,ry⟩
def KV.length (r:KV kvs vs):kvs.length=vs.length:=Paired.length r
end
def Fp (r:zj (kV k) u):(Bb P w).is k u=true:=by
 cases k with
 |inl i=>obtain ⟨t,e⟩:=(show ∃ t,u=Value.int i t from r);subst e;exact d4 P w i t
 |inr x=>obtain ⟨t,e⟩:=(show ∃ t,u=Value.str x t from r);subst e;exact Xi P w x t
theorem Qk:∀ {ks:List Key} {us:Yf},zY (ks.map kV) us->ItemsAre (Bb P w) ks us
 |[],_,r=>by rw[List.map_nil]at r;cases r;exact .nil
 |k::ks,_,r=>by
  rw[AX]at r;cases r with
  |cons h t=>exact .cons (Fp h) (Qk t)
abbrev KT (H:Hp):List (List Key × V)->List (List Key × Addr × Value)->Prop:=Paired λp q=>p.1=q.1/\H q.2.1=some (.tup (p.1.map kV))/\zj p.2 q.2.2
def KT.val {H:Hp} {kvs:List (List Key × V)} {xs:List (List Key × Addr × Value)} (r:KT H kvs xs) (k:List Key):C3 (By kvs k) ((atKey xs k).map (·.2)):=by
 induction r with
 |nil=>exact True.intro
 | @cons p q ps qs h t ih=>
  obtain ⟨h1,_,h2⟩:=h;by_cases e:p.1=k
  .have e':q.1=k:=h1.symm.trans e;have b:atKey (q::qs) k=some q.2:=by simp[atKey,Ec,e']
   rw[JG e,b];exact h2
  .have e':¬ q.1=k:=λz=>e (h1.trans z);have b:atKey (q::qs) k=atKey qs k:=by simp[atKey,Ec,e']
   rw[Jg e,b];exact ih
def KT.repl (r:KT H kvs xs) (k:List Key) (ry:zj y u) :
  KT H (kvs.map λkv=>if kv.1=k then (kv.1,y) else kv) (xs.map (putAt k u)):=by
 induction r with
 |nil=>exact .nil
 | @cons p q ps qs h t ih=>
  rw[AX,AX];refine .cons ?_ ih;obtain ⟨h1,h2,h3⟩:=h;unfold putAt;by_cases e:p.1=k
  .rw[AB e,AB (h1.symm.trans e)];exact ⟨h1,h2,ry⟩
  .rw[AE e,AE (λz=>e (h1.trans z))];exact ⟨h1,h2,h3⟩
def KT.put (r:KT H kvs xs) (k:List Key) (hb:H b=some (.tup (k.map kV))) (ry:zj y u) :
  KT H (Bx kvs k y) (storedH xs k b u):=by
 have e:(kvs.any λkv=>decide (kv.1=k))=(atKey xs k).isSome:=by
  rw[O8,(r.val k).isSome_eq,Option.isSome_map]
 unfold Bx storedH;rw[e];by_cases q:(atKey xs k).isSome=true
 .rw[AB q,AB q];exact r.repl k ry
 .rw[AE q,AE q];exact Paired.snoc r ⟨rfl,hb,ry⟩
def KT.keeps (r:KT H kvs xs) (ht:∀ b ys,H b=some (.tup ys)->H' b=some (.tup ys)):KT H' kvs xs :=
 Paired.mapP r λ_ _ z=>⟨z.1,ht _ _ z.2.1,z.2.2⟩
section
variable {P:Ym} {w:Yo} {H:Hp} {h:Heap} {a:Yt}
def Qz (ok:HOk P w H h) (e:Rd H a u):z0 P w H h a u:=e.ok ok
def GD (ok:HOk P w H h) (e:Rd H a (.dK kvs)):kvs.length<=sizeLine/\(a==sysModules)=false /\ ∃ vs,KV kvs vs/\h.DictOf (Bb P w) a vs :=
 show z0 P w H h a (.dK kvs)from Qz ok e
def RL (ok:HOk P w H h) (e:H a=some (.dK kvs)):kvs.length<=sizeLine/\(a==sysModules)=false /\ ∃ vs,KV kvs vs/\h.DictOf (Bb P w) a vs:=GD ok (.inl e)
def Fn (ok:HOk P w H h) (e:H a=some (.tup (ks.map kV))):(tupleKind (Bb P w)).is h ks a:=by
 obtain ⟨_,its,r,o,h1,h2,⟨n,h3⟩,_⟩:=(show z0 P w H h a (.tup (ks.map kV))from ok a _ e);exact ⟨o,its.toArray,n,h1,h2,h3,by simpa using Qk r⟩
def Fm (ok:HOk P w H h) (e:Rd H a (.dT kvs)):kvs.length<=sizeLine/\(a==sysModules)=false /\
  ∃ xs,KT H kvs xs/\h.DictOfH (tupleKind (Bb P w)) a xs:=by
 obtain ⟨z,y,xs,r,o,es,ep,h1,h2,h3,h4,h5⟩:=(show z0 P w H h a (.dT kvs)from Qz ok e);refine ⟨z,y,xs,r,o,es,ep,h1,h2,h3,h4,λx hx=>?_,h5⟩;have all:∀ {l:List (List Key × V)} {m:List (List Key × Addr × Value)},KT H l m -> ∀ x∈m,(tupleKind (Bb P w)).is h x.1 x.2.1:=by
  intro l m q;induction q with
  |nil=>intro x hx;exact nomatch hx
  | @cons p q ps qs hq t ih=>
   intro x hx;rcases AI.mp hx with e|hx
   .subst e;exact Fn ok (by rw[<-hq.1];exact hq.2.1)
   .exact ih x hx
 exact all r x hx
def RI (ok:HOk P w H h) (e:H a=some (.dT kvs)):kvs.length<=sizeLine/\(a==sysModules)=false /\
  ∃ xs,KT H kvs xs/\h.DictOfH (tupleKind (Bb P w)) a xs:=Fm ok (.inl e)
end
def Bq (H:Hp) (a:Yt) (y:V) (r:Option V):Prop :=
 (∃ kvs k,Rd H a (.dK kvs)/\y=kV k/\r=By kvs k) \/ ∃ kvs k b,Rd H a (.dT kvs)/\y=.ref b/\H b=some (.tup (k.map kV))/\r=By kvs k
def DG (H:Hp) (a:Yt) (y v:V) (H':Hp):Prop :=
 (∃ kvs k,H a=some (.dK kvs)/\y=kV k/\kvs.length<sizeLine/\H'=upd H a (.dK (Bx kvs k v))) \/
 ∃ kvs k b,H a=some (.dT kvs)/\y=.ref b/\H b=some (.tup (k.map kV))/\kvs.length<sizeLine/\H'=upd H a (.dT (Bx kvs k v))
theorem Bq.k {H:Hp} {a:Yt} {kvs:List (Key × V)} {k:Key} (e:H a=some (.dK kvs)):Bq H a (kV k) (By kvs k):=.inl ⟨kvs,k,.inl e,rfl,rfl⟩
def Bq.t {k:List Key} (e:H a=some (.dT kvs)) (eb:H b=some (.tup (k.map kV))):Bq H a (.ref b) (By kvs k):=.inr ⟨kvs,k,b,.inl e,rfl,eb,rfl⟩
theorem DG.k {H:Hp} {a:Yt} {kvs:List (Key × V)} {k:Key} {v:V} (e:H a=some (.dK kvs)) (hl:kvs.length<sizeLine):DG H a (kV k) v (upd H a (.dK (Bx kvs k v))):=.inl ⟨kvs,k,e,rfl,hl,rfl⟩
def DG.t {kvs:List (List Key × V)} {k:List Key} (e:H a=some (.dT kvs)) (eb:H b=some (.tup (k.map kV))) (hl:kvs.length<sizeLine) :
  DG H a (.ref b) v (upd H a (.dT (Bx kvs k v))):=.inr ⟨kvs,k,b,e,rfl,eb,hl,rfl⟩
section
variable {X:Cx} {zB:Yd} {Y:St} {H:Hp} {s:Yl} {a:Yt} {y v:V} {u r:Yu} {o:Option V} {A:Yn} {E:Yc}
def Inv.big (I:Inv X zB Y H s):sysModules<s.heap.objs.size:=by
 have h:mainGlobals<s.heap.objs.size:=(I.mod.glob.keeps I.bk).lt;exact Nat.lt_trans (by decide) h
def aM (hu:A.units+1<cLine) (I:Inv X zB Y H s) (g:Bq H a y (some v)) (ry:zj y u) (h:∀ w' s',Inv X zB Y H s'->zj v w'->Q w' s') :
  wpAny (model X.prog X.w) A (getItem (.ref a) u) Q E s:=by
 rcases g with ⟨kvs,k,e,ey,l⟩|⟨kvs,k,b,e,ey,eb,l⟩
 .subst ey;obtain ⟨z,hd,vs,rel,dd⟩:=GD I.hok e;obtain ⟨w',hw,rw'⟩:=C3.some_of (v:=v) (o:=valueAt vs k) (by rw[l];exact rel.val k);exact wpAny_getItem_of (Fp ry) dd.mapOf hw (h w' _ (I.tok _) rw')
 .subst ey;cases (show u=Value.ref b from ry);obtain ⟨z,hd,xs,rel,dd⟩:=Fm I.hok e;obtain ⟨w',hw,rw'⟩:=C3.some_of (v:=v) (o:=(atKey xs k).map (·.2)) (by rw[l];exact rel.val k);obtain ⟨p,hp,hp2⟩:=Option.map_eq_some_iff.mp hw;refine wpAny_getItem_heap (tupleKind_room_in1 hu) (Fn I.hok eb) dd hp ?_;rw[hp2];exact h w' _ (I.tok _) rw'
def Vz (hu:A.units+1<cLine) (I:Inv X zB Y H s) (g:Bq H a y o) (ry:zj y u) (h:∀ s',Inv X zB Y H s'->Q (.bool o.isSome) s') :
  wpAny (model X.prog X.w) A (compareOp .In u (.ref a)) Q E s:=by
 rcases g with ⟨kvs,k,e,ey,l⟩|⟨kvs,k,b,e,ey,eb,l⟩
 .subst ey;obtain ⟨z,hd,vs,rel,dd⟩:=GD I.hok e;refine wpAny_in_of (Fp ry) hd dd.mapOf ?_;rw[<-(rel.val k).isSome_eq,<-l];exact h _ (I.tok _)
 .subst ey;cases (show u=Value.ref b from ry);obtain ⟨z,hd,xs,rel,dd⟩:=Fm I.hok e;refine wpAny_in_heap (tupleKind_room_in1 hu) (Fn I.hok eb) hd dd ?_;have q:=(rel.val k).isSome_eq;rw[Option.isSome_map]at q;rw[<-q,<-l];exact h _ (I.tok _)
def eK (hu:A.units+1<cLine) (I:Inv X zB Y H s) (g:Bq H a y o) (ry:zj y u) (h:∀ s',Inv X zB Y H s'->Q (.bool (!o.isSome)) s') :
  wpAny (model X.prog X.w) A (compareOp .NotIn u (.ref a)) Q E s:=by
 rcases g with ⟨kvs,k,e,ey,l⟩|⟨kvs,k,b,e,ey,eb,l⟩
 .subst ey;obtain ⟨z,hd,vs,rel,dd⟩:=GD I.hok e;refine wpAny_notIn_of (Fp ry) hd dd.mapOf ?_;rw[<-(rel.val k).isSome_eq,<-l];exact h _ (I.tok _)
 .subst ey;cases (show u=Value.ref b from ry);obtain ⟨z,hd,xs,rel,dd⟩:=Fm I.hok e;refine wpAny_notIn_heap (tupleKind_room_in1 hu) (Fn I.hok eb) hd dd ?_;have q:=(rel.val k).isSome_eq;rw[Option.isSome_map]at q;rw[<-q,<-l];exact h _ (I.tok _)
def IA (I:Inv X zB Y H s) (mu:Mut (H a)) (hs:Heap.SameBut a s.heap h') (he:∃ q,h'.get? a=some q) (new:z0 X.prog X.w (upd H a ob) h' a ob) :
  Inv X zB Y (upd H a ob) { s with heap:=h',toks:=t' } :=
 I.write (x:=a) (e:=a) mu (.inl rfl) (λb q hb z=>(hs.2 b hb).trans z) he new
def OZ (z:kvs.length<=sizeLine) (hd:(a==sysModules)=false) (rel:KV kvs vs) (dd:h'.DictOf (Bb P w) a vs) :
  z0 P w H' h' a (.dK kvs):=⟨z,hd,vs,rel,dd⟩
def Y7 (hu:A.units+1<cLine) (I:Inv X zB Y H s) (g:DG H a y v H') (ry:zj y u) (rv:zj v r) (h:∀ s',Inv X zB Y H' s'->Q () s') :
  wpAny (model X.prog X.w) A (setItem (.ref a) u r) Q E s:=by
 rcases g with ⟨kvs,k,e,ey,l,eH⟩|⟨kvs,k,b,e,ey,eb,l,eH⟩
 .subst ey eH;obtain ⟨z,hd,vs,rel,dd⟩:=RL I.hok e;have hz:vs.length<=sizeLine:=by rw[<-rel.length];exact z
  have hl:(Bx kvs k v).length<=sizeLine:=by have:=Jc kvs k v;omega
  refine wpAny_setItem_pairs (hsz:=hz) (Fp ry) dd λh' dd' hs=>h _ ?_;have he:∃ q,h'.get? a=some q:=let ⟨q,_,_,hq,_⟩:=dd';⟨q,hq⟩;exact IA I (by rw[e];exact True.intro) hs he (OZ hl hd (rel.put k rv) dd')
 .subst ey eH;cases (show u=Value.ref b from ry);obtain ⟨z,hd,xs,rel,dd⟩:=RI I.hok e;have hz:xs.length<=sizeLine:=by rw[<-Paired.length rel];exact z
  have hl:(Bx kvs k v).length<=sizeLine:=by have:=Jc kvs k v;omega
  refine wpAny_setItem_heap (hsz:=hz) (tupleKind_room_in1 hu) (Fn I.hok eb) dd λh' dd' hs=>h _ ?_;obtain ⟨q,es,ep,hq,h2,h3,h4,_,h5⟩:=dd';refine IA I (by rw[e];exact True.intro) hs ⟨q,hq⟩ ⟨hl,hd,_,(rel.put k eb rv).keeps λc ys ec=>?_,q,es,ep,hq,h2,h3,h4,h5⟩;rw[zT (Fo ec e (λz=>nomatch z))];exact ec
end
def Lk (i:Expr):Prop:=∀ ov iv,subscripted i false ov iv=operate [ov,iv] (getItem ov iv)
def Wa {prog:Ym} {w:Yo} {A:Yn} {E:Yc} {s:Yl} {env:Env} {value slice:Expr} {pos:Pos} {T id:String} {Q:Yc}
  (hl:typeLookup (.type T) "__getitem__" = pure (some (.builtin id))) (hs:Lk slice)
  (h:wpAny (model prog w) A (eval value env) (λo s₁=>wpAny (model prog w) A (eval slice env) (λi s₂=>s₂.TypeIs o T/\wpAny (model prog w) A (getItem o i) Q E s₂) E s₁) E s) :
  wpAny (model prog w) A (eval (.Subscript value slice pos) env) Q E s:=by
 refine Subscript_ (AN h (λo s₁ h₁=>AN h₁ (λi s₂ h₂=>?_) λ_ _ x=>x) λ_ _ x=>x);obtain ⟨hT,h₂⟩:=h₂;unfold subscriptTail;refine AA ?_;rw[getitemInPython_of_ne hT.not_modules];refine AA (wpAny_specialOf hT hl ?_);have fin:wpAny (model prog w) A (subscripted slice false o i) (λr s₃=>wpAny (model prog w) A (letTemporaryGo value o r >>= λ_=>pure r) Q E s₃) E s₂:=by
  rw[hs o i];exact wpAny_operating (AN h₂ (λr s₃ h₃=>AA (wpAny_letTemporaryGo (AD h₃))) λ_ _ x=>x)
 first
  |exact AD (AA fin)
  |exact AA (AD (AA fin))
  |exact AA fin
def bF (I:Inv X zB Y H s) (g:Bq H a y o):s.TypeIs (.ref a) "dict" := by
 rcases g with ⟨kvs,k,e,_,_⟩|⟨kvs,k,b,e,_,_,_⟩
 .obtain ⟨_,_,vs,_,dd⟩:=GD I.hok e;exact dd.typeIs
 .obtain ⟨_,_,xs,_,dd⟩:=Fm I.hok e;exact dd.typeIs
noncomputable def Se (td ty:TE):TE:=λY H Q=>td Y H λx H1=>ty Y H1 λy H2=>∃ a v,x=.ref a/\Bq H2 a y (some v)/\Q v H2
noncomputable def bE (ty td:TE):TE:=λY H Q=>ty Y H λy H1=>td Y H1 λx H2=>∃ a o,x=.ref a/\Bq H2 a y o/\Q (.bl o.isSome) H2
noncomputable def jV (ty td:TE):TE:=λY H Q=>ty Y H λy H1=>td Y H1 λx H2=>∃ a o,x=.ref a/\Bq H2 a y o/\Q (.bl (!o.isSome)) H2
noncomputable def TR (td ty tv:TE):TS:=λD Y H=>tv Y H λv H1=>td Y H1 λx H2=>ty Y H2 λy H3=>∃ a H4,x=.ref a/\DG H3 a y v H4/\D.nx Y H4
section
variable {X:Cx} {o i e value:Expr} {pos pos' tpos:Pos} {td ty tv:TE}
def XG (hu:X.A.units+1<cLine) (ho:PE X o td) (hi:PE X i ty) (hs:Lk i):PE X (.Subscript o i pos) (Se td ty):=by
 intro zB s Y H Q I h;refine Wa PySem.F.slot_dict_getitem.lookup hs (thn (ho zB s Y H _ I h) λu s1 ⟨x,H1,I1,rx,q1⟩=>thn (hi zB s1 Y H1 _ I1 q1) λiv s2 ⟨y,H2,I2,ry,a,v,ex,g,q2⟩=>?_);subst ex;obtain rfl:u=Value.ref a:=rx;exact ⟨bF I2 g,aM hu I2 g ry λw' s3 I3 rw'=>⟨v,H2,I3,rw',q2⟩⟩
def RZ (hu:X.A.units+1<cLine) (hi:PE X i ty) (ho:PE X o td):PC X .In i o (bE ty td):=by
 intro zB s Y H Q I h;refine thn (hi zB s Y H _ I h) λiv s1 ⟨y,H1,I1,ry,q1⟩=>thn (ho zB s1 Y H1 _ I1 q1) λu s2 ⟨x,H2,I2,rx,a,ov,ex,g,q2⟩=>?_;subst ex;obtain rfl:u=Value.ref a:=rx;exact Vz hu I2 g ry λs3 I3=>⟨.bl ov.isSome,H2,I3,rfl,q2⟩
def Y8 (hu:X.A.units+1<cLine) (hi:PE X i ty) (ho:PE X o td):PC X .NotIn i o (jV ty td):=by
 intro zB s Y H Q I h;refine thn (hi zB s Y H _ I h) λiv s1 ⟨y,H1,I1,ry,q1⟩=>thn (ho zB s1 Y H1 _ I1 q1) λu s2 ⟨x,H2,I2,rx,a,ov,ex,g,q2⟩=>?_;subst ex;obtain rfl:u=Value.ref a:=rx;exact eK hu I2 g ry λs3 I3=>⟨.bl (!ov.isSome),H2,I3,rfl,q2⟩
def W9 (hu:X.A.units+1<cLine) (ho:PE X o td) (hi:PE X i ty) (hv:PE X value tv) (hs:swapsWith value (some (.Subscript o i pos')) pos.line X.env=pure false) :
  PS X (.Assign [.Subscript o i pos'] value pos) (TR td ty tv):=by
 intro zB s Y H D I h;refine wpAny_Assign_Subscript (thn (hv zB s Y H _ I h) λr s1 ⟨v,H1,I1,rv,q1⟩=>thn (ho zB s1 Y H1 _ I1 q1) λu s2 ⟨x,H2,I2,rx,q2⟩=>thn (hi zB s2 Y H2 _ I2 q2) λiv s3 ⟨y,H3,I3,ry,a,H4,ex,g,q3⟩=>?_) hs;subst ex;obtain rfl:u=Value.ref a:=rx;exact Y7 hu I3 g ry rv λs4 I4=>⟨Y,H4,I4,q3⟩
end
def YZ (h:Heap) (hb:sysModules<h.objs.size):z0 P w H (h.push { cls:=.type "dict", data:=.dict #[] }) h.objs.size (.dT []) :=
 ⟨BQ _,beq_eq_false_iff_ne.mpr (Ne.symm (Ab hb)),[],.nil,_,#[],0,AV _ rfl,⟨rfl,rfl,rfl⟩,rfl,rfl,List.nodup_nil⟩
noncomputable def jZ:TE:=λ_ H Q=>∀ p,H p=none->Q (.ref p) (upd H p (.dT []))
section
variable {X:Cx} {pos:Pos}
def V3:PE X (.Dict [] [] pos) jZ:=λzB s Y H Q I h=>
 wpAny_Dict_empty ⟨.ref s.heap.objs.size,_,I.laid (a:=s.heap.objs.size) (o:=.dT []) (t':=s.toks) (λ_ _ q=>AJ _ q) (AF _) (YZ s.heap I.big),rfl,h _ (I.hok.fresh (AF _))⟩
end
structure M2 (X:Cx) (o:Expr) (m:Str) (apos:Pos) (e f:Expr) (cpos:Pos):Prop where
 base:attributeBase o m X.env (eval o X.env)=eval o X.env
 few:((backTo cpos (starEach [e,f] X.env)).all (λx=> !x.1)&&(backToKw cpos (keywordEach [] X.env)).all (λx=>x.1.isSome)
  && decide (([e,f]:List Expr).length+([]:List Keyword).length+(if ([]:List Keyword).isEmpty then 0 else 1)<30))=true
 line:(apos.endLine==cpos.line)=true
 trees:backTo cpos (starEach [e,f] X.env)=[(false,eval e X.env),(false,eval f X.env)]
def IsD (H:Hp) (a:Yt):Prop:=(∃ kvs,Rd H a (.dK kvs)) \/ ∃ kvs,Rd H a (.dT kvs)
def Ik (I:Inv X zB Y H s) (d:IsD H a) :
  s.TypeIs (.ref a) "dict" /\ (∀ b,Value.ref a=.ref b -> ∃ ob,s.heap.get? b=some ob/\ob.dict=none)/\(a==sysModules)=false:=by
 rcases d with ⟨kvs,e⟩|⟨kvs,e⟩
 .obtain ⟨_,hd,vs,_,dd⟩:=GD I.hok e;refine ⟨dd.typeIs,λb q=>?_,hd⟩;cases q;obtain ⟨ob,_,_,h1,h2,_⟩:=dd;exact ⟨ob,h1,h2.2.1⟩
 .obtain ⟨_,hd,xs,_,dd⟩:=Fm I.hok e;refine ⟨dd.typeIs,λb q=>?_,hd⟩;cases q;obtain ⟨ob,_,_,h1,h2,_⟩:=dd;exact ⟨ob,h1,h2.2.1⟩
section
variable {X:Cx} {zB:Yd} {Y:St} {H:Hp} {s:Yl} {a:Yt} {y d:V} {u r:Yu} {o:Option V} {A:Yn} {E:Yc}
def Uw (hu:A.units+1<cLine) (I:Inv X zB Y H s) (g:Bq H a y o) (ry:zj y u) (rd:zj d r) (h:∀ w' s',Inv X zB Y H s'->zj (o.getD d) w'->Q w' s') :
  wpAny (model X.prog X.w) A (call (.builtin "dict.get") [.ref a,u,r]) Q E s:=by
 rcases g with ⟨kvs,k,e,ey,l⟩|⟨kvs,k,b,e,ey,eb,l⟩
 .subst ey;obtain ⟨z,hd,vs,rel,dd⟩:=GD I.hok e;refine call_meetsIn PySem.F.slot_dict_get dd.typeIs PySem.F.entry_dict_get (PySem.F.args_dict_get_3 _ _ _) (meets_dict_get_default (Bb X.prog X.w) a (Fp ry) hd r) ⟨_,dd.mapOf,h _ _ (I.tok _) ?_⟩;rw[l];exact (rel.val k).getD rd
 .subst ey;cases (show u=Value.ref b from ry);obtain ⟨z,hd,xs,rel,dd⟩:=Fm I.hok e;refine call_meetsIn PySem.F.slot_dict_get dd.typeIs PySem.F.entry_dict_get (PySem.F.args_dict_get_3 _ _ _) (meetsH_dict_get_default (tupleKind (Bb X.prog X.w)) a b hd r) ⟨tupleKind_room_in1 hu,k,xs,Fn I.hok eb,dd,h _ _ (I.tok _) ?_⟩;rw[l];exact (rel.val k).getD rd
end
noncomputable def OO (td ty tx:TE):TE:=λY H Q=>td Y H λx H1=>∃ a,x=.ref a/\IsD H1 a/\ty Y H1 λy H2=>tx Y H2 λz H3=>∃ o,Bq H3 a y o/\Q (o.getD z) H3
section
variable {X:Cx} {o e f:Expr} {apos cpos:Pos} {td ty tx:TE}
def YR (hu:X.A.units+1<cLine) (ho:PE X o td) (he:PE X e ty) (hf:PE X f tx) (m:M2 X o "get" apos e f cpos):PE X (.Call (.Attribute o "get" apos) [e,f] [] cpos) (OO td ty tx):=by
 intro zB s Y H Q I h;refine wpAny_Call_method m.base m.few m.line PySem.F.plainAttrs_dict PySem.F.slot_dict_get PySem.F.type_dict_get (thn (ho zB s Y H _ I h) λu s1 ⟨x,H1,I1,rx,a,ex,d,q1⟩=>?_);subst ex;obtain rfl:u=Value.ref a:=rx;obtain ⟨t1,t2,_⟩:=Ik I1 d;refine ⟨t1,t2,?_⟩;rw[m.trees];refine Calls.callWith_builtin rfl (Calls.evalArgs_plain (Calls.spliced_cons (thn (he zB s1 Y H1 _ I1 q1) λiv s2 ⟨y,H2,I2,ry,q2⟩=>
  Calls.spliced_cons (thn (hf zB s2 Y H2 _ I2 q2) λfv s3 ⟨z,H3,I3,rz,ov,g,q3⟩=>Calls.spliced_nil ?_))))
 exact Uw hu I3 g ry rz λw' s4 I4 rw'=>⟨_,H3,I4,rw',q3⟩
end
theorem GA:∀ (names:List (Str × NameKind)) (n:Nat) (acc:Yv),cellsFrom n names acc=cellsFrom n names []++acc
 |[],_,_=>rfl
 | (name,kind)::r,n,acc=>by
  unfold cellsFrom;split
  .rw[GA r (n+1) ((name,n)::acc),GA r (n+1) [(name,n)],BL];rfl
  .exact GA r n acc
theorem HA {α:Type} (x:Str):∀ (l r:List (Str × α)),(l++r).lookup x=(match l.lookup x with|some c=>some c|none=>r.lookup x)
 |[],r=>rfl
 | (k,v)::l,r=>by
  rw[List.cons_append,FN,FN];cases hb:x==k with
  |true=>rfl
  |false=>exact HA x l r
theorem KL:∀ (names:List (Str × NameKind)) (acc:Yv),
  (∀ y∈names,y.2=.free -> ∃ c,env.cells.lookup y.1=some c) ->
  (∀ x c,acc.lookup x=some c->env.cells.lookup x=some c) ->
  ∃ cl:List (Str × Addr),(forIn names acc (λ(p:Str × NameKind) (cs:Yv)=>(do
    if p.2 == .free then
     let a <- cellOf env p.1;pure (ForInStep.yield ((p.1,a)::cs))
    else pure (ForInStep.yield cs):Sem (ForInStep (List (Str × Addr))))))=pure cl /\
   (∀ x c,cl.lookup x=some c->env.cells.lookup x=some c) /\
   (∀ x,(acc.lookup x).isSome=true->(cl.lookup x).isSome=true) /\ ∀ y∈names,y.2=.free->(cl.lookup y.1).isSome=true
 |[],acc,_,ha=>⟨acc,by rw[List.forIn_nil],ha,λ_ h=>h,λ_ h=>nomatch h⟩
 | (n,k)::r,acc,hf,ha=>by
  rw[List.forIn_cons];by_cases hk:k=.free
  .subst hk;obtain ⟨c,hc⟩:=hf (n,.free) Ad rfl;have hco:cellOf env n=pure c:=by unfold cellOf;rw[hc]
   obtain ⟨cl,e,h1,h2,h3⟩:=KL r ((n,c)::acc) (λy hy=>hf y (Am _ hy)) (λx d hx=>by
    rw[FN]at hx;cases hb:x==n with
    |true=>rw[hb]at hx;cases hx;rw[beq_iff_eq.mp hb];exact hc
    |false=>rw[hb]at hx;exact ha x d hx)
   refine ⟨cl,?_,h1,λx hx=>h2 x ?_,λy hy hk=>?_⟩
   .rw[<-e];simp only[beq_self_eq_true,if_true,hco];rfl
   .rw[FN];cases hb:x==n with
    |true=>rfl
    |false=>exact hx
   .rcases AI.mp hy with z|z
    .subst z;exact h2 n (by rw[FN];simp)
    .exact h3 y z hk
  .obtain ⟨cl,e,h1,h2,h3⟩:=KL r acc (λy hy=>hf y (Am _ hy)) ha;refine ⟨cl,?_,h1,h2,λy hy hk'=>?_⟩
   .rw[<-e];have:(k==NameKind.free)=false:=by simpa using hk
    simp only[this,CV,if_false];rfl
   .rcases AI.mp hy with z|z
    .subst z;exact absurd hk' hk
    .exact h3 y z hk'
def iB (hf:∀ y∈scope.names,y.2=.free -> ∃ c,env.cells.lookup y.1=some c) :
  ∃ cl,closureFor scope env=pure cl/\(∀ x c,cl.lookup x=some c->env.cells.lookup x=some c) /\ ∀ y∈scope.names,y.2=.free->(cl.lookup y.1).isSome=true:=by
 obtain ⟨cl,e,h1,_,h3⟩:=KL (env:=env) scope.names [] hf (λx c h=>nomatch h);refine ⟨cl,?_,h1,h3⟩;unfold closureFor;rw[show (pure cl:Sem _)=pure cl >>= pure from rfl,<-e]
def IM
  (hQ:Q (newEnv scope s.heap.objs.size globals (cellsFrom (s.heap.objs.size+1) scope.names cl) qual none .none (some env) builtinsNs)
   { s with heap:=pushCells (s.heap.push { cls:=.type "dict", data:=.dict #[] }) scope.names }) :
  wpAny M A (newFunctionEnv scope globals cl [] qual none .none (some env)) Q E s:=by
 simp only[newFunctionEnv,Option.isSome_some,if_true];refine AA (wpAny_alloc ?_);refine AA (wpAny_layCells _ (λname kind cells=>by cases hkc:kind==NameKind.cell <;> simp[hkc]) _ _ _ _ ?_);rw[show ({ s with heap:=s.heap.push { cls:=.type "dict", data:=.dict #[] } }:Shared).heap.objs.size=s.heap.objs.size+1 from Bv ..];exact AA (AD (AD hQ))
noncomputable def zH (X:Cx) (zB:Yd) (scope:Y0) (cl:Yv) (s:Yl) (H:Hp) (fp:Yg):Cx where
 prog:=X.prog
 w:=X.w
 K:=X.K
 mg:=X.mg
 base:=X.base
 A:=X.A
 N:=X.N
 s₀:=s
 H₀:=H
 env:={ scope:=relabel scope X.env,locals:=s.heap.objs.size+1,globals:=X.env.globals,cells:=cellsFrom (s.heap.objs.size+1+1) scope.names cl,qual:=X.env.qual,func:=none,code:=X.env.code,frame:=X.env.frame,builtins:=X.env.builtins }
 outer:=X.stack
 stack:=X.stack
 ex:=fp
 fn:=λx=>decide (scope.names.lookup x=some .cell)
 calm:=X.calm
 pn:=X.pn++zB
 xe:=λ_ _=>False
theorem Gs {scope:Y0} {env:Env} (x:Str):∀ {names:List (Str × NameKind)} {k:NameKind},
  (names.map λ(n,k)=>if (k==NameKind.free&&env.scope.kind == .function&&env.kindOf n==some .cell) then (n,NameKind.cell) else (n,k)).lookup x=some k ->
  names.lookup x=some k\/(names.lookup x=some .free/\k=.cell)
 |[],_,h=>by simp at h
 | (n,k')::r,k,h=>by
  rw[AX]at h;by_cases hc:(k'==NameKind.free&&env.scope.kind == .function&&env.kindOf n==some .cell)=true
  .simp only[hc,if_true]at h;rw[FN]at h ⊢;cases hb:x==n with
   |true=>
    rw[hb]at h;simp only[A6,beq_iff_eq]at hc;exact .inr ⟨by rw[hc.1.1],(B0 h).symm⟩
   |false=>rw[hb]at h;exact Gs (scope:=scope) x h
  .simp only[hc,CV,if_false]at h;rw[FN]at h ⊢;cases hb:x==n with
   |true=>rw[hb]at h;exact .inl h
   |false=>rw[hb]at h;exact Gs (scope:=scope) x h
theorem Ky:∀ (names:List (Str × NameKind)) (n:Nat) (acc:Yv) (x:Str) (c:Yt),(x,c)∈cellsFrom n names acc->(x,c)∉acc->(x,NameKind.cell)∈names
 |[],_,_,_,_,h,h'=>absurd h h'
 | (name,kind)::r,n,acc,x,c,h,h'=>by
  unfold cellsFrom at h;split at h
  .rename_i hk;by_cases e:(x,c)=(name,n)
   .cases e;rw[beq_iff_eq]at hk;subst hk;exact Ad
   .exact Am _ (Ky r _ _ x c h λz=>(AI.mp z).elim e h')
  .exact Am _ (Ky r _ _ x c h h')
structure CompScope (X:Cx) (scope:Y0):Prop where
 kind:scope.kind=.function
 names:∀ y∈scope.names,y.2=.local->scope.names.lookup y.1=some .local
 cells:∀ y∈scope.names,y.2=.cell->scope.names.lookup y.1=some .cell
 free:∀ y∈scope.names,y.2=.free->X.env.kindOf y.1=some .cell\/X.env.kindOf y.1=some .free
def JF (S:CompScope X scope) (I:Inv X zB Y H s) (hf:∀ b∈fp,BH X zB H b) (ho:∀ b:Nat,b∈fp->b<s.heap.objs.size)
  (c1:∀ x c,cl.lookup x=some c->X.env.cells.lookup x=some c) (c2:∀ y∈scope.names,y.2=.free->(cl.lookup y.1).isSome=true)
  (hl:σc.length=Y.length) (hσ:∀ (i:Nat) x v,X.N[i]?=some x->σc[i]?=some (some v)->(relabel scope X.env).names.lookup x≠none->scope.names.lookup x=some .free/\Y[i]?=some (some v))
  (lo:Obj) (hlo:∀ v,lo.data≠.cell v) (hfr:lo.isFreed=false)
  (h4:s4={ s with heap:=pushCells ((s.heap.push lo).push { cls:=.type "dict", data:=.dict #[] }) scope.names }) :
  Inv (zH X zB scope cl s H fp) [(s.heap.objs.size,lo)] σc H s4:=by
 subst h4;have sz1:(s.heap.push lo).objs.size=s.heap.objs.size+1:=Bv ..;have sz2:((s.heap.push lo).push { cls:=.type "dict", data:=.dict #[] }).objs.size=s.heap.objs.size+1+1:=by rw[Bv,sz1]
 have hk:∀ b o,s.heap.get? b=some o->(pushCells ((s.heap.push lo).push { cls:=.type "dict", data:=.dict #[] }) scope.names).get? b=some o:=λb o e=>
  pushCells_keeps _ _ b o (AJ _ (AJ _ e))
 have ok:=cellsFrom_ok scope.names ((s.heap.push lo).push { cls:=.type "dict", data:=.dict #[] }) (s.heap.objs.size+1+1) [] ⟨λ_ _ hm=>(nomatch hm),List.Pairwise.nil⟩ (by rw[sz2];exact AF _);rw[sz2]at ok;have look:∀ x c,(cellsFrom (s.heap.objs.size+1+1) scope.names cl).lookup x=some c->((cellsFrom (s.heap.objs.size+1+1) scope.names []).lookup x=some c)\/((cellsFrom (s.heap.objs.size+1+1) scope.names []).lookup x=none/\X.env.cells.lookup x=some c):=λx c e=>by
  rw[GA,HA]at e;cases q:(cellsFrom (s.heap.objs.size+1+1) scope.names []).lookup x with
  |some d=>rw[q]at e;exact .inl e
  |none=>rw[q]at e;exact .inr ⟨rfl,c1 x c e⟩
 have old:∀ x (c:Nat),X.env.cells.lookup x=some c->c<s.heap.objs.size:=λx c e=>let ⟨_,q⟩:=I.cell x c e;q.lt;have new:∀ x (c:Nat),(cellsFrom (s.heap.objs.size+1+1) scope.names []).lookup x=some c->s.heap.objs.size+1+1<=c:=λx c e=>(ok.empty x c (Cu e)).2;have own:∀ x,scope.names.lookup x=some .cell -> ∃ c,(cellsFrom (s.heap.objs.size+1+1) scope.names []).lookup x=some c:=λx e=>Jz e;have cne:∀ x (c:Nat),(cellsFrom (s.heap.objs.size+1+1) scope.names cl).lookup x=some c->c<s.heap.objs.size\/s.heap.objs.size+1+1<=c:=λx c e=>by
  rcases look x c e with q|⟨_,q⟩
  .exact .inr (new x c q)
  .exact .inl (old x c q)
 refine ⟨⟨I.ok.mod,S.kind,I.ok.glob,I.ok.blt,DC _,λx y c h1 h2=>?_,λx hx=>?_,λx c hx h=>?_,I.ok.hd,I.ok.frames,.inl rfl,λb hb=>⟨?_,λx c e z=>?_⟩,I.bs,AZ I.ok.bsz I.sz,λb o e hb=>?_,λb hb z=>?_,I.stack,I.stkFree⟩,
  rfl,I.bare,Un.kept hk,⟨λ_=>none,?_,λi x v h1 h2 h3=>?_⟩,λx c e=>?_,I.hok.fresh (DC _),λx c e=>?_,λp hp=>?_,I.hok.kept hk,hl.trans I.len⟩
 .rcases look x c h1 with a|⟨_,a⟩ <;> rcases look y c h2 with b|⟨_,b⟩
  .exact name_of_addr ok.apart (Cu a) (Cu b)
  .exact absurd (Nat.lt_of_le_of_lt (new x c a) (old y c b)) (by omega)
  .exact absurd (Nat.lt_of_le_of_lt (new y c b) (old x c a)) (by omega)
  .exact I.ok.inj x y c a b
 .have hx':(relabel scope X.env).names.lookup x=some .cell\/(relabel scope X.env).names.lookup x=some .free:=hx;have go:scope.names.lookup x=some .cell\/scope.names.lookup x=some .free:=by
   rcases hx' with q|q
   .rcases Gs (scope:=scope) x q with z|z
    .exact .inl z
    .exact .inr z.1
   .rcases Gs (scope:=scope) x q with z|z
    .exact .inr z
    .exact .inr z.1
  show ∃ c,(cellsFrom (s.heap.objs.size+1+1) scope.names cl).lookup x=some c;rw[GA,HA];rcases go with q|q
  .obtain ⟨c,e⟩:=own x q;exact ⟨c,by rw[e]⟩
  .cases e:(cellsFrom (s.heap.objs.size+1+1) scope.names []).lookup x with
   |some d=>exact ⟨d,rfl⟩
   |none=>exact Option.isSome_iff_exists.mp (c2 (x,.free) (Cu q) rfl)
 .obtain ⟨d,e⟩:=own x (CQ hx);have h':(cellsFrom (s.heap.objs.size+1+1) scope.names cl).lookup x=some c:=h;rw[GA,HA,e]at h';cases h';exact AZ (AZ (DC _) (DC _)) (new x _ e)
 .exact Ab (Cn (ho b hb))
 .rcases look x c e with q|⟨_,q⟩
  .have a:=new x c q;rw[z]at a;exact absurd (Nat.lt_of_le_of_lt a (ho b hb)) (by omega)
  .exact (hf b hb).2.2.2.2.1 x c q z
 .rcases (hf b hb).2.2.2.1 with z|z
  .exact I.ok.noex b o e z
  .exact absurd (BB (AH e) (AZ I.ok.bsz z)) (BV _)
 .rcases AI.mp (I.stkSub b z)with q|q
  .exact (hf b hb).2.1 q
  .exact (hf b hb).2.2.1 q
 .have q:((s.heap.push lo).push { cls:=.type "dict", data:=.dict #[] }).Ns (s.heap.push lo).objs.size (λ_=>none):=Heap.Ns.new ..;rw[sz1]at q;exact q.keeps (pushCells_keeps _ _)
 .have h3':(relabel scope X.env).names.lookup x≠none:=by
   rcases h3 with z|z|z <;> (intro q;have z':(relabel scope X.env).names.lookup x=_:=z;rw[q]at z';cases z')
  obtain ⟨fr,hv⟩:=hσ i x v h1 h2 h3';obtain ⟨m,hn,hlk⟩:=I.loc;have kx:=S.free (x,.free) (Cu fr) rfl;obtain ⟨u,rv,lk⟩:=hlk i x v h1 hv (by rcases kx with z|z;exact .inr (.inl z);exact .inr (.inr z));refine ⟨u,rv,?_⟩;rcases lk with ⟨z,_⟩|⟨_,c,e,ic⟩
  .rcases kx with k|k <;> (rw[k]at z;cases z)
  .have kind:(relabel scope X.env).names.lookup x=some .cell\/(relabel scope X.env).names.lookup x=some .free:=by
    cases q:(relabel scope X.env).names.lookup x with
    |none=>exact absurd q h3'
    |some k=>
     rcases Gs (scope:=scope) x q with z|z
     .rw[fr]at z;cases z;exact .inr rfl
     .rw[z.2];exact .inl rfl
   refine .inr ⟨kind,c,?_,ic.keeps hk⟩;show (cellsFrom (s.heap.objs.size+1+1) scope.names cl).lookup x=some c;rw[GA,HA];obtain ⟨d,hd⟩:=Option.isSome_iff_exists.mp (c2 (x,.free) (Cu fr) rfl);have:=c1 x d hd;rw[e]at this;cases this;have nn:(cellsFrom (s.heap.objs.size+1+1) scope.names []).lookup x=none:=by
    cases q:(cellsFrom (s.heap.objs.size+1+1) scope.names []).lookup x with
    |none=>rfl
    |some d'=>
     have z:=S.cells (x,.cell) (Ky scope.names _ [] x d' (Cu q) λz=>nomatch z) rfl;rw[fr]at z;cases z
   rw[nn];exact hd
 .rcases look x c e with q|⟨_,q⟩
  .exact ⟨none,(ok.empty x c (Cu q)).1⟩
  .obtain ⟨v,z⟩:=I.cell x c q;exact ⟨v,z.keeps hk⟩
 .rcases look x c e with q|⟨_,q⟩
  .exact I.hok.fresh (by have:=new x c q;omega)
  .exact I.freeC x c q
 .have hp':p∈X.pn++zB\/p=(s.heap.objs.size,lo):=by
   rcases Ai.mp hp with z|z
   .exact .inl z
   .exact .inr (by simpa using z)
  rcases hp' with z|z
  .obtain ⟨e,n,ne,nf,d⟩:=I.pin p z;have lt:(p.1:Nat)<s.heap.objs.size:=AH e;refine ⟨hk _ _ e,n,?_,λq=>?_,d⟩
   .exact Ab (Cn lt)
   .rcases AI.mp (I.stkSub _ q)with r|r
    .exact ne r
    .exact nf r
  .subst z;refine ⟨pushCells_keeps _ _ _ _ (AJ _ (AV _ hfr)),I.hok.fresh (AF _),?_,λq=>?_,hlo⟩
   .show s.heap.objs.size≠s.heap.objs.size+1;omega
   .rcases AI.mp (I.stkSub _ q)with r|r
    .exact absurd I.lt (by rw[<-r];exact BV _)
    .exact I.nofs (AF _) r
noncomputable def clr (own:Yj) (Y:St):St:=own.foldl (λY i=>Y.set i none) Y
theorem Fq:∀ (own:Yj) (Y:St),(clr own Y).length=Y.length
 |[],_=>rfl
 |i::r,Y=>by
  show (clr r (Y.set i none)).length=_;rw[Fq r,List.length_set]
theorem Et:∀ (own:Yj) (Y:St) (j:Nat) (v:V),(clr own Y)[j]?=some (some v)->Y[j]?=some (some v)/\j∉own
 |[],_,_,_,h=>⟨h,λz=>nomatch z⟩
 |i::r,Y,j,v,h=>by
  have h':(clr r (Y.set i none))[j]?=some (some v):=h;obtain ⟨a,b⟩:=Et r _ j v h';rw[D5]at a;split at a
  .split at a <;> cases a
  .rename_i hne;exact ⟨a,λz=>(AI.mp z).elim (λe=>hne e.symm) b⟩
def Ext (a b:St):Prop:=b.length=a.length /\ ∀ (i:Nat) v,a[i]?=some (some v)->b[i]?=some (some v)
def Ext.refl (a:St):Ext a a:=⟨rfl,λ_ _ h=>h⟩
def Ext.set (e:Ext (clr own Y) a) (h:i∈own):Ext (clr own Y) (a.set i (some v)):=by
 refine ⟨by rw[List.length_set];exact e.1,λj u q=>?_⟩;rw[D5];split
 .rename_i z;exact absurd (z▸h) (Et own Y j u q).2
 .exact e.2 j u q
def DE (X:Cx) (ifs:Yi) (t:TT):Prop :=
 ∀ (zB:Yd) (s:Yl) (Y:St) (H:Hp) (Q:Bool->Hp->Prop),Inv X zB Y H s->t Y H Q ->
  wpAny (model X.prog X.w) X.A (forIn ifs true λc r=>if r=true then do let ok <- isTrue c X.env (eval c X.env);pure (ForInStep.yield ok) else pure (ForInStep.yield r)) (TP X zB Y Q) X.xe s
noncomputable def cU:TT:=λ_ H Q=>Q true H
def R9:DE X [] cU:=λ_ _ _ H _ I h=>wpAny_tests_nil ⟨H,I,h⟩
def dR (h:PT X c t):DE X [c] t:=λzB s Y H Q I hq=>wpAny_tests_one (h zB s Y H Q I hq)
def WB (I:Nat->Shared->Prop)
  (turn:∀ n s,I n s->wpAny (model prog w) A (pyNext it) (λr s₁=>match r with
   |none=>R (.ok .next) s₁
   |some v=>wpAny (model prog w) A (letOwnedTupleGo target it v) (λ_ s₁'=>wpAny (model prog w) A (assign target env v) (λ_ s₂=>
     wpAny (model prog w) A (forIn ifs true λc r=>if r=true then do let ok <- isTrue c env (eval c env);pure (ForInStep.yield ok) else pure (ForInStep.yield r)) (λok s₃=>
      if ok=true then wpAny (model prog w) A (eval elt env) (λx s₄=>
       wpAny (model prog w) A (call (.builtin "list.append") [acc,x]) (λ_ s₅=>∃ m,m<n/\I m s₅) (λ_ _=>False) s₄) (λ_ _=>False) s₃
      else ∃ m,m<n/\I m s₃) (λ_ _=>False) s₂) (λ_ _=>False) s₁') (λ_ _=>False) s₁) (λ_ _=>False) s)
  (n:Nat) (h:I n s) :
  codeAny (model prog w) A (.compLoop (.ListComp elt [⟨target,iter,ifs,0⟩] scope pos) 0 it acc env) R s:=by
 refine codeAny_loop rfl I (λn s hI=>?_) n h;show wpAny _ A ((compTurn (.ListComp elt [⟨target,iter,ifs,0⟩] scope pos) 0 it acc env).onRaise (λx=>do noteFrame x env;theTreesLotGoes x)) _ _ s;refine wpAny_noted ?_;rw[compTurn_list];refine AA (B1 (AA (AN (turn n s hI) (λr s₁ h₁=>?_) λ_ _ h'=>h'.elim)));cases r with
 |none=>exact AD h₁
 |some v=>
  refine AA (AN h₁ (λ_ s₁' h₁'=>?_) λ_ _ h'=>h'.elim);refine AA (AN h₁' (λ_ s₂ h₂=>AA (AN h₂ (λok s₃ h₃=>?_) λ_ _ h'=>h'.elim)) λ_ _ h'=>h'.elim);cases ok with
  |false=>exact AD ⟨rfl,h₃⟩
  |true=>
   exact AA (AA (AN h₃ (λx s₄ h₄=>AA (AN h₄ (λ_ s₅ h₅=>AD (AD ⟨rfl,h₅⟩)) λ_ _ h'=>h'.elim)) λ_ _ h'=>h'.elim))
noncomputable def Mo (own:Yj) (wi:TI) (g:TG) (tc:TT) (te:TE):TE:=λY H Q=>wi Y H λJ H1=>∃ W:Nat->Nat->List V->Hp->Prop,(∃ m,W 0 m [] H1) /\ ∀ i m ys H,W i m ys H ->
 (J.stop i H/\ys.length<=sizeLine /\ ∀ D,H D=none->Q (.ref D) (upd H D (.lst ys))) \/
 (J.go i H /\ ∀ x H',J.yld i H x H'->g x (clr own Y) H' λσ2 H2=>Ext (clr own Y) σ2/\tc σ2 H2 λb H3=>
  if b=true then te σ2 H3 λv H4=>ys.length<sizeLine /\ ∃ m',m'<m/\W (i+1) m' (ys++[v]) H4 else ∃ m',m'<m/\W (i+1) m' ys H3)
noncomputable abbrev za (its:List Value) (n:Nat):Obj:={ cls:=.type "list", data:=.seq its.toArray n }
def Inv.repin (I:Inv X (pl++[(D,o)]) Y H s) (hpl:∀ p∈X.pn++pl,p.1≠D) (hs:Heap.SameBut D s.heap h') (hD:X.s₀.heap.objs.size<=D) (hc:∀ x c,X.env.cells.lookup x=some c->c≠D)
  (e:h'.get? D=some o') (hn:∀ v,o'.data≠.cell v):Inv X (pl++[(D,o')]) Y H { s with heap:=h' }:=by
 obtain ⟨e0,n0,ne0,nf0,d0⟩:=I.pin (D,o) (by simp);have I1:Inv X pl Y H s:=I.pins_of λp hp=>I.pin p (by simp[hp]);have I2:Inv X pl Y H { s with heap:=h' }:=I1.turned (t':=s.toks) (it:=D) (λb u hb q=>hs.extBut b u hb q) n0 ne0 (.inr hD) hc hpl;exact I2.pins_of λp hp=>by
  rcases Ai.mp hp with z|z
  .exact I2.pin p (Ah _ z)
  .have:p=(D,o'):=by simpa using z
   subst this;exact ⟨e,n0,ne0,nf0,hn⟩
section
variable {pos:Pos}
 {own:Yj} {g:TG} {tc:TT} {te:TE} {E:Yc}
structure CompIn (X:Cx) (scope:Y0) (own:Yj):Prop where
 sc:CompScope X scope
 nm:∀ (i:Nat) x,X.N[i]?=some x->i∈own\/scope.names.lookup x=none\/scope.names.lookup x=some .free
def Jp (x:Str) (h:scope.names.lookup x=none):(relabel scope env).names.lookup x=none:=by
 cases q:(relabel scope env).names.lookup x with
 |none=>rfl
 |some k=>
  rcases Gs (scope:=scope) x q with z|z
  .rw[h]at z;cases z
  .rw[h]at z;cases z.1
def Nc (C:CompIn X scope own) (hcalm:X.calm=true) (I:Inv X zB Y H s) (T:Turn X.prog X.w X.K tg J fp it tn) (st:tn 0 s.heap) (hf:∀ b∈fp,BH X zB H b)
  (c1:∀ x c,cl.lookup x=some c->X.env.cells.lookup x=some c) (c2:∀ y∈scope.names,y.2=.free->(cl.lookup y.1).isSome=true)
  (hg:PG (zH X zB scope cl s H fp) tg g) (hi:DE (zH X zB scope cl s H fp) ifs tc) (he:PE (zH X zB scope cl s H fp) elt te)
  {RR:Value->Addr->Result->Shared->Prop} {QQ:List V->Hp->Prop} {W:Nat->Nat->List V->Hp->Prop} {m0:Nat} (w0:W 0 m0 [] H)
  (turn:∀ i m ys H,W i m ys H->(J.stop i H/\ys.length<=sizeLine/\QQ ys H) \/
   (J.go i H /\ ∀ x H',J.yld i H x H'->g x (clr own Y) H' λσ2 H2=>Ext (clr own Y) σ2/\tc σ2 H2 λb H3=>
    if b=true then te σ2 H3 λv H4=>ys.length<sizeLine /\ ∃ m',m'<m/\W (i+1) m' (ys++[v]) H4 else ∃ m',m'<m/\W (i+1) m' ys H3))
  (fin:∀ σc H' s' its n ys,Inv (zH X zB scope cl s H fp) [(s.heap.objs.size,za its n)] σc H' s'->zY ys its->ys.length<=sizeLine->QQ ys H'->RR (.ref s.heap.objs.size) (s.heap.objs.size+1) (.ok .next) s') :
  wpAny (model X.prog X.w) X.A (newList []) (λacc s₃=>wpAny (model X.prog X.w) X.A (newFunctionEnv scope X.env.globals cl [] X.env.qual none .none (some X.env)) (λcenv s₄=>
   codeAny (model X.prog X.w) X.A (.compStart (.ListComp elt [⟨tg,iter,ifs,0⟩] scope pos) 0 (.ref it) acc { cenv with scope:=relabel scope X.env }) (RR acc cenv.locals) s₄) E s₃) E s:=by
 have ob:∀ b:Nat,b∈fp->b<s.heap.objs.size:=λb hb=>let ⟨_,e,_⟩:=T.obj 0 _ st b hb;AH e;refine A9 (IM ?_);have sz1:(s.heap.push (za [] 0)).objs.size=s.heap.objs.size+1:=Bv ..;have I4:=JF (X:=X) (zB:=zB) (Y:=Y) (σc:=clr own Y) (H:=H) (s:=s) (scope:=scope) (cl:=cl) (fp:=fp) C.sc I hf ob c1 c2 (Fq own Y) (λi x v h1 h2 h3=>by
  obtain ⟨a,b⟩:=Et own Y i v h2;rcases C.nm i x h1 with z|z|z
  .exact absurd z b
  .exact absurd (Jp x z) h3
  .exact ⟨z,a⟩) (za [] 0) (by intro v z;cases z) rfl rfl
 have st4:tn 0 (pushCells ((s.heap.push (za [] 0)).push { cls:=.type "dict", data:=.dict #[] }) scope.names):=T.keep 0 _ _ st λb _ o e=>pushCells_keeps _ _ b o (AJ _ (AJ _ e));unfold newEnv;rw[sz1];have hDfp:s.heap.objs.size∉fp:=λz=>BV _ (ob _ z);have hcD:∀ x c,(zH X zB scope cl s H fp).env.cells.lookup x=some c->c≠s.heap.objs.size:=λx c e z=>by
  obtain ⟨v,o,ho,hd⟩:=I4.cell x c e;obtain ⟨q,_⟩:=I4.pin (s.heap.objs.size,za [] 0) (by simp);rw[z,q]at ho;cases ho;cases hd
 have fpk:∀ {H':Hp} {pl:Yd},(∀ b∈fp,H' b=none)->(∀ p∈pl,p.1=s.heap.objs.size) -> ∀ b∈fp,BH (zH X zB scope cl s H fp) pl H' b:=λ{H' pl} hn hp b hb=>
  ⟨hn b hb,(I4.ok.exf b hb).1,I4.ok.exfs b hb,.inl hb,(I4.ok.exf b hb).2,λp hq=>by
   rcases Ai.mp hq with z|z
   .exact (hf b hb).2.2.2.2.2 p z
   .intro e;have e2:=hp p z;rw[e]at e2;exact hDfp (e2▸hb)⟩
 have loop:codeAny (model X.prog X.w) X.A (.compLoop (.ListComp elt [⟨tg,iter,ifs,0⟩] scope pos) 0 (.ref it) (.ref s.heap.objs.size) (zH X zB scope cl s H fp).env) (RR (.ref s.heap.objs.size) (s.heap.objs.size+1))
   { s with heap:=pushCells ((s.heap.push (za [] 0)).push { cls:=.type "dict", data:=.dict #[] }) scope.names }:=by
  refine WB (λn s'=>∃ i H' ys its k,Inv (zH X zB scope cl s H fp) [(s.heap.objs.size,za its k)] (clr own Y) H' s'/\zY ys its/\tn i s'.heap/\(∀ b∈fp,H' b=none)/\W i n ys H') ?_ m0
   ⟨0,H,[],[],0,I4,.nil,st4,λb hb=>(hf b hb).1,w0⟩
  rintro n s5 ⟨i,H5,ys,its,k,I5,r5,st5,f5,w5⟩;have pinD:∀ p∈[(s.heap.objs.size,za its k)],p.1=s.heap.objs.size:=λp hp=>by
   have:p=(s.heap.objs.size,za its k):=by simpa using hp
   rw[this]
  rcases turn i n ys H5 w5 with ⟨stop,hz,qq⟩|⟨go,step⟩
  .refine thn (T.done (zH X zB scope cl s H fp) rfl rfl rfl hcalm i _ s5 _ H5 _ I5 (fpk f5 pinD) st5 stop) λr s6 ⟨hr,I6⟩=>?_;subst hr;exact fin _ H5 s6 its k ys I6 r5 hz qq
  .refine thn (T.item (zH X zB scope cl s H fp) rfl rfl rfl hcalm i _ s5 _ H5 _ I5 (fpk f5 pinD) st5 go) λr s6 ⟨u,hr,h6⟩=>?_;subst hr;refine thn h6 λ_ s7 ⟨x,H7,I7,r7,y7,st7,f7⟩=>?_;have I7':=I7.pinned (fpk f7 pinD) (T.obj _ _ st7);refine thn (hg _ s7 _ H7 x u _ I7' r7 (step x H7 y7)) λ_ s8 ⟨σ8,H8,I8,x8,q8⟩=>?_;refine thn (hi _ s8 σ8 H8 _ I8 q8) λok s9 ⟨H9,I9,q9⟩=>?_;have back:∀ {s':Yl} {Hx:Hp},Inv (zH X zB scope cl s H fp) ([(s.heap.objs.size,za its k)]++EF fp s7.heap) σ8 Hx s'->tn (i+1) s'.heap /\ ∀ b∈fp,Hx b=none:=λ{s' Hx} Ix=>
    ⟨T.keep _ _ _ st7 λb hb o e=>(Ix.pin (b,o) (Ah _ (Ah _ (DD hb e)))).1,λb hb=>by
     obtain ⟨o,e,d⟩:=T.obj _ _ st7 b hb;exact (Ix.pin (b,o) (Ah _ (Ah _ (DD hb e)))).2.1⟩
   cases ok with
   |false=>
    obtain ⟨m',hm,w'⟩:=q9;obtain ⟨b1,b2⟩:=back I9;exact ⟨m',hm,i+1,H9,ys,its,k,(I9.weak (by rw[x8.1]) x8.2).unpinned,r5,b1,b2,w'⟩
   |true=>
    refine thn (he _ s9 σ8 H9 _ I9 q9) λv s10 ⟨y,H10,I10,r10,hlt,m',hm,w'⟩=>?_;obtain ⟨b1,b2⟩:=back I10;have J10:=(I10.weak (by rw[x8.1]) x8.2).unpinned;obtain ⟨e10,n10,ne10,nf10,d10⟩:=J10.pin (s.heap.objs.size,za its k) (by simp);have hlen:its.toArray.size<=sizeLine:=by
     have:=r5.length;rw[AR,<-this];exact DB hlt
    refine wpAny_list_append_plain (hsz:=hlen) (show s10.heap.PlainList s.heap.objs.size its.toArray from ⟨k,e10⟩) λh' hl' hs'=>?_;obtain ⟨k',e'⟩:=hl';have e'':h'.get? s.heap.objs.size=some (za (its++[v]) k'):=by rw[e'];simp[za]
    refine ⟨m',hm,i+1,H10,ys++[y],its++[v],k',?_,r5.append (.cons r10 .nil),T.keep _ _ _ b1 λb hb o e=>hs'.extBut b o (λz=>hDfp (z▸hb)) e,b2,w'⟩;refine Inv.repin (pl:=[]) J10 (λp hp=>?_) hs' (AF _) hcD e'' (by intro v z;cases z);rw[BF]at hp;have hp':p∈X.pn++zB:=hp;exact Ab (AH (I.pin p hp').1)
 exact codeAny_compStart_list loop (T.self _ 0 _ _ _ st4 loop)
end
def KS (I:Inv X zB Y H s) (hf:∀ b∈fp,BH X zB H b)
  (Ic:Inv (zH X zB scope cl s H fp) [(s.heap.objs.size,za its n)] σc H' s') (rv:zY ys its) (hz:ys.length<=sizeLine) (hs:Heap.SameBut (s.heap.objs.size+1) s'.heap h') :
  Inv X zB Y (upd H' s.heap.objs.size (.lst ys)) { s' with heap:=h' }/\H' s.heap.objs.size=none:=by
 obtain ⟨eD,nD,_⟩:=Ic.pin (s.heap.objs.size,za its n) (by simp);have nC:H' (s.heap.objs.size+1)=none:=Ic.free;have eD':h'.get? s.heap.objs.size=some (za its n):=hs.extBut _ _ (Ab (Dq _)) eD;have lt1:∀ {b:Yt} {o:Obj},s.heap.get? b=some o->b≠s.heap.objs.size+1/\b≠s.heap.objs.size:=λe=>⟨Ab (Cn (AH e)),Ab (AH e)⟩;have tr:∀ b u,H' b=some u->b≠s.heap.objs.size+1/\b≠s.heap.objs.size:=λb u e=>⟨λz=>(by rw[z,nC]at e;cases e),λz=>(by rw[z,nD]at e;cases e)⟩;refine ⟨?_,nD⟩;have B:=Ic.base;have un:Un (frs X.stack) fp H (upd H' s.heap.objs.size (.lst ys)) s.heap h':=by
  refine ⟨λb o e q hb hx=>hs.extBut b o (lt1 e).1 (B.keep b o e q hb hx),λb o e q hb hx=>?_,λb o e q hx=>?_,λb o e hx=>?_,λb xs e=>?_,λb o xs e=>?_,λb ps e=>?_⟩
  .obtain ⟨sl,e1⟩:=B.slot b o e q hb hx;exact ⟨sl,hs.extBut b _ (lt1 e).1 e1⟩
  .rw[zT (lt1 e).2];exact B.free b o e q hx
  .obtain ⟨o',e1⟩:=B.there b o e hx;exact ⟨o',hs.extBut b _ (lt1 e).1 e1⟩
  .have q:=B.tups b xs e;rw[zT (tr b _ q).2];exact q
  .have q:=B.frzs b o xs e;rw[zT (tr b _ q).2];exact q
  .obtain ⟨more,q⟩:=B.tbls b ps e;exact ⟨more,by rw[zT (tr b _ q).2];exact q⟩
 have hok:HOk X.prog X.w (upd H' s.heap.objs.size (.lst ys)) h':=λb u e=>by
  by_cases hb:b=s.heap.objs.size
  .subst hb;rw[zr]at e;cases e;exact ⟨hz,its,n,rv,eD'⟩
  .rw[zT hb]at e;refine (Ic.hok b u e).stay (λc v hc q=>hs.extBut c v ?_ q) (λc q=>by rw[zT (tr c _ q).2];exact q) λc xs q=>by rw[zT (tr c _ q).2];exact q
   rcases hc with z|z
   .rw[z];exact (tr b u e).1
   .exact (tr c _ z).1
 exact I.call' (s':={ s' with heap:=h' }) (ch:=fp) Ic.os un hok Ic.bare λb hb=>⟨(hf b hb).2.2.2.1,(hf b hb).2.1,(hf b hb).2.2.2.2.1,(hf b hb).2.2.2.2.2⟩
structure CompParts (X:Cx) (scope:Y0) (tg:Expr) (ifs:Yi) (elt:Expr) (g:TG) (tc:TT) (te:TE):Prop where
 g:∀ zB cl s H fp,PG (zH X zB scope cl s H fp) tg g
 c:∀ zB cl s H fp,DE (zH X zB scope cl s H fp) ifs tc
 e:∀ zB cl s H fp,PE (zH X zB scope cl s H fp) elt te
def CompScope.closure (S:CompScope X scope) (I:Inv X zB Y H s) :
  ∃ cl,closureFor scope X.env=pure cl/\(∀ x c,cl.lookup x=some c->X.env.cells.lookup x=some c) /\ ∀ y∈scope.names,y.2=.free->(cl.lookup y.1).isSome=true :=
 iB λy hy hk=>I.ok.has y.1 (S.free y hy hk)
def gG (C:CompIn X scope own) (hcalm:X.calm=true) (hi:PI X tg iter wi) (p:CompParts X scope tg ifs elt g tc te) (hs:∀ x,foldedSetIterable iter X.env x=pure x:=by intro _;rfl) :
  PE X (.ListComp elt [⟨tg,iter,ifs,0⟩] scope pos) (Mo own wi g tc te):=by
 intro zB s Y H Q I h;obtain ⟨cl,hcl,c1,c2⟩:=C.sc.closure I;rw[eval_ListComp];refine Ge (use:=none) rfl hs hcl C.sc.kind C.sc.names (thn (hi zB s Y H _ I h) λv s1 h1=>thn h1 λitv s2 h2=>?_);obtain ⟨it,fp,tn,J,H2,e,I2,T,st2,f2,W,⟨m0,w0⟩,turn⟩:=h2;subst e;refine Nc C hcalm I2 T st2 f2 c1 c2 (p.g _ _ _ _ _) (p.c _ _ _ _ _) (p.e _ _ _ _ _) (RR:=λacc C r s'=>compPost (model X.prog X.w) X.A X.xe none (EP X zB Y Q) acc C r s') (QQ:=λys H=>∀ D,H D=none->Q (.ref D) (upd H D (.lst ys))) w0 turn ?_;intro σc H' s' its n ys Ic rv hz qq;obtain ⟨m,hn,_⟩:=Ic.loc;refine ⟨m,hn,λh' hs'=>?_⟩;obtain ⟨J',nD⟩:=KS I2 f2 Ic rv hz hs';exact ⟨.ref s2.heap.objs.size,_,J',rfl,qq _ nD⟩
def R8 (hN:X.N.Nodup) (hi':X.N[i]?=some x) (hx:Loc X.env.scope x) (hfn:X.fn x=true\/X.env.scope.names.lookup x=some .local)
  (C:CompIn X scope own) (hcalm:X.calm=true) (hi:PI X tg iter wi) (p:CompParts X scope tg ifs elt g tc te)
  (hsw:swapsWith (.ListComp elt [⟨tg,iter,ifs,0⟩] scope pos) (some (.Name x pos')) pos''.line X.env=pure true) (hs:∀ x,foldedSetIterable iter X.env x=pure x:=by intro _;rfl) :
  PS X (.Assign [.Name x pos'] (.ListComp elt [⟨tg,iter,ifs,0⟩] scope pos) pos'') (HD (Mo own wi g tc te) (Bu i)):=by
 intro zB s Y H D I h;obtain ⟨cl,hcl,c1,c2⟩:=C.sc.closure I;rw[exec_Assign_Name_used _ _ _ _ hsw];refine AA (B1 (AA ?_))
 refine AA (AN (Ge (use:=some (assign (.Name x pos') X.env)) (Q:=λ_ s'=>SP X zB D .next s') rfl hs hcl C.sc.kind C.sc.names
  (thn (hi zB s Y H _ I h) λv s1 h1=>thn h1 λitv s2 h2=>?_)) (λ_ s' hq=>AD (AD hq)) λ_ _ e=>e)
 obtain ⟨it,fp,tn,J,H2,e,I2,T,st2,f2,W,⟨m0,w0⟩,turn⟩:=h2;subst e
 refine Nc C hcalm I2 T st2 f2 c1 c2 (p.g _ _ _ _ _) (p.c _ _ _ _ _) (p.e _ _ _ _ _) (RR:=λacc C r s'=>compPost (model X.prog X.w) X.A X.xe (some (assign (.Name x pos') X.env)) (λ_ s'=>SP X zB D .next s') acc C r s')
  (QQ:=λys H=>∀ E,H E=none->Bu i (.ref E) Y (upd H E (.lst ys)) D.nx) w0 turn ?_
 intro σc H' s' its n ys Ic rv hz qq;obtain ⟨m,hn,_⟩:=Ic.loc;obtain ⟨J',nD⟩:=KS (h':=s'.heap) I2 f2 Ic rv hz (.refl ..);obtain ⟨oC,es,ep,hoC,hdC,r1,r2⟩:=id hn;have nC:upd H' s2.heap.objs.size (.lst ys) (s2.heap.objs.size+1)=none:=by rw[zT (Cz (Dq _))];exact Ic.free
 have K':Inv X (zB++[(s2.heap.objs.size+1,oC)]) Y (upd H' s2.heap.objs.size (.lst ys)) s':=J'.pins_of λq hq=>by
  rcases Ai.mp hq with z|z
  .exact J'.pin q (Ah _ z)
  .have e:q=(s2.heap.objs.size+1,oC):=by simpa using z
   subst e;refine ⟨hoC,nC,Cz (Cn I2.lt),I2.nofs (DC _),λv z=>?_⟩;have z':oC.data=.cell v:=z;rw[hdC]at z';cases z'
 refine thn (K9 hN hi' hx hfn _ s' Y _ (.ref s2.heap.objs.size) (.ref s2.heap.objs.size) _ K' rfl (qq _ nD)) λ_ s'' ⟨Y'',H'',I'',q''⟩=>?_;obtain ⟨eC,_⟩:=I''.pin (s2.heap.objs.size+1,oC) (by simp);refine ⟨m,⟨oC,es,ep,eC,hdC,r1,r2⟩,λh' hs'=>⟨Y'',H'',?_,q''⟩⟩;have I3:Inv X zB Y'' H'' s'':=I''.unpinned;obtain ⟨_,nC'',neC,_,_⟩:=I''.pin (s2.heap.objs.size+1,oC) (by simp);refine I3.turned (t':=s''.toks) (it:=s2.heap.objs.size+1) (λb o hb e=>hs'.extBut b o hb e) nC'' neC (.inr (AZ I2.sz (DC _))) (λx c e z=>?_) (λq hq z=>?_)
 .obtain ⟨v,o,ho,hd⟩:=I3.cell x c e;rw[z,eC]at ho;cases ho;rw[hdC]at hd;cases hd
 .obtain ⟨e,_⟩:=I2.pin q hq;exact Ab (Cn (AH e)) z
noncomputable abbrev Bh (elt t1 i1:Expr) (f1:Yi) (t2 i2:Expr) (f2:Yi) (scope:Y0) (pos:Pos):Expr:=.ListComp elt [⟨t1,i1,f1,0⟩,⟨t2,i2,f2,0⟩] scope pos
def Ru (elt t1 i1:Expr) (f1:Yi) (t2 i2:Expr) (f2:Yi) (scope:Y0) (pos:Pos) (it acc:Yu) (env:Env) :
  compTurn (Bh elt t1 i1 f1 t2 i2 f2 scope pos) 0 it acc env=(do
   standAt i1.pos;match <- pyNext it with
   |none=>pure (.done .next)
   |some v=>
    letOwnedTupleGo t1 it v;assign t1 env v;let mut ok:=true
    for c in f1 do
     if ok then ok <- isTrue c env (eval c env)
    if ok then
     let x <- eval i2 env;standAt i2.pos;let x <- foldedSetIterable i2 env x;let _ <- runOwn (.compStart (Bh elt t1 i1 f1 t2 i2 f2 scope pos) 1 (<- holding [x] (pyIter x)) acc env) env
    again (.compLoop (Bh elt t1 i1 f1 t2 i2 f2 scope pos) 0 it acc env)):=by rfl
def V0 (elt t1 i1:Expr) (f1:Yi) (t2 i2:Expr) (f2:Yi) (scope:Y0) (pos:Pos) (it acc:Yu) (env:Env) :
  compTurn (Bh elt t1 i1 f1 t2 i2 f2 scope pos) 1 it acc env=(do
   standAt i2.pos;match <- pyNext it with
   |none=>pure (.done .next)
   |some v=>
    letOwnedTupleGo t2 it v;assign t2 env v;let mut ok:=true
    for c in f2 do
     if ok then ok <- isTrue c env (eval c env)
    if ok then
     (do let _ <- call (.builtin "list.append") [acc,<-eval elt env])
    again (.compLoop (Bh elt t1 i1 f1 t2 i2 f2 scope pos) 1 it acc env)):=by rfl
def Td (I:Nat->Shared->Prop)
  (turn:∀ n s,I n s->wpAny (model prog w) A (pyNext it) (λr s₁=>match r with
   |none=>R (.ok .next) s₁
   |some v=>wpAny (model prog w) A (letOwnedTupleGo t2 it v) (λ_ s₁'=>wpAny (model prog w) A (assign t2 env v) (λ_ s₂=>
     wpAny (model prog w) A (forIn f2 true λc r=>if r=true then do let ok <- isTrue c env (eval c env);pure (ForInStep.yield ok) else pure (ForInStep.yield r)) (λok s₃=>
      if ok=true then wpAny (model prog w) A (eval elt env) (λx s₄=>
       wpAny (model prog w) A (call (.builtin "list.append") [acc,x]) (λ_ s₅=>∃ m,m<n/\I m s₅) (λ_ _=>False) s₄) (λ_ _=>False) s₃
      else ∃ m,m<n/\I m s₃) (λ_ _=>False) s₂) (λ_ _=>False) s₁') (λ_ _=>False) s₁) (λ_ _=>False) s)
  (n:Nat) (h:I n s) :
  codeAny (model prog w) A (.compLoop (Bh elt t1 i1 f1 t2 i2 f2 scope pos) 1 it acc env) R s:=by
 refine codeAny_loop rfl I (λn s hI=>?_) n h;show wpAny _ A ((compTurn (Bh elt t1 i1 f1 t2 i2 f2 scope pos) 1 it acc env).onRaise (λx=>do noteFrame x env;theTreesLotGoes x)) _ _ s;refine wpAny_noted ?_;rw[V0];refine AA (B1 (AA (AN (turn n s hI) (λr s₁ h₁=>?_) λ_ _ h'=>h'.elim)));cases r with
 |none=>exact AD h₁
 |some v=>
  refine AA (AN h₁ (λ_ s₁' h₁'=>?_) λ_ _ h'=>h'.elim);refine AA (AN h₁' (λ_ s₂ h₂=>AA (AN h₂ (λok s₃ h₃=>?_) λ_ _ h'=>h'.elim)) λ_ _ h'=>h'.elim);cases ok with
  |false=>exact AD ⟨rfl,h₃⟩
  |true=>
   exact AA (AA (AN h₃ (λx s₄ h₄=>AA (AN h₄ (λ_ s₅ h₅=>AD (AD ⟨rfl,h₅⟩)) λ_ _ h'=>h'.elim)) λ_ _ h'=>h'.elim))
def WC
  (h0:codeAny (model prog w) A (.compLoop (Bh elt t1 i1 f1 t2 i2 f2 scope pos) 1 it acc env) R s)
  (h:wpAny (model prog w) A (pyIter it) (λit' s'=>codeAny (model prog w) A (.compLoop (Bh elt t1 i1 f1 t2 i2 f2 scope pos) 1 it' acc env) R s')
   (notedBy (model prog w) A env λx s'=>R (.error x) s') s) :
  codeAny (model prog w) A (.compStart (Bh elt t1 i1 f1 t2 i2 f2 scope pos) 1 it acc env) R s:=by
 refine codeAny_of_tree ?_;show wpAny _ _ ((compStart (Bh elt t1 i1 f1 t2 i2 f2 scope pos) 1 it acc env).onRaise (λx=>do noteFrame x env;standAt theWindowsPlace)) _ _ s;refine wpAny_notedAt ?_;unfold compStart;refine AA (wpAny_askSetting (wpAny_ite ?_));split
 .first
   |exact AA (AD (AD (And.intro rfl h0)))
   |exact AD (And.intro rfl h0)
 .first
   |exact AA (BY (AA (B1 (AA (AN h (λit' s' h'=>AD (And.intro rfl h')) λ_ _ x=>x)))))
   | (refine AA (BY ?_);show wpAny _ _ (standAt i2.pos >>= _) _ _ s;exact AA (B1 (AA (AN h (λit' s' h'=>AD (And.intro rfl h')) λ_ _ x=>x))))
def Uk (hs2:∀ x,foldedSetIterable i2 env x=pure x) (I:Nat->Shared->Prop)
  (turn:∀ n s,I n s->wpAny (model prog w) A (pyNext it) (λr s₁=>match r with
   |none=>R (.ok .next) s₁
   |some v=>wpAny (model prog w) A (letOwnedTupleGo t1 it v) (λ_ s₁'=>wpAny (model prog w) A (assign t1 env v) (λ_ s₂=>
     wpAny (model prog w) A (forIn f1 true λc r=>if r=true then do let ok <- isTrue c env (eval c env);pure (ForInStep.yield ok) else pure (ForInStep.yield r)) (λok s₃=>
      if ok=true then wpAny (model prog w) A (eval i2 env) (λx s₄=>wpAny (model prog w) A (pyIter x) (λit2 s₅=>
       codeAny (model prog w) A (.compStart (Bh elt t1 i1 f1 t2 i2 f2 scope pos) 1 it2 acc env) (λr s₆=>r=.ok .next /\ ∃ m,m<n/\I m s₆) s₅) (λ_ _=>False) s₄) (λ_ _=>False) s₃
      else ∃ m,m<n/\I m s₃) (λ_ _=>False) s₂) (λ_ _=>False) s₁') (λ_ _=>False) s₁) (λ_ _=>False) s)
  (n:Nat) (h:I n s) :
  codeAny (model prog w) A (.compLoop (Bh elt t1 i1 f1 t2 i2 f2 scope pos) 0 it acc env) R s:=by
 refine codeAny_loop rfl I (λn s hI=>?_) n h;show wpAny _ A ((compTurn (Bh elt t1 i1 f1 t2 i2 f2 scope pos) 0 it acc env).onRaise (λx=>do noteFrame x env;theTreesLotGoes x)) _ _ s;refine wpAny_noted ?_;rw[Ru];refine AA (B1 (AA (AN (turn n s hI) (λr s₁ h₁=>?_) λ_ _ h'=>h'.elim)));cases r with
 |none=>exact AD h₁
 |some v=>
  refine AA (AN h₁ (λ_ s₁' h₁'=>?_) λ_ _ h'=>h'.elim);refine AA (AN h₁' (λ_ s₂ h₂=>AA (AN h₂ (λok s₃ h₃=>?_) λ_ _ h'=>h'.elim)) λ_ _ h'=>h'.elim);cases ok with
  |false=>exact AD ⟨rfl,h₃⟩
  |true=>
   refine AA (AN h₃ (λx s₄ h₄=>AA (B1 (AA (wpAny_of_eq (hs2 x) (AA (B2 (AN h₄ (λit2 s₅ h₅=>?_) λ_ _ h'=>h'.elim))))))) λ_ _ h'=>h'.elim);refine AA (wpAny_runOwn (codeAny_mono h₅ λr s₆ hr=>?_));obtain ⟨rfl,hr⟩:=hr;exact AD ⟨rfl,hr⟩
def tIn (own2:Yj) (wi2:TI) (g2:TG) (tc2:TT) (te:TE) (σ2:St) (H3:Hp) (ys:List V) (QQ:List V->Hp->Prop):Prop :=
 wi2 σ2 H3 λJ2 H4=>∃ W2:Nat->Nat->List V->Hp->Prop,(∃ m,W2 0 m ys H4) /\ ∀ j m zs H,W2 j m zs H ->
  (J2.stop j H/\QQ zs H) \/
  (J2.go j H /\ ∀ x H',J2.yld j H x H'->g2 x (clr own2 σ2) H' λσ3 H5=>Ext (clr own2 σ2) σ3/\tc2 σ3 H5 λb H6=>
   if b=true then te σ3 H6 λv H7=>zs.length<sizeLine /\ ∃ m',m'<m/\W2 (j+1) m' (zs++[v]) H7 else ∃ m',m'<m/\W2 (j+1) m' zs H6)
section
variable {D:Yt}
 {own2:Yj} {wi2:TI} {g2:TG} {tc2:TT} {te:TE} {R:Yx}
def fP (hxe:C.xe=λ_ _=>False) (hcalm:C.calm=true) (hi:PI C t2 i2 wi2) (hg:PG C t2 g2) (hc:DE C f2 tc2) (he:PE C elt te) (hD:C.s₀.heap.objs.size<=D)
  (hcD:∀ x c,C.env.cells.lookup x=some c->c≠D) (hpl:∀ p∈C.pn++pl,p.1≠D) (I:Inv C (pl++[(D,za its k)]) Y H s) (rv:zY ys its) (h:tIn own2 wi2 g2 tc2 te Y H ys QQ)
  (fin:∀ s' H' its' k' zs,Inv C (pl++[(D,za its' k')]) (clr own2 Y) H' s'->zY zs its'->QQ zs H'->R (.ok .next) s') :
  wpAny (model C.prog C.w) C.A (eval i2 C.env) (λx s₄=>wpAny (model C.prog C.w) C.A (pyIter x) (λit2 s₅=>
   codeAny (model C.prog C.w) C.A (.compStart (Bh elt t1 i1 f1 t2 i2 f2 scope pos) 1 it2 (.ref D) C.env) R s₅) (λ_ _=>False) s₄) (λ_ _=>False) s:=by
 have hpi:=hi _ s Y H _ I h;rw[hxe]at hpi;refine thn hpi λv s1 h1=>thn h1 λitv s2 h2=>?_;obtain ⟨it,fp,tn,J,H2,e,I2,T,st2,f2',W,⟨m0,w0⟩,turn⟩:=h2;subst e;have hDfp:D∉fp:=λz=>(f2' D z).2.2.2.2.2 (D,za its k) (by simp) rfl;have loop:∀ s',(∃ H',Inv C (pl++[(D,za its k)]) (clr own2 Y) H' s'/\tn 0 s'.heap/\(∀ b∈fp,H' b=none)/\W 0 m0 ys H')->codeAny (model C.prog C.w) C.A (.compLoop (Bh elt t1 i1 f1 t2 i2 f2 scope pos) 1 (.ref it) (.ref D) C.env) R s':=by
  rintro s' ⟨H',I',st',hn',w'⟩;have fpk:∀ {H':Hp} {its:Yf} {k:Nat},(∀ b∈fp,H' b=none) -> ∀ b∈fp,BH C (pl++[(D,za its k)]) H' b:=λ{H' its k} hn b hb=>by
   obtain ⟨_,a2,a3,a4,a5,a6⟩:=f2' b hb;refine ⟨hn b hb,a2,a3,a4,a5,λp hp=>?_⟩;rcases Ai.mp hp with z|z
   .exact a6 p (CS _ z)
   .rcases Ai.mp z with z|z
    .exact a6 p (Ah _ (CS _ z))
    .have:p=(D,za its k):=by simpa using z
     rw[this];intro q;have q':D=b:=q;exact hDfp (q'▸hb)
  refine Td (λn s'=>∃ i H' ys its k,Inv C (pl++[(D,za its k)]) (clr own2 Y) H' s'/\zY ys its/\tn i s'.heap/\(∀ b∈fp,H' b=none)/\W i n ys H') ?_ m0 ⟨0,H',ys,its,k,I',rv,st',hn',w'⟩;rintro n s5 ⟨i,H5,ys,its,k,I5,r5,st5,f5,w5⟩;rcases turn i n ys H5 w5 with ⟨stop,qq⟩|⟨go,step⟩
  .refine thn (T.done C rfl rfl rfl hcalm i _ s5 _ H5 _ I5 (fpk f5) st5 stop) λr s6 ⟨hr,I6⟩=>?_;subst hr;exact fin s6 H5 its k ys I6 r5 qq
  .refine thn (T.item C rfl rfl rfl hcalm i _ s5 _ H5 _ I5 (fpk f5) st5 go) λr s6 ⟨u,hr,h6⟩=>?_;subst hr;refine thn h6 λ_ s7 ⟨x,H7,I7,r7,y7,st7,f7⟩=>?_;have I7':=I7.pinned (fpk f7) (T.obj _ _ st7);have hgg:=hg _ s7 _ H7 x u _ I7' r7 (step x H7 y7);rw[hxe]at hgg;refine thn hgg λ_ s8 ⟨σ8,H8,I8,x8,q8⟩=>?_;have hcc:=hc _ s8 σ8 H8 _ I8 q8;rw[hxe]at hcc;refine thn hcc λok s9 ⟨H9,I9,q9⟩=>?_;have back:∀ {s':Yl} {Hx:Hp},Inv C ((pl++[(D,za its k)])++EF fp s7.heap) σ8 Hx s'->tn (i+1) s'.heap /\ ∀ b∈fp,Hx b=none:=λ{s' Hx} Ix=>
    ⟨T.keep _ _ _ st7 λb hb o e=>(Ix.pin (b,o) (Ah _ (Ah _ (DD hb e)))).1,λb hb=>by
     obtain ⟨o,e,d⟩:=T.obj _ _ st7 b hb;exact (Ix.pin (b,o) (Ah _ (Ah _ (DD hb e)))).2.1⟩
   cases ok with
   |false=>
    obtain ⟨m',hm,w'⟩:=q9;obtain ⟨b1,b2⟩:=back I9;exact ⟨m',hm,i+1,H9,ys,its,k,(I9.weak (by rw[x8.1]) x8.2).unpinned,r5,b1,b2,w'⟩
   |true=>
    have hee:=he _ s9 σ8 H9 _ I9 q9;rw[hxe]at hee;refine thn hee λv s10 ⟨y,H10,I10,r10,hlt,m',hm,w'⟩=>?_;obtain ⟨b1,b2⟩:=back I10;have J10:=(I10.weak (by rw[x8.1]) x8.2).unpinned;obtain ⟨e10,n10,ne10,nf10,d10⟩:=J10.pin (D,za its k) (by simp);have hlen:its.toArray.size<=sizeLine:=by
     have:=r5.length;rw[AR,<-this];exact DB hlt
    refine wpAny_list_append_plain (hsz:=hlen) (show s10.heap.PlainList D its.toArray from ⟨k,e10⟩) λh' hl' hs'=>?_;obtain ⟨k',e'⟩:=hl';have e'':h'.get? D=some (za (its++[v]) k'):=by rw[e'];simp[za]
    refine ⟨m',hm,i+1,H10,ys++[y],its++[v],k',?_,r5.append (.cons r10 .nil),T.keep _ _ _ b1 λb hb o e=>hs'.extBut b o (λz=>hDfp (z▸hb)) e,b2,w'⟩;exact Inv.repin (pl:=pl) J10 hpl hs' hD hcD e'' (by intro v z;cases z)
 have l0:=loop s2 ⟨H2,I2.weak (Fq own2 Y) (λi v h=>(Et own2 Y i v h).1),st2,λb hb=>(f2' b hb).1,w0⟩;exact WC l0 (T.self _ 0 _ _ _ st2 l0)
end
section
variable {pos:Pos}
 {own own2:Yj} {g g2:TG} {tc tc2:TT} {te:TE} {wi wi2:TI} {E:Yc}
theorem Pb:∀ (own:Yj) (Y:St) (j:Nat),j∉own->(clr own Y)[j]?=Y[j]?
 |[],_,_,_=>rfl
 |i::r,Y,j,h=>by
  show (clr r (Y.set i none))[j]?=_;rw[Pb r _ j (λz=>h (Am _ z)),A8 (λz=>h (by rw[z];exact Ad))]
def VG (hsub:∀ i∈own2,i∈own) (C:CompIn X scope own) (hcalm:X.calm=true) (I:Inv X zB Y H s) (T:Turn X.prog X.w X.K t1 J fp it tn) (st:tn 0 s.heap) (hf:∀ b∈fp,BH X zB H b)
  (c1:∀ x c,cl.lookup x=some c->X.env.cells.lookup x=some c) (c2:∀ y∈scope.names,y.2=.free->(cl.lookup y.1).isSome=true)
  (hg:PG (zH X zB scope cl s H fp) t1 g) (hi:DE (zH X zB scope cl s H fp) f1 tc)
  (hi2:PI (zH X zB scope cl s H fp) t2 i2 wi2) (hg2:PG (zH X zB scope cl s H fp) t2 g2) (hc2:DE (zH X zB scope cl s H fp) f2 tc2) (he:PE (zH X zB scope cl s H fp) elt te)
  (hs2:∀ x,foldedSetIterable i2 (zH X zB scope cl s H fp).env x=pure x)
  {RR:Value->Addr->Result->Shared->Prop} {QQ:List V->Hp->Prop} {W:Nat->Nat->List V->Hp->Prop} {m0:Nat} (w0:W 0 m0 [] H)
  (turn:∀ i m ys H,W i m ys H->(J.stop i H/\ys.length<=sizeLine/\QQ ys H) \/
   (J.go i H /\ ∀ x H',J.yld i H x H'->g x (clr own Y) H' λσ2 H2=>Ext (clr own Y) σ2/\tc σ2 H2 λb H3=>
    if b=true then tIn own2 wi2 g2 tc2 te σ2 H3 ys λzs H4=>∃ m',m'<m/\W (i+1) m' zs H4 else ∃ m',m'<m/\W (i+1) m' ys H3))
  (fin:∀ σc H' s' its n ys,Inv (zH X zB scope cl s H fp) [(s.heap.objs.size,za its n)] σc H' s'->zY ys its->ys.length<=sizeLine->QQ ys H'->RR (.ref s.heap.objs.size) (s.heap.objs.size+1) (.ok .next) s') :
  wpAny (model X.prog X.w) X.A (newList []) (λacc s₃=>wpAny (model X.prog X.w) X.A (newFunctionEnv scope X.env.globals cl [] X.env.qual none .none (some X.env)) (λcenv s₄=>
   codeAny (model X.prog X.w) X.A (.compStart (Bh elt t1 i1 f1 t2 i2 f2 scope pos) 0 (.ref it) acc { cenv with scope:=relabel scope X.env }) (RR acc cenv.locals) s₄) E s₃) E s:=by
 have ob:∀ b:Nat,b∈fp->b<s.heap.objs.size:=λb hb=>let ⟨_,e,_⟩:=T.obj 0 _ st b hb;AH e;refine A9 (IM ?_);have sz1:(s.heap.push (za [] 0)).objs.size=s.heap.objs.size+1:=Bv ..;have I4:=JF (X:=X) (zB:=zB) (Y:=Y) (σc:=clr own Y) (H:=H) (s:=s) (scope:=scope) (cl:=cl) (fp:=fp) C.sc I hf ob c1 c2 (Fq own Y) (λi x v h1 h2 h3=>by
  obtain ⟨a,b⟩:=Et own Y i v h2;rcases C.nm i x h1 with z|z|z
  .exact absurd z b
  .exact absurd (Jp x z) h3
  .exact ⟨z,a⟩) (za [] 0) (by intro v z;cases z) rfl rfl
 have st4:tn 0 (pushCells ((s.heap.push (za [] 0)).push { cls:=.type "dict", data:=.dict #[] }) scope.names):=T.keep 0 _ _ st λb _ o e=>pushCells_keeps _ _ b o (AJ _ (AJ _ e));unfold newEnv;rw[sz1];have hDfp:s.heap.objs.size∉fp:=λz=>BV _ (ob _ z);have hcD:∀ x c,(zH X zB scope cl s H fp).env.cells.lookup x=some c->c≠s.heap.objs.size:=λx c e z=>by
  obtain ⟨v,o,ho,hd⟩:=I4.cell x c e;obtain ⟨q,_⟩:=I4.pin (s.heap.objs.size,za [] 0) (by simp);rw[z,q]at ho;cases ho;cases hd
 have fpk:∀ {H':Hp} {pl:Yd},(∀ b∈fp,H' b=none)->(∀ p∈pl,p.1=s.heap.objs.size) -> ∀ b∈fp,BH (zH X zB scope cl s H fp) pl H' b:=λ{H' pl} hn hp b hb=>
  ⟨hn b hb,(I4.ok.exf b hb).1,I4.ok.exfs b hb,.inl hb,(I4.ok.exf b hb).2,λp hq=>by
   rcases Ai.mp hq with z|z
   .exact (hf b hb).2.2.2.2.2 p z
   .intro e;have e2:=hp p z;rw[e]at e2;exact hDfp (e2▸hb)⟩
 have loop:codeAny (model X.prog X.w) X.A (.compLoop (Bh elt t1 i1 f1 t2 i2 f2 scope pos) 0 (.ref it) (.ref s.heap.objs.size) (zH X zB scope cl s H fp).env) (RR (.ref s.heap.objs.size) (s.heap.objs.size+1))
   { s with heap:=pushCells ((s.heap.push (za [] 0)).push { cls:=.type "dict", data:=.dict #[] }) scope.names }:=by
  refine Uk hs2 (λn s'=>∃ i H' ys its k,Inv (zH X zB scope cl s H fp) [(s.heap.objs.size,za its k)] (clr own Y) H' s'/\zY ys its/\tn i s'.heap/\(∀ b∈fp,H' b=none)/\W i n ys H') ?_ m0
   ⟨0,H,[],[],0,I4,.nil,st4,λb hb=>(hf b hb).1,w0⟩
  rintro n s5 ⟨i,H5,ys,its,k,I5,r5,st5,f5,w5⟩;have pinD:∀ p∈[(s.heap.objs.size,za its k)],p.1=s.heap.objs.size:=λp hp=>by
   have:p=(s.heap.objs.size,za its k):=by simpa using hp
   rw[this]
  rcases turn i n ys H5 w5 with ⟨stop,hz,qq⟩|⟨go,step⟩
  .refine thn (T.done (zH X zB scope cl s H fp) rfl rfl rfl hcalm i _ s5 _ H5 _ I5 (fpk f5 pinD) st5 stop) λr s6 ⟨hr,I6⟩=>?_;subst hr;exact fin _ H5 s6 its k ys I6 r5 hz qq
  .refine thn (T.item (zH X zB scope cl s H fp) rfl rfl rfl hcalm i _ s5 _ H5 _ I5 (fpk f5 pinD) st5 go) λr s6 ⟨u,hr,h6⟩=>?_;subst hr;refine thn h6 λ_ s7 ⟨x,H7,I7,r7,y7,st7,f7⟩=>?_;have I7':=I7.pinned (fpk f7 pinD) (T.obj _ _ st7);refine thn (hg _ s7 _ H7 x u _ I7' r7 (step x H7 y7)) λ_ s8 ⟨σ8,H8,I8,x8,q8⟩=>?_;refine thn (hi _ s8 σ8 H8 _ I8 q8) λok s9 ⟨H9,I9,q9⟩=>?_;have back:∀ {σx:St} {s':Yl} {Hx:Hp} {its:Yf} {k:Nat},(clr own Y).length=σx.length->(∀ (i:Nat) v,(clr own Y)[i]?=some (some v)->σx[i]?=some (some v))->Inv (zH X zB scope cl s H fp) (EF fp s7.heap++[(s.heap.objs.size,za its k)]) σx Hx s'->Inv (zH X zB scope cl s H fp) [(s.heap.objs.size,za its k)] (clr own Y) Hx s'/\tn (i+1) s'.heap /\ ∀ b∈fp,Hx b=none:=λ{σx s' Hx its k} hl hk Ix=>
    ⟨(Ix.weak hl hk).pins_of λp hp=>Ix.pin p (Ah _ (Ah _ hp)),
     T.keep _ _ _ st7 λb hb o e=>(Ix.pin (b,o) (Ah _ (CS _ (DD hb e)))).1,λb hb=>by
     obtain ⟨o,e,d⟩:=T.obj _ _ st7 b hb;exact (Ix.pin (b,o) (Ah _ (CS _ (DD hb e)))).2.1⟩
   have I9':Inv (zH X zB scope cl s H fp) (EF fp s7.heap++[(s.heap.objs.size,za its k)]) σ8 H9 s9:=I9.pins_of λp hp=>I9.pin p (Ah _ (by
    rcases Ai.mp hp with z|z
    .exact Ah _ z
    .exact CS _ z))
   cases ok with
   |false=>
    obtain ⟨m',hm,w'⟩:=q9;obtain ⟨b0,b1,b2⟩:=back (by rw[x8.1]) x8.2 I9';exact ⟨m',hm,i+1,H9,ys,its,k,b0,r5,b1,b2,w'⟩
   |true=>
    refine fP (C:=zH X zB scope cl s H fp) rfl hcalm hi2 hg2 hc2 he (AF _) hcD (λp hp=>?_) I9' r5 q9 λs' H' its' k' zs I' rv' q'=>?_
    .rcases Ai.mp hp with z|z
     .exact Ab (AH (I.pin p z).1)
     .obtain ⟨hb,_⟩:=QJ z;exact Ab (ob _ hb)
    .obtain ⟨m',hm,w'⟩:=q';obtain ⟨b0,b1,b2⟩:=back (by rw[Fq own2,x8.1]) (λi v hv=>by rw[Pb own2 _ i (λz=>(Et own Y i v hv).2 (hsub i z))];exact x8.2 i v hv) I';exact ⟨rfl,m',hm,i+1,H',zs,its',k',b0,rv',b1,b2,w'⟩
 exact codeAny_compStart_list loop (T.self _ 0 _ _ _ st4 loop)
noncomputable def Oj (own own2:Yj) (wi:TI) (g:TG) (tc:TT) (wi2:TI) (g2:TG) (tc2:TT) (te:TE):TE:=λY H Q=>wi Y H λJ H1=>∃ W:Nat->Nat->List V->Hp->Prop,(∃ m,W 0 m [] H1) /\ ∀ i m ys H,W i m ys H ->
 (J.stop i H/\ys.length<=sizeLine /\ ∀ D,H D=none->Q (.ref D) (upd H D (.lst ys))) \/
 (J.go i H /\ ∀ x H',J.yld i H x H'->g x (clr own Y) H' λσ2 H2=>Ext (clr own Y) σ2/\tc σ2 H2 λb H3=>
  if b=true then tIn own2 wi2 g2 tc2 te σ2 H3 ys λzs H4=>∃ m',m'<m/\W (i+1) m' zs H4 else ∃ m',m'<m/\W (i+1) m' ys H3)
structure CompParts2 (X:Cx) (scope:Y0) (t1:Expr) (f1:Yi) (t2 i2:Expr) (f2:Yi) (elt:Expr) (g:TG) (tc:TT) (wi2:TI) (g2:TG) (tc2:TT) (te:TE):Prop where
 g:∀ zB cl s H fp,PG (zH X zB scope cl s H fp) t1 g
 c:∀ zB cl s H fp,DE (zH X zB scope cl s H fp) f1 tc
 w2:∀ zB cl s H fp,PI (zH X zB scope cl s H fp) t2 i2 wi2
 g2:∀ zB cl s H fp,PG (zH X zB scope cl s H fp) t2 g2
 c2:∀ zB cl s H fp,DE (zH X zB scope cl s H fp) f2 tc2
 e:∀ zB cl s H fp,PE (zH X zB scope cl s H fp) elt te
 s2:∀ zB cl s H fp x,foldedSetIterable i2 (zH X zB scope cl s H fp).env x=pure x
def aR (hsub:∀ i∈own2,i∈own) (C:CompIn X scope own) (hcalm:X.calm=true) (hi:PI X t1 i1 wi) (p:CompParts2 X scope t1 f1 t2 i2 f2 elt g tc wi2 g2 tc2 te) (hs:∀ x,foldedSetIterable i1 X.env x=pure x:=by intro _;rfl) :
  PE X (Bh elt t1 i1 f1 t2 i2 f2 scope pos) (Oj own own2 wi g tc wi2 g2 tc2 te):=by
 intro zB s Y H Q I h;obtain ⟨cl,hcl,c1,c2⟩:=C.sc.closure I;rw[eval_ListComp];refine Ge (use:=none) rfl hs hcl C.sc.kind C.sc.names (thn (hi zB s Y H _ I h) λv s1 h1=>thn h1 λitv s2 h2=>?_);obtain ⟨it,fp,tn,J,H2,e,I2,T,st2,f2,W,⟨m0,w0⟩,turn⟩:=h2;subst e;refine VG hsub C hcalm I2 T st2 f2 c1 c2 (p.g _ _ _ _ _) (p.c _ _ _ _ _) (p.w2 _ _ _ _ _) (p.g2 _ _ _ _ _) (p.c2 _ _ _ _ _) (p.e _ _ _ _ _) (p.s2 _ _ _ _ _) (RR:=λacc C r s'=>compPost (model X.prog X.w) X.A X.xe none (EP X zB Y Q) acc C r s') (QQ:=λys H=>∀ D,H D=none->Q (.ref D) (upd H D (.lst ys))) w0 turn ?_;intro σc H' s' its n ys Ic rv hz qq;obtain ⟨m,hn,_⟩:=Ic.loc;refine ⟨m,hn,λh' hs'=>?_⟩;obtain ⟨J',nD⟩:=KS I2 f2 Ic rv hz hs';exact ⟨.ref s2.heap.objs.size,_,J',rfl,qq _ nD⟩
end
end L2
namespace L3
open L2
noncomputable abbrev Sv:=List (Option V)
set_option genInjectivity true in
inductive D where
 |non|bl (b:Bool)|int (i:Int)|str (x:Str)|tup (xs:List D)|ref (n:Nat)
set_option genInjectivity true in
inductive MO where
 |lst (xs:List D)|fro (xs:List D)|dict (kvs:List (D × D))|dicT (kvs:List (D × D))|set (xs:List D)|froT (kvs:List (D × D))|froK (kvs:List (D × D))
mutual
def Rep (L:Yg) (H:Hp):D->V->Prop
 |.non,v=>v=.non
 |.bl b,v=>v=.bl b
 |.int i,v=>v=.int i
 |.str x,v=>v=.str x
 |.tup ds,v=>∃ a vs,v=.ref a/\H a=some (.tup vs)/\zJ L H ds vs
 |.ref n,v=>∃ a,v=.ref a/\L[n]?=some a
def zJ (L:Yg) (H:Hp):List D->List V->Prop
 |[],vs=>vs=[]
 |d::ds,vs=>∃ v r,vs=v::r/\Rep L H d v/\zJ L H ds r
end
def zJ.length:∀ {ds:List D} {vs:List V},zJ L H ds vs->vs.length=ds.length
 |[],_,h=>by unfold zJ at h;subst h;rfl
 |d::ds,_,h=>by
  unfold zJ at h;obtain ⟨v,r,rfl,_,h2⟩:=h;simp[zJ.length h2]
def zJ.nil:zJ L H [] []:=by unfold zJ;rfl
def zJ.cons (h:Rep L H d v) (t:zJ L H ds vs):zJ L H (d::ds) (v::vs):=by
 unfold zJ;exact ⟨v,vs,rfl,h,t⟩
def zJ.get:∀ {ds:List D} {vs:List V} {i:Nat} {d:D},zJ L H ds vs->ds[i]?=some d -> ∃ v,vs[i]?=some v/\Rep L H d v
 |[],_,_,_,_,e=>by simp at e
 |d::ds,_,0,d',h,e=>by
  unfold zJ at h;obtain ⟨v,r,rfl,h1,h2⟩:=h;simp at e;subst e;exact ⟨v,rfl,h1⟩
 |d::ds,_,i+1,d',h,e=>by
  unfold zJ at h;obtain ⟨v,r,rfl,h1,h2⟩:=h;obtain ⟨u,e1,e2⟩:=zJ.get (i:=i) h2 (by simpa using e);exact ⟨u,by simpa using e1,e2⟩
def zJ.app:∀ {ds es:List D} {vs ws:List V},zJ L H ds vs->zJ L H es ws->zJ L H (ds++es) (vs++ws)
 |[],_,_,_,h,t=>by unfold zJ at h;subst h;exact t
 |d::ds,_,_,_,h,t=>by
  unfold zJ at h;obtain ⟨v,r,rfl,h1,h2⟩:=h;exact .cons h1 (zJ.app h2 t)
def zJ.set (h:Rep L H d v):∀ {ds:List D} {vs:List V} (i:Nat),zJ L H ds vs->zJ L H (ds.set i d) (vs.set i v)
 |[],_,_,t=>by unfold zJ at t;subst t;exact .nil
 |_::_,_,0,t=>by
  unfold zJ at t;obtain ⟨v',r,rfl,h1,h2⟩:=t;exact .cons h h2
 |_::_,_,i+1,t=>by
  unfold zJ at t;obtain ⟨v',r,rfl,h1,h2⟩:=t;exact .cons h1 (zJ.set h i h2)
def zJ.drop:∀ {ds:List D} {vs:List V} (n:Nat),zJ L H ds vs->zJ L H (ds.drop n) (vs.drop n)
 |_,_,0,t=>t
 |[],_,n+1,t=>by unfold zJ at t;subst t;exact .nil
 |_::_,_,n+1,t=>by
  unfold zJ at t;obtain ⟨v',r,rfl,h1,h2⟩:=t;exact zJ.drop n h2
def zJ.take:∀ {ds:List D} {vs:List V} (n:Nat),zJ L H ds vs->zJ L H (ds.take n) (vs.take n)
 |_,_,0,t=> .nil
 |[],_,n+1,t=>by unfold zJ at t;subst t;exact .nil
 |_::_,_,n+1,t=>by
  unfold zJ at t;obtain ⟨v',r,rfl,h1,h2⟩:=t;exact .cons h1 (zJ.take n h2)
def zJ.eraseIdx:∀ {ds:List D} {vs:List V} (n:Nat),zJ L H ds vs->zJ L H (ds.eraseIdx n) (vs.eraseIdx n)
 |[],_,n,t=>by unfold zJ at t;subst t;exact .nil
 |_::_,_,0,t=>by
  unfold zJ at t;obtain ⟨v',r,rfl,h1,h2⟩:=t;exact h2
 |_::_,_,n+1,t=>by
  unfold zJ at t;obtain ⟨v',r,rfl,h1,h2⟩:=t;exact .cons h1 (zJ.eraseIdx n h2)
structure Stp (L:Yg) (H:Hp) (L':Yg) (H':Hp):Prop where
 pre:∃ N,L'=L++N
 new:∀ a∈L',a∈L\/H a=none
 old:∀ a o,H a=some o->a∉L->H' a=some o
 tup:∀ a xs,H a=some (.tup xs)->H' a=some (.tup xs)
 frz:∀ a o u,H a=some (.frz o u)->H' a=some (.frz o u)
def Stp.refl (L:Yg) (H:Hp):Stp L H L H:=⟨⟨[],by simp⟩,λ_ h=> .inl h,λ_ _ h _=>h,λ_ _ h=>h,λ_ _ _ h=>h⟩
def Stp.trans (a:Stp L H L1 H1) (b:Stp L1 H1 L2 H2):Stp L H L2 H2:=by
 obtain ⟨N,rfl⟩:=a.pre;obtain ⟨N',rfl⟩:=b.pre;have back:∀ c,c∉L->H1 c=none->H c=none:=λc hc h1=>by
  cases q:H c with
  |none=>rfl
  |some o=>rw[a.old c o q hc]at h1;cases h1
 refine ⟨⟨N++N',by simp⟩,λc hc=>?_,λc o e hc=>?_,λc xs e=>b.tup c xs (a.tup c xs e),λc o u e=>b.frz c o u (a.frz c o u e)⟩
 .by_cases hL:c∈L
  .exact .inl hL
  .rcases b.new c hc with z|z
   .exact a.new c z
   .exact .inr (back c hL z)
 .refine b.old c o (a.old c o e hc) λz=>?_;rcases a.new c z with q|q
  .exact hc q
  .rw[q]at e;cases e
def Stp.grow (h:∀ a o,H a=some o->H' a=some o):Stp L H L H':=⟨⟨[],by simp⟩,λ_ h=> .inl h,λa o e _=>h a o e,λa _ e=>h a _ e,λa _ _ e=>h a _ e⟩
theorem Stp.upd (h:H p=none):Stp L H L (upd H p o):=.grow λa u e=>by rw[zT (zv e h)];exact e
def EC {L N:Yg} {n:Nat} {a:Yt} (h:L[n]?=some a):(L++N)[n]?=some a:=by
 rw[AW (AK.mp h).1];exact h
mutual
theorem Rep.stp {L L':Yg} {H H':Hp} (s:Stp L H L' H'):∀ {d:D} {v:V},Rep L H d v->Rep L' H' d v
 |.non,_,h=>by unfold Rep at h ⊢;exact h
 |.bl _,_,h=>by unfold Rep at h ⊢;exact h
 |.int _,_,h=>by unfold Rep at h ⊢;exact h
 |.str _,_,h=>by unfold Rep at h ⊢;exact h
 |.tup ds,_,h=>by
  unfold Rep at h ⊢;obtain ⟨a,vs,rfl,e,r⟩:=h;exact ⟨a,vs,rfl,s.tup a vs e,zJ.stp s r⟩
 |.ref n,_,h=>by
  unfold Rep at h ⊢;obtain ⟨a,rfl,e⟩:=h;obtain ⟨N,rfl⟩:=s.pre;exact ⟨a,rfl,EC e⟩
theorem zJ.stp (s:Stp L H L' H'):∀ {ds:List D} {vs:List V},zJ L H ds vs->zJ L' H' ds vs
 |[],_,h=>by unfold zJ at h ⊢;exact h
 |d::ds,_,h=>by
  unfold zJ at h ⊢;obtain ⟨v,r,rfl,h1,h2⟩:=h;exact ⟨v,r,rfl,Rep.stp s h1,zJ.stp s h2⟩
end
noncomputable def B4:D->Option Key
 |.int i=>some (.inl i)
 |.str x=>some (.inr x)
 |_=>none
noncomputable def DF:List D->Option (List Key)
 |[]=>some []
 |d::r=>match B4 d,DF r with
  |some k,some ks=>some (k::ks)
  |_,_=>none
noncomputable def tkD:D->Option (List Key)
 |.tup ds=>DF ds
 |_=>none
def Aa {κ:Type} (kf:D->Option κ) (L:Yg) (H:Hp):List (D × D)->List (κ × V)->Prop
 |[],vs=>vs=[]
 |p::r,vs=>∃ k v r',vs=(k,v)::r'/\kf p.1=some k/\Rep L H p.2 v/\Aa kf L H r r'
def Aa.stp {κ:Type} {kf:D->Option κ} {L L':Yg} {H H':Hp} (s:Stp L H L' H'):∀ {ps:List (D × D)} {vs:List (κ × V)},Aa kf L H ps vs->Aa kf L' H' ps vs
 |[],_,h=>h
 |p::r,_,h=>by
  obtain ⟨k,v,r',rfl,e,h1,h2⟩:=h;exact ⟨k,v,r',rfl,e,h1.stp s,Aa.stp s h2⟩
def Aa.length {κ:Type} {kf:D->Option κ} {L:Yg} {H:Hp}:∀ {ps:List (D × D)} {vs:List (κ × V)},Aa kf L H ps vs->vs.length=ps.length
 |[],_,h=>by unfold Aa at h;subst h;rfl
 |p::r,_,h=>by
  obtain ⟨k,v,r',rfl,e,h1,h2⟩:=h;simp[Aa.length h2]
def Dc (K:Yb) (L:Yg) (H:Hp) (a:Yt):MO->Prop
 |.lst xs=>∃ vs,H a=some (.lst vs)/\zJ L H xs vs
 |.fro xs=>∃ o vs,H a=some (.frz o (.lst vs))/\zJ L H xs vs
 |.dict ps=>∃ vs,H a=some (.dK vs)/\Aa B4 L H ps vs
 |.dicT ps=>∃ vs,H a=some (.dT vs)/\Aa tkD L H ps vs
 |.set _=>∃ o u,H a=some (.frz o u)
 |.froT ps=>∃ o vs,H a=some (.frz o (.dT vs))/\Aa tkD L H ps vs
 |.froK ps=>∃ o vs,H a=some (.frz o (.dK vs))/\Aa B4 L H ps vs
def Dc.there {K:Yb} {L:Yg} {H:Hp} {a:Yt} {m:MO} (h:Dc K L H a m):∃ o,H a=some o:=by
 cases m with
 |lst xs=>obtain ⟨vs,e,_⟩:=h;exact ⟨_,e⟩
 |fro xs=>obtain ⟨o,vs,e,_⟩:=h;exact ⟨_,e⟩
 |dict ps=>obtain ⟨vs,e,_⟩:=h;exact ⟨_,e⟩
 |dicT ps=>obtain ⟨vs,e,_⟩:=h;exact ⟨_,e⟩
 |set _=>obtain ⟨o,u,e⟩:=h;exact ⟨_,e⟩
 |froT ps=>obtain ⟨o,vs,e,_⟩:=h;exact ⟨_,e⟩
 |froK ps=>obtain ⟨o,vs,e,_⟩:=h;exact ⟨_,e⟩
def Dc.stp {K:Yb} {L L':Yg} {H H':Hp} {a:Yt} {m:MO} (s:Stp L H L' H') (hk:∀ o,H a=some o->H' a=some o) (h:Dc K L H a m):Dc K L' H' a m:=by
 cases m with
 |lst xs=>obtain ⟨vs,e,r⟩:=h;exact ⟨vs,hk _ e,r.stp s⟩
 |fro xs=>obtain ⟨o,vs,e,r⟩:=h;exact ⟨o,vs,hk _ e,r.stp s⟩
 |dict ps=>obtain ⟨vs,e,r⟩:=h;exact ⟨vs,hk _ e,r.stp s⟩
 |dicT ps=>obtain ⟨vs,e,r⟩:=h;exact ⟨vs,hk _ e,r.stp s⟩
 |set _=>obtain ⟨o,u,e⟩:=h;exact ⟨o,u,hk _ e⟩
 |froT ps=>obtain ⟨o,vs,e,r⟩:=h;exact ⟨o,vs,hk _ e,r.stp s⟩
 |froK ps=>obtain ⟨o,vs,e,r⟩:=h;exact ⟨o,vs,hk _ e,r.stp s⟩
structure Cor (K:Yb) (L:Yg) (M:List MO) (H:Hp):Prop where
 len:L.length=M.length
 nd:L.Nodup
 obj:∀ (n:Nat) a m,L[n]?=some a->M[n]?=some m->Dc K L H a m
def Aj (L:Yg) (H:Hp) (Y:List (Option D)) (τ:Sv):Prop:=τ.length=Y.length /\ ∀ (i:Nat) d,Y[i]?=some (some d) -> ∃ v,τ[i]?=some (some v)/\Rep L H d v
def Aj.stp (s:Stp L H L' H') (h:Aj L H Y τ):Aj L' H' Y τ :=
 ⟨h.1,λi d e=>let ⟨v,e1,r⟩:=h.2 i d e;⟨v,e1,r.stp s⟩⟩
def Cor.tracked {K:Yb} {L:Yg} {M:List MO} {H:Hp} (c:Cor K L M H) {a:Yt} (h:a∈L):∃ o,H a=some o:=by
 obtain ⟨n,hn⟩:=List.getElem?_of_mem h;have hl:n<M.length:=by rw[<-c.len];exact (AK.mp hn).1
 have m:=c.obj n a M[n] hn (AS hl);exact m.there
def Cor.grow {K:Yb} {L:Yg} {M:List MO} {H H':Hp} (c:Cor K L M H) (h:∀ a o,H a=some o->H' a=some o):Cor K L M H':=by
 exact ⟨c.len,c.nd,λn a m e1 e2=>(c.obj n a m e1 e2).stp (.grow h) λo e=>h a o e⟩
theorem Cor.upd {K:Yb} {L:Yg} {M:List MO} {H:Hp} {p:Yt} {o:HO} (c:Cor K L M H) (h:H p=none):Cor K L M (upd H p o):=c.grow λa u e=>by rw[zT (zv e h)];exact e
def Cor.write {K:Yb} {L:Yg} {M:List MO} {H:Hp} {n:Nat} {p:Yt} {xs xs':List D} {vs':List V} (c:Cor K L M H) (h1:L[n]?=some p) (h2:M[n]?=some (.lst xs)) (r:zJ L H xs' vs') :
  Cor K L (M.set n (.lst xs')) (L2.upd H p (.lst vs'))/\Stp L H L (L2.upd H p (.lst vs')):=by
 obtain ⟨vs,hp,_⟩:=c.obj n p _ h1 h2;have st:Stp L H L (L2.upd H p (.lst vs')):=by
  refine ⟨⟨[],by simp⟩,λa ha=> .inl ha,λa o e ha=>?_,λa o e=>?_,λa o u e=>?_⟩
  .rw[zT (show a≠p from λz=>ha (by rw[z];exact FJ h1))];exact e
  .rw[zT (Fo e hp (by intro z;cases z))];exact e
  .rw[zT (Fo e hp (by intro z;cases z))];exact e
 refine ⟨⟨by simp[c.len],c.nd,λk a m e1 e2=>?_⟩,st⟩;rw[D5]at e2;split at e2
 .rename_i hk;subst hk;rw[h1]at e1;cases e1;split at e2
  .cases e2;exact ⟨vs',zr,r.stp st⟩
  .cases e2
 .rename_i hk;have hne:a≠p:=λz=>hk (by
   subst z;exact (List.getElem?_inj (AK.mp h1).1 c.nd).mp (h1.trans e1.symm))
  exact (c.obj k a m e1 e2).stp st λo e=>by rw[zT hne];exact e
set_option genInjectivity true in
inductive EV where
 |dat (d:D)|fl (xs:List D)
def zW (H0:Hp) (L:Yg) (H:Hp):EV->V->Prop
 |.dat d,v=>Rep L H d v
 |.fl xs,v=>∃ p vs,v=.ref p/\H0 p=none/\H p=some (.lst vs)/\p∉L/\zJ L H xs vs
noncomputable abbrev Sd:=List (Option D)
noncomputable abbrev Mem:=List MO
noncomputable abbrev FE:=Sd->Mem->Option (EV × Mem)
noncomputable abbrev FD:=Sd->Mem->Option (D × Mem)
noncomputable abbrev FT:=Sd->Mem->Option (Bool × Mem)
noncomputable abbrev FA:=Sd->Mem->Option (List D × Mem)
def Stp.out (s:Stp L H L' H') (h:H p=some o) (hp:p∉L):p∉L':=λz=>by
 rcases s.new p z with q|q
 .exact hp q
 .rw[h]at q;cases q
def zW.stp (s:Stp L H L' H') (h:zW H0 L H e v):zW H0 L' H' e v:=by
 cases e with
 |dat d=>exact Rep.stp s h
 |fl xs=>
  obtain ⟨p,vs,rfl,e0,e1,e2,r⟩:=h;exact ⟨p,vs,rfl,e0,s.old p _ e1 e2,s.out e1 e2,r.stp s⟩
def zW.back {H0 H1:Hp} {L0 L1 L:Yg} {H:Hp} (s:Stp L0 H0 L1 H1) {M:List MO} {K:Yb} (c:Cor K L0 M H0) {e:EV} {v:V} (h:zW H1 L H e v) (hL:∀ a∈L1,a∈L):zW H0 L H e v:=by
 cases e with
 |dat d=>exact h
 |fl xs=>
  obtain ⟨p,vs,rfl,e0,e1,e2,r⟩:=h;refine ⟨p,vs,rfl,?_,e1,e2,r⟩;cases q:H0 p with
  |none=>rfl
  |some o=>
   by_cases hp:p∈L0
   .obtain ⟨N,hN⟩:=s.pre;exact absurd (hL p (by rw[hN];exact CS _ hp)) e2
   .rw[s.old p o q hp]at e0;cases e0
section
variable (K:Yb)
noncomputable def trE (f:FE):TE:=λτ H Q=>∃ L Y M d M',Cor K L M H/\Aj L H Y τ/\f Y M=some (d,M') /\ ∀ L' H' v,Stp L H L' H'->Cor K L' M' H'->zW H L' H' d v->Q v H'
noncomputable def trD (f:FD):TE:=λτ H Q=>∃ L Y M d M',Cor K L M H/\Aj L H Y τ/\f Y M=some (d,M') /\ ∀ L' H' v,Stp L H L' H'->Cor K L' M' H'->Rep L' H' d v->Q v H'
noncomputable def trT (f:FT):TT:=λτ H Q=>∃ L Y M d M',Cor K L M H/\Aj L H Y τ/\f Y M=some (d,M') /\ ∀ L' H',Stp L H L' H'->Cor K L' M' H'->Q d H'
noncomputable def trA (f:FA):TA:=λτ H Q=>∃ L Y M ds M',Cor K L M H/\Aj L H Y τ/\f Y M=some (ds,M') /\ ∀ L' H' vs,Stp L H L' H'->Cor K L' M' H'->zJ L' H' ds vs->Q vs H'
end
def mkE {K:Yb} {f:FE} {τ:Sv} {H:Hp} {Q:VK} {Y:Sd} {M M':Mem} {d:EV} (c:Cor K L M H) (r:Aj L H Y τ) (e:f Y M=some (d,M')) (q:∀ L' H' v,Stp L H L' H'->Cor K L' M' H'->zW H L' H' d v->Q v H'):trE K f τ H Q:=⟨_,_,_,_,_,c,r,e,q⟩
def mkD {K:Yb} {f:FD} {τ:Sv} {H:Hp} {Q:VK} {Y:Sd} {M M':Mem} {d:D} (c:Cor K L M H) (r:Aj L H Y τ) (e:f Y M=some (d,M')) (q:∀ L' H' v,Stp L H L' H'->Cor K L' M' H'->Rep L' H' d v->Q v H'):trD K f τ H Q:=⟨_,_,_,_,_,c,r,e,q⟩
def mkT {K:Yb} {f:FT} {τ:Sv} {H:Hp} {Q} {Y:Sd} {M M':Mem} {d} (c:Cor K L M H) (r:Aj L H Y τ) (e:f Y M=some (d,M')) (q:∀ L' H',Stp L H L' H'->Cor K L' M' H'->Q d H'):trT K f τ H Q:=⟨_,_,_,_,_,c,r,e,q⟩
def mkA {K:Yb} {f:FA} {τ:Sv} {H:Hp} {Q} {Y:Sd} {M M':Mem} {ds} (c:Cor K L M H) (r:Aj L H Y τ) (e:f Y M=some (ds,M')) (q:∀ L' H' vs,Stp L H L' H'->Cor K L' M' H'->zJ L' H' ds vs->Q vs H'):trA K f τ H Q:=⟨_,_,_,_,_,c,r,e,q⟩
def PE.imp (h:PE X e t) (hi:∀ τ H Q,t' τ H Q->t τ H Q):PE X e t':=λzB s Y H Q I q=>h zB s Y H Q I (hi _ _ _ q)
def PT.imp (h:PT X e t) (hi:∀ τ H Q,t' τ H Q->t τ H Q):PT X e t':=λzB s Y H Q I q=>h zB s Y H Q I (hi _ _ _ q)
def PS.imp {st:Stmt} {t t':TS} (h:PS X st t) (hi:∀ D τ H,t' D τ H->t D τ H):PS X st t':=λzB s Y H D I q=>h zB s Y H D I (hi _ _ _ q)
def PSs.imp {st:Yy} {t t':TS} (h:PSs X st t) (hi:∀ D τ H,t' D τ H->t D τ H):PSs X st t':=λzB s Y H D I q=>h zB s Y H D I (hi _ _ _ q)
structure QE (X:Cx) (e:Expr) (f:FE):Prop where
 un:PE X e (trE X.K f)
structure QD (X:Cx) (e:Expr) (f:FD):Prop where
 un:PE X e (trD X.K f)
structure QT (X:Cx) (e:Expr) (f:FT):Prop where
 un:PT X e (trT X.K f)
structure QA (X:Cx) (es:Yi) (f:FA):Prop where
 un:PA X es (trA X.K f)
noncomputable def toD (f:FE):FD:=λY M=>match f Y M with
 |some (.dat d,M')=>some (d,M')
 |some (.fl xs,M')=>some (.ref M'.length,M'++[.lst xs])
 |none=>none
mutual
theorem Rep.more (N:Yg):∀ {d:D} {v:V},Rep L H d v->Rep (L++N) H d v
 |.non,_,h=>by unfold Rep at h ⊢;exact h
 |.bl _,_,h=>by unfold Rep at h ⊢;exact h
 |.int _,_,h=>by unfold Rep at h ⊢;exact h
 |.str _,_,h=>by unfold Rep at h ⊢;exact h
 |.tup ds,_,h=>by
  unfold Rep at h ⊢;obtain ⟨a,vs,rfl,e,r⟩:=h;exact ⟨a,vs,rfl,e,zJ.more N r⟩
 |.ref n,_,h=>by
  unfold Rep at h ⊢;obtain ⟨a,rfl,e⟩:=h;exact ⟨a,rfl,EC e⟩
theorem zJ.more (N:Yg):∀ {ds:List D} {vs:List V},zJ L H ds vs->zJ (L++N) H ds vs
 |[],_,h=>by unfold zJ at h ⊢;exact h
 |d::ds,_,h=>by
  unfold zJ at h ⊢;obtain ⟨v,r,rfl,h1,h2⟩:=h;exact ⟨v,r,rfl,Rep.more N h1,zJ.more N h2⟩
end
def Aa.more {κ:Type} {kf:D->Option κ} {L:Yg} {H:Hp} (N:Yg):∀ {ps:List (D × D)} {vs:List (κ × V)},Aa kf L H ps vs->Aa kf (L++N) H ps vs
 |[],_,h=>h
 |p::r,_,h=>by
  obtain ⟨k,v,r',rfl,e,h1,h2⟩:=h;exact ⟨k,v,r',rfl,e,h1.more N,Aa.more N h2⟩
def Dc.more {K:Yb} {L:Yg} {H:Hp} {a:Yt} {m:MO} (N:Yg) (h:Dc K L H a m):Dc K (L++N) H a m:=by
 cases m with
 |lst xs=>obtain ⟨vs,e,r⟩:=h;exact ⟨vs,e,r.more N⟩
 |fro xs=>obtain ⟨o,vs,e,r⟩:=h;exact ⟨o,vs,e,r.more N⟩
 |dict ps=>obtain ⟨vs,e,r⟩:=h;exact ⟨vs,e,r.more N⟩
 |dicT ps=>obtain ⟨vs,e,r⟩:=h;exact ⟨vs,e,r.more N⟩
 |set _=>exact h
 |froT ps=>obtain ⟨o,vs,e,r⟩:=h;exact ⟨o,vs,e,r.more N⟩
 |froK ps=>obtain ⟨o,vs,e,r⟩:=h;exact ⟨o,vs,e,r.more N⟩
def OG {K:Yb} {L L':Yg} {M':List MO} {H H':Hp} {p:Yt} {xs:List D} {vs:List V} (s:Stp L H L' H') (c:Cor K L' M' H') (h0:H p=none) (h1:H' p=some (.lst vs)) (h2:p∉L') (r:zJ L' H' xs vs) :
  Cor K (L'++[p]) (M'++[.lst xs]) H'/\Stp L H (L'++[p]) H':=by
 refine ⟨⟨by simp[c.len],?_,λn a m e1 e2=>?_⟩,?_⟩
 .rw[DS];exact ⟨c.nd,by simp,λa ha b hb z=>by
   have:b=p:=by simpa using hb
   subst this;subst z;exact h2 ha⟩
 .by_cases hn:n<L'.length
  .rw[AW hn]at e1;rw[AW (by rw[<-c.len];exact hn)]at e2;exact (c.obj n a m e1 e2).more [p]
  .have hn':n=L'.length:=by
    have:=(AK.mp e1).1;rw[An]at this;simp at this;omega
   subst hn';simp at e1;rw[c.len]at e2;simp at e2;subst e1;subst e2;exact ⟨vs,h1,r.more [p]⟩
 .obtain ⟨N,hN⟩:=s.pre;refine ⟨⟨N++[p],by rw[hN];simp⟩,λa ha=>?_,s.old,s.tup,s.frz⟩;rcases Ai.mp ha with z|z
  .exact s.new a z
  .have:a=p:=by simpa using z
   subst this;exact .inr h0
def Rep.last {L:Yg} {M:List MO} {H:Hp} {K:Yb} {p:Yt} (c:Cor K L M H):Rep (L++[p]) H (.ref M.length) (.ref p):=by
 unfold Rep;exact ⟨p,rfl,by rw[<-c.len];simp⟩
def Cp {f:FE} (h:QE X e f):QD X e (toD f):=.mk <| PE.imp h.un λτ H Q zz=>by
 obtain ⟨L,Y,M,d,M',c,rs,hf,q⟩:=zz;unfold toD at hf;split at hf
 .rename_i d' M1 e1;cases hf;exact ⟨L,Y,M,_,_,c,rs,e1,λL' H' v s c' r=>q L' H' v s c' r⟩
 .rename_i xs M1 e1;cases hf;refine ⟨L,Y,M,_,_,c,rs,e1,λL' H' v s c' r=>?_⟩;obtain ⟨p,vs,rfl,e0,e2,e3,r⟩:=r;obtain ⟨c2,s2⟩:=OG s c' e0 e2 e3 r;exact q _ H' _ s2 c2 (Rep.last c')
 .cases hf
noncomputable def zC (i:Nat):FE:=λY M=>match Y[i]? with
 |some (some d)=>some (.dat d,M)
 |_=>none
def VN (h:PE X (.Name x pos) (Lf i)):QE X (.Name x pos) (zC i):=.mk <| PE.imp h λτ H Q zz=>by
 obtain ⟨L,Y,M,d,M',c,rs,hf,q⟩:=zz;unfold zC at hf;split at hf
 .rename_i d' e1;cases hf;obtain ⟨v,e2,r⟩:=rs.2 i d' e1;exact ⟨v,e2,q L H v (.refl L H) c r⟩
 .cases hf
noncomputable def fC (d:D):FE:=λ_ M=>some (.dat d,M)
def Ov (hd:∀ L H,Rep L H d v) (h:PE X e (tC v)):QE X e (fC d):=.mk <| PE.imp h λτ H Q zz=>by
 obtain ⟨L,Y,M,d',M',c,rs,hf,q⟩:=zz;unfold fC at hf;cases hf;exact q L H v (.refl L H) c (hd L H)
def Ww {i j pos}:QE X (.Constant (.int i) j pos) (fC (.int i)):=Ov (λ_ _=>by unfold Rep;rfl) d6
def Vw {b j pos}:QE X (.Constant (.bool b) j pos) (fC (.bl b)):=Ov (λ_ _=>by unfold Rep;rfl) Ze
noncomputable def zI:FA:=λ_ M=>some ([],M)
noncomputable def zD (f:FD) (g:FA):FA:=λY M=>match f Y M with
 |some (d,M1)=>match g Y M1 with
  |some (ds,M2)=>some (d::ds,M2)
  |none=>none
 |none=>none
def PA.imp (h:PA X es t) (hi:∀ τ H Q,t' τ H Q->t τ H Q):PA X es t':=λpos zB s Y H Q I q=>h pos zB s Y H Q I (hi _ _ _ q)
def jJ:QA X [] zI:=.mk <| PA.imp Fj λτ H Q zz=>by
 obtain ⟨L,Y,M,d,M',c,rs,hf,q⟩:=zz;unfold zI at hf;cases hf;exact q L H [] (.refl L H) c .nil
def WE (h1:QD X e f) (h2:QA X es g) (hs:starEach (e::es) X.env=(false,eval e X.env)::starEach es X.env:=by rfl):QA X (e::es) (zD f g) :=
 .mk <| PA.imp (FY h1.un h2.un hs) λτ H Q zz=>by
  obtain ⟨L,Y,M,d,M',c,rs,hf,q⟩:=zz;unfold zD at hf;split at hf
  .rename_i d1 M1 e1;split at hf
   .rename_i ds M2 e2;cases hf;refine ⟨L,Y,M,_,_,c,rs,e1,λL1 H1 v s1 c1 r1=>⟨L1,Y,M1,_,_,c1,rs.stp s1,e2,λL2 H2 vs s2 c2 r2=>?_⟩⟩;exact q L2 H2 _ (s1.trans s2) c2 (.cons (r1.stp s2) r2)
   .cases hf
  .cases hf
noncomputable def Br (g:FA):FE:=λY M=>match g Y M with
 |some (ds,M1)=>if ds.length<=sizeLine then some (.dat (.tup ds),M1) else none
 |none=>none
noncomputable def Ar (g:FA):FE:=λY M=>match g Y M with
 |some (ds,M1)=>if ds.length<=sizeLine then some (.fl ds,M1) else none
 |none=>none
def Rep.newTup (h:H p=none) (r:zJ L H ds vs):Rep L (upd H p (.tup vs)) (.tup ds) (.ref p):=by
 unfold Rep;exact ⟨p,vs,rfl,zr,r.stp (.upd h)⟩
def Y3 {x1 pos} (h:QA X es g):QE X (.Tuple es x1 pos) (Br g):=.mk <| PE.imp (Wl h.un) λτ H Q zz=>by
 obtain ⟨L,Y,M,d,M',c,rs,hf,q⟩:=zz;unfold Br at hf;split at hf
 .rename_i ds M1 e1;split at hf
  .rename_i hz;cases hf;refine ⟨L,Y,M,_,_,c,rs,e1,λL1 H1 vs s1 c1 r1=>⟨by rw[r1.length];exact hz,λp hp=>?_⟩⟩;exact q L1 _ _ (s1.trans (.upd hp)) (c1.upd hp) (Rep.newTup hp r1)
  .cases hf
 .cases hf
def ZM {L L1:Yg} {H H1:Hp} {K:Yb} {M M1:List MO} (s:Stp L H L1 H1) (c:Cor K L M H) (c1:Cor K L1 M1 H1) {p:Yt} (hp:H1 p=none):H p=none/\p∉L1:=by
 have hp1:p∉L1:=λz=>by obtain ⟨o,e⟩:=c1.tracked z;rw[hp]at e;cases e
 refine ⟨?_,hp1⟩;cases q:H p with
 |none=>rfl
 |some o=>
  have:p∉L:=λz=>hp1 (by obtain ⟨N,hN⟩:=s.pre;rw[hN];exact CS _ z);rw[s.old p o q this]at hp;cases hp
def zW.newLst {L L1:Yg} {H H1:Hp} {K:Yb} {M M1:List MO} {p:Yt} {ds:List D} {vs:List V} (s:Stp L H L1 H1) (c:Cor K L M H) (c1:Cor K L1 M1 H1) (hp:H1 p=none) (r:zJ L1 H1 ds vs) :
  zW H L1 (upd H1 p (.lst vs)) (.fl ds) (.ref p):=by
 obtain ⟨a,b⟩:=ZM s c c1 hp;exact ⟨p,vs,rfl,a,zr,b,r.stp (.upd hp)⟩
def X5 {pos} (h:QA X es g):QE X (.List es pos) (Ar g):=.mk <| PE.imp (Zd h.un) λτ H Q zz=>by
 obtain ⟨L,Y,M,d,M',c,rs,hf,q⟩:=zz;unfold Ar at hf;split at hf
 .rename_i ds M1 e1;split at hf
  .rename_i hz;cases hf;refine ⟨L,Y,M,_,_,c,rs,e1,λL1 H1 vs s1 c1 r1=>⟨by rw[r1.length];exact hz,λp hp=>?_⟩⟩;exact q L1 _ _ (s1.trans (.upd hp)) (c1.upd hp) (zW.newLst s1 c c1 hp r1)
  .cases hf
 .cases hf
noncomputable abbrev FAE:=Sd->Mem->Option (List EV × Mem)
def Ci (H0:Hp) (L:Yg) (H:Hp):List EV->List V->Prop
 |[],vs=>vs=[]
 |e::es,vs=>∃ v r,vs=v::r/\zW H0 L H e v/\Ci H0 L H es r
def Stp.sub (s:Stp L H L' H'):∀ a∈L,a∈L':=λa h=>by
 obtain ⟨N,hN⟩:=s.pre;rw[hN];exact CS _ h
def Ci.back {H0 H1:Hp} {L0 L1 L:Yg} {H:Hp} (s:Stp L0 H0 L1 H1) {M:List MO} {K:Yb} (c:Cor K L0 M H0) (hL:∀ a∈L1,a∈L):∀ {es:List EV} {vs:List V},Ci H1 L H es vs->Ci H0 L H es vs
 |[],_,h=>h
 |e::es,_,h=>by
  obtain ⟨v,r,rfl,h1,h2⟩:=h;exact ⟨v,r,rfl,h1.back s c hL,Ci.back s c hL h2⟩
noncomputable def OM (K:Yb) (f:FAE):TA:=λτ H Q=>∃ L Y M ds M',Cor K L M H/\Aj L H Y τ/\f Y M=some (ds,M') /\ ∀ L' H' vs,Stp L H L' H'->Cor K L' M' H'->Ci H L' H' ds vs->Q vs H'
structure QAE (X:Cx) (es:Yi) (f:FAE):Prop where
 un:PA X es (OM X.K f)
section
variable {X:Cx} {a b e:Expr} {es:Yi} {pos:Pos}
noncomputable def zd:FAE:=λ_ M=>some ([],M)
noncomputable def zP (f:FE) (g:FAE):FAE:=λY M=>match f Y M with
 |some (d,M1)=>match g Y M1 with
  |some (ds,M2)=>some (d::ds,M2)
  |none=>none
 |none=>none
def SA:QAE X [] zd:=.mk <| PA.imp Fj λτ H Q zz=>by
 obtain ⟨L,Y,M,d,M',c,rs,hf,q⟩:=zz;unfold zd at hf;cases hf;exact q L H [] (.refl L H) c rfl
def fI (h1:QE X e f) (h2:QAE X es g) (hs:starEach (e::es) X.env=(false,eval e X.env)::starEach es X.env:=by rfl):QAE X (e::es) (zP f g) :=
 .mk <| PA.imp (FY h1.un h2.un hs) λτ H Q zz=>by
  obtain ⟨L,Y,M,d,M',c,rs,hf,q⟩:=zz;unfold zP at hf;split at hf
  .rename_i d1 M1 e1;split at hf
   .rename_i ds M2 e2;cases hf;refine ⟨L,Y,M,_,_,c,rs,e1,λL1 H1 v s1 c1 r1=>⟨L1,Y,M1,_,_,c1,rs.stp s1,e2,λL2 H2 vs s2 c2 r2=>?_⟩⟩;exact q L2 H2 _ (s1.trans s2) c2 ⟨v,vs,rfl,r1.stp s2,r2.back s1 c s2.sub⟩
   .cases hf
  .cases hf
noncomputable abbrev K2:=EV->EV->Mem->Option (EV × Mem)
def BG (K:Yb) (r:R2) (k:K2):Prop:=∀ {L:Yg} {M M':Mem} {H H0:Hp} {x y d:EV} {v w:V} {Q:VK},Cor K L M H->zW H0 L H x v->zW H0 L H y w->k x y M=some (d,M') ->
 (∀ L' H' u,Stp L H L' H'->Cor K L' M' H'->zW H L' H' d u->Q u H')->r v w H Q
noncomputable def fOp (k:K2) (f g:FE):FE:=λY M=>match f Y M with
 |some (x,M1)=>match g Y M1 with
  |some (y,M2)=>k x y M2
  |none=>none
 |none=>none
def FH {K:Yb} {r:R2} {k:K2} {f g:FE} (hk:BG K r k) {τ:Sv} {H:Hp} {Q:VK} (h:trE K (fOp k f g) τ H Q):tOp r (trE K f) (trE K g) τ H Q:=by
 obtain ⟨L,Y,M,d,M',c,rs,hf,q⟩:=h;unfold fOp at hf;split at hf
 .rename_i x M1 e1;split at hf
  .rename_i y M2 e2;refine (mkE c rs e1 (λL1 H1 v s1 c1 r1=>(mkE c1 (rs.stp s1) e2 (λL2 H2 w s2 c2 r2=>?_))));refine hk (H0:=H) c2 (r1.stp s2) (r2.back s1 c s2.sub) hf λL3 H3 u s3 c3 r3=>?_;exact q L3 H3 u ((s1.trans s2).trans s3) c3 (r3.back (s1.trans s2) c s3.sub)
  .cases hf
 .cases hf
def F9 (hk:BG X.K r k) (ho:OpR X (binaryOp op) r) (h1:QE X a f) (h2:QE X b g):QE X (.BinOp a op b pos) (fOp k f g):=.mk <| PE.imp (bO ho h1.un h2.un) λ_ _ _ h=>FH hk h
def Me (hk:BG X.K r k) (ho:OpR X (compareOp op) r) (h1:QE X a f) (h2:QE X b g) (hm:behindInMarks op b=false):QE X (.Compare a [op] [b] pos) (fOp k f g) :=
 .mk <| PE.imp (aJ ho h1.un h2.un hm) λ_ _ _ h=>FH hk h
noncomputable def tst (f:FE):FT:=λY M=>match f Y M with
 |some (.dat (.bl c),M')=>some (c,M')
 |_=>none
def IY {K:Yb} {f:FE} {τ:Sv} {H:Hp} {Q:Bool->Hp->Prop} (h:trT K (tst f) τ H Q):Jk (trE K f) τ H Q:=by
 obtain ⟨L,Y,M,d,M',c,rs,hf,q⟩:=h;unfold tst at hf;split at hf
 .rename_i k M1 e1;cases hf;refine (mkE c rs e1 (λL1 H1 v s1 c1 r1=>?_));have:v=.bl d:=by unfold zW Rep at r1;exact r1
  exact ⟨d,this,q L1 H1 s1 c1⟩
 .cases hf
def KH (h:∀ τ H Q,t τ H Q->t' τ H Q) (q:Jk t τ H Q):Jk t' τ H Q:=h _ _ _ q
def GG {op:CmpOp} {r:R2} {k:K2} {f g:FE} (hk:BG X.K r k) (ho:OpR X (compareOp op) r) (h1:QE X a f) (h2:QE X b g) (hm:behindInMarks op b=false):QT X (.Compare a [op] [b] pos) (tst (fOp k f g)) :=
 .mk <| PT.imp (VA ho h1.un h2.un hm) λ_ _ _ h=>KH (λ_ _ _ z=>FH hk z) (IY h)
def Uz (h:QE X e f) (he:∀ whole,isTrue e X.env whole=(do let v <- whole;standAt e.pos;holding [v] (truthy v)):=by intro _;rfl):QT X e (tst f) :=
 .mk <| PT.imp (Uu h.un he) λ_ _ _ h=>IY h
noncomputable def kI (C:Int->Int->Bool) (g:Int->Int->D):K2:=λx y M=>match x,y with
 |.dat (.int i),.dat (.int j)=>if C i j then some (.dat (g i j),M) else none
 |_,_=>none
noncomputable def kI0 (g:Int->Int->D):K2:=kI (λ_ _=>true) g
def IK {K:Yb} {C:Int->Int->Bool} {C':Int->Int->Prop} {g:Int->Int->D} {g':Int->Int->V} (hC:∀ i j,C i j=true->C' i j) (hg:∀ L H i j,Rep L H (g i j) (g' i j)):BG K (rI C' g') (kI C g):=by
 intro L M M' H H0 x y d v w Q c rx ry hk q;unfold kI at hk;split at hk
 .rename_i i j;split at hk
  .rename_i hc;cases hk;refine ⟨i,j,by unfold zW Rep at rx;exact rx,by unfold zW Rep at ry;exact ry,hC i j hc,q L H _ (.refl L H) c (hg L H i j)⟩
  .cases hk
 .cases hk
def Eg {K:Yb} {g:Int->Int->D} {g':Int->Int->V} (hg:∀ L H i j,Rep L H (g i j) (g' i j)):BG K (rI0 g') (kI0 g):=by
 intro L M M' H H0 x y d v w Q c rx ry hk q;obtain ⟨i,j,h1,h2,_,h4⟩:=IK (C:=λ_ _=>true) (C':=λ_ _=>True) (λ_ _ _=>trivial) hg c rx ry hk q;exact ⟨i,j,h1,h2,h4⟩
def Bm:Rep L H (.int i) (.int i):=by unfold Rep;rfl
def B3:Rep L H (.bl i) (.bl i):=by unfold Rep;rfl
noncomputable def Gw (i j:Int):Bool:=(decide (-(2 ^ 64)<i)&&decide (i<2 ^ 64))||(decide (-(2 ^ 64)<j)&&decide (j<2 ^ 64))
noncomputable abbrev cH:K2:=kI0 λi j=> .int (i+j)
noncomputable abbrev D9:K2:=kI0 λi j=> .int (i-j)
noncomputable abbrev G5:K2:=kI Gw λi j=> .int (i*j)
noncomputable abbrev Ct:K2:=kI (λ_ j=>decide (0<j)) λi j=> .int (i % j)
noncomputable abbrev G2:K2:=kI (λ_ j=>decide (0<j)&&decide (j<1073741824)) λi j=> .int (i / j)
noncomputable abbrev Hl:K2:=kI (λi j=>decide (0<=j)&&decide (j<=1000000)&&decide (i.natAbs<2 ^ 64)) λi j=> .int (i ^ j.toNat)
noncomputable abbrev kLt:K2:=kI0 λi j=> .bl (decide (i<j))
noncomputable abbrev kLe:K2:=kI0 λi j=> .bl (decide (i<=j))
noncomputable abbrev kGt:K2:=kI0 λi j=> .bl (decide (j<i))
noncomputable abbrev kGe:K2:=kI0 λi j=> .bl (decide (j<=i))
section
variable {f g:FE}
def UD (h1:QE X a f) (h2:QE X b g):QE X (.BinOp a .Sub b pos) (fOp D9 f g):=F9 (Eg λ_ _ _ _=>Bm) ZP h1 h2
def Xw (h1:QE X a f) (h2:QE X b g):QE X (.BinOp a .Mult b pos) (fOp G5 f g):=F9 (IK (λi j h=>by
 unfold Gw at h;simp only[Bool.or_eq_true,A6,CA]at h;exact h) λ_ _ _ _=>Bm) iU h1 h2
def TB (h1:QE X a f) (h2:QE X b g):QE X (.BinOp a .Mod b pos) (fOp Ct f g):=F9 (IK (λi j h=>CQ h) λ_ _ _ _=>Bm) V6 h1 h2
def dH (h1:QE X a f) (h2:QE X b g):QE X (.BinOp a .FloorDiv b pos) (fOp G2 f g):=F9 (IK (λi j h=>by
 simp only[A6,CA]at h;exact h) λ_ _ _ _=>Bm) ZW h1 h2
def Wu (h1:QE X a f) (h2:QE X b g):QE X (.BinOp a .Pow b pos) (fOp Hl f g):=F9 (IK (λi j h=>by
 simp only[A6,CA]at h;exact ⟨h.1.1,h.1.2,h.2⟩) λ_ _ _ _=>Bm) gZ h1 h2
def UE (h1:QE X a f) (h2:QE X b g):QE X (.Compare a [.Lt] [b] pos) (fOp kLt f g):=Me (Eg λ_ _ _ _=>B3) La h1 h2 (EE _)
def Rw (h1:QE X a f) (h2:QE X b g):QE X (.Compare a [.Gt] [b] pos) (fOp kGt f g):=Me (Eg λ_ _ _ _=>B3) Nk h1 h2 (EE _)
def Wn (h1:QE X a f) (h2:QE X b g):QT X (.Compare a [.Lt] [b] pos) (tst (fOp kLt f g)):=GG (Eg λ_ _ _ _=>B3) La h1 h2 (EE _)
def aN (h1:QE X a f) (h2:QE X b g):QT X (.Compare a [.Gt] [b] pos) (tst (fOp kGt f g)):=GG (Eg λ_ _ _ _=>B3) Nk h1 h2 (EE _)
def gD (h1:QE X a f) (h2:QE X b g):QT X (.Compare a [.GtE] [b] pos) (tst (fOp kGe f g)):=GG (Eg λ_ _ _ _=>B3) SX h1 h2 (EE _)
end
end
noncomputable def BP (M:Mem):EV->Option (List D)
 |.fl xs=>some xs
 |.dat (.ref n)=>match M[n]? with
  |some (.lst xs)=>some xs
  |some (.fro xs)=>some xs
  |_=>none
 |_=>none
noncomputable def CU:EV->Option (List D)
 |.dat (.tup xs)=>some xs
 |_=>none
noncomputable def Av (M:Mem) (x:EV):Option (List D):=match CU x with
 |some xs=>some xs
 |none=>BP M x
def CP {K:Yb} {L:Yg} {M:Mem} {H H0:Hp} {x:EV} {v:V} {xs:List D} (c:Cor K L M H) (r:zW H0 L H x v) (h:BP M x=some xs):∃ a vs,v=.ref a/\Rd H a (.lst vs)/\zJ L H xs vs:=by
 cases x with
 |fl ys=>
  cases h;obtain ⟨p,vs,rfl,_,e,_,r⟩:=r;exact ⟨p,vs,rfl,.inl e,r⟩
 |dat d=>
  cases d with
  |ref n=>
   unfold zW Rep at r;obtain ⟨a,rfl,e⟩:=r;unfold BP at h;dsimp only at h;cases q:M[n]? with
   |none=>rw[q]at h;cases h
   |some m=>
    rw[q]at h;have z:=c.obj n a m e q;cases m with
    |lst ys=>cases h;obtain ⟨vs,e1,r1⟩:=z;exact ⟨a,vs,rfl,.inl e1,r1⟩
    |fro ys=>cases h;obtain ⟨o,vs,e1,r1⟩:=z;exact ⟨a,vs,rfl,.inr ⟨o,e1⟩,r1⟩
    |dict _=>cases h
    |dicT _=>cases h
    |set _=>cases h
    |froT _=>cases h
    |froK _=>cases h
  |_=>cases h
def Dt {L:Yg} {H H0:Hp} {x:EV} {v:V} {xs:List D} (r:zW H0 L H x v) (h:CU x=some xs):∃ a vs,v=.ref a/\H a=some (.tup vs)/\zJ L H xs vs:=by
 cases x with
 |fl ys=>cases h
 |dat d=>
  cases d with
  |tup ys=>cases h;unfold zW Rep at r;exact r
  |_=>cases h
def Ju {K:Yb} {L:Yg} {M:Mem} {H H0:Hp} {x:EV} {v:V} {xs:List D} (c:Cor K L M H) (r:zW H0 L H x v) (h:Av M x=some xs):∃ a vs,v=.ref a/\(SqL K H a vs\/SqT K H a vs)/\zJ L H xs vs:=by
 unfold Av at h;cases q:CU x with
 |some ys=>
  rw[q]at h;cases h;obtain ⟨a,vs,e,h1,h2⟩:=Dt r q;exact ⟨a,vs,e,.inr (.of h1),h2⟩
 |none=>
  rw[q]at h;obtain ⟨a,vs,e,h1,h2⟩:=CP c r h;exact ⟨a,vs,e,.inl (.inl h1),h2⟩
def S7 {L:Yg} {H:Hp} {xs:List D} {vs:List V} {i:Int} {d:D} (r:zJ L H xs vs) (h:atI xs i=some d):∃ v,atI vs i=some v/\Rep L H d v:=by
 unfold atI at h ⊢;rw[r.length];cases q:ixN xs.length i with
 |none=>rw[q]at h;cases h
 |some j=>rw[q]at h;exact r.get h
def iC {L:Yg} {H:Hp} {i:Str}:Rep L H (.str i) (.str i):=by unfold Rep;rfl
noncomputable def kIx:K2:=λx y M=>match y with
 |.dat (.int i)=>match Av M x with
  |some xs=>match atI xs i with
   |some d=>some (.dat d,M)
   |none=>none
  |none=>match x with
   |.dat (.str z)=>if z.length<=sizeLine then match atI z.cps.toList i with
     |some c=>some (.dat (.str ⟨#[c]⟩),M)
     |none=>none
    else none
   |_=>none
 |_=>none
def cB {K:Yb}:BG K (rIx K) kIx:=by
 intro L M M' H H0 x y d v w Q c rx ry hk q;unfold kIx at hk;split at hk
 .rename_i i;have ew:w=.int i:=by unfold zW Rep at ry;exact ry
  split at hk
  .rename_i xs e1;split at hk
   .rename_i d' e2;cases hk;obtain ⟨a,vs,rfl,hs,r⟩:=Ju c rx e1;obtain ⟨u,e3,r3⟩:=S7 r e2;rcases hs with hs|hs
    .exact .inl ⟨a,vs,i,u,rfl,ew,hs,e3,q L H u (.refl L H) c r3⟩
    .exact .inr (.inl ⟨a,vs,i,u,rfl,ew,hs,e3,q L H u (.refl L H) c r3⟩)
   .cases hk
  .split at hk
   .rename_i z _;split at hk
    .rename_i hz;split at hk
     .rename_i ch e2;cases hk;have ev:v=.str z:=by unfold zW Rep at rx;exact rx
      exact .inr (.inr ⟨z,i,ch,ev,ew,hz,e2,q L H _ (.refl L H) c (iC (L:=L) (H:=H))⟩)
     .cases hk
    .cases hk
   .cases hk
 .cases hk
section
variable {prog:Ym} {w:Yo} {A:Yn} {E:Yc} {s:Yl}
def Zc {t sl:Yt} {items:Yp} {vl vu:Yu} {lo hi:Ys} {Q:Yc} (T:IsTup s.heap t items) (S:s.heap.IsSliceOf sl vl vu .none) (pl:IsPart vl lo) (pu:IsPart vu hi)
  (h1:HT.sIx items.size 0 lo=0) (h2:HT.sIx items.size items.size hi=items.size) (h:Q (.ref t) s):wpAny (model prog w) A (getItem (.ref t) (.ref sl)) Q E s:=by
 obtain ⟨o,O,C,G⟩:=id S;have TS:s.TypeIs (.ref sl) "slice" := ⟨o,O,C⟩;unfold getItem;try with_reducible refine B2 ?_
 first|refine AA (AD ?_)|skip
 refine AA (wpAny_sequenceKey T.typeIs (by decide) ?_);refine AA (CD (name:=Str.ofString "__getitem__") T.typeIs Ga (BI Ga T.typeIs entry_tuple_getitem ?_ (args_tuple_getitem _ _)));refine AA (m:=Builtin.Tuple.tupleItemsOf (.ref t)) (tupleItemsOf_ T (AA (wpAny_typeOf TS ?_)));rw[AB (by decide)];refine AA (HT.Qa S pl pu ?_);rw[h1,h2];show wpAny _ _ (if ((((0:Nat):Int)==0&&(1:Int)==1&&(items.size-0)==items.size))=true then _ else _) _ _ s;rw[AB (by simp)];unfold Builtin.Tuple.tupleIsExact;refine AA (AA (wpAny_typeOf T.typeIs (AD ?_)));rw[AB (by decide)];exact AA (BY (AD ⟨_,rfl,AD h⟩))
end
def iW (K:Yb):V->Option Int->Option Int->Hp->VK->Prop:=λx lo hi H Q=>∃ a xs,x=.ref a/\SqT K H a xs/\(HT.sIx xs.length 0 lo=0/\HT.sIx xs.length xs.length hi=xs.length)/\Q (.ref a) H
def bL {X:Cx}:SlR X (iW X.K):=by
 intro zB s Y H x v vl vu lo hi sl Q I rx hs pl pu h;obtain ⟨a,xs,rfl,hx,hw,q⟩:=h;cases rx;obtain ⟨its,r,ht,hz⟩:=I.tuple hx;have hlen:its.toArray.size=xs.length:=by rw[AR];exact r.length.symm
 exact ⟨"tuple", _,Ga.lookup,ht.typeIs,Zc ht hs pl pu (by rw[hlen];exact hw.1) (by rw[hlen];exact hw.2) ⟨.ref a,H,I,rfl,q⟩⟩
section
variable {X:Cx} {a b e:Expr} {es:Yi} {pos:Pos} {f g:FE}
def Sy (h1:QE X a f) (h2:QE X b g) (hs:RW b:=by intro _ _;rfl):QE X (.Subscript a b pos) (fOp kIx f g):=.mk <| PE.imp (W6 WW h1.un h2.un hs) λ_ _ _ h=>FH cB h
noncomputable abbrev FO:=Sd->Mem->Option (Option Int × Mem)
noncomputable def trO (K:Yb) (f:FO):TO:=λτ H Q=>∃ L Y M d M',Cor K L M H/\Aj L H Y τ/\f Y M=some (d,M') /\ ∀ L' H',Stp L H L' H'->Cor K L' M' H'->Q d H'
structure QO (X:Cx) (e:Option Expr) (f:FO):Prop where
 un:PO X e (trO X.K f)
noncomputable def De:FO:=λ_ M=>some (none,M)
noncomputable def C6 (f:FE):FO:=λY M=>match f Y M with
 |some (.dat (.int i),M')=>some (some i,M')
 |_=>none
def PO.imp {e:Option Expr} {t t':TO} (h:PO X e t) (hi:∀ τ H Q,t' τ H Q->t τ H Q):PO X e t':=λzB s Y H Q I q=>h zB s Y H Q I (hi _ _ _ q)
def iI:QO X none De:=.mk <| PO.imp SV λτ H Q zz=>by
 obtain ⟨L,Y,M,d,M',c,rs,hf,q⟩:=zz;unfold De at hf;cases hf;exact q L H (.refl L H) c
def ZS (h:QE X e f):QO X (some e) (C6 f):=.mk <| PO.imp (Y6 h.un) λτ H Q zz=>by
 obtain ⟨L,Y,M,d,M',c,rs,hf,q⟩:=zz;unfold C6 at hf;split at hf
 .rename_i i M1 e1;cases hf;refine (mkE c rs e1 (λL1 H1 v s1 c1 r1=>?_));exact ⟨i,by unfold zW Rep at r1;exact r1,q L1 H1 s1 c1⟩
 .cases hf
noncomputable def B9 (xs:List D) (lo hi:Ys):List D:=(xs.drop (HT.sIx xs.length 0 lo)).take (HT.sIx xs.length xs.length hi-HT.sIx xs.length 0 lo)
def RC {L:Yg} {H:Hp} {xs:List D} {vs:List V} {lo hi:Ys} (r:zJ L H xs vs):zJ L H (B9 xs lo hi) (FC vs lo hi):=by
 unfold B9 FC;rw[r.length];exact (r.drop _).take _
noncomputable def kSl (x:EV) (lo hi:Ys) (M:Mem):Option (EV × Mem):=match CU x with
 |some xs=>some (.dat (.tup (B9 xs lo hi)),M)
 |none=>match BP M x with
  |some xs=>some (.fl (B9 xs lo hi),M)
  |none=>none
noncomputable def fSl (f:FE) (fl fh:FO):FE:=λY M=>match f Y M with
 |some (x,M1)=>match fl Y M1 with
  |some (lo,M2)=>match fh Y M2 with
   |some (hi,M3)=>kSl x lo hi M3
   |none=>none
  |none=>none
 |none=>none
def VT {lo hi:Option Expr} {p2:Pos} {fl fh:FO} (h:QE X e f) (hl:QO X lo fl) (hh:QO X hi fh):QE X (.Subscript e (.Slice lo hi none p2) pos) (fSl f fl fh) :=
 .mk <| PE.imp (jX (SlR.or U7 (SlR.or R7 bL)) h.un hl.un hh.un) λτ H Q zz=>by
  obtain ⟨L,Y,M,d,M',c,rs,hf,q⟩:=zz;unfold fSl at hf;split at hf
  .rename_i x M1 e1;split at hf
   .rename_i l M2 e2;split at hf
    .rename_i u M3 e3;refine ⟨L,Y,M,_,_,c,rs,e1,λL1 H1 v s1 c1 r1=>⟨L1,Y,M1,_,_,c1,rs.stp s1,e2,λL2 H2 s2 c2=>⟨L2,Y,M2,_,_,c2,rs.stp (s1.trans s2),e3,λL3 H3 s3 c3=>?_⟩⟩⟩;have s:=(s1.trans s2).trans s3;have r3:zW H L3 H3 x v:=(r1.stp s2).stp s3;unfold kSl at hf;cases t:CU x with
     |some xs=>
      rw[t]at hf;dsimp only at hf;cases hf;obtain ⟨a,vs,rfl,e4,r4⟩:=Dt r3 t;by_cases hw:HT.sIx vs.length 0 l=0/\HT.sIx vs.length vs.length u=vs.length
      .refine .inr (.inr ⟨a,vs,rfl,.of e4,hw,?_⟩);have ec:B9 xs l u=xs:=by
        unfold B9;rw[<-r4.length,hw.1,hw.2,r4.length];simp
       rw[ec]at q;refine q L3 H3 _ s c3 ?_;unfold zW Rep;exact ⟨a,vs,rfl,e4,r4⟩
      .refine .inr (.inl ⟨a,vs,rfl,.of e4,hw,λp hp=>?_⟩);exact q L3 _ _ (s.trans (.upd hp)) (c3.upd hp) (Rep.newTup hp (RC r4))
     |none=>
      rw[t]at hf;dsimp only at hf;split at hf
      .rename_i xs e4;cases hf;obtain ⟨a,vs,rfl,e5,r5⟩:=CP c3 r3 e4;refine .inl ⟨a,vs,rfl,.inl e5,λp hp=>?_⟩;exact q L3 _ _ (s.trans (.upd hp)) (c3.upd hp) (zW.newLst s c c3 hp (RC r5))
      .cases hf
    .cases hf
   .cases hf
  .cases hf
noncomputable abbrev KB:=List EV->Mem->Option (EV × Mem)
def Cq (K:Yb) (r:List V->Hp->VK->Prop) (k:KB):Prop:=∀ {L:Yg} {M M':Mem} {H H0:Hp} {xs:List EV} {d:EV} {vs:List V} {Q:VK},Cor K L M H->Ci H0 L H xs vs->k xs M=some (d,M') ->
 (∀ L' H' u,Stp L H L' H'->Cor K L' M' H'->zW H L' H' d u->Q u H')->r vs H Q
noncomputable def fB (k:KB) (f:FAE):FE:=λY M=>match f Y M with
 |some (xs,M1)=>k xs M1
 |none=>none
def Oo {K:Yb} {r:List V->Hp->VK->Prop} {k:KB} {f:FAE} (hk:Cq K r k) {τ:Sv} {H:Hp} {Q:VK} (h:trE K (fB k f) τ H Q):tCB r (OM K f) τ H Q:=by
 obtain ⟨L,Y,M,d,M',c,rs,hf,q⟩:=h;unfold fB at hf;split at hf
 .rename_i xs M1 e1;refine ⟨L,Y,M,_,_,c,rs,e1,λL1 H1 vs s1 c1 r1=>?_⟩;refine hk c1 r1 hf λL2 H2 u s2 c2 r2=>?_;exact q L2 H2 u (s1.trans s2) c2 (r2.back s1 c s2.sub)
 .cases hf
def Ci.one {H0:Hp} {L:Yg} {H:Hp} {x:EV} {vs:List V} (h:Ci H0 L H [x] vs):∃ v,vs=[v]/\zW H0 L H x v:=by
 obtain ⟨v,r,rfl,h1,h2⟩:=h;unfold Ci at h2;subst h2;exact ⟨v,rfl,h1⟩
noncomputable def Aw:KB:=λxs M=>match xs with
 |[x]=>match Av M x with
  |some ys=>some (.dat (.int ys.length),M)
  |none=>none
 |_=>none
def Sk:Cq X.K (λxs H Q=>∃ p ys,xs=[.ref p]/\(SqL X.K H p ys\/SqT X.K H p ys)/\Q (.int ys.length) H) Aw:=by
 intro L M M' H H0 xs d vs Q c r hk q;unfold Aw at hk;split at hk
 .rename_i x;split at hk
  .rename_i ys e1;cases hk;obtain ⟨v,rfl,r1⟩:=r.one;obtain ⟨a,ws,rfl,hs,r2⟩:=Ju c r1 e1;refine ⟨a,ws,rfl,hs,q L H _ (.refl L H) c ?_⟩;rw[r2.length];exact (Bm (L:=L) (H:=H))
  .cases hk
 .cases hk
def FK {x:Str} {p:Pos} {id:String} {r:List V->Hp->VK->Prop} {k:KB} {f:FAE} (hk:Cq X.K r k) (hc:Bk X (.builtin id) r) (hv:bootBuiltins x=some (.builtin id)) (hg:Gl X x) (hm:X.mg x=none) (ha:QAE X (e::es) f) (hn:x ≠ "__name__" := by decide) (hdb:(x==("__debug__" : Str))=false:=by decide)
  (he:starEach (e::es) X.env=(false,eval e X.env)::starEach es X.env:=by rfl) (hpl:(backTo pos (starEach es X.env)).any (·.1)=false:=by rfl):QE X (.Call (.Name x p) (e::es) [] pos) (fB k f) :=
 .mk <| PE.imp (Qv hc hg hm hv ha.un hn hdb he hpl) λ_ _ _ h=>Oo hk h
def LA {x:Str} {p:Pos} {T:String} {r:List V->Hp->VK->Prop} {k:KB} {f:FAE} (hk:Cq X.K r k) (hc:Bk X (.type T) r) (hv:bootBuiltins x=some (.type T)) (hg:Gl X x) (hm:X.mg x=none) (ha:QAE X (e::es) f) (hn:x ≠ "__name__" := by decide) (hdb:(x==("__debug__" : Str))=false:=by decide)
  (he:starEach (e::es) X.env=(false,eval e X.env)::starEach es X.env:=by rfl) (hpl:(backTo pos (starEach es X.env)).any (·.1)=false:=by rfl):QE X (.Call (.Name x p) (e::es) [] pos) (fB k f) :=
 .mk <| PE.imp (HY hc hg hm hv ha.un hn hdb he hpl) λ_ _ _ h=>Oo hk h
noncomputable def DH:KB:=λxs M=>match xs with
 |[x]=>match Av M x with
  |some ys=>some (.dat (.tup ys),M)
  |none=>none
 |_=>none
def Ve:Cq X.K (λxs H Q=>∃ p ys,xs=[.ref p]/\((SqL X.K H p ys /\ ∀ l,H l=none->Q (.ref l) (upd H l (.tup ys)))\/(SqT X.K H p ys/\Q (.ref p) H))) DH:=by
 intro L M M' H H0 xs d vs Q c r hk q;unfold DH at hk;split at hk
 .rename_i x;split at hk
  .rename_i ys e1;cases hk;obtain ⟨v,rfl,r1⟩:=r.one;unfold Av at e1;cases t:CU x with
   |some zs=>
    rw[t]at e1;cases e1;obtain ⟨a,ws,rfl,e2,r2⟩:=Dt r1 t;refine ⟨a,ws,rfl,.inr ⟨.of e2,q L H _ (.refl L H) c ?_⟩⟩;unfold zW Rep;exact ⟨a,ws,rfl,e2,r2⟩
   |none=>
    rw[t]at e1;obtain ⟨a,ws,rfl,e2,r2⟩:=CP c r1 e1;refine ⟨a,ws,rfl,.inl ⟨.inl e2,λp hp=>?_⟩⟩;exact q L _ _ (.upd hp) (c.upd hp) (Rep.newTup hp r2)
  .cases hk
 .cases hk
end
set_option genInjectivity true in
inductive Out where
  |nx|ret (d:D)|brk|cnt
noncomputable abbrev FS:=Sd->Mem->Option (Out × Sd × Mem)
def gH (E:Ends) (L:Yg) (H:Hp) (Y:Sd):Out->Prop
  |.nx=>∀ τ,Aj L H Y τ->E.nx τ H
  |.ret d=>∀ v,Rep L H d v->E.rt v H
  |.brk=>∀ τ,Aj L H Y τ->E.bk τ H
  |.cnt=>∀ τ,Aj L H Y τ->E.ct τ H
noncomputable def trS (K:Yb) (f:FS):TS:=λE τ H=>∃ L Y M o Y' M',Cor K L M H/\Aj L H Y τ/\f Y M=some (o,Y',M') /\ ∀ L' H',Stp L H L' H'->Cor K L' M' H'->gH E L' H' Y' o
structure QS (X:Cx) (st:Stmt) (f:FS):Prop where
  un:PS X st (trS X.K f)
structure QSs (X:Cx) (st:Yy) (f:FS):Prop where
  un:PSs X st (trS X.K f)
def Aj.set {L:Yg} {H:Hp} {Y:Sd} {τ:Sv} {i:Nat} {d:D} {v:V} (h:Aj L H Y τ) (r:Rep L H d v):Aj L H (Y.set i (some d)) (τ.set i (some v)):=by
  refine ⟨by simp[h.1],λj e q=>?_⟩;rw[D5]at q ⊢;split at q
  . rename_i z
    subst z;split at q
    . rename_i hl
      cases q;rw[AB rfl,AB (by rw[h.1];exact hl)];exact ⟨v,rfl,r⟩
    .cases q
  . rename_i z
    rw[AE z];exact h.2 j e q
def Qu {K:Yb} {f:FE} {τ:Sv} {H:Hp} {Q:VK} (h:trD K (toD f) τ H Q):trE K f τ H Q:=by
  obtain ⟨L,Y,M,d,M',c,rs,hf,q⟩:=h;unfold toD at hf;split at hf
  . rename_i d' M1 e1
    cases hf;exact (mkE c rs e1 (λL' H' v s c' r=>q L' H' v s c' r))
  . rename_i xs M1 e1
    cases hf;refine (mkE c rs e1 (λL' H' v s c' r=>?_));obtain ⟨p,vs,rfl,e0,e2,e3,r⟩:=r;obtain ⟨c2,s2⟩:=OG s c' e0 e2 e3 r;exact q _ H' _ s2 c2 (Rep.last c')
  .cases hf
noncomputable def Ap:FS:=λY M=>some (.nx,Y,M)
noncomputable def zS (f g:FS):FS:=λY M=>match f Y M with
  |some (.nx,σ1,M1)=>g σ1 M1
  |r=>r
noncomputable def sIf (c:FT) (f g:FS):FS:=λY M=>match c Y M with
  |some (true,M1)=>f Y M1
  |some (false,M1)=>g Y M1
  |none=>none
noncomputable def AL (f:FE):FS:=λY M=>match toD f Y M with
  |some (d,M1)=>some (.ret d,Y,M1)
  |none=>none
noncomputable def AM (i:Nat) (f:FE):FS:=λY M=>match toD f Y M with
  |some (d,M1)=>some (.nx,Y.set i (some d),M1)
  |none=>none
noncomputable def B6 (f:FE):FS:=λY M=>match f Y M with
  |some (_,M1)=>some (.nx,Y,M1)
  |none=>none
section
variable {X:Cx} {st:Stmt} {rest:Yy} {e c:Expr} {pos:Pos}
def aL:QSs X [] Ap:=.mk <| PSs.imp iS λE τ H zz=>by
  obtain ⟨L,Y,M,o,Y',M',c,rs,hf,q⟩:=zz;unfold Ap at hf;cases hf;exact q L H (.refl L H) c τ rs
def cG {f g:FS} (h1:QS X st f) (h2:QSs X rest g):QSs X (st::rest) (zS f g):=.mk <| PSs.imp (gJ h1.un h2.un) λE τ H zz=>by
  obtain ⟨L,Y,M,o,Y',M',c,rs,hf,q⟩:=zz;unfold zS at hf;split at hf
  . rename_i σ1 M1 e1
    refine ⟨L,Y,M,_,_,_,c,rs,e1,λL1 H1 s1 c1 τ1 r1=>⟨L1,σ1,M1,_,_,_,c1,r1,hf,λL2 H2 s2 c2=>q L2 H2 (s1.trans s2) c2⟩⟩
  . rename_i hne
    refine ⟨L,Y,M,_,_,_,c,rs,hf,λL1 H1 s1 c1=>?_⟩;have z:=q L1 H1 s1 c1;cases o with
    |nx=>exact absurd hf (hne Y' M')
    |ret d=>exact z
    |brk=>exact z
    |cnt=>exact z
def Wt {f:FS} (h1:QS X st f):QSs X [st] f:=.mk <| PSs.imp (aP h1.un) λ_ _ _ h=>h
def lA {a b:Yy} {fc:FT} {f g:FS} (hc:QT X c fc) (ha:QSs X a f) (hb:QSs X b g):QS X (.If c a b pos) (sIf fc f g):=.mk <| PS.imp (YU hc.un ha.un hb.un) λE τ H zz=>by
  obtain ⟨L,Y,M,o,Y',M',c,rs,hf,q⟩:=zz;unfold sIf at hf;split at hf
  . rename_i M1 e1
    refine (mkT c rs e1 (λL1 H1 s1 c1=>?_));exact Dd ⟨L1,Y,M1,_,_,_,c1,rs.stp s1,hf,λL2 H2 s2 c2=>q L2 H2 (s1.trans s2) c2⟩
  . rename_i M1 e1
    refine (mkT c rs e1 (λL1 H1 s1 c1=>?_));exact DT ⟨L1,Y,M1,_,_,_,c1,rs.stp s1,hf,λL2 H2 s2 c2=>q L2 H2 (s1.trans s2) c2⟩
  .cases hf
def jQ {f:FE} (h:QE X e f):QS X (.Return (some e) pos) (AL f):=.mk <| PS.imp (Xc (Cp h).un) λE τ H zz=>by
  obtain ⟨L,Y,M,o,Y',M',c,rs,hf,q⟩:=zz;unfold AL at hf;split at hf
  . rename_i d M1 e1
    cases hf;exact (mkD c rs e1 (λL1 H1 v s1 c1 r1=>q L1 H1 s1 c1 v r1))
  .cases hf
def Ly {K:Yb} {i:Nat} {f:FE} {t:TE} (ht:∀ τ H Q,trE K f τ H Q->t τ H Q) {E:Ends} {τ:Sv} {H:Hp} (h:trS K (AM i f) E τ H):HD t (Bu i) E τ H:=by
  obtain ⟨L,Y,M,o,Y',M',c,rs,hf,q⟩:=h;unfold AM at hf;split at hf
  . rename_i d M1 e1
    cases hf;exact ht _ _ _ (Qu (mkD c rs e1 (λL1 H1 v s1 c1 r1=>q L1 H1 s1 c1 _ ((rs.stp s1).set r1))))
  .cases hf
def Vr {i:Nat} {x:Str} {f:FE} {pos':Pos} (hN:X.N.Nodup) (hi:X.N[i]?=some x) (hx:Loc X.env.scope x) (h:QE X e f) (hs:swapsWith e (some (.Name x pos')) pos.line X.env=pure false:=by rfl)
    (hf:X.fn x=true\/X.env.scope.names.lookup x=some .local:=by first|exact .inl rfl|exact .inr rfl|assumption):QS X (.Assign [.Name x pos'] e pos) (AM i f) := 
  .mk <| PS.imp (aX hN hi hx h.un hs hf) λ_ _ _ z=>Ly (λ_ _ _ z=>z) z
def Vg {f:FE} (h:QE X e f) (hs:swapsWith e none pos.line X.env=pure false:=by rfl):QS X (.Expr e pos) (B6 f):=.mk <| PS.imp (fT h.un hs) λE τ H zz=>by
  obtain ⟨L,Y,M,o,Y',M',c,rs,hf,q⟩:=zz;unfold B6 at hf;split at hf
  . rename_i d M1 e1
    cases hf;exact (mkE c rs e1 (λL1 H1 v s1 c1 r1=>q L1 H1 s1 c1 τ (rs.stp s1)))
  .cases hf
noncomputable abbrev FG:=D->Sd->Option Sd
def GOk (g:TG) (fg:FG):Prop:=∀ {L:Yg} {H:Hp} {Y Y':Sd} {τ:Sv} {d:D} {v:V} {Q:Sv->Hp->Prop},Aj L H Y τ->Rep L H d v->fg d Y=some Y'->(∀ τ',Aj L H Y' τ'->Q τ' H)->g v τ H Q
noncomputable def gN (i:Nat):FG:=λd Y=>some (Y.set i (some d))
def Wx {i:Nat}:GOk (Bu i) (gN i):=by
  intro L H Y Y' τ d v Q rs r hf q;unfold gN at hf;cases hf;exact q _ (rs.set r)
noncomputable abbrev FI:=Sd->Mem->Option (List D × Option (Mem->Prop) × Mem)
def BD (g:Option (Mem->Prop)) (xs:List D) (M:Mem):Prop:=match g with
  |none=>True
  |some p=>p M
def K7 (K:Yb) (J:It) (L:Yg) (H:Hp) (xs:List D) (g:Option (Mem->Prop)):Prop:=∀ L' H' M',Stp L H L' H'->Cor K L' M' H'->BD g xs M' ->
  (∀ (i:Nat) d,xs[i]?=some d->J.go i H' /\ ∀ v H'',J.yld i H' v H''->(∀ a o,H' a=some o->H'' a=some o)/\Rep L' H'' d v)/\J.stop xs.length H'
noncomputable def trI (K:Yb) (f:FI):TI:=λτ H R=>∃ L Y M xs g M',Cor K L M H/\Aj L H Y τ/\f Y M=some (xs,g,M') /\ ∀ L' H' J,Stp L H L' H'->Cor K L' M' H'->K7 K J L' H' xs g->R J H'
def mkI {K:Yb} {f:FI} {τ:Sv} {H:Hp} {R} {Y:Sd} {M M':Mem} {xs g} (c:Cor K L M H) (r:Aj L H Y τ) (e:f Y M=some (xs,g,M')) (q:∀ L' H' J,Stp L H L' H'->Cor K L' M' H'->K7 K J L' H' xs g->R J H'):trI K f τ H R:=⟨_,_,_,_,_,_,c,r,e,q⟩
structure QI (X:Cx) (tg e:Expr) (f:FI):Prop where
  un:PI X tg e (trI X.K f)
def PI.imp {tg e:Expr} {t t':TI} (h:PI X tg e t) (hi:∀ τ H R,t' τ H R->t τ H R):PI X tg e t':=λzB s Y H R I q=>h zB s Y H R I (hi _ _ _ q)
noncomputable def C0 (g:FG) (b:FS) (all:List D) (gd:Option (Mem->Prop)):List D->Sd->Mem->Option (Out × Sd × Mem)
  |[],Y,M=>open Classical in if BD gd all M then some (.nx,Y,M) else none
  |x::r,Y,M=>open Classical in if BD gd all M then match g x Y with
      |some σ1=>match b σ1 M with
        |some (.nx,σ2,M2)=>C0 g b all gd r σ2 M2
        |some (.cnt,σ2,M2)=>C0 g b all gd r σ2 M2
        |some (.brk,σ2,M2)=>some (.nx,σ2,M2)
        |some (.ret d,σ2,M2)=>some (.ret d,σ2,M2)
        |none=>none
      |none=>none
    else none
noncomputable def Bl (fi:FI) (g:FG) (b:FS):FS:=λY M=>match fi Y M with
  |some (xs,gd,M1)=>C0 g b xs gd xs Y M1
  |none=>none
def Gv {α:Type} {xs:List α} {i:Nat} (h:i<xs.length):xs.drop i=xs[i]::xs.drop (i+1):=List.drop_eq_getElem_cons h
def Stp.yld {L L':Yg} {H H' H'':Hp} (s:Stp L H L' H') (h:∀ a o,H' a=some o->H'' a=some o):Stp L H L' H'':=s.trans (.grow h)
set_option genInjectivity true in
inductive FW (K:Yb) (fg:FG) (b:FS) (xs:List D) (gd:Option (Mem->Prop)) (r:Option (Out × Sd × Mem)) (L1:Yg) (H1:Hp):Nat->Nat->Sv->Hp->Prop
  |mk {i:Nat} {τ':Sv} {H':Hp} {L':Yg} {Y':Sd} {M':Mem}:i<=xs.length->Stp L1 H1 L' H'->Cor K L' M' H'->Aj L' H' Y' τ'->C0 fg b xs gd (xs.drop i) Y' M'=r->FW K fg b xs gd r L1 H1 i (xs.length-i) τ' H'
def Wo {K:Yb} {fi:FI} {g:TG} {fg:FG} {b:FS} (hg:GOk g fg) {E:Ends} {τ:Sv} {H:Hp} (h:trS K (Bl fi fg b) E τ H):NV (trI K fi) g (trS K b) E τ H:=by
  obtain ⟨L,Y,M,o,σf,Mf,c,rs,hf,q⟩:=h;unfold Bl at hf;split at hf
  . rename_i xs gd M1 e1
    refine (mkI c rs e1 (λL1 H1 J s1 c1 it=>?_));refine ⟨FW K fg b xs gd (some (o,σf,Mf)) L1 H1,⟨_,.mk (BQ _) (.refl _ _) c1 (rs.stp s1) (by simpa using hf)⟩,?_⟩;rintro i m τ' H' ⟨hi,s',c',rs',e'⟩;rename_i L' Y' M';by_cases hlt:i<xs.length
    . rw[Gv hlt]at e'
      unfold C0 at e';split at e'
      . rename_i hgd
        obtain ⟨step,_⟩:=it L' H' M' s' c' hgd;obtain ⟨go,yl⟩:=step i xs[i] (AS hlt);cases eg:fg xs[i] Y' with
        |none=>rw[eg]at e';cases e'
        |some σ1=>
          rw[eg]at e';dsimp only at e';refine .inr ⟨go,FW K fg b xs gd (some (o,σf,Mf)) L1 H1 (i+1) (xs.length-(i+1)),λτ2 H2 a=>⟨xs.length-(i+1),by omega,a⟩,λv H2 hy=>?_⟩;obtain ⟨gr,rv⟩:=yl v H2 hy;refine hg (Aj.stp (.grow gr) rs') rv eg λτ2 r2=>?_;cases eb:b σ1 M' with
          |none=>rw[eb]at e';cases e'
          |some r=>
            obtain ⟨o2,σ2,M2⟩:=r;rw[eb]at e';refine ⟨L',σ1,M',_,_,_,c'.grow gr,r2,eb,λL3 H3 s3 c3=>?_⟩;have s13:Stp L1 H1 L3 H3:=(s'.yld gr).trans s3;cases o2 with
            |nx=>exact λτ3 r3=> .mk hlt s13 c3 r3 e'
            |cnt=>exact λτ3 r3=> .mk hlt s13 c3 r3 e'
            |brk=>cases e';exact q L3 H3 (s1.trans s13) c3
            |ret d=>cases e';exact q L3 H3 (s1.trans s13) c3
      .cases e'
    . have hi':i=xs.length:=by omega
      subst hi';rw[List.drop_length]at e';unfold C0 at e';split at e'
      . rename_i hgd
        cases e';obtain ⟨_,stop⟩:=it L' H' _ s' c' hgd;exact .inl ⟨stop,q L' H' (s1.trans s') c' τ' rs'⟩
      .cases e'
  .cases hf
def Qe {tg iter:Expr} {body:Yy} {fi:FI} {g:TG} {fg:FG} {b:FS} (hg:GOk g fg) (hp:PassesOwn (model X.prog X.w) X.A X.env X.xe) (hc:X.calm=true) (hi:QI X tg iter fi) (ht:PG X tg g) (hb:QSs X body b)
    (hs:∀ x,foldedSetIterable iter X.env x=pure x:=by intro _;rfl):QS X (.For tg iter body [] pos) (Bl fi fg b):=.mk <| PS.imp (VI hp hc hi.un ht hb.un hs) λ_ _ _ h=>Wo hg h
end
section
variable {X:Cx} {e c iter tg elt:Expr} {pos:Pos} {scope:Y0} {ifs:Yi}
noncomputable def Ce (c:FT) (b:FS):Nat->Sd->Mem->Option (Out × Sd × Mem)
  |0,_,_=>none
  |n+1,Y,M=>match c Y M with
    |some (true,M1)=>match b Y M1 with
      |some (.nx,σ2,M2)=>Ce c b n σ2 M2
      |some (.cnt,σ2,M2)=>Ce c b n σ2 M2
      |some (.brk,σ2,M2)=>some (.nx,σ2,M2)
      |some (.ret d,σ2,M2)=>some (.ret d,σ2,M2)
      |none=>none
    |some (false,M1)=>some (.nx,Y,M1)
    |none=>none
def S6 {K:Yb} {fc:FT} {b:FS} {n:Nat} {E:Ends} {τ:Sv} {H:Hp} (h:trS K (Ce fc b n) E τ H):Q0 (trT K fc) (trS K b) E τ H:=by
  obtain ⟨L,Y,M,o,σf,Mf,c,rs,hf,q⟩:=h;refine ⟨λm τ' H'=>∃ L' Y' M',Stp L H L' H'/\Cor K L' M' H'/\Aj L' H' Y' τ'/\Ce fc b m Y' M'=some (o,σf,Mf),⟨n,L,Y,M,.refl _ _,c,rs,hf⟩,?_⟩;rintro m τ' H' ⟨L',Y',M',s',c',rs',e'⟩;cases m with
  |zero=>unfold Ce at e';cases e'
  |succ m=>
    unfold Ce at e';split at e'
    . rename_i M1 e1
      refine (mkT c' rs' e1 (λL1 H1 s1 c1=>Dd ?_));refine ⟨λτ2 H2=>∃ L2 σ2 M2,Stp L H L2 H2/\Cor K L2 M2 H2/\Aj L2 H2 σ2 τ2/\Ce fc b m σ2 M2=some (o,σf,Mf),λτ2 H2 h2=>⟨m,Dq m,h2⟩,?_⟩;cases eb:b Y' M1 with
      |none=>rw[eb]at e';cases e'
      |some r=>
        obtain ⟨o2,σ2,M2⟩:=r;rw[eb]at e';refine ⟨L1,Y',M1,_,_,_,c1,rs'.stp s1,eb,λL3 H3 s3 c3=>?_⟩;have s13:Stp L H L3 H3:=(s'.trans s1).trans s3;cases o2 with
        |nx=>exact λτ3 r3=>⟨L3,σ2,M2,s13,c3,r3,e'⟩
        |cnt=>exact λτ3 r3=>⟨L3,σ2,M2,s13,c3,r3,e'⟩
        |brk=>cases e';exact q L3 H3 s13 c3
        |ret d=>cases e';exact q L3 H3 s13 c3
    . rename_i M1 e1
      cases e';exact ⟨L',_,M',_,_,c',rs',e1,λL1 H1 s1 c1=>DT (q L1 H1 (s'.trans s1) c1 τ' (rs'.stp s1))⟩
    .cases e'
def aO {body:Yy} {fc:FT} {b:FS} (n:Nat) (hp:PassesOwn (model X.prog X.w) X.A X.env X.xe) (hc:QT X c fc) (hb:QSs X body b):QS X (.While c body [] pos) (Ce fc b n) := 
  .mk <| PS.imp (XO hp hc.un hb.un) λ_ _ _ h=>S6 h
noncomputable def Ac (own:Yj) (Y:Sd):Sd:=own.foldl (λY i=>Y.set i none) Y
theorem GO {L:Yg} {H:Hp}:∀ (own:Yj) {Y:Sd} {τ:Sv},Aj L H Y τ->Aj L H (Ac own Y) (clr own τ)
  |[],_,_,h=>h
  |i::r,Y,τ,h=>by
    refine GO r (Y:=Y.set i none) (τ:=τ.set i none) ⟨by simp[h.1],λj d q=>?_⟩;rw[D5]at q ⊢;split at q
    .split at q <;> cases q
    . rename_i z
      rw[AE z];exact h.2 j d q
noncomputable def A7 (g:FG) (tc:FT) (te:FE) (Y:Sd) (all:List D) (gd:Option (Mem->Prop)):List D->Mem->Option (List D × Mem)
  |[],M=>open Classical in if BD gd all M then some ([],M) else none
  |x::r,M=>open Classical in if BD gd all M then match g x Y with
      |some σ1=>match tc σ1 M with
        |some (true,M1)=>match toD te σ1 M1 with
          |some (d,M2)=>match A7 g tc te Y all gd r M2 with
            |some (ds,M3)=>some (d::ds,M3)
            |none=>none
          |none=>none
        |some (false,M1)=>A7 g tc te Y all gd r M1
        |none=>none
      |none=>none
    else none
noncomputable def zo (own:Yj) (fi:FI) (g:FG) (tc:FT) (te:FE):FE:=λY M=>match fi Y M with
  |some (xs,gd,M1)=>if xs.length<=sizeLine then match A7 g tc te (Ac own Y) xs gd xs M1 with
      |some (ys,M2)=>some (.fl ys,M2)
      |none=>none
    else none
  |none=>none
/-- what a target of a comprehension does: it sets names of its own -/
def CF (own:Yj) (g:TG) (fg:FG):Prop:=∀ {L:Yg} {H:Hp} {Y Y':Sd} {τ τ0:Sv} {d:D} {v:V} {Q:Sv->Hp->Prop},Aj L H Y τ->Ext (clr own τ0) τ->Rep L H d v->fg d Y=some Y'->(∀ τ',Aj L H Y' τ'->Ext (clr own τ0) τ'->Q τ' H)->g v τ H Q
def Ew {own:Yj} {i:Nat} (hi:i∈own):CF own (Bu i) (gN i):=by
  intro L H Y Y' τ τ0 d v Q rs ex r hf q;unfold gN at hf;cases hf;exact q _ (rs.set r) (ex.set hi)
set_option genInjectivity true in
inductive CW (K:Yb) (fg:FG) (tc:FT) (te:FE) (σ0:Sd) (xs:List D) (gd:Option (Mem->Prop)) (Mf:Mem) (zs:List D) (L1:Yg) (H1:Hp):Nat->Nat->List V->Hp->Prop
  |mk {i:Nat} {ys:List V} {H':Hp} {L':Yg} {M':Mem} {as bs:List D}:i<=xs.length->Stp L1 H1 L' H'->Cor K L' M' H'->zJ L' H' as ys->as.length<=i->A7 fg tc te σ0 xs gd (xs.drop i) M'=some (bs,Mf)->as++bs=zs->CW K fg tc te σ0 xs gd Mf zs L1 H1 i (xs.length-i) ys H'
def OR {K:Yb} {own:Yj} {fi:FI} {g:TG} {fg:FG} {tc:FT} {te:FE} (hg:CF own g fg) {τ:Sv} {H:Hp} {Q:VK} (h:trE K (zo own fi fg tc te) τ H Q):Mo own (trI K fi) g (trT K tc) (trD K (toD te)) τ H Q:=by
  obtain ⟨L,Y,M,d,Mf,c,rs,hf,q⟩:=h;unfold zo at hf;split at hf
  . rename_i xs gd M1 e1
    split at hf
    . rename_i hz
      split at hf
      . rename_i zs M2 e2
        cases hf;refine (mkI c rs e1 (λL1 H1 J s1 c1 it=>?_));refine ⟨CW K fg tc te (Ac own Y) xs gd Mf zs L1 H1,⟨_,.mk (BQ _) (.refl _ _) c1 .nil (AF _) (by simpa using e2) rfl⟩,?_⟩;rintro i m ys H' ⟨hi,s',c',r',hl,e',hab⟩;rename_i L' M' as bs;have hys:ys.length<=i:=by rw[r'.length];exact hl
        by_cases hlt:i<xs.length
        . rw[Gv hlt]at e'
          unfold A7 at e';split at e'
          . rename_i hgd
            obtain ⟨step,_⟩:=it L' H' M' s' c' hgd;obtain ⟨go,yl⟩:=step i xs[i] (AS hlt);split at e'
            . rename_i σ1 eg
              refine .inr ⟨go,λv H2 hy=>?_⟩;obtain ⟨gr,rv⟩:=yl v H2 hy;have s2:Stp L1 H1 L' H2:=s'.yld gr;refine hg (GO own ((rs.stp s1).stp s2)) (.refl _) rv eg λτ2 r2 x2=>⟨x2,?_⟩;split at e'
              . rename_i M3 e3
                split at e'
                . rename_i d M4 e4
                  split at e'
                  . rename_i ds M5 e5
                    cases e';refine (mkT (c'.grow gr) r2 e3 (λL3 H3 s3 c3=>Dd ?_));refine (mkD c3 (r2.stp s3) e4 (λL4 H4 w s4 c4 r4=>?_));have st:Stp L' H' L4 H4:=((Stp.grow gr).trans s3).trans s4;refine ⟨Nat.lt_of_le_of_lt hys (BB hlt hz),xs.length-(i+1),by omega,.mk (as:=as++[d]) hlt (s'.trans st) c4 ((r'.stp st).app (.cons r4 .nil)) (by simp;omega) e5 (by rw[<-hab];simp)⟩
                  .cases e'
                .cases e'
              . rename_i M3 e3
                refine (mkT (c'.grow gr) r2 e3 (λL3 H3 s3 c3=>DT ?_));have st:Stp L' H' L3 H3:=(Stp.grow gr).trans s3;exact ⟨xs.length-(i+1),by omega,.mk hlt (s'.trans st) c3 (r'.stp st) (by omega) e' hab⟩
              .cases e'
            .cases e'
          .cases e'
        . have hi':i=xs.length:=by omega
          subst hi';rw[List.drop_length]at e';unfold A7 at e';split at e'
          . rename_i hgd
            cases e';obtain ⟨_,stop⟩:=it L' H' _ s' c' hgd;refine .inl ⟨stop,AZ hys hz,λp hp=>?_⟩;rw[BF]at hab;subst hab;exact q L' _ _ ((s1.trans s').trans (.upd hp)) (c'.upd hp) (zW.newLst (s1.trans s') c c' hp r')
          .cases e'
      .cases hf
    .cases hf
  .cases hf
structure QIfs (X:Cx) (ifs:Yi) (f:FT):Prop where
  un:DE X ifs (trT X.K f)
noncomputable def zZ:FT:=λ_ M=>some (true,M)
def Ur:QIfs X [] zZ:=.mk λzB s Y H Q I h=>by
  obtain ⟨L,Y',M,d,M',c,rs,hf,q⟩:=h;unfold zZ at hf;cases hf;exact R9 zB s Y H Q I (q L H (.refl L H) c)
def fW {f:FT} (h:QT X c f):QIfs X [c] f:=.mk (dR h.un)
/-- the parts of a comprehension in its block -/
structure QParts (X:Cx) (scope:Y0) (tg:Expr) (ifs:Yi) (elt:Expr) (g:TG) (tc:FT) (te:FE):Prop where
  g:∀ zB cl s H fp,PG (zH X zB scope cl s H fp) tg g
  c:∀ zB cl s H fp,QIfs (zH X zB scope cl s H fp) ifs tc
  e:∀ zB cl s H fp,QE (zH X zB scope cl s H fp) elt te
def QParts.parts {g:TG} {tc:FT} {te:FE} (p:QParts X scope tg ifs elt g tc te):CompParts X scope tg ifs elt g (trT X.K tc) (trD X.K (toD te)) :=
  ⟨p.g,λzB cl s H fp=>(p.c zB cl s H fp).un,λzB cl s H fp=>(Cp (p.e zB cl s H fp)).un⟩
def JI {own:Yj} {fi:FI} {g:TG} {fg:FG} {tc:FT} {te:FE} (hg:CF own g fg) (C:CompIn X scope own) (hcalm:X.calm=true) (hi:QI X tg iter fi) (p:QParts X scope tg ifs elt g tc te) (hs:∀ x,foldedSetIterable iter X.env x=pure x:=by intro _;rfl) :
    QE X (.ListComp elt [⟨tg,iter,ifs,0⟩] scope pos) (zo own fi fg tc te):=.mk <| PE.imp (gG C hcalm hi.un p.parts hs) λ_ _ _ h=>OR hg h
def Xv {i:Nat} {x:Str} {pos' pos'':Pos} {own:Yj} {fi:FI} {g:TG} {fg:FG} {tc:FT} {te:FE} (hN:X.N.Nodup) (hi':X.N[i]?=some x) (hx:Loc X.env.scope x) (hfn:X.fn x=true\/X.env.scope.names.lookup x=some .local)
    (hsw:swapsWith (.ListComp elt [⟨tg,iter,ifs,0⟩] scope pos) (some (.Name x pos')) pos''.line X.env=pure true)
    (hg:CF own g fg) (C:CompIn X scope own) (hcalm:X.calm=true) (hi:QI X tg iter fi) (p:QParts X scope tg ifs elt g tc te) (hs:∀ x,foldedSetIterable iter X.env x=pure x:=by intro _;rfl) :
    QS X (.Assign [.Name x pos'] (.ListComp elt [⟨tg,iter,ifs,0⟩] scope pos) pos'') (AM i (zo own fi fg tc te)) := 
  .mk <| PS.imp (R8 hN hi' hx hfn C hcalm hi.un p.parts hsw hs) λ_ _ _ z=>Ly (λ_ _ _ z=>OR hg z) z
end
noncomputable abbrev FF:=List D->Mem->Option (D × Mem)
noncomputable def spF (K:Yb) (n:Nat) (g:FF):Sp:=λvs H Q _=>∃ L ds M d M',Cor K L M H/\zJ L H ds vs/\ds.length=n/\g ds M=some (d,M') /\ ∀ L' H' v,Stp L H L' H'->Cor K L' M' H'->Rep L' H' d v->Q v H'
noncomputable def zM (g:FF) (fa:FA):FE:=λY M=>match fa Y M with
 |some (ds,M1)=>match g ds M1 with
  |some (d,M2)=>some (.dat d,M2)
  |none=>none
 |none=>none
section
variable {X:Cx} {e:Expr} {es:Yi} {pos p:Pos} {x:Str} {k:Nat} {f:Yt} {fd:Yz} {ps:Yk}
def bT (F:FnOk X.prog X.w X.K X.mg X.base CX0 k f fd ps (spF X.K (e::es).length g)) (hr:Room k X.A) (hg:Gl X x) (hm:X.mg x=some (.ref f)) (hk:PySem.W.keepIn X.K (.ref f)=true) (hb:GJ X.K fd ps [])
  (ha:QA X (e::es) fa) (hl:∀ Y M ds M1,fa Y M=some (ds,M1)->ds.length=(e::es).length) (hdb:(x==("__debug__" : Str))=false:=by decide) (he:starEach (e::es) X.env=(false,eval e X.env)::starEach es X.env:=by rfl) (hpl:(backTo pos (starEach es X.env)).any (·.1)=false:=by rfl) :
  QE X (.Call (.Name x p) (e::es) [] pos) (zM g fa) :=
 .mk <| PE.imp (WD F hr hg hm hk hb .nil Zt ha.un hdb he hpl) λτ H Q zz=>by
  obtain ⟨L,Y,M,d,M',c,rs,hf,q⟩:=zz;unfold zM at hf;split at hf
  .rename_i ds M1 e1;split at hf
   .rename_i d' M2 e2;cases hf;refine ⟨L,Y,M,_,_,c,rs,e1,λL1 H1 vs s1 c1 r1=>?_⟩;dsimp only;rw[BF];exact ⟨L1,ds,M1,d',_,c1,r1,hl _ _ _ _ e1,e2,λL2 H2 v s2 c2 r2=>q L2 H2 v (s1.trans s2) c2 r2⟩
   .cases hf
  .cases hf
def JY (fa:FA) (n:Nat):Prop:=∀ Y M ds M1,fa Y M=some (ds,M1)->ds.length=n
def YA:JY zI 0:=λY M ds M1 h=>by unfold zI at h;cases h;rfl
def UB {f:FD} {g:FA} {n:Nat} (h:JY g n):JY (zD f g) (n+1):=λY M ds M1 q=>by
 unfold zD at q;split at q
 .split at q
  .rename_i e2;cases q;simp[h _ _ _ _ e2]
  .cases q
 .cases q
noncomputable def Ak (n:Nat) (b:FS):FF:=λds M=>match b (ds.map some++List.replicate (n-ds.length) none) M with
 |some (.ret d,_,M')=>some (d,M')
 |some (.nx,_,M')=>some (.non,M')
 |_=>none
def Oq:∀ {ds:List D} {vs:List V},zJ L H ds vs->Aj L H (ds.map some++List.replicate (N.length-ds.length) none) (L2.EG N vs):=λ{ds vs} r=>by
 unfold L2.EG;have hl:=r.length;refine ⟨by simp[hl],λi d q=>?_⟩;by_cases hi:i<ds.length
 .rw[AW (by simpa using hi),Az]at q;rw[AW (by simpa [hl] using hi),Az];cases e1:ds[i]? with
  |none=>rw[e1]at q;cases q
  |some d'=>
   rw[e1]at q;cases q;obtain ⟨v,e2,r2⟩:=r.get e1;exact ⟨v,by rw[e2];rfl,r2⟩
 .rw[DV (by simpa using hi),List.getElem?_replicate]at q;split at q <;> cases q
def zu {P:Ym} {w:Yo} {K:Yb} {mg:Yh} {base:Heap} {qual:Str} {st:Stmt} {N:Yk} {b:FS} {n:Nat} (F:Fun K x qual st f fd) (S:FnScope N ps (zO st)) (hn:ps.length=n)
  (hb:∀ (cdv:Yu) (A:Yn) (outer:List Env) (s:Yl) (H:Hp) (E:XK),Room k (A.deeper (envOfC qual (zO st) s.heap.objs.size f cdv))->QSs (F1 CX0 P w K mg base N qual (zO st) f cdv A outer s H E).nox (Ey st) b) :
  FnOk P w K mg base CX0 (k+1) f fd ps (spF K n (Ak N.length b)):=by
 refine F.ok S (λvs H Q E h=>?_) (λcdv A outer s H vs Q E hr h=>⟨_,(hb cdv A outer s H E hr).un,?_⟩)
 .obtain ⟨L,ds,M,d,M',c,r,hl,_⟩:=h;rw[r.length,hl,hn]
 .obtain ⟨L,ds,M,d,M',c,r,hl,hf,q⟩:=h;unfold Ak at hf;split at hf
  .rename_i d' Y' M1 e1;cases hf;exact ⟨L,_,M,_,_,_,c,Oq r,e1,λL1 H1 s1 c1 v r1=>q L1 H1 v s1 c1 r1⟩
  .rename_i Y' M1 e1;cases hf;exact ⟨L,_,M,_,_,_,c,Oq r,e1,λL1 H1 s1 c1 τ' r1=>q L1 H1 .non s1 c1 (by unfold Rep;rfl)⟩
  .cases hf
mutual
noncomputable def D.und (n:Nat):D->Bool
 |.tup ds=>D.unds n ds
 |.ref k=>decide (k<n)
 |_=>true
noncomputable def D.unds (n:Nat):List D->Bool
 |[]=>true
 |d::ds=>D.und n d&&D.unds n ds
end
mutual
theorem Rep.less:∀ {d:D} {v:V},D.und L.length d=true->Rep (L++N) H d v->Rep L H d v
 |.non,_,_,h=>by unfold Rep at h ⊢;exact h
 |.bl _,_,_,h=>by unfold Rep at h ⊢;exact h
 |.int _,_,_,h=>by unfold Rep at h ⊢;exact h
 |.str _,_,_,h=>by unfold Rep at h ⊢;exact h
 |.tup ds,_,hb,h=>by
  unfold D.und at hb;unfold Rep at h ⊢;obtain ⟨a,vs,rfl,e,r⟩:=h;exact ⟨a,vs,rfl,e,zJ.less hb r⟩
 |.ref n,_,hb,h=>by
  unfold D.und at hb;unfold Rep at h ⊢;obtain ⟨a,rfl,e⟩:=h;exact ⟨a,rfl,by rwa [AW (CQ hb)]at e⟩
theorem zJ.less:∀ {ds:List D} {vs:List V},D.unds L.length ds=true->zJ (L++N) H ds vs->zJ L H ds vs
 |[],_,_,h=>by unfold zJ at h ⊢;exact h
 |d::ds,_,hb,h=>by
  unfold D.unds at hb;rw[A6]at hb;unfold zJ at h ⊢;obtain ⟨v,r,rfl,h1,h2⟩:=h;exact ⟨v,r,rfl,Rep.less hb.1 h1,zJ.less hb.2 h2⟩
end
def Aa.less {κ:Type} {kf:D->Option κ} {L N:Yg} {H:Hp}:∀ {ps:List (D × D)} {vs:List (κ × V)},(ps.all λp=>D.und L.length p.1&&D.und L.length p.2)=true->Aa kf (L++N) H ps vs->Aa kf L H ps vs
 |[],_,_,h=>h
 |p::r,_,hb,h=>by
  rw[List.all_cons,A6,A6]at hb;obtain ⟨k,v,r',rfl,e,h1,h2⟩:=h;exact ⟨k,v,r',rfl,e,Rep.less hb.1.2 h1,Aa.less hb.2 h2⟩
noncomputable def MO.und (n:Nat):MO->Bool
 |.lst xs=>D.unds n xs
 |.fro xs=>D.unds n xs
 |.dict kvs=>kvs.all λp=>D.und n p.1&&D.und n p.2
 |.dicT kvs=>kvs.all λp=>D.und n p.1&&D.und n p.2
 |.set xs=>D.unds n xs
 |.froT kvs=>kvs.all λp=>D.und n p.1&&D.und n p.2
 |.froK kvs=>kvs.all λp=>D.und n p.1&&D.und n p.2
noncomputable def EW (g:FF):FF:=λds M=>match g ds M with
 |some (d,M')=>if D.und M.length d&&(M'.take M.length).all (MO.und M.length)&&decide (M.length<=M'.length) then some (d,M'.take M.length) else none
 |none=>none
def JL {P:Ym} {w:Yo} {K:Yb} {mg:Yh} {base:Heap} {n:Nat} {g:FF} (h:FnOk P w K mg base CX0 k f fd ps (spF K n g)):FnOk P w K mg base CX0 k f fd ps (spF K n (EW g)) :=
 h.imp λvs H Q E ⟨L,ds,M,d,M',c,r,hl,hf,q⟩=>by
  unfold EW at hf;split at hf
  .rename_i d' M1 e1;split at hf
   .rename_i hb;cases hf;simp only[A6,CA,A0]at hb;obtain ⟨⟨hb1,hb2⟩,hb3⟩:=hb;refine ⟨L,ds,M,_,_,c,r,hl,e1,λL1 H1 v s1 c1 r1=>?_⟩;obtain ⟨N,rfl⟩:=s1.pre;rw[<-c.len]at hb1 hb2 hb3;refine q L H1 v ⟨⟨[],by simp⟩,λa ha=> .inl ha,s1.old,s1.tup,s1.frz⟩ ⟨?_,?_,λi a m e2 e3=>?_⟩ (Rep.less hb1 r1)
    .rw[CG,<-c.len];omega
    .exact (DS.mp c1.nd).1
    .rw[<-c.len]at e3;have hi:i<L.length:=(AK.mp e2).1;have hm:m∈M1.take L.length:=FJ e3;rw[List.getElem?_take_of_lt hi]at e3;have z:=c1.obj i a m (EC e2) e3;have bl:=hb2 m hm;cases m with
     |lst xs=>obtain ⟨ws,e4,r4⟩:=z;exact ⟨ws,e4,zJ.less bl r4⟩
     |fro xs=>obtain ⟨o,ws,e4,r4⟩:=z;exact ⟨o,ws,e4,zJ.less bl r4⟩
     |dict ps=>obtain ⟨vs,e,r⟩:=z;exact ⟨vs,e,Aa.less bl r⟩
     |dicT ps=>obtain ⟨vs,e,r⟩:=z;exact ⟨vs,e,Aa.less bl r⟩
     |set _=>exact z
     |froT ps=>obtain ⟨o,vs,e,r⟩:=z;exact ⟨o,vs,e,Aa.less bl r⟩
     |froK ps=>obtain ⟨o,vs,e,r⟩:=z;exact ⟨o,vs,e,Aa.less bl r⟩
   .cases hf
  .cases hf
noncomputable def FX (g:FF):FF:=λds M=>if D.unds 0 ds then match g ds [] with
  |some (d,_)=>if D.und 0 d then some (d,M) else none
  |none=>none
 else none
def Iq {P:Ym} {w:Yo} {K:Yb} {mg:Yh} {base:Heap} {n:Nat} {g:FF} (h:FnOk P w K mg base CX0 k f fd ps (spF K n g)):FnOk P w K mg base CX0 k f fd ps (spF K n (FX g)) :=
 h.imp λvs H Q E ⟨L,ds,M,d,M',c,r,hl,hf,q⟩=>by
  unfold FX at hf;split at hf
  .rename_i hb0;split at hf
   .rename_i d' M1 e1;split at hf
    .rename_i hb;cases hf;refine ⟨[],ds,[],_,_,⟨rfl,.nil,λi a m e=>by simp at e⟩,zJ.less (L:=[]) (N:=L) hb0 (by simpa using r),hl,e1,λL1 H1 v s1 c1 r1=>?_⟩;have gr:∀ a o,H a=some o->H1 a=some o:=λa o e=>s1.old a o e (by simp);exact q L H1 v (.grow gr) (c.grow gr) ((Rep.less (L:=[]) (N:=L1) hb (by simpa using r1)).more L |> λz=>by simpa using z)
    .cases hf
   .cases hf
  .cases hf
def UK (hl:PE X l tl):PI X tg l (λY H R=>tl Y H λx H1=>∃ a,x=.ref a/\((∃ xs,SqL X.K H1 a xs)/\R (Itl X.K a) H1\/(∃ xs,SqT X.K H1 a xs)/\R (Itt X.K a) H1)):=by
 intro zB s Y H R I h;refine thn (hl zB s Y H _ I h) λv s1 ⟨y,H1,I1,r1,a,hy,h1⟩=>?_;subst hy;cases r1;have fpk:∀ b∈[s1.heap.objs.size],BH X zB H1 b:=λb hb=>by
  have e:b=s1.heap.objs.size:=by simpa using hb
  subst e;exact I1.fpOk (AF _) (I1.hok.fresh (AF _))
 rcases h1 with ⟨⟨xs,hq⟩,q⟩|⟨⟨xs,hq⟩,q⟩
 .obtain ⟨its,rv,pl,hz⟩:=I1.list hq;exact wpAny_pyIter_list pl.isList ⟨s1.heap.objs.size,[s1.heap.objs.size],_,_,H1,rfl,I1.kept (t':=s1.toks) λb o e=>AJ _ e,gT a _,⟨_,AV _ rfl,rfl,rfl⟩,fpk,q⟩
 .obtain ⟨its,rv,pl,hz⟩:=I1.tuple hq;exact wpAny_pyIter_tuple (show s1.heap.IsTuple a its.toArray from pl) ⟨s1.heap.objs.size,[s1.heap.objs.size],_,_,H1,rfl,I1.kept (t':=s1.toks) λb o e=>AJ _ e,WT a _,⟨_,AV _ rfl,rfl,rfl⟩,fpk,q⟩
noncomputable def CO (x:EV) (xs:List D):Option (Mem->Prop):=match x with
 |.dat (.ref n)=>some λM=>M[n]?=some (.lst xs)\/M[n]?=some (.fro xs)
 |_=>none
noncomputable def AQ (f:FE):FI:=λY M=>match f Y M with
 |some (x,M1)=>match Av M1 x with
  |some xs=>some (xs,CO x xs,M1)
  |none=>none
 |none=>none
noncomputable def A1 (f:FA):FI:=λY M=>match f Y M with
 |some ([.int j],M1)=>if -(2 ^ 62)<=j/\j<2 ^ 62 then some ((List.range j.toNat).map λ(k:Nat)=>D.int k,none,M1) else none
 |some ([.int i,.int j],M1)=>if -(2 ^ 62)<=i/\i<2 ^ 62 /\ -(2 ^ 62)<=j/\j<2 ^ 62 then some ((List.range (j-i).toNat).map λ(k:Nat)=>D.int (i+k),none,M1) else none
 |_=>none
def Xk (h:QE X e g):QI X tg e (AQ g):=.mk <| PI.imp (UK h.un) λτ H R zz=>by
 obtain ⟨L,Y,M,xs,gd,M',c,rs,hf,q⟩:=zz;unfold AQ at hf;split at hf
 .rename_i y M1 e1;split at hf
  .rename_i zs e2;cases hf;refine (mkE c rs e1 (λL1 H1 v s1 c1 r1=>?_));unfold Av at e2;cases t:CU y with
   |some ws=>
    rw[t]at e2;cases e2;obtain ⟨a,vs,rfl,e3,r3⟩:=Dt r1 t;refine ⟨a,rfl,.inr ⟨⟨vs,.of e3⟩,q L1 H1 _ s1 c1 λL2 H2 M2 s2 c2 _=>?_⟩⟩;have e4:=s2.tup a vs e3;have r4:=r3.stp s2;refine ⟨λi d hd=>?_,⟨vs,.of e4,by rw[r4.length];exact AF _⟩⟩;obtain ⟨u,hu,ru⟩:=r4.get hd;refine ⟨⟨vs,u,.of e4,hu⟩,λv H3 ⟨hH,hv⟩=>?_⟩;subst hH;have:=hv vs (.of e4);rw[hu]at this;cases this;exact ⟨λ_ _ z=>z,ru⟩
   |none=>
    rw[t]at e2;dsimp only at e2;obtain ⟨a,vs,rfl,e3,r3⟩:=CP c1 r1 e2;refine ⟨a,rfl,.inl ⟨⟨vs,.inl e3⟩,q L1 H1 _ s1 c1 λL2 H2 M2 s2 c2 hgd=>?_⟩⟩;have key:∃ vs',SqL X.K H2 a vs'/\zJ L2 H2 xs vs':=by
     cases y with
     |fl ys=>
      cases e2;obtain ⟨p',vs',hp',_,e5,e6,r6⟩:=r1;cases hp';exact ⟨vs',.of (s2.old _ _ e5 e6),r6.stp s2⟩
     |dat d=>
      cases d with
      |ref n=>
       unfold zW Rep at r1;obtain ⟨a',ha',e5⟩:=r1;cases ha';have e6:L2[n]?=some a:=by obtain ⟨N,hN⟩:=s2.pre;rw[hN];exact EC e5
       rcases hgd with z|z
       .obtain ⟨vs',e7,r7⟩:=c2.obj n a _ e6 z;exact ⟨vs',.of e7,r7⟩
       .obtain ⟨o,vs',e7,r7⟩:=c2.obj n a _ e6 z;exact ⟨vs',.inl (.inr ⟨o,e7⟩),r7⟩
      |_=>cases e2
    obtain ⟨vs',hq,r7⟩:=key;refine ⟨λi d hd=>?_,⟨vs',hq,by rw[r7.length];exact AF _⟩⟩;obtain ⟨u,hu,ru⟩:=r7.get hd;refine ⟨⟨vs',u,hq,hu⟩,λv H3 ⟨hH,hv⟩=>?_⟩;subst hH;have:=hv vs' hq;rw[hu]at this;cases this;exact ⟨λ_ _ z=>z,ru⟩
  .cases hf
 .cases hf
def NR (h:zJ L H [.int j] vs):vs=[.int j]:=by
 unfold zJ at h;obtain ⟨v,r,rfl,h1,h2⟩:=h;unfold zJ at h2;unfold Rep at h1;subst h1 h2;rfl
def j3 {K:Yb} {L:Yg} {H:Hp} {lo:Int} {n:Nat}:K7 K (Itr lo n) L H ((List.range n).map λ(k:Nat)=>D.int (lo+k)) none:=by
 intro L' H' M' s c _;refine ⟨λi d hd=>?_,by simp[Itr]⟩;rw[Az]at hd;cases q:(List.range n)[i]? with
 |none=>rw[q]at hd;cases hd
 |some k=>
  rw[q]at hd;cases hd;have hi:i<n:=by have:=(AK.mp q).1;simpa using this
  rw[List.getElem?_range hi]at q;cases q;refine ⟨hi,λv H'' ⟨hH,hv⟩=>?_⟩;subst hH hv;exact ⟨λ_ _ z=>z,Bm⟩
def YX {tg a:Expr} {g:FA} (hg:Gl X "range") (hm:X.mg "range" = none) (ha:QA X [a] g) (hl:JY g 1) (hs:starEach [a] X.env=[(false,eval a X.env)]:=by rfl):QI X tg (.Call (.Name "range" p) [a] [] pos) (A1 g) :=
 .mk <| PI.imp (j7 hg hm ha.un hs) λτ H R zz=>by
  obtain ⟨L,Y,M,xs,gd,M',c,rs,hf,q⟩:=zz;unfold A1 at hf;split at hf
  .rename_i j M1 e1;split at hf
   .rename_i hb;cases hf;refine (mkA c rs e1 (λL1 H1 vs s1 c1 r1=>⟨j,NR r1,hb.1,hb.2,q L1 H1 _ s1 c1 ?_⟩));have z:=j3 (K:=X.K) (L:=L1) (H:=H1) (lo:=0) (n:=j.toNat);simpa using z
   .cases hf
  .rename_i e1;have:=hl _ _ _ _ e1;simp at this
  .cases hf
end
section
variable {X:Cx} {a b c e:Expr} {es rest:Yi} {pos p apos cpos:Pos}
noncomputable def CJ (f g:FT):FT:=λY M=>match f Y M with
 |some (true,M1)=>g Y M1
 |r=>r
noncomputable def CZ (f g:FT):FT:=λY M=>match f Y M with
 |some (false,M1)=>g Y M1
 |r=>r
noncomputable def Dx (f:FT):FT:=λY M=>match f Y M with
 |some (k,M1)=>some (!k,M1)
 |none=>none
structure QW (X:Cx) (e:Expr) (f:FT):Prop where
 un:PW X e (trT X.K f)
def PW.imp (h:PW X e t) (hi:∀ τ H Q,t' τ H Q->t τ H Q):PW X e t':=λwh zB s Y H Q I q=>h wh zB s Y H Q I (hi _ _ _ q)
def cX (h:QT X a f):QW X (.BoolOp .And [a] pos) f:=.mk (f6 h.un)
def dB (h:QT X a f):QW X (.BoolOp .Or [a] pos) f:=.mk (fX h.un)
def Xo (h1:QT X a f) (h2:QW X (.BoolOp .And (b::rest) pos) g):QW X (.BoolOp .And (a::b::rest) pos) (CJ f g):=.mk <| PW.imp (Zj h1.un h2.un) λτ H Q zz=>by
 obtain ⟨L,Y,M,d,M',c,rs,hf,q⟩:=zz;unfold CJ at hf;split at hf
 .rename_i M1 e1;exact (mkT c rs e1 (λL1 H1 s1 c1=>Dd (mkT c1 (rs.stp s1) hf (λL2 H2 s2 c2=>q L2 H2 (s1.trans s2) c2))))
 .rename_i hne;cases d with
  |true=>exact absurd hf (hne M')
  |false=>exact (mkT c rs hf (λL1 H1 s1 c1=>DT (q L1 H1 s1 c1)))
def Zl (h1:QT X a f) (h2:QW X (.BoolOp .Or (b::rest) pos) g):QW X (.BoolOp .Or (a::b::rest) pos) (CZ f g):=.mk <| PW.imp (Zi h1.un h2.un) λτ H Q zz=>by
 obtain ⟨L,Y,M,d,M',c,rs,hf,q⟩:=zz;unfold CZ at hf;split at hf
 .rename_i M1 e1;exact (mkT c rs e1 (λL1 H1 s1 c1=>DT (mkT c1 (rs.stp s1) hf (λL2 H2 s2 c2=>q L2 H2 (s1.trans s2) c2))))
 .rename_i hne;cases d with
  |false=>exact absurd hf (hne M')
  |true=>exact (mkT c rs hf (λL1 H1 s1 c1=>Dd (q L1 H1 s1 c1)))
def QG (h:QW X e f):QT X e f:=.mk (PW.pt h.un)
def U0 (h:QT X a f):QT X (.UnaryOp .Not a pos) (Dx f):=.mk <| PT.imp (aW h.un) λτ H Q zz=>by
 obtain ⟨L,Y,M,d,M',c,rs,hf,q⟩:=zz;unfold Dx at hf;split at hf
 .rename_i k M1 e1;cases hf;exact (mkT c rs e1 (λL1 H1 s1 c1=>q L1 H1 s1 c1))
 .cases hf
noncomputable def Ds (f g:FE):FE:=λY M=>match f Y M with
 |some (.dat (.bl true),M1)=>g Y M1
 |some (.dat (.bl false),M1)=>some (.dat (.bl false),M1)
 |_=>none
noncomputable def HE (f:FE):FE:=λY M=>match f Y M with
 |some (.dat (.bl k),M1)=>some (.dat (.bl (!k)),M1)
 |_=>none
def E7 (h:zW H0 L H (.dat (.bl k)) v):v=.bl k:=by unfold zW Rep at h;exact h
def WX {op} (h:QE X a f):QE X (.BoolOp op [a] pos) f:=.mk (To h.un)
def Wf (h1:QE X a f) (h2:QE X (.BoolOp .And (b::rest) pos) g):QE X (.BoolOp .And (a::b::rest) pos) (Ds f g):=.mk <| PE.imp (aC h1.un h2.un) λτ H Q zz=>by
 obtain ⟨L,Y,M,d,M',c,rs,hf,q⟩:=zz;unfold Ds at hf;split at hf
 .rename_i M1 e1;exact (mkE c rs e1 (λL1 H1 v s1 c1 r1=>⟨true,E7 r1,Dd (mkE c1 (rs.stp s1) hf (λL2 H2 w s2 c2 r2=>q L2 H2 w (s1.trans s2) c2 (r2.back s1 c s2.sub)))⟩))
 .rename_i M1 e1;cases hf;exact (mkE c rs e1 (λL1 H1 v s1 c1 r1=>⟨false,E7 r1,DT (q L1 H1 _ s1 c1 (by have:=E7 r1;subst this;exact r1))⟩))
 .cases hf
def jG (h:QE X a f):QE X (.UnaryOp .Not a pos) (HE f):=.mk <| PE.imp (YC h.un) λτ H Q zz=>by
 obtain ⟨L,Y,M,d,M',c,rs,hf,q⟩:=zz;unfold HE at hf;split at hf
 .rename_i k M1 e1;cases hf;exact (mkE c rs e1 (λL1 H1 v s1 c1 r1=>⟨k,E7 r1,q L1 H1 _ s1 c1 (by unfold zW Rep;rfl)⟩))
 .cases hf
noncomputable abbrev KM:=EV->List D->Mem->Option (D × Mem)
noncomputable def fM (k:KM) (f:FE) (g:FA):FE:=λY M=>match f Y M with
 |some (x,M1)=>match BP M1 x with
  |some _=>match g Y M1 with
   |some (ds,M2)=>match k x ds M2 with
    |some (d,M3)=>some (.dat d,M3)
    |none=>none
   |none=>none
  |none=>none
 |none=>none
def Ha (K:Yb) (r:V->List V->Hp->VK->Prop) (k:KM):Prop:=∀ {L:Yg} {M M':Mem} {H H0:Hp} {x:EV} {ds:List D} {d:D} {v:V} {vs:List V} {Q:VK},Cor K L M H->zW H0 L H x v->zJ L H ds vs->k x ds M=some (d,M') ->
 (∀ L' H' u,Stp L H L' H'->Cor K L' M' H'->Rep L' H' d u->Q u H')->r v vs H Q
def Js {K:PySem.W.Frag} {r:V->List V->Hp->VK->Prop} {k:KM} {f:FE} {g:FA} (hk:Ha K r k) {τ:Sv} {H:Hp} {Q:VK} (h:trE K (fM k f g) τ H Q):tBM K "list" r (trE K f) (trA K g) τ H Q:=by
 obtain ⟨L,Y,M,d,M',c,rs,hf,q⟩:=h;unfold fM at hf;split at hf
 .rename_i x M1 e1;split at hf
  .rename_i xs e2;split at hf
   .rename_i ds M2 e3;split at hf
    .rename_i d' M3 e4;cases hf;refine (mkE c rs e1 (λL1 H1 v s1 c1 r1=>?_));obtain ⟨a,vs,rfl,e5,r5⟩:=CP c1 r1 e2;refine ⟨.inl ⟨rfl,vs,.inl e5⟩,L1,Y,M1,_,_,c1,rs.stp s1,e3,λL2 H2 ws s2 c2 r2=>?_⟩;exact hk c2 (r1.stp s2) r2 e4 λL3 H3 u s3 c3 r3=>q L3 H3 u ((s1.trans s2).trans s3) c3 r3
    .cases hf
   .cases hf
  .cases hf
 .cases hf
noncomputable def C8:KM:=λx ds M=>match x,ds with
 |.dat (.ref n),[d]=>match M[n]? with
  |some (.lst xs)=>if xs.length<sizeLine then some (.non,M.set n (.lst (xs++[d]))) else none
  |_=>none
 |_,_=>none
def zJ.one (h:zJ L H [d] vs):∃ v,vs=[v]/\Rep L H d v:=by
 unfold zJ at h;obtain ⟨v,r,rfl,h1,h2⟩:=h;unfold zJ at h2;subst h2;exact ⟨v,rfl,h1⟩
def Vj {K:Yb}:Ha K P9 C8:=by
 intro L M M' H H0 x ds d v vs Q c rx rd hk q;unfold C8 at hk;split at hk
 .rename_i n d';split at hk
  .rename_i xs e1;split at hk
   .rename_i hz;cases hk;unfold zW Rep at rx;obtain ⟨a,rfl,e2⟩:=rx;obtain ⟨ws,e3,r3⟩:=c.obj n a _ e2 e1;obtain ⟨w,rfl,r4⟩:=rd.one;obtain ⟨c5,s5⟩:=c.write e2 e1 (r3.app (.cons r4 .nil));exact ⟨a,ws,w,rfl,rfl,e3,by rw[r3.length];exact hz,q L _ _ s5 c5 (by unfold Rep;rfl)⟩
   .cases hk
  .cases hk
 .cases hk
def iD (h:QE X a f) (hg:QA X [e] g) (hbase:attributeBase a "append" X.env (eval a X.env)=eval a X.env:=by rfl)
  (hfew:((backTo cpos (starEach [e] X.env)).all (λx=> !x.1)&&(backToKw cpos (keywordEach [] X.env)).all (λx=>x.1.isSome)&&decide ([e].length+([]:List Keyword).length+(if ([]:List Keyword).isEmpty then 0 else 1)<30))=true:=by rfl)
  (hline:(apos.endLine==cpos.line)=true:=by rfl) (hs:starEach [e] X.env=(false,eval e X.env)::starEach [] X.env:=by rfl) (hplain:(backTo cpos (starEach [] X.env)).any (·.1)=false:=by rfl) :
  QE X (.Call (.Attribute a "append" apos) [e] [] cpos) (fM C8 f g) :=
 .mk <| PE.imp (Ig PySem.F.plainAttrs_list PySem.F.slot_list_append PySem.F.type_list_append Xg h.un hg.un hbase hfew hline hs hplain) λ_ _ _ z=>Js Vj z
noncomputable def E9:KM:=λx ds M=>match x,ds with
 |.dat (.ref n),[.int i]=>match M[n]? with
  |some (.lst xs)=>match ixN xs.length i with
   |some k=>match xs[k]? with
    |some d=>if -(2 ^ 63)<=i/\i<2 ^ 63 then some (d,M.set n (.lst (xs.eraseIdx k))) else none
    |none=>none
   |none=>none
  |_=>none
 |_,_=>none
def Wj {K:Yb}:Ha K Q7 E9:=by
 intro L M M' H H0 x ds d v vs Q c rx rd hk q;unfold E9 at hk;split at hk
 .rename_i n i;split at hk
  .rename_i xs e1;split at hk
   .rename_i k e2;split at hk
    .rename_i d' e3;split at hk
     .rename_i hb;cases hk;unfold zW Rep at rx;obtain ⟨a,rfl,e4⟩:=rx;obtain ⟨ws,e5,r5⟩:=c.obj n a _ e4 e1;obtain ⟨u,e6,r6⟩:=r5.get e3;obtain ⟨c5,s5⟩:=c.write e4 e1 (r5.eraseIdx k);exact ⟨a,ws,i,k,u,rfl,NR rd,e5,hb.1,hb.2,by rw[r5.length];exact (Kb e2).1,e6,q L _ _ s5 c5 (r6.stp s5)⟩
     .cases hk
    .cases hk
   .cases hk
  .cases hk
 .cases hk
def cA (h:QE X a f) (hg:QA X [e] g) (hbase:attributeBase a "pop" X.env (eval a X.env)=eval a X.env:=by rfl)
  (hfew:((backTo cpos (starEach [e] X.env)).all (λx=> !x.1)&&(backToKw cpos (keywordEach [] X.env)).all (λx=>x.1.isSome)&&decide ([e].length+([]:List Keyword).length+(if ([]:List Keyword).isEmpty then 0 else 1)<30))=true:=by rfl)
  (hline:(apos.endLine==cpos.line)=true:=by rfl) (hs:starEach [e] X.env=(false,eval e X.env)::starEach [] X.env:=by rfl) (hplain:(backTo cpos (starEach [] X.env)).any (·.1)=false:=by rfl) :
  QE X (.Call (.Attribute a "pop" apos) [e] [] cpos) (fM E9 f g) :=
 .mk <| PE.imp (Ig PySem.F.plainAttrs_list PySem.F.slot_list_pop PySem.F.type_list_pop Vq h.un hg.un hbase hfew hline hs hplain) λ_ _ _ z=>Js Wj z
noncomputable def He (x:EV) (i:D) (d:D) (M:Mem):Option Mem:=match x,i with
 |.dat (.ref n),.int i=>match M[n]? with
  |some (.lst xs)=>match ixN xs.length i with
   |some j=>some (M.set n (.lst (xs.set j d)))
   |none=>none
  |_=>none
 |_,_=>none
noncomputable def GB (fv fo fi:FE):FS:=λY M=>match toD fv Y M with
 |some (d,M1)=>match fo Y M1 with
  |some (x,M2)=>match toD fi Y M2 with
   |some (i,M3)=>match He x i d M3 with
    |some M4=>some (.nx,Y,M4)
    |none=>none
   |none=>none
  |none=>none
 |none=>none
def cW (hv:QE X v fv) (ho:QE X o fo) (hi:QE X i fi)
  (ha:∀ v,assign (.Subscript o i p) X.env v=(do
   let ov <- holding [v] (eval o X.env);let iv <- holding [v,ov] (eval i X.env);standAt p;holding [v,ov,iv] (setItem ov iv v);release [v,ov,iv] []):=by intro _;rfl)
  (hs:swapsWithSole [.Subscript o i p] v pos.line X.env=pure false:=by rfl) (hw:swappedStores [.Subscript o i p] v X.env=pure none:=by rfl) (h1:(assignEach [.Subscript o i p] X.env).map (·.2)=[assign (.Subscript o i p) X.env]:=by rfl) :
  QS X (.Assign [.Subscript o i p] v pos) (GB fv fo fi):=.mk <| PS.imp (RJ (Cp hv).un (UP ho.un (Cp hi).un Ul ha) hs hw h1) λE τ H zz=>by
 obtain ⟨L,Y,M,out,Y',M',c,rs,hf,q⟩:=zz;unfold GB at hf;split at hf
 .rename_i d M1 e1;split at hf
  .rename_i x M2 e2;split at hf
   .rename_i j M3 e3;split at hf
    .rename_i M4 e4;cases hf;refine ⟨L,Y,M,_,_,c,rs,e1,λL1 H1 u s1 c1 r1=>⟨L1,Y,M1,_,_,c1,rs.stp s1,e2,λL2 H2 w s2 c2 r2=>⟨L2,Y,M2,_,_,c2,rs.stp (s1.trans s2),e3,λL3 H3 z s3 c3 r3=>?_⟩⟩⟩;have st:=(s1.trans s2).trans s3;unfold He at e4;split at e4
     .rename_i n k;split at e4
      .rename_i xs e5;split at e4
       .rename_i m e6;cases e4;have r2':=r2.stp s3;unfold zW Rep at r2';obtain ⟨a,rfl,e7⟩:=r2';obtain ⟨ws,e8,r8⟩:=c3.obj n a _ e7 e5;obtain ⟨c9,s9⟩:=c3.write e7 e5 (zJ.set ((r1.stp s2).stp s3) m r8);exact ⟨a,ws,k,m,rfl,by unfold Rep at r3;exact r3,e8,by rw[r8.length];exact e6,q L3 _ (st.trans s9) c9 τ ((rs.stp st).stp s9)⟩
       .cases e4
      .cases e4
     .cases e4
    .cases hf
   .cases hf
  .cases hf
 .cases hf
end
noncomputable def GR:D->Option V
 |.non=>some .non
 |.bl k=>some (.bl k)
 |.int i=>some (.int i)
 |.str x=>some (.str x)
 |_=>none
def Jn (h:Rep L H d v) (e:GR d=some u):v=u:=by
 cases d with
 |non=>cases e;unfold Rep at h;exact h
 |bl _=>cases e;unfold Rep at h;exact h
 |int _=>cases e;unfold Rep at h;exact h
 |str _=>cases e;unfold Rep at h;exact h
 |tup _=>cases e
 |ref _=>cases e
noncomputable def Fy (neg:Bool):K2:=λx y M=>match x,y with
 |.dat d,.dat d'=>match GR d,GR d' with
  |some u,some w=>if Iv u w then some (.dat (.bl (if neg then !decide (u=w) else decide (u=w))),M) else none
  |_,_=>none
 |_,_=>none
def Oh (h:Fy neg x y M=some (r,M')):∃ d d' u w,x=.dat d/\y=.dat d'/\GR d=some u/\GR d'=some w/\Iv u w=true/\r=.dat (.bl (if neg then !decide (u=w) else decide (u=w)))/\M'=M:=by
 unfold Fy at h;split at h
 .rename_i d d';split at h
  .rename_i u w e1 e2;split at h
   .rename_i hs;cases h;exact ⟨d,d',u,w,rfl,rfl,e1,e2,hs,rfl,rfl⟩
   .cases h
  .cases h
 .cases h
def Nl {K:Yb}:BG K rEq (Fy false):=by
 intro L M M' H H0 x y d v w Q c rx ry hk q;obtain ⟨d1,d2,u,z,rfl,rfl,e1,e2,hs,rfl,rfl⟩:=Oh hk;have a1:=Jn rx e1;have a2:=Jn ry e2;subst a1 a2;exact ⟨hs,q L H _ (.refl L H) c (B3 (L:=L) (H:=H))⟩
def dQ {K:Yb}:BG K rNe (Fy true):=by
 intro L M M' H H0 x y d v w Q c rx ry hk q;obtain ⟨d1,d2,u,z,rfl,rfl,e1,e2,hs,rfl,rfl⟩:=Oh hk;have a1:=Jn rx e1;have a2:=Jn ry e2;subst a1 a2;exact ⟨hs,q L H _ (.refl L H) c (B3 (L:=L) (H:=H))⟩
noncomputable def K0 (neg:Bool) (K:Yb):R2:=λx y H Q=>∃ p q xs,x=.ref p/\y=.ref q/\SqL K H p xs/\SqL K H q []/\Q (.bl (if neg then !xs.isEmpty else xs.isEmpty)) H
def Kv (r:zY [] its):its=[]:=by cases r;rfl
def Om (hu:X.A.units<cLine):OpR X (compareOp .Eq) (K0 false X.K):=by
 intro zB s Y H x y v u Q I rx ry h;obtain ⟨p,q,xs,rfl,rfl,h1,h2,hq⟩:=h;cases rx;cases ry;obtain ⟨its,rv,pl,_⟩:=I.list h1;obtain ⟨its2,rv2,pl2,_⟩:=I.list h2;cases Kv rv2;cases rv with
 |nil=>exact SeqAt.eq_listAt (e:=λ_=>true) pl.isList pl2.isList rfl hu (λj h1=>by simp at h1) ⟨.bl true,H,I,rfl,hq⟩
 |cons _ _=>exact SeqAt.eq_list_lengthsAt pl.isList pl2.isList (by simp) hu ⟨.bl false,H,I,rfl,hq⟩
def Xs (hu:X.A.units<cLine):OpR X (compareOp .NotEq) (K0 true X.K):=by
 intro zB s Y H x y v u Q I rx ry h;obtain ⟨p,q,xs,rfl,rfl,h1,h2,hq⟩:=h;cases rx;cases ry;obtain ⟨its,rv,pl,_⟩:=I.list h1;obtain ⟨its2,rv2,pl2,_⟩:=I.list h2;cases Kv rv2;cases rv with
 |nil=>exact SeqAt.RcNeAt.lists (e:=λ_=>true) pl.isList pl2.isList rfl hu (λj h1=>by simp at h1) _ _ _ _ ⟨.bl false,H,I,rfl,hq⟩
 |cons _ _=>exact SeqAt.RcNeAt.lists_lengths pl.isList pl2.isList (by simp) hu _ _ _ _ ⟨.bl true,H,I,rfl,hq⟩
noncomputable def HX (neg:Bool):K2:=λx y M=>match BP M x,BP M y with
 |some xs,some []=>some (.dat (.bl (if neg then !xs.isEmpty else xs.isEmpty)),M)
 |_,_=>none
def Ml {K:Yb} {neg:Bool}:BG K (K0 neg K) (HX neg):=by
 intro L M M' H H0 x y d v w Q c rx ry hk q;unfold HX at hk;split at hk
 .rename_i xs e1 e2;cases hk;obtain ⟨p1,vs,rfl,h1,r1⟩:=CP c rx e1;obtain ⟨p2,ws,rfl,h2,r2⟩:=CP c ry e2;unfold zJ at r2;subst r2;refine ⟨p1,p2,vs,rfl,rfl,.inl h1,.inl h2,q L H _ (.refl L H) c ?_⟩;have:vs.isEmpty=xs.isEmpty:=by
   have:=r1.length;cases vs <;> cases xs <;> simp_all
  rw[this];exact (B3 (L:=L) (H:=H))
 .cases hk
noncomputable def kOr (k1 k2:K2):K2:=λx y M=>match k1 x y M with
 |some r=>some r
 |none=>k2 x y M
def JJ {K:Yb} {r1 r2:R2} {k1 k2:K2} (h1:BG K r1 k1) (h2:BG K r2 k2):BG K (λx y H Q=>r1 x y H Q\/r2 x y H Q) (kOr k1 k2):=by
 intro L M M' H H0 x y d v w Q c rx ry hk q;unfold kOr at hk;split at hk
 .rename_i r e1;cases hk;exact .inl (h1 c rx ry e1 q)
 .exact .inr (h2 c rx ry hk q)
noncomputable abbrev kEq:K2:=kOr (Fy false) (HX false)
noncomputable abbrev kNe:K2:=kOr (Fy true) (HX true)
def aE (hu:X.A.units<cLine) (h1:QE X a f) (h2:QE X b g):QE X (.Compare a [.Eq] [b] pos) (fOp kEq f g):=Me (JJ Nl Ml) (Ny.or (Om hu)) h1 h2 (EE _)
def Zm (hu:X.A.units<cLine) (h1:QE X a f) (h2:QE X b g):QT X (.Compare a [.Eq] [b] pos) (tst (fOp kEq f g)):=GG (JJ Nl Ml) (Ny.or (Om hu)) h1 h2 (EE _)
def a8 (hu:X.A.units<cLine) (h1:QE X a f) (h2:QE X b g):QT X (.Compare a [.NotEq] [b] pos) (tst (fOp kNe f g)):=GG (JJ dQ Ml) (gX.or (Xs hu)) h1 h2 (EE _)
noncomputable def G7:KB:=λxs M=>match xs with
 |[.dat (.int i)]=>some (.dat (.int (if i<0 then -i else i)),M)
 |_=>none
def gV {K:Yb}:Cq K (λxs H Q=>∃ i,xs=[.int i]/\Q (.int (if i<0 then -i else i)) H) G7:=by
 intro L M M' H H0 xs d vs Q c r hk q;unfold G7 at hk;split at hk
 .rename_i i;cases hk;obtain ⟨v,rfl,r1⟩:=r.one;have:v=.int i:=by unfold zW Rep at r1;exact r1
  subst this;exact ⟨i,rfl,q L H _ (.refl L H) c (Bm (L:=L) (H:=H))⟩
 .cases hk
noncomputable def GI:KB:=λxs M=>match xs with
 |[.dat (.int i)]=>some (.dat (.int i),M)
 |[.dat (.bl k)]=>some (.dat (.int (if k then 1 else 0)),M)
 |_=>none
def fK {K:Yb}:Cq K (λxs H Q=>(∃ i,xs=[.int i]/\Q (.int i) H) \/ ∃ k,xs=[.bl k]/\Q (.int (if k then 1 else 0)) H) GI:=by
 intro L M M' H H0 xs d vs Q c r hk q;unfold GI at hk;split at hk
 .rename_i i;cases hk;obtain ⟨v,rfl,r1⟩:=r.one;have:v=.int i:=by unfold zW Rep at r1;exact r1
  subst this;exact .inl ⟨i,rfl,q L H _ (.refl L H) c (Bm (L:=L) (H:=H))⟩
 .rename_i k;cases hk;obtain ⟨v,rfl,r1⟩:=r.one;have:=E7 r1;subst this;exact .inr ⟨k,rfl,q L H _ (.refl L H) c (Bm (L:=L) (H:=H))⟩
 .cases hk
section
variable {X:Cx} {a b c e:Expr} {es rest:Yi} {pos p apos cpos:Pos}
def fD {prog:Ym} {w:Yo} {A:Yn} {E:Yc} {s:Yl} {t b:Yt} {ws:Yf} {Q:Yc} (ht:IsTup s.heap t #[]) (hb:IsTup s.heap b ws.toArray) (h1:Q (.ref b) s) :
  wpAny (model prog w) A (binaryOp .Add (.ref t) (.ref b)) Q E s:=by
 obtain ⟨⟨cls,dd,data,sl⟩,ho,hc,n,hd⟩:=id ht;obtain ⟨⟨cls2,dd2,data2,sl2⟩,ho2,hc2,n2,hd2⟩:=id hb;simp only at hc hd hc2 hd2;subst hc hd hc2 hd2
 exact concat_meets ⟨_,ho,rfl⟩ ⟨_,ho2,rfl⟩ noFill_tuple_add seq_tuple_add PySem.F.slot_tuple_add PySem.F.entry_tuple_add (PySem.F.args_tuple_add_2 _ _)
   (tuple_addW0 t b #[] ws.toArray n n2 dd dd2 sl sl2 (by simp)) ⟨ho,ho2,h1⟩
noncomputable def Qt (K:Yb):R2:=λx y H Q=>∃ a b ys,x=.ref a/\y=.ref b/\SqT K H a []/\SqT K H b ys/\Q (.ref b) H
def gK:OpR X (binaryOp .Add) (Qt X.K):=by
 intro zB s Y H x y v u Q I rx ry h;obtain ⟨a,b,ys,rfl,rfl,ha,hb,q⟩:=h;cases rx;cases ry;obtain ⟨its,r1,p1,_⟩:=I.tuple ha;obtain ⟨its2,r2,p2,_⟩:=I.tuple hb;cases Kv r1;exact fD p1 p2 ⟨.ref b,H,I,rfl,q⟩
noncomputable def J8:K2:=λx y M=>match CU x,CU y with
 |some xs,some ys=>if xs.length+ys.length<=sizeLine then some (.dat (.tup (xs++ys)),M) else none
 |_,_=>none
def dU {K:Yb}:BG K (λx y H Q=>Ql K x y H Q\/Qt K x y H Q) J8:=by
 intro L M M' H H0 x y d v w Q c rx ry hk q;unfold J8 at hk;split at hk
 .rename_i xs ys e1 e2;split at hk
  .rename_i hz;cases hk;obtain ⟨p1,vs,rfl,h1,r1⟩:=Dt rx e1;obtain ⟨p2,ws,rfl,h2,r2⟩:=Dt ry e2;cases xs with
   |nil=>
    refine .inr ⟨p1,p2,ws,rfl,rfl,.of (by unfold zJ at r1;subst r1;exact h1),.of h2,q L H _ (.refl L H) c ?_⟩;unfold zW Rep;exact ⟨p2,ws,rfl,h2,r2⟩
   |cons x0 xr=>
    have hv:vs≠[]:=λz=>by have:=r1.length;rw[z]at this;simp at this
    refine .inl ⟨p1,p2,vs,ws,rfl,rfl,.of h1,.of h2,hv,by rw[r1.length,r2.length];exact hz,λz=>?_,λz pp hp=>?_⟩
    .have:ys=[]:=by
      have:=r2.length;rw[z]at this;cases ys with
      |nil=>rfl
      |cons _ _=>simp at this
     subst this;refine q L H _ (.refl L H) c ?_;unfold zW Rep;rw[BF];exact ⟨p1,vs,rfl,h1,r1⟩
    .exact q L _ _ (.upd hp) (c.upd hp) (Rep.newTup hp (r1.app r2))
  .cases hk
 .cases hk
noncomputable abbrev BE:K2:=kOr cH J8
variable {f g:FE}
def YM (h1:QE X a f) (h2:QE X b g):QE X (.BinOp a .Add b pos) (fOp BE f g):=F9 (JJ (Eg λ_ _ _ _=>Bm) dU) (XC.or (iV.or gK)) h1 h2
structure Kinds (K:Yb):Prop where
 k:∀ t T,t∈["NoneType", "bool", "int", "str", "list", "tuple", "dict"]->T∈["int", "bool", "str", "tuple"]->PySem.W.kitOne K (.type t) (.type T)=some (decide (t=T)||(decide (t = "bool")&&decide (T = "int")))
noncomputable def Gz (M:Mem):EV->Option String
 |.dat .non=>some "NoneType"
 |.dat (.bl _)=>some "bool"
 |.dat (.int _)=>some "int"
 |.dat (.str _)=>some "str"
 |.dat (.tup _)=>some "tuple"
 |.fl _=>some "list"
 |.dat (.ref n)=>match M[n]? with
  |some (.lst _)=>some "list"
  |some (.fro _)=>some "list"
  |some (.dict _)=>some "dict"
  |some (.dicT _)=>some "dict"
  |_=>none
def TH {K:PySem.W.Frag} {L:List Addr} {M:Mem} {H H0:Hp} {x:EV} {v:V} {t:String} (c:Cor K L M H) (r:zW H0 L H x v) (h:Gz M x=some t):TyOf K H v (.type t)/\t∈["NoneType", "bool", "int", "str", "list", "tuple", "dict"]:=by
 unfold Gz at h;split at h
 .cases h;unfold zW Rep at r;subst r;exact ⟨.non,by simp⟩
 .cases h;unfold zW Rep at r;subst r;exact ⟨.bl _,by simp⟩
 .cases h;unfold zW Rep at r;subst r;exact ⟨.int _,by simp⟩
 .cases h;unfold zW Rep at r;subst r;exact ⟨.str _,by simp⟩
 .cases h;unfold zW Rep at r;obtain ⟨a,vs,rfl,e,_⟩:=r;exact ⟨.tup e,by simp⟩
 .cases h;obtain ⟨p,vs,rfl,_,e,_⟩:=r;exact ⟨.lst e,by simp⟩
 .unfold zW Rep at r;obtain ⟨a,rfl,e⟩:=r;split at h
  .rename_i e1;cases h;obtain ⟨vs,q,_⟩:=c.obj _ a _ e e1;exact ⟨.lst q,by simp⟩
  .rename_i e1;cases h;obtain ⟨o,vs,q,_⟩:=c.obj _ a _ e e1;exact ⟨.frz q,by simp⟩
  .rename_i e1;cases h;obtain ⟨vs,q,_⟩:=c.obj _ a _ e e1;exact ⟨.dK q,by simp⟩
  .rename_i e1;cases h;obtain ⟨vs,q,_⟩:=c.obj _ a _ e e1;exact ⟨.dT q,by simp⟩
  .cases h
noncomputable def isT (t T:String):Bool:=decide (t=T)||(decide (t = "bool")&&decide (T = "int"))
noncomputable def Cw (T:String) (f:FE):FE:=λY M=>match f Y M with
 |some (x,M1)=>match Gz M1 x with
  |some t=>some (.dat (.bl (isT t T)),M1)
  |none=>none
 |none=>none
def NU (K:Yb) (T:String):List V->Hp->VK->Prop:=λxs H Q=>∃ x t b,xs=[x,.ty T]/\TyOf K H x t/\PySem.W.kitOne K t (.type T)=some b/\Q (.bl b) H
def fG:Bk X (.builtin "isinstance") (NU X.K T):=by
 intro zB s Y H xs us Q I r h;obtain ⟨x,t,b,rfl,ty,e,q⟩:=h;cases r with
 |cons r1 r2=>
  cases r2 with
  |cons r3 r4=>
   cases r4;cases r3;exact ZG I r1 ty e λtk=>⟨.bl b,H,I.tok _,rfl,q⟩
def K5 (hK:Kinds X.K) (hT:T∈["int", "bool", "str", "tuple"]) (hg:Gl X "isinstance") (hm:X.mg "isinstance" = none) (hg2:Gl X y) (hm2:X.mg y=none) (hv2:bootBuiltins y=some (.type T)) (hn2:y ≠ "__name__") (hd2:(y==("__debug__" : Str))=false) (h:QE X e f)
  (he:starEach (e::[.Name y p2]) X.env=(false,eval e X.env)::starEach [.Name y p2] X.env:=by rfl) (he2:starEach [.Name y p2] X.env=(false,eval (.Name y p2) X.env)::starEach [] X.env:=by rfl) (hpl:(backTo pos (starEach [.Name y p2] X.env)).any (·.1)=false:=by rfl) :
  QE X (.Call (.Name "isinstance" p1) [e,.Name y p2] [] pos) (Cw T f) :=
 .mk <| PE.imp (Qv (r:=NU X.K T) fG hg hm (by rfl) (FY h.un (FY (Xh (v:=.ty T) hg2 hm2 hv2 rfl hn2 hd2) Fj he2) he) (by decide) (by decide) he hpl) λτ H Q zz=>by
  obtain ⟨L,Y,M,d,M',c,rs,hf,q⟩:=zz;unfold Cw at hf;split at hf
  .rename_i x M1 e1;split at hf
   .rename_i t e2;cases hf;refine (mkE c rs e1 (λL1 H1 v s1 c1 r1=>?_));obtain ⟨ty,ht⟩:=TH c1 r1 e2;exact ⟨v,_,_,rfl,ty,hK.k t T ht hT,q L1 H1 _ s1 c1 (B3 (L:=L1) (H:=H1))⟩
   .cases hf
  .cases hf
def zJ.two (h:zJ L H [d,d'] vs):∃ v v',vs=[v,v']/\Rep L H d v/\Rep L H d' v':=by
 unfold zJ at h;obtain ⟨v,r,rfl,h1,h2⟩:=h;obtain ⟨v',rfl,h3⟩:=h2.one;exact ⟨v,v',rfl,h1,h3⟩
section
variable {fa:FAE}
def Rf (hg:Gl X "len") (hm:X.mg "len" = none) (ha:QAE X [e] fa) (he:starEach [e] X.env=(false,eval e X.env)::starEach [] X.env:=by rfl) (hpl:(backTo pos (starEach [] X.env)).any (·.1)=false:=by rfl):QE X (.Call (.Name "len" p) [e] [] pos) (fB Aw fa) :=
 FK Sk aG PySem.boot_len hg hm ha (by decide) (by decide) he hpl
def Rk (hg:Gl X "tuple") (hm:X.mg "tuple" = none) (ha:QAE X [e] fa) (he:starEach [e] X.env=(false,eval e X.env)::starEach [] X.env:=by rfl) (hpl:(backTo pos (starEach [] X.env)).any (·.1)=false:=by rfl):QE X (.Call (.Name "tuple" p) [e] [] pos) (fB DH fa) :=
 LA Ve UQ (by rfl) hg hm ha (by decide) (by decide) he hpl
def aH (hg:Gl X "abs") (hm:X.mg "abs" = none) (ha:QAE X [e] fa) (he:starEach [e] X.env=(false,eval e X.env)::starEach [] X.env:=by rfl) (hpl:(backTo pos (starEach [] X.env)).any (·.1)=false:=by rfl):QE X (.Call (.Name "abs" p) [e] [] pos) (fB G7 fa) :=
 FK gV Zs (by rfl) hg hm ha (by decide) (by decide) he hpl
def Vk (hg:Gl X "int") (hm:X.mg "int" = none) (ha:QAE X [e] fa) (he:starEach [e] X.env=(false,eval e X.env)::starEach [] X.env:=by rfl) (hpl:(backTo pos (starEach [] X.env)).any (·.1)=false:=by rfl):QE X (.Call (.Name "int" p) [e] [] pos) (fB GI fa) :=
 LA fK S8 (by rfl) hg hm ha (by decide) (by decide) he hpl
end
end
noncomputable def JE (sc scope:Y0):Bool:=scope.names.all λy=>
 (y.2 != .local||scope.names.lookup y.1==some .local)&&(y.2 != .cell||scope.names.lookup y.1==some .cell)&&(y.2 != .free||(sc.names.lookup y.1==some .cell||sc.names.lookup y.1==some .free))
noncomputable def JC (N:Yk) (scope:Y0) (own:Yj):Bool:=(List.range N.length).all λi=>match N[i]? with
 |some x=>decide (i∈own)||(scope.names.lookup x==none)||(scope.names.lookup x==some .free)
 |none=>true
def P4 (hk:scope.kind=.function) (hs:X.env.scope=sc) (hN:X.N=N) (h1:JE sc scope=true) (h2:JC N scope own=true):CompIn X scope own:=by
 unfold JE at h1;rw[A0]at h1;refine ⟨⟨hk,λy hy e=>?_,λy hy e=>?_,λy hy e=>?_⟩,λi x e=>?_⟩
 .have:=h1 y hy;simp[e]at this;exact this
 .have:=h1 y hy;simp[e]at this;exact this
 .have:=h1 y hy;simp[e]at this;show X.env.scope.names.lookup y.1=_\/X.env.scope.names.lookup y.1=_;rw[hs];exact this
 .unfold JC at h2;rw[A0]at h2;rw[hN]at e;have hi:i<N.length:=(AK.mp e).1;have:=h2 i (by simpa using hi);rw[e]at this;simp only[Bool.or_eq_true,CA,beq_iff_eq,or_assoc]at this;exact this
noncomputable def Iy (K:Yb):Bool:=K.all λp=>match p.2.cls with
 |.type n=>n != "list"
 |_=>true
theorem RP:∀ {K:Yb},K.lookup a=some o->(a,o)∈K
 |[],h=>by cases h
 | (b,u)::r,h=>by
  have h':List.lookup a ((b,u)::r)=some o:=h;rw[FN]at h';cases q:a==b with
  |true=>rw[q]at h';cases h';rw[beq_iff_eq.mp q];exact Ad
  |false=>rw[q]at h';exact Am _ (RP h')
def aU {K:PySem.W.Frag} (h:Iy K=true) {o:Obj} (e:K.lookup a=some o) (hc:o.cls=.type "list"):False:=by
 unfold Iy at h;rw[A0]at h;have:=h (a,o) (RP e);simp[hc]at this
theorem PV:∀ (ns:Ye),zJ L H (ns.map D.int) (ns.map V.int)
 |[]=> .nil
 |n::r=> .cons (by unfold Rep;rfl) (PV r)
def fN {K:Yb} {m:FF} {H:Hp} {a:Yt} {ns:Ye} {E:XK} (hL:Iy K=true) (hO:IX H) (hS:SqL K H a (ns.map V.int)) (h:∃ M',m [.ref 0] [.fro (ns.map D.int)]=some (.bl true,M')) :
  spF K 1 m [.ref a] H (λv _=>v=.bl true) E:=by
 obtain ⟨M',e⟩:=h;have hf:∃ o,H a=some (.frz o (.lst (ns.map V.int))):=by
  rcases hS with (h1|h1)|⟨o,its,n,h1,h2,_⟩
  .rcases hO a with z|⟨o,xs,z⟩
   .rw[h1]at z;cases z
   .rw[h1]at z;cases z
  .exact h1
  .exact (aU hL h1 h2).elim
 obtain ⟨o,hf⟩:=hf;refine ⟨[a],[.ref 0],[.fro (ns.map D.int)],_,_,⟨rfl,by simp,λn b m e1 e2=>?_⟩,.cons ?_ .nil,rfl,e,λL' H' v s c r=>?_⟩
 .cases n with
  |zero=>simp at e1 e2;subst e1;subst e2;exact ⟨o,_,hf,PV ns⟩
  |succ n=>simp at e1
 .unfold Rep;exact ⟨a,rfl,rfl⟩
 .unfold Rep at r;exact r
def Ok {α:Type} (x:Option (α × Mem)) (P:α->Mem->Prop):Prop:=∃ a M,x=some (a,M)/\P a M
def OkS (x:Option (Out × Sd × Mem)) (P:Out->Sd->Mem->Prop):Prop:=∃ o Y M,x=some (o,Y,M)/\P o Y M
def Ok.mono {α:Type} {x:Option (α × Mem)} {P Q:α->Mem->Prop} (h:Ok x P) (hq:∀ a M,P a M->Q a M):Ok x Q:=let ⟨a,M,e,p⟩:=h;⟨a,M,e,hq a M p⟩
def OkS.mono {x:Option (Out × Sd × Mem)} {P Q:Out->Sd->Mem->Prop} (h:OkS x P) (hq:∀ o Y M,P o Y M->Q o Y M):OkS x Q:=let ⟨a,Y,M,e,p⟩:=h;⟨a,Y,M,e,hq a Y M p⟩
def zp {α:Type} {a:α} {M:Mem} {P:α->Mem->Prop}:Ok (some (a,M)) P ↔ P a M:=⟨λ⟨_,_,e,p⟩=>by cases e;exact p,λp=>⟨a,M,rfl,p⟩⟩
def Ia {α:Type} {P:α->Mem->Prop}:Ok (none:Option (α × Mem)) P ↔ False:=⟨(λ⟨_,_,e,_⟩=>(nomatch e)),λh=>h.elim⟩
def cY {o:Out} {Y:Sd} {M:Mem} {P:Out->Sd->Mem->Prop}:OkS (some (o,Y,M)) P ↔ P o Y M:=⟨λ⟨_,_,_,e,p⟩=>by cases e;exact p,λp=>⟨o,Y,M,rfl,p⟩⟩
def A4 {i:Nat}:Ok (zC i Y M) P ↔ ∃ d,Y[i]?=some (some d)/\P (.dat d) M:=by
 unfold zC;constructor
 .rintro ⟨a,M1,e,p⟩;split at e
  .rename_i d e1;cases e;exact ⟨d,e1,p⟩
  .cases e
 .rintro ⟨d,e1,p⟩;rw[e1];exact ⟨_,_,rfl,p⟩
def BO {d:D}:Ok (fC d Y M) P ↔ P (.dat d) M:=zp
def Au {k:K2}:Ok (fOp k f g Y M) P ↔ Ok (f Y M) λx M1=>Ok (g Y M1) λy M2=>Ok (k x y M2) P:=by
 unfold fOp;constructor
 .rintro ⟨a,M1,e,p⟩;split at e
  .rename_i x M2 e1;split at e
   .rename_i y M3 e2;exact ⟨x,M2,e1,y,M3,e2,a,M1,e,p⟩
   .cases e
  .cases e
 .rintro ⟨x,M2,e1,y,M3,e2,a,M1,e,p⟩;rw[e1];dsimp only;rw[e2];exact ⟨a,M1,e,p⟩
def DU (P:D->Mem->Prop):EV->Mem->Prop
 |.dat d,M=>P d M
 |.fl xs,M=>P (.ref M.length) (M++[.lst xs])
def Bn {P:D->Mem->Prop}:Ok (toD f Y M) P ↔ Ok (f Y M) (DU P):=by
 unfold toD;constructor
 .rintro ⟨a,M1,e,p⟩;split at e
  .rename_i d M2 e1;cases e;exact ⟨_,_,e1,p⟩
  .rename_i xs M2 e1;cases e;exact ⟨_,_,e1,p⟩
  .cases e
 .rintro ⟨x,M2,e1,p⟩;rw[e1];cases x with
  |dat d=>exact ⟨d,M2,rfl,p⟩
  |fl xs=>exact ⟨_,_,rfl,p⟩
def zL {P:D->Mem->Prop} {d:D} {M:Mem}:DU P (.dat d) M ↔ P d M:=Iff.rfl
def Ji {P:D->Mem->Prop} {xs:List D} {M:Mem}:DU P (.fl xs) M ↔ P (.ref M.length) (M++[.lst xs]):=Iff.rfl
def E8:Ok (zI Y M) P ↔ P [] M:=zp
def DN {f:FD} {g:FA}:Ok (zD f g Y M) P ↔ Ok (f Y M) λd M1=>Ok (g Y M1) λds M2=>P (d::ds) M2:=by
 unfold zD;constructor
 .rintro ⟨a,M1,e,p⟩;split at e
  .rename_i x M2 e1;split at e
   .rename_i y M3 e2;cases e;exact ⟨x,M2,e1,y,_,e2,p⟩
   .cases e
  .cases e
 .rintro ⟨x,M2,e1,y,M3,e2,p⟩;rw[e1];dsimp only;rw[e2];exact ⟨_,_,rfl,p⟩
def HU:Ok (zd Y M) P ↔ P [] M:=zp
def Hs {f:FE} {g:FAE}:Ok (zP f g Y M) P ↔ Ok (f Y M) λd M1=>Ok (g Y M1) λds M2=>P (d::ds) M2:=by
 unfold zP;constructor
 .rintro ⟨a,M1,e,p⟩;split at e
  .rename_i x M2 e1;split at e
   .rename_i y M3 e2;cases e;exact ⟨x,M2,e1,y,_,e2,p⟩
   .cases e
  .cases e
 .rintro ⟨x,M2,e1,y,M3,e2,p⟩;rw[e1];dsimp only;rw[e2];exact ⟨_,_,rfl,p⟩
def KY {a:FA}:Ok (Ar a Y M) P ↔ Ok (a Y M) λds M1=>ds.length<=sizeLine/\P (.fl ds) M1:=by
 unfold Ar;constructor
 .rintro ⟨x,M1,e,p⟩;split at e
  .rename_i ds M2 e1;split at e
   .rename_i hz;cases e;exact ⟨ds,_,e1,hz,p⟩
   .cases e
  .cases e
 .rintro ⟨ds,M1,e1,hz,p⟩;rw[e1];dsimp only;rw[AB hz];exact ⟨_,_,rfl,p⟩
def IE {k:KB} {a:FAE}:Ok (fB k a Y M) P ↔ Ok (a Y M) λxs M1=>Ok (k xs M1) P:=by
 unfold fB;constructor
 .rintro ⟨x,M1,e,p⟩;split at e
  .rename_i ds M2 e1;exact ⟨ds,_,e1,x,M1,e,p⟩
  .cases e
 .rintro ⟨ds,M1,e1,p⟩;rw[e1];exact p
def F7 {m:FF} {a:FA}:Ok (zM m a Y M) P ↔ Ok (a Y M) λds M1=>Ok (m ds M1) λd M2=>P (.dat d) M2:=by
 unfold zM;constructor
 .rintro ⟨x,M1,e,p⟩;split at e
  .rename_i ds M2 e1;split at e
   .rename_i d M3 e2;cases e;exact ⟨ds,_,e1,d,_,e2,p⟩
   .cases e
  .cases e
 .rintro ⟨ds,M1,e1,d,M2,e2,p⟩;rw[e1];dsimp only;rw[e2];exact ⟨_,_,rfl,p⟩
def Hu {k:KM} {a:FA}:Ok (fM k f a Y M) P ↔ Ok (f Y M) λx M1=>(∃ xs,BP M1 x=some xs)/\Ok (a Y M1) λds M2=>Ok (k x ds M2) λd M3=>P (.dat d) M3:=by
 unfold fM;constructor
 .rintro ⟨x,M1,e,p⟩;split at e
  .rename_i y M2 e1;split at e
   .rename_i xs e2;split at e
    .rename_i ds M3 e3;split at e
     .rename_i d M4 e4;cases e;exact ⟨y,_,e1,⟨xs,e2⟩,ds,_,e3,d,_,e4,p⟩
     .cases e
    .cases e
   .cases e
  .cases e
 .rintro ⟨y,M1,e1,⟨xs,e2⟩,ds,M2,e3,d,M3,e4,p⟩;rw[e1];dsimp only;rw[e2];dsimp only;rw[e3];dsimp only;rw[e4];exact ⟨_,_,rfl,p⟩
def NP:Ok (De Y M) P ↔ P none M:=zp
def Mq (P:Option Int->Mem->Prop):EV->Mem->Prop
 |.dat (.int i),M=>P (some i) M
 |_,_=>False
def QC {i:Int} {M:Mem}:Mq P (.dat (.int i)) M ↔ P (some i) M:=Iff.rfl
def N2:Ok (C6 f Y M) P ↔ Ok (f Y M) (Mq P):=by
 unfold C6;constructor
 .rintro ⟨x,M1,e,p⟩;split at e
  .rename_i i M2 e1;cases e;exact ⟨_,_,e1,p⟩
  .cases e
 .rintro ⟨x,M1,e1,p⟩;rw[e1];cases x with
  |fl xs=>exact p.elim
  |dat d=>
   cases d with
   |int i=>exact ⟨_,_,rfl,p⟩
   |_=>exact p.elim
def Nv {l h:FO}:Ok (fSl f l h Y M) P ↔ Ok (f Y M) λx M1=>Ok (l Y M1) λlo M2=>Ok (h Y M2) λhi M3=>Ok (kSl x lo hi M3) P:=by
 unfold fSl;constructor
 .rintro ⟨x,M1,e,p⟩;split at e
  .rename_i y M2 e1;split at e
   .rename_i lo M3 e2;split at e
    .rename_i hi M4 e3;exact ⟨y,_,e1,lo,_,e2,hi,_,e3,x,M1,e,p⟩
    .cases e
   .cases e
  .cases e
 .rintro ⟨y,M1,e1,lo,M2,e2,hi,M3,e3,p⟩;rw[e1];dsimp only;rw[e2];dsimp only;rw[e3];exact p
def blP (P:Bool->Mem->Prop):EV->Mem->Prop
 |.dat (.bl k),M=>P k M
 |_,_=>False
def Ft {P:Bool->Mem->Prop} {k:Bool} {M:Mem}:blP P (.dat (.bl k)) M ↔ P k M:=Iff.rfl
def MY {P:Bool->Mem->Prop}:Ok (tst f Y M) P ↔ Ok (f Y M) (blP P):=by
 unfold tst;constructor
 .rintro ⟨x,M1,e,p⟩;split at e
  .rename_i i M2 e1;cases e;exact ⟨_,_,e1,p⟩
  .cases e
 .rintro ⟨x,M1,e1,p⟩;rw[e1];cases x with
  |fl xs=>exact p.elim
  |dat d=>
   cases d with
   |bl i=>exact ⟨_,_,rfl,p⟩
   |_=>exact p.elim
def RO:Ok (zZ Y M) P ↔ P true M:=zp
def cT:Ok (CJ s t Y M) P ↔ Ok (s Y M) λk M1=>if k then Ok (t Y M1) P else P false M1:=by
 unfold CJ;constructor
 .rintro ⟨x,M1,e,p⟩;split at e
  .rename_i M2 e1;exact ⟨true,M2,e1,by dsimp only;rw[AB rfl];exact ⟨x,M1,e,p⟩⟩
  .rename_i hn;cases x with
   |true=>exact absurd e (hn M1)
   |false=>exact ⟨false,M1,e,by simpa using p⟩
 .rintro ⟨x,M1,e1,p⟩;rw[e1];cases x with
  |true=>simpa using p
  |false=>exact ⟨false,M1,rfl,by simpa using p⟩
def nxP (k:Sd->Mem->Prop) (P:Out->Sd->Mem->Prop):Out->Sd->Mem->Prop
 |.nx,Y,M=>k Y M
 |o,Y,M=>P o Y M
def zU {k:Sd->Mem->Prop}:nxP k P .nx Y M ↔ k Y M:=Iff.rfl
def Fl {k:Sd->Mem->Prop} {d:D}:nxP k P (.ret d) Y M ↔ P (.ret d) Y M:=Iff.rfl
def C4:OkS (Ap Y M) P ↔ P .nx Y M:=cY
def zN:OkS (zS f g Y M) P ↔ OkS (f Y M) (nxP (λσ1 M1=>OkS (g σ1 M1) P) P):=by
 unfold zS;constructor
 .rintro ⟨o,σ1,M1,e,p⟩;split at e
  .rename_i σ2 M2 e1;exact ⟨_,_,_,e1,o,σ1,M1,e,p⟩
  .rename_i hn;refine ⟨o,σ1,M1,e,?_⟩;cases o with
   |nx=>exact absurd e (hn σ1 M1)
   |_=>exact p
 .rintro ⟨o,σ1,M1,e1,p⟩;rw[e1];cases o with
  |nx=>exact p
  |_=>exact ⟨_,_,_,rfl,p⟩
def Ca {c:FT}:OkS (sIf c f g Y M) P ↔ Ok (c Y M) λk M1=>if k then OkS (f Y M1) P else OkS (g Y M1) P:=by
 unfold sIf;constructor
 .rintro ⟨o,σ1,M1,e,p⟩;split at e
  .rename_i M2 e1;exact ⟨_,_,e1,by dsimp only;rw[AB rfl];exact ⟨o,σ1,M1,e,p⟩⟩
  .rename_i M2 e1;exact ⟨_,_,e1,by simpa using ⟨o,σ1,M1,e,p⟩⟩
  .cases e
 .rintro ⟨x,M1,e1,p⟩;rw[e1];cases x with
  |true=>simpa using p
  |false=>simpa using p
def CC {h:FE}:OkS (AL h Y M) P ↔ Ok (h Y M) (DU λd M1=>P (.ret d) Y M1):=by
 rw[<-Bn];unfold AL;constructor
 .rintro ⟨o,σ1,M1,e,p⟩;split at e
  .rename_i d M2 e1;cases e;exact ⟨_,_,e1,p⟩
  .cases e
 .rintro ⟨x,M1,e1,p⟩;rw[e1];exact ⟨_,_,_,rfl,p⟩
def zh {i:Nat} {h:FE}:OkS (AM i h Y M) P ↔ Ok (h Y M) (DU λd M1=>P .nx (Y.set i (some d)) M1):=by
 rw[<-Bn];unfold AM;constructor
 .rintro ⟨o,σ1,M1,e,p⟩;split at e
  .rename_i d M2 e1;cases e;exact ⟨_,_,e1,p⟩
  .cases e
 .rintro ⟨x,M1,e1,p⟩;rw[e1];exact ⟨_,_,_,rfl,p⟩
def Hg {h:FE}:OkS (B6 h Y M) P ↔ Ok (h Y M) λ_ M1=>P .nx Y M1:=by
 unfold B6;constructor
 .rintro ⟨o,σ1,M1,e,p⟩;split at e
  .rename_i d M2 e1;cases e;exact ⟨_,_,e1,p⟩
  .cases e
 .rintro ⟨x,M1,e1,p⟩;rw[e1];exact ⟨_,_,_,rfl,p⟩
def KO {v o i:FE}:OkS (GB v o i Y M) P ↔ Ok (v Y M) (DU λd M1=>Ok (o Y M1) λx M2=>Ok (i Y M2) (DU λj M3=>∃ M4,He x j d M3=some M4/\P .nx Y M4)):=by
 rw[<-Bn];unfold GB;constructor
 .rintro ⟨o,σ1,M1,e,p⟩;split at e
  .rename_i d M2 e1;split at e
   .rename_i x M3 e2;split at e
    .rename_i j M4 e3;split at e
     .rename_i M5 e4;cases e;refine ⟨_,_,e1,_,_,e2,?_⟩;dsimp only;rw[<-Bn];exact ⟨_,_,e3,_,e4,p⟩
     .cases e
    .cases e
   .cases e
  .cases e
 .rintro ⟨d,M1,e1,x,M2,e2,p⟩;rw[<-Bn]at p;obtain ⟨j,M3,e3,M4,e4,p⟩:=p;rw[e1];dsimp only;rw[e2];dsimp only;rw[e3];dsimp only;rw[e4];exact ⟨_,_,_,rfl,p⟩
def zw {n:Nat} {ds:List D} {Q:D->Mem->Prop}:Ok (Ak n f ds M) Q ↔ OkS (f (ds.map some++List.replicate (n-ds.length) none) M) λo _ M1=>match o with|.ret d=>Q d M1|.nx=>Q .non M1|_=>False:=by
 unfold Ak;constructor
 .rintro ⟨o,M1,e,p⟩;split at e
  .rename_i d σ1 M2 e1;cases e;exact ⟨_,_,_,e1,p⟩
  .rename_i σ1 M2 e1;cases e;exact ⟨_,_,_,e1,p⟩
  .cases e
 .rintro ⟨o,σ1,M1,e1,p⟩;rw[e1];cases o with
  |ret d=>exact ⟨_,_,rfl,p⟩
  |nx=>exact ⟨_,_,rfl,p⟩
  |brk=>exact p.elim
  |cnt=>exact p.elim
theorem IT {c:FT} {b:FS} (I:Nat->Sd->Mem->Prop) (hs:∀ m Y M,I m Y M->Ok (c Y M) λk M1=>if k then OkS (b Y M1) λo σ2 M2=>match o with|.nx=>∃ m',m'<m/\I m' σ2 M2|.cnt=>∃ m',m'<m/\I m' σ2 M2|.brk=>P .nx σ2 M2|.ret d=>P (.ret d) σ2 M2 else P .nx Y M1) :
  ∀ (n m:Nat) (Y:Sd) (M:Mem),m<n->I m Y M->OkS (Ce c b n Y M) P
 |0,m,Y,M,h,_=>absurd h (Nat.not_lt_zero _)
 |n+1,m,Y,M,h,hi=>by
  obtain ⟨k,M1,e,q⟩:=hs m Y M hi;unfold Ce;rw[e];cases k with
  |false=>exact ⟨_,_,_,rfl,by simpa using q⟩
  |true=>
   rw[AB rfl]at q;obtain ⟨o,σ2,M2,e2,q⟩:=q;dsimp only;rw[e2];cases o with
   |nx=>obtain ⟨m',hm,q⟩:=q;exact IT I hs n m' σ2 M2 (by omega) q
   |cnt=>obtain ⟨m',hm,q⟩:=q;exact IT I hs n m' σ2 M2 (by omega) q
   |brk=>exact ⟨_,_,_,rfl,q⟩
   |ret d=>exact ⟨_,_,_,rfl,q⟩
theorem E1 {g:FG} {b:FS} {all:List D} {gd:Option (Mem->Prop)} (I:List D->Sd->Mem->Prop)
  (hs:∀ x r Y M,I (x::r) Y M->BD gd all M /\ ∃ σ1,g x Y=some σ1/\OkS (b σ1 M) λo σ2 M2=>match o with|.nx=>I r σ2 M2|.cnt=>I r σ2 M2|.brk=>P .nx σ2 M2|.ret d=>P (.ret d) σ2 M2)
  (he:∀ Y M,I [] Y M->BD gd all M/\P .nx Y M):∀ (xs:List D) (Y:Sd) (M:Mem),I xs Y M->OkS (C0 g b all gd xs Y M) P
 |[],Y,M,hi=>by
  unfold C0;obtain ⟨h1,h2⟩:=he Y M hi;rw[AB h1];exact ⟨_,_,_,rfl,h2⟩
 |x::r,Y,M,hi=>by
  unfold C0;obtain ⟨h1,σ1,e1,o,σ2,M2,e2,q⟩:=hs x r Y M hi;rw[AB h1,e1];dsimp only;rw[e2];cases o with
  |nx=>exact E1 I hs he r σ2 M2 q
  |cnt=>exact E1 I hs he r σ2 M2 q
  |brk=>exact ⟨_,_,_,rfl,q⟩
  |ret d=>exact ⟨_,_,_,rfl,q⟩
def Ed {i:FI} {g:FG} {b:FS}:OkS (Bl i g b Y M) P ↔ ∃ xs gd M1,i Y M=some (xs,gd,M1)/\OkS (C0 g b xs gd xs Y M1) P:=by
 unfold Bl;constructor
 .rintro ⟨o,σ1,M1,e,p⟩;split at e
  .rename_i xs gd M2 e1;exact ⟨_,_,_,e1,_,_,_,e,p⟩
  .cases e
 .rintro ⟨xs,gd,M1,e1,p⟩;rw[e1];exact p
theorem IH {g:FG} {tc:FT} {te:FE} {all:List D} {gd:Option (Mem->Prop)} (I:List D->List D->Mem->Prop)
  (hs:∀ x r acc M,I (x::r) acc M->BD gd all M /\ ∃ σ1,g x Y=some σ1/\Ok (tc σ1 M) λk M1=>if k then Ok (te σ1 M1) (DU λd M2=>I r (acc++[d]) M2) else I r acc M1)
  {Q:List D->Mem->Prop} (he:∀ acc M,I [] acc M->BD gd all M/\Q acc M):∀ (xs acc:List D) (M:Mem),I xs acc M->Ok (A7 g tc te Y all gd xs M) λys M1=>Q (acc++ys) M1
 |[],acc,M,hi=>by
  unfold A7;obtain ⟨h1,h2⟩:=he acc M hi;rw[AB h1];exact ⟨_,_,rfl,by simpa using h2⟩
 |x::r,acc,M,hi=>by
  unfold A7;obtain ⟨h1,σ1,e1,k,M1,e2,q⟩:=hs x r acc M hi;rw[AB h1,e1];dsimp only;rw[e2];cases k with
  |false=>exact IH I hs he r acc M1 (by simpa using q)
  |true=>
   rw[AB rfl,<-Bn]at q;obtain ⟨d,M2,e3,q⟩:=q;dsimp only;rw[e3];obtain ⟨ys,M3,e4,p⟩:=IH I hs he r (acc++[d]) M2 q;dsimp only;rw[e4];exact ⟨_,_,rfl,by simpa using p⟩
def HK {own:Yj} {i:FI} {g:FG} {tc:FT} {te:FE} {Q:EV->Mem->Prop}:Ok (zo own i g tc te Y M) Q ↔ ∃ xs gd M1,i Y M=some (xs,gd,M1)/\xs.length<=sizeLine/\Ok (A7 g tc te (Ac own Y) xs gd xs M1) λys M2=>Q (.fl ys) M2:=by
 unfold zo;constructor
 .rintro ⟨o,M1,e,p⟩;split at e
  .rename_i xs gd M2 e1;split at e
   .rename_i hz;split at e
    .rename_i ys M3 e2;cases e;exact ⟨_,_,_,e1,hz,_,_,e2,p⟩
    .cases e
   .cases e
  .cases e
 .rintro ⟨xs,gd,M1,e1,hz,ys,M2,e2,p⟩;rw[e1];dsimp only;rw[AB hz,e2];exact ⟨_,_,rfl,p⟩
def IL {h:FE} {x:EV} {M1:Mem} {xs:List D} (e:h Y M=some (x,M1)) (e2:Av M1 x=some xs):AQ h Y M=some (xs,CO x xs,M1):=by
 unfold AQ;rw[e];dsimp only;rw[e2]
def VX {a:FA} {M1:Mem} {j:Int} (e:a Y M=some ([.int j],M1)) (h1:0<=j) (h2:j<2 ^ 62):A1 a Y M=some ((List.range j.toNat).map λ(k:Nat)=>D.int k,none,M1):=by
 unfold A1;rw[e];dsimp only;rw[AB ⟨by omega,h2⟩]
def Gh:Ok (BE (.dat (.int i)) (.dat (.int j)) M) P ↔ P (.dat (.int (i+j))) M:=zp
def LM:Ok (G5 (.dat (.int i)) (.dat (.int j)) M) P ↔ Gw i j=true/\P (.dat (.int (i*j))) M:=by
 unfold G5 kI;dsimp only;split
 .rename_i h;rw[zp];simp[h]
 .rename_i h;rw[Ia];simp[h]
def FL:Ok (Ct (.dat (.int i)) (.dat (.int j)) M) P ↔ 0<j/\P (.dat (.int (i % j))) M:=by
 unfold Ct kI;dsimp only;split
 .rename_i h;rw[zp];simp at h;simp[h]
 .rename_i h;rw[Ia];simp at h;simp;intro h';omega
def KG:Ok (G2 (.dat (.int i)) (.dat (.int j)) M) P ↔ (0<j/\j<1073741824)/\P (.dat (.int (i / j))) M:=by
 unfold G2 kI;dsimp only;split
 .rename_i h;rw[zp];simp at h;simp[h]
 .rename_i h;rw[Ia];simp at h;simp;intro h' h2;have:=h h';omega
def Mt:Ok (Hl (.dat (.int i)) (.dat (.int j)) M) P ↔ (0<=j/\j<=1000000/\i.natAbs<2 ^ 64)/\P (.dat (.int (i ^ j.toNat))) M:=by
 unfold Hl kI;dsimp only;split
 .rename_i h;rw[zp];simp only[A6,CA]at h;simp[h]
 .rename_i h;rw[Ia];simp only[A6,CA,not_and]at h;simp only[false_iff,not_and];intro ⟨a,b,c⟩;exact absurd c (h ⟨a,b⟩)
def Iw:Ok (kLt (.dat (.int i)) (.dat (.int j)) M) P ↔ P (.dat (.bl (decide (i<j)))) M:=zp
def Zy:Ok (kLe (.dat (.int i)) (.dat (.int j)) M) P ↔ P (.dat (.bl (decide (i<=j)))) M:=zp
def eP:Ok (kGe (.dat (.int i)) (.dat (.int j)) M) P ↔ P (.dat (.bl (decide (j<=i)))) M:=zp
def Gx:Ok (kEq (.dat (.int i)) (.dat (.int j)) M) P ↔ P (.dat (.bl (decide (i=j)))) M:=by
 have:kEq (.dat (.int i)) (.dat (.int j)) M=some (.dat (.bl (decide (V.int i=V.int j))),M):=rfl;rw[this,zp];simp
def W5:Ok (kNe (.dat (.int i)) (.dat (.int j)) M) P ↔ P (.dat (.bl (decide (i≠j)))) M:=by
 have:kNe (.dat (.int i)) (.dat (.int j)) M=some (.dat (.bl (!decide (V.int i=V.int j))),M):=rfl;rw[this,zp];simp
def gP {x:EV} {xs:List D} (h:BP M x=some xs) (hx:∀ d,x=.dat d->GR d=none):Ok (kNe x (.fl []) M) P ↔ P (.dat (.bl (!xs.isEmpty))) M:=by
 have e1:Fy true x (.fl []) M=none:=by cases x <;> rfl
 have e2:kNe x (.fl []) M=some (.dat (.bl (!xs.isEmpty)),M):=by
  unfold kNe kOr;rw[e1];unfold HX;rw[h];rfl
 rw[e2,zp]
def Hy {x:EV} {xs:List D} {d:D} (h:Av M x=some xs) (hd:atI xs i=some d) (p:P (.dat d) M):Ok (kIx x (.dat (.int i)) M) P:=by
 have:kIx x (.dat (.int i)) M=some (.dat d,M):=by unfold kIx;dsimp only;rw[h];dsimp only;rw[hd]
 rw[this,zp];exact p
def LN {xs:List D} {k:Nat} {d:D} (h:xs[k]?=some d):atI xs (k:Int)=some d:=Ow h
def Mu {xs:List D} {i:Int} {d:D} (h0:0<=i) (h:xs[i.toNat]?=some d):atI xs i=some d:=by
 have:i=((i.toNat:Nat):Int):=by omega
 rw[this];exact Ow h
def PN {x:EV} {xs:List D} (h:Av M x=some xs):Ok (Aw [x] M) P ↔ P (.dat (.int xs.length)) M:=by
 have:Aw [x] M=some (.dat (.int xs.length),M):=by unfold Aw;dsimp only;rw[h]
 rw[this,zp]
def Ka {x:EV} {xs:List D} (h:Av M x=some xs):Ok (DH [x] M) P ↔ P (.dat (.tup xs)) M:=by
 have:DH [x] M=some (.dat (.tup xs),M):=by unfold DH;dsimp only;rw[h]
 rw[this,zp]
def NJ:Ok (G7 [.dat (.int i)] M) P ↔ P (.dat (.int (if i<0 then -i else i))) M:=zp
def Pm {x:EV} {xs:List D} {lo hi:Ys} (h:BP M x=some xs) (ht:CU x=none):Ok (kSl x lo hi M) P ↔ P (.fl (B9 xs lo hi)) M:=by
 have:kSl x lo hi M=some (.fl (B9 xs lo hi),M):=by unfold kSl;rw[ht];dsimp only;rw[h]
 rw[this,zp]
def BZ {xs:List D}:Av M (.dat (.tup xs))=some xs:=rfl
def FU {xs:List D}:Av M (.fl xs)=some xs:=rfl
def Ri {xs:List D}:BP M (.fl xs)=some xs:=rfl
def D0 {n:Nat} {xs:List D} (h:M[n]?=some (.lst xs)):BP M (.dat (.ref n))=some xs:=by unfold BP;dsimp only;rw[h]
def QF {n:Nat} {xs:List D} (h:M[n]?=some (.fro xs)):BP M (.dat (.ref n))=some xs:=by unfold BP;dsimp only;rw[h]
def CT {n:Nat} {xs:List D} (h:M[n]?=some (.lst xs)):Av M (.dat (.ref n))=some xs:=D0 h
def ZN {n:Nat} {xs:List D} (h:M[n]?=some (.fro xs)):Av M (.dat (.ref n))=some xs:=QF h
def NW {n:Nat} {xs:List D} {d:D} {Q:D->Mem->Prop} (h:M[n]?=some (.lst xs)) (hz:xs.length<sizeLine):Ok (C8 (.dat (.ref n)) [d] M) Q ↔ Q .non (M.set n (.lst (xs++[d]))):=by
 have:C8 (.dat (.ref n)) [d] M=some (.non,M.set n (.lst (xs++[d]))):=by unfold C8;dsimp only;rw[h];dsimp only;rw[AB hz]
 rw[this,zp]
def YQ {n:Nat} {x:D} {xs:List D} {Q:D->Mem->Prop} (h:M[n]?=some (.lst (x::xs))):Ok (E9 (.dat (.ref n)) [.int 0] M) Q ↔ Q x (M.set n (.lst xs)):=by
 have:E9 (.dat (.ref n)) [.int 0] M=some (x,M.set n (.lst xs)):=by
  unfold E9;dsimp only;rw[h];dsimp only;have e:ixN (x::xs).length 0=some 0:=by unfold ixN;rw[AB (by omega),AB (by simp)];rfl
  rw[e];dsimp only[List.getElem?_cons_zero];rw[AB (by decide)];rfl
 rw[this,zp]
def L6 {n k:Nat} {xs:List D} {d:D} (h:M[n]?=some (.lst xs)) (hk:k<xs.length):He (.dat (.ref n)) (.int k) d M=some (M.set n (.lst (xs.set k d))):=by
 unfold He;dsimp only;rw[h];dsimp only;have e:ixN xs.length (k:Int)=some k:=by unfold ixN;rw[AB (by omega),AB (by omega)];simp
 rw[e]
def Nn {m:FF} {ds:List D} {M:Mem} {Q:D->Mem->Prop} (h:Ok (m ds M) λd M1=>(D.und M.length d=true/\M.length<=M1.length /\ ∀ (j:Nat) u,j<M.length->M1[j]?=some u->MO.und M.length u=true)/\Q d (M1.take M.length)):Ok (EW m ds M) Q:=by
 obtain ⟨d,M1,e,⟨h1,h2,h3⟩,q⟩:=h;unfold EW;rw[e];dsimp only;rw[AB]
 .exact ⟨_,_,rfl,q⟩
 .simp only[A6,CA,A0];refine ⟨⟨h1,λu hu=>?_⟩,h2⟩;obtain ⟨j,hj⟩:=List.getElem?_of_mem hu;have hlt:j<M.length:=by
   have:=(AK.mp hj).1;rw[CG]at this;omega
  rw[List.getElem?_take_of_lt hlt]at hj;exact h3 j u hlt hj
def Il {m:FF} {ds:List D} {M:Mem} {Q:D->Mem->Prop} (h0:D.unds 0 ds=true) (h:Ok (m ds []) λd _=>D.und 0 d=true/\Q d M):Ok (FX m ds M) Q:=by
 obtain ⟨d,M1,e,h1,q⟩:=h;unfold FX;rw[AB h0,e];dsimp only;rw[AB h1];exact ⟨_,_,rfl,q⟩
def TIt.but (x:h.IsTupleIter a t i) (hs:Heap.ExtBut b h h') (n:a≠b):h'.IsTupleIter a t i:=x.extBut hs n
def Tup.but (x:h.IsTuple a its) (hs:Heap.ExtBut b h h') (n:a≠b):h'.IsTuple a its:=x.extBut hs n
def Ib (I:s.heap.IsTupleIter it t i) (T:s.heap.IsTuple t its) (hx:its[i]?=some x)
  (q:∀ h',h'.IsTupleIter it t (i+1)->Heap.SameBut it s.heap h'->Q x { s with heap:=h' }):wpAny (model prog w) A (Builtin.SmallTypes.nextOf (.ref it)) Q E s:=by
 obtain ⟨o,O,C,FD⟩:=id I;obtain ⟨u,U,_,m,G⟩:=T;unfold Builtin.SmallTypes.nextOf;refine AA (CD (name:=Str.ofString "__next__") I.typeIs PySem.F.slot_tuple_iterator_next (BI PySem.F.slot_tuple_iterator_next I.typeIs PySem.F.entry_tuple_iterator_next ?_ (PySem.F.args_tuple_iterator_next_1 _)));refine AA (m:=field (.ref it) 0) (Bc O FD (x:=.ref t) rfl ?_);rw[AE (show ¬ ((Value.ref t==Value.none)=true) by exact BA)];refine AA (m:=field (.ref it) 1) (Bc O FD (x:=.int i 0) rfl ?_);refine AA (m:=seqItems? (.ref t)) (D3 U G ?_);simp only[hx,Int.toNat_natCast];refine AA (Dn O FD (by simp) (AD ⟨x,rfl,AD (q _ ⟨_,D4 _ O (Obj.isFreed_of_fields (Dp FD _)),(Obj.cls_mapFields ..).trans C,?_⟩ (C5 ..))⟩));rw[Dp FD];simp[rawInt]
def JS (hh:A.handled=none) (I:s.heap.IsTupleIter it t i) (T:s.heap.IsTuple t its) (hx:its[i]?=none)
  (q:∀ h' e,Heap.ExtBut it s.heap h'->(∃ o,h'.get? e=some o/\o.cls=.type "StopIteration")->E (.ref e) { s with heap:=h' }):wpAny (model prog w) A (Builtin.SmallTypes.nextOf (.ref it)) Q E s:=by
 obtain ⟨o,O,C,FD⟩:=id I;obtain ⟨u,U,_,m,G⟩:=T;unfold Builtin.SmallTypes.nextOf;refine AA (CD (name:=Str.ofString "__next__") I.typeIs PySem.F.slot_tuple_iterator_next (BI PySem.F.slot_tuple_iterator_next I.typeIs PySem.F.entry_tuple_iterator_next ?_ (PySem.F.args_tuple_iterator_next_1 _)));refine AA (m:=field (.ref it) 0) (Bc O FD (x:=.ref t) rfl ?_);rw[AE (show ¬ ((Value.ref t==Value.none)=true) by exact BA)];refine AA (m:=field (.ref it) 1) (Bc O FD (x:=.int i 0) rfl ?_);refine AA (m:=seqItems? (.ref t)) (D3 U G ?_);simp only[hx,Int.toNat_natCast];refine AA (BY (AA (Dn O FD (by simp) ?_)));refine AA (m:=newExc (.type "StopIteration") []) ?_;simp only[newTuple,newExc];refine AA (A9 (AA (m:=firstArgMember _ _) (wpAny_of_eq (a:=Value.none) (by first|rfl|(simp only[firstArgMember];rfl)) (A9 ?_ (by size_fits)))) (by size_fits));simp only[raiseNew];refine AA (wpAny_handled ?_);first|rw[hh]|rw[show A.in1.handled=none from hh]
 exact AA (AD (wpAny_throw (q _ _ (((C5 ..).extBut.push _).push _) ⟨_,AV _ rfl,rfl⟩)))
structure ZipT (h:Heap) (z TI TO i1 i2 t1 t2:Yt) (f:Yu) (k1 k2:Nat):Prop where
 z:IsZip h z TI TO f
 ti:IsPair h TI (.ref i1) (.ref i2)
 to:∃ a b,IsPair h TO a b
 a:h.IsTupleIter i1 t1 k1
 b:h.IsTupleIter i2 t2 k2
def XM {z TI TO i1 i2 t1 t2:Yt} {k:Nat} {xs ys:Yp} {x y:Yu} {Q:Option Value->Shared->Prop} (D:ZipApart z TI TO i1 i2 t1 t2) (Z:ZipT s.heap z TI TO i1 i2 t1 t2 .none k k)
  (T1:s.heap.IsTuple t1 xs) (T2:s.heap.IsTuple t2 ys) (hx:xs[k]?=some x) (hy:ys[k]?=some y)
  (q:∀ h',ZipT h' z TI TO i1 i2 t1 t2 (rawInt s.heap.objs.size) (k+1) (k+1)->IsPair h' s.heap.objs.size x y ->
   (∀ c o,c∉[z,TO,i1,i2]->s.heap.get? c=some o->h'.get? c=some o)->Q (some (.ref s.heap.objs.size)) { s with heap:=h' }):wpAny (model prog w) A (pyNext (.ref z)) Q E s:=by
 obtain ⟨Z0,P0,⟨a,b,O0⟩,I1,I2⟩:=Z;have ty:s.TypeIs (.ref z) "zip" := ⟨_,Z0,rfl⟩;unfold pyNext;refine AA (DL (CD (name:=Str.ofString "__next__") ty PySem.F.slot_zip_next (BI PySem.F.slot_zip_next ty PySem.F.entry_zip_next ?_ (PySem.F.args_zip_next_1 _))));refine AA (m:=field (.ref z) 2) (Bc Z0 rfl (x:=.bool false) rfl ?_);refine AA (m:=field (.ref z) 3) (Bc Z0 rfl (x:=.ref TI) rfl ?_);refine AA (D3 P0 rfl ?_);refine AA (m:=Builtin.SmallTypes.ownedTupleIsFree (.ref z)) ?_;unfold Builtin.SmallTypes.ownedTupleIsFree;refine AA (Bc Z0 rfl (x:=.none) rfl (AD ?_));simp only[if_true];refine AA (BY (AA (Bc Z0 rfl (x:=.ref TO) rfl (AA (DR Z0 (by simp) λh1 Z1 e1=>?_)))));replace Z1:IsZip h1 z TI TO .ellipsis:=Z1;refine AA ?_;simp only[List.forIn_cons,List.forIn_nil,List.zipIdx_cons,List.zipIdx_nil];refine AA (AA (wpAny_onRaise (AA (m:=Builtin.SmallTypes.nextOf (.ref i1)) (Ib (TIt.but I1 e1.extBut D.i1z) (Tup.but T1 e1.extBut D.l1z) hx λh2 J1 e2=>AD ?_))));have O2:IsPair h2 TO a b:=e2.extBut _ _ D.TOi1 (e1.extBut _ _ D.TOz O0);refine AA (D3 O2 rfl (AA (wpAny_updateSeq_pair O2 λh3 O3 e3=>AA (wpAny_letGo (AD ?_)))));replace O3:IsPair h3 TO x b:=O3
 refine AA (AA (wpAny_onRaise (AA (m:=Builtin.SmallTypes.nextOf (.ref i2)) (Ib (TIt.but (TIt.but (TIt.but I2 e1.extBut D.i2z) e2.extBut D.i12.symm) e3.extBut D.TOi2.symm)
  (Tup.but (Tup.but (Tup.but T2 e1.extBut D.l2z) e2.extBut D.l2i1) e3.extBut D.l2TO) hy λh4 J2 e4=>AD ?_))))
 have O4:IsPair h4 TO x b:=e4.extBut _ _ D.TOi2 O3;refine AA (D3 O4 rfl (AA (wpAny_updateSeq_pair O4 λh5 O5 e5=>AA (wpAny_letGo (AD (AD ?_))))));replace O5:IsPair h5 TO x y:=O5;refine AA (D3 O5 rfl (AA (wpAny_newTuple ?_)));have sz:h5.objs.size=s.heap.objs.size:=by rw[e5.1,e4.1,e3.1,e2.1,e1.1]
 have Z5:IsZip h5 z TI TO .ellipsis:=e5.extBut _ _ D.TOz.symm (e4.extBut _ _ D.i2z.symm (e3.extBut _ _ D.TOz.symm (e2.extBut _ _ D.i1z.symm Z1)));have kp:∀ c o,c∉[z,TO,i1,i2]->s.heap.get? c=some o->h5.get? c=some o:=λc o n e=>by
  simp only[AI,BU,Be,not_or]at n;obtain ⟨n1,n2,n3,n4⟩:=n;exact e5.extBut _ _ n2 (e4.extBut _ _ n4 (e3.extBut _ _ n2 (e2.extBut _ _ n3 (e1.extBut _ _ n1 e))))
 have A5:h5.IsTupleIter i1 t1 (k+1):=TIt.but (TIt.but (TIt.but J1 e3.extBut D.TOi1.symm) e4.extBut D.i12) e5.extBut D.TOi1.symm;have B5:h5.IsTupleIter i2 t2 (k+1):=TIt.but J2 e5.extBut D.TOi2.symm;have zl:z<h5.objs.size:=AH Z5;refine AA (m:=Builtin.SmallTypes.ownedTupleHandOut (.ref z) (.ref h5.objs.size)) ?_;unfold Builtin.SmallTypes.ownedTupleHandOut;have Z6:IsZip (h5.push { cls:=.type "tuple", data:=.seq #[x,y] }) z TI TO .ellipsis:=AJ _ Z5;refine AA (DR Z6 (by simp) λh7 Z7 e7=>?_);replace Z7:IsZip h7 z TI TO (rawInt h5.objs.size):=Z7;refine DR Z7 (by simp) λh8 Z8 e8=>?_;replace Z8:IsZip h8 z TI TO (rawInt h5.objs.size):=Z8;have up:∀ c o,c≠z->h5.get? c=some o->h8.get? c=some o:=λc o n e=>e8.extBut _ _ n (e7.extBut _ _ n (AJ _ e));have N8:IsPair h8 h5.objs.size x y:=e8.extBut _ _ (Cz zl) (e7.extBut _ _ (Cz zl) (AV _ rfl));rw[sz]at Z8 N8;refine AD ⟨_,rfl,?_⟩;rw[sz];refine AD (q h8 ⟨Z8,up _ _ D.TIz (kp _ _ (by simp[D.TIz,D.TITO,D.TIi1,D.TIi2]) P0),⟨_,_,up _ _ D.TOz O5⟩,?_,?_⟩ N8 λc o n e=>up c o (λm=>n (by simp[m])) (kp c o n e))
 .obtain ⟨o,e,r⟩:=A5;exact ⟨o,up _ _ D.i1z e,r⟩
 .obtain ⟨o,e,r⟩:=B5;exact ⟨o,up _ _ D.i2z e,r⟩
def ZU {z TI TO i1 i2 t1 t2:Yt} {k:Nat} {xs ys:Yp} {Q:Option Value->Shared->Prop} (hh:A.handled=none) (D:ZipApart z TI TO i1 i2 t1 t2) (Z:ZipT s.heap z TI TO i1 i2 t1 t2 .none k k)
  (T1:s.heap.IsTuple t1 xs) (T2:s.heap.IsTuple t2 ys) (he:xs[k]?=none\/ys[k]?=none)
  (q:∀ h',(∀ c o,c∉[z,TO,i1,i2]->s.heap.get? c=some o->h'.get? c=some o)->Q none { s with heap:=h' }):wpAny (model prog w) A (pyNext (.ref z)) Q E s:=by
 obtain ⟨Z0,P0,⟨a,b,O0⟩,I1,I2⟩:=Z;have ty:s.TypeIs (.ref z) "zip" := ⟨_,Z0,rfl⟩
 have stop:∀ (e:Addr) (h':Heap),(∀ c o,c∉[z,TO,i1,i2]->s.heap.get? c=some o->h'.get? c=some o)->(∃ o,h'.get? e=some o/\o.cls=.type "StopIteration") ->
   wpAny (model prog w) A (do if (<- isInstance (.ref e) (.type "StopIteration")) then pure none else throw (.ref e):Sem (Option Value)) Q E { s with heap:=h' }:=λe h' k1 ⟨o,e1,e2⟩=>
  AA (wpAny_isInstance (T := "StopIteration") (b:=true) ⟨o,e1,e2⟩ isSubtype_stop (AD (q h' k1)))
 unfold pyNext;refine AA (DL (CD (name:=Str.ofString "__next__") ty PySem.F.slot_zip_next (BI PySem.F.slot_zip_next ty PySem.F.entry_zip_next ?_ (PySem.F.args_zip_next_1 _))));refine AA (m:=field (.ref z) 2) (Bc Z0 rfl (x:=.bool false) rfl ?_);refine AA (m:=field (.ref z) 3) (Bc Z0 rfl (x:=.ref TI) rfl ?_);refine AA (D3 P0 rfl ?_);refine AA (m:=Builtin.SmallTypes.ownedTupleIsFree (.ref z)) ?_;unfold Builtin.SmallTypes.ownedTupleIsFree;refine AA (Bc Z0 rfl (x:=.none) rfl (AD ?_));simp only[if_true];refine AA (BY (AA (Bc Z0 rfl (x:=.ref TO) rfl (AA (DR Z0 (by simp) λh1 Z1 e1=>?_)))));replace Z1:IsZip h1 z TI TO .ellipsis:=Z1;refine AA ?_;simp only[List.forIn_cons,List.forIn_nil,List.zipIdx_cons,List.zipIdx_nil];cases hx:xs[k]? with
 |none=>
  refine AA (AA (wpAny_onRaise (AA (m:=Builtin.SmallTypes.nextOf (.ref i1)) (JS hh (TIt.but I1 e1.extBut D.i1z) (Tup.but T1 e1.extBut D.l1z) hx λh2 e e2 he=>?_))));obtain ⟨oe,o1,o2⟩:=he;have Z2:IsZip h2 z TI TO .ellipsis:=e2 _ _ D.i1z.symm Z1;have ne:e≠z:=λm=>by subst m;rw[Z2]at o1;cases o1;simp at o2
  refine DR Z2 (by simp) λh3 _ e3=>stop e h3 (λc o n x=>?_) ⟨oe,e3.extBut _ _ ne o1,o2⟩;simp only[AI,BU,Be,not_or]at n;exact e3.extBut _ _ n.1 (e2 _ _ n.2.2.1 (e1.extBut _ _ n.1 x))
 |some x=>
  have hy:ys[k]?=none:=by
   rcases he with m|m
   .rw[hx]at m;cases m
   .exact m
  refine AA (AA (wpAny_onRaise (AA (m:=Builtin.SmallTypes.nextOf (.ref i1)) (Ib (TIt.but I1 e1.extBut D.i1z) (Tup.but T1 e1.extBut D.l1z) hx λh2 J1 e2=>AD ?_))));have O2:IsPair h2 TO a b:=e2.extBut _ _ D.TOi1 (e1.extBut _ _ D.TOz O0);refine AA (D3 O2 rfl (AA (wpAny_updateSeq_pair O2 λh3 O3 e3=>AA (wpAny_letGo (AD ?_)))))
  refine AA (AA (wpAny_onRaise (AA (m:=Builtin.SmallTypes.nextOf (.ref i2)) (JS hh (TIt.but (TIt.but (TIt.but I2 e1.extBut D.i2z) e2.extBut D.i12.symm) e3.extBut D.TOi2.symm)
   (Tup.but (Tup.but (Tup.but T2 e1.extBut D.l2z) e2.extBut D.l2i1) e3.extBut D.l2TO) hy λh4 e e4 he=>?_))))
  obtain ⟨oe,o1,o2⟩:=he;have Z4:IsZip h4 z TI TO .ellipsis:=e4 _ _ D.i2z.symm (e3.extBut _ _ D.TOz.symm (e2.extBut _ _ D.i1z.symm Z1));have ne:e≠z:=λm=>by subst m;rw[Z4]at o1;cases o1;simp at o2
  refine DR Z4 (by simp) λh5 _ e5=>stop e h5 (λc o n x=>?_) ⟨oe,e5.extBut _ _ ne o1,o2⟩;simp only[AI,BU,Be,not_or]at n;exact e5.extBut _ _ n.1 (e4 _ _ n.2.2.2 (e3.extBut _ _ n.2.1 (e2.extBut _ _ n.2.2.1 (e1.extBut _ _ n.1 x))))
noncomputable abbrev HJ (h:Heap) (a:Addr):Heap:=h.push { cls:=.type "tuple_iterator", data:=.fields #[.ref a,.int 0 0] }
noncomputable abbrev Jj (h:Heap) (a b:Yt):Heap:=HJ (HJ h a) b
noncomputable abbrev JM (h:Heap) (a b:Addr):Heap:=(Jj h a b).push { cls:=.type "tuple", data:=.seq #[.ref h.objs.size,.ref (HJ h a).objs.size] }
noncomputable abbrev Jt (h:Heap) (a b:Addr):Heap:=(JM h a b).push { cls:=.type "tuple", data:=.seq #[.none,.none] }
noncomputable abbrev G1 (h:Heap) (a b:Addr):Heap:=(Jt h a b).push { cls:=.type "zip", data:=.fields #[.none,.bool false,.bool false,.ref (Jj h a b).objs.size,.ref (JM h a b).objs.size] }
def R4 (a b:Addr) (xs ys:Array Value):Meets (Builtin.«zip.__new__» ⟨[.type "zip", .ref a,.ref b],[]⟩) (λ_ R s=>s.heap.IsTuple a xs/\s.heap.IsTuple b ys/\R (.ok (.ret (.ref (Jt s.heap a b).objs.size))) { s with heap:=G1 s.heap a b }) :=
 .of_wp λprog w A R s h=>by
  obtain ⟨hp,g,d,tk,os⟩:=s;obtain ⟨Ta,Tb,h⟩:=h;have sz:=sub_zip;have U1:Heap.IsTuple (Shared.heap ⟨hp,g,d,tk,os⟩) a xs:=Ta;have U2:Heap.IsTuple (Shared.heap ⟨hp.push { cls:=.type "tuple_iterator", data:=.fields #[.ref a,.int 0 0] },g,d,tk,os⟩) b ys:=Heap.IsTuple.push Tb _;wp_walk using wpAny_pyIter_tuple U1,wpAny_pyIter_tuple U2;exact ⟨_,rfl,h⟩
def k8 (Ta:s.heap.IsTuple a xs) (Tb:s.heap.IsTuple b ys)
  (h:∀ h',ZipT h' (s.heap.objs.size+4) (s.heap.objs.size+2) (s.heap.objs.size+3) s.heap.objs.size (s.heap.objs.size+1) a b .none 0 0->(∀ c o,s.heap.get? c=some o->h'.get? c=some o)->Q (.ref (s.heap.objs.size+4)) { s with heap:=h' }) :
  wpAny (model prog w) A (call (.type "zip") [.ref a,.ref b]) Q E s:=by
 refine callType_new PySem.F.called_zip (by decide) (PySem.F.typeCall_zip_2 _ _) (PySem.F.newCall_zip_2 _ _) (λobj=>PySem.F.args_object_init_3 obj _ _) PySem.F.entry_zip_new (R4 a b xs ys) ⟨Ta,Tb,?_⟩;have q1:(HJ s.heap a).objs.size=s.heap.objs.size+1:=Bv ..;have q2:(Jj s.heap a b).objs.size=s.heap.objs.size+2:=by rw[Bv,q1]
 have q3:(JM s.heap a b).objs.size=s.heap.objs.size+3:=by rw[Bv,q2]
 have q4:(Jt s.heap a b).objs.size=s.heap.objs.size+4:=by rw[Bv,q3]
 have u:∀ {h:Heap} {c:Yt} {o p:Obj},h.get? c=some o->(h.push p).get? c=some o:=λe=>AJ _ e;have p5:(G1 s.heap a b).get? (Jt s.heap a b).objs.size=some _:=AV _ rfl;have p4:(G1 s.heap a b).get? (JM s.heap a b).objs.size=some _:=u (AV _ rfl);have p3:(G1 s.heap a b).get? (Jj s.heap a b).objs.size=some _:=u (u (AV _ rfl));have p2:(G1 s.heap a b).get? (HJ s.heap a).objs.size=some _:=u (u (u (AV _ rfl)));have p1:(G1 s.heap a b).get? s.heap.objs.size=some _:=u (u (u (u (AV _ rfl))));rw[q2,q3,q4]at p5;rw[q1,q2]at p3;rw[q3]at p4;rw[q1]at p2;rw[q4];exact ⟨⟨_,p5,rfl⟩,h _ ⟨p5,p3,⟨_,_,p4⟩,⟨_,p1,rfl,rfl⟩,⟨_,p2,rfl,rfl⟩⟩ λc o x=>u (u (u (u (u x))))⟩
def Lz {X:Cx} {zB:Yd} {Y:L2.St} {H:Hp} {s:Yl} {h':Heap} {t':Nat} {ch:Yg} {T:Yt} {o:HO} (I:Inv X zB Y H s) (hf:∀ b∈ch,BH X zB H b)
  (k:∀ b u,b∉ch->s.heap.get? b=some u->h'.get? b=some u) (hT:s.heap.objs.size<=T) (new:z0 X.prog X.w (upd H T o) h' T o):Inv X zB Y (upd H T o) { s with heap:=h',toks:=t' }:=by
 have hn:H T=none:=I.hok.fresh hT;have nch:∀ b u,H b=some u->b∉ch:=λb u e z=>by rw[(hf b z).1]at e;cases e
 have un:∀ b u,H b=some u->upd H T o b=some u:=λb u e=>by rw[zT (zv e hn)];exact e
 refine I.step (g':=s.gens) (d':=s.drawn) (ch:=ch) (λb hb=>⟨(hf b hb).2.2.2.1,(hf b hb).2.1,(hf b hb).2.2.2.2.1,(hf b hb).2.2.2.2.2⟩) (λb u _ _ hc e _=>k b u hc e) (λb u _ _ hc e _=>⟨u.slots,k b u hc e⟩)
  (λb u _ e n=>by rw[zT (λz=>by rw[z]at e;exact absurd (AH e) (Nat.not_lt.mpr hT))];exact n) (λb u hc e=>⟨u,k b u hc e⟩) (λb xs e=>un b _ e) (λb p u e=>un b _ e) (λb ps e=>⟨#[],by rw[un b _ e];simp⟩) (λm hm=>?_) (λb u e=>?_) I.bare
 .obtain ⟨p,es,ep,ho,r⟩:=hm;exact ⟨p,es,ep,k _ p (λz=>(hf _ z).2.1 rfl) ho,r⟩
 .by_cases hb:b=T
  .subst hb;rw[zr]at e;cases e;exact new
  .rw[zT hb]at e;refine (I.hok b u e).stay (λc v hc q=>k c v ?_ q) (λc q=>un c _ q) λc xs q=>un c _ q;rcases hc with z|z
   .rw[z];exact nch b u e
   .exact nch c _ z
def Hf {X:Cx} {zB:Yd} {Y:L2.St} {H:Hp} {s:Yl} {h':Heap} {t':Nat} {ch:Yg} (I:Inv X zB Y H s) (hf:∀ b∈ch,BH X zB H b)
  (k:∀ b u,b∉ch->s.heap.get? b=some u->h'.get? b=some u):Inv X zB Y H { s with heap:=h',toks:=t' }:=by
 have nch:∀ b u,H b=some u->b∉ch:=λb u e z=>by rw[(hf b z).1]at e;cases e
 refine I.step (g':=s.gens) (d':=s.drawn) (ch:=ch) (λb hb=>⟨(hf b hb).2.2.2.1,(hf b hb).2.1,(hf b hb).2.2.2.2.1,(hf b hb).2.2.2.2.2⟩) (λb u _ _ hc e _=>k b u hc e) (λb u _ _ hc e _=>⟨u.slots,k b u hc e⟩)
  (λb u _ e n=>n) (λb u hc e=>⟨u,k b u hc e⟩) (λb xs e=>e) (λb p u e=>e) (λb ps e=>⟨#[],by rw[e];simp⟩) (λm hm=>?_) (λb u e=>?_) I.bare
 .obtain ⟨p,es,ep,ho,r⟩:=hm;exact ⟨p,es,ep,k _ p (λz=>(hf _ z).2.1 rfl) ho,r⟩
 .refine (I.hok b u e).stay (λc v hc q=>k c v ?_ q) (λc q=>q) λc xs q=>q;rcases hc with z|z
  .rw[z];exact nch b u e
  .exact nch c _ z
noncomputable def Itz (K:Yb) (a b:Yt):It :=
 ⟨λi H=>∃ xs ys x y,SqT K H a xs/\SqT K H b ys/\xs[i]?=some x/\ys[i]?=some y,
  λi H v H'=>∃ T x y,v=.ref T/\H T=none/\H'=upd H T (.tup [x,y])/\(∀ xs,SqT K H a xs->xs[i]?=some x) /\ ∀ ys,SqT K H b ys->ys[i]?=some y,
  λi H=>∃ xs ys,SqT K H a xs/\SqT K H b ys/\(xs.length<=i\/ys.length<=i)⟩
def j5 {P:Ym} {w:Yo} {K:Yb} {es:Yi} {ek:Nat} {ep:Pos} {z TI TO i1 i2 a b:Yt} (D:ZipApart z TI TO i1 i2 a b) :
  Turn P w K (.Tuple es ek ep) (Itz K a b) [z,TI,TO,i1,i2] z (λi h=>ZipT h z TI TO i1 i2 a b .none i i) where
 mem:=by simp
 obj:=λi h Z c hc=>by
  obtain ⟨Z0,P0,⟨x,y,O0⟩,⟨o1,e1,_,d1⟩,⟨o2,e2,_,d2⟩⟩:=Z;simp only[AI,BU,Be]at hc;rcases hc with rfl|rfl|rfl|rfl|rfl
  .exact ⟨_,Z0,λv m=>by cases m⟩
  .exact ⟨_,P0,λv m=>by cases m⟩
  .exact ⟨_,O0,λv m=>by cases m⟩
  .exact ⟨_,e1,λv m=>by rw[d1]at m;cases m⟩
  .exact ⟨_,e2,λv m=>by rw[d2]at m;cases m⟩
 keep:=λi h h' Z k=>by
  obtain ⟨Z0,P0,⟨x,y,O0⟩,⟨o1,e1,r1⟩,⟨o2,e2,r2⟩⟩:=Z;exact ⟨k z (by simp) _ Z0,k TI (by simp) _ P0,⟨x,y,k TO (by simp) _ O0⟩,⟨o1,k i1 (by simp) _ e1,r1⟩,⟨o2,k i2 (by simp) _ e2,r2⟩⟩
 item:=by
  intro X hP hw hK hc i zB s Y H E I hf Z hg;subst hP hw hK;obtain ⟨xs,ys,x,y,sa,sb,hx,hy⟩:=hg;obtain ⟨its,rv,p1,z1⟩:=I.tuple sa;obtain ⟨its2,rv2,p2,z2⟩:=I.tuple sb;obtain ⟨u,hu,ru⟩:=rv.get hx;obtain ⟨u2,hu2,ru2⟩:=rv2.get hy;refine XM D Z (show s.heap.IsTuple a its.toArray from p1) (show s.heap.IsTuple b its2.toArray from p2) (x:=u) (y:=u2) (by simpa using hu) (by simpa using hu2) λh' Z' N' kp=>⟨_,rfl,?_⟩;refine wpAny_letOwnedTupleGo_zip Z'.z λh2 Z2 e2=>?_;have hch:∀ c∈[z,TO,i1,i2],BH X zB H c:=λc hm=>hf c (by
   simp only[AI,BU,Be]at hm ⊢;rcases hm with q|q|q|q <;> simp[q])
  have kk:∀ c o,c∉[z,TO,i1,i2]->s.heap.get? c=some o->h2.get? c=some o:=λc o n e=>e2.extBut _ _ (λm=>n (by simp[m])) (kp c o n e);have zlt:z<s.heap.objs.size:=AH Z.z;have NT:IsPair h2 s.heap.objs.size u u2:=e2.extBut _ _ (Cz zlt) N';have hfr:H s.heap.objs.size=none:=I.hok.fresh (AF _);refine ⟨.ref s.heap.objs.size,upd H s.heap.objs.size (.tup [x,y]),Lz (s:=s) (h':=h2) (t':=s.toks) I hch kk (AF _) ?_,rfl,⟨_,x,y,rfl,hfr,rfl,λws hw=>?_,λws hw=>?_⟩,?_,λc hm=>?_⟩
  .exact ⟨by show 2<=sizeLine;decide,[u,u2],.cons ru (.cons ru2 .nil),⟨_,NT,rfl,⟨_,rfl⟩,rfl⟩⟩
  .rw[I.tuple_inj hw sa];exact hx
  .rw[I.tuple_inj hw sb];exact hy
  .obtain ⟨_,P1,⟨q1,q2,O1⟩,⟨o1,f1,r1⟩,⟨o2,f2,r2⟩⟩:=Z';exact ⟨Z2,e2.extBut _ _ D.TIz P1,⟨q1,q2,e2.extBut _ _ D.TOz O1⟩,⟨o1,e2.extBut _ _ D.i1z f1,r1⟩,⟨o2,e2.extBut _ _ D.i2z f2,r2⟩⟩
  .have lt:c<s.heap.objs.size:=by
    obtain ⟨Z0,P0,⟨q1,q2,O0⟩,⟨o1,f1,_⟩,⟨o2,f2,_⟩⟩:=Z;simp only[AI,BU,Be]at hm;rcases hm with rfl|rfl|rfl|rfl|rfl
    .exact AH Z0
    .exact AH P0
    .exact AH O0
    .exact AH f1
    .exact AH f2
   rw[zT (Ab lt)];exact (hf c hm).1
 done:=by
  intro X hP hw hK hc i zB s Y H E I hf Z hg;subst hP hw hK;obtain ⟨xs,ys,sa,sb,hz⟩:=hg;obtain ⟨its,rv,p1,z1⟩:=I.tuple sa;obtain ⟨its2,rv2,p2,z2⟩:=I.tuple sb;have l1:=rv.length;have l2:=rv2.length;refine ZU (I.ok.hd hc) D Z (show s.heap.IsTuple a its.toArray from p1) (show s.heap.IsTuple b its2.toArray from p2) ?_ λh' kp=>⟨rfl,Hf (s:=s) (h':=h') (t':=s.toks) I (λc hm=>hf c (by
   simp only[AI,BU,Be]at hm ⊢;rcases hm with q|q|q|q <;> simp[q])) kp⟩
  rcases hz with q|q
  .exact .inl (by simp;omega)
  .exact .inr (by simp;omega)
 self:=λ_ _ _ _ _ Z h=>wpAny_pyIter_zip Z.z h
def YI {ta:TA} (hg:Gl X "zip") (hm:X.mg "zip" = none) (ha:PA X [a,b] ta) (hs:starEach [a,b] X.env=[(false,eval a X.env),(false,eval b X.env)]:=by rfl) (hs2:starEach [b] X.env=[(false,eval b X.env)]:=by rfl) :
  PI X (.Tuple es ek ep) (.Call (.Name "zip" p) [a,b] [] pos) (λY H R=>ta Y H λvs H1=>∃ l1 l2 xs ys,vs=[.ref l1,.ref l2]/\SqT X.K H1 l1 xs/\SqT X.K H1 l2 ys/\R (Itz X.K l1 l2) H1):=by
 intro zB s Y H R I h;refine Call_ (Fz I hg hm (by rfl) (PyProof.Rows.callWith_type1 (thn (ha pos zB s Y H _ I h) λus s1 ⟨vs,H1,I1,r1,q1⟩=>?_) (by rw[hs,hs2]) (by rw[hs2];rfl)));obtain ⟨l1,l2,xs,ys,rfl,s1',s2',q⟩:=q1;cases r1 with
 |cons r rr=>
  cases rr with
  |cons r' rr=>
   cases rr;cases r;cases r';obtain ⟨its,rv,p1,_⟩:=I1.tuple s1';obtain ⟨its2,rv2,p2,_⟩:=I1.tuple s2';have d1:l1<s1.heap.objs.size:=by obtain ⟨_,e,_⟩:=p1;exact AH e
   have d2:l2<s1.heap.objs.size:=by obtain ⟨_,e,_⟩:=p2;exact AH e
   refine k8 (show s1.heap.IsTuple l1 its.toArray from p1) (show s1.heap.IsTuple l2 its2.toArray from p2) λh' Z kp=>wpAny_pyIter_zip Z.z ?_;refine ⟨s1.heap.objs.size+4,[s1.heap.objs.size+4,s1.heap.objs.size+2,s1.heap.objs.size+3,s1.heap.objs.size,s1.heap.objs.size+1],_,_,H1,rfl,I1.kept (t':=s1.toks) kp,j5 (zipApart_new d1 d2),Z,λc hc=>?_,q⟩;have ge:s1.heap.objs.size<=c:=by
    simp only[AI,BU,Be]at hc;rcases hc with rfl|rfl|rfl|rfl|rfl
    .exact Nat.le_add_right _ 4
    .exact Nat.le_add_right _ 2
    .exact Nat.le_add_right _ 3
    .exact AF _
    .exact Nat.le_add_right _ 1
   exact I1.fpOk ge (I1.hok.fresh ge)
noncomputable def Hc (g:FA):FI:=λY M=>match g Y M with
 |some ([.tup xs,.tup ys],M1)=>some ((xs.zip ys).map λq=>D.tup [q.1,q.2],none,M1)
 |_=>none
def R0 (hg:Gl X "zip") (hm:X.mg "zip" = none) (ha:QA X [a,b] g) (hs:starEach [a,b] X.env=[(false,eval a X.env),(false,eval b X.env)]:=by rfl) (hs2:starEach [b] X.env=[(false,eval b X.env)]:=by rfl) :
  QI X (.Tuple es ek ep) (.Call (.Name "zip" p) [a,b] [] pos) (Hc g):=.mk <| PI.imp (YI hg hm ha.un hs hs2) λτ H R zz=>by
 obtain ⟨L,Y,M,xs,gd,M',c,rs,hf,q⟩:=zz;unfold Hc at hf;split at hf
 .rename_i ds es' M1 e1;cases hf;refine ⟨L,Y,M,_,_,c,rs,e1,λL1 H1 vs s1 c1 r1=>?_⟩;obtain ⟨v,v',rfl,r2,r3⟩:=r1.two;unfold Rep at r2 r3;obtain ⟨l1,ws1,rfl,h1,q1⟩:=r2;obtain ⟨l2,ws2,rfl,h2,q2⟩:=r3;refine ⟨l1,l2,ws1,ws2,rfl,.of h1,.of h2,q L1 H1 _ s1 c1 λL2 H2 M2 s2 c2 _=>?_⟩;have k1:=s2.tup l1 ws1 h1;have k2:=s2.tup l2 ws2 h2;have p1:=q1.stp s2;have p2:=q2.stp s2;refine ⟨λi d hd=>?_,⟨ws1,ws2,.of k1,.of k2,?_⟩⟩
  .rw[Az]at hd;cases e2:(ds.zip es')[i]? with
   |none=>rw[e2]at hd;cases hd
   |some pr=>
    rw[e2]at hd;cases hd;obtain ⟨f1,f2⟩:=List.getElem?_zip_eq_some.mp e2;obtain ⟨u,hu,ru⟩:=p1.get f1;obtain ⟨u2,hu2,ru2⟩:=p2.get f2;refine ⟨⟨ws1,ws2,u,u2,.of k1,.of k2,hu,hu2⟩,λv H3 hy=>?_⟩;obtain ⟨T,x,y,rfl,hT,rfl,hxx,hyy⟩:=hy;have ex:=hxx ws1 (.of k1);have ey:=hyy ws2 (.of k2);rw[hu]at ex;cases ex;rw[hu2]at ey;cases ey;exact ⟨λa o e=>by rw[zT (zv e hT)];exact e,Rep.newTup hT (.cons ru (.cons ru2 .nil))⟩
  .rw[AG,List.length_zip,p1.length,p2.length];omega
 .cases hf
noncomputable def Hr (i j:Nat):FG:=λd Y=>match d with
 |.tup [x,y]=>some ((Y.set i (some x)).set j (some y))
 |_=>none
noncomputable abbrev gP2 (K:Yb) (i j:Nat):TG:=HC K 2 (Dy (Bu i) (Dy (Bu j) Hb))
def V2 {K:Yb} {own:Yj} {i j:Nat} (hi:i∈own) (hj:j∈own):CF own (gP2 K i j) (Hr i j):=by
 intro L H Y Y' τ τ0 d v Q rs ex r hf q;unfold Hr at hf;split at hf
 .rename_i x y;cases hf;unfold Rep at r;obtain ⟨a,vs,rfl,e,r⟩:=r;obtain ⟨v1,v2,rfl,r1,r2⟩:=r.two;exact ⟨a,_,rfl,.of e,rfl,v1,[v2],rfl,v2,[],rfl,rfl,q _ ((rs.set r1).set r2) ((ex.set hi).set hj)⟩
 .cases hf
section
variable {X:Cx} {a b c e:Expr} {es:Yi} {pos p p2 pos2:Pos} {f g h:FE}
theorem Rb:∀ {bs:List Bool} {its:Yf},zY (bs.map V.bl) its -> ∀ (i:Nat) v,its[i]?=some v -> ∃ k,bs[i]?=some k/\v=.bool k
 |[],_,.nil,_,_,h=>by simp at h
 |k::bs,_,.cons r t,0,v,h=>by
  simp at h;subst h;exact ⟨k,rfl,r⟩
 |k::bs,_,.cons r t,i+1,v,h=>by
  obtain ⟨k',e1,e2⟩:=Rb t i v (by simpa using h);exact ⟨k',by simpa using e1,e2⟩
def aQ (bs:List Bool):((List.range bs.length).all λi=>(bs[i]?).getD true)=bs.all id:=by
 rw[Bool.eq_iff_iff,A0,A0];constructor
 .intro q k hk;obtain ⟨i,hi,rfl⟩:=Ep hk;have:=q i (Bo.mpr hi);rw[AS hi]at this;exact this
 .intro q i hi;rw[AS (Bo.mp hi)];exact q _ (Bg _)
def Nr (K:Yb) (F:List Bool->Bool):List V->Hp->VK->Prop:=λxs H Q=>∃ q bs,xs=[.ref q]/\SqL K H q (bs.map V.bl)/\Q (.bl (F bs)) H
def T6 (hc:X.calm=true):Bk X (.builtin "all") (Nr X.K λbs=>bs.all id):=by
 intro zB s Y H xs us Q I r h;obtain ⟨l,bs,rfl,hq,q⟩:=h;obtain ⟨u,rfl,rx⟩:=Cs r;cases rx;obtain ⟨its,rv,pl,_⟩:=I.list hq;have hlt:l<s.heap.objs.size:=by obtain ⟨_,z,_⟩:=pl.isList;exact AH z
 refine call_all_walk (wpAny_pyIter_list pl.isList ⟨s.heap.objs.size,[s.heap.objs.size,l],[s.heap.objs.size],its.toArray.size,_,_,λi=>(bs[i]?).getD true,rfl,Walks.list (A:=X.A.in1) (I.ok.hd hc) _ l (Ab hlt) its.toArray,
  ⟨⟨_,AV _ rfl,rfl,rfl⟩,pl.isList.push _⟩,λi v s' Q' E' hP hQ=>?_,λh' tk hk=>?_⟩)
 .obtain ⟨k,z,rfl⟩:=Rb rv i v (by simpa using hP);dsimp only at hQ;rw[z]at hQ;exact EL hQ
 .have hl:=rv.length;rw[AG]at hl;rw[AR,<-hl,aQ];exact ⟨.bl _,H,I.kept (t':=tk) λb o z=>hk b o (λm=>by rw[Aq.mp m]at z;exact BV _ (AH z)) (AJ _ z),rfl,q⟩
noncomputable def E4:List D->Option (List Bool)
 |[]=>some []
 |.bl k::r=>match E4 r with
  |some bs=>some (k::bs)
  |none=>none
 |_=>none
theorem P5:∀ {ds:List D} {bs:List Bool} {vs:List V},E4 ds=some bs->zJ L H ds vs->vs=bs.map V.bl
 |[],bs,vs,e,r=>by cases e;unfold zJ at r;exact r
 |d::ds,bs,vs,e,r=>by
  unfold zJ at r;obtain ⟨v,r',rfl,r1,r2⟩:=r;cases d with
  |bl k=>
   unfold E4 at e;cases q:E4 ds with
   |none=>rw[q]at e;cases e
   |some bs'=>
    rw[q]at e;cases e;unfold Rep at r1;rw[r1,P5 q r2];rfl
  |_=>cases e
noncomputable def GW (F:List Bool->Bool):KB:=λxs M=>match xs with
 |[x]=>match BP M x with
  |some ds=>match E4 ds with
   |some bs=>some (.dat (.bl (F bs)),M)
   |none=>none
  |none=>none
 |_=>none
def fV {K:Yb} {F:List Bool->Bool}:Cq K (Nr K F) (GW F):=by
 intro L M M' H H0 xs d vs Q c r hk q;unfold GW at hk;split at hk
 .rename_i x;split at hk
  .rename_i ds e1;split at hk
   .rename_i bs e2;cases hk;obtain ⟨v,rfl,r1⟩:=r.one;obtain ⟨l,ws,rfl,h1,r2⟩:=CP c r1 e1;have:=P5 e2 r2;subst this;exact ⟨l,bs,rfl,.inl h1,q L H _ (.refl L H) c (B3 (L:=L) (H:=H))⟩
   .cases hk
  .cases hk
 .cases hk
noncomputable abbrev Dm:KB:=GW λbs=>bs.all id
section
variable {fa:FAE}
def UR (hc:X.calm=true) (hg:Gl X "all") (hm:X.mg "all" = none) (ha:QAE X [e] fa) (he:starEach [e] X.env=(false,eval e X.env)::starEach [] X.env:=by rfl) (hpl:(backTo pos (starEach [] X.env)).any (·.1)=false:=by rfl):QE X (.Call (.Name "all" p) [e] [] pos) (fB Dm fa) :=
 FK fV (T6 hc) (by rfl) hg hm ha (by decide) (by decide) he hpl
end
def Tg (h:BP M x=some ds) (hb:E4 ds=some bs):Ok (GW F [x] M) P ↔ P (.dat (.bl (F bs))) M:=by
 have:GW F [x] M=some (.dat (.bl (F bs)),M):=by unfold GW;dsimp only;rw[h];dsimp only;rw[hb]
 rw[this,zp]
theorem OV:∀ bs:List Bool,E4 (bs.map D.bl)=some bs
 |[]=>rfl
 |k::bs=>by rw[AX];unfold E4;rw[OV bs]
noncomputable def LW:V->Bool
 |.non=>true
 |.bl _=>true
 |_=>false
def eR:OpR X (compareOp .IsNot) (λx y H Q=>LW y=true/\Q (.bl (!decide (x=y))) H):=by
 intro zB s Y H x y v u Q I rx ry h;obtain ⟨hp,q⟩:=h;cases y with
 |non=>
  cases ry;refine wpAny_isNot_plain (by cases x <;> first|(cases rx;rfl)|(obtain ⟨t,rfl⟩:=rx;rfl)) (zk I q ?_);cases x <;> first|(cases rx;rfl)|(obtain ⟨t,rfl⟩:=rx;rfl)
 |bl k=>
  cases ry;refine wpAny_isNot_plain (by cases x <;> first|(cases rx;rfl)|(obtain ⟨t,rfl⟩:=rx;rfl)) (zk I q ?_);cases x with
  |bl k'=>cases rx;cases k <;> cases k' <;> rfl
  |_=>first|(cases rx;rfl)|(obtain ⟨t,rfl⟩:=rx;rfl)
 |_=>cases hp
noncomputable def isD:EV->D->Option Bool
 |x,.non=>match x with
  |.dat .non=>some true
  |_=>some false
 |x,.bl k=>match x with
  |.dat (.bl k')=>some (decide (k'=k))
  |_=>some false
 |_,_=>none
noncomputable def kIs (neg:Bool):K2:=λx y M=>match y with
 |.dat d=>match isD x d with
  |some k=>some (.dat (.bl (if neg then !k else k)),M)
  |none=>none
 |_=>none
def j4 (rx:zW H0 L H x v) (ry:Rep L H d w) (e:isD x d=some k):LW w=true/\decide (v=w)=k:=by
 cases d with
 |non=>
  unfold Rep at ry;subst ry;refine ⟨rfl,?_⟩;cases x with
  |fl xs=>obtain ⟨q,vs,rfl,_⟩:=rx;cases e;rfl
  |dat d'=>
   cases d' with
   |non=>unfold zW Rep at rx;subst rx;cases e;rfl
   |bl _=>unfold zW Rep at rx;subst rx;cases e;rfl
   |int _=>unfold zW Rep at rx;subst rx;cases e;rfl
   |str _=>unfold zW Rep at rx;subst rx;cases e;rfl
   |tup _=>unfold zW Rep at rx;obtain ⟨q,vs,rfl,_⟩:=rx;cases e;rfl
   |ref _=>unfold zW Rep at rx;obtain ⟨q,rfl,_⟩:=rx;cases e;rfl
 |bl k'=>
  unfold Rep at ry;subst ry;refine ⟨rfl,?_⟩;cases x with
  |fl xs=>obtain ⟨q,vs,rfl,_⟩:=rx;cases e;rfl
  |dat d'=>
   cases d' with
   |non=>unfold zW Rep at rx;subst rx;cases e;rfl
   |bl j=>unfold zW Rep at rx;subst rx;cases e;cases j <;> cases k' <;> rfl
   |int _=>unfold zW Rep at rx;subst rx;cases e;rfl
   |str _=>unfold zW Rep at rx;subst rx;cases e;rfl
   |tup _=>unfold zW Rep at rx;obtain ⟨q,vs,rfl,_⟩:=rx;cases e;rfl
   |ref _=>unfold zW Rep at rx;obtain ⟨q,rfl,_⟩:=rx;cases e;rfl
 |_=>cases e
def dC (h:kIs neg x y M=some (r,M')):∃ d k,y=.dat d/\isD x d=some k/\r=.dat (.bl (if neg then !k else k))/\M'=M:=by
 unfold kIs at h;split at h
 .rename_i d;split at h
  .rename_i k e1;cases h;exact ⟨d,k,rfl,e1,rfl,rfl⟩
  .cases h
 .cases h
def dJ {K:Yb}:BG K (λx y H Q=>LW y=true/\Q (.bl (!decide (x=y))) H) (kIs true):=by
 intro L M M' H H0 x y d v w Q cc rx ry hk q;obtain ⟨d',k,rfl,e,rfl,rfl⟩:=dC hk;obtain ⟨h1,h2⟩:=j4 rx ry e;refine ⟨h1,?_⟩;rw[h2];exact q L H _ (.refl L H) cc (B3 (L:=L) (H:=H))
def VP (h1:QE X a f) (h2:QE X b g):QT X (.Compare a [.IsNot] [b] pos) (tst (fOp (kIs true) f g)):=GG dJ eR h1 h2 (EE _)
noncomputable def Gj (k k':K2) (f g h:FE):FE:=λY M=>match f Y M with
 |some (x,M1)=>match g Y M1 with
  |some (y,M2)=>match k x y M2 with
   |some (.dat (.bl true),M3)=>match h Y M3 with
    |some (w,M4)=>k' y w M4
    |none=>none
   |some (.dat (.bl false),M3)=>some (.dat (.bl false),M3)
   |_=>none
  |none=>none
 |none=>none
def Sl {K:Yb} {r r':R2} {k k':K2} (hk:BG K r k) (hk':BG K r' k') {τ:Sv} {H:Hp} {Q:VK} (z:trE K (Gj k k' f g h) τ H Q):RS r r' (trE K f) (trE K g) (trE K h) τ H Q:=by
 obtain ⟨L,Y,M,d,M',cc,rs,hf,q⟩:=z;unfold Gj at hf;split at hf
 .rename_i x M1 e1;split at hf
  .rename_i y M2 e2;refine (mkE cc rs e1 (λL1 H1 v s1 c1 r1=>(mkE c1 (rs.stp s1) e2 (λL2 H2 w s2 c2 r2=>?_))));split at hf
   .rename_i M3 e3;split at hf
    .rename_i u M4 e4;refine hk (H0:=H) c2 (r1.stp s2) (r2.back s1 cc s2.sub) e3 λL3 H3 t s3 c3 r3=>⟨true,E7 r3,Dd ?_⟩;refine (mkE c3 (rs.stp ((s1.trans s2).trans s3)) e4 (λL4 H4 w4 s4 c4 r4=>?_));have s13:=(s1.trans s2).trans s3;refine hk' (H0:=H) c4 (((r2.back s1 cc s2.sub).stp s3).stp s4) (r4.back s13 cc s4.sub) hf λL5 H5 u5 s5 c5 r5=>?_;exact q L5 H5 u5 ((s13.trans s4).trans s5) c5 (r5.back (s13.trans s4) cc s5.sub)
    .cases hf
   .rename_i M3 e3;cases hf;refine hk (H0:=H) c2 (r1.stp s2) (r2.back s1 cc s2.sub) e3 λL3 H3 t s3 c3 r3=>⟨false,E7 r3,DT ?_⟩;exact q L3 H3 _ ((s1.trans s2).trans s3) c3 (by have:=E7 r3;subst this;exact r3)
   .cases hf
  .cases hf
 .cases hf
def SM (hk:BG X.K r k) (hk':BG X.K r' k') (ho:OpR X (compareOp op) r) (ho':OpR X (compareOp op') r') (h1:QE X a f) (h2:QE X b g) (h3:QE X c h)
  (hm:lastMarks [op,op'] [b,c]=false:=by with_unfolding_all rfl):QE X (.Compare a [op,op'] [b,c] pos) (Gj k k' f g h):=.mk <| PE.imp (b4 ho ho' h1.un h2.un h3.un hm) λ_ _ _ z=>Sl hk hk' z
section
variable {M:Mem} {Y:Sd} {P:EV->Mem->Prop}
def Sq:Ok (Gj k k' f g h Y M) P ↔ Ok (f Y M) λx M1=>Ok (g Y M1) λy M2=>Ok (k x y M2) (blP λt M3=>if t then Ok (h Y M3) λw M4=>Ok (k' y w M4) P else P (.dat (.bl false)) M3):=by
 unfold Gj;constructor
 .rintro ⟨x,M1,z,q⟩;split at z
  .rename_i y M2 e1;split at z
   .rename_i y' M3 e2;split at z
    .rename_i M4 e3;split at z
     .rename_i w M5 e4;exact ⟨_,_,e1,_,_,e2,_,_,e3,by rw[Ft,AB rfl];exact ⟨_,_,e4,_,_,z,q⟩⟩
     .cases z
    .rename_i M4 e3;cases z;exact ⟨_,_,e1,_,_,e2,_,_,e3,by rw[Ft];simpa using q⟩
    .cases z
   .cases z
  .cases z
 .rintro ⟨x,M1,e1,y,M2,e2,t,M3,e3,q⟩;rw[e1];dsimp only;rw[e2];dsimp only;rw[e3];cases t with
  |fl _=>exact q.elim
  |dat d=>
   cases d with
   |bl t=>
    rw[Ft]at q;cases t with
    |true=>
     rw[AB rfl]at q;obtain ⟨w,M4,e4,q⟩:=q;dsimp only;rw[e4];exact q
    |false=>exact ⟨_,_,rfl,by simpa using q⟩
   |_=>exact q.elim
end
noncomputable def GQ:KB:=λxs M=>match xs with
 |[x]=>match Av M x with
  |some ys=>some (.fl ys,M)
  |none=>none
 |_=>none
def VL:Cq X.K (λxs H Q=>∃ q ys,xs=[.ref q]/\(SqL X.K H q ys\/SqT X.K H q ys) /\ ∀ l,H l=none->Q (.ref l) (upd H l (.lst ys))) GQ:=by
 intro L M M' H H0 xs d vs Q cc r hk q;unfold GQ at hk;split at hk
 .rename_i x;split at hk
  .rename_i ys e1;cases hk;obtain ⟨v,rfl,r1⟩:=r.one;obtain ⟨l,ws,rfl,hs,r2⟩:=Ju cc r1 e1;refine ⟨l,ws,rfl,hs,λk hk=>?_⟩;exact q L _ _ (.upd hk) (cc.upd hk) (zW.newLst (.refl L H) cc cc hk r2)
  .cases hk
 .cases hk
def TN (hg:Gl X "list") (hm:X.mg "list" = none) (ha:QAE X [e] fa) (he:starEach [e] X.env=(false,eval e X.env)::starEach [] X.env:=by rfl) (hpl:(backTo pos (starEach [] X.env)).any (·.1)=false:=by rfl):QE X (.Call (.Name "list" p) [e] [] pos) (fB GQ fa) :=
 LA VL Y9 (by rfl) hg hm ha (by decide) (by decide) he hpl
end
open AutoSeq1 (wpAny_loadPart')
def SS {r:Yt} {lo hi:Int} {t u v:Tok} {n:Nat} {Q:List Value->Shared->Prop} (hh:A.handled=none) (R:IsRange s.heap r lo hi 1 t u v) (sm:Builtin.Range.small lo hi 1=true) (hn:Builtin.Range.rangeSize lo hi 1=n) (hz:n<=2 ^ 24)
  (q:∀ h' tk (acc:Yp),(∀ b o,s.heap.get? b=some o->h'.get? b=some o)->ItemsOf (λi v=>∃ t,v=.int (lo+i*1) t) acc n->Q acc.toList { s with heap:=h',toks:=tk }):wpAny (model prog w) A (collect (.ref r)) Q E s:=by
 unfold collect;refine AA (wpAny_runValue (codeAny_builtin PySem.F.entry_proto_collect ?_));rw[Around.under_plainId PySem.F.plain_proto_collect _];refine AA (m:=newList []) (A9 (AD ⟨plainId_quiet PySem.F.plain_list_iadd _,codeAny_builtin PySem.F.entry_list_iadd ?_⟩));rw[Around.under_plainId PySem.F.plain_list_iadd _];have S0:(s.heap.push { cls:=.type "list", data:=.seq ([]:List Value).toArray }).get? s.heap.objs.size=some { cls:=.type "list", data:=.seq #[] 0 }:=AV _ rfl
 have fin:∀ (h':Heap) (tk:Nat) (acc:Array Value) (k:Nat),(∀ b o,b≠s.heap.objs.size->(s.heap.push { cls:=.type "list", data:=.seq ([]:List Value).toArray }).get? b=some o->h'.get? b=some o) ->
   h'.get? s.heap.objs.size=some { cls:=.type "list", dict:=none,data:=.seq acc k,slots:=#[] }->ItemsOf (λi v=>∃ t,v=.int (lo+i*1) t) acc n ->
   wpAny (model prog w) A (match Value.ref s.heap.objs.size with
    |Value.ref a=>do
     match (<- load a).data with
      |Data.seq xs _=>pure xs.toList
      |_=>unsupported "internal:collect"
    |_=>unsupported "internal:collect") Q E { s with heap:=h',toks:=tk }:=λh' tk acc k kp e it=>by
  refine AA (m:=load s.heap.objs.size) (wpAny_load e (AD (q h' tk acc (λb o m=>kp b o (Ab (AH m)) (AJ _ m)) it)))
 refine AN (wpAny_extend_range (A:=A) (s:={ s with heap:=s.heap.push { cls:=.type "list", data:=.seq ([]:List Value).toArray } })
  (R:=λr s'=>r=.ok (.ret (.ref s.heap.objs.size)) /\ ∃ h' tk acc k,s'={ s with heap:=h',toks:=tk }/\(∀ b o,b≠s.heap.objs.size->(s.heap.push { cls:=.type "list", data:=.seq ([]:List Value).toArray }).get? b=some o->h'.get? b=some o) /\
   h'.get? s.heap.objs.size=some { cls:=.type "list", dict:=none,data:=.seq acc k,slots:=#[] }/\ItemsOf (λi v=>∃ t,v=.int (lo+i*1) t) acc n)
  hh (AJ _ R) sm hn hz s.heap.objs.size (.ref s.heap.objs.size) 0 S0 λh' tk acc k kp e it=>⟨rfl,h',tk,acc,k,rfl,kp,e,it⟩) (λf s' z=>?_) (λe s' z=>?_)
 .cases f with
  |done f=>
   obtain ⟨e,h',tk,acc,k,rfl,z1,z2,z3⟩:=z;cases e;exact fin h' tk acc k z1 z2 z3
  |again c'=>exact ⟨z.1,codeAny_mono z.2 λr s'' z=>by obtain ⟨rfl,h',tk,acc,k,rfl,z1,z2,z3⟩:=z;exact fin h' tk acc k z1 z2 z3⟩
 .exact absurd z.1 (by simp)
def Y5 (r:Yt) (lo hi:Int) (t u v:Tok) (n:Nat) (sm:Builtin.Range.small lo hi 1=true) (hn:Builtin.Range.rangeSize lo hi 1=n) (hz:n<=2 ^ 24) :
  Meets (Builtin.«tuple.__new__» ⟨[.type "tuple", .ref r],[]⟩) (λA R s=>A.handled=none/\IsRange s.heap r lo hi 1 t u v /\
   ∀ (h':Heap) (tk:Nat) (acc:Array Value),(∀ b o,s.heap.get? b=some o->h'.get? b=some o)->ItemsOf (λi v=>∃ t,v=.int (lo+i*1) t) acc n->R (.ok (.ret (.ref h'.objs.size))) { s with heap:=h'.push { cls:=.type "tuple", data:=.seq acc },toks:=tk }) :=
 .of_wp λprog w A R s h=>by
  obtain ⟨hp,g,d,tk,os⟩:=s;obtain ⟨hh,Ra,h⟩:=h;have h1:=sub_tuple_self;have h2:=init_tuple_lookup;have h3:=madeHere_tuple;have T:Shared.TypeIs ⟨hp,g,d,tk,os⟩ (.ref r) "range" := ⟨_,Ra,rfl⟩;wp_walk using wpAny_loadPart' Ra,wpAny_typeOf T,SS (show A.in1.handled=none from hh) Ra sm hn hz;intro h' tk' acc kp it;refine AA (m:=Builtin.Tuple.tupleExact acc.toList.toArray) ?_;unfold Builtin.Tuple.tupleExact;have sz:acc.toList.toArray.size<=sizeLine:=by rw[AR,BK,it.1,sizeLine_eq];omega
  refine A9 (AD ⟨_,rfl,?_⟩) sz;have e:acc.toList.toArray=acc:=by simp
  rw[e];exact h h' tk' acc kp it
section
variable {X:Cx} {a e:Expr} {es:Yi} {pos p p2 pos2:Pos} {f:FE}
def QR:Bk X (.type "range") (λxs H Q=>∃ j,xs=[.int j] /\ ∀ l,H l=none->Q (.ref l) (upd H l (.rng 0 j))):=by
 intro zB s Y H xs us Q I r h;obtain ⟨j,rfl,q⟩:=h;obtain ⟨u,rfl,rx⟩:=Cs r;obtain ⟨t,rfl⟩:=rx;refine call_range_1 ⟨.ref s.heap.objs.size,_,I.laid (λb o z=>AJ _ z) (AF _) ?_,rfl,q _ (I.hok.fresh (AF _))⟩;exact ⟨_,_,_,AV _ rfl⟩
noncomputable def upV (n:Nat):List V:=(List.range n).map λ(k:Nat)=>V.int k
def OK (h:ItemsOf (λi v=>∃ t,v=.int ((0:Int)+i*1) t) acc n):zY (upV n) acc.toList:=by
 obtain ⟨hz,hi⟩:=h;have:∀ (xs:Yf) (k:Nat),(∀ j v,xs[j]?=some v -> ∃ t,v=Value.int ((k+j:Nat):Int) t)->zY ((List.range' k xs.length).map λ(k:Nat)=>V.int k) xs:=by
  intro xs;induction xs with
  |nil=>intro k _;exact .nil
  |cons x xs ih=>
   intro k hk;rw[Ba,List.range'_succ,AX];refine .cons ?_ (ih (k+1) λj v e=>?_)
   .obtain ⟨t,e⟩:=hk 0 x rfl;exact ⟨t,by simpa using e⟩
   .obtain ⟨t,e'⟩:=hk (j+1) v (by simpa using e);exact ⟨t,by rw[e'];congr 2;omega⟩
 have q:=this acc.toList 0 (λj v e=>by
  obtain ⟨t,e'⟩:=hi j v (by simpa using e);exact ⟨t,by rw[e'];congr 1;omega⟩)
 unfold upV;rw[List.range_eq_range'];rw[BK,hz]at q;exact q
def Pu (h0:0<=j) (h1:j<=16777216):Builtin.Range.small 0 j 1=true/\Builtin.Range.rangeSize 0 j 1=(j.toNat:Int):=by
 refine ⟨small_one (by omega) (by omega) (by omega) (by omega),?_⟩;rw[rangeSize_one];split <;> omega
def PD (mk:List V->HO):List V->Hp->VK->Prop:=λxs H Q=>∃ r j,xs=[.ref r]/\H r=some (.rng 0 j)/\0<=j/\j<=16777216 /\ ∀ l,H l=none->Q (.ref l) (upd H l (mk (upV j.toNat)))
def Mx (n:Nat):(upV n).length=n:=by unfold upV;simp
def gF (hc:X.calm=true):Bk X (.type "tuple") (PD HO.tup):=by
 intro zB s Y H xs us Q I r h;obtain ⟨l,j,rfl,hr,h0,h1,q⟩:=h;obtain ⟨u,rfl,rx⟩:=Cs r;cases rx;obtain ⟨t,u,v,er⟩:=(show z0 X.prog X.w H s.heap l (.rng 0 j)from I.hok l _ hr);obtain ⟨sm,sz⟩:=Pu h0 h1
 refine callType_new PySem.F.called_tuple (by decide) (PySem.F.typeCall_tuple_1 _) (PySem.F.newCall_tuple_1 _) (λobj=>PySem.F.args_object_init_2 obj _) PySem.F.entry_tuple_new (Y5 l 0 j t u v j.toNat sm sz (by omega))
  ⟨I.ok.hd hc,er,λh' tk acc kp it=>⟨⟨_,AV _ rfl,rfl⟩,?_⟩⟩
 have I1:Inv X zB Y H { s with heap:=h',toks:=tk }:=I.kept kp;refine ⟨.ref h'.objs.size,_,I1.laid (t':=tk) (λb o z=>AJ _ z) (AF _) ?_,rfl,q _ (I1.hok.fresh (AF _))⟩;exact ⟨by rw[Mx,sizeLine_eq];omega,acc.toList,OK it,by simpa using Du.new h' acc⟩
def Wz (hc:X.calm=true):Bk X (.type "list") (PD HO.lst):=by
 intro zB s Y H xs us Q I r h;obtain ⟨l,j,rfl,hr,h0,h1,q⟩:=h;obtain ⟨u,rfl,rx⟩:=Cs r;cases rx;obtain ⟨t,u,v,er⟩:=(show z0 X.prog X.w H s.heap l (.rng 0 j)from I.hok l _ hr);obtain ⟨sm,sz⟩:=Pu h0 h1;refine call_list_range (I.ok.hd hc) er sm sz (by omega) λh' tk acc k kp z it=>?_;refine ⟨.ref s.heap.objs.size,_,I.laid (t':=tk) kp (AF _) (show z0 X.prog X.w _ h' _ (.lst (upV j.toNat))from ⟨by rw[Mx,sizeLine_eq];omega,acc.toList,k,OK it,by simpa using z⟩),rfl,q _ (I.hok.fresh (AF _))⟩
noncomputable def upD (n:Nat):List D:=(List.range n).map λ(k:Nat)=>D.int k
def QN (n:Nat):zJ L H (upD n) (upV n):=by
 have:∀ xs:List Nat,zJ L H (xs.map λ(k:Nat)=>D.int k) (xs.map λ(k:Nat)=>V.int k):=by
  intro xs;induction xs with
  |nil=>exact .nil
  |cons x xs ih=>exact .cons Bm ih
 exact this _
noncomputable def Jh (f:FE):FE:=λY M=>match f Y M with
 |some (.dat (.int j),M1)=>if 0<=j/\j<=16777216 then some (.dat (.tup (upD j.toNat)),M1) else none
 |_=>none
noncomputable def Fh (f:FE):FE:=λY M=>match f Y M with
 |some (.dat (.int j),M1)=>if 0<=j/\j<=16777216 then some (.fl (upD j.toNat),M1) else none
 |_=>none
def XE (hc:X.calm=true) (hg:Gl X "tuple") (hm:X.mg "tuple" = none) (hg2:Gl X "range") (hm2:X.mg "range" = none) (ha:QE X a f)
  (he:starEach [Expr.Call (.Name "range" p2) [a] [] pos2] X.env=(false,eval (Expr.Call (.Name "range" p2) [a] [] pos2) X.env)::starEach [] X.env:=by rfl) (hpl:(backTo pos (starEach [] X.env)).any (·.1)=false:=by rfl)
  (he2:starEach [a] X.env=(false,eval a X.env)::starEach [] X.env:=by rfl) (hpl2:(backTo pos2 (starEach [] X.env)).any (·.1)=false:=by rfl) :
  QE X (.Call (.Name "tuple" p) [.Call (.Name "range" p2) [a] [] pos2] [] pos) (Jh f) :=
 .mk <| PE.imp (HY (gF hc) hg hm (by rfl) (FY (HY QR hg2 hm2 boot_range (FY ha.un Fj he2) (by decide) (by decide) he2 hpl2) Fj he) (by decide) (by decide) he hpl) λτ H Q zz=>by
  obtain ⟨L,Y,M,d,M',c,rs,hf,q⟩:=zz;unfold Jh at hf;split at hf
  .rename_i j M1 e1;split at hf
   .rename_i hb;cases hf;refine (mkE c rs e1 (λL1 H1 v s1 c1 r1=>⟨j,by unfold zW Rep at r1;rw[r1],λl hl=>⟨l,j,rfl,zr,hb.1,hb.2,λk hk=>?_⟩⟩));exact q L1 _ _ ((s1.trans (.upd hl)).trans (.upd hk)) ((c1.upd hl).upd hk) (Rep.newTup hk (QN _))
   .cases hf
  .cases hf
def Sb (hc:X.calm=true) (hg:Gl X "list") (hm:X.mg "list" = none) (hg2:Gl X "range") (hm2:X.mg "range" = none) (ha:QE X a f)
  (he:starEach [Expr.Call (.Name "range" p2) [a] [] pos2] X.env=(false,eval (Expr.Call (.Name "range" p2) [a] [] pos2) X.env)::starEach [] X.env:=by rfl) (hpl:(backTo pos (starEach [] X.env)).any (·.1)=false:=by rfl)
  (he2:starEach [a] X.env=(false,eval a X.env)::starEach [] X.env:=by rfl) (hpl2:(backTo pos2 (starEach [] X.env)).any (·.1)=false:=by rfl) :
  QE X (.Call (.Name "list" p) [.Call (.Name "range" p2) [a] [] pos2] [] pos) (Fh f) :=
 .mk <| PE.imp (HY (Wz hc) hg hm (by rfl) (FY (HY QR hg2 hm2 boot_range (FY ha.un Fj he2) (by decide) (by decide) he2 hpl2) Fj he) (by decide) (by decide) he hpl) λτ H Q zz=>by
  obtain ⟨L,Y,M,d,M',c,rs,hf,q⟩:=zz;unfold Fh at hf;split at hf
  .rename_i j M1 e1;split at hf
   .rename_i hb;cases hf;refine (mkE c rs e1 (λL1 H1 v s1 c1 r1=>⟨j,by unfold zW Rep at r1;rw[r1],λl hl=>⟨l,j,rfl,zr,hb.1,hb.2,λk hk=>?_⟩⟩));have s2:Stp L H L1 (upd H1 l (.rng 0 j)):=s1.trans (.upd hl);exact q L1 _ _ (s2.trans (.upd hk)) ((c1.upd hl).upd hk) (zW.newLst s2 c (c1.upd hl) hk (QN _))
   .cases hf
  .cases hf
section
variable {M:Mem} {Y:Sd} {P:EV->Mem->Prop}
def Ue (e:f Y M=some (.dat (.int j),M)) (h0:0<=j) (h1:j<=16777216) (q:P (.fl (upD j.toNat)) M):Ok (Fh f Y M) P:=by
 refine ⟨_,_,?_,q⟩;unfold Fh;rw[e];dsimp only;rw[AB ⟨h0,h1⟩]
end
end
noncomputable def HB:Expr->Bool
 |.Starred .. =>false
 |_=>true
def zR (h:HB e=true):starEach (e::es) env=(false,eval e env)::starEach es env:=by
 cases e <;> first|rfl|cases h
def Lb (h:HB e=true):starEach [e] env=[(false,eval e env)]:=zR h
def X4 (h:HB e=true) (h':HB e'=true):starEach [e,e'] env=[(false,eval e env),(false,eval e' env)]:=by rw[zR h,Lb h']
theorem GK:∀ {es:Yi},es.all HB=true->(backTo pos (starEach es env)).any (·.1)=false
 |[],_=>rfl
 |e::es,h=>by
  rw[List.all_cons,A6]at h;rw[zR h.1];have:=GK (pos:=pos) (env:=env) h.2;simpa [backTo] using this
def Cor.pushO {K:Yb} {L:Yg} {M:List MO} {H:Hp} {p:Yt} {o:HO} {m:MO} (c:Cor K L M H) (h:H p=none) (new:Dc K (L++[p]) (L2.upd H p o) p m) :
  Cor K (L++[p]) (M++[m]) (L2.upd H p o)/\Stp L H (L++[p]) (L2.upd H p o):=by
 have hp:p∉L:=λz=>by obtain ⟨o,e⟩:=c.tracked z;rw[h]at e;cases e
 have st:Stp L H (L++[p]) (L2.upd H p o):=by
  refine ⟨⟨[p],rfl⟩,λa ha=>?_,λa o e _=>?_,λa o e=>?_,λa o u e=>?_⟩
  .rcases Ai.mp ha with z|z
   .exact .inl z
   .have:a=p:=by simpa using z
    subst this;exact .inr h
  all_goals (rw[zT (zv e h)];exact e)
 refine ⟨⟨by simp[c.len],?_,λn a m e1 e2=>?_⟩,st⟩
 .rw[DS];exact ⟨c.nd,by simp,λa ha b hb z=>by
   have:b=p:=by simpa using hb
   subst this;subst z;exact hp ha⟩
 .by_cases hn:n<L.length
  .rw[AW hn]at e1;rw[AW (by rw[<-c.len];exact hn)]at e2;exact (c.obj n a m e1 e2).stp st λo e=>by rw[zT (zv e h)];exact e
  .have hn':n=L.length:=by
    have:=(AK.mp e1).1;rw[An]at this;simp at this;omega
   subst hn';simp at e1;rw[c.len]at e2;simp at e2;subst e1;subst e2;exact new
def Cor.put {K:Yb} {L:Yg} {M:List MO} {H:Hp} {n:Nat} {p:Yt} {o o':HO} {m:MO} (c:Cor K L M H) (h1:L[n]?=some p) (ho:H p=some o) (ht:∀ xs,o≠.tup xs) (hf:∀ a u,o≠.frz a u)
  (new:Stp L H L (L2.upd H p o')->Dc K L (L2.upd H p o') p m):Cor K L (M.set n m) (L2.upd H p o')/\Stp L H L (L2.upd H p o'):=by
 have st:Stp L H L (L2.upd H p o'):=by
  refine ⟨⟨[],by simp⟩,λa ha=> .inl ha,λa o e ha=>?_,λa xs e=>?_,λa b u e=>?_⟩
  .rw[zT (show a≠p from λz=>ha (by rw[z];exact FJ h1))];exact e
  .rw[zT (Fo e ho (λz=>ht xs z.symm))];exact e
  .rw[zT (Fo e ho (λz=>hf b u z.symm))];exact e
 refine ⟨⟨by simp[c.len],c.nd,λk a m' e1 e2=>?_⟩,st⟩;rw[D5]at e2;split at e2
 .rename_i hk;subst hk;rw[h1]at e1;cases e1;split at e2
  .cases e2;exact new st
  .cases e2
 .rename_i hk;have hne:a≠p:=λz=>hk (by
   subst z;exact (List.getElem?_inj (AK.mp h1).1 c.nd).mp (h1.trans e1.symm))
  exact (c.obj k a m' e1 e2).stp st λo e=>by rw[zT hne];exact e
noncomputable def JA:FE:=λ_ M=>some (.dat (.ref M.length),M++[.dicT []])
def Uv:QE X (.Dict [] [] pos) JA:=.mk <| PE.imp V3 λτ H Q ⟨L,Y,M,d,M',c,rs,hf,q⟩ p hp=>by
 unfold JA at hf;cases hf;obtain ⟨c2,s2⟩:=c.pushO (m:=.dicT []) hp ⟨[],zr,rfl⟩;refine q _ _ _ s2 c2 ?_;unfold zW Rep;exact ⟨p,rfl,by rw[<-c.len];simp⟩
def JZ (h:Rep L H d v) (e:B4 d=some k):v=kV k:=by
 cases d with
 |int i=>cases e;unfold Rep at h;exact h
 |str x=>cases e;unfold Rep at h;exact h
 |_=>cases e
noncomputable def F4 (M:Mem):EV->Option (List D)
 |.fl xs=>some xs
 |.dat (.ref n)=>match M[n]? with
  |some (.lst xs)=>some xs
  |_=>none
 |_=>none
def Q5 {K:Yb} {L:Yg} {M:Mem} {H H0:Hp} {x:EV} {v:V} {xs:List D} (c:Cor K L M H) (r:zW H0 L H x v) (h:F4 M x=some xs):∃ a vs,v=.ref a/\H a=some (.lst vs)/\zJ L H xs vs:=by
 cases x with
 |fl ys=>
  cases h;obtain ⟨p,vs,rfl,_,e,_,r⟩:=r;exact ⟨p,vs,rfl,e,r⟩
 |dat d=>
  cases d with
  |ref n=>
   unfold zW Rep at r;obtain ⟨a,rfl,e⟩:=r;unfold F4 at h;dsimp only at h;split at h
   .rename_i ys q;cases h;obtain ⟨vs,e1,r1⟩:=c.obj n a _ e q;exact ⟨a,vs,rfl,e1,r1⟩
   .cases h
  |_=>cases h
noncomputable def Dv:K2:=λx y M=>match F4 M x,F4 M y with
 |some xs,some ys=>if xs.length+ys.length<=sizeLine then some (.fl (xs++ys),M) else none
 |_,_=>none
def k5 {K:Yb}:BG K QK Dv:=by
 intro L M M' H H0 x y d v w Q c rx ry hk q;unfold Dv at hk;split at hk
 .rename_i xs ys e1 e2;split at hk
  .rename_i hz;cases hk;obtain ⟨l,vs,rfl,h1,r1⟩:=Q5 c rx e1;obtain ⟨l2,ws,rfl,h2,r2⟩:=Q5 c ry e2;refine ⟨l,l2,vs,ws,rfl,rfl,h1,h2,by rw[r1.length,r2.length];exact hz,λp hp=>?_⟩;exact q L _ _ (.upd hp) (c.upd hp) (zW.newLst (.refl L H) c c hp (r1.app r2))
  .cases hk
 .cases hk
def YG (h1:QE X a f) (h2:QE X b g):QE X (.BinOp a .Add b pos) (fOp Dv f g):=F9 k5 eG h1 h2
def jF (h1:F4 M x=some xs) (h2:F4 M y=some ys) (hz:xs.length+ys.length<=100000) (q:P (.fl (xs++ys)) M):Ok (Dv x y M) P:=by
 refine ⟨_,_,?_,q⟩;unfold Dv;rw[h1,h2];dsimp only;rw[AB (AZ hz (by decide))]
noncomputable def BM:List D->Option (List Int)
 |[]=>some []
 |.int i::r=>match BM r with
  |some bs=>some (i::bs)
  |none=>none
 |_=>none
theorem IV:∀ {ds:List D} {bs:Ye} {vs:List V},BM ds=some bs->zJ L H ds vs->vs=bs.map V.int
 |[],bs,vs,e,r=>by cases e;unfold zJ at r;exact r
 |d::ds,bs,vs,e,r=>by
  unfold zJ at r;obtain ⟨v,r',rfl,r1,r2⟩:=r;cases d with
  |int k=>
   unfold BM at e;cases q:BM ds with
   |none=>rw[q]at e;cases e
   |some bs'=>
    rw[q]at e;cases e;unfold Rep at r1;rw[r1,IV q r2];rfl
  |_=>cases e
theorem HS:∀ xs:List Int,BM (xs.map D.int)=some xs
 |[]=>rfl
 |x::r=>by rw[AX];unfold BM;rw[HS r]
end L3
namespace L2
def Vo (I:Nat->Shared->Prop)
  (turn:∀ n s,I n s->wpAny (model prog w) A (pyNext it) (λr s₁=>match r with
   |none=>R (.ok .next) s₁
   |some v=>wpAny (model prog w) A (letOwnedTupleGo target it v) (λ_ s₁'=>wpAny (model prog w) A (assign target env v) (λ_ s₂=>
     wpAny (model prog w) A (forIn ifs true λc r=>if r=true then do let ok <- isTrue c env (eval c env);pure (ForInStep.yield ok) else pure (ForInStep.yield r)) (λok s₃=>
      if ok=true then wpAny (model prog w) A (eval kx env) (λkv s₄=>wpAny (model prog w) A (eval vx env) (λvv s₅=>
       wpAny (model prog w) A (dictSet D kv vv) (λ_ s₆=>∃ m,m<n/\I m s₆) (λ_ _=>False) s₅) (λ_ _=>False) s₄) (λ_ _=>False) s₃
      else ∃ m,m<n/\I m s₃) (λ_ _=>False) s₂) (λ_ _=>False) s₁') (λ_ _=>False) s₁) (λ_ _=>False) s)
  (n:Nat) (h:I n s) :
  codeAny (model prog w) A (.compLoop (.DictComp kx vx [⟨target,iter,ifs,0⟩] scope pos) 0 it (.ref D) env) R s:=by
 refine codeAny_loop rfl I (λn s hI=>?_) n h;show wpAny _ A ((compTurn (.DictComp kx vx [⟨target,iter,ifs,0⟩] scope pos) 0 it (.ref D) env).onRaise (λx=>do noteFrame x env;theTreesLotGoes x)) _ _ s;refine wpAny_noted ?_;rw[compTurn_dict];refine AA (B1 (AA (AN (turn n s hI) (λr s₁ h₁=>?_) λ_ _ h'=>h'.elim)));cases r with
 |none=>exact AD h₁
 |some v=>
  refine AA (AN h₁ (λ_ s₁' h₁'=>?_) λ_ _ h'=>h'.elim);refine AA (AN h₁' (λ_ s₂ h₂=>AA (AN h₂ (λok s₃ h₃=>?_) λ_ _ h'=>h'.elim)) λ_ _ h'=>h'.elim);cases ok with
  |false=>exact AD ⟨rfl,h₃⟩
  |true=>
   exact AA (AA (AN h₃ (λkv s₄ h₄=>AA (B2 (AN h₄ (λvv s₅ h₅=>AA (B1 (B2 (AN h₅ (λ_ s₆ h₆=>AD ⟨rfl,h₆⟩) λ_ _ h'=>h'.elim)))) λ_ _ h'=>h'.elim))) λ_ _ h'=>h'.elim))
def Xd (elt target iter:Expr) (ifs:Yi) (scope:Y0) (pos:Pos) (it acc:Yu) (env:Env) :
  compTurn (.SetComp elt [⟨target,iter,ifs,0⟩] scope pos) 0 it acc env=(do
   standAt iter.pos;match <- pyNext it with
   |none=>pure (.done .next)
   |some v=>
    letOwnedTupleGo target it v;assign target env v;let mut ok:=true
    for c in ifs do
     if ok then ok <- isTrue c env (eval c env)
    if ok then (do let v <- eval elt env;standAt elt.pos;let _ <- call (.builtin "set.add") [acc,v])
    again (.compLoop (.SetComp elt [⟨target,iter,ifs,0⟩] scope pos) 0 it acc env)):=by rfl
def YT (I:Nat->Shared->Prop)
  (turn:∀ n s,I n s->wpAny (model prog w) A (pyNext it) (λr s₁=>match r with
   |none=>R (.ok .next) s₁
   |some v=>wpAny (model prog w) A (letOwnedTupleGo target it v) (λ_ s₁'=>wpAny (model prog w) A (assign target env v) (λ_ s₂=>
     wpAny (model prog w) A (forIn ifs true λc r=>if r=true then do let ok <- isTrue c env (eval c env);pure (ForInStep.yield ok) else pure (ForInStep.yield r)) (λok s₃=>
      if ok=true then wpAny (model prog w) A (eval elt env) (λx s₄=>
       wpAny (model prog w) A (call (.builtin "set.add") [acc,x]) (λ_ s₅=>∃ m,m<n/\I m s₅) (λ_ _=>False) s₄) (λ_ _=>False) s₃
      else ∃ m,m<n/\I m s₃) (λ_ _=>False) s₂) (λ_ _=>False) s₁') (λ_ _=>False) s₁) (λ_ _=>False) s)
  (n:Nat) (h:I n s) :
  codeAny (model prog w) A (.compLoop (.SetComp elt [⟨target,iter,ifs,0⟩] scope pos) 0 it acc env) R s:=by
 refine codeAny_loop rfl I (λn s hI=>?_) n h;show wpAny _ A ((compTurn (.SetComp elt [⟨target,iter,ifs,0⟩] scope pos) 0 it acc env).onRaise (λx=>do noteFrame x env;theTreesLotGoes x)) _ _ s;refine wpAny_noted ?_;rw[Xd];refine AA (B1 (AA (AN (turn n s hI) (λr s₁ h₁=>?_) λ_ _ h'=>h'.elim)));cases r with
 |none=>exact AD h₁
 |some v=>
  refine AA (AN h₁ (λ_ s₁' h₁'=>?_) λ_ _ h'=>h'.elim);refine AA (AN h₁' (λ_ s₂ h₂=>AA (AN h₂ (λok s₃ h₃=>?_) λ_ _ h'=>h'.elim)) λ_ _ h'=>h'.elim);cases ok with
  |false=>exact AD ⟨rfl,h₃⟩
  |true=>
   exact AA (AA (AN h₃ (λx s₄ h₄=>AA (B1 (AA (AN h₄ (λ_ s₅ h₅=>AD (AD ⟨rfl,h₅⟩)) λ_ _ h'=>h'.elim)))) λ_ _ h'=>h'.elim))
end L2
end
namespace ST
open PySem
abbrev Up (xs:Array Nat):Prop:=xs.toList.Pairwise (· < ·)
def Up.get (h:Up xs) (hik:i<k) (hk:k<xs.size):xs[i]'(by omega)<xs[k]:=by
 have:=List.pairwise_iff_getElem.mp h i k (by simpa using (show i<xs.size by omega)) (by simpa using hk) hik;simpa using this
theorem Ku (h:Up xs) (j:Nat):∀ (fuel lo hi:Nat),lo<=hi->hi<=xs.size->hi-lo<=fuel->(∀ i (hi':i<xs.size),i<lo->xs[i]<j)->(∀ i (hi':i<xs.size),hi<=i->j<=xs[i]) ->
  (SetTable.below.go xs j fuel lo hi<=xs.size)/\(∀ i (hi':i<xs.size),i<SetTable.below.go xs j fuel lo hi->xs[i]<j)/\(∀ i (hi':i<xs.size),SetTable.below.go xs j fuel lo hi<=i->j<=xs[i])
 |0,lo,hi,h1,h2,h3,a,b=>by
  have:lo=hi:=by omega
  subst this;unfold SetTable.below.go;exact ⟨h2,a,b⟩
 |fuel+1,lo,hi,h1,h2,h3,a,b=>by
  unfold SetTable.below.go;by_cases hl:lo<hi
  .rw[AB hl];dsimp only;have hm:(lo+hi) / 2<xs.size:=by omega
   have eg:xs.getD ((lo+hi) / 2) j=xs[(lo+hi) / 2]:=by simp[Array.getD,hm]
   rw[eg];by_cases hc:xs[(lo+hi) / 2]<j
   .rw[AB hc];refine Ku h j fuel _ _ (by omega) h2 (by omega) (λi hi' hlt=>?_) b;rcases Nat.lt_or_ge i ((lo+hi) / 2)with z|z
    .exact Nat.lt_trans (h.get z hm) hc
    .have:i=(lo+hi) / 2:=by omega
     subst this;exact hc
   .rw[AE hc];refine Ku h j fuel _ _ (by omega) (by omega) (by omega) a (λi hi' hge=>?_);rcases Nat.lt_or_ge ((lo+hi) / 2) i with z|z
    .have:=h.get z hi';omega
    .have:i=(lo+hi) / 2:=by omega
     subst this;omega
  .rw[AE hl];have:lo=hi:=by omega
   subst this;exact ⟨h2,a,b⟩
def JV (h:Up xs) (j:Nat):SetTable.below xs j<=xs.size/\(∀ i (hi':i<xs.size),i<SetTable.below xs j->xs[i]<j)/\(∀ i (hi':i<xs.size),SetTable.below xs j<=i->j<=xs[i]):=by
 unfold SetTable.below;exact Ku h j xs.size 0 xs.size (BQ _) (AF _) (by omega) (λi _ z=>by omega) (λi hi' z=>by omega)
def Zx (h:Up xs):SetTable.below xs 0=0:=by
 obtain ⟨a,b,c⟩:=JV h 0;rcases Nat.eq_zero_or_pos (SetTable.below xs 0)with z|z
 .exact z
 .have:=b 0 (by omega) z;omega
def jI (h:Up xs) (hk:k<xs.size):SetTable.below xs (xs[k]+1)=k+1:=by
 obtain ⟨a,b,c⟩:=JV h (xs[k]+1);rcases Nat.lt_trichotomy (SetTable.below xs (xs[k]+1)) (k+1)with z|z|z
 .have:=c k hk (by omega);omega
 .exact z
 .have h1:k+1<xs.size:=by omega
  have:=b (k+1) h1 z;have:=h.get (show k<k+1 by omega) h1;omega
def Sj {α:Type} (xs:Array α) (p:Nat) (x:α):(SetTable.insertAt xs p x).toList=xs.toList.take p++x::xs.toList.drop p:=by
  unfold SetTable.insertAt;simp;have:xs.toList.length<=xs.size:=by simp
  rw[Fx (by simp)]
def Tw (h : Up xs) (hj : j ∉ xs.toList) : Up (SetTable.insertAt xs (SetTable.below xs j) j) := by
  obtain ⟨a, b, c⟩ := JV h j;unfold Up;rw [Sj];rw [List.pairwise_append];have hT : ∀ x ∈ xs.toList.take (SetTable.below xs j), x < j := fun x hx => by
    obtain ⟨i,hi,e⟩:=Ep hx;rw[List.getElem_take]at e;rw[CG]at hi
    have h1 : i < xs.size := by have : xs.toList.length = xs.size := by simp
                                omega
    have:=b i h1 (by omega);rw[<-e];simpa using this
  have hD : ∀ x ∈ xs.toList.drop (SetTable.below xs j), j < x := fun x hx => by
    obtain ⟨i,hi,e⟩:=Ep hx;rw[List.getElem_drop]at e;rw[Dj]at hi
    have h1 : SetTable.below xs j + i < xs.size := by have : xs.toList.length = xs.size := by simp
                                                      omega
    have h2:=c _ h1 (by omega);have h3:x≠j:=λz=>hj (z▸List.mem_of_mem_drop hx);have e':xs[SetTable.below xs j+i]=x:=by simpa using e
    omega
  refine ⟨h.sublist (List.take_sublist _ _),DY.mpr ⟨hD,h.sublist (List.drop_sublist _ _)⟩,λx hx y hy=>?_⟩;rcases AI.mp hy with z|z
  .rw[z];exact hT x hx
  .exact Nat.lt_trans (hT x hx) (hD y z)
def RV (j:Nat):SetTable.has #[] j=false:=by
 unfold SetTable.has;simp
def TC {t:SetTable} (h:Up t.place) (he:t.slot j=.empty):j∉t.place.toList:=λhm=>by
 obtain ⟨a,b,c⟩:=JV h j;obtain ⟨k,hk,e⟩:=Ep hm;have hk':k<t.place.size:=by simpa using hk
 have e':t.place[k]=j:=by simpa using e
 have eb:SetTable.below t.place j=k:=by
  rcases Nat.lt_trichotomy (SetTable.below t.place j) k with z|z|z
  .have h1:SetTable.below t.place j<t.place.size:=by omega
   have:=c _ h1 (AF _);have:=h.get z hk';omega
  .exact z
  .have:=b k hk' z;omega
 unfold SetTable.slot at he;rw[eb,AB (by simp[hk',e'])]at he;cases he
theorem OB (hd:t.dummies = #[]):∀ (fuel:Nat) (p:SetTable.Probe) {j:Nat} {d:Option Nat},p.dummy=none->SetTable.probe.go t hashAt h fuel p=some (.empty j d)->d=none/\t.slot j=.empty
 |0,_,_,_,_,e=>by unfold SetTable.probe.go at e;cases e
 |fuel+1,p,j,d,hp,e=>by
  unfold SetTable.probe.go at e;split at e
  .rename_i hs;cases e;exact ⟨hp,hs⟩
  .rename_i hs;unfold SetTable.slot at hs;dsimp only at hs;rw[hd,RV]at hs;split at hs <;> first|cases hs|simp at hs
  .split at e
   .cases e
   .refine OB hd fuel _ ?_ e;unfold SetTable.advance;split <;> simp[hp]
def VM {t:SetTable} (hu:Up t.place) (hd:t.dummies = #[]) (e:t.freeSlot h=some (j,b)):b=false/\j∉t.place.toList:=by
 unfold SetTable.freeSlot at e;split at e
 .rename_i j' d hp;unfold SetTable.probe at hp;obtain ⟨h1,h2⟩:=OB hd _ _ (by rfl) hp;subst h1;simp at e;obtain ⟨rfl,rfl⟩:=e;exact ⟨rfl,TC hu h2⟩
 .cases e
structure TabOk (w:Yo) (t:SetTable):Prop where
 led:t.led = !w.params.followText "set-order"
 up:Up t.place
 nod:t.dummies = #[]
def jM (n:Nat):Up (Array.range n):=by
 unfold Up;rw[Array.toList_range];exact List.pairwise_lt_range
def TabOk.standIn (h:TabOk w t) (n:Nat):TabOk w (t.standIn n):=⟨h.led,jM n,rfl⟩
def TabOk.orStandIn (h:TabOk w t) (n:Nat):TabOk w (t.orStandIn n):=by
 unfold SetTable.orStandIn;split
 .exact h
 .exact h.standIn n
def TabOk.put (h:TabOk w t) (hj:j∉t.place.toList):TabOk w (t.put j).1:=by
 unfold SetTable.put;refine ⟨h.led,Tw h.up hj,?_⟩;rw[h.nod,RV];rfl
theorem TabOk.layNew (h:TabOk w t) (es:Yw) (hh:Int) (x:Yu):TabOk w (layNew t es hh x).2.1:=by
 unfold PySem.layNew;split
 .rename_i j b e;exact (h.put (VM h.up h.nod e).2).orStandIn _
 .exact h.standIn _
def TabOk.relaid (h:TabOk w t) (e:t.relaid hs wanted=some (t',order)):TabOk w t':=by
 unfold SetTable.relaid SetTable.laid at e;cases q:SetTable.layClean (SetTable.sizeAbove wanted-1) hs with
 |none=>rw[q]at e;cases e
 |some owner=>
  rw[q]at e;simp only[Option.bind_eq_bind,Option.bind_some,Option.pure_def,Option.some.injEq,Prod.mk.injEq]at e;obtain ⟨rfl,_⟩:=e;refine ⟨h.led,?_,rfl⟩;unfold Up;rw[Es,List.pairwise_filterMap];refine List.pairwise_lt_range.imp λ{a b} hab x hx y hy=>?_;cases o1:owner.getD a none with
  |none=>rw[o1]at hx;cases hx
  |some u=>
   cases o2:owner.getD b none with
   |none=>rw[o2]at hy;cases hy
   |some v=>
    rw[o1]at hx;rw[o2]at hy;cases hx;cases hy;exact hab
theorem TabOk.relayAll (h:TabOk w t) (es:Yw) (wanted:Nat):TabOk w (relayAll t es wanted).2.1:=by
 unfold PySem.relayAll;split
 .rename_i t' order e;dsimp only;split
  .exact h.relaid e
  .exact h.standIn _
 .exact h.standIn _
theorem TabOk.plain (h:TabOk w t) (b:Bool):TabOk w { t with plain:=b }:=⟨h.led,h.up,h.nod⟩
def TabOk.fresh:TabOk w (SetTable.fresh 0 0 (!w.params.followText "set-order")):=⟨rfl,List.Pairwise.nil,rfl⟩
open Sem (wp)
set_option genInjectivity true in
inductive F2 {α β:Type} (R:α->β->Prop):List α->List β->Prop
 |nil:F2 R [] []
 |cons {x y xs ys}:R x y->F2 R xs ys->F2 R (x::xs) (y::ys)
section
variable [DecidableEq K]
def Jx (knd:KeyKind prog w K) (e:Int × Value) (k:K):Prop:=(knd.is k e.2=true/\e.1=knd.hash k)/\e.2.scannable=true
structure SetK (knd:KeyKind prog w K) (o:Obj) (es:Yw) (ep:Nat) (t:SetTable) (ks:List K):Prop where
 ex:o.ExactSet
 data:o.data=.set es ep t
 tab:TabOk w t
 fits:t.fits es.size=true
 bound:es.size<scanBound
 ent:∃ ks',ks'.Perm ks/\F2 (Jx knd) es.toList ks'
noncomputable def ins (ks:List K) (k:K):List K:=if k∈ks then ks else ks++[k]
variable {knd:KeyKind prog w K}
theorem Of {α β:Type} {R:α->β->Prop}:∀ {xs:List α} {ys:List β},F2 R xs ys->xs.length=ys.length
 |_,_,.nil=>rfl
 |_,_,.cons _ h=>by simp[Of h]
theorem Lm {α β:Type} {R:α->β->Prop}:∀ {xs:List α} {ys:List β},F2 R xs ys -> ∀ x∈xs,∃ y∈ys,R x y
 |_,_,.nil,x,hx=>by cases hx
 |_,_,.cons h r,x,hx=>by
  rcases AI.mp hx with z|z
  .subst z;exact ⟨_,Ad,h⟩
  .obtain ⟨y,hy,q⟩:=Lm r x z;exact ⟨y,Am _ hy,q⟩
theorem NM {α β:Type} {R:α->β->Prop}:∀ {xs:List α} {ys:List β},F2 R xs ys -> ∀ y∈ys,∃ x∈xs,R x y
 |_,_,.nil,x,hx=>by cases hx
 |_,_,.cons h r,x,hx=>by
  rcases AI.mp hx with z|z
  .subst z;exact ⟨_,Ad,h⟩
  .obtain ⟨y,hy,q⟩:=NM r x z;exact ⟨y,Am _ hy,q⟩
theorem RQ {α β:Type} {R:α->β->Prop}:∀ {xs:List α} {ys:List β} {us:List α} {vs:List β},F2 R xs ys->F2 R us vs->F2 R (xs++us) (ys++vs)
 |_,_,_,_,.nil,h=>h
 |_,_,_,_,.cons h r,q=> .cons h (RQ r q)
def OH {α β:Type} {R:α->β->Prop} {xs xs':List α} (p:xs'.Perm xs):∀ {ys:List β},F2 R xs ys -> ∃ ys',ys'.Perm ys/\F2 R xs' ys':=by
 have p':=p.symm;clear p;induction p' with
 |nil=>intro ys h;exact ⟨ys,.refl _,h⟩
 |cons x _ ih=>
  intro ys h;cases h with
  |cons h r=>
   obtain ⟨ys',q1,q2⟩:=ih r;exact ⟨_,q1.cons _,.cons h q2⟩
 |swap x y l=>
  intro ys h;cases h with
  |cons h r=>
   cases r with
   |cons h2 r=>
    exact ⟨_,List.Perm.swap _ _ _,.cons h2 (.cons h r)⟩
 |trans _ _ ih1 ih2=>
  intro ys h;obtain ⟨ys',q1,q2⟩:=ih1 h;obtain ⟨ys'',r1,r2⟩:=ih2 q2;exact ⟨ys'',r1.trans q1,r2⟩
def SetK.size (h:SetK knd o es ep t ks):es.size=ks.length:=by
 obtain ⟨ks',p,f⟩:=h.ent;rw[<-p.length_eq,<-Of f,BK]
def SetK.elems (h:SetK knd o es ep t ks):ElemsOf knd es.toList:=λe he=>by
 obtain ⟨ks',p,f⟩:=h.ent;obtain ⟨k,_,q⟩:=Lm f e he;exact ⟨⟨k,q.1⟩,q.2⟩
def SetK.mem (h:SetK knd o es ep t ks) (k:K):k∈ks ↔ ∃ e∈es.toList,knd.is k e.2=true:=by
 obtain ⟨ks',p,f⟩:=h.ent;rw[<-p.mem_iff];constructor
 .intro hk;obtain ⟨e,he,q⟩:=NM f k hk;exact ⟨e,he,q.1.1⟩
 .rintro ⟨e,he,q⟩;obtain ⟨k',hk',q'⟩:=Lm f e he;rw[knd.inj e.2 k k' q q'.1.1];exact hk'
variable {s:Yl}
def SetK.typeIs (h:SetK knd o es ep t ks) (ho:s.heap.get? a=some o):s.TypeIs (.ref a) "set" := ⟨o,ho,h.ex.1⟩
def Og {h:Heap} (ho:h.get? a=some o) (hd:o.data=.set es ep t) :
  (h.update a (Obj.putSet es' t')).get? a=some { o with data:=.set es' (ep+1) t' }:=by
 have:=D4 (Obj.putSet es' t') ho (by rw[putSet_of es' t' hd];rfl);rw[putSet_of es' t' hd]at this;exact this
def WY {Q:Bool->Shared->Prop} (hkey:knd.is k x=true) (hsc:x.scannable=true) (ho:s.heap.get? a=some o) (hS:SetK knd o es ep t ks) (hroom:ks.length+1<scanBound)
  (h:∀ h' o' es' ep' t' b,Heap.SameBut a s.heap h'->h'.get? a=some o'->SetK knd o' es' ep' t' (ins ks k)->Q b { s with heap:=h' }) :
  wpAny (model prog w) A (setAddHashed a x (knd.hash k)) Q E s:=by
 have hd:=hS.data;have hf:=hS.fits;have hel:=hS.elems;have hb:=hS.bound;have hb1:es.size+1<scanBound:=by rw[hS.size];exact hroom
 unfold setAddHashed setAddHashedIn;refine B2 (AA (wpAny_setState_of ho hd hf ?_));dsimp only;rw[byScan_of hsc hb hel];simp only[↓reduceIte];unfold setAddByScan;refine AA ?_;refine AA (BY ?_);refine AA (wpAny_setScan_of hkey ho hd hf hel ?_);cases hr:List.findIdx? (λe=>knd.is k e.2) es.toList with
 |some j=>
  obtain ⟨hj,hpj,_⟩:=List.findIdx?_eq_some_iff_getElem.mp hr;have hSk:k∈ks:=(hS.mem k).mpr ⟨es.toList[j],Bg hj,hpj⟩;refine AD (AD ?_);have e:s={ s with heap:=s.heap }:=by cases s;rfl
  rw[e];refine h s.heap o es ep t _ (Heap.SameBut.refl a s.heap) ho ?_;unfold ins;rw[AB hSk];exact hS
 |none=>
  have hSk:k∉ks:=λhk=>by
   obtain ⟨e,he,hp⟩:=(hS.mem k).mp hk;have:=List.findIdx?_eq_none_iff.mp hr e he;rw[hp]at this;exact Bool.noConfusion this
  have hgw:∀ (b:Bool) {s₁:Shared} {Q':Unit->Shared->Prop},Q' () s₁->wpAny (model prog w) A (match b with|true=>rule "set.scan.the-table-gave-way" |false=>pure ()) Q' E s₁ :=
   λb s₁ Q' hq=>by cases b <;> first|exact AD hq|exact BY hq
  have hperm:=layNew_perm t es (knd.hash k) x;have hfits:=layNew_fits t es (knd.hash k) x;have htab:=hS.tab.layNew es (knd.hash k) x;generalize hL:layNew t es (knd.hash k) x=L at hperm hfits htab ⊢;obtain ⟨es1,t1,wasDummy,gave⟩:=L;rw[Array.toList_push]at hperm;have hb1':es1.size<scanBound:=by rw[<-BK,hperm.length_eq,An,BK];simpa using hb1
  obtain ⟨ks',p,f⟩:=hS.ent;have f1:F2 (Jx knd) (es.toList++[(knd.hash k,x)]) (ks'++[k]):=RQ f (.cons ⟨⟨hkey,rfl⟩,hsc⟩ .nil);obtain ⟨ks1,p1,f2⟩:=OH hperm f1;have pI:ks1.Perm (ins ks k):=by
   unfold ins;rw[AE hSk];exact p1.trans (p.append_right _)
  refine AA (hgw _ ?_)
  have tail:∀ t2:SetTable,TabOk w t2->t2.fits es1.size=true->wpAny (model prog w) A (do
    storeSet a es1 t2
    if (!wasDummy&&t2.tooFull)=true then do
      (match (relayAll t2 es1 (SetTable.grown es1.size)).2.2 with|true=>rule "set.scan.the-table-gave-way" |false=>pure ())
      storeSet a (relayAll t2 es1 (SetTable.grown es1.size)).1 (relayAll t2 es1 (SetTable.grown es1.size)).2.1;pure (some true)
     else pure (some true)) (λr s'=>wpAny (model prog w) A (match r with|some added=>pure added|none=>setAddHashedIn a x (knd.hash k) 99999) Q E s') E s:=by
   intro t2 T2 F2;refine AA (wpAny_storeSet_of ho hd ?_ (fits_of_scanBound hb1'));have g1:=Og (es':=es1) (t':=t2) ho hd;have sb1:=C5 s.heap a (Obj.putSet es1 t2);have S1:SetK knd { o with data:=.set es1 (ep+1) t2 } es1 (ep+1) t2 (ins ks k):=⟨hS.ex,rfl,T2,F2,hb1',ks1,pI,f2⟩;split
   .have hp:=relayAll_perm t2 es1 (SetTable.grown es1.size);have hfr:=relayAll_fits t2 es1 (SetTable.grown es1.size);have htr:=T2.relayAll es1 (SetTable.grown es1.size);generalize hRl:relayAll t2 es1 (SetTable.grown es1.size)=Rl at hp hfr htr ⊢;obtain ⟨es2,t3,gave2⟩:=Rl;have hsz:es2.size=es1.size:=by rw[<-BK,hp.length_eq,BK]
    have hb2:es2.size<scanBound:=by rw[hsz];exact hb1'
    obtain ⟨ks2,p2,f3⟩:=OH hp f2;refine AA (hgw _ ?_);refine AA (wpAny_storeSet_of g1 rfl ?_ (fits_of_scanBound hb2));have g2:=Og (es':=es2) (t':=t3) g1 rfl;exact AD (AD (h _ _ _ _ _ _ (sb1.trans (C5 _ a _)) g2 ⟨hS.ex,rfl,htr,hfr,hb2,ks2,p2.trans pI,f3⟩))
   .exact AD (AD (h _ _ _ _ _ _ sb1 g1 S1))
  split
  .refine AA ?_;rw[hashByValue_scannable 8 hsc];refine AD ?_;refine tail _ ?_ ?_
   .split
    .exact htab
    .exact htab.plain _
   .split
    .exact hfits
    .exact SetTable.fits_plain_off hfits
  .refine AA (AD ?_);simp only[↓reduceIte];exact tail _ htab hfits
def aI (hkey:knd.is k x=true) (hsc:x.scannable=true) (ho:s.heap.get? a=some o) (hS:SetK knd o es ep t ks) (hroom:ks.length+1<scanBound)
  (h:∀ h' o' es' ep' t',Heap.SameBut a s.heap h'->h'.get? a=some o'->SetK knd o' es' ep' t' (ins ks k)->Q .none { s with heap:=h',toks:=s.toks+1 }) :
  wpAny (model prog w) A (call (.builtin "set.add") [.ref a,x]) Q E s:=by
 refine BI F.slot_set_add (hS.typeIs ho) F.entry_set_add ?_ (F.args_set_add_2 _ _);unfold Builtin.«set.add» Builtin.Frozenset.oneOther;simp only[List.isEmpty_nil,bind_assoc];unfold Builtin.Frozenset.addrOf setAdd;refine AA (AD ?_);try dsimp only
 refine AA (AD ?_);try dsimp only
 refine AA ?_;refine B2 ?_;refine AA (knd.pyHash hkey ?_);refine WY (s:={ s with toks:=s.toks+1 }) hkey hsc ho hS hroom λh' o' es' ep' t' b hsb ho' hS'=>?_;exact AD ⟨_,rfl,h h' o' es' ep' t' hsb ho' hS'⟩
noncomputable def Fb (w:World):Obj:={ cls:=.type "set", dict:=none,data:=.set #[] 0 (.fresh 0 0 (!w.params.followText "set-order")) }
def SetK.fresh:SetK knd (Fb w) #[] 0 (.fresh 0 0 (!w.params.followText "set-order")) []:=⟨⟨rfl,rfl,rfl⟩,rfl,.fresh,by rfl,by decide,[],.refl _,.nil⟩
def gQ (h:Q (.ref s.heap.objs.size) { s with heap:=s.heap.push (Fb w) }) :
  wpAny (model prog w) A (newSet (.type "set")) Q E s:=by
 unfold newSet setsByText;refine AA (AA (wpAny_askSetting (AD ?_)));simp only[newObj];exact AA (wpAny_alloc (AD h))
end
open PySem.Spec PyProof.Rows
open Sem (wp)
def RN:Manifest.owners.lookup (String.ofList ['r','o','t','a','r','e','t','i','_','t','e','s'].reverse)=some Manifest.sig_set_iterator:=by kernel_rfl
def D8:Slot "set_iterator" "__next__" "set_iterator.__next__" := .of (owner := "set_iterator") (n := "__next__") (by rw[typeLookup_type,builtinLookup_eq_fast];kernel_rfl) (by decide+kernel) (by decide+kernel) (by decide+kernel) (by first|exact .inl (by decide+kernel)|exact .inr (by decide+kernel)) (by rw[isSubtype_type];kernel_rfl)
def Q4:Slot "set_iterator" "__iter__" "set_iterator.__iter__" := .of (owner := "set_iterator") (n := "__iter__") (by rw[typeLookup_type,builtinLookup_eq_fast];kernel_rfl) (by decide+kernel) (by decide+kernel) (by decide+kernel) (by first|exact .inl (by decide+kernel)|exact .inr (by decide+kernel)) (by rw[isSubtype_type];kernel_rfl)
def Jo (a:Value):argsOk "set_iterator.__next__" ⟨[a],[]⟩:=by
 unfold argsOk;rw[signature?_of (id := "set_iterator.__next__") (n:=['_','_','t','x','e','n','_','_']) (o:=['r','o','t','a','r','e','t','i','_','t','e','s']) (by kernel_rfl) RN];kernel_rfl
def XA (a:Value):argsOk "set_iterator.__iter__" ⟨[a],[]⟩:=by
 unfold argsOk;rw[signature?_of (id := "set_iterator.__iter__") (n:=['_','_','r','e','t','i','_','_']) (o:=['r','o','t','a','r','e','t','i','_','t','e','s']) (by kernel_rfl) RN];kernel_rfl
def JU:entryFor table "set_iterator.__next__" = some Builtin.«set_iterator.__next__»:=entryFor_of_tree (by kernel_rfl)
def Xx:entryFor table "set_iterator.__iter__" = some Builtin.«dict_keyiterator.__iter__» :=
 entryFor_alias (id' := "dict_keyiterator.__iter__") (by kernel_rfl) (by first|rfl|decide+kernel|(unfold String.splitOn;simp +decide [String.splitOnAux])) (by decide+kernel) (by kernel_rfl)
def iQ:entryFor table "set.__iter__" = some Builtin.«frozenset.__iter__» :=
 entryFor_alias (id' := "frozenset.__iter__") (by kernel_rfl) rfl (by decide+kernel) (by kernel_rfl)
noncomputable def BS (f:Value) (i:Nat) (a:Addr) (n ep:Nat):Obj:={ cls:=.type "set_iterator", data:=.fields #[f,rawInt i,.ref a,rawInt n,rawInt ep] }
theorem K6 {α:Type}:∀ {l:List α} {i:Nat} (h:i<l.length),(l[i]::l.eraseIdx i).Perm l
 |[],i,h=>by simp at h
 |x::l,0,h=>by simp
 |x::l,i+1,h=>by
  have:=K6 (l:=l) (i:=i) (by simpa using h);rw[List.getElem_cons_succ,List.eraseIdx_cons_succ];exact (List.Perm.swap _ _ _).trans (this.cons x)
def RX {α:Type} {l:List α} (h:i<l.length) (e:n+1=l.length):n=(l.eraseIdx i).length:=by
 rw[List.length_eraseIdx,AB h];omega
theorem Nb {α:Type} (next:Nat->Nat):∀ (fuel k:Nat) (left:List α) (out:Array α),fuel=left.length->(pickOrder.go next fuel k left out).toList.Perm (out.toList++left)
 |0,k,left,out,h=>by
  have:left=[]:=FQ.mp h.symm;subst this;unfold pickOrder.go;simp
 |fuel+1,k,left,out,h=>by
  unfold pickOrder.go;have hl:0<left.length:=by omega
  have hm:next k % left.length<left.length:=Nat.mod_lt _ hl
  rw[AS hm];refine (Nb next fuel (k+1) _ _ (RX hm h)).trans ?_;rw[Array.toList_push,BL];exact (K6 hm).append_left _
def Qj {α:Type} (next:Nat->Nat) (xs:Array α):(pickOrder next xs).toList.Perm xs.toList:=by
 unfold pickOrder;simpa using Nb next xs.size 0 xs.toList #[] (by simp)
section
variable {s:Yl}
def SW (h0:n≠0) (h:∀ r d,r<n->Q r { s with drawn:=d }):wpAny (model prog w) A (choose src n) Q E s :=
 λΓ p hΓ=>⟨h0,h _ _ (Nat.mod_lt _ (by omega))⟩
theorem N3 {α:Type}:∀ (n:Nat) (xs:List α) {s:Yl} {Q:List α->Shared->Prop},n=xs.length->(∀ ys d,ys.Perm xs->Q ys { s with drawn:=d })->wpAny (model prog w) A (drawOrder n xs) Q E s
 |0,xs,s,Q,h,q=>by
  have:xs=[]:=FQ.mp h.symm;subst this;have e:s={ s with drawn:=s.drawn }:=by cases s;rfl
  rw[e];exact AD (q [] s.drawn (.refl _))
 |n+1,[],s,Q,h,q=>by cases h
 |n+1,x::xs,s,Q,h,q=>by
  unfold drawOrder;refine AA (SW (by simp) λr d hr=>?_);rw[AS hr];refine AA (N3 n _ (RX hr h) λys d' hp=>AD ?_);exact q _ d' ((hp.cons _).trans (K6 hr))
variable {K:Type} [DecidableEq K] {ks:List K}
def GC (h:s.heap.get? I=some (BS f i a n ep)):s.TypeIs (.ref I) "set_iterator" := ⟨_,h,rfl⟩
def Ou (hI:s.heap.get? I=some (BS f i a n ep)) (h:Q (.ref I) s):wpAny (model prog w) A (pyIter (.ref I)) Q E s:=by
 refine wpAny_pyIter_slot (GC hI) Q4 (BI Q4 (GC hI) Xx ?_ (XA _));exact AD ⟨_,rfl, "set_iterator", _,GC hI,D8.lookup,h⟩
structure Nexts (prog:Ym) (w:Yo) (o:Obj) (a:Yt) (ep:Nat) (n:Nat) (at_:Nat->Nat) (ord:Yf):Prop where
 len:ord.length=n
 nx:∀ (A:Yn) (E:Yc) (i:Nat) (s:Yl) (Q:Option (Value × Nat)->Shared->Prop),i<=n->s.heap.get? a=some o->Q ((ord[i]?).map λx=>(x,at_ (i+1))) s->wpAny (model prog w) A (setNext a (at_ i) i ep) Q E s
def cO (N:Nexts prog w o a ep ks.length at_ ord) (hS:SetK knd o es ep t ks) (hI:s.heap.get? I=some (BS (rawInt (at_ i)) i a ks.length ep)) (ho:s.heap.get? a=some o)
  (hx:ord[i]?=some x) (hQ:∀ h',h'.get? I=some (BS (rawInt (at_ (i+1))) (i+1) a ks.length ep)->Heap.SameBut I s.heap h'->Q (some x) { s with heap:=h' }):wpAny (model prog w) A (pyNext (.ref I)) Q E s:=by
 have hT:=GC hI;have hi:i<ks.length:=by have:=(AK.mp hx).1;rw[N.len]at this;exact this
 unfold pyNext;refine AA (DL (CD (name:=Str.ofString "__next__") hT D8 (BI D8 hT JU ?_ (Jo _))));unfold Builtin.«set_iterator.__next__» slotArgs;simp only[List.isEmpty_nil,Bool.not_true,CV,↓reduceIte,D7,bne_self_eq_false,pure_bind,bind_assoc];refine AA (wpAny_fieldsOf hI rfl ?_);dsimp only[rawInt];refine AA (wpAny_setEntries_of ho hS.data hS.fits ?_);rw[AE (by rw[hS.size];simp)];refine AA (N.nx _ _ i s _ (by omega) ho ?_);rw[hx];dsimp only[Option.map];refine AA (Dn hI rfl (by simp) ?_);have e1:=D4 (Obj.mapFields λvs=>vs.set! 0 (rawInt (at_ (i+1)))) hI (Obj.isFreed_of_fields (Dp rfl _));refine AA (Dn e1 (Dp rfl _) (by simp) ?_);have e2:=D4 (Obj.mapFields λvs=>vs.set! 1 (rawInt ((i:Int)+1))) e1 (Obj.isFreed_of_fields (Dp (Dp rfl _) _));refine AD ⟨x,rfl,AD (hQ _ ?_ ((C5 ..).trans (C5 ..)))⟩;refine e2.trans ?_;simp[Obj.mapFields,BS,rawInt]
end
open Sem (wp)
section
variable {K:Type} [DecidableEq K] {knd:KeyKind prog w K}
def Mi (hh:A.handled=none) (N:Nexts prog w o a ep ks.length at_ ord) (hS:SetK knd o es ep t ks) (hI:s.heap.get? I=some (BS (rawInt (at_ ks.length)) ks.length a ks.length ep)) (ho:s.heap.get? a=some o)
  (hQ:∀ h',Heap.ExtBut I s.heap h'->Q none { s with heap:=h' }):wpAny (model prog w) A (pyNext (.ref I)) Q E s:=by
 have hT:=GC hI;unfold pyNext;refine AA (DL (CD (name:=Str.ofString "__next__") hT D8 (BI D8 hT JU ?_ (Jo _))));unfold Builtin.«set_iterator.__next__» slotArgs;simp only[List.isEmpty_nil,Bool.not_true,CV,↓reduceIte,D7,bne_self_eq_false,pure_bind,bind_assoc];refine AA (wpAny_fieldsOf hI rfl ?_);dsimp only[rawInt];refine AA (wpAny_setEntries_of ho hS.data hS.fits ?_);rw[AE (by rw[hS.size];simp)];refine AA (N.nx _ _ ks.length s _ (AF _) ho ?_);rw[FV (by rw[N.len];exact AF _)];dsimp only[Option.map];refine AA (Dn hI rfl (by simp) ?_);simp only[newExc,newTuple,bind_assoc,pure_bind];refine AA (A9 (AA (m:=firstArgMember _ _) (wpAny_of_eq (a:=Value.none) (by first|rfl|(simp only[firstArgMember];rfl)) (AA (A9 ?_ (by size_fits))))) (by size_fits));simp only[raiseNew];refine AA (wpAny_handled ?_);rw[show A.in1.handled=none from hh];refine AA (AD (wpAny_throw ?_));refine AA (wpAny_isInstance (T := "StopIteration") (b:=true) ⟨_,AV _ rfl,rfl⟩ isSubtype_stop (AD ?_));exact hQ _ (((C5 ..).extBut.push _).push _)
def SN (hh:A.handled=none) (hne:a≠I) (N:Nexts prog w o a ep ks.length at_ ord) (hS:SetK knd o es ep t ks) :
  Walks prog w A I [I,a] [I] ks.length (λi v=>ord[i]?=some v) (λi h=>h.get? I=some (BS (rawInt (at_ i)) i a ks.length ep)/\h.get? a=some o) where
 sub:=λb hb=>by simp at hb;simp[hb]
 frame:=λ_ _ _ st hk=>⟨hk I (by simp) _ st.1,hk a (by simp) _ st.2⟩;item:=λi s Q E hi st hQ=>by
  have hx:ord[i]?=some (ord[i]'(by rw[N.len];exact hi)):=AS _;refine cO N hS st.1 st.2 hx λh' hI' hs'=>?_;exact hQ _ h' s.toks hx ⟨hI',hs'.extBut a o hne st.2⟩ λb u hb ee=>hs'.extBut b u (λh=>hb (by simp[h])) ee
 done:=λs Q E st hQ=>Mi hh N hS st.1 st.2 λh' he'=>hQ h' s.toks λb u hb ee=>he' b u (λh=>hb (by simp[h])) ee;self:=λ_ _ _ _ st hQ=>Ou st.1 hQ
def YN {pl:Yj} (hS:SetK knd o es ep t ks) (hl:pl.length=ks.length) (hI:s.heap.get? I=some (BS (.ref T) i a ks.length ep)) (ho:s.heap.get? a=some o)
  (hT:IsTup s.heap T (pl.map λ(k:Nat)=>rawInt k).toArray)
  (hx:(pl[i]?).bind (λk=>(es[k]?).map (·.2))=some x) (hQ:∀ h',h'.get? I=some (BS (.ref T) (i+1) a ks.length ep)->Heap.SameBut I s.heap h'->Q (some x) { s with heap:=h' }):wpAny (model prog w) A (pyNext (.ref I)) Q E s:=by
 have hTy:=GC hI;obtain ⟨oT,hoT,hcT,nT,hdT⟩:=id hT;cases hp:pl[i]? with
 |none=>rw[hp]at hx;cases hx
 |some k=>
  rw[hp]at hx;cases he:es[k]? with
  |none=>simp only[Option.bind_some]at hx;rw[he]at hx;cases hx
  |some e=>
   simp only[Option.bind_some]at hx;rw[he]at hx;cases hx;unfold pyNext;refine AA (DL (CD (name:=Str.ofString "__next__") hTy D8 (BI D8 hTy JU ?_ (Jo _))));unfold Builtin.«set_iterator.__next__» slotArgs;simp only[List.isEmpty_nil,Bool.not_true,CV,↓reduceIte,D7,bne_self_eq_false,pure_bind,bind_assoc];refine AA (wpAny_fieldsOf hI rfl ?_);dsimp only[rawInt];refine AA (wpAny_setEntries_of ho hS.data hS.fits ?_);rw[AE (by rw[hS.size];simp)];refine AA (D3 hoT hdT ?_);dsimp only;have e5:(List.map (λ(k:Nat)=>rawInt k) pl).toArray[(i:Int).toNat]?=some (rawInt k):=by simp[hp]
   rw[e5];dsimp only[rawInt];unfold setNextDrawn;simp only[bind_assoc];refine AA (wpAny_setState_of ho hS.data hS.fits ?_);rw[AE (by simp)];have e6:es[(k:Int).toNat]?=some e:=by simpa using he
   rw[e6];obtain ⟨e1,e2⟩:=e;simp only[pure_bind];refine AA (Dn hI rfl (by simp) ?_);refine AD ⟨e2,rfl,AD (hQ _ ?_ (C5 ..))⟩;refine (D4 _ hI (Obj.isFreed_of_fields (Dp rfl _))).trans ?_;simp[Obj.mapFields,BS,rawInt]
def Sm {pl:Yj} (hh:A.handled=none) (hS:SetK knd o es ep t ks) (hl:pl.length=ks.length) (hI:s.heap.get? I=some (BS (.ref T) ks.length a ks.length ep)) (ho:s.heap.get? a=some o)
  (hT:IsTup s.heap T (pl.map λ(k:Nat)=>rawInt k).toArray) (hQ:∀ h',Heap.ExtBut I s.heap h'->Q none { s with heap:=h' }):wpAny (model prog w) A (pyNext (.ref I)) Q E s:=by
 have hTy:=GC hI;obtain ⟨oT,hoT,hcT,nT,hdT⟩:=id hT;unfold pyNext;refine AA (DL (CD (name:=Str.ofString "__next__") hTy D8 (BI D8 hTy JU ?_ (Jo _))));unfold Builtin.«set_iterator.__next__» slotArgs;simp only[List.isEmpty_nil,Bool.not_true,CV,↓reduceIte,D7,bne_self_eq_false,pure_bind,bind_assoc];refine AA (wpAny_fieldsOf hI rfl ?_);dsimp only[rawInt];refine AA (wpAny_setEntries_of ho hS.data hS.fits ?_);rw[AE (by rw[hS.size];simp)];refine AA (D3 hoT hdT ?_);dsimp only;have e5:(List.map (λ(k:Nat)=>rawInt k) pl).toArray[(ks.length:Int).toNat]?=none:=by simp[hl]
 rw[e5];dsimp only[rawInt];refine AA (Dn hI rfl (by simp) ?_);have e1:=D4 (Obj.mapFields λvs=>vs.set! 0 (rawInt 0)) hI (Obj.isFreed_of_fields (Dp rfl _));refine AA (Dn e1 (Dp rfl _) (by simp) ?_);simp only[newExc,newTuple,bind_assoc,pure_bind];refine AA (A9 (AA (m:=firstArgMember _ _) (wpAny_of_eq (a:=Value.none) (by first|rfl|(simp only[firstArgMember];rfl)) (AA (A9 ?_ (by size_fits))))) (by size_fits));simp only[raiseNew];refine AA (wpAny_handled ?_);rw[show A.in1.handled=none from hh];refine AA (AD (wpAny_throw ?_));refine AA (wpAny_isInstance (T := "StopIteration") (b:=true) ⟨_,AV _ rfl,rfl⟩ isSubtype_stop (AD ?_));exact hQ _ ((((C5 ..).trans (C5 ..)).extBut.push _).push _)
def R3 {pl:Yj} (hh:A.handled=none) (hne:a≠I) (hneT:T≠I) (hS:SetK knd o es ep t ks) (hl:pl.length=ks.length) (hb:∀ k∈pl,k<es.size) :
  Walks prog w A I [I,a,T] [I] ks.length (λi v=>(pl[i]?).bind (λk=>(es[k]?).map (·.2))=some v) (λi h=>h.get? I=some (BS (.ref T) i a ks.length ep)/\h.get? a=some o/\IsTup h T (pl.map λ(k:Nat)=>rawInt k).toArray) where
 sub:=λb hb=>by simp at hb;simp[hb]
 frame:=λ_ _ _ st hk=>⟨hk I (by simp) _ st.1,hk a (by simp) _ st.2.1,let ⟨oT,ho,r⟩:=st.2.2;⟨oT,hk T (by simp) oT ho,r⟩⟩;item:=λi s Q E hi st hQ=>by
  have hi':i<pl.length:=by rw[hl];exact hi
  have hk:pl[i]<es.size:=hb _ (Bg hi');have hx:(pl[i]?).bind (λk=>(es[k]?).map (·.2))=some (es[pl[i]].2):=by
   rw[AS hi'];simp[hk]
  refine YN hS hl st.1 st.2.1 st.2.2 hx λh' hI' hs'=>?_;exact hQ _ h' s.toks hx ⟨hI',hs'.extBut a o hne st.2.1,st.2.2.extBut hs'.extBut hneT⟩ λb u hb ee=>hs'.extBut b u (λh=>hb (by simp[h])) ee
 done:=λs Q E st hQ=>Sm hh hS hl st.1 st.2.1 st.2.2 λh' he'=>hQ h' s.toks λb u hb ee=>he' b u (λh=>hb (by simp[h])) ee;self:=λ_ _ _ _ st hQ=>Ou st.1 hQ
end
open Sem (wp)
def jR {prog:Ym} {w:Yo} {A:Yn} {I:Yt} {fp wr:Yg} {n:Nat} {P P':Nat->Value->Prop} {St:Nat->Heap->Prop} (W:Walks prog w A I fp wr n P St) (h:∀ i v,P i v->P' i v):Walks prog w A I fp wr n P' St where
 sub:=W.sub;frame:=W.frame;item:=λi s Q E hi st hQ=>W.item i s Q E hi st λv h' tk hP=>hQ v h' tk (h i v hP);done:=W.done;self:=W.self
section
variable {K:Type} [DecidableEq K] {knd:KeyKind prog w K}
def JD (h:Q (w.params.followText "set-order") s):wpAny (model prog w) A setsByText Q E s:=by
 unfold setsByText;exact AA (wpAny_askSetting (AD h))
def aS (hS:SetK knd o es ep t ks) (hT:w.params.followText "set-order" = true):Nexts prog w o a ep ks.length (λ_=>0) ((pickOrder (w.params.setOrder a ep) es).toList.map (·.2)) where
 len:=by rw[AG,(Qj _ es).length_eq,BK,hS.size]
 nx:=λA E i s Q hi ho hQ=>by
  unfold setNext;refine AA (wpAny_setState_of ho hS.data hS.fits ?_);refine AA (JD ?_);rw[hT,AB rfl,AE (by simp)];refine AA ?_;unfold setWalk;refine AA (wpAny_setState_of ho hS.data hS.fits ?_);refine AA (JD ?_);rw[hT,AB rfl];refine AA (wpAny_askSetting (AD ?_));refine AD ?_;have e:(Option.map (λ(e:Int × Value)=>(e.2,0)) (pickOrder (w.params.setOrder a ep) es)[i]?)=Option.map (λx=>(x,0)) ((pickOrder (w.params.setOrder a ep) es).toList.map (·.2))[i]?:=by
   rw[Az,Bj];cases (pickOrder (w.params.setOrder a ep) es)[i]? <;> rfl
  show Q (Option.map (λ(e:Int × Value)=>(e.2,0)) (pickOrder (w.params.setOrder a ep) es)[i]?) s;rw[e];exact hQ
noncomputable def KN (t:SetTable):Nat->Nat
 |0=>0
 |i+1=>t.place.getD i 0+1
def Za (h:Up t.place) (hi:i<=t.place.size):SetTable.below t.place (KN t i)=i:=by
 cases i with
 |zero=>exact Zx h
 |succ i=>
  show SetTable.below t.place (t.place.getD i 0+1)=i+1;have hl:i<t.place.size:=by omega
  have e:t.place.getD i 0=t.place[i]:=by simp[Array.getD,hl]
  rw[e];exact jI h hl
def bA (hS:SetK knd o es ep t ks):t.place.size=es.size:=by
 have:=hS.fits;simp only[SetTable.fits,A6,beq_iff_eq]at this;exact this.1
def eV (hS:SetK knd o es ep t ks) (hT:w.params.followText "set-order" = false) (hd:(!t.plain&&decide (es.size>1))=false):Nexts prog w o a ep ks.length (KN t) (es.toList.map (·.2)) where
 len:=by rw[AG,BK,hS.size]
 nx:=λA E i s Q hi ho hQ=>by
  have hz:=bA hS;unfold setNext;refine AA (wpAny_setState_of ho hS.data hS.fits ?_);refine AA (JD ?_);rw[hT,AE (by decide)];show wpAny _ _ (if (!t.plain&&decide (es.size>1))=true then _ else _) _ _ _;rw[AE (by rw[hd];decide)];have hl:t.led=true:=by rw[hS.tab.led,hT];rfl
  refine AA ?_;show wpAny _ _ (if (!t.led && !es.isEmpty)=true then unsupported "set:maker-not-led" else pure ()) _ _ _;rw[AE (by rw[hl];simp)];refine AD ?_;rw[Za hS.tab.up (by rw[hz,hS.size];exact hi)];refine AD ?_;rw[Az,Bj]at hQ;by_cases q:i<es.size
  .have q2:i<t.place.size:=by rw[hz];exact q
   rw[Cd q,Cd q2];rw[Cd q]at hQ;have e:KN t (i+1)=t.place[i]+1:=by
    show t.place.getD i 0+1=_;simp[Array.getD,q2]
   simp only[Option.map]at hQ;rw[e]at hQ;exact hQ
  .have:i=es.size:=by rw[hS.size]at q ⊢;omega
   rw[Array.getElem?_eq_none (by omega)]at hQ ⊢;exact hQ
def aB (ho:s.heap.get? a=some o) (hS:SetK knd o es ep t ks)
  (h:∀ (h':Heap) (d:Drawn) (I:Yt) (fp:Yg) (ord:Yf) (St:Nat->Heap->Prop),(∀ b u,s.heap.get? b=some u->h'.get? b=some u)->s.heap.objs.size<=I->(∀ b∈fp,b<h'.objs.size/\(b=a\/s.heap.objs.size<=b)) ->
   (∀ A:Around,A.handled=none->Walks prog w A I fp [I] ks.length (λi v=>ord[i]?=some v) St)->St 0 h'->ord.Perm (es.toList.map (·.2))->Q (.ref I) { s with heap:=h',drawn:=d }) :
  wpAny (model prog w) A (pyIter (.ref a)) Q E s:=by
 have hT:=hS.typeIs ho;have hal:a<s.heap.objs.size:=AH ho;refine wpAny_pyIter_slot hT F.slot_set_iter (BI F.slot_set_iter hT iQ ?_ (F.args_set_iter_1 _));unfold Builtin.«frozenset.__iter__» Builtin.Frozenset.slot0 slotArgs Builtin.Frozenset.addrOf Builtin.Frozenset.sizeOf;simp only[List.isEmpty_nil,Bool.not_true,CV,↓reduceIte,D7,bne_self_eq_false,pure_bind,bind_assoc];refine AA (wpAny_setEntries_of ho hS.data hS.fits ?_);unfold setDrawn;simp only[bind_assoc];refine AA (wpAny_setState_of ho hS.data hS.fits ?_);refine AA (JD ?_);simp only[pure_bind];have hsz:=hS.size;have plain:∀ (at_:Nat->Nat) (ord:Yf),at_ 0=0->Nexts prog w o a ep ks.length at_ ord->ord.Perm (es.toList.map (·.2))->Q (.ref s.heap.objs.size) { s with heap:=s.heap.push (BS (rawInt 0) 0 a ks.length ep) }:=by
  intro at_ ord h0 N hp;have e:s.heap.push (BS (rawInt 0) 0 a ks.length ep)=s.heap.push (BS (rawInt 0) 0 a ks.length ep):=rfl
  have:=h (s.heap.push (BS (rawInt 0) 0 a ks.length ep)) s.drawn s.heap.objs.size [s.heap.objs.size,a] ord (λi h=>h.get? s.heap.objs.size=some (BS (rawInt (at_ i)) i a ks.length ep)/\h.get? a=some o)
   (λb u e=>AJ _ e) (AF _) (λb hb=>by
    rw[Bv];rcases AI.mp hb with z|z
    .rw[z];exact ⟨Dq _,.inr (AF _)⟩
    .rw[Aq.mp z];exact ⟨Cn hal,.inl rfl⟩)
   (λA hh=>SN hh (Ab hal) N hS) ⟨by rw[h0];exact AV _ rfl,AJ _ ho⟩ hp
  exact this
 have mk:∀ (s1:Yl) (f:Yu) (hv:s1.heap.get? a=some o) {Q':Fin->Shared->Prop},Q' (.done (.ret (.ref s1.heap.objs.size))) { s1 with heap:=s1.heap.push (BS f 0 a ks.length ep) }->wpAny (model prog w) A.in1 (do
   let e <- setEpoch a;let r <- newFields "set_iterator" [f,rawInt 0,Value.ref a,rawInt es.size,rawInt e];ret r) Q' E s1:=by
  intro s1 f hv Q' hq;refine AA (wpAny_setEpoch_of hv hS.data hS.fits ?_);unfold newFields;refine AA (A9 (AD ?_));rw[hsz];exact hq
 have ty:∀ (s1:Shared) (f:Value),(∃ T' r,Shared.TypeIs { s1 with heap:=s1.heap.push (BS f 0 a ks.length ep) } (.ref s1.heap.objs.size) T'/\typeLookup (Value.type T') (Str.ofString "__next__")=pure (some r)/\True):=λs1 f=>⟨"set_iterator", _,⟨_,AV _ rfl,rfl⟩,D8.lookup,trivial⟩;show wpAny _ _ (if (!w.params.followText "set-order" && (!t.plain&&decide (es.size>1)))=true then _ else _) _ _ _;by_cases hc:(!w.params.followText "set-order" && (!t.plain&&decide (es.size>1)))=true
 .rw[AB hc];refine AA (N3 _ _ (by simp) λpl d hp=>?_);refine AA ?_;unfold newTuple;have hpl:pl.length=ks.length:=by rw[hp.length_eq,ET,hsz]
  refine A9 ?_ (by
   show (List.map (λ(i:Nat)=>rawInt i) pl).toArray.size<=sizeLine;rw[AR,AG,hpl,<-hsz];exact fits_of_scanBound hS.bound)
  generalize hH:s.heap.push { cls:=.type "tuple", data:=.seq (List.map (λ(i:Nat)=>rawInt i) pl).toArray }=H;have kH:∀ b u,s.heap.get? b=some u->H.get? b=some u:=λb u e=>by rw[<-hH];exact AJ _ e
  have hT1:IsTup H s.heap.objs.size (pl.map λ(k:Nat)=>rawInt k).toArray:=⟨_,by rw[<-hH];exact AV _ rfl,rfl,0,rfl⟩;have szH:H.objs.size=s.heap.objs.size+1:=by rw[<-hH];exact Bv ..
  have szlt:s.heap.objs.size<H.objs.size:=by rw[szH];exact Dq _
  have alt:a<H.objs.size:=Nat.lt_trans hal szlt;refine mk { s with heap:=H,drawn:=d } (.ref s.heap.objs.size) (kH _ _ ho) ?_;obtain ⟨T',r,e1,e2,_⟩:=ty { s with heap:=H,drawn:=d } (.ref s.heap.objs.size);refine ⟨_,rfl,T',r,e1,e2,?_⟩;have kH2:∀ b u,s.heap.get? b=some u->(H.push (BS (.ref s.heap.objs.size) 0 a ks.length ep)).get? b=some u:=λb u e=>AJ _ (kH b u e);refine h _ d H.objs.size [H.objs.size,a,s.heap.objs.size] (pl.map λk=>((es[k]?).map (·.2)).getD .none) (λi h=>h.get? H.objs.size=some (BS (.ref s.heap.objs.size) i a ks.length ep)/\h.get? a=some o/\IsTup h s.heap.objs.size (pl.map λ(k:Nat)=>rawInt k).toArray) kH2 (by rw[szH];exact DC _) (λb hb=>?_) (λA hh=>?_) ⟨AV _ rfl,kH2 a o ho,?_⟩ ?_
  .rw[Bv];simp only[AI,BU,Be]at hb;rcases hb with z|z|z
   .rw[z];exact ⟨Dq _,.inr (DB szlt)⟩
   .rw[z];exact ⟨Cn alt,.inl rfl⟩
   .rw[z];exact ⟨Cn szlt,.inr (AF _)⟩
  .have hb:∀ k∈pl,k<es.size:=λk hk=>by have:=hp.mem_iff.mp hk;simpa using this
   refine jR (R3 hh (a:=a) (I:=H.objs.size) (T:=s.heap.objs.size) (Ab alt) (Ab szlt) hS hpl hb) λi v hv=>?_;rw[Az];cases q:pl[i]? with
   |none=>rw[q]at hv;cases hv
   |some k=>
    rw[q]at hv;simp only[Option.bind_some]at hv;rw[Option.map_some,hv];rfl
  .exact hT1.push _
  .have e:es.toList.map (·.2)=(List.range es.size).map λk=>((es[k]?).map (·.2)).getD .none:=by
    apply List.ext_getElem?;intro i;rw[Az,Az,Bj];by_cases q:i<es.size
    .rw[List.getElem?_range q,Cd q];simp[q]
    .rw[Array.getElem?_eq_none (by omega),FV (by simp;omega)];rfl
   rw[e];exact hp.map _
 .rw[AE hc];refine mk s (rawInt 0) ho ?_;obtain ⟨T',r,e1,e2,_⟩:=ty s (rawInt 0);refine ⟨_,rfl,T',r,e1,e2,?_⟩;cases hX:w.params.followText "set-order" with
  |true=>exact plain _ _ rfl (aS hS hX) ((Qj _ es).map _)
  |false=>
   rw[hX]at hc;exact plain _ _ rfl (eV hS hX (by simpa using hc)) (.refl _)
end
open Sem (wp)
section
variable {K:Type} [DecidableEq K] {knd:KeyKind prog w K}
def Uc:isSubtype (.type "set") (.type "set")=pure true:=sub_set_self
def hV (hT:s.TypeIs (.ref a) "set") (h:Q false s):wpAny (model prog w) A (Builtin.List.listLengthHint (.ref a)) Q E s:=by
 unfold Builtin.List.listLengthHint;refine AA (wpAny_specialOf hT F.slot_set_len.lookup ?_);have hsp:splitId "set.__len__" = some ("set", "__len__"):=by decide+kernel
 dsimp only;rw[hsp];refine AA (wpAny_isInstance hT Uc ?_);rw[AE (by decide),AB (by decide+kernel)];refine AA (wpAny_typeOf hT ?_);exact AD h
def Rh (hh:A.handled=none) (ho:s.heap.get? a=some o) (hS:SetK knd o es ep t ks)
  (hQ:∀ (s':Yl) (acc:Yf),(∀ b u,s.heap.get? b=some u->s'.heap.get? b=some u)->s'.os=s.os->s'.gens=s.gens->acc.Perm (es.toList.map (·.2))->Q acc s'):wpAny (model prog w) A (collect (.ref a)) Q E s:=by
 have hal:a<s.heap.objs.size:=AH ho;have hn:ks.length<=sizeLine:=by rw[<-hS.size];exact fits_of_scanBound hS.bound
 unfold collect;refine AA (wpAny_runValue (codeAny_builtin F.entry_proto_collect ?_));rw[Around.under_plainId F.plain_proto_collect _];refine AA (A9 (AD ⟨plainId_quiet F.plain_list_iadd _,codeAny_builtin F.entry_list_iadd ?_⟩));rw[Around.under_plainId F.plain_list_iadd _];generalize hH:s.heap.push { cls:=.type "list", data:=.seq ([]:List Value).toArray }=H;have kH:∀ b u,s.heap.get? b=some u->H.get? b=some u:=λb u e=>by rw[<-hH];exact AJ _ e
 have szH:H.objs.size=s.heap.objs.size+1:=by rw[<-hH];exact Bv ..
 have hL1:H.get? s.heap.objs.size=some { cls:=.type "list", data:=.seq ([]:List Value).toArray }:=by rw[<-hH];exact AV _ rfl
 have ho1:=kH a o ho;show wpAny _ A.in1 (Builtin.List.listExtendWith (.ref s.heap.objs.size) (.ref a) (.ref s.heap.objs.size)) _ _ { s with heap:=H };unfold Builtin.List.listExtendWith;have hT1:Shared.TypeIs { s with heap:=H } (.ref a) "set" := ⟨o,ho1,hS.ex.1⟩;refine AA (wpAny_typeOf hT1 ?_);have hneL:s.heap.objs.size≠a:=Cz hal;have h1:Builtin.List.listSameRef (.ref s.heap.objs.size) (.ref a)=false:=by simp[Builtin.List.listSameRef,hneL]
 have h2:(Value.type "set" == Value.type "list")=false:=by decide
 have h3:(Value.type "set" == Value.type "tuple")=false:=by decide
 simp only[h1,h2,h3,Bool.or_false,CV,if_false];refine AA (aB (s:={ s with heap:=H }) ho1 hS λh2 d I fp ord St k2 hI2 hfp W st0 hp=>?_);have ho2:=k2 a o ho1;refine AA (B2 (hV (s:={ s with heap:=h2,drawn:=d }) ⟨o,ho2,hS.ex.1⟩ ?_));rw[AB (by decide+kernel)];refine AA (BY (AA ?_));have hL2:=k2 _ _ hL1;refine AA (wpAny_updateSeq (s:={ s with heap:=h2,drawn:=d }) hL2 rfl ?_);have hS2:=D4 (Obj.mapSeq (·.push Value.none)) hL2 rfl;refine wpAny_updateSeq hS2 rfl ?_;have hS3:=D4 (Obj.mapSeq (·.pop)) hS2 rfl;generalize hH3:(h2.update s.heap.objs.size (Obj.mapSeq (·.push Value.none))).update s.heap.objs.size (Obj.mapSeq (·.pop))=H3 at hS3;have oth:∀ b u,b≠s.heap.objs.size->h2.get? b=some u->H3.get? b=some u:=λb u hb e=>by
  rw[<-hH3];exact (D2 _ _ (Ne.symm hb)).trans ((D2 _ _ (Ne.symm hb)).trans e)
 have hSf:s.heap.objs.size∉fp:=λhm=>by
  rcases (hfp _ hm).2 with z|z
  .exact hneL z
  .have z':H.objs.size<=s.heap.objs.size:=z;rw[szH]at z';exact absurd z' (Nat.not_succ_le_self _)
 have WS:=(W A.in1.in1 hh).toS;have st3:St 0 H3:=(W A.in1.in1 hh).frame 0 _ _ st0 λb hb u e=>oth b u (λz=>hSf (z▸hb)) e;have hI3:I≠s.heap.objs.size:=λz=>by
  have z':H.objs.size<=I:=hI2;rw[szH,z]at z';exact absurd z' (Nat.not_succ_le_self _)
 refine AD ⟨plainId_quiet F.plain_extend_loop _,codeAny_extend_loopS (A:=A) (WalksS.of_in1 WS) hn _ hSf _ ks.length 0 { s with heap:=H3,drawn:=d } _ _ rfl (BQ _) st3 hS3 (ItemsOf.nil _) λs' acc' c' hm hS' hacc=>?_⟩;refine AA (wpAny_load hS' (AD (hQ s' _ (λb u e=>hm.heap b u (λq=>?_) (oth b u (λz=>BV _ (z▸AH e)) (k2 b u (kH b u e)))) hm.os hm.gens ?_)))
 .rcases AI.mp q with z|z
  .exact BV _ (z▸AH e)
  .have z':H.objs.size<=I:=hI2;rw[<-Aq.mp z,szH]at z';exact BV _ (Nat.lt_trans (BB (Dq _) z') (AH e))
 .have e:acc'.toList=ord:=by
   have hl:ord.length=ks.length:=by rw[hp.length_eq,AG,BK,hS.size]
   apply List.ext_getElem?;intro i;rw[Bj];by_cases q:i<ks.length
   .have q':i<acc'.size:=by rw[hacc.1];exact q
    rw[Cd q'];exact (hacc.2 i _ (Cd q')).symm
   .rw[Array.getElem?_eq_none (by rw[hacc.1];omega),FV (by omega)]
  rw[e];exact hp
end
end ST
section
open PySem PySem.Spec PyProof.Rows
namespace L2
open ST
def WO {elt target iter ifs rest scope pos it acc env}
  (h0:codeAny (model prog w) A (.compLoop (.SetComp elt (⟨target,iter,ifs,0⟩::rest) scope pos) 0 it acc env) R s)
  (h:wpAny (model prog w) A (pyIter it) (λit' s'=>codeAny (model prog w) A (.compLoop (.SetComp elt (⟨target,iter,ifs,0⟩::rest) scope pos) 0 it' acc env) R s')
   (notedBy (model prog w) A env λx s'=>R (.error x) s') s) :
  codeAny (model prog w) A (.compStart (.SetComp elt (⟨target,iter,ifs,0⟩::rest) scope pos) 0 it acc env) R s:=by
 refine codeAny_of_tree ?_;show wpAny _ _ ((compStart (.SetComp elt (⟨target,iter,ifs,0⟩::rest) scope pos) 0 it acc env).onRaise (λx=>do noteFrame x env;standAt theWindowsPlace)) _ _ s;refine wpAny_notedAt ?_;unfold compStart;refine AA (wpAny_askSetting (wpAny_ite ?_));split
 .first
   |exact AA (AD (AD (And.intro rfl h0)))
   |exact AD (And.intro rfl h0)
 .first
   |exact AA (BY (AA (B1 (AA (AN h (λit' s' h'=>AD (And.intro rfl h')) λ_ _ x=>x)))))
   | (refine AA (BY ?_);show wpAny _ _ (standAt iter.pos >>= _) _ _ s;exact AA (B1 (AA (AN h (λit' s' h'=>AD (And.intro rfl h')) λ_ _ x=>x))))
section
variable {pos:Pos}
 {own:Yj} {g:TG} {tc:TT} {te:TE} {E:Yc}
def WL (h:SetK (intKind prog w) o es ep t ks):∀ v,o.data≠.cell v:=λv z=>by rw[h.data]at z;cases z
def bD (C:CompIn X scope own) (hcalm:X.calm=true) (I:Inv X zB Y H s) (T:Turn X.prog X.w X.K tg J fp it tn) (st:tn 0 s.heap) (hf:∀ b∈fp,BH X zB H b)
  (c1:∀ x c,cl.lookup x=some c->X.env.cells.lookup x=some c) (c2:∀ y∈scope.names,y.2=.free->(cl.lookup y.1).isSome=true)
  (hg:PG (zH X zB scope cl s H fp) tg g) (hi:DE (zH X zB scope cl s H fp) ifs tc) (he:PE (zH X zB scope cl s H fp) elt te)
  {RR:Value->Addr->Result->Shared->Prop} {QQ:List Int->Hp->Prop} {W:Nat->Nat->List Int->Hp->Prop} {m0:Nat} (w0:W 0 m0 [] H)
  (turn:∀ i m ys H,W i m ys H->(J.stop i H/\QQ ys H) \/
   (J.go i H /\ ∀ x H',J.yld i H x H'->g x (clr own Y) H' λσ2 H2=>Ext (clr own Y) σ2/\tc σ2 H2 λb H3=>
    if b=true then te σ2 H3 λv H4=>∃ k,v=.int k/\ys.length+1<scanBound /\ ∃ m',m'<m/\W (i+1) m' (ins ys k) H4 else ∃ m',m'<m/\W (i+1) m' ys H3))
  (fin:∀ σc H' s' o es ep t ys,Inv (zH X zB scope cl s H fp) [(s.heap.objs.size,o)] σc H' s'->SetK (intKind X.prog X.w) o es ep t ys->QQ ys H'->RR (.ref s.heap.objs.size) (s.heap.objs.size+1) (.ok .next) s') :
  wpAny (model X.prog X.w) X.A (newSet (.type "set")) (λacc s₃=>wpAny (model X.prog X.w) X.A (newFunctionEnv scope X.env.globals cl [] X.env.qual none .none (some X.env)) (λcenv s₄=>
   codeAny (model X.prog X.w) X.A (.compStart (.SetComp elt [⟨tg,iter,ifs,0⟩] scope pos) 0 (.ref it) acc { cenv with scope:=relabel scope X.env }) (RR acc cenv.locals) s₄) E s₃) E s:=by
 have ob:∀ b:Nat,b∈fp->b<s.heap.objs.size:=λb hb=>let ⟨_,e,_⟩:=T.obj 0 _ st b hb;AH e;refine gQ (IM ?_);have sz1:(s.heap.push (Fb X.w)).objs.size=s.heap.objs.size+1:=Bv ..;have I4:=JF (X:=X) (zB:=zB) (Y:=Y) (σc:=clr own Y) (H:=H) (s:=s) (scope:=scope) (cl:=cl) (fp:=fp) C.sc I hf ob c1 c2 (Fq own Y) (λi x v h1 h2 h3=>by
  obtain ⟨a,b⟩:=Et own Y i v h2;rcases C.nm i x h1 with z|z|z
  .exact absurd z b
  .exact absurd (Jp x z) h3
  .exact ⟨z,a⟩) (Fb X.w) (by intro v z;cases z) rfl rfl
 have st4:tn 0 (pushCells ((s.heap.push (Fb X.w)).push { cls:=.type "dict", data:=.dict #[] }) scope.names):=T.keep 0 _ _ st λb _ o e=>pushCells_keeps _ _ b o (AJ _ (AJ _ e));unfold newEnv;rw[sz1];have hDfp:s.heap.objs.size∉fp:=λz=>BV _ (ob _ z);have hcD:∀ x c,(zH X zB scope cl s H fp).env.cells.lookup x=some c->c≠s.heap.objs.size:=λx c e z=>by
  obtain ⟨v,o,ho,hd⟩:=I4.cell x c e;obtain ⟨q,_⟩:=I4.pin (s.heap.objs.size,Fb X.w) (by simp);rw[z,q]at ho;cases ho;cases hd
 have fpk:∀ {H':Hp} {pl:Yd},(∀ b∈fp,H' b=none)->(∀ p∈pl,p.1=s.heap.objs.size) -> ∀ b∈fp,BH (zH X zB scope cl s H fp) pl H' b:=λ{H' pl} hn hp b hb=>
  ⟨hn b hb,(I4.ok.exf b hb).1,I4.ok.exfs b hb,.inl hb,(I4.ok.exf b hb).2,λp hq=>by
   rcases Ai.mp hq with z|z
   .exact (hf b hb).2.2.2.2.2 p z
   .intro e;have e2:=hp p z;rw[e]at e2;exact hDfp (e2▸hb)⟩
 have loop:codeAny (model X.prog X.w) X.A (.compLoop (.SetComp elt [⟨tg,iter,ifs,0⟩] scope pos) 0 (.ref it) (.ref s.heap.objs.size) (zH X zB scope cl s H fp).env) (RR (.ref s.heap.objs.size) (s.heap.objs.size+1))
   { s with heap:=pushCells ((s.heap.push (Fb X.w)).push { cls:=.type "dict", data:=.dict #[] }) scope.names }:=by
  refine YT (λn s'=>∃ i H' ys o es ep t,Inv (zH X zB scope cl s H fp) [(s.heap.objs.size,o)] (clr own Y) H' s'/\SetK (intKind X.prog X.w) o es ep t ys/\tn i s'.heap/\(∀ b∈fp,H' b=none)/\W i n ys H') ?_ m0
   ⟨0,H,[],Fb X.w,_,_,_,I4,.fresh,st4,λb hb=>(hf b hb).1,w0⟩
  rintro n s5 ⟨i,H5,ys,o,es,ep,t,I5,r5,st5,f5,w5⟩;have pinD:∀ p∈[(s.heap.objs.size,o)],p.1=s.heap.objs.size:=λp hp=>by
   have:p=(s.heap.objs.size,o):=by simpa using hp
   rw[this]
  rcases turn i n ys H5 w5 with ⟨stop,qq⟩|⟨go,step⟩
  .refine thn (T.done (zH X zB scope cl s H fp) rfl rfl rfl hcalm i _ s5 _ H5 _ I5 (fpk f5 pinD) st5 stop) λr s6 ⟨hr,I6⟩=>?_;subst hr;exact fin _ H5 s6 o es ep t ys I6 r5 qq
  .refine thn (T.item (zH X zB scope cl s H fp) rfl rfl rfl hcalm i _ s5 _ H5 _ I5 (fpk f5 pinD) st5 go) λr s6 ⟨u,hr,h6⟩=>?_;subst hr;refine thn h6 λ_ s7 ⟨x,H7,I7,r7,y7,st7,f7⟩=>?_;have I7':=I7.pinned (fpk f7 pinD) (T.obj _ _ st7);refine thn (hg _ s7 _ H7 x u _ I7' r7 (step x H7 y7)) λ_ s8 ⟨σ8,H8,I8,x8,q8⟩=>?_;refine thn (hi _ s8 σ8 H8 _ I8 q8) λok s9 ⟨H9,I9,q9⟩=>?_;have back:∀ {s':Yl} {Hx:Hp},Inv (zH X zB scope cl s H fp) ([(s.heap.objs.size,o)]++EF fp s7.heap) σ8 Hx s'->tn (i+1) s'.heap /\ ∀ b∈fp,Hx b=none:=λ{s' Hx} Ix=>
    ⟨T.keep _ _ _ st7 λb hb o e=>(Ix.pin (b,o) (Ah _ (Ah _ (DD hb e)))).1,λb hb=>by
     obtain ⟨o,e,d⟩:=T.obj _ _ st7 b hb;exact (Ix.pin (b,o) (Ah _ (Ah _ (DD hb e)))).2.1⟩
   cases ok with
   |false=>
    obtain ⟨m',hm,w'⟩:=q9;obtain ⟨b1,b2⟩:=back I9;exact ⟨m',hm,i+1,H9,ys,o,es,ep,t,(I9.weak (by rw[x8.1]) x8.2).unpinned,r5,b1,b2,w'⟩
   |true=>
    refine thn (he _ s9 σ8 H9 _ I9 q9) λv s10 ⟨y,H10,I10,r10,k,hk,hlt,m',hm,w'⟩=>?_;subst hk;obtain ⟨b1,b2⟩:=back I10;have J10:=(I10.weak (by rw[x8.1]) x8.2).unpinned;obtain ⟨e10,n10,ne10,nf10,d10⟩:=J10.pin (s.heap.objs.size,o) (by simp);obtain ⟨tk,hv⟩:∃ tk,v=.int k tk:=r10;subst hv;refine aI (knd:=intKind X.prog X.w) (intKind_is _ _ _ _) rfl e10 r5 hlt λh' o' es' ep' t' hs' e' S'=>?_;refine ⟨m',hm,i+1,H10,ins ys k,o',es',ep',t',?_,S',T.keep _ _ _ b1 λb hb o e=>hs'.extBut b o (λz=>hDfp (z▸hb)) e,b2,w'⟩;refine (Inv.repin (pl:=[]) J10 (λp hp=>?_) hs' (AF _) hcD e' (WL S')).tok _;rw[BF]at hp;have hp':p∈X.pn++zB:=hp;exact Ab (AH (I.pin p hp').1)
 exact WO loop (T.self _ 0 _ _ _ st4 loop)
def Uh (I:Inv X zB Y H s) (hf:∀ b∈fp,BH X zB H b)
  (Ic:Inv (zH X zB scope cl s H fp) [(s.heap.objs.size,oD)] σc H' s') (hs:Heap.SameBut (s.heap.objs.size+1) s'.heap h') :
  Inv X zB Y H' { s' with heap:=h' }/\h'.get? s.heap.objs.size=some oD:=by
 obtain ⟨eD,nD,_⟩:=Ic.pin (s.heap.objs.size,oD) (by simp);have nC:H' (s.heap.objs.size+1)=none:=Ic.free;have eD':h'.get? s.heap.objs.size=some oD:=hs.extBut _ _ (Ab (Dq _)) eD;have lt1:∀ {b:Yt} {o:Obj},s.heap.get? b=some o->b≠s.heap.objs.size+1:=λe=>Ab (Cn (AH e));have tr:∀ b u,H' b=some u->b≠s.heap.objs.size+1:=λb u e z=>by rw[z,nC]at e;cases e
 refine ⟨?_,eD'⟩;have B:=Ic.base;have un:Un (frs X.stack) fp H H' s.heap h':=by
  refine ⟨λb o e q hb hx=>hs.extBut b o (lt1 e) (B.keep b o e q hb hx),λb o e q hb hx=>?_,λb o e q hx=>B.free b o e q hx,λb o e hx=>?_,λb xs e=>B.tups b xs e,λb o xs e=>B.frzs b o xs e,λb ps e=>B.tbls b ps e⟩
  .obtain ⟨sl,e1⟩:=B.slot b o e q hb hx;exact ⟨sl,hs.extBut b _ (lt1 e) e1⟩
  .obtain ⟨o',e1⟩:=B.there b o e hx;exact ⟨o',hs.extBut b _ (lt1 e) e1⟩
 have hok:HOk X.prog X.w H' h':=λb u e=>by
  refine (Ic.hok b u e).stay (λc v hc q=>hs.extBut c v ?_ q) (λc q=>q) λc xs q=>q;rcases hc with z|z
  .rw[z];exact tr b u e
  .exact tr c _ z
 exact I.call' (s':={ s' with heap:=h' }) (ch:=fp) Ic.os un hok Ic.bare λb hb=>⟨(hf b hb).2.2.2.1,(hf b hb).2.1,(hf b hb).2.2.2.2.1,(hf b hb).2.2.2.2.2⟩
end
noncomputable abbrev TZ:=St->Hp->(List Int->Hp->Prop)->Prop
def PZ (X:Cx) (e:Expr) (t:TZ):Prop:=∀ (zB:Yd) (s:Yl) (Y:St) (H:Hp) (Q:List Int->Hp->Prop),Inv X zB Y H s->t Y H Q ->
 wpAny (model X.prog X.w) X.A (eval e X.env) (λv s'=>∃ a o es ep tb ks H',v=.ref a/\s'.heap.get? a=some o/\SetK (intKind X.prog X.w) o es ep tb ks/\Inv X zB Y H' s'/\Q ks H') X.xe s
noncomputable def O9 (own:Yj) (wi:TI) (g:TG) (tc:TT) (te:TE):TZ:=λY H Q=>wi Y H λJ H1=>∃ W:Nat->Nat->List Int->Hp->Prop,(∃ m,W 0 m [] H1) /\ ∀ i m ys H,W i m ys H ->
 (J.stop i H/\Q ys H) \/
 (J.go i H /\ ∀ x H',J.yld i H x H'->g x (clr own Y) H' λσ2 H2=>Ext (clr own Y) σ2/\tc σ2 H2 λb H3=>
  if b=true then te σ2 H3 λv H4=>∃ k,v=.int k/\ys.length+1<scanBound /\ ∃ m',m'<m/\W (i+1) m' (ins ys k) H4 else ∃ m',m'<m/\W (i+1) m' ys H3)
def UZ (C:CompIn X scope own) (hcalm:X.calm=true) (hi:PI X tg iter wi) (p:CompParts X scope tg ifs elt g tc te) (hs:∀ x,foldedSetIterable iter X.env x=pure x:=by intro _;rfl) :
  PZ X (.SetComp elt [⟨tg,iter,ifs,0⟩] scope pos) (O9 own wi g tc te):=by
 intro zB s Y H Q I h;obtain ⟨cl,hcl,c1,c2⟩:=C.sc.closure I;rw[arm_eval_SetComp];refine Ge (use:=none) rfl hs hcl C.sc.kind C.sc.names (thn (hi zB s Y H _ I h) λv s1 h1=>thn h1 λitv s2 h2=>?_);obtain ⟨it,fp,tn,J,H2,e,I2,T,st2,f2,W,⟨m0,w0⟩,turn⟩:=h2;subst e;refine bD C hcalm I2 T st2 f2 c1 c2 (p.g _ _ _ _ _) (p.c _ _ _ _ _) (p.e _ _ _ _ _) (RR:=λacc C r s'=>compPost (model X.prog X.w) X.A X.xe none (λv s'=>∃ a o es ep tb ks H',v=.ref a/\s'.heap.get? a=some o/\SetK (intKind X.prog X.w) o es ep tb ks/\Inv X zB Y H' s'/\Q ks H') acc C r s') (QQ:=Q) w0 turn ?_;intro σc H' s' o es ep t ys Ic rv qq;obtain ⟨m,hn,_⟩:=Ic.loc;refine ⟨m,hn,λh' hs'=>?_⟩;obtain ⟨J',eD⟩:=Uh I2 f2 Ic hs';exact ⟨_,o,es,ep,t,ys,H',rfl,eD,rv,J',qq⟩
end L2
namespace ST
open PySem.Sem (wp)
section
variable {prog:Ym} {w:Yo} {A:Yn} {E:Yc} {s:Yl}
variable {K:Type} [DecidableEq K] {knd:KeyKind prog w K}
noncomputable def CM (ks:List K):List K:=ks.foldl ins []
def Rp (ks:List K) (k:K):CM (ks++[k])=ins (CM ks) k:=by unfold CM;rw[List.foldl_append];rfl
def Sf (ks:List K) (k:K):(ins ks k).length<=ks.length+1:=by unfold ins;split <;> simp
def Mj (ks:List K):(CM ks).length<=ks.length:=by
 have:∀ (l acc:List K),(l.foldl ins acc).length<=acc.length+l.length:=by
  intro l;induction l with
  |nil=>intro acc;simp
  |cons x r ih=>intro acc;have:=ih (ins acc x);have:=Sf acc x;simp only[List.foldl_cons,Ba];omega
 simpa [CM] using this ks []
def Zf (ks:List K) (k x:K):x∈ins ks k ↔ x∈ks\/x=k:=by
 unfold ins;split
 .rename_i h;constructor
  .exact .inl
  .rintro (z|z)
   .exact z
   .rw[z];exact h
 .simp
def bZ (ks:List K) (x:K):x∈CM ks ↔ x∈ks:=by
  have:∀ (l acc:List K),x∈l.foldl ins acc ↔ x∈acc\/x∈l:=by
    intro l;induction l with
    |nil=>intro acc;simp
    |cons y r ih=>intro acc;rw[List.foldl_cons,ih,Zf,AI];simp[or_assoc]
  simpa [CM] using this ks []
def XT (h : ks.Nodup) (k : K) : (ins ks k).Nodup := by
  unfold ins;split
  .exact h
  · rename_i q
    rw[DS]
    exact ⟨h, by simp, fun a ha b hb z => by have : b = k := by simpa using hb
                                             subst this;subst z;exact q ha⟩
def Uo (ks:List K):(CM ks).Nodup:=by
 have:∀ (l acc:List K),acc.Nodup->(l.foldl ins acc).Nodup:=by
  intro l;induction l with
  |nil=>intro acc h;exact h
  |cons y r ih=>intro acc h;exact ih _ (XT h y)
 exact this ks [] (by simp)
variable {R:Yx} {I:Yt} {fp wr:Yg} {G:Array GenState->Array GenState->Prop} {n:Nat} {P:Nat->Value->Prop} {St:Nat->Shared->Prop}
end
noncomputable def DI (ks:Ye):List Int:=ks.mergeSort λa b=>decide (a<=b)
def GZ (ks:Ye):(DI ks).Perm ks:=List.mergeSort_perm _ _
def LJ (ks:Ye):(DI ks).Pairwise (· <= ·):=by
 have:=List.pairwise_mergeSort (le:=λ(a b:Int)=>decide (a<=b)) (λa b c h1 h2=>by simp at h1 h2 ⊢;omega) (λa b=>by simp;omega) ks;exact this.imp λh=>by simpa using h
theorem Nj:∀ {xs ys:Ye},xs.Perm ys->xs.Pairwise (· <= ·)->ys.Pairwise (· <= ·)->xs=ys
 |[],ys,p,_,_=>by have:=p.length_eq;simp at this;rw[FQ.mp this.symm]
 |x::xs,[],p,_,_=>by have:=p.length_eq;simp at this
 |x::xs,y::ys,p,h1,h2=>by
  have hx:=DY.mp h1;have hy:=DY.mp h2;have e:x=y:=by
   have a:x∈y::ys:=p.mem_iff.mp Ad;have b:y∈x::xs:=p.mem_iff.mpr Ad;rcases AI.mp a with z|z
   .exact z
   .rcases AI.mp b with q|q
    .exact q.symm
    .exact Int.le_antisymm (hx.1 y q) (hy.1 x z)
  subst e;rw[Nj (p.cons_inv) hx.2 hy.2]
def Qi (p:xs.Perm ys) (h:xs.Pairwise (· <= ·)):xs=DI ys:=Nj (p.trans (GZ ys).symm) h (LJ ys)
def WN
  (hc:wpAny (model prog w) A.in1 (collect v) (λvs s1=>∃ ns,IntsAre vs ns/\vs.length<64 /\ ∀ (h':Heap) (out:List Value) (n:Nat),(∀ b u,s1.heap.get? b=some u->h'.get? b=some u)->h'.get? s1.heap.objs.size=some (seqObj "list" out.toArray n)->IntsAre out (DI ns)->Q (.ref s1.heap.objs.size) { s1 with heap:=h' }) E s) :
  wpAny (model prog w) A (call (.builtin "sorted") [v]) Q E s:=by
 refine Calls.call_function_entry kind_sorted plain_sorted entry_sorted (args_sorted1 _) ?_;unfold Builtin.«sorted»;refine AA (m:=checkCount "sorted" 1 1 _) (AD ?_);refine AA (AN hc (λvs s1 h1=>?_) λ_ _ h'=>h');obtain ⟨ns,hI,h64,h⟩:=h1;refine AA (wpAny_newList ?_ (by rw[sizeLine_eq];omega));have hoL:(s1.heap.push (seqObj "list" vs.toArray 0)).get? s1.heap.objs.size=some (seqObj "list" vs.toArray 0):=AV _ rfl;refine AA (B2 (BI slot_list_sort ⟨_,hoL,rfl⟩ entry_list_sort (list_sort_tree (s:={ s1 with heap:=s1.heap.push (seqObj "list" vs.toArray 0) }) hoL hI h64 λout ns' a1 a2 a3=>⟨_,rfl,?_⟩) (args_list_sort _)));refine AD ⟨_,rfl,?_⟩;have g1:=get?_update_seq hoL (λ_=> #[]);have g2:(((s1.heap.push (seqObj "list" vs.toArray 0)).update s1.heap.objs.size (Obj.mapSeq λ_=> #[])).push (seqObj "tuple" vs.toArray 0)).get? s1.heap.objs.size=_:=AJ _ g1;have g3:=AJ (seqObj "list" #[] 0) g2;have g4:=get?_update_seq g3 (λ_=>out);have eS:=Qi a2 a3;subst eS;refine h _ out.toList _ (λb u e=>?_) (by rw[Array.toArray_toList];exact g4) a1;have hb:s1.heap.objs.size≠b:=λz=>BV _ (z▸AH e);exact (D2 _ _ hb).trans (AJ _ (AJ _ ((D2 _ _ hb).trans (AJ _ e))))
def Vf (h:F2 (Jx (intKind prog w)) es ks):IntsAre (es.map (·.2)) ks:=by
 induction h with
 |nil=>exact .nil
 |cons h _ ih=>
  obtain ⟨⟨h1,_⟩,_⟩:=h;obtain ⟨t,e⟩:=Value.isInt_shape h1;rw[AX,e];exact .cons _ _ ih
def ZV (p:us.Perm vs):∀ {ks:Ye},IntsAre vs ks -> ∃ ks',ks'.Perm ks/\IntsAre us ks':=by
 have p':=p.symm;clear p;induction p' with
 |nil=>intro ks h;exact ⟨ks,.refl _,h⟩
 |cons x _ ih=>
  intro ks h;cases h with
  |cons n t r=>
   obtain ⟨ys',q1,q2⟩:=ih r;exact ⟨_,q1.cons _,.cons _ _ q2⟩
 |swap x y l=>
  intro ks h;cases h with
  |cons n t r=>
   cases r with
   |cons n2 t2 r=>exact ⟨_,List.Perm.swap _ _ _,.cons _ _ (.cons _ _ r)⟩
 |trans _ _ ih1 ih2=>
  intro ks h;obtain ⟨ys',q1,q2⟩:=ih1 h;obtain ⟨ys'',r1,r2⟩:=ih2 q2;exact ⟨ys'',r1.trans q1,r2⟩
def Xz (p:xs.Perm ys):DI xs=DI ys:=Qi ((GZ xs).trans p) (LJ xs)
def X0 (hh:A.handled=none) (ho:s.heap.get? a=some o) (hS:SetK (intKind prog w) o es ep t ks) (h64:ks.length<64)
  (h:∀ (s1:Shared) (h':Heap) (out:List Value) (n:Nat),(∀ b u,s.heap.get? b=some u->s1.heap.get? b=some u)->s1.os=s.os->s1.gens=s.gens->(∀ b u,s1.heap.get? b=some u->h'.get? b=some u)->h'.get? s1.heap.objs.size=some (seqObj "list" out.toArray n)->IntsAre out (DI ks)->Q (.ref s1.heap.objs.size) { s1 with heap:=h' }) :
  wpAny (model prog w) A (call (.builtin "sorted") [.ref a]) Q E s:=by
 refine WN (Rh (A:=A.in1) hh ho hS λs' acc k1 k2 k3 hp=>?_);obtain ⟨ks',p,f⟩:=hS.ent;obtain ⟨ks2,p2,f2⟩:=ZV hp (Vf f);refine ⟨ks2,f2,?_,λh' out n e1 e2 e3=>?_⟩
 .rw[hp.length_eq,AG,BK,hS.size];exact h64
 .rw[Xz (p2.trans p)]at e3;exact h s' h' out n k1 k2 k3 e1 e2 e3
def Sa (hty:ty = "list" \/ ty = "tuple") (hl:∃ ol,s.heap.get? l=some ol/\ol.cls=.type ty /\ ∃ nl,ol.data=.seq vs.toArray nl)
  (h:Q vs { s with heap:=(s.heap.push (seqObj "list" #[] 0)).update s.heap.objs.size (Obj.mapSeq (· ++ vs.toArray)) }) (hsz:vs.length<=sizeLine) :
  wpAny (model prog w) A (collect (.ref l)) Q E s:=by
 obtain ⟨o,ho,hc,n,hd⟩:=id hl;unfold collect;refine AA (wpAny_runValue (codeAny_builtin entry_proto_collect' ?_));refine AA (wpAny_newList (AD ⟨Code.quiet_builtin _ (by decide+kernel),codeAny_builtin entry_list_iadd' ?_⟩));show wpAny _ _ (Builtin.List.listExtendWith (.ref s.heap.objs.size) (.ref l) (.ref s.heap.objs.size)) _ _ { s with heap:=s.heap.push (seqObj "list" #[] 0) };unfold Builtin.List.listExtendWith;have ho':(s.heap.push (seqObj "list" #[] 0)).get? l=some o:=AJ _ ho;refine AA (wpAny_typeOf (T:=ty) ⟨o,ho',hc⟩ ?_);have ht:(Value.type ty==Value.type "list" || Value.type ty==Value.type "tuple")=true:=by rcases hty with rfl|rfl <;> decide
 rw[AB (by rw[Bool.or_assoc,ht];simp)];refine AA (listItems_at ho' hd ?_);refine AA (listItems_at (xs:=#[]) (n:=0) (AV _ rfl) rfl ?_);rw[AE (by simp)];refine AA (listUpdate_at (xs:=#[]) (n:=0) (AV _ rfl) rfl ?_ (BQ _) (by show (#[]++vs.toArray).size<=sizeLine+1;simp only[Array.size_append,AR,D7];omega));refine AD ?_
 show wpAny (model prog w) A (do
   let o <- load s.heap.objs.size;match o.data with
   |.seq xs _=>pure xs.toList
   |_=>unsupported "internal:collect") Q E { s with heap:=(s.heap.push (seqObj "list" #[] 0)).update s.heap.objs.size (Obj.mapSeq (· ++ vs.toArray)) }
 refine AA (wpAny_load (get?_update_seq (AV _ rfl) _) ?_);show wpAny _ _ (pure ((#[]:Array Value)++vs.toArray).toList) Q E _;rw[show ((#[]:Array Value)++vs.toArray).toList=vs by simp];exact AD h
end ST
namespace L2
open ST
def Inv.kept' (I:Inv X zB Y H s) (k:∀ b u,s.heap.get? b=some u->s1.heap.get? b=some u) (ho:s1.os=s.os) (hg:s1.gens=s.gens):Inv X zB Y H s1 :=
 I.call' (ch:=[]) ho (Un.kept k) (I.hok.kept k) (by rw[hg];exact I.bare) λb hb=>nomatch hb
theorem Nm:∀ {ns:Ye} {us:Yf},IntsAre us ns->zY (ns.map V.int) us
 |_,_,.nil=> .nil
 |_,_,.cons n t h=> .cons ⟨t,rfl⟩ (Nm h)
def dA (ks:Ye):(DI ks).length=ks.length:=(GZ ks).length_eq
def aT (hc:X.calm=true) (hg:Gl X "sorted") (hm:X.mg "sorted" = none) (ha:PZ X e t) (hs:starEach [e] X.env=(false,eval e X.env)::starEach [] X.env:=by rfl) (hpl:(backTo pos (starEach [] X.env)).any (·.1)=false:=by rfl) :
  PE X (.Call (.Name "sorted" p) [e] [] pos) (λY H Q=>t Y H λks H1=>ks.length<64 /\ ∀ q,H1 q=none->Q (.ref q) (upd H1 q (.lst ((DI ks).map V.int)))):=by
 intro zB s Y H Q I h;refine wpAny_Call_Name_kw (Fz I hg hm (by rfl) ?_ (by decide) (by decide));refine callWith_builtin1 ?_ hs hpl;rw[hs];refine Calls.spliced_cons (thn (ha zB s Y H _ I h) λu s1 ⟨a,o,es,ep,tb,ks,H1,hv,ho,hS,I1,h64,q⟩=>Calls.spliced_nil ?_);subst hv;refine X0 (I1.ok.hd hc) ho hS h64 λs2 h' out n k1 k2 k3 k4 e4 i4=>?_;have I2:Inv X zB Y H1 s2:=I1.kept' k1 k2 k3;have hf:H1 s2.heap.objs.size=none:=I2.hok.fresh (AF _);refine ⟨.ref s2.heap.objs.size,upd H1 s2.heap.objs.size (.lst ((DI ks).map V.int)),I2.laid (t':=s2.toks) k4 (AF _) ⟨by rw[AG,dA,sizeLine_eq];omega,out,n,Nm i4,e4⟩,rfl,q _ hf⟩
end L2
namespace L3
open L2 ST
noncomputable abbrev FZ:=Sd->Mem->Option (List Int × Mem)
noncomputable def trZ (K:Yb) (f:FZ):TZ:=λτ H Q=>∃ L Y M ks M',Cor K L M H/\Aj L H Y τ/\f Y M=some (ks,M') /\ ∀ L' H',Stp L H L' H'->Cor K L' M' H'->Q ks H'
structure QZ (X:Cx) (e:Expr) (f:FZ):Prop where
 un:PZ X e (trZ X.K f)
def PZ.imp (h:PZ X e t) (hi:∀ τ H Q,t' τ H Q->t τ H Q):PZ X e t':=λzB s Y H Q I q=>h zB s Y H Q I (hi _ _ _ q)
noncomputable def Gr (own:Yj) (fi:FI) (g:FG) (tc:FT) (te:FE):FZ:=λY M=>match zo own fi g tc te Y M with
 |some (.fl ys,M2)=>match BM ys with
  |some ks=>if ks.length+1<scanBound then some (CM ks,M2) else none
  |none=>none
 |_=>none
theorem Pr:∀ {as bs:List D} {zs:Ye},BM (as++bs)=some zs -> ∃ xs ys,BM as=some xs/\BM bs=some ys/\zs=xs++ys
 |[],bs,zs,h=>⟨[],zs,rfl,h,rfl⟩
 |a::as,bs,zs,h=>by
  cases a with
  |int i=>
   rw[List.cons_append]at h;unfold BM at h;split at h
   .rename_i us e;cases h;obtain ⟨xs,ys,e1,e2,e3⟩:=Pr e;refine ⟨i::xs,ys,?_,e2,by rw[e3];rfl⟩;unfold BM;rw[e1]
   .cases h
  |_=>cases h
def Zq (h:BM as=some xs):BM (as++[.int i])=some (xs++[i]):=by
 induction as generalizing xs with
 |nil=>cases h;rfl
 |cons a as ih=>
  cases a with
  |int j=>
   unfold BM at h;split at h
   .rename_i us e;cases h;rw[List.cons_append];unfold BM;rw[ih e];rfl
   .cases h
  |_=>cases h
def fL {K:Yb} {own:Yj} {fi:FI} {g:TG} {fg:FG} {tc:FT} {te:FE} (hg:CF own g fg) {τ:Sv} {H:Hp} {Q:List Int->Hp->Prop} (h:trZ K (Gr own fi fg tc te) τ H Q):O9 own (trI K fi) g (trT K tc) (trD K (toD te)) τ H Q:=by
 obtain ⟨L,Y,M,d,Mf,c,rs,hf,q⟩:=h;unfold Gr zo at hf;cases e1:fi Y M with
 |none=>rw[e1]at hf;cases hf
 |some r=>
  obtain ⟨xs,gd,M1⟩:=r;rw[e1]at hf;dsimp only at hf;by_cases hz:xs.length<=sizeLine
  .rw[AB hz]at hf;cases e2:A7 fg tc te (Ac own Y) xs gd xs M1 with
   |none=>rw[e2]at hf;cases hf
   |some r=>
    obtain ⟨zs,M2⟩:=r;rw[e2]at hf;dsimp only at hf;split at hf
    .rename_i kz ez;split at hf
     .rename_i hb;cases hf;refine (mkI c rs e1 (λL1 H1 J s1 c1 it=>?_))
      refine ⟨λi m ys H'=>m=xs.length-i/\i<=xs.length /\ ∃ L' M' as bs ka,Stp L1 H1 L' H'/\Cor K L' M' H'/\BM as=some ka/\ys=CM ka/\A7 fg tc te (Ac own Y) xs gd (xs.drop i) M'=some (bs,Mf)/\as++bs=zs,
       ⟨xs.length,by simp,BQ _,L1,M1,[],zs,[],.refl _ _,c1,rfl,rfl,by simpa using e2,rfl⟩,?_⟩
      intro i m ys H' hI;refine Classical.byContradiction λG=>?_;obtain ⟨eI1,hi,L',M',as,bs,ka,s',c',r',hl,e',hab⟩:=hI;refine G ?_;clear G;subst eI1;by_cases hlt:i<xs.length
      .rw[Gv hlt]at e';unfold A7 at e';split at e'
       .rename_i hgd;obtain ⟨step,_⟩:=it L' H' M' s' c' hgd;obtain ⟨go,yl⟩:=step i xs[i] (AS hlt);split at e'
        .rename_i σ1 eg;refine .inr ⟨go,λv H2 hy=>?_⟩;obtain ⟨gr,rv⟩:=yl v H2 hy;have s2:Stp L1 H1 L' H2:=s'.yld gr;refine hg (GO own ((rs.stp s1).stp s2)) (.refl _) rv eg λτ2 r2 x2=>⟨x2,?_⟩;split at e'
         .rename_i M3 e3;split at e'
          .rename_i d M4 e4;split at e'
           .rename_i ds M5 e5;cases e';refine (mkT (c'.grow gr) r2 e3 (λL3 H3 s3 c3=>Dd ?_));refine (mkD c3 (r2.stp s3) e4 (λL4 H4 w s4 c4 r4=>?_));have st:Stp L' H' L4 H4:=((Stp.grow gr).trans s3).trans s4;have ez':=ez;rw[<-hab]at ez';obtain ⟨x1,y1,g1,g2,g3⟩:=Pr ez';obtain ⟨k,hk⟩:∃ k,d=.int k:=by
             cases d with
             |int k=>exact ⟨k,rfl⟩
             |_=>cases g2
            subst hk;have ew:w=.int k:=by unfold Rep at r4;exact r4
            have hka:ka.length<=kz.length:=by
             rw[r']at g1;cases g1;rw[g3,An];omega
            refine ⟨k,ew,?_,xs.length-(i+1),by omega,rfl,hlt,L4,M4,as++[.int k],ds,ka++[k],s'.trans st,c4,Zq r',by rw[hl,Rp],e5,by rw[<-hab];simp⟩;rw[hl];have:=Mj ka;omega
           .cases e'
          .cases e'
         .rename_i M3 e3;refine (mkT (c'.grow gr) r2 e3 (λL3 H3 s3 c3=>DT ?_));have st:Stp L' H' L3 H3:=(Stp.grow gr).trans s3;exact ⟨xs.length-(i+1),by omega,rfl,hlt,L3,M3,as,bs,ka,s'.trans st,c3,r',hl,e',hab⟩
         .cases e'
        .cases e'
       .cases e'
      .have hi':i=xs.length:=by omega
       subst hi';rw[List.drop_length]at e';unfold A7 at e';split at e'
       .rename_i hgd;cases e';obtain ⟨_,stop⟩:=it L' H' _ s' c' hgd;rw[BF]at hab;subst hab;rw[r']at ez;cases ez;refine .inl ⟨stop,?_⟩;rw[hl];exact q L' H' (s1.trans s') c'
       .cases e'
     .cases hf
    .cases hf
  .rw[AE hz]at hf;cases hf
section
variable {X:Cx} {scope:Y0} {tg elt iter:Expr} {ifs:Yi} {pos p:Pos} {own:Yj} {e:Expr} {f:FE}
def eO (hg:CF own g fg) (C:CompIn X scope own) (hcalm:X.calm=true) (hi:QI X tg iter fi) (p:QParts X scope tg ifs elt g tc te) (hs:∀ x,foldedSetIterable iter X.env x=pure x:=by intro _;rfl) :
  QZ X (.SetComp elt [⟨tg,iter,ifs,0⟩] scope pos) (Gr own fi fg tc te) :=
 .mk <| PZ.imp (UZ C hcalm hi.un p.parts hs) λ_ _ _ h=>fL hg h
noncomputable def HN (f:FZ):FE:=λY M=>match f Y M with
 |some (ks,M1)=>if ks.length<64 then some (.fl ((DI ks).map D.int),M1) else none
 |none=>none
theorem Ni:∀ (ns:Ye),zJ L H (ns.map D.int) (ns.map V.int)
 |[]=> .nil
 |n::ns=> .cons Bm (Ni ns)
def VD (hc:X.calm=true) (hg:Gl X "sorted") (hm:X.mg "sorted" = none) (h:QZ X e fz) (hs:starEach [e] X.env=(false,eval e X.env)::starEach [] X.env:=by rfl) (hpl:(backTo pos (starEach [] X.env)).any (·.1)=false:=by rfl) :
  QE X (.Call (.Name "sorted" p) [e] [] pos) (HN fz):=.mk <| PE.imp (aT hc hg hm h.un hs hpl) λτ H Q zz=>by
 obtain ⟨L,Y,M,d,M',c,rs,hf,q⟩:=zz;unfold HN at hf;split at hf
 .rename_i ks M1 e1;split at hf
  .rename_i hb;cases hf;refine ⟨L,Y,M,_,_,c,rs,e1,λL1 H1 s1 c1=>⟨hb,λp hp=>?_⟩⟩;exact q L1 _ _ (s1.trans (.upd hp)) (c1.upd hp) (zW.newLst s1 c c1 hp (Ni _))
  .cases hf
 .cases hf
def zW.newLst' {L:Yg} {H:Hp} {K:Yb} {M:List MO} {p:Yt} {ds:List D} {vs:List V} (c:Cor K L M H) (hp:H p=none) (r:zJ L H ds vs):zW H L (upd H p (.lst vs)) (.fl ds) (.ref p):=zW.newLst (.refl L H) c c hp r
end
open AutoSeq1 (wpAny_loadPart')
def Y4 (hh:A.handled=none) (it l:Yt) (hne:l≠it) (items:Yp) :
  Draws prog w A it [it,l] items.size (λi v=>items[i]?=some v) (λi h=>h.IsTupleIter it l i/\h.IsTuple l items) where
 live:=λ_ _ st=>let ⟨o,ho,_⟩:=st.1;⟨o,ho⟩;frame:=λ_ _ _ st hk=>⟨let ⟨o,ho,r⟩:=st.1;⟨o,hk it (by simp) o ho,r⟩,let ⟨o,ho,r⟩:=st.2;⟨o,hk l (by simp) o ho,r⟩⟩;item:=λi s Q E hi st hQ=>by
  refine Ib st.1 st.2 (x:=items[i]) (by simp[hi]) λh' hit' hs'=>?_;exact hQ _ h' s.toks (by simp[hi]) ⟨hit',Tup.but st.2 hs'.extBut hne⟩ hs'
 done:=λs Q E st hE=>JS hh st.1 st.2 (by simp) hE
def VR (l:Yt) (items:Yp) (n:Nat) (dct:Option Addr) (sl:Array (Option Value)) :
  Meets (Builtin.«enumerate.__new__» ⟨[.type "enumerate", .ref l],[]⟩) (λ_ R s=>s.heap.get? l=some { cls:=.type "tuple", dict:=dct,data:=.seq items n,slots:=sl } /\
   R (.ok (.ret (.ref (s.heap.push { cls:=.type "tuple_iterator", data:=.fields #[.ref l,.int 0 0] }).objs.size)))
    { s with heap:=(s.heap.push { cls:=.type "tuple_iterator", data:=.fields #[.ref l,.int 0 0] }).push { cls:=.type "enumerate", data:=.fields #[.none,.bool false,.ref s.heap.objs.size,rawInt 0,.none,.none] } }) :=
 .of_wp λprog w A R s h=>by
  obtain ⟨hp,g,d,tk,os⟩:=s;obtain ⟨hl,h⟩:=h;have hsub:=sub_enumerate;have hL:Heap.IsTuple (Shared.heap ⟨hp,g,d,tk,os⟩) l items:=⟨_,hl,rfl,n,rfl⟩;wp_walk using wpAny_loadPart' hl;refine wpAny_stack_any λst=>AD ?_;split
  .rename_i c _ _ _ _ _;cases (c==Value.type "enumerate")
   .wp_walk using wpAny_loadPart' hl,wpAny_pyIter_tuple hL;exact ⟨_,rfl,h⟩
   .wp_walk using wpAny_loadPart' hl,wpAny_pyIter_tuple hL;exact ⟨_,rfl,h⟩
  .wp_walk using wpAny_loadPart' hl,wpAny_pyIter_tuple hL;exact ⟨_,rfl,h⟩
def jW (hL:s.heap.IsTuple l items)
  (h:∀ h',IsEnum h' (s.heap.objs.size+1) s.heap.objs.size 0 .none->h'.IsTupleIter s.heap.objs.size l 0->(∀ c o,s.heap.get? c=some o->h'.get? c=some o)->Q (.ref (s.heap.objs.size+1)) { s with heap:=h' }) :
  wpAny (model prog w) A (call (.type "enumerate") [.ref l]) Q E s:=by
 obtain ⟨o,ho,hc,n,hd⟩:=hL;obtain ⟨ocls,odict,odata,oslots⟩:=o;simp only at hc hd;subst hc;subst hd;refine callType_new PySem.F.called_enumerate (by decide) (PySem.F.typeCall_enumerate_1 _) (PySem.F.newCall_enumerate_1 _) (λobj=>PySem.F.args_object_init_2 obj _) PySem.F.entry_enumerate_new (VR l items n odict oslots) ⟨ho,?_⟩;have q1:(s.heap.push { cls:=.type "tuple_iterator", data:=.fields #[.ref l,.int 0 0] }).objs.size=s.heap.objs.size+1:=Bv ..;have p2:((s.heap.push { cls:=.type "tuple_iterator", data:=.fields #[.ref l,.int 0 0] }).push { cls:=.type "enumerate", data:=.fields #[.none,.bool false,.ref s.heap.objs.size,rawInt 0,.none,.none] }).get? (s.heap.push { cls:=.type "tuple_iterator", data:=.fields #[.ref l,.int 0 0] }).objs.size=some _:=AV _ rfl;rw[q1]at p2;rw[q1];exact ⟨⟨_,p2,rfl⟩,h _ p2 ⟨_,AJ _ (AV _ rfl),rfl,rfl⟩ λc o x=>AJ _ (AJ _ x)⟩
def RB (he:IsEnum s.heap e it i old)
  (hn:∀ (Q':Value->Shared->Prop) (E':Value->Shared->Prop),(∀ h' x,Heap.ExtBut it s.heap h'->(∃ o,h'.get? x=some o/\o.cls=.type "StopIteration")->E' (.ref x) { s with heap:=h' })->wpAny (model prog w) A.in1 (Builtin.SmallTypes.nextOf (.ref it)) Q' E' s)
  (hQ:∀ h',Heap.ExtBut it s.heap h'->Q none { s with heap:=h' }):wpAny (model prog w) A (pyNext (.ref e)) Q E s:=by
 have hT:s.TypeIs (.ref e) "enumerate" := ⟨_,he,rfl⟩;unfold pyNext
 refine AA (DL (CD (name:=Str.ofString "__next__") hT PySem.F.slot_enumerate_next
  (BI PySem.F.slot_enumerate_next hT PySem.F.entry_enumerate_next ?_ (PySem.F.args_enumerate_next_1 _))))
 show wpAny _ _ (field (.ref e) 2 >>= _) _ _ _;refine AA (Bc he rfl (x:=.ref it) rfl ?_);refine AA (hn _ _ λh' x he' hx'=>?_);obtain ⟨o,ho,hc⟩:=hx';refine AA (wpAny_isInstance (T := "StopIteration") (b:=true) ⟨o,ho,hc⟩ isSubtype_stop ?_);exact AD (hQ _ he')
noncomputable def Eu (K:Yb) (isT:Bool) (a:Yt):It :=
 ⟨λi H=>∃ xs x,(if isT then SqT K H a xs else SqL K H a xs)/\xs[i]?=some x,
  λi H v H'=>∃ T x,v=.ref T/\H T=none/\H'=upd H T (.tup [.int i,x]) /\ ∀ xs,(if isT then SqT K H a xs else SqL K H a xs)->xs[i]?=some x,
  λi H=>∃ xs,(if isT then SqT K H a xs else SqL K H a xs)/\xs.length<=i⟩
def Ih (isT:Bool) (it a:Yt) (i:Nat) (h:Heap):Prop:=if isT then h.IsTupleIter it a i else h.IsListIter it a i
def U9 {P:Ym} {w:Yo} {K:Yb} {es:Yi} {ek:Nat} {ep:Pos} {isT:Bool} {e it a:Yt} (hei:e≠it) (hae:a≠e) (hai:a≠it) :
  Turn P w K (.Tuple es ek ep) (Eu K isT a) [e,it] e (λi h=>(∃ old,IsEnum h e it i old)/\Ih isT it a i h) where
 mem:=by simp
 obj:=λi h ⟨⟨old,he⟩,st⟩ c hc=>by
  simp only[AI,BU,Be]at hc;rcases hc with rfl|rfl
  .exact ⟨_,he,λv m=>by cases m⟩
  .cases isT with
   |true=>obtain ⟨o1,e1,_,d1⟩:=(show h.IsTupleIter c a i from st);exact ⟨_,e1,λv m=>by rw[d1]at m;cases m⟩
   |false=>obtain ⟨o1,e1,_,d1⟩:=(show h.IsListIter c a i from st);exact ⟨_,e1,λv m=>by rw[d1]at m;cases m⟩
 keep:=λi h h' ⟨⟨old,he⟩,st⟩ k=>by
  refine ⟨⟨old,k e (by simp) _ he⟩,?_⟩;cases isT with
  |true=>obtain ⟨o1,e1,r⟩:=(show h.IsTupleIter it a i from st);exact ⟨o1,k it (by simp) _ e1,r⟩
  |false=>obtain ⟨o1,e1,r⟩:=(show h.IsListIter it a i from st);exact ⟨o1,k it (by simp) _ e1,r⟩
 item:=by
  intro X hP hw hK hc i zB s Y H E I hf Z hg;subst hP hw hK;obtain ⟨⟨old,he⟩,st⟩:=Z;obtain ⟨xs,x,sa,hx⟩:=hg;have hch:∀ c∈[e,it],BH X zB H c:=hf;have elt:e<s.heap.objs.size:=AH he
  have fin:∀ (its:List Value) (u:Value) (h':Heap) (tk:Nat),zY xs its->its[i]?=some u->IsEnumOut h' e it ((i:Int)+1) u s.heap.objs.size->Ih isT it a (i+1) h'->h'.get? s.heap.objs.size=some { cls:=.type "tuple", data:=.seq #[.int i tk,u] } ->
    (∀ b o,b≠e->b≠it->s.heap.get? b=some o->h'.get? b=some o)->it<s.heap.objs.size ->
    ∃ u',some (Value.ref s.heap.objs.size)=some u'/\wpAny (model X.prog X.w) X.A (letOwnedTupleGo (.Tuple es ek ep) (.ref e) u') (λ_ s2=>∃ x H',Inv X zB Y H' s2/\zj x u'/\(Eu X.K isT a).yld i H x H'/\((∃ old,IsEnum s2.heap e it ((i+1:Nat):Int) old)/\Ih isT it a (i+1) s2.heap) /\ ∀ b∈[e,it],H' b=none) E { s with heap:=h',toks:=tk+1 }:=by
   intro its u h' tk rv hu ho st' hT hk ilt;refine ⟨_,rfl,wpAny_letOwnedTupleGo_enum ho λh2 he2 e2=>?_⟩;have kk:∀ c o,c∉[e,it]->s.heap.get? c=some o->h2.get? c=some o:=λc o n q=>by
    simp only[AI,BU,Be,not_or]at n;exact e2.extBut _ _ n.1 (hk c o n.1 n.2 q)
   have NT:=e2.extBut _ _ (Cz elt) hT;have hfr:H s.heap.objs.size=none:=I.hok.fresh (AF _);obtain ⟨u2,hu2,ru⟩:=rv.get hx;rw[hu]at hu2;cases hu2;refine ⟨.ref s.heap.objs.size,upd H s.heap.objs.size (.tup [.int i,x]),Lz (s:=s) (h':=h2) (t':=tk+1) I hch kk (AF _) ?_,rfl,⟨_,x,rfl,hfr,rfl,λws hw=>?_⟩,⟨⟨u,by simpa using he2⟩,?_⟩,λc hm=>?_⟩
   .exact ⟨by show 2<=sizeLine;decide,[.int i tk,u],.cons ⟨tk,rfl⟩ (.cons ru .nil),⟨_,NT,rfl,⟨_,rfl⟩,rfl⟩⟩
   .cases isT with
    |true=>rw[I.tuple_inj hw sa];exact hx
    |false=>rw[I.list_inj hw sa];exact hx
   .cases isT with
    |true=>obtain ⟨o1,e1,r⟩:=(show h'.IsTupleIter it a (i+1)from st');exact ⟨o1,e2.extBut _ _ hei.symm e1,r⟩
    |false=>obtain ⟨o1,e1,r⟩:=(show h'.IsListIter it a (i+1)from st');exact ⟨o1,e2.extBut _ _ hei.symm e1,r⟩
   .have lt:c<s.heap.objs.size:=by
     simp only[AI,BU,Be]at hm;rcases hm with rfl|rfl
     .exact elt
     .exact ilt
    rw[zT (Ab lt)];exact (hf c hm).1
  have hef:e∉[it,a]:=by simp only[AI,BU,Be,not_or];exact ⟨hei,hae.symm⟩
  cases isT with
  |true=>
   obtain ⟨its,rv,p1,z1⟩:=I.tuple sa;have st':s.heap.IsTupleIter it a i:=st;obtain ⟨o1,e1,_⟩:=id st';refine wpAny_pyNext_enum_itemD (Y4 (prog:=X.prog) (w:=X.w) (A:=X.A.in1) (I.ok.hd hc) it a hai its.toArray) he ⟨st',show s.heap.IsTuple a its.toArray from p1⟩ (by have:=rv.length;have:=(AK.mp hx).1;rw[AR];omega) hei hef λu h' tk hu ho hs hT _ hk=>?_;exact fin its u h' tk rv (by simpa using hu) ho hs.1 hT hk (AH e1)
  |false=>
   obtain ⟨its,rv,p1,z1⟩:=I.list sa;have st':s.heap.IsListIter it a i:=st;obtain ⟨o1,e1,_⟩:=id st';refine wpAny_pyNext_enum_itemD (Draws.list (prog:=X.prog) (w:=X.w) (A:=X.A.in1) (I.ok.hd hc) it a hai its.toArray) he ⟨st',p1.isList⟩ (by have:=rv.length;have:=(AK.mp hx).1;rw[AR];omega) hei hef λu h' tk hu ho hs hT _ hk=>?_;exact fin its u h' tk rv (by simpa using hu) ho hs.1 hT hk (AH e1)
 done:=by
  intro X hP hw hK hc i zB s Y H E I hf Z hg;subst hP hw hK;obtain ⟨⟨old,he⟩,st⟩:=Z;obtain ⟨xs,sa,hz⟩:=hg;have out:∀ h',Heap.ExtBut it s.heap h'->(none:Option Value)=none/\Inv X zB Y H { s with heap:=h' }:=λh' x=>⟨rfl,Hf (s:=s) (h':=h') (t':=s.toks) I hf λc o n q=>x c o (λm=>n (by simp[m])) q⟩;cases isT with
  |true=>
   obtain ⟨its,rv,p1,z1⟩:=I.tuple sa;refine RB he (λQ' E' hq=>JS (I.ok.hd hc) (show s.heap.IsTupleIter it a i from st) (show s.heap.IsTuple a its.toArray from p1) (by have:=rv.length;simp;omega) hq) out
  |false=>
   obtain ⟨its,rv,p1,z1⟩:=I.list sa;refine RB he (λQ' E' hq=>wpAny_nextOf_list_end (I.ok.hd hc) (show s.heap.IsListIter it a i from st) p1.isList (by have:=rv.length;simp;omega) hq) out
 self:=λ_ _ _ _ _ Z h=>let ⟨⟨_,he⟩,_⟩:=Z;wpAny_pyIter_enum he h
def b3 {te:TE} (hg:Gl X "enumerate") (hm:X.mg "enumerate" = none) (ha:PE X a te) (hs:starEach [a] X.env=(false,eval a X.env)::starEach [] X.env:=by rfl) (hpl:(backTo pos (starEach [] X.env)).any (·.1)=false:=by rfl) :
  PI X (.Tuple es ek ep) (.Call (.Name "enumerate" p) [a] [] pos) (λY H R=>te Y H λx H1=>∃ l,x=.ref l/\((∃ xs,SqT X.K H1 l xs)/\R (Eu X.K true l) H1\/(∃ xs,SqL X.K H1 l xs)/\R (Eu X.K false l) H1)):=by
 intro zB s Y H R I h;refine wpAny_Call_Name_kw (Fz I hg hm (by rfl) ?_ (by decide) (by decide));refine callWith_type1 ?_ hs hpl;rw[hs];refine Calls.spliced_cons (thn (ha zB s Y H _ I h) λu s1 ⟨x,H1,I1,r1,l,hx,q⟩=>Calls.spliced_nil ?_);subst hx;cases r1
 have out:∀ (isT:Bool) (h':Heap),l<s1.heap.objs.size->IsEnum h' (s1.heap.objs.size+1) s1.heap.objs.size 0 .none->Ih isT s1.heap.objs.size l 0 h'->(∀ c o,s1.heap.get? c=some o->h'.get? c=some o)->R (Eu X.K isT l) H1 ->
   wpAny (model X.prog X.w) X.A (pyIter (.ref (s1.heap.objs.size+1))) (PIE X zB Y (.Tuple es ek ep) R) X.xe { s1 with heap:=h' }:=by
  intro isT h' hl he st kp q;refine wpAny_pyIter_enum (s:={ s1 with heap:=h' }) he ?_;refine ⟨s1.heap.objs.size+1,[s1.heap.objs.size+1,s1.heap.objs.size],_,_,H1,rfl,I1.kept (t':=s1.toks) kp,U9 (isT:=isT) (Cz (Dq _)) (Ab (Cn hl)) (Ab hl),⟨⟨_,he⟩,st⟩,λc hc=>?_,q⟩;have ge:s1.heap.objs.size<=c:=by
   simp only[AI,BU,Be]at hc;rcases hc with rfl|rfl
   .exact DC _
   .exact AF _
  exact I1.fpOk ge (I1.hok.fresh ge)
 rcases q with ⟨⟨xs,hq⟩,q⟩|⟨⟨xs,hq⟩,q⟩
 .obtain ⟨its,rv,p1,_⟩:=I1.tuple hq;have hl:l<s1.heap.objs.size:=by obtain ⟨_,e,_⟩:=p1;exact AH e
  exact jW (show s1.heap.IsTuple l its.toArray from p1) λh' he st kp=>out true h' hl he st kp q
 .obtain ⟨its,rv,p1,_⟩:=I1.list hq;have hl:l<s1.heap.objs.size:=by obtain ⟨_,_,e,_⟩:=p1;exact AH e
  exact call_enumerate_list p1.isList λh' he st _ kp=>out false h' hl he st kp q
noncomputable def Ex (xs:List D):List D:=((List.range xs.length).zip xs).map λq=>D.tup [.int (q.1:Nat),q.2]
def fU {xs:List D} {i:Nat} {d:D} (h:(Ex xs)[i]?=some d):∃ x,xs[i]?=some x/\d=.tup [.int (i:Nat),x]:=by
 unfold Ex at h;rw[Az]at h;cases e:((List.range xs.length).zip xs)[i]? with
 |none=>rw[e]at h;cases h
 |some pr=>
  rw[e]at h;cases h;obtain ⟨f1,f2⟩:=List.getElem?_zip_eq_some.mp e;have hi:i<xs.length:=(AK.mp f2).1;rw[List.getElem?_range hi]at f1;cases f1;exact ⟨pr.2,f2,rfl⟩
def YO (xs:List D):(Ex xs).length=xs.length:=by unfold Ex;simp
noncomputable def IF (f:FE):FI:=λY M=>match f Y M with
 |some (x,M1)=>match Av M1 x with
  |some xs=>some (Ex xs,CO x xs,M1)
  |none=>none
 |none=>none
def TJ {g:FE} (hg:Gl X "enumerate") (hm:X.mg "enumerate" = none) (h:QE X a g) (hs:starEach [a] X.env=(false,eval a X.env)::starEach [] X.env:=by rfl) (hpl:(backTo pos (starEach [] X.env)).any (·.1)=false:=by rfl) :
  QI X (.Tuple es ek ep) (.Call (.Name "enumerate" p) [a] [] pos) (IF g):=.mk <| PI.imp (b3 hg hm h.un hs hpl) λτ H R zz=>by
 obtain ⟨L,Y,M,xs,gd,M',c,rs,hf,q⟩:=zz;unfold IF at hf;split at hf
 .rename_i y M1 e1;split at hf
  .rename_i zs e2;cases hf;refine ⟨L,Y,M,_,_,c,rs,e1,λL1 H1 v s1 c1 r1=>?_⟩
   have step:∀ (isT:Bool) (l:Yt) (L2:Yg) (H2:Hp) (vs:List V),(if isT then SqT X.K H2 l vs else SqL X.K H2 l vs)->zJ L2 H2 zs vs ->
     (∀ (i:Nat) d,(Ex zs)[i]?=some d->(Eu X.K isT l).go i H2 /\ ∀ v H'',(Eu X.K isT l).yld i H2 v H''->(∀ a o,H2 a=some o->H'' a=some o)/\Rep L2 H'' d v)/\(Eu X.K isT l).stop (Ex zs).length H2:=by
    intro isT l L2 H2 vs hq r;refine ⟨λi d hd=>?_,⟨vs,hq,by rw[YO,r.length];exact AF _⟩⟩;obtain ⟨x,hx,rfl⟩:=fU hd;obtain ⟨u,hu,ru⟩:=r.get hx;refine ⟨⟨vs,u,hq,hu⟩,λv H3 hy=>?_⟩;obtain ⟨T,x',rfl,hT,rfl,hxx⟩:=hy;have ex:=hxx vs hq;rw[hu]at ex;cases ex;exact ⟨λa o e=>by rw[zT (zv e hT)];exact e,Rep.newTup hT (.cons Bm (.cons ru .nil))⟩
   unfold Av at e2;cases t:CU y with
   |some ws=>
    rw[t]at e2;cases e2;obtain ⟨a,vs,rfl,e3,r3⟩:=Dt r1 t;refine ⟨a,rfl,.inl ⟨⟨vs,.of e3⟩,q L1 H1 _ s1 c1 λL2 H2 M2 s2 c2 _=>?_⟩⟩;exact step true a L2 H2 vs (.of (s2.tup a vs e3)) (r3.stp s2)
   |none=>
    rw[t]at e2;obtain ⟨a,vs,rfl,e3,r3⟩:=CP c1 r1 e2;refine ⟨a,rfl,.inr ⟨⟨vs,.inl e3⟩,q L1 H1 _ s1 c1 λL2 H2 M2 s2 c2 hgd=>?_⟩⟩;have key:∃ vs',SqL X.K H2 a vs'/\zJ L2 H2 zs vs':=by
     cases y with
     |fl ys=>
      cases e2;obtain ⟨p',vs',hp',_,e5,e6,r6⟩:=r1;cases hp';exact ⟨vs',.of (s2.old _ _ e5 e6),r6.stp s2⟩
     |dat d=>
      cases d with
      |ref n=>
       unfold zW Rep at r1;obtain ⟨a',ha',e5⟩:=r1;cases ha';have e6:L2[n]?=some a:=by obtain ⟨N,hN⟩:=s2.pre;rw[hN];exact EC e5
       rcases hgd with z|z
       .obtain ⟨vs',e7,r7⟩:=c2.obj n a _ e6 z;exact ⟨vs',.of e7,r7⟩
       .obtain ⟨o,vs',e7,r7⟩:=c2.obj n a _ e6 z;exact ⟨vs',.inl (.inr ⟨o,e7⟩),r7⟩
      |_=>cases e2
    obtain ⟨vs',hq,r7⟩:=key;exact step false a L2 H2 vs' hq r7
  .cases hf
 .cases hf
section
variable {κ:Type} [DecidableEq κ]
noncomputable def DJ (kf:D->Option κ) (kvs:List (D × D)) (k:κ):Option D:=(kvs.find? λp=>decide (kf p.1=some k)).map (·.2)
noncomputable def E2 (kf:D->Option κ) (kvs:List (D × D)) (k:κ) (kd v:D):List (D × D) :=
 if (kvs.any λp=>decide (kf p.1=some k))=true then kvs.map λp=>if kf p.1=some k then (p.1,v) else p else kvs++[(kd,v)]
theorem HP (k:κ):∀ {kvs:List (D × D)} {vs:List (κ × V)},Aa kf L H kvs vs->(DJ kf kvs k=none/\By vs k=none) \/ ∃ d v,DJ kf kvs k=some d/\By vs k=some v/\Rep L H d v
 |[],vs,h=>by unfold Aa at h;subst h;exact .inl ⟨rfl,rfl⟩
 |p::r,vs,h=>by
  obtain ⟨k',v,r',rfl,e,h1,h2⟩:=h;by_cases q:k'=k
  .subst q;exact .inr ⟨p.2,v,by unfold DJ;rw[Ec,e];simp,by rw[JG rfl],h1⟩
  .have e1:DJ kf (p::r) k=DJ kf r k:=by unfold DJ;rw[Ec,e];simp[q]
   rw[e1,Jg q];exact HP k h2
theorem Q8 (k:κ):∀ {kvs:List (D × D)} {vs:List (κ × V)},Aa kf L H kvs vs->(kvs.any λp=>decide (kf p.1=some k))=(vs.any λkv=>decide (kv.1=k))
 |[],vs,h=>by unfold Aa at h;subst h;rfl
 |p::r,vs,h=>by
  obtain ⟨k',v,r',rfl,e,h1,h2⟩:=h;rw[List.any_cons,List.any_cons,Q8 k h2,e];simp
theorem MA (k:κ) (hd:Rep L H d u):∀ {kvs:List (D × D)} {vs:List (κ × V)},Aa kf L H kvs vs->Aa kf L H (kvs.map λp=>if kf p.1=some k then (p.1,d) else p) (vs.map λkv=>if kv.1=k then (kv.1,u) else kv)
 |[],vs,h=>by unfold Aa at h;subst h;rfl
 |p::r,vs,h=>by
  obtain ⟨k',v,r',rfl,e,h1,h2⟩:=h;rw[AX,AX];by_cases q:k'=k
  .subst q;rw[AB e,AB rfl];exact ⟨k',u,_,rfl,e,hd,MA k' hd h2⟩
  .rw[AE (by rw[e];simpa using q),AE q];exact ⟨k',v,_,rfl,e,h1,MA k hd h2⟩
theorem Qs (hk:kf kd=some k) (hd:Rep L H d u):∀ {kvs:List (D × D)} {vs:List (κ × V)},Aa kf L H kvs vs->Aa kf L H (kvs++[(kd,d)]) (vs++[(k,u)])
 |[],vs,h=>by unfold Aa at h;subst h;exact ⟨k,u,[],rfl,hk,hd,rfl⟩
 |p::r,vs,h=>by
  obtain ⟨k',v,r',rfl,e,h1,h2⟩:=h;exact ⟨k',v,_,rfl,e,h1,Qs hk hd h2⟩
def Ob {kf:D->Option κ} {L:Yg} {H:Hp} {k:κ} {kd d:D} {u:V} (hk:kf kd=some k) (hd:Rep L H d u) {kvs:List (D × D)} {vs:List (κ × V)} (h:Aa kf L H kvs vs):Aa kf L H (E2 kf kvs k kd d) (Bx vs k u):=by
 unfold E2 Bx;rw[Q8 k h];split
 .exact MA k hd h
 .exact Qs hk hd h
end
theorem Pj:∀ {ds:List D} {vs:List V} {ks:List Key},zJ L H ds vs->DF ds=some ks->vs=ks.map kV
 |[],vs,ks,h,e=>by cases e;unfold zJ at h;exact h
 |d::ds,vs,ks,h,e=>by
  unfold zJ at h;obtain ⟨v,r,rfl,h1,h2⟩:=h;unfold DF at e;cases e1:B4 d with
  |none=>rw[e1]at e;cases e
  |some k=>
   cases e2:DF ds with
   |none=>rw[e1,e2]at e;cases e
   |some ks'=>
    rw[e1,e2]at e;cases e;rw[JZ h1 e1,Pj h2 e2];rfl
def Ke (h:Rep L H d v) (e:tkD d=some ks):∃ b,v=.ref b/\H b=some (.tup (ks.map kV)):=by
 cases d with
 |tup ds=>
  unfold Rep at h;obtain ⟨a,vs,rfl,e1,r⟩:=h;exact ⟨a,rfl,by rw[e1,Pj r e]⟩
 |_=>cases e
noncomputable def Dw (M:Mem) (x:EV) (k:D):Option (Option D):=match x with
 |.dat (.ref n)=>match M[n]? with
  |some (.dict kvs)=>match B4 k with
   |some kk=>some (DJ B4 kvs kk)
   |none=>none
  |some (.dicT kvs)=>match tkD k with
   |some kk=>some (DJ tkD kvs kk)
   |none=>none
  |some (.froK kvs)=>match B4 k with
   |some kk=>some (DJ B4 kvs kk)
   |none=>none
  |some (.froT kvs)=>match tkD k with
   |some kk=>some (DJ tkD kvs kk)
   |none=>none
  |_=>none
 |_=>none
def Np (L:Yg) (H:Hp):Option D->Option V->Prop
 |none,o=>o=none
 |some d,o=>∃ v,o=some v/\Rep L H d v
def Jq {K:Yb} {L:Yg} {M:Mem} {H H0:Hp} {x:EV} {v w:V} {k:D} {o:Option D} (c:Cor K L M H) (rx:zW H0 L H x v) (rk:Rep L H k w) (e:Dw M x k=some o):∃ a ov,v=.ref a/\Bq H a w ov/\Np L H o ov:=by
 cases x with
 |fl xs=>cases e
 |dat d=>
  cases d with
  |ref n=>
   unfold zW Rep at rx;obtain ⟨a,rfl,ea⟩:=rx;unfold Dw at e;dsimp only at e;cases q:M[n]? with
   |none=>rw[q]at e;cases e
   |some m=>
    rw[q]at e;have z:=c.obj n a m ea q;cases m with
    |dict kvs=>
     dsimp only at e;cases e2:B4 k with
     |none=>rw[e2]at e;cases e
     |some kk=>
      rw[e2]at e;cases e;obtain ⟨vs,e3,r⟩:=z;refine ⟨a,By vs kk,rfl,?_,?_⟩
      .rw[JZ rk e2];exact Bq.k e3
      .rcases HP kk r with ⟨h1,h2⟩|⟨d,v,h1,h2,h3⟩
       .rw[h1,h2];rfl
       .rw[h1,h2];exact ⟨v,rfl,h3⟩
    |dicT kvs=>
     dsimp only at e;cases e2:tkD k with
     |none=>rw[e2]at e;cases e
     |some kk=>
      rw[e2]at e;cases e;obtain ⟨vs,e3,r⟩:=z;obtain ⟨b,rfl,eb⟩:=Ke rk e2;refine ⟨a,By vs kk,rfl,Bq.t e3 eb,?_⟩;rcases HP kk r with ⟨h1,h2⟩|⟨d,v,h1,h2,h3⟩
      .rw[h1,h2];rfl
      .rw[h1,h2];exact ⟨v,rfl,h3⟩
    |froK kvs=>
     dsimp only at e;cases e2:B4 k with
     |none=>rw[e2]at e;cases e
     |some kk=>
      rw[e2]at e;cases e;obtain ⟨ob,vs,e3,r⟩:=z;refine ⟨a,By vs kk,rfl,.inl ⟨vs,kk,.inr ⟨ob,e3⟩,JZ rk e2,rfl⟩,?_⟩;rcases HP kk r with ⟨h1,h2⟩|⟨d,v,h1,h2,h3⟩
      .rw[h1,h2];rfl
      .rw[h1,h2];exact ⟨v,rfl,h3⟩
    |froT kvs=>
     dsimp only at e;cases e2:tkD k with
     |none=>rw[e2]at e;cases e
     |some kk=>
      rw[e2]at e;cases e;obtain ⟨ob,vs,e3,r⟩:=z;obtain ⟨b,rfl,eb⟩:=Ke rk e2;refine ⟨a,By vs kk,rfl,.inr ⟨vs,kk,b,.inr ⟨ob,e3⟩,rfl,eb,rfl⟩,?_⟩;rcases HP kk r with ⟨h1,h2⟩|⟨d,v,h1,h2,h3⟩
      .rw[h1,h2];rfl
      .rw[h1,h2];exact ⟨v,rfl,h3⟩
    |_=>cases e
  |_=>cases e
noncomputable def FR (M:Mem) (n:Nat) (k v:D):Option Mem:=match M[n]? with
 |some (.dict kvs)=>match B4 k with
  |some kk=>if kvs.length<sizeLine then some (M.set n (.dict (E2 B4 kvs kk k v))) else none
  |none=>none
 |some (.dicT kvs)=>match tkD k with
  |some kk=>if kvs.length<sizeLine then some (M.set n (.dicT (E2 tkD kvs kk k v))) else none
  |none=>none
 |_=>none
def Qm {K:Yb} {L:Yg} {M M':Mem} {H:Hp} {n:Nat} {a:Yt} {k v:D} {w u:V} (c:Cor K L M H) (ea:L[n]?=some a) (rk:Rep L H k w) (rv:Rep L H v u) (e:FR M n k v=some M'):∃ H',DG H a w u H'/\Cor K L M' H'/\Stp L H L H':=by
 unfold FR at e;cases q:M[n]? with
 |none=>rw[q]at e;cases e
 |some m=>
  rw[q]at e;have z:=c.obj n a m ea q;cases m with
  |dict kvs=>
   dsimp only at e;cases e2:B4 k with
   |none=>rw[e2]at e;cases e
   |some kk=>
    rw[e2]at e;dsimp only at e;split at e
    .rename_i hl;cases e;obtain ⟨vs,e3,r⟩:=z;obtain ⟨c3,s3⟩:=c.put (m:=.dict (E2 B4 kvs kk k v)) (o':=.dK (Bx vs kk u)) ea e3 (λ_ z=>by cases z) (λ_ _ z=>by cases z) λs3=>⟨_,zr,(Ob e2 rv r).stp s3⟩;refine ⟨_,?_,c3,s3⟩;rw[JZ rk e2];exact DG.k e3 (by rw[r.length];exact hl)
    .cases e
  |dicT kvs=>
   dsimp only at e;cases e2:tkD k with
   |none=>rw[e2]at e;cases e
   |some kk=>
    rw[e2]at e;dsimp only at e;split at e
    .rename_i hl;cases e;obtain ⟨vs,e3,r⟩:=z;obtain ⟨b,rfl,eb⟩:=Ke rk e2;obtain ⟨c3,s3⟩:=c.put (m:=.dicT (E2 tkD kvs kk k v)) (o':=.dT (Bx vs kk u)) ea e3 (λ_ z=>by cases z) (λ_ _ z=>by cases z) λs3=>⟨_,zr,(Ob e2 rv r).stp s3⟩;exact ⟨_,DG.t e3 eb (by rw[r.length];exact hl),c3,s3⟩
    .cases e
  |_=>cases e
section
variable {X:Cx} {a b e o i value:Expr} {pos pos' apos cpos:Pos} {f g h:FE}
noncomputable def Ay:K2:=λx y M=>match y with
 |.dat k=>match Dw M x k with
  |some (some d)=>some (.dat d,M)
  |_=>none
 |_=>none
def V8 {K:Yb}:BG K (λx y H Q=>∃ a v,x=.ref a/\Bq H a y (some v)/\Q v H) Ay:=by
 intro L M M' H H0 x y d v w Q c rx ry hk q;unfold Ay at hk;split at hk
 .rename_i k;split at hk
  .rename_i d' e1;cases hk;obtain ⟨a,ov,rfl,h1,h2⟩:=Jq c rx ry e1;obtain ⟨u,rfl,r⟩:=h2;exact ⟨a,u,rfl,h1,q L H u (.refl L H) c r⟩
  .cases hk
 .cases hk
def XN (hu:X.A.units+1<cLine) (h1:QE X o f) (h2:QE X i g) (hs:Lk i:=by intro _ _;rfl):QE X (.Subscript o i pos) (fOp Ay f g):=.mk <| PE.imp (XG hu h1.un h2.un hs) λ_ _ _ h=>FH V8 h
noncomputable def Ax (neg:Bool):K2:=λx y M=>match x with
  |.dat k=>match Dw M y k with
    |some o=>some (.dat (.bl (if neg then !o.isSome else o.isSome)),M)
    |none=>none
  |_=>none
def OP {o:Option D} {ov:Option V} (h:Np L H o ov):ov.isSome=o.isSome:=by
  cases o with
  | none => have h' : ov = none := h
            rw[h'];rfl
  |some d=>obtain ⟨v,rfl,_⟩:=h;rfl
def NK {K:Yb}:BG K (λy x H Q=>∃ a o,x=.ref a/\Bq H a y o/\Q (.bl o.isSome) H) (Ax false):=by
 intro L M M' H H0 x y d v w Q c rx ry hk q;unfold Ax at hk;split at hk
 .rename_i k;split at hk
  .rename_i o e1;cases hk;obtain ⟨a,ov,rfl,h1,h2⟩:=Jq c ry rx e1;refine ⟨a,ov,rfl,h1,?_⟩;rw[OP h2];exact q L H _ (.refl L H) c (B3 (L:=L) (H:=H))
  .cases hk
 .cases hk
def S4 {K:Yb}:BG K (λy x H Q=>∃ a o,x=.ref a/\Bq H a y o/\Q (.bl (!o.isSome)) H) (Ax true):=by
 intro L M M' H H0 x y d v w Q c rx ry hk q;unfold Ax at hk;split at hk
 .rename_i k;split at hk
  .rename_i o e1;cases hk;obtain ⟨a,ov,rfl,h1,h2⟩:=Jq c ry rx e1;refine ⟨a,ov,rfl,h1,?_⟩;rw[OP h2];exact q L H _ (.refl L H) c (B3 (L:=L) (H:=H))
  .cases hk
 .cases hk
def fQ (hu:X.A.units+1<cLine) (h1:QE X a f) (h2:QE X b g) (hm:behindInMarks .In b=false:=by rfl):QE X (.Compare a [.In] [b] pos) (fOp (Ax false) f g):=.mk <| PE.imp (Xe (RZ hu h1.un h2.un) hm) λ_ _ _ h=>FH NK h
def SK (hu:X.A.units+1<cLine) (h1:QE X a f) (h2:QE X b g) (hm:behindInMarks .In b=false:=by rfl):QT X (.Compare a [.In] [b] pos) (tst (fOp (Ax false) f g)):=.mk <| PT.imp (PU (RZ hu h1.un h2.un) hm) λ_ _ _ h=>KH (λ_ _ _ z=>FH NK z) (IY h)
def eW (hu:X.A.units+1<cLine) (h1:QE X a f) (h2:QE X b g) (hm:behindInMarks .NotIn b=false:=by rfl):QT X (.Compare a [.NotIn] [b] pos) (tst (fOp (Ax true) f g)):=.mk <| PT.imp (PU (Y8 hu h1.un h2.un) hm) λ_ _ _ h=>KH (λ_ _ _ z=>FH S4 z) (IY h)
noncomputable def Cg (fv fo fi:FE):FS:=λY M=>match toD fv Y M with
 |some (v,M1)=>match toD fo Y M1 with
  |some (.ref n,M2)=>match toD fi Y M2 with
   |some (k,M3)=>match FR M3 n k v with
    |some M4=>some (.nx,Y,M4)
    |none=>none
   |none=>none
  |_=>none
 |none=>none
def SG (hu:X.A.units+1<cLine) (hv:QE X value f) (ho:QE X o g) (hi:QE X i h) (hs:swapsWith value (some (.Subscript o i pos')) pos.line X.env=pure false:=by rfl):QS X (.Assign [.Subscript o i pos'] value pos) (Cg f g h) :=
 .mk <| PS.imp (W9 hu (Cp ho).un (Cp hi).un (Cp hv).un hs) λE τ H zz=>by
  obtain ⟨L,Y,M,out,Y',M',c,rs,hf,q⟩:=zz;unfold Cg at hf;split at hf
  .rename_i v M1 e1;split at hf
   .rename_i n M2 e2;split at hf
    .rename_i k M3 e3;split at hf
     .rename_i M4 e4;cases hf;refine (mkD c rs e1 (λL1 H1 u s1 c1 r1=>(mkD c1 (rs.stp s1) e2 (λL2 H2 y s2 c2 r2=>(mkD c2 ((rs.stp s1).stp s2) e3 (λL3 H3 z s3 c3 r3=>?_))))));unfold Rep at r2;obtain ⟨a,rfl,ea⟩:=r2;have ea3:L3[n]?=some a:=by obtain ⟨N,hN⟩:=s3.pre;rw[hN];exact EC ea
      obtain ⟨H4,h1,h2,h3⟩:=Qm c3 ea3 r3 ((r1.stp s2).stp s3) e4;exact ⟨a,H4,rfl,h1,q L3 H4 (((s1.trans s2).trans s3).trans h3) h2 τ ((((rs.stp s1).stp s2).stp s3).stp h3)⟩
     .cases hf
    .cases hf
   .cases hf
  .cases hf
noncomputable def Cy (fo fi fx:FE):FE:=λY M=>match toD fo Y M with
 |some (.ref n,M1)=>match M1[n]? with
  |some (.dict _)|some (.dicT _)=>match toD fi Y M1 with
   |some (k,M2)=>match toD fx Y M2 with
    |some (x,M3)=>match Dw M3 (.dat (.ref n)) k with
     |some o=>some (.dat (o.getD x),M3)
     |none=>none
    |none=>none
   |none=>none
  |_=>none
 |_=>none
def jP (hu:X.A.units+1<cLine) (ho:QE X o f) (hi:QE X i g) (hx:QE X e h) (m:M2 X o "get" apos i e cpos):QE X (.Call (.Attribute o "get" apos) [i,e] [] cpos) (Cy f g h) :=
 .mk <| PE.imp (YR hu (Cp ho).un (Cp hi).un (Cp hx).un m) λτ H Q zz=>by
  obtain ⟨L,Y,M,d,M',c,rs,hf,q⟩:=zz
  have key:∀ n M1,toD f Y M=some (.ref n,M1)->(∃ kvs,M1[n]?=some (.dict kvs)\/M1[n]?=some (.dicT kvs))->(match toD g Y M1 with
   |some (k,M2)=>match toD h Y M2 with
    |some (x,M3)=>match Dw M3 (.dat (.ref n)) k with
     |some o=>some (EV.dat (o.getD x),M3)
     |none=>none
    |none=>none
   |none=>none)=some (d,M')->OO (trD X.K (toD f)) (trD X.K (toD g)) (trD X.K (toD h)) τ H Q:=by
   intro n M1 e1 hd hf;split at hf
   .rename_i k M2 e2;split at hf
    .rename_i x M3 e3;split at hf
     .rename_i ov e4;cases hf;refine (mkD c rs e1 (λL1 H1 u s1 c1 r1=>?_));unfold Rep at r1;obtain ⟨a,rfl,ea⟩:=r1;refine ⟨a,rfl,?_,L1,Y,M1,_,_,c1,rs.stp s1,e2,λL2 H2 y s2 c2 r2=>(mkD c2 ((rs.stp s1).stp s2) e3 (λL3 H3 z s3 c3 r3=>?_))⟩
      .obtain ⟨kvs,hk|hk⟩:=hd
       .obtain ⟨vs,e5,_⟩:=c1.obj n a _ ea hk;exact .inl ⟨vs,.inl e5⟩
       .obtain ⟨vs,e5,_⟩:=c1.obj n a _ ea hk;exact .inr ⟨vs,.inl e5⟩
      .have ra:zW H L3 H3 (.dat (.ref n)) (.ref a):=by
        unfold zW Rep;exact ⟨a,rfl,by obtain ⟨N,hN⟩:=(s2.trans s3).pre;rw[hN];exact EC ea⟩
       obtain ⟨a',o',e6,h1,h2⟩:=Jq c3 ra (r2.stp s3) e4;cases e6;refine ⟨o',h1,?_⟩;cases ov with
       |none=>
        have h':o'=none:=h2;subst h';exact q L3 H3 _ ((s1.trans s2).trans s3) c3 r3
       |some dd=>
        obtain ⟨v,rfl,rv⟩:=h2;exact q L3 H3 _ ((s1.trans s2).trans s3) c3 rv
     .cases hf
    .cases hf
   .cases hf
  unfold Cy at hf;split at hf
  .rename_i n M1 e1;split at hf
   .rename_i kvs e5;exact key n M1 e1 ⟨kvs,.inl e5⟩ hf
   .rename_i kvs e5;exact key n M1 e1 ⟨kvs,.inr e5⟩ hf
   .cases hf
  .cases hf
end
end L3
namespace L2
def Sn {kx vx target iter ifs rest scope pos it acc env}
  (h0:codeAny (model prog w) A (.compLoop (.DictComp kx vx (⟨target,iter,ifs,0⟩::rest) scope pos) 0 it acc env) R s)
  (h:wpAny (model prog w) A (pyIter it) (λit' s'=>codeAny (model prog w) A (.compLoop (.DictComp kx vx (⟨target,iter,ifs,0⟩::rest) scope pos) 0 it' acc env) R s')
   (notedBy (model prog w) A env λx s'=>R (.error x) s') s) :
  codeAny (model prog w) A (.compStart (.DictComp kx vx (⟨target,iter,ifs,0⟩::rest) scope pos) 0 it acc env) R s:=by
 refine codeAny_of_tree ?_;show wpAny _ _ ((compStart (.DictComp kx vx (⟨target,iter,ifs,0⟩::rest) scope pos) 0 it acc env).onRaise (λx=>do noteFrame x env;standAt theWindowsPlace)) _ _ s;refine wpAny_notedAt ?_;unfold compStart;refine AA (wpAny_askSetting (wpAny_ite ?_));split
 .first
   |exact AA (AD (AD (And.intro rfl h0)))
   |exact AD (And.intro rfl h0)
 .first
   |exact AA (BY (AA (B1 (AA (AN h (λit' s' h'=>AD (And.intro rfl h')) λ_ _ x=>x)))))
   | (refine AA (BY ?_);show wpAny _ _ (standAt iter.pos >>= _) _ _ s;exact AA (B1 (AA (AN h (λit' s' h'=>AD (And.intro rfl h')) λ_ _ x=>x))))
def Inv.trackAt (I:Inv X zB Y H s) (ho:s.heap.get? D=some o) (hn:H D=none) (h0:X.s₀.heap.objs.size<=D) (hL:D≠X.env.locals) (hc:∀ x c,X.env.cells.lookup x=some c->c≠D) (hp:∀ p∈X.pn++zB,p.1≠D)
  (new:z0 X.prog X.w (upd H D u) s.heap D u):Inv X zB Y (upd H D u) s:=by
 have un:∀ b v,H b=some v->upd H D u b=some v:=λb v e=>by rw[zT (zv e hn)];exact e
 have e0:s={ s with heap:=s.heap,gens:=s.gens,drawn:=s.drawn,toks:=s.toks }:=by cases s;rfl
 rw[e0];refine I.step (g':=s.gens) (d':=s.drawn) (ch:=[D]) (λb hb=>?_) (λb v _ _ _ e _=>e) (λb v _ _ _ e _=>⟨v.slots,e⟩) (λb v hb e n=>?_) (λb v _ e=>⟨v,e⟩) (λb xs e=>un b _ e) (λb p v e=>un b _ e) (λb ps e=>⟨#[],by rw[un b _ e];simp⟩) (λm hm=>hm) (λb v e=>?_) I.bare
 .have:b=D:=by simpa using hb
  subst this;exact ⟨.inr h0,hL,hc,hp⟩
 .rw[zT (λz=>hb (by simp[z]))];exact n
 .by_cases hb:b=D
  .subst hb;rw[zr]at e;cases e;exact new
  .rw[zT hb]at e;exact (I.hok b v e).stay (λc v hc q=>q) (λc q=>un c _ q) λc xs q=>un c _ q
def UN (hu:A.units+1<cLine) (I:Inv X zB Y H s) (g:DG H a y v H') (ry:zj y u) (rv:zj v r) (h:∀ s',Inv X zB Y H' s'->Heap.SameBut a s.heap s'.heap->Q () s') :
  wpAny (model X.prog X.w) A (dictSet a u r) Q E s:=by
 rcases g with ⟨kvs,k,e,ey,l,eH⟩|⟨kvs,k,b,e,ey,eb,l,eH⟩
 .subst ey eH;obtain ⟨z,hd,vs,rel,dd⟩:=RL I.hok e;have hz:vs.length<=sizeLine:=by rw[<-rel.length];exact z
  have hl:(Bx kvs k v).length<=sizeLine:=by have:=Jc kvs k v;omega
  refine wpAny_dictSet_pairs (hsz:=hz) (Fp ry) dd λh' dd' hs=>h _ ?_ hs;have he:∃ q,h'.get? a=some q:=let ⟨q,_,_,hq,_⟩:=dd';⟨q,hq⟩;exact IA I (by rw[e];exact True.intro) hs he (OZ hl hd (rel.put k rv) dd')
 .subst ey eH;cases (show u=Value.ref b from ry);obtain ⟨z,hd,xs,rel,dd⟩:=RI I.hok e;have hz:xs.length<=sizeLine:=by rw[<-Paired.length rel];exact z
  have hl:(Bx kvs k v).length<=sizeLine:=by have:=Jc kvs k v;omega
  refine wpAny_dictSet_heap (hsz:=hz) (show (tupleKind (Bb X.prog X.w)).room A from Nat.lt_of_succ_lt hu) (Fn I.hok eb) dd λh' dd' hs=>h _ ?_ hs;obtain ⟨q,es,ep,hq,h2,h3,h4,_,h5⟩:=dd';refine IA I (by rw[e];exact True.intro) hs ⟨q,hq⟩ ⟨hl,hd,_,(rel.put k eb rv).keeps λc ys ec=>?_,q,es,ep,hq,h2,h3,h4,h5⟩;rw[zT (Fo ec e (λz=>nomatch z))];exact ec
noncomputable def F0 (isT:Bool):HO:=if isT then .dT [] else .dK []
noncomputable abbrev Ei:Obj:={ cls:=.type "dict", data:=.dict #[] }
section
variable {pos:Pos}
 {own:Yj} {g:TG} {tc:TT} {tk tv:TE} {E:Yc} {isT:Bool}
def Nq (hu:X.A.units+1<cLine) (C:CompIn X scope own) (hcalm:X.calm=true) (I:Inv X zB Y H s) (T:Turn X.prog X.w X.K tg J fp it tn) (st:tn 0 s.heap) (hf:∀ b∈fp,BH X zB H b)
  (c1:∀ x c,cl.lookup x=some c->X.env.cells.lookup x=some c) (c2:∀ y∈scope.names,y.2=.free->(cl.lookup y.1).isSome=true)
  (hg:PG (zH X zB scope cl s H fp) tg g) (hi:DE (zH X zB scope cl s H fp) ifs tc) (hk:PE (zH X zB scope cl s H fp) kx tk) (hv:PE (zH X zB scope cl s H fp) vx tv)
  {RR:Value->Addr->Result->Shared->Prop} {QQ:Hp->Prop} {W:Nat->Nat->Hp->Prop} {m0:Nat} (w0:W 0 m0 (upd H s.heap.objs.size (F0 isT)))
  (turn:∀ i m H,W i m H->(J.stop i H/\QQ H) \/
   (J.go i H /\ ∀ x H',J.yld i H x H'->g x (clr own Y) H' λσ2 H2=>Ext (clr own Y) σ2/\tc σ2 H2 λb H3=>
    if b=true then tk σ2 H3 λk H4=>tv σ2 H4 λv H5=>∃ H6 m',DG H5 s.heap.objs.size k v H6/\m'<m/\W (i+1) m' H6 else ∃ m',m'<m/\W (i+1) m' H3))
  (fin:∀ σc H' s',Inv (zH X zB scope cl s H fp) [] σc H' s'->QQ H'->RR (.ref s.heap.objs.size) (s.heap.objs.size+1) (.ok .next) s') :
  wpAny (model X.prog X.w) X.A newDict (λacc s₃=>wpAny (model X.prog X.w) X.A (newFunctionEnv scope X.env.globals cl [] X.env.qual none .none (some X.env)) (λcenv s₄=>
   codeAny (model X.prog X.w) X.A (.compStart (.DictComp kx vx [⟨tg,iter,ifs,0⟩] scope pos) 0 (.ref it) acc { cenv with scope:=relabel scope X.env }) (RR acc cenv.locals) s₄) E s₃) E s:=by
 have ob:∀ b:Nat,b∈fp->b<s.heap.objs.size:=λb hb=>let ⟨_,e,_⟩:=T.obj 0 _ st b hb;AH e;refine A9 (IM ?_);have sz1:(s.heap.push Ei).objs.size=s.heap.objs.size+1:=Bv ..;have I4:=JF (X:=X) (zB:=zB) (Y:=Y) (σc:=clr own Y) (H:=H) (s:=s) (scope:=scope) (cl:=cl) (fp:=fp) C.sc I hf ob c1 c2 (Fq own Y) (λi x v h1 h2 h3=>by
  obtain ⟨a,b⟩:=Et own Y i v h2;rcases C.nm i x h1 with z|z|z
  .exact absurd z b
  .exact absurd (Jp x z) h3
  .exact ⟨z,a⟩) Ei (by intro v z;cases z) rfl rfl
 have st4:tn 0 (pushCells ((s.heap.push Ei).push { cls:=.type "dict", data:=.dict #[] }) scope.names):=T.keep 0 _ _ st λb _ o e=>pushCells_keeps _ _ b o (AJ _ (AJ _ e));unfold newEnv;rw[sz1];have hDfp:s.heap.objs.size∉fp:=λz=>BV _ (ob _ z);obtain ⟨pD,nD,neD,nfD,dD⟩:=I4.pin (s.heap.objs.size,Ei) (by simp);have hcD:∀ x c,(zH X zB scope cl s H fp).env.cells.lookup x=some c->c≠s.heap.objs.size:=λx c e z=>by
  obtain ⟨v,o,ho,hd⟩:=I4.cell x c e;rw[z,pD]at ho;cases ho;cases hd
 have hpn:∀ p∈(zH X zB scope cl s H fp).pn++[],p.1≠s.heap.objs.size:=λp hp=>by
  rw[BF]at hp;have hp':p∈X.pn++zB:=hp;exact Ab (AH (I.pin p hp').1)
 have big:sysModules<s.heap.objs.size:=I.big;have hsm:(s.heap.objs.size==sysModules)=false:=by rw[beq_eq_false_iff_ne];exact Cz big
 have I5:Inv (zH X zB scope cl s H fp) [] (clr own Y) (upd H s.heap.objs.size (F0 isT)) { s with heap:=pushCells ((s.heap.push Ei).push { cls:=.type "dict", data:=.dict #[] }) scope.names }:=by
  have I4':Inv (zH X zB scope cl s H fp) [] (clr own Y) H { s with heap:=pushCells ((s.heap.push Ei).push { cls:=.type "dict", data:=.dict #[] }) scope.names }:=I4.pins_of λp hp=>nomatch hp;refine I4'.trackAt pD nD (AF _) neD hcD hpn ?_;cases isT with
  |false=>exact ⟨BQ _,hsm,[],.nil,Ei,#[],0,pD,⟨rfl,rfl,rfl⟩,rfl,λ_ he=>by simp at he,.nil,List.nodup_nil⟩
  |true=>exact ⟨BQ _,hsm,[],.nil,Ei,#[],0,pD,⟨rfl,rfl,rfl⟩,rfl,rfl,List.nodup_nil⟩
 have fpk:∀ {H':Hp},(∀ b∈fp,H' b=none) -> ∀ b∈fp,BH (zH X zB scope cl s H fp) [] H' b:=λ{H'} hn b hb=>
  ⟨hn b hb,(I4.ok.exf b hb).1,I4.ok.exfs b hb,.inl hb,(I4.ok.exf b hb).2,λp hq=>by
   rw[BF]at hq;exact (hf b hb).2.2.2.2.2 p hq⟩
 have loop:codeAny (model X.prog X.w) X.A (.compLoop (.DictComp kx vx [⟨tg,iter,ifs,0⟩] scope pos) 0 (.ref it) (.ref s.heap.objs.size) (zH X zB scope cl s H fp).env) (RR (.ref s.heap.objs.size) (s.heap.objs.size+1))
   { s with heap:=pushCells ((s.heap.push Ei).push { cls:=.type "dict", data:=.dict #[] }) scope.names }:=by
  refine Vo (λn s'=>∃ i H',Inv (zH X zB scope cl s H fp) [] (clr own Y) H' s'/\tn i s'.heap/\(∀ b∈fp,H' b=none)/\W i n H') ?_ m0
   ⟨0,_,I5,st4,λb hb=>by rw[zT (show b≠s.heap.objs.size from λz=>hDfp (by rw[<-z];exact hb))];exact (hf b hb).1,w0⟩
  rintro n s5 ⟨i,H5,J5,st5,f5,w5⟩;rcases turn i n H5 w5 with ⟨stop,qq⟩|⟨go,step⟩
  .refine thn (T.done (zH X zB scope cl s H fp) rfl rfl rfl hcalm i _ s5 _ H5 _ J5 (fpk f5) st5 stop) λr s6 ⟨hr,I6⟩=>?_;subst hr;exact fin _ H5 s6 I6 qq
  .refine thn (T.item (zH X zB scope cl s H fp) rfl rfl rfl hcalm i _ s5 _ H5 _ J5 (fpk f5) st5 go) λr s6 ⟨u,hr,h6⟩=>?_;subst hr;refine thn h6 λ_ s7 ⟨x,H7,I7,r7,y7,st7,f7⟩=>?_;have I7':=I7.pinned (fpk f7) (T.obj _ _ st7);refine thn (hg _ s7 _ H7 x u _ I7' r7 (step x H7 y7)) λ_ s8 ⟨σ8,H8,I8,x8,q8⟩=>?_;refine thn (hi _ s8 σ8 H8 _ I8 q8) λok s9 ⟨H9,I9,q9⟩=>?_;have back:∀ {s':Yl} {Hx:Hp},Inv (zH X zB scope cl s H fp) ([]++EF fp s7.heap) σ8 Hx s'->tn (i+1) s'.heap /\ ∀ b∈fp,Hx b=none:=λ{s' Hx} Ix=>
    ⟨T.keep _ _ _ st7 λb hb o e=>(Ix.pin (b,o) (Ah _ (Ah _ (DD hb e)))).1,λb hb=>by
     obtain ⟨o,e,d⟩:=T.obj _ _ st7 b hb;exact (Ix.pin (b,o) (Ah _ (Ah _ (DD hb e)))).2.1⟩
   cases ok with
   |false=>
    obtain ⟨m',hm,w'⟩:=q9;obtain ⟨b1,b2⟩:=back I9;exact ⟨m',hm,i+1,H9,(I9.weak (by rw[x8.1]) x8.2).unpinned,b1,b2,w'⟩
   |true=>
    refine thn (hk _ s9 σ8 H9 _ I9 q9) λkv s10 ⟨y,H10,I10,r10,q10⟩=>?_;refine thn (hv _ s10 σ8 H10 _ I10 q10) λvv s11 ⟨z,H11,I11,r11,H12,m',hp,hm,w'⟩=>?_;refine UN (X:=zH X zB scope cl s H fp) hu I11 hp r10 r11 λs12 I12 hs=>?_;obtain ⟨b1,b2⟩:=back I12;exact ⟨m',hm,i+1,H12,(I12.weak (by rw[x8.1]) x8.2).unpinned,b1,b2,w'⟩
 exact Sn loop (T.self _ 0 _ _ _ st4 loop)
def QL (I:Inv X zB Y H s) (hf:∀ b∈fp,BH X zB H b)
  (Ic:Inv (zH X zB scope cl s H fp) [] σc H' s') (hs:Heap.SameBut (s.heap.objs.size+1) s'.heap h'):Inv X zB Y H' { s' with heap:=h' }:=by
 have nC:H' (s.heap.objs.size+1)=none:=Ic.free;have lt1:∀ {b:Yt} {o:Obj},s.heap.get? b=some o->b≠s.heap.objs.size+1:=λe=>Ab (Cn (AH e));have tr:∀ b u,H' b=some u->b≠s.heap.objs.size+1:=λb u e z=>by rw[z,nC]at e;cases e
 have B:=Ic.base;have un:Un (frs X.stack) fp H H' s.heap h':=by
  refine ⟨λb o e q hb hx=>hs.extBut b o (lt1 e) (B.keep b o e q hb hx),λb o e q hb hx=>?_,λb o e q hx=>B.free b o e q hx,λb o e hx=>?_,λb xs e=>B.tups b xs e,λb o xs e=>B.frzs b o xs e,λb ps e=>B.tbls b ps e⟩
  .obtain ⟨sl,e1⟩:=B.slot b o e q hb hx;exact ⟨sl,hs.extBut b _ (lt1 e) e1⟩
  .obtain ⟨o',e1⟩:=B.there b o e hx;exact ⟨o',hs.extBut b _ (lt1 e) e1⟩
 have hok:HOk X.prog X.w H' h':=λb u e=>by
  refine (Ic.hok b u e).stay (λc v hc q=>hs.extBut c v ?_ q) (λc q=>q) λc xs q=>q;rcases hc with z|z
  .rw[z];exact tr b u e
  .exact tr c _ z
 exact I.call' (s':={ s' with heap:=h' }) (ch:=fp) Ic.os un hok Ic.bare λb hb=>⟨(hf b hb).2.2.2.1,(hf b hb).2.1,(hf b hb).2.2.2.2.1,(hf b hb).2.2.2.2.2⟩
end
noncomputable def MN (isT:Bool) (own:Yj) (wi:TI) (g:TG) (tc:TT) (tk tv:TE):TE:=λY H Q=>wi Y H λJ H1=>∀ D,H1 D=none -> ∃ W:Nat->Nat->Hp->Prop,(∃ m,W 0 m (upd H1 D (F0 isT))) /\ ∀ i m H,W i m H ->
 (J.stop i H/\Q (.ref D) H) \/
 (J.go i H /\ ∀ x H',J.yld i H x H'->g x (clr own Y) H' λσ2 H2=>Ext (clr own Y) σ2/\tc σ2 H2 λb H3=>
  if b=true then tk σ2 H3 λk H4=>tv σ2 H4 λv H5=>∃ H6 m',DG H5 D k v H6/\m'<m/\W (i+1) m' H6 else ∃ m',m'<m/\W (i+1) m' H3)
def bM (hu:X.A.units+1<cLine) (C:CompIn X scope own) (hcalm:X.calm=true) (hi:PI X tg iter wi) (p:CompParts X scope tg ifs kx g tc tk) (p2:∀ zB cl s H fp,PE (zH X zB scope cl s H fp) vx tv) (hs:∀ x,foldedSetIterable iter X.env x=pure x:=by intro _;rfl) :
  PE X (.DictComp kx vx [⟨tg,iter,ifs,0⟩] scope pos) (MN isT own wi g tc tk tv):=by
 intro zB s Y H Q I h;obtain ⟨cl,hcl,c1,c2⟩:=C.sc.closure I;rw[arm_eval_DictComp];refine Ge (use:=none) rfl hs hcl C.sc.kind C.sc.names (thn (hi zB s Y H _ I h) λv s1 h1=>thn h1 λitv s2 h2=>?_);obtain ⟨it,fp,tn,J,H2,e,I2,T,st2,f2,hD⟩:=h2;subst e;obtain ⟨W,⟨m0,w0⟩,turn⟩:=hD s2.heap.objs.size (I2.hok.fresh (AF _));refine Nq hu C hcalm I2 T st2 f2 c1 c2 (p.g _ _ _ _ _) (p.c _ _ _ _ _) (p.e _ _ _ _ _) (p2 _ _ _ _ _) (RR:=λacc C r s'=>compPost (model X.prog X.w) X.A X.xe none (EP X zB Y Q) acc C r s') (QQ:=λH=>Q (.ref s2.heap.objs.size) H) w0 turn ?_;intro σc H' s' Ic qq;obtain ⟨m,hn,_⟩:=Ic.loc;refine ⟨m,hn,λh' hs'=>?_⟩;exact ⟨.ref s2.heap.objs.size,_,QL I2 f2 Ic hs',rfl,qq⟩
end L2
namespace L3
open L2
noncomputable def G0 (isT:Bool):MO:=if isT then .dicT [] else .dict []
noncomputable def B7 (g:FG) (tc:FT) (tk tv:FE) (Y:Sd) (n:Nat) (all:List D) (gd:Option (Mem->Prop)):List D->Mem->Option Mem
 |[],M=>open Classical in if BD gd all M then some M else none
 |x::r,M=>open Classical in if BD gd all M then match g x Y with
   |some σ1=>match tc σ1 M with
    |some (true,M1)=>match toD tk σ1 M1 with
     |some (k,M2)=>match toD tv σ1 M2 with
      |some (v,M3)=>match FR M3 n k v with
       |some M4=>B7 g tc tk tv Y n all gd r M4
       |none=>none
      |none=>none
     |none=>none
    |some (false,M1)=>B7 g tc tk tv Y n all gd r M1
    |none=>none
   |none=>none
  else none
noncomputable def CL (isT:Bool) (own:Yj) (fi:FI) (g:FG) (tc:FT) (tk tv:FE):FE:=λY M=>match fi Y M with
 |some (xs,gd,M1)=>match B7 g tc tk tv (Ac own Y) M1.length xs gd xs (M1++[G0 isT]) with
  |some M2=>some (.dat (.ref M1.length),M2)
  |none=>none
 |none=>none
def Q6 {K:Yb} {isT:Bool} {own:Yj} {fi:FI} {g:TG} {fg:FG} {tc:FT} {tk tv:FE} (hg:CF own g fg) {τ:Sv} {H:Hp} {Q:VK} (h:trE K (CL isT own fi fg tc tk tv) τ H Q):MN isT own (trI K fi) g (trT K tc) (trD K (toD tk)) (trD K (toD tv)) τ H Q:=by
 obtain ⟨L,Y,M,d,Mf,c,rs,hf,q⟩:=h;unfold CL at hf;split at hf
 .rename_i xs gd M1 e1;split at hf
  .rename_i M2 e2;cases hf;refine (mkI c rs e1 (λL1 H1 J s1 c1 it p hp=>?_));obtain ⟨c0,s0⟩:Cor K (L1++[p]) (M1++[G0 isT]) (upd H1 p (F0 isT))/\Stp L1 H1 (L1++[p]) (upd H1 p (F0 isT)):=by
    cases isT with
    |true=>exact c1.pushO (m:=.dicT []) hp ⟨[],zr,rfl⟩
    |false=>exact c1.pushO (m:=.dict []) hp ⟨[],zr,rfl⟩
   have lp0:(L1++[p])[M1.length]?=some p:=by rw[<-c1.len];simp
   refine ⟨λi m H'=>m=xs.length-i/\i<=xs.length /\ ∃ L' M',Stp (L1++[p]) (upd H1 p (F0 isT)) L' H'/\Cor K L' M' H'/\B7 fg tc tk tv (Ac own Y) M1.length xs gd (xs.drop i) M'=some Mf,
    ⟨xs.length,by simp,BQ _,_,_,.refl _ _,c0,by simpa using e2⟩,?_⟩
   intro i m H' hI;refine Classical.byContradiction λG=>?_;obtain ⟨eI1,hi,L',M',s',c',e'⟩:=hI;refine G ?_;clear G;subst eI1;have lp:L'[M1.length]?=some p:=by obtain ⟨N,hN⟩:=s'.pre;rw[hN];exact EC lp0
   by_cases hlt:i<xs.length
   .rw[Gv hlt]at e';unfold B7 at e';split at e'
    .rename_i hgd;obtain ⟨step,_⟩:=it L' H' M' (s0.trans s') c' hgd;obtain ⟨go,yl⟩:=step i xs[i] (AS hlt);split at e'
     .rename_i σ1 eg;refine .inr ⟨go,λv H2 hy=>?_⟩;obtain ⟨gr,rv⟩:=yl v H2 hy;have s2:Stp (L1++[p]) (upd H1 p (F0 isT)) L' H2:=s'.yld gr;refine hg (GO own (((rs.stp s1).stp s0).stp s2)) (.refl _) rv eg λτ2 r2 x2=>⟨x2,?_⟩;split at e'
      .rename_i M3 e3;split at e'
       .rename_i kd M4 e4;split at e'
        .rename_i vd M5 e5;split at e'
         .rename_i M6 e6;refine (mkT (c'.grow gr) r2 e3 (λL3 H3 s3 c3=>Dd ?_));refine (mkD c3 (r2.stp s3) e4 (λL4 H4 w s4 c4 r4=>?_));refine (mkD c4 ((r2.stp s3).stp s4) e5 (λL5 H5 u s5 c5 r5=>?_));have st:Stp L' H' L5 H5:=(((Stp.grow gr).trans s3).trans s4).trans s5;have lp5:L5[M1.length]?=some p:=by obtain ⟨N,hN⟩:=st.pre;rw[hN];exact EC lp
          obtain ⟨H6,h1,h2,h3⟩:=Qm c5 lp5 (r4.stp s5) r5 e6;exact ⟨H6,xs.length-(i+1),h1,by omega,rfl,hlt,L5,M6,(s'.trans st).trans h3,h2,e'⟩
         .cases e'
        .cases e'
       .cases e'
      .rename_i M3 e3;refine (mkT (c'.grow gr) r2 e3 (λL3 H3 s3 c3=>DT ?_));have st:Stp L' H' L3 H3:=(Stp.grow gr).trans s3;exact ⟨xs.length-(i+1),by omega,rfl,hlt,L3,M3,s'.trans st,c3,e'⟩
      .cases e'
     .cases e'
    .cases e'
   .have hi':i=xs.length:=by omega
    subst hi';rw[List.drop_length]at e';unfold B7 at e';split at e'
    .rename_i hgd;cases e';obtain ⟨_,stop⟩:=it L' H' _ (s0.trans s') c' hgd;refine .inl ⟨stop,?_⟩;refine q L' _ _ ((s1.trans s0).trans s') c' ?_;unfold zW Rep;exact ⟨p,rfl,lp⟩
    .cases e'
  .cases hf
 .cases hf
section
variable {X:Cx} {scope:Y0} {tg kx vx iter:Expr} {ifs:Yi} {pos:Pos} {own:Yj} {isT:Bool}
def Qh {fi:FI} {g:TG} {fg:FG} {tc:FT} {tk tv:FE} (hu:X.A.units+1<cLine) (hg:CF own g fg) (C:CompIn X scope own) (hcalm:X.calm=true) (hi:QI X tg iter fi) (p:QParts X scope tg ifs kx g tc tk) (p2:∀ zB cl s H fp,QE (zH X zB scope cl s H fp) vx tv) (hs:∀ x,foldedSetIterable iter X.env x=pure x:=by intro _;rfl) :
  QE X (.DictComp kx vx [⟨tg,iter,ifs,0⟩] scope pos) (CL isT own fi fg tc tk tv) :=
 .mk <| PE.imp (bM (isT:=isT) hu C hcalm hi.un p.parts (λ_ _ _ _ _=>(Cp (p2 _ _ _ _ _)).un) hs) λ_ _ _ h=>Q6 hg h
end
noncomputable def Bi:Nat->D->Bool
 |0,.int _=>true
 |n+1,.tup ds=>ds.all (Bi n)
 |_,_=>false
noncomputable def BC:Nat->D->D->Bool
 |0,.int i,.int j=>decide (i=j)
 |n+1,.tup xs,.tup ys=>xs.length==ys.length&&(xs.zip ys).all λq=>BC n q.1 q.2
 |_,_,_=>false
theorem Le:∀ (n:Nat) (x:D),Bi n x=true->BC n x x=true
 |0,.int i,_=>by simp[BC]
 |n+1,.tup xs,h=>by
  unfold Bi at h;unfold BC;rw[A0]at h;simp only[beq_self_eq_true,Bool.true_and];rw[A0];intro q hq;have:q.1=q.2:=by
   obtain ⟨i,hi,e⟩:=Ep hq;rw[List.getElem_zip]at e;rw[<-e]
  rw[<-this];exact Le n _ (h q.1 (List.of_mem_zip hq).1)
 |0,.non,h=>by cases h
 |0,.bl _,h=>by cases h
 |0,.str _,h=>by cases h
 |0,.tup _,h=>by cases h
 |0,.ref _,h=>by cases h
 |n+1,.non,h=>by cases h
 |n+1,.bl _,h=>by cases h
 |n+1,.int _,h=>by cases h
 |n+1,.str _,h=>by cases h
 |n+1,.ref _,h=>by cases h
def XR:∀ (n:Nat) (x y:D) (v:V),Bi n x=true->Bi n y=true->Rep L H x v->Rep L H y v->x=y:=by
 intro n;induction n with
 |zero=>
  intro x y v hx hy rx ry;cases x <;> first|cases hx|skip
  cases y <;> first|cases hy|skip
  unfold Rep at rx ry;rw[rx]at ry;cases ry;rfl
 |succ n ih=>
  intro x y v hx hy rx ry;cases x <;> first|cases hx|skip
  cases y <;> first|cases hy|skip
  rename_i xs ys;unfold Bi at hx hy;rw[A0]at hx hy;unfold Rep at rx ry;obtain ⟨a,vs,rfl,e,r⟩:=rx;obtain ⟨a',vs',e1,e2,r'⟩:=ry;cases e1;rw[e]at e2;cases e2;congr 1;have hl:xs.length=ys.length:=by rw[<-r.length,r'.length]
  apply List.ext_getElem hl;intro i h1 h2;obtain ⟨u,hu,ru⟩:=r.get (AS h1);obtain ⟨u',hu',ru'⟩:=r'.get (AS h2);rw[hu]at hu';cases hu';exact ih _ _ u (hx _ (Bg h1)) (hy _ (Bg h2)) ru ru'
def Pw {xs ys:List D} (f:D->D->Bool) (h:xs.length=ys.length):((List.range xs.length).all λj=>f (xs.getD j .non) (ys.getD j .non))=(xs.zip ys).all λq=>f q.1 q.2:=by
  rw[Bool.eq_iff_iff,A0,A0];constructor
  . intro hh q hq
    obtain ⟨i,hi,e⟩:=Ep hq;rw[List.getElem_zip]at e;rw[List.length_zip]at hi;have:=hh i (by simp;omega);rw[<-e];simpa [BW,show i<xs.length by omega,show i<ys.length by omega] using this
  . intro hh i hi
    have h1:i<xs.length:=by simpa using hi
    have h2:i<ys.length:=by omega
    have hz:i<(xs.zip ys).length:=by rw[List.length_zip];omega
    have:=hh (xs.zip ys)[i] (Bg hz);rw[List.getElem_zip]at this;simpa [BW,h1,h2] using this
def eQ (I : Inv X zB Y H s) : ∀ (n : Nat) (A : Around) (x y : D) (v w : V) (u u' : Value), A.units + n < cLine -> Bi n x = true -> Bi n y = true -> Rep L H x v -> Rep L H y w -> zj v u -> zj w u' -> SeqAt.EqAt A s u u' (BC n x y) := by
  intro n;induction n with
  |zero=>
    intro A x y v w u u' hu hx hy rx ry ru ru';cases x <;> first|cases hx|skip
    cases y <;> first|cases hy|skip
    unfold Rep at rx ry;subst rx;subst ry;obtain ⟨t,rfl⟩:=ru;obtain ⟨t',rfl⟩:=ru';have:=SeqAt.EqAt.int_int (A:=A) (s:=s) ‹Int› t ‹Int› t';unfold BC;rename_i i j;have h:=SeqAt.EqAt.int_int (A:=A) (s:=s) i t j t';have e:(i==j)=decide (i=j):=by by_cases q:i=j <;> simp[q]
    rw[e]at h;exact h
  | succ n ih =>
    intro A x y v w u u' hu hx hy rx ry ru ru';cases x <;> first|cases hx|skip
    cases y <;> first|cases hy|skip
    rename_i xs ys;have hx':=hx;have hy':=hy;have rx':=rx;have ry':=ry;unfold Bi at hx hy;rw[A0]at hx hy;unfold Rep at rx ry;obtain ⟨a,vs,rfl,e,r⟩:=rx;obtain ⟨b,ws,rfl,e2,r2⟩:=ry;cases ru;cases ru';by_cases hab:a=b
    . subst hab
      have:=XR (n+1) _ _ _ hx' hy' rx' ry';rw[this,Le (n+1) _ hy'];exact SeqAt.EqAt.same _
    · refine SeqAt.EqAt.of_refs hab ?_
      obtain ⟨its,rv,p1,_⟩:=I.tuple (.of e);obtain ⟨its2,rv2,p2,_⟩:=I.tuple (.of e2);have l1:its.toArray.size=xs.length:=by rw[AR,<-rv.length,r.length]
      have l2:its2.toArray.size=ys.length:=by rw[AR,<-rv2.length,r2.length]
      have key := SeqAt.RcAt.tuples (A := A) (s := s) (l := a) (b := b) (items := its.toArray) (items2 := its2.toArray) (e := fun j => BC n (xs.getD j .non) (ys.getD j .non)) p1 p2 (by omega) (fun j h1 h2 => by
        have j1:j<xs.length:=by omega
        have j2:j<ys.length:=by omega
        obtain ⟨q1,g1,t1⟩:=r.get (AS j1);obtain ⟨q2,g2,t2⟩:=r2.get (AS j2);obtain ⟨o1,k1,m1⟩:=rv.get g1;obtain ⟨o2,k2,m2⟩:=rv2.get g2
        have z1 : its.toArray[j] = o1 := by have : its.toArray[j]? = some o1 := by simpa using k1
                                            rw[Cd h1]at this;exact B0 this
        have z2 : its2.toArray[j] = o2 := by have : its2.toArray[j]? = some o2 := by simpa using k2
                                             rw[Cd h2]at this;exact B0 this
        rw[z1,z2];have w1:xs.getD j .non=xs[j]:=by simp[BW,j1]
        have w2:ys.getD j .non=ys[j]:=by simp[BW,j2]
        rw[w1,w2];exact ih A.in1 _ _ _ _ _ _ (by show A.units+1+n<cLine;omega) (hx _ (Bg j1)) (hy _ (Bg j2)) t1 t2 m1 m2)
      have fin:((List.range (min its.toArray.size its2.toArray.size)).all (λj=>BC n (xs.getD j .non) (ys.getD j .non))&&its.toArray.size==its2.toArray.size)=BC (n+1) (.tup xs) (.tup ys):=by
        rw[l1,l2];show _=(xs.length==ys.length&&(xs.zip ys).all λq=>BC n q.1 q.2);by_cases hl:xs.length=ys.length
        .rw[hl,Nat.min_self,<-hl,Pw (BC n) hl,Bool.and_comm]
        . have:(xs.length==ys.length)=false:=by simpa using hl
          rw[this];simp
      rw[fin]at key;exact key
noncomputable def nb (neg b:Bool):Bool:=if neg then !b else b
noncomputable def rTr (neg:Bool) (K:Yb) (n:Nat):R2:=λx y H Q=>∃ (L:Yg) (xs ys:List D),(xs.all (Bi n)=true/\ys.all (Bi n)=true) /\
 ((Rep L H (.tup xs) x/\Rep L H (.tup ys) y) \/ ∃ a b vs ws,x=.ref a/\y=.ref b/\SqL K H a vs/\SqL K H b ws/\zJ L H xs vs/\zJ L H ys ws)/\Q (.bl (nb neg (BC (n+1) (.tup xs) (.tup ys)))) H
def Nu (I:Inv X zB Y H s) (hu:A.units+n<cLine) (hx:xs.all (Bi n)=true) (hy:ys.all (Bi n)=true) (r:zJ L H xs vs) (r2:zJ L H ys ws) (rv:zY vs its) (rv2:zY ws its2) (j:Nat) (h1:j<its.toArray.size) (h2:j<its2.toArray.size) :
  SeqAt.EqAt A s its.toArray[j] its2.toArray[j] (BC n (xs.getD j .non) (ys.getD j .non)):=by
 rw[A0]at hx hy;have l1:its.toArray.size=xs.length:=by rw[AR,<-rv.length,r.length]
 have l2:its2.toArray.size=ys.length:=by rw[AR,<-rv2.length,r2.length]
 have j1:j<xs.length:=by omega
 have j2:j<ys.length:=by omega
 obtain ⟨q1,g1,t1⟩:=r.get (AS j1);obtain ⟨q2,g2,t2⟩:=r2.get (AS j2);obtain ⟨o1,k1,m1⟩:=rv.get g1;obtain ⟨o2,k2,m2⟩:=rv2.get g2;have z1:its.toArray[j]=o1:=by
  have:its.toArray[j]?=some o1:=by simpa using k1
  rw[Cd h1]at this;exact B0 this
 have z2:its2.toArray[j]=o2:=by
  have:its2.toArray[j]?=some o2:=by simpa using k2
  rw[Cd h2]at this;exact B0 this
 have w1:xs.getD j .non=xs[j]:=by simp[BW,j1]
 have w2:ys.getD j .non=ys[j]:=by simp[BW,j2]
 rw[z1,z2,w1,w2];exact eQ I n A _ _ _ _ _ _ hu (hx _ (Bg j1)) (hy _ (Bg j2)) t1 t2 m1 m2
def Nt (l1:a=xs.length) (l2:b=ys.length):((List.range (min a b)).all (λj=>BC n (xs.getD j .non) (ys.getD j .non))&&a==b)=BC (n+1) (.tup xs) (.tup ys):=by
 subst l1 l2;show _=(xs.length==ys.length&&(xs.zip ys).all λq=>BC n q.1 q.2);by_cases hl:xs.length=ys.length
 .rw[hl,Nat.min_self,<-hl,Pw (BC n) hl,Bool.and_comm]
 .have:(xs.length==ys.length)=false:=by simpa using hl
  rw[this];simp
def UG (hl:xs.length=ys.length):((List.range xs.length).all λj=>BC n (xs.getD j .non) (ys.getD j .non))=BC (n+1) (.tup xs) (.tup ys):=by
 rw[<-Nt (n:=n) rfl rfl,hl,Nat.min_self];simp
def Ir (hl:xs.length≠ys.length):BC (n+1) (.tup xs) (.tup ys)=false:=by
 show (xs.length==ys.length&&_)=false;rw[show (xs.length==ys.length)=false by simpa using hl];rfl
def Sh (n:Nat) (hu:X.A.units+1+n<cLine):OpR X (compareOp .NotEq) (rTr true X.K n):=by
 intro zB s Y H x y v u Q I rx ry h;obtain ⟨L,xs,ys,⟨hx,hy⟩,hc,q⟩:=h;have hu1:X.A.in1.units+n<cLine:=hu;rcases hc with ⟨p1,p2⟩|⟨a,b,vs,ws,rfl,rfl,s1,s2,r1,r2⟩
 .unfold Rep at p1 p2;obtain ⟨a,vs,rfl,e1,r1⟩:=p1;obtain ⟨b,ws,rfl,e2,r2⟩:=p2;cases rx;cases ry;obtain ⟨its,rv,t1,_⟩:=I.tuple (.of e1);obtain ⟨its2,rv2,t2,_⟩:=I.tuple (.of e2);refine SeqAt.RcNeAt.tuples (e:=λj=>BC n (xs.getD j .non) (ys.getD j .non)) t1 t2 (by omega) (λj h1 h2=>Nu I hu1 hx hy r1 r2 rv rv2 j h1 h2) _ _ _ _ ?_;rw[Nt (by rw[AR,<-rv.length,r1.length]) (by rw[AR,<-rv2.length,r2.length])];exact ⟨.bl _,H,I,rfl,q⟩
 .cases rx;cases ry;obtain ⟨its,rv,t1,_⟩:=I.list s1;obtain ⟨its2,rv2,t2,_⟩:=I.list s2;have l1:its.toArray.size=xs.length:=by rw[AR,<-rv.length,r1.length]
  have l2:its2.toArray.size=ys.length:=by rw[AR,<-rv2.length,r2.length]
  by_cases hl:xs.length=ys.length
  .refine SeqAt.RcNeAt.lists (e:=λj=>BC n (xs.getD j .non) (ys.getD j .non)) t1.isList t2.isList (by omega) (by omega) (λj h1 h2=>Nu I hu1 hx hy r1 r2 rv rv2 j h1 h2) _ _ _ _ ?_;rw[l1,UG hl];exact ⟨.bl _,H,I,rfl,q⟩
  .refine SeqAt.RcNeAt.lists_lengths t1.isList t2.isList (by rw[l1,l2];simpa using hl) (by omega) _ _ _ _ ?_;rw[Ir hl]at q;exact ⟨.bl true,H,I,rfl,q⟩
noncomputable def kTr (neg:Bool) (n:Nat):K2:=λx y M=>match CU x,CU y with
 |some xs,some ys=>if xs.all (Bi n)&&ys.all (Bi n) then some (.dat (.bl (nb neg (BC (n+1) (.tup xs) (.tup ys)))),M) else none
 |_,_=>match BP M x,BP M y with
  |some xs,some ys=>if xs.all (Bi n)&&ys.all (Bi n) then some (.dat (.bl (nb neg (BC (n+1) (.tup xs) (.tup ys)))),M) else none
  |_,_=>none
def aY {K:Yb} {neg:Bool} {n:Nat}:BG K (rTr neg K n) (kTr neg n):=by
 intro L M M' H H0 x y d v w Q c rx ry hk q;unfold kTr at hk;split at hk
 .rename_i xs ys e1 e2;split at hk
  .rename_i hb;cases hk;rw[A6]at hb;obtain ⟨p,vs,rfl,h1,r1⟩:=Dt rx e1;obtain ⟨p',ws,rfl,h2,r2⟩:=Dt ry e2;refine ⟨L,xs,ys,hb,.inl ⟨?_,?_⟩,q L H _ (.refl L H) c (B3 (L:=L) (H:=H))⟩
   .unfold Rep;exact ⟨p,vs,rfl,h1,r1⟩
   .unfold Rep;exact ⟨p',ws,rfl,h2,r2⟩
  .cases hk
 .split at hk
  .rename_i xs ys e1 e2;split at hk
   .rename_i hb;cases hk;rw[A6]at hb;obtain ⟨p,vs,rfl,h1,r1⟩:=CP c rx e1;obtain ⟨p',ws,rfl,h2,r2⟩:=CP c ry e2;exact ⟨L,xs,ys,hb,.inr ⟨p,p',vs,ws,rfl,rfl,.inl h1,.inl h2,r1,r2⟩,q L H _ (.refl L H) c (B3 (L:=L) (H:=H))⟩
   .cases hk
  .cases hk
def ZE (n:Nat) (hu:X.A.units+1+n<cLine) (h1:QE X a f) (h2:QE X b g):QT X (.Compare a [.NotEq] [b] pos) (tst (fOp (kTr true n) f g)):=GG aY (Sh n hu) h1 h2 (EE _)
def gO (n:Nat) (hn:n<=8) (hr:Room k A):A.units+1+n<cLine:=by
 have:=hr.units;omega
open Builtin
noncomputable def HG:KB:=λxs M=>match xs with
 |[.dat (.int i),.dat (.int j)]=>some (.dat (.int (if j>i then j else i)),M)
 |_=>none
noncomputable def Hv:KB:=λxs M=>match xs with
 |[.dat (.int i),.dat (.int j)]=>some (.dat (.int (if j<i then j else i)),M)
 |_=>none
def PH (r:Ci H0 L H [.dat (.int i),.dat (.int j)] vs):vs=[.int i,.int j]:=by
 unfold Ci at r;obtain ⟨v,r1,rfl,a1,a2⟩:=r;unfold Ci at a2;obtain ⟨v2,r2,rfl,b1,b2⟩:=a2;unfold Ci at b2;subst b2;unfold zW Rep at a1 b1;subst a1 b1;rfl
def cQ {K:Yb}:Cq K (λxs H Q=>∃ i j,xs=[.int i,.int j]/\Q (.int (if j>i then j else i)) H) HG:=by
 intro L M M' H H0 xs d vs Q c r hk q;unfold HG at hk;split at hk
 .rename_i i j;cases hk;exact ⟨i,j,PH r,q L H _ (.refl L H) c (Bm (L:=L) (H:=H))⟩
 .cases hk
def Zv {K:Yb}:Cq K (λxs H Q=>∃ i j,xs=[.int i,.int j]/\Q (.int (if j<i then j else i)) H) Hv:=by
 intro L M M' H H0 xs d vs Q c r hk q;unfold Hv at hk;split at hk
 .rename_i i j;cases hk;exact ⟨i,j,PH r,q L H _ (.refl L H) c (Bm (L:=L) (H:=H))⟩
 .cases hk
def i7 (hcalm:X.calm=true) (hg:Gl X "max") (hm:X.mg "max" = none) (ha:QAE X [e,e2] fa) (he:starEach [e,e2] X.env=(false,eval e X.env)::starEach [e2] X.env:=by rfl) (hpl:(backTo pos (starEach [e2] X.env)).any (·.1)=false:=by rfl):QE X (.Call (.Name "max" p) [e,e2] [] pos) (fB HG fa) :=
 FK cQ (Xa hcalm) (by rfl) hg hm ha (by decide) (by decide) he hpl
def TL (hcalm:X.calm=true) (hg:Gl X "min") (hm:X.mg "min" = none) (ha:QAE X [e,e2] fa) (he:starEach [e,e2] X.env=(false,eval e X.env)::starEach [e2] X.env:=by rfl) (hpl:(backTo pos (starEach [e2] X.env)).any (·.1)=false:=by rfl):QE X (.Call (.Name "min" p) [e,e2] [] pos) (fB Hv fa) :=
 FK Zv (W7 hcalm) (by rfl) hg hm ha (by decide) (by decide) he hpl
noncomputable def G3:KM:=λx ds M=>match x,ds with
 |.dat (.ref n),[.ref m]=>match M[n]?,M[m]? with
  |some (.lst xs),some (.lst ys)=>if xs.length+ys.length<=sizeLine then some (.non,M.set n (.lst (xs++ys))) else none
  |_,_=>none
 |_,_=>none
def iY {K:Yb}:Ha K OY G3:=by
 intro L M M' H H0 x ds d v vs Q c rx rd hk q;unfold G3 at hk;split at hk
 .rename_i n m;split at hk
  .rename_i xs ys e1 e1';split at hk
   .rename_i hz;cases hk;unfold zW Rep at rx;obtain ⟨a,rfl,e2⟩:=rx;obtain ⟨ws,e3,r3⟩:=c.obj n a _ e2 e1;obtain ⟨w,rfl,r4⟩:=rd.one;unfold Rep at r4;obtain ⟨b,rfl,e4⟩:=r4;obtain ⟨zs,e5,r5⟩:=c.obj m b _ e4 e1';obtain ⟨c5,s5⟩:=c.write e2 e1 (r3.app r5);exact ⟨a,b,ws,zs,rfl,rfl,e3,e5,by rw[r3.length,r5.length];exact hz,q L _ _ s5 c5 (by unfold Rep;rfl)⟩
   .cases hk
  .cases hk
 .cases hk
def gM (h:QE X a f) (hg:QA X [e] fg) (hbase:attributeBase a "extend" X.env (eval a X.env)=eval a X.env:=by rfl)
  (hfew:((backTo cpos (starEach [e] X.env)).all (λx=> !x.1)&&(backToKw cpos (keywordEach [] X.env)).all (λx=>x.1.isSome)&&decide ([e].length+([]:List Keyword).length+(if ([]:List Keyword).isEmpty then 0 else 1)<30))=true:=by rfl)
  (hline:(apos.endLine==cpos.line)=true:=by rfl) (hs:starEach [e] X.env=(false,eval e X.env)::starEach [] X.env:=by rfl) (hplain:(backTo cpos (starEach [] X.env)).any (·.1)=false:=by rfl) :
  QE X (.Call (.Attribute a "extend" apos) [e] [] cpos) (fM G3 f fg) :=
 .mk <| PE.imp (Ig PySem.F.plainAttrs_list PySem.F.slot_list_extend PySem.F.type_list_extend WR h.un hg.un hbase hfew hline hs hplain) λ_ _ _ z=>Js iY z
noncomputable def Hk (fg:FG) (f:FE):FS:=λY M=>match toD f Y M with
 |some (d,M1)=>match fg d Y with
  |some σ1=>some (.nx,σ1,M1)
  |none=>none
 |none=>none
def TX (hk:GOk g fg) (h:QE X e f) (hg:PG X tg g) (hs:swapsWithSole [tg] e pos.line X.env=pure false:=by rfl) (hw:swappedStores [tg] e X.env=pure none:=by rfl)
  (h1:(assignEach [tg] X.env).map (·.2)=[assign tg X.env]:=by rfl):QS X (.Assign [tg] e pos) (Hk fg f) :=
 .mk <| PS.imp (RJ h.un hg hs hw h1) λE τ H zz=>by
  obtain ⟨L,Y,M,o,Y',M',c,rs,hf,q⟩:=zz;unfold Hk at hf;split at hf
  .rename_i d M1 e1;split at hf
   .rename_i σ1 e2;cases hf;refine Qu ⟨L,Y,M,_,_,c,rs,e1,λL1 H1 v s1 c1 r1=>?_⟩;exact hk (rs.stp s1) r1 e2 λτ' rs'=>q L1 H1 s1 c1 τ' rs'
   .cases hf
  .cases hf
def Tf:OkS (Hk fg f Y M) P ↔ Ok (f Y M) (DU λd M1=>∃ σ1,fg d Y=some σ1/\P .nx σ1 M1):=by
 rw[<-Bn];unfold Hk;constructor
 .rintro ⟨o,Y',M',e,p⟩;split at e
  .rename_i d M1 e1;split at e
   .rename_i σ1 e2;cases e;exact ⟨d,_,e1,_,e2,p⟩
   .cases e
  .cases e
 .rintro ⟨d,M1,e1,σ1,e2,p⟩;refine ⟨.nx,σ1,M1,?_,p⟩;rw[e1];dsimp only;rw[e2]
def SI (b:Bool) (h:Heap) (it t:Yt) (k:Nat):Prop:=if b then h.IsTupleIter it t k else h.IsListIter it t k
def SO (b:Bool) (h:Heap) (t:Yt) (xs:Yp):Prop:=if b then h.IsTuple t xs else h.IsList t xs
noncomputable abbrev itO (b:Bool) (t:Addr):Obj:={ cls:=.type (if b then "tuple_iterator" else "list_iterator"),data:=.fields #[.ref t,.int 0 0] }
def SO.keep (x:SO b h t xs) (e:∀ o,h.get? t=some o->h'.get? t=some o):SO b h' t xs:=by
 cases b with
 |true=>obtain ⟨o,q,r⟩:=(show h.IsTuple t xs from x);exact (show h'.IsTuple t xs from ⟨o,e o q,r⟩)
 |false=>obtain ⟨o,q,r⟩:=(show h.IsList t xs from x);exact (show h'.IsList t xs from ⟨o,e o q,r⟩)
def QV (hl:SO b s.heap l items) (hQ:Q (.ref s.heap.objs.size) { s with heap:=s.heap.push (itO b l) }):wpAny (model prog w) A (pyIter (.ref l)) Q E s:=by
 cases b with
 |true=>exact wpAny_pyIter_tuple (show s.heap.IsTuple l items from hl) hQ
 |false=>exact wpAny_pyIter_list (show s.heap.IsList l items from hl) hQ
def XU (e:h.get? it=some (itO b t)):SI b h it t 0:=by
 cases b with
 |true=>exact (show h.IsTupleIter it t 0 from ⟨_,e,rfl,rfl⟩)
 |false=>exact (show h.IsListIter it t 0 from ⟨_,e,rfl,rfl⟩)
def SqG (K:Yb) (b:Bool) (H:Hp) (a:Yt) (xs:List V):Prop:=if b then SqT K H a xs else SqL K H a xs
def aF (I:Inv X zB Y H s) (h:SqG X.K b H a xs):∃ its,zY xs its/\SO b s.heap a its.toArray:=by
 cases b with
 |true=>obtain ⟨its,rv,p1,_⟩:=I.tuple h;exact ⟨its,rv,p1⟩
 |false=>obtain ⟨its,rv,p1,_⟩:=I.list h;exact ⟨its,rv,p1.isList⟩
def YD (x:SO b h a its):a<h.objs.size:=by
 cases b with
 |true=>obtain ⟨_,e,_⟩:=(show h.IsTuple a its from x);exact AH e
 |false=>obtain ⟨_,e,_⟩:=(show h.IsList a its from x);exact AH e
def cP {K:Yb} {L1:Yg} {M1:Mem} {H1:Hp} {x:D} {v:V} {xs:List D} (c1:Cor K L1 M1 H1) (r1:Rep L1 H1 x v) (e:Av M1 (.dat x)=some xs) :
  ∃ b l,v=.ref l/\(∃ vs,SqG K b H1 l vs) /\ ∀ L2 H2 M2,Stp L1 H1 L2 H2->Cor K L2 M2 H2->Av M2 (.dat x)=some xs -> ∃ vs',SqG K b H2 l vs'/\zJ L2 H2 xs vs':=by
 have r1':zW H1 L1 H1 (.dat x) v:=r1;cases x with
 |tup ds=>
  cases e;obtain ⟨a,vs,rfl,e3,r3⟩:=Dt r1' (xs:=xs) rfl;exact ⟨true,a,rfl,⟨vs,(show SqT K H1 a vs from .of e3)⟩,λL2 H2 M2 s2 c2 _=>⟨vs,(show SqT K H2 a vs from .of (s2.tup a vs e3)),r3.stp s2⟩⟩
 |ref n=>
  have e2:BP M1 (.dat (.ref n))=some xs:=e;obtain ⟨a,vs,rfl,e3,r3⟩:=CP c1 r1' e2;refine ⟨false,a,rfl,⟨vs,(show SqL K H1 a vs from .inl e3)⟩,λL2 H2 M2 s2 c2 hq=>?_⟩;unfold Rep at r1;obtain ⟨a',ha',e5⟩:=r1;cases ha';have e6:L2[n]?=some a:=by obtain ⟨N,hN⟩:=s2.pre;rw[hN];exact EC e5
  have r2:zW H2 L2 H2 (.dat (.ref n)) (.ref a):=by unfold zW Rep;exact ⟨a,rfl,e6⟩
  obtain ⟨a2,vs',h2,e7,r7⟩:=CP c2 r2 (show BP M2 (.dat (.ref n))=some xs from hq);cases h2;exact ⟨vs',(show SqL K H2 a vs' from .inl e7),r7⟩
 |_=>cases e
def LO {ns:Ye} {its:Yf} (r:zY (ns.map V.int) its) {i:Nat} {v:Yu} (h:its.toArray[i]?=some v):∃ t,v=.int (ns.getD i 0) t:=by
 have h':its[i]?=some v:=by simpa using h
 have hi:i<its.length:=(AK.mp h').1;have hl:=r.length;rw[AG]at hl;have hx:(ns.map V.int)[i]?=some (.int (ns.getD i 0)):=by
  rw[Az,BW,AS (by omega)];rfl
 obtain ⟨u,hu,ru⟩:=r.get hx;rw[h']at hu;cases hu;obtain ⟨t,rfl⟩:=ru;exact ⟨t,rfl⟩
def PF (hh:A.handled=none) (b:Bool) (I ax:Yt) (hne:ax≠I) (items:Yp) :
  Walks prog w A I [I,ax] [I] items.size (λi v=>items[i]?=some v) (λi h=>SI b h I ax i/\SO b h ax items):=by
 cases b with
 |true=>exact Walks.tuple hh I ax hne items
 |false=>exact Walks.list hh I ax hne items
def Zo (gt:Bool) (hc:X.calm=true):Bk X (.builtin (if gt then "max" else "min")) (λxs H Q=>∃ (b:Bool) (a:Addr) (ns:List Int) (m:Int),xs=[.ref a]/\SqG X.K b H a (ns.map V.int)/\m∈ns/\(∀ x∈ns,if gt then x<=m else m<=x)/\Q (.int m) H):=by
 intro zB s Y H xs us Q I r h;obtain ⟨b,a,ns,m,rfl,hs,hm,hb,q⟩:=h;obtain ⟨u,rfl,ru⟩:=Cs r;cases ru;obtain ⟨its,rv,p1⟩:=aF I hs;have hl:its.toArray.size=ns.length:=by have:=rv.length;simp at this ⊢;omega
 have hpos:0<ns.length:=List.length_pos_of_mem hm;have hlt:=YD p1;have hfp:∀ c∈[s.heap.objs.size,a],c<(s.heap.push (itO b a)).objs.size:=λc hc'=>by
  rw[Bv];simp only[AI,BU,Be]at hc';rcases hc' with rfl|rfl
  .exact Dq _
  .exact Cn hlt
 have st:SI b (s.heap.push (itO b a)) s.heap.objs.size a 0/\SO b (s.heap.push (itO b a)) a its.toArray:=⟨XU (AV _ rfl),p1.keep λo e=>AJ _ e⟩;have kp:∀ h':Heap,(∀ c o,c∉[s.heap.objs.size]->(s.heap.push (itO b a)).get? c=some o->h'.get? c=some o) -> ∀ c o,s.heap.get? c=some o->h'.get? c=some o:=λh' hk c o e0=>
  hk c o (by simp only[AI,BU,Be];exact Ab (AH e0)) (AJ _ e0)
 have fin:∀ (i:Nat) (v:Yu) (h':Heap) (tk:Nat),its.toArray[i]?=some v->ns.getD i 0=m->(∀ c o,s.heap.get? c=some o->h'.get? c=some o)->EP X zB Y Q v { s with heap:=h',toks:=tk }:=λi v h' tk hv hi hk=>by
  obtain ⟨t,rfl⟩:=LO rv hv;rw[hi];exact ⟨.int m,H,I.kept hk,⟨t,rfl⟩,q⟩
 cases gt with
 |true=>
  refine call_max_walk (QV p1 ⟨s.heap.objs.size,[s.heap.objs.size,a],[s.heap.objs.size],its.toArray.size,λi v=>its.toArray[i]?=some v,λi h=>SI b h s.heap.objs.size a i/\SO b h a its.toArray,_,rfl,PF (A:=X.A.in1) (I.ok.hd hc) b _ a (Ab hlt) its.toArray,st,hfp,by omega,CmpOf.ints_gt (λi=>ns.getD i 0) (λ_ _ hv=>LO rv hv),λv h' tk hP hk=>?_⟩);refine fin _ v h' tk hP ?_ (kp h' hk);obtain ⟨h1,h2⟩:=argBest_gt (λi=>ns.getD i 0) (its.toArray.size-1);rw[hl]at h1 h2 ⊢;generalize argBest _ (ns.length-1)=q at h1 h2 ⊢;obtain ⟨j,hj,ej⟩:=List.mem_iff_getElem.mp hm;have h3:=h2 j (by omega);have e3:ns.getD j 0=m:=by rw[BW,AS hj];exact ej
  have hq:q<ns.length:=by omega
  have h4:ns.getD q 0<=m:=by
   have:=hb (ns.getD q 0) (by rw[BW,AS hq];exact Bg hq);simpa using this
  rw[e3]at h3;omega
 |false=>
  refine call_min_walk (QV p1 ⟨s.heap.objs.size,[s.heap.objs.size,a],[s.heap.objs.size],its.toArray.size,λi v=>its.toArray[i]?=some v,λi h=>SI b h s.heap.objs.size a i/\SO b h a its.toArray,_,rfl,PF (A:=X.A.in1) (I.ok.hd hc) b _ a (Ab hlt) its.toArray,st,hfp,by omega,CmpOf.ints_lt (λi=>ns.getD i 0) (λ_ _ hv=>LO rv hv),λv h' tk hP hk=>?_⟩);refine fin _ v h' tk hP ?_ (kp h' hk);obtain ⟨h1,h2⟩:=argBest_lt (λi=>ns.getD i 0) (its.toArray.size-1);rw[hl]at h1 h2 ⊢;generalize argBest _ (ns.length-1)=q at h1 h2 ⊢;obtain ⟨j,hj,ej⟩:=List.mem_iff_getElem.mp hm;have h3:=h2 j (by omega);have e3:ns.getD j 0=m:=by rw[BW,AS hj];exact ej
  have hq:q<ns.length:=by omega
  have h4:m<=ns.getD q 0:=by
   have:=hb (ns.getD q 0) (by rw[BW,AS hq];exact Bg hq);simpa using this
  rw[e3]at h3;omega
noncomputable def C7 (gt:Bool):Int->List Int->Int
 |m,[]=>m
 |m,x::r=>C7 gt (if (if gt then m<x else x<m) then x else m) r
theorem IP (gt:Bool):∀ (r:Ye) (m:Int),C7 gt m r∈m::r /\ ∀ x∈m::r,if gt then x<=C7 gt m r else C7 gt m r<=x
 |[],m=>by
  refine ⟨by simp[C7],λx hx=>?_⟩;have:x=m:=by simpa using hx
  subst this;cases gt <;> simp[C7]
 |y::r,m=>by
  unfold C7;obtain ⟨h1,h2⟩:=IP gt r (if (if gt then m<y else y<m) then y else m);generalize hb:C7 gt (if (if gt then m<y else y<m) then y else m) r=B at h1 h2;constructor
  .rcases AI.mp h1 with q|q
   .rw[q];by_cases hc:(if gt=true then m<y else y<m)
    .rw[AB hc];simp
    .rw[AE hc];simp
   .simp[q]
  .intro x hx;have h0:=h2 _ Ad;rcases AI.mp hx with q|q
   .subst q;cases gt with
    |true=>simp at h0 ⊢;split at h0 <;> omega
    |false=>simp at h0 ⊢;split at h0 <;> omega
   .rcases AI.mp q with z|z
    .subst z;cases gt with
     |true=>simp at h0 ⊢;split at h0 <;> omega
     |false=>simp at h0 ⊢;split at h0 <;> omega
    .exact h2 x (Am _ z)
noncomputable def GN (gt:Bool):KB:=λxs M=>match xs with
 |[.dat d]=>match Av M (.dat d) with
  |some ds=>match BM ds with
   |some (n::ns)=>some (.dat (.int (C7 gt n ns)),M)
   |_=>none
  |none=>none
 |[.fl ds]=>match BM ds with
  |some (n::ns)=>some (.dat (.int (C7 gt n ns)),M)
  |_=>none
 |_=>none
def Xm {K:Yb} {gt:Bool}:Cq K (λxs H Q=>∃ (b:Bool) (a:Yt) (ns:Ye) (m:Int),xs=[.ref a]/\SqG K b H a (ns.map V.int)/\m∈ns/\(∀ x∈ns,if gt then x<=m else m<=x)/\Q (.int m) H) (GN gt):=by
 intro L M M' H H0 xs d vs Q c r hk q;unfold GN at hk;split at hk
 .rename_i d0;split at hk
  .rename_i ds e1;split at hk
   .rename_i n ns e2;cases hk;obtain ⟨v,rfl,r1⟩:=r.one;have r1':Rep L H d0 v:=r1;obtain ⟨b,l,rfl,_,key⟩:=cP c r1' e1;obtain ⟨vs',hq,rr⟩:=key L H M (.refl L H) c e1;have ev:=IV e2 rr;subst ev;obtain ⟨h1,h2⟩:=IP gt ns n;exact ⟨b,l,n::ns,C7 gt n ns,rfl,hq,h1,h2,q L H _ (.refl L H) c (Bm (L:=L) (H:=H))⟩
   .cases hk
  .cases hk
 .rename_i ds;split at hk
  .rename_i n ns e2;cases hk;obtain ⟨v,rfl,r1⟩:=r.one;obtain ⟨l,vs',rfl,hq,rr⟩:=CP c r1 (show BP M (.fl ds)=some ds from rfl);have ev:=IV e2 rr;subst ev;obtain ⟨h1,h2⟩:=IP gt ns n;exact ⟨false,l,n::ns,C7 gt n ns,rfl,.inl hq,h1,h2,q L H _ (.refl L H) c (Bm (L:=L) (H:=H))⟩
  .cases hk
 .cases hk
def VV (hcalm:X.calm=true) (hg:Gl X "min") (hm:X.mg "min" = none) (ha:QAE X [e] fa) (he:starEach [e] X.env=(false,eval e X.env)::starEach [] X.env:=by rfl) (hpl:(backTo pos (starEach [] X.env)).any (·.1)=false:=by rfl):QE X (.Call (.Name "min" p) [e] [] pos) (fB (GN false) fa) :=
 FK Xm (Zo false hcalm) (by rfl) hg hm ha (by decide) (by decide) he hpl
section
variable {X:Cx} {a e e2 o:Expr} {pos p apos cpos:Pos} {f:FE}
noncomputable def GY (f:FE):FT:=λY M=>match f Y M with
 |some (x,M1)=>match Av M1 x with
  |some xs=>some (!xs.isEmpty,M1)
  |none=>none
 |none=>none
def XX (h:QE X a f) (he:∀ whole,isTrue a X.env whole=(do let v <- whole;standAt a.pos;holding [v] (truthy v)):=by intro _;rfl):QT X a (GY f) :=
 .mk <| PT.imp (dS h.un he) λτ H Q zz=>by
  obtain ⟨L,Y,M,d,M',c,rs,hf,q⟩:=zz;unfold GY at hf;split at hf
  .rename_i x M1 e1;split at hf
   .rename_i xs e2;cases hf;refine (mkE c rs e1 (λL1 H1 v s1 c1 r1=>⟨!xs.isEmpty,?_,q L1 H1 s1 c1⟩));unfold Av at e2;have emp:∀ {vs:List V},zJ L1 H1 xs vs->(!xs.isEmpty) = !vs.isEmpty:=λ{vs} r=>by
     have:=r.length;cases xs <;> cases vs <;> first|rfl|simp at this
    cases t:CU x with
    |some ws=>
     rw[t]at e2;cases e2;obtain ⟨l,vs,rfl,e3,r3⟩:=Dt r1 t;exact .inr (.inl ⟨vs,.of e3,emp r3⟩)
    |none=>
     rw[t]at e2;dsimp only at e2;obtain ⟨l,vs,rfl,e3,r3⟩:=CP c1 r1 e2;exact .inl ⟨vs,.inl e3,emp r3⟩
   .cases hf
  .cases hf
noncomputable def EI (i j k:Nat):FG:=λd Y=>match d with
 |.tup [x,y,z]=>some (((Y.set i (some x)).set j (some y)).set k (some z))
 |_=>none
noncomputable abbrev gP3 (K:Yb) (i j k:Nat):TG:=HC K 3 (Dy (Bu i) (Dy (Bu j) (Dy (Bu k) Hb)))
def OQ (r:zJ L H [x,y,z] vs):∃ v1 v2 v3,vs=[v1,v2,v3]/\Rep L H x v1/\Rep L H y v2/\Rep L H z v3:=by
 unfold zJ at r;obtain ⟨v1,r',rfl,h1,r⟩:=r;obtain ⟨v2,v3,rfl,h2,h3⟩:=r.two;exact ⟨v1,v2,v3,rfl,h1,h2,h3⟩
def RK {K:Yb} {i j k:Nat}:GOk (gP3 K i j k) (EI i j k):=by
 intro L H Y Y' τ d v Q rs r hf q;unfold EI at hf;split at hf
 .rename_i x y z;cases hf;unfold Rep at r;obtain ⟨a,vs,rfl,e,r⟩:=r;obtain ⟨v1,v2,v3,rfl,r1,r2,r3⟩:=OQ r;exact ⟨a,_,rfl,.of e,rfl,v1,[v2,v3],rfl,v2,[v3],rfl,v3,[],rfl,rfl,q _ (((rs.set r1).set r2).set r3)⟩
 .cases hf
def ZA {K:Yb} {own:Yj} {i j k:Nat} (hi:i∈own) (hj:j∈own) (hk:k∈own):CF own (gP3 K i j k) (EI i j k):=by
 intro L H Y Y' τ τ0 d v Q rs ex r hf q;unfold EI at hf;split at hf
 .rename_i x y z;cases hf;unfold Rep at r;obtain ⟨a,vs,rfl,e,r⟩:=r;obtain ⟨v1,v2,v3,rfl,r1,r2,r3⟩:=OQ r;exact ⟨a,_,rfl,.of e,rfl,v1,[v2,v3],rfl,v2,[v3],rfl,v3,[],rfl,rfl,q _ (((rs.set r1).set r2).set r3) (((ex.set hi).set hj).set hk)⟩
 .cases hf
end
def dI {its:List Value} {i:Int} (e:s.heap.get? l=some { cls:=.type "list", data:=.seq its.toArray n }) (hfit:¬ (!Builtin.List.listFitsIndex i)=true) (h0:¬ (i<0)) (hz:its.toArray.size<=sizeLine)
  (h:∀ g:Array Value->Array Value,g its.toArray=(its.take (min i.toNat its.length)++[u2]++its.drop (min i.toNat its.length)).toArray->Q .none { s with heap:=s.heap.update l (Obj.mapSeq g),toks:=s.toks }) :
  wpAny (model prog w) A (call (.builtin "list.insert") [.ref l,.int i t,u2]) Q E s:=by
 have hm:=@AutoSeq1.list_insert_list_int_val_1 l its.toArray n i t u2 hfit hz;have h1:s.TypeIs (.ref l) "list" := ⟨_,e,rfl⟩;refine call_meets (B:=Builtin.«list.insert») (self:=.ref l) (rest:=[.int i t,u2]) F.slot_list_insert h1 F.entry_list_insert (F.args_list_insert_3 _ _ _) hm ⟨e,?_⟩;refine h _ ?_;simp only[h0,if_false,AR];simp;exact Fx (by simp)
def RT:V->List V->Hp->VK->Prop:=λx vs H Q=>∃ (l:Yt) (i:Int) (y:V) (xs:List V),x=.ref l/\vs=[.int i,y]/\H l=some (.lst xs)/\0<=i/\i.toNat<=xs.length/\xs.length<sizeLine/\Q .non (upd H l (.lst (xs.take i.toNat++[y]++xs.drop i.toNat)))
def Uy:MtM X "list.insert" RT:=by
 intro zB s Y H x vs v us Q I rx rv h;obtain ⟨l,i,y,xs,rfl,rfl,hH,h0,hi,hz,q⟩:=h;cases rx;obtain ⟨u,u2,rfl,⟨t,rfl⟩,ru2⟩:=rv.two;obtain ⟨z,its,n,r,hl,e⟩:=I.lstM hH;have hs:(sizeLine:Nat)<2 ^ 62:=by decide
 have hi1 : -(2 ^ 63)<=i:=by omega
 have hi2:i<2 ^ 63:=by omega
 refine dI (its:=its) e (by rw[fitsIndex_both hi1 hi2];exact BA) (by omega) (by rw[AR,<-hl];exact DB hz) λg hg=>?_;rw[Nat.min_eq_left (by omega)]at hg;exact ⟨.non,_,I.lset (its':=its.take i.toNat++[u2]++its.drop i.toNat) (ys:=xs.take i.toNat++[y]++xs.drop i.toNat) hH e hg (((r.take i.toNat).append (.cons ru2 .nil)).append (r.drop i.toNat)) (by simp;omega),rfl,q⟩
noncomputable def Gk:KM:=λx ds M=>match x,ds with
 |.dat (.ref n),[.int i,d]=>match M[n]? with
  |some (.lst xs)=>if 0<=i/\i.toNat<=xs.length/\xs.length<sizeLine then some (.non,M.set n (.lst (xs.take i.toNat++[d]++xs.drop i.toNat))) else none
  |_=>none
 |_,_=>none
theorem Q9:∀ (k:Nat) {ds:List D} {vs:List V},zJ L H ds vs->zJ L H (ds.take k) (vs.take k)
 |0,_,_,_=> .nil
 |k+1,[],vs,h=>by unfold zJ at h;subst h;exact .nil
 |k+1,d::ds,vs,h=>by
  unfold zJ at h;obtain ⟨v,r,rfl,h1,h2⟩:=h;exact .cons h1 (Q9 k h2)
theorem ND:∀ (k:Nat) {ds:List D} {vs:List V},zJ L H ds vs->zJ L H (ds.drop k) (vs.drop k)
 |0,_,_,h=>h
 |k+1,[],vs,h=>by unfold zJ at h;subst h;exact .nil
 |k+1,d::ds,vs,h=>by
  unfold zJ at h;obtain ⟨v,r,rfl,h1,h2⟩:=h;exact ND k h2
def k9 {K:Yb}:Ha K RT Gk:=by
 intro L M M' H H0 x ds d v vs Q c rx rd hk q;unfold Gk at hk;split at hk
 .rename_i n i d';split at hk
  .rename_i xs e1;split at hk
   .rename_i hz;cases hk;unfold zW Rep at rx;obtain ⟨a,rfl,e2⟩:=rx;obtain ⟨ws,e3,r3⟩:=c.obj n a _ e2 e1;obtain ⟨w1,w2,rfl,r4,r5⟩:=rd.two;have hw:w1=.int i:=by unfold Rep at r4;exact r4
    subst hw;obtain ⟨c5,s5⟩:=c.write e2 e1 (((Q9 i.toNat r3).app (.cons r5 .nil)).app (ND i.toNat r3));exact ⟨a,i,w2,ws,rfl,rfl,e3,hz.1,by rw[r3.length];exact hz.2.1,by rw[r3.length];exact hz.2.2,q L _ _ s5 c5 (by unfold Rep;rfl)⟩
   .cases hk
  .cases hk
 .cases hk
def TV (h:QE X a f) (hg:QA X [x1,x2] fg) (hbase:attributeBase a "insert" X.env (eval a X.env)=eval a X.env:=by rfl)
  (hfew:((backTo cpos (starEach [x1,x2] X.env)).all (λx=> !x.1)&&(backToKw cpos (keywordEach [] X.env)).all (λx=>x.1.isSome)&&decide ([x1,x2].length+([]:List Keyword).length+(if ([]:List Keyword).isEmpty then 0 else 1)<30))=true:=by rfl)
  (hline:(apos.endLine==cpos.line)=true:=by rfl) (hs:starEach [x1,x2] X.env=(false,eval x1 X.env)::starEach [x2] X.env:=by rfl) (hplain:(backTo cpos (starEach [x2] X.env)).any (·.1)=false:=by rfl) :
  QE X (.Call (.Attribute a "insert" apos) [x1,x2] [] cpos) (fM Gk f fg) :=
 .mk <| PE.imp (Ig PySem.F.plainAttrs_list PySem.F.slot_list_insert PySem.F.type_list_insert Uy h.un hg.un hbase hfew hline hs hplain) λ_ _ _ z=>Js k9 z
noncomputable def ES (fg:FG) (tc:FT) (fi2:FI) (own2:Yj) (fg2:FG) (tc2:FT) (te:FE) (Y:Sd) (all:List D) (gd:Option (Mem->Prop)):List D->List D->Mem->Option (List D × Mem)
 |[],acc,M=>open Classical in if BD gd all M then some (acc,M) else none
 |x::r,acc,M=>open Classical in if BD gd all M then match fg x Y with
   |some σ1=>match tc σ1 M with
    |some (true,M1)=>match fi2 σ1 M1 with
     |some (ys,gd2,M2)=>if acc.length+ys.length<=sizeLine then match A7 fg2 tc2 te (Ac own2 σ1) ys gd2 ys M2 with
       |some (ds,M3)=>ES fg tc fi2 own2 fg2 tc2 te Y all gd r (acc++ds) M3
       |none=>none
      else none
     |none=>none
    |some (false,M1)=>ES fg tc fi2 own2 fg2 tc2 te Y all gd r acc M1
    |none=>none
   |none=>none
  else none
noncomputable def Fs (own own2:Yj) (fi:FI) (fg:FG) (tc:FT) (fi2:FI) (fg2:FG) (tc2:FT) (te:FE):FE:=λY M=>match fi Y M with
 |some (xs,gd,M1)=>match ES fg tc fi2 own2 fg2 tc2 te (Ac own Y) xs gd xs [] M1 with
  |some (ys,M2)=>some (.fl ys,M2)
  |none=>none
 |none=>none
def Xq {K:Yb} {own own2:Yj} {fi fi2:FI} {g g2:TG} {fg fg2:FG} {tc tc2:FT} {te:FE} (hg:CF own g fg) (hg2:CF own2 g2 fg2) {τ:Sv} {H:Hp} {Q:VK} (h:trE K (Fs own own2 fi fg tc fi2 fg2 tc2 te) τ H Q) :
  Oj own own2 (trI K fi) g (trT K tc) (trI K fi2) g2 (trT K tc2) (trD K (toD te)) τ H Q:=by
 obtain ⟨L,Y,M,d,Mf,c,rs,hf,q⟩:=h;unfold Fs at hf;split at hf
 .rename_i xs gd M1 e1;split at hf
  .rename_i zs M2 e2;cases hf;refine (mkI c rs e1 (λL1 H1 J s1 c1 it=>?_))
   refine ⟨λi m ys H'=>m=xs.length-i/\i<=xs.length /\ ∃ L' M' as,Stp L1 H1 L' H'/\Cor K L' M' H'/\zJ L' H' as ys/\as.length<=sizeLine/\ES fg tc fi2 own2 fg2 tc2 te (Ac own Y) xs gd (xs.drop i) as M'=some (zs,Mf),
    ⟨xs.length,by simp,BQ _,L1,M1,[],.refl _ _,c1,.nil,BQ _,by simpa using e2⟩,?_⟩
   intro i m ys H' hI;refine Classical.byContradiction λG=>?_;obtain ⟨eI1,hi,L',M',as,s',c',r',hl,e'⟩:=hI;refine G ?_;clear G;subst eI1;by_cases hlt:i<xs.length
   .rw[Gv hlt]at e';unfold ES at e';split at e'
    .rename_i hgd;obtain ⟨step,_⟩:=it L' H' M' s' c' hgd;obtain ⟨go,yl⟩:=step i xs[i] (AS hlt);split at e'
     .rename_i σ1 eg;refine .inr ⟨go,λv H2 hy=>?_⟩;obtain ⟨gr,rv⟩:=yl v H2 hy;have s2:Stp L1 H1 L' H2:=s'.yld gr;refine hg (GO own ((rs.stp s1).stp s2)) (.refl _) rv eg λτ2 r2 x2=>⟨x2,?_⟩;split at e'
      .rename_i M3 e3;split at e'
       .rename_i ys2 gd2 M4 e4;split at e'
        .rename_i hz2;split at e'
         .rename_i ds M5 e5;refine (mkT (c'.grow gr) r2 e3 (λL3 H3 s3 c3=>Dd ?_));have st3:Stp L' H' L3 H3:=(Stp.grow gr).trans s3;refine (mkI c3 (r2.stp s3) e4 (λL4 H4 J2 s4 c4 it2=>?_))
          refine ⟨λj m2 ws H5=>m2=ys2.length-j/\j<=ys2.length /\ ∃ L5 M6 bs cs,Stp L4 H4 L5 H5/\Cor K L5 M6 H5/\zJ L5 H5 (as++bs) ws/\bs.length<=j/\A7 fg2 tc2 te (Ac own2 σ1) ys2 gd2 (ys2.drop j) M6=some (cs,M5)/\bs++cs=ds,
           ⟨ys2.length,by simp,BQ _,L4,M4,[],ds,.refl _ _,c4,by simpa using (r'.stp st3).stp s4,AF _,by simpa using e5,rfl⟩,?_⟩
          intro j m2 ws H5 hI;refine Classical.byContradiction λG=>?_;obtain ⟨eI1,hj,L5,M6,bs,cs,s5,c5,r5,hbl,e6,hbc⟩:=hI;refine G ?_;clear G;subst eI1;have hws:ws.length<=as.length+j:=by rw[r5.length,An];omega
          by_cases hlt2:j<ys2.length
          .rw[Gv hlt2]at e6;unfold A7 at e6;split at e6
           .rename_i hgd2;obtain ⟨step2,_⟩:=it2 L5 H5 M6 s5 c5 hgd2;obtain ⟨go2,yl2⟩:=step2 j ys2[j] (AS hlt2);split at e6
            .rename_i σ2 eg2;refine .inr ⟨go2,λv2 H6 hy2=>?_⟩;obtain ⟨gr2,rv2⟩:=yl2 v2 H6 hy2;have s6:Stp L4 H4 L5 H6:=s5.yld gr2;refine hg2 (GO own2 (((r2.stp s3).stp s4).stp s6)) (.refl _) rv2 eg2 λτ3 r3 x3=>⟨x3,?_⟩;split at e6
             .rename_i M7 e7;split at e6
              .rename_i d M8 e8;split at e6
               .rename_i ds' M9 e9;cases e6;refine (mkT (c5.grow gr2) r3 e7 (λL7 H7 s7 c7=>Dd ?_));refine (mkD c7 (r3.stp s7) e8 (λL8 H8 w s8 c8 r8=>?_));have st:Stp L5 H5 L8 H8:=((Stp.grow gr2).trans s7).trans s8;refine ⟨by omega,ys2.length-(j+1),by omega,rfl,hlt2,L8,M8,bs++[d],ds',s5.trans st,c8,?_,by simp;omega,e9,by rw[<-hbc];simp⟩;have:=(r5.stp st).app (.cons r8 .nil);simpa using this
               .cases e6
              .cases e6
             .rename_i M7 e7;refine (mkT (c5.grow gr2) r3 e7 (λL7 H7 s7 c7=>DT ?_));have st:Stp L5 H5 L7 H7:=(Stp.grow gr2).trans s7;exact ⟨ys2.length-(j+1),by omega,rfl,hlt2,L7,M7,bs,cs,s5.trans st,c7,r5.stp st,by omega,e6,hbc⟩
             .cases e6
            .cases e6
           .cases e6
          .have hj':j=ys2.length:=by omega
           subst hj';rw[List.drop_length]at e6;unfold A7 at e6;split at e6
           .rename_i hgd2;cases e6;obtain ⟨_,stop2⟩:=it2 L5 H5 _ s5 c5 hgd2;rw[BF]at hbc;subst hbc;refine .inl ⟨stop2,xs.length-(i+1),by omega,rfl,hlt,L5,M5,as++bs,s'.trans ((st3.trans s4).trans s5),c5,r5,by rw[An];omega,e'⟩
           .cases e6
         .cases e'
        .cases e'
       .cases e'
      .rename_i M3 e3;refine (mkT (c'.grow gr) r2 e3 (λL3 H3 s3 c3=>DT ?_));have st:Stp L' H' L3 H3:=(Stp.grow gr).trans s3;exact ⟨xs.length-(i+1),by omega,rfl,hlt,L3,M3,as,s'.trans st,c3,r'.stp st,hl,e'⟩
      .cases e'
     .cases e'
    .cases e'
   .have hi':i=xs.length:=by omega
    subst hi';rw[List.drop_length]at e';unfold ES at e';split at e'
    .rename_i hgd;cases e';obtain ⟨_,stop⟩:=it L' H' _ s' c' hgd;refine .inl ⟨stop,by rw[r'.length];exact hl,λp hp=>?_⟩;exact q L' _ _ ((s1.trans s').trans (.upd hp)) (c'.upd hp) (zW.newLst (s1.trans s') c c' hp r')
    .cases e'
  .cases hf
 .cases hf
section
variable {X:Cx} {scope:Y0} {elt t1 i1 t2 i2:Expr} {f1 f2:Yi} {pos:Pos}
structure QParts2 (X:Cx) (scope:Y0) (t1:Expr) (f1:Yi) (t2 i2:Expr) (f2:Yi) (elt:Expr) (g:TG) (tc:FT) (fi2:FI) (g2:TG) (tc2:FT) (te:FE):Prop where
 g:∀ zB cl s H fp,PG (zH X zB scope cl s H fp) t1 g
 c:∀ zB cl s H fp,QIfs (zH X zB scope cl s H fp) f1 tc
 w2:∀ zB cl s H fp,QI (zH X zB scope cl s H fp) t2 i2 fi2
 g2:∀ zB cl s H fp,PG (zH X zB scope cl s H fp) t2 g2
 c2:∀ zB cl s H fp,QIfs (zH X zB scope cl s H fp) f2 tc2
 e:∀ zB cl s H fp,QE (zH X zB scope cl s H fp) elt te
 s2:∀ zB cl s H fp x,foldedSetIterable i2 (zH X zB scope cl s H fp).env x=pure x
def dM {own own2:Yj} {fi fi2:FI} {g g2:TG} {fg fg2:FG} {tc tc2:FT} {te:FE} (hsub:∀ i∈own2,i∈own) (hg:CF own g fg) (hg2:CF own2 g2 fg2) (C:CompIn X scope own) (hcalm:X.calm=true) (hi:QI X t1 i1 fi) (p:QParts2 X scope t1 f1 t2 i2 f2 elt g tc fi2 g2 tc2 te) (hs:∀ x,foldedSetIterable i1 X.env x=pure x:=by intro _;rfl) :
  QE X (Bh elt t1 i1 f1 t2 i2 f2 scope pos) (Fs own own2 fi fg tc fi2 fg2 tc2 te) :=
 .mk <| PE.imp (aR hsub C hcalm hi.un ⟨p.g,λzB cl s H fp=>(p.c zB cl s H fp).un,λzB cl s H fp=>(p.w2 zB cl s H fp).un,p.g2,λzB cl s H fp=>(p.c2 zB cl s H fp).un,λzB cl s H fp=>(Cp (p.e zB cl s H fp)).un,p.s2⟩ hs) λ_ _ _ h=>Xq hg hg2 h
end
end L3
namespace L2
def VF (hN:X.N.Nodup) (hi':X.N[i]?=some x) (hx:Loc X.env.scope x) (hfn:X.fn x=true\/X.env.scope.names.lookup x=some .local)
  (hsw:swapsWith (.DictComp kx vx [⟨tg,iter,ifs,0⟩] scope pos) (some (.Name x pos')) pos''.line X.env=pure true)
  (hu:X.A.units+1<cLine) (C:CompIn X scope own) (hcalm:X.calm=true) (hi:PI X tg iter wi) (p:CompParts X scope tg ifs kx g tc tk) (p2:∀ zB cl s H fp,PE (zH X zB scope cl s H fp) vx tv) (hs:∀ x,foldedSetIterable iter X.env x=pure x:=by intro _;rfl) :
  PS X (.Assign [.Name x pos'] (.DictComp kx vx [⟨tg,iter,ifs,0⟩] scope pos) pos'') (HD (MN isT own wi g tc tk tv) (Bu i)):=by
 intro zB s Y H D I h;obtain ⟨cl,hcl,c1,c2⟩:=C.sc.closure I;rw[exec_Assign_Name_used _ _ _ _ hsw];refine AA (B1 (AA ?_));show wpAny _ X.A (do let _ <- comprehension (.DictComp kx vx [⟨tg,iter,ifs,0⟩] scope pos) scope X.env _ newDict false (eval iter X.env) (some (assign (.Name x pos') X.env))) _ _ s
 refine AA (AN (Ge (use:=some (assign (.Name x pos') X.env)) (Q:=λ_ s'=>SP X zB D .next s') rfl hs hcl C.sc.kind C.sc.names
  (thn (hi zB s Y H _ I h) λv s1 h1=>thn h1 λitv s2 h2=>?_)) (λ_ s' hq=>AD (AD hq)) λ_ _ e=>e)
 obtain ⟨it,fp,tn,J,H2,e,I2,T,st2,f2,hD⟩:=h2;subst e;obtain ⟨W,⟨m0,w0⟩,turn⟩:=hD s2.heap.objs.size (I2.hok.fresh (AF _))
 refine Nq hu C hcalm I2 T st2 f2 c1 c2 (p.g _ _ _ _ _) (p.c _ _ _ _ _) (p.e _ _ _ _ _) (p2 _ _ _ _ _) (RR:=λacc C r s'=>compPost (model X.prog X.w) X.A X.xe (some (assign (.Name x pos') X.env)) (λ_ s'=>SP X zB D .next s') acc C r s')
  (QQ:=λH=>Bu i (.ref s2.heap.objs.size) Y H D.nx) w0 turn ?_
 intro σc H' s' Ic qq;obtain ⟨m,hn,_⟩:=Ic.loc;have J':=QL (h':=s'.heap) I2 f2 Ic (.refl ..);obtain ⟨oC,es,ep,hoC,hdC,r1,r2⟩:=id hn;have nC:H' (s2.heap.objs.size+1)=none:=Ic.free;have K':Inv X (zB++[(s2.heap.objs.size+1,oC)]) Y H' s':=J'.pins_of λq hq=>by
  rcases Ai.mp hq with z|z
  .exact J'.pin q (Ah _ z)
  .have e:q=(s2.heap.objs.size+1,oC):=by simpa using z
   subst e;refine ⟨hoC,nC,Cz (Cn I2.lt),I2.nofs (DC _),λv z=>?_⟩;have z':oC.data=.cell v:=z;rw[hdC]at z';cases z'
 show wpAny _ X.A (assign (.Name x pos') X.env (.ref s2.heap.objs.size)) _ _ _;refine thn (K9 hN hi' hx hfn _ s' Y _ (.ref s2.heap.objs.size) (.ref s2.heap.objs.size) _ K' rfl qq) λ_ s'' ⟨Y'',H'',I'',q''⟩=>?_;obtain ⟨eC,_⟩:=I''.pin (s2.heap.objs.size+1,oC) (by simp);refine ⟨m,⟨oC,es,ep,eC,hdC,r1,r2⟩,λh' hs'=>⟨Y'',H'',?_,q''⟩⟩;have I3:Inv X zB Y'' H'' s'':=I''.unpinned;obtain ⟨_,nC'',neC,_,_⟩:=I''.pin (s2.heap.objs.size+1,oC) (by simp);refine I3.turned (t':=s''.toks) (it:=s2.heap.objs.size+1) (λb o hb e=>hs'.extBut b o hb e) nC'' neC (.inr (AZ I2.sz (DC _))) (λx c e z=>?_) (λq hq z=>?_)
 .obtain ⟨v,o,ho,hd⟩:=I3.cell x c e;rw[z,eC]at ho;cases ho;rw[hdC]at hd;cases hd
 .obtain ⟨e,_⟩:=I2.pin q hq;exact Ab (Cn (AH e)) z
end L2
namespace L3
open L2
section
variable {isT:Bool}
def Wi (hN:X.N.Nodup) (hi':X.N[i]?=some x) (hx:Loc X.env.scope x) (hfn:X.fn x=true\/X.env.scope.names.lookup x=some .local)
  (hsw:swapsWith (.DictComp kx vx [⟨tg,iter,ifs,0⟩] scope pos) (some (.Name x pos')) pos''.line X.env=pure true)
  (hu:X.A.units+1<cLine) (hg:CF own g fg) (C:CompIn X scope own) (hcalm:X.calm=true) (hi:QI X tg iter fi) (p:QParts X scope tg ifs kx g tc tk) (p2:∀ zB cl s H fp,QE (zH X zB scope cl s H fp) vx tv) (hs:∀ x,foldedSetIterable iter X.env x=pure x:=by intro _;rfl) :
  QS X (.Assign [.Name x pos'] (.DictComp kx vx [⟨tg,iter,ifs,0⟩] scope pos) pos'') (AM i (CL isT own fi fg tc tk tv)) :=
 .mk <| PS.imp (VF (isT:=isT) hN hi' hx hfn hsw hu C hcalm hi.un p.parts (λ_ _ _ _ _=>(Cp (p2 _ _ _ _ _)).un) hs) λ_ _ _ z=>Ly (λ_ _ _ z=>Q6 hg z) z
end
open SeqAt
structure Df (K:Yb) (mg:Yh) (x:Str) (st:Stmt) (ps:Yk) where
 f:Addr
 fd:FuncData
 F:Fun K x x st f fd
 b:GJ K fd ps []
 m:mg x=some (.ref f)
structure Dg (K:Yb) (x:Str) (st:Stmt) where
 f:Addr
 {od an:Option Addr}
 {sl:Array (Option Value)}
 {oc kV dc pm cd ct:Yu}
 a:PySem.W.nsIn K mainGlobals x=some (some (.ref f))
 l:K.lookup f=some ⟨oc,od,.func (PySem.W.fnOf x x (Gp st) (Ey st) (zO st) .none kV dc pm an cd ct),sl⟩
 c:PySem.W.codeIn K cd x=true
 k:PySem.W.keepIn K (.ref f)=true
noncomputable abbrev Dg.df {K:Yb} {x:Str} {st:Stmt} {ps:Yk} {h:Heap} {mg:Yh} (g:Dg K x st) (X:K.In h) (G:h.Ns mainGlobals mg)
  (hb:∀ (kV doc pm:Yu) (an:Option Addr) (cdv ct:Yu) (us:Yf),us.length=ps.length->bindArgs (PySem.W.fnOf x x (Gp st) (Ey st) (zO st) .none kV doc pm an cdv ct) ⟨us,[]⟩=pure (ps.zip us)):Df K mg x st ps :=
 ⟨g.f,_,N5 g.l g.c g.k,(N5 g.l g.c g.k).binds hb,PySem.W.mg_of X G g.a⟩
abbrev Od (P:Ym) (w:Yo) (base:Heap) (k:Nat) {K:Yb} {mg:Yh} {x:Str} {st:Stmt} {ps:Yk} (d:Df K mg x st ps) (m:FF):Prop:=FnOk P w K mg base CX0 k d.f d.fd ps (spF K ps.length m)
abbrev Zn (K:Yb) (x:Str):Prop:=PySem.W.nsIn K mainGlobals x=some none
abbrev Ki (K:Yb) (t T:String) (b:Bool):Prop:=PySem.W.kitOne K (.type t) (.type T)=some b
def DP {P:List Value->Prop} (h:∀ a,P [a]):∀ us:List Value,us.length=1->P us
 |[a],_=>h a
def Dh {P:List Value->Prop} (h:∀ a b,P [a,b]):∀ us:List Value,us.length=2->P us
 |[a,b],_=>h a b
def GL {P:List Value->Prop} (h:∀ a b c,P [a,b,c]):∀ us:List Value,us.length=3->P us
 |[a,b,c],_=>h a b c
def bQ {P:List Value->Prop} (h:∀ a b c d,P [a,b,c,d]):∀ us:List Value,us.length=4->P us
 |[a,b,c,d],_=>h a b c d
section
variable {st:Stmt}
def SY {d:Df X.K X.mg x st ps} (F:FnOk X.prog X.w X.K X.mg X.base CX0 k d.f d.fd ps (spF X.K (e::es).length g)) (hr:Room k X.A) (hg:Gl X x)
  (ha:QA X (e::es) fa) (hl:∀ Y M ds M1,fa Y M=some (ds,M1)->ds.length=(e::es).length) (hdb:(x==("__debug__" : Str))=false) (he:starEach (e::es) X.env=(false,eval e X.env)::starEach es X.env) (hpl:(backTo pos (starEach es X.env)).any (·.1)=false) :
  QE X (.Call (.Name x p) (e::es) [] pos) (zM g fa):=bT F hr hg d.m d.F.kp d.b ha hl hdb he hpl
def Zr (hN:X.N.Nodup) (hi:X.N[i]?=some x) (h:QE X e f) (hx:Loc X.env.scope x:=by first|exact Or.inl rfl|exact Or.inr rfl) (hs:swapsWith e (some (.Name x pos')) pos.line X.env=pure false:=by rfl)
  (hf:X.fn x=true\/X.env.scope.names.lookup x=some .local:=by first|exact .inl rfl|exact .inr rfl|assumption):QS X (.Assign [.Name x pos'] e pos) (AM i f):=Vr hN hi hx h hs hf
def UA (hN:X.N.Nodup) (hi:X.N[i]?=some x) (hx:Loc X.env.scope x:=by first|exact Or.inl rfl|exact Or.inr rfl) (hf:X.fn x=true\/X.env.scope.names.lookup x=some .local:=by first|exact .inl rfl|exact .inr rfl|assumption):PG X (.Name x pos) (Bu i):=K9 hN hi hx hf
end
def W4 (hv:s.heap.IsItemsView v d) (ho:s.heap.get? d=some o) (hdat:o.data=.dict es ep)
  (hQ:Q (.ref s.heap.objs.size) { s with heap:=s.heap.push { cls:=.type "dict_itemiterator", data:=.fields #[.none,.bool false,.ref d,.int 0 0,.int es.size 0,.int ep 0,.none,.none] } }):wpAny (model prog w) A (pyIter (.ref v)) Q E s:=by
 obtain ⟨q,hq,_,hd⟩:=id hv;refine wpAny_pyIter_slot hv.typeIs F.slot_dict_items_iter (BI F.slot_dict_items_iter hv.typeIs F.entry_dict_items_iter ?_ (F.args_dict_items_iter_1 _));unfold Builtin.«dict_items.__iter__»;refine AA (AD (AA ?_));unfold Builtin.Dict_items.dictOf;refine AA (Bc hq hd (x:=.ref d) rfl (AD (AA ?_)));unfold Builtin.Dict_items.newIterator;refine AA (wpAny_dictEntries ho hdat (AA (wpAny_dictEpoch ho hdat ?_)));simp only[show Builtin.Dict_items.ownsTuple "dict_itemiterator" = true by decide,if_true];refine A9 (AD ⟨_,rfl, "dict_itemiterator", _,⟨_,AV _ rfl,rfl⟩,F.slot_dict_itemiterator_next.lookup,?_⟩) (by simp only[sizeOk,Builtin.Dict_items.ownedTupleFields,AR,An,Ba,D7,sizeLine_eq];omega);simpa [rawInt,Builtin.Dict_items.ownedTupleFields] using hQ
def Mi (hh:A.handled=none) (hit:IsItemIter s.heap it d i es.size ep ok ov) (hod:s.heap.get? d=some o) (hdd:o.data=.dict es ep) (hge:es.size<=i)
  (hQ:∀ h',Heap.ExtBut it s.heap h'->Q none { s with heap:=h' }):wpAny (model prog w) A (pyNext (.ref it)) Q E s:=by
 have hT:s.TypeIs (.ref it) "dict_itemiterator" := ⟨_,hit,rfl⟩;unfold pyNext;refine AA (DL (CD (name:=Str.ofString "__next__") hT F.slot_dict_itemiterator_next (BI F.slot_dict_itemiterator_next hT F.entry_dict_itemiterator_next ?_ (F.args_dict_itemiterator_next_1 _))));refine AA (AD (AA (AA ?_)));first|refine AA (wpAny_typeNameOfWhole_itemiter hT (AD ?_))|refine AA (wpAny_typeNameOf_itemiter hT (AD ?_))
 refine AA (wpAny_fieldsOf hit rfl ?_);simp only[show Builtin.Dict_items.ownsTuple "dict_itemiterator" = true by decide,if_true];show wpAny _ _ (if (Value.ref d==Value.none)=true then _ else _) _ _ s;rw[AE (show ¬ ((Value.ref d==Value.none)=true)from BA)];refine AA (AD (AA (wpAny_dictEntries hod hdd ?_)));rw[AE (by simp)];refine AA (AD (AA (wpAny_dictEpoch hod hdd ?_)));rw[AE (by simp)];refine AD ?_;simp only[show ¬ ((i:Int)<0)from by omega,if_false,Int.toNat_natCast,Array.getElem?_eq_none hge];refine AA ?_;first|refine AA (wpAny_typeNameOfWhole_itemiter hT (AD ?_))|refine AA (wpAny_typeNameOf_itemiter hT (AD ?_))
 show wpAny _ _ (setField (.ref it) 2 .none >>= _) _ _ s;refine AA (Dn hit rfl (by simp) ?_);refine AA ?_;simp only[newExc,newTuple];refine AA (A9 ?_ (by size_fits));refine AA (m:=firstArgMember _ _) (wpAny_of_eq (a:=Value.none) (by first|rfl|(simp only[firstArgMember];rfl)) ?_);refine A9 ?_ (by size_fits);simp only[raiseNew];refine AA (wpAny_handled ?_);rw[show A.in1.handled=none from hh];refine AA (AD (wpAny_throw ?_));refine AA (wpAny_isInstance (T := "StopIteration") (b:=true) ⟨_,AV _ rfl,rfl⟩ isSubtype_stop ?_);exact AD (hQ _ (((C5 ..).extBut.push _).push _))
def bG (hit:IsItemIter s.heap it d i es.size ep ok ov) (hod:s.heap.get? d=some o) (hdd:o.data=.dict es ep) (hx:es[i]?=some e)
  (hQ:∀ h',IsItemIterOut h' it d (i+1) es.size ep e.key e.val s.heap.objs.size->h'.get? s.heap.objs.size=some { cls:=.type "tuple", data:=.seq #[e.key,e.val] }->(∀ b o,b≠it->s.heap.get? b=some o->h'.get? b=some o)->Q (some (.ref s.heap.objs.size)) { s with heap:=h' }) :
  wpAny (model prog w) A (pyNext (.ref it)) Q E s:=by
 obtain ⟨hp,g,dr,tk,os⟩:=s;have hT:Shared.TypeIs ⟨hp,g,dr,tk,os⟩ (.ref it) "dict_itemiterator" := ⟨_,hit,rfl⟩;obtain ⟨hlt,hxe⟩:=Array.getElem?_eq_some_iff.mp hx;unfold pyNext;refine AA (DL (CD (name:=Str.ofString "__next__") hT F.slot_dict_itemiterator_next (BI F.slot_dict_itemiterator_next hT F.entry_dict_itemiterator_next ?_ (F.args_dict_itemiterator_next_1 _))));refine AA (AD (AA (AA ?_)));first|refine AA (wpAny_typeNameOfWhole_itemiter hT (AD ?_))|refine AA (wpAny_typeNameOf_itemiter hT (AD ?_))
 refine AA (wpAny_fieldsOf hit rfl ?_);simp only[show Builtin.Dict_items.ownsTuple "dict_itemiterator" = true by decide,if_true];show wpAny _ _ (if (Value.ref d==Value.none)=true then _ else _) _ _ _;rw[AE (show ¬ ((Value.ref d==Value.none)=true)from BA)];refine AA (AD (AA (wpAny_dictEntries hod hdd ?_)));rw[AE (by simp)];refine AA (AD (AA (wpAny_dictEpoch hod hdd ?_)));rw[AE (by simp)];refine AD ?_;simp only[show ¬ ((i:Int)<0)from by omega,if_false,Int.toNat_natCast,Cd hlt,hxe];refine AA ?_;first|refine AA (wpAny_typeNameOfWhole_itemiter hT (AD ?_))|refine AA (wpAny_typeNameOf_itemiter hT (AD ?_))
 refine AA (wpAny_isOneOf_itemiter hT ?_);show wpAny _ _ (setField (.ref it) 3 (rawInt ((i:Int)+1)) >>= _) _ _ ⟨hp,g,dr,tk,os⟩;refine AA (DR hit (by simp) λh1 he1 hs1=>?_);replace hs1:Heap.SameBut it hp h1:=hs1;replace he1:IsItemIter h1 it d (i+1) es.size ep ok ov:=by
  have q:((i+1:Nat):Int)=(i:Int)+1:=by omega
  unfold IsItemIter;rw[q];simpa [rawInt] using he1
 have hT1:Shared.TypeIs ⟨h1,g,dr,tk,os⟩ (.ref it) "dict_itemiterator" := ⟨_,he1,rfl⟩;refine AA (B2 (AA (wpAny_isOneOf_itemiter hT1 (AA (wpAny_isOneOf_itemiter hT1 ?_)))));unfold Builtin.Dict_items.pairFromOwner;refine AA (wpAny_newTuple ?_);have he2:IsItemIter (h1.push { cls:=.type "tuple", data:=.seq #[e.key,e.val] }) it d (i+1) es.size ep ok ov:=AJ _ he1;generalize hh2:h1.push { cls:=.type "tuple", data:=.seq #[e.key,e.val] }=h2 at he2;have z1:h1.objs.size=hp.objs.size:=hs1.1;have hil:it<hp.objs.size:=AH hit;have t2:h2.get? hp.objs.size=some { cls:=.type "tuple", data:=.seq #[e.key,e.val] }:=by rw[<-hh2,<-z1];exact AV _ rfl
 have k2:∀ b o,b≠it->hp.get? b=some o->h2.get? b=some o:=λb o hb q=>by rw[<-hh2];exact AJ _ (hs1.extBut b o hb q)
 show wpAny _ _ (Builtin.Dict_items.ownedTupleIsFree (.ref it) >>= _) _ _ ⟨h2,g,dr,tk,os⟩;rw[z1];refine AA ?_;unfold Builtin.Dict_items.ownedTupleIsFree;refine AA (Bc he2 rfl (x:=.none) rfl (AD ?_));simp only[if_true];refine AA (Bc he2 rfl (x:=ok) rfl (AA (Bc he2 rfl (x:=ov) rfl ?_)));refine AA (DR he2 (by simp) λh3 he3 hs3=>?_);replace he3:IsItemIter h3 it d (i+1) es.size ep e.key ov:=he3;replace hs3:Heap.SameBut it h2 h3:=hs3;refine AA (DR he3 (by simp) λh4 he4 hs4=>?_);replace he4:IsItemIter h4 it d (i+1) es.size ep e.key e.val:=he4;replace hs4:Heap.SameBut it h3 h4:=hs4;refine AA (DR he4 (by simp) λh5 he5 hs5=>?_);replace he5:IsItemIterOut h5 it d (i+1) es.size ep e.key e.val hp.objs.size:=he5;replace hs5:Heap.SameBut it h4 h5:=hs5;refine AA (DR he5 (by simp) λh6 he6 hs6=>?_);replace he6:IsItemIterOut h6 it d (i+1) es.size ep e.key e.val hp.objs.size:=he6;replace hs6:Heap.SameBut it h5 h6:=hs6;have up:∀ b o,b≠it->h2.get? b=some o->h6.get? b=some o:=λb o hb q=>hs6.extBut b o hb (hs5.extBut b o hb (hs4.extBut b o hb (hs3.extBut b o hb q)));exact AA (wpAny_letGo (AD (AD ⟨_,rfl,AD (hQ h6 he6 (up _ _ (Cz hil) t2) λb o hb q=>up b o hb (k2 b o hb q))⟩)))
def T7 (d:Yt) (hd:(d==sysModules)=false) :
  MeetsIn prog w (Builtin.«dict.items» ⟨[.ref d],[]⟩) (λ_ R s=>s.TypeIs (.ref d) "dict" /\ R (.ok (.ret (.ref s.heap.objs.size))) { s with heap:=s.heap.push { cls:=.type "dict_items", data:=.fields #[.ref d] } }) :=
 .of_wp λA R s ⟨hT,h⟩=>by
  unfold Builtin.«dict.items»;refine AA ?_;unfold Builtin.Dict.noArgs;refine AA (wpAny_notOrdered_dict hT ?_);refine AD ?_;unfold Builtin.Dict.showsAll;rw[AE (by rw[hd];exact BA)];exact AA (AD (AA (A9 (AD ⟨_,rfl,h⟩))))
def jU:entryFor table "dict_itemiterator.__iter__" = some Builtin.«dict_keyiterator.__iter__»:=entryFor_alias (id' := "dict_keyiterator.__iter__") (by kernel_rfl) rfl (by decide+kernel) (by kernel_rfl)
def Vv (he:IsItemIter s.heap it d i n ep ok ov) (h:Q (.ref it) s):wpAny (model prog w) A (pyIter (.ref it)) Q E s:=by
 have hT:s.TypeIs (.ref it) "dict_itemiterator" := ⟨_,he,rfl⟩;refine wpAny_pyIter_slot hT F.slot_dict_itemiterator_iter (BI F.slot_dict_itemiterator_iter hT jU ?_ (F.args_dict_itemiterator_iter_1 _));show wpAny _ _ (ret (.ref it)) _ _ s;exact AD ⟨_,rfl, "dict_itemiterator", _,hT,F.slot_dict_itemiterator_next.lookup,h⟩
noncomputable def Q3 (d:Yt) (o:Obj) (kvs:List (List Key × V)):It :=
 ⟨λi H=>H d=some (.frz o (.dT kvs))/\i<kvs.length,
  λi H v H'=>∃ T b k x,kvs[i]?=some (k,x)/\v=.ref T/\H T=none/\H b=some (.tup (k.map kV))/\H'=upd H T (.tup [.ref b,x]),
  λi H=>H d=some (.frz o (.dT kvs))/\kvs.length<=i⟩
def Jb (I:Inv X zB Y H s) (hd:o.data=.dict es ep) (e:H d=some (.frz o (.dT kvs))) :
  s.heap.get? d=some o /\ ∃ xs,KT H kvs xs/\es.toList=xs.map (entryOfKey (tupleKind (Bb X.prog X.w)))/\kvs.length=es.size:=by
 obtain ⟨h0,_,_,xs,r,o',es',ep',h1,_,h3,h4,_⟩:=(show z0 X.prog X.w H s.heap d (.frz o (.dT kvs))from I.hok d _ e);rw[h0]at h1;cases h1;rw[hd]at h3;cases h3;refine ⟨h0,xs,r,h4,?_⟩;have h5:es.toList.length=xs.length:=by rw[h4,AG]
 rw[Paired.length r,<-h5,BK]
def NQ:∀ {kvs:List (List Key × V)} {xs:List (List Key × Addr × Value)} {i:Nat} {k:List Key} {x:V},KT H kvs xs->kvs[i]?=some (k,x) -> ∃ b u,xs[i]?=some (k,b,u)/\H b=some (.tup (k.map kV))/\zj x u:=by
 intro kvs xs i k x r;induction r generalizing i with
 |nil=>intro e;cases e
 | @cons p q ps qs hq t ih=>
  intro e;cases i with
  |zero=>
   cases e;obtain ⟨q1,q2,q3⟩:=q;exact ⟨q2,q3,by rw[show k=q1 from hq.1];rfl,hq.2.1,hq.2.2⟩
  |succ j=>exact ih e
def XH {P:Ym} {w:Yo} {K:Yb} {tes:Yi} {ek:Nat} {ep:Pos} {it d:Yt} {o:Obj} {kvs:List (List Key × V)} {es:Array DictEntry} {en:Nat} (hd:o.data=.dict es en) :
  Turn P w K (.Tuple tes ek ep) (Q3 d o kvs) [it] it (λi h=>∃ ok ov,IsItemIter h it d i es.size en ok ov) where
 mem:=Aq.mpr rfl;obj:=λi h ⟨ok,ov,he⟩ c hc=>by
  cases Aq.mp hc;exact ⟨_,he,λv m=>by cases m⟩
 keep:=λi h h' ⟨ok,ov,he⟩ k=>⟨ok,ov,k it (Aq.mpr rfl) _ he⟩;item:=by
  intro X hP hw hK hc i zB s Y H E I hf Z hg;subst hP hw hK;obtain ⟨ok,ov,he⟩:=Z;obtain ⟨hg,hi⟩:=hg;obtain ⟨h0,xs,r,h4,hl⟩:=Jb I hd hg;rcases hkx:kvs[i]with ⟨k,x⟩;have hk:kvs[i]?=some (k,x):=by rw[AS hi,hkx]
  obtain ⟨b,u,h5,h6,h7⟩:=NQ r hk;have hx:es[i]?=some (entryOfKey (tupleKind (Bb X.prog X.w)) (k,b,u)):=by
   rw[<-Bj,h4,Az,h5];rfl
  have ilt:it<s.heap.objs.size:=AH he;refine bG he h0 hd hx λh' ho hT kp=>⟨_,rfl,wpAny_letOwnedTupleGo_items ho λh2 he2 e2=>?_⟩;have kk:∀ c q,c∉[it]->s.heap.get? c=some q->h2.get? c=some q:=λc q n z=>e2.extBut _ _ (λy=>n (Aq.mpr y)) (kp c q (λy=>n (Aq.mpr y)) z);have NT:=e2.extBut _ _ (Cz ilt) hT;have hfr:H s.heap.objs.size=none:=I.hok.fresh (AF _);refine ⟨.ref s.heap.objs.size,upd H s.heap.objs.size (.tup [.ref b,x]),Lz (s:=s) (h':=h2) (t':=s.toks) I hf kk (AF _) ?_,rfl,⟨_,b,k,x,hk,rfl,hfr,h6,rfl⟩,⟨_,_,he2⟩,λc hm=>?_⟩
  .exact ⟨by show 2<=sizeLine;decide,[.ref b,u],.cons rfl (.cons h7 .nil),⟨_,NT,rfl,⟨_,rfl⟩,rfl⟩⟩
  .cases Aq.mp hm;rw[zT (Ab ilt)];exact (hf it hm).1
 done:=by
  intro X hP hw hK hc i zB s Y H E I hf Z hg;subst hP hw hK;obtain ⟨ok,ov,he⟩:=Z;obtain ⟨hg,hi⟩:=hg;obtain ⟨h0,xs,r,h4,hl⟩:=Jb I hd hg;exact Mi (I.ok.hd hc) he h0 hd (by omega) λh' x=>⟨rfl,Hf (s:=s) (h':=h') (t':=s.toks) I hf λc q n z=>x c q (λy=>n (Aq.mpr y)) z⟩
 self:=λA i s Q E Z h=>by
  obtain ⟨ok,ov,he⟩:=Z;exact Vv he h
def NY (I:Inv X zB Y H s) (ed:H d=some (.dT kvs)):∃ o es en,s.heap.get? d=some o/\o.data=.dict es en/\Inv X zB Y (upd H d (.frz o (.dT kvs))) s:=by
 obtain ⟨z1,z2,xs,r,o,es',en,h1,h2,h3,h4,h5⟩:=(show z0 X.prog X.w H s.heap d (.dT kvs)from I.hok d _ ed);refine ⟨o,es',en,h1,h3,IA (s:=s) (h':=s.heap) (t':=s.toks) (ob:=.frz o (.dT kvs)) I (by rw[ed];exact True.intro) (Heap.SameBut.refl _ _) ⟨o,h1⟩ ⟨h1,z1,z2,xs,KT.keeps r λc ys ec=>?_,o,es',en,h1,h2,h3,h4,h5⟩⟩;rw[zT (Fo ec ed (λz=>nomatch z))];exact ec
def UU {td:TE} (ho:PE X e td) (hbase:attributeBase e "items" X.env (eval e X.env)=eval e X.env:=by rfl) (hline:(apos.endLine==cpos.line)=true:=by rfl) :
  PI X (.Tuple es ek ep) (.Call (.Attribute e "items" apos) [] [] cpos) (λY H R=>td Y H λx H1=>∃ d kvs,x=.ref d/\H1 d=some (.dT kvs) /\ ∀ o,R (Q3 d o kvs) (upd H1 d (.frz o (.dT kvs)))):=by
 intro zB s Y H R I h;refine wpAny_Call_method0_late hbase hline (thn (ho zB s Y H _ I h) λv s1 ⟨x,H1,I1,r1,d,kvs,ex,ed,q⟩=>?_);subst ex;cases r1;obtain ⟨t1,t2,t3⟩:=Ik I1 (.inr ⟨kvs,.inl ed⟩);refine ⟨"dict", "dict.items", PySem.F.plainAttrs_dict,PySem.F.slot_dict_items,PySem.F.type_dict_items,t1,t2,Calls.callWith_builtin rfl (PySem.evalArgs_none ?_)⟩;refine call_meetsIn PySem.F.slot_dict_items t1 PySem.F.entry_dict_items (PySem.F.args_dict_items_1 _) (T7 d t3) ⟨t1,?_⟩;obtain ⟨o,es',en,h1,h3,I0⟩:=NY I1 ed;refine W4 (d:=d) (o:=o) (es:=es') (ep:=en) ⟨_,AV _ rfl,rfl,rfl⟩ (AJ _ h1) h3 ?_;have ge:s1.heap.objs.size<=(s1.heap.push { cls:=.type "dict_items", data:=.fields #[.ref d] }).objs.size:=by rw[Bv];exact DC _
 refine ⟨_,[_],_,_,_,rfl,I0.kept (t':=s1.toks) λb q z=>AJ _ (AJ _ z),XH h3,⟨_,_,AV _ rfl⟩,λc hc=>?_,q o⟩;cases Aq.mp hc;exact I0.fpOk ge (I0.hok.fresh ge)
def bV (h:B4 d=some k):Rep L H d (kV k):=by
 cases d with
 |int i=>cases h;unfold Rep;rfl
 |str x=>cases h;unfold Rep;rfl
 |_=>cases h
theorem NX:∀ {ds:List D} {ks:List Key},DF ds=some ks->zJ L H ds (ks.map kV)
 |[],ks,h=>by cases h;exact .nil
 |d::ds,ks,h=>by
  unfold DF at h;cases e1:B4 d with
  |none=>rw[e1]at h;cases h
  |some k=>
   cases e2:DF ds with
   |none=>rw[e1,e2]at h;cases h
   |some ks'=>rw[e1,e2]at h;cases h;exact .cons (bV e1) (NX e2)
def MJ (h:tkD d=some k) (e:H b=some (.tup (k.map kV))):Rep L H d (.ref b):=by
 cases d with
 |tup ds=>unfold Rep;exact ⟨b,_,rfl,e,NX h⟩
 |_=>cases h
theorem MF:∀ {ps:List (D × D)} {vs:List (List Key × V)} {i:Nat} {p:D × D},Aa tkD L H ps vs->ps[i]?=some p -> ∃ k x,vs[i]?=some (k,x)/\tkD p.1=some k/\Rep L H p.2 x
 |[],_,i,p,_,e=>by cases e
 |q::ps,vs,i,p,h,e=>by
  obtain ⟨k,v,r',rfl,e1,h1,h2⟩:=h;cases i with
  |zero=>cases e;exact ⟨k,v,rfl,e1,h1⟩
  |succ j=>exact MF (ps:=ps) (i:=j) h2 (by rw[List.getElem?_cons_succ]at e;exact e)
noncomputable def IC (f:FE):FI:=λY M=>match f Y M with
 |some (.dat (.ref n),M1)=>match M1[n]? with
  |some (.dicT ps)=>some (ps.map λp=>D.tup [p.1,p.2],none,M1.set n (.set []))
  |_=>none
 |_=>none
def eM (h:QE X e f) (hbase:attributeBase e "items" X.env (eval e X.env)=eval e X.env:=by rfl) (hline:(apos.endLine==cpos.line)=true:=by rfl) :
  QI X (.Tuple es ek ep) (.Call (.Attribute e "items" apos) [] [] cpos) (IC f):=.mk <| PI.imp (UU h.un hbase hline) λτ H R zz=>by
 obtain ⟨L,Y,M,xs,gd,M',c,rs,hf,q⟩:=zz;unfold IC at hf;split at hf
 .rename_i n M1 e1;split at hf
  .rename_i ps e2;cases hf;refine ⟨L,Y,M,_,_,c,rs,e1,λL1 H1 v s1 c1 r1=>?_⟩;unfold zW Rep at r1;obtain ⟨a,rfl,ea⟩:=r1;obtain ⟨vs,e3,r3⟩:=c1.obj n a _ ea e2;refine ⟨a,vs,rfl,e3,λo=>?_⟩;obtain ⟨c2,s2⟩:=c1.put (m:=.set []) (o':=.frz o (.dT vs)) ea e3 (λ_ z=>by cases z) (λ_ _ z=>by cases z) λ_=>⟨o,_,zr⟩;refine q L1 _ _ (s1.trans s2) c2 λL2 H2 M2 s3 c3 _=>?_;have hz:H2 a=some (.frz o (.dT vs)):=s3.frz _ _ _ zr;have r4:=r3.stp (s2.trans s3);refine ⟨λi d hd=>?_,hz,by rw[AG,r4.length];exact AF _⟩;rw[Az]at hd;cases hp:ps[i]? with
   |none=>rw[hp]at hd;cases hd
   |some p=>
    rw[hp]at hd;cases hd;obtain ⟨k,x,hk,ek,rx⟩:=MF r4 hp;refine ⟨⟨hz,(AK.mp hk).1⟩,λv H3 hy=>?_⟩;obtain ⟨T,b,k',x',hk',rfl,hT,hb,rfl⟩:=hy;rw[hk]at hk';cases hk';exact ⟨λa o e=>by rw[zT (zv e hT)];exact e,Rep.newTup hT (.cons (MJ ek hb) (.cons rx .nil))⟩
  .cases hf
 .cases hf
noncomputable def Iu (i j k:Nat):FG:=λd Y=>match d with
 |.tup [x,.tup [y,z]]=>some (((Y.set i (some x)).set j (some y)).set k (some z))
 |_=>none
noncomputable abbrev gN3 (K:Yb) (i j k:Nat):TG:=HC K 2 (Dy (Bu i) (Dy (HC K 2 (Dy (Bu j) (Dy (Bu k) Hb))) Hb))
def Rq {K:Yb} {own:Yj} {i j k:Nat} (hi:i∈own) (hj:j∈own) (hk:k∈own):CF own (gN3 K i j k) (Iu i j k):=by
 intro L H Y Y' τ τ0 d v Q rs ex r hf q;unfold Iu at hf;split at hf
 .rename_i x y z;cases hf;unfold Rep at r;obtain ⟨a,vs,rfl,e,r⟩:=r;obtain ⟨v1,v2,rfl,r1,r2⟩:=r.two;unfold Rep at r2;obtain ⟨b,ws,rfl,e2,r2⟩:=r2;obtain ⟨w1,w2,rfl,r3,r4⟩:=r2.two;exact ⟨a,_,rfl,.of e,rfl,v1,[.ref b],rfl,.ref b,[],rfl,b,_,rfl,.of e2,rfl,w1,[w2],rfl,w2,[],rfl,rfl,rfl,q _ (((rs.set r1).set r3).set r4) (((ex.set hi).set hj).set hk)⟩
 .cases hf
def Mp (hd:(d==sysModules)=false) (hT:s.TypeIs (.ref d) "dict") (ho:s.heap.get? d=some o) (hdat:o.data=.dict es ep)
  (hQ:Q (.ref s.heap.objs.size) { s with heap:=s.heap.push { cls:=.type "dict_keyiterator", data:=.fields #[.ref d,.int 0 0,.int es.size 0,.int ep 0] } }):wpAny (model prog w) A (pyIter (.ref d)) Q E s:=by
 refine wpAny_pyIter_slot hT F.slot_dict_iter (BI F.slot_dict_iter hT F.entry_dict_iter ?_ (F.args_dict_iter_1 _));unfold Builtin.«dict.__iter__»;refine AA ?_;unfold Builtin.Dict.dictSlotNone;refine AA (wpAny_notOrdered_dict hT ?_);refine AD ?_;show wpAny _ _ (Builtin.Dict.showsAll d >>= _) _ _ s;unfold Builtin.Dict.showsAll;rw[AE (by rw[hd];exact BA)];refine AA (AD (AA (wpAny_dictEntries ho hdat (AA (wpAny_dictEpoch ho hdat ?_)))));refine AA (A9 (AD ⟨_,rfl, "dict_keyiterator", _,⟨_,AV _ rfl,rfl⟩,F.slot_dict_keyiterator_next.lookup,?_⟩));simpa [rawInt] using hQ
def Wh (hit:s.heap.IsKeyIter it d i es.size ep) (hod:s.heap.get? d=some o) (hdd:o.data=.dict es ep) (hx:es[i]?=some e)
  (hQ:∀ h',h'.IsKeyIter it d (i+1) es.size ep->Heap.SameBut it s.heap h'->Q (some e.key) { s with heap:=h' }):wpAny (model prog w) A (pyNext (.ref it)) Q E s:=by
 obtain ⟨q,ho,hc,hd⟩:=id hit;obtain ⟨hlt,hxe⟩:=Array.getElem?_eq_some_iff.mp hx;unfold pyNext;refine AA (DL (CD (name:=Str.ofString "__next__") hit.typeIs F.slot_dict_keyiterator_next (BI F.slot_dict_keyiterator_next hit.typeIs F.entry_dict_keyiterator_next ?_ (F.args_dict_keyiterator_next_1 _))));refine AA (AD (AA (AA ?_)));first|refine AA (wpAny_typeNameOfWhole_keyiter hit.typeIs (AD ?_))|refine AA (wpAny_typeNameOf_keyiter hit.typeIs (AD ?_))
 refine AA (wpAny_fieldsOf ho hd ?_);simp only[show Builtin.Dict_items.ownsTuple "dict_keyiterator" = false by decide,CV,if_false];show wpAny _ _ (if (Value.ref d==Value.none)=true then _ else _) _ _ s;rw[AE (show ¬ ((Value.ref d==Value.none)=true)from BA)];refine AA (AD (AA (wpAny_dictEntries hod hdd ?_)));rw[AE (by simp)];refine AA (AD (AA (wpAny_dictEpoch hod hdd ?_)));rw[AE (by simp)];refine AD ?_;simp only[show ¬ ((i:Int)<0)from by omega,if_false,Int.toNat_natCast,Cd hlt,hxe];refine AA ?_;first|refine AA (wpAny_typeNameOfWhole_keyiter hit.typeIs (AD ?_))|refine AA (wpAny_typeNameOf_keyiter hit.typeIs (AD ?_))
 refine AA (wpAny_isOneOf_keyiter hit.typeIs ?_);show wpAny _ _ (setField (.ref it) 1 (rawInt ((i:Int)+1)) >>= _) _ _ s;refine AA (Dn ho hd (by simp) ?_);have hit':(s.heap.update it (Obj.mapFields (·.setIfInBounds 1 (rawInt ((i:Int)+1))))).IsKeyIter it d (i+1) es.size ep :=
  ⟨_,D4 _ ho (Obj.isFreed_of_fields (Dp hd _)),(Obj.cls_mapFields ..).trans hc,by rw[Dp hd];simp[rawInt]⟩
 refine AA (B2 (AA (wpAny_isOneOf_keyiter (s:={ s with heap:=s.heap.update it (Obj.mapFields (·.setIfInBounds 1 (rawInt ((i:Int)+1)))) }) hit'.typeIs ?_)));exact AD (AD ⟨_,rfl,AD (hQ _ hit' (C5 ..))⟩)
def dO (hh:A.handled=none) (hit:s.heap.IsKeyIter it d i es.size ep) (hod:s.heap.get? d=some o) (hdd:o.data=.dict es ep) (hge:es.size<=i)
  (hQ:∀ h',Heap.ExtBut it s.heap h'->Q none { s with heap:=h' }):wpAny (model prog w) A (pyNext (.ref it)) Q E s:=by
 obtain ⟨q,ho,hc,hd⟩:=id hit;unfold pyNext;refine AA (DL (CD (name:=Str.ofString "__next__") hit.typeIs F.slot_dict_keyiterator_next (BI F.slot_dict_keyiterator_next hit.typeIs F.entry_dict_keyiterator_next ?_ (F.args_dict_keyiterator_next_1 _))));refine AA (AD (AA (AA ?_)));first|refine AA (wpAny_typeNameOfWhole_keyiter hit.typeIs (AD ?_))|refine AA (wpAny_typeNameOf_keyiter hit.typeIs (AD ?_))
 refine AA (wpAny_fieldsOf ho hd ?_);simp only[show Builtin.Dict_items.ownsTuple "dict_keyiterator" = false by decide,CV,if_false];show wpAny _ _ (if (Value.ref d==Value.none)=true then _ else _) _ _ s;rw[AE (show ¬ ((Value.ref d==Value.none)=true)from BA)];refine AA (AD (AA (wpAny_dictEntries hod hdd ?_)));rw[AE (by simp)];refine AA (AD (AA (wpAny_dictEpoch hod hdd ?_)));rw[AE (by simp)];refine AD ?_;simp only[show ¬ ((i:Int)<0)from by omega,if_false,Int.toNat_natCast,Array.getElem?_eq_none hge];refine AA ?_;first|refine AA (wpAny_typeNameOfWhole_keyiter hit.typeIs (AD ?_))|refine AA (wpAny_typeNameOf_keyiter hit.typeIs (AD ?_))
 show wpAny _ _ (setField (.ref it) 0 .none >>= _) _ _ s;refine AA (Dn ho hd (by simp) ?_);refine AA ?_;simp only[newExc,newTuple];refine AA (A9 ?_ (by size_fits));refine AA (m:=firstArgMember _ _) (wpAny_of_eq (a:=Value.none) (by first|rfl|(simp only[firstArgMember];rfl)) ?_);refine A9 ?_ (by size_fits);simp only[raiseNew];refine AA (wpAny_handled ?_);rw[show A.in1.handled=none from hh];refine AA (AD (wpAny_throw ?_));refine AA (wpAny_isInstance (T := "StopIteration") (b:=true) ⟨_,AV _ rfl,rfl⟩ isSubtype_stop ?_);exact AD (hQ _ (((C5 ..).extBut.push _).push _))
theorem OT:∀ {ys:List V} {us:Yf},ys.length=us.length->(∀ (i:Nat) y u,ys[i]?=some y->us[i]?=some u->zj y u)->zY ys us
 |[],[],_,_=> .nil
 |[],_::_,h,_=>by cases h
 |_::_,[],h,_=>by cases h
 |y::ys,u::us,h,q=> .cons (q 0 y u rfl rfl) (OT (Nat.succ.inj h) λi y' u' e1 e2=>q (i+1) y' u' (by simpa using e1) (by simpa using e2))
def iH (hd:(d==sysModules)=false):MeetsIn prog w (Builtin.«dict.__len__» ⟨[.ref d],[]⟩) (λ_ R s=>∃ o es ep,s.heap.get? d=some o/\o.data=.dict es ep/\R (.ok (.ret (.int es.size s.toks))) { s with toks:=s.toks+1 }) :=
 .of_wp λA R s ⟨o,es,ep,ho,hdat,h⟩=>by
  show wpAny _ _ (dictSize d >>= _) _ _ s;unfold dictSize;refine AA (AA (wpAny_dictEntries ho hdat (AD ?_)));show wpAny _ _ (Builtin.Dict.pendingCount d >>= _) _ _ s;refine AA (wpAny_pendingCount_other hd (wpAny_ret_mkInt ?_));rw[Nat.add_zero];exact h
def Rz (hd:(d==sysModules)=false) (hT:s.TypeIs (.ref d) "dict") (ho:s.heap.get? d=some o) (hdat:o.data=.dict es ep) (hfit:(es.size:Int)<2 ^ 63)
  (h:Q (.int es.size (s.toks+1)) { s with toks:=s.toks+1+1 }):wpAny (model prog w) A (call (.builtin "len") [.ref d]) Q E s:=by
 refine Calls.call_function_entry kind_len plain_len entry_len (args_len1 _) ?_;unfold Builtin.«len»;refine AA (m:=oneArg "len" _) (AD ?_);refine AA (m:=callSpecial? (.ref d) (Str.ofString "__len__")) (CD (name:=Str.ofString "__len__") hT F.slot_dict_len (call_meetsIn F.slot_dict_len hT F.entry_dict_len (F.args_dict_len_1 _) (iH hd) ⟨o,es,ep,ho,hdat,?_⟩));show wpAny _ _ _ _ _ { s with toks:=s.toks+1 };refine AA (B2 (AD (AA (wpAny_letGo ?_))));show wpAny _ _ (if ((es.size:Nat):Int)<0 then _ else _) _ _ _;rw[AE (by omega)];show wpAny _ _ (if ((es.size:Nat):Int)≥2 ^ 63 then _ else _) _ _ _;rw[AE (by omega)];exact AA (wpAny_mkInt (AD ⟨_,rfl,h⟩))
def Tx:Bk X (.builtin "len") (λxs H Q=>∃ (p:Addr) (kvs:List (List Key × V)),xs=[.ref p]/\H p=some (.dT kvs)/\Q (.int kvs.length) H):=by
 intro zB s Y H xs us Q I r h;obtain ⟨p,kvs,rfl,hx,q⟩:=h;obtain ⟨u,rfl,rx⟩:=Cs r;cases rx;have hn:=Fc;obtain ⟨z1,z2,xs,r,o,es,en,h1,h2,h3,h4,h5⟩:=(show z0 X.prog X.w H s.heap p (.dT kvs)from I.hok p _ hx);have hsz:es.size=kvs.length:=by rw[Paired.length r,<-BK,h4,AG]
 exact Rz z2 ⟨o,h1,h2.1⟩ h1 h3 (by omega) ⟨.int kvs.length,H,I.tok _,⟨s.toks+1,by rw[hsz]⟩,q⟩
noncomputable def EU:KB:=λxs M=>match xs with
 |[.dat (.ref n)]=>match M[n]? with
  |some (.dicT kvs)=>some (.dat (.int kvs.length),M)
  |_=>none
 |_=>none
def Z3 {K:Yb}:Cq K (λxs H Q=>∃ (p:Yt) (kvs:List (List Key × V)),xs=[.ref p]/\H p=some (.dT kvs)/\Q (.int kvs.length) H) EU:=by
 intro L M M' H H0 xs d vs Q c r hk q;unfold EU at hk;split at hk
 .rename_i n;split at hk
  .rename_i kvs e1;cases hk;obtain ⟨v,rfl,r1⟩:=r.one;unfold zW Rep at r1;obtain ⟨a,rfl,e2⟩:=r1;obtain ⟨ws,e3,r3⟩:=c.obj n a _ e2 e1;have hl:=r3.length;refine ⟨a,ws,rfl,e3,?_⟩;have:=q L H (.int kvs.length) (.refl L H) c (Bm (L:=L) (H:=H));rw[<-hl]at this;exact this
  .cases hk
 .cases hk
def UM (hg:Gl X "len") (hm:X.mg "len" = none) (ha:QAE X [e] fa) (he:starEach [e] X.env=(false,eval e X.env)::starEach [] X.env:=by rfl) (hpl:(backTo pos (starEach [] X.env)).any (·.1)=false:=by rfl):QE X (.Call (.Name "len" p) [e] [] pos) (fB EU fa) :=
 FK Z3 Tx PySem.boot_len hg hm ha (by decide) (by decide) he hpl
end L3
namespace ST
section
variable {prog:Ym} {w:Yo} {A:Yn} {E:Yc} {s:Yl} {κ:SortKind} {vs:Yf} {r:Yr}
def Cj (prog:Ym) (w:Yo) (s:Yl) (κ:SortKind) (vs:Yf) (r:Yr):Prop :=
 ∀ (A:Yn) (E:Yc) (x y:Yu) (Q:Bool->Shared->Prop),x∈vs->y∈vs->Q (decide (r x<r y)) s->wpAny (model prog w) A (keyLt' κ x y) Q E s
def G9 (R:Cj prog w s κ vs r) {st:SortSt} {x y:Keyed} {Q:Option Bool->SortSt->Prop} (hk:kindOf st=κ) (hx:x.1∈vs) (hy:y.1∈vs) (h:Q (some (decide (r x.1<r y.1))) st) :
  wpS (model prog w) A E s (lt' x y) Q st:=by
 rw[lt'_eq];refine wpS_bind (wpS_get ?_);rw[hk];exact wpS_bind (wpS_lift (DL (R _ _ _ _ _ hx hy ⟨rfl,wpS_pure h⟩)))
def cC (R:Cj prog w s κ vs r) {st:SortSt} {i j:Nat} {x y:Keyed} {Q:Option Bool->SortSt->Prop} (hk:kindOf st=κ) (ei:(arrOf st)[i]?=some x) (ej:(arrOf st)[j]?=some y) (hx:x.1∈vs) (hy:y.1∈vs)
  (h:Q (some (decide (r x.1<r y.1))) st):wpS (model prog w) A E s (ltAt' i j) Q st:=by
 rw[ltAt'_eq];refine wpS_bind (wpS_get ?_);show wpS _ _ _ _ (elem' (arrOf st) i >>= λx=>elem' (arrOf st) j >>= λy=>lt' x y) Q st;rw[elem'_eq,elem'_eq,ei,ej];exact wpS_bind (wpS_pure (wpS_bind (wpS_pure (G9 R hk hx hy h))))
def BX (h:Heap) (v:Value) (xs:List Int):Prop:=∃ b o us n,v=.ref b/\h.get? b=some o/\o.cls=.type "tuple" /\ o.data=.seq us n/\IntsAre us.toList xs
def BX.keep (t:BX h v xs) (k:∀ b o,v=.ref b->h.get? b=some o->h'.get? b=some o):BX h' v xs:=by
 obtain ⟨b,o,us,n,rfl,h1,h2,h3,h4⟩:=t;exact ⟨b,o,us,n,rfl,k b o rfl h1,h2,h3,h4⟩
noncomputable def AY:List Int->List Int->Bool
 |[],[]=>false
 |[],_::_=>true
 |_::_,[]=>false
 |x::xs,y::ys=>if x=y then AY xs ys else decide (x<y)
def VS (h:Q (decide (a<b)) s):wpAny (model prog w) A (oneLt' false (.int a t) (.int b u)) Q E s:=by
 rw[oneLt'_eq];simp only[CV,if_false];refine AA (richCompare_gives (op:=.Lt) (typeIs_int s a t) (typeIs_int s b u) F.slot_int_lt F.entry_int_lt (F.args_int_lt_2 _ _) (gives_int_lt a b t u) (λx=>nomatch x) ?_);exact EL h
def Ud (h:Q (decide (a<b)) s):wpAny (model prog w) A (oneLt' c (.int a t) (.int b u)) Q E s:=by
 cases c
 .exact VS h
 .exact oneLt_int h
def Uj (hx:BX s.heap x xs) (hy:BX s.heap y ys) (h:Q (AY xs ys) s):wpAny (model prog w) A (keyLt' (tuples' c) x y) Q E s:=by
 obtain ⟨a,o1,us,n1,rfl,h1,h2,h3,h4⟩:=hx;obtain ⟨b,o2,ws,n2,rfl,g1,g2,g3,g4⟩:=hy;refine AA (listItems_at h1 h3 (AA (listItems_at g1 g3 ?_)));refine AA (wpAny_forIn_list _ (λrest c s'=>c=(none,())/\s'=s /\ ∃ us' ws' xs' ys' k,rest=(us'.zip ws').zipIdx k/\IntsAre us' xs'/\IntsAre ws' ys'/\AY xs ys=AY xs' ys'/\us.size+ws'.length=ws.size+us'.length) (λc s'=>s'=s/\Q (match c.1 with|some b=>b|none=>decide (us.size<ws.size)) s) ?turn ?fin _ _ ⟨rfl,rfl,_,_,_,_,0,rfl,h4,g4,rfl,by simp;omega⟩ |> λz=>AN z ?post λ_ _ e=>e)
 case turn=>
  rintro ⟨⟨p,q⟩,i⟩ rest c s' ⟨rfl,rfl,us',ws',xs',ys',k,e,i1,i2,e2,e3⟩;cases i1 with
  |nil=>simp at e
  | @cons n t us1 xs1 i1=>
   cases i2 with
   |nil=>simp at e
   | @cons m u ws1 ys1 i2=>
    simp only[List.zip_cons_cons,List.zipIdx_cons]at e;injection e with ea eb
    cases ea;refine AA (wpAny_eqBool_int ?_);rw[show AY (n::xs1) (m::ys1)=if n=m then AY xs1 ys1 else decide (n<m)from rfl]at e2;by_cases hnm:n=m
    .subst hnm;simp only[beq_self_eq_true,Bool.not_true,CV,if_false];rw[AB rfl]at e2;simp only[Ba]at e3;exact AD ⟨rfl,rfl,_,_,_,_,_,eb,i1,i2,e2,by omega⟩
    .rw[AE hnm]at e2;have:(n==m)=false:=by simpa using hnm
     rw[this];simp only[Bool.not_false,if_true];refine AA ?_;refine Ud (AD ⟨rfl,?_⟩);rw[<-e2];exact h
 case fin=>
  rintro c s' ⟨rfl,rfl,us',ws',xs',ys',k,e,i1,i2,e2,e3⟩;refine ⟨rfl,?_⟩;dsimp only;have key:AY xs ys=decide (us.size<ws.size):=by
   rw[e2];cases i1 with
   |nil=>
    cases i2 with
    |nil=>simp at e3;simp[AY,e3]
    |cons m u i2=>simp at e3;simp[AY];omega
   |cons n t i1=>
    cases i2 with
    |nil=>simp at e3;simp[AY];omega
    |cons m u i2=>simp at e
  rw[<-key];exact h
 case post=>
  rintro ⟨c1,c2⟩ s' ⟨rfl,q⟩;dsimp only at q ⊢;cases c1 with
  |some b=>exact AD q
  |none=>exact AD q
theorem Na:∀ ds:List (Int × Tok),IntsAre (ds.map λp=> .int p.1 p.2) (ds.map (·.1))
 |[]=> .nil
 |p::ds=> .cons p.1 p.2 (Na ds)
def Xj (hv:BX s.heap v (x::xs)) (h:∀ t,Q (some (.int x t)) s):wpAny (model prog w) A (firstOfTuple' v) Q E s:=by
 obtain ⟨a,o1,us,n1,rfl,h1,h2,h3,h4⟩:=hv;refine AA (wpAny_typeOf (T := "tuple") ⟨o1,h1,h2⟩ ?_);rw[AE (by decide)];refine AA (listItems_at h1 h3 (AD ?_));obtain ⟨us⟩:=us;cases h4 with
 |cons n t i=>exact h t
theorem Qd:∀ {vs:Yf} {Q:List (Option Value)->Shared->Prop},(∀ v∈vs,∃ x xs,BX s.heap v (x::xs))->(∀ ds:List (Int × Tok),ds.length=vs.length->Q (ds.map λp=>some (.int p.1 p.2)) s)->wpAny (model prog w) A (vs.mapM firstOfTuple') Q E s
 |[],Q,_,q=>by rw[List.mapM_nil];exact AD (q [] rfl)
 |v::vs,Q,h,q=>by
  rw[List.mapM_cons];obtain ⟨x,xs,hv⟩:=h v (Ad ..);refine AA (Xj hv λt=>AA (Qd (λu hu=>h u (Am _ hu)) λds hl=>AD ?_));exact q ((x,t)::ds) (by simp[hl])
def cK (h:∀ u∈v::vs,∃ x xs,BX s.heap u (x::xs)) (q:Q (tuples' true) s):wpAny (model prog w) A (keyKind' (v::vs).toArray) Q E s:=by
 rw[keyKind'_eq,List.mapM_toArray];refine AA ?_;show wpAny _ _ (List.toArray <$> (v::vs).mapM firstOfTuple') _ _ _;rw[map_eq_pure_bind];refine AA (Qd h λds hl=>AD ?_);rw[AB (by simp)];refine AA (BY ?_);have e:Array.filterMap id (List.map (λp=>some (Value.int p.1 p.2)) ds).toArray=(ds.map λp=>Value.int p.1 p.2).toArray:=by
  rw[List.filterMap_toArray,List.filterMap_map];exact BJ List.toArray (List.filterMap_eq_map' (f:=λp:Int × Tok=>Value.int p.1 p.2)▸rfl)
 rw[e,oneTypeOnly'_eq,List.mapM_toArray,mapM_typeOf_ints (Na ds)];cases ds with
 |nil=>cases hl
 |cons d ds=>
  have hall:((List.map (λ_=>Value.type "int") (List.map (λp:Int × Tok=>Value.int p.1 p.2) (d::ds))).toArray.all λx=>x==Value.type "int")=true:=by
   simp only[List.all_toArray,List.all_map,A0];intro _ _;rfl
  have h0:(List.map (λ_=>Value.type "int") (List.map (λp:Int × Tok=>Value.int p.1 p.2) (d::ds))).toArray[0]?=some (Value.type "int"):=by simp
  simp only[map_pure,pure_bind];rw[h0];simp only[hall,if_true,pure_bind];exact AD q
end
theorem IZ:∀ x:List Int,AY x x=false
 |[]=>rfl
 |a::x=>by rw[show AY (a::x) (a::x)=if a=a then AY x x else decide (a<a)from rfl,AB rfl];exact IZ x
def Hz (a b:Int) (x y:Ye):AY (a::x) (b::y)=if a=b then AY x y else decide (a<b):=rfl
theorem Jv:∀ {x y:Ye},AY x y=false->AY y x=false->x=y
 |[],[],_,_=>rfl
 |[],_::_,h,_=>by cases h
 |_::_,[],_,h=>by cases h
 |a::x,b::y,h1,h2=>by
  rw[Hz]at h1 h2;by_cases e:a=b
  .subst e;rw[AB rfl]at h1 h2;rw[Jv h1 h2]
  .rw[AE e]at h1;rw[AE (Ne.symm e)]at h2;have:=of_decide_eq_false h1;have:=of_decide_eq_false h2;omega
theorem HH:∀ {x y z:Ye},AY x y=true->AY y z=true->AY x z=true
 |[],[],_,h,_=>by cases h
 |_::_,[],_,h,_=>by cases h
 |_,_::_,[],_,h=>by cases h
 |[],_::_,_::_,_,_=>rfl
 |a::x,b::y,c::z,h1,h2=>by
  rw[Hz]at h1 h2 ⊢;by_cases e:a=b
  .subst e;rw[AB rfl]at h1;by_cases e2:a=c
   .rw[AB e2]at h2 ⊢;exact HH h1 h2
   .rw[AE e2]at h2 ⊢;exact h2
  .rw[AE e]at h1;have l1:=CQ h1;by_cases e2:b=c
   .subst e2;rw[AE e];exact h1
   .rw[AE e2]at h2;have l2:=CQ h2;rw[AE (by omega)];exact AO (by omega)
noncomputable def rkI (ks:Ya) (k:Ye):Nat:=ks.countP λa=>AY a k
theorem Oc {α:Type} {p q:α->Bool}:∀ {l:List α} {x:α},x∈l->p x=false->q x=true->(∀ y,p y=true->q y=true)->l.countP p<l.countP q
 |[],_,h,_,_,_=>by cases h
 |y::l,x,h,h1,h2,h3=>by
  have hm:l.countP p<=l.countP q:=List.countP_mono_left λz _ hz=>h3 z hz;rw[List.countP_cons,List.countP_cons];rcases AI.mp h with rfl|h
  .rw[h1,h2];simp;omega
  .have:=Oc h h1 h2 h3;cases hp:p y with
   |true=>rw[h3 y hp];simp;omega
   |false=>cases q y <;> simp <;> omega
def Pl {ks:Ya} {x y:Ye} (hx:x∈ks) (hy:y∈ks):AY x y=decide (rkI ks x<rkI ks y):=by
 have go:∀ {x y:Ye},x∈ks->AY x y=true->rkI ks x<rkI ks y:=λ{x y} hx h=>
  Oc hx (IZ x) h λz hz=>HH hz h
 cases e:AY x y with
 |true=>exact (AO (go hx e)).symm
 |false=>
  cases e2:AY y x with
  |true=>have:=go hy e2;exact (AU (by omega)).symm
  |false=>rw[Jv e e2];exact (AU (by omega)).symm
section
variable {prog:Ym} {w:Yo} {A:Yn} {E:Yc} {s:Yl} {κ:SortKind} {vs:Yf}
def BX.uniq (a:BX h v xs) (b:BX h v ys):xs=ys:=by
 obtain ⟨b1,o1,us,n1,rfl,h1,h2,h3,h4⟩:=a;obtain ⟨b2,o2,ws,n2,e,g1,g2,g3,g4⟩:=b;cases e;rw[h1]at g1;cases g1;rw[h3]at g3;cases g3;rw[<-h4.nums,<-g4.nums]
open Classical in
noncomputable def CH (h:Heap) (v:Yu):List Int:=if z:∃ xs,BX h v xs then z.choose else []
def En (t:BX h v xs):CH h v=xs:=by
 unfold CH;rw[dif_pos ⟨xs,t⟩];exact BX.uniq (Classical.choose_spec (⟨xs,t⟩:∃ xs,BX h v xs)) t
def Kg (h:Heap) (vs:Yf):Prop:=∀ v∈vs,∃ x xs,BX h v (x::xs)
noncomputable def rkV (h:Heap) (vs:Yf) (v:Yu):Nat:=rkI (vs.map (CH h)) (CH h v)
def gW (h:Kg s.heap vs):Cj prog w s (tuples' true) vs (rkV s.heap vs):=by
 intro A E x y Q hx hy q;obtain ⟨a,as,ha⟩:=h x hx;obtain ⟨b,bs,hb⟩:=h y hy;refine Uj ha hb ?_;rw[<-En ha,<-En hb,Pl (ks:=vs.map (CH s.heap)) (List.mem_map_of_mem hx) (List.mem_map_of_mem hy)];exact q
def a9 {F:Array Value->Prop} {a:Addr} {n:Nat} {P:Fin->Shared->Prop} (ho:s.heap.get? a=some (seqObj "list" vs.toArray n)) (hz:vs.length<=sizeLine)
  (hF:∀ out,F out->out.size=vs.length) (hs:vs.length<2->F vs.toArray)
  (hr:2<=vs.length -> ∀ h6:Heap,(∀ b o,b≠a->s.heap.get? b=some o->h6.get? b=some o)->(∀ (A:Yn) (E:Yc) (Q:SortKind->Shared->Prop),Q κ { s with heap:=h6 }->wpAny (model prog w) A (keyKind' vs.toArray) Q E { s with heap:=h6 }) /\
   ∀ (A:Yn) (E:Yc),wpS (model prog w) A E { s with heap:=h6 } sortRuns' (λ_ st=>failedOf st=none/\F ((arrOf st).map (·.2))) (SortSt.mk' κ (pairsOf vs) #[] 7 none))
  (h:∀ out,F out->P (.done (.ret .none)) { s with heap:=sortedHeap s.heap a vs out }):wpAny (model prog w) A (Builtin.«list.sort» ⟨[.ref a],[]⟩) P E s:=by
 have ha:a<s.heap.objs.size:=AH ho;rw[list_sort_plain];refine AA (listItems_at ho rfl (AA (listUpdate_at ho rfl ?_ (hsz:=by simpa using hz))));obtain ⟨e1,o1⟩:∃ e,(s.heap.update a (Obj.mapSeq λ_=> #[])).get? a=some (seqObj "list" #[] e):=⟨_,get?_update_seq ho λ_=> #[]⟩;refine AA (seqEpoch_at o1 rfl (AA (wpAny_newTuple ?_ (by simpa using hz))));refine AA (wpAny_newList (B2 ?_));generalize hH:((s.heap.update a (Obj.mapSeq λ_=> #[])).push (seqObj "tuple" vs.toArray 0)).push (seqObj "list" #[] 0)=h6;have k6:∀ b o,b≠a->s.heap.get? b=some o->h6.get? b=some o:=λb o hb e=>by
  rw[<-hH];exact AJ _ (AJ _ ((D2 _ _ (Ne.symm hb)).trans e))
 have o6:h6.get? a=some (seqObj "list" #[] e1):=by rw[<-hH];exact AJ _ (AJ _ o1)
 have fin:∀ st:SortSt,failedOf st=none->F ((arrOf st).map (·.2))->wpAny (model prog w) A (do
   let t:=(<- seqEpoch a) != e1;Builtin.List.listUpdate (.ref a) λ_=>(arrOf st).map (·.2);if let some e:=failedOf st then rule "list.sort.comparison-raised"; throw e
   if t then rule "list.sort.modified"; raiseError "ValueError" "list modified during sort"
   ret .none) P E { s with heap:=h6 }:=by
  intro st h1 h2;refine AA (seqEpoch_at o6 rfl (AA (listUpdate_at o6 rfl ?_ (hsz2:=by show (Array.map _ _).size<=_;rw[hF _ h2];omega))));rw[h1];simp only[bne_self_eq_false,CV,if_false];refine AD ?_;have:=h _ h2;unfold sortedHeap at this;rw[hH]at this;exact this
 dsimp only;by_cases h2:vs.toArray.size<2
 .rw[AB h2,AB h2];refine AA (AD ?_);rw[StateT.run_pure];refine AA (AD ?_);refine fin (SortSt.mk' general' (vs.toArray.zip vs.toArray) #[] 7 none) rfl ?_;have e:((vs.toArray.zip vs.toArray).map (·.2))=vs.toArray:=by
   apply Array.toList_inj.mp;rw[Array.toList_map,Array.toList_zip,List.map_snd_zip (AF _)]
  show F ((vs.toArray.zip vs.toArray).map (·.2));rw[e];exact hs (by simpa using h2)
 .rw[AE h2,AE h2];obtain ⟨g1,g2⟩:=hr (by simp at h2;omega) h6 k6;refine AA (g1 _ _ _ ?_);refine AA (AN (g2 _ _) ?_ λ_ _ e=>e);rintro ⟨⟨⟩,st⟩ s' ⟨rfl,h3,h4⟩;exact fin st h3 h4
end
end ST
namespace L3
open L2 ST
noncomputable def kkI (xs:Ye):List Key:=xs.map .inl
noncomputable def PX:D->Option (List Int)
 |.tup ds=>BM ds
 |_=>none
noncomputable def Gd:List D->Option (List (List Int))
 |[]=>some []
 |d::r=>match PX d,Gd r with
  |some x,some xs=>some (x::xs)
  |_,_=>none
theorem Ox:∀ {ds:List D} {xs:Ye},BM ds=some xs->DF ds=some (kkI xs)
 |[],_,h=>by cases h;rfl
 |.int i::r,xs,h=>by
  unfold BM at h;split at h
  .rename_i bs e;cases h;unfold DF;rw[Ox e];rfl
  .cases h
 |.non::_,_,h=>by cases h
 |.bl _::_,_,h=>by cases h
 |.str _::_,_,h=>by cases h
 |.tup _::_,_,h=>by cases h
 |.ref _::_,_,h=>by cases h
theorem Pk:∀ {xs:Ye} {its:Yf},zY ((kkI xs).map kV) its->IntsAre its xs
 |[],_,h=>by cases h;exact .nil
 |x::xs,_,h=>by
  cases h with
  |cons r1 r2=>obtain ⟨t,rfl⟩:=r1;exact .cons _ _ (Pk r2)
section
variable {X:Cx}
def YV (o:z0 P w H h b (.tup ((kkI xs).map kV))):BX h (.ref b) xs:=by
 obtain ⟨_,its,r,o,e,c,⟨n,d⟩,_⟩:=o;exact ⟨b,o,its.toArray,n,rfl,e,c,d,by simpa using Pk r⟩
end
end L3
namespace ST
noncomputable def RD:Bool->Keyed->Array Keyed->Nat->Nat->Nat->StateT SortSt Sem (Option Nat):=sortPriv% PySem.Builtin.gallop
noncomputable def Zk:Array Keyed->Array Keyed->StateT SortSt Sem (Array Keyed):=sortPriv% PySem.Builtin.mergeLo
noncomputable def Vu:Array Keyed->Array Keyed->StateT SortSt Sem (Array Keyed):=sortPriv% PySem.Builtin.mergeHi
section
variable {prog:Ym} {w:Yo} {A:Yn} {E:Yc} {s:Yl} {κ:SortKind} {vs:Yf} {r:Yr}
def zm {arr:Array Keyed} {i:Nat} {p:Keyed} {st:SortSt} {Q:Keyed->SortSt->Prop} (h:arr[i]?=some p) (q:Q p st):wpS (model prog w) A E s (elem' arr i) Q st:=by
 rw[elem'_eq,h];exact wpS_pure q
noncomputable def KI (bey:Nat->StateT SortSt Sem (Option Bool)) (n a0 b0:Nat):StateT SortSt Sem (Option Nat):=do
 let mut a:=a0
 let mut b:=b0
 for _ in [0:n] do
  if a≥b then break
  let m:=a+(b-a) / 2
  let some up <- bey m|return none
  if up then a:=m+1 else b:=m
 return some b
def XW {bey:Nat->StateT SortSt Sem (Option Bool)} {b:Nat->Bool} {n lo hi:Nat} {st:SortSt} {Q:Option Nat->SortSt->Prop} (hb:∀ i,i<n -> ∀ Q':Option Bool->SortSt->Prop,Q' (some (b i)) st->wpS (model prog w) A E s (bey i) Q' st)
  (mono:∀ i j,i<=j->j<n->b j=true->b i=true) (hlo:lo<=hi) (hhi:hi<=n) (h1:∀ i,i<lo->b i=true) (h2:∀ i,hi<=i->i<n->b i=false)
  (h:∀ k,k<=n->(∀ i,i<k->b i=true)->(∀ i,k<=i->i<n->b i=false)->Q (some k) st):wpS (model prog w) A E s (KI bey n lo hi) Q st:=by
 unfold KI;refine wpS_bind (wpS_mono (wpS_forRange (I:=λx c st'=>st'=st /\ ∃ lo hi,c=(none,lo,hi)/\lo<=hi/\hi<=n/\hi-lo<=n-x/\(∀ i,i<lo->b i=true)/\(∀ i,hi<=i->i<n->b i=false)) (Q:=λc st'=>st'=st /\ ∃ k,c=(none,k,k)/\k<=n/\(∀ i,i<k->b i=true)/\(∀ i,k<=i->i<n->b i=false)) ?step ?fin ⟨rfl,lo,hi,rfl,hlo,hhi,by omega,h1,h2⟩) ?post)
 case step=>
  rintro x c st' _ hx ⟨rfl,lo,hi,rfl,q1,q2,q3,q4,q5⟩;dsimp only;by_cases hge:lo≥hi
  .rw[AB hge];have:lo=hi:=by omega
   subst this;exact wpS_pure ⟨rfl,lo,rfl,q2,q4,q5⟩
  .rw[AE hge];refine wpS_bind (hb _ (by omega) _ ?_);dsimp only;cases e:b (lo+(hi-lo) / 2) with
   |true=>
    rw[AB rfl];exact wpS_pure ⟨rfl,_,_,rfl,by omega,q2,by omega,λi hi'=>mono i _ (by omega) (by omega) e,q5⟩
   |false=>
    rw[AE (by decide)];refine wpS_pure ⟨rfl,_,_,rfl,by omega,by omega,by omega,q4,λi h3 h4=>?_⟩;cases e2:b i with
    |false=>rfl
    |true=>rw[mono _ i h3 h4 e2]at e;cases e
 case fin=>
  rintro c st' ⟨rfl,lo,hi,rfl,q1,q2,q3,q4,q5⟩;have:lo=hi:=by omega
  subst this;exact ⟨rfl,lo,rfl,q2,q4,q5⟩
 case post=>
  rintro c st' ⟨rfl,k,rfl,q2,q4,q5⟩;exact wpS_pure (h k q2 q4 q5)
def Rr {left:Bool} {key:Keyed} {arr:Array Keyed} {base n hint:Nat} {b:Nat->Bool} {st:SortSt} {Q:Option Nat->SortSt->Prop} (hh:hint<n)
  (hb:∀ i,i<n -> ∀ Q':Option Bool->SortSt->Prop,Q' (some (b i)) st->wpS (model prog w) A E s (do let x <- elem' arr (base+i);if left=true then lt' x key else do let y <- lt' key x;pure (y.map (!·))) Q' st)
  (mono:∀ i j,i<=j->j<n->b j=true->b i=true)
  (h:∀ k,k<=n->(∀ i,i<k->b i=true)->(∀ i,k<=i->i<n->b i=false)->Q (some k) st):wpS (model prog w) A E s (RD left key arr base n hint) Q st:=by
 have no:∀ {i j},i<=j->j<n->b i=false->b j=false:=λ{i j} h1 h2 e=>by
  cases e2:b j with
  |false=>rfl
  |true=>rw[mono i j h1 h2 e2]at e;cases e
 have go:∀ lo hi,lo<=hi->hi<=n->(∀ i,i<lo->b i=true)->(∀ i,hi<=i->i<n->b i=false)->wpS (model prog w) A E s (KI (λi=>do let x <- elem' arr (base+i);if left=true then lt' x key else do let y <- lt' key x;pure (y.map (!·))) n lo hi) Q st :=
  λlo hi a1 a2 a3 a4=>XW hb mono a1 a2 a3 a4 h
 refine wpS_bind (hb hint hh _ ?_);cases e:b hint with
 |true=>
  refine wpS_bind (wpS_mono (wpS_forRange (I:=λx c st'=>st'=st /\ ∃ la of,c=(none,la,of)/\la<of/\x+1<=of/\la<n-hint/\b (hint+la)=true) (Q:=λc st'=>st'=st /\ ∃ la of,c=(none,la,of)/\la<of/\la<n-hint/\b (hint+la)=true/\(n-hint<=of\/b (hint+of)=false)) ?step ?fin ⟨rfl,0,1,rfl,by omega,by omega,by omega,e⟩) ?post)
  case step=>
   rintro x c st' _ hx ⟨rfl,la,of,rfl,q1,q2,q3,q4⟩;dsimp only;by_cases hge:of≥n-hint
   .rw[AB hge];exact wpS_pure ⟨rfl,la,of,rfl,q1,q3,q4,.inl hge⟩
   .rw[AE hge];refine wpS_bind (hb _ (by omega) _ ?_);dsimp only;cases e2:b (hint+of) with
    |true=>
     rw[AE (by decide)];exact wpS_pure ⟨rfl,of,2*of+1,rfl,by omega,by omega,by omega,e2⟩
    |false=>
     rw[AB (by decide)];exact wpS_pure ⟨rfl,la,of,rfl,q1,q3,q4,.inr e2⟩
  case fin=>
   rintro c st' ⟨rfl,la,of,rfl,q1,q2,q3,q4⟩;exact ⟨rfl,la,of,rfl,q1,q3,q4,.inl (by omega)⟩
  case post=>
   rintro c st' ⟨rfl,la,of,rfl,q1,q3,q4,q5⟩;refine go (hint+la+1) (hint+min of (n-hint)) (by omega) (by omega) (λi hi=>mono i (hint+la) (by omega) (by omega) q4) (λi h1 h2=>?_);rcases q5 with q5|q5
   .omega
   .by_cases hc:n-hint<=of
    .omega
    .exact no (i:=hint+of) (by omega) h2 q5
 |false=>
  refine wpS_bind (wpS_mono (wpS_forRange (I:=λx c st'=>st'=st /\ ∃ la of,c=(none,la,of)/\la<of/\x+1<=of/\la<hint+1/\b (hint-la)=false) (Q:=λc st'=>st'=st /\ ∃ la of,c=(none,la,of)/\la<of/\la<hint+1/\b (hint-la)=false/\(hint+1<=of\/b (hint-of)=true)) ?step ?fin ⟨rfl,0,1,rfl,by omega,by omega,by omega,e⟩) ?post)
  case step=>
   rintro x c st' _ hx ⟨rfl,la,of,rfl,q1,q2,q3,q4⟩;dsimp only;by_cases hge:of≥hint+1
   .rw[AB hge];exact wpS_pure ⟨rfl,la,of,rfl,q1,q3,q4,.inl hge⟩
   .rw[AE hge];refine wpS_bind (hb _ (by omega) _ ?_);dsimp only;cases e2:b (hint-of) with
    |true=>
     rw[AB rfl];exact wpS_pure ⟨rfl,la,of,rfl,q1,q3,q4,.inr e2⟩
    |false=>
     rw[AE (by decide)];exact wpS_pure ⟨rfl,of,2*of+1,rfl,by omega,by omega,by omega,e2⟩
  case fin=>
   rintro c st' ⟨rfl,la,of,rfl,q1,q2,q3,q4⟩;exact ⟨rfl,la,of,rfl,q1,q3,q4,.inl (by omega)⟩
  case post=>
   rintro c st' ⟨rfl,la,of,rfl,q1,q3,q4,q5⟩;refine go (hint+1-min of (hint+1)) (hint-la) (by omega) (by omega) (λi hi=>?_) (λi h1 h2=>no (i:=hint-la) (by omega) h2 q4);rcases q5 with q5|q5
   .omega
   .by_cases hc:hint+1<=of
    .omega
    .exact mono i (hint-of) (by omega) (by omega) q5
end
structure MI (le:Keyed->Keyed->Prop) (C out l m:List Keyed):Prop where
 perm:(out++(l++m)).Perm C
 so:out.Pairwise le
 sl:l.Pairwise le
 sm:m.Pairwise le
 ol:∀ x∈out,∀ y∈l,le x y
 om:∀ x∈out,∀ y∈m,le x y
section
variable {le:Keyed->Keyed->Prop} {C out l m p:List Keyed}
def MI.takeL (h:MI le C out (p++l) m) (hp:∀ x∈p,∀ y∈m,le x y):MI le C (out++p) l m:=by
 have sl:=List.pairwise_append.mp h.sl;refine ⟨by have:=h.perm;simpa using this,List.pairwise_append.mpr ⟨h.so,sl.1,λx hx y hy=>h.ol x hx y (CS _ hy)⟩,sl.2.1,h.sm,λx hx y hy=>?_,λx hx y hy=>?_⟩
 .rcases Ai.mp hx with z|z
  .exact h.ol x z y (Ah _ hy)
  .exact sl.2.2 x z y hy
 .rcases Ai.mp hx with z|z
  .exact h.om x z y hy
  .exact hp x z y hy
def MI.takeR (h:MI le C out l (p++m)) (hp:∀ x∈p,∀ y∈l,le x y):MI le C (out++p) l m:=by
 have sm:=List.pairwise_append.mp h.sm;refine ⟨?_,List.pairwise_append.mpr ⟨h.so,sm.1,λx hx y hy=>h.om x hx y (CS _ hy)⟩,h.sl,sm.2.1,λx hx y hy=>?_,λx hx y hy=>?_⟩
 .refine List.Perm.trans ?_ h.perm;rw[BL];refine List.Perm.append_left _ ?_;rw[<-BL,<-BL];exact List.Perm.append_right _ List.perm_append_comm
 .rcases Ai.mp hx with z|z
  .exact h.ol x z y hy
  .exact hp x z y hy
 .rcases Ai.mp hx with z|z
  .exact h.om x z y (Ah _ hy)
  .exact sm.2.2 x z y hy
def Mgd (le:Keyed->Keyed->Prop) (C:List Keyed) (out:List Keyed):Prop:=out.Perm C/\out.Pairwise le
def MI.endL (h:MI le C out l []):Mgd le C (out++l):=⟨by have:=h.perm;simpa using this,List.pairwise_append.mpr ⟨h.so,h.sl,h.ol⟩⟩
def MI.endR (h:MI le C out [] m):Mgd le C (out++m):=⟨by have:=h.perm;simpa using this,List.pairwise_append.mpr ⟨h.so,h.sm,h.om⟩⟩
def MI.last (h:MI le C out l m) (hl:∀ y∈m,∀ x∈l,le y x):Mgd le C (out++m++l):=by
 have h2:MI le C (out++m) l []:=MI.takeR (p:=m) (m:=[]) (by simpa using h) hl;exact h2.endL
end
section
variable {prog:Ym} {w:Yo} {A:Yn} {E:Yc} {s:Yl} {κ:SortKind} {vs:Yf} {r:Yr}
abbrev leR (r:Yr) (x y:Keyed):Prop:=r x.1<=r y.1
abbrev geR (r:Yr) (x y:Keyed):Prop:=r y.1<=r x.1
structure SameS (st st':SortSt):Prop where
 k:kindOf st'=kindOf st
 a:arrOf st'=arrOf st
 p:pendingOf st'=pendingOf st
 f:failedOf st'=failedOf st
def SameS.refl (st:SortSt):SameS st st:=⟨rfl,rfl,rfl,rfl⟩
def GS (R:Cj prog w s κ vs r) {left:Bool} {key:Keyed} {arr:Array Keyed} {base n hint:Nat} {st:SortSt} {Q:Option Nat->SortSt->Prop} (hk:kindOf st=κ) (hkey:key.1∈vs) (harr:∀ i,i<n -> ∃ x,arr[base+i]?=some x/\x.1∈vs)
  (srt:∀ i j x y,i<=j->j<n->arr[base+i]?=some x->arr[base+j]?=some y->r x.1<=r y.1) (hh:hint<n)
  (h:∀ k,k<=n->(∀ i x,i<k->arr[base+i]?=some x->if left then r x.1<r key.1 else r x.1<=r key.1)->(∀ i x,k<=i->i<n->arr[base+i]?=some x->if left then r key.1<=r x.1 else r key.1<r x.1)->Q (some k) st) :
  wpS (model prog w) A E s (RD left key arr base n hint) Q st:=by
 let b:Nat->Bool:=λi=>match arr[base+i]? with
  |some x=>if left then decide (r x.1<r key.1) else decide (r x.1<=r key.1)
  |none=>false
 have bx:∀ {i x},arr[base+i]?=some x->b i=if left then decide (r x.1<r key.1) else decide (r x.1<=r key.1):=λ{i x} e=>by
  show (match arr[base+i]? with|some x=>_|none=>_)=_;rw[e]
 refine Rr (b:=b) hh (λi hi Q' q=>?_) (λi j hij hj e=>?_) λk hk h1 h2=>h k hk (λi x hi e=>?_) (λi x hi hn e=>?_)
 .obtain ⟨x,ex,hx⟩:=harr i hi;rw[bx ex]at q;refine wpS_bind (zm ex ?_);cases left with
  |true=>
   rw[AB rfl]at q ⊢;exact G9 R hk hx hkey q
  |false=>
   rw[AE (by decide)]at q ⊢;refine wpS_bind (G9 R hk hkey hx (wpS_pure ?_));have:(!decide (r key.1<r x.1))=decide (r x.1<=r key.1):=by
    by_cases z:r key.1<r x.1
    .rw[AO z,AU (by omega)];rfl
    .rw[AU z,AO (by omega)];rfl
   show Q' (some (!decide (r key.1<r x.1))) st;rw[this];exact q
 .obtain ⟨x,ex,_⟩:=harr i (by omega);obtain ⟨y,ey,_⟩:=harr j hj;have:=srt i j x y hij hj ex ey;rw[bx ex];rw[bx ey]at e;cases left with
  |true=>rw[AB rfl]at e ⊢;have:=CQ e;exact AO (by omega)
  |false=>rw[AE (by decide)]at e ⊢;have:=CQ e;exact AO (by omega)
 .have q:=h1 i hi;rw[bx e]at q;cases left with
  |true=>rw[AB rfl]at q ⊢;exact CQ q
  |false=>rw[AE (by decide)]at q ⊢;exact CQ q
 .have q:=h2 i hi hn;rw[bx e]at q;cases left with
  |true=>rw[AB rfl]at q ⊢;have:=of_decide_eq_false q;omega
  |false=>rw[AE (by decide)]at q ⊢;have:=of_decide_eq_false q;omega
def ML (r:Yr) (a b out:Array Keyed) (ia ib:Nat):Prop:=MI (leR r) (a.toList++b.toList) out.toList (a.toList.drop ia) (b.toList.drop ib)
variable {a b out:Array Keyed} {ia ib:Nat}
def Im (e:a[i]?=some x):a.toList.drop i=x::a.toList.drop (i+1):=by
 obtain ⟨hi,rfl⟩:=Array.getElem?_eq_some_iff.mp e;rw[List.drop_eq_getElem_cons (by simpa using hi)];simp
def LZ (h:x∈a.toList.drop i):∃ j,i<=j/\a[j]?=some x:=by
 obtain ⟨j,e⟩:=List.mem_iff_getElem?.mp h;rw[List.getElem?_drop,Bj]at e;exact ⟨i+j,by omega,e⟩
def ML.pushB (h:ML r a b out ia ib) (e:b[ib]?=some y) (hy:∀ x∈a.toList.drop ia,r y.1<=r x.1):ML r a b (out.push y) ia (ib+1):=by
 unfold ML at h ⊢;rw[Im e]at h;rw[Array.toList_push];exact MI.takeR (p:=[y]) h λx hx z hz=>by rw[Aq.mp hx];exact hy z hz
def ML.pushA (h:ML r a b out ia ib) (e:a[ia]?=some x) (hx:∀ y∈b.toList.drop ib,r x.1<=r y.1):ML r a b (out.push x) (ia+1) ib:=by
 unfold ML at h ⊢;rw[Im e]at h;rw[Array.toList_push];exact MI.takeL (p:=[x]) h λy hy z hz=>by rw[Aq.mp hy];exact hx z hz
def Lw (a:Array Keyed) (i k:Nat):(a.extract i (i+k)).toList=(a.toList.drop i).take k:=by
 rw[Array.toList_extract,List.extract_eq_take_drop];simp
def ML.blockA (h:ML r a b out ia ib) (k:Nat) (hx:∀ x∈(a.toList.drop ia).take k,∀ y∈b.toList.drop ib,r x.1<=r y.1):ML r a b (out++a.extract ia (ia+k)) (ia+k) ib:=by
 unfold ML at h ⊢;rw[Array.toList_append,Lw];rw[<-DW k (a.toList.drop ia),List.drop_drop]at h;exact MI.takeL h hx
def ML.blockB (h:ML r a b out ia ib) (k:Nat) (hx:∀ x∈(b.toList.drop ib).take k,∀ y∈a.toList.drop ia,r x.1<=r y.1):ML r a b (out++b.extract ib (ib+k)) ia (ib+k):=by
 unfold ML at h ⊢;rw[Array.toList_append,Lw];rw[<-DW k (b.toList.drop ib),List.drop_drop]at h;exact MI.takeR h hx
def JT (a:Array Keyed) (i:Nat):(a.extract i a.size).toList=a.toList.drop i:=by
 rw[Array.toList_extract,List.extract_eq_take_drop,Fx (by simp)]
def ML.done (h:ML r a b out ia ib) (e:a.size<=ia\/b.size<=ib):Mgd (leR r) (a.toList++b.toList) (out++a.extract ia a.size++b.extract ib b.size).toList:=by
 unfold ML at h;rw[Array.toList_append,Array.toList_append,JT,JT];rcases e with e|e
 .rw[List.drop_eq_nil_of_le (by simpa using e)]at h ⊢;simpa using h.endR
 .rw[List.drop_eq_nil_of_le (as:=b.toList) (by simpa using e)]at h ⊢;simpa using h.endL
def ML.lastA (h:ML r a b out ia ib) (hl:∀ y∈b.toList.drop ib,∀ x∈a.toList.drop ia,r y.1<=r x.1):Mgd (leR r) (a.toList++b.toList) (out++b.extract ib b.size++a.extract ia a.size).toList:=by
 unfold ML at h;rw[Array.toList_append,Array.toList_append,JT,JT];exact h.last hl
def ML.headA (h:ML r a b out ia ib) (e:a[ia]?=some x):∀ z∈a.toList.drop ia,r x.1<=r z.1:=by
 have:=h.sl;rw[Im e]at this ⊢;intro z hz;rcases AI.mp hz with q|q
 .rw[q];exact AF _
 .exact (DY.mp this).1 z q
def ML.headB (h:ML r a b out ia ib) (e:b[ib]?=some y):∀ z∈b.toList.drop ib,r y.1<=r z.1:=by
 have:=h.sm;rw[Im e]at this ⊢;intro z hz;rcases AI.mp hz with q|q
 .rw[q];exact AF _
 .exact (DY.mp this).1 z q
end
section
variable {prog:Ym} {w:Yo} {A:Yn} {E:Yc} {s:Yl} {κ:SortKind} {vs:Yf} {r:Yr} {a b:Array Keyed}
structure Fr1 (r:Yr) (a b:Array Keyed) (st st':SortSt) (out:Array Keyed) (ia ib:Nat):Prop where
 m:ML r a b out ia ib
 s:SameS st st'
 ha:ia+1<a.size
 hb:ib<b.size
def Cm {a:Array Keyed} {i:Nat} {x:Keyed} (e:a[i]?=some x):x∈a.toList:=by
 obtain ⟨hi,rfl⟩:=Array.getElem?_eq_some_iff.mp e;simp
def zX {α:Type} {c:Prop} [Decidable c] {m1 m2:StateT SortSt Sem α} {Q:α->SortSt->Prop} {st:SortSt} (h1:c->wpS (model prog w) A E s m1 Q st) (h2:¬ c->wpS (model prog w) A E s m2 Q st):wpS (model prog w) A E s (if c then m1 else m2) Q st:=by
 split
 .exact h1 (by assumption)
 .exact h2 (by assumption)
def EA {a:Array Keyed} (sa:a.toList.Pairwise (leR r)) {i j:Nat} {x y:Keyed} (hij:i<=j) (ex:a[i]?=some x) (ey:a[j]?=some y):r x.1<=r y.1:=by
 by_cases e:i=j
 .subst e;rw[ex]at ey;cases ey;exact AF _
 .obtain ⟨hi,rfl⟩:=Array.getElem?_eq_some_iff.mp ex;obtain ⟨hj,rfl⟩:=Array.getElem?_eq_some_iff.mp ey;have:=List.pairwise_iff_getElem.mp sa i j (by simpa using hi) (by simpa using hj) (by omega);simpa using this
def JP (h:x∈(a.toList.drop i).take k):∃ j,j<k/\a[i+j]?=some x:=by
 obtain ⟨j,e⟩:=List.mem_iff_getElem?.mp h;rw[List.getElem?_take]at e;split at e
 .rw[List.getElem?_drop,Bj]at e;exact ⟨j,by assumption,e⟩
 .cases e
def BN (h:i<a.size):a[i]?=some a[i]:=Cd h
def Al {α β:Type} {x:StateT SortSt Sem α} {f:α->StateT SortSt Sem β} {Q:β->SortSt->Prop} {st:SortSt} {S:(α->SortSt->Prop)->Prop} (h:∀ P,S P->wpS (model prog w) A E s x P st) (g:S λv st=>wpS (model prog w) A E s (f v) Q st):wpS (model prog w) A E s (x >>= f) Q st:=wpS_bind (h _ g)
set_option maxHeartbeats 4000000 in
def X8 (R:Cj prog w s κ vs r) (ha:∀ x∈a.toList,x.1∈vs) (hb:∀ x∈b.toList,x.1∈vs) (sa:a.toList.Pairwise (leR r)) (sb:b.toList.Pairwise (leR r)) (h0:0<a.size) (h1:0<b.size)
  (hf:∀ y,b[0]?=some y -> ∀ x∈a.toList,r y.1<=r x.1) (hl:∀ y∈b.toList,∀ x,a[a.size-1]?=some x->r y.1<=r x.1) {st:SortSt} (hk:kindOf st=κ) {Q:Array Keyed->SortSt->Prop}
  (h:∀ out st',SameS st st'->Mgd (leR r) (a.toList++b.toList) out.toList->Q out st'):wpS (model prog w) A E s (Zk a b) Q st:=by
 have lastA:∀ {out ia ib},ML r a b out ia ib->ia+1=a.size->Mgd (leR r) (a.toList++b.toList) (out++b.extract ib b.size++a.extract ia a.size).toList:=λ{out ia ib} m e=>m.lastA λy hy x hx=>by
  obtain ⟨j,hj,ej⟩:=LZ hx;have hj2:=(Array.getElem?_eq_some_iff.mp ej).1;exact hl y (List.mem_of_mem_drop hy) x (by rw[show a.size-1=j by omega];exact ej)
 refine Al (λP g=>wpS_lift (BY ⟨rfl,g⟩)) ?_;refine Al (λP g=>zm (BN h1) g) ?_;have m0:ML r a b #[] 0 0:=⟨List.Perm.refl _,.nil,sa,sb,(λx hx=>absurd hx (by simp)),(λx hx=>absurd hx (by simp))⟩;have m1:ML r a b #[b[0]] 0 1:=m0.pushB (BN h1) (hf _ (BN h1));refine zX (λc1=>wpS_pure (h _ _ (.refl _) (m1.done (.inr (Nat.le_of_eq (show b.size=1 by simpa using (by simpa using c1:1=b.size).symm)))))) (λc1=>?_);refine zX (λc2=>wpS_pure (h _ _ (.refl _) (lastA m1 (by simpa using c2)))) (λc2=>?_);replace c1:¬ 1=b.size:=by simpa using c1
 replace c2:¬ 0+1=a.size:=by simpa using c2
 refine Al (λP g=>wpS_get g) ?_;refine wpS_bind (wpS_mono (wpS_forRange (I:=λx c st'=>∃ out ia ib g,c=(none,out,ia,ib,g)/\Fr1 r a b st st' out ia ib/\x+1<=ia+ib) (Q:=λc st'=>∃ res,c.1=some res/\SameS st st'/\Mgd (leR r) (a.toList++b.toList) res.toList) ?step ?fin ⟨_,_,_,_,rfl,⟨m1,.refl _,by omega,by omega⟩,by omega⟩) ?post)
 case fin=>
  intro c st' hI;refine Classical.byContradiction λG=>?_;obtain ⟨out,ia,ib,g,eI1,f,hx⟩:=hI;refine G ?_;clear G;subst eI1;have:=f.ha;have:=f.hb;omega
 case post=>
  rintro ⟨c1,c2⟩ st' ⟨res,e,hs,hm⟩;dsimp only at e;subst e;exact wpS_pure (h _ _ hs hm)
 case step=>
  intro x c st' _ hx hI;refine Classical.byContradiction λG=>?_;obtain ⟨out,ia,ib,g,eI1,f,hx2⟩:=hI;refine G ?_;clear G;subst eI1;dsimp only;refine Al (λP=>wpS_mono (wpS_forRange (I:=λy c st'=>∃ out2 ia2 ib2 ca cb,c=(none,out2,ia2,ib2,ca,cb)/\Fr1 r a b st st' out2 ia2 ib2/\ia+ib+y<=ia2+ib2) (Q:=λc st'=>(∃ res,c.1=some res/\SameS st st'/\Mgd (leR r) (a.toList++b.toList) res.toList) \/ ∃ out2 ia2 ib2 ca cb,c=(none,out2,ia2,ib2,ca,cb)/\Fr1 r a b st st' out2 ia2 ib2/\ia+ib+1<=ia2+ib2) ?step1 ?fin1 ⟨_,_,_,_,_,rfl,f,by omega⟩)) ?post1
  case fin1=>
   intro c st' hI;refine Classical.byContradiction λG=>?_;obtain ⟨out2,ia,ib,ca,cb,eI1,f,hy⟩:=hI;refine G ?_;clear G;subst eI1;exact .inr ⟨_,_,_,_,_,rfl,f,by omega⟩
  case step1=>
   intro y c st' _ hy hI;refine Classical.byContradiction λG=>?_;obtain ⟨out2,ia,ib,ca,cb,eI1,f,hy2⟩:=hI;refine G ?_;clear G;subst eI1;dsimp only;have hia:ia<a.size:=by have:=f.ha;omega
   have hib:=f.hb;have eb:b[ib]?=some b[ib]:=BN hib;have ea:a[ia]?=some a[ia]:=BN hia;have hkk:kindOf st'=κ:=f.s.k.trans hk;refine Al (λP g=>zm eb g) (Al (λP g=>zm ea g) (Al (λP g=>G9 R hkk (hb _ (Cm eb)) (ha _ (Cm ea)) g) ?_));refine zX (λhlt=>?_) (λhlt=>?_)
   .replace hlt:=CQ hlt;refine Al (λP g=>zm eb g) ?_;have m2:ML r a b (out2.push b[ib]) ia (ib+1):=f.m.pushB eb λz hz=>by have:=f.m.headA ea z hz;omega
    refine zX (λc3=>wpS_pure (.inl ⟨_,rfl,f.s,m2.done (.inr (Nat.le_of_eq (show ib+1=b.size by simpa using c3).symm))⟩)) (λc3=>?_);have f2:Fr1 r a b st st' (out2.push b[ib]) ia (ib+1):=⟨m2,f.s,f.ha,by simp at c3;omega⟩;exact zX (λ_=>wpS_pure (.inr ⟨_,_,_,_,_,rfl,f2,by omega⟩)) (λ_=>wpS_pure ⟨_,_,_,_,_,rfl,f2,by omega⟩)
   .replace hlt:¬ _:=λh=>hlt (AO h);refine Al (λP g=>zm ea g) ?_;have m2:ML r a b (out2.push a[ia]) (ia+1) ib:=f.m.pushA ea λz hz=>by have:=f.m.headB eb z hz;omega
    refine zX (λc3=>wpS_pure (.inl ⟨_,rfl,f.s,lastA m2 (by simpa using c3)⟩)) (λc3=>?_);have f2:Fr1 r a b st st' (out2.push a[ia]) (ia+1) ib:=⟨m2,f.s,by have:=f.ha;simp at c3;omega,f.hb⟩;exact zX (λ_=>wpS_pure (.inr ⟨_,_,_,_,_,rfl,f2,by omega⟩)) (λ_=>wpS_pure ⟨_,_,_,_,_,rfl,f2,by omega⟩)
  case post1=>
   intro c st' hI;refine Classical.byContradiction λG=>?_;obtain ⟨res,e,hs,hm⟩|⟨out2,ia,ib,ca,cb,e,f,hy⟩:=hI
   .obtain ⟨c2,rfl⟩:∃ c2,c=(some res,c2):=⟨c.2,by cases c;cases e;rfl⟩;exact G (wpS_pure ⟨res,rfl,hs,hm⟩)
   .refine G ?_;clear G;subst e;dsimp only;refine Al (λP g=>wpS_lift (BY ⟨rfl,g⟩)) ?_;refine wpS_bind (wpS_mono (wpS_forRange (I:=λy c st'=>∃ out3 ia3 ib3 g ca cb,c=(none,out3,ia3,ib3,g,ca,cb)/\Fr1 r a b st st' out3 ia3 ib3/\ia+ib<=ia3+ib3) (Q:=λc st'=>(∃ res,c.1=some res/\SameS st st'/\Mgd (leR r) (a.toList++b.toList) res.toList) \/ ∃ out3 ia3 ib3 g ca cb,c=(none,out3,ia3,ib3,g,ca,cb)/\Fr1 r a b st st' out3 ia3 ib3/\ia+ib<=ia3+ib3) ?step2 ?fin2 ⟨_,_,_,_,_,_,rfl,f,by omega⟩) ?post2)
    case fin2=>
     intro c st' hI;refine Classical.byContradiction λG=>?_;obtain ⟨out3,ia,ib,g,ca,cb,eI1,f,hy⟩:=hI;refine G ?_;clear G;subst eI1;exact .inr ⟨_,_,_,_,_,_,rfl,f,hy⟩
    case post2=>
     intro c st' hI;refine Classical.byContradiction λG=>?_;obtain ⟨res,e,hs,hm⟩|⟨out3,ia,ib,g,ca,cb,e,f,hz⟩:=hI
     .obtain ⟨c2,rfl⟩:∃ c2,c=(some res,c2):=⟨c.2,by cases c;cases e;rfl⟩;exact G (wpS_pure ⟨res,rfl,hs,hm⟩)
     .refine G ?_;clear G;subst e;dsimp only;refine wpS_bind (wpS_modify (wpS_pure ⟨_,_,_,_,rfl,⟨f.m,⟨f.s.k,f.s.a,f.s.p,f.s.f⟩,f.ha,f.hb⟩,by omega⟩))
    case step2=>
     intro y c st' _ hy hI;refine Classical.byContradiction λG=>?_;obtain ⟨out3,ia,ib,g,ca,cb,eI1,f,hy2⟩:=hI;refine G ?_;clear G;subst eI1;have hia:ia<a.size:=by have:=f.ha;omega
     have hib:=f.hb;have eb:b[ib]?=some b[ib]:=BN hib;dsimp only;refine zX (λcg=>?_) (λcg=>?_);clear cg;generalize g-1=g';revert g';refine ?K;rotate_left;clear cg;exact ?K _;intro g';refine Al (λP g=>wpS_modify g) ?_;refine Al (λP g=>zm eb g) ?_;have hs2:=f.s;refine Al (λP=>GS (left:=false) (key:=b[ib]) (arr:=a) (base:=ia) (n:=a.size-ia) (hint:=0) R (hs2.k.trans hk) (hb _ (Cm eb)) (λi hi=>⟨_,BN (by omega),ha _ (Cm (BN (by omega)))⟩) (λi j x y hij hj ex ey=>EA sa (by omega) ex ey) (by omega)) λk hk1 g1 g2=>?_;have aft:∀ x∈a.toList.drop (ia+k),r b[ib].1<=r x.1:=λx hx=>by
      obtain ⟨j,hj,ej⟩:=LZ hx;have hj2:=(Array.getElem?_eq_some_iff.mp ej).1;have:=g2 (j-ia) x (by omega) (by omega) (by rw[show ia+(j-ia)=j by omega];exact ej);exact DB this
     refine zX (λhk0=>?_) (λhk0=>?_);have m4:=f.m.blockA k λx hx z hz=>by
      obtain ⟨i,hi,ei⟩:=JP hx;have:r x.1<=r b[ib].1:=g1 i x hi ei;have:=f.m.headB eb z hz;omega
     refine zX (λc4=>wpS_pure (.inl ⟨_,rfl,⟨hs2.k,hs2.a,hs2.p,hs2.f⟩,lastA m4 (show ia+k+1=a.size by simpa using c4)⟩)) (λc4=>zX (λc5=>wpS_pure (.inl ⟨_,rfl,⟨hs2.k,hs2.a,hs2.p,hs2.f⟩,m4.done (.inl (Nat.le_of_eq (show a.size=ia+k by simpa using (by simpa using c5:ia+k=a.size).symm)))⟩)) (λc5=>?_));have a4:ia+k+1<a.size:=by simp at c4 c5;omega
     have l4:ia<=ia+k:=Nat.le_add_right _ _;clear c4 c5 hk0;generalize out3++a.extract ia (ia+k)=o4 at m4 ⊢;generalize ia+k=i4 at m4 a4 l4 aft ⊢;revert aft;revert l4;revert a4;revert m4;revert i4;revert o4;refine ?K2;rotate_left;have hk00:k=0:=by omega
     exact ?K2 _ _ f.m f.ha (AF _) (λx hx=>aft x (by rw[hk00];exact hx));intro o4 i4 m4 a4 l4 aft;refine Al (λP g=>zm eb g) ?_;have m5:=m4.pushB eb aft;refine zX (λc6=>wpS_pure (.inl ⟨_,rfl,⟨hs2.k,hs2.a,hs2.p,hs2.f⟩,m5.done (.inr (Nat.le_of_eq (show ib+1=b.size by simpa using c6).symm))⟩)) (λc6=>?_);have c6':ib+1<b.size:=by simp at c6;omega
     have ea4:=BN (Nat.lt_of_succ_lt a4);refine Al (λP g=>zm ea4 g) ?_;refine Al (λP=>GS (left:=true) (arr:=b) (base:=ib+1) (n:=b.size-(ib+1)) (hint:=0) R (hs2.k.trans hk) (ha _ (Cm ea4)) (λi hi=>⟨_,BN (by omega),hb _ (Cm (BN (by omega)))⟩) (λi j x y hij hj ex ey=>EA sb (by omega) ex ey) (by omega)) λk2 hk2 g3 g4=>?_;have aft2:∀ y∈b.toList.drop (ib+1+k2),_<=r y.1:=λy hy=>by
      obtain ⟨j,hj,ej⟩:=LZ hy;have hj2:=(Array.getElem?_eq_some_iff.mp ej).1;exact g4 (j-(ib+1)) y (by omega) (by omega) (by rw[show ib+1+(j-(ib+1))=j by omega];exact ej)
     refine zX (λhk3=>?_) (λhk3=>?_);have m6:=m5.blockB k2 λx hx z hz=>by
      obtain ⟨i,hi,ei⟩:=JP hx;exact DB (BB (g3 i x hi ei) (m5.headA ea4 z hz))
     refine zX (λc7=>wpS_pure (.inl ⟨_,rfl,⟨hs2.k,hs2.a,hs2.p,hs2.f⟩,m6.done (.inr (Nat.le_of_eq (show ib+1+k2=b.size by simpa using c7).symm))⟩)) (λc7=>?_);have b6:ib+1+k2<b.size:=by simp at c7;omega
     have l6:ib+1<=ib+1+k2:=Nat.le_add_right _ _;clear c7 hk3;generalize o4.push b[ib]++b.extract (ib+1) (ib+1+k2)=o6 at m6 ⊢;generalize ib+1+k2=i6 at m6 b6 l6 aft2 ⊢;revert aft2;revert l6;revert b6;revert m6;revert i6;revert o6;refine ?K3;rotate_left;have hk00:k2=0:=by omega
     exact ?K3 _ _ m5 c6' (AF _) (λx hx=>aft2 x (by rw[hk00];exact hx));intro o6 i6 m6 b6 l6 aft2;refine Al (λP g=>zm ea4 g) ?_;have m7:=m6.pushA ea4 aft2;refine zX (λc8=>wpS_pure (.inl ⟨_,rfl,⟨hs2.k,hs2.a,hs2.p,hs2.f⟩,lastA m7 (by simpa using c8)⟩)) (λc8=>?_);have a7:i4+1+1<a.size:=by simp at c8;omega
     have l7:_<=i4+1+i6:=AZ hy2 (by omega);exact zX (λ_=>wpS_pure (.inr ⟨_,_,_,_,_,_,rfl,⟨m7,⟨hs2.k,hs2.a,hs2.p,hs2.f⟩,a7,b6⟩,l7⟩)) (λ_=>wpS_pure ⟨_,_,_,_,_,_,rfl,⟨m7,⟨hs2.k,hs2.a,hs2.p,hs2.f⟩,a7,b6⟩,l7⟩)
end
section
variable {prog:Ym} {w:Yo} {A:Yn} {E:Yc} {s:Yl} {κ:SortKind} {vs:Yf} {r:Yr} {a b out:Array Keyed} {na nb:Nat}
def MH (r:Yr) (a b out:Array Keyed) (na nb:Nat):Prop:=MI (geR r) (a.toList++b.toList) out.toList (a.toList.take na).reverse (b.toList.take nb).reverse
def RY (e:a[i]?=some x):(a.toList.take (i+1)).reverse=x::(a.toList.take i).reverse:=by
 rw[List.take_add_one,Bj,e];simp
def F6 (h:x∈a.toList.take n):∃ j,j<n/\a[j]?=some x:=by
 obtain ⟨j,e⟩:=List.mem_iff_getElem?.mp h;rw[List.getElem?_take]at e;split at e
 .rw[Bj]at e;exact ⟨j,by assumption,e⟩
 .cases e
def MH.pushA (h:MH r a b out (na+1) nb) (e:a[na]?=some x) (hx:∀ y∈b.toList.take nb,r y.1<=r x.1):MH r a b (out.push x) na nb:=by
 unfold MH at h ⊢;rw[RY e]at h;rw[Array.toList_push];exact MI.takeL (p:=[x]) h λy hy z hz=>by rw[Aq.mp hy];exact hx z (by simpa using hz)
def MH.pushB (h:MH r a b out na (nb+1)) (e:b[nb]?=some y) (hy:∀ x∈a.toList.take na,r x.1<=r y.1):MH r a b (out.push y) na nb:=by
 unfold MH at h ⊢;rw[RY e]at h;rw[Array.toList_push];exact MI.takeR (p:=[y]) h λx hx z hz=>by rw[Aq.mp hx];exact hy z (by simpa using hz)
def Nh (a:Array Keyed) (h:i<=n):(a.toList.take n).reverse=(a.extract i n).reverse.toList++(a.toList.take i).reverse:=by
 rw[Array.toList_reverse,Array.toList_extract,List.extract_eq_take_drop,<-List.reverse_append];congr 1;rw[<-List.drop_take];conv=>lhs;rw[<-DW i (a.toList.take n),List.take_take,Nat.min_eq_left h]
def MH.blockA (h:MH r a b out na nb) (hi:i<=na) (hx:∀ j x,i<=j->j<na->a[j]?=some x -> ∀ y∈b.toList.take nb,r y.1<=r x.1):MH r a b (out++(a.extract i na).reverse) i nb:=by
 unfold MH at h ⊢;rw[Nh a hi]at h;rw[Array.toList_append];refine MI.takeL h λx hx' y hy=>?_;rw[Array.toList_reverse,List.mem_reverse,Array.toList_extract,List.extract_eq_take_drop]at hx';obtain ⟨j,hj,ej⟩:=JP hx';exact hx (i+j) x (by omega) (by omega) ej y (by simpa using hy)
def MH.blockB (h:MH r a b out na nb) (hi:i<=nb) (hx:∀ j x,i<=j->j<nb->b[j]?=some x -> ∀ y∈a.toList.take na,r y.1<=r x.1):MH r a b (out++(b.extract i nb).reverse) na i:=by
 unfold MH at h ⊢;rw[Nh b hi]at h;rw[Array.toList_append];refine MI.takeR h λx hx' y hy=>?_;rw[Array.toList_reverse,List.mem_reverse,Array.toList_extract,List.extract_eq_take_drop]at hx';obtain ⟨j,hj,ej⟩:=JP hx';exact hx (i+j) x (by omega) (by omega) ej y (by simpa using hy)
def Ip (a:Array Keyed) (n:Nat):(a.extract 0 n).toList=a.toList.take n:=by
 rw[Array.toList_extract,List.extract_eq_take_drop];simp
def Mgd.rev (h:Mgd (geR r) C xs):Mgd (leR r) C xs.reverse:=⟨(List.reverse_perm _).trans h.1,List.pairwise_reverse.mpr h.2⟩
def MH.done (h:MH r a b out na nb) (e:na=0\/nb=0):Mgd (leR r) (a.toList++b.toList) (a.extract 0 na++b.extract 0 nb++out.reverse).toList:=by
 unfold MH at h;rw[Array.toList_append,Array.toList_append,Ip,Ip,Array.toList_reverse];rcases e with rfl|rfl
 .have:=h.endR.rev;simpa using this
 .have:=(MI.endL (l:=(a.toList.take na).reverse) (by simpa using h)).rev;simpa using this
def MH.firstB (h:MH r a b out na nb) (hl:∀ x∈a.toList.take na,∀ y∈b.toList.take nb,r y.1<=r x.1):Mgd (leR r) (a.toList++b.toList) (b.extract 0 nb++a.extract 0 na++out.reverse).toList:=by
 unfold MH at h;have h2:=MI.endR (MI.takeL (p:=(a.toList.take na).reverse) (l:=[]) (by simpa using h) λx hx y hy=>hl x (by simpa using hx) y (by simpa using hy));rw[Array.toList_append,Array.toList_append,Ip,Ip,Array.toList_reverse];simpa using h2.rev
structure Fr2 (r:Yr) (a b:Array Keyed) (st st':SortSt) (out:Array Keyed) (na nb:Nat):Prop where
 m:MH r a b out na nb
 s:SameS st st'
 a0:0<na
 b0:1<nb
 al:na<a.size
 bl:nb<=b.size
set_option maxHeartbeats 4000000 in
def X6 (R:Cj prog w s κ vs r) (ha:∀ x∈a.toList,x.1∈vs) (hb:∀ x∈b.toList,x.1∈vs) (sa:a.toList.Pairwise (leR r)) (sb:b.toList.Pairwise (leR r)) (h0:0<a.size) (h1:0<b.size)
  (hf:∀ y,b[0]?=some y -> ∀ x∈a.toList,r y.1<=r x.1) (hl:∀ y∈b.toList,∀ x,a[a.size-1]?=some x->r y.1<=r x.1) {st:SortSt} (hk:kindOf st=κ) {Q:Array Keyed->SortSt->Prop}
  (h:∀ out st',SameS st st'->Mgd (leR r) (a.toList++b.toList) out.toList->Q out st'):wpS (model prog w) A E s (Vu a b) Q st:=by
 have firstB:∀ {out na nb},MH r a b out na nb->nb=1->Mgd (leR r) (a.toList++b.toList) (b.extract 0 nb++a.extract 0 na++out.reverse).toList:=λ{out na nb} m e=>m.firstB λx hx y hy=>by
  obtain ⟨j,hj,ej⟩:=F6 hy;have:j=0:=by omega
  subst this;exact hf y ej x (List.mem_of_mem_take hx)
 have e0:a[a.size-1]?=some a[a.size-1]:=BN (by omega);refine Al (λP g=>wpS_lift (BY ⟨rfl,g⟩)) ?_;refine Al (λP g=>zm e0 g) ?_;have m0:MH r a b #[] (a.size-1+1) b.size:=by
  refine ⟨?_,.nil,?_,?_,(λx hx=>absurd hx (by simp)),(λx hx=>absurd hx (by simp))⟩
  .show ([]++((a.toList.take (a.size-1+1)).reverse++(b.toList.take b.size).reverse)).Perm _;rw[List.nil_append,show a.size-1+1=a.toList.length by simp;omega,show b.size=b.toList.length by simp,List.take_length,List.take_length];exact List.Perm.append (List.reverse_perm _) (List.reverse_perm _)
  .exact List.pairwise_reverse.mpr (sa.sublist (List.take_sublist _ _))
  .exact List.pairwise_reverse.mpr (sb.sublist (List.take_sublist _ _))
 have m1:MH r a b #[a[a.size-1]] (a.size-1) b.size:=m0.pushA e0 λy hy=>hl y (List.mem_of_mem_take hy) _ e0;refine zX (λc1=>wpS_pure (h _ _ (.refl _) (m1.done (.inl (by simpa using c1))))) (λc1=>?_);refine zX (λc2=>wpS_pure (h _ _ (.refl _) (firstB m1 (by simpa using c2)))) (λc2=>?_);have c1':¬ a.size-1=0:=by simpa using c1
 have c2':¬ b.size=1:=by simpa using c2
 refine Al (λP g=>wpS_get g) ?_;refine wpS_bind (wpS_mono (wpS_forRange (I:=λx c st'=>∃ out na nb g,c=(none,na,nb,out,g)/\Fr2 r a b st st' out na nb/\x+1+(na+nb)<=a.size+b.size) (Q:=λc st'=>∃ res,c.1=some res/\SameS st st'/\Mgd (leR r) (a.toList++b.toList) res.toList) ?step ?fin ⟨_,_,_,_,rfl,⟨m1,.refl _,by omega,by omega,by omega,by omega⟩,by omega⟩) ?post)
 case fin=>
  intro c st' hI;refine Classical.byContradiction λG=>?_;obtain ⟨out,na,nb,g,eI1,f,hx⟩:=hI;refine G ?_;clear G;subst eI1;have:=f.a0;have:=f.b0;omega
 case post=>
  rintro ⟨c1,c2⟩ st' ⟨res,e,hs,hm⟩;dsimp only at e;subst e;exact wpS_pure (h _ _ hs hm)
 case step=>
  intro x c st' _ hx hI;refine Classical.byContradiction λG=>?_;obtain ⟨out,na,nb,g,eI1,f,hx2⟩:=hI;refine G ?_;clear G;subst eI1;refine Al (λP=>wpS_mono (wpS_forRange (I:=λy c st'=>∃ out2 na2 nb2 ca cb,c=(none,na2,nb2,out2,ca,cb)/\Fr2 r a b st st' out2 na2 nb2/\na2+nb2+y<=na+nb) (Q:=λc st'=>(∃ res,c.1=some res/\SameS st st'/\Mgd (leR r) (a.toList++b.toList) res.toList) \/ ∃ out2 na2 nb2 ca cb,c=(none,na2,nb2,out2,ca,cb)/\Fr2 r a b st st' out2 na2 nb2/\na2+nb2+1<=na+nb) ?step1 ?fin1 ⟨out,na,nb,_,_,rfl,f,by omega⟩)) ?post1
  case fin1=>
   intro c st' hI;refine Classical.byContradiction λG=>?_;obtain ⟨out2,na,nb,ca,cb,eI1,f,hy⟩:=hI;refine G ?_;clear G;subst eI1;exact .inr ⟨_,_,_,_,_,rfl,f,by omega⟩
  case step1=>
   intro y c st' _ hy hI;refine Classical.byContradiction λG=>?_;obtain ⟨out2,na2,nb2,ca,cb,eI1,f,hy2⟩:=hI;refine G ?_;clear G;subst eI1;obtain ⟨p,rfl⟩:∃ p,na2=p+1:=⟨na2-1,by have:=f.a0;omega⟩;obtain ⟨q,rfl⟩:∃ q,nb2=q+1:=⟨nb2-1,by have:=f.b0;omega⟩;have hp:p<a.size:=by have:=f.al;omega
   have hq:q<b.size:=by have:=f.bl;omega
   have eb:b[q]?=some b[q]:=BN hq;have ea:a[p]?=some a[p]:=BN hp;refine Al (λP g=>zm eb g) (Al (λP g=>zm ea g) (Al (λP g=>G9 R (f.s.k.trans hk) (hb _ (Cm eb)) (ha _ (Cm ea)) g) ?_));dsimp only;by_cases hlt:r b[q].1<r a[p].1
   .rw[AO hlt,AB rfl];refine Al (λP g=>zm ea g) ?_;have m2:MH r a b (out2.push a[p]) p (q+1):=f.m.pushA ea λz hz=>by
     obtain ⟨j,hj,ej⟩:=F6 hz;have:=EA sb (show j<=q by omega) ej eb;omega
    refine zX (λc3=>wpS_pure (.inl ⟨_,rfl,f.s,m2.done (.inl (by simpa using c3))⟩)) (λc3=>?_);have f2:Fr2 r a b st st' (out2.push a[p]) p (q+1):=⟨m2,f.s,by simp at c3;omega,f.b0,by omega,f.bl⟩;exact zX (λ_=>wpS_pure (.inr ⟨_,_,_,_,_,rfl,f2,by omega⟩)) (λ_=>wpS_pure ⟨_,_,_,_,_,rfl,f2,by omega⟩)
   .rw[AU hlt,AE (by decide)];refine Al (λP g=>zm eb g) ?_;have m2:MH r a b (out2.push b[q]) (p+1) q:=f.m.pushB eb λz hz=>by
     obtain ⟨j,hj,ej⟩:=F6 hz;have:=EA sa (show j<=p by omega) ej ea;omega
    refine zX (λc3=>wpS_pure (.inl ⟨_,rfl,f.s,firstB m2 (by simpa using c3)⟩)) (λc3=>?_);have f2:Fr2 r a b st st' (out2.push b[q]) (p+1) q:=⟨m2,f.s,f.a0,by have:=f.b0;simp at c3;omega,f.al,by omega⟩;exact zX (λ_=>wpS_pure (.inr ⟨_,_,_,_,_,rfl,f2,by omega⟩)) (λ_=>wpS_pure ⟨_,_,_,_,_,rfl,f2,by omega⟩)
  case post1=>
   intro c st' hI;refine Classical.byContradiction λG=>?_;obtain ⟨res,e,hs,hm⟩|⟨out2,na2,nb2,ca,cb,e,f,hy⟩:=hI
   .obtain ⟨c2,rfl⟩:∃ c2,c=(some res,c2):=⟨c.2,by cases c;cases e;rfl⟩;exact G (wpS_pure ⟨res,rfl,hs,hm⟩)
   .refine G ?_;clear G;subst e;refine Al (λP g=>wpS_lift (BY ⟨rfl,g⟩)) ?_;refine wpS_bind (wpS_mono (wpS_forRange (I:=λy c st'=>∃ out3 na3 nb3 g ca cb,c=(none,na3,nb3,out3,g,ca,cb)/\Fr2 r a b st st' out3 na3 nb3/\na3+nb3<=na2+nb2) (Q:=λc st'=>(∃ res,c.1=some res/\SameS st st'/\Mgd (leR r) (a.toList++b.toList) res.toList) \/ ∃ out3 na3 nb3 g ca cb,c=(none,na3,nb3,out3,g,ca,cb)/\Fr2 r a b st st' out3 na3 nb3/\na3+nb3<=na2+nb2) ?step2 ?fin2 ⟨out2,na2,nb2,_,_,_,rfl,f,by omega⟩) ?post2)
    case fin2=>
     intro c st' hI;refine Classical.byContradiction λG=>?_;obtain ⟨out3,na,nb,g,ca,cb,eI1,f,hy⟩:=hI;refine G ?_;clear G;subst eI1;exact .inr ⟨_,_,_,_,_,_,rfl,f,hy⟩
    case post2=>
     intro c st' hI;refine Classical.byContradiction λG=>?_;obtain ⟨res,e,hs,hm⟩|⟨out3,na3,nb3,g,ca,cb,e,f,hz⟩:=hI
     .obtain ⟨c2,rfl⟩:∃ c2,c=(some res,c2):=⟨c.2,by cases c;cases e;rfl⟩;exact G (wpS_pure ⟨res,rfl,hs,hm⟩)
     .refine G ?_;clear G;subst e;exact wpS_bind (wpS_modify (wpS_pure ⟨out3,na3,nb3,_,rfl,⟨f.m,⟨f.s.k,f.s.a,f.s.p,f.s.f⟩,f.a0,f.b0,f.al,f.bl⟩,by omega⟩))
    case step2=>
     intro y c st' _ hy hI;refine Classical.byContradiction λG=>?_;obtain ⟨out3,na3,nb3,g,ca,cb,eI1,f,hy2⟩:=hI;refine G ?_;clear G;subst eI1;dsimp only;generalize hq1:nb3-1=q;obtain rfl:nb3=q+1:=by have:=f.b0;omega
     clear hq1;have hq:q<b.size:=by have:=f.bl;omega
     have hq0:0<q:=by have:=f.b0;omega
     have hn0:=f.a0;have hnl:=f.al;have eb:b[q]?=some b[q]:=BN hq;refine zX (λcg=>?_) (λcg=>?_);clear cg;generalize g-1=g';revert g';refine ?K;rotate_left;clear cg;exact ?K _;intro g';refine Al (λP g=>wpS_modify g) ?_;refine Al (λP g=>zm eb g) ?_;have hs2:=f.s;refine Al (λP=>GS (left:=false) (key:=b[q]) (arr:=a) (base:=0) (n:=na3) (hint:=na3-1) R (hs2.k.trans hk) (hb _ (Cm eb)) (λi hi=>⟨_,BN (by omega),ha _ (Cm (BN (by omega)))⟩) (λi j x y hij hj ex ey=>EA sa (by omega) ex ey) (by omega)) λk hk1 g1 g2=>?_;have aft:∀ x∈a.toList.take k,r x.1<=r b[q].1:=λx hx=>by
      obtain ⟨j,hj,ej⟩:=F6 hx;exact g1 j x hj (by rw[Nat.zero_add];exact ej)
     refine zX (λhk0=>?_) (λhk0=>?_);have m4:=f.m.blockA hk1 λj x h1 h2 ej y hy=>by
      obtain ⟨i,hi,ei⟩:=F6 hy;have z1:=EA sb (show i<=q by omega) ei eb;have z2:r b[q].1<r x.1:=g2 j x h1 h2 (by rw[Nat.zero_add];exact ej);omega
     refine zX (λc4=>wpS_pure (.inl ⟨_,rfl,⟨hs2.k,hs2.a,hs2.p,hs2.f⟩,m4.done (.inl (by simpa using c4))⟩)) (λc4=>?_);have a4:0<k:=by simp at c4;omega
     clear c4 hk0 g1 g2;generalize na3-k=ac;generalize out3++(a.extract k na3).reverse=o4 at m4 ⊢;revert m4;revert o4;revert a4;revert aft;revert hk1;revert k;revert ac;refine ?K2;rotate_left;have hk00:k=na3:=by simp at hk0;omega
     exact ?K2 _ _ (AF _) (hk00▸aft) hn0 _ f.m;intro ac k hk1 aft a4 o4 m4;refine Al (λP g=>zm eb g) ?_;have m5:=m4.pushB eb aft;refine zX (λc6=>wpS_pure (.inl ⟨_,rfl,⟨hs2.k,hs2.a,hs2.p,hs2.f⟩,firstB m5 (by simpa using c6)⟩)) (λc6=>?_);have c6':1<q:=by simp at c6;omega
     obtain ⟨p,rfl⟩:∃ p,k=p+1:=⟨k-1,by omega⟩;have hp:p<a.size:=by omega
     have ea4:a[p]?=some a[p]:=BN hp;refine Al (λP g=>zm ea4 g) ?_;refine Al (λP=>GS (left:=true) (key:=a[p]) (arr:=b) (base:=0) (n:=q) (hint:=q-1) R (hs2.k.trans hk) (ha _ (Cm ea4)) (λi hi=>⟨_,BN (by omega),hb _ (Cm (BN (by omega)))⟩) (λi j x y hij hj ex ey=>EA sb (by omega) ex ey) (by omega)) λk2 hk2 g3 g4=>?_;have aft2:∀ y∈b.toList.take k2,r y.1<=r a[p].1:=λy hy=>by
      obtain ⟨j,hj,ej⟩:=F6 hy;exact DB (g3 j y hj (by rw[Nat.zero_add];exact ej))
     refine zX (λhk3=>?_) (λhk3=>?_);have m6:=m5.blockB hk2 λj x h1 h2 ej y hy=>by
      obtain ⟨i,hi,ei⟩:=F6 hy;have z1:=EA sa (show i<=p by omega) ei ea4;have z2:r a[p].1<=r x.1:=g4 j x h1 h2 (by rw[Nat.zero_add];exact ej);omega
     refine zX (λc7=>wpS_pure (.inl ⟨_,rfl,⟨hs2.k,hs2.a,hs2.p,hs2.f⟩,firstB m6 (by simpa using c7)⟩)) (λc7=>zX (λc8=>wpS_pure (.inl ⟨_,rfl,⟨hs2.k,hs2.a,hs2.p,hs2.f⟩,m6.done (.inr (by simpa using c8))⟩)) (λc8=>?_));have b6:1<k2:=by simp at c7 c8;omega
     clear c7 c8 hk3 g3 g4;generalize q-k2=bc;generalize o4.push b[q]++(b.extract k2 q).reverse=o6 at m6 ⊢;revert m6;revert o6;revert b6;revert aft2;revert hk2;revert k2;revert bc;refine ?K3;rotate_left;have hk00:k2=q:=by simp at hk3;omega
     exact ?K3 _ _ (AF _) (hk00▸aft2) c6' _ m5;intro bc k2 hk2 aft2 b6 o6 m6;refine Al (λP g=>zm ea4 g) ?_;have m7:=m6.pushA ea4 aft2;refine zX (λc9=>wpS_pure (.inl ⟨_,rfl,⟨hs2.k,hs2.a,hs2.p,hs2.f⟩,m7.done (.inl (by simpa using c9))⟩)) (λc9=>?_);have a7:0<p:=by simp at c9;omega
     have b7:k2<=b.size:=by omega
     have l7:p+k2<=na2+nb2:=by omega
     exact zX (λ_=>wpS_pure (.inr ⟨_,p,k2,_,_,_,rfl,⟨m7,⟨hs2.k,hs2.a,hs2.p,hs2.f⟩,a7,b6,hp,b7⟩,l7⟩)) (λ_=>wpS_pure ⟨_,p,k2,_,_,_,rfl,⟨m7,⟨hs2.k,hs2.a,hs2.p,hs2.f⟩,a7,b6,hp,b7⟩,l7⟩)
end
section
variable {prog:Ym} {w:Yo} {A:Yn} {E:Yc} {s:Yl} {κ:SortKind} {vs:Yf} {r:Yr}
theorem O7:∀ (m:List Keyed) (k sa:Nat) (arr:Array Keyed),sa+k+m.length<=arr.size->((m.zipIdx k).foldl (λa x=>match x with|(p,j)=>a.setIfInBounds (sa+j) p) arr).toList=arr.toList.take (sa+k)++m++arr.toList.drop (sa+k+m.length)
 |[],k,sa,arr,h=>by simp
 |x::m,k,sa,arr,h=>by
  rw[List.zipIdx_cons,List.foldl_cons];simp only[Ba]at h;rw[O7 m (k+1) sa _ (by rw[Array.size_setIfInBounds];omega)];rw[Array.toList_setIfInBounds];have hl:arr.toList.length=arr.size:=by simp
  have e1:(arr.toList.set (sa+k) x).take (sa+(k+1))=arr.toList.take (sa+k)++[x]:=by
   rw[show sa+(k+1)=(sa+k)+1 by omega,List.take_add_one,List.take_set,C2 (by omega)];rw[List.set_eq_of_length_le (by simp;omega)];simp
  have e2:(arr.toList.set (sa+k) x).drop (sa+(k+1)+m.length)=arr.toList.drop (sa+k+(m.length+1)):=by
   rw[List.drop_set_of_lt (by omega)];congr 1;omega
  rw[e1,e2];simp
def Oi {T R1 U:List Keyed} (h:i<R1.length):(T++(R1++U))[T.length+i]?=R1[i]?:=by
 rw[DV (by omega),AW (by omega)];congr 1;omega
def PK {l:List Keyed} (h:x∈l.take k):∃ j,j<k/\l[j]?=some x:=by
 obtain ⟨j,e⟩:=List.mem_iff_getElem?.mp h;rw[List.getElem?_take]at e;split at e
 .exact ⟨j,by assumption,e⟩
 .cases e
def Pc {l:List Keyed} (h:x∈l.drop k):∃ j,k<=j/\l[j]?=some x:=by
 obtain ⟨j,e⟩:=List.mem_iff_getElem?.mp h;rw[List.getElem?_drop]at e;exact ⟨k+j,by omega,e⟩
def SR (R:Cj prog w s κ vs r) {st:SortSt} (hk:kindOf st=κ) (hfl:failedOf st=none) {i sa na pw sb nb pw2:Nat} {T R1 R2 U:List Keyed} (ha:(arrOf st).toList=T++(R1++(R2++U))) (hv:∀ x∈(arrOf st).toList,x.1∈vs) (hT:T.length=sa) (h1:R1.length=na) (hsb:sb=sa+na) (h2:R2.length=nb) (n1:0<na) (n2:0<nb)
  (s1:R1.Pairwise (leR r)) (s2:R2.Pairwise (leR r)) (e1:(pendingOf st)[i]?=some (sa,na,pw)) (e2:(pendingOf st)[i+1]?=some (sb,nb,pw2)) {Q:Bool->SortSt->Prop}
  (h:∀ m st',kindOf st'=κ->failedOf st'=none->pendingOf st'=((pendingOf st).setIfInBounds i (sa,na+nb,pw)).eraseIdxIfInBounds (i+1)->(arrOf st').toList=T++(m++U)->m.Perm (R1++R2)->m.Pairwise (leR r)->Q true st') :
  wpS (model prog w) A E s (mergeAt' i) Q st:=by
 subst hT h1 h2 hsb;have at1:∀ j,j<R1.length->(arrOf st)[T.length+j]?=R1[j]?:=λj hj=>by rw[<-Bj,ha];exact Oi hj
 have at2:∀ j,j<R2.length->(arrOf st)[T.length+R1.length+j]?=R2[j]?:=λj hj=>by
  rw[<-Bj,ha,<-BL,show T.length+R1.length=(T++R1).length by simp];exact Oi hj
 have srt1:∀ {i j:Nat} {x y:Keyed},i<=j->R1[i]?=some x->R1[j]?=some y->r x.1<=r y.1:=λ{i j x y} hij ex ey=>EA (a:=R1.toArray) (by simpa using s1) hij (by simpa using ex) (by simpa using ey);have srt2:∀ {i j:Nat} {x y:Keyed},i<=j->R2[i]?=some x->R2[j]?=some y->r x.1<=r y.1:=λ{i j x y} hij ex ey=>EA (a:=R2.toArray) (by simpa using s2) hij (by simpa using ex) (by simpa using ey);have v1:∀ x∈R1,x.1∈vs:=λx hx=>hv x (by rw[ha];simp[hx]);have v2:∀ x∈R2,x.1∈vs:=λx hx=>hv x (by rw[ha];simp[hx]);have g1:∀ {j} (hj:j<R1.length),R1[j]?=some R1[j]:=λhj=>AS hj;have g2:∀ {j} (hj:j<R2.length),R2[j]?=some R2[j]:=λhj=>AS hj;refine wpS_bind (wpS_get ?_);rw[e1,e2];have eb0:(arrOf st)[T.length+R1.length]?=some R2[0]:=(at2 0 n2).trans (g2 n2);refine wpS_bind (wpS_modify ?_);refine wpS_bind (zm eb0 ?_);refine wpS_bind (GS (left:=false) (key:=R2[0]) (arr:=arrOf st) (base:=T.length) (n:=R1.length) (hint:=0) R hk (v2 _ (Bg n2)) (λj hj=>⟨_,(at1 j hj).trans (g1 hj),v1 _ (Bg hj)⟩) (λi j x y hij hj ex ey=>srt1 hij ((at1 i (by omega)).symm.trans ex) ((at1 j hj).symm.trans ey)) n1 λk hk1 q1 q2=>?_);have hP:∀ x∈R1.take k,r x.1<=r R2[0].1:=λx hx=>by
  obtain ⟨j,hj,ej⟩:=PK hx;exact q1 j x hj ((at1 j (by omega)).trans ej)
 have hX:∀ x∈R1.drop k,r R2[0].1<=r x.1:=λx hx=>by
  obtain ⟨j,hj,ej⟩:=Pc hx;have hl:=(AK.mp ej).1;exact DB (q2 j x hj hl ((at1 j hl).trans ej))
 have h0:∀ y∈R2,r R2[0].1<=r y.1:=λy hy=>by
  obtain ⟨j,ej⟩:=List.mem_iff_getElem?.mp hy;exact srt2 (BQ _) (g2 n2) ej
 refine zX (λc1=>?_) (λc1=>?_)
 .have hk2:R1.length<=k:=by simp at c1;omega
  rw[Fx hk2]at hP;exact wpS_pure (h (R1++R2) _ hk hfl rfl (by rw[ha];simp) (.refl _) (List.pairwise_append.mpr ⟨s1,s2,λx hx y hy=>AZ (hP x hx) (h0 y hy)⟩))
 have hkl:k<R1.length:=by simp at c1;omega
 have nl:R1.length-1<R1.length:=by omega
 have eL:(arrOf st)[T.length+k+(R1.length-k)-1]?=some R1[R1.length-1]:=by
  rw[show T.length+k+(R1.length-k)-1=T.length+(R1.length-1) by omega];exact (at1 _ nl).trans (g1 nl)
 refine wpS_bind (zm eL ?_);refine wpS_bind (GS (left:=true) (key:=R1[R1.length-1]) (arr:=arrOf st) (base:=T.length+R1.length) (n:=R2.length) (hint:=R2.length-1) R hk (v1 _ (Bg nl)) (λj hj=>⟨_,(at2 j hj).trans (g2 hj),v2 _ (Bg hj)⟩) (λi j x y hij hj ex ey=>srt2 hij ((at2 i (by omega)).symm.trans ex) ((at2 j hj).symm.trans ey)) (by omega) λk2 hk2 q3 q4=>?_);have hXl:∀ x∈R1,r x.1<=r R1[R1.length-1].1:=λx hx=>by
  obtain ⟨j,ej⟩:=List.mem_iff_getElem?.mp hx;have hl:=(AK.mp ej).1;exact srt1 (by omega) ej (g1 nl)
 have hY:∀ y∈R2.take k2,r y.1<=r R1[R1.length-1].1:=λy hy=>by
  obtain ⟨j,hj,ej⟩:=PK hy;exact DB (q3 j y hj ((at2 j (by omega)).trans ej))
 have hS:∀ y∈R2.drop k2,r R1[R1.length-1].1<=r y.1:=λy hy=>by
  obtain ⟨j,hj,ej⟩:=Pc hy;have hl:=(AK.mp ej).1;exact q4 j y hj hl ((at2 j hl).trans ej)
 refine zX (λc2=>?_) (λc2=>?_)
 .have:k2=0:=by simpa using c2
  subst this;exact wpS_pure (h (R1++R2) _ hk hfl rfl (by rw[ha];simp) (.refl _) (List.pairwise_append.mpr ⟨s1,s2,λx hx y hy=>AZ (hXl x hx) (hS y (by simpa using hy))⟩))
 have hk20:0<k2:=by simp at c2;omega
 have eX:((arrOf st).extract (T.length+k) (T.length+R1.length)).toList=R1.drop k:=by
  rw[Array.toList_extract,List.extract_eq_take_drop,ha,List.drop_append,List.drop_of_length_le (by omega),List.nil_append,show T.length+k-T.length=k by omega,List.drop_append_of_le_length (by omega),show T.length+R1.length-(T.length+k)=(R1.drop k).length by simp;omega,List.take_left'];rfl
 have eY:((arrOf st).extract (T.length+R1.length) (T.length+R1.length+k2)).toList=R2.take k2:=by
  rw[Lw,ha,<-BL,show T.length+R1.length=(T++R1).length by simp,List.drop_left',List.take_append_of_le_length hk2];rfl
 generalize hx0:(arrOf st).extract (T.length+k) (T.length+R1.length)=x0 at eX;generalize hy0:(arrOf st).extract (T.length+R1.length) (T.length+R1.length+k2)=y0 at eY;have zx:x0.size=R1.length-k:=by rw[<-BK,eX,Dj]
 have zy:y0.size=k2:=by rw[<-BK,eY,CG];omega
 have w1:∀ y,y0[0]?=some y -> ∀ x∈x0.toList,r y.1<=r x.1:=λy ey x hx=>by
  rw[<-Bj,eY,List.getElem?_take,AB hk20,g2 n2]at ey;cases ey;rw[eX]at hx;exact hX x hx
 have w2:∀ y∈y0.toList,∀ x,x0[x0.size-1]?=some x->r y.1<=r x.1:=λy hy x ex=>by
  rw[<-Bj,eX,List.getElem?_drop,zx,show k+(R1.length-k-1)=R1.length-1 by omega,g1 nl]at ex;cases ex;rw[eY]at hy;exact hY y hy
 have fin:∀ (out:Array Keyed) (st':SortSt),SameS (SortSt.mk' (kindOf st) (arrOf st) (((pendingOf st).setIfInBounds i (T.length,R1.length+R2.length,pw)).eraseIdxIfInBounds (i+1)) (gallopOf st) (failedOf st)) st'->Mgd (leR r) (x0.toList++y0.toList) out.toList ->
   wpS (model prog w) A E s (do
    modify λs=>setArr s (out.toList.zipIdx.foldl (λa x=>match x with|(p,j)=>a.setIfInBounds (T.length+k+j) p) (arrOf s));let s <- get;pure (failedOf s).isNone) Q st':=by
  intro out st' sm mg;refine wpS_bind (wpS_modify (wpS_bind (wpS_get ?_)));have hf:failedOf st'=none:=sm.f.trans hfl;show wpS _ _ _ _ (pure (failedOf st').isNone) _ _;rw[hf];rw[eX,eY]at mg;have hlen:out.toList.length=(R1.length-k)+k2:=by
   rw[mg.1.length_eq,An,Dj,CG];omega
  have ea:arrOf st'=arrOf st:=sm.a;have e3:((out.toList.zipIdx).foldl (λa x=>match x with|(p,j)=>a.setIfInBounds (T.length+k+j) p) (arrOf st')).toList=T++((R1.take k++(out.toList++R2.drop k2))++U):=by
   have hsz:(arrOf st').size=T.length+(R1.length+(R2.length+U.length)):=by rw[ea,<-BK,ha];simp
   rw[O7 out.toList 0 (T.length+k) (arrOf st') (by omega),ea,ha];have t1:List.take (T.length+k+0) (T++(R1++(R2++U)))=T++R1.take k:=by
    rw[Nat.add_zero,List.take_append,Fx (by omega),show T.length+k-T.length=k by omega,List.take_append_of_le_length (by omega)]
   have t2:List.drop (T.length+k+0+out.toList.length) (T++(R1++(R2++U)))=R2.drop k2++U:=by
    rw[show T.length+k+0+out.toList.length=(T++R1).length+k2 by rw[hlen];simp;omega,<-BL,List.drop_append,List.drop_of_length_le (by omega),List.nil_append,show (T++R1).length+k2-(T++R1).length=k2 by omega,List.drop_append_of_le_length hk2]
   rw[t1,t2];simp
  have p1:=List.pairwise_append.mp (show (R1.take k++R1.drop k).Pairwise (leR r) by rw[DW];exact s1);have p2:=List.pairwise_append.mp (show (R2.take k2++R2.drop k2).Pairwise (leR r) by rw[DW];exact s2);have mo:∀ x,x∈out.toList->x∈R1.drop k\/x∈R2.take k2:=λx hx=>Ai.mp (mg.1.mem_iff.mp hx);refine wpS_pure (h (R1.take k++(out.toList++R2.drop k2)) _ (sm.k.trans hk) hf sm.p e3 ?_ ?_)
  .refine ((mg.1.append_right (R2.drop k2)).append_left (R1.take k)).trans ?_;rw[BL,DW,<-BL,DW]
  .refine List.pairwise_append.mpr ⟨p1.1,List.pairwise_append.mpr ⟨mg.2,p2.2.1,λx hx y hy=>?_⟩,λx hx y hy=>?_⟩
   .rcases mo x hx with z|z
    .exact AZ (hXl x (List.mem_of_mem_drop z)) (hS y hy)
    .exact p2.2.2 x z y hy
   .rcases Ai.mp hy with z|z
    .rcases mo y z with z|z
     .exact p1.2.2 x hx y z
     .exact AZ (hP x hx) (h0 y (List.mem_of_mem_take z))
    .exact AZ (hP x hx) (h0 y (List.mem_of_mem_drop z))
 have x1:∀ x∈x0.toList,x.1∈vs:=λx hx=>v1 x (List.mem_of_mem_drop (eX▸hx));have y1:∀ x∈y0.toList,x.1∈vs:=λx hx=>v2 x (List.mem_of_mem_take (eY▸hx));have x2:x0.toList.Pairwise (leR r):=eX▸s1.sublist (List.drop_sublist _ _);have y2:y0.toList.Pairwise (leR r):=eY▸s2.sublist (List.take_sublist _ _);refine zX (λc3=>?_) (λc3=>?_)
 .subst hx0 hy0;refine wpS_bind (X8 R x1 y1 x2 y2 (by omega) (by omega) w1 w2 ?_ fin);exact hk
 .subst hx0 hy0;refine wpS_bind (X6 R x1 y1 x2 y2 (by omega) (by omega) w1 w2 ?_ fin);exact hk
end
noncomputable def KR (r:Yr) (xs:Array Keyed) (i:Nat):Nat:=match xs[i]? with
 |some p=>r p.1
 |none=>0
def RUp (r:Yr) (xs:Array Keyed) (lo hi:Nat):Prop:=∀ i j,lo<=i->i<=j->j<hi->KR r xs i<=KR r xs j
def RDn (r:Yr) (xs:Array Keyed) (lo hi:Nat):Prop:=∀ i j,lo<=i->i<=j->j<hi->KR r xs j<=KR r xs i
section
variable {prog:Ym} {w:Yo} {A:Yn} {E:Yc} {s:Yl} {κ:SortKind} {vs:Yf} {r:Yr}
def IG {xs ys:Array Keyed} {i j:Nat} (h:xs[i]?=ys[j]?):KR r xs i=KR r ys j:=by unfold KR;rw[h]
def Lp {xs:Array Keyed} {i j:Nat} (hj:j<=xs.size) (k:Nat):KR r (mirror xs i j ((j-i) / 2)) k=if i<=k/\k<j then KR r xs (i+j-1-k) else KR r xs k:=by
 have e:=getElem?_mirror_all (i:=i) hj k;split at e
 .rw[AB (by assumption)];exact IG e
 .rw[AE (by assumption)];exact IG e
def My {xs:Array Keyed} {src d:Nat} (hs:src<xs.size) (hd:d<=src) (k:Nat):KR r (bubble xs src d) k=if k=src-d then KR r xs src else if src-d<k/\k<=src then KR r xs (k-1) else KR r xs k:=by
 have e:=getElem?_bubble hs d hd k;split at e
 .rw[AB (by assumption)];exact IG e
 .rw[AE (by assumption)];split at e
  .rw[AB (by assumption)];exact IG e
  .rw[AE (by assumption)];exact IG e
def ID {xs:Array Keyed} {i j:Nat} (hj:j<=xs.size) (he:∀ k,i<=k->k<j->KR r xs k=KR r xs (j-1)) (k:Nat):KR r (mirror xs i j ((j-i) / 2)) k=KR r xs k:=by
 rw[Lp hj];split
 .rw[he _ (by omega) (by omega),he k (by omega) (by omega)]
 .rfl
structure CB (lo:Nat) (st0 st:SortSt):Prop where
 k:kindOf st=kindOf st0
 p:pendingOf st=pendingOf st0
 f:failedOf st=failedOf st0
 perm:(arrOf st).Perm (arrOf st0)
 pre:∀ j,j<lo->(arrOf st)[j]?=(arrOf st0)[j]?
def CB.refl (lo:Nat) (st:SortSt):CB lo st st:=⟨rfl,rfl,rfl,.refl _,λ_ _=>rfl⟩
def CB.size {lo:Nat} {st0 st:SortSt} (h:CB lo st0 st):(arrOf st).size=(arrOf st0).size:=h.perm.size_eq
def CB.mir {lo i j:Nat} {st0 st:SortSt} (h:CB lo st0 st) (hi:lo<=i) (hj:j<=(arrOf st0).size):CB lo st0 (setArr st (mirror (arrOf st) i j ((j-i) / 2))) :=
 ⟨h.k,h.p,h.f,(mirror_perm _ _ _ _).trans h.perm,λk hk=>by
  show (mirror (arrOf st) i j ((j-i) / 2))[k]?=_;rw[getElem?_mirror_all (by rw[h.size];exact hj),AE (by omega)];exact h.pre k hk⟩
def CB.bub {lo src d:Nat} {st0 st:SortSt} (h:CB lo st0 st) (hs:src<(arrOf st0).size) (hd:d<=src) (hl:lo<=src-d):CB lo st0 (setArr st (bubble (arrOf st) src d)) :=
 ⟨h.k,h.p,h.f,(bubble_perm _ _ _).trans h.perm,λk hk=>by
  show (bubble (arrOf st) src d)[k]?=_;rw[getElem?_bubble (by rw[h.size];exact hs) d hd,AE (by omega),AE (by omega)];exact h.pre k hk⟩
variable {st0 st:SortSt} {lo nrem n:Nat}
def HW (R:Cj prog w s κ vs r) (hk:kindOf st0=κ) (hv:∀ x∈(arrOf st0).toList,x.1∈vs) (c:CB lo st0 st) {i j:Nat} (hi:i<(arrOf st0).size) (hj:j<(arrOf st0).size) {Q:Option Bool->SortSt->Prop} (h:Q (some (decide (KR r (arrOf st) i<KR r (arrOf st) j))) st) :
  wpS (model prog w) A E s (ltAt' i j) Q st:=by
 have ei:(arrOf st)[i]?=some ((arrOf st)[i]'(by rw[c.size];exact hi)):=BN _;have ej:(arrOf st)[j]?=some ((arrOf st)[j]'(by rw[c.size];exact hj)):=BN _;have pm:=Array.perm_iff_toList_perm.mp c.perm;refine cC R (c.k.trans hk) ei ej (hv _ (pm.mem_iff.mp (Cm ei))) (hv _ (pm.mem_iff.mp (Cm ej))) ?_;unfold KR at h;rw[ei,ej]at h;exact h
noncomputable def RF (lo a nrem:Nat):StateT SortSt Sem (Option (Option Nat) × Nat):=forIn [a:nrem] ((none,a):Option (Option Nat) × Nat) λ_ c=>do
 let x <- ltAt' (lo+c.2) (lo+c.2-1)
 match x with
 |some smaller=>if smaller=true then pure (ForInStep.done (none,c.2)) else pure (ForInStep.yield (none,c.2+1))
 |_=>pure (ForInStep.done (some none,c.2))
def Qb (R:Cj prog w s κ vs r) (hk:kindOf st0=κ) (hv:∀ x∈(arrOf st0).toList,x.1∈vs) (c:CB lo st0 st) (hz:lo+nrem<=(arrOf st0).size) (h1:1<=n) (h2:n<=nrem) (hu:RUp r (arrOf st) lo (lo+n)) {Q:Option (Option Nat) × Nat->SortSt->Prop}
  (h:∀ m,n<=m->m<=nrem->RUp r (arrOf st) lo (lo+m)->(m=nrem\/KR r (arrOf st) (lo+m)<KR r (arrOf st) (lo+m-1))->Q (none,m) st):wpS (model prog w) A E s (RF lo n nrem) Q st:=by
 unfold RF;refine wpS_forRange (I:=λx c st'=>st'=st/\c=(none,x)/\RUp r (arrOf st) lo (lo+x)) ?step ?fin ⟨rfl,rfl,hu⟩
 case fin=>
  intro c' st' hI;refine Classical.byContradiction λG=>?_;obtain ⟨eI1,eI2,hs⟩:=hI;refine G ?_;clear G;subst eI1 eI2;rw[show max n nrem=nrem by omega]at hs ⊢;exact h nrem h2 (AF _) hs (.inl rfl)
 case step=>
  intro x c' st' hax hxn hI;refine Classical.byContradiction λG=>?_;obtain ⟨eI1,eI2,hs⟩:=hI;refine G ?_;clear G;subst eI1 eI2;refine wpS_bind (HW R hk hv c (by omega) (by omega) ?_);dsimp only;by_cases hl:KR r (arrOf st') (lo+x)<KR r (arrOf st') (lo+x-1)
  .rw[AO hl,AB rfl];exact wpS_pure (h x hax (by omega) hs (.inr hl))
  .rw[AU hl,AE (by decide)];refine wpS_pure ⟨rfl,rfl,λi j h3 h4 h5=>?_⟩;by_cases hj:j<lo+x
   .exact hs i j h3 h4 hj
   .have hj':j=lo+x:=by omega
    by_cases hij:i=j
    .rw[hij];exact AF _
    .have:=hs i (lo+x-1) h3 (by omega) (by omega);rw[hj'];omega
def iX (R:Cj prog w s κ vs r) (hk:kindOf st0=κ) (hv:∀ x∈(arrOf st0).toList,x.1∈vs) (hz:lo+nrem<=(arrOf st0).size) (h1:1<=nrem) {Q:Option Nat->SortSt->Prop}
  (h:∀ m st,CB lo st0 st->1<=m->m<=nrem->RUp r (arrOf st) lo (lo+m)->Q (some m) st):wpS (model prog w) A E s (countRun' lo nrem) Q st0:=by
 have one:∀ xs,RUp r xs lo (lo+1):=λxs i j a b c=>by rw[show i=j by omega];exact AF _
 refine wpS_bind (Qb R hk hv (.refl lo st0) hz (AF 1) h1 (one _) λn n1 n2 hu hor=>?_);refine zX (λc1=>wpS_pure (h n st0 (.refl lo st0) n1 n2 hu)) (λc1=>?_);have hn:n<nrem:=by simp at c1;omega
 have hlt:=hor.resolve_left (by omega);have mirU:∀ {st:SortSt} {n m neq:Nat},CB lo st0 st->m<=nrem->RDn r (arrOf st) lo (lo+m)->RUp r (mirror (arrOf st) lo (lo+m) ((lo+m-lo) / 2)) lo (lo+m):=λ{st n m neq} c hm hd i j a1 a2 a3=>by
  rw[Lp (by rw[c.size];omega),Lp (by rw[c.size];omega),AB (by omega),AB (by omega)];exact hd _ _ (by omega) (by omega) (by omega)
 refine zX (λc2=>?_) (λc2=>?_)
 case' refine_1=>
  refine wpS_bind (HW R hk hv (.refl lo st0) (by omega) (by dsimp only;omega) ?_);dsimp only;by_cases hrose:KR r (arrOf st0) lo<KR r (arrOf st0) (lo+n-1)
  case pos=>
   rw[AO hrose,AB rfl];exact wpS_pure (h n st0 (.refl lo st0) n1 n2 hu)
  case' neg=>
   rw[AU hrose,AE (by decide)];have hall:∀ k,lo<=k->k<lo+n->KR r (arrOf st0) k=KR r (arrOf st0) (lo+n-1):=λk k1 k2=>by
    have a1:=hu lo k (AF _) k1 k2;have a2:=hu k (lo+n-1) k1 (by omega) (by omega);omega
   refine wpS_bind (wpS_modify ?_);have cb:CB lo st0 (setArr st0 (mirror (arrOf st0) lo (lo+n) ((lo+n-lo) / 2))):=(CB.refl lo st0).mir (AF _) (by omega);have dn:RDn r (mirror (arrOf st0) lo (lo+n) ((lo+n-lo) / 2)) lo (lo+(n+1)):=λi j a1 a2 a3=>by
    rw[ID (by omega) hall,ID (by omega) hall];by_cases hj:j<lo+n
    .rw[hall i a1 (by omega),hall j (by omega) hj];exact AF _
    .by_cases hi:i<lo+n
     .rw[hall i a1 hi,show j=lo+n by omega];omega
     .rw[show i=j by omega];exact AF _
 case' refine_2=>
  have cb:CB lo st0 st0:=.refl lo st0;have dn:RDn r (arrOf st0) lo (lo+(n+1)):=λi j a1 a2 a3=>by
   have hn1:n=1:=by dsimp only at c2;omega
   subst hn1;by_cases hij:i=j
   .rw[hij];exact AF _
   .rw[show i=lo by omega,show j=lo+1 by omega];rw[show lo+1-1=lo by omega]at hlt;omega
 all_goals
  refine wpS_bind (wpS_lift (BY ⟨rfl,?_⟩));refine wpS_bind (wpS_mono (wpS_forRange (I:=λx c st'=>∃ neq,c=(none,x,neq)/\CB lo st0 st'/\RDn r (arrOf st') lo (lo+x)/\neq+1<=x /\ ∀ i,lo+x-(neq+1)<=i->i<lo+x->KR r (arrOf st') i=KR r (arrOf st') (lo+x-1)) (Q:=λc st'=>∃ x neq,c=(none,x,neq)/\CB lo st0 st'/\1<=x/\x<=nrem/\RDn r (arrOf st') lo (lo+x)/\neq+1<=x /\ ∀ i,lo+x-(neq+1)<=i->i<lo+x->KR r (arrOf st') i=KR r (arrOf st') (lo+x-1)) ?step ?fin ⟨0,rfl,cb,dn,by omega,λi a1 a2=>by congr 1;omega⟩) ?post)
  case fin=>
   intro c st' hI;refine Classical.byContradiction λG=>?_;obtain ⟨neq,eI1,cb,dn,q1,q2⟩:=hI;refine G ?_;clear G;subst eI1;rw[show max (n+1) nrem=nrem by omega]at dn q1 q2 ⊢;exact ⟨nrem,neq,rfl,cb,h1,AF _,dn,q1,q2⟩
  case step=>
   intro x c st' hx1 hx2 hI;refine Classical.byContradiction λG=>?_;obtain ⟨neq,eI1,cb,dn,q1,q2⟩:=hI;refine G ?_;clear G;subst eI1;have hx1':n+1<=x:=hx1;refine wpS_bind (HW R hk hv cb (by dsimp only;omega) (by dsimp only;omega) ?_);dsimp only;have step1:∀ ys:Array Keyed,(∀ k,KR r ys k=KR r (arrOf st') k)->KR r (arrOf st') (lo+x)<=KR r (arrOf st') (lo+x-1)->RDn r ys lo (lo+(x+1)):=λys hy hle i j a1 a2 a3=>by
    rw[hy,hy];by_cases hj:j<lo+x
    .exact dn i j a1 a2 hj
    .by_cases hij:i=j
     .rw[hij];exact AF _
     .have:=dn i (lo+x-1) a1 (by omega) (by omega);rw[show j=lo+x by omega];omega
   by_cases hl:KR r (arrOf st') (lo+x)<KR r (arrOf st') (lo+x-1)
   .rw[AO hl,AB rfl];refine zX (λc3=>wpS_bind (wpS_modify (wpS_pure ⟨0,rfl,cb.mir (by omega) (by omega),step1 _ (ID (by rw[cb.size];omega) q2) (by omega),by omega,λi a1 a2=>by congr 1;omega⟩))) (λc3=>wpS_pure ⟨0,rfl,cb,step1 _ (λ_=>rfl) (by omega),by omega,λi a1 a2=>by congr 1;omega⟩)
   .rw[AU hl,AE (by decide)];refine wpS_bind (HW R hk hv cb (by omega) (by omega) ?_);dsimp only;by_cases hg:KR r (arrOf st') (lo+x-1)<KR r (arrOf st') (lo+x)
    .rw[AO hg,AB rfl];exact wpS_pure ⟨x,neq,rfl,cb,by omega,by omega,dn,q1,q2⟩
    .rw[AU hg,AE (by decide)];refine wpS_pure ⟨neq+1,rfl,cb,step1 _ (λ_=>rfl) (by omega),by omega,λi a1 a2=>?_⟩;rw[show lo+(x+1)-1=lo+x by omega];by_cases hi:i=lo+x
     .rw[hi]
     .rw[q2 i (by omega) (by omega)];omega
  case post=>
   intro c st' hI;refine Classical.byContradiction λG=>?_;obtain ⟨x,neq,eI1,cb,x1,x2,dn,q1,q2⟩:=hI;refine G ?_;clear G;subst eI1;refine zX (λc3=>?_) (λc3=>?_)
   case' refine_1=>
    refine wpS_bind (wpS_modify ?_);replace dn:RDn r (mirror (arrOf st') (lo+x-(neq+1)) (lo+x) ((lo+x-(lo+x-(neq+1))) / 2)) lo (lo+x):=λi j a1 a2 a3=>by
     rw[ID (by rw[cb.size];omega) q2,ID (by rw[cb.size];omega) q2];exact dn i j a1 a2 a3
    replace cb:=cb.mir (i:=lo+x-(neq+1)) (j:=lo+x) (by omega) (by omega)
   all_goals
    refine wpS_bind (wpS_modify ?_);have cb2:=cb.mir (i:=lo) (j:=lo+x) (AF _) (by omega);refine wpS_bind (Qb R hk hv cb2 hz x1 x2 (mirU (n:=0) (neq:=0) cb x2 dn) λm m1 m2 hu2 _=>wpS_pure (h m _ cb2 (by omega) m2 hu2))
end
section
variable {prog:Ym} {w:Yo} {A:Yn} {E:Yc} {s:Yl} {κ:SortKind} {vs:Yf} {r:Yr} {st0 st:SortSt} {lo n ok:Nat}
def T5 (R:Cj prog w s κ vs r) (hk:kindOf st0=κ) (hv:∀ x∈(arrOf st0).toList,x.1∈vs) (c0:CB lo st0 st) (hz:lo+n<=(arrOf st0).size) (h1:1<=ok) (h2:ok<=n) (hu:RUp r (arrOf st) lo (lo+ok))
  (h:∀ st',CB lo st0 st'->RUp r (arrOf st') lo (lo+n)->Q true st'):wpS (model prog w) A E s (binarySort' lo n ok) Q st:=by
 refine wpS_bind (wpS_mono (wpS_forRange (I:=λk c st'=>c=(none,())/\CB lo st0 st'/\RUp r (arrOf st') lo (lo+k)) (Q:=λc st'=>c=(none,())/\CB lo st0 st'/\RUp r (arrOf st') lo (lo+n)) ?step ?fin ⟨rfl,c0,by rw[show max ok 1=ok by omega];exact hu⟩) ?post)
 case fin=>
  intro c st' hI;refine Classical.byContradiction λG=>?_;obtain ⟨eI1,cb,hu⟩:=hI;refine G ?_;clear G;subst eI1;rw[show max (max ok 1) n=n by omega]at hu;exact ⟨rfl,cb,hu⟩
 case post=>
  intro c st' hI;refine Classical.byContradiction λG=>?_;obtain ⟨eI1,cb,hu⟩:=hI;refine G ?_;clear G;subst eI1;exact wpS_pure (h st' cb hu)
 case step=>
  intro k c st' hk1 hk2 hI;refine Classical.byContradiction λG=>?_;obtain ⟨eI1,cb,hu⟩:=hI;refine G ?_;clear G;subst eI1;have hk0:1<=k:=by omega
  refine wpS_bind (wpS_mono (wpS_forRange (I:=λx c st''=>st''=st' /\ ∃ a b,c=(none,a,b)/\a<=b/\b<=k/\b-a<=k-x/\(∀ i,i<a->KR r (arrOf st') (lo+i)<=KR r (arrOf st') (lo+k))/\(∀ i,b<=i->i<k->KR r (arrOf st') (lo+k)<=KR r (arrOf st') (lo+i))) (Q:=λc st''=>st''=st' /\ ∃ a b,c=(none,a,b)/\a<=k/\(∀ i,i<a->KR r (arrOf st') (lo+i)<=KR r (arrOf st') (lo+k))/\(∀ i,a<=i->i<k->KR r (arrOf st') (lo+k)<=KR r (arrOf st') (lo+i))) ?step1 ?fin1 ⟨rfl,0,k,rfl,by omega,by omega,by omega,λi hi=>by omega,λi a1 a2=>by omega⟩) ?post1)
  case fin1=>
   intro c st'' hI;refine Classical.byContradiction λG=>?_;obtain ⟨eI1,a,b,eI2,q1,q2,q3,q4,q5⟩:=hI;refine G ?_;clear G;subst eI1 eI2;exact ⟨rfl,a,b,rfl,by omega,q4,λi a1 a2=>q5 i (by omega) a2⟩
  case step1=>
   intro x c st'' _ hx hI;refine Classical.byContradiction λG=>?_;obtain ⟨eI1,a,b,eI2,q1,q2,q3,q4,q5⟩:=hI;refine G ?_;clear G;subst eI1 eI2;refine zX (λc1=>wpS_pure ⟨rfl,a,b,rfl,by omega,q4,λi a1 a2=>q5 i (by dsimp only at c1;omega) a2⟩) (λc1=>?_);have c1':a<b:=by dsimp only at c1;omega
   refine wpS_bind (HW R hk hv cb (by omega) (by dsimp only;omega) ?_);dsimp only;by_cases hl:KR r (arrOf st'') (lo+k)<KR r (arrOf st'') (lo+(a+b) / 2)
   .rw[AO hl,AB rfl];refine wpS_pure ⟨rfl,a,(a+b) / 2,rfl,by omega,by omega,by omega,q4,λi a1 a2=>?_⟩;have:=hu (lo+(a+b) / 2) (lo+i) (by omega) (by omega) (by omega);omega
   .rw[AU hl,AE (by decide)];refine wpS_pure ⟨rfl,(a+b) / 2+1,b,rfl,by omega,by omega,by omega,λi a1=>?_,q5⟩;have:=hu (lo+i) (lo+(a+b) / 2) (by omega) (by omega) (by omega);omega
  case post1=>
   intro c st'' hI;refine Classical.byContradiction λG=>?_;obtain ⟨eI1,a,b,eI2,q1,q4,q5⟩:=hI;refine G ?_;clear G;subst eI1 eI2;refine wpS_bind (wpS_modify (wpS_pure ⟨rfl,cb.bub (by omega) (by dsimp only;omega) (by dsimp only;omega),λi j a1 a2 a3=>?_⟩));have hs:lo+k<(arrOf st'').size:=by rw[cb.size];omega
   show KR r (bubble (arrOf st'') (lo+k) (lo+k-(lo+a))) i<=KR r (bubble (arrOf st'') (lo+k) (lo+k-(lo+a))) j;rw[My hs (by omega),My hs (by omega)];rw[show lo+k-(lo+k-(lo+a))=lo+a by omega];by_cases i1:i=lo+a
   .rw[AB i1];by_cases j1:j=lo+a
    .rw[AB j1];exact AF _
    .rw[AE j1,AB (by omega)];have:=q5 (j-1-lo) (by omega) (by omega);rw[show lo+(j-1-lo)=j-1 by omega]at this;exact this
   .rw[AE i1];by_cases i2:lo+a<i/\i<=lo+k
    .rw[AB i2,AE (by omega),AB (by omega)];exact hu _ _ (by omega) (by omega) (by omega)
    .rw[AE i2];by_cases j1:j=lo+a
     .rw[AB j1];have:=q4 (i-lo) (by omega);rw[show lo+(i-lo)=i by omega]at this;exact this
     .rw[AE j1];by_cases j2:lo+a<j/\j<=lo+k
      .rw[AB j2];exact hu _ _ a1 (by omega) (by omega)
      .rw[AE j2];exact hu _ _ a1 a2 (by omega)
end
noncomputable def Ck:Nat->List (List Keyed)->List (Nat × Nat)
 |_,[]=>[]
 |o,R::Rs=>(o,R.length)::Ck (o+R.length) Rs
theorem Jd:∀ (o:Nat) (As Bs:List (List Keyed)),Ck o (As++Bs)=Ck o As++Ck (o+As.flatten.length) Bs
 |o,[],Bs=>by simp[Ck]
 |o,R::As,Bs=>by
  rw[List.cons_append,Ck,Ck,Jd];simp only[List.cons_append,List.flatten_cons,An];rw[Nat.add_assoc]
theorem KD:∀ (o:Nat) (As:List (List Keyed)),(Ck o As).length=As.length
 |_,[]=>rfl
 |o,R::As=>by rw[Ck,Ba,KD,Ba]
noncomputable abbrev two (p:Nat × Nat × Nat):Nat × Nat:=(p.1,p.2.1)
structure Run (κ:SortKind) (r:Yr) (a₀:List Keyed) (st:SortSt) (Rs:List (List Keyed)) (rest:List Keyed):Prop where
 k:kindOf st=κ
 f:failedOf st=none
 arr:(arrOf st).toList=Rs.flatten++rest
 perm:(arrOf st).toList.Perm a₀
 srt:∀ X∈Rs,X≠[]/\X.Pairwise (leR r)
 pd:(pendingOf st).toList.map two=Ck 0 Rs
section
variable {prog:Ym} {w:Yo} {A:Yn} {E:Yc} {s:Yl} {κ:SortKind} {vs:Yf} {r:Yr} {a₀:List Keyed} {st:SortSt} {Rs:List (List Keyed)} {rest:List Keyed}
def Run.plen (h:Run κ r a₀ st Rs rest):(pendingOf st).size=Rs.length:=by
 have:=BJ List.length h.pd;rw[AG,KD]at this;simpa using this
def Tr (h:i+1<Rs.length):∃ As R1 R2 Bs,Rs=As++R1::R2::Bs/\As.length=i:=by
 refine ⟨Rs.take i,Rs[i],Rs[i+1],Rs.drop (i+2),?_,by rw[CG];omega⟩;conv=>lhs;rw[<-DW i Rs,List.drop_eq_getElem_cons (by omega:i<Rs.length),List.drop_eq_getElem_cons h]
def Pq (R:Cj prog w s κ vs r) (hv:∀ x∈a₀,x.1∈vs) (h:Run κ r a₀ st Rs rest) (hi:i+1<Rs.length)
  (q:∀ st' Rs',Run κ r a₀ st' Rs' rest->Rs'.length+1=Rs.length->Rs'.flatten.length=Rs.flatten.length->Q true st'):wpS (model prog w) A E s (mergeAt' i) Q st:=by
 obtain ⟨As,R1,R2,Bs,rfl,rfl⟩:=Tr hi;have pd:=h.pd;rw[Jd,Ck,Ck]at pd;obtain ⟨PA,P1,e1,e2,e3⟩:=List.map_eq_append_iff.mp pd;obtain ⟨p1,P2,e4,e5,e6⟩:=List.map_eq_cons_iff.mp e3;obtain ⟨p2,PB,e7,e8,e9⟩:=List.map_eq_cons_iff.mp e6;subst e4 e7;obtain ⟨x1,x2,pw⟩:=p1;obtain ⟨y1,y2,pw2⟩:=p2;have hPA:PA.length=As.length:=by have:=BJ List.length e2;rw[AG,KD]at this;exact this
 obtain ⟨rfl,rfl⟩:x1=0+As.flatten.length/\x2=R1.length:=by have:=e5;simp only[two,Prod.mk.injEq]at this;exact this
 obtain ⟨rfl,rfl⟩:y1=0+As.flatten.length+R1.length/\y2=R2.length:=by have:=e8;simp only[two,Prod.mk.injEq]at this;exact this
 have a1:(pendingOf st)[As.length]?=some (0+As.flatten.length,R1.length,pw):=by
  rw[<-Bj,e1,DV (by omega),hPA];simp
 have a2:(pendingOf st)[As.length+1]?=some (0+As.flatten.length+R1.length,R2.length,pw2):=by
  rw[<-Bj,e1,DV (by omega),show As.length+1-PA.length=1 by omega];rfl
 have s1:=h.srt R1 (by simp);have s2:=h.srt R2 (by simp);have harr:(arrOf st).toList=As.flatten++(R1++(R2++(Bs.flatten++rest))):=by rw[h.arr];simp
 refine SR R h.k h.f harr (λx hx=>hv x (h.perm.mem_iff.mp hx)) (by omega) rfl rfl rfl (List.length_pos_iff.mpr s1.1) (List.length_pos_iff.mpr s2.1) s1.2 s2.2 a1 a2 λm st' hk hf hp ha hpm hs=>?_;have hml:m.length=R1.length+R2.length:=by rw[hpm.length_eq,An]
 refine q st' (As++m::Bs) ⟨hk,hf,by rw[ha];simp,?_,λX hX=>?_,?_⟩ (by simp;omega) (by simp;omega)
 .refine List.Perm.trans ?_ h.perm;rw[ha,harr];refine List.Perm.append_left _ ?_;rw[<-BL R1];exact List.Perm.append_right _ hpm
 .rcases Ai.mp hX with z|z
  .exact h.srt X (by simp[z])
  .rcases AI.mp z with z|z
   .subst z;refine ⟨λe=>?_,hs⟩;rw[e]at hml;have:=List.length_pos_iff.mpr s1.1;simp at hml;omega
   .exact h.srt X (by simp[z])
 .rw[hp];have hz:As.length+1<(pendingOf st).size:=(Array.getElem?_eq_some_iff.mp a2).1;have e10:(((pendingOf st).setIfInBounds As.length (0+As.flatten.length,R1.length+R2.length,pw)).eraseIdxIfInBounds (As.length+1)).toList=PA++(0+As.flatten.length,R1.length+R2.length,pw)::PB:=by
   rw[Array.toList_eraseIdxIfInBounds,Array.toList_setIfInBounds,e1,<-hPA,GF _ _ (AF _),List.eraseIdx_append_of_length_le (by omega)];simp
  rw[e10,CK,AX,Jd,Ck,e2,hml,e9,Nat.add_assoc (0+As.flatten.length)]
end
section
variable {prog:Ym} {w:Yo} {A:Yn} {E:Yc} {s:Yl} {κ:SortKind} {vs:Yf} {r:Yr} {a₀:List Keyed} {st st1:SortSt} {Rs:List (List Keyed)} {rest W:List Keyed} {lo n:Nat}
def Run.total (h:Run κ r a₀ st Rs rest):Rs.flatten.length+rest.length=a₀.length:=by
 have:=h.perm.length_eq;rw[h.arr,An]at this;exact this
def Run.size (h:Run κ r a₀ st Rs rest):(arrOf st).size=a₀.length:=by rw[<-BK];exact h.perm.length_eq
def SE (h:Run κ r a₀ st Rs rest) (c:CB lo st st1) (hl:lo=Rs.flatten.length):∃ W,Run κ r a₀ st1 Rs W/\W.length=rest.length:=by
 have ht:=h.total;have hz:(arrOf st1).toList.length=a₀.length:=by rw[BK,c.size,h.size]
 have e:(arrOf st1).toList.take lo=Rs.flatten:=by
  apply List.ext_getElem?;intro i;rw[List.getElem?_take];by_cases hi:i<lo
  .rw[AB hi,Bj,c.pre i hi,<-Bj,h.arr,AW (by omega)]
  .rw[AE hi,FV (by omega)]
 refine ⟨(arrOf st1).toList.drop lo,⟨c.k.trans h.k,c.f.trans h.f,?_,(Array.perm_iff_toList_perm.mp c.perm).trans h.perm,h.srt,by rw[c.p];exact h.pd⟩,by rw[Dj];omega⟩;rw[<-e,DW]
def dX (h:Run κ r a₀ st Rs W) (hl:lo=Rs.flatten.length) (hn:n<=W.length) (hu:RUp r (arrOf st) lo (lo+n)):(W.take n).Pairwise (leR r):=by
 rw[List.pairwise_iff_getElem];intro i j hi hj hij;rw[CG]at hi hj;have at_:∀ (k:Nat) (hk:k<W.length),KR r (arrOf st) (lo+k)=r (W[k]).1:=λk hk=>by
  unfold KR;rw[<-Bj,h.arr,DV (by omega),show lo+k-Rs.flatten.length=k by omega,AS hk]
 have:=hu (lo+i) (lo+j) (by omega) (by omega) (by omega);rw[at_ i (by omega),at_ j (by omega)]at this;rw[List.getElem_take,List.getElem_take];exact this
def Vx (h:Run κ r a₀ st Rs W) (hl:lo=Rs.flatten.length) (n1:1<=n) (hn:n<=W.length) (hs:(W.take n).Pairwise (leR r)):Run κ r a₀ (setPending st ((pendingOf st).push (lo,n,0))) (Rs++[W.take n]) (W.drop n):=by
 refine ⟨h.k,h.f,?_,h.perm,λX hX=>?_,?_⟩
 .show (arrOf st).toList=_;rw[h.arr];simp
 .rcases Ai.mp hX with z|z
  .exact h.srt X z
  .rw[Aq.mp z];exact ⟨λe=>by have:=BJ List.length e;rw[CG,D7]at this;omega,hs⟩
 .show ((pendingOf st).push (lo,n,0)).toList.map two=_;rw[Array.toList_push,CK,h.pd,Jd,hl];simp[Ck,CG];omega
def X9 (hn:n<=W.length):(Rs++[W.take n]).flatten.length=Rs.flatten.length+n:=by
 simp[CG];omega
def Pa (h:Run κ r a₀ st Rs W) (hl:lo=Rs.flatten.length) (n1:1<=n) (hn:n<=W.length) (hs:(W.take n).Pairwise (leR r)) (hx:x<=lo) (hz:Rs.length<=lo) :
  ∃ lo2 Rs2 rest2,((none:Option Unit),lo+n)=(none,lo2)/\Run κ r a₀ (setPending st ((pendingOf st).push (lo,n,0))) Rs2 rest2/\lo2=Rs2.flatten.length/\x+1<=lo2/\Rs2.length<=lo2 :=
 ⟨_,_,_,rfl,Vx h hl n1 hn hs,by rw[X9 hn,hl],by omega,by rw[An];simp only[Ba,D7];omega⟩
def Zh [Decidable c] (h:1<n) (e:n=m):(if c then n-2-1 else n-2)+1<m:=by
 split <;> omega
def VU (h:Run κ r a₀ st Rs W) (f:Nat × Nat × Nat->Nat × Nat × Nat) (hf:∀ p,two (f p)=two p) (i:Nat):Run κ r a₀ (setPending st ((pendingOf st).modify i f)) Rs W:=by
 refine ⟨h.k,h.f,h.arr,h.perm,h.srt,?_⟩;show ((pendingOf st).modify i f).toList.map two=_;rw[Array.toList_modify,<-h.pd];apply List.ext_getElem?;intro j;rw[Az,Az,List.getElem?_modify];cases (pendingOf st).toList[j]? with
 |none=>rfl
 |some p=>
  by_cases z:i=j
  .simp[z,hf]
  .simp[z]
set_option maxHeartbeats 4000000 in
def iA (R:Cj prog w s κ vs r) (hv:∀ x∈a₀,x.1∈vs) (h:Run κ r a₀ st [] a₀)
  (q:∀ st',failedOf st'=none->Mgd (leR r) a₀ (arrOf st').toList->Q () st'):wpS (model prog w) A E s sortRuns' Q st:=by
 have hN:=h.size;refine wpS_bind (wpS_get ?_);refine wpS_bind (wpS_mono (wpS_forRange (I:=λx c st'=>∃ lo Rs rest,c=(none,lo)/\Run κ r a₀ st' Rs rest/\lo=Rs.flatten.length/\x<=lo/\Rs.length<=lo) (Q:=λc st'=>∃ lo Rs,c=(none,lo)/\Run κ r a₀ st' Rs []/\Rs.length<=lo/\lo<=a₀.length) ?step ?fin ⟨0,[],a₀,rfl,h,rfl,AF _,AF _⟩) ?post)
 case fin=>
  intro c st' hI;refine Classical.byContradiction λG=>?_;obtain ⟨lo,Rs,rest,eI1,h,hlo,hp,hz⟩:=hI;refine G ?_;clear G;subst eI1;have ht:=h.total;have:rest=[]:=FQ.mp (by have:max 0 (arrOf st).size<=lo:=hp;omega);subst this;exact ⟨lo,Rs,rfl,h,hz,by omega⟩
 case post=>
  intro c st' hI;refine Classical.byContradiction λG=>?_;obtain ⟨lo,Rs,eI1,h,hz,hz2⟩:=hI;refine G ?_;clear G;subst eI1;refine wpS_bind (wpS_mono (wpS_forRange (I:=λx c st'=>c=(none,()) /\ ∃ Rs,Run κ r a₀ st' Rs []/\Rs.length+x<=max (a₀.length) (x+1)) (Q:=λc st'=>c=(none,()) /\ ∃ Rs,Run κ r a₀ st' Rs []/\Rs.length<=1) ?step2 ?fin2 ⟨rfl,Rs,h,by omega⟩) ?post2)
  case fin2=>
   intro c st' hI;refine Classical.byContradiction λG=>?_;obtain ⟨eI1,Rs,h,hx⟩:=hI;refine G ?_;clear G;subst eI1;have hx':Rs.length+max 0 (arrOf st).size<=max a₀.length (max 0 (arrOf st).size+1):=hx;exact ⟨rfl,Rs,h,by omega⟩
  case post2=>
   intro c st' hI;refine Classical.byContradiction λG=>?_;obtain ⟨eI1,Rs,h,hx⟩:=hI;refine G ?_;clear G;subst eI1;refine wpS_pure (q st' h.f ⟨h.perm,?_⟩);rw[h.arr,BF];match Rs,hx,h with
   |[],_,_=>exact .nil
   |[X],_,h=>simpa using (h.srt X (by simp)).2
   |_::_::_,hx,_=>simp at hx
  case step2=>
   intro x c st' _ hx hI;refine Classical.byContradiction λG=>?_;obtain ⟨eI1,Rs,h,hr⟩:=hI;refine G ?_;clear G;subst eI1;refine wpS_bind (wpS_get ?_);have hpl:=h.plen;refine zX (λc1=>wpS_pure ⟨rfl,Rs,h,AZ (Nat.le_of_eq hpl.symm) c1⟩) (λc1=>?_);have c1':1<(pendingOf st').size:=by have:¬ (pendingOf st').size<=1:=c1;omega
   refine wpS_bind (Pq R hv h ?_ λst2 Rs2 h2 l1 l2=>?_)
   .exact Zh c1' hpl
   .exact zX (λz=>absurd z (by decide)) (λ_=>wpS_pure ⟨rfl,Rs2,h2,by omega⟩)
 case step=>
  intro x c st' _ hx hI;refine Classical.byContradiction λG=>?_;obtain ⟨lo,Rs,rest,eI1,h,hlo,hp,hz⟩:=hI;refine G ?_;clear G;subst eI1;have ht:=h.total;refine zX (λc1=>?_) (λc1=>?_)
  .have c1':(arrOf st).size<=lo:=c1;have:rest=[]:=FQ.mp (by omega);subst this;exact wpS_pure ⟨lo,Rs,rfl,h,hz,by omega⟩
  have c1':lo<(arrOf st).size:=Nat.lt_of_not_le c1;have hv':∀ x∈(arrOf st').toList,x.1∈vs:=λx hx=>hv x (h.perm.mem_iff.mp hx);refine wpS_bind (iX (lo:=lo) (nrem:=(arrOf st).size-lo) R h.k hv' (by rw[h.size];omega) (by omega) λn st1 cb n1 n2 hu=>?_);refine zX (λc2=>?_) (λc2=>?_)
  case' refine_1=>
   refine wpS_bind (wpS_lift (BY ⟨rfl,?_⟩));have c2':n<minRun' (arrOf st).size (arrOf st).size 0:=c2;refine wpS_bind (T5 (n:=min ((arrOf st).size-lo) (minRun' (arrOf st).size (arrOf st).size 0)) R h.k hv' cb (by rw[h.size];omega) n1 (by omega) hu λst2 cb2 hu2=>?_);replace n1:1<=min ((arrOf st).size-lo) (minRun' (arrOf st).size (arrOf st).size 0):=by omega
   replace n2:min ((arrOf st).size-lo) (minRun' (arrOf st).size (arrOf st).size 0)<=(arrOf st).size-lo:=by omega
   refine zX (λz=>absurd z (by decide)) (λ_=>?_);replace hu:=hu2;replace cb:=cb2
  all_goals
   obtain ⟨W,hW,hWl⟩:=SE h cb hlo;have n3:=AZ n2 (show (arrOf st).size-lo<=W.length by omega);have hs:=dX hW hlo n3 hu;refine wpS_bind (wpS_get ?_);split
   .refine wpS_bind (wpS_mono (wpS_forRange (I:=λy c st3=>c=(none,()) /\ ∃ Rs3,Run κ r a₀ st3 Rs3 W/\Rs3.flatten.length=Rs.flatten.length/\Rs3.length<=lo) (Q:=λc st3=>c=(none,()) /\ ∃ Rs3,Run κ r a₀ st3 Rs3 W/\Rs3.flatten.length=Rs.flatten.length/\Rs3.length<=lo) ?step3 (λ_ _ z=>z) ⟨rfl,Rs,hW,rfl,hz⟩) ?post3)
    case step3=>
     intro y c st3 _ _ hI;refine Classical.byContradiction λG=>?_;obtain ⟨eI1,Rs3,h3,l3,z3⟩:=hI;refine G ?_;clear G;subst eI1;refine wpS_bind (wpS_get ?_);have hpl:=h3.plen;dsimp only;by_cases hp1:(pendingOf st3).size>1
     .obtain ⟨p,ep⟩:∃ p,(pendingOf st3)[(pendingOf st3).size-2]?=some p:=⟨_,Cd (by omega)⟩;rw[AB hp1,ep];refine zX (λ_=>wpS_pure ⟨rfl,Rs3,h3,l3,z3⟩) (λ_=>?_);refine wpS_bind (Pq R hv h3 (i:=(pendingOf st3).size-2) (by omega) λst4 Rs4 h4 l4 z4=>?_);exact zX (λz=>absurd z (by decide)) (λ_=>wpS_pure ⟨rfl,Rs4,h4,by omega,by omega⟩)
     .rw[AE hp1];exact wpS_pure ⟨rfl,Rs3,h3,l3,z3⟩
    case post3=>
     intro c st3 hI;refine Classical.byContradiction λG=>?_;obtain ⟨eI1,Rs3,h3,l3,z3⟩:=hI;refine G ?_;clear G;subst eI1;refine wpS_bind (wpS_modify (wpS_bind (wpS_modify (wpS_pure ?_))));refine Pa (VU h3 _ ?_ _) (hlo.trans l3.symm) n1 n3 hs hp z3;rintro ⟨a,b,c⟩;rfl
   .exact wpS_bind (wpS_modify (wpS_pure (Pa hW hlo n1 n3 hs hp hz)))
end
section
variable {prog:Ym} {w:Yo} {A:Yn} {E:Yc} {s:Yl} {κ:SortKind} {vs:Yf} {r:Yr}
def fH (R:Cj prog w s κ vs r):wpS (model prog w) A E s sortRuns' (λ_ st=>failedOf st=none/\((arrOf st).map (·.2)).toList.Perm vs/\((arrOf st).map (·.2)).toList.Pairwise λx y=>r x<=r y) (SortSt.mk' κ (pairsOf vs) #[] 7 none):=by
 have hz:(pairsOf vs).toList=vs.zip vs:=pairsOf_toList vs;have hv:∀ p∈(pairsOf vs).toList,p.1∈vs:=λp hp=>by rw[hz]at hp;exact (mem_zip_self hp).2
 refine iA R hv ⟨rfl,rfl,rfl,.refl _,(λX hX=>absurd hX (by simp)),rfl⟩ λst hf hm=>⟨hf,?_,?_⟩
 .rw[Array.toList_map];have:=hm.1.map (·.2);rw[hz,List.map_snd_zip (AF _)]at this;exact this
 .rw[Array.toList_map];refine Es.mpr ((List.Pairwise.and_mem.mp hm.2).imp λ{x y} h=>?_);have hx:=(mem_zip_self (hz▸hm.1.mem_iff.mp h.1)).1;have hy:=(mem_zip_self (hz▸hm.1.mem_iff.mp h.2.1)).1;rw[<-hx,<-hy];exact h.2.2
def Rg
  (hc:wpAny (model prog w) A.in1 (collect v) (λvs s1=>vs.length<=sizeLine/\Kg s1.heap vs /\
   ∀ (h':Heap) (out:List Value) (n:Nat),(∀ b u,s1.heap.get? b=some u->h'.get? b=some u)->h'.get? s1.heap.objs.size=some (seqObj "list" out.toArray n)->out.Perm vs->out.Pairwise (λx y=>AY (CH s1.heap y) (CH s1.heap x)=false)->Q (.ref s1.heap.objs.size) { s1 with heap:=h' }) E s) :
  wpAny (model prog w) A (call (.builtin "sorted") [v]) Q E s:=by
 refine Calls.call_function_entry kind_sorted plain_sorted entry_sorted (args_sorted1 _) ?_;unfold Builtin.«sorted»;refine AA (m:=checkCount "sorted" 1 1 _) (AD ?_);refine AA (AN hc (λvs s1 z=>?_) λ_ _ e=>e);obtain ⟨hz,ht,h⟩:=z;refine AA (wpAny_newList ?_ hz);have hoL:(s1.heap.push (seqObj "list" vs.toArray 0)).get? s1.heap.objs.size=some (seqObj "list" vs.toArray 0):=AV _ rfl;refine AA (B2 (BI slot_list_sort ⟨_,hoL,rfl⟩ entry_list_sort (a9 (κ:=tuples' true) (F:=λout=>out.toList.Perm vs/\out.toList.Pairwise (λx y=>AY (CH s1.heap y) (CH s1.heap x)=false)) (s:={ s1 with heap:=s1.heap.push (seqObj "list" vs.toArray 0) }) hoL hz (λout e=>by rw[<-BK];exact e.1.length_eq) (λh2=>⟨by simp,?_⟩) ?_ λout e=>⟨_,rfl,?_⟩) (args_list_sort _)))
 .match vs,h2 with
  |[],_=>exact .nil
  |[x],_=>simp
  |_::_::_,h2=>simp at h2;omega
 .intro h2 h6 k6;have kT:∀ {v xs},BX s1.heap v xs->BX h6 v xs:=λ{v xs} t=>t.keep λb o _ e=>k6 b o (λz=>BV _ (z▸AH e)) (AJ _ e);have ht6:Kg h6 vs:=λv hv=>let ⟨x,xs,t⟩:=ht v hv;⟨x,xs,kT t⟩;refine ⟨λA E Q q=>?_,λA E=>wpS_mono (fH (gW (s:={ s1 with heap:=h6 }) ht6)) ?_⟩
  .match vs,h2,ht6 with
   |v::vs,_,ht6=>exact cK (s:={ s1 with heap:=h6 }) ht6 q
  .rintro _ st ⟨e1,e2,e3⟩;refine ⟨e1,e2,(List.Pairwise.and_mem.mp e3).imp λ{x y} z=>?_⟩;have mx:=e2.mem_iff.mp z.1;have my:=e2.mem_iff.mp z.2.1;obtain ⟨a,as,tx⟩:=ht x mx;obtain ⟨b,bs,ty⟩:=ht y my;rw[En tx,En ty,<-En (kT tx),<-En (kT ty),Pl (ks:=vs.map (CH h6)) (List.mem_map_of_mem my) (List.mem_map_of_mem mx)];have:rkV h6 vs x<=rkV h6 vs y:=z.2.2;unfold rkV at this;exact AU (by omega)
 .refine AD ⟨_,rfl,?_⟩;have g1:=get?_update_seq hoL (λ_=> #[]);have g4:=get?_update_seq (AJ (seqObj "list" #[] 0) (AJ (seqObj "tuple" vs.toArray 0) g1)) (λ_=>out);refine h _ out.toList _ (λb u e=>?_) (by rw[Array.toArray_toList];exact g4) e.1 e.2;have hb:s1.heap.objs.size≠b:=λz=>BV _ (z▸AH e);exact (D2 _ _ hb).trans (AJ _ (AJ _ ((D2 _ _ hb).trans (AJ _ e))))
noncomputable def leL (a b:Ye):Bool:=!AY b a
noncomputable def EJ (ts:Ya):List (List Int):=ts.mergeSort leL
def VQ (a b c:Ye) (h1:leL a b=true) (h2:leL b c=true):leL a c=true:=by
 unfold leL at *;rw[Bool.not_eq_true']at *;cases e:AY c a with
 |false=>rfl
 |true=>
  cases e2:AY b a with
  |true=>rw[e2]at h1;cases h1
  |false=>
   cases e3:AY a b with
   |true=>rw[HH e e3]at h2;cases h2
   |false=>rw[Jv e2 e3]at h2;rw[h2]at e;cases e
def hJ (a b:Ye):(leL a b||leL b a)=true:=by
 unfold leL;cases e:AY b a with
 |false=>rfl
 |true=>
  cases e2:AY a b with
  |false=>rfl
  |true=>have:=HH e e2;rw[IZ]at this;cases this
def QU (ts:Ya):(EJ ts).Perm ts:=List.mergeSort_perm ts leL
def UO (ts:Ya):(EJ ts).Pairwise λa b=>AY b a=false:=(List.pairwise_mergeSort VQ hJ ts).imp λ{a b} h=>by unfold leL at h;simpa using h
theorem N1:∀ {xs ys:Ya},xs.Perm ys->xs.Pairwise (λa b=>AY b a=false)->ys.Pairwise (λa b=>AY b a=false)->xs=ys
 |[],ys,h,_,_=>by rw[List.nil_perm.mp h]
 |x::xs,[],h,_,_=>by have:=h.length_eq;simp at this
 |x::xs,y::ys,h,hx,hy=>by
  have px:=DY.mp hx;have py:=DY.mp hy;have e:x=y:=by
   have m1:x∈y::ys:=h.mem_iff.mp Ad;have m2:y∈x::xs:=h.mem_iff.mpr Ad;rcases AI.mp m1 with z|z
   .exact z
   .rcases AI.mp m2 with z'|z'
    .exact z'.symm
    .exact Jv (py.1 x z) (px.1 y z')
  subst e;rw[N1 (List.Perm.cons_inv h) px.2 py.2]
def Qg (h:xs.Perm ts) (hp:xs.Pairwise λa b=>AY b a=false):xs=EJ ts:=N1 (h.trans (QU ts).symm) hp (UO ts)
end
end ST
namespace L3
open L2 ST
def Fg (H:Hp) (ys:List V) (ts:Ya):Prop:=ys.length=ts.length /\ ∀ (i:Nat) t,ts[i]?=some t -> ∃ b,ys[i]?=some (.ref b)/\H b=some (.tup ((kkI t).map kV))
def ZQ (hl:its.length=ts.length) (ha:∀ (i:Nat) u,its[i]?=some u -> ∃ t b,ts[i]?=some t/\u=.ref b/\H b=some (.tup ((kkI t).map kV))/\BX h1 (.ref b) t)
  (hp:out.Perm its) (hs:out.Pairwise λx y=>AY (CH h1 y) (CH h1 x)=false):∃ ys,zY ys out/\Fg H ys (EJ ts):=by
 have key:∀ u∈its,∃ t b,u=.ref b/\H b=some (.tup ((kkI t).map kV))/\CH h1 u=t:=λu hu=>by
  obtain ⟨i,hi⟩:=List.mem_iff_getElem?.mp hu;obtain ⟨t,b,_,rfl,e1,e2⟩:=ha i u hi;exact ⟨t,b,rfl,e1,En e2⟩
 have e0:its.map (CH h1)=ts:=by
  apply List.ext_getElem?;intro i;rw[Az];by_cases hi:i<its.length
  .rw[AS hi];obtain ⟨t,b,e1,e2,_,e4⟩:=ha i _ (AS hi);rw[e1,e2];exact BJ some (En e4)
  .rw[FV (by omega),FV (by omega)];rfl
 have e1:out.map (CH h1)=EJ ts:=Qg (by rw[<-e0];exact hp.map _) (Es.mpr hs);refine ⟨out.map λu=>match u with|.ref b=> .ref b|_=> .non,?_,?_,λi t et=>?_⟩
 .refine OT (by simp) λi y u ey eu=>?_;rw[Az,eu]at ey;obtain ⟨t,b,rfl,_⟩:=key u (hp.mem_iff.mp (FJ eu));cases ey;rfl
 .rw[AG,<-e1,AG]
 .rw[<-e1,Az]at et;cases eu:out[i]? with
  |none=>rw[eu]at et;cases et
  |some u=>
   rw[eu]at et;obtain ⟨t',b,rfl,e2,e3⟩:=key u (hp.mem_iff.mp (FJ eu));have et':CH h1 (.ref b)=t:=B0 et;rw[e3]at et';subst et';exact ⟨b,by rw[Az,eu];rfl,e2⟩
theorem OI:∀ {ts:Ya} {ys:List V},Fg H ys ts->zJ L H (ts.map λt=>D.tup (t.map D.int)) ys
 |[],ys,h=>by
  have:ys=[]:=FQ.mp h.1;subst this;exact .nil
 |t::ts,[],h=>by have:=h.1;cases this
 |t::ts,y::ys,h=>by
  obtain ⟨b,e1,e2⟩:=h.2 0 t rfl;cases e1;refine .cons (MJ (k:=kkI t) ?_ e2) (OI ⟨Nat.succ.inj h.1,λi u e=>by obtain ⟨b,q1,q2⟩:=h.2 (i+1) u (by simpa using e);exact ⟨b,by simpa using q1,q2⟩⟩);exact Ox (HS t)
theorem P6:∀ {ds:List D} {ts:Ya} {vs:List V},Gd ds=some ts->zJ L H ds vs->Fg H vs ts
 |[],ts,vs,h,r=>by cases h;unfold zJ at r;subst r;exact ⟨rfl,λi t e=>by simp at e⟩
 |d::ds,ts,vs,h,r=>by
  unfold Gd at h;split at h
  .rename_i x xs h1 h2;cases h;unfold zJ at r;obtain ⟨v,r',rfl,r1,r2⟩:=r;obtain ⟨l2,q2⟩:=P6 h2 r2;refine ⟨by simp[l2],λi t e=>?_⟩;cases i with
   |succ i=>obtain ⟨b,z1,z2⟩:=q2 i t (by simpa using e);exact ⟨b,by simpa using z1,z2⟩
   |zero=>
    cases e;cases d with
    |tup es=>
     unfold Rep at r1;obtain ⟨a,ws,rfl,e1,r3⟩:=r1;have:=IV h1 r3;subst this;refine ⟨a,rfl,?_⟩;rw[e1];unfold kkI;rw[Ae];rfl
    |_=>cases h1
  .cases h
section
variable {X:Cx}
def Te:Bk X (.builtin "sorted") (λxs H Q=>∃ a vs ts,xs=[.ref a]/\(SqL X.K H a vs\/SqT X.K H a vs)/\Fg H vs ts/\(∀ t∈ts,t≠[])/\ts.length<=90000 /\ ∀ ys l,Fg H ys (EJ ts)->H l=none->Q (.ref l) (upd H l (.lst ys))):=by
 intro zB s Y H xs us Q I r h;obtain ⟨a,vs,ts,rfl,hq,hv,hne,hz,q⟩:=h;obtain ⟨u,rfl,rx⟩:=Cs r;cases rx;have key:∃ (ty:String) (its:List Value),(ty = "list" \/ ty = "tuple")/\(∃ ol,s.heap.get? a=some ol/\ol.cls=.type ty /\ ∃ nl,ol.data=.seq its.toArray nl)/\zY vs its:=by
  rcases hq with hq|hq
  .obtain ⟨its,rv,⟨ol,nl,e1,e2,_,e3⟩,_⟩:=I.list hq;exact ⟨"list", its,.inl rfl,⟨ol,e1,e2,nl,e3⟩,rv⟩
  .obtain ⟨its,rv,⟨ol,e1,e2,nl,e3⟩,_⟩:=I.tuple hq;exact ⟨"tuple", its,.inr rfl,⟨ol,e1,e2,nl,e3⟩,rv⟩
 obtain ⟨ty,its,hty,hl,rv⟩:=key;have hlen:its.length=ts.length:=by rw[<-rv.length];exact hv.1
 have hsl:its.length<=sizeLine:=by rw[sizeLine_eq];omega
 have ait:∀ (i:Nat) u,its[i]?=some u -> ∃ t b,ts[i]?=some t/\u=.ref b/\H b=some (.tup ((kkI t).map kV)):=by
  intro i u e;have hi:i<ts.length:=by rw[<-hlen];exact (AK.mp e).1
  obtain ⟨b,e1,e2⟩:=hv.2 i _ (AS hi);refine ⟨_,b,AS hi,?_,e2⟩;obtain ⟨u',e3,rfl⟩:=rv.get e1;rw[e]at e3;exact B0 e3
 refine Rg (Sa hty hl ?_ hsl);generalize hH1:(s.heap.push (seqObj "list" #[] 0)).update s.heap.objs.size (Obj.mapSeq (· ++ its.toArray))=h1;have k1:∀ b u,s.heap.get? b=some u->h1.get? b=some u:=λb u e=>by
  have hb:s.heap.objs.size≠b:=λz=>BV _ (z▸AH e);rw[<-hH1];exact (D2 _ _ hb).trans (AJ _ e)
 have a2:∀ (i:Nat) u,its[i]?=some u -> ∃ t b,ts[i]?=some t/\u=.ref b/\H b=some (.tup ((kkI t).map kV))/\BX h1 (.ref b) t:=λi u e=>by
  obtain ⟨t,b,e1,e2,e3⟩:=ait i u e;exact ⟨t,b,e1,e2,e3,(YV (I.hok b _ e3)).keep λc o _ eo=>k1 c o eo⟩
 refine ⟨hsl,λv hv'=>?_,λh' out n hk hL hp hs=>?_⟩
 .obtain ⟨i,hi⟩:=List.mem_iff_getElem?.mp hv';obtain ⟨t,b,e1,rfl,_,tt⟩:=a2 i v hi;cases t with
  |nil=>exact absurd rfl (hne _ (FJ e1))
  |cons x t=>exact ⟨x,t,tt⟩
 .obtain ⟨ys,rvy,tv⟩:=ZQ hlen a2 hp hs;have I2:Inv X zB Y H { s with heap:=h1 }:=I.kept (t':=s.toks) k1;have hf:H h1.objs.size=none:=I2.hok.fresh (AF _);exact ⟨.ref h1.objs.size,upd H h1.objs.size (.lst ys),I2.laid (t':=s.toks) hk (AF _) ⟨by rw[tv.1,(QU ts).length_eq,sizeLine_eq];omega,out,n,rvy,hL⟩,rfl,q ys _ tv hf⟩
noncomputable def G8 (ts:Ya):Bool:=ts.all λt=> !t.isEmpty
def SJ (h:G8 ts=true):∀ t∈ts,t≠[]:=λt ht e=>by
 unfold G8 at h;rw[A0]at h;have:=h t ht;rw[e]at this;cases this
noncomputable def F5:KB:=λxs M=>match xs with
 |[x]=>match Av M x with
  |some ds=>match Gd ds with
   |some ts=>if G8 ts=true/\ts.length<=90000 then some (.fl ((EJ ts).map λt=>D.tup (t.map D.int)),M) else none
   |none=>none
  |none=>none
 |_=>none
def SU:Cq X.K (λxs H Q=>∃ a vs ts,xs=[.ref a]/\(SqL X.K H a vs\/SqT X.K H a vs)/\Fg H vs ts/\(∀ t∈ts,t≠[])/\ts.length<=90000 /\ ∀ ys l,Fg H ys (EJ ts)->H l=none->Q (.ref l) (upd H l (.lst ys))) F5:=by
 intro L M M' H H0 xs d vs Q cc r hk q;unfold F5 at hk;split at hk
 .rename_i x;split at hk
  .rename_i ds e1;split at hk
   .rename_i ts e2;split at hk
    .rename_i hb;cases hk;obtain ⟨v,rfl,r1⟩:=r.one;obtain ⟨a,ws,rfl,hs,r2⟩:=Ju cc r1 e1;exact ⟨a,ws,ts,rfl,hs,P6 e2 r2,SJ hb.1,hb.2,λys l tv hl=>q L _ _ (.upd hl) (cc.upd hl) (zW.newLst' cc hl (OI tv))⟩
    .cases hk
   .cases hk
  .cases hk
 .cases hk
def d9 (hg:Gl X "sorted") (hm:X.mg "sorted" = none) (ha:QAE X [e] fa) (he:starEach [e] X.env=(false,eval e X.env)::starEach [] X.env:=by rfl) (hpl:(backTo pos (starEach [] X.env)).any (·.1)=false:=by rfl):QE X (.Call (.Name "sorted" p) [e] [] pos) (fB F5 fa) :=
 FK SU Te (by rfl) hg hm ha (by decide) (by decide) he hpl
end
noncomputable def Hm (d:Yt) (o:Obj) (kvs:List (List Key × V)):It :=
 ⟨λi H=>H d=some (.frz o (.dT kvs))/\i<kvs.length,
  λi H v H'=>∃ b k x,kvs[i]?=some (k,x)/\v=.ref b/\H b=some (.tup (k.map kV))/\H'=H,
  λi H=>H d=some (.frz o (.dT kvs))/\kvs.length<=i⟩
def NG {P:Ym} {w:Yo} {K:Yb} {tg:Expr} {it d:Yt} {o:Obj} {kvs:List (List Key × V)} {es:Array DictEntry} {en:Nat} (hd:o.data=.dict es en) :
  Turn P w K tg (Hm d o kvs) [it] it (λi h=>h.IsKeyIter it d i es.size en) where
 mem:=Aq.mpr rfl;obj:=λi h he c hc=>by
  cases Aq.mp hc;obtain ⟨q,h1,h2,h3⟩:=he;exact ⟨_,h1,λv m=>by rw[h3]at m;cases m⟩
 keep:=λi h h' he k=>by
  obtain ⟨q,h1,h2,h3⟩:=he;exact ⟨q,k it (Aq.mpr rfl) _ h1,h2,h3⟩
 item:=by
  intro X hP hw hK hc i zB s Y H E I hf he hg;subst hP hw hK;obtain ⟨hg,hi⟩:=hg;obtain ⟨h0,xs,r,h4,hl⟩:=Jb I hd hg;rcases hkx:kvs[i]with ⟨k,x⟩;have hk:kvs[i]?=some (k,x):=by rw[AS hi,hkx]
  obtain ⟨b,u,h5,h6,h7⟩:=NQ r hk;have hx:es[i]?=some (entryOfKey (tupleKind (Bb X.prog X.w)) (k,b,u)):=by
   rw[<-Bj,h4,Az,h5];rfl
  refine Wh he h0 hd hx λh' he' hs'=>⟨_,rfl,?_⟩;obtain ⟨q,h8,h9,h10⟩:=id he';refine JW h8 h9 h10 (by decide) ⟨.ref b,H,Hf (s:=s) (h':=h') (t':=s.toks) I hf λc q n z=>hs'.extBut c q (λy=>n (Aq.mpr y)) z,rfl,⟨b,k,x,hk,rfl,h6,rfl⟩,he',λc hm=>(hf c hm).1⟩
 done:=by
  intro X hP hw hK hc i zB s Y H E I hf he hg;subst hP hw hK;obtain ⟨hg,hi⟩:=hg;obtain ⟨h0,xs,r,h4,hl⟩:=Jb I hd hg;exact dO (I.ok.hd hc) he h0 hd (by omega) λh' x=>⟨rfl,Hf (s:=s) (h':=h') (t':=s.toks) I hf λc q n z=>x c q (λy=>n (Aq.mpr y)) z⟩
 self:=λA i s Q E he h=>wpAny_pyIter_keyiter he h
section
variable {X:Cx} {e:Expr} {tg:Expr} {f:FE}
def Vm {td:TE} (ho:PE X e td):PI X tg e (λY H R=>td Y H λx H1=>∃ d kvs,x=.ref d/\((H1 d=some (.dT kvs) /\ ∀ o,R (Hm d o kvs) (upd H1 d (.frz o (.dT kvs)))) \/ ∃ o,H1 d=some (.frz o (.dT kvs))/\R (Hm d o kvs) H1)):=by
 intro zB s Y H R I h;refine thn (ho zB s Y H _ I h) λv s1 ⟨x,H1,I1,r1,d,kvs,ex,q⟩=>?_;subst ex;cases r1;rcases q with ⟨ed,q⟩|⟨o,ed,q⟩
 .obtain ⟨t1,t2,t3⟩:=Ik I1 (.inr ⟨kvs,.inl ed⟩);obtain ⟨o,es',en,h1,h3,I0⟩:=NY I1 ed;refine Mp (o:=o) (es:=es') (ep:=en) t3 t1 h1 h3 ?_;refine ⟨_,[_],_,_,_,rfl,I0.kept (t':=s1.toks) λb q z=>AJ _ z,NG h3,⟨_,AV _ rfl,rfl,rfl⟩,λc hc=>?_,q o⟩;cases Aq.mp hc;exact I0.fpOk (AF _) (I0.hok.fresh (AF _))
 .obtain ⟨t1,t2,t3⟩:=Ik I1 (.inr ⟨kvs,.inr ⟨o,ed⟩⟩);obtain ⟨h1,_,_,xs,r,o',es',en,h1',h2,h3,h4,h5⟩:=(show z0 X.prog X.w H1 s1.heap d (.frz o (.dT kvs))from I1.hok d _ ed);rw[h1]at h1';cases h1';refine Mp (o:=o) (es:=es') (ep:=en) t3 t1 h1 h3 ?_;refine ⟨_,[_],_,_,_,rfl,I1.kept (t':=s1.toks) λb q z=>AJ _ z,NG h3,⟨_,AV _ rfl,rfl,rfl⟩,λc hc=>?_,q⟩;cases Aq.mp hc;exact I1.fpOk (AF _) (I1.hok.fresh (AF _))
noncomputable def HR (f:FE):FI:=λY M=>match f Y M with
 |some (.dat (.ref n),M1)=>match M1[n]? with
  |some (.dicT ps)=>some (ps.map (·.1),none,M1.set n (.froT ps))
  |some (.froT ps)=>some (ps.map (·.1),none,M1)
  |_=>none
 |_=>none
def SH (h:QE X e f):QI X tg e (HR f):=.mk <| PI.imp (Vm h.un) λτ H R zz=>by
 obtain ⟨L,Y,M,xs,gd,M',c,rs,hf,q⟩:=zz;have fin:∀ {L2:Yg} {H2:Hp} {ps:List (D × D)} {a:Yt} {o:Obj} {vs:List (List Key × V)},H2 a=some (.frz o (.dT vs))->Aa tkD L2 H2 ps vs -> ∀ (i:Nat) (d:D),(ps.map (·.1))[i]?=some d->(Hm a o vs).go i H2 /\ ∀ v H3,(Hm a o vs).yld i H2 v H3->(∀ a o,H2 a=some o->H3 a=some o)/\Rep L2 H3 d v:=by
  intro L2 H2 ps a o vs hz r4 i d hd;rw[Az]at hd;cases hp:ps[i]? with
  |none=>rw[hp]at hd;cases hd
  |some p=>
   rw[hp]at hd;cases hd;obtain ⟨k,x,hk,ek,rx⟩:=MF r4 hp;refine ⟨⟨hz,(AK.mp hk).1⟩,λv H3 hy=>?_⟩;obtain ⟨b,k',x',hk',rfl,hb,rfl⟩:=hy;rw[hk]at hk';cases hk';exact ⟨λa o e=>e,MJ ek hb⟩
 unfold HR at hf;split at hf
 .rename_i n M1 e1;split at hf
  .rename_i ps e2;cases hf;refine (mkE c rs e1 (λL1 H1 v s1 c1 r1=>?_));unfold zW Rep at r1;obtain ⟨a,rfl,ea⟩:=r1;obtain ⟨vs,e3,r3⟩:=c1.obj n a _ ea e2;refine ⟨a,vs,rfl,.inl ⟨e3,λo=>?_⟩⟩;obtain ⟨c2,s2⟩:=c1.put (m:=.froT ps) (o':=.frz o (.dT vs)) ea e3 (λ_ z=>by cases z) (λ_ _ z=>by cases z) λs2=>⟨o,_,zr,r3.stp s2⟩;refine q L1 _ _ (s1.trans s2) c2 λL2 H2 M2 s3 c3 _=>?_;have hz:H2 a=some (.frz o (.dT vs)):=s3.frz _ _ _ zr;have r4:=r3.stp (s2.trans s3);exact ⟨λi d hd=>fin hz r4 i d hd,hz,by rw[AG,r4.length];exact AF _⟩
  .rename_i ps e2;cases hf;refine (mkE c rs e1 (λL1 H1 v s1 c1 r1=>?_));unfold zW Rep at r1;obtain ⟨a,rfl,ea⟩:=r1;obtain ⟨o,vs,e3,r3⟩:=c1.obj n a _ ea e2;refine ⟨a,vs,rfl,.inr ⟨o,e3,?_⟩⟩;refine q L1 _ _ s1 c1 λL2 H2 M2 s3 c3 _=>?_;have hz:H2 a=some (.frz o (.dT vs)):=s3.frz _ _ _ e3;have r4:=r3.stp s3;exact ⟨λi d hd=>fin hz r4 i d hd,hz,by rw[AG,r4.length];exact AF _⟩
  .cases hf
 .cases hf
end
end L3
namespace Law
open L2 L3
noncomputable def K4:FS:=(zS (AM 1 (fOp BE (fB Aw (zP (zC 0) zd)) (fC (.int 3))))
  (zS (Bl (AQ (fSl (zC 0) De (C6 (fC (.int 63))))) (gN 2) (AM 1 (fOp Ct (fOp BE (fOp BE (fOp G5 (zC 1) (fC (.int 6364136223846793))) (fOp Ct (zC 2) (fOp Hl (fC (.int 10)) (fC (.int 30))))) (fC (.int 1442695040888963))) (fC (.int 2305843009213693951)))))
  (AL (Ar (zD (toD (zo [2] (AQ (fSl (zC 0) De (C6 (fC (.int 63))))) (gN 2) (tst (fOp kGe (fB G7 (zP (zC 2) zd)) (fOp Hl (fC (.int 10)) (fC (.int 18))))) (fB G7 (zP (zC 2) zd)))) (zD (toD (zC 1)) zI))))))
noncomputable def Gq:FF:=Ak 3 K4
noncomputable def Li:FS:=(zS (Ce (CJ (tst (fOp kNe (fOp kIx (zC 0) (fC (.int 0))) (Ar zI))) (tst (fOp kEq (fOp kIx (fOp kIx (zC 0) (fC (.int 0))) (fC (.int 0))) (fC (.int 0))))) (B6 (fM E9 (fOp kIx (zC 0) (fC (.int 0))) (zD (toD (fC (.int 0))) zI))) 100)
  (zS (sIf (tst (fOp kNe (fOp kIx (zC 0) (fC (.int 0))) (Ar zI))) (zS (AM 2 (fOp Ct (fOp kIx (fOp kIx (zC 0) (fC (.int 0))) (fC (.int 0))) (zC 1)))
  (zS (GB (fOp G2 (fOp kIx (fOp kIx (zC 0) (fC (.int 0))) (fC (.int 0))) (zC 1)) (fOp kIx (zC 0) (fC (.int 0))) (fC (.int 0)))
  (AL (zC 2)))) Ap)
  (zS (GB (fOp Ct (fOp BE (fOp G5 (fOp kIx (zC 0) (fC (.int 1))) (fC (.int 6364136223846793))) (fC (.int 1442695040888963))) (fC (.int 2305843009213693951))) (zC 0) (fC (.int 1)))
  (AL (fOp Ct (fOp G2 (fOp Ct (fOp G5 (fOp kIx (zC 0) (fC (.int 1))) (fOp kIx (zC 0) (fC (.int 1)))) (fC (.int 2305843009213693921))) (fC (.int 65537))) (zC 1))))))
noncomputable def ze:FF:=Ak 3 Li
structure Gen (M:Mem) (n k:Nat):Prop where
 ex:∃ (c:Ye) (s:Int),M[n]?=some (.lst [.ref k,.int s])/\M[k]?=some (.lst (c.map D.int))/\(∀ x∈c,0<=x)/\c.length<=63/\0<=s/\s<2305843009213693951
 ne:n≠k
 wf:∀ (j:Nat) u,M[j]?=some u->MO.und M.length u=true
structure Nx (M M':Mem) (n k:Nat):Prop where
 gen:Gen M' n k
 len:M'.length=M.length
 fr:∀ j,j≠n->j≠k->M'[j]?=M[j]?
def Nx.refl (h:Gen M n k):Nx M M n k:=⟨h,rfl,λ_ _ _=>rfl⟩
def Nx.trans {M M1 M2:Mem} {n k:Nat} (a:Nx M M1 n k) (b:Nx M1 M2 n k):Nx M M2 n k:=⟨b.gen,b.len.trans a.len,λj h1 h2=>(b.fr j h1 h2).trans (a.fr j h1 h2)⟩
theorem Cc (n:Nat):∀ c:List Int,D.unds n (c.map D.int)=true
 |[]=>rfl
 |x::r=>by
  show (D.und n (D.int x)&&D.unds n (r.map D.int))=true;rw[Cc n r];rfl
def Gen.lt (h:Gen M n k):n<M.length/\k<M.length:=by
 obtain ⟨c,s,e1,e2,_⟩:=h.ex;exact ⟨(AK.mp e1).1,(AK.mp e2).1⟩
def Gen.put {M:Mem} (h:Gen M n k) {c:Ye} (hc:∀ x∈c,0<=x) (hl:c.length<=63) (h0:0<=s) (h1:s<2305843009213693951) :
  Nx M ((M.set k (.lst (c.map D.int))).set n (.lst [.ref k,.int s])) n k:=by
 obtain ⟨hn,hk⟩:=h.lt;refine ⟨⟨⟨c,s,?_,?_,hc,hl,h0,h1⟩,h.ne,λj u e=>?_⟩,by simp,λj h1 h2=>?_⟩
 .rw[C2 (by simpa using hn)]
 .rw[A8 h.ne,C2 hk]
 .rw[List.length_set,List.length_set];rw[D5]at e;split at e
  .split at e
   .cases e;show D.unds _ _=true;unfold D.unds D.unds D.unds D.und;simp[hk]
   .cases e
  .rw[D5]at e;split at e
   .rename_i z;subst z;cases e;exact Cc _ _
   .exact h.wf j u e
 .rw[A8 (Ne.symm h1),A8 (Ne.symm h2)]
def MM {M:Mem} (h:M[k]?=some u):M.set k u=M:=by
 apply List.ext_getElem?;intro i;rw[D5];split
 .rename_i e;subst e;rw[AB (AK.mp h).1];exact h.symm
 .rfl
theorem JQ:∀ {a b:Ye},a.map D.int=b.map D.int->a=b
 |[],[],_=>rfl
 |[],_::_,h=>by cases h
 |_::_,[],h=>by cases h
 |x::a,y::b,h=>by
  rw[AX,AX]at h;have h1:=(Cf h).1;have h2:=JQ (Cf h).2;cases h1;rw[h2]
def at0 {x:D} {xs:List D}:atI (x::xs) 0=some x:=LN (k:=0) rfl
def at1 {x y:D} {xs:List D}:atI (x::y::xs) 1=some y:=LN (k:=1) rfl
def WZ (h:Gen M n k) (h0:0<m) (h1:m<1073741824) :
  Ok (ze [.ref n,.int m] M) λd M'=>(∃ i,d=.int i/\0<=i/\i<m)/\Nx M M' n k:=by
 unfold ze;rw[zw];unfold Li;show OkS (zS _ _ [some (.ref n),some (.int m),none] M) _;rw[zN];have st:∀ {M:Mem} {c:Ye} {s:Int} {Y:Sd} {P:EV->Mem->Prop},Y[0]?=some (some (.ref n))->M[n]?=some (.lst [.ref k,.int s])->P (.dat (.ref k)) M->Ok (fOp kIx (zC 0) (fC (.int 0)) Y M) P:=λhσ hM p=>
  Au.mpr (A4.mpr ⟨_,hσ,BO.mpr (Hy (CT hM) at0 p)⟩)
 have sd:∀ {M:Mem} {s:Int} {Y:Sd} {P:EV->Mem->Prop},Y[0]?=some (some (.ref n))->M[n]?=some (.lst [.ref k,.int s])->P (.dat (.int s)) M->Ok (fOp kIx (zC 0) (fC (.int 1)) Y M) P:=λhσ hM p=>
  Au.mpr (A4.mpr ⟨_,hσ,BO.mpr (Hy (CT hM) at1 p)⟩)
 have hd:∀ {M:Mem} {c:Ye} {x s:Int} {Y:Sd} {P:EV->Mem->Prop},Y[0]?=some (some (.ref n))->M[n]?=some (.lst [.ref k,.int s])->M[k]?=some (.lst ((x::c).map D.int))->P (.dat (.int x)) M->Ok (fOp kIx (fOp kIx (zC 0) (fC (.int 0))) (fC (.int 0)) Y M) P:=λ{M c x s Y P} hσ hM hK p=>
  Au.mpr (st (c:=c) hσ hM (BO.mpr (Hy (CT hK) at0 p)))
 have ne:∀ {M:Mem} {c:Ye} {s:Int} {Y:Sd} {P:Bool->Mem->Prop},Y[0]?=some (some (.ref n))->M[n]?=some (.lst [.ref k,.int s])->M[k]?=some (.lst (c.map D.int))->P (!c.isEmpty) M->Ok (tst (fOp kNe (fOp kIx (zC 0) (fC (.int 0))) (Ar zI)) Y M) P:=λ{M c s Y P} hσ hM hK p=>by
  refine MY.mpr (Au.mpr (st (c:=c) hσ hM (KY.mpr (E8.mpr ⟨BQ _,?_⟩))));rw[gP (D0 hK) (by intro d e;cases e;rfl)];rw[Ft];simpa using p
 have W:∀ (fuel m':Nat) (Y:Sd) (M':Mem),m'<fuel->((Y=[some (.ref n),some (.int m),none]/\Nx M M' n k) /\ ∃ (c:Ye) (s:Int),M'[n]?=some (.lst [.ref k,.int s])/\M'[k]?=some (.lst (c.map D.int))/\c.length=m') ->
   OkS (Ce (CJ (tst (fOp kNe (fOp kIx (zC 0) (fC (.int 0))) (Ar zI))) (tst (fOp kEq (fOp kIx (fOp kIx (zC 0) (fC (.int 0))) (fC (.int 0))) (fC (.int 0))))) (B6 (fM E9 (fOp kIx (zC 0) (fC (.int 0))) (zD (toD (fC (.int 0))) zI))) fuel Y M')
    (λo σ1 M1=>o=.nx/\σ1=[some (.ref n),some (.int m),none]/\Nx M M1 n k):=by
  intro fuel m' Y M' hlt hI;refine IT (I:=λm' Y M'=>(Y=[some (.ref n),some (.int m),none]/\Nx M M' n k) /\ ∃ (c:Ye) (s:Int),M'[n]?=some (.lst [.ref k,.int s])/\M'[k]?=some (.lst (c.map D.int))/\c.length=m') ?_ fuel m' Y M' hlt hI;intro m' Y M' hI;refine Classical.byContradiction λG=>?_;obtain ⟨⟨eI1,nx⟩,c,s,e1,e2,hl⟩:=hI;refine G ?_;clear G;subst eI1;refine cT.mpr (ne rfl e1 e2 ?_);cases c with
  |nil=>simp;exact nx
  |cons x c=>
   simp only[List.isEmpty_cons,Bool.not_false,if_true];refine MY.mpr (Au.mpr (hd rfl e1 e2 (BO.mpr (Gx.mpr (Ft.mpr ?_)))));by_cases hx:x=0
   .rw[AB (by simpa using hx)];refine Hg.mpr (Hu.mpr (st (c:=c) rfl e1 ⟨⟨_,D0 e2⟩,DN.mpr (Bn.mpr (BO.mpr (zL.mpr (E8.mpr ?_))))⟩));rw[AX]at e2;rw[YQ e2];refine ⟨c.length,by rw[<-hl];simp,?_⟩;obtain ⟨c',s',z1,z2,z3,z4,z5,z6⟩:=nx.gen.ex;rw[e1]at z1;cases z1;rw[e2]at z2;have hcc:c'=x::c:=by
     have:(x::c).map D.int=c'.map D.int:=by have:=z2;simp only[Option.some.injEq,MO.lst.injEq]at this;simpa using this
     exact (JQ this).symm
    subst hcc;have P:=nx.gen.put (c:=c) (s:=s) (λy hy=>z3 y (Am _ hy)) (by simp at z4;omega) z5 z6;have q:((M'.set k (.lst (c.map D.int))).set n (.lst [.ref k,.int s]))=M'.set k (.lst (c.map D.int)):=MM (by rw[A8 (Ne.symm nx.gen.ne)];exact e1);rw[q]at P;have hk:=nx.gen.lt.2;refine ⟨⟨rfl,nx.trans P⟩,c,s,?_,?_,rfl⟩
    .rw[A8 (Ne.symm nx.gen.ne)];exact e1
    .rw[C2 hk]
   .rw[AE (by simpa using hx)];first|exact ⟨rfl,rfl,nx⟩|exact ⟨trivial,trivial,nx⟩|simpa using nx
 obtain ⟨c,s,e1,e2,e3,e4,_⟩:=h.ex;refine OkS.mono (W 100 c.length _ M (by omega) ⟨⟨rfl,.refl h⟩,c,s,e1,e2,rfl⟩) ?_;intro o Y M1 hI;refine Classical.byContradiction λG=>?_;obtain ⟨eI1,eI2,nx⟩:=hI;refine G ?_;clear G;subst eI1 eI2;rw[zU,zN,Ca];obtain ⟨c,s,e1,e2,e3,e4,e5,e6⟩:=nx.gen.ex;refine ne rfl e1 e2 ?_;cases c with
 |nil=>
  simp only[List.isEmpty_nil,Bool.not_true,CV,if_false];rw[C4,zU,zN,KO];refine Au.mpr (Au.mpr (Au.mpr (sd rfl e1 (BO.mpr (LM.mpr ⟨by simp[Gw] <;> omega,BO.mpr (Gh.mpr (BO.mpr (FL.mpr ⟨by decide,?_⟩)))⟩)))));rw[zL];refine A4.mpr ⟨_,rfl,BO.mpr ?_⟩;rw[zL];have hs0:0<=(s*6364136223846793+1442695040888963) % 2305843009213693951:=Int.emod_nonneg _ (by decide);have hs1:(s*6364136223846793+1442695040888963) % 2305843009213693951<2305843009213693951:=Int.emod_lt_of_pos _ (by decide);generalize (s*6364136223846793+1442695040888963) % 2305843009213693951=s' at hs0 hs1;have P:=nx.gen.put (c:=[]) (s:=s') (λ_ h=>by cases h) (by simp) hs0 hs1;rw[MM (show M1[k]?=some (.lst (([]:List Int).map D.int))from e2)]at P;refine ⟨_,L6 (k:=1) e1 (by simp),?_⟩;rw[zU,CC];have e1':(M1.set n (.lst [.ref k,.int s']))[n]?=some (.lst [.ref k,.int s']):=C2 nx.gen.lt.1;refine Au.mpr (Au.mpr (Au.mpr (Au.mpr (sd rfl e1' (sd rfl e1' (LM.mpr ⟨by simp[Gw] <;> omega,BO.mpr (FL.mpr ⟨by decide,BO.mpr (KG.mpr ⟨by decide,A4.mpr ⟨_,rfl,FL.mpr ⟨h0,?_⟩⟩⟩)⟩)⟩))))));rw[zL];exact ⟨⟨_,rfl,Int.emod_nonneg _ (by omega),Int.emod_lt_of_pos _ h0⟩,nx.trans P⟩
 |cons x c=>
  simp only[List.isEmpty_cons,Bool.not_false,if_true];rw[zN,zh];refine Au.mpr (hd rfl e1 e2 (A4.mpr ⟨_,rfl,FL.mpr ⟨h0,?_⟩⟩));rw[zL,zU,zN,KO];refine Au.mpr (hd rfl e1 e2 (A4.mpr ⟨_,rfl,KG.mpr ⟨⟨h0,h1⟩,?_⟩⟩));rw[zL];refine st (c:=c) rfl e1 (BO.mpr ?_);rw[zL];refine ⟨_,L6 (k:=0) e2 (by simp),?_⟩;rw[zU,CC];refine A4.mpr ⟨_,rfl,?_⟩;rw[zL,Fl];have hx:=e3 x Ad;have P:=nx.gen.put (c:=(x / m)::c) (s:=s) (λy hy=>by
   rcases AI.mp hy with z|z
   .subst z;exact Int.ediv_nonneg hx (by omega)
   .exact e3 y (Am _ z)) (by simpa using e4) e5 e6
  rw[MM (k:=n) (by rw[A8 (Ne.symm nx.gen.ne)];exact e1)]at P;exact ⟨⟨_,rfl,Int.emod_nonneg _ (by omega),Int.emod_lt_of_pos _ h0⟩,nx.trans P⟩
def Z9 (ns:Ye) (lo hi:Ys):∃ c:List Int,L3.B9 (ns.map D.int) lo hi=c.map D.int/\c.length<=ns.length:=by
 refine ⟨(ns.drop (HT.sIx ns.length 0 lo)).take (HT.sIx ns.length ns.length hi-HT.sIx ns.length 0 lo),?_,?_⟩
 .unfold L3.B9;rw[AG,List.map_take,List.map_drop]
 .rw[CG,Dj];omega
def PJ (h:x::r=c.map D.int):∃ y c',c=y::c'/\x=.int y/\r=c'.map D.int:=by
 cases c with
 |nil=>cases h
 |cons y c'=>rw[AX]at h;exact ⟨y,c',rfl,(Cf h).1,(Cf h).2⟩
def DK:BD none xs M:=trivial
def Bf (h:n<=100000):n<=sizeLine:=AZ h (by decide)
def Xn {ns:Ye} (h:ns.length<=63):Ok (Gq [.ref 0] [.fro (ns.map D.int)]) λd M'=>d=.ref 2/\Gen M' 2 1/\M'[0]?=some (.fro (ns.map D.int))/\M'.length=3:=by
 unfold Gq;rw[zw];unfold K4;show OkS (zS _ _ [some (.ref 0),none,none] _) _;have e0:([.fro (ns.map D.int)]:Mem)[0]?=some (.fro (ns.map D.int)):=rfl;obtain ⟨cut,ec,lc⟩:=Z9 ns none (some 63);have sl:∀ {Y:Sd} {P:EV->Mem->Prop},Y[0]?=some (some (.ref 0))->P (.fl (cut.map D.int)) [.fro (ns.map D.int)]->Ok (fSl (zC 0) De (C6 (fC (.int 63))) Y [.fro (ns.map D.int)]) P:=λhσ p=>by
  refine Nv.mpr (A4.mpr ⟨_,hσ,NP.mpr (N2.mpr (BO.mpr (QC.mpr ?_)))⟩);rw[Pm (QF e0) rfl,ec];exact p
 rw[zN,zh];refine Au.mpr (IE.mpr (Hs.mpr (A4.mpr ⟨_,rfl,HU.mpr ((PN (ZN e0)).mpr (BO.mpr (Gh.mpr ?_)))⟩)));rw[zL,zU,zN,Ed];obtain ⟨x,M1,ex,px⟩:=sl (Y:=[some (.ref 0),some (.int (((ns.map D.int).length:Int)+3)),none]) (P:=λx M=>x=.fl (cut.map D.int)/\M=[.fro (ns.map D.int)]) rfl ⟨rfl,rfl⟩;obtain ⟨rfl,rfl⟩:=px;refine ⟨_,_,_,IL ex FU,?_⟩;refine E1 (I:=λr Y M=>M=[.fro (ns.map D.int)]/\(∃ c:List Int,r=c.map D.int) /\ ∃ s y,Y=[some (.ref 0),some (.int s),y]/\0<=s/\s<2305843009213693951) ?_ ?_ _ _ _ ⟨rfl,⟨cut,rfl⟩,_,none,rfl,by simp;omega,by simp;omega⟩
 .intro x r Y M hI;refine Classical.byContradiction λG=>?_;obtain ⟨eI1,⟨c,hc⟩,s,y,eI2,h0,h1⟩:=hI;refine G ?_;clear G;subst eI1 eI2;obtain ⟨z,c',rfl,rfl,rfl⟩:=PJ hc;refine ⟨DK,_,rfl,?_⟩;rw[zh];refine Au.mpr (Au.mpr (Au.mpr (Au.mpr (A4.mpr ⟨_,rfl,BO.mpr (LM.mpr ⟨by simp[Gw],?_⟩)⟩))));refine Au.mpr (A4.mpr ⟨_,rfl,Au.mpr (BO.mpr (BO.mpr (Mt.mpr ⟨by decide,FL.mpr ⟨by decide,Gh.mpr (BO.mpr (Gh.mpr (BO.mpr (FL.mpr ⟨by decide,?_⟩))))⟩⟩)))⟩);rw[zL];exact ⟨rfl,⟨c',rfl⟩,_,_,rfl,Int.emod_nonneg _ (by decide),Int.emod_lt_of_pos _ (by decide)⟩
 .intro Y M hI;refine Classical.byContradiction λG=>?_;obtain ⟨eI1,_,s,y,eI2,h0,h1⟩:=hI;refine G ?_;clear G;subst eI1 eI2;refine ⟨DK,?_⟩;rw[zU,CC,KY,DN,Bn,HK];obtain ⟨x,M1,ex,px⟩:=sl (Y:=[some (.ref 0),some (.int s),y]) (P:=λx M=>x=.fl (cut.map D.int)/\M=[.fro (ns.map D.int)]) rfl ⟨rfl,rfl⟩;obtain ⟨rfl,rfl⟩:=px;refine ⟨_,_,_,IL ex FU,by rw[AG];exact Bf (by omega),?_⟩;refine Ok.mono (IH (I:=λr acc M=>M=[.fro (ns.map D.int)]/\(∃ c:List Int,r=c.map D.int)/\r.length+acc.length<=63 /\ ∃ b:List Int,acc=b.map D.int /\ ∀ x∈b,0<=x) (Q:=λacc M=>M=[.fro (ns.map D.int)]/\acc.length<=63 /\ ∃ b:List Int,acc=b.map D.int /\ ∀ x∈b,0<=x) ?_ ?_ _ [] _ ⟨rfl,⟨cut,rfl⟩,by simp;omega,[],rfl,λ_ h=>by cases h⟩) ?_
  .intro x r acc M hI;refine Classical.byContradiction λG=>?_;obtain ⟨eI1,⟨c,hc⟩,hl,b,eI2,hb⟩:=hI;refine G ?_;clear G;subst eI1 eI2;obtain ⟨z,c',rfl,rfl,rfl⟩:=PJ hc;refine ⟨DK,_,rfl,?_⟩;refine MY.mpr (Au.mpr (IE.mpr (Hs.mpr (A4.mpr ⟨_,rfl,HU.mpr (NJ.mpr (Au.mpr (BO.mpr (BO.mpr (Mt.mpr ⟨by decide,eP.mpr (Ft.mpr ?_)⟩)))))⟩))));by_cases hz:(10:Int) ^ (18:Int).toNat<=(if z<0 then -z else z)
   .rw[AB (by simpa using hz)];refine IE.mpr (Hs.mpr (A4.mpr ⟨_,rfl,HU.mpr (NJ.mpr (zL.mpr ⟨rfl,⟨c',rfl⟩,?_,b++[if z<0 then -z else z],by simp,?_⟩))⟩))
    .simp at hl ⊢;omega
    .intro y hy;rcases Ai.mp hy with q|q
     .exact hb y q
     .have:y=if z<0 then -z else z:=by simpa using q
      rw[this];split <;> omega
   .rw[AE (by simpa using hz)];exact ⟨rfl,⟨c',rfl⟩,by simp at hl ⊢;omega,b,rfl,hb⟩
  .intro acc M hI;refine Classical.byContradiction λG=>?_;obtain ⟨eI1,_,hl,hb⟩:=hI;refine G ?_;clear G;subst eI1;exact ⟨DK,rfl,by simpa using hl,hb⟩
  .intro ys M hI;refine Classical.byContradiction λG=>?_;obtain ⟨eI1,hl,b,hb,hp⟩:=hI;refine G ?_;clear G;subst eI1;rw[List.nil_append]at hb hl;subst hb;rw[Ji,DN,Bn,A4];refine ⟨_,rfl,?_⟩;rw[zL,E8];refine ⟨Bf (by simp),?_⟩;rw[Ji];refine ⟨rfl,⟨⟨b,s,rfl,rfl,hp,by simpa using hl,h0,h1⟩,by decide,?_⟩,rfl,rfl⟩;intro j u e;match j,e with
   |0,e=>cases e;exact Cc _ _
   |1,e=>cases e;exact Cc _ _
   |2,e=>cases e;rfl
   |j+3,e=>simp at e
mutual
theorem Jr (h:a<=b):∀ {d:D},D.und a d=true->D.und b d=true
 |.non,_=>by unfold D.und;rfl
 |.bl _,_=>by unfold D.und;rfl
 |.int _,_=>by unfold D.und;rfl
 |.str _,_=>by unfold D.und;rfl
 |.tup ds,e=>by unfold D.und at e ⊢;exact G6 h e
 |.ref k,e=>by unfold D.und at e ⊢;simp at e ⊢;omega
theorem G6 (h:a<=b):∀ {ds:List D},D.unds a ds=true->D.unds b ds=true
 |[],_=>by unfold D.unds;rfl
 |d::ds,e=>by
  unfold D.unds at e ⊢;rw[A6]at e ⊢;exact ⟨Jr h e.1,G6 h e.2⟩
end
def Pf (h:a<=b) (e:MO.und a u=true):MO.und b u=true:=by
 cases u with
 |lst xs=>exact G6 h e
 |fro xs=>exact G6 h e
 |set xs=>exact G6 h e
 |dict kvs|dicT kvs|froT kvs|froK kvs=>
  unfold MO.und at e ⊢;rw[A0]at e ⊢;intro p hp;have:=e p hp;rw[A6]at this ⊢;exact ⟨Jr h this.1,Jr h this.2⟩
theorem MW:∀ {xs ys:List D},D.unds n (xs++ys)=(D.unds n xs&&D.unds n ys)
 |[],ys=>by simp[D.unds]
 |x::xs,ys=>by
  show (D.und n x&&D.unds n (xs++ys))=((D.und n x&&D.unds n xs)&&D.unds n ys);rw[MW,Bool.and_assoc]
theorem LQ:∀ {xs:List D},(∀ x∈xs,D.und n x=true)->D.unds n xs=true
 |[],_=>rfl
 |x::xs,h=>by
  show (D.und n x&&D.unds n xs)=true;rw[h x Ad,LQ λy hy=>h y (Am _ hy)];rfl
def E5 (c:Ye):D.und n (.tup (c.map D.int))=true:=by unfold D.und;exact Cc n c
def Gen.app (h:Gen A n k) (hu:∀ u∈us,MO.und (A.length+us.length) u=true):Gen (A++us) n k:=by
 obtain ⟨c,s,e1,e2,r⟩:=h.ex;obtain ⟨hn,hk⟩:=h.lt;refine ⟨⟨c,s,by rw[AW hn];exact e1,by rw[AW hk];exact e2,r⟩,h.ne,λj u e=>?_⟩;rw[An];by_cases hj:j<A.length
 .rw[AW hj]at e;exact Pf (by omega) (h.wf j u e)
 .rw[DV (by omega)]at e;exact hu u (FJ e)
def DQ (h:Gen M n k) (ha:fa Y M=some (.dat (.ref n),M)) (hb:fb Y M=some (.dat (.int m),M)) (h0:0<m) (h1:m<1073741824)
  (q:∀ i M',0<=i->i<m->Nx M M' n k->P (.dat (.int i)) M'):Ok (zM ze (zD (toD fa) (zD (toD fb) zI)) Y M) P:=by
 rw[F7,DN,Bn];refine ⟨_,_,ha,?_⟩;rw[zL,DN,Bn];refine ⟨_,_,hb,?_⟩;rw[zL,E8];refine Ok.mono (WZ h h0 h1) ?_;intro d M' hI;refine Classical.byContradiction λG=>?_;obtain ⟨⟨i,eI1,i0,i1⟩,nx⟩:=hI;refine G ?_;clear G;subst eI1;exact q i M' i0 i1 nx
noncomputable def Dr (i:Nat):Nat->List D
 |0=>[]
 |n+1=> .int i::Dr (i+1) n
def cF (n:Nat):∀ i,((List.range' i n).map λ(k:Nat)=>D.int k)=Dr i n:=by
 induction n with
 |zero=>intro i;rfl
 |succ n ih=>intro i;rw[List.range'_succ,AX,ih];rfl
def Je (n:Nat):((List.range n).map λ(k:Nat)=>D.int k)=Dr 0 n:=by rw[List.range_eq_range',cF]
theorem Ls:∀ (n i:Nat),(Dr i n).length=n
 |0,_=>rfl
 |n+1,i=>by show (Dr (i+1) n).length+1=_;rw[Ls n]
def Ij (n:Nat) (I:Nat->Sd->Mem->Prop)
  (hs:∀ i Y M,i<n->I i Y M -> ∃ σ1,g (.int i) Y=some σ1/\OkS (b σ1 M) λo σ2 M2=>match o with|.nx=>I (i+1) σ2 M2|.cnt=>I (i+1) σ2 M2|.brk=>P .nx σ2 M2|.ret d=>P (.ret d) σ2 M2)
  (he:∀ Y M,I n Y M->P .nx Y M) (Y:Sd) (M:Mem) (h0:I 0 Y M):OkS (C0 g b all none (Dr 0 n) Y M) P:=by
 refine E1 (I:=λr Y M=>∃ i,i<=n/\r=Dr i (n-i)/\I i Y M) ?_ ?_ _ _ _ ⟨0,BQ _,by simp,h0⟩
 .intro x r Y M hI;refine Classical.byContradiction λG=>?_;obtain ⟨i,hi,e,hI⟩:=hI;refine G ?_;clear G;have hlt:i<n:=by
   rcases Nat.lt_or_ge i n with z|z
   .exact z
   .rw[show n-i=0 by omega]at e;cases e
  rw[show n-i=(n-(i+1))+1 by omega]at e;obtain ⟨rfl,rfl⟩:=Cf e;obtain ⟨σ1,e1,q⟩:=hs i Y M hlt hI;refine ⟨DK,σ1,e1,OkS.mono q ?_⟩;intro o σ2 M2 z;cases o with
  |nx=>exact ⟨i+1,hlt,rfl,z⟩
  |cnt=>exact ⟨i+1,hlt,rfl,z⟩
  |brk=>exact z
  |ret d=>exact z
 .intro Y M hI;refine Classical.byContradiction λG=>?_;obtain ⟨i,hi,e,hI⟩:=hI;refine G ?_;clear G;have:i=n:=by
   rcases Nat.lt_or_ge i n with z|z
   .rw[show n-i=(n-(i+1))+1 by omega]at e;cases e
   .omega
  subst this;exact ⟨DK,he Y M hI⟩
def Pg (n:Nat) (I:Nat->List D->Mem->Prop)
  (hs:∀ i acc M,i<n->I i acc M -> ∃ σ1,g (.int i) Y=some σ1/\Ok (te σ1 M) (DU λd M2=>I (i+1) (acc++[d]) M2)) (h0:I 0 [] M) :
  Ok (A7 g zZ te Y all none (Dr 0 n) M) λys M1=>I n ys M1:=by
 refine Ok.mono (IH (I:=λr acc M=>∃ i,i<=n/\r=Dr i (n-i)/\I i acc M) (Q:=λacc M=>I n acc M) ?_ ?_ _ [] _ ⟨0,BQ _,by simp,h0⟩) λys M1 q=>by simpa using q
 .intro x r acc M hI;refine Classical.byContradiction λG=>?_;obtain ⟨i,hi,e,hI⟩:=hI;refine G ?_;clear G;have hlt:i<n:=by
   rcases Nat.lt_or_ge i n with z|z
   .exact z
   .rw[show n-i=0 by omega]at e;cases e
  rw[show n-i=(n-(i+1))+1 by omega]at e;obtain ⟨rfl,rfl⟩:=Cf e;obtain ⟨σ1,e1,q⟩:=hs i acc M hlt hI;refine ⟨DK,σ1,e1,RO.mpr ?_⟩;rw[AB rfl];refine Ok.mono q ?_;intro x M2 z;cases x with
  |dat d=>exact ⟨i+1,hlt,rfl,z⟩
  |fl xs=>exact ⟨i+1,hlt,rfl,z⟩
 .intro acc M hI;refine Classical.byContradiction λG=>?_;obtain ⟨i,hi,e,hI⟩:=hI;refine G ?_;clear G;have:i=n:=by
   rcases Nat.lt_or_ge i n with z|z
   .rw[show n-i=(n-(i+1))+1 by omega]at e;cases e
   .omega
  subst this;exact ⟨DK,hI⟩
def El (e:f Y M=some (.dat (.int j),M)) (h1:0<=j) (h2:j<2 ^ 62):A1 (zD (toD f) zI) Y M=some (Dr 0 j.toNat,none,M):=by
 have e':(zD (toD f) zI) Y M=some ([.int j],M):=by unfold zD toD zI;rw[e]
 rw[VX e' h1 h2,Je]
noncomputable def mD (zA:Ya):D:=.tup (zA.map λr=> .tup (r.map D.int))
structure IsM (zA:Ya) (l:Nat):Prop where
 r0:0<zA.length
 l0:0<l
 row:∀ r∈zA,r.length=l /\ ∀ g∈r,0<=g/\g<zA.length
def Hj (zA:Ya):D.und n (mD zA)=true:=by
 unfold mD D.und;refine LQ λx hx=>?_;obtain ⟨r,_,rfl⟩:=Ag.mp hx;exact E5 r
def zV {α:Type} {x:Option (α × Mem)} {a:α} {M:Mem} (h:Ok x λb M'=>b=a/\M'=M):x=some (a,M):=by
 obtain ⟨b,M',e,rfl,rfl⟩:=h;exact e
def zF {α:Type} {x:Option (α × Mem)} {a:α} {M:Mem} {P:α->Mem->Prop} (h:x=some (a,M)) (p:P a M):Ok x P:=⟨a,M,h,p⟩
def Ea {c:FT} {a g:FS} {Y:Sd} {M:Mem} {P:Out->Sd->Mem->Prop} (hc:c Y M=some (false,M)) (h:OkS (g Y M) P):OkS (zS (sIf c a Ap) g Y M) P:=by
 rw[zN,Ca];refine zF hc ?_;rw[AE (by decide),C4];exact h
def QB {c:FT} {a:FS} {Y:Sd} {M:Mem} {P:Out->Sd->Mem->Prop} (hc:c Y M=some (false,M)) (h:P .nx Y M):OkS (sIf c a Ap Y M) P:=by
 rw[Ca];refine zF hc ?_;rw[AE (by decide),C4];exact h
def DX {f:FE} {Y:Sd} {M M':Mem} {k:Bool} (h:f Y M=some (.dat (.bl k),M')):Dx (tst f) Y M=some (!k,M'):=by
 unfold Dx tst;rw[h]
def zg {f:FE} {Y:Sd} {M:Mem} {d:D} (h:f Y M=some (.dat d,M)):zD (toD f) zI Y M=some ([d],M):=by
 unfold zD toD zI;rw[h]
def zt {f:FE} {g:FA} {Y:Sd} {M:Mem} {d:D} {ds:List D} (h:f Y M=some (.dat d,M)) (hg:g Y M=some (ds,M)):zD (toD f) g Y M=some (d::ds,M):=by
 unfold zD toD;rw[h];dsimp only;rw[hg]
def zf {m:FF} {a:FA} {Y:Sd} {M M':Mem} {ds:List D} {d:D} (h:a Y M=some (ds,M)) (hm:m ds M=some (d,M')):zM m a Y M=some (.dat d,M'):=by
 unfold zM;rw[h];dsimp only;rw[hm]
def zK {k:K2} {f g:FE} {Y:Sd} {M:Mem} {x y:EV} {r:Option (EV × Mem)} (hf:f Y M=some (x,M)) (hg:g Y M=some (y,M)) (hk:k x y M=r):fOp k f g Y M=r:=by
 unfold fOp;rw[hf];dsimp only;rw[hg];exact hk
def Cr {x:EV} {xs:List D} {i:Int} {d:D} {M:Mem} (h:Av M x=some xs) (hd:atI xs i=some d):kIx x (.dat (.int i)) M=some (.dat d,M):=zV (Hy h hd ⟨rfl,rfl⟩)
def Ez {f:FE} {x:EV} {xs:List D} {Y:Sd} {M:Mem} (hf:f Y M=some (x,M)) (h:Av M x=some xs):fB Aw (zP f zd) Y M=some (.dat (.int xs.length),M):=by
 unfold fB zP zd;rw[hf];exact zV ((PN h).mpr ⟨rfl,rfl⟩)
noncomputable def zb (zA:Ya) (h g:Int):Int:=(zA.getD h.toNat []).getD g.toNat 0
def Ol {zA:Ya} {h:Int} (h0:0<=h) (h1:h<zA.length):atI (zA.map λr=>D.tup (r.map D.int)) h=some (.tup ((zA.getD h.toNat []).map D.int)):=by
 refine Mu h0 ?_;rw[Az,BW,AS (by omega)];rfl
def MR {r:Ye} {g:Int} (h0:0<=g) (h1:g<r.length):atI (r.map D.int) g=some (.int (r.getD g.toNat 0)):=by
 refine Mu h0 ?_;rw[Az,BW,AS (by omega)];rfl
def IsM.get {zA:Ya} {l:Nat} (m:IsM zA l) {h:Int} (h0:0<=h) (h1:h<zA.length):(zA.getD h.toNat []).length=l /\ ∀ g∈zA.getD h.toNat [],0<=g/\g<zA.length:=by
 refine m.row _ ?_;rw[BW,AS (by omega)];exact Bg _
def IsM.step {zA:Ya} {l:Nat} (m:IsM zA l) {h g:Int} (h0:0<=h) (h1:h<zA.length) (g0:0<=g) (g1:g<l):0<=zb zA h g/\zb zA h g<zA.length:=by
 obtain ⟨q1,q2⟩:=m.get h0 h1;refine q2 _ ?_;unfold zb;rw[BW (l:=zA.getD h.toNat []),AS (by omega)];exact Bg _
def IsM.ix {zA:Ya} {l:Nat} (m:IsM zA l) {h g:Int} (h0:0<=h) (h1:h<zA.length) (g0:0<=g) (g1:g<l) {f1 f2 f3:FE} {Y:Sd} {M:Mem} (e1:f1 Y M=some (.dat (mD zA),M)) (e2:f2 Y M=some (.dat (.int h),M)) (e3:f3 Y M=some (.dat (.int g),M)) :
  fOp kIx (fOp kIx f1 f2) f3 Y M=some (.dat (.int (zb zA h g)),M):=by
 obtain ⟨q1,_⟩:=m.get h0 h1;exact zK (zK e1 e2 (Cr BZ (Ol h0 h1))) e3 (Cr BZ (MR g0 (by omega)))
def ED (hf:f Y M=some (x,M)) (ht:Gz M x=some t):Cw T f Y M=some (.dat (.bl (isT t T)),M):=by
 unfold Cw;rw[hf];dsimp only;rw[ht]
def BR (h:f Y M=some (.dat (.bl k),M')):tst f Y M=some (k,M'):=by unfold tst;rw[h]
def Di (hc:c Y M=some (true,M)) (h:OkS (a Y M) (nxP (λσ1 M1=>OkS (g σ1 M1) P) P)):OkS (zS (sIf c a b) g Y M) P:=by
 rw[zN,Ca];refine zF hc ?_;rw[AB rfl];exact h
def zq (hf:f Y M=some (.dat d,M)) (h:P (.ret d) Y M):OkS (AL f Y M) P:=by
 rw[CC];exact zF hf h
def EH {α:Type} (as:List α) (enc out:α->D) (hi:fi Y M=some (as.map enc,gd,M)) (hgd:BD gd (as.map enc) M) (hz:as.length<=100000)
  (he:∀ a∈as,∃ σ1,g (enc a) (Ac own Y)=some σ1/\te σ1 M=some (.dat (out a),M)):zo own fi g zZ te Y M=some (.fl (as.map out),M):=by
 refine zV (HK.mpr ⟨_,_,_,hi,by rw[AG];exact Bf hz,?_⟩);refine Ok.mono (IH (I:=λr acc M'=>M'=M /\ ∃ ra rb:List α,as=rb++ra/\r=ra.map enc/\acc=rb.map out) (Q:=λacc M'=>M'=M/\acc=as.map out) ?_ ?_ _ [] _ ⟨rfl,as,[],rfl,rfl,rfl⟩) ?_
 .rintro x r acc M' ⟨rfl,ra,rb,hab,hr,rfl⟩;cases ra with
  |nil=>cases hr
  |cons a ra=>
   rw[AX]at hr;obtain ⟨rfl,rfl⟩:=Cf hr;obtain ⟨σ1,e1,e2⟩:=he a (by rw[hab];simp);refine ⟨hgd,σ1,e1,RO.mpr ?_⟩;rw[AB rfl];refine zF e2 ?_;rw[zL];exact ⟨rfl,ra,rb++[a],by rw[hab];simp,rfl,by simp⟩
 .rintro acc M' ⟨rfl,ra,rb,hab,hr,rfl⟩;cases ra with
  |nil=>rw[BF]at hab;subst hab;exact ⟨hgd,rfl,rfl⟩
  |cons a ra=>cases hr
 .rintro ys M' ⟨rfl,h⟩;rw[List.nil_append]at h;subst h;exact ⟨rfl,rfl⟩
def LK (hf:f Y M=some (x,M)) (h:Av M x=some xs):fB DH (zP f zd) Y M=some (.dat (.tup xs),M):=by
 unfold fB zP zd;rw[hf];exact zV ((Ka h).mpr ⟨rfl,rfl⟩)
def D1 (hf:f Y M=some (.dat (.tup xs),M)):AQ f Y M=some (xs,none,M):=IL hf BZ
def bB (n:Nat):Dr 0 n=(List.range n).map λ(k:Nat)=>D.int k:=(Je n).symm
def Qw (e:f Y M=some (.dat (.int j),M)) (h1:0<=j) (h2:j<2 ^ 62):A1 (zD (toD f) zI) Y M=some ((List.range j.toNat).map (λ(k:Nat)=>D.int k),none,M):=by
 rw[El e h1 h2,bB]
def EB (hf:f Y M=some (.dat d,M)) (h:OkS (g (Y.set i (some d)) M) P):OkS (zS (AM i f) g Y M) P:=by
 rw[zN,zh];exact zF hf h
def Mv (h:f Y M=some (.dat d,M')):zD (toD f) zI Y M=some ([d],M'):=by
 unfold zD toD zI;rw[h]
theorem OJ {α β:Type} (f:α->β) (d:α):∀ xs:List α,(List.range xs.length).map (λi=>f (xs.getD i d))=xs.map f
 |[]=>rfl
 |x::xs=>by
  rw[Ba,List.range_succ_eq_map,AX,Ae,AX,<-OJ f d xs];rfl
open ST
noncomputable def ris (xs:Ye):List Int:=DI (CM xs)
def HV (xs:Ye) (x:Int):x∈ris xs ↔ x∈xs:=by
 unfold ris;rw[(GZ _).mem_iff,bZ]
def Iz (xs:Ye):(ris xs).Pairwise (· < ·):=by
 have h1:=LJ (CM xs);have h2:(ris xs).Nodup:=(GZ _).nodup_iff.mpr (Uo xs);unfold ris at h2 ⊢;exact (h1.and h2).imp λ{a b} h=>by have:=h.1;have:=h.2;omega
theorem KA:∀ {xs ys:Ye},xs.Pairwise (· < ·)->ys.Pairwise (· < ·)->(∀ x,x∈xs ↔ x∈ys)->xs=ys
 |[],[],_,_,_=>rfl
 |[],y::ys,_,_,h=>by have:=(h y).mpr Ad;cases this
 |x::xs,[],_,_,h=>by have:=(h x).mp Ad;cases this
 |x::xs,y::ys,h1,h2,h=>by
  have hx:=DY.mp h1;have hy:=DY.mp h2;have e:x=y:=by
   have a:=(h x).mp Ad;have b:=(h y).mpr Ad;rcases AI.mp a with z|z
   .exact z
   .rcases AI.mp b with q|q
    .exact q.symm
    .have:=hx.1 y q;have:=hy.1 x z;omega
  subst e;rw[KA hx.2 hy.2 λz=>?_];constructor
  .intro hz;rcases AI.mp ((h z).mp (Am _ hz))with q|q
   .subst q;have:=hx.1 _ hz;omega
   .exact q
  .intro hz;rcases AI.mp ((h z).mpr (Am _ hz))with q|q
   .subst q;have:=hy.1 _ hz;omega
   .exact q
def Kw (h:∀ x,x∈xs ↔ x∈ys):ris xs=ris ys:=KA (Iz xs) (Iz ys) λx=>by rw[HV,HV];exact h x
def Jy (h:xs.Pairwise (· < ·)):ris xs=xs:=KA (Iz xs) h λx=>HV xs x
def Pt (xs:Ye):(ris xs).length<=xs.length:=by
 unfold ris;rw[(GZ _).length_eq];exact Mj xs
def aK (h:0<xs.length):0<(ris xs).length:=by
 cases xs with
 |nil=>cases h
 |cons x r=>exact List.length_pos_of_mem ((HV (x::r) x).mpr Ad)
def Uq (h:zo own fi g tc te Y M=some (.fl (ks.map D.int),M)) (hz:ks.length<=4000):Gr own fi g tc te Y M=some (CM ks,M):=by
 unfold Gr;rw[h];dsimp only;rw[HS];dsimp only;rw[AB (by unfold scanBound;omega)]
def VJ (h:fz Y M=some (CM ks,M)) (hz:(CM ks).length<64):HN fz Y M=some (.fl ((ris ks).map D.int),M):=by
 unfold HN;rw[h];dsimp only;rw[AB hz];rfl
noncomputable def MQ:FS:=(AL (fB DH (zP (HN (Gr [3] (AQ (zC 1)) (gN 3) zZ (fOp kIx (fOp kIx (zC 0) (zC 3)) (zC 2)))) zd)))
noncomputable def DM:FF:=FX (Ak 4 MQ)
noncomputable def setR (zA:Ya) (S:Ye) (g:Int):List Int:=ris (S.map λh=>zb zA h g)
noncomputable def Qo (zA:Ya) (S word:Ye):List Int:=word.foldl (setR zA) S
structure IsS (zA:Ya) (S:Ye):Prop where
 pw:S.Pairwise (· < ·)
 n0:0<S.length
 mem:∀ x∈S,0<=x/\x<(zA.length:Int)
theorem NH:∀ {S:Ye} {a:Int} {n:Nat},S.Pairwise (· < ·)->(∀ x∈S,a<=x/\x<a+(n:Int))->S.length<=n
 |[],_,_,_,_=>BQ _
 |x::S,a,n,h,hm=>by
  have hx:=DY.mp h;obtain ⟨m0,m1⟩:=hm x Ad;have hn:0<n:=by omega
  have:=NH (S:=S) (a:=x+1) (n:=(a+n-(x+1)).toNat) hx.2 λy hy=>by
   have:=hx.1 y hy;have:=(hm y (Am _ hy)).2;omega
  simp only[Ba];omega
def IsS.len (h:IsS zA S):S.length<=zA.length:=NH h.pw (a:=0) λx hx=>by have:=h.mem x hx;omega
theorem IsM.setR {zA:Ya} {l:Nat} (m:IsM zA l) {S:Ye} (s:IsS zA S) {g:Int} (g0:0<=g) (g1:g<l):IsS zA (setR zA S g):=by
 refine ⟨Iz _,aK (by rw[AG];exact s.n0),λx hx=>?_⟩;obtain ⟨y,hy,rfl⟩:=Ag.mp ((HV _ _).mp hx);obtain ⟨y0,y1⟩:=s.mem y hy;exact m.step y0 y1 g0 g1
noncomputable def tI (xs:Ye):D:=.tup (xs.map D.int)
def JX {zA:Ya} {l:Nat} (m:IsM zA l) (hR:zA.length<64) {S:Ye} (s:IsS zA S) {g:Int} (g0:0<=g) (g1:g<l) {M:Mem}:DM [mD zA,tI S,.int g] M=some (tI (setR zA S g),M):=by
 refine zV ?_;unfold DM;refine Il (by unfold D.unds D.unds D.unds D.unds;rw[Hj];simp[tI,E5,D.und,Cc]) ?_;rw[zw];unfold MQ;have hl:=s.len;have hz:(CM (S.map λh=>zb zA h g)).length<64:=by have:=Mj (S.map λh=>zb zA h g);rw[AG]at this;omega
 refine zq (d:=tI (setR zA S g)) ?_ ⟨by unfold tI;exact E5 _,rfl,rfl⟩;refine LK (VJ (ks:=S.map λh=>zb zA h g) (Uq ?_ (by rw[AG];omega)) hz) FU;refine (EH S D.int (λh=> .int (zb zA h g)) (D1 rfl) trivial (by omega) λh hh=>⟨_,rfl,?_⟩).trans ?_
 .obtain ⟨h0,h1⟩:=s.mem h hh;exact m.ix h0 h1 g0 g1 rfl rfl rfl
 .rw[Ae];rfl
def Mn (hgd:BD gd all M) (hg:g x Y=some σ1) (hk:tk σ1 M=some (.dat k,M)) (hv:tv σ1 M=some (.dat v,M)) (hp:FR M n k v=some M'):B7 g zZ tk tv Y n all gd (x::r) M=B7 g zZ tk tv Y n all gd r M':=by
 rw[B7];rw[AB hgd,hg];have et:zZ σ1 M=some (true,M):=rfl;have e1:toD tk σ1 M=some (k,M):=by unfold toD;rw[hk]
 have e2:toD tv σ1 M=some (v,M):=by unfold toD;rw[hv]
 dsimp only;rw[et];dsimp only;rw[e1];dsimp only;rw[e2];dsimp only;rw[hp]
def JK (hgd:BD gd all M):B7 g tc tk tv Y n all gd [] M=some M:=by
 rw[B7,AB hgd]
def HL (e:f Y M=some (.dat (mD zA),M)):fB Aw (zP f zd) Y M=some (.dat (.int zA.length),M):=by
 have:=Ez e BZ;rw[AG]at this;exact this
def Jl (m:IsM zA l) (e:f Y M=some (.dat (mD zA),M)):fB Aw (zP (fOp kIx f (fC (.int 0))) zd) Y M=some (.dat (.int l),M):=by
 have r0:=m.r0;have:=Ez (zK (g:=fC (.int 0)) e rfl (Cr BZ (Ol (h:=0) (by omega) (by omega)))) BZ;rw[AG,(m.get (h:=0) (by omega) (by omega)).1]at this;exact this
def Ln (e:f Y M=some (.dat (tI xs),M)):fB Aw (zP f zd) Y M=some (.dat (.int xs.length),M):=by
 have:=Ez e BZ;rw[AG]at this;exact this
noncomputable def Ks:FS:=(AL (Ds (Cw "int" (zC 0)) (HE (Cw "bool" (zC 0)))))
noncomputable def Gf:FF:=Ak 1 Ks
noncomputable def Jw:FS:=(AL (Ds (zM Gf (zD (toD (zC 0)) zI)) (Gj kLe kLt (fC (.int 0)) (zC 0) (zC 1))))
noncomputable def Gi:FF:=Ak 2 Jw
noncomputable def Kc:FS:=(AL (Ds (Cw "tuple" (zC 0)) (fB Dm (zP (zo [2] (AQ (zC 0)) (gN 2) zZ (zM Gi (zD (toD (zC 2)) (zD (toD (zC 1)) zI)))) zd))))
noncomputable def HF:FF:=Ak 3 Kc
mutual
def Vd (M:Mem):D->Prop
 |.ref n=>∃ t,Gz M (.dat (.ref n))=some t/\(t = "list" \/ t = "dict")
 |.tup ds=>ds.length<=100000/\Vds M ds
 |_=>True
def Vds (M:Mem):List D->Prop
 |[]=>True
 |d::ds=>Vd M d/\Vds M ds
end
def Vds.mem:∀ {ds:List D},Vds M ds -> ∀ d∈ds,Vd M d
 |[],_,d,h=>by cases h
 |x::ds,hv,d,h=>by
  unfold Vds at hv;rcases AI.mp h with q|q
  .subst q;exact hv.1
  .exact Vds.mem hv.2 d q
def Vds.of:∀ {ds:List D},(∀ d∈ds,Vd M d)->Vds M ds
 |[],_=>trivial
 |x::ds,h=>⟨h x Ad,Vds.of λd hd=>h d (Am _ hd)⟩
noncomputable def Ie:D->Bool
 |.int _=>true
 |_=>false
noncomputable def Cb (n:Int):D->Bool
 |.int i=>decide (0<=i)&&decide (i<n)
 |_=>false
noncomputable def tbD (n:Int):D->Bool
 |.tup ds=>ds.all (Cb n)
 |_=>false
noncomputable def JR:D->Nat
 |.tup ds=>ds.length
 |_=>0
noncomputable def dP:D->Bool
 |.tup _=>true
 |_=>false
def MS (out:D->D) (hf:f Y M=some (.dat (.tup ds),M)) (hz:ds.length<=100000)
  (he:∀ a∈ds,∃ σ1,g a (Ac own Y)=some σ1/\te σ1 M=some (.dat (out a),M)):zo own (AQ f) g zZ te Y M=some (.fl (ds.map out),M) :=
 EH (gd:=none) ds id out (by rw[List.map_id];exact D1 hf) trivial hz he
def Vd.ty (h:Vd M d):∃ t,Gz M (.dat d)=some t/\isT t "tuple" = dP d/\(isT t "int" && !isT t "bool")=Ie d:=by
 cases d with
 |non=>exact ⟨_,rfl,(show isT "NoneType" "tuple" = false by decide),(show (isT "NoneType" "int" && !isT "NoneType" "bool")=false by decide)⟩
 |bl k=>exact ⟨_,rfl,(show isT "bool" "tuple" = false by decide),(show (isT "bool" "int" && !isT "bool" "bool")=false by decide)⟩
 |int i=>exact ⟨_,rfl,(show isT "int" "tuple" = false by decide),(show (isT "int" "int" && !isT "int" "bool")=true by decide)⟩
 |str x=>exact ⟨_,rfl,(show isT "str" "tuple" = false by decide),(show (isT "str" "int" && !isT "str" "bool")=false by decide)⟩
 |tup ds=>exact ⟨_,rfl,(show isT "tuple" "tuple" = true by decide),(show (isT "tuple" "int" && !isT "tuple" "bool")=false by decide)⟩
 |ref n=>
  unfold Vd at h;obtain ⟨t,e,h⟩:=h;rcases h with rfl|rfl
  .exact ⟨_,e,(show isT "list" "tuple" = false by decide),(show (isT "list" "int" && !isT "list" "bool")=false by decide)⟩
  .exact ⟨_,e,(show isT "dict" "tuple" = false by decide),(show (isT "dict" "int" && !isT "dict" "bool")=false by decide)⟩
def D6 (hf:f Y M=some (.dat (.bl a),M)) (hg:a=true->g Y M=some (.dat (.bl b),M)):Ds f g Y M=some (.dat (.bl (a&&b)),M):=by
 unfold Ds;rw[hf];cases a with
 |true=>exact hg rfl
 |false=>rfl
def jC (hf:f Y M=some (.dat (.bl a),M)):HE f Y M=some (.dat (.bl (!a)),M):=by unfold HE;rw[hf]
def JO (h:f (ds.map some++List.replicate (n-ds.length) none) M=some (.dat d,M)):Ak n (AL f) ds M=some (d,M):=by
 refine zV ?_;rw[zw];exact zq h ⟨rfl,rfl⟩
def RG (h:Vd M d):Gf [d] M=some (.bl (Ie d),M):=by
 obtain ⟨t,e,_,q⟩:=h.ty;unfold Gf Ks;refine JO ?_;rw[<-q];exact D6 (ED rfl e) λ_=>jC (ED rfl e)
def RA (h:Vd M d):Gi [d,.int n] M=some (.bl (Cb n d),M):=by
 unfold Gi Jw;refine JO ?_;have hw:=zf (Y:=[some d,some (.int n)]) (a:=zD (toD (zC 0)) zI) (zg rfl) (RG h);have e:Cb n d=(Ie d&&Cb n d):=by cases d <;> rfl
 rw[e];refine D6 hw λhi=>?_;cases d with
 |int i=>
  refine zV (Sq.mpr (BO.mpr (A4.mpr ⟨_,rfl,Zy.mpr (Ft.mpr ?_)⟩)));by_cases h0:0<=i
  .rw[AB (by simpa using h0)];refine A4.mpr ⟨_,rfl,Iw.mpr ⟨?_,rfl⟩⟩;simp[Cb,h0]
  .rw[AE (by simpa using h0)];exact ⟨by simp[Cb,h0],rfl⟩
 |_=>cases hi
def Ff {bs:List Bool} (h:f Y M=some (.fl (bs.map D.bl),M)):fB Dm (zP f zd) Y M=some (.dat (.bl (bs.all id)),M):=by
 unfold fB zP zd;rw[h];exact zV ((Tg Ri (OV bs)).mpr ⟨rfl,rfl⟩)
def HZ {α:Type} (xs:List α) (p:α->Bool):(xs.map p).all id=xs.all p:=by rw[List.all_map];rfl
def YS (h:Vd M d):HF [d,.int n] M=some (.bl (tbD n d),M):=by
 unfold HF Kc;refine JO ?_;obtain ⟨t,e,q,_⟩:=h.ty;cases d with
 |tup ds=>
  have hh:Vd M (.tup ds):=h;unfold Vd at hh;have:tbD n (.tup ds)=(true&&(ds.map (Cb n)).all id):=by rw[Bool.true_and,HZ];rfl
  rw[this];refine D6 (by rw[ED rfl e,q];rfl) λ_=>Ff ?_;rw[Ae];exact MS (λx=> .bl (Cb n x)) rfl hh.1 λx hx=>⟨_,rfl,zf (zt rfl (zg rfl)) (RA (hh.2.mem x hx))⟩
 |_=>
  have:∀ b,(false&&b)=false:=λb=>rfl;refine (D6 (a:=false) (b:=true) (by rw[ED rfl e,q];rfl) λz=>by cases z).trans ?_;rfl
def fR {xs:List D} {lo hi:Ys} {M:Mem}:kSl (.dat (.tup xs)) lo hi M=some (.dat (.tup (L3.B9 xs lo hi)),M):=rfl
def slE {f:FE} {fl fh:FO} {Y:Sd} {M:Mem} {xs:List D} {lo hi:Ys} (hf:f Y M=some (.dat (.tup xs),M)) (hl:fl Y M=some (lo,M)) (hh:fh Y M=some (hi,M)):fSl f fl fh Y M=some (.dat (.tup (L3.B9 xs lo hi)),M):=by
 unfold fSl;rw[hf];dsimp only;rw[hl];dsimp only;rw[hh];exact fR
def oS (h:f Y M=some (.dat (.int i),M)):C6 f Y M=some (some i,M):=by unfold C6;rw[h]
def Oz {c:Ye} (h:c.length<=100000):Vd M (.tup (c.map D.int)):=by
 unfold Vd;exact ⟨by simpa using h,Vds.of λd hd=>by obtain ⟨i,_,rfl⟩:=Ag.mp hd;unfold Vd;trivial⟩
noncomputable abbrev gL (k:Nat) (s:Int):MO:=.lst [.ref k,.int s]
def V5 (hk:k<N):MO.und N (gL k s)=true:=by
 show D.unds _ _=true;unfold D.unds D.unds D.unds D.und;simp[hk]
structure Nw (M M':Mem) (n k:Nat):Prop where
 gen:Gen M' n k
 len:M.length<=M'.length
 fr:∀ j,j<M.length->j≠n->j≠k->M'[j]?=M[j]?
def Nw.trans {M M1 M2:Mem} {n k:Nat} (a:Nw M M1 n k) (b:Nw M1 M2 n k):Nw M M2 n k :=
 ⟨b.gen,AZ a.len b.len,λj h h1 h2=>(b.fr j (BB h a.len) h1 h2).trans (a.fr j h h1 h2)⟩
def Nx.nw (x:Nx M M' n k):Nw M M' n k:=⟨x.gen,by rw[x.len];exact AF _,λj _ h1 h2=>x.fr j h1 h2⟩
def Gen.lst (h:Gen A n k) (xs:List D) (hx:D.unds A.length xs=true):Nw A (A++[.lst xs]) n k:=⟨h.app λu hu=>by
 have:u=.lst xs:=by simpa using hu
 subst this;exact G6 (by simp) hx,by simp,λj hj _ _=>AW hj⟩
def Nw.setB (h:Nw M A n k) (g:Gen M n k) (hj:M.length<=j) (hu:MO.und A.length u=true):Nw M (A.set j u) n k:=by
 obtain ⟨hn,hk⟩:=g.lt;obtain ⟨c,s,e1,e2,r⟩:=h.gen.ex;refine ⟨⟨⟨c,s,by rw[A8 (by omega)];exact e1,by rw[A8 (by omega)];exact e2,r⟩,g.ne,λi v e=>?_⟩,by rw[List.length_set];exact h.len,λi hi h1 h2=>by rw[A8 (by omega)];exact h.fr i hi h1 h2⟩;rw[List.length_set];rw[D5]at e;split at e
 .split at e
  .cases e;exact hu
  .cases e
 .exact h.gen.wf i v e
def Nw.wf0 (h:Nw M M' n k) (g:Gen M n k):∀ (j:Nat) u,j<M.length->M'[j]?=some u->MO.und M.length u=true:=λj u hj e=>by
 obtain ⟨hn,hk⟩:=g.lt;obtain ⟨c,s,e1,e2,r⟩:=h.gen.ex;by_cases q1:j=n
 .subst q1;rw[e1]at e;cases e;exact V5 hk
 .by_cases q2:j=k
  .subst q2;rw[e2]at e;cases e;exact Cc _ _
  .rw[h.fr j hj q1 q2]at e;exact g.wf j u e
def Nw.trim (h:Nw M M' n k) (g:Gen M n k):Nw M (M'.take M.length) n k:=by
 obtain ⟨hn,hk⟩:=g.lt;have tk:∀ j,j<M.length->(M'.take M.length)[j]?=M'[j]?:=λj hj=>List.getElem?_take_of_lt hj;have tl:(M'.take M.length).length=M.length:=by have:=h.len;rw[CG];omega
 obtain ⟨c,s,e1,e2,r⟩:=h.gen.ex;refine ⟨⟨⟨c,s,(tk n hn).trans e1,(tk k hk).trans e2,r⟩,g.ne,λj u e=>?_⟩,by omega,λj hj h1 h2=>(tk j hj).trans (h.fr j hj h1 h2)⟩;have hj:j<M.length:=by have:=(AK.mp e).1;omega
 rw[tk j hj]at e;rw[tl];exact h.wf0 g j u hj e
def Nw.get (h:Nw M M' n k) (e:M[j]?=some u) (h1:j≠n) (h2:j≠k):M'[j]?=some u :=
 (h.fr j (AK.mp e).1 h1 h2).trans e
end Law
namespace Lac
open L2 L3 ST Law
noncomputable def Lu:FS:=(zS (AM 2 (Ar zI))
  (zS (Bl (A1 (zD (toD (zC 1)) zI)) (gN 3) (B6 (fM Gk (zC 2) (zD (toD (zM ze (zD (toD (zC 0)) (zD (toD (fOp BE (zC 3) (fC (.int 1)))) zI)))) (zD (toD (zC 3)) zI)))))
  (AL (zC 2))))
noncomputable def II:FF:=Ak 4 Lu
noncomputable def LU:FS:=(zS (sIf (tst (fOp kEq (zC 1) (fC (.int 0)))) (AL (zo [4] (A1 (zD (toD (zC 2)) zI)) (gN 4) zZ (zM ze (zD (toD (zC 0)) (zD (toD (zC 2)) zI))))) Ap)
  (zS (sIf (tst (fOp kEq (zC 1) (fC (.int 1)))) (AL (zo [4] (A1 (zD (toD (zC 2)) zI)) (gN 4) zZ (fOp Ct (fOp BE (zC 4) (zM ze (zD (toD (zC 0)) (zD (toD (fC (.int 3))) zI)))) (zC 2)))) Ap)
  (zS (sIf (tst (fOp kEq (zC 1) (fC (.int 2)))) (zS (AM 5 (fOp G2 (fOp BE (zC 2) (fC (.int 1))) (fC (.int 2))))
  (zS (AM 6 (zo [4] (A1 (zD (toD (zC 5)) zI)) (gN 4) zZ (zM ze (zD (toD (zC 0)) (zD (toD (zC 5)) zI)))))
  (AL (fOp Dv (zC 6) (zo [4] (A1 (zD (toD (fOp D9 (zC 2) (zC 5))) zI)) (gN 4) zZ (fOp BE (zC 5) (zM ze (zD (toD (zC 0)) (zD (toD (fOp D9 (zC 2) (zC 5))) zI))))))))) Ap)
  (zS (sIf (CJ (tst (fOp kEq (zC 1) (fC (.int 3)))) (tst (fOp kEq (zC 3) (fC (.int 0))))) (AL (zo [4] (A1 (zD (toD (zC 2)) zI)) (gN 4) zZ (fOp Ct (fOp BE (zC 4) (fC (.int 1))) (zC 2)))) Ap)
  (zS (sIf (tst (fOp kEq (zC 1) (fC (.int 3)))) (AL (zo [4] (A1 (zD (toD (zC 2)) zI)) (gN 4) zZ (fOp kIx (Ar (zD (toD (zC 4)) (zD (toD (fC (.int 0))) zI))) (fB GI (zP (fOp kEq (zC 4) (fOp D9 (zC 2) (fC (.int 1)))) zd))))) Ap)
  (zS (sIf (CZ (tst (fOp kEq (zC 1) (fC (.int 4)))) (tst (fOp kEq (zC 1) (fC (.int 7))))) (zS (AM 7 (zM ze (zD (toD (zC 0)) (zD (toD (zC 2)) zI))))
  (AL (zo [4] (A1 (zD (toD (zC 2)) zI)) (gN 4) zZ (fOp kIx (Ar (zD (toD (fOp Ct (fOp BE (zC 4) (zC 7)) (zC 2))) (zD (toD (zC 7)) zI))) (fB GI (zP (fOp kEq (zC 1) (fC (.int 7))) zd)))))) Ap)
  (zS (AM 8 (zM II (zD (toD (zC 0)) (zD (toD (zC 2)) zI))))
  (zS (sIf (CJ (tst (fOp kEq (zC 1) (fC (.int 6)))) (tst (fOp kEq (zC 3) (fC (.int 0))))) (zS (AM 9 (fOp kIx (zC 8) (zM ze (zD (toD (zC 0)) (zD (toD (zC 2)) zI)))))
  (GB (zC 9) (zC 8) (zM ze (zD (toD (zC 0)) (zD (toD (zC 2)) zI))))) Ap)
  (AL (zC 8))))))))))
noncomputable def HM:FF:=Ak 10 LU
noncomputable def KQ:FS:=(zS (AM 3 (zM ze (zD (toD (zC 0)) (zD (toD (fC (.int 8))) zI))))
  (zS (AM 4 (zo [5] (A1 (zD (toD (zC 2)) zI)) (gN 5) zZ (zM HM (zD (toD (zC 0)) (zD (toD (zC 3)) (zD (toD (zC 1)) (zD (toD (zC 5)) zI)))))))
  (AL (fB DH (zP (zo [7] (A1 (zD (toD (zC 1)) zI)) (gN 7) zZ (fB DH (zP (zo [6] (AQ (zC 4)) (gN 6) zZ (fOp kIx (zC 6) (zC 7))) zd))) zd)))))
noncomputable def GX:FF:=EW (Ak 8 KQ)
def Col (many:Int) (c:Ye):Prop:=(c.length:Int)=many /\ ∀ x∈c,0<=x/\x<many
def CN (h:P (.ref M.length) (M++[.lst xs])):DU P (.fl xs) M:=h
def B8 (A:Mem) (u:MO):(A++[u])[A.length]?=some u:=by simp
def OU (h:0<b):Ct (.dat (.int a)) (.dat (.int b)) M=some (.dat (.int (a % b)),M):=zV (FL.mpr ⟨h,rfl,rfl⟩)
def Fv {M:Mem} {n k:Nat} (h:Gen M n k) {own:Yj} {i:Nat} {f te:FE} {Y:Sd} {cnt lo hi:Int} (c0:0<=cnt) (c1:cnt<=90000) (hf:f Y M=some (.dat (.int cnt),M))
  (ht:∀ (r:Nat) (M':Mem),(r:Int)<cnt->Gen M' n k->Ok (te ((Ac own Y).set i (some (.int r))) M') λx M''=>∃ v:Int,x=.dat (.int v)/\lo<=v/\v<hi/\Nx M' M'' n k) :
  Ok (zo own (A1 (zD (toD f) zI)) (gN i) zZ te Y M) λx M'=>(∃ c:List Int,x=.fl (c.map D.int)/\(c.length:Int)=cnt /\ ∀ y∈c,lo<=y/\y<hi)/\Nx M M' n k:=by
 refine HK.mpr ⟨_,_,_,El hf c0 (by omega),by rw[Ls];exact Bf (by omega),?_⟩;refine Ok.mono (Pg (n:=cnt.toNat) (I:=λj acc M2=>(∃ c:List Int,acc=c.map D.int/\c.length=j /\ ∀ y∈c,lo<=y/\y<hi)/\Nx M M2 n k) ?_ ⟨⟨[],rfl,rfl,λ_ h=>by cases h⟩,Nx.refl h⟩) ?_
 .intro j acc M2 hj hI;refine Classical.byContradiction λG=>?_;obtain ⟨⟨c,eI1,hcl,hc⟩,nx⟩:=hI;refine G ?_;clear G;subst eI1;refine ⟨_,rfl,?_⟩;refine Ok.mono (ht j M2 (by omega) nx.gen) ?_;intro x M3 hI;refine Classical.byContradiction λG=>?_;obtain ⟨v,eI1,v0,v1,nx3⟩:=hI;refine G ?_;clear G;subst eI1;rw[zL];refine ⟨⟨c++[v],by simp,by simp[hcl],λz hz=>?_⟩,nx.trans nx3⟩;rcases Ai.mp hz with q|q
  .exact hc z q
  .have:z=v:=by simpa using q
   subst this;exact ⟨v0,v1⟩
 .intro ys M2 hI;refine Classical.byContradiction λG=>?_;obtain ⟨⟨c,eI1,hcl,hc⟩,nx⟩:=hI;refine G ?_;clear G;subst eI1;exact ⟨⟨c,rfl,by omega,hc⟩,nx⟩
def Ng (ha:a Y M=some (.dat x,M)) (hb:b Y M=some (.dat y,M)):Ar (zD (toD a) (zD (toD b) zI)) Y M=some (.fl [x,y],M):=by
 unfold Ar;rw[zt ha (zg hb)];dsimp only;rw[AB (Bf (by simp))]
def OL (hl:l Y M=some (.fl [x,y],M)) (ht:t Y M=some (.dat (.bl b),M)):fOp kIx l (fB GI (zP t zd)) Y M=some (.dat (if b then y else x),M):=by
 have e:fB GI (zP t zd) Y M=some (.dat (.int (if b then 1 else 0)),M):=by unfold fB zP zd;rw[ht];rfl
 cases b with
 |true=>exact zK hl e rfl
 |false=>exact zK hl e rfl
def Tv (h:M[n]?=some (.lst xs)) (h0:0<=i) (h1:i.toNat<=xs.length) (hz:xs.length<90000):Gk (.dat (.ref n)) [.int i,d] M=some (.non,M.set n (.lst (xs.take i.toNat++[d]++xs.drop i.toNat))):=by
 unfold Gk;dsimp only;rw[h];dsimp only;rw[AB ⟨h0,h1,BB hz (Bf (by omega))⟩]
def d3 (h:Gen M n k) (m0:0<many) (m1:many<=1000):Ok (II [.ref n,.int many] M) λd M'=>∃ j c,d=.ref j/\M'[j]?=some (.lst (c.map D.int))/\Col many c/\M.length<=j/\Nw M M' n k/\c.Perm ((List.range many.toNat).map λ(x:Nat)=>(x:Int)):=by
 obtain ⟨hn,hk⟩:=h.lt;unfold II;rw[zw];unfold Lu;show OkS (zS _ _ [some (.ref n),some (.int many),none,none] M) _;rw[zN,zh];refine KY.mpr (E8.mpr ⟨Bf (by simp),CN ?_⟩);rw[zU,zN,Ed];have nw1:=h.lst [] rfl;have e1:(M++[MO.lst ([]:List D)])[M.length]?=some (.lst []):=B8 _ _;generalize M++[MO.lst ([]:List D)]=M1 at nw1 e1;show ∃ xs gd M2,A1 _ [some (.ref n),some (.int many),some (.ref M.length),none] M1=some (xs,gd,M2)/\_;refine ⟨_,_,_,El rfl (by omega) (by omega),?_⟩;refine Ij (n:=many.toNat) (I:=λi Y M'=>(∃ y,Y=[some (.ref n),some (.int many),some (.ref M.length),y]) /\ ∃ c:List Int,M'[M.length]?=some (.lst (c.map D.int))/\c.length=i/\(∀ x∈c,0<=x/\x<many)/\Nw M M' n k/\c.Perm ((List.range i).map λ(x:Nat)=>(x:Int))) ?_ ?_ _ _ ⟨⟨_,rfl⟩,[],e1,rfl,(λ_ h=>by cases h),nw1,.refl _⟩
 .intro i Y M' hi hI;refine Classical.byContradiction λG=>?_;obtain ⟨⟨y,eI1⟩,c,ec,hcl,hc,nw,pm⟩:=hI;refine G ?_;clear G;subst eI1;refine ⟨_,rfl,?_⟩;show OkS (B6 _ [some (.ref n),some (.int many),some (.ref M.length),some (.int (i:Nat))] M') _;rw[Hg];refine Hu.mpr (A4.mpr ⟨_,rfl,⟨_,D0 ec⟩,DN.mpr (Bn.mpr ?_)⟩);refine DQ nw.gen rfl (zK (x:=.dat (.int (i:Nat))) rfl rfl rfl) (by omega) (by omega) λq M2 q0 q1 nx=>?_;have ec2:=nx.nw.get ec (by omega) (by omega);rw[zL];refine zF (zg (d:=.int (i:Nat)) rfl) ?_;refine zF (Tv ec2 q0 (by rw[AG];omega) (by rw[AG];omega)) ?_;have hl:M.length<M2.length:=(AK.mp ec2).1;refine ⟨⟨_,rfl⟩,c.take q.toNat++[(i:Int)]++c.drop q.toNat,?_,by simp;omega,λx hx=>?_,?_,?_⟩
  .rw[C2 hl];simp
  .simp only[Ai,Aq]at hx;rcases hx with (w|w)|w
   .exact hc x (List.mem_of_mem_take w)
   .omega
   .exact hc x (List.mem_of_mem_drop w)
  .refine (nw.trans nx.nw).setB h (AF _) ?_;show D.unds _ _=true;rw[<-List.map_take,<-List.map_drop,MW,MW,Cc,Cc];rfl
  .rw[List.range_succ,CK];refine List.Perm.trans ?_ (List.Perm.append_right _ pm);rw[BL];refine List.Perm.trans (List.Perm.append_left _ List.perm_append_comm) ?_;rw[<-BL,DW];exact .refl _
 .intro Y M' hI;refine Classical.byContradiction λG=>?_;obtain ⟨⟨y,eI1⟩,c,ec,hcl,hc,nw,pm⟩:=hI;refine G ?_;clear G;subst eI1;rw[zU];exact zq rfl ⟨M.length,c,rfl,ec,⟨by omega,hc⟩,AF _,nw,pm⟩
def Wb (h:Col many c) (hj:j<c.length):0<=c.getD j 0/\c.getD j 0<many:=by
 rw[BW,AS hj];exact h.2 _ (Bg hj)
def fA (h:Col many c) (hj:j<c.length):Col many (c.set i (c.getD j 0)):=by
 refine ⟨by rw[List.length_set];exact h.1,λx hx=>?_⟩;rcases List.mem_or_eq_of_mem_set hx with q|q
 .exact h.2 x q
 .rw[q,BW,AS hj];exact h.2 _ (Bg hj)
def gA {M:Mem} {n k:Nat} (h:Gen M n k) {fam many let_:Int} (m0:0<many) (m1:many<=1000) :
  Ok (HM [.ref n,.int fam,.int many,.int let_] M) λd M'=>∃ j c,d=.ref j/\M'[j]?=some (.lst (c.map D.int))/\Col many c/\M.length<=j/\Nw M M' n k:=by
 obtain ⟨hn,hk⟩:=h.lt;unfold HM;rw[zw];unfold LU;show OkS (zS _ _ [some (.ref n),some (.int fam),some (.int many),some (.int let_),none,none,none,none,none,none] M) _;have isf:∀ (j:Int) (Y:Sd) (M:Mem),Y[1]?=some (some (.int fam))->tst (fOp kEq (zC 1) (fC (.int j))) Y M=some (decide (fam=j),M):=λj Y M e=>by
  have v4:zC 1 Y M=some (.dat (.int fam),M):=by unfold zC;rw[e]
  exact BR (zK v4 rfl (zV (Gx.mpr ⟨rfl,rfl⟩)))
 have isl:∀ (Y:Sd) (M:Mem),Y[3]?=some (some (.int let_))->tst (fOp kEq (zC 3) (fC (.int 0))) Y M=some (decide (let_=0),M):=λY M e=>by
  have v4:zC 3 Y M=some (.dat (.int let_),M):=by unfold zC;rw[e]
  exact BR (zK v4 rfl (zV (Gx.mpr ⟨rfl,rfl⟩)))
 have andE:∀ {a b:FT} {Y:Sd} {M:Mem} {x y:Bool},a Y M=some (x,M)->b Y M=some (y,M)->CJ a b Y M=some (x&&y,M):=λ{a b Y M x y} ha hb=>by
  unfold CJ;rw[ha];cases x <;> first|exact hb|rfl
 have orE:∀ {a b:FT} {Y:Sd} {M:Mem} {x y:Bool},a Y M=some (x,M)->b Y M=some (y,M)->CZ a b Y M=some (x||y,M):=λ{a b Y M x y} ha hb=>by
  unfold CZ;rw[ha];cases x <;> first|exact hb|rfl
 have new:∀ (A:Mem) (c':Ye),Nw M A n k->Col many c' -> ∃ j c,D.ref A.length=D.ref j/\(A++[MO.lst (c'.map D.int)])[j]?=some (.lst (c.map D.int))/\Col many c/\M.length<=j/\Nw M (A++[MO.lst (c'.map D.int)]) n k:=λA c' nw hc'=>
  ⟨A.length,c',rfl,B8 _ _,hc',nw.len,nw.trans (nw.gen.lst _ (Cc _ _))⟩
 rw[zN,Ca];refine zF (isf 0 _ _ rfl) ?_;by_cases w0:fam=0
 .rw[AB (by simpa using w0),CC];refine Ok.mono (Fv h (cnt:=many) (lo:=0) (hi:=many) (by omega) (by omega) rfl λr M' hr g=>DQ g rfl rfl m0 (by omega) λi M2 i0 i1 nx=>⟨i,rfl,i0,i1,nx⟩) ?_;intro x M1 hI;refine Classical.byContradiction λG=>?_;obtain ⟨⟨c,eI1,hcl,hc⟩,nx⟩:=hI;refine G ?_;clear G;subst eI1;refine CN ?_;rw[Fl];exact new _ _ nx.nw ⟨hcl,hc⟩
 rw[AE (by simpa using w0),C4,zU,zN,Ca];refine zF (isf 1 _ _ rfl) ?_;by_cases w1:fam=1
 .rw[AB (by simpa using w1),CC];refine Ok.mono (Fv h (cnt:=many) (lo:=0) (hi:=many) (by omega) (by omega) rfl λr M' hr g=>?_) ?_
  .refine Au.mpr (Au.mpr (A4.mpr ⟨_,rfl,DQ g rfl rfl (by decide) (by decide) λi M2 i0 i1 nx=>Gh.mpr (A4.mpr ⟨_,rfl,FL.mpr ⟨m0,_,rfl,Int.emod_nonneg _ (by omega),Int.emod_lt_of_pos _ m0,nx⟩⟩)⟩))
  intro x M1 hI;refine Classical.byContradiction λG=>?_;obtain ⟨⟨c,eI1,hcl,hc⟩,nx⟩:=hI;refine G ?_;clear G;subst eI1;refine CN ?_;rw[Fl];exact new _ _ nx.nw ⟨hcl,hc⟩
 rw[AE (by simpa using w1),C4,zU,zN,Ca];refine zF (isf 2 _ _ rfl) ?_;by_cases w2:fam=2
 .rw[AB (by simpa using w2)];refine EB (d:=.int ((many+1) / 2)) (zK (x:=.dat (.int (many+1))) (zK rfl rfl rfl) rfl (zV (KG.mpr ⟨⟨by decide,by decide⟩,rfl,rfl⟩))) ?_;obtain ⟨h0,h1⟩:0<(many+1) / 2/\(many+1) / 2<=many:=by omega
  generalize (many+1) / 2=half at h0 h1;rw[zN,zh];refine Ok.mono (Fv h (cnt:=half) (lo:=0) (hi:=half) (by omega) (by omega) rfl λr M' hr g=>DQ g rfl rfl h0 (by omega) λi M2 i0 i1 nx=>⟨i,rfl,i0,i1,nx⟩) ?_;intro x M1 hI;refine Classical.byContradiction λG=>?_;obtain ⟨⟨c,eI1,hcl,hc⟩,nx⟩:=hI;refine G ?_;clear G;subst eI1;refine CN ?_;rw[zU,CC];have nw2:=nx.nw.trans (nx.gen.lst (c.map D.int) (Cc _ _));have e6:(M1++[MO.lst (c.map D.int)])[M1.length]?=some (.lst (c.map D.int)):=B8 _ _;have hj:M.length<=M1.length:=nx.nw.len;generalize M1++[MO.lst (c.map D.int)]=M2 at nw2 e6;generalize M1.length=j6 at e6 hj;show Ok (fOp _ _ _ [some (.ref n),some (.int fam),some (.int many),some (.int let_),none,some (.int half),some (.ref j6),none,none,none] M2) _;refine Au.mpr (A4.mpr ⟨_,rfl,?_⟩);refine Ok.mono (Fv nw2.gen (cnt:=many-half) (lo:=half) (hi:=many) (by omega) (by omega) (zK rfl rfl rfl) λr M' hr g=>?_) ?_
  .refine Au.mpr (A4.mpr ⟨_,rfl,DQ g rfl (zK (x:=.dat (.int many)) (y:=.dat (.int half)) rfl rfl rfl) (by omega) (by omega) λi M3 i0 i1 nx3=>Gh.mpr ⟨_,rfl,by omega,by omega,nx3⟩⟩)
  intro x M3 hI;refine Classical.byContradiction λG=>?_;obtain ⟨⟨c3,eI1,hcl3,hc3⟩,nx3⟩:=hI;refine G ?_;clear G;subst eI1;have e6':=nx3.nw.get e6 (by omega) (by omega);refine jF (xs:=c.map D.int) (ys:=c3.map D.int) ?_ rfl (by simp;omega) (CN ?_)
  .unfold F4;dsimp only;rw[e6']
  rw[Fl,<-CK];refine new _ _ (nw2.trans nx3.nw) ⟨by simp;omega,λx hx=>?_⟩;rcases Ai.mp hx with q|q
  .have:=hc x q;omega
  .have:=hc3 x q;omega
 rw[AE (by simpa using w2),C4,zU,zN,Ca];refine zF (andE (isf 3 _ _ rfl) (isl _ _ rfl)) ?_;by_cases w3:(decide (fam=3)&&decide (let_=0))=true
 .rw[AB w3,CC];refine Ok.mono (Fv h (cnt:=many) (lo:=0) (hi:=many) (by omega) (by omega) rfl λr M' hr g=>?_) ?_
  .exact zF (zK (x:=.dat (.int ((r:Int)+1))) (y:=.dat (.int many)) (zK rfl rfl rfl) rfl (OU m0)) ⟨_,rfl,Int.emod_nonneg _ (by omega),Int.emod_lt_of_pos _ m0,Nx.refl g⟩
  intro x M1 hI;refine Classical.byContradiction λG=>?_;obtain ⟨⟨c,eI1,hcl,hc⟩,nx⟩:=hI;refine G ?_;clear G;subst eI1;refine CN ?_;rw[Fl];exact new _ _ nx.nw ⟨hcl,hc⟩
 rw[AE w3,C4,zU,zN,Ca];refine zF (isf 3 _ _ rfl) ?_;by_cases w3':fam=3
 .rw[AB (by simpa using w3'),CC];refine Ok.mono (Fv h (cnt:=many) (lo:=0) (hi:=many) (by omega) (by omega) rfl λr M' hr g=>?_) ?_
  .refine zF (OL (b:=decide ((r:Int)=many-1)) (Ng (x:=.int r) (y:=.int 0) rfl rfl) (zK (x:=.dat (.int r)) (y:=.dat (.int (many-1))) rfl (zK rfl rfl rfl) (zV (Gx.mpr ⟨rfl,rfl⟩)))) ?_;by_cases q:(r:Int)=many-1
   .rw[AO q,AB rfl];exact ⟨0,rfl,by omega,by omega,Nx.refl g⟩
   .rw[AU q,AE (by decide)];exact ⟨r,rfl,by omega,by omega,Nx.refl g⟩
  intro x M1 hI;refine Classical.byContradiction λG=>?_;obtain ⟨⟨c,eI1,hcl,hc⟩,nx⟩:=hI;refine G ?_;clear G;subst eI1;refine CN ?_;rw[Fl];exact new _ _ nx.nw ⟨hcl,hc⟩
 rw[AE (by simpa using w3'),C4,zU,zN,Ca];refine zF (orE (isf 4 _ _ rfl) (isf 7 _ _ rfl)) ?_;by_cases w4:(decide (fam=4)||decide (fam=7))=true
 .rw[AB w4,zN,zh];refine DQ h rfl rfl m0 (by omega) λfar M1 a0 a1 nx1=>?_;rw[zL,zU,CC];show Ok (zo _ _ _ _ _ [some (.ref n),some (.int fam),some (.int many),some (.int let_),none,none,none,some (.int far),none,none] M1) _;refine Ok.mono (Fv nx1.gen (cnt:=many) (lo:=0) (hi:=many) (by omega) (by omega) rfl λr M' hr g=>?_) ?_
  .refine zF (OL (b:=decide (fam=7)) (Ng (x:=.int (((r:Int)+far) % many)) (y:=.int far) (zK (x:=.dat (.int ((r:Int)+far))) (y:=.dat (.int many)) (zK rfl rfl rfl) rfl (OU m0)) rfl) (zK (x:=.dat (.int fam)) (y:=.dat (.int 7)) rfl rfl (zV (Gx.mpr ⟨rfl,rfl⟩)))) ?_;by_cases q:fam=7
   .rw[AO q,AB rfl];exact ⟨far,rfl,a0,a1,Nx.refl g⟩
   .rw[AU q,AE (by decide)];exact ⟨_,rfl,Int.emod_nonneg _ (by omega),Int.emod_lt_of_pos _ m0,Nx.refl g⟩
  intro x M2 hI;refine Classical.byContradiction λG=>?_;obtain ⟨⟨c,eI1,hcl,hc⟩,nx⟩:=hI;refine G ?_;clear G;subst eI1;refine CN ?_;rw[Fl];exact new _ _ (nx1.trans nx).nw ⟨hcl,hc⟩
 rw[AE w4,C4,zU,zN,zh];refine F7.mpr (zF (zt rfl (zg rfl)) ?_);refine Ok.mono (d3 h m0 m1) ?_;intro d M1 hI;refine Classical.byContradiction λG=>?_;obtain ⟨j,c,eI1,ej,cc,hj,nw1,_⟩:=hI;refine G ?_;clear G;subst eI1;have cl:=cc.1;rw[zL,zU,zN,Ca];refine zF (andE (isf 6 _ _ rfl) (isl _ _ rfl)) ?_;by_cases w6:(decide (fam=6)&&decide (let_=0))=true
 .rw[AB w6,zN,zh];refine Au.mpr (A4.mpr ⟨_,rfl,DQ nw1.gen rfl rfl m0 (by omega) λp M2 p0 p1 nx2=>?_⟩);have ej2:=nx2.nw.get ej (by omega) (by omega);refine Hy (CT ej2) (MR p0 (by omega)) ?_;rw[zL,zU,KO];refine A4.mpr ⟨_,rfl,?_⟩;rw[zL];refine A4.mpr ⟨_,rfl,DQ nx2.gen rfl rfl m0 (by omega) λq M3 q0 q1 nx3=>?_⟩;have ej3:=nx3.nw.get ej2 (by omega) (by omega);rw[zL];have eq':q=((q.toNat:Nat):Int):=by omega
  refine ⟨M3.set j (.lst ((c.map D.int).set q.toNat (.int (c.getD p.toNat 0)))),?_,?_⟩
  .have:=L6 (k:=q.toNat) (d:=.int (c.getD p.toNat 0)) ej3 (by rw[AG];omega);rw[<-eq']at this;exact this
  rw[zU];refine zq rfl ⟨j,c.set q.toNat (c.getD p.toNat 0),rfl,?_,fA cc (by omega),hj,?_⟩
  .rw[C2 (AK.mp ej3).1,List.map_set]
  .refine ((nw1.trans nx2.nw).trans nx3.nw).setB h hj ?_;show D.unds _ _=true;rw[<-List.map_set];exact Cc _ _
 .rw[AE w6,C4,zU];exact zq rfl ⟨j,c,rfl,ej,cc,hj,nw1⟩
noncomputable def Ef (many:Int) (cs:Ya):List (List Int):=(List.range many.toNat).map λr=>cs.map λc=>c.getD r 0
def j9 (h0:0<many) (hc:∀ c∈cs,Col many c) (hl:0<cs.length):IsM (Ef many cs) cs.length:=by
 have hlen:(Ef many cs).length=many.toNat:=by unfold Ef;simp
 refine ⟨by omega,hl,λr hr=>?_⟩;rw[hlen];unfold Ef at hr;obtain ⟨k,hk,rfl⟩:=Ag.mp hr;refine ⟨by simp,λg hg=>?_⟩;obtain ⟨c,hcm,rfl⟩:=Ag.mp hg;have:=hc c hcm;have h1:=this.1;have:=Wb this (j:=k) (by have:=Bo.mp hk;omega);omega
def Q1 (M:Mem) (lo:Nat) (many:Int) (js:Yj) (cs:Ya):Prop:=js.length=cs.length /\ ∀ (i:Nat) j c,js[i]?=some j->cs[i]?=some c->lo<=j/\M[j]?=some (.lst (c.map D.int))/\Col many c
def gR (h:Gen M n k) (hm:0<many) (hm1:many<=900) (hl:0<lm) (hl1:lm<=900) :
  Ok (GX [.ref n,.int many,.int lm] M) λd M'=>(∃ zA l,d=mD zA/\IsM zA l/\(zA.length:Int)=many/\(l:Int)=lm)/\Nw M M' n k:=by
 obtain ⟨hn,hk⟩:=h.lt;unfold GX;refine Nn ?_;rw[zw];unfold KQ;show OkS (zS _ _ [some (.ref n),some (.int many),some (.int lm),none,none,none,none,none] M) _;rw[zN,zh];refine DQ h rfl rfl (by decide) (by decide) λfam M1 f0 f1 nx1=>?_;rw[zL,zU,zN,zh];show Ok (zo _ _ _ _ _ [some (.ref n),some (.int many),some (.int lm),some (.int fam),none,none,none,none] M1) _;refine HK.mpr ⟨_,_,_,El (j:=lm) rfl (by omega) (by omega),by rw[Ls];exact Bf (by omega),?_⟩;refine Ok.mono (Pg (n:=lm.toNat) (I:=λi acc M'=>∃ (js:Yj) (cs:Ya),acc=js.map D.ref/\Q1 M' M.length many js cs/\cs.length=i/\Nw M M' n k) ?_ ⟨[],[],rfl,⟨rfl,λi j c h=>by simp at h⟩,rfl,nx1.nw⟩) ?_
 .intro i acc M' hi hI;refine Classical.byContradiction λG=>?_;obtain ⟨js,cs,eI1,hcs,hcl,nw⟩:=hI;refine G ?_;clear G;subst eI1;refine ⟨_,rfl,?_⟩;refine F7.mpr (zF (zt (d:=.ref n) rfl (zt (d:=.int fam) rfl (zt (d:=.int many) rfl (zg (d:=.int (i:Nat)) rfl)))) ?_);refine Ok.mono (gA nw.gen hm (by omega)) ?_;intro d M2 hI;refine Classical.byContradiction λG=>?_;obtain ⟨j,c,eI1,ec,cc,hj,nw2⟩:=hI;refine G ?_;clear G;subst eI1;have hle:=nw.len;rw[zL];refine ⟨js++[j],cs++[c],by simp,⟨by simp[hcs.1],λa b c' h1 h2=>?_⟩,by simp[hcl],nw.trans nw2⟩;by_cases ha:a<js.length
  .rw[AW ha]at h1;rw[AW (by rw[<-hcs.1];exact ha)]at h2;obtain ⟨q1,q2,q3⟩:=hcs.2 a b c' h1 h2;exact ⟨q1,nw2.get q2 (by omega) (by omega),q3⟩
  .have ha':a=js.length:=by
    have:=(AK.mp h1).1;simp at this;omega
   subst ha';rw[DV (AF _)]at h1;rw[DV (by rw[hcs.1];exact AF _)]at h2;simp at h1;rw[hcs.1]at h2;simp at h2;subst h1 h2;exact ⟨by omega,ec,cc⟩
 .intro ys M2 hI;refine Classical.byContradiction λG=>?_;obtain ⟨js,cs,eI1,hcs,hcl,nw⟩:=hI;refine G ?_;clear G;subst eI1;refine CN ?_;rw[zU];have hju:D.unds M2.length (js.map D.ref)=true:=LQ λz hz=>by
   obtain ⟨b,hb,rfl⟩:=Ag.mp hz;obtain ⟨i,hi,rfl⟩:=List.mem_iff_getElem.mp hb;have hi':i<cs.length:=by rw[<-hcs.1];exact hi
   obtain ⟨_,q2,_⟩:=hcs.2 i js[i] cs[i] (AS hi) (AS hi');simp[D.und,(AK.mp q2).1]
  have nwA:=nw.trans (nw.gen.lst (js.map D.ref) hju);have eA:(M2++[MO.lst (js.map D.ref)])[M2.length]?=some (.lst (js.map D.ref)):=B8 _ _;have hA:Q1 (M2++[MO.lst (js.map D.ref)]) M.length many js cs:=⟨hcs.1,λi j c h1 h2=>by
   obtain ⟨q1,q2,q3⟩:=hcs.2 i j c h1 h2;exact ⟨q1,by rw[AW (AK.mp q2).1];exact q2,q3⟩⟩
  generalize M2++[MO.lst (js.map D.ref)]=A at nwA eA hA;generalize M2.length=j at eA;show OkS (AL _ [some (.ref n),some (.int many),some (.int lm),some (.int fam),some (.ref j),none,none,none] A) _;have hcol:∀ c∈cs,Col many c:=λc hc=>by
   obtain ⟨i,hi,rfl⟩:=List.mem_iff_getElem.mp hc;exact (hA.2 i (js[i]'(by rw[hA.1];exact hi)) cs[i] (AS _) (AS _)).2.2
  have hlen:(Ef many cs).length=many.toNat:=by unfold Ef;simp
  refine zq (d:=mD (Ef many cs)) ?_ ⟨⟨Hj _,nwA.len,nwA.wf0 h⟩,⟨Ef many cs,cs.length,rfl,j9 hm hcol (by omega),by omega,by omega⟩,nwA.trim h⟩;refine (LK (EH (List.range many.toNat) (λk=>D.int k) (λk=> .tup ((cs.map λc=>c.getD k 0).map D.int)) (Qw (f:=zC 1) rfl (by omega) (by omega)) trivial (by simp;omega) λr hr=>⟨_,rfl,?_⟩) FU).trans ?_
  .have hr':=Bo.mp hr;refine (LK (EH (gd:=CO (.dat (.ref j)) (js.map D.ref)) (List.range js.length) (λi=>D.ref (js.getD i 0)) (λi=> .int ((cs.getD i []).getD r 0)) ?_ ?_ (by rw[ET,hA.1,hcl];omega) λi hi=>⟨_,rfl,?_⟩) FU).trans ?_
   .rw[show ((List.range js.length).map λi=>D.ref (js.getD i 0))=js.map D.ref by
     apply List.ext_getElem
     .simp
     .intro i h1 h2;simp at h1;simp[h1]]
    exact IL (x:=.dat (.ref j)) rfl (CT eA)
   .exact .inl eA
   .have hi':=Bo.mp hi;have hc':i<cs.length:=by rw[<-hA.1];exact hi'
    have ej':js[i]?=some (js.getD i 0):=by rw[BW,AS hi'];rfl
    have ec':cs[i]?=some (cs.getD i []):=by rw[BW,AS hc'];rfl
    obtain ⟨_,q2,q3⟩:=hA.2 i _ _ ej' ec';have hz:=q3.1;exact zK (x:=.dat (.ref (js.getD i 0))) (y:=.dat (.int (r:Nat))) rfl rfl (Cr (CT q2) (MR (by omega) (by omega)))
   .congr 3;rw[Ae];refine BJ D.tup ?_;apply List.ext_getElem
    .simp[hA.1]
    .intro i h1 h2;simp at h1 h2;have h2':i<cs.length:=h2;simp[h2']
  .unfold mD Ef;rw[Ae];rfl
noncomputable def MK:FS:=(AL (Jh (fB Aw (zP (zC 0) zd))))
noncomputable def EZ:FF:=Ak 1 MK
noncomputable def Lj:FS:=(AL (Fs [1,2] [2] (AQ (zC 0)) (gN 1) zZ (AQ (zC 0)) (gN 2) (tst (fOp kLt (zC 1) (zC 2))) (Br (zD (toD (zC 1)) (zD (toD (zC 2)) zI)))))
noncomputable def Dz:FF:=Ak 3 Lj
theorem P8 {α:Type} (enc out:α->D) (keep:α->Bool):∀ (as:List α),(∀ a∈as,∃ σ1,g (enc a) Y=some σ1/\tc σ1 M=some (keep a,M)/\(keep a=true->te σ1 M=some (.dat (out a),M)))->A7 g tc te Y all none (as.map enc) M=some ((as.filter keep).map out,M)
 |[],_=>by
  rw[List.map_nil];unfold A7;rw[AB (show BD none all M from trivial)];rfl
 |a::r,h=>by
  obtain ⟨σ1,e1,e2,e3⟩:=h a Ad;have ih:=P8 (all:=all) (Y:=Y) enc out keep r λb hb=>h b (Am _ hb);rw[AX];unfold A7;rw[AB (show BD none all M from trivial),e1];dsimp only;rw[e2];cases hk:keep a with
  |false=>
   dsimp only;rw[ih,List.filter_cons_of_neg (by simp[hk])]
  |true=>
   dsimp only;rw[show toD te σ1 M=some (out a,M) by unfold toD;rw[e3 hk]];dsimp only;rw[ih,List.filter_cons_of_pos hk];rfl
def NB {α β:Type} (as:List α) (enc:α->D) (bs:α->List β) (enc2:β->D) (keep:α->β->Bool) (out:α->β->D) (B:Nat)
  (hi:fi Y M=some (as.map enc,none,M)) (hB:∀ a∈as,(bs a).length<=B) (hz:as.length*B<=90000)
  (he:∀ a∈as,∃ σ1,fg (enc a) (Ac own Y)=some σ1/\fi2 σ1 M=some ((bs a).map enc2,none,M) /\ ∀ b∈bs a,∃ σ2,fg2 (enc2 b) (Ac own2 σ1)=some σ2/\tc2 σ2 M=some (keep a b,M)/\(keep a b=true->te σ2 M=some (.dat (out a b),M))) :
  Fs own own2 fi fg zZ fi2 fg2 tc2 te Y M=some (.fl (as.flatMap λa=>((bs a).filter (keep a)).map (out a)),M):=by
 have key:∀ (r:List α) (acc:List D),(∀ a∈r,a∈as)->acc.length+r.length*B<=90000->ES fg zZ fi2 own2 fg2 tc2 te (Ac own Y) (as.map enc) none (r.map enc) acc M=some (acc++r.flatMap λa=>((bs a).filter (keep a)).map (out a),M):=by
  intro r;induction r with
  |nil=>
   intro acc _ _;rw[List.map_nil];unfold ES;rw[AB (show BD none (as.map enc) M from trivial)];simp
  |cons a r ih=>
   intro acc hs hl;have ha:=hs a Ad;obtain ⟨σ1,e1,e2,e3⟩:=he a ha;have hb:=hB a ha;have hlen:(((bs a).filter (keep a)).map (out a)).length<=(bs a).length:=by rw[AG];exact Fu _ _
   rw[Ba,Nat.add_mul]at hl;rw[AX];unfold ES;rw[AB (show BD none (as.map enc) M from trivial),e1];dsimp only;rw[show zZ σ1 M=some (true,M)from rfl];dsimp only;rw[e2];dsimp only;rw[AB (Bf (by rw[AG];omega)),P8 enc2 (out a) (keep a) (bs a) e3];dsimp only;rw[ih _ (λb hb=>hs b (Am _ hb)) (by rw[An];omega)];rw[List.flatMap_cons,BL]
 unfold Fs;rw[hi];dsimp only;rw[key as [] (λ_ h=>h) (by simpa using hz)];simp
noncomputable def zQ (xs:Ye):List (List Int):=xs.flatMap λa=>(xs.filter λb=>decide (a<b)).map λb=>[a,b]
def MZ (hz:xs.length<=200):Dz [tI xs] M=some (.ref M.length,M++[.lst ((zQ xs).map tI)]):=by
 suffices h:Ok (Dz [tI xs] M) λd M'=>d=.ref M.length/\M'=M++[.lst ((zQ xs).map tI)] by
  obtain ⟨d,M',e,rfl,rfl⟩:=h;exact e
 unfold Dz;rw[zw];unfold Lj;rw[CC];have hq:xs.length*xs.length<=90000:=AZ (Eh hz hz) (by decide);refine zF (NB xs D.int (λ_=>xs) D.int (λa b=>decide (a<b)) (λa b=>tI [a,b]) xs.length (D1 rfl) (λ_ _=>AF _) hq λa ha=>⟨_,rfl,D1 rfl,λb hb=>⟨_,rfl,?_,λ_=>?_⟩⟩) (CN ⟨rfl,?_⟩)
 .exact BR (zK (x:=.dat (.int a)) (y:=.dat (.int b)) rfl rfl (zV (Iw.mpr ⟨rfl,rfl⟩)))
 .unfold Br;rw[zt (d:=.int a) rfl (zg (d:=.int b) rfl)];dsimp only;rw[AB (Bf (by simp))];rfl
 .congr 3;unfold zQ;rw[List.map_flatMap];congr 1;funext a;rw[Ae];rfl
def zn:p∈zQ xs ↔ ∃ a b,p=[a,b]/\a∈xs/\b∈xs/\a<b:=by
 unfold zQ;rw[List.mem_flatMap];constructor
 .rintro ⟨a,ha,h⟩;obtain ⟨b,hb,rfl⟩:=Ag.mp h;obtain ⟨h1,h2⟩:=C9.mp hb;exact ⟨a,b,rfl,ha,h1,CQ h2⟩
 .rintro ⟨a,b,rfl,ha,hb,hlt⟩;exact ⟨a,ha,Ag.mpr ⟨b,C9.mpr ⟨hb,AO hlt⟩,rfl⟩⟩
def Md (hz:zA.length<=1000):EZ [mD zA] M=some (tI ((List.range zA.length).map λ(k:Nat)=>(k:Int)),M):=by
 refine zV ?_;unfold EZ;rw[zw];unfold MK;refine zq (d:=tI ((List.range zA.length).map λ(k:Nat)=>(k:Int))) ?_ ⟨rfl,rfl⟩;unfold Jh;rw[show fB Aw (zP (zC 0) zd) ([mD zA].map some++List.replicate (1 - [mD zA].length) none) M=some (.dat (.int zA.length),M)from HL rfl];dsimp only;rw[AB ⟨by omega,by omega⟩];unfold upD tI;rw[Ae,show (zA.length:Int).toNat=zA.length by omega];rfl
noncomputable def Ej (g:Ye):List Key:=g.map Sum.inl
theorem NF:∀ {a b:Ye},Ej a=Ej b->a=b
 |[],[],_=>rfl
 |[],_::_,h=>by cases h
 |_::_,[],h=>by cases h
 |x::a,y::b,h=>by
  have h1:=(Cf h).1;have h2:=NF (Cf h).2;cases h1;rw[h2]
theorem QX:∀ g:List Int,DF (g.map D.int)=some (Ej g)
 |[]=>rfl
 |x::r=>by
  rw[AX];unfold DF;rw[QX r];rfl
def Jm (g:Ye):tkD (tI g)=some (Ej g):=QX g
noncomputable abbrev Bd (T:List (List Int × D)):List (D × D):=T.map λq=>(tI q.1,q.2)
noncomputable abbrev dT (T:List (List Int × D)):MO:=.dicT (Bd T)
noncomputable def zE:List (List Int × D)->List Int->Option D
 |[],_=>none
 |q::r,g=>if q.1=g then some q.2 else zE r g
noncomputable def Ao (T:List (List Int × D)) (g:Ye) (v:D):List (List Int × D):=match zE T g with
 |some _=>T.map λq=>if q.1=g then (q.1,v) else q
 |none=>T++[(g,v)]
def Mk (a g:Ye):decide (tkD (tI a)=some (Ej g))=decide (a=g):=by
 rw[Jm];by_cases h:a=g
 .subst h;simp
 .rw[AU h,AU];intro e;exact h (NF (B0 e))
theorem MV (g:Ye):∀ T:List (List Int × D),DJ tkD (Bd T) (Ej g)=zE T g
 |[]=>rfl
 |q::r=>by
  have ih:=MV g r;unfold DJ at ih ⊢;unfold Bd at ih ⊢;rw[AX,Ec];rw[Mk];unfold zE;by_cases h:q.1=g
  .rw[AO h,AB h];rfl
  .rw[AU h,AE h];exact ih
theorem Ms (g:Ye):∀ T:List (List Int × D),((Bd T).any λp=>decide (tkD p.1=some (Ej g)))=(zE T g).isSome
 |[]=>rfl
 |q::r=>by
  have ih:=Ms g r;unfold Bd at ih ⊢;rw[AX,List.any_cons,Mk];unfold zE;by_cases h:q.1=g
  .rw[AO h,AB h];rfl
  .rw[AU h,AE h,Bool.false_or];exact ih
def bH (T:List (List Int × D)) (g:Ye) (v:D):E2 tkD (Bd T) (Ej g) (tI g) v=Bd (Ao T g v):=by
 unfold E2 Ao;rw[Ms];cases h:zE T g with
 |none=>
  rw[AE (by simp)];unfold Bd;rw[CK];rfl
 |some d=>
  rw[AB (by simp)];unfold Bd;rw[Ae,Ae];apply List.map_congr_left;intro q _;show (if tkD (tI q.1)=some (Ej g) then (tI q.1,v) else (tI q.1,q.2))=(tI (if q.1=g then (q.1,v) else q).1,(if q.1=g then (q.1,v) else q).2);have hd:=Mk q.1 g;by_cases hq:q.1=g
  .rw[AO hq]at hd;rw[AB (CQ hd),AB hq]
  .rw[AU hq]at hd;rw[AE (of_decide_eq_false hd),AE hq]
def Io (T:List (List Int × D)) (g h:Ye) (v:D):zE (Ao T g v) h=if g=h then some v else zE T h:=by
 have app:∀ (T:List (List Int × D)),zE T g=none->zE (T++[(g,v)]) h=if g=h then some v else zE T h:=by
  intro T;induction T with
  |nil=>intro _;rfl
  |cons q r ih=>
   intro e;unfold zE at e;by_cases hq:q.1=g
   .rw[AB hq]at e;cases e
   .rw[AE hq]at e;show (if q.1=h then some q.2 else zE (r++[(g,v)]) h)=if g=h then some v else if q.1=h then some q.2 else zE r h
    rw[ih e];by_cases h1:q.1=h
    .rw[AB h1,AB h1,AE (λz=>hq (h1.trans z.symm))]
    .rw[AE h1,AE h1]
 have mp:∀ (T:List (List Int × D)),(zE T g).isSome=true->zE (T.map λq=>if q.1=g then (q.1,v) else q) h=if g=h then some v else zE T h:=by
  intro T;by_cases hgh:g=h
  .subst hgh;induction T with
   |nil=>intro e;cases e
   |cons q r ih=>
    intro e;rw[AX];unfold zE;by_cases hq:q.1=g
    .rw[AB hq];simp[hq]
    .rw[AE hq,AE hq];unfold zE at e;rw[AE hq]at e;rw[ih e,AB rfl,AB rfl]
  .intro hx;clear hx;rw[AE hgh];induction T with
   |nil=>rfl
   |cons q r ih=>
    rw[AX];unfold zE;by_cases hq:q.1=g
    .have:¬ q.1=h:=λz=>hgh (hq.symm.trans z);rw[AB hq];rw[AE this,AE this];exact ih
    .rw[AE hq];by_cases h1:q.1=h
     .rw[AB h1,AB h1]
     .rw[AE h1,AE h1];exact ih
 unfold Ao;cases e:zE T g with
 |none=>exact app T e
 |some d=>exact mp T (by rw[e];rfl)
def OE (T:List (List Int × D)) (g:Ye) (v:D):(Ao T g v).length<=T.length+1:=by
 unfold Ao;cases zE T g with
 |none=>simp
 |some d=>simp
def dgT (h:M[n]?=some (dT T)):Dw M (.dat (.ref n)) (tI g)=some (zE T g):=by
 unfold Dw;dsimp only;rw[h];dsimp only;rw[Jm];dsimp only;rw[MV]
def GP (h:M[n]?=some (dT T)):Ax neg (.dat (tI g)) (.dat (.ref n)) M=some (.dat (.bl (if neg then !(zE T g).isSome else (zE T g).isSome)),M):=by
 unfold Ax;dsimp only;rw[dgT h]
def Gg (h:M[n]?=some (dT T)) (hd:zE T g=some d):Ay (.dat (.ref n)) (.dat (tI g)) M=some (.dat d,M):=by
 unfold Ay;dsimp only;rw[dgT h,hd]
def Fe (h:M[n]?=some (dT T)) (hz:T.length<90000):FR M n (tI g) v=some (M.set n (dT (Ao T g v))):=by
 unfold FR;rw[h];dsimp only;rw[Jm];dsimp only;rw[AB (by rw[AG];exact BB hz (Bf (by omega))),bH]
noncomputable def Lq:FS:=(zS (AM 1 JA)
  (zS (Bl (AQ (zM Dz (zD (toD (zM EZ (zD (toD (zC 0)) zI))) zI))) (gN 2) (Bl (A1 (zD (toD (fB Aw (zP (fOp kIx (zC 0) (fC (.int 0))) zd))) zI)) (gN 3) (zS (AM 4 (zM DM (zD (toD (zC 0)) (zD (toD (zC 2)) (zD (toD (zC 3)) zI)))))
  (zS (sIf (tst (fOp (Ax true) (zC 4) (zC 1))) (Cg (Ar zI) (zC 1) (zC 4)) Ap)
  (B6 (fM C8 (fOp Ay (zC 1) (zC 4)) (zD (toD (zC 2)) zI)))))))
  (AL (zC 1))))
noncomputable def IB:FF:=Ak 5 Lq
noncomputable def C1 (zA:Ya) (ps:List (List Int × Int)) (g:Ye):List (List Int):=(ps.filter λq=>decide (setR zA q.1 q.2=g)).map (·.1)
def Oe (zA:Ya) (ps:List (List Int × Int)) (p:Ye) (x:Int) (g:Ye):C1 zA (ps++[(p,x)]) g=C1 zA ps g++(if setR zA p x=g then [p] else []):=by
 unfold C1;rw[List.filter_append,CK];congr 1;by_cases h:setR zA p x=g
 .rw[AB h,List.filter_cons_of_pos (by simpa using h)];rfl
 .rw[AE h,List.filter_cons_of_neg (by simpa using h)];rfl
structure Sr (zA:Ya) (M:Mem) (jd lo:Nat) (ps:List (List Int × Int)):Prop where
 ex:∃ T:List (List Int × D),M[jd]?=some (dT T)/\T.length<=ps.length/\(∀ g d,zE T g=some d -> ∃ j,d=.ref j/\lo<j/\M[j]?=some (.lst ((C1 zA ps g).map tI)))/\(∀ g,zE T g=none->C1 zA ps g=[]) /\ ∀ g g' j,zE T g=some (.ref j)->zE T g'=some (.ref j)->g=g'
def iT {zA:Ya} {l:Nat} (m:IsM zA l) (hR:zA.length<64) {M:Mem} {jd lo:Nat} {ps:List (List Int × Int)} (hps:ps.length<50000) (hlo:jd<lo) (hlo2:lo<M.length) (sr:Sr zA M jd lo ps) {p:Ye} (hp:IsS zA p) {x:Int} (x0:0<=x) (x1:x<l) {y4:Option D} :
  OkS (zS (AM 4 (zM DM (zD (toD (zC 0)) (zD (toD (zC 2)) (zD (toD (zC 3)) zI))))) (zS (sIf (tst (fOp (Ax true) (zC 4) (zC 1))) (Cg (Ar zI) (zC 1) (zC 4)) Ap) (B6 (fM C8 (fOp Ay (zC 1) (zC 4)) (zD (toD (zC 2)) zI)))) [some (mD zA),some (.ref jd),some (tI p),some (.int x),y4] M)
   λo Y' M'=>o=.nx/\(∃ y,Y'=[some (mD zA),some (.ref jd),some (tI p),some (.int x),y])/\Sr zA M' jd lo (ps++[(p,x)])/\M.length<=M'.length /\ ∀ j,j<=lo->j≠jd->M'[j]?=M[j]?:=by
 obtain ⟨T,ed,hT,h1,h2,h3⟩:=sr.ex;refine EB (zf (zt rfl (zt rfl (zg rfl))) (JX m hR hp x0 x1)) ?_;generalize hg:setR zA p x=goal;show OkS (zS _ _ [some (mD zA),some (.ref jd),some (tI p),some (.int x),some (tI goal)] M) _;rw[zN,Ca];refine zF (M:=M) (a:=!(zE T goal).isSome) (BR (zK (x:=.dat (tI goal)) (y:=.dat (.ref jd)) rfl rfl (GP ed))) ?_
 have last:∀ (A:Mem) (T':List (List Int × D)) (j:Nat),A[jd]?=some (dT T')->zE T' goal=some (.ref j)->lo<j->A[j]?=some (.lst ((C1 zA ps goal).map tI))->T'.length<=ps.length+1->M.length<=A.length->(∀ j,j<=lo->j≠jd->A[j]?=M[j]?) ->
   (∀ g d,zE T' g=some d -> ∃ j,d=.ref j/\lo<j/\A[j]?=some (.lst ((C1 zA ps g).map tI)))->(∀ g,zE T' g=none->C1 zA ps g=[])->(∀ g g' j,zE T' g=some (.ref j)->zE T' g'=some (.ref j)->g=g') ->
   OkS (B6 (fM C8 (fOp Ay (zC 1) (zC 4)) (zD (toD (zC 2)) zI)) [some (mD zA),some (.ref jd),some (tI p),some (.int x),some (tI goal)] A)
    λo Y' M'=>o=.nx/\(∃ y,Y'=[some (mD zA),some (.ref jd),some (tI p),some (.int x),y])/\Sr zA M' jd lo (ps++[(p,x)])/\M.length<=M'.length /\ ∀ j,j<=lo->j≠jd->M'[j]?=M[j]?:=by
  intro A T' j ea el hj ej hz hle hfr k1 k2 k3;rw[Hg];have hfl:(C1 zA ps goal).length<=ps.length:=by unfold C1;rw[AG];exact Fu _ _
  have jl:j<A.length:=(AK.mp ej).1;refine Hu.mpr (zF (zK (x:=.dat (.ref jd)) (y:=.dat (tI goal)) rfl rfl (Gg ea el)) ⟨⟨_,D0 ej⟩,zF (zg (d:=tI p) rfl) ?_⟩);rw[NW ej (by rw[AG];exact BB (m:=95000) (by omega) (Bf (by omega)))];refine ⟨rfl,⟨_,rfl⟩,⟨T',by rw[A8 (by omega)];exact ea,by simpa using hz,λg d hd=>?_,λg hd=>?_,k3⟩,by simpa using hle,λi hi hn=>by rw[A8 (by omega)];exact hfr i hi hn⟩
  .obtain ⟨j',rfl,hj',ej'⟩:=k1 g d hd;refine ⟨j',rfl,hj',?_⟩;rw[Oe,hg];by_cases hgg:goal=g
   .subst hgg;rw[el]at hd;cases hd;rw[C2 jl,AB rfl,CK];rfl
   .rw[AE hgg,BF];have:j≠j':=λz=>hgg (k3 goal g j el (by rw[z];exact hd));rw[A8 this];exact ej'
  .rw[Oe,hg,AE (λz=>by rw[<-z,el]at hd;cases hd),BF];exact k2 g hd
 cases hl:zE T goal with
 |some d=>
  obtain ⟨j,rfl,hj,ej⟩:=h1 goal d hl;rw[AE (by simp),C4,zU];exact last M T j ed hl hj ej (by omega) (AF _) (λ_ _ _=>rfl) h1 h2 h3
 |none=>
  rw[AB (by simp)];have e0:=h2 goal hl;have jdl:jd<M.length:=(AK.mp ed).1;have ed':(M++[MO.lst ([]:List D)])[jd]?=some (dT T):=by rw[AW jdl];exact ed
  refine ⟨.nx,[some (mD zA),some (.ref jd),some (tI p),some (.int x),some (tI goal)],(M++[MO.lst ([]:List D)]).set jd (dT (Ao T goal (.ref M.length))),?_,?_⟩
  .unfold Cg;rw[show toD (Ar zI) [some (mD zA),some (.ref jd),some (tI p),some (.int x),some (tI goal)] M=some (.ref M.length,M++[.lst []]) by
    unfold toD Ar zI;dsimp only;rw[AB (Bf (by simp))]]
   dsimp only;rw[show toD (zC 1) [some (mD zA),some (.ref jd),some (tI p),some (.int x),some (tI goal)] (M++[.lst []])=some (.ref jd,M++[.lst []])from rfl];dsimp only;rw[show toD (zC 4) [some (mD zA),some (.ref jd),some (tI p),some (.int x),some (tI goal)] (M++[.lst []])=some (tI goal,M++[.lst []])from rfl];dsimp only;rw[Fe ed' (by omega)]
  rw[zU];have hput:=λg=>Io T goal g (.ref M.length);refine last _ (Ao T goal (.ref M.length)) M.length (C2 (by simp;omega)) (by rw[hput,AB rfl]) hlo2 ?_ (by have:=OE T goal (.ref M.length);omega) (by simp) (λi hi hn=>?_) (λg d hd=>?_) (λg hd=>?_) (λg g' j hd hd'=>?_)
  .rw[A8 (by omega),e0];simp
  .rw[A8 (Ne.symm hn),AW (by omega)]
  .rw[hput]at hd;by_cases hgg:goal=g
   .subst hgg;rw[AB rfl]at hd;cases hd;exact ⟨M.length,rfl,hlo2,by rw[A8 (by omega),e0];simp⟩
   .rw[AE hgg]at hd;obtain ⟨j,rfl,hj,ej⟩:=h1 g d hd;exact ⟨j,rfl,hj,by rw[A8 (by omega),AW (AK.mp ej).1];exact ej⟩
  .rw[hput]at hd;by_cases hgg:goal=g
   .rw[AB hgg]at hd;cases hd
   .rw[AE hgg]at hd;exact h2 g hd
  .rw[hput]at hd hd';by_cases a:goal=g
   .by_cases b:goal=g'
    .rw[<-a,<-b]
    .rw[AB a]at hd;rw[AE b]at hd';cases hd;obtain ⟨j,e,_,ej⟩:=h1 g' _ hd';cases e;exact absurd (AK.mp ej).1 (BV _)
   .rw[AE a]at hd;by_cases b:goal=g'
    .rw[AB b]at hd';cases hd';obtain ⟨j,e,_,ej⟩:=h1 g _ hd;cases e;exact absurd (AK.mp ej).1 (BV _)
    .rw[AE b]at hd';exact h3 g g' j hd hd'
noncomputable def zG (zA:Ya):List Int:=(List.range zA.length).map λ(k:Nat)=>(k:Int)
noncomputable def DZ (l:Nat) (ps:Ya):List (List Int × Int):=ps.flatMap λp=>(List.range l).map λ(x:Nat)=>(p,(x:Int))
def NC (l:Nat) (ps:Ya):(DZ l ps).length=ps.length*l:=by
 unfold DZ;induction ps with
 |nil=>simp
 |cons p r ih=>rw[List.flatMap_cons,An,ih,AG,ET,Ba,Nat.add_mul];omega
def Ht (xs:Ye):(zQ xs).length<=xs.length*xs.length:=by
 unfold zQ;have:∀ (r:Ye),(r.flatMap λa=>(xs.filter λb=>decide (a<b)).map λb=>[a,b]).length<=r.length*xs.length:=by
  intro r;induction r with
  |nil=>simp
  |cons a r ih=>
   rw[List.flatMap_cons,An,AG,Ba,Nat.add_mul];have:=Fu (λb=>decide (a<b)) xs;omega
 exact this xs
def OW (h:p∈zQ (zG zA)):IsS zA p:=by
 obtain ⟨a,b,rfl,ha,hb,hlt⟩:=zn.mp h;obtain ⟨i,hi,rfl⟩:=Ag.mp ha;obtain ⟨j,hj,rfl⟩:=Ag.mp hb;have:=Bo.mp hi;have:=Bo.mp hj;refine ⟨by simp;omega,by simp,λx hx=>?_⟩;simp only[AI,BU,Be]at hx;omega
def Km {M M1:Mem} (ha:a Y M=some (ds,M)) (hg:g ds M=some (.ref j,M1)) (hj:M1[j]?=some (.lst xs)):AQ (zM g a) Y M=some (xs,CO (.dat (.ref j)) xs,M1):=by
 have:zM g a Y M=some (.dat (.ref j),M1):=by unfold zM;rw[ha];dsimp only;rw[hg]
 unfold AQ;rw[this];dsimp only;rw[CT hj]
def SQ {zA:Ya} {l:Nat} (m:IsM zA l) (hR:zA.length<64) (hl:l<=12) {M:Mem}:Ok (IB [mD zA] M) λd M'=>d=.ref M.length/\Sr zA M' M.length (M.length+1) (DZ l (zQ (zG zA)))/\M.length+1<M'.length /\ ∀ j,j<M.length->M'[j]?=M[j]?:=by
 unfold IB;rw[zw];unfold Lq;show OkS (zS _ _ [some (mD zA),none,none,none,none] M) _;rw[zN,zh];refine zF (M:=M++[.dicT []]) (a:=.dat (.ref M.length)) rfl ?_;rw[zL,zU,zN,Ed];show ∃ xs gd M1,AQ _ [some (mD zA),some (.ref M.length),none,none,none] (M++[.dicT []])=some (xs,gd,M1)/\_;have hrl:(zG zA).length=zA.length:=by unfold zG;simp
 have epr:=MZ (xs:=zG zA) (by omega) (M:=M++[.dicT []]);refine ⟨_,_,_,Km (zg (d:=tI (zG zA)) (zf (zg (d:=mD zA) rfl) (Md (by omega)))) epr (B8 _ _),?_⟩;rw[show (M++[MO.dicT []]).length=M.length+1 by simp];generalize hP:zQ (zG zA)=P;have hPl:P.length<=3969:=by
  rw[<-hP];have h1:=Ht (zG zA);rw[hrl]at h1;exact AZ h1 (Eh (show zA.length<=63 by omega) (show zA.length<=63 by omega))
 have e1:(M++[MO.dicT []]++[MO.lst (P.map tI)])[M.length+1]?=some (.lst (P.map tI)):=by
  rw[BL,DV (by omega)];simp
 have e0:(M++[MO.dicT []]++[MO.lst (P.map tI)])[M.length]?=some (dT []):=by
  rw[BL,DV (by omega)];simp
 have ef:∀ j,j<M.length->(M++[MO.dicT []]++[MO.lst (P.map tI)])[j]?=M[j]?:=λj hj=>by rw[BL,AW hj]
 have el:(M++[MO.dicT []]++[MO.lst (P.map tI)]).length=M.length+2:=by simp
 generalize M++[MO.dicT []]++[MO.lst (P.map tI)]=M1 at e1 e0 ef el;refine E1 (I:=λr Y M'=>(∃ y2 y3 y4,Y=[some (mD zA),some (.ref M.length),y2,y3,y4]) /\ ∃ us vs:List (List Int),P=us++vs/\r=vs.map tI/\Sr zA M' M.length (M.length+1) (DZ l us)/\M'[M.length+1]?=some (.lst (P.map tI))/\M.length+1<M'.length /\ ∀ j,j<M.length->M'[j]?=M[j]?) ?_ ?_ _ _ _ ⟨⟨_,_,_,rfl⟩,[],P,rfl,rfl,⟨[],e0,by simp,(λg d h=>by cases h),(λ_ _=>rfl),(λg g' j h=>by cases h)⟩,e1,by omega,ef⟩
 .intro x r Y M' hI;refine Classical.byContradiction λG=>?_;obtain ⟨⟨y2,y3,y4,eI1⟩,us,vs,hab,hr,sr,ep,hlen,hfr⟩:=hI;refine G ?_;clear G;subst eI1;cases vs with
  |nil=>cases hr
  |cons p vs=>
   rw[AX]at hr;obtain ⟨rfl,rfl⟩:=Cf hr;have hpm:p∈zQ (zG zA):=by rw[hP,hab];simp
   have hul:us.length<3969:=by have:=BJ List.length hab;simp at this;omega
   refine ⟨.inl ep,_,rfl,?_⟩;show OkS (Bl _ _ _ [some (mD zA),some (.ref M.length),some (tI p),y3,y4] M') _;rw[Ed];refine ⟨_,_,_,El (Jl m rfl) (by omega) (by omega),?_⟩;rw[show (l:Int).toNat=l by omega];refine Ij (n:=l) (I:=λi Y M''=>(∃ y3 y4,Y=[some (mD zA),some (.ref M.length),some (tI p),y3,y4])/\Sr zA M'' M.length (M.length+1) (DZ l us++(List.range i).map λ(x:Nat)=>(p,(x:Int)))/\M''[M.length+1]?=some (.lst (P.map tI))/\M.length+1<M''.length /\ ∀ j,j<M.length->M''[j]?=M[j]?) ?_ ?_ _ _ ⟨⟨_,_,rfl⟩,by simpa using sr,ep,hlen,hfr⟩
   .intro i Y M2 hi hI;refine Classical.byContradiction λG=>?_;obtain ⟨⟨y3,y4,eI1⟩,sr2,ep2,hlen2,hfr2⟩:=hI;refine G ?_;clear G;subst eI1;refine ⟨_,rfl,?_⟩;have hcount:(DZ l us++(List.range i).map λ(x:Nat)=>(p,(x:Int))).length<50000:=by
     rw[An,NC,AG,ET];have:=Eh (show us.length<=3968 by omega) hl;omega
    refine OkS.mono (iT m hR hcount (Dq _) hlen2 sr2 (OW hpm) (x:=(i:Int)) (by omega) (by omega)) ?_;intro o Y' M3 hI;refine Classical.byContradiction λG=>?_;obtain ⟨eI1,⟨y,eI2⟩,sr3,hl3,hf3⟩:=hI;refine G ?_;clear G;subst eI1 eI2;refine ⟨⟨_,_,rfl⟩,?_,by rw[hf3 _ (AF _) (by omega)];exact ep2,by omega,λj hj=>by rw[hf3 j (by omega) (by omega)];exact hfr2 j hj⟩;rw[List.range_succ,CK,<-BL];exact sr3
   .intro Y M2 hI;refine Classical.byContradiction λG=>?_;obtain ⟨⟨y3,y4,eI1⟩,sr2,ep2,hlen2,hfr2⟩:=hI;refine G ?_;clear G;subst eI1;refine ⟨⟨_,_,_,rfl⟩,us++[p],vs,by rw[hab];simp,rfl,?_,ep2,hlen2,hfr2⟩;have:DZ l (us++[p])=DZ l us++(List.range l).map λ(x:Nat)=>(p,(x:Int)):=by
     unfold DZ;rw[List.flatMap_append];simp
    rw[this];exact sr2
 .intro Y M' hI;refine Classical.byContradiction λG=>?_;obtain ⟨⟨y2,y3,y4,eI1⟩,us,vs,hab,hr,sr,ep,hlen,hfr⟩:=hI;refine G ?_;clear G;subst eI1;have:vs=[]:=by cases vs with|nil=>rfl|cons _ _=>cases hr
  subst this;rw[BF]at hab;subst hab;refine ⟨.inl ep,?_⟩;rw[zU];exact zq rfl ⟨rfl,sr,hlen,hfr⟩
noncomputable def Kr:FS:=(zS (AM 2 (zM IB (zD (toD (zC 0)) zI)))
  (zS (AM 3 (zC 1))
  (zS (AM 4 (CL true [5] (AQ (zC 1)) (gN 5) zZ (zC 5) (fC (.int 0))))
  (zS (Ce (GY (zC 3)) (zS (AM 6 (Ar zI))
  (zS (Bl (AQ (zC 3)) (gN 5) (Bl (AQ (Cy (zC 2) (zC 5) (Ar zI))) (gN 7) (sIf (tst (fOp (Ax true) (zC 7) (zC 4))) (zS (Cg (fOp BE (fOp Ay (zC 4) (zC 5)) (fC (.int 1))) (zC 4) (zC 7))
  (B6 (fM C8 (zC 6) (zD (toD (zC 7)) zI)))) Ap)))
  (AM 3 (zC 6)))) 1000)
  (AL (zC 4))))))
noncomputable def Hh:FF:=Ak 8 Kr
noncomputable abbrev Fd:=List (List Int × D) × List (List Int)
noncomputable def Af (k:Int) (st:Fd) (p:Ye):Fd:=if (zE st.1 p).isSome then st else (Ao st.1 p (.int k),st.2++[p])
structure Lv (M0 M:Mem) (jf jb:Nat) (st:Fd):Prop where
 f:M[jf]?=some (dT st.1)
 b:M[jb]?=some (.lst (st.2.map tI))
 len:M0.length<=M.length
 fr:∀ j,j<M0.length->j≠jf->j≠jb->M[j]?=M0[j]?
def Us (k:Int) (st:Fd) (p:Ye):(Af k st p).1.length<=st.1.length+1/\(Af k st p).2.length<=st.2.length+1:=by
 unfold Af;split
 .exact ⟨by omega,by omega⟩
 .exact ⟨OE _ _ _,by simp⟩
def Ws {M0:Mem} {jf jb js jd jl:Nat} {zA:Ya} {x1 x3 y7:Option D} {goal:Ye} {k:Int} {ps:Ya} (hne:jf≠jb) (h1:jf<M0.length) (h2:jb<M0.length) :
  ∀ (M:Mem) (st:Fd),Lv M0 M jf jb st->M[js]?=some (.lst (ps.map tI))->js≠jf->js≠jb->zE st.1 goal=some (.int k)->st.1.length+ps.length<=80000->st.2.length+ps.length<=80000 ->
  OkS (C0 (gN 7) (sIf (tst (fOp (Ax true) (zC 7) (zC 4))) (zS (Cg (fOp BE (fOp Ay (zC 4) (zC 5)) (fC (.int 1))) (zC 4) (zC 7)) (B6 (fM C8 (zC 6) (zD (toD (zC 7)) zI)))) Ap) (ps.map tI) (CO (.dat (.ref js)) (ps.map tI)) (ps.map tI) [some (mD zA),x1,some (.ref jd),x3,some (.ref jf),some (tI goal),some (.ref jb),y7] M)
   λo Y' M'=>o=.nx/\(∃ y,Y'=[some (mD zA),x1,some (.ref jd),x3,some (.ref jf),some (tI goal),some (.ref jb),y])/\Lv M0 M' jf jb (ps.foldl (Af (k+1)) st)/\M'.length=M.length /\ ∀ j,j≠jf->j≠jb->M'[j]?=M[j]?:=by
 intro M st lv ejs n1 n2 hgl z1 z2;refine E1 (I:=λr Y M'=>(∃ y,Y=[some (mD zA),x1,some (.ref jd),x3,some (.ref jf),some (tI goal),some (.ref jb),y]) /\ ∃ us vs:List (List Int),ps=us++vs/\r=vs.map tI/\Lv M0 M' jf jb (us.foldl (Af (k+1)) st)/\zE (us.foldl (Af (k+1)) st).1 goal=some (.int k)/\(us.foldl (Af (k+1)) st).1.length<=st.1.length+us.length/\(us.foldl (Af (k+1)) st).2.length<=st.2.length+us.length/\M'.length=M.length /\ ∀ j,j≠jf->j≠jb->M'[j]?=M[j]?) ?_ ?_ _ _ _ ⟨⟨_,rfl⟩,[],ps,rfl,rfl,lv,hgl,by simp,by simp,rfl,λ_ _ _=>rfl⟩
 .intro x r Y M' hI;refine Classical.byContradiction λG=>?_;obtain ⟨⟨y,eI1⟩,us,vs,hab,hr,lv',hg',l1,l2,hl,hfr⟩:=hI;refine G ?_;clear G;subst eI1;cases vs with
  |nil=>cases hr
  |cons p vs=>
   rw[AX]at hr;obtain ⟨rfl,rfl⟩:=Cf hr;have hul:us.length<ps.length:=by rw[hab];simp
   refine ⟨.inl (by rw[hfr js n1 n2];exact ejs),_,rfl,?_⟩;show OkS (sIf _ _ _ [some (mD zA),x1,some (.ref jd),x3,some (.ref jf),some (tI goal),some (.ref jb),some (tI p)] M') _;have hfold:(us++[p]).foldl (Af (k+1)) st=Af (k+1) (us.foldl (Af (k+1)) st) p:=by rw[List.foldl_append];rfl
   generalize us.foldl (Af (k+1)) st=st' at lv' hg' l1 l2 hfold;have al:=Us (k+1) st' p;rw[Ca];refine zF (M:=M') (a:=!(zE st'.1 p).isSome) (BR (zK (x:=.dat (tI p)) (y:=.dat (.ref jf)) rfl rfl (GP lv'.f))) ?_;cases hlk:zE st'.1 p with
   |some d=>
    have ea:Af (k+1) st' p=st':=by unfold Af;rw[hlk];rfl
    rw[AE (by simp),C4];refine ⟨⟨_,rfl⟩,us++[p],vs,by rw[hab];simp,rfl,?_⟩;rw[hfold,ea];exact ⟨lv',hg',by simp;omega,by simp;omega,hl,hfr⟩
   |none=>
    have ea:Af (k+1) st' p=(Ao st'.1 p (.int (k+1)),st'.2++[p]):=by unfold Af;rw[hlk];rfl
    have hgp:p≠goal:=λz=>by rw[z,hg']at hlk;cases hlk
    rw[AB (by simp),zN];have ev:fOp BE (fOp Ay (zC 4) (zC 5)) (fC (.int 1)) [some (mD zA),x1,some (.ref jd),x3,some (.ref jf),some (tI goal),some (.ref jb),some (tI p)] M'=some (.dat (.int (k+1)),M'):=zK (x:=.dat (.int k)) (zK (x:=.dat (.ref jf)) (y:=.dat (tI goal)) rfl rfl (Gg lv'.f hg')) rfl rfl;have hd:OkS (Cg (fOp BE (fOp Ay (zC 4) (zC 5)) (fC (.int 1))) (zC 4) (zC 7) [some (mD zA),x1,some (.ref jd),x3,some (.ref jf),some (tI goal),some (.ref jb),some (tI p)] M') λo Y' M2=>o=.nx/\Y'=[some (mD zA),x1,some (.ref jd),x3,some (.ref jf),some (tI goal),some (.ref jb),some (tI p)]/\M2=M'.set jf (dT (Ao st'.1 p (.int (k+1)))):=by
     refine ⟨.nx,_,_,?_,rfl,rfl,rfl⟩;unfold Cg;rw[show toD (fOp BE (fOp Ay (zC 4) (zC 5)) (fC (.int 1))) [some (mD zA),x1,some (.ref jd),x3,some (.ref jf),some (tI goal),some (.ref jb),some (tI p)] M'=some (.int (k+1),M') by unfold toD;rw[ev]];dsimp only;rw[show toD (zC 4) [some (mD zA),x1,some (.ref jd),x3,some (.ref jf),some (tI goal),some (.ref jb),some (tI p)] M'=some (.ref jf,M')from rfl];dsimp only;rw[show toD (zC 7) [some (mD zA),x1,some (.ref jd),x3,some (.ref jf),some (tI goal),some (.ref jb),some (tI p)] M'=some (tI p,M')from rfl];dsimp only;rw[Fe lv'.f (by omega)]
    refine OkS.mono hd ?_;intro o Y' M2 hI;refine Classical.byContradiction λG=>?_;obtain ⟨eI1,eI2,eI3⟩:=hI;refine G ?_;clear G;subst eI1 eI2 eI3;rw[zU,Hg];have eb:(M'.set jf (dT (Ao st'.1 p (.int (k+1)))))[jb]?=some (.lst (st'.2.map tI)):=by rw[A8 hne];exact lv'.b
    refine Hu.mpr (A4.mpr ⟨_,rfl,⟨_,D0 eb⟩,zF (zg (d:=tI p) rfl) ?_⟩);rw[NW eb (by rw[AG];exact BB (m:=95000) (by omega) (Bf (by omega)))];have jfl:jf<M'.length:=BB h1 lv'.len;have jbl:jb<M'.length:=BB h2 lv'.len;refine ⟨⟨_,rfl⟩,us++[p],vs,by rw[hab];simp,rfl,?_⟩;rw[hfold];refine ⟨?_,?_,by simp;omega,by simp;omega,by simp[hl],λj q1 q2=>by rw[A8 (Ne.symm q2),A8 (Ne.symm q1)];exact hfr j q1 q2⟩
    .rw[ea];refine ⟨by rw[A8 (Ne.symm hne),C2 jfl],by rw[C2 (by simpa using jbl),CK];rfl,by simpa using lv'.len,λj q0 q1 q2=>by rw[A8 (Ne.symm q2),A8 (Ne.symm q1)];exact lv'.fr j q0 q1 q2⟩
    .rw[ea];show zE (Ao st'.1 p (.int (k+1))) goal=_;rw[Io,AE hgp];exact hg'
 .intro Y M' hI;refine Classical.byContradiction λG=>?_;obtain ⟨⟨y,eI1⟩,us,vs,hab,hr,lv',hg',l1,l2,hl,hfr⟩:=hI;refine G ?_;clear G;subst eI1;have:vs=[]:=by cases vs with|nil=>rfl|cons _ _=>cases hr
  subst this;rw[BF]at hab;subst hab;exact ⟨.inl (by rw[hfr js n1 n2];exact ejs),rfl,⟨_,rfl⟩,lv',hl,hfr⟩
def U6 {f g:FE} {Y:Sd} {M:Mem} {n:Nat} {T:List (List Int × D)} {k:Ye} (hf:f Y M=some (.dat (.ref n),M)) (hn:M[n]?=some (dT T)) (hg:g Y M=some (.dat (tI k),M)):Cy f g (Ar zI) Y M=some (.dat ((zE T k).getD (.ref M.length)),M++[.lst []]):=by
 have nl:n<M.length:=(AK.mp hn).1;unfold Cy;rw[show toD f Y M=some (.ref n,M) by unfold toD;rw[hf]];dsimp only;rw[hn];dsimp only;rw[show toD g Y M=some (tI k,M) by unfold toD;rw[hg]];dsimp only;rw[show toD (Ar zI) Y M=some (.ref M.length,M++[.lst []]) by
  unfold toD Ar zI;dsimp only;rw[AB (Bf (by simp))]]
 dsimp only;rw[dgT (g:=k) (show (M++[MO.lst ([]:List D)])[n]?=some (dT T) by rw[AW nl];exact hn)]
noncomputable def A3 (src:Y1) (k:Int) (gs:Ya) (st:Fd):Fd:=gs.foldl (λst g=>(src g).foldl (Af (k+1)) st) st
def ZY {k:Int} {st:Fd} {p g:Ye} {d:D} (h:zE st.1 g=some d):zE (Af k st p).1 g=some d:=by
 unfold Af;split
 .exact h
 .rename_i q;show zE (Ao st.1 p (.int k)) g=some d;rw[Io,AE (λz=>q (by rw[z,h];rfl))];exact h
theorem Pp {k:Int} {g:Ye} {d:D}:∀ (ps:Ya) {st:Fd},zE st.1 g=some d->zE (ps.foldl (Af k) st).1 g=some d
 |[],_,h=>h
 |p::r,_,h=>Pp r (ZY h)
def cL (M:Mem) (Ts:List (List Int × D)) (jf jb:Nat) (src:Y1):Prop:=∀ g,(∃ j,zE Ts g=some (.ref j)/\j≠jf/\j≠jb/\M[j]?=some (.lst ((src g).map tI)))\/(zE Ts g=none/\src g=[])
def gE {M0:Mem} {jf jb jd jl:Nat} {zA:Ya} {x1 y5 y7:Option D} {k:Int} {gs:Ya} {src:Y1} {Ts:List (List Int × D)} (hne:jf≠jb) (h1:jf<M0.length) (h2:jb<M0.length) (hd:M0[jd]?=some (dT Ts)) (d1:jd≠jf) (d2:jd≠jb) (hl:M0[jl]?=some (.lst (gs.map tI))) (l1:jl≠jf) (l2:jl≠jb) (hs:cL M0 Ts jf jb src) (B:Nat) (hB:∀ g∈gs,(src g).length<=B)
  {st:Fd} (hg:∀ g∈gs,zE st.1 g=some (.int k)) (Z:Nat) (hZB:Z+B<=80000) (hZ:∀ us vs,gs=us++vs->(A3 src k us st).1.length<=Z/\(A3 src k us st).2.length<=Z) (lv:Lv M0 M0 jf jb st) :
  OkS (C0 (gN 5) (Bl (AQ (Cy (zC 2) (zC 5) (Ar zI))) (gN 7) (sIf (tst (fOp (Ax true) (zC 7) (zC 4))) (zS (Cg (fOp BE (fOp Ay (zC 4) (zC 5)) (fC (.int 1))) (zC 4) (zC 7)) (B6 (fM C8 (zC 6) (zD (toD (zC 7)) zI)))) Ap)) (gs.map tI) (CO (.dat (.ref jl)) (gs.map tI)) (gs.map tI) [some (mD zA),x1,some (.ref jd),some (.ref jl),some (.ref jf),y5,some (.ref jb),y7] M0)
   λo Y' M'=>o=.nx/\(∃ y5 y7,Y'=[some (mD zA),x1,some (.ref jd),some (.ref jl),some (.ref jf),y5,some (.ref jb),y7])/\Lv M0 M' jf jb (A3 src k gs st):=by
 refine E1 (I:=λr Y M'=>(∃ y5 y7,Y=[some (mD zA),x1,some (.ref jd),some (.ref jl),some (.ref jf),y5,some (.ref jb),y7]) /\ ∃ us vs:List (List Int),gs=us++vs/\r=vs.map tI/\Lv M0 M' jf jb (A3 src k us st)/\(∀ g∈gs,zE (A3 src k us st).1 g=some (.int k))) ?_ ?_ _ _ _ ⟨⟨_,_,rfl⟩,[],gs,rfl,rfl,lv,hg⟩
 .intro x r Y M' hI;refine Classical.byContradiction λG=>?_;obtain ⟨⟨y5,y7,eI1⟩,us,vs,hab,hr,lv',hg'⟩:=hI;refine G ?_;clear G;subst eI1;cases vs with
  |nil=>cases hr
  |cons g vs=>
   rw[AX]at hr;obtain ⟨rfl,rfl⟩:=Cf hr;have hgm:g∈gs:=by rw[hab];simp
   have hsb:=hB g hgm;obtain ⟨b1,b2⟩:=hZ us (g::vs) hab;have keep:∀ {j:Nat} {u:MO},M0[j]?=some u->j≠jf->j≠jb->M'[j]?=some u:=λ{j u} e q1 q2=>(lv'.fr j (AK.mp e).1 q1 q2).trans e;refine ⟨.inl (keep hl l1 l2),_,rfl,?_⟩;show OkS (Bl _ _ _ [some (mD zA),x1,some (.ref jd),some (.ref jl),some (.ref jf),some (tI g),some (.ref jb),y7] M') _;have hfold:A3 src k (us++[g]) st=(src g).foldl (Af (k+1)) (A3 src k us st):=by unfold A3;rw[List.foldl_append];rfl
   generalize A3 src k us st=st' at lv' hg' b1 b2 hfold;have e2:=U6 (f:=zC 2) (g:=zC 5) (Y:=[some (mD zA),x1,some (.ref jd),some (.ref jl),some (.ref jf),some (tI g),some (.ref jb),y7]) (M:=M') (k:=g) rfl (keep hd d1 d2) rfl;have lvA:Lv M0 (M'++[.lst []]) jf jb st':=by
    have f1:=(AK.mp lv'.f).1;have f2:=(AK.mp lv'.b).1;have f3:=lv'.len;exact ⟨by rw[AW f1];exact lv'.f,by rw[AW f2];exact lv'.b,by simp;omega,λj q0 q1 q2=>by rw[AW (by omega)];exact lv'.fr j q0 q1 q2⟩
   obtain ⟨js,ejs,n1,n2,el⟩:∃ js,(zE Ts g).getD (.ref M'.length)=.ref js/\js≠jf/\js≠jb/\(M'++[MO.lst ([]:List D)])[js]?=some (.lst ((src g).map tI)):=by
    rcases hs g with ⟨j,e,q1,q2,q3⟩|⟨e,q⟩
    .have:=keep q3 q1 q2;exact ⟨j,by rw[e];rfl,q1,q2,by rw[AW (AK.mp this).1];exact this⟩
    .have:=lv'.len;exact ⟨M'.length,by rw[e];rfl,by omega,by omega,by rw[q];simp⟩
   rw[ejs]at e2;rw[Ed];refine ⟨_,_,_,(show AQ (Cy (zC 2) (zC 5) (Ar zI)) [some (mD zA),x1,some (.ref jd),some (.ref jl),some (.ref jf),some (tI g),some (.ref jb),y7] M'=some ((src g).map tI,CO (.dat (.ref js)) ((src g).map tI),M'++[.lst []]) by unfold AQ;rw[e2];dsimp only;rw[CT el]),?_⟩;refine OkS.mono (Ws (jl:=jl) (k:=k) hne h1 h2 _ st' lvA el n1 n2 (hg' g hgm) (by omega) (by omega)) ?_;intro o Y' M2 hI;refine Classical.byContradiction λG=>?_;obtain ⟨eI1,⟨y,eI2⟩,lv2,_,_⟩:=hI;refine G ?_;clear G;subst eI1 eI2;refine ⟨⟨_,_,rfl⟩,us++[g],vs,by rw[hab];simp,rfl,?_⟩;rw[hfold];exact ⟨lv2,λg' hg''=>Pp _ (hg' g' hg'')⟩
 .intro Y M' hI;refine Classical.byContradiction λG=>?_;obtain ⟨⟨y5,y7,eI1⟩,us,vs,hab,hr,lv',hg'⟩:=hI;refine G ?_;clear G;subst eI1;have:vs=[]:=by cases vs with|nil=>rfl|cons _ _=>cases hr
  subst this;rw[BF]at hab;subst hab;have keep:∀ {j:Nat} {u:MO},M0[j]?=some u->j≠jf->j≠jb->M'[j]?=some u:=λ{j u} e q1 q2=>(lv'.fr j (AK.mp e).1 q1 q2).trans e;exact ⟨.inl (keep hl l1 l2),rfl,⟨_,_,rfl⟩,lv'⟩
def Zu (k:Int) (st:Fd) (p t:Ye):zE (Af k st p).1 t=(if (zE st.1 t).isSome then zE st.1 t else if t=p then some (.int k) else none)/\(t∈(Af k st p).2 ↔ t∈st.2\/(zE st.1 t=none/\t=p)):=by
 unfold Af;by_cases h:(zE st.1 p).isSome=true
 .rw[AB h];constructor
  .by_cases ht:(zE st.1 t).isSome=true
   .rw[AB ht]
   .rw[AE ht,AE (λz=>ht (by rw[z];exact h))];cases e:zE st.1 t with
    |none=>rfl
    |some d=>rw[e]at ht;simp at ht
  .constructor
   .exact .inl
   .rintro (q|⟨q,rfl⟩)
    .exact q
    .rw[q]at h;cases h
 .rw[AE h];have hn:zE st.1 p=none:=by
   cases e:zE st.1 p with
   |none=>rfl
   |some d=>rw[e]at h;simp at h
  constructor
  .rw[Io];by_cases ht:p=t
   .subst ht;rw[AB rfl,AE h,AB rfl]
   .rw[AE ht];by_cases hs:(zE st.1 t).isSome=true
    .rw[AB hs]
    .rw[AE hs,AE (λz=>ht z.symm)];cases e:zE st.1 t with
     |none=>rfl
     |some d=>rw[e]at hs;simp at hs
  .rw[Ai,Aq];constructor
   .rintro (q|rfl)
    .exact .inl q
    .exact .inr ⟨hn,rfl⟩
   .rintro (q|⟨_,q⟩)
    .exact .inl q
    .exact .inr q
theorem QP (k:Int):∀ (ps:Ya) (st:Fd) (t:Ye),zE (ps.foldl (Af k) st).1 t=(if (zE st.1 t).isSome then zE st.1 t else if t∈ps then some (.int k) else none)/\(t∈(ps.foldl (Af k) st).2 ↔ t∈st.2\/(zE st.1 t=none/\t∈ps))
 |[],st,t=>by
  constructor
  .by_cases h:(zE st.1 t).isSome=true
   .rw[AB h];rfl
   .rw[AE h,AE (by simp)];cases e:zE st.1 t with
    |none=>exact e
    |some d=>rw[e]at h;simp at h
  .simp
 |p::r,st,t=>by
  obtain ⟨a1,a2⟩:=Zu k st p t;obtain ⟨b1,b2⟩:=QP k r (Af k st p) t;rw[List.foldl_cons,b1,b2,a2,a1];by_cases h:(zE st.1 t).isSome=true
  .rw[AB h,AB h,AB h];refine ⟨rfl,?_⟩;have hn:¬ zE st.1 t=none:=λz=>by rw[z]at h;cases h
   simp[hn]
  .have hn:zE st.1 t=none:=by
    cases e:zE st.1 t with
    |none=>rfl
    |some d=>rw[e]at h;simp at h
   rw[AE h,AE h];by_cases hp:t=p
   .rw[AB hp];refine ⟨?_,?_⟩
    .rw[AB (show (some (D.int k)).isSome=true from rfl),AB (by rw[hp];exact Ad)]
    .simp[hn,hp]
   .rw[AE hp];refine ⟨?_,?_⟩
    .rw[AE (by simp)];by_cases hr:t∈r
     .rw[AB hr,AB (Am _ hr)]
     .rw[AE hr,AE (by simp[hp,hr])]
    .simp[hn,hp]
def PY (src:Y1) (k:Int) (gs:Ya) (st:Fd) (t:Ye):zE (A3 src k gs st).1 t=(if (zE st.1 t).isSome then zE st.1 t else if t∈gs.flatMap src then some (.int (k+1)) else none)/\(t∈(A3 src k gs st).2 ↔ t∈st.2\/(zE st.1 t=none/\t∈gs.flatMap src)):=by
 have:∀ (gs:Ya) (st:Fd),A3 src k gs st=(gs.flatMap src).foldl (Af (k+1)) st:=by
  intro gs;induction gs with
  |nil=>intro st;rfl
  |cons g r ih=>
   intro st;show A3 src k r ((src g).foldl (Af (k+1)) st)=_;rw[ih,List.flatMap_cons,List.foldl_append]
 rw[this gs st];exact QP (k+1) (gs.flatMap src) st t
def Rch (zA:Ya) (l:Nat) (G:Yq) (t:Ye) (n:Nat):Prop:=∃ w:List Int,w.length=n/\(∀ x∈w,0<=x/\x<(l:Int))/\G (Qo zA t w)
def Dst (zA:Ya) (l:Nat) (G:Yq) (t:Ye) (n:Nat):Prop:=Rch zA l G t n /\ ∀ m,m<n -> ¬ Rch zA l G t m
def IW:Rch zA l G t (n+1) ↔ ∃ x:Int,(0<=x/\x<(l:Int))/\Rch zA l G (setR zA t x) n:=by
 constructor
 .rintro ⟨w,hw,hb,hl⟩;cases w with
  |nil=>cases hw
  |cons x w=>exact ⟨x,hb x Ad,w,by simpa using hw,λy hy=>hb y (Am _ hy),hl⟩
 .rintro ⟨x,hx,w,hw,hb,hl⟩;exact ⟨x::w,by simp[hw],λy hy=>by rcases AI.mp hy with rfl|q;exact hx;exact hb y q,hl⟩
def OD:Rch zA l G t 0 ↔ G t:=by
 constructor
 .rintro ⟨w,hw,_,hl⟩;have:w=[]:=FQ.mp hw;subst this;exact hl
 .intro h;exact ⟨[],rfl,(λ_ h=>by cases h),h⟩
def ER:Dst zA l G t 0 ↔ G t:=by
 unfold Dst;rw[OD];exact ⟨λh=>h.1,λh=>⟨h,λm hm=>by omega⟩⟩
def Gm:Dst zA l G t (n+1) ↔ (∀ m,m<=n -> ¬ Rch zA l G t m) /\ ∃ x:Int,(0<=x/\x<(l:Int))/\Dst zA l G (setR zA t x) n:=by
 constructor
 .rintro ⟨h1,h2⟩;obtain ⟨x,hx,hr⟩:=IW.mp h1;exact ⟨λm hm=>h2 m (by omega),x,hx,hr,λm hm hq=>h2 (m+1) (by omega) (IW.mpr ⟨x,hx,hq⟩)⟩
 .rintro ⟨h1,x,hx,hr,_⟩;exact ⟨IW.mpr ⟨x,hx,hr⟩,λm hm=>h1 m (by omega)⟩
def Qq:∀ n,Rch zA l G t n -> ∃ m,m<=n/\Dst zA l G t m:=by
 intro n;induction n using Nat.strongRecOn with
 |ind n ih=>
  intro h;by_cases q:∃ m,m<n/\Rch zA l G t m
  .obtain ⟨m,hm,hr⟩:=q;obtain ⟨m',h1,h2⟩:=ih m hm hr;exact ⟨m',by omega,h2⟩
  .exact ⟨n,AF _,h,λm hm hr=>q ⟨m,hm,hr⟩⟩
def FP (h1:Dst zA l G t a) (h2:Dst zA l G t b):a=b:=by
 rcases Nat.lt_trichotomy a b with q|q|q
 .exact absurd h1.1 (h2.2 a q)
 .exact q
 .exact absurd h2.1 (h1.2 b q)
def Dk (zA:Ya) (l:Nat) (G:Yq) (U:Yq) (k:Nat) (fd:List (List Int × D)) (lev:Ya):Prop:=(∀ t d,zE fd t=some d ↔ U t /\ ∃ n:Nat,n<=k/\Dst zA l G t n/\d=.int (n:Int)) /\ ∀ t,t∈lev ↔ U t/\Dst zA l G t k
def Kh (h:Dk zA l G U k fd lev) (u:U t):zE fd t=none ↔ ∀ m,m<=k -> ¬ Rch zA l G t m:=by
 constructor
 .intro e m hm hr;obtain ⟨n,hn,hd⟩:=Qq m hr;rw[(h.1 t (.int (n:Int))).mpr ⟨u,n,by omega,hd,rfl⟩]at e;cases e
 .intro q;cases e:zE fd t with
  |none=>rfl
  |some d=>
   obtain ⟨_,n,hn,hd,_⟩:=(h.1 t d).mp e;exact absurd hd.1 (q n hn)
def gY {zA:Ya} {l:Nat} {U P:Yq} {src:Y1} (hs:∀ g t,t∈src g ↔ P t /\ ∃ x:Int,(0<=x/\x<(l:Int))/\setR zA t x=g) (hP:∀ t,P t->U t) (hU:∀ t n,U t -> ¬ G t->Rch zA l G t n->P t) (hc:∀ t (x:Int),U t->0<=x/\x<(l:Int)->U (setR zA t x))
  {k:Nat} {fd:List (List Int × D)} {lev:Ya} (h:Dk zA l G U k fd lev):Dk zA l G U (k+1) (A3 src (k:Int) lev (fd,[])).1 (A3 src (k:Int) lev (fd,[])).2:=by
 have key:∀ t,(zE fd t=none/\t∈lev.flatMap src) ↔ U t/\Dst zA l G t (k+1):=by
  intro t;constructor
  .rintro ⟨e,hm⟩;obtain ⟨g,hg,ht⟩:=List.mem_flatMap.mp hm;obtain ⟨p,x,hx,hq⟩:=(hs g t).mp ht;have u:=hP t p;refine ⟨u,Gm.mpr ⟨(Kh h u).mp e,x,hx,?_⟩⟩;rw[hq];exact ((h.2 g).mp hg).2
  .rintro ⟨u,hd⟩;obtain ⟨q,x,hx,hr⟩:=Gm.mp hd;refine ⟨(Kh h u).mpr q,List.mem_flatMap.mpr ⟨setR zA t x,(h.2 _).mpr ⟨hc t x u hx,hr⟩,(hs _ t).mpr ⟨hU t _ u ?_ hd.1,x,hx,rfl⟩⟩⟩;intro h1;exact q 0 (BQ _) (OD.mpr h1)
 constructor
 .intro t d;rw[(PY src (k:Int) lev (fd,[]) t).1];cases e:zE fd t with
  |some d'=>
   rw[AB (show (some d').isSome=true from rfl)];obtain ⟨u,n,hn,hd,rfl⟩:=(h.1 t d').mp e;constructor
   .intro z;cases z;exact ⟨u,n,by omega,hd,rfl⟩
   .rintro ⟨_,m,_,hm,rfl⟩;rw[FP hm hd]
  |none=>
   rw[AE (by simp)];by_cases hm:t∈lev.flatMap src
   .rw[AB hm];obtain ⟨u,hd⟩:=(key t).mp ⟨e,hm⟩;constructor
    .intro z;cases z;exact ⟨u,k+1,AF _,hd,by simp⟩
    .rintro ⟨_,m,_,hm',rfl⟩;rw[FP hm' hd];simp
   .rw[AE hm];constructor
    .intro z;cases z
    .rintro ⟨u,m,hk,hd,rfl⟩;exfalso;by_cases hmk:m<=k
     .exact (Kh h u).mp e m hmk hd.1
     .have:m=k+1:=by omega
      subst this;exact hm ((key t).mpr ⟨u,hd⟩).2
 .intro t;rw[(PY src (k:Int) lev (fd,[]) t).2];rw[key t];simp
def eN {zA:Ya} {l:Nat} {G:Yq} {U:Yq} (hc:∀ t (x:Int),U t->0<=x/\x<(l:Int)->U (setR zA t x)) {k:Nat} {fd:List (List Int × D)} (h:Dk zA l G U k fd []) (t:Ye) (d:D):zE fd t=some d ↔ U t /\ ∃ n:Nat,Dst zA l G t n/\d=.int (n:Int):=by
 have far:∀ n t,U t -> ¬ Dst zA l G t (k+n):=by
  intro n;induction n with
  |zero=>intro t u hd;exact absurd ((h.2 t).mpr ⟨u,hd⟩) (by simp)
  |succ n ih=>
   intro t u hd;obtain ⟨_,x,hx,hr⟩:=Gm.mp (show Dst zA l G t ((k+n)+1)from hd);exact ih _ (hc t x u hx) hr
 rw[h.1 t d];constructor
 .rintro ⟨u,n,_,a,b⟩;exact ⟨u,n,a,b⟩
 .rintro ⟨u,n,a,b⟩;refine ⟨u,n,?_,a,b⟩;by_cases q:n<=k
  .exact q
  .exfalso;have e:n=k+(n-k):=by omega
   rw[e]at a;exact far _ t u a
def Th (zA:Ya) (t:Ye):Prop:=IsS zA t/\t.length<=2
noncomputable def Bz (zA:Ya) (l:Nat) (g:Ye):List (List Int):=C1 zA (DZ l (zQ (zG zA))) g
def Zg (g t:Ye):t∈Bz zA l g ↔ t∈zQ (zG zA) /\ ∃ x:Int,(0<=x/\x<(l:Int))/\setR zA t x=g:=by
 unfold Bz C1 DZ;simp only[Ag,C9,List.mem_flatMap,Bo,CA];constructor
 .rintro ⟨q,⟨⟨p,hp,k,hk,rfl⟩,hq⟩,rfl⟩;exact ⟨hp,(k:Int),⟨by omega,by omega⟩,hq⟩
 .rintro ⟨hp,x,⟨x0,x1⟩,hq⟩;refine ⟨(t,x),⟨⟨t,hp,x.toNat,by omega,?_⟩,hq⟩,rfl⟩;rw[show ((x.toNat:Nat):Int)=x by omega]
def zc:x∈zG zA ↔ 0<=x/\x<(zA.length:Int):=by
 unfold zG;simp only[Ag,Bo];constructor
 .rintro ⟨k,hk,rfl⟩;omega
 .rintro ⟨h0,h1⟩;exact ⟨x.toNat,by omega,by omega⟩
def E3 (t:Ye) (h:t∈zQ (zG zA)):Th zA t:=by
 refine ⟨OW h,?_⟩;obtain ⟨a,b,rfl,_⟩:=zn.mp h;exact AF _
def PQ (t:Ye) (h:Th zA t) (h1:t.length≠1):t∈zQ (zG zA):=by
 obtain ⟨⟨pw,n0,hm⟩,h2⟩:=h;match t,pw,n0,hm,h1,h2 with
 |[a,b],pw,_,hm,_,_=>
  exact zn.mpr ⟨a,b,rfl,zc.mpr (hm a (by simp)),zc.mpr (hm b (by simp)),by simpa using pw⟩
 |[a],_,_,_,h1,_=>exact absurd rfl h1
 |[],_,n0,_,_,_=>cases n0
 |_::_::_::_,_,_,_,_,h2=>simp at h2
def Em (m:IsM zA l) (t:Ye) (x:Int) (h:Th zA t) (hx:0<=x/\x<(l:Int)):Th zA (setR zA t x):=by
 refine ⟨m.setR h.1 hx.1 hx.2,?_⟩;have:=Pt (t.map λh=>zb zA h x);rw[AG]at this;exact AZ this h.2
def F3 (zA:Ya) (G:Yq):Prop:=(∀ t,Th zA t->t.length=1->G t) \/ ∀ t,t.length=1 -> ¬ G t
theorem RU (m:IsM zA l):∀ (w t:Ye),Th zA t->t.length=1->(∀ x∈w,0<=x/\x<(l:Int))->(Qo zA t w).length=1
 |[],_,_,h,_=>h
 |x::w,t,u,h,hw=>by
  have hx:=hw x Ad;have u':=Em m t x u hx;refine RU m w (setR zA t x) u' ?_ λy hy=>hw y (Am _ hy);have h1:=Pt (t.map λh=>zb zA h x);rw[AG,h]at h1;have h2:=u'.1.n0;have h3:(setR zA t x).length<=1:=h1;omega
def RE (m:IsM zA l) (o:F3 zA G) (t:Ye) (n:Nat) (u:Th zA t) (g:¬ G t) (r:Rch zA l G t n):t∈zQ (zG zA):=by
 refine PQ t u λh1=>?_;rcases o with o|o
 .exact g (o t u h1)
 .obtain ⟨w,_,hw,hg⟩:=r;exact o _ (RU m w t u h1 hw) hg
def Mr (m:IsM zA l) (o:F3 zA G) (h:Dk zA l G (Th zA) k fd lev):Dk zA l G (Th zA) (k+1) (A3 (Bz zA l) (k:Int) lev (fd,[])).1 (A3 (Bz zA l) (k:Int) lev (fd,[])).2 :=
 gY (P:=λt=>t∈zQ (zG zA)) Zg E3 (RE m o) (Em m) h
def Vs (hts:∀ t,t∈ts ↔ Th zA t/\G t) (h:∀ t d,zE fd t=some d ↔ t∈ts/\d=.int 0):Dk zA l G (Th zA) 0 fd ts:=by
 have key:∀ t,t∈ts ↔ Th zA t/\Dst zA l G t 0:=λt=>by rw[ER,hts]
 refine ⟨λt d=>?_,key⟩;rw[h t d,key t];constructor
 .rintro ⟨⟨a,b⟩,rfl⟩;exact ⟨a,0,AF _,b,by simp⟩
 .rintro ⟨a,n,hn,b,rfl⟩;have:n=0:=by omega
  subst this;exact ⟨⟨a,b⟩,by simp⟩
abbrev One (t:Ye):Prop:=t.length=1
def Vy (t:Ye):t∈(zG zA).map (λr=>[r]) ↔ Th zA t/\One t:=by
 rw[Ag];constructor
 .rintro ⟨r,hr,rfl⟩;have:=zc.mp hr;refine ⟨⟨⟨by simp,by simp,λx hx=>?_⟩,by simp⟩,rfl⟩;rw[Aq]at hx;subst hx;exact this
 .rintro ⟨⟨s,_⟩,h1⟩;obtain ⟨r,rfl⟩:=List.length_eq_one_iff.mp h1;exact ⟨r,zc.mpr (s.mem r (by simp)),rfl⟩
def OF:F3 zA One:=.inl λ_ _ h=>h
def whole (m:IsM zA l) (h:Dk zA l G (Th zA) k fd []) (t:Ye) (d:D):zE fd t=some d ↔ Th zA t /\ ∃ n:Nat,Dst zA l G t n/\d=.int (n:Int):=eN (Em m) h t d
theorem LH {α:Type} [DecidableEq α]:∀ (xs ys:List α),xs.Nodup->(∀ x∈xs,x∈ys)->xs.length<=ys.length
 |[],_,_,_=>BQ _
 |x::r,ys,h,hm=>by
  obtain ⟨h1,h2⟩:=EK.mp h;have hx:x∈ys:=hm x Ad;have:=LH r (ys.erase x) h2 λy hy=>(List.mem_erase_of_ne (λz=>h1 (by rw[<-z];exact hy))).mpr (hm y (Am _ hy));rw[List.length_erase_of_mem hx]at this;have:=List.length_pos_of_mem hx;simp only[Ba];omega
theorem Eo:∀ {T:List (List Int × D)} {g:Ye},(zE T g).isSome=true ↔ g∈T.map (·.1)
 |[],g=>by simp[zE]
 |q::r,g=>by
  unfold zE;by_cases h:q.1=g
  .simp[h]
  .rw[AE h,Eo (T:=r)];simp only[AX,AI];constructor
   .exact .inr
   .rintro (z|z)
    .exact absurd z.symm h
    .exact z
structure Sz (n:Nat) (st:Fd):Prop where
 ks:(st.1.map (·.1)).Nodup
 nd:st.2.Nodup
 sub:∀ t∈st.2,t∈st.1.map (·.1)
 len:st.1.length=n+st.2.length
def gU {n:Nat} {st:Fd} (k:Int) (p:Ye) (h:Sz n st):Sz n (Af k st p):=by
 unfold Af;by_cases q:(zE st.1 p).isSome=true
 .rw[AB q];exact h
 .rw[AE q];have hn:zE st.1 p=none:=by
   cases e:zE st.1 p with
   |none=>rfl
   |some d=>rw[e]at q;simp at q
  have hk:p∉st.1.map (·.1):=λz=>q (Eo.mpr z);have e:Ao st.1 p (.int k)=st.1++[(p,.int k)]:=by unfold Ao;rw[hn]
  rw[e];refine ⟨?_,?_,?_,?_⟩
  .rw[CK,DS];refine ⟨h.ks,by simp,λa ha b hb=>?_⟩;simp at hb;subst hb;intro z;subst z;exact hk ha
  .rw[DS];refine ⟨h.nd,by simp,λa ha b hb=>?_⟩;simp at hb;subst hb;intro z;subst z;exact hk (h.sub _ ha)
  .intro t ht;rw[CK,Ai];rcases Ai.mp (show t∈st.2++[p]from ht)with z|z
   .exact .inl (h.sub t z)
   .right;simpa using z
  .rw[An,An,h.len];simp;omega
theorem IU (src:Y1) (k:Int):∀ (gs:Ya) {st:Fd},Sz n st->Sz n (A3 src k gs st)
 |[],st,h=>h
 |g::r,st,h=>by
  refine IU src k r ?_;have:∀ (ps:Ya) {st:Fd},Sz n st->Sz n (ps.foldl (Af (k+1)) st):=by
   intro ps;induction ps with
   |nil=>intro st h;exact h
   |cons p ps ih=>intro st h;exact ih (gU (k+1) p h)
  exact this _ h
def UI (k:Int) (st:Fd) (p:Ye):st.1.length<=(Af k st p).1.length:=by
 unfold Af;split
 .exact AF _
 .unfold Ao;cases zE st.1 p <;> simp
theorem Mw (src:Y1) (k:Int):∀ (gs:Ya) (st:Fd),st.1.length<=(A3 src k gs st).1.length
 |[],st=>AF _
 |g::r,st=>by
  have h1:∀ (ps:Ya) (st:Fd),st.1.length<=(ps.foldl (Af (k+1)) st).1.length:=by
   intro ps;induction ps with
   |nil=>intro st;exact AF _
   |cons p ps ih=>intro st;exact AZ (UI (k+1) st p) (ih _)
  exact AZ (h1 (src g) st) (Mw src k r _)
def Lg (h:Dk zA l G (Th zA) k fd lev) (hk:(fd.map (·.1)).Nodup):fd.length<=zA.length+zA.length*zA.length:=by
 have hr:(zG zA).length=zA.length:=by unfold zG;simp
 have h1:=LH (fd.map (·.1)) ((zG zA).map (λr=>[r])++zQ (zG zA)) hk λt ht=>by
  have hs:=Eo.mpr ht;cases e:zE fd t with
  |none=>rw[e]at hs;cases hs
  |some d=>
   obtain ⟨u,_⟩:=(h.1 t d).mp e;rw[Ai];by_cases h1:t.length=1
   .obtain ⟨r,rfl⟩:=List.length_eq_one_iff.mp h1;exact .inl (Ag.mpr ⟨r,zc.mpr (u.1.mem r (by simp)),rfl⟩)
   .exact .inr (PQ t u h1)
 have h2:=Ht (zG zA);rw[AG,An,AG,hr]at h1;rw[hr]at h2;omega
def Rm (h:f Y M=some (.dat (.ref j),M)) (hj:M[j]?=some (.lst xs)):GY f Y M=some (!xs.isEmpty,M):=by
 unfold GY;rw[h];dsimp only;rw[CT hj]
def Sx (zA:Ya) (l:Nat) (g:Ye):(Bz zA l g).length<=zA.length*zA.length*l:=by
 unfold Bz C1;rw[AG];refine AZ (Fu _ _) ?_;rw[NC];have:=Ht (zG zA);have hr:(zG zA).length=zA.length:=by unfold zG;simp
 rw[hr]at this;exact Nat.mul_le_mul_right l this
def ZI (m:IsM zA l) (oa:F3 zA G) (hR:zA.length<=26) (hl:l<=12) (h1:jf<M0.length) (hd:M0[jd]?=some (dT Ts)) (d1:jd≠jf) (hs:∀ g,(∃ j,zE Ts g=some (.ref j)/\j≠jf/\M0[j]?=some (.lst ((Bz zA l g).map tI)))\/(zE Ts g=none/\Bz zA l g=[])) (hf:M0[jf]?=some (dT fd)) (hv:M0[jl]?=some (.lst (lev.map tI))) (l1:jl≠jf) (inv:Dk zA l G (Th zA) 0 fd lev) (nk:(fd.map (·.1)).Nodup) (nl:lev.length<=fd.length) :
  OkS (Ce (GY (zC 3)) (zS (AM 6 (Ar zI)) (zS (Bl (AQ (zC 3)) (gN 5) (Bl (AQ (Cy (zC 2) (zC 5) (Ar zI))) (gN 7) (sIf (tst (fOp (Ax true) (zC 7) (zC 4))) (zS (Cg (fOp BE (fOp Ay (zC 4) (zC 5)) (fC (.int 1))) (zC 4) (zC 7)) (B6 (fM C8 (zC 6) (zD (toD (zC 7)) zI)))) Ap))) (AM 3 (zC 6)))) 1000 [some (mD zA),x1,some (.ref jd),some (.ref jl),some (.ref jf),y5,y6,y7] M0)
   λo Y' M'=>o=.nx/\(∃ y3 y5 y6 y7,Y'=[some (mD zA),x1,some (.ref jd),y3,some (.ref jf),y5,y6,y7])/\(∃ fd',M'[jf]?=some (dT fd')/\fd'.length<=702 /\ ∀ t d,zE fd' t=some d ↔ Th zA t /\ ∃ n:Nat,Dst zA l G t n/\d=.int (n:Int))/\M0.length<=M'.length /\ ∀ j,j<M0.length->j≠jf->M'[j]?=M0[j]?:=by
 have hN:zA.length+zA.length*zA.length<=702:=by
  have:=Eh hR hR;omega
 have hB:zA.length*zA.length*l<=8112:=Eh (Eh hR hR) hl;refine IT (I:=λz Y M=>∃ (jl:Nat) (y5 y6 y7:Option D) (k:Nat) (fd:List (List Int × D)) (lev:Ya),Y=[some (mD zA),x1,some (.ref jd),some (.ref jl),some (.ref jf),y5,y6,y7]/\M[jf]?=some (dT fd)/\M[jl]?=some (.lst (lev.map tI))/\jl≠jf/\Dk zA l G (Th zA) k fd lev/\(fd.map (·.1)).Nodup/\lev.length<=fd.length/\M0.length<=M.length/\(∀ j,j<M0.length->j≠jf->M[j]?=M0[j]?)/\z=(702-fd.length)+(if lev.isEmpty then 0 else 1)) ?_ 1000 ((702-fd.length)+(if lev.isEmpty then 0 else 1)) _ _ (by split <;> omega) ⟨jl,y5,y6,y7,0,fd,lev,rfl,hf,hv,l1,inv,nk,nl,AF _,λ_ _ _=>rfl,rfl⟩;intro z Y M hI;refine Classical.byContradiction λG=>?_;obtain ⟨jl,y5,y6,y7,k,fd,lev,eI1,hf,hv,l1,inv,nk,nl,hlen,fr,eI2⟩:=hI;refine G ?_;clear G;subst eI1 eI2;have hfl:=AZ (Lg inv nk) hN;refine zF (M:=M) (a:=!(lev.map tI).isEmpty) (Rm rfl hv) ?_;cases lev with
 |nil=>
  exact ⟨rfl,⟨_,_,_,_,rfl⟩,⟨fd,hf,hfl,whole m inv⟩,hlen,fr⟩
 |cons g0 lev0=>
  show OkS (zS _ _ [some (mD zA),x1,some (.ref jd),some (.ref jl),some (.ref jf),y5,y6,y7] M) _;generalize hlv:g0::lev0=lev at *;have hne0:lev.isEmpty=false:=by rw[<-hlv];rfl
  rw[zN,zh];refine zF (M:=M) (a:=.fl []) (by unfold Ar zI;dsimp only;rw[AB (Bf (by simp))]) ?_;rw[Ji,zU,zN,Ed];have fl:=(AK.mp hf).1;have vl:=(AK.mp hv).1;have up:∀ {j:Nat},j<M.length->(M++[MO.lst ([]:List D)])[j]?=M[j]?:=λh=>AW h;have dl:=(AK.mp hd).1;refine ⟨_,_,_,(show AQ (zC 3) [some (mD zA),x1,some (.ref jd),some (.ref jl),some (.ref jf),y5,some (.ref M.length),y7] (M++[.lst []])=some (lev.map tI,CO (.dat (.ref jl)) (lev.map tI),M++[.lst []]) by
   unfold AQ;rw[show zC 3 [some (mD zA),x1,some (.ref jd),some (.ref jl),some (.ref jf),y5,some (.ref M.length),y7] (M++[.lst []])=some (.dat (.ref jl),M++[.lst []])from rfl];dsimp only;rw[CT ((up vl).trans hv)]),?_⟩
  have sz0:Sz fd.length (fd,([]:List (List Int))):=⟨nk,by simp,(λt h=>by cases h),by simp⟩;have szw:Sz fd.length (A3 (Bz zA l) (k:Int) lev (fd,[])):=IU _ _ lev sz0;have hflw:=AZ (Lg (Mr m oa inv) szw.ks) hN;refine OkS.mono (gE (k:=(k:Int)) (src:=Bz zA l) (st:=(fd,[])) (Ts:=Ts) (by omega) (by simp;omega) (by simp) ((up (by omega)).trans ((fr _ dl d1).trans hd)) d1 (by omega) ((up vl).trans hv) l1 (by omega) ?_ 8112 (λg _=>AZ (Sx zA l g) hB) ?_ 702 (by omega) (λus vs e=>?_) ⟨(up fl).trans hf,by simp,AF _,λ_ _ _ _=>rfl⟩) ?_
  .intro g;rcases hs g with ⟨j,e,q1,q2⟩|q
   .have jl':=(AK.mp q2).1;exact .inl ⟨j,e,q1,by omega,(up (by omega)).trans ((fr _ jl' q1).trans q2)⟩
   .exact .inr q
  .intro g hg;obtain ⟨u,hd'⟩:=(inv.2 g).mp hg;exact (inv.1 g _).mpr ⟨u,k,AF _,hd',rfl⟩
  .have h3:=Mw (Bz zA l) (k:Int) vs (A3 (Bz zA l) (k:Int) us (fd,[]));have h4:A3 (Bz zA l) (k:Int) vs (A3 (Bz zA l) (k:Int) us (fd,[]))=A3 (Bz zA l) (k:Int) lev (fd,[]):=by rw[e];unfold A3;rw[List.foldl_append]
   rw[h4]at h3;have h5:=(IU (Bz zA l) (k:Int) us sz0).len;omega
  .intro o Y' M' hI;refine Classical.byContradiction λG=>?_;obtain ⟨eI1,⟨y5,y7,eI2⟩,lv⟩:=hI;refine G ?_;clear G;subst eI1 eI2;rw[zU,zh];refine zF (M:=M') (a:=.dat (.ref M.length)) rfl ?_;rw[zL];have sz:Sz fd.length (A3 (Bz zA l) (k:Int) lev (fd,[])):=IU _ _ lev ⟨nk,by simp,(λt h=>by cases h),by simp⟩;have inv':=Mr m oa inv;generalize A3 (Bz zA l) (k:Int) lev (fd,[])=st at lv sz inv';have hfl':=AZ (Lg inv' sz.ks) hN;have hsl:=sz.len;refine ⟨(702-st.1.length)+(if st.2.isEmpty then 0 else 1),?_,M.length,y5,_,y7,k+1,st.1,st.2,rfl,lv.f,lv.b,by omega,inv',sz.ks,by omega,?_,?_,rfl⟩
   .rw[hne0];cases e:st.2 with
    |nil=>simp;omega
    |cons a r=>rw[e]at hsl;simp at hsl ⊢;omega
   .have:=lv.len;simp at this;omega
   .intro j hj hjf;rw[lv.fr j (by simp;omega) hjf (by omega),up (by omega)];exact fr j hj hjf
def Wy {M:Mem} {ts:Ya} (hf:f Y M=some (.dat (.ref jl),M)) (hj:M[jl]?=some (.lst (ts.map tI))) (nd:ts.Nodup) (hz:ts.length<=80000) (hg:∀ a,gN i a (Ac own Y)=some ((Ac own Y).set i (some a))) (hs:∀ (a:D) M',zC i ((Ac own Y).set i (some a)) M'=some (.dat a,M')) :
  CL true own (AQ f) (gN i) zZ (zC i) (fC (.int 0)) Y M=some (.dat (.ref M.length),M++[dT (ts.map λt=>(t,.int 0))]):=by
 have hjl:=(AK.mp hj).1;unfold CL AQ;rw[hf];dsimp only;rw[CT hj];dsimp only;have loop:∀ (r q:Ya),q++r=ts->B7 (gN i) zZ (zC i) (fC (.int 0)) (Ac own Y) M.length (ts.map tI) (CO (.dat (.ref jl)) (ts.map tI)) (r.map tI) (M++[dT (q.map λt=>(t,.int 0))])=some (M++[dT (ts.map λt=>(t,.int 0))]):=by
  intro r;induction r with
  |nil=>intro q e;rw[BF]at e;subst e;exact JK (.inl (by rw[AW hjl];exact hj))
  |cons x r ih=>
   intro q e;have hx:x∉q:=λz=>by
    rw[<-e,DS]at nd;exact nd.2.2 x z x Ad rfl
   have hl:q.length<90000:=by have:=BJ List.length e;simp at this;omega
   have hk:zE (q.map λt=>(t,D.int 0)) x=none:=by
    cases e2:zE (q.map λt=>(t,D.int 0)) x with
    |none=>rfl
    |some d=>
     have:=Eo.mp (show (zE (q.map λt=>(t,D.int 0)) x).isSome=true by rw[e2];rfl);rw[Ae]at this;obtain ⟨y,hy,rfl⟩:=Ag.mp this;exact absurd hy hx
   have hgd:BD (CO (.dat (.ref jl)) (ts.map tI)) (ts.map tI) (M++[dT (q.map λt=>(t,.int 0))]):=.inl (by rw[AW hjl];exact hj);rw[AX,Mn (σ1:=(Ac own Y).set i (some (tI x))) (k:=tI x) (v:=.int 0) (M':=M++[dT ((q++[x]).map λt=>(t,.int 0))]) hgd (hg _) (hs _ _) rfl]
   .exact ih (q++[x]) (by rw[<-e];simp)
   .rw[Fe (T:=q.map λt=>(t,.int 0)) (by simp) (by rw[AG];exact hl)];unfold Ao;rw[hk];simp
 have:=loop ts [] rfl;rw[show G0 true=dT []from rfl];rw[show (([]:List (List Int)).map λt=>(t,D.int 0))=[]from rfl]at this;rw[this]
def ZC {zA:Ya} (m:IsM zA l) (oa:F3 zA G) (hR:zA.length<=26) (hl:l<=12) {M:Mem} {ts:Ya} (hj:M[jg]?=some (.lst (ts.map tI))) (nd:ts.Nodup) (hts:∀ t,t∈ts ↔ Th zA t/\G t) (hz:ts.length<=80000):Ok (Hh [mD zA,.ref jg] M) λd M'=>∃ jf,d=.ref jf/\M.length<=jf/\(∃ fd,M'[jf]?=some (dT fd)/\fd.length<=702 /\ ∀ t d,zE fd t=some d ↔ Th zA t /\ ∃ n:Nat,Dst zA l G t n/\d=.int (n:Int))/\M.length<=M'.length /\ ∀ j,j<M.length->M'[j]?=M[j]?:=by
 have hjl:=(AK.mp hj).1;unfold Hh;rw[zw];unfold Kr;show OkS (zS _ _ [some (mD zA),some (.ref jg),none,none,none,none,none,none] M) _;rw[zN,zh];refine F7.mpr (zF (zg rfl) (Ok.mono (SQ m (by omega) hl) ?_));intro d M1 hI;refine Classical.byContradiction λG=>?_;obtain ⟨eI1,sr,h1,fr⟩:=hI;refine G ?_;clear G;subst eI1;rw[zL,zU];refine EB (d:=.ref jg) rfl ?_;show OkS (zS _ _ [some (mD zA),some (.ref jg),some (.ref M.length),some (.ref jg),none,none,none,none] M1) _;have hj1:=(fr _ hjl).trans hj;rw[zN,zh];refine zF (Wy (jl:=jg) (ts:=ts) rfl hj1 nd hz (λ_=>rfl) (λ_ _=>rfl)) ?_;rw[zL,zU];show OkS (zS _ _ [some (mD zA),some (.ref jg),some (.ref M.length),some (.ref jg),some (.ref M1.length),none,none,none] _) _;obtain ⟨T,ed,hT,a1,a2,a3⟩:=sr.ex;have up:∀ {j:Nat} {u:MO},M1[j]?=some u->(M1++[dT (ts.map λt=>(t,D.int 0))])[j]?=some u:=λ{j u} h=>by rw[AW (AK.mp h).1];exact h
 have ed':=(AK.mp ed).1;rw[zN];refine OkS.mono (ZI (jf:=M1.length) (jd:=M.length) (jl:=jg) (Ts:=T) (lev:=ts) (fd:=ts.map λt=>(t,D.int 0)) m oa hR hl (by simp) (up ed) (by omega) ?_ (by simp) (up hj1) (by omega) (Vs hts ?_) ?_ (by simp)) ?_
 .intro g;cases e:zE T g with
  |none=>exact .inr ⟨rfl,a2 g e⟩
  |some d=>
   obtain ⟨j,rfl,q1,q2⟩:=a1 g d e;have:=(AK.mp q2).1;exact .inl ⟨j,rfl,by omega,up q2⟩
 .intro t d;have gen:∀ (ts:Ya),zE (ts.map λt=>(t,D.int 0)) t=some d ↔ t∈ts/\d=.int 0:=by
   intro ts;induction ts with
   |nil=>simp[zE]
   |cons x r ih=>
    rw[AX,zE];by_cases q:x=t
    .subst q;simp[eq_comm]
    .rw[AE q,ih,AI];constructor
     .rintro ⟨z1,z2⟩;exact ⟨.inr z1,z2⟩
     .rintro ⟨z1|z1,z2⟩
      .exact absurd z1.symm q
      .exact ⟨z1,z2⟩
  exact gen _
 .rw[Ae];rw[show ((λ(x:List Int × D)=>x.1)∘λ(t:Ye)=>(t,D.int 0))=id from rfl,List.map_id];exact nd
 .intro o Y' M' hI;refine Classical.byContradiction λG=>?_;obtain ⟨eI1,⟨y3,y5,y6,y7,eI2⟩,⟨fd,e1,e2,e3⟩,hlen,fr'⟩:=hI;refine G ?_;clear G;subst eI1 eI2;rw[zU];rw[An]at hlen fr';refine zq (d:=.ref M1.length) rfl ⟨M1.length,rfl,by omega,⟨fd,e1,e2,e3⟩,by omega,λj hj=>?_⟩;rw[fr' j (by omega) (by omega),AW (by omega)];exact fr j hj
noncomputable def Mm:FS:=(AL (zM Hh (zD (toD (zC 0)) (zD (toD (zo [1] (A1 (zD (toD (fB Aw (zP (zC 0) zd))) zI)) (gN 1) zZ (Br (zD (toD (zC 1)) zI)))) zI))))
noncomputable def GH:FF:=Ak 2 Mm
def ON (m:IsM zA l) (hR:zA.length<=26) (hl:l<=12):Ok (GH [mD zA] M) λd M'=>∃ jf,d=.ref jf/\M.length<=jf/\(∃ fd,M'[jf]?=some (dT fd)/\fd.length<=702 /\ ∀ t d,zE fd t=some d ↔ Th zA t /\ ∃ n:Nat,Dst zA l One t n/\d=.int (n:Int))/\M.length<=M'.length /\ ∀ j,j<M.length->M'[j]?=M[j]?:=by
 unfold GH;rw[zw];unfold Mm;have er:A1 (zD (toD (fB Aw (zP (zC 0) zd))) zI) [some (mD zA),none] M=some ((List.range zA.length).map (λ(k:Nat)=>D.int k),none,M):=by
  rw[El (j:=(zA.length:Int)) (HL rfl) (by omega) (by omega),Je];rw[show (zA.length:Int).toNat=zA.length by omega]
 have ec:zo [1] (A1 (zD (toD (fB Aw (zP (zC 0) zd))) zI)) (gN 1) zZ (Br (zD (toD (zC 1)) zI)) [some (mD zA),none] M=some (.fl ((List.range zA.length).map λ(k:Nat)=>tI [(k:Int)]),M) :=
  EH (List.range zA.length) (λ(k:Nat)=>D.int k) (λ(k:Nat)=>tI [(k:Int)]) er trivial (by rw[ET];omega) λk _=>⟨_,rfl,rfl⟩
 have el:((List.range zA.length).map λ(k:Nat)=>tI [(k:Int)])=((zG zA).map λr=>[r]).map tI:=by
  unfold zG;rw[Ae,Ae];rfl
 rw[el]at ec;rw[CC];refine F7.mpr (DN.mpr (Bn.mpr (A4.mpr ⟨_,rfl,?_⟩)));rw[zL];refine DN.mpr (Bn.mpr (zF ec ?_));rw[Ji,E8];refine Ok.mono (ZC m OF hR hl (jg:=M.length) (ts:=(zG zA).map λr=>[r]) (by simp) ?_ Vy ?_) ?_
 .unfold zG;rw[Ae];exact Es.mpr (List.Pairwise.imp (λ{a b} h z=>h (by simp at z;omega)) List.nodup_range)
 .unfold zG;simp;omega
 rintro d M' ⟨jf,rfl,h1,h2,h3,h4⟩;rw[zL];rw[An]at h1 h3 h4;refine ⟨jf,rfl,by omega,h2,by omega,λj hj=>?_⟩;rw[h4 j (by omega),AW hj]
def IQ (ha:a Y M=some (true,M)):CZ a b Y M=some (true,M):=by unfold CZ;rw[ha]
def EN (ha:a Y M=some (false,M)) (hb:b Y M=some (k,M)):CZ a b Y M=some (k,M):=by unfold CZ;rw[ha];exact hb
def aC' {f:FE} {g:FA} {Y:Sd} {M M1 M2:Mem} {d:D} {ds:List D} (h:toD f Y M=some (d,M1)) (hg:g Y M1=some (ds,M2)):zD (toD f) g Y M=some (d::ds,M2):=by
 unfold zD;rw[h];dsimp only;rw[hg]
def PL (h:f Y M=some (.dat d,M)):toD f Y M=some (d,M):=by unfold toD;rw[h]
def Um {M M1:Mem} (h:f Y M=some (.fl xs,M1)):toD f Y M=some (.ref M1.length,M1++[.lst xs]):=by unfold toD;rw[h]
def jK {g:FA} {Y:Sd} {M M1:Mem} {ds:List D} (h:g Y M=some (ds,M1)) (hz:ds.length<=100000):Ar g Y M=some (.fl ds,M1):=by
 unfold Ar;rw[h];dsimp only;rw[AB (Bf hz)]
def HI {g:FA} {Y:Sd} {M M1:Mem} {ds:List D} (h:g Y M=some (ds,M1)) (hz:ds.length<=100000):Br g Y M=some (.dat (.tup ds),M1):=by
 unfold Br;rw[h];dsimp only;rw[AB (Bf hz)]
def W0 (hf:f Y M=some (.dat (.int i),M)) (hg:g Y M=some (.dat (.int j),M)):fB Hv (zP f (zP g zd)) Y M=some (.dat (.int (if j<i then j else i)),M):=by
 unfold fB zP zd;rw[hf];dsimp only;rw[hg];rfl
def Rc {f:FE} {Y:Sd} {M M1:Mem} {xs:List D} (h:f Y M=some (.fl xs,M1)):AQ f Y M=some (xs,none,M1):=by
 unfold AQ;rw[h];rfl
def jH (h1:M[n]?=some (.lst xs)) (h2:M[m]?=some (.lst ys)) (hz:xs.length+ys.length<=90000):G3 (.dat (.ref n)) [.ref m] M=some (.non,M.set n (.lst (xs++ys))):=by
 unfold G3;dsimp only;rw[h1,h2];dsimp only;rw[AB (Bf (by omega))]
def cZ (hf:f Y M=some (.dat (.int i),M)) (hg:g Y M=some (.dat (.int j),M)):fB HG (zP f (zP g zd)) Y M=some (.dat (.int (if j>i then j else i)),M):=by
 unfold fB zP zd;rw[hf];dsimp only;rw[hg];rfl
def Qp {m:FF} {a:FA} {Y:Sd} {M M1 M':Mem} {ds:List D} {d:D} (h:a Y M=some (ds,M1)) (hm:m ds M1=some (d,M')):zM m a Y M=some (.dat d,M'):=by
 unfold zM;rw[h];dsimp only;rw[hm]
noncomputable def Kq:FS:=(zS (AM 3 (zo [4] (A1 (zD (toD (fB Aw (zP (fOp kIx (zC 0) (fC (.int 0))) zd))) zI)) (gN 4) zZ (zM DM (zD (toD (zC 0)) (zD (toD (zC 1)) (zD (toD (zC 4)) zI))))))
  (AL (fB (GN false) (zP (zo [4,5] (IF (zC 3)) (Hr 4 5) (CJ (tst (fOp (Ax false) (zC 5) (zC 2))) (tst (fOp kEq (fOp Ay (zC 2) (zC 5)) (fOp D9 (fOp Ay (zC 2) (zC 1)) (fC (.int 1)))))) (zC 4)) zd))))
noncomputable def Er:FF:=Ak 6 Kq
noncomputable def K1:FS:=(zS (AM 2 (zo [3] (AQ (zM Dz (zD (toD (zM EZ (zD (toD (zC 0)) zI))) zI))) (gN 3) (tst (fOp kGt (Cy (zC 1) (zC 3) (fC (.int 0))) (fC (.int 0)))) (zC 3)))
  (AL (CL true [3] (AQ (zC 2)) (gN 3) zZ (zC 3) (Br (zD (toD (fOp Ay (zC 1) (zC 3))) (zD (toD (zM Er (zD (toD (zC 0)) (zD (toD (zC 3)) (zD (toD (zC 1)) zI))))) zI))))))
noncomputable def Gb:FF:=Ak 4 K1
noncomputable def MU:FS:=(AL (zM Gb (zD (toD (zC 0)) (zD (toD (zM GH (zD (toD (zC 0)) zI))) zI))))
noncomputable def Hn:FF:=Ak 1 MU
theorem Qc {α:Type} (hgd:BD gd all M) (enc out:α->D) (keep:α->Bool):∀ (as:List α),(∀ a∈as,∃ σ1,g (enc a) Y=some σ1/\tc σ1 M=some (keep a,M)/\(keep a=true->te σ1 M=some (.dat (out a),M)))->A7 g tc te Y all gd (as.map enc) M=some ((as.filter keep).map out,M)
 |[],_=>by
  rw[List.map_nil];unfold A7;rw[AB hgd];rfl
 |a::r,h=>by
  obtain ⟨σ1,e1,e2,e3⟩:=h a Ad;have ih:=Qc (Y:=Y) hgd enc out keep r λb hb=>h b (Am _ hb);rw[AX];unfold A7;rw[AB hgd,e1];dsimp only;rw[e2];cases hk:keep a with
  |false=>
   dsimp only;rw[ih,List.filter_cons_of_neg (by simp[hk])]
  |true=>
   dsimp only;rw[show toD te σ1 M=some (out a,M) by unfold toD;rw[e3 hk]];dsimp only;rw[ih,List.filter_cons_of_pos hk];rfl
def Hq {α:Type} {own:Yj} {fi:FI} {g:FG} {tc:FT} {te:FE} {Y:Sd} {M M1:Mem} {gd:Option (Mem->Prop)} (as:List α) (enc out:α->D) (keep:α->Bool) (hi:fi Y M=some (as.map enc,gd,M1)) (hgd:BD gd (as.map enc) M1) (hz:as.length<=100000)
  (he:∀ a∈as,∃ σ1,g (enc a) (Ac own Y)=some σ1/\tc σ1 M1=some (keep a,M1)/\(keep a=true->te σ1 M1=some (.dat (out a),M1))):zo own fi g tc te Y M=some (.fl ((as.filter keep).map out),M1) :=
 zV (HK.mpr ⟨_,_,_,hi,by rw[AG];exact Bf hz,zF (Qc hgd enc out keep as he) ⟨rfl,rfl⟩⟩)
def Xp {f:FE} {Y:Sd} {M M1:Mem} {xs:Ye} (hf:f Y M=some (.fl (xs.map D.int),M1)) (hx:xs≠[]):∃ b,fB (GN false) (zP f zd) Y M=some (.dat (.int b),M1)/\b∈xs /\ ∀ y∈xs,b<=y:=by
 cases xs with
 |nil=>exact absurd rfl hx
 |cons x r=>
  obtain ⟨h1,h2⟩:=IP false r x;refine ⟨C7 false x r,?_,h1,λy hy=>by simpa using h2 y hy⟩;unfold fB zP zd;rw[hf];unfold GN;dsimp only;rw[HS]
def Kk (zA:Ya) (l:Nat) (G:Yq) (fd:List (List Int × D)):Prop:=∀ t d,zE fd t=some d ↔ Th zA t /\ ∃ n:Nat,Dst zA l G t n/\d=.int (n:Int)
structure Fst (zA:Ya) (l:Nat) (G:Yq) (p:Ye) (n:Nat) (x:Int):Prop where
 x0:0<=x
 x1:x<(l:Int)
 d:Dst zA l G (setR zA p x) n
 f:∀ y,0<=y->y<x -> ¬ Dst zA l G (setR zA p y) n
noncomputable def isN (n:Nat):Option D->Bool
 |some (.int v)=>decide (v=(n:Int))
 |_=>false
def Lo (sp:Kk zA l G fd) (u:Th zA t):isN n (zE fd t)=true ↔ Dst zA l G t n:=by
 constructor
 .intro h;cases e:zE fd t with
  |none=>rw[e]at h;cases h
  |some d=>
   obtain ⟨_,k,hk,rfl⟩:=(sp t d).mp e;rw[e]at h;have:(k:Int)=(n:Int):=CQ h;rw[show n=k by omega];exact hk
 .intro h;rw[(sp t _).mpr ⟨u,n,h,rfl⟩];exact AO rfl
def eqE:kEq (.dat (.int a)) (.dat (.int b)) M=some (.dat (.bl (decide (a=b))),M):=zV (Gx.mpr ⟨rfl,rfl⟩)
def Mb:D9 (.dat (.int a)) (.dat (.int b)) M=some (.dat (.int (a-b)),M):=rfl
def gtE:kGt (.dat (.int a)) (.dat (.int b)) M=some (.dat (.bl (decide (b<a))),M):=rfl
def Vn (ha:a Y M=some (true,M)) (hb:b Y M=some (k,M)):CJ a b Y M=some (k,M):=by unfold CJ;rw[ha];exact hb
def ZT (ha:a Y M=some (false,M)):CJ a b Y M=some (false,M):=by unfold CJ;rw[ha]
def W3 {zA:Ya} {l:Nat} {G:Yq} (m:IsM zA l) (hR:zA.length<=26) (hl:l<=12) {M:Mem} {jf:Nat} {fd:List (List Int × D)} (hf:M[jf]?=some (dT fd)) (sp:Kk zA l G fd) {p:Ye} (u:Th zA p) {n:Nat} (hd:Dst zA l G p (n+1)) :
  Ok (Er [mD zA,tI p,.ref jf] M) λd M'=>∃ x:Int,d=.int x/\Fst zA l G p n x /\ ∃ us,M'=M++us:=by
 unfold Er;rw[zw];unfold Kq;have hfl:=(AK.mp hf).1;have er:=Qw (Y:=[some (mD zA),some (tI p),some (.ref jf),none,none,none]) (M:=M) (Jl m (f:=zC 0) rfl) (by omega) (by omega);rw[show (l:Int).toNat=l by omega]at er;have ec:=EH (own:=[4]) (g:=gN 4) (te:=zM DM (zD (toD (zC 0)) (zD (toD (zC 1)) (zD (toD (zC 4)) zI)))) (List.range l) (λ(k:Nat)=>D.int k) (λ(k:Nat)=>tI (setR zA p (k:Int))) er trivial (by rw[ET];omega) λk hk=>⟨_,rfl,zf (zt (d:=mD zA) rfl (zt (d:=tI p) rfl (zg (d:=.int (k:Int)) rfl))) (JX m (by omega) u.1 (by omega) (by have:=Bo.mp hk;omega))⟩;rw[zN,zh];refine zF ec (CN ?_);rw[zU];generalize hA:M++[MO.lst ((List.range l).map λ(k:Nat)=>tI (setR zA p (k:Int)))]=A;have a1:A[M.length]?=some (.lst ((List.range l).map λ(k:Nat)=>tI (setR zA p (k:Int)))):=by rw[<-hA];simp
 have a2:A[jf]?=some (dT fd):=by rw[<-hA,AW hfl];exact hf
 have hen:IF (zC 3) [some (mD zA),some (tI p),some (.ref jf),some (.ref M.length),none,none] A=some ((List.range l).map (λ(k:Nat)=>D.tup [.int (k:Nat),tI (setR zA p (k:Int))]),CO (.dat (.ref M.length)) ((List.range l).map λ(k:Nat)=>tI (setR zA p (k:Int))),A):=by
  unfold IF;rw[show zC 3 [some (mD zA),some (tI p),some (.ref jf),some (.ref M.length),none,none] A=some (.dat (.ref M.length),A)from rfl];dsimp only;rw[CT a1];dsimp only;congr 2;unfold Ex;rw[AG,ET];apply List.ext_getElem?;intro i;by_cases hi:i<l
  .rw[Az,Az,List.zip_eq_zipWith,List.getElem?_zipWith,Az,List.getElem?_range hi];rfl
  .rw[FV (by simp;omega),FV (by simp;omega)]
 have lp:zE fd p=some (.int ((n+1:Nat):Int)):=(sp p _).mpr ⟨u,n+1,hd,rfl⟩;have ef:=Hq (own:=[4,5]) (g:=Hr 4 5) (tc:=CJ (tst (fOp (Ax false) (zC 5) (zC 2))) (tst (fOp kEq (fOp Ay (zC 2) (zC 5)) (fOp D9 (fOp Ay (zC 2) (zC 1)) (fC (.int 1)))))) (te:=zC 4) (List.range l) _ (λ(k:Nat)=>D.int (k:Int)) (λ(k:Nat)=>isN n (zE fd (setR zA p (k:Int)))) hen (.inl a1) (by rw[ET];omega) (λk hk=>by
  have u':=Em m p (k:Int) u ⟨by omega,by have:=Bo.mp hk;omega⟩;refine ⟨[some (mD zA),some (tI p),some (.ref jf),some (.ref M.length),some (.int (k:Int)),some (tI (setR zA p (k:Int)))],rfl,?_,λ_=>rfl⟩;have e1:fOp (Ax false) (zC 5) (zC 2) [some (mD zA),some (tI p),some (.ref jf),some (.ref M.length),some (.int (k:Int)),some (tI (setR zA p (k:Int)))] A=_:=zK (x:=.dat (tI (setR zA p (k:Int)))) (y:=.dat (.ref jf)) rfl rfl (GP a2);rw[AE (by decide)]at e1;cases e:zE fd (setR zA p (k:Int)) with
  |none=>
   rw[e]at e1;exact ZT (BR e1)
  |some d=>
   obtain ⟨_,v,_,rfl⟩:=(sp _ d).mp e;rw[e]at e1;refine Vn (BR e1) (BR ?_);refine zK (x:=.dat (.int (v:Int))) (y:=.dat (.int (((n+1:Nat):Int)-1))) (zK (x:=.dat (.ref jf)) (y:=.dat (tI (setR zA p (k:Int)))) rfl rfl (Gg a2 e)) (zK (x:=.dat (.int ((n+1:Nat):Int))) (y:=.dat (.int 1)) (zK (x:=.dat (.ref jf)) (y:=.dat (tI p)) rfl rfl (Gg a2 lp)) rfl Mb) ?_;rw[eqE];unfold isN;congr 5;exact propext ⟨λh=>by omega,λh=>by omega⟩)
 rw[show ((List.range l).filter λ(k:Nat)=>isN n (zE fd (setR zA p (k:Int)))).map (λ(k:Nat)=>D.int (k:Int))=(((List.range l).filter λ(k:Nat)=>isN n (zE fd (setR zA p (k:Int)))).map λ(k:Nat)=>(k:Int)).map D.int by rw[Ae];rfl]at ef;obtain ⟨b,eb,hb1,hb2⟩:=Xp ef (by
  obtain ⟨_,x,hx,hr⟩:=Gm.mp hd;have:((x.toNat:Nat):Int)∈((List.range l).filter λ(k:Nat)=>isN n (zE fd (setR zA p (k:Int)))).map λ(k:Nat)=>(k:Int):=Ag.mpr ⟨x.toNat,C9.mpr ⟨Bo.mpr (by omega),by rw[show ((x.toNat:Nat):Int)=x by omega];exact (Lo sp (Em m p x u hx)).mpr hr⟩,rfl⟩;exact List.ne_nil_of_mem this)
 obtain ⟨k,hk,rfl⟩:=Ag.mp hb1;obtain ⟨k1,k2⟩:=C9.mp hk;have k3:=Bo.mp k1;refine zq eb ⟨(k:Int),rfl,⟨by omega,by omega,(Lo sp (Em m p _ u ⟨by omega,by omega⟩)).mp k2,λy y0 y1 hy=>?_⟩,_,hA.symm⟩;have:=hb2 y (Ag.mpr ⟨y.toNat,C9.mpr ⟨Bo.mpr (by omega),by rw[show ((y.toNat:Nat):Int)=y by omega];exact (Lo sp (Em m p y u ⟨y0,by omega⟩)).mpr hy⟩,by omega⟩);omega
def Tn (a:Fst zA l G p n x) (b:Fst zA l G p n y):x=y:=by
 rcases Int.lt_trichotomy x y with q|q|q
 .exact absurd a.d (b.f x a.x0 q)
 .exact q
 .exact absurd b.d (a.f y b.x0 q)
open Classical in
noncomputable def Bp (zA:Ya) (l:Nat) (G:Yq) (t:Ye):Nat:=if h:∃ n,Dst zA l G t n then Classical.choose h else 0
open Classical in
noncomputable def EX (zA:Ya) (l:Nat) (G:Yq) (t:Ye):Int:=if h:∃ x,Fst zA l G t (Bp zA l G t-1) x then Classical.choose h else 0
def Ek (h:Dst zA l G t n):Bp zA l G t=n:=by
 unfold Bp;have hx:∃ n,Dst zA l G t n:=⟨n,h⟩;rw[dif_pos hx];exact FP (Classical.choose_spec hx) h
def Oa (h:0<Bp zA l G t):Dst zA l G t (Bp zA l G t):=by
 by_cases hx:∃ n,Dst zA l G t n
 .obtain ⟨n,hn⟩:=hx;rw[Ek hn];exact hn
 .unfold Bp at h;rw[dif_neg hx]at h;omega
def Kd (hd:Dst zA l G t (n+1)) (h:Fst zA l G t n x):EX zA l G t=x:=by
 unfold EX;rw[Ek hd];have hx:∃ x,Fst zA l G t (n+1-1) x:=⟨x,h⟩;rw[dif_pos hx];exact Tn (Classical.choose_spec hx) h
noncomputable def Gn (zA:Ya) (l:Nat) (G:Yq) (t:Ye):Bool:=decide (0<Bp zA l G t)
noncomputable def Cv (zA:Ya) (l:Nat) (G:Yq) (t:Ye):D:=.tup [.int (Bp zA l G t:Nat),.int (EX zA l G t)]
noncomputable def zi (zA:Ya) (l:Nat) (G:Yq):List (List Int):=(zQ (zG zA)).filter (Gn zA l G)
noncomputable def A2 (zA:Ya) (l:Nat) (G:Yq):List (List Int × D):=(zi zA l G).map λp=>(p,Cv zA l G p)
theorem NS {f:List Int->D} {t:Ye}:∀ {ps:Ya},zE (ps.map λp=>(p,f p)) t=if t∈ps then some (f t) else none
 |[]=>rfl
 |p::r=>by
  rw[AX,zE];by_cases h:p=t
  .subst h;rw[AB rfl,AB Ad]
  .rw[AE h,NS (ps:=r)];by_cases hr:t∈r
   .rw[AB hr,AB (Am _ hr)]
   .rw[AE hr,AE (by simp[hr,Ne.symm h])]
def Jf (h:g∉T.map (·.1)):Ao T g v=T++[(g,v)]:=by
 unfold Ao;cases e:zE T g with
 |none=>rfl
 |some d=>exact absurd (Eo.mp (show (zE T g).isSome=true by rw[e];rfl)) h
def JH (h:xs.Nodup):(zQ xs).Nodup:=by
 have gen:∀ r:List Int,r.Nodup->(r.flatMap λa=>(xs.filter λb=>decide (a<b)).map λb=>[a,b]).Nodup:=by
  intro r;induction r with
  |nil=>intro _;simp
  |cons a r ih=>
   intro hr;obtain ⟨h1,h2⟩:=EK.mp hr;rw[List.flatMap_cons,DS];refine ⟨?_,ih h2,λu hu v hv=>?_⟩
   .refine Es.mpr (List.Pairwise.imp (λ{x y} q z=>q (by simpa using z)) (List.Pairwise.filter _ h))
   .obtain ⟨b,_,rfl⟩:=Ag.mp hu;obtain ⟨c,hc,hv⟩:=List.mem_flatMap.mp hv;obtain ⟨d,_,rfl⟩:=Ag.mp hv;intro z;have:a=c:=by simpa using (Cf z).1
    exact h1 (by rw[this];exact hc)
 exact gen xs h
def JN (zA:Ya):(zG zA).Nodup:=by
 unfold zG;exact Es.mpr (List.Pairwise.imp (λ{a b} h z=>h (by omega)) List.nodup_range)
def EM:t∈zi zA l G ↔ t∈zQ (zG zA) /\ ∃ n,Dst zA l G t (n+1):=by
 unfold zi Gn;rw[C9];constructor
 .rintro ⟨a,b⟩;have:=Oa (CQ b);exact ⟨a,Bp zA l G t-1,by rw[show Bp zA l G t-1+1=Bp zA l G t by have:=CQ b;omega];exact this⟩
 .rintro ⟨a,n,h⟩;exact ⟨a,AO (by rw[Ek h];omega)⟩
def bW (hf:f Y M=some (.dat (.ref n),M)) (hn:M[n]?=some (dT T)) (hg:g Y M=some (.dat (tI k),M)):Cy f g (fC c) Y M=some (.dat ((zE T k).getD c),M):=by
 unfold Cy;rw[show toD f Y M=some (.ref n,M) by unfold toD;rw[hf]];dsimp only;rw[hn];rw[show toD g Y M=some (tI k,M) by unfold toD;rw[hg]];dsimp only;rw[show toD (fC c) Y M=some (c,M)from rfl];dsimp only;rw[dgT hn]
def WA {own:Yj} {i:Nat} {tv:FE} {Y:Sd} {M:Mem} {jl jk:Nat} {K:MO} {ts:Ya} {val:List Int->D} (hj:M[jl]?=some (.lst (ts.map tI))) (hk:M[jk]?=some K) (nd:ts.Nodup) (hz:ts.length<=80000)
  (hg:∀ a,gN i a (Ac own Y)=some ((Ac own Y).set i (some a))) (hs:∀ (a:D) M',zC i ((Ac own Y).set i (some a)) M'=some (.dat a,M'))
  (hv:∀ t∈ts,∀ M':Mem,M'[jk]?=some K -> ∃ us,tv ((Ac own Y).set i (some (tI t))) M'=some (.dat (val t),M'++us)) {n:Nat} (hn:n=M.length) :
  ∃ us,B7 (gN i) zZ (zC i) tv (Ac own Y) n (ts.map tI) (CO (.dat (.ref jl)) (ts.map tI)) (ts.map tI) (M++[dT []])=some (M++dT (ts.map λt=>(t,val t))::us):=by
 subst hn;have hjl:=(AK.mp hj).1;have hkl:=(AK.mp hk).1;have loop:∀ (r q:Ya) (ws:Mem),q++r=ts -> ∃ us,B7 (gN i) zZ (zC i) tv (Ac own Y) M.length (ts.map tI) (CO (.dat (.ref jl)) (ts.map tI)) (r.map tI) (M++dT (q.map λt=>(t,val t))::ws)=some (M++dT (ts.map λt=>(t,val t))::us):=by
  intro r;induction r with
  |nil=>
   intro q ws e;rw[BF]at e;subst e;exact ⟨ws,JK (.inl (by rw[AW hjl];exact hj))⟩
  |cons x r ih=>
   intro q ws e;have hx:x∉q:=λz=>by
    rw[<-e,DS]at nd;exact nd.2.2 x z x Ad rfl
   have hl:q.length<90000:=by have:=BJ List.length e;simp at this;omega
   obtain ⟨us,hu⟩:=hv x (by rw[<-e];simp) (M++dT (q.map λt=>(t,val t))::ws) (by rw[AW hkl];exact hk);obtain ⟨vs,hvs⟩:=ih (q++[x]) (ws++us) (by rw[<-e];simp);refine ⟨vs,?_⟩;rw[<-hvs,AX];have hgd:BD (CO (.dat (.ref jl)) (ts.map tI)) (ts.map tI) (M++dT (q.map λt=>(t,val t))::ws):=.inl (by rw[AW hjl];exact hj);rw[B7,AB hgd,hg];dsimp only;rw[show zZ ((Ac own Y).set i (some (tI x))) (M++dT (q.map λt=>(t,val t))::ws)=some (true,M++dT (q.map λt=>(t,val t))::ws)from rfl];dsimp only;rw[show toD (zC i) ((Ac own Y).set i (some (tI x))) (M++dT (q.map λt=>(t,val t))::ws)=some (tI x,M++dT (q.map λt=>(t,val t))::ws) by unfold toD;rw[hs]];dsimp only;rw[show toD tv ((Ac own Y).set i (some (tI x))) (M++dT (q.map λt=>(t,val t))::ws)=some (val x,M++dT (q.map λt=>(t,val t))::ws++us) by unfold toD;rw[hu]];dsimp only;rw[Fe (T:=q.map λt=>(t,val t)) (by simp) (by rw[AG];exact hl),Jf (by rw[Ae];simpa using hx)];congr 1;rw[BL,GF _ _ (AF _)];simp
 exact loop ts [] [] rfl
def aV {zA:Ya} {l:Nat} {G:Yq} (m:IsM zA l) (hR:zA.length<=26) (hl:l<=12) {M:Mem} {jf:Nat} {fd:List (List Int × D)} (hf:M[jf]?=some (dT fd)) (sp:Kk zA l G fd) :
  Ok (Gb [mD zA,.ref jf] M) λd M'=>∃ jr us,d=.ref jr/\M'=M++us/\M.length<=jr/\M'[jr]?=some (dT (A2 zA l G)):=by
 unfold Gb;rw[zw];unfold K1;have hfl:=(AK.mp hf).1;have hrl:(zG zA).length=zA.length:=by unfold zG;simp
 have epr:=MZ (xs:=zG zA) (by omega) (M:=M);have ei:AQ (zM Dz (zD (toD (zM EZ (zD (toD (zC 0)) zI))) zI)) [some (mD zA),some (.ref jf),none,none] M=_:=Km (zg (d:=tI (zG zA)) (zf (zg (d:=mD zA) rfl) (Md (by omega)))) epr (B8 _ _);have hPl:(zQ (zG zA)).length<=676:=by
  have h1:=Ht (zG zA);rw[hrl]at h1;exact AZ h1 (Eh hR hR)
 generalize hA:M++[MO.lst ((zQ (zG zA)).map tI)]=A at ei;have a1:A[M.length]?=some (.lst ((zQ (zG zA)).map tI)):=by rw[<-hA];simp
 have a2:A[jf]?=some (dT fd):=by rw[<-hA,AW hfl];exact hf
 have ef:=Hq (own:=[3]) (g:=gN 3) (tc:=tst (fOp kGt (Cy (zC 1) (zC 3) (fC (.int 0))) (fC (.int 0)))) (te:=zC 3) (zQ (zG zA)) tI tI (Gn zA l G) ei (.inl a1) (by omega) (λp hp=>by
  refine ⟨[some (mD zA),some (.ref jf),none,some (tI p)],rfl,BR ?_,λ_=>rfl⟩;have e1:Cy (zC 1) (zC 3) (fC (.int 0)) [some (mD zA),some (.ref jf),none,some (tI p)] A=_:=bW (k:=p) rfl a2 rfl;unfold Gn;cases e:zE fd p with
  |none=>
   rw[e]at e1;rw[zK (x:=.dat (.int 0)) (y:=.dat (.int 0)) e1 rfl gtE];have:¬ 0<Bp zA l G p:=λh=>by
    rw[(sp p _).mpr ⟨E3 p hp,_,Oa h,rfl⟩]at e;cases e
   rw[AU this];rfl
  |some d=>
   obtain ⟨_,v,hv,rfl⟩:=(sp _ d).mp e;rw[e]at e1;rw[zK (x:=.dat (.int (v:Int))) (y:=.dat (.int 0)) e1 rfl gtE,Ek hv];congr 5;exact propext ⟨λh=>by omega,λh=>by omega⟩)
 rw[zN,zh];refine zF ef (CN ?_);rw[zU];show OkS (AL _ [some (mD zA),some (.ref jf),some (.ref A.length),none] (A++[.lst ((zi zA l G).map tI)])) _;have nd:(zi zA l G).Nodup:=List.Pairwise.filter _ (JH (JN zA));have hrl2:(zi zA l G).length<=676:=AZ (Fu _ _) hPl;generalize hB:A++[MO.lst ((zi zA l G).map tI)]=B;have b1:B[A.length]?=some (.lst ((zi zA l G).map tI)):=by rw[<-hB];simp
 have b2:B[jf]?=some (dT fd):=by rw[<-hB,AW (AK.mp a2).1];exact a2
 obtain ⟨us,hu⟩:=WA (own:=[3]) (i:=3) (Y:=[some (mD zA),some (.ref jf),some (.ref A.length),none]) (tv:=Br (zD (toD (fOp Ay (zC 1) (zC 3))) (zD (toD (zM Er (zD (toD (zC 0)) (zD (toD (zC 3)) (zD (toD (zC 1)) zI))))) zI))) (val:=Cv zA l G) b1 b2 nd (by omega) (λ_=>rfl) (λ_ _=>rfl) (λt ht M' hM=>by
  obtain ⟨ht1,n,hn⟩:=EM.mp ht;obtain ⟨d,M2,e,x,rfl,fx,us,rfl⟩:=W3 m hR hl hM sp (E3 t ht1) hn;refine ⟨us,?_⟩;show Br _ [some (mD zA),some (.ref jf),some (.ref A.length),some (tI t)] M'=_;have e1:fOp Ay (zC 1) (zC 3) [some (mD zA),some (.ref jf),some (.ref A.length),some (tI t)] M'=some (.dat (.int ((n+1:Nat):Int)),M'):=zK (x:=.dat (.ref jf)) (y:=.dat (tI t)) rfl rfl (Gg hM ((sp t _).mpr ⟨E3 t ht1,n+1,hn,rfl⟩));have e2:zM Er (zD (toD (zC 0)) (zD (toD (zC 3)) (zD (toD (zC 1)) zI))) [some (mD zA),some (.ref jf),some (.ref A.length),some (tI t)] M'=some (.dat (.int x),M'++us):=zf (zt (d:=mD zA) rfl (zt (d:=tI t) rfl (zg (d:=.ref jf) rfl))) e;rw[HI (aC' (PL e1) (Mv e2)) (by simp)];unfold Cv;rw[Ek hn,Kd hn fx]) rfl
 have ed:CL true [3] (AQ (zC 2)) (gN 3) zZ (zC 3) (Br (zD (toD (fOp Ay (zC 1) (zC 3))) (zD (toD (zM Er (zD (toD (zC 0)) (zD (toD (zC 3)) (zD (toD (zC 1)) zI))))) zI))) [some (mD zA),some (.ref jf),some (.ref A.length),none] B=some (.dat (.ref B.length),B++dT (A2 zA l G)::us):=by
  unfold CL AQ;rw[show zC 2 [some (mD zA),some (.ref jf),some (.ref A.length),none] B=some (.dat (.ref A.length),B)from rfl];dsimp only;rw[CT b1];dsimp only;rw[show G0 true=dT []from rfl,hu];rfl
 rw[CC];refine zF ed ⟨B.length,[MO.lst ((zQ (zG zA)).map tI)]++([MO.lst ((zi zA l G).map tI)]++dT (A2 zA l G)::us),rfl,by rw[<-hB,<-hA];simp only[BL],?_,by simp⟩;rw[<-hB,<-hA];simp only[An];omega
def X2 (m:IsM zA l) (hR:zA.length<=26) (hl:l<=12) :
  Ok (Hn [mD zA] M) λd M'=>∃ jr,d=.ref jr/\M.length<=jr/\M'[jr]?=some (dT (A2 zA l One))/\M.length<=M'.length /\ ∀ j,j<M.length->M'[j]?=M[j]?:=by
 unfold Hn;rw[zw];unfold MU;obtain ⟨d,M1,e,jf,rfl,h1,⟨fd,h2,_,sp⟩,h3,h4⟩:=ON m hR hl (M:=M);obtain ⟨d2,M2,e2,jr,us,rfl,rfl,q1,q2⟩:=aV m hR hl h2 sp;rw[CC];have ec:zM Gb (zD (toD (zC 0)) (zD (toD (zM GH (zD (toD (zC 0)) zI))) zI)) [some (mD zA)] M=some (.dat (.ref jr),M1++us):=by
  exact Qp (aC' (PL (d:=mD zA) rfl) (Mv (zf (zg (d:=mD zA) rfl) e))) e2
 refine zF ec ⟨jr,rfl,by omega,q2,by rw[An];omega,λj hj=>?_⟩;rw[AW (by omega)];exact h4 j hj
theorem O6 (m:IsM zA l) (o:F3 zA G):∀ (n:Nat) (t:Ye),Th zA t->Dst zA l G t n -> ∃ ts:List (List Int),ts.length=n/\ts.Nodup /\ ∀ s∈ts,s∈zQ (zG zA) /\ ∃ k,k<=n/\Dst zA l G s k
 |0,_,_,_=>⟨[],rfl,List.nodup_nil,λ_ h=>by cases h⟩
 |n+1,t,u,d=>by
  obtain ⟨q,x,hx,hd⟩:=Gm.mp d;obtain ⟨ts,h1,h2,h3⟩:=O6 m o n (setR zA t x) (Em m t x u hx) hd;refine ⟨t::ts,by simp[h1],EK.mpr ⟨λz=>?_,h2⟩,λs hs=>?_⟩
  .obtain ⟨_,k,hk,hk2⟩:=h3 t z;have:=FP hk2 d;omega
  .rcases AI.mp hs with rfl|z
   .exact ⟨RE m o s (n+1) u (λg=>by have:=FP (ER.mpr g) d;omega) d.1,n+1,AF _,d⟩
   .obtain ⟨a,k,hk,b⟩:=h3 s z;exact ⟨a,k,by omega,b⟩
def Rj (m:IsM zA l) (o:F3 zA G) (u:Th zA t) (d:Dst zA l G t n):n<=(zQ (zG zA)).length:=by
 obtain ⟨ts,h1,h2,h3⟩:=O6 m o n t u d;rw[<-h1];exact LH ts _ h2 λs hs=>(h3 s hs).1
def IS (hR:zA.length<=26):(zQ (zG zA)).length<=676:=by
 have h1:=Ht (zG zA);have hrl:(zG zA).length=zA.length:=by unfold zG;simp
 rw[hrl]at h1;exact AZ h1 (Eh hR hR)
def Q2:zE (A2 zA l G) t=if t∈zi zA l G then some (Cv zA l G t) else none:=NS
noncomputable def Bw (a b:Int):List Int:=[if b<a then b else a,if b>a then b else a]
def LR (a0:0<=a) (a1:a<zA.length) (b0:0<=b) (b1:b<zA.length) (ne:a≠b):Bw a b∈zQ (zG zA):=by
 unfold Bw;refine zn.mpr ⟨_,_,rfl,zc.mpr ?_,zc.mpr ?_,?_⟩
 .split <;> omega
 .split <;> omega
 .split <;> split <;> omega
def UL (h:a≠b):(Bw a b).Pairwise (· < ·):=by
 unfold Bw;simp only[DY,Aq,forall_eq,BU,false_implies,implies_true,List.Pairwise.nil,and_true];split <;> split <;> omega
def YF (h1:fv Y M=some (.dat v,M)) (h2:fo Y M=some (.dat (.ref n),M)) (h3:fi Y M=some (.dat k,M)) (h4:FR M n k v=some M4) (q:P .nx Y M4):OkS (Cg fv fo fi Y M) P:=by
 refine ⟨.nx,Y,M4,?_,q⟩;unfold Cg toD;rw[h1];dsimp only;rw[h2];dsimp only;rw[h3];dsimp only;rw[h4]
def Rn {c r:Int} (c0:1<=c) (r0:0<r) (cr:c+r<=28) {rest:FS} {τ:Sd} {P:Out->Sd->Mem->Prop} {ns:Ye} (h:ns.length<=63)
  (q:∀ zA l M,IsM zA l->c<=(zA.length:Int)->(zA.length:Int)<c+r->zA.length<=27->l<=6->Gen M 2 1->M[0]?=some (.fro (ns.map D.int))->OkS (rest (some (.ref 0)::some (.ref 2)::some (.int (zA.length:Int))::some (mD zA)::τ) M) P) :
  OkS (zS (AM 1 (zM Gq (zD (toD (zC 0)) zI))) (zS (AM 2 (fOp BE (fC (.int c)) (zM ze (zD (toD (zC 1)) (zD (toD (fC (.int r))) zI))))) (zS (AM 3 (zM GX (zD (toD (zC 1)) (zD (toD (zC 2)) (zD (toD (fOp BE (fC (.int 1)) (zM ze (zD (toD (zC 1)) (zD (toD (fC (.int 6))) zI))))) zI))))) rest)) (some (.ref 0)::none::none::none::τ) [.fro (ns.map D.int)]) P:=by
 rw[zN,zh];refine F7.mpr (zF (zg rfl) ?_);refine Ok.mono (Xn h) ?_;rintro d M1 ⟨rfl,g1,e0,_⟩;rw[zL,zU,zN,zh];refine Au.mpr (zF rfl (DQ g1 rfl rfl r0 (by omega) λi M2 i0 i1 nx2=>zF (a:=.dat (.int (c+i))) rfl ?_));rw[zL,zU,zN,zh];refine F7.mpr (DN.mpr (Bn.mpr (zF (a:=.dat (.ref 2)) rfl ?_)));rw[zL];refine DN.mpr (Bn.mpr (zF (a:=.dat (.int (c+i))) rfl ?_));rw[zL];refine DN.mpr (Bn.mpr (Au.mpr (zF rfl (DQ nx2.gen rfl rfl (by decide) (by decide) λj M3 j0 j1 nx3=>zF (a:=.dat (.int (1+j))) rfl ?_))));rw[zL,E8];refine Ok.mono (gR nx3.gen (by omega) (by omega) (by omega) (by omega)) ?_;rintro d M4 ⟨⟨zA,l,rfl,m,hR,hL⟩,nx4⟩;rw[zL,zU];have l3:0<M3.length:=by rw[nx3.len,nx2.len];exact (AK.mp e0).1
 have e4:M4[0]?=some (.fro (ns.map D.int)):=(nx4.fr 0 l3 (by decide) (by decide)).trans ((nx3.fr 0 (by decide) (by decide)).trans ((nx2.fr 0 (by decide) (by decide)).trans e0));have:=q zA l M4 m (by omega) (by omega) (by omega) (by omega) nx4.gen e4;rw[hR]at this;exact this
noncomputable def J0:FS:=(zS (AM 1 (Ar zI))
  (zS (Bl (A1 (zD (toD (fB Aw (zP (zC 0) zd))) zI)) (gN 2) (B6 (fM G3 (zC 1) (zD (toD (zo [3] (AQ (fSl (zC 0) (C6 (fOp BE (zC 2) (fC (.int 1)))) De)) (gN 3) zZ (Br (zD (toD (fOp kIx (zC 0) (zC 2))) (zD (toD (zC 3)) zI))))) zI))))
  (AL (zC 1))))
noncomputable def GV:FF:=Ak 4 J0
noncomputable def LF:FS:=(zS (AM 3 (fOp kIx (fOp kIx (zC 0) (fOp kIx (zC 1) (fC (.int 0)))) (zC 2)))
  (zS (AM 4 (fOp kIx (fOp kIx (zC 0) (fOp kIx (zC 1) (fC (.int 1)))) (zC 2)))
  (AL (Br (zD (toD (fB Hv (zP (zC 3) (zP (zC 4) zd)))) (zD (toD (fB HG (zP (zC 3) (zP (zC 4) zd)))) zI))))))
noncomputable def Ho:FF:=FX (Ak 5 LF)
def bS {xs:Ye} (h:xs.Pairwise (· < ·)) (hi:i<xs.length):xs.filter (λb=>decide (xs[i]<b))=xs.drop (i+1):=by
 have hg:=List.pairwise_iff_getElem.mp h;have h1:(xs.take (i+1)).filter (λb=>decide (xs[i]<b))=[]:=by
  rw[List.filter_eq_nil_iff];intro b hb;obtain ⟨j,hj,rfl⟩:=Ep hb;rw[CG]at hj;rw[List.getElem_take,CA];rcases Nat.lt_or_ge j i with q|q
  .have:=hg j i (by omega) hi q;omega
  .have:j=i:=by omega
   subst this;omega
 have h2:(xs.drop (i+1)).filter (λb=>decide (xs[i]<b))=xs.drop (i+1):=by
  rw[List.filter_eq_self];intro b hb;obtain ⟨j,hj,rfl⟩:=Ep hb;rw[Dj]at hj;rw[List.getElem_drop,CA];exact hg i (i+1+j) hi (by omega) (by omega)
 have key:∀ f:Int->Bool,(xs.take (i+1)).filter f=[]->(xs.drop (i+1)).filter f=xs.drop (i+1)->xs.filter f=xs.drop (i+1):=λf a b=>by
  have:=List.filter_append (p:=f) (xs.take (i+1)) (xs.drop (i+1));rw[DW,a,b]at this;simpa using this
 exact key _ h1 h2
noncomputable def CY (xs:Ye) (k:Nat):List (List Int):=(List.range k).flatMap λi=>(xs.drop (i+1)).map λb=>[xs.getD i 0,b]
def cJ {xs:Ye} (h:xs.Pairwise (· < ·)):CY xs xs.length=zQ xs:=by
 have e:zQ xs=(List.range xs.length).flatMap λi=>(xs.filter λb=>decide (xs.getD i 0<b)).map λb=>[xs.getD i 0,b]:=by
  unfold zQ;have:xs=(List.range xs.length).map λi=>xs.getD i 0:=by
   have:=OJ (λx:Int=>x) 0 xs;simpa using this.symm
  conv=>lhs;arg 2;rw[this]
  rw[List.flatMap_map]
 rw[e];unfold CY;have:∀ i∈List.range xs.length,(xs.drop (i+1)).map (λb=>[xs.getD i 0,b])=(xs.filter λb=>decide (xs.getD i 0<b)).map λb=>[xs.getD i 0,b]:=λi hi=>by
  have hi':=Bo.mp hi;rw[<-bS h hi'];congr 2;funext b;rw[BW,AS hi'];rfl
 rw[List.flatMap_def,List.flatMap_def,List.map_congr_left this]
def WU (xs:Ye):∀ k,(CY xs k).length<=k*xs.length:=by
 intro k;induction k with
 |zero=>simp[CY]
 |succ k ih=>
  unfold CY at ih ⊢;rw[List.range_succ,List.flatMap_append,An];simp only[List.flatMap_cons,List.flatMap_nil,BF,AG,Dj];rw[Nat.add_mul];omega
def fY {xs:List D} (hk:k<=xs.length):L3.B9 xs (some (k:Int)) none=xs.drop k:=by
 have ha:HT.sIx xs.length 0 (some (k:Int))=k:=by rw[HT.Qy];omega
 unfold L3.B9;rw[ha,show HT.sIx xs.length xs.length none=xs.length from rfl];exact Fx (by simp)
def Ja (n:Nat) (ps:Ya):D.unds n (ps.map tI)=true:=by
 induction ps with
 |nil=>rfl
 |cons p r ih=>rw[AX];unfold D.unds;rw[ih,show D.und n (tI p)=true from E5 p];rfl
def XS (hj:M[j]?=some (.lst (xs.map D.int))) (hx:xs.Pairwise (· < ·)) (hz:xs.length<=100) :
  Ok (GV [.ref j] M) λd M'=>d=.ref M.length /\ ∃ us:Mem,M'=M ++ .lst ((zQ xs).map tI)::us /\ ∀ u∈us,MO.und 0 u=true:=by
 have hjl:=(AK.mp hj).1;unfold GV;rw[zw];unfold J0;show OkS (zS _ _ [some (.ref j),none,none,none] M) _;rw[zN,zh];refine zF (M:=M) (a:=.fl []) (jK rfl (by simp)) (CN ?_);rw[zU];show OkS (zS _ _ [some (.ref j),some (.ref M.length),none,none] (M++[.lst []])) _;have up:∀ us:Mem,(M++us)[j]?=some (.lst (xs.map D.int)):=λus=>by rw[AW hjl];exact hj
 rw[zN,Ed];have el:=Ez (f:=zC 0) (Y:=[some (.ref j),some (.ref M.length),none,none]) (M:=M++[.lst []]) (x:=.dat (.ref j)) rfl (CT (up _));rw[AG]at el;refine ⟨_,_,_,El el (by omega) (by omega),?_⟩;rw[show ((xs.length:Int)).toNat=xs.length by omega];refine Ij (n:=xs.length) (I:=λk Y M'=>(∃ y2 y3,Y=[some (.ref j),some (.ref M.length),y2,y3]) /\ ∃ us:Mem,M'=M ++ .lst ((CY xs k).map tI)::us /\ ∀ u∈us,MO.und 0 u=true) ?_ ?_ _ _ ⟨⟨_,_,rfl⟩,[],by simp[CY],(λ_ h=>by cases h)⟩
 .intro k Y M' hk hI;refine Classical.byContradiction λG=>?_;obtain ⟨⟨y2,y3,eI1⟩,us,eI2,hu⟩:=hI;refine G ?_;clear G;subst eI1 eI2;refine ⟨_,rfl,?_⟩;show OkS (B6 _ [some (.ref j),some (.ref M.length),some (.int (k:Int)),y3] (M ++ .lst ((CY xs k).map tI)::us)) _;generalize hA:M++MO.lst ((CY xs k).map tI)::us=A;have a0:A[j]?=some (.lst (xs.map D.int)):=by rw[<-hA];exact up _
  have a1:A[M.length]?=some (.lst ((CY xs k).map tI)):=by rw[<-hA];simp
  have al:M.length<A.length:=(AK.mp a1).1;rw[Hg];have esl:fSl (zC 0) (C6 (fOp BE (zC 2) (fC (.int 1)))) De [some (.ref j),some (.ref M.length),some (.int (k:Int)),y3] A=some (.fl ((xs.drop (k+1)).map D.int),A):=by
   refine zV (Nv.mpr (zF (a:=.dat (.ref j)) (M:=A) rfl (N2.mpr (zF (a:=.dat (.int ((k+1:Nat):Int))) (M:=A) rfl (QC.mpr (NP.mpr ?_))))));rw[Pm (D0 a0) rfl,fY (by rw[AG];omega),List.map_drop];exact ⟨rfl,rfl⟩
  have ec:=EH (own:=[3]) (g:=gN 3) (te:=Br (zD (toD (fOp kIx (zC 0) (zC 2))) (zD (toD (zC 3)) zI))) (Y:=[some (.ref j),some (.ref M.length),some (.int (k:Int)),y3]) (M:=A) (xs.drop (k+1)) D.int (λb=>tI [xs.getD k 0,b]) (Rc esl) trivial (by rw[Dj];omega) λb _=>⟨_,rfl,HI (zt (zK (x:=.dat (.ref j)) (y:=.dat (.int (k:Int))) rfl rfl (Cr (CT a0) (LN (by rw[Az,AS hk,BW,AS hk];rfl)))) (zg (d:=.int b) rfl)) (by simp)⟩;have htl:=WU xs k;have hmul:k*xs.length<=100*100:=Eh (by omega) hz;refine Hu.mpr (zF (a:=.dat (.ref M.length)) (M:=A) rfl ⟨⟨_,D0 a1⟩,DN.mpr (Bn.mpr (zF ec (CN ?_)))⟩);rw[E8];refine zF (jH (n:=M.length) (m:=A.length) (xs:=(CY xs k).map tI) (ys:=(xs.drop (k+1)).map λb=>tI [xs.getD k 0,b]) (by rw[AW al];exact a1) (B8 _ _) (by rw[AG,AG,Dj];omega)) ?_;refine ⟨⟨_,_,rfl⟩,us++[.lst ((xs.drop (k+1)).map λb=>tI [xs.getD k 0,b])],?_,λu hu'=>?_⟩
  .rw[<-hA,BL,GF _ _ (AF _)];have:(CY xs (k+1)).map tI=(CY xs k).map tI++(xs.drop (k+1)).map λb=>tI [xs.getD k 0,b]:=by
    unfold CY;rw[List.range_succ,List.flatMap_append,CK];simp[Ae,Function.comp_def]
   rw[this];simp
  .rcases Ai.mp hu' with q|q
   .exact hu u q
   .rw[Aq]at q;subst q;show D.unds 0 _=true;rw[show (xs.drop (k+1)).map (λb=>tI [xs.getD k 0,b])=((xs.drop (k+1)).map λb=>[xs.getD k 0,b]).map tI by rw[Ae];rfl];exact Ja 0 _
 .intro Y M' hI;refine Classical.byContradiction λG=>?_;obtain ⟨⟨y2,y3,eI1⟩,us,eI2,hu⟩:=hI;refine G ?_;clear G;subst eI1 eI2;rw[zU];exact zq (d:=.ref M.length) rfl ⟨rfl,us,by rw[cJ hx],hu⟩
def U5 {zA:Ya} {l:Nat} (m:IsM zA l) {a b x:Int} (a0:0<=a) (a1:a<zA.length) (b0:0<=b) (b1:b<zA.length) (x0:0<=x) (x1:x<l) {M:Mem}:Ho [mD zA,tI [a,b],.int x] M=some (tI (Bw (zb zA a x) (zb zA b x)),M):=by
 refine zV ?_;unfold Ho;refine Il ?_ ?_
 .unfold D.unds D.unds D.unds D.unds;rw[Hj,show D.und 0 (tI [a,b])=true from E5 _];rfl
 rw[zw];unfold LF;show OkS (zS _ _ [some (mD zA),some (tI [a,b]),some (.int x),none,none] []) _;refine EB (m.ix a0 a1 x0 x1 (f1:=zC 0) (f2:=fOp kIx (zC 1) (fC (.int 0))) (f3:=zC 2) rfl (zK (x:=.dat (tI [a,b])) (y:=.dat (.int 0)) rfl rfl (Cr BZ rfl)) rfl) ?_;refine EB (m.ix b0 b1 x0 x1 (f1:=zC 0) (f2:=fOp kIx (zC 1) (fC (.int 1))) (f3:=zC 2) rfl (zK (x:=.dat (tI [a,b])) (y:=.dat (.int 1)) rfl rfl (Cr BZ rfl)) rfl) ?_;exact zq (d:=tI (Bw (zb zA a x) (zb zA b x))) (HI (zt (W0 (i:=zb zA a x) (j:=zb zA b x) rfl rfl) (zg (cZ (i:=zb zA a x) (j:=zb zA b x) rfl rfl))) (by simp[Bw])) ⟨E5 _,rfl,rfl⟩
def Pn (h:p≠q):Bw p q=ris [p,q]:=by
 refine (Jy (UL h)).symm.trans (Kw λx=>?_);unfold Bw;by_cases z:q<p
 .rw[AB z,AE (by omega)];simp[or_comm]
 .rw[AE z,AB (by omega)]
def Xf (hf:f Y M=some (x,M)) (h:Av M x=some xs):fB GQ (zP f zd) Y M=some (.fl xs,M):=by
 unfold fB zP zd;rw[hf];dsimp only;unfold GQ;dsimp only;rw[h]
noncomputable def IJ:FS:=(zS (sIf (CZ (Dx (tst (zM HF (zD (toD (zC 1)) (zD (toD (fB Aw (zP (zC 0) zd))) zI))))) (tst (fOp kEq (fB Aw (zP (zC 1) zd)) (fC (.int 0))))) (AL (fC (.bl false))) Ap)
  (AL (fB Dm (zP (zo [2,3] (Hc (zD (toD (zC 1)) (zD (toD (fSl (zC 1) (C6 (fC (.int 1))) De)) zI))) (Hr 2 3) zZ (fOp kLt (zC 2) (zC 3))) zd))))
noncomputable def F8:FF:=Ak 4 IJ
def cR {xs:List D} {lo hi:Ys} {a b:Nat} (ha:HT.sIx xs.length 0 lo=a) (hb:HT.sIx xs.length xs.length hi=b):L3.B9 xs lo hi=(xs.drop a).take (b-a):=by
 unfold L3.B9;rw[ha,hb]
def fE (n:Nat) (d:Nat):HT.sIx n d none=d:=rfl
def UC (h:∀ x∈c,0<=x/\x<R):tbD R (tI c)=true:=by
 show List.all _ _=true;rw[A0];intro d hd;obtain ⟨i,hi,rfl⟩:=Ag.mp hd;have:=h i hi;simp[Cb,this.1,this.2]
def dY {f:FE} {Y:Sd} {M M1:Mem} {bs:List Bool} (h:f Y M=some (.fl (bs.map D.bl),M1)):fB Dm (zP f zd) Y M=some (.dat (.bl (bs.all id)),M1):=by
 have:=Ff (f:=λ_ _=>some (.fl (bs.map D.bl),M1)) (Y:=Y) (M:=M1) rfl;unfold fB zP zd at this ⊢;rw[h];exact this
noncomputable def Ma:FS:=(zS (AM 1 (zM GH (zD (toD (zC 0)) zI)))
  (AL (fB DH (zP (zo [2] (AQ (zM Dz (zD (toD (zM EZ (zD (toD (zC 0)) zI))) zI))) (gN 2) (tst (fOp (Ax true) (zC 2) (zC 1))) (zC 2)) zd))))
noncomputable def HQ:FF:=FX (Ak 3 Ma)
def ZZ (hz:zA.length<=1000) (hf:f Y M=some (.dat (.int zA.length),M)):Fh f Y M=some (.fl ((zG zA).map D.int),M):=by
 refine zV (Ue (j:=(zA.length:Int)) hf (by omega) (by omega) ⟨?_,rfl⟩);unfold upD zG;rw[Ae,show (zA.length:Int).toNat=zA.length by omega];rfl
open Classical in
noncomputable def DA (zA:Ya) (l:Nat):List (List Int):=(zQ (zG zA)).filter λp=>decide (p∉zi zA l One)
def aD (n:Nat) (ps:Ya):D.und n (.tup (ps.map tI))=true:=by unfold D.und;exact Ja n ps
def Vb (m:IsM zA l) (hR:zA.length<=26) (hl:l<=12):HQ [mD zA] M=some (.tup ((DA zA l).map tI),M):=by
 refine zV ?_;unfold HQ;refine Il ?_ ?_
 .unfold D.unds D.unds;rw[Hj];rfl
 rw[zw];unfold Ma;obtain ⟨d,M1,e,jf,rfl,_,⟨fd,h2,_,sp⟩,_,_⟩:=ON m hR hl (M:=[]);rw[zN,zh];refine zF (zf (zg (d:=mD zA) rfl) e) ?_;rw[zL,zU];have hrl:(zG zA).length=zA.length:=by unfold zG;simp
 have epr:=MZ (xs:=zG zA) (by omega) (M:=M1);have ei:AQ (zM Dz (zD (toD (zM EZ (zD (toD (zC 0)) zI))) zI)) [some (mD zA),some (.ref jf),none] M1=_:=Km (zg (d:=tI (zG zA)) (zf (zg (d:=mD zA) rfl) (Md (by omega)))) epr (B8 _ _);have hjl:=(AK.mp h2).1;have hPl:=IS hR;have ef:=Hq (own:=[2]) (g:=gN 2) (tc:=tst (fOp (Ax true) (zC 2) (zC 1))) (te:=zC 2) (zQ (zG zA)) tI tI (λp=>open Classical in decide (p∉zi zA l One)) ei (.inl (B8 _ _)) (by omega) (λp hp=>by
  refine ⟨[some (mD zA),some (.ref jf),some (tI p)],rfl,?_,λ_=>rfl⟩;have e1:fOp (Ax true) (zC 2) (zC 1) [some (mD zA),some (.ref jf),some (tI p)] (M1++[MO.lst ((zQ (zG zA)).map tI)])=_:=zK (x:=.dat (tI p)) (y:=.dat (.ref jf)) rfl rfl (GP (T:=fd) (by rw[AW hjl];exact h2));rw[AB rfl]at e1;have hb:(zE fd p).isSome=true ↔ p∈zi zA l One:=by
   rw[EM];constructor
   .intro h;cases eL:zE fd p with
    |none=>rw[eL]at h;cases h
    |some d=>
     obtain ⟨_,n,hn,_⟩:=(sp p d).mp eL;cases n with
     |zero=>
      obtain ⟨a,b,rfl,_⟩:=zn.mp hp;exact absurd (ER.mp hn) (by simp[One])
     |succ n=>exact ⟨hp,n,hn⟩
   .rintro ⟨_,n,hn⟩;rw[(sp p _).mpr ⟨E3 p hp,n+1,hn,rfl⟩];rfl
  rw[BR e1];by_cases hin:p∈zi zA l One
  .rw[hb.mpr hin,AU (by simpa using hin)];rfl
  .have:(zE fd p).isSome=false:=by
    cases h:(zE fd p).isSome with
    |false=>rfl
    |true=>exact absurd (hb.mp h) hin
   rw[this,AO hin];rfl)
 rw[CC];refine IE.mpr (Hs.mpr (zF ef (HU.mpr ((Ka FU).mpr ?_))));rw[zL];exact ⟨aD 0 _,rfl,rfl⟩
noncomputable def LY:FS:=(AL (Ds (zM F8 (zD (toD (zC 0)) (zD (toD (zC 1)) zI))) (fOp kEq (fB Aw (zP (zC 1) zd)) (fC (.int 2)))))
noncomputable def Fi:FF:=Ak 2 LY
noncomputable def KU:FS:=(AL (fB DH (zP (zo [1,2,3] (IC (zM Hn (zD (toD (zC 0)) zI))) (Iu 1 2 3) zZ (Br (zD (toD (zC 1)) (zD (toD (zC 2)) (zD (toD (zC 3)) zI))))) zd)))
noncomputable def Hw:FF:=FX (Ak 4 KU)
noncomputable def Bt (n:Int):D->Bool
 |.tup [.int a,.int b]=>decide (0<=a)&&decide (a<b)&&decide (b<n)
 |_=>false
theorem N9:∀ {ds:List D},ds.all (Cb n)=true -> ∃ xs:List Int,ds=xs.map D.int /\ ∀ x∈xs,0<=x/\x<n
 |[],_=>⟨[],rfl,λ_ h=>by cases h⟩
 |d::ds,h=>by
  rw[List.all_cons,A6]at h;obtain ⟨xs,rfl,hx⟩:=N9 h.2;have h1:=h.1;cases d with
  |int i=>
   simp only[Cb,A6,CA]at h1;exact ⟨i::xs,rfl,λx hm=>by
    rcases AI.mp hm with z|z
    .subst z;exact h1
    .exact hx x z⟩
  |_=>cases h1
def J6 (h:Bt n d=true):∃ a b,d=tI [a,b]/\0<=a/\a<b/\b<n:=by
 unfold Bt at h;split at h
 .rename_i a b;simp only[A6,CA]at h;exact ⟨a,b,rfl,h.1.1,h.1.2,h.2⟩
 .cases h
def Ii:Bt n (tI [a,b])=(decide (0<=a)&&decide (a<b)&&decide (b<n)):=rfl
def XI (hd:Vd M d):∃ b,F8 [mD zA,d] M=some (.bl b,M)/\(b=true -> ∃ ds,d=.tup ds/\(decide ((ds.length:Int)=2))=Bt zA.length d)/\(b=false->Bt zA.length d=false):=by
 have e:=YS (n:=zA.length) hd;cases h:tbD zA.length d with
 |false=>
  refine ⟨false,?_,(λz=>by cases z),λ_=>?_⟩
  .refine zV ?_;unfold F8;rw[zw];unfold IJ;rw[h]at e;exact Di (IQ (DX (zf (zt (d:=d) rfl (zg (HL rfl))) e))) (zq (d:=.bl false) rfl ⟨rfl,rfl⟩)
  .cases hp:Bt zA.length d with
   |false=>rfl
   |true=>
    obtain ⟨a,b,rfl,a0,ab,bn⟩:=J6 hp;rw[UC λx hx=>by
     simp only[AI,BU,Be]at hx;rcases hx with rfl|rfl <;> omega]at h
    cases h
 |true=>
  rw[h]at e;cases d with
  |tup ds=>
   obtain ⟨S,rfl,hS⟩:=N9 (show ds.all (Cb zA.length)=true from h);have hl:S.length<=100000:=by
    have hh:Vd M (.tup (S.map D.int)):=hd;unfold Vd at hh;simpa using hh.1
   by_cases s0:S.length=0
   .refine ⟨false,?_,(λz=>by cases z),λ_=>?_⟩
    .refine zV ?_;unfold F8;rw[zw];unfold IJ;refine Di (EN (DX (zf (zt (d:=tI S) rfl (zg (HL rfl))) e)) (BR (zK (Ln (f:=zC 1) (xs:=S) rfl) (y:=.dat (.int 0)) rfl (eqE.trans ?_)))) (zq (d:=.bl false) rfl ⟨rfl,rfl⟩);rw[AO (by omega)]
    .have:S=[]:=FQ.mp s0;subst this;rfl
   .refine ⟨((S.zip (S.drop 1)).map λq=>decide (q.1<q.2)).all id,?_,λhb=>⟨_,rfl,?_⟩,λhb=>?_⟩
    .refine zV ?_;unfold F8;rw[zw];unfold IJ;refine Ea (EN (DX (zf (zt (d:=tI S) rfl (zg (HL rfl))) e)) (BR (zK (Ln (f:=zC 1) (xs:=S) rfl) (y:=.dat (.int 0)) rfl (eqE.trans ?_)))) ?_
     .rw[AU (by omega)]
     have c1:L3.B9 (S.map D.int) (some 1) none=(S.drop 1).map D.int:=by
      rw[cR (a:=1) (b:=S.length) (by show HT.sIx _ _ (some ((1:Nat):Int))=1;rw[HT.Qy,AG];omega) (by rw[fE,AG]),List.map_drop];exact Fx (by simp)
     have hi:Hc (zD (toD (zC 1)) (zD (toD (fSl (zC 1) (C6 (fC (.int 1))) De)) zI)) [some (mD zA),some (tI S),none,none] M=some ((S.zip (S.drop 1)).map (λq=>D.tup [.int q.1,.int q.2]),none,M):=by
      have s1:=slE (f:=zC 1) (Y:=[some (mD zA),some (tI S),none,none]) (M:=M) (xs:=S.map D.int) rfl (oS (f:=fC (.int 1)) rfl) (rfl:De _ M=some (none,M));rw[c1]at s1;have:=zt (f:=zC 1) (Y:=[some (mD zA),some (tI S),none,none]) (M:=M) (d:=tI S) rfl (zg s1);unfold Hc;rw[this];show some ((((S.map D.int).zip ((S.drop 1).map D.int)).map λq=>D.tup [q.1,q.2]),none,M)=_;congr 2;rw[List.zip_map,Ae];rfl
     refine zq (Ff (bs:=(S.zip (S.drop 1)).map λq=>decide (q.1<q.2)) ?_) ⟨rfl,rfl⟩;rw[Ae];exact EH (gd:=none) (S.zip (S.drop 1)) (λq=>D.tup [.int q.1,.int q.2]) (λq=> .bl (decide (q.1<q.2))) hi trivial (by rw[List.length_zip];omega) λq _=>⟨_,rfl,zK (f:=zC 2) (g:=zC 3) (x:=.dat (.int q.1)) (y:=.dat (.int q.2)) rfl rfl rfl⟩
    .match S,hS,hb with
     |[],_,_=>rfl
     |[a],_,_=>rfl
     |[a,b],hS,hb=>
      have h1:=hS a (by simp);have h2:=hS b (by simp);simp at hb;show decide _=Bt zA.length (tI [a,b]);rw[Ii,AO h1.1,AO hb,AO h2.2];rfl
     |a::b::c::r,_,_=>
      refine AU ?_;simp;omega
    .match S,hb with
     |[],hb=>rfl
     |[a],hb=>rfl
     |[a,b],hb=>
      simp at hb;show Bt zA.length (tI [a,b])=false;rw[Ii,AU (show ¬ a<b by omega)];simp
     |a::b::c::r,_=>rfl
  |_=>cases h
def NA (hd:Vd M d):Fi [mD zA,d] M=some (.bl (Bt zA.length d),M):=by
 obtain ⟨b,e,ht,hf⟩:=XI (zA:=zA) hd;unfold Fi LY;refine JO ?_;have ec:=zf (Y:=[some (mD zA),some d]) (a:=zD (toD (zC 0)) (zD (toD (zC 1)) zI)) (zt (d:=mD zA) rfl (zg (d:=d) rfl)) e;cases b with
 |false=>
  rw[hf rfl];exact (D6 (b:=true) ec λz=>by cases z).trans rfl
 |true=>
  obtain ⟨ds,rfl,hp⟩:=ht rfl;rw[<-hp];exact (D6 ec λ_=>zK (Ez (f:=zC 1) rfl BZ) rfl eqE).trans (by rw[Bool.true_and])
def Mz (T:List (List Int × D)) (p:Ye) (v:D):(Ao T p v).map (·.1)=if p∈T.map (·.1) then T.map (·.1) else T.map (·.1)++[p]:=by
 by_cases h:p∈T.map (·.1)
 .rw[AB h];have hs:=Eo.mpr h;unfold Ao;cases e:zE T p with
  |none=>rw[e]at hs;cases hs
  |some d=>
   rw[Ae];refine List.map_congr_left λq _=>?_;show (if q.1=p then (q.1,v) else q).1=q.1;split <;> rfl
 .rw[AE h,Jf h,CK];rfl
def LP (wf:∀ (j:Nat) u,M[j]?=some u->MO.und M.length u=true) (hd:D.und 0 d=true) (h:Ok (m ds M) λd' M'=>d'=d /\ ∃ us,M'=M++us):EW m ds M=some (d,M):=by
 refine zV (Nn (Ok.mono h ?_));rintro d' M' ⟨rfl,us,rfl⟩;refine ⟨⟨Jr (BQ _) hd,by simp,λj u hj e=>?_⟩,rfl,by simp⟩;rw[AW hj]at e;exact wf j u e
def MT (hz:ds.length<=100000) (h:∀ d∈ds,Vd M d):Vd M (.tup ds):=by
 unfold Vd;exact ⟨hz,Vds.of h⟩
noncomputable def CI (zA:Ya) (l:Nat) (p:Ye):D:=.tup [tI p,.int (Bp zA l One p:Nat),.int (EX zA l One p)]
def S2 (zA:Ya) (l:Nat) (ps:Ya):D.und 0 (.tup (ps.map (CI zA l)))=true:=by
 unfold D.und;induction ps with
 |nil=>rfl
 |cons p r ih=>
  rw[AX];unfold D.unds;rw[ih];unfold CI D.und D.unds D.unds D.unds D.unds;rw[show D.und 0 (tI p)=true from E5 _];rfl
def RM (hR:zA.length<=26):(zi zA l One).length<=676:=AZ (Fu _ _) (IS hR)
def jB {M M1:Mem} {T:List (List Int × D)} (ha:a Y M=some (ds,M)) (hg:g ds M=some (.ref jr,M1)) (hr:M1[jr]?=some (dT T)):IC (zM g a) Y M=some (T.map (λq=>D.tup [tI q.1,q.2]),none,M1.set jr (.set [])):=by
 unfold IC;rw[zf ha hg];dsimp only;rw[hr];show some ((Bd T).map (λp=>D.tup [p.1,p.2]),_,_)=_;unfold Bd;rw[Ae];rfl
def ZH {zA:Ya} (m:IsM zA l) (hR:zA.length<=26) (hl:l<=12):Hw [mD zA] M=some (.tup ((zi zA l One).map (CI zA l)),M):=by
 refine zV ?_;unfold Hw;refine Il ?_ ?_
 .unfold D.unds D.unds;rw[Hj];rfl
 rw[zw];unfold KU;obtain ⟨d,M1,e,jr,rfl,_,hr,_,_⟩:=X2 m hR hl (M:=[]);have ei:=jB (Y:=[some (mD zA),none,none,none]) (zg (f:=zC 0) (d:=mD zA) rfl) e hr;have ef:=Hq (own:=[1,2,3]) (g:=Iu 1 2 3) (tc:=zZ) (te:=Br (zD (toD (zC 1)) (zD (toD (zC 2)) (zD (toD (zC 3)) zI)))) (A2 zA l One) (λq=>D.tup [tI q.1,q.2]) (λq=>CI zA l q.1) (λ_=>true) ei trivial (by have:=RM (l:=l) hR;unfold A2;rw[AG];omega) (λq hq=>by
  obtain ⟨p,_,rfl⟩:=Ag.mp hq;exact ⟨[some (mD zA),some (tI p),some (.int (Bp zA l One p:Nat)),some (.int (EX zA l One p))],rfl,rfl,λ_=>HI (zt (d:=tI p) rfl (zt (d:=.int (Bp zA l One p:Nat)) rfl (zg (d:=.int (EX zA l One p)) rfl))) (by simp)⟩)
 have hft:((A2 zA l One).filter λ_=>true).map (λq=>CI zA l q.1)=(zi zA l One).map (CI zA l):=by
  rw[List.filter_eq_self.mpr λ_ _=>rfl];unfold A2;rw[Ae];rfl
 rw[hft]at ef;rw[CC];refine IE.mpr (Hs.mpr (zF ef (HU.mpr ((Ka FU).mpr ?_))));rw[zL];exact ⟨S2 _ _ _,rfl,rfl⟩
noncomputable def MD:FS:=(zS (sIf (CZ (Dx (tst (Cw "tuple" (zC 1)))) (tst (fOp kNe (fB Aw (zP (zC 1) zd)) (fC (.int 3))))) (AL (fC (.bl false))) Ap)
  (AL (Ds (zM Fi (zD (toD (zC 0)) (zD (toD (fOp kIx (zC 1) (fC (.int 0)))) zI))) (Ds (zM Gf (zD (toD (fOp kIx (zC 1) (fC (.int 1)))) zI)) (zM Gi (zD (toD (fOp kIx (zC 1) (fC (.int 2)))) (zD (toD (fB Aw (zP (fOp kIx (zC 0) (fC (.int 0))) zd))) zI)))))))
noncomputable def G4:FF:=Ak 2 MD
noncomputable def Kf:FS:=(zS (Hk (EI 3 4 5) (zC 1))
  (zS (AM 6 (zM DM (zD (toD (zC 0)) (zD (toD (zC 3)) (zD (toD (zC 5)) zI)))))
  (zS (sIf (tst (fOp kEq (fB Aw (zP (zC 6) zd)) (fC (.int 1)))) (AL (fOp kEq (zC 4) (fC (.int 1)))) Ap)
  (AL (Ds (fOp (Ax false) (zC 6) (zC 2)) (fOp kEq (fOp Ay (zC 2) (zC 6)) (fOp D9 (zC 4) (fC (.int 1)))))))))
noncomputable def GU:FF:=Ak 7 Kf
noncomputable def L9:FS:=(zS (sIf (CZ (Dx (tst (Cw "tuple" (zC 1)))) (Dx (tst (fB Dm (zP (zo [2] (AQ (zC 1)) (gN 2) zZ (zM G4 (zD (toD (zC 0)) (zD (toD (zC 2)) zI)))) zd))))) (AL (fC (.bl false))) Ap)
  (zS (AM 3 (CL true [4,5,6] (AQ (zC 1)) (EI 4 5 6) zZ (zC 4) (zC 5)))
  (zS (sIf (tst (fOp kLt (fB EU (zP (zC 3) zd)) (fB Aw (zP (zC 1) zd)))) (AL (fC (.bl false))) Ap)
  (AL (fB Dm (zP (zo [2] (AQ (zC 1)) (gN 2) zZ (zM GU (zD (toD (zC 0)) (zD (toD (zC 2)) (zD (toD (zC 3)) zI))))) zd))))))
noncomputable def Hi:FF:=EW (Ak 7 L9)
noncomputable abbrev Tp:=List Int × Int × Int
noncomputable def tD (t:Tp):D:=.tup [tI t.1,.int t.2.1,.int t.2.2]
noncomputable def kq (t:Tp):List Int × D:=(t.1,.int t.2.1)
def Tok (zA:Ya) (l:Nat) (t:Tp):Prop:=t.1∈zQ (zG zA)/\0<=t.2.2/\t.2.2<(l:Int)
noncomputable def DO (n l:Int):D->Bool
 |.tup [x,y,z]=>Bt n x&&(Ie y&&Cb l z)
 |_=>false
def Po (h:DO n l d=true):∃ a b k x,d=.tup [tI [a,b],.int k,.int x]/\(0<=a/\a<b/\b<n)/\0<=x/\x<l:=by
 unfold DO at h;split at h
 .rename_i x y z;simp only[A6]at h;obtain ⟨a,b,rfl,h1,h2,h3⟩:=J6 h.1;cases y with
  |int k=>
   cases z with
   |int w=>
    have h4:=h.2.2;simp only[Cb,A6,CA]at h4;exact ⟨a,b,k,w,rfl,⟨h1,h2,h3⟩,h4.1,h4.2⟩
   |_=>cases h.2.2
  |_=>cases h.2.1
 .cases h
def bI (m:IsM zA l) (hd:Vd M d):G4 [mD zA,d] M=some (.bl (DO zA.length l d),M):=by
 refine zV ?_;unfold G4;rw[zw];unfold MD;obtain ⟨t,e,q,_⟩:=hd.ty;cases d with
 |tup ds=>
  have hh:Vd M (.tup ds):=hd;unfold Vd at hh;have hl:=Ez (f:=zC 1) (Y:=[some (mD zA),some (.tup ds)]) (M:=M) rfl (BZ (xs:=ds));have c1:=DX (k:=true) (f:=Cw "tuple" (zC 1)) (Y:=[some (mD zA),some (.tup ds)]) (M:=M) (by rw[ED rfl e,q];rfl);have c2:=BR (zK (k:=kNe) hl (g:=fC (.int 3)) (y:=.dat (.int 3)) rfl (zV (W5.mpr ⟨rfl,rfl⟩)));by_cases h3:(ds.length:Int)=3
  .rw[AU (by omega)]at c2;refine Ea (EN c1 c2) ?_;match ds,h3,hh with
   |[x,y,z],_,hh=>
    have ix:∀ (k:Int) (v:D),atI [x,y,z] k=some v->fOp kIx (zC 1) (fC (.int k)) [some (mD zA),some (.tup [x,y,z])] M=some (.dat v,M):=λk v hv=>zK (x:=.dat (.tup [x,y,z])) (y:=.dat (.int k)) rfl rfl (Cr BZ hv);have vx:=hh.2.mem x (by simp);have vy:=hh.2.mem y (by simp);have vz:=hh.2.mem z (by simp);exact zq (d:=.bl (DO zA.length l (.tup [x,y,z]))) (D6 (zf (zt (d:=mD zA) rfl (zg (ix 0 x rfl))) (NA vx)) λ_=>D6 (zf (zg (ix 1 y rfl)) (RG vy)) λ_=>zf (zt (ix 2 z rfl) (zg (Jl m rfl))) (RA vz)) ⟨rfl,rfl⟩
  .rw[AO h3]at c2;refine Di (EN c1 c2) (zq (d:=.bl false) rfl ⟨?_,rfl⟩);cases hp:DO zA.length l (.tup ds) with
   |false=>rfl
   |true=>
    obtain ⟨a,b,k,x,hab,_⟩:=Po hp;cases hab;exact absurd rfl h3
 |_=>
  refine Di (IQ (DX (k:=false) (by rw[ED rfl e,q];rfl))) (zq (d:=.bl false) rfl ⟨rfl,rfl⟩)
theorem Nz {zA:Ya} {l:Nat}:∀ {ds:List D},ds.all (DO zA.length l)=true -> ∃ ts:List Tp,ds=ts.map tD /\ ∀ t∈ts,Tok zA l t
 |[],_=>⟨[],rfl,λ_ h=>by cases h⟩
 |d::ds,h=>by
  rw[List.all_cons,A6]at h;obtain ⟨ts,rfl,hp⟩:=Nz h.2;obtain ⟨a,b,k,x,rfl,⟨a0,ab,bn⟩,x0,x1⟩:=Po h.1;refine ⟨([a,b],k,x)::ts,rfl,λt hm=>?_⟩;rcases AI.mp hm with z|z
  .subst z;exact ⟨zn.mpr ⟨a,b,rfl,zc.mpr ⟨a0,by omega⟩,zc.mpr ⟨by omega,bn⟩,ab⟩,x0,x1⟩
  .exact hp t z
def iG (h:Tok zA l t):DO zA.length l (tD t)=true:=by
 obtain ⟨p,k,x⟩:=t;obtain ⟨h1,h2,h3⟩:=h;obtain ⟨a,b,rfl,ha,hb,hlt⟩:=zn.mp h1;have ha:=zc.mp ha;have hb:=zc.mp hb;have h2:0<=x:=h2;have h3:x<(l:Int):=h3;show (Bt zA.length (tI [a,b])&&(true&&(decide (0<=x)&&decide (x<(l:Int)))))=true;rw[Ii,AO ha.1,AO hlt,AO hb.2,AO h2,AO h3];rfl
def XQ {zA:Ya} {ts:List Tp} (h:∀ t∈ts,Tok zA l t):(ts.map tD).all (DO zA.length l)=true:=by
 rw[List.all_map,A0];exact λt ht=>iG (h t ht)
def So (h:tD s=tD t):s=t:=by
 obtain ⟨p,k,x⟩:=s;obtain ⟨q,i,y⟩:=t;have:=D.tup.inj h;simp only[List.cons.injEq,and_true]at this;obtain ⟨h1,h2,h3⟩:=this;have h1:p=q:=JQ (D.tup.inj h1);cases h2;cases h3;rw[h1]
noncomputable def tvT (qs:List (List Int × D)):List (List Int × D):=qs.foldl (λT q=>Ao T q.1 q.2) []
def Vp (qs:List (List Int × D)) (q:List Int × D):tvT (qs++[q])=Ao (tvT qs) q.1 q.2:=by unfold tvT;rw[List.foldl_append];rfl
theorem OX:∀ (qs T:List (List Int × D)),∃ new:List (List Int),(qs.foldl (λT q=>Ao T q.1 q.2) T).map (·.1)=T.map (·.1)++new/\new.length<=qs.length/\(new.length=qs.length ↔ (qs.map (·.1)).Nodup /\ ∀ p∈qs.map (·.1),p∉T.map (·.1))
 |[],T=>⟨[],by simp,AF _,by simp⟩
 |q::r,T=>by
  obtain ⟨new,h1,h4,h5⟩:=OX r (Ao T q.1 q.2);rw[Mz]at h1 h5;by_cases hp:q.1∈T.map (·.1)
  .rw[AB hp]at h1 h5;refine ⟨new,h1,by simp;omega,?_⟩;constructor
   .intro z;simp at z;omega
   .rintro ⟨_,z⟩;exact absurd hp (z q.1 (by simp))
  .rw[AE hp]at h1 h5;refine ⟨q.1::new,by rw[List.foldl_cons,h1];simp,by simp;omega,?_⟩;rw[Ba,Ba,Nat.add_right_cancel_iff,h5,AX,EK];constructor
   .rintro ⟨n1,n2⟩;refine ⟨⟨λz=>n2 q.1 z (by simp),n1⟩,λp hq=>?_⟩;rcases AI.mp hq with z|z
    .subst z;exact hp
    .exact λy=>n2 p z (CS _ y)
   .rintro ⟨⟨n1,n2⟩,n3⟩;refine ⟨n2,λp hq y=>?_⟩;rcases Ai.mp y with z|z
    .exact n3 p (Am _ hq) z
    .rw[Aq]at z;subst z;exact n1 hq
def N4 (qs:List (List Int × D)):(tvT qs).length<=qs.length/\((tvT qs).length=qs.length ↔ (qs.map (·.1)).Nodup):=by
 obtain ⟨new,h1,h4,h5⟩:=OX qs [];have hl:(tvT qs).length=new.length:=by
  have:=BJ List.length h1;rw[AG]at this;simpa [tvT] using this
 rw[hl];exact ⟨h4,h5.trans ⟨λh=>h.1,λh=>⟨h,λp _ z=>by cases z⟩⟩⟩
def U3 (h:(qs.map (·.1)).Nodup):tvT qs=qs:=by
 have loop:∀ (r q:List (List Int × D)),((q++r).map (·.1)).Nodup->r.foldl (λT q=>Ao T q.1 q.2) q=q++r:=by
  intro r;induction r with
  |nil=>intro q _;simp
  |cons x r ih=>
   intro q hn;have hx:x.1∉q.map (·.1):=λz=>by
    rw[CK,DS]at hn;exact hn.2.2 _ z _ (by simp) rfl
   rw[List.foldl_cons,Jf hx,ih (q++[x]) (by simpa using hn)];simp
 exact loop qs [] (by simpa using h)
def d5 {M:Mem} {ts:List Tp} (hf:f Y M=some (.dat (.tup (ts.map tD)),M)) (hz:ts.length<=80000) (h4:∀ (t:Tp),∃ σ1,EI 4 5 6 (tD t) (Ac [4,5,6] Y)=some σ1 /\ ∀ M',zC 4 σ1 M'=some (.dat (tI t.1),M')/\zC 5 σ1 M'=some (.dat (.int t.2.1),M')):CL true [4,5,6] (AQ f) (EI 4 5 6) zZ (zC 4) (zC 5) Y M=some (.dat (.ref M.length),M++[dT (tvT (ts.map kq))]):=by
 unfold CL;rw[D1 hf];dsimp only;have loop:∀ (r q:List Tp),q++r=ts->B7 (EI 4 5 6) zZ (zC 4) (zC 5) (Ac [4,5,6] Y) M.length (ts.map tD) none (r.map tD) (M++[dT (tvT (q.map kq))])=some (M++[dT (tvT (ts.map kq))]):=by
  intro r;induction r with
  |nil=>intro q e;rw[BF]at e;subst e;exact JK trivial
  |cons p r ih=>
   intro q e;have hl:(tvT (q.map kq)).length<90000:=by have:=(N4 (q.map kq)).1;have:=BJ List.length e;simp at *;omega
   obtain ⟨σ1,e1,e2⟩:=h4 p;rw[AX,Mn (σ1:=σ1) (k:=tI p.1) (v:=.int p.2.1) DK e1 (e2 _).1 (e2 _).2 (Fe (T:=tvT (q.map kq)) (B8 _ _) hl),<-ih (q++[p]) (by rw[<-e];simp),CK,show [p].map kq=[kq p]from rfl,Vp,GF _ _ (AF _)];simp[kq]
 rw[show M++[G0 true]=M++[dT (tvT (([]:List Tp).map kq))]from rfl,loop ts [] rfl]
noncomputable def Fw (zA:Ya) (qs:List (List Int × D)) (t:Tp):Bool:=if (setR zA t.1 t.2.2).length=1 then decide (t.2.1=1) else match zE qs (setR zA t.1 t.2.2) with
 |some (.int k)=>decide (k=t.2.1-1)
 |_=>false
theorem K8:∀ {ts:List Tp},zE (ts.map kq) p=some d -> ∃ t∈ts,t.1=p/\d=.int t.2.1
 |[],h=>by cases h
 |t::ts,h=>by
  rw[AX]at h;unfold zE at h;by_cases z:(kq t).1=p
  .rw[AB z]at h;cases h;exact ⟨t,Ad,z,rfl⟩
  .rw[AE z]at h;obtain ⟨s,hs,h1,h2⟩:=K8 h;exact ⟨s,Am _ hs,h1,h2⟩
def ZK {zA:Ya} (m:IsM zA l) (hR:zA.length<=26) {ts:List Tp} (ht:Tok zA l t) {M:Mem} (hj:M[j]?=some (dT (ts.map kq))):GU [mD zA,tD t,.ref j] M=some (.bl (Fw zA (ts.map kq) t),M):=by
 obtain ⟨p,k,x⟩:=t;obtain ⟨hp,x0,x1⟩:=ht;refine zV ?_;unfold GU;rw[zw];unfold Kf;rw[zN,Tf];refine zF (a:=.dat (tD (p,k,x))) (M:=M) rfl ?_;rw[zL];refine ⟨_,rfl,?_⟩;rw[zU];refine EB (zf (zt (d:=mD zA) rfl (zt (d:=tI p) rfl (zg (d:=.int x) rfl))) (JX m (by omega) (E3 p hp).1 x0 x1)) ?_
 have ed:Fw zA (ts.map kq) (p,k,x)=if (setR zA p x).length=1 then decide (k=1) else match zE (ts.map kq) (setR zA p x) with
   |some (.int i)=>decide (i=k-1)
   |_=>false:=rfl
 rw[ed];generalize setR zA p x=g;have et:=BR (zK (k:=kEq) (Ln (f:=zC 6) (Y:=[some (mD zA),some (tD (p,k,x)),some (.ref j),some (tI p),some (.int k),some (.int x),some (tI g)]) (M:=M) (xs:=g) rfl) (g:=fC (.int 1)) (y:=.dat (.int 1)) rfl eqE);by_cases h1:g.length=1
 .rw[AO (by omega)]at et;rw[AB h1];exact Di et (zq (d:=.bl (decide (k=1))) (zK (x:=.dat (.int k)) (y:=.dat (.int 1)) rfl rfl eqE) ⟨rfl,rfl⟩)
 .rw[AU (by omega)]at et;rw[AE h1];refine Ea et ?_;have ei:=zK (k:=Ax false) (f:=zC 6) (g:=zC 2) (Y:=[some (mD zA),some (tD (p,k,x)),some (.ref j),some (tI p),some (.int k),some (.int x),some (tI g)]) (M:=M) (x:=.dat (tI g)) (y:=.dat (.ref j)) rfl rfl ((GP hj).trans (by rw[AE (by decide)]));cases hlk:zE (ts.map kq) g with
  |none=>
   rw[hlk]at ei;exact zq (d:=.bl false) ((D6 (b:=true) ei λz=>by cases z).trans rfl) ⟨rfl,rfl⟩
  |some d=>
   obtain ⟨s,_,_,rfl⟩:=K8 hlk;rw[hlk]at ei;exact zq (d:=.bl (decide (s.2.1=k-1))) ((D6 ei λ_=>zK (x:=.dat (.int s.2.1)) (y:=.dat (.int (k-1))) (zK (x:=.dat (.ref j)) (y:=.dat (tI g)) rfl rfl (Gg hj hlk)) (zK (x:=.dat (.int k)) (y:=.dat (.int 1)) rfl rfl Mb) eqE).trans (by rw[Option.isSome_some,Bool.true_and])) ⟨rfl,rfl⟩
def ShL (zA:Ya) (l:Nat) (d:D):Prop:=∃ ts:List Tp,d=.tup (ts.map tD)/\(∀ t∈ts,Tok zA l t)/\(ts.map (·.1)).Nodup /\ ∀ t∈ts,Fw zA (ts.map kq) t=true
def MX {ts:List Tp} (hp:∀ t∈ts,Tok zA l t):ShL zA l (.tup (ts.map tD)) ↔ (ts.map (·.1)).Nodup /\ ∀ t∈ts,Fw zA (ts.map kq) t=true:=by
 constructor
 .rintro ⟨qs,e,_,h1,h2⟩;cases (List.map_inj_right λa b e=>So e).mp (D.tup.inj e);exact ⟨h1,h2⟩
 .rintro ⟨h1,h2⟩;exact ⟨ts,rfl,hp,h1,h2⟩
def YB {zA:Ya} {l:Nat} {ds:List D} (h:ds.all (DO zA.length l)=false):¬ ShL zA l (.tup ds):=by
 rintro ⟨ts,e,hp,_⟩;cases e;rw[XQ hp]at h;cases h
def Kj (ts:List Tp):(ts.map kq).map (·.1)=ts.map (·.1):=by rw[Ae];rfl
open Classical in
def ZD {zA:Ya} {l:Nat} (m:IsM zA l) (hR:zA.length<=26) {d:D} {M:Mem} (wf:∀ (j:Nat) u,M[j]?=some u->MO.und M.length u=true) (hd:Vd M d) (hz:JR d<=2000) :
  Hi [mD zA,d] M=some (.bl (decide (ShL zA l d)),M):=by
 unfold Hi;refine LP wf rfl ?_;rw[zw];unfold L9;obtain ⟨t,e,q,_⟩:=hd.ty;cases d with
 |tup ds=>
  have hh:Vd M (.tup ds):=hd;unfold Vd at hh;have hz:ds.length<=2000:=hz;have cm:=MS (own:=[2]) (f:=zC 1) (g:=gN 2) (te:=zM G4 (zD (toD (zC 0)) (zD (toD (zC 2)) zI))) (Y:=[some (mD zA),some (.tup ds),none,none,none,none,none]) (M:=M) (λx=> .bl (DO zA.length l x)) rfl hh.1 λx hx=>⟨_,rfl,zf (zt (d:=mD zA) rfl (zg (d:=x) rfl)) (bI m (hh.2.mem x hx))⟩;have ca:=DX (Ff (bs:=ds.map (DO zA.length l)) (by rw[Ae];exact cm));rw[HZ]at ca;have c1:=DX (k:=true) (f:=Cw "tuple" (zC 1)) (Y:=[some (mD zA),some (.tup ds),none,none,none,none,none]) (M:=M) (by rw[ED rfl e,q];rfl);cases hw:ds.all (DO zA.length l) with
  |false=>
   rw[hw]at ca;exact Di (EN c1 ca) (zq (d:=.bl false) rfl ⟨by rw[AU (YB hw)],[],by simp⟩)
  |true=>
   rw[hw]at ca;refine Ea (EN c1 ca) ?_;obtain ⟨ts,rfl,hp⟩:=Nz hw;rw[AG]at hz;rw[zN,zh];refine zF (d5 (f:=zC 1) rfl (by omega) λt=>⟨_,rfl,λM'=>⟨rfl,rfl⟩⟩) ?_;rw[zL,zU];have e1:(M++[dT (tvT (ts.map kq))])[M.length]?=some (dT (tvT (ts.map kq))):=B8 _ _;have us:∃ us,M++[dT (tvT (ts.map kq))]=M++us:=⟨_,rfl⟩;generalize M++[dT (tvT (ts.map kq))]=M1 at e1 us ⊢;have el:fB EU (zP (zC 3) zd) [some (mD zA),some (.tup (ts.map tD)),none,some (.ref M.length),none,none,none] M1=some (.dat (.int (tvT (ts.map kq)).length),M1):=by
    unfold fB zP zd;rw[show zC 3 [some (mD zA),some (.tup (ts.map tD)),none,some (.ref M.length),none,none,none] M1=some (.dat (.ref M.length),M1)from rfl];unfold EU;dsimp only;rw[e1];show some (EV.dat (.int ((Bd (tvT (ts.map kq))).length:Int)),M1)=_;unfold Bd;rw[AG]
   have et:=BR (zK (k:=kLt) el (Ez (f:=zC 1) (Y:=[some (mD zA),some (.tup (ts.map tD)),none,some (.ref M.length),none,none,none]) (M:=M1) rfl BZ) (zV (Iw.mpr ⟨rfl,rfl⟩)));rw[AG]at et;obtain ⟨tl,tn⟩:=N4 (ts.map kq);rw[Kj]at tn;rw[AG]at tl tn;by_cases nd:(ts.map (·.1)).Nodup
   .have:=tn.mpr nd;rw[AU (by omega)]at et;refine Ea et ?_;rw[U3 (by rw[Kj];exact nd)]at e1;have cd:=EH (own:=[2]) (g:=gN 2) (te:=zM GU (zD (toD (zC 0)) (zD (toD (zC 2)) (zD (toD (zC 3)) zI)))) (gd:=none) (Y:=[some (mD zA),some (.tup (ts.map tD)),none,some (.ref M.length),none,none,none]) (M:=M1) ts tD (λt=> .bl (Fw zA (ts.map kq) t)) (D1 (f:=zC 1) rfl) trivial (by omega) λt ht=>⟨_,rfl,zf (zt (d:=mD zA) rfl (zt (d:=tD t) rfl (zg (d:=.ref M.length) rfl))) (ZK m hR (hp t ht) e1)⟩;have ca:=Ff (bs:=ts.map (Fw zA (ts.map kq))) (by rw[Ae];exact cd);rw[HZ]at ca;refine zq ca ⟨?_,us⟩;congr 1;rw[Bool.eq_iff_iff,A0,CA,MX hp];exact ⟨λh=>⟨nd,h⟩,λh=>h.2⟩
   .have:(tvT (ts.map kq)).length≠ts.length:=λz=>nd (tn.mp z);rw[AO (by omega)]at et;refine Di et (zq (d:=.bl false) rfl ⟨?_,us⟩);rw[AU λz=>nd ((MX hp).mp z).1]
 |_=>
  refine Di (IQ (DX (k:=false) (by rw[ED rfl e,q];rfl))) (zq (d:=.bl false) rfl ⟨?_,[],by simp⟩);rw[AU];rintro ⟨ps,z,_⟩;cases z
noncomputable def LC:FS:=(zS (sIf (CZ (Dx (tst (Cw "tuple" (zC 1)))) (Dx (tst (fB Dm (zP (zo [2] (AQ (zC 1)) (gN 2) zZ (zM Fi (zD (toD (zC 0)) (zD (toD (zC 2)) zI)))) zd))))) (AL (fC (.bl false))) Ap)
  (zS (AM 3 (CL true [2] (AQ (zC 1)) (gN 2) zZ (zC 2) (fC (.bl true))))
  (zS (sIf (tst (fOp kLt (fB EU (zP (zC 3) zd)) (fB Aw (zP (zC 1) zd)))) (AL (fC (.bl false))) Ap)
  (AL (fB Dm (zP (Fs [2,4] [4] (AQ (zC 1)) (gN 2) zZ (A1 (zD (toD (fB Aw (zP (fOp kIx (zC 0) (fC (.int 0))) zd))) zI)) (gN 4) zZ (fOp (Ax false) (zM DM (zD (toD (zC 0)) (zD (toD (zC 2)) (zD (toD (zC 4)) zI)))) (zC 3))) zd))))))
noncomputable def Hd:FF:=EW (Ak 5 LC)
theorem Pd:∀ {ds:List D},ds.all (Bt zA.length)=true -> ∃ ps:List (List Int),ds=ps.map tI /\ ∀ p∈ps,p∈zQ (zG zA)
 |[],_=>⟨[],rfl,λ_ h=>by cases h⟩
 |d::ds,h=>by
  rw[List.all_cons,A6]at h;obtain ⟨ps,rfl,hp⟩:=Pd h.2;obtain ⟨a,b,rfl,a0,ab,bn⟩:=J6 h.1;refine ⟨[a,b]::ps,rfl,λp hm=>?_⟩;rcases AI.mp hm with z|z
  .subst z;exact zn.mpr ⟨a,b,rfl,zc.mpr ⟨a0,by omega⟩,zc.mpr ⟨by omega,bn⟩,ab⟩
  .exact hp p z
def dZ {zA:Ya} {ps:Ya} (h:∀ p∈ps,p∈zQ (zG zA)):(ps.map tI).all (Bt zA.length)=true:=by
 rw[List.all_map,A0];intro p hp;obtain ⟨a,b,rfl,ha,hb,hlt⟩:=zn.mp (h p hp);have ha:=zc.mp ha;have hb:=zc.mp hb;show Bt zA.length (tI [a,b])=true;rw[Ii,AO ha.1,AO hlt,AO hb.2];rfl
def Shn (zA:Ya) (l:Nat) (d:D):Prop:=∃ ps:List (List Int),d=.tup (ps.map tI)/\(∀ p∈ps,p∈zQ (zG zA))/\ps.Nodup /\ ∀ p∈ps,∀ x:Int,0<=x->x<l->setR zA p x∈ps
def Ry {ps qs:Ya} (h:ps.map tI=qs.map tI):ps=qs:=(List.map_inj_right λa b e=>JQ (D.tup.inj e)).mp h
def PM {ps:Ya} (hp:∀ p∈ps,p∈zQ (zG zA)):Shn zA l (.tup (ps.map tI)) ↔ ps.Nodup /\ ∀ p∈ps,∀ x:Int,0<=x->x<l->setR zA p x∈ps:=by
 constructor
 .rintro ⟨qs,e,_,h1,h2⟩;cases Ry (D.tup.inj e);exact ⟨h1,h2⟩
 .rintro ⟨h1,h2⟩;exact ⟨ps,rfl,hp,h1,h2⟩
noncomputable def trT (ps:Ya):List (List Int × D):=ps.foldl (λT p=>Ao T p (.bl true)) []
def ZL (ps:Ya) (p:Ye):trT (ps++[p])=Ao (trT ps) p (.bl true):=by unfold trT;rw[List.foldl_append];rfl
theorem Kl:∀ (ps:Ya) (T:List (List Int × D)),∃ new:List (List Int),(ps.foldl (λT p=>Ao T p (.bl true)) T).map (·.1)=T.map (·.1)++new/\(∀ p∈new,p∈ps)/\(∀ p∈ps,p∈T.map (·.1)++new)/\new.length<=ps.length/\(new.length=ps.length ↔ ps.Nodup /\ ∀ p∈ps,p∉T.map (·.1))
 |[],T=>⟨[],by simp,(λ_ h=>by cases h),(λ_ h=>by cases h),AF _,by simp⟩
 |p::r,T=>by
  obtain ⟨new,h1,h2,h3,h4,h5⟩:=Kl r (Ao T p (.bl true));rw[Mz]at h1 h3 h5;by_cases hp:p∈T.map (·.1)
  .rw[AB hp]at h1 h3 h5;refine ⟨new,h1,λq hq=>Am _ (h2 q hq),λq hq=>?_,by simp;omega,?_⟩
   .rcases AI.mp hq with z|z
    .subst z;exact CS _ hp
    .exact h3 q z
   .constructor
    .intro z;simp at z;omega
    .rintro ⟨_,z⟩;exact absurd hp (z p Ad)
  .rw[AE hp]at h1 h3 h5;refine ⟨p::new,by rw[List.foldl_cons,h1];simp,λq hq=>?_,λq hq=>?_,by simp;omega,?_⟩
   .rcases AI.mp hq with z|z
    .subst z;exact Ad
    .exact Am _ (h2 q z)
   .rcases AI.mp hq with z|z
    .subst z;simp
    .have:=h3 q z;simpa using this
   .rw[Ba,Ba,Nat.add_right_cancel_iff,h5,EK];constructor
    .rintro ⟨n1,n2⟩;refine ⟨⟨λz=>n2 p z (by simp),n1⟩,λq hq=>?_⟩;rcases AI.mp hq with z|z
     .subst z;exact hp
     .exact λy=>n2 q z (CS _ y)
    .rintro ⟨⟨n1,n2⟩,n3⟩;refine ⟨n2,λq hq y=>?_⟩;rcases Ai.mp y with z|z
     .exact n3 q (Am _ hq) z
     .rw[Aq]at z;subst z;exact n1 hq
def Qn:(zE (trT ps) p).isSome=true ↔ p∈ps:=by
 obtain ⟨new,h1,h2,h3,_⟩:=Kl ps [];rw[Eo];unfold trT;rw[h1];exact ⟨λh=>h2 p (by simpa using h),λh=>by simpa using h3 p h⟩
def Ir (ps:Ya):(trT ps).length<=ps.length/\((trT ps).length=ps.length ↔ ps.Nodup):=by
 obtain ⟨new,h1,_,_,h4,h5⟩:=Kl ps [];have hl:(trT ps).length=new.length:=by
  have:=BJ List.length h1;rw[AG]at this;simpa [trT] using this
 rw[hl];exact ⟨h4,h5.trans ⟨λh=>h.1,λh=>⟨h,λp _ z=>by cases z⟩⟩⟩
def YL (hf:f Y M=some (.dat (.tup (ps.map tI)),M)) (hz:ps.length<=80000) (h2:∀ d M',zC 2 ((Ac [2] Y).set 2 (some d)) M'=some (.dat d,M')):CL true [2] (AQ f) (gN 2) zZ (zC 2) (fC (.bl true)) Y M=some (.dat (.ref M.length),M++[dT (trT ps)]):=by
 unfold CL;rw[D1 hf];dsimp only;have loop:∀ (r q:Ya),q++r=ps->B7 (gN 2) zZ (zC 2) (fC (.bl true)) (Ac [2] Y) M.length (ps.map tI) none (r.map tI) (M++[dT (trT q)])=some (M++[dT (trT ps)]):=by
  intro r;induction r with
  |nil=>intro q e;rw[BF]at e;subst e;exact JK trivial
  |cons p r ih=>
   intro q e;have hl:(trT q).length<90000:=by have:=(Ir q).1;have:=BJ List.length e;simp at this;omega
   rw[AX,Mn (σ1:=(Ac [2] Y).set 2 (some (tI p))) (k:=tI p) (v:=.bl true) DK rfl (h2 _ _) rfl (Fe (T:=trT q) (B8 _ _) hl),<-ih (q++[p]) (by rw[<-e];simp),ZL,GF _ _ (AF _)];simp
 rw[show M++[G0 true]=M++[dT (trT [])]from rfl,loop ps [] rfl]
def TF {zA:Ya} {ds:List D} (h:ds.all (Bt zA.length)=false):¬ Shn zA l (.tup ds):=by
 rintro ⟨ps,e,hp,_⟩;cases e;rw[dZ hp]at h;cases h
open Classical in
def Ro {zA:Ya} {l:Nat} (m:IsM zA l) (hR:zA.length<=26) (hl:l<=12) {d:D} {M:Mem} (wf:∀ (j:Nat) u,M[j]?=some u->MO.und M.length u=true) (hd:Vd M d) (hz:JR d<=2000) :
  Hd [mD zA,d] M=some (.bl (decide (Shn zA l d)),M):=by
 unfold Hd;refine LP wf rfl ?_;rw[zw];unfold LC;obtain ⟨t,e,q,_⟩:=hd.ty;cases d with
 |tup ds=>
  have hh:Vd M (.tup ds):=hd;unfold Vd at hh;have hz:ds.length<=2000:=hz;have cm:=MS (own:=[2]) (f:=zC 1) (g:=gN 2) (te:=zM Fi (zD (toD (zC 0)) (zD (toD (zC 2)) zI))) (Y:=[some (mD zA),some (.tup ds),none,none,none]) (M:=M) (λx=> .bl (Bt zA.length x)) rfl hh.1 λx hx=>⟨_,rfl,zf (zt (d:=mD zA) rfl (zg (d:=x) rfl)) (NA (hh.2.mem x hx))⟩;have ca:=DX (Ff (bs:=ds.map (Bt zA.length)) (by rw[Ae];exact cm));rw[HZ]at ca;have c1:=DX (k:=true) (f:=Cw "tuple" (zC 1)) (Y:=[some (mD zA),some (.tup ds),none,none,none]) (M:=M) (by rw[ED rfl e,q];rfl);cases hw:ds.all (Bt zA.length) with
  |false=>
   rw[hw]at ca;exact Di (EN c1 ca) (zq (d:=.bl false) rfl ⟨by rw[AU (TF hw)],[],by simp⟩)
  |true=>
   rw[hw]at ca;refine Ea (EN c1 ca) ?_;obtain ⟨ps,rfl,hp⟩:=Pd hw;rw[AG]at hz;rw[zN,zh];refine zF (YL (f:=zC 1) rfl (by omega) λ_ _=>rfl) ?_;rw[zL,zU];have e1:(M++[dT (trT ps)])[M.length]?=some (dT (trT ps)):=B8 _ _;have us:∃ us,M++[dT (trT ps)]=M++us:=⟨_,rfl⟩;generalize M++[dT (trT ps)]=M1 at e1 us ⊢;have el:fB EU (zP (zC 3) zd) [some (mD zA),some (.tup (ps.map tI)),none,some (.ref M.length),none] M1=some (.dat (.int (trT ps).length),M1):=by
    unfold fB zP zd;rw[show zC 3 [some (mD zA),some (.tup (ps.map tI)),none,some (.ref M.length),none] M1=some (.dat (.ref M.length),M1)from rfl];unfold EU;dsimp only;rw[e1];show some (EV.dat (.int ((Bd (trT ps)).length:Int)),M1)=_;unfold Bd;rw[AG]
   have et:=BR (zK (k:=kLt) el (Ez (f:=zC 1) (Y:=[some (mD zA),some (.tup (ps.map tI)),none,some (.ref M.length),none]) (M:=M1) rfl BZ) (zV (Iw.mpr ⟨rfl,rfl⟩)));rw[AG]at et;obtain ⟨tl,tn⟩:=Ir ps;by_cases nd:ps.Nodup
   .have:=tn.mpr nd;rw[AU (by omega)]at et;refine Ea et ?_;have c2:=NB (own:=[2,4]) (own2:=[4]) (fi:=AQ (zC 1)) (fi2:=A1 (zD (toD (fB Aw (zP (fOp kIx (zC 0) (fC (.int 0))) zd))) zI)) (fg:=gN 2) (fg2:=gN 4) (tc2:=zZ) (te:=fOp (Ax false) (zM DM (zD (toD (zC 0)) (zD (toD (zC 2)) (zD (toD (zC 4)) zI)))) (zC 3)) (Y:=[some (mD zA),some (.tup (ps.map tI)),none,some (.ref M.length),none]) (M:=M1) ps tI (λ_=>List.range l) (λk=>D.int (k:Nat)) (λ_ _=>true) (λp k=> .bl (zE (trT ps) (setR zA p (k:Nat))).isSome) 12 (D1 rfl) (λ_ _=>by rw[ET];omega) (by omega) (λp hpp=>by
     refine ⟨[some (mD zA),some (.tup (ps.map tI)),some (tI p),some (.ref M.length),none],rfl,?_,λk hk=>⟨[some (mD zA),some (.tup (ps.map tI)),some (tI p),some (.ref M.length),some (.int (k:Nat))],rfl,rfl,λ_=>?_⟩⟩
     .rw[El (Jl m rfl) (by omega) (by omega),<-Je];simp
     .have hk:=Bo.mp hk;have:=zK (k:=Ax false) (f:=zM DM (zD (toD (zC 0)) (zD (toD (zC 2)) (zD (toD (zC 4)) zI)))) (g:=zC 3) (Y:=[some (mD zA),some (.tup (ps.map tI)),some (tI p),some (.ref M.length),some (.int (k:Nat))]) (x:=.dat (tI (setR zA p (k:Nat)))) (y:=.dat (.ref M.length)) (zf (zt (d:=mD zA) rfl (zt (d:=tI p) rfl (zg (d:=.int (k:Nat)) rfl))) (JX m (by omega) (E3 p (hp p hpp)).1 (by omega) (by omega))) rfl (GP e1);rw[AE (by decide)]at this;exact this)
    have hb:(ps.flatMap λp=>((List.range l).filter λ_=>true).map λk=>D.bl (zE (trT ps) (setR zA p (k:Nat))).isSome)=(ps.flatMap λp=>(List.range l).map λ(k:Nat)=>(zE (trT ps) (setR zA p (k:Nat))).isSome).map D.bl:=by
     rw[List.map_flatMap];congr 1;funext p;rw[List.filter_eq_self.mpr λ_ _=>rfl,Ae];rfl
    rw[hb]at c2;refine zq (dY c2) ⟨?_,us⟩;congr 1;rw[Bool.eq_iff_iff,A0,CA,PM hp];constructor
    .intro h;refine ⟨nd,λp hpp x x0 x1=>?_⟩;have:=h _ (List.mem_flatMap.mpr ⟨p,hpp,Ag.mpr ⟨x.toNat,Bo.mpr (by omega),rfl⟩⟩);rw[show ((x.toNat:Nat):Int)=x by omega]at this;exact Qn.mp this
    .rintro ⟨_,h⟩ b hbm;obtain ⟨p,hpp,hq⟩:=List.mem_flatMap.mp hbm;obtain ⟨k,hk,rfl⟩:=Ag.mp hq;have hk:=Bo.mp hk;exact Qn.mpr (h p hpp k (by omega) (by omega))
   .have:(trT ps).length≠ps.length:=λz=>nd (tn.mp z);rw[AO (by omega)]at et;refine Di et (zq (d:=.bl false) rfl ⟨?_,us⟩);rw[AU λz=>nd ((PM hp).mp z).1]
 |_=>
  refine Di (IQ (DX (k:=false) (by rw[ED rfl e,q];rfl))) (zq (d:=.bl false) rfl ⟨?_,[],by simp⟩);rw[AU];rintro ⟨ps,z,_⟩;cases z
def NO (h:zb zA a x=zb zA b x):setR zA [a,b] x=[zb zA a x]:=by
 show ris [zb zA a x,zb zA b x]=_;rw[<-h];exact (Kw λx=>by simp).trans (Jy (by simp))
def QY (h:zb zA a x≠zb zA b x):setR zA [a,b] x=Bw (zb zA a x) (zb zA b x):=by
 rw[Pn h];rfl
def jA:∀ k:Nat,k<l->Dst zA l One (setR zA p (k:Int)) n -> ∃ x,Fst zA l One p n x:=by
 intro k;induction k using Nat.strongRecOn with
 |ind k ih=>
  intro hk hd;by_cases h:∃ y:Nat,y<k/\Dst zA l One (setR zA p (y:Int)) n
  .obtain ⟨y,y1,y2⟩:=h;exact ih y y1 (by omega) y2
  .refine ⟨(k:Int),by omega,by omega,hd,λy y0 y1 z=>h ⟨y.toNat,by omega,?_⟩⟩;rw[show ((y.toNat:Nat):Int)=y by omega];exact z
noncomputable def tpR (zA:Ya) (l:Nat) (p:Ye):Tp:=(p,((Bp zA l One p:Nat):Int),EX zA l One p)
def UW (zA:Ya) (l:Nat) (ps:Ya):ps.map (CI zA l)=(ps.map (tpR zA l)).map tD:=by rw[Ae];rfl
def MB (h:p∈zi zA l One):p∈zQ (zG zA) /\ ∃ n x,Dst zA l One p (n+1)/\Fst zA l One p n x/\tpR zA l p=(p,((n+1:Nat):Int),x):=by
 obtain ⟨hp,n,hd⟩:=EM.mp h;obtain ⟨_,x,hx,hr⟩:=Gm.mp hd;obtain ⟨y,fy⟩:=jA (zA:=zA) (l:=l) (p:=p) (n:=n) x.toNat (by omega) (by rw[show ((x.toNat:Nat):Int)=x by omega];exact hr);refine ⟨hp,n,y,hd,fy,?_⟩;unfold tpR;rw[Ek hd,Kd hd fy]
def Ph (zA:Ya) (l:Nat) (ps:Ya):(ps.map (tpR zA l)).map (·.1)=ps:=by
 rw[Ae];exact List.map_id' ps
def V1 (m:IsM zA l) (hR:zA.length<=26):ShL zA l (.tup ((zi zA l One).map (CI zA l))):=by
 rw[UW];refine (MX λt ht=>(by
  obtain ⟨p,hp,rfl⟩:=Ag.mp ht;obtain ⟨hpp,n,x,hd,fx,e⟩:=MB hp;rw[e];exact ⟨hpp,fx.x0,fx.x1⟩)).mpr ⟨by rw[Ph];exact (JH (JN zA)).filter _,λt ht=>?_⟩
 obtain ⟨p,hp,rfl⟩:=Ag.mp ht;obtain ⟨hpp,n,x,hd,fx,e⟩:=MB hp;rw[e];obtain ⟨a,b,rfl,ha,hb,hlt⟩:=zn.mp hpp;have ha:=zc.mp ha;have hb:=zc.mp hb
 have dn:Fw zA (((zi zA l One).map (tpR zA l)).map kq) ([a,b],((n+1:Nat):Int),x)=if (setR zA [a,b] x).length=1 then decide (((n+1:Nat):Int)=1) else match zE (((zi zA l One).map (tpR zA l)).map kq) (setR zA [a,b] x) with
   |some (.int i)=>decide (i=((n+1:Nat):Int)-1)
   |_=>false:=rfl
 rw[dn];by_cases h1:(setR zA [a,b] x).length=1
 .rw[AB h1];have:=FP (ER.mpr (show One _ from h1)) fx.d;exact AO (by omega)
 .rw[AE h1];obtain ⟨p0,p1⟩:=m.step ha.1 ha.2 fx.x0 fx.x1;obtain ⟨q0,q1⟩:=m.step hb.1 hb.2 fx.x0 fx.x1;have hpq:zb zA a x≠zb zA b x:=λz=>h1 (by rw[NO z];rfl);have hq:setR zA [a,b] x∈zQ (zG zA):=by rw[QY hpq];exact LR p0 p1 q0 q1 hpq
  have hdx:=fx.d;generalize setR zA [a,b] x=q at h1 hq hdx;cases n with
  |zero=>exact absurd (ER.mp hdx) h1
  |succ n=>
   have hin:q∈zi zA l One:=EM.mpr ⟨hq,n,hdx⟩;have hs:=Eo.mpr (show q∈(((zi zA l One).map (tpR zA l)).map kq).map (·.1) by rw[Kj,Ph];exact hin);cases hlk:zE (((zi zA l One).map (tpR zA l)).map kq) q with
   |none=>rw[hlk]at hs;cases hs
   |some d=>
    obtain ⟨s,hsm,h3,rfl⟩:=K8 hlk;obtain ⟨p',_,rfl⟩:=Ag.mp hsm;have h3:p'=q:=h3;subst h3;show decide (((Bp zA l One p':Nat):Int)=((n+1+1:Nat):Int)-1)=true;rw[Ek hdx];exact AO (by omega)
def WM (m:IsM zA l):Shn zA l (.tup ((DA zA l).map tI)):=by
 have am:∀ p,p∈DA zA l ↔ p∈zQ (zG zA)/\p∉zi zA l One:=λp=>by
  unfold DA;rw[C9,CA]
 refine ⟨_,rfl,λp hp=>((am p).mp hp).1,(JH (JN zA)).filter _,λp hp x x0 x1=>?_⟩;obtain ⟨h1,h2⟩:=(am p).mp hp;obtain ⟨a,b,rfl,ha,hb,hlt⟩:=zn.mp h1;have ha:=zc.mp ha;have hb:=zc.mp hb;have no:∀ k,¬ Rch zA l One (setR zA [a,b] x) k:=λk hk=>by
  obtain ⟨n,_,hd⟩:=Qq _ (IW.mpr ⟨x,⟨x0,x1⟩,hk⟩);cases n with
  |zero=>exact absurd (ER.mp hd) (by simp[One])
  |succ n=>exact h2 (EM.mpr ⟨h1,n,hd⟩)
 obtain ⟨p0,p1⟩:=m.step ha.1 ha.2 x0 x1;obtain ⟨q0,q1⟩:=m.step hb.1 hb.2 x0 x1;have hs:setR zA [a,b] x=ris [zb zA a x,zb zA b x]:=rfl;by_cases hpq:zb zA a x=zb zA b x
 .have e2:setR zA [a,b] x=[zb zA a x]:=by rw[hs,<-hpq];exact (Kw λx=>by simp).trans (Jy (by simp))
  exact absurd (ER.mpr (show One (setR zA [a,b] x) by rw[e2];rfl)).1 (no 0)
 .rw[am];refine ⟨by rw[hs,<-Pn hpq];exact LR p0 p1 q0 q1 hpq,λz=>?_⟩;obtain ⟨_,n,hd⟩:=EM.mp z;exact no _ hd.1
noncomputable def LL:FS:=(zS (AM 3 (fOp kIx (fOp Ay (zC 1) (zC 2)) (fC (.int 0))))
  (zS (Bl (A1 (zD (toD (zC 3)) zI)) (gN 4) (zS (sIf (tst (fOp (Ax true) (zC 2) (zC 1))) (AL (fC (.bl false))) Ap)
  (zS (AM 2 (zM Ho (zD (toD (zC 0)) (zD (toD (zC 2)) (zD (toD (fOp kIx (fOp Ay (zC 1) (zC 2)) (fC (.int 1)))) zI)))))
  (sIf (tst (fOp kNe (fOp kEq (fOp kIx (zC 2) (fC (.int 0))) (fOp kIx (zC 2) (fC (.int 1)))) (fOp kEq (zC 4) (fOp D9 (zC 3) (fC (.int 1)))))) (AL (fC (.bl false))) Ap))))
  (AL (fOp kGt (zC 3) (fC (.int 0))))))
noncomputable def Gy:FF:=EW (Ak 5 LL)
noncomputable def Kn:FS:=(zS (AM 1 (zM Gq (zD (toD (zC 0)) zI)))
  (zS (AM 2 (fOp BE (fC (.int 1)) (zM ze (zD (toD (zC 1)) (zD (toD (fC (.int 26))) zI)))))
  (zS (AM 3 (zM GX (zD (toD (zC 1)) (zD (toD (zC 2)) (zD (toD (fOp BE (fC (.int 1)) (zM ze (zD (toD (zC 1)) (zD (toD (fC (.int 6))) zI))))) zI)))))
  (zS (AM 4 (zM Hw (zD (toD (zC 3)) zI)))
  (zS (AM 5 (zM HQ (zD (toD (zC 3)) zI)))
  (zS (AM 6 (fB F5 (zP (fOp Dv (zo [7] (AQ (zC 4)) (gN 7) zZ (fOp kIx (zC 7) (fC (.int 0)))) (fB GQ (zP (zC 5) zd))) zd)))
  (zS (sIf (tst (fOp (kTr true 1) (zC 6) (zM GV (zD (toD (Fh (zC 2))) zI)))) (AL (fC (.bl false))) Ap)
  (zS (sIf (CZ (tst (fOp (kIs true) (zM Hi (zD (toD (zC 3)) (zD (toD (zC 4)) zI))) (fC (.bl true)))) (tst (fOp (kIs true) (zM Hd (zD (toD (zC 3)) (zD (toD (zC 5)) zI))) (fC (.bl true))))) (AL (fC (.bl false))) Ap)
  (zS (AM 8 JA)
  (zS (Bl (AQ (zC 4)) (EI 9 10 11) (Cg (Br (zD (toD (zC 10)) (zD (toD (zC 11)) zI))) (zC 8) (zC 9)))
  (AL (fB Dm (zP (zo [9] (HR (zC 8)) (gN 9) zZ (zM Gy (zD (toD (zC 3)) (zD (toD (zC 8)) (zD (toD (zC 9)) zI))))) zd)))))))))))))
noncomputable def E6:FF:=Ak 12 Kn
noncomputable def dF (T:List (List Int × D)):MO:=.froT (Bd T)
section
variable {M:Mem} {n:Nat} {T:List (List Int × D)} {g:Ye}
def dgF (h:M[n]?=some (dF T)):Dw M (.dat (.ref n)) (tI g)=some (zE T g):=by
 unfold Dw;dsimp only;rw[h];unfold dF;dsimp only;rw[Jm];dsimp only;rw[MV]
def ZJ (h:M[n]?=some (dF T)):Ax neg (.dat (tI g)) (.dat (.ref n)) M=some (.dat (.bl (if neg then !(zE T g).isSome else (zE T g).isSome)),M):=by
 unfold Ax;dsimp only;rw[dgF h]
def Tz (h:M[n]?=some (dF T)) (hd:zE T g=some d):Ay (.dat (.ref n)) (.dat (tI g)) M=some (.dat d,M):=by
 unfold Ay;dsimp only;rw[dgF h,hd]
end
def eqB:kNe (.dat (.bl a)) (.dat (.bl b)) M=some (.dat (.bl (a != b)),M):=by cases a <;> cases b <;> rfl
def cE (m:IsM zA l) (hp:p∈zi zA l One) (hd:Dst zA l One p (d+1)):∃ a b x,p=[a,b]/\(0<=a/\a<zA.length)/\(0<=b/\b<zA.length)/\(0<=x/\x<(l:Int))/\EX zA l One p=x/\Bp zA l One p=d+1 /\
  ((d=0/\zb zA a x=zb zA b x) \/ ∃ e,d=e+1/\zb zA a x≠zb zA b x/\Bw (zb zA a x) (zb zA b x)∈zi zA l One/\Dst zA l One (Bw (zb zA a x) (zb zA b x)) (e+1)):=by
 obtain ⟨hpp,n,x,hn,fx,e⟩:=MB hp;obtain ⟨a,b,rfl,ha,hb,hlt⟩:=zn.mp hpp;have hnd:n=d:=by have:=FP hn hd;omega
 subst hnd;have ha:=zc.mp ha;have hb:=zc.mp hb;obtain ⟨p0,p1⟩:=m.step ha.1 ha.2 fx.x0 fx.x1;obtain ⟨q0,q1⟩:=m.step hb.1 hb.2 fx.x0 fx.x1;refine ⟨a,b,x,rfl,ha,hb,⟨fx.x0,fx.x1⟩,Kd hn fx,Ek hn,?_⟩;by_cases hs:zb zA a x=zb zA b x
 .have h1:(setR zA [a,b] x).length=1:=by rw[NO hs];rfl
  have:=FP (ER.mpr (show One _ from h1)) fx.d;exact .inl ⟨by omega,hs⟩
 .have hq:=LR p0 p1 q0 q1 hs;have e2:setR zA [a,b] x=Bw (zb zA a x) (zb zA b x):=QY hs;have hdx:=fx.d;rw[e2]at hdx;cases n with
  |zero=>
   have:=ER.mp hdx;exact absurd this (by show ¬ (2=1);omega)
  |succ n=>exact .inr ⟨n,rfl,hs,EM.mpr ⟨hq,n,hdx⟩,hdx⟩
def eF (m:IsM zA l) (hR:zA.length<=26) (wf:∀ (j:Nat) u,M[j]?=some u->MO.und M.length u=true) (hj:M[j]?=some (dF (A2 zA l One))) (hp:p∈zi zA l One):Gy [mD zA,.ref j,tI p] M=some (.bl true,M):=by
 unfold Gy;refine LP wf rfl ?_;refine Ok.mono (P:=λd M'=>d=.bl true/\M'=M) ?_ λd M' ⟨h1,h2⟩=>⟨h1,[],by rw[h2,BF]⟩;obtain ⟨hpp,n,hn⟩:=EM.mp hp;have hle:=AZ (Rj m OF (E3 _ hpp) hn) (IS hR);have lk:∀ {q:Ye} {y:D},q∈zi zA l One -> ∀ (Y:Sd),Y[1]?=some (some (.ref j))->Y[2]?=some (some (tI q))->fOp Ay (zC 1) (zC 2) Y M=some (.dat (Cv zA l One q),M):=λ{q y} hq Y e1 e2=>by
  refine zK (x:=.dat (.ref j)) (y:=.dat (tI q)) ?_ ?_ (Tz hj (by rw[Q2,AB hq]))
  .unfold zC;rw[e1]
  .unfold zC;rw[e2]
 rw[zw];unfold LL;show OkS (zS _ _ [some (mD zA),some (.ref j),some (tI p),none,none] M) _;refine EB (d:=.int ((n+1:Nat):Int)) (zK (x:=.dat (Cv zA l One p)) (y:=.dat (.int 0)) (lk (y:=.non) hp _ rfl rfl) rfl ((Cr BZ rfl).trans (by rw[Ek hn]))) ?_;show OkS (zS _ _ [some (mD zA),some (.ref j),some (tI p),some (.int ((n+1:Nat):Int)),none] M) _;rw[zN,Ed];refine ⟨_,_,_,El (f:=zC 3) (j:=((n+1:Nat):Int)) rfl (by omega) (by omega),?_⟩;rw[show (((n+1:Nat):Int)).toNat=n+1 by omega];refine Ij (n:=n+1) (I:=λk Y M'=>∃ (q:Ye) (y4:Option D),Y=[some (mD zA),some (.ref j),some (tI q),some (.int ((n+1:Nat):Int)),y4]/\M'=M/\(k<=n->q∈zi zA l One/\Dst zA l One q (n-k+1))) ?_ ?_ _ _ ⟨p,none,rfl,rfl,λ_=>⟨hp,hn⟩⟩
 .intro k Y M' hk hI;refine Classical.byContradiction λG=>?_;obtain ⟨q,y4,eI1,eI2,hq⟩:=hI;refine G ?_;clear G;subst eI1 eI2;obtain ⟨hq1,hq2⟩:=hq (by omega);refine ⟨_,rfl,?_⟩;show OkS (zS _ _ [some (mD zA),some (.ref j),some (tI q),some (.int ((n+1:Nat):Int)),some (.int (k:Int))] M') _;refine Ea (BR ((zK (x:=.dat (tI q)) (y:=.dat (.ref j)) rfl rfl (ZJ hj)).trans (by rw[AB rfl,Q2,AB hq1];rfl))) ?_;obtain ⟨a,b,x,rfl,ha,hb,hx,e1,e2,hc⟩:=cE m hq1 hq2;refine EB (zf (zt (d:=mD zA) rfl (zt (d:=tI [a,b]) rfl (zg (d:=.int x) (zK (x:=.dat (Cv zA l One [a,b])) (y:=.dat (.int 1)) (lk (y:=.non) hq1 _ rfl rfl) rfl ((Cr BZ rfl).trans (by rw[e1])))))) (U5 m ha.1 ha.2 hb.1 hb.2 hx.1 hx.2)) ?_;show OkS (sIf _ _ _ [some (mD zA),some (.ref j),some (tI (Bw (zb zA a x) (zb zA b x))),some (.int ((n+1:Nat):Int)),some (.int (k:Int))] M') _;generalize zb zA a x=s at *;generalize zb zA b x=t at *;have eA:fOp kEq (fOp kIx (zC 2) (fC (.int 0))) (fOp kIx (zC 2) (fC (.int 1))) [some (mD zA),some (.ref j),some (tI (Bw s t)),some (.int ((n+1:Nat):Int)),some (.int (k:Int))] M'=some (.dat (.bl (decide (s=t))),M'):=by
   refine (zK (x:=.dat (.int (if t<s then t else s))) (y:=.dat (.int (if t>s then t else s))) (zK (x:=.dat (tI (Bw s t))) (y:=.dat (.int 0)) rfl rfl (Cr BZ rfl)) (zK (x:=.dat (tI (Bw s t))) (y:=.dat (.int 1)) rfl rfl (Cr BZ rfl)) eqE).trans ?_;congr 4;apply decide_eq_decide.mpr;constructor
   .intro h;split at h <;> split at h <;> omega
   .rintro rfl;simp
  have eB:fOp kEq (zC 4) (fOp D9 (zC 3) (fC (.int 1))) [some (mD zA),some (.ref j),some (tI (Bw s t)),some (.int ((n+1:Nat):Int)),some (.int (k:Int))] M'=some (.dat (.bl (decide (k=n))),M'):=by
   refine (zK (x:=.dat (.int (k:Int))) (y:=.dat (.int (((n+1:Nat):Int)-1))) rfl (zK (x:=.dat (.int ((n+1:Nat):Int))) (y:=.dat (.int 1)) rfl rfl Mb) eqE).trans ?_;congr 4;exact decide_eq_decide.mpr (by omega)
  rcases hc with ⟨h0,rfl⟩|⟨e,he,hne,hr,hd⟩
  .refine QB (BR (zK eA eB (eqB.trans ?_))) ⟨_,_,rfl,rfl,λz=>by omega⟩;rw[AO rfl,AO (by omega)];rfl
  .refine QB (BR (zK eA eB (eqB.trans ?_))) ⟨_,_,rfl,rfl,λz=>⟨hr,by rw[show n-(k+1)+1=e+1 by omega];exact hd⟩⟩;rw[AU hne,AU (by omega)];rfl
 .intro Y M' hI;refine Classical.byContradiction λG=>?_;obtain ⟨q,y4,eI1,eI2,_⟩:=hI;refine G ?_;clear G;subst eI1 eI2;rw[zU];refine zq (d:=.bl true) ((zK (x:=.dat (.int ((n+1:Nat):Int))) (y:=.dat (.int 0)) rfl rfl gtE).trans ?_) ⟨rfl,rfl⟩;rw[AO (by omega)]
def Rv (hz:xs.length+ys.length<=90000):Dv (.fl xs) (.fl ys) M=some (.fl (xs++ys),M):=by
 unfold Dv;show (if xs.length+ys.length<=sizeLine then some (EV.fl (xs++ys),M) else none)=_;rw[AB (by rw[sizeLine_eq];omega)]
def op3 {k:K2} {f g:FE} {Y:Sd} {M M1 M2:Mem} {x y:EV} {r:Option (EV × Mem)} (hf:f Y M=some (x,M1)) (hg:g Y M1=some (y,M2)) (h:k x y M2=r):fOp k f g Y M=r:=by
 unfold fOp;rw[hf];dsimp only;rw[hg];exact h
theorem N0:∀ ts:List (List Int),Gd (ts.map tI)=some ts
 |[]=>rfl
 |t::ts=>by
  rw[AX];unfold Gd;rw[N0 ts,show PX (tI t)=some t from HS t]
def fZ (hf:f Y M=some (.fl (ts.map tI),M)) (hn:G8 ts=true) (hz:ts.length<=90000):fB F5 (zP f zd) Y M=some (.fl ((EJ ts).map tI),M):=by
 unfold fB zP zd;rw[hf];show F5 [.fl (ts.map tI)] M=_;unfold F5;dsimp only;rw[show Av M (.fl (ts.map tI))=some (ts.map tI)from FU];dsimp only;rw[N0];dsimp only;rw[AB ⟨hn,hz⟩];rfl
def VZ (h:xs.Pairwise (· < ·)):(zQ xs).Pairwise λa b=>AY b a=false:=by
 have asym:∀ {a b:Ye},AY a b=true->AY b a=false:=λ{a b} e=>by
  cases e2:AY b a with
  |false=>rfl
  |true=>have:=HH e e2;rw[IZ]at this;cases this
 unfold zQ;rw[List.pairwise_flatMap];refine ⟨λa _=>Es.mpr ((h.filter _).imp λ{b c} hb=>asym ?_),h.imp λ{a b} hab=>?_⟩
 .rw[Hz,AB rfl,Hz,AE (by omega)];exact AO hb
 .intro x hx y hy;obtain ⟨c,_,rfl⟩:=Ag.mp hx;obtain ⟨d,_,rfl⟩:=Ag.mp hy;refine asym ?_;rw[Hz,AE (by omega)];exact AO hab
def Qx (zA:Ya):(zG zA).Pairwise (· < ·):=by
 unfold zG;exact Es.mpr (List.pairwise_lt_range.imp λ{a b} h=>by omega)
def NN (zA:Ya) (l:Nat):(zQ (zG zA)).Perm (zi zA l One++DA zA l):=by
 have e:DA zA l=(zQ (zG zA)).filter λp=> !Gn zA l One p:=by
  unfold DA;refine List.filter_congr λp hp=>?_;cases hb:Gn zA l One p with
  |true=>
   have:p∈zi zA l One:=C9.mpr ⟨hp,hb⟩;exact AU (λz=>z this)
  |false=>
   exact AO (λz=>by have:=(C9.mp z).2;rw[hb]at this;cases this)
 rw[e];unfold zi;exact (List.filter_append_perm _ _).symm
def fF {M:Mem} {ts:Ya} (hi:M[i]?=some (.lst (ts.map tI))) (hj:M[j]?=some (.lst (ts.map tI))):kTr true 1 (.dat (.ref i)) (.dat (.ref j)) M=some (.dat (.bl false),M):=by
 have tr:(ts.map tI).all (Bi 1)=true:=by
  rw[A0];intro x hx;obtain ⟨t,_,rfl⟩:=Ag.mp hx;unfold tI Bi;rw[A0];intro y hy;obtain ⟨i,_,rfl⟩:=Ag.mp hy;rfl
 have e:BC 2 (.tup (ts.map tI)) (.tup (ts.map tI))=true:=Le 2 _ (by unfold Bi;exact tr);unfold kTr;rw[show CU (.dat (.ref i))=none from rfl];dsimp only;rw[D0 hi,D0 hj];dsimp only;rw[tr,AB (by decide),e];rfl
def VW {f:FE} {Y:Sd} {M M1:Mem} {bs:List Bool} (h:f Y M=some (.fl (bs.map D.bl),M1)):fB Dm (zP f zd) Y M=some (.dat (.bl (bs.all id)),M1):=by
 have e:=Ff (f:=λ_ M=>some (.fl (bs.map D.bl),M)) (Y:=Y) (M:=M1) rfl;unfold fB zP zd at e ⊢;rw[h];exact e
def V9 (n:Nat) (zA:Ya) (l:Nat):MO.und n (dF (A2 zA l One))=true:=by
 show ((Bd (A2 zA l One)).all λp=>D.und n p.1&&D.und n p.2)=true;rw[A0];intro p hp;obtain ⟨q,hq,rfl⟩:=Ag.mp hp;obtain ⟨r,_,rfl⟩:=Ag.mp hq;simp[tI,E5,D.und,Cc,Cv,D.unds]
def bP (ns:Ye) (h:ns.length<=63):∃ M',E6 [.ref 0] [.fro (ns.map D.int)]=some (.bl true,M'):=by
 suffices hh:Ok (E6 [.ref 0] [.fro (ns.map D.int)]) λd _=>d=.bl true by
  obtain ⟨d,M',e,rfl⟩:=hh;exact ⟨M',e⟩
 unfold E6;rw[zw];unfold Kn;refine Rn (τ:=[none,none,none,none,none,none,none,none]) (by decide) (by decide) (by decide) h λzA l M2 m hr1 hr2 hr3 hl g2 e02=>?_;have hR:zA.length<=26:=by omega
 have hl12:l<=12:=by omega
 have hrl:=RM (l:=l) hR;have hal:(DA zA l).length<=676:=AZ (Fu _ _) (IS hR);refine EB (zf (zg (f:=zC 3) (d:=mD zA) rfl) (ZH m hR hl12)) ?_;refine EB (zf (zg (f:=zC 3) (d:=mD zA) rfl) (Vb m hR hl12)) ?_;show OkS (zS _ _ [some (.ref 0),some (.ref 2),some (.int (zA.length:Int)),some (mD zA),some (.tup ((zi zA l One).map (CI zA l))),some (.tup ((DA zA l).map tI)),none,none,none,none,none,none] M2) _;generalize hT:D.tup ((zi zA l One).map (CI zA l))=T;generalize hU:D.tup ((DA zA l).map tI)=U;have eT:∀ (M:Mem) (b6 b7 b8 b9 b10 b11:Option D),zC 4 [some (.ref 0),some (.ref 2),some (.int (zA.length:Int)),some (mD zA),some T,some U,b6,b7,b8,b9,b10,b11] M=some (.dat (.tup ((zi zA l One).map (CI zA l))),M):=by
  intros;rw[hT];rfl
 have eU:∀ (M:Mem) (b6 b7 b8 b9 b10 b11:Option D),zC 5 [some (.ref 0),some (.ref 2),some (.int (zA.length:Int)),some (mD zA),some T,some U,b6,b7,b8,b9,b10,b11] M=some (.dat (.tup ((DA zA l).map tI)),M):=by
  intros;rw[hU];rfl
 have cm:=Law.EH (own:=[7]) (g:=gN 7) (te:=fOp kIx (zC 7) (fC (.int 0))) (gd:=none) (zi zA l One) (CI zA l) tI (D1 (eT M2 none none none none none none)) trivial (by omega) λp hp=>⟨[some (.ref 0),some (.ref 2),some (.int (zA.length:Int)),some (mD zA),some T,some U,none,some (CI zA l p),none,none,none,none],rfl,zK (x:=.dat (CI zA l p)) (y:=.dat (.int 0)) rfl rfl (Cr BZ rfl)⟩;have ec:=zK (k:=Dv) cm (Xf (eU M2 none none none none none none) BZ) (Rv (by rw[AG,AG];omega));rw[<-CK]at ec;have hne:G8 (zi zA l One++DA zA l)=true:=by
  unfold G8;rw[A0];intro t ht;have:=(NN zA l).mem_iff.mpr ht;obtain ⟨a,b,rfl,_⟩:=zn.mp this;rfl
 have es:=fZ ec hne (by rw[An];omega);rw[<-Qg (NN zA l) (VZ (Qx zA))]at es;rw[zN,zh];refine zF es (CN ?_);rw[zU];clear es ec cm;show OkS (zS _ _ [some (.ref 0),some (.ref 2),some (.int (zA.length:Int)),some (mD zA),some T,some U,some (.ref M2.length),none,none,none,none,none] (M2++[.lst ((zQ (zG zA)).map tI)])) _;generalize hA:M2++[MO.lst ((zQ (zG zA)).map tI)]=A;have a1:A[M2.length]?=some (.lst ((zQ (zG zA)).map tI)):=by rw[<-hA];simp
 have hrooms:(zG zA).length=zA.length:=by unfold zG;simp
 have eL:=Um (ZZ (zA:=zA) (f:=zC 2) (Y:=[some (.ref 0),some (.ref 2),some (.int (zA.length:Int)),some (mD zA),some T,some U,some (.ref M2.length),none,none,none,none,none]) (M:=A) (by omega) rfl);obtain ⟨d,B,ep,rfl,us,hB,hus⟩:=XS (M:=A++[.lst ((zG zA).map D.int)]) (j:=A.length) (xs:=zG zA) (B8 _ _) (Qx zA) (by omega);have e2:zM GV (zD (toD (Fh (zC 2))) zI) [some (.ref 0),some (.ref 2),some (.int (zA.length:Int)),some (mD zA),some T,some U,some (.ref M2.length),none,none,none,none,none] A=some (.dat (.ref (A++[MO.lst ((zG zA).map D.int)]).length),B):=Qp (aC' eL rfl) ep;have bp:B[(A++[MO.lst ((zG zA).map D.int)]).length]?=some (.lst ((zQ (zG zA)).map tI)):=by rw[hB];simp
 have b1:B[M2.length]?=some (.lst ((zQ (zG zA)).map tI)):=by rw[hB,BL,AW (AK.mp a1).1];exact a1
 rw[zN,Ca];refine zF (BR (op3 (x:=.dat (.ref M2.length)) rfl e2 (fF b1 bp))) ?_;show OkS (Ap _ _) _;rw[C4,zU];clear e2 ep eL;have gB:Gen B 2 1:=by
  have hB2:B=M2++(MO.lst ((zQ (zG zA)).map tI)::MO.lst ((zG zA).map D.int)::MO.lst ((zQ (zG zA)).map tI)::us):=by rw[hB,<-hA];simp
  rw[hB2];refine (g2.app λu hu=>?_);rcases AI.mp hu with z|hu
  .subst z;exact Ja _ _
  rcases AI.mp hu with z|hu
  .subst z;exact Cc _ _
  rcases AI.mp hu with z|hu
  .subst z;exact Ja _ _
  .exact Pf (BQ _) (hus u hu)
 have vT:Vd B T:=by
  rw[<-hT];refine MT (by rw[AG];omega) λd hd=>?_;obtain ⟨p,hp,rfl⟩:=Ag.mp hd;obtain ⟨a,b,rfl,_⟩:=zn.mp (EM.mp hp).1;unfold CI;refine MT (by simp) λd hd=>?_;simp only[AI,BU,Be]at hd;rcases hd with rfl|rfl|rfl
  .exact Oz (by simp)
  .unfold Vd;trivial
  .unfold Vd;trivial
 have vU:Vd B U:=by
  rw[<-hU];refine MT (by rw[AG];omega) λd hd=>?_;obtain ⟨p,hp,rfl⟩:=Ag.mp hd;obtain ⟨a,b,rfl,_⟩:=zn.mp (C9.mp hp).1;exact Oz (by simp)
 have lT:JR T<=2000:=by rw[<-hT];show (List.map _ _).length<=2000;rw[AG];omega
 have lU:JR U<=2000:=by rw[<-hU];show (List.map _ _).length<=2000;rw[AG];omega
 refine Ea (EN (BR (zK (x:=.dat (.bl true)) (y:=.dat (.bl true)) ((zf (zt (d:=mD zA) rfl (zg (d:=T) rfl)) (ZD m hR gB.wf vT lT)).trans ?_) rfl rfl)) (BR (zK (x:=.dat (.bl true)) (y:=.dat (.bl true)) ((zf (zt (d:=mD zA) rfl (zg (d:=U) rfl)) (Ro m hR hl12 gB.wf vU lU)).trans ?_) rfl rfl))) ?_
 .rw[@AO _ (Classical.propDecidable _) (show ShL zA l T by rw[<-hT];exact V1 m hR)]
 .rw[@AO _ (Classical.propDecidable _) (show Shn zA l U by rw[<-hU];exact WM m)]
 rw[zN,zh];refine zF (M:=B++[.dicT []]) (a:=.dat (.ref B.length)) rfl ?_;rw[zL,zU];show OkS (zS _ _ [some (.ref 0),some (.ref 2),some (.int (zA.length:Int)),some (mD zA),some T,some U,some (.ref M2.length),none,some (.ref B.length),none,none,none] (B++[dT []])) _;rw[zN,Ed];refine ⟨_,_,_,D1 (eT _ _ _ _ _ _ _),?_⟩;have nd:(zi zA l One).Nodup:=(JH (JN zA)).filter _;refine E1 (I:=λr Y M'=>∃ (dn re:Ya) (y9 y10 y11:Option D),zi zA l One=dn++re/\r=re.map (CI zA l)/\Y=[some (.ref 0),some (.ref 2),some (.int (zA.length:Int)),some (mD zA),some T,some U,some (.ref M2.length),none,some (.ref B.length),y9,y10,y11]/\M'=B++[dT (dn.map λp=>(p,Cv zA l One p))]) ?_ ?_ _ _ _ ⟨[],zi zA l One,none,none,none,rfl,rfl,rfl,rfl⟩
 .intro x r Y M' hI;refine Classical.byContradiction λG=>?_;obtain ⟨dn,re,y9,y10,y11,hd,hr,eI1,eI2⟩:=hI;refine G ?_;clear G;subst eI1 eI2;cases re with
  |nil=>cases hr
  |cons p r2=>
   obtain ⟨rfl,rfl⟩:=Cf hr;refine ⟨DK,_,rfl,?_⟩;have hlen:=BJ List.length hd;rw[An,Ba]at hlen;have hnew:p∉(dn.map λp=>(p,Cv zA l One p)).map (·.1):=by
    rw[Ae,show ((λx=>x.1)∘λp=>(p,Cv zA l One p))=id from rfl,List.map_id];rw[hd]at nd;exact λz=>(DS.mp nd).2.2 p z p Ad rfl
   refine YF (v:=Cv zA l One p) (k:=tI p) (n:=B.length) (HI (zt (d:=.int (Bp zA l One p:Nat)) rfl (zg (d:=.int (EX zA l One p)) rfl)) (by simp)) rfl rfl (Fe (T:=dn.map λp=>(p,Cv zA l One p)) (B8 _ _) (by rw[AG];omega)) ?_;refine ⟨dn++[p],r2,_,_,_,by rw[hd];simp,rfl,rfl,?_⟩;rw[Jf hnew,GF _ _ (AF _)];simp
 intro Y M' hI;refine Classical.byContradiction λG=>?_;obtain ⟨dn,re,y9,y10,y11,hd,hr,eI1,eI2⟩:=hI;refine G ?_;clear G;subst eI1 eI2;refine ⟨DK,?_⟩;rw[zU]
 have hre:re=[]:=by cases re with
  |nil=>rfl
  |cons _ _=>cases hr
 subst hre;rw[BF]at hd;subst hd;show OkS (AL _ _ (B++[dT (A2 zA l One)])) _;have ei:HR (zC 8) [some (.ref 0),some (.ref 2),some (.int (zA.length:Int)),some (mD zA),some T,some U,some (.ref M2.length),none,some (.ref B.length),y9,y10,y11] (B++[dT (A2 zA l One)])=some ((zi zA l One).map tI,none,B++[dF (A2 zA l One)]):=by
  unfold HR;rw[show zC 8 [some (.ref 0),some (.ref 2),some (.int (zA.length:Int)),some (mD zA),some T,some U,some (.ref M2.length),none,some (.ref B.length),y9,y10,y11] (B++[dT (A2 zA l One)])=some (.dat (.ref B.length),B++[dT (A2 zA l One)])from rfl];dsimp only;rw[B8];show some (List.map (λq:D × D=>q.1) (Bd (A2 zA l One)),none,(B++[dT (A2 zA l One)]).set B.length (.froT (Bd (A2 zA l One))))=_;rw[GF _ _ (AF _)];unfold Bd A2;rw[Ae,Ae];simp only[Nat.sub_self,List.set_cons_zero];rfl
 have gC:∀ (j:Nat) u,(B++[dF (A2 zA l One)])[j]?=some u->MO.und (B++[dF (A2 zA l One)]).length u=true:=(gB.app (us:=[dF (A2 zA l One)]) λu hu=>by rw[Aq]at hu;subst hu;exact V9 _ _ _).wf;have hF:(B++[dF (A2 zA l One)])[B.length]?=some (dF (A2 zA l One)):=B8 _ _;generalize B++[dF (A2 zA l One)]=C at ei gC hF;have ef:=Hq (own:=[9]) (g:=gN 9) (tc:=zZ) (te:=zM Gy (zD (toD (zC 3)) (zD (toD (zC 8)) (zD (toD (zC 9)) zI)))) (zi zA l One) tI (λ_=>D.bl true) (λ_=>true) ei trivial (by omega) λp hp=>⟨[some (.ref 0),some (.ref 2),some (.int (zA.length:Int)),some (mD zA),some T,some U,some (.ref M2.length),none,some (.ref B.length),some (tI p),y10,y11],rfl,rfl,λ_=>zf (zt (d:=mD zA) rfl (zt (d:=.ref B.length) rfl (zg (d:=tI p) rfl))) (eF m hR gC hF hp)⟩;have hb:((zi zA l One).filter λ_=>true).map (λ_=>D.bl true)=((zi zA l One).map λ_=>true).map D.bl:=by
  rw[List.filter_eq_self.mpr λ_ _=>rfl,Ae];rfl
 rw[hb]at ef;rw[CC];refine zF (VW ef) ?_;rw[zL,HZ];show D.bl _=D.bl true;congr 1;rw[A0];intro _ _;rfl
end Lac
set_option maxHeartbeats 4000000
namespace Lac
open L2 L3 Law
-- the text by places
noncomputable def top (i:Nat):Stmt:=PySem.Challenge.pw_bringhome_k31_whole_together_or_apart.main.body.getD i (.Pass ⟨0,0,0,0⟩)
noncomputable abbrev Kp:Stmt:=top 1
noncomputable abbrev LS:Stmt:=top 2
noncomputable abbrev KW:Stmt:=top 3
noncomputable abbrev Lx:Stmt:=top 4
noncomputable abbrev Kz:Stmt:=top 5
noncomputable abbrev Lh:Stmt:=top 7
noncomputable abbrev KP:Stmt:=top 9
noncomputable abbrev LG:Stmt:=top 10
noncomputable abbrev LI:Stmt:=top 11
noncomputable abbrev KC:Stmt:=top 12
noncomputable abbrev J7:Stmt:=top 13
noncomputable abbrev Kx:Stmt:=top 14
noncomputable abbrev J9:Stmt:=top 15
noncomputable abbrev Mc:Stmt:=top 16
noncomputable abbrev Lc:Stmt:=top 17
noncomputable abbrev Ld:Stmt:=top 19
noncomputable abbrev LD:Stmt:=top 20
noncomputable abbrev MP:Stmt:=top 21
noncomputable abbrev J3:Stmt:=top 22
noncomputable abbrev KZ:Stmt:=top 23
noncomputable abbrev Mh:Stmt:=top 25
noncomputable abbrev Lr:Stmt:=top 26
noncomputable abbrev Mg:Stmt:=top 27
noncomputable abbrev J4:Stmt:=top 28
noncomputable abbrev LX:Stmt:=top 29
noncomputable abbrev MG:Stmt:=top 30
noncomputable abbrev LB:Stmt:=top 31
noncomputable abbrev Ko:Stmt:=top 32
noncomputable abbrev MC:Stmt:=top 33
structure Txt (K:Yb) (mg:Yh) where
  kA:Df K mg "is_whole" Kp ["thing"]
  kB:Df K mg "is_below" LS ["thing", "many"]
  kC:Df K mg "is_tuple_below" KW ["thing", "many"]
  kD:Df K mg "is_set" Lx ["machine", "thing"]
  kE:Df K mg "all_rooms" Kz ["machine"]
  kF:Df K mg "stepped" Lh ["machine", "rooms", "letter"]
  kG:Df K mg "pairs_of" KP ["rooms"]
  kJ:Df K mg "ways_back" LG ["machine"]
  kK:Df K mg "lengths_to" LI ["machine", "goals"]
  kL:Df K mg "lengths" KC ["machine"]
  kM:Df K mg "first_letter" J7 ["machine", "pair", "found"]
  kN:Df K mg "rungs_to" Kx ["machine", "found"]
  kO:Df K mg "rungs" J9 ["machine"]
  kP:Df K mg "ladder" Mc ["machine"]
  kQ:Df K mg "apart" Lc ["machine"]
  kR:Df K mg "is_pair" Ld ["machine", "thing"]
  kS:Df K mg "is_triple" LD ["machine", "thing"]
  kU:Df K mg "goes_down" MP ["machine", "triple", "counts"]
  kW:Df K mg "shows_ladder" J3 ["machine", "told"]
  kX:Df K mg "shows_apart" KZ ["machine", "told"]
  kY:Df K mg "_law_begin" Mh ["_law_script"]
  kZ:Df K mg "_law_next" Lr ["_law_state", "_law_many"]
  kAA:Df K mg "_law_order" Mg ["_law_state", "_law_many"]
  kAB:Df K mg "_law_column" J4 ["_law_state", "_law_family", "_law_rooms", "_law_letter"]
  kAC:Df K mg "_law_machine" LX ["_law_state", "_law_rooms", "_law_letters"]
  kAD:Df K mg "_law_pairs" MG ["_law_rooms"]
  kAE:Df K mg "_law_behind" LB ["_law_machine_here", "_law_pair", "_law_letter"]
  kAF:Df K mg "_law_comes" Ko ["_law_machine_here", "_law_rungs", "_law_pair"]
  kAG:Df K mg "law" MC ["_law_script"]
  kAH:mg "isinstance" = none
  kAI:mg "int" = none
  kAJ:mg "bool" = none
  kAK:mg "tuple" = none
  kAL:mg "all" = none
  kAM:mg "len" = none
  kAN:mg "zip" = none
  kAO:mg "range" = none
  kAP:mg "sorted" = none
  kAQ:mg "min" = none
  kAR:mg "enumerate" = none
  kAS:mg "abs" = none
  kAT:mg "max" = none
  kAU:mg "list" = none
  kinds:Kinds K
section
variable {P:Ym} {w:Yo} {K:Yb} {mg:Yh} {base:Heap}
def Ee {X:Cx} {scope sc:Y0} {own:Yj} {N ps:Yk} (_:FnScope N ps sc) (hk:scope.kind=.function) (hs:X.env.scope=sc) (hN:X.N=N) (h1:JE sc scope=true) (h2:JC N scope own=true):CompIn X scope own:=P4 hk hs hN h1 h2
def Zw {X:Cx} {scope sc sd:Y0} {own:Yj} {N ps:Yk} (_:FnScope N ps sd) (hk:scope.kind=.function) (hs:X.env.scope=sc) (hN:X.N=N) (h1:JE sc scope=true) (h2:JC N scope own=true):CompIn X scope own:=P4 hk hs hN h1 h2
set_option hygiene false in
local macro_rules | `(tactic| decreasing_trivial)=> `(tactic| repeat' first
  |refine VN (pv _)
  |refine Cp ?_
  |refine WE ?_ ?_ (zR rfl)
  |refine UB ?_
  |refine jJ
  |refine Ww
  |refine cG ?_ ?_
  |refine YA
  |refine Wt ?_
  |refine UA sc.nd rfl
  |refine SY (by first|exact US T|exact U8 T|exact eZ T|exact gS T|exact TY T|exact S9 T|exact iR T|exact XY T|exact T4 T|exact ZR T|exact WK T|exact Zb T|exact fO T|exact X3 T|exact YW T|exact jO T|exact bR T|exact cN T|exact UT T|exact d8 T|exact VC T|exact jS T|exact Si T|exact XB T|exact bY T|exact cD T|exact Tq T|exact d7 T) (hr.mono (by omega)) rfl ?_ ?_ (by decide) (zR rfl) (GK rfl)
  |refine jQ ?_
  |refine fI ?_ ?_ (zR rfl)
  |refine SA
  |refine Sy ?_ ?_
  |refine Ur
  |refine Xk ?_
  |refine aL
  |refine lA ?_ ?_ ?_
  |refine JI (Ew (by decide)) (Ee sc rfl rfl rfl (by decide+kernel) (by decide+kernel)) rfl ?_ ⟨λ_ _ _ _ _=>?_,λ_ _ _ _ _=>?_,λ_ _ _ _ _=>?_⟩
  |refine iF ?_ ?_
  |refine YX rfl T.kAO ?_ ?_ (Lb rfl)
  |refine Rf rfl T.kAM ?_ (zR rfl) rfl
  |refine YM ?_ ?_
  |refine Zm hr.units0 ?_ ?_
  |refine Vw
  |refine X5 ?_
  |refine TB ?_ ?_
  |refine Qe Wx PassesOwn.never rfl ?_ ?_ ?_
  |refine XN (Eb hr) ?_ ?_
  |refine Wf ?_ ?_
  |refine Y3 ?_
  |refine W8
  |refine Va rfl ?_
  |refine aE hr.units0 ?_ ?_
  |refine UR rfl rfl T.kAL ?_ (zR rfl) rfl
  |refine WX ?_
  |refine UD ?_ ?_
  |refine dB ?_
  |refine U0 ?_
  |refine Rk rfl T.kAK ?_ (zR rfl) rfl
  |refine fW ?_
  |refine Vg ?_
  |refine iI
  |refine ZS ?_
  |refine VT ?_ ?_ ?_
  |refine a8 hr.units0 ?_ ?_
  |refine cX ?_
  |refine eW (Eb hr) ?_ ?_
  |refine K5 T.kinds (by decide) rfl T.kAH rfl T.kAK (by rfl) (by decide) (by decide) ?_ (zR rfl) (zR rfl) (GK rfl)
  |refine Wn ?_ ?_
  |refine Xw ?_ ?_
  |refine dH ?_ ?_
  |refine cW ?_ ?_ ?_
  |refine SG (Eb hr) ?_ ?_ ?_
  |refine Xv sc.nd rfl (by first|exact Or.inl rfl|exact Or.inr rfl) (by first|exact .inl rfl|exact .inr rfl) rfl (Ew (by decide)) (Ee sc rfl rfl rfl (by decide+kernel) (by decide+kernel)) rfl ?_ ⟨λ_ _ _ _ _=>?_,λ_ _ _ _ _=>?_,λ_ _ _ _ _=>?_⟩
  |refine dM (by decide) (Ew (by decide)) (Ew (by decide)) (Ee sc rfl rfl rfl (by decide+kernel) (by decide+kernel)) rfl ?_ ⟨λ_ _ _ _ _=>?_,λ_ _ _ _ _=>?_,λ_ _ _ _ _=>?_,λ_ _ _ _ _=>?_,λ_ _ _ _ _=>?_,λ_ _ _ _ _=>?_,λ_ _ _ _ _ _=>rfl⟩
  |refine Wu ?_ ?_
  |refine aH rfl T.kAS ?_ (zR rfl) rfl
  |refine aO _ PassesOwn.never ?_ ?_
  |refine Uv
  |refine iD ?_ ?_
  |refine JI (V2 (K:=K) (by decide) (by decide)) (Ee sc rfl rfl rfl (by decide+kernel) (by decide+kernel)) rfl ?_ ⟨λ_ _ _ _ _=>?_,λ_ _ _ _ _=>?_,λ_ _ _ _ _=>?_⟩
  |refine fQ (Eb hr) ?_ ?_
  |refine jP (Eb hr) ?_ ?_ ?_ ⟨rfl,rfl,rfl,rfl⟩
  |refine Qh (Eb hr) (Ew (by decide)) (Ee sc rfl rfl rfl (by decide+kernel) (by decide+kernel)) rfl ?_ ⟨λ_ _ _ _ _=>?_,λ_ _ _ _ _=>?_,λ_ _ _ _ _=>?_⟩ λ_ _ _ _ _=>?_
  |refine YG ?_ ?_
  |refine Vk rfl T.kAI ?_ (zR rfl) rfl
  |refine UM rfl T.kAM ?_ (zR rfl) rfl
  |refine VP ?_ ?_
  |refine K5 T.kinds (by decide) rfl T.kAH rfl T.kAI (by rfl) (by decide) (by decide) ?_ (zR rfl) (zR rfl) (GK rfl)
  |refine K5 T.kinds (by decide) rfl T.kAH rfl T.kAJ (by rfl) (by decide) (by decide) ?_ (zR rfl) (zR rfl) (GK rfl)
  |refine jG ?_
  |refine XE rfl rfl T.kAK rfl T.kAO ?_ (zR rfl) rfl (zR rfl) rfl
  |refine eO (Ew (by decide)) (Ee sc rfl rfl rfl (by decide+kernel) (by decide+kernel)) rfl ?_ ⟨λ_ _ _ _ _=>?_,λ_ _ _ _ _=>?_,λ_ _ _ _ _=>?_⟩
  |refine VD rfl rfl T.kAP ?_ (zR rfl) rfl
  |refine gD ?_ ?_
  |refine cA ?_ ?_
  |refine gM ?_ ?_
  |refine TL rfl rfl T.kAQ ?_ (zR rfl) (GK rfl)
  |refine i7 rfl rfl T.kAT ?_ (zR rfl) (GK rfl)
  |refine SM (Eg λ_ _ _ _=>B3) (Eg λ_ _ _ _=>B3) Xb La ?_ ?_ ?_
  |refine TJ rfl T.kAR ?_ (zR rfl) rfl
  |refine SK (Eb hr) ?_ ?_
  |refine VV rfl rfl T.kAQ ?_ (zR rfl) rfl
  |refine TX (RK (K:=K)) ?_ ?_
  |refine TV ?_ ?_
  |refine Rw ?_ ?_
  |refine Wi sc.nd rfl (by first|exact Or.inl rfl|exact Or.inr rfl) (by first|exact .inl rfl|exact .inr rfl) rfl (Eb hr) (Ew (by decide)) (Ee sc rfl rfl rfl (by decide+kernel) (by decide+kernel)) rfl ?_ ⟨λ_ _ _ _ _=>?_,λ_ _ _ _ _=>?_,λ_ _ _ _ _=>?_⟩ λ_ _ _ _ _=>?_
  |refine XX ?_
  |refine aN ?_ ?_
  |refine R0 rfl T.kAN ?_ (X4 rfl rfl) (Lb rfl)
  |refine UE ?_ ?_
  |refine JI (Ew (by decide)) (Zw sc rfl rfl rfl (by rfl) (by decide+kernel)) rfl ?_ ⟨λ_ _ _ _ _=>?_,λ_ _ _ _ _=>?_,λ_ _ _ _ _=>?_⟩
  |refine eM ?_
  |refine JI (Rq (K:=K) (by decide) (by decide) (by decide)) (Ee sc rfl rfl rfl (by decide+kernel) (by decide+kernel)) rfl ?_ ⟨λ_ _ _ _ _=>?_,λ_ _ _ _ _=>?_,λ_ _ _ _ _=>?_⟩
  |refine Qh (Eb hr) (ZA (K:=K) (by decide) (by decide) (by decide)) (Ee sc rfl rfl rfl (by decide+kernel) (by decide+kernel)) rfl ?_ ⟨λ_ _ _ _ _=>?_,λ_ _ _ _ _=>?_,λ_ _ _ _ _=>?_⟩ λ_ _ _ _ _=>?_
  |refine TN rfl T.kAU ?_ (zR rfl) rfl
  |refine d9 rfl T.kAP ?_ (zR rfl) rfl
  |refine Sb rfl rfl T.kAU rfl T.kAO ?_ (zR rfl) rfl (zR rfl) rfl
  |refine ZE 1 (gO 1 (by decide) hr) ?_ ?_
  |refine Qe (RK (K:=K)) PassesOwn.never rfl ?_ ?_ ?_
  |refine SH ?_
  |refine Zr sc.nd rfl ?_
  |refine QG (Zl ?_ ?_)
  |refine QG (Xo ?_ ?_)
  |refine Uz ?_)
noncomputable abbrev Ui:List Str:=["thing"]
def WQ:FnScope Ui ["thing"] (zO Kp):=by constructor<;>first|rfl|decide+kernel
def TY (T:Txt K mg):Od P w base 1 T.kA Gf:=by
  unfold Gf;have sc:=WQ;exact zu (n:=1) T.kA.F sc rfl (λcdv A outer s H E hr=>by
    unfold Ks;decreasing_trivial)
noncomputable abbrev YE:List Str:=["machine"]
def Su:FnScope YE ["machine"] (zO Kz):=by constructor<;>first|rfl|decide+kernel
def gS (T:Txt K mg):Od P w base 1 T.kE EZ:=by
  unfold EZ;have sc:=Su;exact zu (n:=1) T.kE.F sc rfl (λcdv A outer s H E hr=>by
    unfold MK;decreasing_trivial)
noncomputable abbrev Rx:List Str:=["machine", "rooms", "letter", "room"]
def Zz:FnScope Rx ["machine", "rooms", "letter"] (zO Lh):=by constructor<;>first|rfl|decide+kernel
def U8 (T:Txt K mg):Od P w base 1 T.kF DM:=by
  unfold DM;have sc:=Zz;exact Iq (zu (n:=3) T.kF.F sc rfl (λcdv A outer s H E hr=>by
    unfold MQ;decreasing_trivial))
noncomputable abbrev aZ:List Str:=["rooms", "one", "other"]
def k7:FnScope aZ ["rooms"] (zO KP):=by constructor<;>first|rfl|decide+kernel
def eZ (T:Txt K mg):Od P w base 1 T.kG Dz:=by
  unfold Dz;have sc:=k7;exact zu (n:=1) T.kG.F sc rfl (λcdv A outer s H E hr=>by
    unfold Lj;decreasing_trivial)
noncomputable abbrev iN:List Str:=["_law_script", "_law_seed", "_law_cell"]
def WG:FnScope iN ["_law_script"] (zO Mh):=by constructor<;>first|rfl|decide+kernel
def VC (T:Txt K mg):Od P w base 1 T.kY Gq:=by
  unfold Gq;have sc:=WG;exact zu (n:=1) T.kY.F sc rfl (λcdv A outer s H E hr=>by
    unfold K4;decreasing_trivial)
noncomputable abbrev Vh:List Str:=["_law_state", "_law_many", "_law_digit"]
def jY:FnScope Vh ["_law_state", "_law_many"] (zO Lr):=by constructor<;>first|rfl|decide+kernel
def US (T:Txt K mg):Od P w base 1 T.kZ ze:=by
  unfold ze;have sc:=jY;exact zu (n:=2) T.kZ.F sc rfl (λcdv A outer s H E hr=>by
    unfold Li;decreasing_trivial)
noncomputable abbrev TU:List Str:=["_law_rooms", "_law_found", "_law_k", "_law_other"]
def cV:FnScope TU ["_law_rooms"] (zO MG):=by constructor<;>first|rfl|decide+kernel
def bY (T:Txt K mg):Od P w base 1 T.kAD GV:=by
  unfold GV;have sc:=cV;exact zu (n:=1) T.kAD.F sc rfl (λcdv A outer s H E hr=>by
    unfold J0;decreasing_trivial)
noncomputable abbrev Ti:List Str:=["_law_machine_here", "_law_pair", "_law_letter", "_law_one", "_law_other"]
def Wq:FnScope Ti ["_law_machine_here", "_law_pair", "_law_letter"] (zO LB):=by constructor<;>first|rfl|decide+kernel
def T4 (T:Txt K mg):Od P w base 1 T.kAE Ho:=by
  unfold Ho;have sc:=Wq;exact Iq (zu (n:=3) T.kAE.F sc rfl (λcdv A outer s H E hr=>by
    unfold LF;decreasing_trivial))
noncomputable abbrev R5:List Str:=["thing", "many"]
def Wd:FnScope R5 ["thing", "many"] (zO LS):=by constructor<;>first|rfl|decide+kernel
def S9 (T:Txt K mg):Od P w base 2 T.kB Gi:=by
  unfold Gi;have sc:=Wd;exact zu (n:=2) T.kB.F sc rfl (λcdv A outer s H E hr=>by
    unfold Jw;decreasing_trivial)
noncomputable abbrev k0:List Str:=["machine", "sources", "pair", "letter", "goal"]
def Xr:FnScope k0 ["machine"] (zO LG):=by constructor<;>first|rfl|decide+kernel
def ZR (T:Txt K mg):Od P w base 2 T.kJ IB:=by
  unfold IB;have sc:=Xr;exact zu (n:=1) T.kJ.F sc rfl (λcdv A outer s H E hr=>by
    unfold Lq;decreasing_trivial)
noncomputable abbrev bK:List Str:=["machine", "pair", "found", "goals", "letter", "goal"]
def UY:FnScope bK ["machine", "pair", "found"] (zO J7):=by constructor<;>first|rfl|decide+kernel
def WK (T:Txt K mg):Od P w base 2 T.kM Er:=by
  unfold Er;have sc:=UY;exact zu (n:=3) T.kM.F sc rfl (λcdv A outer s H E hr=>by
    unfold Kq;decreasing_trivial)
noncomputable abbrev j8:List Str:=["machine", "triple", "counts", "pair", "many", "letter", "goal"]
def UX:FnScope j8 ["machine", "triple", "counts"] (zO MP):=by constructor<;>first|rfl|decide+kernel
def d8 (T:Txt K mg):Od P w base 2 T.kU GU:=by
  unfold GU;have sc:=UX;exact zu (n:=3) T.kU.F sc rfl (λcdv A outer s H E hr=>by
    unfold Kf;decreasing_trivial)
noncomputable abbrev Ux:List Str:=["_law_state", "_law_many", "_law_order_here", "_law_k"]
def S5:FnScope Ux ["_law_state", "_law_many"] (zO Mg):=by constructor<;>first|rfl|decide+kernel
def Zb (T:Txt K mg):Od P w base 2 T.kAA II:=by
  unfold II;have sc:=S5;exact zu (n:=2) T.kAA.F sc rfl (λcdv A outer s H E hr=>by
    unfold Lu;decreasing_trivial)
noncomputable abbrev Tt:List Str:=["_law_machine_here", "_law_rungs", "_law_pair", "_law_many", "_law_k"]
def jN:FnScope Tt ["_law_machine_here", "_law_rungs", "_law_pair"] (zO Ko):=by constructor<;>first|rfl|decide+kernel
def d7 (T:Txt K mg):Od P w base 2 T.kAF Gy:=by
  unfold Gy;have sc:=jN;exact JL (zu (n:=3) T.kAF.F sc rfl (λcdv A outer s H E hr=>by
    unfold LL;decreasing_trivial))
noncomputable abbrev Tu:List Str:=["thing", "many", "part"]
def Xu:FnScope Tu ["thing", "many"] (zO KW):=by constructor<;>first|rfl|decide+kernel
def fO (T:Txt K mg):Od P w base 3 T.kC HF:=by
  unfold HF;have sc:=Xu;exact zu (n:=2) T.kC.F sc rfl (λcdv A outer s H E hr=>by
    unfold Kc;decreasing_trivial)
noncomputable abbrev Wg:List Str:=["machine", "goals", "sources", "level", "found", "goal", "behind", "pair"]
def Rt:FnScope Wg ["machine", "goals"] (zO LI):=by constructor<;>first|rfl|decide+kernel
def X3 (T:Txt K mg):Od P w base 3 T.kK Hh:=by
  unfold Hh;have sc:=Rt;exact zu (n:=2) T.kK.F sc rfl (λcdv A outer s H E hr=>by
    unfold Kr;decreasing_trivial)
noncomputable abbrev Sw:List Str:=["machine", "found", "pairs", "pair"]
def iM:FnScope Sw ["machine", "found"] (zO Kx):=by constructor<;>first|rfl|decide+kernel
def jO (T:Txt K mg):Od P w base 3 T.kN Gb:=by
  unfold Gb;have sc:=iM;exact zu (n:=2) T.kN.F sc rfl (λcdv A outer s H E hr=>by
    unfold K1;decreasing_trivial)
noncomputable abbrev Ut:List Str:=["_law_state", "_law_family", "_law_rooms", "_law_letter", "_law_room", "_law_half", "_law_ahead", "_law_far", "_law_order_here", "_law_goal"]
def VH:FnScope Ut ["_law_state", "_law_family", "_law_rooms", "_law_letter"] (zO J4):=by constructor<;>first|rfl|decide+kernel
def YW (T:Txt K mg):Od P w base 3 T.kAB HM:=by
  unfold HM;have sc:=VH;exact zu (n:=4) T.kAB.F sc rfl (λcdv A outer s H E hr=>by
    unfold LU;decreasing_trivial)
noncomputable abbrev U4:List Str:=["machine", "thing", "one", "other"]
def TQ:FnScope U4 ["machine", "thing"] (zO Lx):=by constructor<;>first|rfl|decide+kernel
def bR (T:Txt K mg):Od P w base 4 T.kD F8:=by
  unfold F8;have sc:=TQ;exact zu (n:=2) T.kD.F sc rfl (λcdv A outer s H E hr=>by
    unfold IJ;decreasing_trivial)
noncomputable abbrev UJ:List Str:=["machine", "room"]
def VB:FnScope UJ ["machine"] (zO KC):=by constructor<;>first|rfl|decide+kernel
def iR (T:Txt K mg):Od P w base 4 T.kL GH:=by
  unfold GH;have sc:=VB;exact zu (n:=1) T.kL.F sc rfl (λcdv A outer s H E hr=>by
    unfold Mm;decreasing_trivial)
noncomputable abbrev WJ:List Str:=["_law_state", "_law_rooms", "_law_letters", "_law_family", "_law_columns", "_law_letter", "_law_column_here", "_law_room"]
def jD:FnScope WJ ["_law_state", "_law_rooms", "_law_letters"] (zO LX):=by constructor<;>first|rfl|decide+kernel
def jS (T:Txt K mg):Od P w base 4 T.kAC GX:=by
  unfold GX;have sc:=jD;exact JL (zu (n:=3) T.kAC.F sc rfl (λcdv A outer s H E hr=>by
    unfold KQ;decreasing_trivial))
noncomputable abbrev TK:List Str:=["machine"]
def T9:FnScope TK ["machine"] (zO J9):=by constructor<;>first|rfl|decide+kernel
def cN (T:Txt K mg):Od P w base 5 T.kO Hn:=by
  unfold Hn;have sc:=T9;exact zu (n:=1) T.kO.F sc rfl (λcdv A outer s H E hr=>by
    unfold MU;decreasing_trivial)
noncomputable abbrev S3:List Str:=["machine", "found", "pair"]
def fS:FnScope S3 ["machine"] (zO Lc):=by constructor<;>first|rfl|decide+kernel
def XB (T:Txt K mg):Od P w base 5 T.kQ HQ:=by
  unfold HQ;have sc:=fS;exact Iq (zu (n:=1) T.kQ.F sc rfl (λcdv A outer s H E hr=>by
    unfold Ma;decreasing_trivial))
noncomputable abbrev XJ:List Str:=["machine", "thing"]
def cM:FnScope XJ ["machine", "thing"] (zO Ld):=by constructor<;>first|rfl|decide+kernel
def XY (T:Txt K mg):Od P w base 5 T.kR Fi:=by
  unfold Fi;have sc:=cM;exact zu (n:=2) T.kR.F sc rfl (λcdv A outer s H E hr=>by
    unfold LY;decreasing_trivial)
noncomputable abbrev WV:List Str:=["machine", "pair", "many", "letter"]
def SD:FnScope WV ["machine"] (zO Mc):=by constructor<;>first|rfl|decide+kernel
def Si (T:Txt K mg):Od P w base 6 T.kP Hw:=by
  unfold Hw;have sc:=SD;exact Iq (zu (n:=1) T.kP.F sc rfl (λcdv A outer s H E hr=>by
    unfold KU;decreasing_trivial))
noncomputable abbrev VE:List Str:=["machine", "thing"]
def i8:FnScope VE ["machine", "thing"] (zO LD):=by constructor<;>first|rfl|decide+kernel
def UT (T:Txt K mg):Od P w base 6 T.kS G4:=by
  unfold G4;have sc:=i8;exact zu (n:=2) T.kS.F sc rfl (λcdv A outer s H E hr=>by
    unfold MD;decreasing_trivial)
noncomputable abbrev VO:List Str:=["machine", "told", "pair", "there", "letter"]
def f9:FnScope VO ["machine", "told"] (zO KZ):=by constructor<;>first|rfl|decide+kernel
def Tq (T:Txt K mg):Od P w base 6 T.kX Hd:=by
  unfold Hd;have sc:=f9;exact JL (zu (n:=2) T.kX.F sc rfl (λcdv A outer s H E hr=>by
    unfold LC;decreasing_trivial))
noncomputable abbrev Tj:List Str:=["machine", "told", "triple", "counts", "pair", "many", "letter"]
def iK:FnScope Tj ["machine", "told"] (zO J3):=by constructor<;>first|rfl|decide+kernel
def cD (T:Txt K mg):Od P w base 7 T.kW Hi:=by
  unfold Hi;have sc:=iK;exact JL (zu (n:=2) T.kW.F sc rfl (λcdv A outer s H E hr=>by
    unfold L9;decreasing_trivial))
noncomputable abbrev Vc:List Str:=["_law_script", "_law_state", "_law_rooms", "_law_machine_here", "_law_told", "_law_others", "_law_every", "_law_one", "_law_rungs", "_law_pair", "_law_many", "_law_letter"]
def Ub:FnScope Vc ["_law_script"] (zO MC):=by constructor<;>first|rfl|decide+kernel
def iE (T:Txt K mg):Od P w base 8 T.kAG E6:=by
  unfold E6;have sc:=Ub;exact zu (n:=1) T.kAG.F sc rfl (λcdv A outer s H E hr=>by
    unfold Kn;decreasing_trivial)
end
def XF {l:PySem.W.OpenLaw} {w:World} {K:PySem.W.Frag} {h:Heap} {mg:Str->Option Value} {fa:Addr} (X:K.In h) (G:h.Ns mainGlobals mg) (hfa:mg "law" = some (.ref fa))
    (g1:Dg K "is_whole" Kp) (g2:Dg K "is_below" LS) (g3:Dg K "is_tuple_below" KW) (g4:Dg K "is_set" Lx) (g5:Dg K "all_rooms" Kz) (g6:Dg K "stepped" Lh) (g7:Dg K "pairs_of" KP) (g8:Dg K "ways_back" LG) (g9:Dg K "lengths_to" LI) (g10:Dg K "lengths" KC) (g11:Dg K "first_letter" J7) (g12:Dg K "rungs_to" Kx) (g13:Dg K "rungs" J9) (g14:Dg K "ladder" Mc) (g15:Dg K "apart" Lc) (g16:Dg K "is_pair" Ld) (g17:Dg K "is_triple" LD) (g18:Dg K "goes_down" MP) (g19:Dg K "shows_ladder" J3) (g20:Dg K "shows_apart" KZ) (g21:Dg K "_law_begin" Mh) (g22:Dg K "_law_next" Lr) (g23:Dg K "_law_order" Mg) (g24:Dg K "_law_column" J4) (g25:Dg K "_law_machine" LX) (g26:Dg K "_law_pairs" MG) (g27:Dg K "_law_behind" LB) (g28:Dg K "_law_comes" Ko) (g29:Dg K "law" MC) (z1:Zn K "isinstance") (z2:Zn K "int") (z3:Zn K "bool") (z4:Zn K "tuple") (z5:Zn K "all") (z6:Zn K "len") (z7:Zn K "zip") (z8:Zn K "range") (z9:Zn K "sorted") (z10:Zn K "min") (z11:Zn K "enumerate") (z12:Zn K "abs") (z13:Zn K "max") (z14:Zn K "list") (y1:Ki K "NoneType" "int" false) (y2:Ki K "NoneType" "bool" false) (y3:Ki K "NoneType" "str" false) (y4:Ki K "NoneType" "tuple" false) (y5:Ki K "bool" "int" true) (y6:Ki K "bool" "bool" true) (y7:Ki K "bool" "str" false) (y8:Ki K "bool" "tuple" false) (y9:Ki K "int" "int" true) (y10:Ki K "int" "bool" false) (y11:Ki K "int" "str" false) (y12:Ki K "int" "tuple" false) (y13:Ki K "str" "int" false) (y14:Ki K "str" "bool" false) (y15:Ki K "str" "str" true) (y16:Ki K "str" "tuple" false) (y17:Ki K "list" "int" false) (y18:Ki K "list" "bool" false) (y19:Ki K "list" "str" false) (y20:Ki K "list" "tuple" false) (y21:Ki K "tuple" "int" false) (y22:Ki K "tuple" "bool" false) (y23:Ki K "tuple" "str" false) (y24:Ki K "tuple" "tuple" true) (y25:Ki K "dict" "int" false) (y26:Ki K "dict" "bool" false) (y27:Ki K "dict" "str" false) (y28:Ki K "dict" "tuple" false) :
    ∃ fd:FuncData,(∀ (s:Shared) (v:Value),BindsTo s fd ⟨[v],[]⟩ [("_law_script", v)]) /\ ∀ base:Heap,K.In base->base.Ns mainGlobals mg->FnOk l.prog w K mg base CX0 8 fa fd ["_law_script"] (spF K 1 E6):=by
  have e:=hfa.symm.trans (PySem.W.mg_of X G g29.a);cases e;have kinds:Kinds K:=⟨by
    intro t T ht hT;simp only[AI,BU,Be]at ht hT;rcases ht with rfl|rfl|rfl|rfl|rfl|rfl|rfl <;> rcases hT with rfl|rfl|rfl|rfl <;> assumption⟩
  let T:Txt K mg:=⟨g1.df X G λ_ _ _ _ _ _=>DP λ_=>rfl,g2.df X G λ_ _ _ _ _ _=>Dh λ_ _=>rfl,g3.df X G λ_ _ _ _ _ _=>Dh λ_ _=>rfl,g4.df X G λ_ _ _ _ _ _=>Dh λ_ _=>rfl,g5.df X G λ_ _ _ _ _ _=>DP λ_=>rfl,g6.df X G λ_ _ _ _ _ _=>GL λ_ _ _=>rfl,g7.df X G λ_ _ _ _ _ _=>DP λ_=>rfl,g8.df X G λ_ _ _ _ _ _=>DP λ_=>rfl,g9.df X G λ_ _ _ _ _ _=>Dh λ_ _=>rfl,g10.df X G λ_ _ _ _ _ _=>DP λ_=>rfl,g11.df X G λ_ _ _ _ _ _=>GL λ_ _ _=>rfl,g12.df X G λ_ _ _ _ _ _=>Dh λ_ _=>rfl,g13.df X G λ_ _ _ _ _ _=>DP λ_=>rfl,g14.df X G λ_ _ _ _ _ _=>DP λ_=>rfl,g15.df X G λ_ _ _ _ _ _=>DP λ_=>rfl,g16.df X G λ_ _ _ _ _ _=>Dh λ_ _=>rfl,g17.df X G λ_ _ _ _ _ _=>Dh λ_ _=>rfl,g18.df X G λ_ _ _ _ _ _=>GL λ_ _ _=>rfl,g19.df X G λ_ _ _ _ _ _=>Dh λ_ _=>rfl,g20.df X G λ_ _ _ _ _ _=>Dh λ_ _=>rfl,g21.df X G λ_ _ _ _ _ _=>DP λ_=>rfl,g22.df X G λ_ _ _ _ _ _=>Dh λ_ _=>rfl,g23.df X G λ_ _ _ _ _ _=>Dh λ_ _=>rfl,g24.df X G λ_ _ _ _ _ _=>bQ λ_ _ _ _=>rfl,g25.df X G λ_ _ _ _ _ _=>GL λ_ _ _=>rfl,g26.df X G λ_ _ _ _ _ _=>DP λ_=>rfl,g27.df X G λ_ _ _ _ _ _=>GL λ_ _ _=>rfl,g28.df X G λ_ _ _ _ _ _=>GL λ_ _ _=>rfl,g29.df X G λ_ _ _ _ _ _=>DP λ_=>rfl,Co X G z1,Co X G z2,Co X G z3,Co X G z4,Co X G z5,Co X G z6,Co X G z7,Co X G z8,Co X G z9,Co X G z10,Co X G z11,Co X G z12,Co X G z13,Co X G z14,kinds⟩;refine ⟨T.kAG.fd,λs v=> .of_eq rfl,λbase _ _=>?_⟩;exact iE (P:=l.prog) (w:=w) (base:=base) T
def bN {l:PySem.W.OpenLaw} {q:Ym} {loose:Yk} {XP:(Str->Option Value)->Heap->Prop} {YP:World->Heap->Prop} {d:DefRec} {K:Params->PySem.W.Frag} (hn:l.most=some 63) (hdf:d.params.defaults=[])
    (hY:∀ (w:Yo) (h:Heap),YP w h->(K w.params).In h) (hL:∀ w:World,Iy (K w.params)=true)
    (F:∀ (w:Yo) (mg:Yh) (fa:Yt) (h:Heap),(K w.params).In h->h.Ns mainGlobals mg->mg d.name=some (.ref fa) ->
      ∃ fd:FuncData,(∀ (s:Shared) (u:Value),BindsTo s fd ⟨[u],[]⟩ [("_law_script", u)]) /\ ∀ base:Heap,(K w.params).In base->base.Ns mainGlobals mg->FnOk l.prog w (K w.params) mg base CX0 8 fa fd ["_law_script"] (spF (K w.params) 1 E6)) :
    PySem.W.WalkO q loose XP YP l.row.toRowW d [] (λf vs=>PySem.call f vs) :=
  L2.YJ (n:=63) (k:=8) (x := "_law_script") (CX:=λ_=>CX0) (sp:=λw=>spF (K w.params) 1 E6) hn (by decide) hdf ⟨rfl,by decide,by decide⟩ hY F
    (λw H a ns hl hO hS=>fN (hL w) hO hS (bP ns hl)) λ_ _ _ _ _ z=>z
end Lac
end
open PySem PySem.W PyProof.Rows
set_option maxRecDepth 100000 in
set_option maxHeartbeats 0 in
theorem PySem.Challenge.cw_bringhome_k31_whole_together_or_apart_holds : PySem.Challenge.rw_bringhome_k31_whole_together_or_apart.Holds := by
  w_on;o_law;k_head;(case hw=>w_witness2);k_fill;refine Lac.bN (l:=PySem.Challenge.rw_bringhome_k31_whole_together_or_apart) rfl rfl (λw h YY=>PySem.W.kIn_of YY) (λw=>by rfl) ?F
  case F=>
    intro w mg fa h KX G hmg;apply Lac.XF KX G hmg;all_goals first|exact ⟨_,by k_is,by k_is,by k_is,by k_is⟩|(unfold L3.Zn;k_is)|(unfold L3.Ki;kit_is)|k_is
