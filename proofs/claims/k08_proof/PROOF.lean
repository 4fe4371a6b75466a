import PyProof.Rows.All
import Wide.All
import OpenK.AllK
import Wide.FinOn
import Lean
import PyProof.EqAt
import PyProof.EqKinds
import PyProof.TupleCall
import PyProof.NeKinds
import PyProof.ZipIter
import PyProof.ListRange
import PyProof.TupleOfSeq
import PyProof.ConsumeWalk
import PyProof.IsRules
import PyProof.SetKind
import PyProof.SetRoads
import PyProof.Rows.SetFrom
import PyProof.Draws
import PyProof.EnumMake
import PyProof.DictCompW
import PyProof.ListMulRoad
import PyProof.Rows.SeqMore2
import PyProof.WalkInts
import PyProof.DictRoadsH
import PyProof.DictItems
import KE.KDictList
import KE.KDictOf
import PyProof.AttrMissHeap
import PyProof.StrLawsChain
import PyProof.FitsReplace
import PyProof.StrLawsIn
import PySem.Challenge.RW_bringhome_k08_machines_refused
namespace PySem.W.Fast
def tw3012614416324051768:=0
def tw6661075270058801958:=0
def tw11129726466753165597:=0
def tw6645786348170014444:=0
def tw7050057175300031703:=0
def tw5890649534706673376:=0
def tw11070794943562277458:=0
def tw2837230407444050902:=0
def tw9748001040749766579:=0
def tw14776342709185400906:=0
def tw15888616776207803732:=0
def tw18436831687508276997:=0
def tw5200010733635770997:=0
def tw5468737212170242824:=0
def tw1946831578034861522:=0
def tw16876952418398281095:=0
def tw132004627504856295:=0
def tw18348144205828558130:=0
def tw8085042775221324001:=0
def tw7978360927984553176:=0
def tw7481544170234480718:=0
def tw5523765359259838454:=0
def tw12984397209755871179:=0
def tw8351622099302097621:=0
def tw14732072978758081359:=0
def tw5303489866136522480:=0
def tw13436517035282895266:=0
def tw12290011769599841565:=0
def tw9086475996839060686:=0
def tw8902664469559648166:=0
def tw5204467451684046720:=0
def tw5603811639773766059:=0
def tw6879952735307039551:=0
def tw13406471442796946212:=0
def tw18026502529075601259:=0
def tw17637831098885210122:=0
def tw15743329677850789089:=0
def tw11027167254662016447:=0
def tw18317254216397362038:=0
def tw12856171715000830949:=0
def tw15928034452524005601:=0
def tw16162245193513550216:=0
def tw16225778213414000906:=0
def tw879222436659621728:=0
def tw7918496715758151977:=0
def tw9308872138873564390:=0
def tw9752421889270526325:=0
def tw1876291538646440923:=0
def tw17107072874743456972:=0
def tw6294466446966877267:=0
def tw14571167298526072635:=0
def tw162285466759707096:=0
def tw14810450363289793468:=0
def tw14271112477502317879:=0
def tw5395235452390601916:=0
def tw2121387799021029674:=0
def tw4238709933042528488:=0
def tw2095018787549777482:=0
def tw8527158808535617709:=0
def tw2039817558011874496:=0
def tw13436253818789265700:=0
def tw12517500632526430920:=0
def tw958329809431304543:=0
def tw12864491092704618424:=0
def tw7240878012719283990:=0
def tw10202109543682717072:=0
def tw12743887821025231741:=0
def tw9176752800706802926:=0
def tw16774506135061495144:=0
def tw13128344659535440510:=0
def tw5359770272482998764:=0
def tw2277311579711793734:=0
def tw1644782161497454116:=0
def tw6474242578741219429:=0
def tw10918817975596899080:=0
def tw11243589128644984811:=0
def tw7045864001439527877:=0
def tw2966619022452922420:=0
def tw12415308114321867812:=0
def tw8292877406771359500:=0
def tw10014782730295342733:=0
def tw204722034073326603:=0
def tw7806832710736468563:=0
def tw9627208398478482325:=0
def tw9936780900685678458:=0
def tw9430472533342555648:=0
def tw2992700263426726191:=0
def tw8199353790771379423:=0
def tw16734852843983113471:=0
def tw11542003645607111099:=0
def tw3254224439897584924:=0
def tw14678286020713337889:=0
def tw3893309142535164765:=0
def tw16025657264602317599:=0
def tw6822526380253730591:=0
def tw3957170334127813491:=0
def tw10916902963860741329:=0
def tw742826186962694989:=0
def tw10025338271162886063:=0
def tw10204094720485926913:=0
def tw4449288464587739626:=0
def tw1661474872442975879:=0
def tw9449185465207713046:=0
def tw15847746070563033699:=0
def tw637386290291197997:=0
def tw2318504070481494655:=0
def tw6712182524199582008:=0
def tw3545487279161424261:=0
def tw10157857852269785198:=0
def tw12910677081108120964:=0
def tw2211513351077263540:=0
def tw8651804621654377451:=0
def tw10723052907494372071:=0
def tw12773779767697319364:=0
def tw7083668880385884461:=0
def tw16094880867138346431:=0
def tw4446677267488188366:=0
def tw7212854100036259047:=0
def tw14639400870424994681:=0
def tw1828549405420415909:=0
def tw16994873122461565883:=0
def tw15805290803267202561:=0
def tw7478012296220402571:=0
def tw5716456987038581112:=0
def tw17659838667081320169:=0
def tw9690316649018525028:=0
def tw8351522734993096588:=0
def tw4948134913175556674:=0
def tw17642702500315087278:=0
def tw18402798072424364549:=0
def tw17893685882384089904:=0
def tw2757783504340099152:=0
def tw15967065923923947898:=0
def tw12071196687633743099:=0
end PySem.W.Fast
section
open PySem PySem.Spec PyProof.Rows
theorem zTK:type_of% @wpAny_bind:=@wpAny_bind
theorem zTL:type_of% @Heap.get?_push_of_some:=@Heap.get?_push_of_some
theorem zTM:type_of% @wpAny_pure:=@wpAny_pure
theorem zTN:type_of% @List.getElem?_eq_some_iff:=@List.getElem?_eq_some_iff
theorem zTO:type_of% @List.getElem?_eq_getElem:=@List.getElem?_eq_getElem
theorem zTP:type_of% @List.getD_eq_getElem?_getD:=@List.getD_eq_getElem?_getD
theorem zTQ:type_of% @Nat.le_refl:=@Nat.le_refl
theorem zTR:type_of% @List.getElem?_append_left:=@List.getElem?_append_left
theorem zTS:type_of% @List.size_toArray:=@List.size_toArray
theorem zTT:type_of% @List.length_map:=@List.length_map
theorem zTU:type_of% @Heap.get?_push_size:=@Heap.get?_push_size
theorem zTV:type_of% @Heap.lt_size:=@Heap.lt_size
theorem zTW:type_of% @List.mem_cons:=@List.mem_cons
theorem zTX:type_of% @List.mem_cons_of_mem:=@List.mem_cons_of_mem
theorem zTY:type_of% @List.mem_cons_self:=@List.mem_cons_self
theorem zTZ:type_of% @if_pos:=@if_pos
theorem zTa:type_of% @List.length_append:=@List.length_append
theorem zTb:type_of% @List.mem_map:=@List.mem_map
theorem zTc:type_of% @if_neg:=@if_neg
theorem zTd:type_of% @List.map_cons:=@List.map_cons
theorem zTe:type_of% @List.mem_append_right:=@List.mem_append_right
theorem zTf:type_of% @Nat.ne_of_lt:=@Nat.ne_of_lt
theorem zTg:type_of% @Bool.false_ne_true:=@Bool.false_ne_true
theorem zTh:type_of% @List.getElem?_map:=@List.getElem?_map
theorem zTi:type_of% @List.map_map:=@List.map_map
theorem zTj:type_of% @Nat.lt_of_lt_of_le:=@Nat.lt_of_lt_of_le
theorem zTk:type_of% @List.mem_append:=@List.mem_append
theorem zTl:type_of% @Nat.le_trans:=@Nat.le_trans
theorem zTm:type_of% @List.mem_singleton:=@List.mem_singleton
theorem zTn:type_of% @wpAny_newObj_type:=@wpAny_newObj_type
theorem zTo:type_of% @List.getElem?_set_ne:=@List.getElem?_set_ne
theorem zTp:type_of% @List.not_mem_nil:=@List.not_mem_nil
theorem zTq:type_of% @wpAny_mono:=@wpAny_mono
theorem zTt:type_of% @decide_eq_false:=@decide_eq_false
theorem zTu:type_of% @Bool.and_eq_true:=@Bool.and_eq_true
theorem zTv:type_of% @List.all_eq_true:=@List.all_eq_true
theorem zTw:type_of% @wpAny_callSpecial?_slot:=@wpAny_callSpecial?_slot
theorem zTx:type_of% @wpAny_call_entry:=@wpAny_call_entry
theorem zTy:type_of% @List.mem_range:=@List.mem_range
theorem zTz:type_of% @wpAny_field:=@wpAny_field
theorem zT0:type_of% @Heap.size_push:=@Heap.size_push
theorem zT7:type_of% @Nat.lt_irrefl:=@Nat.lt_irrefl
theorem zT8:type_of% @Array.length_toList:=@Array.length_toList
theorem zT9:type_of% @List.append_nil:=@List.append_nil
theorem zUC:type_of% @Heap.get?_update_self:=@Heap.get?_update_self
theorem zUG:type_of% @List.mem_of_getElem?:=@List.mem_of_getElem?
theorem zUH:type_of% @List.map_append:=@List.map_append
theorem zUI:type_of% @wpAny_holding:=@wpAny_holding
theorem zUJ:type_of% @List.getElem?_set_self:=@List.getElem?_set_self
theorem zUO:type_of% @PySem.W.mg_none_of:=@PySem.W.mg_none_of
theorem zUP:type_of% @Option.some.inj:=@Option.some.inj
theorem zUR:type_of% @PySem.mem_of_lookup:=@PySem.mem_of_lookup
theorem zUV:type_of% @List.append_assoc:=@List.append_assoc
theorem zUX:type_of% @decide_eq_true:=@decide_eq_true
theorem zUZ:type_of% @List.getElem?_append_right:=@List.getElem?_append_right
theorem zUb:type_of% @wpAny_truthy_bool:=@wpAny_truthy_bool
theorem zUc:type_of% @decide_eq_true_eq:=@decide_eq_true_eq
theorem zUe:type_of% @List.mem_append_left:=@List.mem_append_left
theorem zUi:type_of% @List.replicate_succ:=@List.replicate_succ
theorem zUn:type_of% @List.length_take:=@List.length_take
theorem zUv:type_of% @List.take_of_length_le:=@List.take_of_length_le
theorem zUx:type_of% @PyProof.Rows.slot_tuple_getitem:=@PyProof.Rows.slot_tuple_getitem
theorem zUy:type_of% @List.getElem?_set:=@List.getElem?_set
theorem zU2:type_of% @PySem.W.kia_one:=@PySem.W.kia_one
theorem zU7:type_of% @Nat.le_succ:=@Nat.le_succ
theorem zVB:type_of% @List.find?_cons:=@List.find?_cons
theorem zVC:type_of% @congrArg:=@congrArg
theorem zVL:type_of% @beq_iff_eq:=@beq_iff_eq
theorem zVM:type_of% @List.length_range:=@List.length_range
theorem zVU:type_of% @List.lookup_cons:=@List.lookup_cons
theorem zVh:type_of% @List.nil_append:=@List.nil_append
theorem zVs:type_of% @List.length_drop:=@List.length_drop
theorem zV0:type_of% @List.forIn_cons:=@List.forIn_cons
theorem zV2:type_of% @Bool.eq_iff_iff:=@Bool.eq_iff_iff
theorem zV9:type_of% @Int.toNat_natCast:=@Int.toNat_natCast
theorem zW4:type_of% @decide_eq_decide:=@decide_eq_decide
theorem zXR:type_of% @List.drop_eq_getElem_cons:=@List.drop_eq_getElem_cons
end
set_option Elab.async false
set_option linter.all false
set_option maxRecDepth 100000
set_option genSizeOf false
set_option genInjectivity false
noncomputable section
namespace L2
open PySem PySem.Spec PyProof.Rows
abbrev Key:=Sum Int Str
def zFR:Key -> Value -> Bool
 | .inl k,v=>Value.isInt k v
 | .inr x,v=>Value.isStrOf x v
def zSy (w:World):Key -> Int
 | .inl k=>hashInt k
 | .inr x=>hashStr w x
theorem zAJ:∀ {k:Key} {v:Value},zFR k v = true -> (∃ i t,k = Sum.inl i /\ v = Value.int i t) \/ (∃ x t,k = Sum.inr x /\ v = Value.str x t)
 | .inl i,v,h=>by
  obtain ⟨t,e⟩:=Value.isInt_shape (k:=i) (v:=v) h;exact .inl ⟨i,t,rfl,e⟩
 | .inr x,v,h=>by
  obtain ⟨t,e⟩:=Value.isStrOf_shape (x:=x) (v:=v) h;exact .inr ⟨x,t,rfl,e⟩
theorem zL9 (i:Int) (t:Tok):zFR (.inl i) (.int i t) = true:=by simp [zFR,Value.isInt]
theorem zMD (x:Str) (t:Tok):zFR (.inr x) (.str x t) = true:=by simp [zFR,Value.isStrOf]
theorem zQt (a b:Int):decide ((Sum.inl a:Key) = Sum.inl b) = (a == b):=by
 by_cases e:a = b
 ·subst e; simp
 ·have h:¬ (Sum.inl a:Key) = Sum.inl b:=fun q=>e (Sum.inl.inj q);rw [zTt h];exact (beq_eq_false_iff_ne.mpr e).symm
theorem zRB (a b:Str):decide ((Sum.inr a:Key) = Sum.inr b) = decide (a = b):=by
 by_cases e:a = b
 ·subst e; simp
 ·have h:¬ (Sum.inr a:Key) = Sum.inr b:=fun q=>e (Sum.inr.inj q);rw [zTt h,zTt e]
theorem zRD (a:Int) (b:Str):decide ((Sum.inl a:Key) = Sum.inr b) = false:=zTt (fun q=>nomatch q)
theorem zQL (a:Str) (b:Int):decide ((Sum.inr a:Key) = Sum.inl b) = false:=zTt (fun q=>nomatch q)
def zAW (prog:Program) (w:World):PySem.KeyKind prog w Key where
 is:=zFR
 hash:=zSy w
 inj:=fun v a b ha hb=>by
  rcases zAJ ha with ⟨i,t,rfl,rfl⟩ | ⟨x,t,rfl,rfl⟩
  ·rcases zAJ hb with ⟨j,u,rfl,e⟩ | ⟨y,u,rfl,e⟩
   ·injection e with e1 _; rw [e1]
   ·exact nomatch e
  ·rcases zAJ hb with ⟨j,u,rfl,e⟩ | ⟨y,u,rfl,e⟩
   ·exact nomatch e
   ·injection e with e1 _; rw [e1]
 byValue:=fun k v h=>by
  rcases zAJ h with ⟨i,t,rfl,rfl⟩ | ⟨x,t,rfl,rfl⟩ <;> rfl
 pyHash:=fun hv h=>by
  rcases zAJ hv with ⟨i,t,rfl,rfl⟩ | ⟨x,t,rfl,rfl⟩
  ·exact wpAny_pyHash_int h
  ·exact wpAny_pyHash_str h
 eqBool:=fun hu hv h=>by
  rcases zAJ hu with ⟨i,t,rfl,rfl⟩ | ⟨x,t,rfl,rfl⟩
  ·rcases zAJ hv with ⟨j,u,rfl,rfl⟩ | ⟨y,u,rfl,rfl⟩
   ·rw [zQt] at h; exact wpAny_eqBool_int h
   ·rw [zRD] at h; exact SeqAt.EqAt.int_str i t y u _ _ _ _ h
  ·rcases zAJ hv with ⟨j,u,rfl,rfl⟩ | ⟨y,u,rfl,rfl⟩
   ·rw [zQL] at h; exact SeqAt.EqAt.str_int x t j u _ _ _ _ h
   ·rw [zRB] at h; exact wpAny_eqBool_str h
 «strs»:=fun k x t v h=>by
  rcases zAJ h with ⟨i,u,rfl,e⟩ | ⟨y,u,rfl,e⟩
  ·exact nomatch e
  ·injection e with e1 _
   subst e1
   cases v <;> rfl
theorem zIB (prog:Program) (w:World) (i:Int) (t:Tok):(zAW prog w).is (.inl i) (.int i t) = true:=zL9 i t
theorem zIJ (prog:Program) (w:World) (x:Str) (t:Tok):(zAW prog w).is (.inr x) (.str x t) = true:=zMD x t
set_option genInjectivity true in
inductive V where
 | non | bl (b:Bool) | int (i:Int) | str (x:Str) | byt (b:Array UInt8) | flt (b:UInt64) | ref (a:Addr) | ty (n:String)
 deriving DecidableEq
def zt:V -> Value -> Prop
 | .non,u=>u = Value.none
 | .bl b,u=>u = Value.bool b
 | .int i,u=>∃ t,u = Value.int i t
 | .str x,u=>∃ t,u = Value.str x t
 | .byt b,u=>∃ t,u = Value.bytes b t
 | .flt b,u=>∃ t,u = Value.float b t
 | .ref a,u=>u = Value.ref a
 | .ty n,u=>u = Value.type n
abbrev zg:List V -> List Value -> Prop:=Paired zt
theorem zg.length {xs:List V} {us:List Value} (r:zg xs us):xs.length = us.length:=Paired.length r
theorem zg.get:∀ {xs:List V} {us:List Value} {i:Nat} {x:V},zg xs us -> xs[i]? = some x -> ∃ u,us[i]? = some u /\ zt x u
 | _,_,_,_,.nil,e=>by simp at e
 | _,_,0,_,.cons r _,e=>by simp at e; subst e; exact ⟨_,rfl,r⟩
 | _,_,i + 1,x,.cons _ t,e=>by
  obtain ⟨u,h1,h2⟩:=zg.get (i:=i) (x:=x) t (by simpa using e);exact ⟨u,by simpa using h1,h2⟩
theorem zg.set {x:V} {u:Value} (r:zt x u):∀ {xs:List V} {us:List Value} (i:Nat),zg xs us -> zg (xs.set i x) (us.set i u)
 | _,_,_,.nil=> .nil
 | _,_,0,.cons _ t=> .cons r t
 | _,_,i + 1,.cons q t=> .cons q (zg.set r i t)
theorem zg.append:∀ {xs ys:List V} {us ws:List Value},zg xs us -> zg ys ws -> zg (xs ++ ys) (us ++ ws)
 | _,_,_,_,.nil,s=>s
 | _,_,_,_,.cons r t,s=> .cons r (zg.append t s)
theorem zg.take:∀ {xs:List V} {us:List Value} (n:Nat),zg xs us -> zg (xs.take n) (us.take n)
 | _,_,0,_=> .nil
 | _,_,_ + 1,.nil=> .nil
 | _,_,n + 1,.cons r t=> .cons r (zg.take n t)
theorem zg.drop:∀ {xs:List V} {us:List Value} (n:Nat),zg xs us -> zg (xs.drop n) (us.drop n)
 | _,_,0,r=>r
 | _,_,_ + 1,.nil=> .nil
 | _,_,n + 1,.cons _ t=>zg.drop n t
def zF8:Option V -> Option Value -> Prop
 | some v,some u=>zt v u
 | none,none=>True
 | _,_=>False
def KV {κ:Type}:List (κ × V) -> List (κ × Value) -> Prop:=Paired fun (p:κ × V) (q:κ × Value)=>p.1 = q.1 /\ zt p.2 q.2
def kV:Key -> V
 | .inl i=> .int i
 | .inr x=> .str x
set_option genInjectivity true in
inductive HO where
 | lst (xs:List V)
 | tup (xs:List V)
 | dK (kvs:List (Key × V)) | dT (kvs:List (List Key × V))
 | set (S:Int -> Bool) (n:Nat)
 | ins (C dx:Addr) (fs:List (Str × V))
 | own (x:Addr)
 | xd (fs:List (Str × V))
 | met (f x:Addr)
 | rng (lo hi:Int)
 | frz (o:Obj) (u:HO)
 | tbl (ps:Array Value)
 | ext (φ:Heap -> Prop)
abbrev Hp:=Addr -> Option HO
def upd (H:Hp) (a:Addr) (o:HO):Hp:=fun b=>if b = a then some o else H b
theorem zAX {H:Hp} {a:Addr} {o:HO}:upd H a o a = some o:=by unfold upd; rw [zTZ rfl]
theorem zZ {H:Hp} {a b:Addr} {o:HO} (h:b ≠ a):upd H a o b = H b:=by unfold upd; rw [zTc h]
theorem zGw {H:Hp} {a b:Addr} {o u:HO} (h:H a = some o) (h':H b = some u) (d:o ≠ u):a ≠ b:=by
 intro e; subst e; rw [h] at h'; exact d (zUP h')
theorem zAG {H:Hp} {a b:Addr} {o:HO} (h:H a = some o) (h':H b = none):a ≠ b:=by
 intro e; subst e; rw [h] at h'; cases h'
def zB3 (h:Heap) (a:Addr) (items:Array Value):Prop:=∃ o,h.get? a = some o /\ o.cls = .type "tuple" /\ (∃ n,o.data = .seq items n) /\ o.dict = none
theorem zB3.tup {h:Heap} {a:Addr} {items:Array Value} (x:zB3 h a items):IsTup h a items:=let ⟨o,e,c,d,_⟩:=x; ⟨o,e,c,d⟩
theorem zB3.lt {h:Heap} {a:Addr} {items:Array Value} (x:zB3 h a items):a < h.objs.size:=let ⟨_,e,_⟩:=x; zTV e
theorem zB3.new (h:Heap) (items:Array Value):zB3 (h.push { cls:=.type "tuple", data:=.seq items }) h.objs.size items:=⟨_,zTU _ rfl,rfl,⟨_,rfl⟩,rfl⟩
section
variable (P:Program) (w:World)
def zAE (H:Hp) (h:Heap) (a:Addr):HO -> Prop
 | .lst xs=>xs.length <= sizeLine /\ ∃ (its:List Value) (n:Nat),zg xs its /\ h.get? a = some { cls:=.type "list", data:=.seq its.toArray n }
 | .tup xs=>xs.length <= sizeLine /\ ∃ its:List Value,zg xs its /\ zB3 h a its.toArray
 | .dK kvs=>kvs.length <= sizeLine /\ (a == sysModules) = false /\ ∃ vs,KV kvs vs /\ h.DictOf (zAW P w) a vs
 | .dT kvs=>kvs.length <= sizeLine /\ (a == sysModules) = false /\ ∃ xs:List (List Key × Addr × Value),
   Paired (fun (p:List Key × V) (q:List Key × Addr × Value)=>p.1 = q.1 /\ H q.2.1 = some (.tup (p.1.map kV)) /\ zt p.2 q.2.2) kvs xs /\
   ∃ o es ep,h.get? a = some o /\ o.ExactDict /\ o.data = .dict es ep /\ es.toList = xs.map (entryOfKey (tupleKind (zAW P w))) /\ (xs.map (·.1)).Nodup
 | .set S n=>h.SetOf (intKind P w) a S n
 | .ins C dx fs=>H dx = some (.own a) /\ fs.length <= 1000 /\ dx ≠ a /\ h.get? a = some (PySem.W.instObj C dx) /\
   ∃ mA,h.Ns1 dx mA /\ (∀ f,zF8 (fs.lookup f) (mA f)) /\ PySem.Within mA (fs.map (·.1))
 | .own _=>∃ o,h.get? a = some o
 | .xd fs=>∃ mA,h.Ns1 a mA /\ ∀ f,zF8 (fs.lookup f) (mA f)
 | .rng lo hi=>∃ t u v,h.get? a = some { cls:=.type "range", data:=.fields #[.int lo t,.int hi u,.int 1 v] }
 | .frz o u=>h.get? a = some o /\ zAE H h a u
 | .tbl ps=>h.get? a = some { cls:=.none,data:=.fields ps }
 | .met f x=>h.get? a = some (PySem.W.methodObj (.ref f) (.ref x))
 | .ext φ=>φ h /\ (∃ o,h.get? a = some o) /\ ∀ h1 h2:Heap,φ h1 -> (∀ o,h1.get? a = some o -> h2.get? a = some o) -> φ h2
def HOk (H:Hp) (h:Heap):Prop:=∀ a o,H a = some o -> zAE P w H h a o
end
section
variable {P:Program} {w:World} {H H':Hp} {h h':Heap} {a:Addr} {o:HO}
theorem zAE.lt (x:zAE P w H h a o):a < h.objs.size:=by
 cases o with
 | lst xs=>obtain ⟨_,_,_,_,e⟩:=x; exact zTV e
 | tup xs=>obtain ⟨_,_,_,p⟩:=x; exact p.lt
 | dK kvs=>obtain ⟨_,_,_,_,o,_,_,e,_⟩:=x; exact zTV e
 | dT kvs=>obtain ⟨_,_,_,_,o,_,_,e,_⟩:=x; exact zTV e
 | set S n=>obtain ⟨o,_,_,_,e,_⟩:=x; exact zTV e
 | ins C dx fs=>obtain ⟨_,_,_,e,_⟩:=x; exact zTV e
 | own y=>obtain ⟨_,e⟩:=x; exact zTV e
 | xd fs=>obtain ⟨_,⟨_,_,_,e,_⟩,_⟩:=x; exact zTV e
 | rng lo hi=>obtain ⟨_,_,_,e⟩:=x; exact zTV e
 | frz ob u=>obtain ⟨e,_⟩:=x; exact zTV e
 | tbl ps=>exact zTV (show h.get? a = some _ from x)
 | met f y=>exact zTV (show h.get? a = some _ from x)
 | ext φ=>obtain ⟨_,⟨_,e⟩,_⟩:=x; exact zTV e
theorem Paired.mapP {α β:Type} {F G:α -> β -> Prop}:∀ {l₁:List α} {l₂:List β},Paired F l₁ l₂ -> (∀ a b,F a b -> G a b) -> Paired G l₁ l₂
 | _,_,.nil,_=> .nil
 | _,_,.cons r t,f=> .cons (f _ _ r) (Paired.mapP t f)
theorem zAE.stay (x:zAE P w H h a o) (k:∀ b u,(b = a \/ H b = some (.own a)) -> h.get? b = some u -> h'.get? b = some u)
  (ho:∀ b,H b = some (.own a) -> H' b = some (.own a)) (ht:∀ b xs,H b = some (.tup xs) -> H' b = some (.tup xs)):zAE P w H' h' a o:=by
 induction o with
 | lst xs=>obtain ⟨z,its,n,r,e⟩:=x; exact ⟨z,its,n,r,k _ _ (.inl rfl) e⟩
 | tup xs=>obtain ⟨z,its,r,ob,e,c⟩:=x; exact ⟨z,its,r,ob,k _ _ (.inl rfl) e,c⟩
 | dK kvs=>obtain ⟨z,y,vs,r,ob,es,ep,e,c⟩:=x; exact ⟨z,y,vs,r,ob,es,ep,k _ _ (.inl rfl) e,c⟩
 | dT kvs=>
  obtain ⟨z,y,xs,r,ob,es,ep,e,c⟩:=x;exact ⟨z,y,xs,Paired.mapP r fun p q z=>⟨z.1,ht _ _ z.2.1,z.2.2⟩,ob,es,ep,k _ _ (.inl rfl) e,c⟩
 | set S n=>obtain ⟨ob,es,ep,t,e,c⟩:=x; exact ⟨ob,es,ep,t,k _ _ (.inl rfl) e,c⟩
 | ins C dx fs=>
  obtain ⟨d,z,ne,e,mA,⟨od,es,ep,e2,c⟩,r⟩:=x;exact ⟨ho _ d,z,ne,k _ _ (.inl rfl) e,mA,⟨od,es,ep,k _ _ (.inr d) e2,c⟩,r⟩
 | own y=>obtain ⟨ob,e⟩:=x; exact ⟨ob,k _ _ (.inl rfl) e⟩
 | xd fs=>obtain ⟨mA,⟨od,es,ep,e,c⟩,r⟩:=x; exact ⟨mA,⟨od,es,ep,k _ _ (.inl rfl) e,c⟩,r⟩
 | rng lo hi=>obtain ⟨t,u,v,e⟩:=x; exact ⟨t,u,v,k _ _ (.inl rfl) e⟩
 | frz ob u ih=>obtain ⟨e,q⟩:=x; exact ⟨k _ _ (.inl rfl) e,ih q⟩
 | tbl ps=>
  have e:h.get? a = some { cls:=.none,data:=.fields ps }:=x;show h'.get? a = some { cls:=.none,data:=.fields ps };exact k a _ (.inl rfl) e
 | met f y=>
  have e:h.get? a = some (PySem.W.methodObj (.ref f) (.ref y)):=x;show h'.get? a = some (PySem.W.methodObj (.ref f) (.ref y));exact k a _ (.inl rfl) e
 | ext φ=>obtain ⟨p,⟨o,e⟩,st⟩:=x; exact ⟨st _ _ p fun o q=>k _ _ (.inl rfl) q,⟨o,k _ _ (.inl rfl) e⟩,st⟩
theorem HOk.lt (x:HOk P w H h) (e:H a = some o):a < h.objs.size:=(x a o e).lt
theorem HOk.fresh (x:HOk P w H h) (e:h.objs.size <= a):H a = none:=by
 cases q:H a with
 | none=>rfl
 | some u=>exact absurd (zTj (x.lt q) e) (zT7 _)
theorem HOk.kept (x:HOk P w H h) (k:∀ b u,h.get? b = some u -> h'.get? b = some u):HOk P w H h':=fun a o e=>
 (x a o e).stay (fun b u _ q=>k b u q) (fun _ q=>q) fun _ _ q=>q
theorem HOk.laid (x:HOk P w H h) (k:∀ b u,h.get? b = some u -> h'.get? b = some u) (hp:h.objs.size <= a) (new:zAE P w (upd H a o) h' a o):HOk P w (upd H a o) h':=fun b u e=>by
 have hn:=x.fresh hp;by_cases hb:b = a
 ·subst hb; rw [zAX] at e; cases e; exact new
 ·rw [zZ hb] at e;exact (x b u e).stay (fun c v _ q=>k c v q) (fun c q=>by rw [zZ (zAG q hn)]; exact q) fun c xs q=>by rw [zZ (zAG q hn)]; exact q
end
def Rd (H:Hp) (a:Addr) (u:HO):Prop:=H a = some u \/ ∃ o,H a = some (.frz o u)
theorem Rd.ok {P:Program} {w:World} {H:Hp} {h:Heap} {a:Addr} {u:HO} (r:Rd H a u) (x:HOk P w H h):zAE P w H h a u:=by
 rcases r with r | ⟨o,r⟩
 ·exact x a u r
 ·obtain ⟨_,q⟩:=x a _ r;exact q
def Mut:Option HO -> Prop
 | some (.lst _)=>True
 | some (.dK _)=>True
 | some (.dT _)=>True
 | some (.set _ _)=>True
 | some (.ins _ _ _)=>True
 | some (.ext _)=>True
 | _=>False
section
variable {P:Program} {w:World} {H:Hp} {h h':Heap} {x e:Addr} {o':HO}
theorem HOk.write (ok:HOk P w H h) (mu:Mut (H x)) (he:e = x \/ H e = some (.own x)) (k:∀ b u,b ≠ e -> h.get? b = some u -> h'.get? b = some u) (heo:∃ u,h'.get? e = some u)
  (new:zAE P w (upd H x o') h' x o'):HOk P w (upd H x o') h':=fun b u q=>by
 have nown:∀ c y,H c = some (.own y) -> c ≠ x:=fun c y r z=>by subst z; rw [r] at mu; exact mu
 have ntup:∀ c xs,H c = some (.tup xs) -> c ≠ x:=fun c xs r z=>by subst z; rw [r] at mu; exact mu
 by_cases hb:b = x
 ·subst hb; rw [zAX] at q; cases q; exact new
 ·rw [zZ hb] at q;by_cases hbe:b = e
  ·have q':H b = some (.own x):=by
    rcases he with z | z
    ·exact absurd (hbe.trans z) hb
    ·rw [hbe]; exact z
   rw [q] at q'; cases q';obtain ⟨v,hv⟩:=heo;exact ⟨v,by rw [hbe]; exact hv⟩
  ·refine (ok b u q).stay (fun c v hc r=>k c v ?_ r) (fun c r=>by rw [zZ (nown c b r)]; exact r) fun c xs r=>by rw [zZ (ntup c xs r)]; exact r
   rcases hc with rfl | hc
   ·exact hbe
   ·rintro rfl;rcases he with z | z
    ·exact nown c b hc z
    ·rw [hc] at z; cases z; exact hb rfl
end
structure Un (fs ex:List Addr) (H H':Hp) (h h':Heap):Prop where
 keep:∀ b o,h.get? b = some o -> H b = none -> b ∉ fs -> b ∉ ex -> h'.get? b = some o
 slot:∀ b o,h.get? b = some o -> H b = none -> b ∈ fs -> b ∉ ex -> ∃ sl,h'.get? b = some { o with slots:=sl }
 free:∀ b o,h.get? b = some o -> H b = none -> b ∉ ex -> H' b = none
 there:∀ b o,h.get? b = some o -> b ∉ ex -> ∃ o',h'.get? b = some o'
 tups:∀ b xs,H b = some (.tup xs) -> H' b = some (.tup xs)
 frzs:∀ b o u,H b = some (.frz o u) -> H' b = some (.frz o u)
 tbls:∀ b ps,H b = some (.tbl ps) -> ∃ more,H' b = some (.tbl (ps ++ more))
section
variable {fs fs' ex ex':List Addr} {H H1 H2:Hp} {h h1 h2 h':Heap} {a x e:Addr} {o:HO}
theorem Un.any (u:Un fs ex H H1 h h1) {b:Addr} {ob:Obj} (q:h.get? b = some ob) (n:H b = none) (hx:b ∉ ex):∃ sl,h1.get? b = some { ob with slots:=sl }:=by
 by_cases hb:b ∈ fs
 ·exact u.slot b ob q n hb hx
 ·exact ⟨ob.slots,u.keep b ob q n hb hx⟩
theorem Un.kept (k:∀ b u,h.get? b = some u -> h'.get? b = some u):Un fs ex H H h h' :=
 ⟨fun b ob q _ _ _=>k b ob q,fun b ob q _ _ _=>⟨ob.slots,k b ob q⟩,fun _ _ _ n _=>n,fun b ob q _=>⟨ob,k b ob q⟩,fun _ _ q=>q,fun _ _ _ q=>q,fun _ ps q=>⟨#[],by rw [q]; simp⟩⟩
theorem Un.refl:Un fs ex H H h h:=Un.kept fun _ _ q=>q
theorem Un.laid (k:∀ b u,h.get? b = some u -> h'.get? b = some u) (hp:h.objs.size <= a) (hn:H a = none):Un fs ex H (upd H a o) h h' where
 keep:=fun b u q _ _ _=>k b u q;slot:=fun b u q _ _ _=>⟨u.slots,k b u q⟩;free:=fun b u q n _=>by rw [zZ (zTf (zTj (zTV q) hp))]; exact n
 there:=fun b u q _=>⟨u,k b u q⟩;tups:=fun b xs q=>by rw [zZ (zAG q hn)]; exact q
 frzs:=fun b u xs q=>by rw [zZ (zAG q hn)]; exact q
 tbls:=fun b ps q=>⟨#[],by rw [zZ (zAG q hn),q]; simp⟩
theorem Un.write (mu:Mut (H x)) (he:e = x \/ H e = some (.own x)) (k:∀ b u,b ≠ e -> h.get? b = some u -> h'.get? b = some u) (heo:∃ u,h'.get? e = some u):Un fs ex H (upd H x o) h h':=by
 have hx:∀ b,H b = none -> b ≠ x:=fun b n z=>by subst z; rw [n] at mu; exact mu
 have hb:∀ b,H b = none -> b ≠ e:=fun b n z=>by
  subst z;rcases he with r | r
  ·exact hx b n r
  ·rw [n] at r; cases r
 have hm:∀ b u,H b = some u -> ¬ Mut (some u) -> b ≠ x:=fun b u q nm z=>by subst z; rw [q] at mu; exact nm mu
 refine ⟨fun b u q n _ _=>k b u (hb b n) q,fun b u q n _ _=>⟨u.slots,k b u (hb b n) q⟩,fun b u q n _=>by rw [zZ (hx b n)]; exact n,fun b u q _=>?_,
  fun b xs q=>by rw [zZ (hm b _ q fun z=>z)]; exact q,fun b u xs q=>by rw [zZ (hm b _ q fun z=>z)]; exact q,fun b ps q=>⟨#[],by rw [zZ (hm b _ q fun z=>z),q]; simp⟩⟩
 by_cases hbe:b = e
 ·subst hbe; exact heo
 ·exact ⟨u,k b u hbe q⟩
end
def trk (h:Heap) (H:Hp):List Addr:=(List.range h.objs.size).filter fun a=>(H a).isSome
def zGd (h:Heap) (H:Hp):Heap:=PySem.W.hideAll h (trk h H)
theorem zLh (h:Heap) (H:Hp):(zGd h H).objs.size = h.objs.size:=PySem.W.hideAll_size _ _
theorem zMr {h:Heap} {H:Hp} {b:Addr} {o:Obj} (e:h.get? b = some o) (n:H b = none):(zGd h H).get? b = some o :=
 PySem.W.hideAll_get _ e fun hm=>by
  have q:(H b).isSome = true:=(List.mem_filter.mp hm).2;rw [n] at q; simp at q
theorem zOo {h:Heap} {H:Hp} {b:Addr} {o:Obj} (e:(zGd h H).get? b = some o):h.get? b = some o /\ H b = none:=by
 have e':h.get? b = some o:=PySem.W.of_hideAll (trk h H) e;refine ⟨e',?_⟩;cases q:H b with
 | none=>rfl
 | some x=>
  have hm:b ∈ trk h H:=List.mem_filter.mpr ⟨zTy.mpr (zTV e'),by simp [q]⟩;have z:(zGd h H).get? b = none:=PySem.W.hideAll_none (trk h H) hm;rw [z] at e; cases e
def BMn (mg:Str -> Option Value) (h:Heap):Prop:=∃ bm ob,mg "__builtins__" = some (.ref bm) /\ bm ≠ builtinsNs /\ h.get? bm = some ob /\ ob.cls = .type "module" /\ ob.dict = some builtinsNs /\ ob.data = .plain
structure Mod (K:PySem.W.Frag) (mg:Str -> Option Value) (base:Heap):Prop where
 kin:K.In base
 glob:base.Ns mainGlobals mg
 blt:∃ mb,base.Ns builtinsNs mb /\ ∀ x:Str,x ≠ "__name__" -> mb x = bootBuiltins x
 nolimit:base.NoLimit
 bmn:BMn mg base
structure Cx where
 prog:Program
 w:World
 K:PySem.W.Frag
 mg:Str -> Option Value
 base:Heap
 A:Around
 N:List Str
 s₀:Shared
 H₀:Hp
 env:Env
 outer:List Env
 stack:List Env
 ex:List Addr
 fn:Str -> Bool
 calm:Bool
 pn:List (Addr × Obj)
 xe:Value -> Shared -> Prop
def frs (l:List Env):List Addr:=l.filterMap (·.frame)
abbrev Cx.fs (X:Cx):List Addr:=frs X.outer
def Vis (sc:Scope) (x:Str):Prop:=sc.names.lookup x = some .local \/ sc.names.lookup x = some .cell \/ sc.names.lookup x = some .free
def Loc (sc:Scope) (x:Str):Prop:=sc.names.lookup x = some .local \/ sc.names.lookup x = some .cell
def zS7 (env:Env) (h:Heap) (m:Str -> Option Value) (x:Str) (u:Value):Prop :=
 (env.kindOf x = some .local /\ m x = some u) \/ ((env.kindOf x = some .cell \/ env.kindOf x = some .free) /\ ∃ c,env.cells.lookup x = some c /\ h.IsCell c (some u))
structure Cx.Ok (X:Cx):Prop where
 mod:Mod X.K X.mg X.base
 kind:X.env.scope.kind = .function
 glob:X.env.globals = mainGlobals
 blt:X.env.builtins = builtinsNs
 above:X.s₀.heap.objs.size <= X.env.locals
 inj:∀ x y c,X.env.cells.lookup x = some c -> X.env.cells.lookup y = some c -> x = y
 has:∀ x,(X.env.kindOf x = some .cell \/ X.env.kindOf x = some .free) -> ∃ c,X.env.cells.lookup x = some c
 cab:∀ x c,X.fn x = true -> X.env.cells.lookup x = some c -> X.s₀.heap.objs.size <= c
 hd:X.calm = true -> X.A.handled = none
 frames:X.A.frames = some X.stack
 stk:X.stack = X.outer \/ (X.stack = X.env :: X.outer /\ X.env.frame = some X.env.locals)
 exf:∀ b ∈ X.ex,b ≠ X.env.locals /\ ∀ x c,X.env.cells.lookup x = some c -> c ≠ b
 bs:∀ b o,X.base.get? b = some o -> X.s₀.heap.get? b = some o /\ X.H₀ b = none
 bsz:X.base.objs.size <= X.s₀.heap.objs.size
 noex:∀ b o,X.base.get? b = some o -> b ∉ X.ex
 exfs:∀ b ∈ X.ex,b ∉ X.fs
 funs:X.s₀.heap.FunFrames X.base X.outer
 frf:∀ b ∈ X.fs,X.H₀ b = none
structure Inv (X:Cx) (zB:List (Addr × Obj)) (σ:List (Option V)) (H:Hp) (s:Shared):Prop where
 ok:X.Ok
 os:s.os = X.s₀.os
 bare:AllBare s.gens
 base:Un X.fs X.ex X.H₀ H X.s₀.heap s.heap
 loc:∃ m,s.heap.Ns X.env.locals m /\ ∀ (i:Nat) (x:Str) (v:V),X.N[i]? = some x -> σ[i]? = some (some v) -> Vis X.env.scope x -> ∃ u,zt v u /\ zS7 X.env s.heap m x u
 cell:∀ x c,X.env.cells.lookup x = some c -> ∃ v,s.heap.IsCell c v
 free:H X.env.locals = none
 freeC:∀ x c,X.env.cells.lookup x = some c -> H c = none
 pin:∀ p ∈ X.pn ++ zB,s.heap.get? p.1 = some p.2 /\ H p.1 = none /\ p.1 ≠ X.env.locals /\ p.1 ∉ X.fs /\ ∀ v,p.2.data ≠ .cell v
 hok:HOk X.prog X.w H s.heap
 len:σ.length = X.N.length
section
variable {X:Cx} {zB:List (Addr × Obj)} {σ:List (Option V)} {H H':Hp} {s:Shared} {h':Heap}
theorem Cx.Ok.nofr (ok:X.Ok) {b:Addr} {o:Obj} (e:X.base.get? b = some o):b ∉ X.fs:=fun hb=>by
 have:=(ok.funs.mem hb).1;rw [e] at this; cases this
theorem Inv.bs (I:Inv X zB σ H s):∀ b o,X.base.get? b = some o -> s.heap.get? b = some o /\ H b = none:=fun b o e=>
 ⟨I.base.keep b o (I.ok.bs b o e).1 (I.ok.bs b o e).2 (I.ok.nofr e) (I.ok.noex b o e),I.base.free b o (I.ok.bs b o e).1 (I.ok.bs b o e).2 (I.ok.noex b o e)⟩
theorem Inv.bk (I:Inv X zB σ H s):∀ b o,X.base.get? b = some o -> s.heap.get? b = some o:=fun b o e=>(I.bs b o e).1
theorem Inv.mod (I:Inv X zB σ H s):Mod X.K X.mg X.base:=I.ok.mod
theorem Inv.kIn (I:Inv X zB σ H s):X.K.In s.heap:=I.ok.mod.kin.keeps I.bk
theorem Inv.nolimit (I:Inv X zB σ H s):s.heap.NoLimit:=I.ok.mod.nolimit.keeps I.bk
theorem Inv.lt (I:Inv X zB σ H s):X.env.locals < s.heap.objs.size:=let ⟨_,hn,_⟩:=I.loc; hn.lt
theorem Inv.sz (I:Inv X zB σ H s):X.s₀.heap.objs.size <= s.heap.objs.size:=zTl I.ok.above (Nat.le_of_lt I.lt)
theorem Inv.nofs (I:Inv X zB σ H s) {a:Addr} (h:s.heap.objs.size <= a):a ∉ X.fs:=fun hb=>by
 obtain ⟨_,o,ho,_⟩:=I.ok.funs.mem hb;exact absurd (zTj (zTV ho) (zTl I.sz h)) (zT7 _)
theorem Inv.cne (I:Inv X zB σ H s):∀ x c,X.env.cells.lookup x = some c -> c ≠ X.env.locals:=fun x c e z=>by
 obtain ⟨v,o,ho,hd⟩:=I.cell x c e;obtain ⟨m,⟨o',es,ep,ho',hd',_⟩,_⟩:=I.loc;rw [z,ho'] at ho; cases ho; rw [hd'] at hd; cases hd
theorem Inv.funs (I:Inv X zB σ H s):s.heap.FunFrames X.base X.outer:=by
 have all:∀ (l:List Env),(∀ b ∈ frs l,b ∈ X.fs) -> X.s₀.heap.FunFrames X.base l -> s.heap.FunFrames X.base l:=by
  intro l;induction l with
  | nil=>intro _ _; trivial
  | cons env r ih=>
   intro hs hl;obtain ⟨hk,⟨L,o,hf,hn,ho,hd⟩,hr⟩:=hl;have hL:L ∈ X.fs:=hs L (by unfold frs; rw [List.filterMap_cons,hf]; exact zTY);obtain ⟨sl,e⟩:=I.base.slot L o ho (I.ok.frf L hL) hL fun z=>I.ok.exfs L z hL;exact ⟨hk,⟨L,_,hf,hn,e,hd⟩,ih (fun b hb=>hs b (by unfold frs; rw [List.filterMap_cons,hf]; exact zTX _ hb)) hr⟩
 exact all X.outer (fun _ hb=>hb) I.ok.funs
theorem Inv.stack (I:Inv X zB σ H s):s.heap.FunFrames X.base X.stack:=by
 rcases I.ok.stk with e | ⟨e,hf⟩
 ·rw [e]; exact I.funs
 ·rw [e];obtain ⟨m,hn,_⟩:=I.loc;refine .cons (by rw [I.ok.kind]; decide) hf hn ?_ I.funs;exact Heap.get?_none_of_le (zTl I.ok.bsz I.ok.above)
theorem Inv.stkSub (I:Inv X zB σ H s):∀ b ∈ frs X.stack,b ∈ X.env.locals :: X.fs:=fun b hb=>by
 rcases I.ok.stk with e | ⟨e,hf⟩
 ·rw [e] at hb; exact zTX _ hb
 ·rw [e] at hb;unfold frs at hb;rw [List.filterMap_cons,hf] at hb;exact hb
theorem Inv.stkFree (I:Inv X zB σ H s):∀ b ∈ frs X.stack,H b = none:=fun b hb=>by
 rcases zTW.mp (I.stkSub b hb) with e | hb
 ·rw [e]; exact I.free
 ·obtain ⟨_,o,ho,_⟩:=I.ok.funs.mem hb;exact I.base.free b o ho (I.ok.frf b hb) fun z=>I.ok.exfs b z hb
theorem Inv.step {g':Array GenState} {t':Nat} {d':Drawn} {ch:List Addr} (I:Inv X zB σ H s)
  (hch:∀ b ∈ ch,(b ∈ X.ex \/ X.s₀.heap.objs.size <= b) /\ b ≠ X.env.locals /\ (∀ x c,X.env.cells.lookup x = some c -> c ≠ b) /\ ∀ p ∈ X.pn ++ zB,p.1 ≠ b)
  (keep:∀ b o,b ≠ X.env.locals -> b ∉ X.fs -> b ∉ ch -> s.heap.get? b = some o -> H b = none -> h'.get? b = some o)
  (slot:∀ b o,b ≠ X.env.locals -> b ∈ X.fs -> b ∉ ch -> s.heap.get? b = some o -> H b = none -> ∃ sl,h'.get? b = some { o with slots:=sl }) (free:∀ b o,b ∉ ch -> s.heap.get? b = some o -> H b = none -> H' b = none)
  (there:∀ b o,b ∉ ch -> s.heap.get? b = some o -> ∃ o',h'.get? b = some o')
  (tups:∀ b xs,H b = some (.tup xs) -> H' b = some (.tup xs)) (frzs:∀ b o u,H b = some (.frz o u) -> H' b = some (.frz o u)) (tbls:∀ b ps,H b = some (.tbl ps) -> ∃ more,H' b = some (.tbl (ps ++ more)))
  (ns:∀ m,s.heap.Ns X.env.locals m -> h'.Ns X.env.locals m) (hok:HOk X.prog X.w H' h') (hg:AllBare g') :
  Inv X zB σ H' { s with heap:=h',gens:=g',drawn:=d',toks:=t' }:=by
 have neL:∀ b o,X.s₀.heap.get? b = some o -> b ≠ X.env.locals:=fun b o e=>zTf (zTj (zTV e) I.ok.above);have neC:∀ b o,X.s₀.heap.get? b = some o -> b ∉ X.ex -> b ∉ ch:=fun b o e hx hb=>by
  rcases (hch b hb).1 with z | z
  ·exact hx z
  ·exact absurd (zTj (zTV e) z) (zT7 _)
 have cellK:∀ x c,X.env.cells.lookup x = some c -> ∀ v,s.heap.IsCell c v -> h'.IsCell c v:=fun x c e v ⟨o,ho,hd⟩=>by
  have nch:c ∉ ch:=fun z=>(hch c z).2.2.1 x c e rfl;by_cases hc:c ∈ X.fs
  ·obtain ⟨sl,q⟩:=slot c o (I.cne x c e) hc nch ho (I.freeC x c e);exact ⟨_,q,hd⟩
  ·exact ⟨o,keep c o (I.cne x c e) hc nch ho (I.freeC x c e),hd⟩
 refine ⟨I.ok,I.os,hg,⟨fun b o e n hb hx=>?_,fun b o e n hb hx=>?_,fun b o e n hx=>?_,fun b o e hx=>?_,fun b xs e=>tups b xs (I.base.tups b xs e),fun b o xs e=>frzs b o xs (I.base.frzs b o xs e),fun b ps e=>?_⟩,?_,fun x c e=>?_,?_,fun x c e=>?_,fun p hp=>?_,hok,I.len⟩
 ·exact keep b o (neL b o e) hb (neC b o e hx) (I.base.keep b o e n hb hx) (I.base.free b o e n hx)
 ·obtain ⟨sl,e1⟩:=I.base.slot b o e n hb hx;obtain ⟨sl',e2⟩:=slot b _ (neL b o e) hb (neC b o e hx) e1 (I.base.free b o e n hx);exact ⟨sl',e2⟩
 ·obtain ⟨o',e1⟩:=I.base.there b o e hx;exact free b o' (neC b o e hx) e1 (I.base.free b o e n hx)
 ·obtain ⟨o',e1⟩:=I.base.there b o e hx;exact there b o' (neC b o e hx) e1
 ·obtain ⟨m1,e1⟩:=I.base.tbls b ps e;obtain ⟨m2,e2⟩:=tbls b _ e1;exact ⟨m1 ++ m2,by rw [e2,Array.append_assoc]⟩
 ·obtain ⟨m,hn,hl⟩:=I.loc;refine ⟨m,ns m hn,fun i x v e1 e2 e3=>?_⟩;obtain ⟨u,r,l⟩:=hl i x v e1 e2 e3;refine ⟨u,r,?_⟩;rcases l with l | ⟨k,c,e,z⟩
  ·exact .inl l
  ·exact .inr ⟨k,c,e,cellK x c e _ z⟩
 ·obtain ⟨v,z⟩:=I.cell x c e;exact ⟨v,cellK x c e v z⟩
 ·obtain ⟨m,⟨o,_,_,ho,_⟩,_⟩:=I.loc;exact free _ o (fun z=>(hch _ z).2.1 rfl) ho I.free
 ·obtain ⟨v,o,ho,hd⟩:=I.cell x c e;exact free c o (fun z=>(hch c z).2.2.1 x c e rfl) ho (I.freeC x c e)
 ·obtain ⟨e,n,ne,nf,d⟩:=I.pin p hp;have nch:p.1 ∉ ch:=fun z=>(hch p.1 z).2.2.2 p hp rfl;exact ⟨keep p.1 p.2 ne nf nch e n,free p.1 p.2 nch e n,ne,nf,d⟩
theorem Inv.un {t':Nat} (I:Inv X zB σ H s) (u:Un X.fs [] H H' s.heap h') (hok:HOk X.prog X.w H' h'):Inv X zB σ H' { s with heap:=h',toks:=t' }:=by
 obtain ⟨m,⟨o,es,ep,ho,r⟩,_⟩:=id I.loc;obtain ⟨sl,hL⟩:=u.any ho I.free (by simp);exact I.step (g':=s.gens) (d':=s.drawn) (ch:=[]) (fun _ z=>nomatch z) (fun b o _ hb _ e n=>u.keep b o e n hb (by simp)) (fun b o _ hb _ e n=>u.slot b o e n hb (by simp)) (fun b o _ e n=>u.free b o e n (by simp)) (fun b o _ e=>u.there b o e (by simp)) u.tups u.frzs u.tbls (fun m' hm=>by
  obtain ⟨o',es',ep',ho',r'⟩:=hm;rw [ho] at ho'; cases ho';exact ⟨_,es',ep',hL,r'⟩) hok I.bare
theorem Inv.call {g':Array GenState} {t':Nat} {d':Drawn} {ch:List Addr} (I:Inv X zB σ H s) (u:Un (frs X.stack) ch H H' s.heap h') (hok:HOk X.prog X.w H' h') (hg:AllBare g')
  (hch:∀ b ∈ ch,(b ∈ X.ex \/ X.s₀.heap.objs.size <= b) /\ b ≠ X.env.locals /\ (∀ x c,X.env.cells.lookup x = some c -> c ≠ b) /\ ∀ p ∈ X.pn ++ zB,p.1 ≠ b) :
  Inv X zB σ H' { s with heap:=h',gens:=g',drawn:=d',toks:=t' }:=by
 obtain ⟨m,⟨o,es,ep,ho,r⟩,_⟩:=id I.loc;obtain ⟨sl,hL⟩:=u.any ho I.free fun z=>(hch _ z).2.1 rfl;exact I.step (ch:=ch) hch (fun b o hL hb hc e n=>u.keep b o e n (fun z=>(zTW.mp (I.stkSub b z)).elim hL hb) hc) (fun b o _ _ hc e n=>u.any e n hc) (fun b o hc e n=>u.free b o e n hc) (fun b o hc e=>u.there b o e hc) u.tups u.frzs u.tbls (fun m' hm=>by
  obtain ⟨o',es',ep',ho',r'⟩:=hm;rw [ho] at ho'; cases ho';exact ⟨_,es',ep',hL,r'⟩) hok hg
theorem Inv.turned {t':Nat} {it:Addr} (I:Inv X zB σ H s) (k:∀ b o,b ≠ it -> s.heap.get? b = some o -> h'.get? b = some o) (hn:H it = none) (hL:it ≠ X.env.locals)
  (h1:it ∈ X.ex \/ X.s₀.heap.objs.size <= it) (h2:∀ x c,X.env.cells.lookup x = some c -> c ≠ it) (h3:∀ p ∈ X.pn ++ zB,p.1 ≠ it):Inv X zB σ H { s with heap:=h',toks:=t' }:=by
 have nit:∀ b u,H b = some u -> b ≠ it:=fun b u e z=>by rw [z,hn] at e; cases e
 refine I.step (g':=s.gens) (d':=s.drawn) (ch:=[it]) (fun b hb=>?_) (fun b o _ _ hc e _=>k b o (fun z=>hc (by simp [z])) e) (fun b o _ _ hc e _=>⟨o.slots,k b o (fun z=>hc (by simp [z])) e⟩) (fun _ _ _ _ n=>n)
  (fun b o hc e=>⟨o,k b o (fun z=>hc (by simp [z])) e⟩) (fun _ _ e=>e) (fun _ _ _ e=>e) (fun b ps e=>⟨#[],by rw [e]; simp⟩) (fun m hm=>?_) (fun b u e=>?_) I.bare
 ·have e:b = it:=by simpa using hb
  subst e;exact ⟨h1,hL,h2,h3⟩
 ·obtain ⟨o,es,ep,ho,r⟩:=hm;exact ⟨o,es,ep,k _ o (Ne.symm hL) ho,r⟩
 ·refine (I.hok b u e).stay (fun c v hc q=>k c v ?_ q) (fun _ q=>q) fun _ _ q=>q;rcases hc with z | z
  ·rw [z]; exact nit b u e
  ·exact nit c _ z
theorem Inv.tok (I:Inv X zB σ H s) (t:Nat):Inv X zB σ H { s with toks:=t }:=I.un (h':=s.heap) (t':=t) Un.refl I.hok
theorem Inv.kept {t':Nat} (I:Inv X zB σ H s) (k:∀ b u,s.heap.get? b = some u -> h'.get? b = some u):Inv X zB σ H { s with heap:=h',toks:=t' }:=I.un (Un.kept k) (I.hok.kept k)
theorem Inv.laid {a:Addr} {o:HO} {t':Nat} (I:Inv X zB σ H s) (k:∀ b u,s.heap.get? b = some u -> h'.get? b = some u) (hp:s.heap.objs.size <= a) (new:zAE X.prog X.w (upd H a o) h' a o) :
  Inv X zB σ (upd H a o) { s with heap:=h',toks:=t' }:=I.un (Un.laid k hp (I.hok.fresh hp)) (I.hok.laid k hp new)
theorem Inv.write {x e:Addr} {o:HO} {t':Nat} (I:Inv X zB σ H s) (mu:Mut (H x)) (he:e = x \/ H e = some (.own x)) (k:∀ b u,b ≠ e -> s.heap.get? b = some u -> h'.get? b = some u) (heo:∃ u,h'.get? e = some u)
  (new:zAE X.prog X.w (upd H x o) h' x o):Inv X zB σ (upd H x o) { s with heap:=h',toks:=t' }:=I.un (Un.write mu he k heo) (I.hok.write mu he k heo new)
theorem Inv.weak {σ':List (Option V)} (I:Inv X zB σ H s) (hl:σ'.length = σ.length) (w:∀ (i:Nat) v,σ'[i]? = some (some v) -> σ[i]? = some (some v)):Inv X zB σ' H s :=
 ⟨I.ok,I.os,I.bare,I.base,let ⟨m,hn,hl'⟩:=I.loc; ⟨m,hn,fun i x v e1 e2 e3=>hl' i x v e1 (w i v e2) e3⟩,I.cell,I.free,I.freeC,I.pin,I.hok,hl.trans I.len⟩
theorem Inv.pins_of {pins':List (Addr × Obj)} (I:Inv X zB σ H s) (h:∀ p ∈ pins',s.heap.get? p.1 = some p.2 /\ H p.1 = none /\ p.1 ≠ X.env.locals /\ p.1 ∉ X.fs /\ ∀ v,p.2.data ≠ .cell v):Inv X pins' σ H s :=
 ⟨I.ok,I.os,I.bare,I.base,I.loc,I.cell,I.free,I.freeC,fun p hp=>(zTk.mp hp).elim (fun z=>I.pin p (zUe _ z)) (h p),I.hok,I.len⟩
theorem zF9 {N:List Str} (hN:N.Nodup) {i j:Nat} {x:Str} (a:N[i]? = some x) (b:N[j]? = some x):i = j:=by
 obtain ⟨h1,e1⟩:=zTN.mp a;obtain ⟨h2,e2⟩:=zTN.mp b;exact (List.getElem_inj hN).mp (e1.trans e2.symm)
theorem zLK {M:Model} {A:Around} {E:Value -> Shared -> Prop} {i:Nat} {x:Str} {v:V} {u:Value} {Q:Unit -> Shared -> Prop} (I:Inv X zB σ H s) (hN:X.N.Nodup) (hi:X.N[i]? = some x) (hx:Loc X.env.scope x) (r:zt v u)
  (h:∀ s',Inv X zB (σ.set i (some v)) H s' -> (∃ a,Heap.SameBut a s.heap s'.heap /\ (a = X.env.locals \/ X.env.cells.lookup x = some a)) -> Q () s') (hf:X.fn x = true \/ X.env.scope.names.lookup x = some .local:=by first | exact .inl rfl | exact .inr rfl | assumption):wpAny M A (storeName X.env x u) Q E s:=by
 obtain ⟨m,hn,hl⟩:=id I.loc;have hcls:(X.env.scope.kind == .class || (X.env.scope.kind == .module && X.env.locals != X.env.globals)) = false:=by rw [I.ok.kind]; rfl
 have hiσ:i < σ.length:=by rw [I.len]; exact (zTN.mp hi).1
 have cne:=I.cne;have tracked:∀ {a:Addr} {h':Heap},(∃ o,s.heap.get? a = some o /\ H a = none) -> Heap.SameBut a s.heap h' -> HOk X.prog X.w H h':=fun {a h'} ha hs b ob e=>by
  obtain ⟨_,_,hfree⟩:=ha;refine (I.hok b ob e).stay (fun c w' hc q=>(hs.2 c ?_).trans q) (fun _ q=>q) fun _ _ q=>q;rintro rfl;rcases hc with rfl | hc
  ·rw [hfree] at e; cases e
  ·rw [hfree] at hc; cases hc
 rcases hx with hk | hk
 ·refine wpAny_storeName_local hk hn (fun h' hn' hs=>?_) hcls;obtain ⟨oL,_,_,hoL,_⟩:=id hn;refine h _ ⟨I.ok,I.os,I.bare,⟨fun b o e n hb hx=>?_,fun b o e n hb hx=>?_,I.base.free,fun b o e hx=>?_,I.base.tups,I.base.frzs,I.base.tbls⟩,⟨_,hn',fun j y v' e1 e2 e3=>?_⟩,fun y c e=>?_,I.free,I.freeC,fun p hp=>?_,tracked ⟨oL,hoL,I.free⟩ hs,by simpa using I.len⟩ ⟨_,hs,.inl rfl⟩
  ·exact (hs.2 b (zTf (zTj (zTV e) I.ok.above))).trans (I.base.keep b o e n hb hx)
  ·obtain ⟨sl,e1⟩:=I.base.slot b o e n hb hx;exact ⟨sl,(hs.2 b (zTf (zTj (zTV e) I.ok.above))).trans e1⟩
  ·obtain ⟨o',e1⟩:=I.base.there b o e hx;exact ⟨o',(hs.2 b (zTf (zTj (zTV e) I.ok.above))).trans e1⟩
  ·by_cases hj:j = i
   ·subst hj;rw [hi] at e1; cases e1;rw [zUJ hiσ] at e2;cases e2;exact ⟨u,r,.inl ⟨hk,by simp⟩⟩
   ·rw [zTo (Ne.symm hj)] at e2;obtain ⟨u',r',q⟩:=hl j y v' e1 e2 e3;refine ⟨u',r',?_⟩;rcases q with ⟨k,e⟩ | ⟨k,c,e,z⟩
    ·refine .inl ⟨k,?_⟩;have:y ≠ x:=fun e=>hj (zF9 hN e1 (e ▸ hi));simp [this,e]
    ·exact .inr ⟨k,c,e,z.sameBut hs (cne y c e)⟩
  ·obtain ⟨w',z⟩:=I.cell y c e;exact ⟨w',z.sameBut hs (cne y c e)⟩
  ·obtain ⟨e,n,ne,nf,d⟩:=I.pin p hp;exact ⟨(hs.2 p.1 ne).trans e,n,ne,nf,d⟩
 ·have hfn:X.fn x = true:=by
   rcases hf with z | z
   ·exact z
   ·rw [z] at hk; cases hk
  obtain ⟨c,hc⟩:=I.ok.has x (.inl hk);obtain ⟨w',z⟩:=I.cell x c hc;refine wpAny_storeName_cell I.ok.kind hk hc z (fun h' hc' hs=>?_);obtain ⟨oc,hoc,hocd⟩:=id z;refine h { s with heap:=h' } ⟨I.ok,I.os,I.bare,⟨fun b o e n hb hx=>?_,fun b o e n hb hx=>?_,I.base.free,fun b o e hx=>?_,I.base.tups,I.base.frzs,I.base.tbls⟩,⟨m,hn.sameBut hs (Ne.symm (cne x c hc)),fun j y v' e1 e2 e3=>?_⟩,fun y c' e=>?_,I.free,I.freeC,fun p hp=>?_,tracked ⟨oc,hoc,I.freeC x c hc⟩ hs,by simpa using I.len⟩ ⟨c,hs,.inr hc⟩
  ·exact (hs.2 b (zTf (zTj (zTV e) (I.ok.cab x c hfn hc)))).trans (I.base.keep b o e n hb hx)
  ·obtain ⟨sl,e1⟩:=I.base.slot b o e n hb hx;exact ⟨sl,(hs.2 b (zTf (zTj (zTV e) (I.ok.cab x c hfn hc)))).trans e1⟩
  ·obtain ⟨o',e1⟩:=I.base.there b o e hx;exact ⟨o',(hs.2 b (zTf (zTj (zTV e) (I.ok.cab x c hfn hc)))).trans e1⟩
  ·by_cases hj:j = i
   ·subst hj;rw [hi] at e1; cases e1;rw [zUJ hiσ] at e2;cases e2;exact ⟨u,r,.inr ⟨.inl hk,c,hc,hc'⟩⟩
   ·rw [zTo (Ne.symm hj)] at e2;obtain ⟨u',r',q⟩:=hl j y v' e1 e2 e3;refine ⟨u',r',?_⟩;rcases q with q | ⟨k,c',e,z'⟩
    ·exact .inl q
    ·refine .inr ⟨k,c',e,z'.sameBut hs ?_⟩;rintro rfl;exact hj (zF9 hN e1 (I.ok.inj _ _ _ e hc ▸ hi))
  ·by_cases hcc:c' = c
   ·subst hcc; exact ⟨_,hc'⟩
   ·obtain ⟨w2,z2⟩:=I.cell y c' e;exact ⟨w2,z2.sameBut hs hcc⟩
  ·obtain ⟨e,n,ne,nf,d⟩:=I.pin p hp;refine ⟨(hs.2 p.1 ?_).trans e,n,ne,nf,d⟩;intro q;rw [q,hoc] at e;have q':oc = p.2:=zUP e;exact d w' (by rw [<- q']; exact hocd)
theorem zEq {M:Model} {A:Around} {E:Value -> Shared -> Prop} {i:Nat} {x:Str} {v:V} {u:Value} {Q:Unit -> Shared -> Prop} (I:Inv X zB σ H s) (hN:X.N.Nodup) (hi:X.N[i]? = some x) (hx:Loc X.env.scope x) (r:zt v u)
  (h:∀ s',Inv X zB (σ.set i (some v)) H s' -> Q () s') (hf:X.fn x = true \/ X.env.scope.names.lookup x = some .local:=by first | exact .inl rfl | exact .inr rfl | assumption):wpAny M A (storeName X.env x u) Q E s :=
 zLK I hN hi hx r (fun s' I' _=>h s' I') hf
theorem Inv.call' {s':Shared} {ch:List Addr} (I:Inv X zB σ H s) (ho:s'.os = s.os) (u:Un (frs X.stack) ch H H' s.heap s'.heap) (hok:HOk X.prog X.w H' s'.heap) (hg:AllBare s'.gens)
  (hch:∀ b ∈ ch,(b ∈ X.ex \/ X.s₀.heap.objs.size <= b) /\ b ≠ X.env.locals /\ (∀ x c,X.env.cells.lookup x = some c -> c ≠ b) /\ ∀ p ∈ X.pn ++ zB,p.1 ≠ b):Inv X zB σ H' s':=by
 obtain ⟨h',g',d',t',o'⟩:=s';have e:o' = s.os:=ho;subst e;exact I.call (g':=g') (t':=t') (d':=d') u hok hg hch
end
abbrev XK:=Value -> Option Addr -> Hp -> Prop
abbrev St:=List (Option V)
abbrev VK:=V -> Hp -> Prop
abbrev TE:=St -> Hp -> VK -> Prop
abbrev TT:=St -> Hp -> (Bool -> Hp -> Prop) -> Prop
abbrev TA:=St -> Hp -> (List V -> Hp -> Prop) -> Prop
structure Ends where
 nx:St -> Hp -> Prop
 rt:VK
 bk:St -> Hp -> Prop:=fun _ _=>False
 ct:St -> Hp -> Prop:=fun _ _=>False
abbrev TS:=Ends -> St -> Hp -> Prop
def EP (X:Cx) (zB:List (Addr × Obj)) (σ:St) (Q:VK) (u:Value) (s':Shared):Prop:=∃ v H',Inv X zB σ H' s' /\ zt v u /\ Q v H'
def TP (X:Cx) (zB:List (Addr × Obj)) (σ:St) (Q:Bool -> Hp -> Prop) (b:Bool) (s':Shared):Prop:=∃ H',Inv X zB σ H' s' /\ Q b H'
def AP (X:Cx) (zB:List (Addr × Obj)) (σ:St) (Q:List V -> Hp -> Prop) (us:List Value) (s':Shared):Prop:=∃ vs H',Inv X zB σ H' s' /\ zg vs us /\ Q vs H'
def SP (X:Cx) (zB:List (Addr × Obj)) (D:Ends) (f:Flow) (s':Shared):Prop :=
 match f with
 | .next=>∃ σ' H',Inv X zB σ' H' s' /\ D.nx σ' H'
 | .brk=>∃ σ' H',Inv X zB σ' H' s' /\ D.bk σ' H'
 | .cont=>∃ σ' H',Inv X zB σ' H' s' /\ D.ct σ' H'
 | .ret u=>∃ v σ' H',Inv X zB σ' H' s' /\ zt v u /\ D.rt v H'
def PE (X:Cx) (e:Expr) (t:TE):Prop :=
 ∀ (zB:List (Addr × Obj)) (s:Shared) (σ:St) (H:Hp) (Q:VK),Inv X zB σ H s -> t σ H Q -> wpAny (model X.prog X.w) X.A (eval e X.env) (EP X zB σ Q) X.xe s
def PT (X:Cx) (e:Expr) (t:TT):Prop :=
 ∀ (zB:List (Addr × Obj)) (s:Shared) (σ:St) (H:Hp) (Q:Bool -> Hp -> Prop),Inv X zB σ H s -> t σ H Q -> wpAny (model X.prog X.w) X.A (isTrue e X.env (eval e X.env)) (TP X zB σ Q) X.xe s
def PW (X:Cx) (e:Expr) (t:TT):Prop :=
 ∀ (whole:Sem Value) (zB:List (Addr × Obj)) (s:Shared) (σ:St) (H:Hp) (Q:Bool -> Hp -> Prop),Inv X zB σ H s -> t σ H Q -> wpAny (model X.prog X.w) X.A (isTrue e X.env whole) (TP X zB σ Q) X.xe s
theorem PW.pt {X:Cx} {e:Expr} {t:TT} (h:PW X e t):PT X e t:=h _
def PA (X:Cx) (es:List Expr) (t:TA):Prop :=
 ∀ (pos:Pos) (zB:List (Addr × Obj)) (s:Shared) (σ:St) (H:Hp) (Q:List V -> Hp -> Prop),Inv X zB σ H s -> t σ H Q -> wpAny (model X.prog X.w) X.A (spliced (backTo pos (starEach es X.env))) (AP X zB σ Q) X.xe s
def PS (X:Cx) (st:Stmt) (t:TS):Prop :=
 ∀ (zB:List (Addr × Obj)) (s:Shared) (σ:St) (H:Hp) (D:Ends),Inv X zB σ H s -> t D σ H -> wpAny (model X.prog X.w) X.A (exec st X.env) (SP X zB D) X.xe s
def PSs (X:Cx) (st:List Stmt) (t:TS):Prop :=
 ∀ (zB:List (Addr × Obj)) (s:Shared) (σ:St) (H:Hp) (D:Ends),Inv X zB σ H s -> t D σ H -> wpAny (model X.prog X.w) X.A (execs st X.env) (SP X zB D) X.xe s
theorem thn {α:Type} {t:Sem α} {Q Q':α -> Shared -> Prop} {M:Model} {A:Around} {E:Value -> Shared -> Prop} {s:Shared} (h:wpAny M A t Q E s) (hQ:∀ a s,Q a s -> Q' a s):wpAny M A t Q' E s:=zTq h hQ fun _ _ x=>x
section
variable {X:Cx}
def zOW (i:Nat):TE:=fun σ H Q=>∃ v,σ[i]? = some (some v) /\ Q v H
def tC (v:V):TE:=fun _ H Q=>Q v H
theorem zMQ {i:Nat} {x:Str} {pos:Pos} (hN:X.N[i]? = some x) (hv:Vis X.env.scope x) (hd:(x == ("__debug__" : Str)) = false:=by decide) (hcd:(x == ("__classdict__" : Str)) = false:=by decide):PE X (.Name x pos) (zOW i):=by
 intro zB s σ H Q I h;obtain ⟨v,e,h⟩:=h;obtain ⟨m,hn,hl⟩:=I.loc;obtain ⟨u,r,l⟩:=hl i x v hN e hv;have fin:EP X zB σ Q u s:=⟨v,H,I,r,h⟩;rcases l with ⟨hk,hm⟩ | ⟨hk,c,hc,hcell⟩
 ·exact wpAny_Name (wpAny_loadName_local I.ok.kind hk hn hm fin) hd
 ·rcases hk with hk | hk
  ·exact wpAny_Name (wpAny_loadName_cell I.ok.kind hk hc hcell fin) hd
  ·exact wpAny_Name (wpAny_loadName_free I.ok.kind hk hc hcell fin hcd) hd
theorem zQn {i j pos}:PE X (.Constant (.int i) j pos) (tC (.int i)):=fun _ _ _ H _ I h=>wpAny_Constant_int ⟨.int i,H,I.tok _,⟨_,rfl⟩,h⟩
theorem zPr {b j pos}:PE X (.Constant (.bool b) j pos) (tC (.bl b)):=fun _ _ _ H _ I h=>Constant_bool ⟨.bl b,H,I,rfl,h⟩
theorem zQZ {j pos}:PE X (.Constant .none j pos) (tC .non):=fun _ _ _ H _ I h=>Constant_none ⟨.non,H,I,rfl,h⟩
theorem zQA {x j pos}:PE X (.Constant (.str x) j pos) (tC (.str x)):=fun _ _ _ H _ I h=>Calls.Constant_str ⟨.str x,H,I.tok _,⟨_,rfl⟩,h⟩
def Gl (X:Cx) (x:Str):Prop:=X.env.kindOf x = some .globalImplicit
theorem zEP {E:Value -> Shared -> Prop} {zB:List (Addr × Obj)} {s:Shared} {σ:St} {H:Hp} {x:Str} {u:Value} {pos:Pos} {Q:Value -> Shared -> Prop} (I:Inv X zB σ H s) (hg:Gl X x) (hm:X.mg x = some u) (h:Q u s)
  (hd:(x == ("__debug__" : Str)) = false:=by decide):wpAny (model X.prog X.w) X.A (eval (.Name x pos) X.env) Q E s :=
 Calls.Name_function_global I.ok.kind hg (Calls.loadGlobal_global (by rw [I.ok.glob]; exact I.mod.glob.keeps I.bk) hm h) hd
theorem zEw {E:Value -> Shared -> Prop} {zB:List (Addr × Obj)} {s:Shared} {σ:St} {H:Hp} {x:Str} {u:Value} {pos:Pos} {Q:Value -> Shared -> Prop} (I:Inv X zB σ H s) (hg:Gl X x) (hm:X.mg x = none) (hv:bootBuiltins x = some u) (h:Q u s)
  (hn:x ≠ "__name__" := by decide) (hd:(x == ("__debug__" : Str)) = false:=by decide):wpAny (model X.prog X.w) X.A (eval (.Name x pos) X.env) Q E s:=by
 obtain ⟨mb,h1,h2⟩:=I.mod.blt;exact Calls.Name_function_global I.ok.kind hg (Calls.loadGlobal_builtin (by rw [I.ok.glob]; exact I.mod.glob.keeps I.bk) hm (by rw [I.ok.blt]; exact h1.keeps I.bk) ((h2 x hn).trans hv) h) hd
theorem zFi {x:Str} {v:V} {u:Value} {pos:Pos} (hg:Gl X x) (hm:X.mg x = some u) (r:zt v u) (hd:(x == ("__debug__" : Str)) = false:=by decide):PE X (.Name x pos) (tC v) :=
 fun _ _ _ H _ I h=>zEP I hg hm ⟨v,H,I,r,h⟩ hd
theorem zKr {x:Str} {v:V} {u:Value} {pos:Pos} (hg:Gl X x) (hm:X.mg x = none) (hv:bootBuiltins x = some u) (r:zt v u) (hn:x ≠ "__name__" := by decide) (hd:(x == ("__debug__" : Str)) = false:=by decide):PE X (.Name x pos) (tC v) :=
 fun _ _ _ H _ I h=>zEw I hg hm hv ⟨v,H,I,r,h⟩ hn hd
variable {a b:Expr} {ta tb:TE} {pos:Pos}
def PC (X:Cx) (op:CmpOp) (a b:Expr) (t:TE):Prop :=
 ∀ (zB:List (Addr × Obj)) (s:Shared) (σ:St) (H:Hp) (Q:VK),Inv X zB σ H s -> t σ H Q ->
  wpAny (model X.prog X.w) X.A (eval a X.env) (fun v s₁=>wpAny (model X.prog X.w) X.A (eval b X.env) (fun u s₂=>wpAny (model X.prog X.w) X.A (compareOp op v u) (EP X zB σ Q) X.xe s₂) X.xe s₁) X.xe s
def tB (t:TE):TT:=fun σ H Q=>t σ H fun x H1=>∃ c,x = .bl c /\ Q c H1
theorem zQV {op:CmpOp} {t:TE} (h:PC X op a b t) (h1:behindInMarks op b = false:=by first | exact nobehind _ (by decide) (by decide) | rfl):PE X (.Compare a [op] [b] pos) t:=fun zB s σ H Q I hw=>wpAny_Compare1 (h zB s σ H Q I hw) h1
theorem zQT {op:CmpOp} {t:TE} (h:PC X op a b t) (h1:behindInMarks op b = false:=by first | exact nobehind _ (by decide) (by decide) | rfl):PT X (.Compare a [op] [b] pos) (tB t):=by
 intro zB s σ H Q I hw;refine wpAny_isTrue_Compare1 (thn (h zB s σ H _ I hw) fun v s1 h1=>thn h1 fun u s2 h2=>thn h2 fun c s3 ⟨x,H1,I1,r1,q1⟩=>?_) h1;obtain ⟨d,rfl,q⟩:=q1;cases r1;exact zUb ⟨H1,I1,q⟩
theorem zHm {e:Expr} {t:TE} (h:PE X e t) (he:∀ whole,isTrue e X.env whole = (do let v <- whole; standAt e.pos; holding [v] (truthy v)):=by intro _; rfl):PT X e (tB t):=by
 intro zB s σ H Q I hw;refine isTrue_plain (thn (h zB s σ H _ I hw) fun v s1 ⟨x,H1,I1,r1,q1⟩=>?_) (he _);obtain ⟨d,rfl,q⟩:=q1;cases r1;exact zUb ⟨H1,I1,q⟩
variable {tA tB':TT} {rest:List Expr}
def zTF (t u:TT):TT:=fun σ H Q=>t σ H fun c H1=>if c = true then u σ H1 Q else Q false H1
def tOr (t u:TT):TT:=fun σ H Q=>t σ H fun c H1=>if c = true then Q true H1 else u σ H1 Q
def zSw (t:TT):TT:=fun σ H Q=>t σ H fun c H1=>Q (!c) H1
theorem zKw (ha:PT X a tA):PW X (.BoolOp .And [a] pos) tA:=by
 intro wh zB s σ H Q I h;refine isTrue_and (thn (ha zB s σ H Q I h) fun c s1 e=>?_);cases c with
 | true=>exact isTrue_and_nil e
 | false=>exact e
theorem zQJ (ha:PT X a tA):PW X (.BoolOp .Or [a] pos) tA:=by
 intro wh zB s σ H Q I h;refine isTrue_or (thn (ha zB s σ H Q I h) fun c s1 e=>?_);cases c with
 | false=>exact isTrue_or_nil e
 | true=>exact e
theorem zJ1 (ha:PT X a tA) (hb:PW X (.BoolOp .And (b :: rest) pos) tB'):PW X (.BoolOp .And (a :: b :: rest) pos) (zTF tA tB'):=by
 intro wh zB s σ H Q I h;refine isTrue_and (thn (ha zB s σ H _ I h) fun c s1 ⟨H1,I1,q1⟩=>?_);cases c with
 | true=>exact hb wh zB s1 σ H1 Q I1 q1
 | false=>exact ⟨H1,I1,q1⟩
theorem zSX (ha:PT X a tA) (hb:PW X (.BoolOp .Or (b :: rest) pos) tB'):PW X (.BoolOp .Or (a :: b :: rest) pos) (tOr tA tB'):=by
 intro wh zB s σ H Q I h;refine isTrue_or (thn (ha zB s σ H _ I h) fun c s1 ⟨H1,I1,q1⟩=>?_);cases c with
 | true=>exact ⟨H1,I1,q1⟩
 | false=>exact hb wh zB s1 σ H1 Q I1 q1
theorem zOD (ha:PT X a tA):PT X (.UnaryOp .Not a pos) (zSw tA):=by
 intro zB s σ H Q I h;exact isTrue_not (ha zB s σ H (fun c H1=>Q (!c) H1) I h)
def zR0 (ta tb:TE):TE:=fun σ H Q=>ta σ H fun x H1=>∃ c,x = .bl c /\ if c = true then tb σ H1 Q else Q (.bl false) H1
def zSg (ta:TE):TE:=fun σ H Q=>ta σ H fun x H1=>∃ c,x = .bl c /\ Q (.bl (!c)) H1
theorem zRU {op} {t:TE} (h:PE X a t):PE X (.BoolOp op [a] pos) t:=fun zB s σ H Q I hw=>BoolOp_one (h zB s σ H Q I hw)
theorem zRO (ha:PE X a ta) (hb:PE X (.BoolOp .And (b :: rest) pos) tb):PE X (.BoolOp .And (a :: b :: rest) pos) (zR0 ta tb):=by
 intro zB s σ H Q I h;refine BoolOp_and (thn (ha zB s σ H _ I h) fun v s1 ⟨x,H1,I1,r1,q1⟩=>?_);obtain ⟨c,rfl,q1⟩:=q1;cases r1;refine zUb ?_;cases c with
 | true=>exact hb zB s1 σ H1 Q I1 q1
 | false=>exact ⟨.bl false,H1,I1,rfl,q1⟩
theorem zQy (ha:PE X a ta):PE X (.UnaryOp .Not a pos) (zSg ta):=by
 intro zB s σ H Q I h;refine UnaryOp_ (thn (ha zB s σ H _ I h) fun v s1 ⟨x,H1,I1,r1,q1⟩=>?_);obtain ⟨c,rfl,q1⟩:=q1;cases r1;exact not_of (zUb ⟨.bl (!c),H1,I1,rfl,q1⟩)
def tIf (t:TT) (ta tb:TE):TE:=fun σ H Q=>t σ H fun c H1=>if c = true then ta σ H1 Q else tb σ H1 Q
theorem zMM {c:Expr} (hc:PT X c tA) (ha:PE X a ta) (hb:PE X b tb):PE X (.IfExp c a b pos) (tIf tA ta tb):=by
 intro zB s σ H Q I h;refine wpAny_IfExp (thn (hc zB s σ H _ I h) fun d s1 ⟨H1,I1,q1⟩=>?_);cases d with
 | true=>exact ha zB s1 σ H1 Q I1 q1
 | false=>exact hb zB s1 σ H1 Q I1 q1
end
def SqL (K:PySem.W.Frag) (H:Hp) (a:Addr) (xs:List V):Prop :=
 Rd H a (.lst xs) \/
  ∃ (o:Obj) (its:Array Value) (n:Nat),K.lookup a = some o /\ o.cls = .type "list" /\ o.dict = none /\ o.data = .seq its n /\ its.size <= sizeLine /\ zg xs its.toList
def SqT (K:PySem.W.Frag) (H:Hp) (a:Addr) (xs:List V):Prop :=
 Rd H a (.tup xs) \/
  ∃ (o:Obj) (its:Array Value) (n:Nat),K.lookup a = some o /\ o.cls = .type "tuple" /\ o.data = .seq its n /\ its.size <= sizeLine /\ zg xs its.toList
def zSv:Value -> Option V
 | .none=>some .non
 | .bool b=>some (.bl b)
 | .int i _=>some (.int i)
 | .str x _=>some (.str x)
 | .bytes b _=>some (.byt b)
 | .float b _=>some (.flt b)
 | .ref a=>some (.ref a)
 | .type n=>some (.ty n)
 | _=>none
theorem zt.abs {x:V} {u:Value} (r:zt x u):zSv u = some x:=by
 cases x with
 | non=>cases r; rfl
 | bl _=>cases r; rfl
 | int _=>obtain ⟨t,rfl⟩:=r; rfl
 | str _=>obtain ⟨t,rfl⟩:=r; rfl
 | byt _=>obtain ⟨t,rfl⟩:=r; rfl
 | flt _=>obtain ⟨t,rfl⟩:=r; rfl
 | ref _=>cases r; rfl
 | ty _=>cases r; rfl
theorem zt.inj {x y:V} {u:Value} (r:zt x u) (q:zt y u):x = y:=zUP (r.abs.symm.trans q.abs)
theorem zg.inj:∀ {xs ys:List V} {us:List Value},zg xs us -> zg ys us -> xs = ys
 | _,_,_,.nil,.nil=>rfl
 | _,_,_,.cons r t,.cons r' t'=>by rw [r.inj r',zg.inj t t']
section
variable {X:Cx} {zB:List (Addr × Obj)} {σ:St} {H:Hp} {s:Shared} {a:Addr} {xs ys:List V}
theorem SqL.of {K:PySem.W.Frag} (h:H a = some (.lst xs)):SqL K H a xs:=.inl (.inl h)
theorem SqT.of {K:PySem.W.Frag} (h:H a = some (.tup xs)):SqT K H a xs:=.inl (.inl h)
theorem Inv.list (I:Inv X zB σ H s) (h:SqL X.K H a xs):∃ its:List Value,zg xs its /\ PlainL s.heap a its.toArray /\ xs.length <= sizeLine:=by
 rcases h with h | ⟨o,its,n,hk,hc,hd,hs,hz,r⟩
 ·obtain ⟨z,its,n,r,e⟩:=h.ok I.hok;exact ⟨its,r,⟨_,n,e,rfl,rfl,rfl⟩,z⟩
 ·refine ⟨its.toList,r,⟨o,n,I.kIn a o hk,hc,hd,by simpa using hs⟩,?_⟩;have e:=r.length;simp only [zT8] at e;omega
theorem Inv.tuple (I:Inv X zB σ H s) (h:SqT X.K H a xs):∃ its:List Value,zg xs its /\ IsTup s.heap a its.toArray /\ xs.length <= sizeLine:=by
 rcases h with h | ⟨o,its,n,hk,hc,hs,hz,r⟩
 ·obtain ⟨z,its,r,p⟩:=h.ok I.hok;exact ⟨its,r,p.tup,z⟩
 ·refine ⟨its.toList,r,⟨o,I.kIn a o hk,hc,n,by simpa using hs⟩,?_⟩;have e:=r.length;simp only [zT8] at e;omega
theorem Inv.list_inj (I:Inv X zB σ H s) (h:SqL X.K H a xs) (h':SqL X.K H a ys):xs = ys:=by
 obtain ⟨its,r,⟨o,n,e,_,_,d⟩,_⟩:=I.list h;obtain ⟨its',r',⟨o',n',e',_,_,d'⟩,_⟩:=I.list h';rw [e] at e'; cases e';rw [d] at d';injection d' with d1 _
 have:its = its':=by simpa using zVC Array.toList d1
 subst this;exact r.inj r'
theorem Inv.tuple_inj (I:Inv X zB σ H s) (h:SqT X.K H a xs) (h':SqT X.K H a ys):xs = ys:=by
 obtain ⟨its,r,⟨o,e,_,n,d⟩,_⟩:=I.tuple h;obtain ⟨its',r',⟨o',e',_,n',d'⟩,_⟩:=I.tuple h';rw [e] at e'; cases e';rw [d] at d';injection d' with d1 _
 have:its = its':=by simpa using zVC Array.toList d1
 subst this;exact r.inj r'
end
abbrev Cx.wish (X:Cx) (E:Value -> Shared -> Prop):Cx:={ X with xe:=E }
abbrev Cx.nox (X:Cx):Cx:=X.wish fun _ _=>False
theorem Cx.Ok.wish {X:Cx} (ok:X.Ok) (E:Value -> Shared -> Prop):(X.wish E).Ok :=
 ⟨ok.mod,ok.kind,ok.glob,ok.blt,ok.above,ok.inj,ok.has,ok.cab,ok.hd,ok.frames,ok.stk,ok.exf,ok.bs,ok.bsz,ok.noex,ok.exfs,ok.funs,ok.frf⟩
theorem Cx.Ok.unwish {X:Cx} {E:Value -> Shared -> Prop} (ok:(X.wish E).Ok):X.Ok :=
 ⟨ok.mod,ok.kind,ok.glob,ok.blt,ok.above,ok.inj,ok.has,ok.cab,ok.hd,ok.frames,ok.stk,ok.exf,ok.bs,ok.bsz,ok.noex,ok.exfs,ok.funs,ok.frf⟩
section
variable {X:Cx} {zB:List (Addr × Obj)} {σ:St} {H:Hp} {s:Shared} {E:Value -> Shared -> Prop}
theorem Inv.wish (I:Inv X zB σ H s) (E:Value -> Shared -> Prop):Inv (X.wish E) zB σ H s:=⟨I.ok.wish E,I.os,I.bare,I.base,I.loc,I.cell,I.free,I.freeC,I.pin,I.hok,I.len⟩
theorem Inv.unwish (I:Inv (X.wish E) zB σ H s):Inv X zB σ H s:=⟨I.ok.unwish,I.os,I.bare,I.base,I.loc,I.cell,I.free,I.freeC,I.pin,I.hok,I.len⟩
theorem SP.unwish {D:Ends} {f:Flow} {s':Shared} (h:SP (X.wish E) zB D f s'):SP X zB D f s':=by
 cases f with
 | next=>obtain ⟨σ',H',I,q⟩:=h; exact ⟨σ',H',I.unwish,q⟩
 | brk=>obtain ⟨σ',H',I,q⟩:=h; exact ⟨σ',H',I.unwish,q⟩
 | cont=>obtain ⟨σ',H',I,q⟩:=h; exact ⟨σ',H',I.unwish,q⟩
 | ret u=>obtain ⟨v,σ',H',I,r,q⟩:=h; exact ⟨v,σ',H',I.unwish,r,q⟩
theorem PSs.nox {st:List Stmt} {t:TS} (h:PSs X.nox st t):PSs X st t:=fun zB s σ H D I hw=>
 zTq (h zB s σ H D (I.wish _) hw) (fun _ _ q=>q.unwish) fun _ _ z=>False.elim z
end
section
variable {X:Cx} {st:Stmt} {rest:List Stmt} {t u:TS} {e:Expr} {te:TE} {pos:Pos}
def zR9:TS:=fun D σ H=>D.nx σ H
def zSz (t u:TS):TS:=fun D σ H=>t { D with nx:=u D } σ H
theorem zKX:PSs X [] zR9:=fun _ _ σ H _ I h=>wpAny_execs_nil ⟨σ,H,I,h⟩
theorem zGH (h1:PS X st t) (h2:PSs X rest u):PSs X (st :: rest) (zSz t u):=by
 intro zB s σ H D I h;refine wpAny_execs_cons (thn (h1 zB s σ H { D with nx:=u D } I h) fun f s1 q=>?_);cases f with
 | next=>
  obtain ⟨σ',H',I',q⟩:=q;exact h2 zB s1 σ' H' D I' q
 | ret v=>exact q
 | brk=>exact q
 | cont=>exact q
theorem zFd (h1:PS X st t):PSs X [st] t:=by
 intro zB s σ H D I h;refine wpAny_execs_cons (thn (h1 zB s σ H D I h) fun f s1 q=>?_);cases f with
 | next=>exact wpAny_execs_nil q
 | ret v=>exact q
 | brk=>exact q
 | cont=>exact q
theorem Inv.quiet {zB:List (Addr × Obj)} {σ:St} {H:Hp} {s:Shared} (I:Inv X zB σ H s):interactive X.env = false:=by simp [interactive,I.ok.kind]
def zSs (te:TE):TS:=fun D σ H=>te σ H fun _ H1=>D.nx σ H1
theorem zOy (he:PE X e te) (hs:swapsWith e none pos.line X.env = pure false:=by rfl):PS X (.Expr e pos) (zSs te):=by
 intro zB s σ H D I h;exact wpAny_Expr_any (thn (he zB s σ H _ I h) fun v s1 ⟨x,H1,I1,r1,q1⟩=>⟨σ,H1,I1,q1⟩) I.quiet hs
def zS0 (te:TE):TS:=fun D σ H=>te σ H D.rt
theorem zNG (he:PE X e te):PS X (.Return (some e) pos) (zS0 te):=by
 intro zB s σ H D I h;exact wpAny_Return_some (thn (he zB s σ H _ I h) fun v s1 ⟨x,H1,I1,r1,q1⟩=>⟨x,σ,H1,I1,r1,q1⟩)
def zSu (c:TT) (t u:TS):TS:=fun D σ H=>c σ H fun b H1=>if b = true then t D σ H1 else u D σ H1
theorem zMW {c:Expr} {a b:List Stmt} {tc:TT} (hc:PT X c tc) (ha:PSs X a t) (hb:PSs X b u):PS X (.If c a b pos) (zSu tc t u):=by
 intro zB s σ H D I h;refine wpAny_If (thn (hc zB s σ H _ I h) fun d s1 ⟨H1,I1,q1⟩=>?_);cases d with
 | true=>exact ha zB s1 σ H1 D I1 q1
 | false=>exact hb zB s1 σ H1 D I1 q1
end
abbrev TG:=V -> St -> Hp -> (St -> Hp -> Prop) -> Prop
abbrev TGs:=List V -> St -> Hp -> (St -> Hp -> Prop) -> Prop
def PG (X:Cx) (target:Expr) (t:TG):Prop :=
 ∀ (zB:List (Addr × Obj)) (s:Shared) (σ:St) (H:Hp) (v:V) (u:Value) (Q:St -> Hp -> Prop),Inv X zB σ H s -> zt v u -> t v σ H Q ->
  wpAny (model X.prog X.w) X.A (assign target X.env u) (fun _ s'=>∃ σ' H',Inv X zB σ' H' s' /\ Q σ' H') X.xe s
def PGs (X:Cx) (ts:List Expr) (t:TGs):Prop :=
 ∀ (zB:List (Addr × Obj)) (s:Shared) (σ:St) (H:Hp) (vs:List V) (us:List Value) (Q:St -> Hp -> Prop),Inv X zB σ H s -> zg vs us -> t vs σ H Q ->
  wpAny (model X.prog X.w) X.A (assignInOrder ((assignEach ts X.env).map (·.2)) us) (fun _ s'=>∃ σ' H',Inv X zB σ' H' s' /\ Q σ' H') X.xe s
abbrev zRC:=V -> V -> V -> Hp -> (Hp -> Prop) -> Prop
def zSP (X:Cx) (t:zRC):Prop :=
 ∀ (zB:List (Addr × Obj)) (s:Shared) (σ:St) (H:Hp) (o i v:V) (ov iv u:Value) (Q:Hp -> Prop),Inv X zB σ H s -> zt o ov -> zt i iv -> zt v u -> t o i v H Q ->
  wpAny (model X.prog X.w) X.A (setItem ov iv u) (fun _ s'=>∃ H',Inv X zB σ H' s' /\ Q H') X.xe s
section
variable {X:Cx} {pos:Pos}
def zDy (i:Nat):TG:=fun v σ H Q=>Q (σ.set i (some v)) H
theorem zK6 {i:Nat} {x:Str} (hN:X.N.Nodup) (hi:X.N[i]? = some x) (hx:Loc X.env.scope x) (hf:X.fn x = true \/ X.env.scope.names.lookup x = some .local:=by first | exact .inl rfl | exact .inr rfl | assumption):PG X (.Name x pos) (zDy i):=by
 intro zB s σ H v u Q I r h;exact wpAny_assign_Name (zEq I hN hi hx r (fun s' I'=>⟨_,H,I',h⟩) hf)
def zR7:TGs:=fun vs σ H Q=>vs = [] /\ Q σ H
def zM9 (t:TG) (u:TGs):TGs:=fun vs σ H Q=>∃ v r,vs = v :: r /\ t v σ H fun σ' H'=>u r σ' H' Q
theorem zEb:PGs X [] zR7:=by
 intro zB s σ H vs us Q I r h;obtain ⟨e,h⟩:=h;subst e;cases r;exact assignInOrder_nil ⟨σ,H,I,h⟩
theorem zA8 {e:Expr} {es:List Expr} {t:TG} {u:TGs} (h1:PG X e t) (h2:PGs X es u)
  (hs:(assignEach (e :: es) X.env).map (·.2) = assign e X.env :: (assignEach es X.env).map (·.2):=by rfl):PGs X (e :: es) (zM9 t u):=by
 intro zB s σ H vs us Q I r h;obtain ⟨v,vr,e1,h⟩:=h;subst e1;cases r with
 | cons r rr=>
  rw [hs];refine assignInOrder_cons (thn (h1 zB s σ H _ _ _ I r h) fun _ s1 ⟨σ1,H1,I1,q1⟩=>?_);exact h2 zB s1 σ1 H1 _ _ Q I1 rr q1
def zSD (K:PySem.W.Frag) (n:Nat) (t:TGs):TG:=fun v σ H Q=>∃ a xs,v = .ref a /\ SqT K H a xs /\ xs.length = n /\ t xs σ H Q
theorem zF1 {es:List Expr} {k:Nat} {t:TGs} {n:Nat} (hc:X.calm = true) (h:PGs X es t)
  (hn:(assignEach es X.env).length = n:=by rfl) (hst:(assignEach es X.env).findIdx? (·.1) = none:=by rfl):PG X (.Tuple es k pos) (zSD X.K n t):=by
 intro zB s σ H v u Q I r hw;obtain ⟨a,xs,e1,hq,hl,hw⟩:=hw;subst e1;cases r;obtain ⟨its,rv,ht,hz⟩:=I.tuple hq;refine assign_Tuple_tuple (I.ok.hd hc) ht (by simp [hn,<- hl,rv.length]) hst fun h' hx=>?_;have I1:Inv X zB σ H { s with heap:=h' }:=I.kept (t':=s.toks) fun b o e=>hx b o (zTf (zTV e)) e;exact h zB _ σ H xs _ Q I1 (by simpa using rv) hw
def zTJ (to ti:TE) (t:zRC):TG:=fun v σ H Q=>to σ H fun o H1=>ti σ H1 fun i H2=>t o i v H2 fun H3=>Q σ H3
theorem zRR {o i:Expr} {to ti:TE} {t:zRC} (ho:PE X o to) (hi:PE X i ti) (hs:zSP X t)
  (ha:∀ v,assign (.Subscript o i pos) X.env v = (do
   let ov <- holding [v] (eval o X.env);let iv <- holding [v,ov] (eval i X.env);standAt pos;holding [v,ov,iv] (setItem ov iv v);release [v,ov,iv] []):=by intro _; rfl):PG X (.Subscript o i pos) (zTJ to ti t):=by
 intro zB s σ H v u Q I r h;rw [ha];refine zTK (zUI (thn (ho zB s σ H _ I h) fun ov s1 ⟨x,H1,I1,r1,q1⟩=>?_));refine zTK (zUI (thn (hi zB s1 σ H1 _ I1 q1) fun iv s2 ⟨y,H2,I2,r2,q2⟩=>?_));refine zTK (wpAny_standAt (zTK (zUI (thn (hs zB s2 σ H2 x y v ov iv u _ I2 r1 r2 r q2) fun _ s3 ⟨H3,I3,q3⟩=>?_))));exact wpAny_release ⟨σ,H3,I3,q3⟩
def zOR (te:TE) (g:TG):TS:=fun D σ H=>te σ H fun x H1=>g x σ H1 D.nx
theorem zRb {tg e:Expr} {te:TE} {g:TG} (he:PE X e te) (hg:PG X tg g) (hs:swapsWithSole [tg] e pos.line X.env = pure false:=by rfl) (hw:swappedStores [tg] e X.env = pure none:=by rfl)
  (h1:(assignEach [tg] X.env).map (·.2) = [assign tg X.env]:=by rfl):PS X (.Assign [tg] e pos) (zOR te g):=by
 intro zB s σ H D I h;refine wpAny_Assign_stores (thn (he zB s σ H _ I h) fun v s1 ⟨x,H1,I1,r1,q1⟩=>?_) hs hw;rw [h1];exact thn (hg zB s1 σ H1 x v _ I1 r1 q1) fun _ s2 q=>q
theorem zHk {i:Nat} {x:Str} {e:Expr} {te:TE} {pos':Pos} (hN:X.N.Nodup) (hi:X.N[i]? = some x) (hx:Loc X.env.scope x) (he:PE X e te) (hs:swapsWith e (some (.Name x pos')) pos.line X.env = pure false:=by rfl) (hf:X.fn x = true \/ X.env.scope.names.lookup x = some .local:=by first | exact .inl rfl | exact .inr rfl | assumption) :
  PS X (.Assign [.Name x pos'] e pos) (zOR te (zDy i)):=by
 intro zB s σ H D I h;refine wpAny_Assign_Name (thn (he zB s σ H _ I h) fun v s1 ⟨y,H1,I1,r1,q1⟩=>?_) hs;exact zEq I1 hN hi hx r1 (fun s2 I2=>⟨_,H1,I2,q1⟩) hf
def zN0 (c:TT) (tb:TS):TS:=fun D σ H=>∃ W:Nat -> St -> Hp -> Prop,(∃ m,W m σ H) /\ ∀ m σ H,W m σ H ->
 c σ H fun b H1=>if b = true then ∃ N:St -> Hp -> Prop,(∀ σ' H',N σ' H' -> ∃ m',m' < m /\ W m' σ' H') /\ tb { D with nx:=N,ct:=N,bk:=D.nx } σ H1 else D.nx σ H1
theorem zMz {c:Expr} {body:List Stmt} {tc:TT} {tb:TS} (hp:PassesOwn (model X.prog X.w) X.A X.env X.xe) (hc:PT X c tc) (hb:PSs X body tb):PS X (.While c body [] pos) (zN0 tc tb):=by
 intro zB s σ H D I h;obtain ⟨W,⟨m0,w0⟩,turn⟩:=h;refine wpAny_While (codeAny_whileLoop (fun n s'=>∃ σ' H',Inv X zB σ' H' s' /\ W n σ' H') ?_ m0 ⟨σ,H,I,w0⟩);rintro n s1 ⟨σ1,H1,I1,w1⟩;refine wpAny_passesOwn hp (thn (hc zB s1 σ1 H1 _ I1 (turn n σ1 H1 w1)) fun b s2 ⟨H2,I2,q2⟩=>?_);cases b with
 | true=>
  obtain ⟨N,hN,q2⟩:=q2;rw [zTZ rfl];refine wpAny_passesOwn hp (thn (hb zB s2 σ1 H2 _ I2 q2) fun f s3 q3=>?_);cases f with
  | next=>
   obtain ⟨σ3,H3,I3,n3⟩:=q3;obtain ⟨m',hm,w3⟩:=hN σ3 H3 n3;exact ⟨m',hm,σ3,H3,I3,w3⟩
  | cont=>
   obtain ⟨σ3,H3,I3,n3⟩:=q3;obtain ⟨m',hm,w3⟩:=hN σ3 H3 n3;exact ⟨m',hm,σ3,H3,I3,w3⟩
  | brk=>exact q3
  | ret v=>exact q3
 | false=>
  rw [zTc zTg];exact wpAny_execs_nil ⟨σ1,H2,I2,q2⟩
end
structure It where
 go:Nat -> Hp -> Prop
 yld:Nat -> Hp -> V -> Hp -> Prop
 stop:Nat -> Hp -> Prop
def zDv (X:Cx) (zB:List (Addr × Obj)) (H:Hp) (b:Addr):Prop :=
 H b = none /\ b ≠ X.env.locals /\ b ∉ X.fs /\ (b ∈ X.ex \/ X.s₀.heap.objs.size <= b) /\ (∀ x c,X.env.cells.lookup x = some c -> c ≠ b) /\ ∀ p ∈ X.pn ++ zB,p.1 ≠ b
theorem Inv.fpOk {X:Cx} {zB:List (Addr × Obj)} {σ:St} {H H':Hp} {s:Shared} {b:Addr} (I:Inv X zB σ H s) (hb:s.heap.objs.size <= b) (hn:H' b = none):zDv X zB H' b:=by
 refine ⟨hn,Nat.ne_of_gt (zTj I.lt hb),I.nofs hb,.inr (zTl I.sz hb),fun x c e z=>?_,fun p hp z=>?_⟩
 ·obtain ⟨v,q⟩:=I.cell x c e;exact absurd (zTj q.lt (by rw [z]; exact hb)) (zT7 _)
 ·exact absurd (zTj (zTV (I.pin p hp).1) (by rw [z]; exact hb)) (zT7 _)
structure Turn (P:Program) (w:World) (K:PySem.W.Frag) (tg:Expr) (J:It) (fp:List Addr) (it:Addr) (tn:Nat -> Heap -> Prop):Prop where
 mem:it ∈ fp
 obj:∀ i h,tn i h -> ∀ b ∈ fp,∃ o,h.get? b = some o /\ ∀ v,o.data ≠ .cell v
 keep:∀ i h h',tn i h -> (∀ b ∈ fp,∀ o,h.get? b = some o -> h'.get? b = some o) -> tn i h'
 item:∀ (X:Cx),X.prog = P -> X.w = w -> X.K = K -> X.calm = true -> ∀ (i:Nat) (zB:List (Addr × Obj)) (s:Shared) (σ:St) (H:Hp) (E:Value -> Shared -> Prop),Inv X zB σ H s -> (∀ b ∈ fp,zDv X zB H b) -> tn i s.heap -> J.go i H ->
  wpAny (model P w) X.A (pyNext (.ref it)) (fun r s1=>∃ u,r = some u /\
   wpAny (model P w) X.A (letOwnedTupleGo tg (.ref it) u) (fun _ s2=>∃ x H',Inv X zB σ H' s2 /\ zt x u /\ J.yld i H x H' /\ tn (i + 1) s2.heap /\ ∀ b ∈ fp,H' b = none) E s1) E s
 done:∀ (X:Cx),X.prog = P -> X.w = w -> X.K = K -> X.calm = true -> ∀ (i:Nat) (zB:List (Addr × Obj)) (s:Shared) (σ:St) (H:Hp) (E:Value -> Shared -> Prop),Inv X zB σ H s -> (∀ b ∈ fp,zDv X zB H b) -> tn i s.heap -> J.stop i H ->
  wpAny (model P w) X.A (pyNext (.ref it)) (fun r s1=>r = none /\ Inv X zB σ H s1) E s
 self:∀ (A:Around) (i:Nat) (s:Shared) (Q:Value -> Shared -> Prop) (E:Value -> Shared -> Prop),tn i s.heap -> Q (.ref it) s -> wpAny (model P w) A (pyIter (.ref it)) Q E s
abbrev TI:=St -> Hp -> (It -> Hp -> Prop) -> Prop
def PIE (X:Cx) (zB:List (Addr × Obj)) (σ:St) (tg:Expr) (R:It -> Hp -> Prop) (itv:Value) (s2:Shared):Prop :=
 ∃ (it:Addr) (fp:List Addr) (tn:Nat -> Heap -> Prop) (J:It) (H':Hp),itv = .ref it /\ Inv X zB σ H' s2 /\ Turn X.prog X.w X.K tg J fp it tn /\ tn 0 s2.heap /\ (∀ b ∈ fp,zDv X zB H' b) /\ R J H'
def PI (X:Cx) (tg iter:Expr) (wi:TI):Prop :=
  ∀ (zB:List (Addr × Obj)) (s:Shared) (σ:St) (H:Hp) (R:It -> Hp -> Prop),Inv X zB σ H s -> wi σ H R ->
    wpAny (model X.prog X.w) X.A (eval iter X.env) (fun v s1=>wpAny (model X.prog X.w) X.A (pyIter v) (PIE X zB σ tg R) X.xe s1) X.xe s
theorem zIM {M:Model} {A:Around} {E:Value -> Shared -> Prop} {s:Shared} {tg:Expr} {it:Addr} {u:Value} {o:Obj} {n:String} {vs:Array Value} {Q:Unit -> Shared -> Prop} (ho:s.heap.get? it = some o) (hc:o.cls = .type n) (hd:o.data = .fields vs)
    (hn:["enumerate", "zip", "dict_itemiterator", "dict_reverseitemiterator", "odict_iterator", "itertools.zip_longest", "itertools.pairwise"].contains n = false) (hQ:Q () s):wpAny M A (letOwnedTupleGo tg (.ref it) u) Q E s:=by
  unfold letOwnedTupleGo
  cases tg <;> first
    | exact zTM hQ
    | (cases u <;> first
        | exact zTM hQ
        | (refine zTK (wpAny_load ho ?_)
           rw [hc,hd];show wpAny M A (if (["enumerate", "zip", "dict_itemiterator", "dict_reverseitemiterator", "odict_iterator", "itertools.zip_longest", "itertools.pairwise"].contains n && vs[0]? == some (rawInt _)) = true then _ else _) Q E s;rw [zTc (by intro h; rw [hn,Bool.false_and] at h; cases h)];exact zTM hQ))
def Itl (K:PySem.W.Frag) (a:Addr):It :=
 ⟨fun i H=>∃ xs x,SqL K H a xs /\ xs[i]? = some x,fun i H x H'=>H' = H /\ ∀ xs,SqL K H a xs -> xs[i]? = some x,fun i H=>∃ xs,SqL K H a xs /\ xs.length <= i⟩
def Itt (K:PySem.W.Frag) (a:Addr):It :=
 ⟨fun i H=>∃ xs x,SqT K H a xs /\ xs[i]? = some x,fun i H x H'=>H' = H /\ ∀ xs,SqT K H a xs -> xs[i]? = some x,fun i H=>∃ xs,SqT K H a xs /\ xs.length <= i⟩
def Itr (lo:Int) (n:Nat):It:=⟨fun i _=>i < n,fun i H x H'=>H' = H /\ x = .int (lo + i),fun i _=>n <= i⟩
theorem zLy {P:Program} {w:World} {K:PySem.W.Frag} {tg:Expr} (a it:Addr):Turn P w K tg (Itl K a) [it] it (fun i h=>h.IsListIter it a i) where
 mem:=by simp
 obj:=fun i h st b hb=>by
  have e:b = it:=by simpa using hb
  subst e;obtain ⟨o,e,c,d⟩:=st;exact ⟨o,e,fun v z=>by rw [d] at z; cases z⟩
 keep:=fun i h h' st k=>st.at fun o e=>k it (by simp) o e;item:=by
  intro X hP hw hK hc i zB s σ H E I hf st hg;subst hP hw hK;obtain ⟨xs,x,hq,hx⟩:=hg;obtain ⟨its,rv,p,hz⟩:=I.list hq;obtain ⟨u,hu,ru⟩:=rv.get hx;obtain ⟨f0,f1,f2,f3,f4,f5⟩:=hf it (by simp);refine wpAny_pyNext_list_item st p.isList (x:=u) (by simpa using hu) fun h' st' sb=>?_;have I1:Inv X zB σ H { s with heap:=h' }:=I.turned (t':=s.toks) (fun b o hb e=>(sb.2 b hb).trans e) f0 f1 f3 f4 f5;obtain ⟨o,e,c,d⟩:=id st';exact ⟨u,rfl,zIM (s:={ s with heap:=h' }) e c d (by decide) ⟨x,H,I1,ru,⟨rfl,fun ys hy=>by rw [I.list_inj hy hq]; exact hx⟩,st',fun b hb=>(hf b hb).1⟩⟩
 done:=by
  intro X hP hw hK hc i zB s σ H E I hf st hg;subst hP hw hK;obtain ⟨xs,hq,hx⟩:=hg;obtain ⟨its,rv,p,hz⟩:=I.list hq;obtain ⟨f0,f1,f2,f3,f4,f5⟩:=hf it (by simp);have hl:=rv.length;exact wpAny_pyNext_list_end (I.ok.hd hc) st p.isList (by simp; omega) fun h' eb=>⟨rfl,I.turned (t':=s.toks) (fun b o hb e=>eb b o hb e) f0 f1 f3 f4 f5⟩
 self:=fun _ _ _ _ _ st h=>wpAny_pyIter_listiter st h
theorem zJq {P:Program} {w:World} {K:PySem.W.Frag} {tg:Expr} (a it:Addr):Turn P w K tg (Itt K a) [it] it (fun i h=>h.IsTupleIter it a i) where
 mem:=by simp
 obj:=fun i h st b hb=>by
  have e:b = it:=by simpa using hb
  subst e;obtain ⟨o,e,c,d⟩:=st;exact ⟨o,e,fun v z=>by rw [d] at z; cases z⟩
 keep:=fun i h h' st k=>st.at fun o e=>k it (by simp) o e;item:=by
  intro X hP hw hK hc i zB s σ H E I hf st hg;subst hP hw hK;obtain ⟨xs,x,hq,hx⟩:=hg;obtain ⟨its,rv,p,hz⟩:=I.tuple hq;obtain ⟨u,hu,ru⟩:=rv.get hx;obtain ⟨f0,f1,f2,f3,f4,f5⟩:=hf it (by simp);refine wpAny_pyNext_tuple_item st (show s.heap.IsTuple a its.toArray from p) (x:=u) (by simpa using hu) fun h' st' sb=>?_;have I1:Inv X zB σ H { s with heap:=h' }:=I.turned (t':=s.toks) (fun b o hb e=>(sb.2 b hb).trans e) f0 f1 f3 f4 f5;obtain ⟨o,e,c,d⟩:=id st';exact ⟨u,rfl,zIM (s:={ s with heap:=h' }) e c d (by decide) ⟨x,H,I1,ru,⟨rfl,fun ys hy=>by rw [I.tuple_inj hy hq]; exact hx⟩,st',fun b hb=>(hf b hb).1⟩⟩
 done:=by
  intro X hP hw hK hc i zB s σ H E I hf st hg;subst hP hw hK;obtain ⟨xs,hq,hx⟩:=hg;obtain ⟨its,rv,p,hz⟩:=I.tuple hq;obtain ⟨f0,f1,f2,f3,f4,f5⟩:=hf it (by simp);have hl:=rv.length;exact wpAny_pyNext_tuple_end (I.ok.hd hc) st (show s.heap.IsTuple a its.toArray from p) (by simp; omega) fun h' eb=>⟨rfl,I.turned (t':=s.toks) (fun b o hb e=>eb b o hb e) f0 f1 f3 f4 f5⟩
 self:=fun _ _ _ _ _ st h=>wpAny_pyIter_tupleiter st h
theorem zJX {P:Program} {w:World} {K:PySem.W.Frag} {tg:Expr} (it:Addr) (lo:Int) (n:Nat):Turn P w K tg (Itr lo n) [it] it (fun i h=>IsRangeIter h it (lo + (i:Nat) * 1) ((n:Int) - (i:Nat)) 1) where
 mem:=by simp
 obj:=fun i h st b hb=>by
  have e:b = it:=by simpa using hb
  subst e;exact ⟨_,st,fun v z=>by
   have z':Data.fields _ = Data.cell v:=z;cases z'⟩
 keep:=fun i h h' st k=>k it (by simp) _ st;item:=by
  intro X hP hw hK hc i zB s σ H E I hf st hg;subst hP hw hK;obtain ⟨f0,f1,f2,f3,f4,f5⟩:=hf it (by simp);have W:=Walks.range (prog:=X.prog) (w:=X.w) (I.ok.hd hc) it lo 1 n;refine W.item i s _ _ hg st fun v h' tk hv st' kk=>?_;obtain ⟨t,rfl⟩:=hv;have I1:Inv X zB σ H { s with heap:=h',toks:=tk }:=I.turned (fun b o hb e=>kk b o (by simpa using hb) e) f0 f1 f3 f4 f5;refine ⟨_,rfl,zIM (s:={ s with heap:=h',toks:=tk }) (n := "range_iterator") st' rfl rfl (by decide) ⟨.int (lo + i),H,I1,⟨t,?_⟩,⟨rfl,rfl⟩,st',fun b hb=>(hf b hb).1⟩⟩;rw [Int.mul_one]
 done:=by
  intro X hP hw hK hc i zB s σ H E I hf st hg;subst hP hw hK;obtain ⟨f0,f1,f2,f3,f4,f5⟩:=hf it (by simp);exact wpAny_pyNext_range_end (I.ok.hd hc) st (by have:n <= i:=hg; omega) fun h' eb=>⟨rfl,I.turned (t':=s.toks) (fun b o hb e=>eb b o hb e) f0 f1 f3 f4 f5⟩
 self:=fun _ _ _ _ _ st h=>wpAny_pyIter_rangeiter st h
section
variable {X:Cx} {tg:Expr}
theorem zML {zB:List (Addr × Obj)} {σ:St} {H:Hp} {s:Shared} {R:It -> Hp -> Prop} {E:Value -> Shared -> Prop} {lo hi:Int} {t u v:Tok} {tk:Nat} (I:Inv X zB σ H s) (h1 : -(2 ^ 62) <= lo) (h2:lo < 2 ^ 62) (h3 : -(2 ^ 62) <= hi) (h4:hi < 2 ^ 62)
  (q:R (Itr lo (hi - lo).toNat) H):wpAny (model X.prog X.w) X.A (pyIter (.ref s.heap.objs.size)) (PIE X zB σ tg R) E { s with heap:=s.heap.push { cls:=.type "range", data:=.fields #[.int lo t,.int hi u,.int 1 v] },toks:=tk }:=by
 refine wpAny_pyIter_range (IsRange.new ..) (small_one h1 h2 h3 h4) ?_;have I1:Inv X zB σ H { s with heap:=s.heap.push { cls:=.type "range", data:=.fields #[.int lo t,.int hi u,.int 1 v] },toks:=tk }:=I.kept fun b o e=>zTL _ e
 refine ⟨(s.heap.push { cls:=.type "range", data:=.fields #[.int lo t,.int hi u,.int 1 v] }).objs.size,[(s.heap.push { cls:=.type "range", data:=.fields #[.int lo t,.int hi u,.int 1 v] }).objs.size],_,_,H,rfl,
  I1.kept (t':=tk) fun b o e=>zTL _ e,zJX _ lo (hi - lo).toNat,?_,fun b hb=>?_,q⟩
 ·have e1:lo + ((0:Nat):Int) * 1 = lo:=by simp
  have e2:(((hi - lo).toNat:Nat):Int) - ((0:Nat):Int) = Builtin.Range.rangeSize lo hi 1:=by rw [rangeSize_one]; split <;> omega
  show IsRangeIter _ _ (lo + ((0:Nat):Int) * 1) ((((hi - lo).toNat:Nat):Int) - ((0:Nat):Int)) 1;rw [e1,e2];exact zTU _ rfl
 ·have e:b = (s.heap.push { cls:=.type "range", data:=.fields #[.int lo t,.int hi u,.int 1 v] }).objs.size:=by simpa using hb
  subst e;exact I1.fpOk (zTQ _) (I1.hok.fresh (zTQ _))
def zRo (ta:TA):TI:=fun σ H R=>ta σ H fun vs H1=>∃ j:Int,vs = [.int j] /\ -(2 ^ 62) <= j /\ j < 2 ^ 62 /\ R (Itr 0 j.toNat) H1
theorem zLz {a:Expr} {ta:TA} {p pos:Pos} (hg:Gl X "range") (hm:X.mg "range" = none) (ha:PA X [a] ta) (hs:starEach [a] X.env = [(false,eval a X.env)]:=by rfl):PI X tg (.Call (.Name "range" p) [a] [] pos) (zRo ta):=by
 intro zB s σ H R I h;refine Call_ (zEw I hg hm boot_range (PyProof.Rows.callWith_type1 (thn (ha pos zB s σ H _ I h) fun us s1 ⟨vs,H1,I1,r1,q1⟩=>?_) hs rfl));obtain ⟨j,e,q1,q2,q⟩:=q1;subst e;cases r1 with
 | cons r rr=>
  cases rr;obtain ⟨t,rfl⟩:=r;exact call_range_1 (zML I1 (by omega) (by omega) q1 q2 (by simpa using q))
def zRi (wi:TI) (g:TG) (tb:TS):TS:=fun D σ H=>wi σ H fun J H1=>∃ W:Nat -> Nat -> St -> Hp -> Prop,(∃ m,W 0 m σ H1) /\ ∀ i m σ H,W i m σ H ->
 (J.stop i H /\ D.nx σ H) \/ (J.go i H /\ ∃ N:St -> Hp -> Prop,(∀ σ' H',N σ' H' -> ∃ m',m' < m /\ W (i + 1) m' σ' H') /\ ∀ x H',J.yld i H x H' -> g x σ H' fun σ2 H2=>tb { D with nx:=N,ct:=N,bk:=D.nx } σ2 H2)
def zFw (fp:List Addr) (h:Heap):List (Addr × Obj):=fp.filterMap fun b=>(h.get? b).map fun o=>(b,o)
theorem zCy {fp:List Addr} {h:Heap} {b:Addr} {o:Obj} (hb:b ∈ fp) (e:h.get? b = some o):(b,o) ∈ zFw fp h:=List.mem_filterMap.mpr ⟨b,hb,by rw [e]; rfl⟩
theorem zL7 {fp:List Addr} {h:Heap} {p:Addr × Obj} (hp:p ∈ zFw fp h):p.1 ∈ fp /\ h.get? p.1 = some p.2:=by
 obtain ⟨b,hb,e⟩:=List.mem_filterMap.mp hp;cases q:h.get? b with
 | none=>rw [q] at e; cases e
 | some o=>
  rw [q] at e;have e':(b,o) = p:=zUP e;subst e';exact ⟨hb,q⟩
theorem Inv.pinned {zB:List (Addr × Obj)} {σ:St} {H:Hp} {s:Shared} {fp:List Addr} (I:Inv X zB σ H s) (hf:∀ b ∈ fp,zDv X zB H b) (ho:∀ b ∈ fp,∃ o,s.heap.get? b = some o /\ ∀ v,o.data ≠ .cell v):Inv X (zB ++ zFw fp s.heap) σ H s :=
 I.pins_of fun p hp=>(zTk.mp hp).elim (fun z=>I.pin p (zTe _ z)) fun z=>by
  obtain ⟨hb,e⟩:=zL7 z;obtain ⟨f0,f1,f2,_⟩:=hf p.1 hb;obtain ⟨o,e',d⟩:=ho p.1 hb;rw [e] at e'; cases e';exact ⟨e,f0,f1,f2,d⟩
theorem Inv.unpinned {zB pl:List (Addr × Obj)} {σ:St} {H:Hp} {s:Shared} (I:Inv X (zB ++ pl) σ H s):Inv X zB σ H s:=I.pins_of fun p hp=>I.pin p (zTe _ (zUe _ hp))
theorem zOB {iter:Expr} {body:List Stmt} {wi:TI} {g:TG} {tb:TS} {pos:Pos} (hp:PassesOwn (model X.prog X.w) X.A X.env X.xe) (hc:X.calm = true) (hi:PI X tg iter wi) (hg:PG X tg g) (hb:PSs X body tb)
  (hs:∀ x,foldedSetIterable iter X.env x = pure x:=by intro _; rfl):PS X (.For tg iter body [] pos) (zRi wi g tb):=by
 intro zB s σ H D I h;refine wpAny_For (thn (hi zB s σ H _ I h) fun v s1 h1=>thn h1 fun itv s2 h2=>?_) hs;obtain ⟨it,fp,tn,J,H2,e,I2,T,st2,f2,W,⟨m0,w0⟩,turn⟩:=h2;subst e;have stat:∀ {H':Hp},(∀ b ∈ fp,H' b = none) -> ∀ b ∈ fp,zDv X zB H' b:=fun hn b hb=>⟨hn b hb,(f2 b hb).2⟩;refine codeAny_forLoop_any (fun n s'=>∃ i σ' H',Inv X zB σ' H' s' /\ tn i s'.heap /\ (∀ b ∈ fp,H' b = none) /\ W i n σ' H') ?_ m0 ⟨0,σ,H2,I2,st2,fun b hb=>(f2 b hb).1,w0⟩;rintro n s3 ⟨i,σ3,H3,I3,st3,fr3,w3⟩;rcases turn i n σ3 H3 w3 with ⟨stop,qn⟩ | ⟨go,N,hN,step⟩
 ·refine wpAny_passesOwn hp (thn (T.done X rfl rfl rfl hc i zB s3 σ3 H3 X.xe I3 (stat fr3) st3 stop) fun r s4 ⟨hr,I4⟩=>?_);subst hr;exact wpAny_execs_nil ⟨σ3,H3,I4,qn⟩
 ·refine wpAny_passesOwn hp (thn (T.item X rfl rfl rfl hc i zB s3 σ3 H3 X.xe I3 (stat fr3) st3 go) fun r s4 ⟨u,hr,h4⟩=>?_);subst hr;refine wpAny_passesOwn hp (thn h4 fun _ s5 ⟨x,H5,I5,r5,y5,st5,fr5⟩=>?_);have I5':=I5.pinned (stat fr5) (T.obj _ _ st5);refine wpAny_passesOwn hp (thn (hg _ s5 σ3 H5 x u _ I5' r5 (step x H5 y5)) fun _ s6 ⟨σ6,H6,I6,q6⟩=>?_);refine wpAny_passesOwn hp (thn (hb _ s6 σ6 H6 _ I6 q6) fun f s7 q7=>?_);have again:∀ {σ7:St} {H7:Hp},Inv X (zB ++ zFw fp s5.heap) σ7 H7 s7 -> N σ7 H7 -> ∃ m,m < n /\ ∃ i σ' H',Inv X zB σ' H' s7 /\ tn i s7.heap /\ (∀ b ∈ fp,H' b = none) /\ W i m σ' H':=fun {σ7 H7} I7 n7=>by
   obtain ⟨m',hm,w7⟩:=hN σ7 H7 n7;refine ⟨m',hm,i + 1,σ7,H7,I7.unpinned,T.keep _ _ _ st5 fun b hb o e=>(I7.pin (b,o) (zTe _ (zTe _ (zCy hb e)))).1,fun b hb=>?_,w7⟩;obtain ⟨o,e,d⟩:=T.obj _ _ st5 b hb;exact (I7.pin (b,o) (zTe _ (zTe _ (zCy hb e)))).2.1
  cases f with
  | next=>obtain ⟨σ7,H7,I7,n7⟩:=q7; exact again I7 n7
  | cont=>obtain ⟨σ7,H7,I7,n7⟩:=q7; exact again I7 n7
  | brk=>obtain ⟨σ7,H7,I7,q7⟩:=q7; exact ⟨σ7,H7,I7.unpinned,q7⟩
  | ret v=>obtain ⟨x7,σ7,H7,I7,r7,q7⟩:=q7; exact ⟨x7,σ7,H7,I7.unpinned,r7,q7⟩
end
abbrev R2:=V -> V -> Hp -> VK -> Prop
def OpR (X:Cx) (f:Value -> Value -> Sem Value) (r:R2):Prop :=
 ∀ (zB:List (Addr × Obj)) (s:Shared) (σ:St) (H:Hp) (x y:V) (v u:Value) (Q:VK),Inv X zB σ H s -> zt x v -> zt y u -> r x y H Q ->
  wpAny (model X.prog X.w) X.A (f v u) (EP X zB σ Q) X.xe s
def zBZ (X:Cx) (f:Value) (r:List V -> Hp -> VK -> Prop):Prop :=
 ∀ (zB:List (Addr × Obj)) (s:Shared) (σ:St) (H:Hp) (xs:List V) (us:List Value) (Q:VK),Inv X zB σ H s -> zg xs us -> r xs H Q ->
  wpAny (model X.prog X.w) X.A (call f us) (EP X zB σ Q) X.xe s
def zTA (X:Cx) (r:V -> Hp -> (Bool -> Hp -> Prop) -> Prop):Prop :=
 ∀ (zB:List (Addr × Obj)) (s:Shared) (σ:St) (H:Hp) (x:V) (v:Value) (Q:Bool -> Hp -> Prop),Inv X zB σ H s -> zt x v -> r x H Q ->
  wpAny (model X.prog X.w) X.A (truthy v) (TP X zB σ Q) X.xe s
def tOp (r:R2) (ta tb:TE):TE:=fun σ H Q=>ta σ H fun x H1=>tb σ H1 fun y H2=>r x y H2 Q
def rI (C:Int -> Int -> Prop) (g:Int -> Int -> V):R2:=fun x y H Q=>∃ i j,x = .int i /\ y = .int j /\ C i j /\ Q (g i j) H
def rI0 (g:Int -> Int -> V):R2:=fun x y H Q=>∃ i j,x = .int i /\ y = .int j /\ Q (g i j) H
section
variable {X:Cx} {a b c:Expr} {ta tb tc:TE} {pos:Pos}
theorem zQw (ha:PE X a ta) (hb:PE X b tb) {zB:List (Addr × Obj)} {s:Shared} {σ:St} {H:Hp} {R:V -> V -> Hp -> Prop} (I:Inv X zB σ H s)
  (h:ta σ H fun x H1=>tb σ H1 fun y H2=>R x y H2) {Q:Value -> Shared -> Prop} {f:Value -> Value -> Sem Value}
  (hf:∀ v u s2 x y H2,Inv X zB σ H2 s2 -> zt x v -> zt y u -> R x y H2 -> wpAny (model X.prog X.w) X.A (f v u) Q X.xe s2) :
  wpAny (model X.prog X.w) X.A (eval a X.env) (fun v s₁=>wpAny (model X.prog X.w) X.A (eval b X.env) (fun u s₂=>wpAny (model X.prog X.w) X.A (f v u) Q X.xe s₂) X.xe s₁) X.xe s:=by
 refine thn (ha zB s σ H _ I h) fun v s1 ⟨x,H1,I1,r1,q1⟩=>?_;refine thn (hb zB s1 σ H1 _ I1 q1) fun u s2 ⟨y,H2,I2,r2,q2⟩=>?_;exact hf v u s2 x y H2 I2 r1 r2 q2
theorem zSL {op:Operator} {r:R2} (ho:OpR X (binaryOp op) r) (ha:PE X a ta) (hb:PE X b tb):PE X (.BinOp a op b pos) (tOp r ta tb):=by
 intro zB s σ H Q I h;exact wpAny_BinOp (zQw ha hb I h fun v u s2 x y H2 I2 rx ry q=>ho zB s2 σ H2 x y v u Q I2 rx ry q)
theorem opI {f:Value -> Value -> Sem Value} {C:Int -> Int -> Prop} {g:Int -> Int -> Int}
  (rule:∀ (i j:Int) (t u:Tok) (s:Shared) (Q:Value -> Shared -> Prop) (E:Value -> Shared -> Prop),C i j -> Q (.int (g i j) s.toks) { s with toks:=s.toks + 1 } -> wpAny (model X.prog X.w) X.A (f (.int i t) (.int j u)) Q E s) :
  OpR X f (rI C fun i j=> .int (g i j)):=by
 intro zB s σ H x y v u Q I rx ry h;obtain ⟨i,j,rfl,rfl,hc,q⟩:=h;obtain ⟨t,rfl⟩:=rx;obtain ⟨t',rfl⟩:=ry;exact rule i j t t' s _ _ hc ⟨.int (g i j),H,I.tok _,⟨_,rfl⟩,q⟩
theorem zSI {f:Value -> Value -> Sem Value} {g:Int -> Int -> Int}
  (rule:∀ (i j:Int) (t u:Tok) (s:Shared) (Q:Value -> Shared -> Prop) (E:Value -> Shared -> Prop),Q (.int (g i j) s.toks) { s with toks:=s.toks + 1 } -> wpAny (model X.prog X.w) X.A (f (.int i t) (.int j u)) Q E s) :
  OpR X f (rI0 fun i j=> .int (g i j)):=by
 intro zB s σ H x y v u Q I rx ry h;obtain ⟨i,j,rfl,rfl,q⟩:=h;obtain ⟨t,rfl⟩:=rx;obtain ⟨t',rfl⟩:=ry;exact rule i j t t' s _ _ ⟨.int (g i j),H,I.tok _,⟨_,rfl⟩,q⟩
theorem zPF {f:Value -> Value -> Sem Value} {g:Int -> Int -> Bool}
  (rule:∀ (i j:Int) (t u:Tok) (s:Shared) (Q:Value -> Shared -> Prop) (E:Value -> Shared -> Prop),Q (.bool (g i j)) s -> wpAny (model X.prog X.w) X.A (f (.int i t) (.int j u)) Q E s) :
  OpR X f (rI0 fun i j=> .bl (g i j)):=by
 intro zB s σ H x y v u Q I rx ry h;obtain ⟨i,j,rfl,rfl,q⟩:=h;obtain ⟨t,rfl⟩:=rx;obtain ⟨t',rfl⟩:=ry;exact rule i j t t' s _ _ ⟨.bl (g i j),H,I,rfl,q⟩
def zS1 (i j:Int):Prop:=0 < j /\ j < 1073741824
def zTC (i j:Int):Prop:=0 <= j /\ j <= 1000000 /\ i.natAbs < 2 ^ 64
def zQR (i j:Int):Prop:=(-(2 ^ 64) < i /\ i < 2 ^ 64) \/ (-(2 ^ 64) < j /\ j < 2 ^ 64)
theorem zQR.ok {i j:Int} (h:zQR i j):IntMulOk i j:=by
 rcases h with ⟨h1,h2⟩ | ⟨h1,h2⟩
 ·exact .of_left (intBits_le_64 h1 h2)
 ·exact .of_right (intBits_le_64 h1 h2)
theorem zQ5:OpR X (binaryOp .Add) (rI0 fun i j=> .int (i + j)):=zSI fun _ _ _ _ _ _ _ q=>add_int q
theorem zRP:OpR X (binaryOp .Sub) (rI0 fun i j=> .int (i - j)):=zSI fun _ _ _ _ _ _ _ q=>sub_int q
theorem zRG:OpR X (binaryOp .Mult) (rI zQR fun i j=> .int (i * j)):=opI fun _ _ _ _ _ _ _ hc q=>mul_int q hc.ok
theorem zOQ:OpR X (binaryOp .FloorDiv) (rI zS1 fun i j=> .int (i / j)):=opI fun i j _ _ _ _ _ hc q=>by
 have h1:(0:Int) < j:=hc.1;have h2:j < 1073741824:=hc.2;exact floordiv_int (by omega) (by rw [Int.fdiv_eq_ediv_of_nonneg i (by omega)]; exact q) (.inl (PyProof.noPylong_small (by omega)))
theorem zRW:OpR X (binaryOp .Mod) (rI (fun _ j=>0 < j) fun i j=> .int (i % j)):=opI fun i j _ _ _ _ _ hc q=>by
 have h1:(0:Int) < j:=hc;exact mod_int' (by omega) (by rw [Int.fmod_eq_emod_of_nonneg i (by omega)]; exact q)
theorem zQg:OpR X (binaryOp .Pow) (rI zTC fun i j=> .int (i ^ j.toNat)):=opI fun _ _ _ _ _ _ _ hc q=>pow_int_small hc.1 hc.2.1 hc.2.2 q
end
def zOl:V -> V -> Bool
 | .non,.non=>true | .non,.int _=>true | .int _,.non=>true | .non,.bl _=>true | .bl _,.non=>true | .non,.str _=>true | .str _,.non=>true
 | .int _,.int _=>true | .bl _,.bl _=>true | .str _,.str _=>true | .byt _,.byt _=>true
 | .int _,.str _=>true | .str _,.int _=>true | .bl _,.str _=>true | .str _,.bl _=>true
 | _,_=>false
def rEq:R2:=fun x y H Q=>zOl x y = true /\ Q (.bl (decide (x = y))) H
def rNe:R2:=fun x y H Q=>zOl x y = true /\ Q (.bl (!decide (x = y))) H
theorem zK5 {i j:Int}:decide (V.int i = V.int j) = (i == j):=by
 rw [zV2];simp
theorem zNd {i j:Bool}:decide (V.bl i = V.bl j) = (i == j):=by
 rw [zV2];simp
theorem zKk {i j:Str}:decide (V.str i = V.str j) = (i == j):=by
 rw [zV2];simp
theorem zKd {i j:Array UInt8}:decide (V.byt i = V.byt j) = (i.toList == j.toList):=by
 rw [zV2];cases i;cases j;simp
section
variable {X:Cx} {a b c:Expr} {ta tb tc:TE} {pos:Pos}
theorem zi {zB:List (Addr × Obj)} {σ:St} {H:Hp} {s:Shared} {Q:VK} {k k':Bool} (I:Inv X zB σ H s) (q:Q (.bl k) H) (e:k = k'):EP X zB σ Q (.bool k') s:=by
 subst e;exact ⟨.bl k,H,I,rfl,q⟩
theorem zPu:OpR X (compareOp .Eq) rEq:=by
 intro zB s σ H x y v u Q I rx ry h;obtain ⟨hs,q⟩:=h;cases x with
 | non=>
  cases rx;cases y with
  | non=>cases ry; exact PySem.EqNone.eq_none_none (zi I q (by simp))
  | bl j=>cases ry; exact PySem.EqNone.eq_none_bool (zi I q (by simp))
  | int j=>obtain ⟨t',rfl⟩:=ry; exact PySem.EqNone.eq_none_int (zi I q (by simp))
  | str j=>obtain ⟨t',rfl⟩:=ry; exact PySem.EqNone.eq_none_str (zi I q (by simp))
  | _=>exact absurd (show false = true from hs) zTg
 | bl i=>
  cases rx;cases y with
  | non=>cases ry; exact PySem.EqNone.eq_bool_none (zi I q (by simp))
  | bl j=>cases ry; exact eq_bool (zi I q zNd)
  | str j=>obtain ⟨t',rfl⟩:=ry; exact PySem.EqMixed.eq_bool_str (zi I q (by simp))
  | _=>exact absurd (show false = true from hs) zTg
 | int i=>
  obtain ⟨t,rfl⟩:=rx;cases y with
  | non=>cases ry; exact PySem.EqNone.eq_int_none (zi I q (by simp))
  | int j=>obtain ⟨t',rfl⟩:=ry; exact eq_int (zi I q zK5)
  | str j=>obtain ⟨t',rfl⟩:=ry; exact PySem.EqMixed.eq_int_str (zi I q (by simp))
  | _=>exact absurd (show false = true from hs) zTg
 | str i=>
  obtain ⟨t,rfl⟩:=rx;cases y with
  | non=>cases ry; exact PySem.EqNone.eq_str_none (zi I q (by simp))
  | bl j=>cases ry; exact PySem.EqMixed.eq_str_bool (zi I q (by simp))
  | int j=>obtain ⟨t',rfl⟩:=ry; exact PySem.EqMixed.eq_str_int (zi I q (by simp))
  | str j=>obtain ⟨t',rfl⟩:=ry; exact eq_str (zi I q zKk)
  | _=>exact absurd (show false = true from hs) zTg
 | byt i=>
  obtain ⟨t,rfl⟩:=rx;cases y with
  | byt j=>obtain ⟨t',rfl⟩:=ry; exact PySem.W.eq_bytes (zi I q zKd)
  | _=>exact absurd (show false = true from hs) zTg
 | _=>cases y <;> exact absurd (show false = true from hs) zTg
theorem zRq:OpR X (compareOp .NotEq) rNe:=by
 intro zB s σ H x y v u Q I rx ry h;obtain ⟨hs,q⟩:=h;cases x with
 | non=>
  cases rx;cases y with
  | non=>cases ry; exact PySem.EqNone.ne_none_none (zi I q (by simp))
  | bl j=>cases ry; exact PySem.EqNone.ne_none_bool (zi I q (by simp))
  | int j=>obtain ⟨t',rfl⟩:=ry; exact PySem.EqNone.ne_none_int (zi I q (by simp))
  | str j=>obtain ⟨t',rfl⟩:=ry; exact PySem.EqNone.ne_none_str (zi I q (by simp))
  | _=>exact absurd (show false = true from hs) zTg
 | bl i=>
  cases rx;cases y with
  | non=>cases ry; exact PySem.EqNone.ne_bool_none (zi I q (by simp))
  | bl j=>cases ry; exact ne_bool (zi I q (zVC not zNd))
  | str j=>obtain ⟨t',rfl⟩:=ry; exact PySem.EqMixed.ne_bool_str (zi I q (by simp))
  | _=>exact absurd (show false = true from hs) zTg
 | int i=>
  obtain ⟨t,rfl⟩:=rx;cases y with
  | non=>cases ry; exact PySem.EqNone.ne_int_none (zi I q (by simp))
  | int j=>obtain ⟨t',rfl⟩:=ry; exact ne_int (zi I q (zVC not zK5))
  | str j=>obtain ⟨t',rfl⟩:=ry; exact PySem.EqMixed.ne_int_str (zi I q (by simp))
  | _=>exact absurd (show false = true from hs) zTg
 | str i=>
  obtain ⟨t,rfl⟩:=rx;cases y with
  | non=>cases ry; exact PySem.EqNone.ne_str_none (zi I q (by simp))
  | bl j=>cases ry; exact PySem.EqMixed.ne_str_bool (zi I q (by simp))
  | int j=>obtain ⟨t',rfl⟩:=ry; exact PySem.EqMixed.ne_str_int (zi I q (by simp))
  | str j=>obtain ⟨t',rfl⟩:=ry; exact ne_str (zi I q (zVC not zKk))
  | _=>exact absurd (show false = true from hs) zTg
 | byt i=>
  obtain ⟨t,rfl⟩:=rx;cases y with
  | byt j=>obtain ⟨t',rfl⟩:=ry; exact PySem.W.ne_bytes (zi I q (zVC not zKd))
  | _=>exact absurd (show false = true from hs) zTg
 | _=>cases y <;> exact absurd (show false = true from hs) zTg
theorem zSi:OpR X (compareOp .Lt) (rI0 fun i j=> .bl (decide (i < j))):=zPF fun _ _ _ _ _ _ _ q=>lt_int q
theorem zKQ:OpR X (compareOp .LtE) (rI0 fun i j=> .bl (decide (i <= j))):=zPF fun _ _ _ _ _ _ _ q=>le_int q
theorem zRs:OpR X (compareOp .Gt) (rI0 fun i j=> .bl (decide (j < i))):=zPF fun _ _ _ _ _ _ _ q=>gt_int q
theorem zRv:OpR X (compareOp .GtE) (rI0 fun i j=> .bl (decide (j <= i))):=zPF fun _ _ _ _ _ _ _ q=>ge_int q
theorem zLp:OpR X (compareOp .In) (fun x y H Q=>∃ i j,x = .str i /\ y = .str j /\ Q (.bl (!(Builtin.Str.occurrences j i 0 j.length 1).isEmpty)) H):=by
 intro zB s σ H x y v u Q I rx ry h;obtain ⟨i,j,rfl,rfl,q⟩:=h;obtain ⟨t,rfl⟩:=rx;obtain ⟨t',rfl⟩:=ry;exact in_str (zi I q rfl)
theorem OpR.or {f:Value -> Value -> Sem Value} {r r':R2} (h:OpR X f r) (h':OpR X f r'):OpR X f (fun x y H Q=>r x y H Q \/ r' x y H Q):=by
 intro zB s σ H x y v u Q I rx ry q;rcases q with q | q
 ·exact h zB s σ H x y v u Q I rx ry q
 ·exact h' zB s σ H x y v u Q I rx ry q
theorem zCv (b:Expr) {op:CmpOp} (h:op ≠ .In:=by decide) (h2:op ≠ .NotIn:=by decide):behindInMarks op b = false:=by
 have e1:(op == CmpOp.In) = false:=by cases op <;> first | rfl | exact absurd rfl h
 have e2:(op == CmpOp.NotIn) = false:=by cases op <;> first | rfl | exact absurd rfl h2
 cases b <;> simp [behindInMarks,e1,e2]
theorem zPO {op:CmpOp} {r:R2} (ho:OpR X (compareOp op) r) (ha:PE X a ta) (hb:PE X b tb) (hm:behindInMarks op b = false):PE X (.Compare a [op] [b] pos) (tOp r ta tb):=by
 intro zB s σ H Q I h;exact wpAny_Compare1 (zQw ha hb I h fun v u s2 x y H2 I2 rx ry q=>ho zB s2 σ H2 x y v u Q I2 rx ry q) hm
def zIw (t:TE):TT:=fun σ H Q=>t σ H fun x H'=>∃ k,x = .bl k /\ Q k H'
theorem zOa {op:CmpOp} {r:R2} (ho:OpR X (compareOp op) r) (ha:PE X a ta) (hb:PE X b tb) (hm:behindInMarks op b = false):PT X (.Compare a [op] [b] pos) (zIw (tOp r ta tb)):=by
 intro zB s σ H Q I h;refine wpAny_isTrue_Compare1 (thn (ha zB s σ H _ I h) fun v s1 ⟨x,H1,I1,r1,q1⟩=>thn (hb zB s1 σ H1 _ I1 q1) fun u s2 ⟨y,H2,I2,r2,q2⟩=>
  thn (ho zB s2 σ H2 x y v u _ I2 r1 r2 q2) fun c s3 ⟨z,H3,I3,r3,k,e,q3⟩=>?_) hm
 subst e;cases r3;exact zUb ⟨H3,I3,q3⟩
def zJ3 (r r':R2) (ta tb tc:TE):TE:=fun σ H Q=>ta σ H fun x H1=>tb σ H1 fun y H2=>r x y H2 fun z H3=>∃ k,z = .bl k /\
 (if k = true then tc σ H3 fun w' H4=>r' y w' H4 Q else Q (.bl false) H3)
theorem zNr {op op':CmpOp} {r r':R2} (ho:OpR X (compareOp op) r) (ho':OpR X (compareOp op') r') (ha:PE X a ta) (hb:PE X b tb) (hc:PE X c tc)
  (hm:lastMarks [op,op'] [b,c] = false:=by with_unfolding_all rfl):PE X (.Compare a [op,op'] [b,c] pos) (zJ3 r r' ta tb tc):=by
 intro zB s σ H Q I h;refine Compare_chain (thn (ha zB s σ H _ I h) fun v s1 ⟨x,H1,I1,r1,q1⟩=>chain_link (thn (hb zB s1 σ H1 _ I1 q1) fun u s2 ⟨y,H2,I2,r2,q2⟩=>
  thn (ho zB s2 σ H2 x y v u _ I2 r1 r2 q2) fun d s3 ⟨z,H3,I3,r3,k,e,q3⟩=>?_)) hm
 subst e;cases r3;refine zUb ?_;cases k with
 | false=>exact ite_ff ⟨.bl false,H3,I3,rfl,q3⟩
 | true=>exact ite_tt (chain_last (thn (hc zB s3 σ H3 _ I3 q3) fun w' s4 ⟨z',H4,I4,r4,q4⟩=>ho' zB s4 σ H4 y z' u w' Q I4 r2 r4 q4))
theorem zMg {op op':CmpOp} {r r':R2} (ho:OpR X (compareOp op) r) (ho':OpR X (compareOp op') r') (ha:PE X a ta) (hb:PE X b tb) (hc:PE X c tc)
  (hm:lastMarks [op,op'] [b,c] = false:=by with_unfolding_all rfl):PT X (.Compare a [op,op'] [b,c] pos) (zIw (zJ3 r r' ta tb tc)):=by
 intro zB s σ H Q I h;refine isTrue_chain (thn (ha zB s σ H _ I h) fun v s1 ⟨x,H1,I1,r1,q1⟩=>test_link (thn (hb zB s1 σ H1 _ I1 q1) fun u s2 ⟨y,H2,I2,r2,q2⟩=>
  thn (ho zB s2 σ H2 x y v u _ I2 r1 r2 q2) fun d s3 ⟨z,H3,I3,r3,k,e,q3⟩=>?_)) hm
 subst e;cases r3;refine zUb ?_;cases k with
 | false=>
  obtain ⟨k',e',q'⟩:=q3;cases e';exact ite_ff ⟨H3,I3,q'⟩
 | true=>
  refine ite_tt (test_last (thn (hc zB s3 σ H3 _ I3 q3) fun w' s4 ⟨z',H4,I4,r4,q4⟩=>thn (ho' zB s4 σ H4 y z' u w' _ I4 r2 r4 q4) fun d' s5 ⟨z2,H5,I5,r5,k2,e2,q5⟩=>?_));subst e2;cases r5;exact zUb ⟨H5,I5,q5⟩
def zSc (K:PySem.W.Frag) (x:V) (H:Hp) (k:Bool):Prop :=
 match x with
 | .non=>k = false
 | .bl b=>k = b
 | .int i=>k = (i != 0)
 | .str y=>y.length <= sizeLine /\ k = ((y.length:Int) != 0)
 | .byt y=>y.size <= sizeLine /\ k = ((y.size:Int) != 0)
 | .ref p=>(∃ xs,SqL K H p xs /\ k = !xs.isEmpty) \/ (∃ xs,SqT K H p xs /\ k = !xs.isEmpty) \/ ∃ kvs,H p = some (.dK kvs) /\ k = !kvs.isEmpty
 | _=>False
theorem zJY {κ:Type} {kvs:List (κ × V)} {vs:List (κ × Value)} (r:KV kvs vs):(!vs.isEmpty) = !kvs.isEmpty:=by
 cases r <;> rfl
theorem zFp {xs:List V} {its:List Value} (r:zg xs its):(!its.toArray.isEmpty) = !xs.isEmpty:=by
 cases r <;> simp
theorem zDa:(sizeLine:Nat) < 2 ^ 63:=by rw [sizeLine_eq]; decide
theorem zQ7:zTA X (fun x H Q=>∃ k,zSc X.K x H k /\ Q k H):=by
 intro zB s σ H x v Q I rx h;obtain ⟨k,e,q⟩:=h;have hl:=zDa;have hs:sizeLine = 16777216:=sizeLine_eq;cases x with
 | non=>
  cases rx;have e':k = false:=e;subst e';exact truthy_none ⟨H,I,q⟩
 | bl b=>
  cases rx;have e':k = b:=e;subst e';exact zUb ⟨H,I,q⟩
 | int i=>
  obtain ⟨t,rfl⟩:=rx;have e':k = (i != 0):=e;subst e';exact PySem.P.truthy_int ⟨H,I,q⟩
 | str y=>
  obtain ⟨t,rfl⟩:=rx;obtain ⟨hy,e'⟩:y.length <= sizeLine /\ k = ((y.length:Int) != 0):=e;subst e';exact PySem.P.truthy_str (by omega) ⟨H,I.tok _,q⟩
 | byt y=>
  obtain ⟨t,rfl⟩:=rx;obtain ⟨hy,e'⟩:y.size <= sizeLine /\ k = ((y.size:Int) != 0):=e;subst e';exact PySem.W.truthy_bytes (by omega) ⟨H,I.tok _,q⟩
 | ref p=>
  cases rx;have e':(∃ xs,SqL X.K H p xs /\ k = !xs.isEmpty) \/ (∃ xs,SqT X.K H p xs /\ k = !xs.isEmpty) \/ ∃ kvs,H p = some (.dK kvs) /\ k = !kvs.isEmpty:=e;rcases e' with ⟨xs,hx,e'⟩ | ⟨xs,hx,e'⟩ | ⟨kvs,hx,e'⟩
  ·subst e';obtain ⟨its,r,pl,hz⟩:=I.list hx;have hlen:=r.length;exact wpAny_truthy_list pl.isList (by simp only [zTS]; omega) ⟨H,I.tok _,by rw [zFp r]; exact q⟩
  ·subst e';obtain ⟨its,r,pl,hz⟩:=I.tuple hx;have hlen:=r.length;exact truthy_tuple pl (by simp only [zTS]; omega) ⟨H,I.tok _,by rw [zFp r]; exact q⟩
  ·subst e';obtain ⟨hz,hS,vs,r,m⟩:kvs.length <= sizeLine /\ (p == sysModules) = false /\ ∃ vs,KV kvs vs /\ s.heap.DictOf (zAW X.prog X.w) p vs:=I.hok p _ hx;have hlen:kvs.length = vs.length:=Paired.length r;exact wpAny_truthy_dict hS m (by omega) ⟨H,I.tok _,by rw [zJY r]; exact q⟩
 | _=>exact (show False from e).elim
theorem zIa (ha:PE X a ta) (he:∀ whole,isTrue a X.env whole = (do let v <- whole; standAt a.pos; holding [v] (truthy v))) :
  PT X a (fun σ H Q=>ta σ H fun x H'=>∃ k,zSc X.K x H' k /\ Q k H'):=by
 intro zB s σ H Q I h;exact isTrue_plain (thn (ha zB s σ H _ I h) fun v s1 ⟨x,H1,I1,r1,q1⟩=>zQ7 zB s1 σ H1 x v Q I1 r1 q1) (he _)
theorem zKE:OpR X (binaryOp .Add) (fun x y H Q=>∃ i j,x = .str i /\ y = .str j /\ i.length + j.length <= sizeLine /\ Q (.str (i ++ j)) H):=by
 intro zB s σ H x y v u Q I rx ry h;obtain ⟨i,j,rfl,rfl,hz,q⟩:=h;obtain ⟨t,rfl⟩:=rx;obtain ⟨t',rfl⟩:=ry;exact add_str (fun t' tk=>⟨.str (i ++ j),H,I.tok _,⟨_,rfl⟩,q⟩) hz
theorem zDx {x:V} {us:List Value} (r:zg [x] us):∃ u,us = [u] /\ zt x u:=by
 cases r with
 | cons r1 r2=>cases r2; exact ⟨_,rfl,r1⟩
theorem zSl {x y:V} {us:List Value} (r:zg [x,y] us):∃ u w',us = [u,w'] /\ zt x u /\ zt y w':=by
 cases r with
 | cons r1 r2=>
  cases r2 with
  | cons r3 r4=>cases r4; exact ⟨_,_,rfl,r1,r3⟩
theorem zM3:zBZ X (.builtin "abs") (fun xs H Q=>∃ i,xs = [.int i] /\ Q (.int (if i < 0 then -i else i)) H):=by
 intro zB s σ H xs us Q I r h;obtain ⟨i,rfl,q⟩:=h;obtain ⟨u,rfl,t,rfl⟩:=zDx r;exact call_abs_int fun u tk=>⟨.int (if i < 0 then -i else i),H,I.tok _,⟨_,rfl⟩,q⟩
theorem zLG (hc:X.calm = true):zBZ X (.builtin "max") (fun xs H Q=>∃ i j,xs = [.int i,.int j] /\ Q (.int (if j > i then j else i)) H):=by
 intro zB s σ H xs us Q I r h;obtain ⟨i,j,rfl,q⟩:=h;obtain ⟨u,w',rfl,⟨t,rfl⟩,⟨t',rfl⟩⟩:=zSl r;refine max_two_ints (I.ok.hd hc) fun h' tk k=>⟨_,H,I.kept k,?_,q⟩;by_cases hj:j > i
 ·rw [zTZ hj,zTZ hj]; exact ⟨_,rfl⟩
 ·rw [zTc hj,zTc hj]; exact ⟨_,rfl⟩
theorem zLe:zBZ X (.type "int") (fun xs H Q=>(∃ i,xs = [.int i] /\ Q (.int i) H) \/ ∃ k,xs = [.bl k] /\ Q (.int (if k then 1 else 0)) H):=by
 intro zB s σ H xs us Q I r h;rcases h with ⟨i,rfl,q⟩ | ⟨k,rfl,q⟩
 ·obtain ⟨u,rfl,t,rfl⟩:=zDx r;exact call_int_int ⟨.int i,H,I,⟨_,rfl⟩,q⟩
 ·obtain ⟨u,rfl,r1⟩:=zDx r;cases r1;exact call_int_bool ⟨.int (if k then 1 else 0),H,I.tok _,⟨_,rfl⟩,q⟩
end
structure ObjM (h:Heap) (x dx C:Addr) (mA:Str -> Option Value):Prop where
 obj:h.get? x = some (PySem.W.instObj C dx)
 ns:h.Ns1 dx mA
 ne:dx ≠ x
theorem zHA {h:Heap} {dx:Addr} {mA:Str -> Option Value} (n:h.Ns1 dx mA):∃ od,h.get? dx = some od /\ ∀ name,PySem.W.lookIn name od = some (mA name):=by
 obtain ⟨o,es,ep,ho,hd,hk,_,hm⟩:=n;refine ⟨o,ho,fun name=>?_⟩;have e:=hm name;unfold nsFind findBy at e;rw [<- Array.find?_toList] at e;unfold PySem.W.lookIn;rw [hd];dsimp only;split
 ·rename_i y q;rw [q] at e;exact zVC some e
 ·rename_i q;rw [q] at e;have a:es.toList.any (·.refKey) = false:=by
   rw [List.any_eq_false];intro y hy;obtain ⟨z,t,hkey⟩:=hk y (Array.mem_toList_iff.mp hy);simp [DictEntry.refKey,hkey]
  have a':¬ es.toList.any (·.refKey) = true:=by rw [a]; exact zTg
  rw [zTc a'];exact zVC some e
theorem ObjM.look {h:Heap} {x dx C:Addr} {mA:Str -> Option Value} (I:ObjM h x dx C mA):∃ od,PySem.W.InstAt h x (PySem.W.instObj C dx) C (some od) /\ ∀ name,PySem.W.lookIn name od = some (mA name) :=
 let ⟨od,ho,hl⟩:=zHA I.ns
 ⟨od,⟨I.obj,rfl,rfl,ho⟩,hl⟩
theorem zF8.some_of {v:V} {o:Option Value} (r:zF8 (some v) o):∃ u,o = some u /\ zt v u:=by
 cases o with
 | none=>exact (show False from r).elim
 | some u=>exact ⟨u,rfl,r⟩
section
variable {P:Program} {w:World} {H H':Hp} {h h':Heap} {a C dx:Addr} {fs fs':List (Str × V)}
theorem zPD (hok:HOk P w H h) (e:H a = some (.ins C dx fs)):∃ mA,ObjM h a dx C mA /\ (∀ f,zF8 (fs.lookup f) (mA f)) /\ PySem.Within mA (fs.map (·.1)) /\ fs.length <= 1000 /\ H dx = some (.own a):=by
 obtain ⟨d,z,ne,ob,mA,n,r,q⟩:=(show zAE P w H h a (.ins C dx fs) from hok a _ e);exact ⟨mA,⟨ob,n,ne⟩,r,q,z,d⟩
end
structure Cls (K:PySem.W.Frag) (C:Addr):Prop where
 pg:PySem.W.plainGet K C Str.empty = true
 hd:PySem.W.hasDictIn K C = true
 po:PySem.W.plainOver K C = true
 sa:PySem.W.findIn K (.ref C) "__setattr__" = some (some (.builtin "object.__setattr__"))
theorem Cls.get {K:PySem.W.Frag} {C:Addr} (c:Cls K C) (f:Str):PySem.W.plainGet K C f = true:=c.pg
section
variable {X:Cx} {zB:List (Addr × Obj)} {σ:St} {H:Hp} {s:Shared} {a C dx:Addr} {fs:List (Str × V)} {f:Str} {v:V} {A:Around} {E:Value -> Shared -> Prop}
theorem zOk {prog:Program} {w:World} {env:Env} {e:Expr} {f:Str} {pos:Pos} {s:Shared} {Q:Value -> Shared -> Prop} (hb:attributeBase e f env (eval e env) = eval e env)
  (h:wpAny (model prog w) A (eval e env) (fun o s₁=>wpAny (model prog w) A (getAttr o f true) Q E s₁) E s):wpAny (model prog w) A (eval (.Attribute e f pos) env) Q E s :=
 Attribute_any_ h (by rw [arm_eval_Attribute,hb])
end
section
variable {X:Cx} {zB:List (Addr × Obj)} {σ:St} {H:Hp} {s:Shared} {A:Around} {E:Value -> Shared -> Prop} {Q:Value -> Shared -> Prop} {c:Value} {b:Bool}
set_option genInjectivity true in
inductive TyOf (K:PySem.W.Frag) (H:Hp):V -> Value -> Prop where
 | non:TyOf K H .non (.type "NoneType")
 | bl (x:Bool):TyOf K H (.bl x) (.type "bool")
 | int (i:Int):TyOf K H (.int i) (.type "int")
 | str (x:Str):TyOf K H (.str x) (.type "str")
 | flt (x:UInt64):TyOf K H (.flt x) (.type "float")
 | lst {a:Addr} {xs:List V} (e:H a = some (.lst xs)):TyOf K H (.ref a) (.type "list")
 | frz {a:Addr} {o:Obj} {xs:List V} (e:H a = some (.frz o (.lst xs))):TyOf K H (.ref a) (.type "list")
 | tup {a:Addr} {xs:List V} (e:H a = some (.tup xs)):TyOf K H (.ref a) (.type "tuple")
 | dK {a:Addr} {kvs:List (Key × V)} (e:H a = some (.dK kvs)):TyOf K H (.ref a) (.type "dict")
 | dT {a:Addr} {kvs:List (List Key × V)} (e:H a = some (.dT kvs)):TyOf K H (.ref a) (.type "dict")
 | ins {a C dx:Addr} {fs:List (Str × V)} (e:H a = some (.ins C dx fs)) (cl:Cls K C) (ha:PySem.W.findIn K (.ref C) "__class__" = some (some (.builtin "object.__class__")))
   (hn:PySem.W.specialIn K (.builtin "object.__class__") "__get__" = some (some (.builtin "getset_descriptor.__get__"))) (htk:PySem.W.takesIn K (.builtin "object.__class__") = some true)
   (hm:PySem.W.mroIn K C (.type "object") = some true):TyOf K H (.ref a) (.ref C)
theorem zLH {x:V} {u t:Value} (I:Inv X zB σ H s) (rx:zt x u) (ty:TyOf X.K H x t) (e:PySem.W.kitOne X.K t c = some b) (h:∀ tk,Q (.bool b) { s with toks:=tk }) :
  wpAny (model X.prog X.w) A (call (.builtin "isinstance") [u,c]) Q E s:=by
 cases ty with
 | non=>cases (show u = Value.none from rx); exact zU2 PySem.W.kitx_none I.kIn True.intro e (fun z=>nomatch z) h
 | bl y=>cases (show u = Value.bool y from rx); exact zU2 PySem.W.kitx_bool I.kIn True.intro e (fun z=>nomatch z) h
 | int i=>obtain ⟨t,q⟩:=(show ∃ t,u = Value.int i t from rx); cases q; exact zU2 PySem.W.kitx_int I.kIn True.intro e (fun z=>nomatch z) h
 | str y=>obtain ⟨t,q⟩:=(show ∃ t,u = Value.str y t from rx); cases q; exact zU2 PySem.W.kitx_str I.kIn True.intro e (fun z=>nomatch z) h
 | flt y=>obtain ⟨t,q⟩:=(show ∃ t,u = Value.float y t from rx); cases q; exact zU2 PySem.W.kitx_float I.kIn True.intro e (fun z=>nomatch z) h
 | @lst a xs ea=>
  cases (show u = Value.ref a from rx);obtain ⟨_,_,n,_,h1⟩:=(show zAE X.prog X.w H s.heap a (.lst xs) from I.hok a _ ea);exact zU2 PySem.W.kitx_list I.kIn ⟨_,h1,rfl⟩ e (fun z=>nomatch z) h
 | @frz a ob xs ea=>
  cases (show u = Value.ref a from rx);obtain ⟨_,_,_,n,_,h1⟩:=(show zAE X.prog X.w H s.heap a (.frz ob (.lst xs)) from I.hok a _ ea);exact zU2 PySem.W.kitx_list I.kIn ⟨_,h1,rfl⟩ e (fun z=>nomatch z) h
 | @tup a xs ea=>
  cases (show u = Value.ref a from rx);obtain ⟨_,_,_,p⟩:=(show zAE X.prog X.w H s.heap a (.tup xs) from I.hok a _ ea);obtain ⟨o,h1,h2,_⟩:=p;exact zU2 PySem.W.kitx_tuple I.kIn ⟨o,h1,h2⟩ e (fun z=>nomatch z) h
 | @dK a kvs ea=>
  cases (show u = Value.ref a from rx);obtain ⟨_,_,vs,_,p⟩:=(show zAE X.prog X.w H s.heap a (.dK kvs) from I.hok a _ ea);obtain ⟨o,es,ep,h1,h2,_⟩:=p;exact zU2 PySem.W.kitx_dict I.kIn ⟨o,h1,h2.1⟩ e (fun z=>nomatch z) h
 | @dT a kvs ea=>
  cases (show u = Value.ref a from rx);obtain ⟨_,_,xs,_,o,es,ep,h1,h2,_⟩:=(show zAE X.prog X.w H s.heap a (.dT kvs) from I.hok a _ ea);exact zU2 PySem.W.kitx_dict I.kIn ⟨o,h1,h2.1⟩ e (fun z=>nomatch z) h
 | @ins a C dx fs ea cl ha hn htk hm=>
  cases (show u = Value.ref a from rx);obtain ⟨mA,O,_⟩:=zPD I.hok ea;obtain ⟨od,J,_⟩:=O.look;exact zU2 (PySem.W.kitx_own (cl.get _) cl.hd ha hn htk hm) I.kIn J e (fun z=>nomatch z) h
end
structure Room (k:Nat) (A:Around):Prop where
 hd:A.handled = none
 dp:A.depth + 3 * k + 5 < recursionLimit
 un:A.units + 16 * k + 200 < cLine
theorem Room.mono {j k:Nat} {A:Around} (r:Room k A) (h:j <= k):Room j A:=⟨r.hd,by have:=r.dp; omega,by have:=r.un; omega⟩
theorem Room.deeper {k:Nat} {A:Around} (r:Room (k + 1) A) (env:Env):Room k (A.deeper env) :=
 ⟨r.hd,by have:=r.dp; show A.depth + 1 + 3 * k + 5 < _; omega,by have:=r.un; show A.units + 3 + 16 * k + 200 < _; omega⟩
theorem zKJ {A:Around} {C:Addr} {us:List Value} {kw:List (Str × Value)}:(A.under (.builtin "type.__call__" ⟨.ref C :: us,kw⟩)).depth = A.depth + 1:=by
 first | rfl | simp [Around.under,Code.weight,Code.isCreation,Code.isGuard,Code.isCaller,Code.frames,Code.isFrame,guardIds]
theorem Room.depth {k:Nat} {A:Around} (r:Room k A):A.depth < recursionLimit:=by have:=r.dp; omega
theorem Room.units {k:Nat} {A:Around} (r:Room k A):A.units + 64 < cLine:=by have:=r.un; omega
theorem Room.units0 {k:Nat} {A:Around} (r:Room k A):A.units < cLine:=by have:=r.un; omega
def zSx:TA:=fun _ H Q=>Q [] H
def zRl (ta:TE) (tr:TA):TA:=fun σ H Q=>ta σ H fun x H1=>tr σ H1 fun xs H2=>Q (x :: xs) H2
section
variable {X:Cx} {e:Expr} {es:List Expr} {te:TE} {t:TA} {pos:Pos}
theorem zDP:PA X [] zSx:=fun _ _ _ _ H Q I h=>Calls.spliced_nil ⟨[],H,I,.nil,h⟩
theorem zAc (ha:PE X e te) (hr:PA X es t) (hs:starEach (e :: es) X.env = (false,eval e X.env) :: starEach es X.env:=by rfl):PA X (e :: es) (zRl te t):=by
 intro pos zB s σ H Q I h;rw [hs];show wpAny _ _ (spliced ((false,eval e X.env) :: backTo pos (starEach es X.env))) _ _ s;refine Calls.spliced_cons (thn (ha zB s σ H _ I h) fun u s1 ⟨x,H1,I1,r1,q1⟩=>?_);exact thn (hr pos zB s1 σ H1 _ I1 q1) fun us s2 ⟨xs,H2,I2,r2,q2⟩=>⟨x :: xs,H2,I2,.cons r1 r2,q2⟩
def zS9 (t:TA):TE:=fun σ H Q=>t σ H fun xs H1=>xs.length <= sizeLine /\ ∀ p,H1 p = none -> Q (.ref p) (upd H1 p (.tup xs))
def zS4 (t:TA):TE:=fun σ H Q=>t σ H fun xs H1=>xs.length <= sizeLine /\ ∀ p,H1 p = none -> Q (.ref p) (upd H1 p (.lst xs))
theorem zHZ {x1} (h:PA X es t):PE X (.Tuple es x1 pos) (zS9 t):=by
 intro zB s σ H Q I hq;refine wpAny_Tuple_spliced (thn (h pos zB s σ H _ I hq) fun us s1 ⟨xs,H1,I1,r,z,q⟩=>⟨by rw [<- r.length]; exact z,?_⟩);have hf:H1 s1.heap.objs.size = none:=I1.hok.fresh (zTQ _);refine ⟨.ref s1.heap.objs.size,upd H1 s1.heap.objs.size (.tup xs),I1.laid (t':=s1.toks) (fun b u e=>zTL _ e) (zTQ _) ?_,rfl,q _ hf⟩;exact ⟨z,us,r,⟨_,zTU _ rfl,rfl,⟨_,rfl⟩,rfl⟩⟩
theorem zQ4 (h:PA X es t):PE X (.List es pos) (zS4 t):=by
 intro zB s σ H Q I hq;refine wpAny_List_spliced (thn (h pos zB s σ H _ I hq) fun us s1 ⟨xs,H1,I1,r,z,q⟩=>⟨by rw [<- r.length]; exact z,?_⟩);have hf:H1 s1.heap.objs.size = none:=I1.hok.fresh (zTQ _);refine ⟨.ref s1.heap.objs.size,upd H1 s1.heap.objs.size (.lst xs),I1.laid (t':=s1.toks) (fun b u e=>zTL _ e) (zTQ _) ?_,rfl,q _ hf⟩;exact ⟨z,us,0,r,zTU _ rfl⟩
end
abbrev Sp:=List V -> Hp -> VK -> XK -> Prop
abbrev CXT:=List Env -> Hp -> Shared -> XK -> Value -> Shared -> Prop
structure Env0 (P:Program) (w:World) (K:PySem.W.Frag) (mg:Str -> Option Value) (base:Heap) (A:Around) (outer:List Env) (s:Shared) (H:Hp):Prop where
 frames:A.frames = some outer
 mod:Mod K mg base
 bs:∀ b o,base.get? b = some o -> s.heap.get? b = some o /\ H b = none
 bsz:base.objs.size <= s.heap.objs.size
 funs:s.heap.FunFrames base outer
 frf:∀ b ∈ frs outer,H b = none
 hok:HOk P w H s.heap
 bare:AllBare s.gens
def CE (outer:List Env) (P:Program) (w:World) (H:Hp) (s:Shared) (Q:VK) (u:Value) (s':Shared):Prop :=
 ∃ v H',s'.os = s.os /\ AllBare s'.gens /\ Un (frs outer) [] H H' s.heap s'.heap /\ HOk P w H' s'.heap /\ zt v u /\ Q v H'
def CR (CX:CXT) (outer:List Env) (P:Program) (w:World) (H:Hp) (s:Shared) (Q:VK) (E:XK) (r:Result) (s':Shared):Prop :=
 match r with
 | .ok (.ret u)=>CE outer P w H s Q u s'
 | .ok _=>False
 | .error e=>CX outer H s E e s'
structure FnOk (P:Program) (w:World) (K:PySem.W.Frag) (mg:Str -> Option Value) (base:Heap) (CX:CXT) (k:Nat) (f:Addr) (fd:FuncData) (ps:List Str) (sp:Sp):Prop where
 len:∀ vs H Q E,sp vs H Q E -> vs.length = ps.length
 run:∀ (A:Around) (outer:List Env) (s:Shared) (H:Hp) (args:Args) (us:List Value) (vs:List V) (Q:VK) (E:XK),Room k A -> Env0 P w K mg base A outer s H -> BindsTo s fd args (ps.zip us) -> zg vs us -> sp vs H Q E ->
  codeAny (model P w) A (.call (.ref f) args) (CR CX outer P w H s Q E) s
theorem FnOk.imp {P:Program} {w:World} {K:PySem.W.Frag} {mg:Str -> Option Value} {base:Heap} {CX:CXT} {k:Nat} {f:Addr} {fd:FuncData} {ps:List Str} {sp sp':Sp} (F:FnOk P w K mg base CX k f fd ps sp)
  (h:∀ vs H Q E,sp' vs H Q E -> sp vs H Q E):FnOk P w K mg base CX k f fd ps sp' :=
 ⟨fun vs H Q E q=>F.len vs H Q E (h _ _ _ _ q),fun A outer s H args us vs Q E hr he hb hv hs=>F.run A outer s H args us vs Q E hr he hb hv (h _ _ _ _ hs)⟩
section
variable {X:Cx} {zB:List (Addr × Obj)} {σ:St} {H:Hp} {s s':Shared}
theorem Inv.env0 (I:Inv X zB σ H s):Env0 X.prog X.w X.K X.mg X.base X.A X.stack s H :=
 ⟨I.ok.frames,I.ok.mod,I.bs,zTl I.ok.bsz I.sz,I.stack,I.stkFree,I.hok,I.bare⟩
theorem Inv.after {Q:VK} {u:Value} (I:Inv X zB σ H s) (h:CE X.stack X.prog X.w H s Q u s'):EP X zB σ Q u s':=by
 obtain ⟨v,H',os,bare,un,hok,r,q⟩:=h;obtain ⟨hh,g,d,t,os'⟩:=s';obtain rfl:os' = s.os:=os;exact ⟨v,H',I.call (h':=hh) (g':=g) (d':=d) (t':=t) (ch:=[]) un hok bare (fun b z=>absurd z (by simp)),r,q⟩
end
def zSO (sp:Sp) (dvs:List V) (E:XK) (t:TA):TE:=fun σ H Q=>t σ H fun vs H1=>sp (vs ++ dvs) H1 Q E
def zCI (K:PySem.W.Frag) (fd:FuncData) (ps:List Str) (ds:List Value):Prop :=
 ∀ (s:Shared) (us:List Value),K.In s.heap -> (us ++ ds).length = ps.length -> BindsTo s fd ⟨us,[]⟩ (ps.zip (us ++ ds))
theorem zCI.all {K:PySem.W.Frag} {fd:FuncData} {ps:List Str} (h:∀ us:List Value,us.length = ps.length -> bindArgs fd ⟨us,[]⟩ = pure (ps.zip us)):zCI K fd ps []:=fun s us _ hl=>by
 rw [zT9] at hl ⊢;exact .of_eq (h us hl)
def zEM (CX:CXT) (X:Cx) (E:XK):Prop:=∀ (zB:List (Addr × Obj)) (σ:St) (H:Hp) (s:Shared) (e:Value) (s':Shared),Inv X zB σ H s -> CX X.stack H s E e s' -> X.xe e s'
section
variable {X:Cx} {CX:CXT} {k:Nat} {f C:Addr} {fd:FuncData} {ps:List Str} {sp:Sp} {dvs:List V} {ds:List Value} {E:XK} {x m:Str} {p pos apos:Pos} {e o:Expr} {es:List Expr} {ta:TE} {t:TA}
theorem zRV {zB:List (Addr × Obj)} {σ:St} {H:Hp} {s:Shared} {Q:VK} {us:List Value} {vs:List V} (F:FnOk X.prog X.w X.K X.mg X.base CX k f fd ps sp) (hr:Room k X.A) (hb:zCI X.K fd ps ds) (hd:zg dvs ds) (hx:zEM CX X E)
  (I:Inv X zB σ H s) (r:zg vs us) (h:sp (vs ++ dvs) H Q E):wpAny (model X.prog X.w) X.A (call (.ref f) us) (EP X zB σ Q) X.xe s:=by
 have r2:zg (vs ++ dvs) (us ++ ds):=r.append hd;have hl:(us ++ ds).length = ps.length:=by rw [<- r2.length]; exact F.len _ _ _ _ h
 refine wpAny_call (codeAny_mono (F.run X.A X.stack s H ⟨us,[]⟩ (us ++ ds) (vs ++ dvs) Q E hr I.env0 (hb s us I.kIn hl) r2 h) fun r s' hq=>?_);cases r with
 | error e=>exact hx zB σ H s e s' I hq
 | ok fl=>
  cases fl with
  | ret u=>exact I.after hq
  | next=>exact False.elim hq
  | brk=>exact False.elim hq
  | cont=>exact False.elim hq
theorem zKq (F:FnOk X.prog X.w X.K X.mg X.base CX k f fd ps sp) (hr:Room k X.A) (hg:Gl X x) (hm:X.mg x = some (.ref f)) (hk:PySem.W.keepIn X.K (.ref f) = true) (hb:zCI X.K fd ps ds) (hd:zg dvs ds) (hx:zEM CX X E)
  (ha:PA X (e :: es) t) (hdb:(x == ("__debug__" : Str)) = false:=by decide) (he:starEach (e :: es) X.env = (false,eval e X.env) :: starEach es X.env:=by rfl) (hpl:(backTo pos (starEach es X.env)).any (·.1) = false:=by rfl) :
  PE X (.Call (.Name x p) (e :: es) [] pos) (zSO sp dvs E t):=by
 intro zB s σ H Q I h;refine wpAny_Call_Name_kw (zEP I hg hm ?_ hdb);refine PySem.W.callWith_K (h₀:=X.base) I.ok.mod.kin hk (thn (ha pos zB s σ H _ I h) fun us s1 ⟨vs,H1,I1,r,q⟩=>⟨I1.kIn,?_⟩) he hpl;exact zRV F hr hb hd hx I1 r q
end
structure FnScope (N P:List Str) (sc:Scope):Prop where
 kind:sc.kind = .function
 co:sc.isCoroutine = false
 gen:sc.isGenerator = false
 nd:N.Nodup
 pre:N.take P.length = P
 par:∀ x ∈ P,sc.names.lookup x = some .local \/ sc.names.lookup x = some .cell
 nofree:∀ y ∈ sc.names,y.2 ≠ .free
theorem zGl {kindOf:Str -> Option NameKind} {x:Str}:∀ {binds:List (Str × Value)} {m:Str -> Option Value},(∀ v,(x,v) ∉ binds) -> bindL kindOf binds m x = m x
 | [],_,_=>rfl
 | (n,v) :: r,m,h=>by
  unfold bindL;rw [zGl fun w hw=>h w (zTX _ hw)];split
  ·have:x ≠ n:=by rintro rfl; exact h v zTY
   simp [this]
  ·rfl
theorem zG6 {kindOf:Str -> Option NameKind} {x:Str}:∀ {binds:List (Str × Value)} {m:Str -> Option Value},(∀ v,(x,v) ∉ binds) -> bindC kindOf binds m x = m x
 | [],_,_=>rfl
 | (n,v) :: r,m,h=>by
  unfold bindC;rw [zG6 fun w hw=>h w (zTX _ hw)];split
  ·rfl
  ·have:x ≠ n:=by rintro rfl; exact h v zTY
   simp [this]
theorem zCj {kindOf:Str -> Option NameKind} {x:Str} {v:Value}:∀ {P:List Str} {vs:List Value} {i:Nat} {m:Str -> Option Value},P.Nodup -> P[i]? = some x -> vs[i]? = some v -> kindOf x = some .local ->
  bindL kindOf (P.zip vs) m x = some v
 | [],_,_,_,_,h,_,_=>by simp at h
 | _ :: _,[],_,_,_,_,h,_=>by simp at h
 | p :: P,w :: vs,0,m,nd,h1,h2,hk=>by
  simp at h1 h2; subst h1; subst h2;show bindL kindOf ((p,w) :: P.zip vs) m p = _;unfold bindL;rw [zGl fun v hv=>(List.nodup_cons.mp nd).1 (List.of_mem_zip hv).1,zTZ hk];simp
 | p :: P,w :: vs,i + 1,m,nd,h1,h2,hk=>by
  show bindL kindOf ((p,w) :: P.zip vs) m x = _;unfold bindL;exact zCj (i:=i) (List.nodup_cons.mp nd).2 (by simpa using h1) (by simpa using h2) hk
theorem zGi {kindOf:Str -> Option NameKind} {x:Str} {v:Value}:∀ {P:List Str} {vs:List Value} {i:Nat} {m:Str -> Option Value},P.Nodup -> P[i]? = some x -> vs[i]? = some v -> kindOf x ≠ some .local ->
  bindC kindOf (P.zip vs) m x = some v
 | [],_,_,_,_,h,_,_=>by simp at h
 | _ :: _,[],_,_,_,_,h,_=>by simp at h
 | p :: P,w :: vs,0,m,nd,h1,h2,hk=>by
  simp at h1 h2; subst h1; subst h2;show bindC kindOf ((p,w) :: P.zip vs) m p = _;unfold bindC;rw [zG6 fun v hv=>(List.nodup_cons.mp nd).1 (List.of_mem_zip hv).1,zTc hk];simp
 | p :: P,w :: vs,i + 1,m,nd,h1,h2,hk=>by
  show bindC kindOf ((p,w) :: P.zip vs) m x = _;unfold bindC;exact zGi (i:=i) (List.nodup_cons.mp nd).2 (by simpa using h1) (by simpa using h2) hk
def zD4 (N:List Str) (vs:List V):St:=vs.map some ++ List.replicate (N.length - vs.length) none
def zIS (CX:CXT) (P:Program) (w:World) (K:PySem.W.Frag) (mg:Str -> Option Value) (base:Heap) (N:List Str) (qual:Str) (scope:Scope) (f:Addr) (cd:Value) (A:Around) (outer:List Env) (s:Shared) (H:Hp) (E:XK):Cx where
 prog:=P
 w:=w
 K:=K
 mg:=mg
 base:=base
 A:=A.deeper (envOfC qual scope s.heap.objs.size f cd)
 N:=N
 s₀:=s
 H₀:=H
 env:=envOfC qual scope s.heap.objs.size f cd
 outer:=outer
 stack:=envOfC qual scope s.heap.objs.size f cd :: outer
 ex:=[]
 calm:=true
 fn:=fun _=>true
 pn:=[]
 xe:=fun e s'=>wpAny (model P w) (A.deeper (envOfC qual scope s.heap.objs.size f cd)) (leaving (envOfC qual scope s.heap.objs.size f cd) e) (fun _ s''=>CX outer H s E e s'') (fun e' s''=>CX outer H s E e' s'') s'
theorem zGJ {sc:Scope} {n:Nat} {x:Str} (h:sc.names.lookup x = some .cell):∃ c,(cellsFrom n sc.names []).lookup x = some c:=by
 have q:=PySem.W.cellsFrom_some sc.names n [] (.inl h);exact Option.isSome_iff_exists.mp q
theorem zLP {CX:CXT} {P:Program} {w:World} {K:PySem.W.Frag} {mg:Str -> Option Value} {base:Heap} {N ps:List Str} {qual:Str} {scope:Scope} {f:Addr} {cd:Value} {A:Around} {outer:List Env} {s s1:Shared} {H:Hp} {E:XK} {us:List Value} {vs:List V}
  (S:FnScope N ps scope) (hd:A.handled = none) (e0:Env0 P w K mg base A outer s H) (hl:vs.length = ps.length) (r:zg vs us)
  (x:InCallC s s.heap.objs.size (bindL (envOfC qual scope s.heap.objs.size f cd).kindOf (ps.zip us) fun _=>none) (cellsFrom (s.heap.objs.size + 1) scope.names []) (bindC (envOfC qual scope s.heap.objs.size f cd).kindOf (ps.zip us) fun _=>none) s1) :
  Inv (zIS CX P w K mg base N qual scope f cd A outer s H E) [] (zD4 N vs) H s1:=by
 have hpl:ps.length <= N.length:=by have:=zVC List.length S.pre; rw [zUn] at this; omega
 obtain ⟨h1,tk,rfl,hk⟩:=x.done;have noA:∀ b:Addr,b ∉ (zIS CX P w K mg base N qual scope f cd A outer s H E).ex:=fun b z=>absurd (show b ∈ ([]:List Addr) from z) (by simp)
 refine ⟨⟨e0.mod,S.kind,rfl,rfl,zTQ _,fun y z c h1 h2=>?_,fun y hy=>?_,fun y c _ h=>?_,fun _=>hd,Around.frames_deeper e0.frames,.inr ⟨rfl,rfl⟩,fun b z=>absurd z (noA b),e0.bs,e0.bsz,fun b _ _=>noA b,fun b z=>absurd z (noA b),e0.funs,e0.frf⟩,
  rfl,e0.bare,Un.kept hk,⟨_,x.toInCall.ns,fun i y v h1 h2 h3=>?_⟩,fun y c h=>⟨_,x.cell y c h⟩,e0.hok.fresh (zTQ _),fun y c h=>?_,fun p hp=>absurd (show p ∈ ([]:List (Addr × Obj)) from hp) (by simp),e0.hok.kept hk,?_⟩
 ·exact name_of_addr x.apart (zUR h1) (zUR h2)
 ·have hy:scope.names.lookup y = some .cell \/ scope.names.lookup y = some .free:=hy;rcases hy with hy | hy
  ·exact zGJ hy
  ·exact absurd rfl (S.nofree _ (zUR hy))
 ·exact Nat.le_of_lt (x.above y c (zUR h))
 ·have hi:i < vs.length:=by
   unfold zD4 at h2;by_cases hi:i < vs.length
   ·exact hi
   ·rw [zUZ (by simpa using hi)] at h2;rw [List.getElem?_replicate] at h2;split at h2 <;> cases h2
  have ha:vs[i]? = some v:=by
   unfold zD4 at h2;rw [zTR (by simpa using hi),zTh] at h2;cases e:vs[i]? with
   | none=>rw [e] at h2; cases h2
   | some a=>rw [e] at h2; cases h2; rfl
  obtain ⟨u,hu,rv⟩:=r.get ha;have hp:ps[i]? = some y:=by
   rw [<- S.pre,List.getElem?_take_of_lt (by omega)]; exact h1
  have ndP:ps.Nodup:=by rw [<- S.pre]; exact S.nd.sublist (List.take_sublist _ _)
  refine ⟨u,rv,?_⟩;rcases S.par y (zUG hp) with k | k
  ·exact .inl ⟨k,zCj ndP hp hu k⟩
  ·obtain ⟨c,e⟩:=zGJ (n:=s.heap.objs.size + 1) k;refine .inr ⟨.inl k,c,e,?_⟩;have q:=x.cell y c e;rw [zGi ndP hp hu (by show scope.names.lookup y ≠ _; rw [k]; decide)] at q;exact q
 ·exact e0.hok.fresh (Nat.le_of_lt (x.above y c (zUR h)))
 ·unfold zD4;show _ = N.length;rw [zTa,zTT,List.length_replicate];omega
theorem zP5 {CX:CXT} {P:Program} {w:World} {K:PySem.W.Frag} {mg:Str -> Option Value} {base:Heap} {k:Nat} {f:Addr} {name qual:Str} {params:Arguments} {body:List Stmt} {scope:Scope} {dV kV doc pm cdv ct oc:Value} {an od:Option Addr}
  {osl:Array (Option Value)} {N ps:List Str} {sp:Sp} (lk:K.lookup f = some ⟨oc,od,.func (PySem.W.fnOf name qual params body scope dV kV doc pm an cdv ct),osl⟩) (hcd:PySem.W.codeIn K cdv qual = true) (S:FnScope N ps scope)
  (len:∀ vs H Q E,sp vs H Q E -> vs.length = ps.length)
  (hbody:∀ (A:Around) (outer:List Env) (s:Shared) (H:Hp) (vs:List V) (Q:VK) (E:XK),Room k (A.deeper (envOfC qual scope s.heap.objs.size f cdv)) -> sp vs H Q E ->
   ∃ t,PSs (zIS CX P w K mg base N qual scope f cdv A outer s H E) body t /\ t { nx:=fun _ H'=>Q .non H',rt:=Q } (zD4 N vs) H) :
  FnOk P w K mg base CX (k + 1) f (PySem.W.fnOf name qual params body scope dV kV doc pm an cdv ct) ps sp:=by
 refine ⟨len,fun A outer s H args us vs Q E hr e0 hb r hsp=>?_⟩;have hl:=len _ _ _ _ hsp;have KX:K.In s.heap:=e0.mod.kin.keeps fun b o e=>(e0.bs b o e).1;have lim:s.heap.NoLimit:=e0.mod.nolimit.keeps fun b o e=>(e0.bs b o e).1;have hkind:∀ y ∈ ps.zip us,scope.names.lookup y.1 = some .local \/ (scope.names.lookup y.1 = some .cell /\ ((cellsFrom (s.heap.objs.size + 1) scope.names []).lookup y.1).isSome = true):=fun ⟨n,v⟩ hy=>by
  rcases S.par n (List.of_mem_zip hy).1 with q | q
  ·exact .inl q
  ·exact .inr ⟨q,PySem.W.cellsFrom_some _ _ _ (.inl q)⟩
 refine codeAny_call_function hr.depth (KX _ _ lk) rfl S.co S.gen rfl (PySem.W.codeRec_of KX hcd) (hb _ _ _ _ ?_);refine wpAny_newFunctionEnv_cells S.kind hkind fun env he s1 x=>?_;subst he;refine ⟨lim.keeps x.toInCall.keep,codeAny_func ?_⟩;obtain ⟨t,ht,hq⟩:=hbody A outer s H vs Q E (hr.deeper _) hsp;have I:Inv (zIS CX P w K mg base N qual scope f cdv A outer s H E) [] (zD4 N vs) H s1:=zLP S hr.hd e0 hl r x;refine zTq (ht [] s1 (zD4 N vs) H _ I hq) (fun fl s' hs=>?_) fun e s' hs=>hs;have fin:∀ {σ':St} {H':Hp} {v:V} {u:Value},Inv (zIS CX P w K mg base N qual scope f cdv A outer s H E) [] σ' H' s' -> zt v u -> Q v H' -> CE outer P w H s Q u s' :=
  fun {σ' H' v u} J rv q=>⟨v,H',J.os,J.bare,J.base,J.hok,rv,q⟩
 cases fl with
 | ret u=>
  obtain ⟨v,σ',H',J,rv,q⟩:=hs;exact fin J rv q
 | next=>
  obtain ⟨σ',H',J,q⟩:=hs;exact fin (v:=V.non) (u:=Value.none) J rfl q
 | brk=>
  obtain ⟨_,_,_,q⟩:=hs;exact False.elim q
 | cont=>
  obtain ⟨_,_,_,q⟩:=hs;exact False.elim q
section
variable {X:Cx} {x:Str} {p pos:Pos} {e:Expr} {es:List Expr} {t:TA} {id T:String} {r:List V -> Hp -> VK -> Prop}
def tCB (r:List V -> Hp -> VK -> Prop) (t:TA):TE:=fun σ H Q=>t σ H fun vs H1=>r vs H1 Q
theorem zDE (hc:zBZ X (.builtin id) r) (hg:Gl X x) (hm:X.mg x = none) (hv:bootBuiltins x = some (.builtin id)) (ha:PA X (e :: es) t) (hn:x ≠ "__name__" := by decide) (hdb:(x == ("__debug__" : Str)) = false:=by decide)
  (he:starEach (e :: es) X.env = (false,eval e X.env) :: starEach es X.env:=by rfl) (hpl:(backTo pos (starEach es X.env)).any (·.1) = false:=by rfl):PE X (.Call (.Name x p) (e :: es) [] pos) (tCB r t):=by
 intro zB s σ H Q I h;refine wpAny_Call_Name_kw (zEw I hg hm hv ?_ hn hdb);exact PyProof.Rows.callWith_builtin1 (thn (ha pos zB s σ H _ I h) fun us s1 ⟨vs,H1,I1,r1,q1⟩=>hc zB s1 σ H1 vs us Q I1 r1 q1) he hpl
theorem zLN (hc:zBZ X (.type T) r) (hg:Gl X x) (hm:X.mg x = none) (hv:bootBuiltins x = some (.type T)) (ha:PA X (e :: es) t) (hn:x ≠ "__name__" := by decide) (hdb:(x == ("__debug__" : Str)) = false:=by decide)
  (he:starEach (e :: es) X.env = (false,eval e X.env) :: starEach es X.env:=by rfl) (hpl:(backTo pos (starEach es X.env)).any (·.1) = false:=by rfl):PE X (.Call (.Name x p) (e :: es) [] pos) (tCB r t):=by
 intro zB s σ H Q I h;refine wpAny_Call_Name_kw (zEw I hg hm hv ?_ hn hdb);exact PyProof.Rows.callWith_type1 (thn (ha pos zB s σ H _ I h) fun us s1 ⟨vs,H1,I1,r1,q1⟩=>hc zB s1 σ H1 vs us Q I1 r1 q1) he hpl
end
end L2
namespace HT
open PySem PyProof.Rows
section
variable {prog:Program} {w:World} {A:Around} {E:Value -> Shared -> Prop} {s:Shared}
theorem zO2 {t b:Addr} {vs ws:List Value} {Q:Value -> Shared -> Prop} (ht:IsTup s.heap t vs.toArray) (hb:IsTup s.heap b ws.toArray) (hv:vs ≠ [])
  (h1:ws = [] -> Q (.ref t) s) (h2:ws ≠ [] -> Q (.ref s.heap.objs.size) { s with heap:=s.heap.push { cls:=.type "tuple", data:=.seq (vs ++ ws).toArray } })
  (hsz:vs.length + ws.length <= sizeLine):wpAny (model prog w) A (binaryOp .Add (.ref t) (.ref b)) Q E s:=by
 obtain ⟨⟨cls,dd,data,sl⟩,ho,hc,n,hd⟩:=id ht;obtain ⟨⟨cls2,dd2,data2,sl2⟩,ho2,hc2,n2,hd2⟩:=id hb;simp only at hc hd hc2 hd2;subst hc hd hc2 hd2;have e:vs.toArray ++ ws.toArray = (vs ++ ws).toArray:=by simp
 by_cases hw:ws = []
 ·exact concat_meets ⟨_,ho,rfl⟩ ⟨_,ho2,rfl⟩ noFill_tuple_add seq_tuple_add PySem.F.slot_tuple_add PySem.F.entry_tuple_add (PySem.F.args_tuple_add_2 _ _)
   (tuple_addW1 t b vs.toArray ws.toArray n n2 dd dd2 sl sl2 (by simpa using hv) (by simp [hw])) ⟨ho,ho2,h1 hw⟩
 ·refine concat_meets ⟨_,ho,rfl⟩ ⟨_,ho2,rfl⟩ noFill_tuple_add seq_tuple_add PySem.F.slot_tuple_add PySem.F.entry_tuple_add (PySem.F.args_tuple_add_2 _ _)
   (tuple_addW2 t b vs.toArray ws.toArray n n2 dd dd2 sl sl2 (by simpa using hv) (by simpa using hw) (by rw [zTS,zTS]; exact hsz)) ⟨ho,ho2,?_⟩
  rw [e];exact h2 hw
def sIx (n d:Nat):Option Int -> Nat
 | none=>d
 | some v=>if v < 0 then (v + (n:Int)).toNat else min v.toNat n
theorem zHc (n d k:Nat):sIx n d (some (k:Int)) = min k n:=by
 show (if (k:Int) < 0 then ((k:Int) + (n:Int)).toNat else min (k:Int).toNat n) = min k n;rw [zTc (by omega),zV9]
theorem zQc (n d:Nat) (hd:d <= n) (o:Option Int):sIx n d o <= n:=by
 cases o with
 | none=>exact hd
 | some v=>
  show (if v < 0 then (v + (n:Int)).toNat else min v.toNat n) <= n;by_cases hv:v < 0
  ·rw [zTZ hv]; omega
  ·rw [zTc hv]; exact Nat.min_le_right _ _
theorem zKa (v:Int) (n d:Nat):(if v < 0 then max (v + (n:Int)) 0 else min v (n:Int)) = ((sIx n d (some v):Nat):Int):=by
 show (if v < 0 then max (v + (n:Int)) 0 else min v (n:Int)) = (((if v < 0 then (v + (n:Int)).toNat else min v.toNat n):Nat):Int);by_cases hv:v < 0
 ·simp only [zTZ hv]; omega
 ·simp only [zTc hv]; omega
theorem zJt (lo hi:Option Int) (n:Nat):Builtin.Slice.sliceAdjust lo hi 1 (n:Int) = (((sIx n 0 lo:Nat):Int),((sIx n n hi:Nat):Int)):=by
 have h1:¬ ((1:Int) < 0):=by omega
 unfold Builtin.Slice.sliceAdjust;simp only [h1,if_false];refine Prod.ext ?_ ?_
 ·cases lo with
  | none=>rfl
  | some v=>exact zKa v n 0
 ·cases hi with
  | none=>rfl
  | some v=>exact zKa v n n
theorem zJn (i j:Nat):Builtin.Slice.slicePlaces (i:Int) (j:Int) 1 = j - i:=by
 unfold Builtin.Slice.slicePlaces;have h1:(1:Int) > 0:=by omega
 simp only [h1,if_true,Int.ediv_one];split <;> omega
theorem zGT {v:Value} {o:Option Int} {Q:Option Int -> Shared -> Prop} (p:IsPart v o) (h:Q o s):wpAny (model prog w) A (Builtin.Slice.slicePartIndex v) Q E s:=by
 cases p with
 | none=>exact slicePart_none h
 | int i t=>exact slicePart_int h
theorem zCb {sl:Addr} {vl vu:Value} {lo hi:Option Int} {n:Nat} {Q:Int × Int × Nat -> Shared -> Prop} (hs:s.heap.IsSliceOf sl vl vu .none) (pl:IsPart vl lo) (pu:IsPart vu hi)
  (h:Q (((sIx n 0 lo:Nat):Int),1,sIx n n hi - sIx n 0 lo) s):wpAny (model prog w) A (Builtin.Slice.sliceApplied (.ref sl) (pure (n:Int))) Q E s:=by
 obtain ⟨os,hos,hcs,hds⟩:=id hs;unfold Builtin.Slice.sliceApplied Builtin.Slice.sliceFields;refine zTK (zTK (zTz hos hds (x:=vl) rfl (zTK (zTz hos hds (x:=vu) rfl (zTK (zTz hos hds (x:=.none) rfl (zTM ?_)))))));refine zTK (slicePart_none ?_);show wpAny _ _ (if ((1:Int) == 0) = true then _ else _) _ _ s;rw [zTc (by decide)];refine zTK (zGT pl (zTK (zGT pu (zTK (zTM ?_)))));show wpAny _ _ (match Builtin.Slice.sliceAdjust lo hi 1 (n:Int) with | (lo,hi)=>pure (lo,(1:Int),Builtin.Slice.slicePlaces lo hi 1)) _ _ s;rw [zJt lo hi n];show wpAny _ _ (pure (((sIx n 0 lo:Nat):Int),(1:Int),Builtin.Slice.slicePlaces ((sIx n 0 lo:Nat):Int) ((sIx n n hi:Nat):Int) 1)) _ _ s;rw [zJn];exact zTM h
theorem zMS (xs:Array Value) (i k:Nat):((List.range k).filterMap fun (m:Nat)=>xs[((i:Int) + (m:Int) * 1).toNat]?).toArray = ((xs.toList.drop i).take k).toArray:=by
 have e:(fun (m:Nat)=>xs[((i:Int) + (m:Int) * 1).toNat]?) = fun m=>xs[i + m]?:=by
  funext m;have:((i:Int) + (m:Int) * 1).toNat = i + m:=by omega
  rw [this]
 rw [e];have:=pick_run xs i k;rw [List.filterMap_map] at this;have e2:((fun x=>xs[x]?) ∘ fun x=>i + x) = fun m=>xs[i + m]?:=rfl;rw [e2] at this;rw [this]
theorem zEX {t sl:Addr} {items:Array Value} {vl vu:Value} {lo hi:Option Int} {Q:Value -> Shared -> Prop} (ht:IsTup s.heap t items) (hs:s.heap.IsSliceOf sl vl vu .none) (pl:IsPart vl lo) (pu:IsPart vu hi)
  (hw:¬ (sIx items.size 0 lo = 0 /\ sIx items.size items.size hi = items.size))
  (h:Q (.ref s.heap.objs.size) { s with heap:=s.heap.push { cls:=.type "tuple", data:=.seq ((items.toList.drop (sIx items.size 0 lo)).take (sIx items.size items.size hi - sIx items.size 0 lo)).toArray } })
  (hsz:items.size <= sizeLine):wpAny (model prog w) A (getItem (.ref t) (.ref sl)) Q E s:=by
 have htake:sizeOk (.seq ((items.toList.drop (sIx items.size 0 lo)).take (sIx items.size items.size hi - sIx items.size 0 lo)).toArray):=by
  show ((items.toList.drop (sIx items.size 0 lo)).take (sIx items.size items.size hi - sIx items.size 0 lo)).toArray.size <= sizeLine;rw [zTS,zUn,zVs,zT8];omega
 have hj:sIx items.size items.size hi <= items.size:=zQc _ _ (zTQ _) hi;obtain ⟨os,hos,hcs,hds⟩:=id hs;have hTs:s.TypeIs (.ref sl) "slice" := ⟨os,hos,hcs⟩;unfold getItem;try with_reducible refine zUI ?_
 first | refine zTK (zTM ?_) | skip
 refine zTK (wpAny_sequenceKey ht.typeIs (by decide) ?_)
 refine zTK (zTw (name:=Str.ofString "__getitem__") ht.typeIs zUx
  (zTx zUx ht.typeIs entry_tuple_getitem ?_ (args_tuple_getitem _ _)))
 show wpAny _ _ (Builtin.Tuple.tupleItemsOf (.ref t) >>= _) _ _ s;refine zTK (tupleItemsOf_ ht ?_);refine zTK (wpAny_typeOf hTs ?_);rw [zTZ (by decide)];refine zTK (zCb hs pl pu ?_);have hno:¬ ((((sIx items.size 0 lo:Nat):Int) == 0 && (1:Int) == 1 && (sIx items.size items.size hi - sIx items.size 0 lo) == items.size) = true):=by
  intro q;rw [zTu,zTu] at q;have q1:((sIx items.size 0 lo:Nat):Int) = 0:=eq_of_beq q.1.1;have q2:sIx items.size items.size hi - sIx items.size 0 lo = items.size:=eq_of_beq q.2;exact hw ⟨by omega,by omega⟩
 show wpAny _ _ (if (((sIx items.size 0 lo:Nat):Int) == 0 && (1:Int) == 1 && (sIx items.size items.size hi - sIx items.size 0 lo) == items.size) = true then _ else _) _ _ s;rw [zTc hno,zMS]
 first
  | exact zTK (m:=Builtin.Tuple.tupleExact _) (zTn (zTM ⟨_,rfl,zTM h⟩) htake)
  | exact zTK (m:=Builtin.Tuple.tupleExact _) (zTn (zTK (zTM (zTM ⟨_,rfl,zTM h⟩))) htake)
  | exact zTK (zTK (m:=Builtin.Tuple.tupleExact _) (zTn (zTM (zTM ⟨_,rfl,zTM h⟩)) htake))
  | exact zTK (zTK (m:=Builtin.Tuple.tupleExact _) (zTn (zTM ⟨_,rfl,zTM h⟩) htake))
end
end HT
namespace L2
open PySem PySem.Spec PyProof.Rows
abbrev TO:=St -> Hp -> (Option Int -> Hp -> Prop) -> Prop
def PO (X:Cx) (e:Option Expr) (t:TO):Prop :=
 ∀ (zB:List (Addr × Obj)) (s:Shared) (σ:St) (H:Hp) (Q:Option Int -> Hp -> Prop),Inv X zB σ H s -> t σ H Q ->
  wpAny (model X.prog X.w) X.A (evalPart e X.env) (fun u s'=>∃ o H',Inv X zB σ H' s' /\ IsPart u o /\ Q o H') X.xe s
def zPe:TO:=fun _ H Q=>Q none H
def zSW (t:TE):TO:=fun σ H Q=>t σ H fun x H1=>∃ i,x = .int i /\ Q (some i) H1
section
variable {X:Cx} {e:Expr} {te:TE} {lo hi:Option Expr} {tl th:TO} {pos p2:Pos}
theorem zOr:PO X none zPe:=by
 intro zB s σ H Q I h;rw [evalPart_none];exact zTM ⟨none,H,I,.none,h⟩
theorem zOP (h:PE X e te):PO X (some e) (zSW te):=by
 intro zB s σ H Q I hw;rw [evalPart_some];refine thn (h zB s σ H _ I hw) fun u s1 ⟨x,H1,I1,r1,q1⟩=>?_;obtain ⟨i,rfl,q⟩:=q1;obtain ⟨t,rfl⟩:=r1;exact ⟨some i,H1,I1,.int i t,q⟩
def SlR (X:Cx) (r:V -> Option Int -> Option Int -> Hp -> VK -> Prop):Prop :=
 ∀ (zB:List (Addr × Obj)) (s:Shared) (σ:St) (H:Hp) (x:V) (v vl vu:Value) (lo hi:Option Int) (sl:Addr) (Q:VK),Inv X zB σ H s -> zt x v -> s.heap.IsSliceOf sl vl vu .none -> IsPart vl lo -> IsPart vu hi -> r x lo hi H Q ->
  ∃ T id,typeLookup (.type T) "__getitem__" = pure (some (.builtin id)) /\ s.TypeIs v T /\ wpAny (model X.prog X.w) X.A (getItem v (.ref sl)) (EP X zB σ Q) X.xe s
theorem SlR.or {r r':V -> Option Int -> Option Int -> Hp -> VK -> Prop} (h:SlR X r) (h':SlR X r'):SlR X (fun x lo hi H Q=>r x lo hi H Q \/ r' x lo hi H Q):=by
 intro zB s σ H x v vl vu lo hi sl Q I rx hs pl pu q;rcases q with q | q
 ·exact h zB s σ H x v vl vu lo hi sl Q I rx hs pl pu q
 ·exact h' zB s σ H x v vl vu lo hi sl Q I rx hs pl pu q
def tSl (r:V -> Option Int -> Option Int -> Hp -> VK -> Prop) (te:TE) (tl th:TO):TE:=fun σ H Q=>te σ H fun x H1=>tl σ H1 fun l H2=>th σ H2 fun u H3=>r x l u H3 Q
theorem zMc {r:V -> Option Int -> Option Int -> Hp -> VK -> Prop} (hr:SlR X r) (he:PE X e te) (hl:PO X lo tl) (hu:PO X hi th):PE X (.Subscript e (.Slice lo hi none p2) pos) (tSl r te tl th):=by
 intro zB s σ H Q I h;refine Subscript_ (thn (he zB s σ H _ I h) fun v s1 ⟨x,H1,I1,r1,q1⟩=>?_);refine wpAny_Slice (thn (hl zB s1 σ H1 _ I1 q1) fun vl s2 ⟨l,H2,I2,pl,q2⟩=>thn (hu zB s2 σ H2 _ I2 q2) fun vu s3 ⟨u,H3,I3,pu,q3⟩=>?_);rw [evalPart_none];refine zTM ?_;have I4:Inv X zB σ H3 { s3 with heap:=s3.heap.push { cls:=.type "slice", data:=.fields #[vl,vu,.none] } }:=I3.kept (t':=s3.toks) fun b ob q=>zTL _ q;obtain ⟨T,id,hT,ht,hg⟩:=hr zB { s3 with heap:=s3.heap.push { cls:=.type "slice", data:=.fields #[vl,vu,.none] } } σ H3 x v vl vu l u s3.heap.objs.size Q I4 r1 (Heap.IsSliceOf.new ..) pl pu q3;show wpAny (model X.prog X.w) X.A (subscriptTail e (.Slice lo hi none p2) v (.ref s3.heap.objs.size)) (EP X zB σ Q) X.xe { s3 with heap:=s3.heap.push { cls:=.type "slice", data:=.fields #[vl,vu,.none] } };exact tail_any (ops:=[.ref s3.heap.objs.size,v]) ht hT hg (by with_unfolding_all rfl)
def zJT (xs:List V) (lo hi:Option Int):List V:=(xs.drop (HT.sIx xs.length 0 lo)).take (HT.sIx xs.length xs.length hi - HT.sIx xs.length 0 lo)
theorem zFQ (xs:List V) (lo hi:Option Int):(zJT xs lo hi).length <= xs.length:=by
 unfold zJT;rw [zUn,zVs];omega
def zTD (K:PySem.W.Frag):V -> Option Int -> Option Int -> Hp -> VK -> Prop:=fun x lo hi H Q=>∃ a xs,x = .ref a /\ SqT K H a xs /\
 ¬ (HT.sIx xs.length 0 lo = 0 /\ HT.sIx xs.length xs.length hi = xs.length) /\ ∀ p,H p = none -> Q (.ref p) (upd H p (.tup (zJT xs lo hi)))
theorem zRZ:SlR X (zTD X.K):=by
 intro zB s σ H x v vl vu lo hi sl Q I rx hs pl pu h;obtain ⟨a,xs,rfl,hx,hw,q⟩:=h;cases rx;obtain ⟨its,r,ht,hz⟩:=I.tuple hx;have hlen:its.toArray.size = xs.length:=by rw [zTS]; exact r.length.symm
 refine ⟨"tuple", _,zUx.lookup,ht.typeIs,?_⟩;refine HT.zEX ht hs pl pu (by rw [hlen]; exact hw) ?_ (by rw [hlen]; exact hz);rw [hlen];refine ⟨.ref s.heap.objs.size,_,I.laid (t':=s.toks) (o:=.tup (zJT xs lo hi)) (fun b ob q=>zTL _ q) (zTQ _) ?_,rfl,q _ (I.hok.fresh (zTQ _))⟩;exact ⟨zTl (zFQ xs lo hi) hz,_,(r.drop (HT.sIx xs.length 0 lo)).take (HT.sIx xs.length xs.length hi - HT.sIx xs.length 0 lo),zB3.new _ _⟩
def zPz (K:PySem.W.Frag):R2:=fun x y H Q=>∃ a b xs ys,x = .ref a /\ y = .ref b /\ SqT K H a xs /\ SqT K H b ys /\ xs ≠ [] /\ xs.length + ys.length <= sizeLine /\
 (ys = [] -> Q (.ref a) H) /\ (ys ≠ [] -> ∀ p,H p = none -> Q (.ref p) (upd H p (.tup (xs ++ ys))))
theorem zg.nil_iff {xs:List V} {us:List Value} (r:zg xs us):us = [] ↔ xs = []:=by
 cases r with
 | nil=>simp
 | cons _ _=>simp
theorem zPK:OpR X (binaryOp .Add) (zPz X.K):=by
 intro zB s σ H x y v u Q I rx ry h;obtain ⟨a,b,xs,ys,rfl,rfl,ha,hb,hx,hz,q1,q2⟩:=h;cases rx;cases ry;obtain ⟨its,r1,p1,_⟩:=I.tuple ha;obtain ⟨its2,r2,p2,_⟩:=I.tuple hb;refine HT.zO2 p1 p2 (fun z=>hx (r1.nil_iff.mp z)) (fun z=>⟨.ref a,H,I,rfl,q1 (r2.nil_iff.mp z)⟩) (fun z=>?_) (by rw [<- r1.length,<- r2.length]; exact hz);refine ⟨.ref s.heap.objs.size,_,I.laid (t':=s.toks) (o:=.tup (xs ++ ys)) (fun b ob q=>zTL _ q) (zTQ _) ?_,rfl,q2 (fun w=>z (r2.nil_iff.mpr w)) _ (I.hok.fresh (zTQ _))⟩;exact ⟨by rw [zTa]; exact hz,_,r1.append r2,zB3.new _ _⟩
end
def ixN (n:Nat) (i:Int):Option Nat:=if 0 <= i then (if i < n then some i.toNat else none) else if -(n:Int) <= i then some (i + n).toNat else none
def atI {α:Type} (xs:List α) (i:Int):Option α:=(ixN xs.length i).bind fun j=>xs[j]?
theorem zHK {n:Nat} {i:Int} {j:Nat} (h:ixN n i = some j):seqIndex? i n = some j /\ j < n /\ -(n:Int) <= i /\ i < n:=by
 unfold ixN at h;by_cases h0:0 <= i
 ·rw [zTZ h0] at h;by_cases h1:i < n
  ·rw [zTZ h1] at h;have e:i.toNat = j:=zUP h;exact ⟨by rw [seqIndex_of h0 h1,e],by omega,by omega,h1⟩
  ·rw [zTc h1] at h; cases h
 ·rw [zTc h0] at h;by_cases h1 : -(n:Int) <= i
  ·rw [zTZ h1] at h;have e:(i + n).toNat = j:=zUP h;exact ⟨by rw [seqIndex_neg (by omega) h1,e],by omega,h1,by omega⟩
  ·rw [zTc h1] at h; cases h
theorem zHP {α:Type} {xs:List α} {i:Int} {v:α} (h:atI xs i = some v):∃ j,seqIndex? i xs.length = some j /\ xs[j]? = some v /\ j < xs.length /\ -(xs.length:Int) <= i /\ i < xs.length:=by
 unfold atI at h;cases e:ixN xs.length i with
 | none=>rw [e] at h; cases h
 | some j=>
  rw [e] at h;obtain ⟨h1,h2,h3,h4⟩:=zHK e;exact ⟨j,h1,h,h2,h3,h4⟩
theorem zBt {α:Type} {xs:List α} {j:Nat} {v:α} (h:xs[j]? = some v):atI xs (j:Int) = some v:=by
 have hj:j < xs.length:=(zTN.mp h).1;have e:ixN xs.length (j:Int) = some j:=by
  unfold ixN;rw [zTZ (by omega),zTZ (by omega)]; simp
 unfold atI; rw [e]; exact h
def zK3 (b:Expr):Prop:=∀ o i,subscripted b false o i = operate [o,i] (getItem o i)
def IxR (X:Cx) (r:R2):Prop :=
 ∀ (value slice:Expr) (zB:List (Addr × Obj)) (s:Shared) (σ:St) (H:Hp) (x y:V) (v u:Value) (Q:VK),Inv X zB σ H s -> zt x v -> zt y u -> r x y H Q ->
  subscripted slice false v u = operate [v,u] (getItem v u) -> wpAny (model X.prog X.w) X.A (subscriptTail value slice v u) (EP X zB σ Q) X.xe s
def MtR (X:Cx) (id:String) (r:V -> List V -> Hp -> VK -> Prop):Prop :=
 ∀ (zB:List (Addr × Obj)) (s:Shared) (σ:St) (H:Hp) (x:V) (xs:List V) (v:Value) (us:List Value) (Q:VK),Inv X zB σ H s -> zt x v -> zg xs us -> r x xs H Q ->
  wpAny (model X.prog X.w) X.A (call (.builtin id) (v :: us)) (EP X zB σ Q) X.xe s
section
variable {X:Cx} {a b:Expr} {ta tb:TE} {pos:Pos}
theorem IxR.or {r r':R2} (h:IxR X r) (h':IxR X r'):IxR X (fun x y H Q=>r x y H Q \/ r' x y H Q):=by
 intro value slice zB s σ H x y v u Q I rx ry q hs;rcases q with q | q
 ·exact h value slice zB s σ H x y v u Q I rx ry q hs
 ·exact h' value slice zB s σ H x y v u Q I rx ry q hs
theorem zSq {r:R2} (hr:IxR X r) (ha:PE X a ta) (hb:PE X b tb) (hs:zK3 b):PE X (.Subscript a b pos) (tOp r ta tb):=by
 intro zB s σ H Q I h;exact Subscript_ (zQw ha hb I h fun v u s2 x y H2 I2 rx ry q=>hr a b zB s2 σ H2 x y v u Q I2 rx ry q (hs _ _))
def zRm (K:PySem.W.Frag):R2:=fun x y H Q=>∃ p xs i v,x = .ref p /\ y = .int i /\ SqL K H p xs /\ atI xs i = some v /\ Q v H
def zSM (K:PySem.W.Frag):R2:=fun x y H Q=>∃ p xs i v,x = .ref p /\ y = .int i /\ SqT K H p xs /\ atI xs i = some v /\ Q v H
def zRp:R2:=fun x y H Q=>∃ z i c,x = .str z /\ y = .int i /\ z.length <= sizeLine /\ atI z.cps.toList i = some c /\ Q (.str ⟨#[c]⟩) H
theorem zOi:IxR X (zRm X.K):=by
 intro value slice zB s σ H x y v u Q I rx ry h hs;obtain ⟨p,xs,i,z,rfl,rfl,hq,he,q⟩:=h;cases rx;obtain ⟨t,rfl⟩:=ry;obtain ⟨its,r,pl,hz⟩:=I.list hq;obtain ⟨j,h1,h2,h3,h4,h5⟩:=zHP he;obtain ⟨w,ew,rw'⟩:=r.get h2;have hl:=r.length;have hn:=zDa;have fin:EP X zB σ Q w s:=⟨z,H,I,rw',q⟩;by_cases h0:0 <= i
 ·have hj:i.toNat = j:=by
   rw [seqIndex_of h0 h5] at h1;exact zUP h1
  exact item_listR pl.isList h0 (by omega) (by rw [hj]; simpa using ew) fin hs
 ·have hj:(i + (its.toArray.size:Int)).toNat = j:=by
   rw [seqIndex_neg (by omega) h4] at h1;rw [zTS,<- hl];exact zUP h1
  exact subscriptTail_builtinR (x:=w) pl.isList.typeIs slot_list_getitem.lookup
   (wpAny_getItem_list_neg (Q:=fun r s'=>r = w /\ EP X zB σ Q r s') pl.isList (by omega) (by rw [zTS] <;> omega) (by omega) (by rw [hj]; simpa using ew) ⟨rfl,fin⟩) hs
theorem zRI:IxR X (zSM X.K):=by
 intro value slice zB s σ H x y v u Q I rx ry h hs;obtain ⟨p,xs,i,z,rfl,rfl,hq,he,q⟩:=h;cases rx;obtain ⟨t,rfl⟩:=ry;obtain ⟨its,r,pl,hz⟩:=I.tuple hq;obtain ⟨j,h1,h2,h3,h4,h5⟩:=zHP he;obtain ⟨w,ew,rw'⟩:=r.get h2;have hl:=r.length;have hn:=zDa;have fin:EP X zB σ Q w s:=⟨z,H,I,rw',q⟩
 exact subscriptTail_builtinR (x:=w) pl.typeIs slot_tuple_getitem.lookup
  (getItem_tuple (j:=j) (Q:=fun r s'=>r = w /\ EP X zB σ Q r s') pl (by omega) (by omega) (by rw [zTS,<- hl]; exact h1) (by simpa using ew) ⟨rfl,fin⟩) hs
theorem zQj:IxR X zRp:=by
 intro value slice zB s σ H x y v u Q I rx ry h hs;obtain ⟨z,i,c,rfl,rfl,hz,he,q⟩:=h;obtain ⟨t,rfl⟩:=rx;obtain ⟨t',rfl⟩:=ry;obtain ⟨j,h1,h2,h3,h4,h5⟩:=zHP he;have hl:z.cps.toList.length = z.length:=by simp [Str.length]
 rw [hl] at h1 h4 h5;have hn:=zDa;exact tail_any (typeIs_str s z t) slot_str_getitem.lookup (getItem_str (c:=c) (by
  have e1:decide (i < -(2 ^ 63:Int)) = false:=zTt (by omega);have e2:decide (i ≥ 2 ^ 63) = false:=zTt (by omega);rw [e1,e2,Bool.or_false]) (by rw [h1]; simpa using h2) ⟨.str ⟨#[c]⟩,H,I.tok _,⟨_,rfl⟩,q⟩) hs
def rIx (K:PySem.W.Frag):R2:=fun x y H Q=>zRm K x y H Q \/ zSM K x y H Q \/ zRp x y H Q
theorem zRN:IxR X (rIx X.K):=zOi.or (zRI.or zQj)
theorem zJe (its:List Value) (n j:Nat) (u:Value):Obj.mapSeq (·.setIfInBounds j u) { cls:=.type "list", data:=.seq its.toArray n } = { cls:=.type "list", data:=.seq (its.set j u).toArray n }:=by
 simp [Obj.mapSeq]
theorem Inv.lst {zB:List (Addr × Obj)} {σ:St} {H:Hp} {s:Shared} {p:Addr} {xs:List V} (I:Inv X zB σ H s) (h:H p = some (.lst xs)) :
  ∃ (its:List Value) (n:Nat),zg xs its /\ s.heap.get? p = some { cls:=.type "list", data:=.seq its.toArray n } /\ xs.length <= sizeLine:=by
 obtain ⟨z,its,n,r,e⟩:=I.hok p _ h;exact ⟨its,n,r,e,z⟩
theorem Inv.lstUpd {zB:List (Addr × Obj)} {σ:St} {H:Hp} {s:Shared} {p:Addr} {xs ys:List V} {its its':List Value} {n n':Nat} {f:Obj -> Obj} (I:Inv X zB σ H s) (h:H p = some (.lst xs))
  (ho:s.heap.get? p = some { cls:=.type "list", data:=.seq its.toArray n }) (hf:f { cls:=.type "list", data:=.seq its.toArray n } = { cls:=.type "list", data:=.seq its'.toArray n' }) (r:zg ys its') (hz:ys.length <= sizeLine) (t:Nat) :
  Inv X zB σ (upd H p (.lst ys)) { s with heap:=s.heap.update p f,toks:=t }:=by
 have e:(s.heap.update p f).get? p = some { cls:=.type "list", data:=.seq its'.toArray n' }:=by
  rw [zUC f ho (by rw [hf] <;> rfl),hf]
 refine I.write (x:=p) (e:=p) (by rw [h]; trivial) (.inl rfl) (fun b u hb q=>(Heap.get?_update_other _ _ (Ne.symm hb)).trans q) ⟨_,e⟩ ?_;exact ⟨hz,its',n',r,e⟩
def zR5:V -> V -> V -> Hp -> (Hp -> Prop) -> Prop:=fun o i v H Q=>∃ p xs k j,o = .ref p /\ i = .int k /\ H p = some (.lst xs) /\ ixN xs.length k = some j /\ Q (upd H p (.lst (xs.set j v)))
theorem zNh:zSP X zR5:=by
 intro zB s σ H o i v ov iv u Q I ro ri rv h;obtain ⟨p,xs,k,j,rfl,rfl,hp,hj,q⟩:=h;cases ro;obtain ⟨t,rfl⟩:=ri;obtain ⟨its,n,r,ho,hz⟩:=I.lst hp;obtain ⟨h1,h2,h3,h4⟩:=zHK hj;have hl:=r.length;have hn:=zDa;have I':Inv X zB σ (upd H p (.lst (xs.set j v))) { s with heap:=s.heap.update p (Obj.mapSeq (·.setIfInBounds j u)) } :=
  I.lstUpd hp ho (zJe its n j u) (r.set rv j) (by rw [List.length_set]; exact hz) s.toks
 by_cases h0:0 <= k
 ·have hk:k.toNat = j:=by
   rw [seqIndex_of h0 h4] at h1;exact zUP h1
  exact PySem.W.ki_setAt ho h0 (by omega) (by rw [zTS,<- hl]; exact h4) (by rw [hk]; exact ⟨_,I',q⟩)
 ·have hk:(k + (its.toArray.size:Int)).toNat = j:=by
   rw [seqIndex_neg (by omega) h3] at h1;rw [zTS,<- hl];exact zUP h1
  exact PySem.W.ki_setBack ho (by omega) (by rw [zTS,<- hl]; exact h3) (by omega) (by rw [hk]; exact ⟨_,I',q⟩)
theorem zHC (lo hi:Option Int) (n:Nat):(sliceBounds lo hi none n).1 = ((HT.sIx n 0 lo:Nat):Int) /\ (sliceBounds lo hi none n).2.1 = ((HT.sIx n n hi:Nat):Int) /\ (sliceBounds lo hi none n).2.2 = 1:=by
 refine ⟨?_,?_,rfl⟩
 ·cases lo with
  | none=>simp [sliceBounds,HT.sIx]
  | some i=>
   simp only [sliceBounds,HT.sIx,Option.getD_none,show (1:Int) > 0 by decide,if_true];by_cases h:i < 0
   ·simp only [h,if_true] <;> omega
   ·simp only [h,if_false] <;> omega
 ·cases hi with
  | none=>simp [sliceBounds,HT.sIx]
  | some i=>
   simp only [sliceBounds,HT.sIx,Option.getD_none,show (1:Int) > 0 by decide,if_true];by_cases h:i < 0
   ·simp only [h,if_true] <;> omega
   ·simp only [h,if_false] <;> omega
theorem zGU (its:List Value) (lo hi:Option Int):slicePick its.toArray lo hi none = ((its.drop (HT.sIx its.length 0 lo)).take (HT.sIx its.length its.length hi - HT.sIx its.length 0 lo)).toArray:=by
 obtain ⟨h1,h2,h3⟩:=zHC lo hi its.toArray.size;unfold slicePick;rw [h1,h2,h3];simp only [sliceRange_one,pick_run,zTS] <;> rfl
def zTB (K:PySem.W.Frag):V -> Option Int -> Option Int -> Hp -> VK -> Prop:=fun x lo hi H Q=>∃ a xs,x = .ref a /\ SqL K H a xs /\ ∀ p,H p = none -> Q (.ref p) (upd H p (.lst (zJT xs lo hi)))
theorem zOw:SlR X (zTB X.K):=by
 intro zB s σ H x v vl vu lo hi sl Q I rx hs pl pu h;obtain ⟨a,xs,rfl,hx,q⟩:=h;cases rx;obtain ⟨its,r,ht,hz⟩:=I.list hx;have hlen:=r.length;refine ⟨"list", _,slot_list_getitem.lookup,ht.isList.typeIs,?_⟩;refine wpAny_getItem_list_slice ht.isList hs pl pu .none (by simp) ?_ (by rw [zTS] <;> omega);rw [zGU,<- hlen];refine ⟨.ref s.heap.objs.size,_,I.laid (t':=s.toks) (o:=.lst (zJT xs lo hi)) (fun b ob q=>zTL _ q) (zTQ _) ?_,rfl,q _ (I.hok.fresh (zTQ _))⟩;exact ⟨zTl (zFQ xs lo hi) hz,_,0,(r.drop (HT.sIx xs.length 0 lo)).take (HT.sIx xs.length xs.length hi - HT.sIx xs.length 0 lo),zTU _ rfl⟩
def zEm:V -> Bool
 | .non=>true
 | .bl _=>true
 | .int _=>true
 | .str _=>true
 | _=>false
def eqV:V -> V -> Bool
 | .non,.non=>true
 | .bl a,.bl b=>a == b
 | .bl a,.int b=>(if a then 1 else 0) == b
 | .int a,.bl b=>a == (if b then 1 else 0)
 | .int a,.int b=>a == b
 | .str a,.str b=>a == b
 | _,_=>false
theorem zQf {A:Around} {s:Shared} {y x:V} {u v:Value} (ry:zt y u) (rx:zt x v) (fy:zEm y = true) (fx:zEm x = true):SeqAt.EqAt A s u v (eqV y x):=by
 cases y with
 | non=>
  cases ry;cases x with
  | non=>cases rx; exact SeqAt.EqAt.same _
  | bl b=>cases rx; exact SeqAt.EqAt.none_bool b
  | int b=>obtain ⟨t,rfl⟩:=rx; exact SeqAt.EqAt.none_int b t
  | str b=>obtain ⟨t,rfl⟩:=rx; exact SeqAt.EqAt.none_str b t
  | _=>exact absurd (show false = true from fx) zTg
 | bl a=>
  cases ry;cases x with
  | non=>cases rx; exact SeqAt.EqAt.bool_none a
  | bl b=>cases rx; exact SeqAt.EqAt.bool_bool a b
  | int b=>obtain ⟨t,rfl⟩:=rx; exact SeqAt.EqAt.bool_int a b t
  | str b=>obtain ⟨t,rfl⟩:=rx; exact SeqAt.EqAt.bool_str a b t
  | _=>exact absurd (show false = true from fx) zTg
 | int a=>
  obtain ⟨t',rfl⟩:=ry;cases x with
  | non=>cases rx; exact SeqAt.EqAt.int_none a t'
  | bl b=>cases rx; exact SeqAt.EqAt.int_bool a t' b
  | int b=>obtain ⟨t,rfl⟩:=rx; exact SeqAt.EqAt.int_int a t' b t
  | str b=>obtain ⟨t,rfl⟩:=rx; exact SeqAt.EqAt.int_str a t' b t
  | _=>exact absurd (show false = true from fx) zTg
 | str a=>
  obtain ⟨t',rfl⟩:=ry;cases x with
  | non=>cases rx; exact SeqAt.EqAt.str_none a t'
  | bl b=>cases rx; exact SeqAt.EqAt.str_bool a t' b
  | int b=>obtain ⟨t,rfl⟩:=rx; exact SeqAt.EqAt.str_int a t' b t
  | str b=>obtain ⟨t,rfl⟩:=rx; exact SeqAt.EqAt.str_str a t' b t
  | _=>exact absurd (show false = true from fx) zTg
 | _=>exact absurd (show false = true from fy) zTg
def eqU (x:V) (u:Value):Bool:=match u with
 | .none=>eqV .non x
 | .bool b=>eqV (.bl b) x
 | .int i _=>eqV (.int i) x
 | .str z _=>eqV (.str z) x
 | _=>false
theorem zKK {x y:V} {u:Value} (r:zt y u) (f:zEm y = true):eqU x u = eqV y x:=by
 cases y with
 | non=>cases r; rfl
 | bl b=>cases r; rfl
 | int i=>obtain ⟨t,rfl⟩:=r; rfl
 | str z=>obtain ⟨t,rfl⟩:=r; rfl
 | _=>exact absurd (show false = true from f) zTg
theorem zEf {x:V}:∀ {xs:List V} {us:List Value},zg xs us -> xs.all zEm = true -> us.any (eqU x) = xs.any fun y=>eqV y x
 | _,_,.nil,_=>rfl
 | y :: xs,u :: us,.cons r t,f=>by
  rw [List.all_cons,zTu] at f;rw [List.any_cons,List.any_cons,zKK r f.1,zEf t f.2]
theorem zCh {A:Around} {s:Shared} {x:V} {v:Value} (rx:zt x v) (fx:zEm x = true):∀ {xs:List V} {us:List Value},zg xs us -> xs.all zEm = true -> ∀ u ∈ us,SeqAt.EqAt A s u v (eqU x u)
 | _,_,.nil,_=>fun u hu=>by cases hu
 | y :: xs,u :: us,.cons r t,f=>fun u' hu=>by
  rw [List.all_cons,zTu] at f;rcases zTW.mp hu with rfl | hu
  ·rw [zKK r f.1]; exact zQf r rx f.1 fx
  ·exact zCh rx fx t f.2 u' hu
def inV (x:V) (xs:List V):Bool:=xs.any fun y=>eqV y x
def rIn (K:PySem.W.Frag) (neg:Bool):R2:=fun x y H Q=>∃ p xs,y = .ref p /\ (SqL K H p xs \/ SqT K H p xs) /\ zEm x = true /\ xs.all zEm = true /\ Q (.bl (if neg then !inV x xs else inV x xs)) H
theorem zK9:OpR X (compareOp .In) (rIn X.K false):=by
 intro zB s σ H x y v u Q I rx ry h;obtain ⟨p,xs,rfl,hq,fx,fs,q⟩:=h;cases ry;rcases hq with hq | hq
 ·obtain ⟨its,r,pl,hz⟩:=I.list hq;refine SeqAt.in_listAt (eqU x) pl.isList (fun w hw=>zCh rx fx r fs w (by simpa using hw)) ⟨.bl _,H,I,rfl,?_⟩;rw [show its.toArray.any (eqU x) = its.any (eqU x) by simp,zEf r fs];exact q
 ·obtain ⟨its,r,pl,hz⟩:=I.tuple hq;refine SeqAt.in_tupleAt (eqU x) pl (fun w hw=>zCh rx fx r fs w (by simpa using hw)) ⟨.bl _,H,I,rfl,?_⟩;rw [show its.toArray.any (eqU x) = its.any (eqU x) by simp,zEf r fs];exact q
theorem zH0:OpR X (compareOp .NotIn) (rIn X.K true):=by
 intro zB s σ H x y v u Q I rx ry h;obtain ⟨p,xs,rfl,hq,fx,fs,q⟩:=h;cases ry;rcases hq with hq | hq
 ·obtain ⟨its,r,pl,hz⟩:=I.list hq;refine SeqAt.notIn_listAt (eqU x) pl.isList (fun w hw=>zCh rx fx r fs w (by simpa using hw)) ⟨.bl _,H,I,rfl,?_⟩;rw [show its.toArray.any (eqU x) = its.any (eqU x) by simp,zEf r fs];exact q
 ·obtain ⟨its,r,pl,hz⟩:=I.tuple hq;refine SeqAt.notIn_tupleAt (eqU x) pl (fun w hw=>zCh rx fx r fs w (by simpa using hw)) ⟨.bl _,H,I,rfl,?_⟩;rw [show its.toArray.any (eqU x) = its.any (eqU x) by simp,zEf r fs];exact q
theorem zHX:zBZ X (.builtin "len") (fun xs H Q=>∃ p ys,xs = [.ref p] /\ (SqL X.K H p ys \/ SqT X.K H p ys) /\ Q (.int ys.length) H):=by
 intro zB s σ H xs us Q I r h;obtain ⟨p,ys,rfl,hq,q⟩:=h;obtain ⟨u,rfl,rx⟩:=zDx r;cases rx;have hn:=zDa;rcases hq with hq | hq
 ·obtain ⟨its,r',pl,hz⟩:=I.list hq;have hlen:=r'.length;exact Calls.call_len_list pl.isList (by simp only [zTS] <;> omega) ⟨.int ys.length,H,I.tok _,⟨s.toks + 1,by rw [zTS,hlen]⟩,q⟩
 ·obtain ⟨its,r',pl,hz⟩:=I.tuple hq;have hlen:=r'.length;exact len_tuple pl (by simp only [zTS] <;> omega) ⟨.int ys.length,H,I.tok _,⟨s.toks + 1,by rw [zTS,hlen]⟩,q⟩
theorem zHf:zBZ X (.builtin "len") (fun xs H Q=>∃ z,xs = [.str z] /\ z.length <= sizeLine /\ Q (.int z.length) H):=by
 intro zB s σ H xs us Q I r h;obtain ⟨z,rfl,hz,q⟩:=h;obtain ⟨u,rfl,t,rfl⟩:=zDx r;have hn:=zDa;exact len_str (by omega) ⟨.int z.length,H,I.tok _,⟨_,rfl⟩,q⟩
theorem zH7:zBZ X (.type "list") (fun xs H Q=>∃ p ys,xs = [.ref p] /\ (SqL X.K H p ys \/ SqT X.K H p ys) /\ ∀ l,H l = none -> Q (.ref l) (upd H l (.lst ys))):=by
 intro zB s σ H xs us Q I r h;obtain ⟨p,ys,rfl,hq,q⟩:=h;obtain ⟨u,rfl,rx⟩:=zDx r;cases rx
 have fin:∀ (its:List Value),zg ys its -> ys.length <= sizeLine -> ∀ (h':Heap) (c':Nat),(∀ b o',s.heap.get? b = some o' -> h'.get? b = some o') ->
   h'.get? s.heap.objs.size = some { cls:=.type "list", dict:=none,data:=.seq its.toArray c',slots:=#[] } -> EP X zB σ Q (.ref s.heap.objs.size) { s with heap:=h' }:=fun its r' hz h' c' kp e=>
  ⟨.ref s.heap.objs.size,_,I.laid (t':=s.toks) kp (zTQ _) (show zAE X.prog X.w _ h' _ (.lst ys) from ⟨hz,its,c',r',e⟩),rfl,q _ (I.hok.fresh (zTQ _))⟩
 rcases hq with hq | hq
 ·obtain ⟨its,r',pl,hz⟩:=I.list hq;have hlen:=r'.length;obtain ⟨o,ho,hc,n,hd⟩:=pl.isList;exact call_list_seq p (.inl rfl) ho hc hd (fun h' c' kp e=>fin its r' hz h' c' kp e) (by simp only [zTS] <;> omega)
 ·obtain ⟨its,r',pl,hz⟩:=I.tuple hq;have hlen:=r'.length;obtain ⟨o,ho,hc,n,hd⟩:=pl;exact call_list_seq p (.inr rfl) ho hc hd (fun h' c' kp e=>fin its r' hz h' c' kp e) (by simp only [zTS] <;> omega)
theorem zGf:zBZ X (.type "tuple") (fun xs H Q=>∃ p ys,xs = [.ref p] /\ ((SqL X.K H p ys /\ ∀ l,H l = none -> Q (.ref l) (upd H l (.tup ys))) \/ (SqT X.K H p ys /\ Q (.ref p) H))):=by
 intro zB s σ H xs us Q I r h;obtain ⟨p,ys,rfl,h⟩:=h;obtain ⟨u,rfl,rx⟩:=zDx r;cases rx;rcases h with ⟨hq,q⟩ | ⟨hq,q⟩
 ·obtain ⟨its,r',pl,hz⟩:=I.list hq;have hlen:=r'.length;refine call_tuple_list pl.isList (fun h' kp=>?_) (by simp only [zTS] <;> omega);have I1:Inv X zB σ H { s with heap:=h' }:=I.kept (t':=s.toks) kp;have I2:Inv X zB σ (upd H h'.objs.size (.tup ys)) { s with heap:=h'.push { cls:=.type "tuple", data:=.seq its.toArray } } :=
   I1.laid (t':=s.toks) (fun b o e=>zTL _ e) (zTQ _) (show zAE X.prog X.w _ _ _ (.tup ys) from ⟨hz,its,r',zB3.new _ _⟩)
  exact ⟨.ref h'.objs.size,_,I2,rfl,q _ (I1.hok.fresh (zTQ _))⟩
 ·obtain ⟨its,r',pl,hz⟩:=I.tuple hq;exact call_tuple_same pl ⟨.ref p,H,I,rfl,q⟩
def tyV (K:PySem.W.Frag) (T:String) (x:V) (H:Hp):Prop:=match x with
 | .str _=>T = "str"
 | .int _=>T = "int"
 | .ref p=>(T = "list" /\ ∃ xs,SqL K H p xs) \/ (T = "tuple" /\ ((∃ o,K.lookup p = some o /\ o.cls = .type "tuple" /\ o.dict = none) \/ ∃ xs,H p = some (.tup xs))) \/
   (T = "dict" /\ ((∃ kvs,H p = some (.dK kvs)) \/ ∃ kvs,H p = some (.dT kvs))) \/ (T = "set" /\ ∃ S n,H p = some (.set S n))
 | _=>False
theorem zRc {zB:List (Addr × Obj)} {σ:St} {H:Hp} {s:Shared} {T:String} {x:V} {v:Value} (I:Inv X zB σ H s) (r:zt x v) (ty:tyV X.K T x H) :
  s.TypeIs v T /\ ∀ a,v = .ref a -> ∃ ob,s.heap.get? a = some ob /\ ob.dict = none:=by
 cases x with
 | str z=>
  obtain ⟨t,rfl⟩:=r;cases (show T = "str" from ty);exact ⟨typeIs_str s z t,fun _ e=>nomatch e⟩
 | int i=>
  obtain ⟨t,rfl⟩:=r;cases (show T = "int" from ty);exact ⟨typeIs_int s i t,fun _ e=>nomatch e⟩
 | ref p=>
  cases r;rcases ty with ⟨rfl,xs,hq⟩ | ⟨rfl,⟨o,hk,hc,hd⟩ | ⟨xs,hq⟩⟩ | ⟨rfl,hk⟩ | ⟨rfl,S,n,hk⟩
  ·obtain ⟨its,_,pl,_⟩:=I.list hq;refine ⟨pl.isList.typeIs,fun a e=>?_⟩;cases e;obtain ⟨o,n,e,c,hd,_⟩:=pl;exact ⟨o,e,hd⟩
  ·refine ⟨⟨o,I.kIn p o hk,hc⟩,fun a e=>?_⟩;cases e;exact ⟨o,I.kIn _ o hk,hd⟩
  ·obtain ⟨_,its,_,o,e,c,_,hd⟩:=I.hok p _ hq;refine ⟨⟨o,e,c⟩,fun a e2=>?_⟩;cases e2;exact ⟨o,e,hd⟩
  ·have z:∃ o,s.heap.get? p = some o /\ o.ExactDict:=by
    rcases hk with ⟨kvs,hk⟩ | ⟨kvs,hk⟩
    ·obtain ⟨_,_,_,_,o,_,_,e,ex,_⟩:=I.hok p _ hk;exact ⟨o,e,ex⟩
    ·obtain ⟨_,_,_,_,o,_,_,e,ex,_⟩:=I.hok p _ hk;exact ⟨o,e,ex⟩
   obtain ⟨o,e,ex⟩:=z;refine ⟨⟨o,e,ex.1⟩,fun a e2=>?_⟩;cases e2;exact ⟨o,e,ex.2.1⟩
  ·obtain ⟨o,_,_,_,e,ex,_⟩:=I.hok p _ hk;refine ⟨⟨o,e,ex.1⟩,fun a e2=>?_⟩;cases e2;exact ⟨o,e,ex.2.1⟩
 | _=>exact False.elim ty
def tBM (K:PySem.W.Frag) (T:String) (r:V -> List V -> Hp -> VK -> Prop) (to:TE) (t:TA):TE:=fun σ H Q=>to σ H fun x H1=>tyV K T x H1 /\ t σ H1 fun xs H2=>r x xs H2 Q
variable {o e:Expr} {es:List Expr} {to:TE} {t:TA} {name:Str} {apos cpos:Pos} {T id:String} {r:V -> List V -> Hp -> VK -> Prop}
theorem zI1 (pa:PlainAttrs T) (slot:Slot T name id) (hty:typeOf (.builtin id) = pure (.type "method_descriptor")) (hm:MtR X id r) (ho:PE X o to) (ha:PA X (e :: es) t)
  (hbase:attributeBase o name X.env (eval o X.env) = eval o X.env:=by rfl)
  (hfew:((backTo cpos (starEach (e :: es) X.env)).all (fun x=> !x.1) && (backToKw cpos (keywordEach [] X.env)).all (fun x=>x.1.isSome)
   && decide ((e :: es).length + ([]:List Keyword).length + (if ([]:List Keyword).isEmpty then 0 else 1) < 30)) = true:=by rfl)
  (hline:(apos.endLine == cpos.line) = true:=by rfl) (hs:starEach (e :: es) X.env = (false,eval e X.env) :: starEach es X.env:=by rfl) (hplain:(backTo cpos (starEach es X.env)).any (·.1) = false:=by rfl) :
  PE X (.Call (.Attribute o name apos) (e :: es) [] cpos) (tBM X.K T r to t):=by
 intro zB s σ H Q I h;refine wpAny_Call_method_late hbase hfew hline rfl (thn (ho zB s σ H _ I h) fun v s1 ⟨x,H1,I1,r1,ty,q1⟩=>?_);obtain ⟨h1,h2⟩:=zRc I1 r1 ty;refine ⟨T,id,pa,slot,hty,h1,h2,?_⟩;have hA:=ha cpos zB s1 σ H1 _ I1 q1;rw [hs] at hA ⊢;refine Calls.callWith_builtin (by show (false || (backTo cpos (starEach es X.env)).any (·.1)) = false; rw [hplain] <;> rfl) (Calls.evalArgs_plain ?_);exact thn hA fun us s2 ⟨vs,H2,I2,r2,q2⟩=>hm zB s2 σ H2 x vs v us Q I2 r1 r2 q2
end
def MtM (X:Cx) (id:String) (r:V -> List V -> Hp -> VK -> Prop):Prop :=
 ∀ (zB:List (Addr × Obj)) (s:Shared) (σ:St) (H:Hp) (x:V) (xs:List V) (v:Value) (us:List Value) (Q:VK),Inv X zB σ H s -> zt x v -> zg xs us -> r x xs H Q ->
  wpAny (model X.prog X.w) X.A (call (.builtin id) (v :: us)) (EP X zB σ Q) X.xe s
theorem zg.one:∀ {x:V} {us:List Value},zg [x] us -> ∃ u,us = [u] /\ zt x u
 | _,_,.cons r .nil=>⟨_,rfl,r⟩
theorem zg.eraseIdx:∀ {xs:List V} {us:List Value} (i:Nat),zg xs us -> zg (xs.eraseIdx i) (us.eraseIdx i)
 | _,_,_,.nil=> .nil
 | _,_,0,.cons _ t=>t
 | _,_,i + 1,.cons r t=> .cons r (zg.eraseIdx i t)
theorem zG4 {α:Type}:∀ (l:List α) (i:Nat),(l.eraseIdx i).length <= l.length
 | [],_=>zTQ _
 | _ :: _,0=>zU7 _
 | _ :: r,i + 1=>Nat.succ_le_succ (zG4 r i)
section
variable {X:Cx} {zB:List (Addr × Obj)} {σ:St} {H:Hp} {s:Shared} {l b:Addr} {xs ys zs:List V}
theorem Inv.lset {its its':List Value} {n:Nat} {f:Array Value -> Array Value} {t':Nat} (I:Inv X zB σ H s) (hH:H l = some (.lst xs))
  (e:s.heap.get? l = some { cls:=.type "list", data:=.seq its.toArray n }) (hf:f its.toArray = its'.toArray) (hv:zg ys its') (hz:ys.length <= sizeLine) :
  Inv X zB σ (upd H l (.lst ys)) { s with heap:=s.heap.update l (Obj.mapSeq f),toks:=t' }:=by
 have q:=PySem.IsL.update e f;rw [hf] at q;refine I.write (x:=l) (e:=l) (by rw [hH]; exact trivial) (.inl rfl) (fun b' u hb hu=>(Heap.get?_update_other s.heap (Obj.mapSeq f) (Ne.symm hb)).trans hu) ⟨_,q⟩ ?_;exact ⟨hz,its',_,hv,q⟩
theorem Inv.lnew {its:List Value} {t':Nat} (I:Inv X zB σ H s) (hv:zg ys its) (hz:ys.length <= sizeLine) :
  Inv X zB σ (upd H s.heap.objs.size (.lst ys)) { s with heap:=s.heap.push { cls:=.type "list", data:=.seq its.toArray },toks:=t' } :=
 I.laid (fun _ _ q=>zTL _ q) (zTQ _) ⟨hz,its,0,hv,zTU _ rfl⟩
theorem Inv.fresh (I:Inv X zB σ H s):H s.heap.objs.size = none:=I.hok.fresh (zTQ _)
theorem Inv.lstM (I:Inv X zB σ H s) (hH:H l = some (.lst xs)):xs.length <= sizeLine /\ ∃ (its:List Value) (n:Nat),zg xs its /\ xs.length = its.length /\ s.heap.get? l = some { cls:=.type "list", data:=.seq its.toArray n }:=by
 obtain ⟨z,its,n,r,e⟩:=I.hok l _ hH;exact ⟨z,its,n,r,r.length,e⟩
end
section
variable {X:Cx}
def zKh:V -> List V -> Hp -> VK -> Prop:=fun x vs H Q=>∃ l xs y,x = .ref l /\ vs = [y] /\ H l = some (.lst xs) /\ xs.length < sizeLine /\ Q .non (upd H l (.lst (xs ++ [y])))
theorem zL2:MtM X "list.append" zKh:=by
 intro zB s σ H x vs v us Q I rx rv h;obtain ⟨l,xs,y,rfl,rfl,hH,hz,q⟩:=h;cases rx;obtain ⟨u,rfl,ru⟩:=rv.one;obtain ⟨z,its,n,r,hl,e⟩:=I.lstM hH;refine call_meets F.slot_list_append ⟨_,e,rfl⟩ F.entry_list_append (F.args_list_append_2 _ _) (PySem.list_append l its.toArray n u (by rw [zTS]; omega)) ⟨e,?_⟩;refine ⟨.non,_,I.lset (its':=its ++ [u]) hH e (by simp) (r.append (.cons ru .nil)) ?_,rfl,q⟩;rw [zTa,List.length_singleton];omega
def zNZ:V -> List V -> Hp -> VK -> Prop:=fun x vs H Q=>∃ l xs i k y,x = .ref l /\ vs = [.int i] /\ H l = some (.lst xs) /\ -(2 ^ 63) <= i /\ i < 2 ^ 63 /\ seqIndex? i xs.length = some k /\ xs[k]? = some y /\ Q y (upd H l (.lst (xs.eraseIdx k)))
theorem zMU:MtM X "list.pop" zNZ:=by
 intro zB s σ H x vs v us Q I rx rv h;obtain ⟨l,xs,i,k,y,rfl,rfl,hH,h1,h2,hk,hy,q⟩:=h;cases rx;obtain ⟨u,rfl,ru⟩:=rv.one;obtain ⟨t,rfl⟩:=ru;obtain ⟨z,its,n,r,hl,e⟩:=I.lstM hH;obtain ⟨w,hw,rw'⟩:=r.get hy
 refine call_meets F.slot_list_pop ⟨_,e,rfl⟩ F.entry_list_pop (F.args_list_pop_2 _ _)
  (MeetsSeq.list_pop_at l its.toArray n i t k w (fitsIndex_both h1 h2) (by rw [zTS,<- hl]; exact hk) (by rw [<- Array.getElem?_toList]; exact hw) (by rw [zTS]; omega)) ⟨e,?_⟩
 refine ⟨y,_,I.lset (its':=its.eraseIdx k) hH e ?_ (r.eraseIdx k) ?_,rw',q⟩
 ·show its.toArray.eraseIdxIfInBounds k = (its.eraseIdx k).toArray;rw [List.eraseIdxIfInBounds_toArray]
 ·have:=zG4 xs k;omega
def zSb:R2:=fun x y H Q=>∃ l b xs zs,x = .ref l /\ y = .ref b /\ H l = some (.lst xs) /\ H b = some (.lst zs) /\ xs.length + zs.length <= sizeLine /\ ∀ p,H p = none -> Q (.ref p) (upd H p (.lst (xs ++ zs)))
theorem zQN:OpR X (binaryOp .Add) zSb:=by
 intro zB s σ H x y v u Q I rx ry h;obtain ⟨l,b,xs,zs,rfl,rfl,hH,hB,hz,q⟩:=h;cases rx;cases ry;obtain ⟨z,its,n,r,hl,e⟩:=I.lstM hH;obtain ⟨z2,its2,n2,r2,hl2,e2⟩:=I.lstM hB;refine PySem.P.add_list e e2 ?_ (by rw [zTS,zTS]; omega);have ea:its.toArray ++ its2.toArray = (its ++ its2).toArray:=by simp
 rw [ea];exact ⟨.ref _,_,I.lnew (t':=s.toks) (r.append r2) (by rw [zTa]; omega),rfl,q _ I.fresh⟩
end
end L2
namespace Att
open PySem PySem.W PySem.Calls PyProof.Rows
theorem zFc {P:Params} {h:Heap}:∀ (ns:List Int) (vs:List Value),WellAll P h vs (ns.map WData.int) -> IntsAre vs ns:=by
 intro ns;induction ns with
 | nil=>
  intro vs w;rw [List.map_nil] at w;cases w;exact .nil
 | cons n ns ih=>
  intro vs w;rw [zTd] at w;cases w with
  | cons a b=>
   cases a;exact .cons _ _ (ih _ b)
theorem zME {l:OpenLaw} {n:Nat} (hn:l.most = some n) {P:Params} {h:Heap} {args:List WData} {vals:List Value}
  (hpre:l.row.toRowW.claim.pre args = true) (hwl:WellAll P h vals args) :
  ∃ a vs ns,vals = [Value.ref a] /\ args = [WData.list (ns.map WData.int)] /\ h.get? a = some { cls:=.type "list", data:=.seq vs.toArray } /\ IntsAre vs ns /\ ns.length <= n:=by
 have hsh:WShape.hasAll [] args [.list .int] = true:=(pre_splitW hpre).1;have hc:l.pre.holds [] { args:=args } = true:=(pre_splitW hpre).2;obtain ⟨d,r,rfl,h1,h2⟩:=hasAllW_cons hsh;obtain rfl:=hasAllW_nil h2;obtain ⟨xs,rfl,h3⟩:=hasW_list h1;obtain ⟨ns,rfl⟩:=items_int h3;have hlen:ns.length <= n:=by
  unfold OpenLaw.pre at hc;have h4:(WTm.not (.lt (.lit (.int (n:Int))) (.len (.arg 0)))).holds [] { args:=[.list (ns.map .int)] } = true:=by
   have h4:=(holds_andW hc).1;rw [hn] at h4;exact h4
  have h5:=condW_of h4 (w_not (w_lt w_lit (w_len_list (w_arg rfl))));rw [zTT] at h5;refine Nat.le_of_not_lt fun q=>?_;have q':(n:Int) < ((ns.length:Nat):Int):=by omega
  first
   | (rw [zUX q'] at h5; exact absurd h5 (by decide))
   | (simp at h5; omega)
 cases hwl with
 | cons w1 w2=>
  cases w2;cases w1 with
  | list ho hall=>exact ⟨_,_,ns,rfl,rfl,ho,zFc ns _ hall,hlen⟩
theorem zLr (l:OpenLaw) (args:List WData):l.row.toRowW.claim.post args (.bool true) args = true :=
 postW_of (r:=l.row.toRowW) (X:=(true == true))
  (show WShape.has [] (.bool true) .bool = true by first | rfl | decide | simp [WShape.has,WShape.arms,WShape.armsAll])
  (show (WTm.eq .res (.lit (.bool true))).value [] { args:=args,res:=some (.bool true),after:=args } = some (.bool (true == true)) from w_eq_bool (w_res rfl) w_lit) rfl
theorem zID {l:OpenLaw} {n:Nat} {q:Program} {loose:List Str} {XP:(Str -> Option Value) -> Heap -> Prop} {YP:World -> Heap -> Prop} {d:DefRec}
  (hn:l.most = some n) (hdf:d.params.defaults = [])
  (call:∀ (w:World) (s₀ s₁:Shared) (mg mb:Str -> Option Value) (fa:Addr) (o:Obj) (pm cd doc:Value) (a:Addr) (vs:List Value) (ns:List Int),
   Ground q loose [] XP w s₀ mg mb s₁.heap -> YP w s₁.heap ->
   s₁.heap.get? fa = some o -> o.data = .func (docDef d.name d.params d.body d.scope pm cd doc) -> s₁.heap.CodeRec cd d.name -> mg d.name = some (.ref fa) ->
   s₁.heap.get? a = some { cls:=.type "list", data:=.seq vs.toArray } -> IntsAre vs ns -> ns.length <= n -> s₁.gens = #[] ->
   codeAny (model l.prog w) callerA (.call (.ref fa) ⟨[.ref a],[]⟩) (fun r s'=>r = .ok (.ret (.bool true)) /\ OldK s₁.heap s'.heap /\ s'.os = s₁.os /\ AllBare s'.gens) s₁) :
  WalkO q loose XP YP l.row.toRowW d [] (fun f vs=>PySem.call f vs):=by
 intro w s₀ s₁ mg mb G Y fa o pm cd doc dV kV ho hd hcd hD hmg hg args vals as hpre hlay hrd hwl hlo;obtain rfl:dV = .none:=Dflts.none hD hdf;obtain rfl:kV = .none:=Dflts.noKw hD;obtain ⟨a,vs,ns,rfl,rfl,hobj,hints,hlen⟩:=zME hn hpre hwl;refine enter_call (codeAny_mono (call w s₀ s₁ mg mb fa o pm cd doc a vs ns G Y ho (fd_plain hd) hcd hmg hobj hints hlen hg) fun r s' hq=>?_);obtain ⟨rfl,h2,h3,h4⟩:=hq;exact ⟨.inl ⟨.bool true,.bool true,[],rfl,fun _=>rfl,.bool true,zLr l _,fun _=>⟨List.Pairwise.nil,fun _ hm=>(nomatch hm)⟩⟩,h2,h3,h4⟩
end Att
namespace L2
open PySem PySem.Spec PyProof.Rows
theorem zGh:∀ {vs:List Value} {ns:List Int},IntsAre vs ns -> zg (ns.map V.int) vs
 | _,_,.nil=> .nil
 | _,_,.cons n t h=> .cons ⟨t,rfl⟩ (zGh h)
def zON (H:Hp):Prop:=∀ b,H b = none \/ ∃ o xs,H b = some (.frz o (.lst xs))
theorem zMY {P:Program} {w:World} {K:PySem.W.Frag} {mg mb:Str -> Option Value} {CX:CXT} {k:Nat} {fa a:Addr} {fd:FuncData} {x:Str} {sp:Sp} {s₁:Shared} {vs:List Value} {ns:List Int}
  (KX:K.In s₁.heap) (hns:s₁.heap.Ns mainGlobals mg) (hb:s₁.heap.Ns builtinsNs mb) (hbb:∀ x:Str,x ≠ "__name__" -> mb x = bootBuiltins x) (hlim:s₁.heap.NoLimit) (hbm:BMn mg s₁.heap) (hg:s₁.gens = #[])
  (ha:s₁.heap.get? a = some { cls:=.type "list", data:=.seq vs.toArray }) (hi:IntsAre vs ns) (hl:ns.length <= sizeLine) (hr:Room k callerA)
  (F:∀ base:Heap,K.In base -> base.Ns mainGlobals mg -> FnOk P w K mg base CX k fa fd [x] sp) (hbind:∀ (s:Shared) (u:Value),BindsTo s fd ⟨[u],[]⟩ [(x,u)])
  (hsp:∀ H:Hp,zON H -> SqL K H a (ns.map V.int) -> sp [.ref a] H (fun v _=>v = .bl true) fun _ _ _=>False)
  (hCX:∀ H e s',CX [] H s₁ (fun _ _ _=>False) e s' -> False) :
  codeAny (model P w) callerA (.call (.ref fa) ⟨[.ref a],[]⟩) (fun r s'=>r = .ok (.ret (.bool true)) /\ OldK s₁.heap s'.heap /\ s'.os = s₁.os /\ AllBare s'.gens) s₁:=by
 have rv:=zGh hi;have lenV:=hi.length
 have core:∀ H:Hp,zON H -> SqL K H a (ns.map V.int) -> HOk P w H s₁.heap -> (∀ b,H b ≠ none -> b = a) -> (H a ≠ none -> K.lookup a = none) ->
   codeAny (model P w) callerA (.call (.ref fa) ⟨[.ref a],[]⟩) (fun r s'=>r = .ok (.ret (.bool true)) /\ OldK s₁.heap s'.heap /\ s'.os = s₁.os /\ AllBare s'.gens) s₁:=by
  intro H hO hS hok hA hK;have base_of:∀ {b:Addr} {o:Obj},s₁.heap.get? b = some o -> H b = none -> (zGd s₁.heap H).get? b = some o:=fun e n=>zMr e n;have noA:∀ {b:Addr} {o:Obj} {es:Array DictEntry} {ep:Nat},s₁.heap.get? b = some o -> o.data = .dict es ep -> H b = none:=fun {b o es ep} e d=>by
   cases q:H b with
   | none=>rfl
   | some u=>
    have e':b = a:=hA b (by rw [q]; simp);subst e';rw [ha] at e; cases e;have d':Data.seq vs.toArray _ = Data.dict es ep:=d;cases d'
  have nsK:∀ {b:Addr} {m:Str -> Option Value},s₁.heap.Ns b m -> (zGd s₁.heap H).Ns b m:=fun {b m} ⟨o,es,ep,e,d,r⟩=>⟨o,es,ep,base_of e (noA e d),d,r⟩;have hKb:K.In (zGd s₁.heap H):=fun b o e=>base_of (KX b o e) (by
   cases q:H b with
   | none=>rfl
   | some u=>
    have e':b = a:=hA b (by rw [q]; simp);subst e';rw [hK (by rw [q]; simp)] at e; cases e)
  have bmK:BMn mg (zGd s₁.heap H):=by
   obtain ⟨bm,ob,b1,b2,b3,b4⟩:=hbm;refine ⟨bm,ob,b1,b2,base_of b3 ?_,b4⟩;cases q:H bm with
   | none=>rfl
   | some u=>
    have e':bm = a:=hA bm (by rw [q]; simp);subst e';rw [ha] at b3; cases b3;cases b4.2.2
  have hM:Mod K mg (zGd s₁.heap H):=⟨hKb,nsK hns,⟨mb,nsK hb,hbb⟩,let ⟨mc,h1,h2⟩:=hlim; ⟨mc,nsK h1,h2⟩,bmK⟩;have e0:Env0 P w K mg (zGd s₁.heap H) callerA [] s₁ H:=⟨rfl,hM,fun b o e=>zOo e,Nat.le_of_eq (zLh _ _),trivial,fun b hb=>absurd (show b ∈ ([]:List Addr) from hb) (by simp),hok,.of_eq hg⟩;refine codeAny_mono ((F _ hKb (nsK hns)).run callerA [] s₁ H ⟨[.ref a],[]⟩ [.ref a] [.ref a] _ _ hr e0 (hbind s₁ (.ref a)) (.cons rfl .nil) (hsp H hO hS)) fun r s' h=>?_;cases r with
  | error e=>exact (hCX H e s' h).elim
  | ok fl=>
   cases fl with
   | next=>exact False.elim h
   | brk=>exact False.elim h
   | cont=>exact False.elim h
   | ret u=>
    obtain ⟨v,H',os,bare,un,hok',r',q⟩:=h;have q':v = .bl true:=q;subst q';obtain rfl:u = Value.bool true:=r';refine ⟨rfl,OldK.of_keep fun b o e=>?_,os,bare⟩;cases q:H b with
    | none=>exact un.keep b o e q (by intro z; exact absurd (show b ∈ ([]:List Addr) from z) (by simp)) (by simp)
    | some u=>
     rcases hO b with z | ⟨ob,xs,z⟩
     ·rw [q] at z; cases z
     ·have z2:=un.frzs b ob _ z;obtain ⟨e1,_⟩:=hok b _ z;obtain ⟨e2,_⟩:=hok' b _ z2;rw [e] at e1; cases e1;exact e2
 cases hk:K.lookup a with
 | some o=>
  have e:=KX a o hk;rw [ha] at e;cases e;refine core (fun _=>none) (fun _=> .inl rfl) (.inr ⟨_,vs.toArray,_,hk,rfl,rfl,rfl,by rw [zTS,lenV]; exact hl,by simpa using rv⟩) (fun b u z=>by have z':(none:Option HO) = some u:=z; cases z') (fun b z=>absurd rfl z) fun z=>absurd rfl z
 | none=>
  refine core (fun b=>if b = a then some (.frz { cls:=.type "list", data:=.seq vs.toArray } (.lst (ns.map V.int))) else none) (fun b=>?_) (.inl (.inr ⟨{ cls:=.type "list", data:=.seq vs.toArray },zTZ rfl⟩)) (fun b u z=>?_) (fun b z=>?_) fun _=>hk
  ·by_cases hb:b = a
   ·exact .inr ⟨_,_,zTZ hb⟩
   ·exact .inl (zTc hb)
  ·by_cases hb:b = a
   ·have z':=(zTZ hb).symm.trans z;cases z';subst hb;exact ⟨ha,by rw [zTT]; exact hl,vs,_,rv,ha⟩
   ·have z':=(zTc hb).symm.trans z;cases z'
  ·by_cases hb:b = a
   ·exact hb
   ·exact absurd (zTc hb) z
theorem zPM {l:PySem.W.OpenLaw} {n k:Nat} {q:Program} {loose:List Str} {XP:(Str -> Option Value) -> Heap -> Prop} {YP:World -> Heap -> Prop} {d:DefRec} {K:Params -> PySem.W.Frag} {CX:World -> CXT} {sp:World -> Sp} {x:Str}
  (hn:l.most = some n) (hn2:n <= sizeLine) (hdf:d.params.defaults = []) (hr:Room k callerA)
  (hY:∀ (w:World) (h:Heap),YP w h -> (K w.params).In h)
  (F:∀ (w:World) (mg:Str -> Option Value) (fa:Addr) (h:Heap),(K w.params).In h -> h.Ns mainGlobals mg -> mg d.name = some (.ref fa) ->
   ∃ fd:FuncData,(∀ (s:Shared) (u:Value),BindsTo s fd ⟨[u],[]⟩ [(x,u)]) /\
    ∀ base:Heap,(K w.params).In base -> base.Ns mainGlobals mg -> FnOk l.prog w (K w.params) mg base (CX w) k fa fd [x] (sp w))
  (hsp:∀ (w:World) (H:Hp) (a:Addr) (ns:List Int),ns.length <= n -> zON H -> SqL (K w.params) H a (ns.map V.int) -> sp w [.ref a] H (fun v _=>v = .bl true) fun _ _ _=>False)
  (hCX:∀ (w:World) (H:Hp) (s:Shared) (e:Value) (s':Shared),CX w [] H s (fun _ _ _=>False) e s' -> False) :
  PySem.W.WalkO q loose XP YP l.row.toRowW d [] (fun f vs=>PySem.call f vs):=by
 refine Att.zID hn hdf fun w s₀ s₁ mg mb fa o pm cd doc a vs ns G Y ho hd hcd hmg hobj hints hlen hg=>?_;have KX:=hY w _ Y;obtain ⟨fd,hb,hF⟩:=F w mg fa _ KX G.T.g hmg;exact zMY KX G.T.g G.T.b G.T.builtins G.T.nolimit G.T.bmain hg hobj hints (zTl hlen hn2) hr hF hb (fun H hO hS=>hsp w H a ns hlen hO hS) fun H e s'=>hCX w H s₁ e s'
def zCG (s:Stmt):Arguments:=match s with
 | .FunctionDef _ a _ _ _ _ _ _ _ _=>a
 | _=>{ posonlyargs:=[],args:=[],vararg:=none,kwonlyargs:=[],kw_defaults:=[],kwarg:=none,defaults:=[] }
def zAj (s:Stmt):List Stmt:=match s with
 | .FunctionDef _ _ b _ _ _ _ _ _ _=>b
 | _=>[]
def zG (s:Stmt):Scope:=match s with
 | .FunctionDef _ _ _ _ _ _ sc _ _ _=>sc
 | _=>{ kind:=.function,names:=[],isGenerator:=false,isCoroutine:=false }
abbrev CX0:CXT:=fun _ _ _ _ _ _=>False
abbrev E0:XK:=fun _ _ _=>False
theorem zR6 {X:Cx}:zEM CX0 X E0:=fun _ _ _ _ _ _ _ h=>h.elim
structure Fun (K:PySem.W.Frag) (x qual:Str) (st:Stmt) (f:Addr) (fd:FuncData):Prop where
 ex:∃ (oc:Value) (od:Option Addr) (kV doc pm:Value) (an:Option Addr) (cdv ct:Value) (osl:Array (Option Value)),
  fd = PySem.W.fnOf x qual (zCG st) (zAj st) (zG st) .none kV doc pm an cdv ct /\ K.lookup f = some ⟨oc,od,.func fd,osl⟩ /\ PySem.W.codeIn K cdv qual = true
 kp:PySem.W.keepIn K (.ref f) = true
section
variable {P:Program} {w:World} {K:PySem.W.Frag} {mg:Str -> Option Value} {base:Heap}
theorem Fun.ok {x qual:Str} {st:Stmt} {f:Addr} {fd:FuncData} {N ps:List Str} {k:Nat} {sp:Sp} (F:Fun K x qual st f fd) (S:FnScope N ps (zG st)) (len:∀ vs H Q E,sp vs H Q E -> vs.length = ps.length)
  (hbody:∀ (cdv:Value) (A:Around) (outer:List Env) (s:Shared) (H:Hp) (vs:List V) (Q:VK) (E:XK),Room k (A.deeper (envOfC qual (zG st) s.heap.objs.size f cdv)) -> sp vs H Q E ->
   ∃ t,PSs (zIS CX0 P w K mg base N qual (zG st) f cdv A outer s H E).nox (zAj st) t /\ t { nx:=fun _ H'=>Q .non H',rt:=Q } (zD4 N vs) H):FnOk P w K mg base CX0 (k + 1) f fd ps sp:=by
 obtain ⟨oc,od,kV,doc,pm,an,cdv,ct,osl,rfl,lk,hcd⟩:=F.ex;refine zP5 lk hcd S len fun A outer s H vs Q E hr hsp=>?_;obtain ⟨t,h,q⟩:=hbody cdv A outer s H vs Q E hr hsp;exact ⟨t,h.nox,q⟩
theorem Fun.binds {x qual:Str} {st:Stmt} {f:Addr} {fd:FuncData} {ps:List Str} (F:Fun K x qual st f fd)
  (h:∀ (kV doc pm:Value) (an:Option Addr) (cdv ct:Value) (us:List Value),us.length = ps.length -> bindArgs (PySem.W.fnOf x qual (zCG st) (zAj st) (zG st) .none kV doc pm an cdv ct) ⟨us,[]⟩ = pure (ps.zip us)):zCI K fd ps []:=by
 obtain ⟨oc,od,kV,doc,pm,an,cdv,ct,osl,rfl,lk,hcd⟩:=F.ex;exact .all (h kV doc pm an cdv ct)
theorem zHF {x qual:Str} {st:Stmt} {f:Addr} {oc:Value} {od an:Option Addr} {osl:Array (Option Value)} {kV doc pm cdv ct:Value} (l:K.lookup f = some ⟨oc,od,.func (PySem.W.fnOf x qual (zCG st) (zAj st) (zG st) .none kV doc pm an cdv ct),osl⟩)
  (c:PySem.W.codeIn K cdv qual = true) (k:PySem.W.keepIn K (.ref f) = true):Fun K x qual st f (PySem.W.fnOf x qual (zCG st) (zAj st) (zG st) .none kV doc pm an cdv ct):=⟨⟨oc,od,kV,doc,pm,an,cdv,ct,osl,rfl,l,c⟩,k⟩
end
theorem zKV {A:Around} {k:Nat} (hr:Room k A):A.units + 1 < cLine:=Nat.lt_of_le_of_lt (Nat.add_le_add_left (by decide:1 <= 64) _) hr.units
section
variable {X:Cx}
theorem pv (i:Nat) {x:Str} {pos:Pos} (hN:X.N[i]? = some x:=by rfl) (hv:Vis X.env.scope x:=by first | exact Or.inl rfl | exact Or.inr (Or.inl rfl) | exact Or.inr (Or.inr rfl)) (hd:(x == ("__debug__" : Str)) = false:=by decide)
  (hcd:(x == ("__classdict__" : Str)) = false:=by decide):PE X (.Name x pos) (zOW i):=zMQ hN hv hd hcd
end
theorem zHa {A B:Prop} (h:B):if false = true then A else B:=by
 rw [zTc zTg];exact h
theorem zHl {A B:Prop} (h:A):if true = true then A else B:=by
 rw [zTZ rfl];exact h
section
variable {κ:Type} [DecidableEq κ]
def zC4 (kvs:List (κ × V)) (k:κ):Option V:=(kvs.find? fun kv=>decide (kv.1 = k)).map (·.2)
def zDr (kvs:List (κ × V)) (k:κ) (v:V):List (κ × V) :=
 if (kvs.any fun kv=>decide (kv.1 = k)) = true then kvs.map (fun kv=>if kv.1 = k then (kv.1,v) else kv) else kvs ++ [(k,v)]
theorem zEk {p:κ × V} {r:List (κ × V)} {k:κ} (e:p.1 = k):zC4 (p :: r) k = some p.2:=by simp [zC4,zVB,e]
theorem zEg {p:κ × V} {r:List (κ × V)} {k:κ} (e:¬ p.1 = k):zC4 (p :: r) k = zC4 r k:=by simp [zC4,zVB,e]
theorem zJC (k:κ):∀ kvs:List (κ × V),(kvs.any fun kv=>decide (kv.1 = k)) = (zC4 kvs k).isSome
 | []=>rfl
 | p :: r=>by
  rw [List.any_cons];by_cases e:p.1 = k
  ·simp only [zEk e,zUX e,Bool.true_or,Option.isSome_some]
  ·rw [zEg e,zTt e,Bool.false_or]; exact zJC k r
theorem zFS (kvs:List (κ × V)) (k:κ) (v:V):(zDr kvs k v).length <= kvs.length + 1:=by
 unfold zDr;split
 ·rw [zTT]; omega
 ·rw [zTa,List.length_cons,List.length_nil]; omega
theorem zF8.isSome_eq (r:zF8 o u):o.isSome = u.isSome:=by
 cases o with
 | none=>cases u with
  | none=>rfl
  | some _=>exact (show False from r).elim
 | some _=>cases u with
  | none=>exact (show False from r).elim
  | some _=>rfl
theorem KV.val {kvs:List (κ × V)} {vs:List (κ × Value)} (r:KV kvs vs) (k:κ):zF8 (zC4 kvs k) (valueAt vs k):=by
 unfold KV at r;induction r with
 | nil=>exact True.intro
 | @cons p q ps qs h t ih=>
  obtain ⟨h1,h2⟩:=h;by_cases e:p.1 = k
  ·have e':q.1 = k:=h1.symm.trans e;have b:valueAt (q :: qs) k = some q.2:=by simp [valueAt,zVB,e']
   rw [zEk e,b]; exact h2
  ·have e':¬ q.1 = k:=fun z=>e (h1.trans z);have b:valueAt (q :: qs) k = valueAt qs k:=by simp [valueAt,zVB,e']
   rw [zEg e,b]; exact ih
theorem KV.any (r:KV kvs vs) (k:κ):(kvs.any fun kv=>decide (kv.1 = k)) = vs.any fun kv=>decide (kv.1 = k):=by
 unfold KV at r;induction r with
 | nil=>rfl
 | cons h t ih=>rw [List.any_cons,List.any_cons,ih,h.1]
theorem KV.repl (r:KV kvs vs) (k:κ) (ry:zt y u) :
  KV (kvs.map fun kv=>if kv.1 = k then (kv.1,y) else kv) (vs.map fun kv=>if kv.1 = k then (kv.1,u) else kv):=by
 unfold KV at r ⊢;induction r with
 | nil=>exact .nil
 | @cons p q ps qs h t ih=>
  rw [zTd,zTd];refine .cons ?_ ih;obtain ⟨h1,h2⟩:=h;by_cases e:p.1 = k
  ·rw [zTZ e,zTZ (h1.symm.trans e)]; exact ⟨h1,ry⟩
  ·rw [zTc e,zTc (fun z=>e (h1.trans z))]; exact ⟨h1,h2⟩
theorem KV.put (r:KV kvs vs) (k:κ) (ry:zt y u):KV (zDr kvs k y) (stored vs k u):=by
 unfold zDr stored;rw [r.any k];by_cases e:(vs.any fun kv=>decide (kv.1 = k)) = true
 ·rw [zTZ e,zTZ e]; exact r.repl k ry
 ·rw [zTc e,zTc e]; exact Paired.snoc r ⟨rfl,ry⟩
theorem KV.length (r:KV kvs vs):kvs.length = vs.length:=Paired.length r
end
theorem zKm (r:zt (kV k) u):(zAW P w).is k u = true:=by
 cases k with
 | inl i=>obtain ⟨t,e⟩:=(show ∃ t,u = Value.int i t from r); subst e; exact zIB P w i t
 | inr x=>obtain ⟨t,e⟩:=(show ∃ t,u = Value.str x t from r); subst e; exact zIJ P w x t
theorem zGo:∀ {ks:List Key} {us:List Value},zg (ks.map kV) us -> ItemsAre (zAW P w) ks us
 | [],_,r=>by rw [List.map_nil] at r; cases r; exact .nil
 | k :: ks,_,r=>by
  rw [zTd] at r;cases r with
  | cons h t=>exact .cons (zKm h) (zGo t)
abbrev KT (H:Hp):List (List Key × V) -> List (List Key × Addr × Value) -> Prop:=Paired fun p q=>p.1 = q.1 /\ H q.2.1 = some (.tup (p.1.map kV)) /\ zt p.2 q.2.2
theorem KT.val {H:Hp} {kvs:List (List Key × V)} {xs:List (List Key × Addr × Value)} (r:KT H kvs xs) (k:List Key):zF8 (zC4 kvs k) ((atKey xs k).map (·.2)):=by
 induction r with
 | nil=>exact True.intro
 | @cons p q ps qs h t ih=>
  obtain ⟨h1,_,h2⟩:=h;by_cases e:p.1 = k
  ·have e':q.1 = k:=h1.symm.trans e;have b:atKey (q :: qs) k = some q.2:=by simp [atKey,zVB,e']
   rw [zEk e,b]; exact h2
  ·have e':¬ q.1 = k:=fun z=>e (h1.trans z);have b:atKey (q :: qs) k = atKey qs k:=by simp [atKey,zVB,e']
   rw [zEg e,b]; exact ih
theorem KT.repl (r:KT H kvs xs) (k:List Key) (ry:zt y u) :
  KT H (kvs.map fun kv=>if kv.1 = k then (kv.1,y) else kv) (xs.map (putAt k u)):=by
 induction r with
 | nil=>exact .nil
 | @cons p q ps qs h t ih=>
  rw [zTd,zTd];refine .cons ?_ ih;obtain ⟨h1,h2,h3⟩:=h;unfold putAt;by_cases e:p.1 = k
  ·rw [zTZ e,zTZ (h1.symm.trans e)]; exact ⟨h1,h2,ry⟩
  ·rw [zTc e,zTc (fun z=>e (h1.trans z))]; exact ⟨h1,h2,h3⟩
theorem KT.put (r:KT H kvs xs) (k:List Key) (hb:H b = some (.tup (k.map kV))) (ry:zt y u) :
  KT H (zDr kvs k y) (storedH xs k b u):=by
 have e:(kvs.any fun kv=>decide (kv.1 = k)) = (atKey xs k).isSome:=by
  rw [zJC,(r.val k).isSome_eq,Option.isSome_map]
 unfold zDr storedH;rw [e];by_cases q:(atKey xs k).isSome = true
 ·rw [zTZ q,zTZ q]; exact r.repl k ry
 ·rw [zTc q,zTc q]; exact Paired.snoc r ⟨rfl,hb,ry⟩
theorem KT.keeps (r:KT H kvs xs) (ht:∀ b ys,H b = some (.tup ys) -> H' b = some (.tup ys)):KT H' kvs xs :=
 Paired.mapP r fun _ _ z=>⟨z.1,ht _ _ z.2.1,z.2.2⟩
section
variable {P:Program} {w:World} {H:Hp} {h:Heap} {a:Addr}
theorem zPv (ok:HOk P w H h) (e:Rd H a u):zAE P w H h a u:=e.ok ok
theorem zKp (ok:HOk P w H h) (e:Rd H a (.dK kvs)):kvs.length <= sizeLine /\ (a == sysModules) = false /\ ∃ vs,KV kvs vs /\ h.DictOf (zAW P w) a vs :=
 show zAE P w H h a (.dK kvs) from zPv ok e
theorem zSp (ok:HOk P w H h) (e:H a = some (.dK kvs)):kvs.length <= sizeLine /\ (a == sysModules) = false /\ ∃ vs,KV kvs vs /\ h.DictOf (zAW P w) a vs:=zKp ok (.inl e)
theorem zHx (ok:HOk P w H h) (e:H a = some (.tup (ks.map kV))):(tupleKind (zAW P w)).is h ks a:=by
 obtain ⟨_,its,r,o,h1,h2,⟨n,h3⟩,_⟩:=(show zAE P w H h a (.tup (ks.map kV)) from ok a _ e);exact ⟨o,its.toArray,n,h1,h2,h3,by simpa using zGo r⟩
theorem zKM (ok:HOk P w H h) (e:Rd H a (.dT kvs)):kvs.length <= sizeLine /\ (a == sysModules) = false /\
  ∃ xs,KT H kvs xs /\ h.DictOfH (tupleKind (zAW P w)) a xs:=by
 obtain ⟨z,y,xs,r,o,es,ep,h1,h2,h3,h4,h5⟩:=(show zAE P w H h a (.dT kvs) from zPv ok e);refine ⟨z,y,xs,r,o,es,ep,h1,h2,h3,h4,fun x hx=>?_,h5⟩;have all:∀ {l:List (List Key × V)} {m:List (List Key × Addr × Value)},KT H l m -> ∀ x ∈ m,(tupleKind (zAW P w)).is h x.1 x.2.1:=by
  intro l m q;induction q with
  | nil=>intro x hx; exact nomatch hx
  | @cons p q ps qs hq t ih=>
   intro x hx;rcases zTW.mp hx with e | hx
   ·subst e;exact zHx ok (by rw [<- hq.1]; exact hq.2.1)
   ·exact ih x hx
 exact all r x hx
theorem zRt (ok:HOk P w H h) (e:H a = some (.dT kvs)):kvs.length <= sizeLine /\ (a == sysModules) = false /\
  ∃ xs,KT H kvs xs /\ h.DictOfH (tupleKind (zAW P w)) a xs:=zKM ok (.inl e)
end
def zEl (H:Hp) (a:Addr) (y:V) (r:Option V):Prop :=
 (∃ kvs k,Rd H a (.dK kvs) /\ y = kV k /\ r = zC4 kvs k) \/ ∃ kvs k b,Rd H a (.dT kvs) /\ y = .ref b /\ H b = some (.tup (k.map kV)) /\ r = zC4 kvs k
def zH5 (H:Hp) (a:Addr) (y v:V) (H':Hp):Prop :=
 (∃ kvs k,H a = some (.dK kvs) /\ y = kV k /\ kvs.length < sizeLine /\ H' = upd H a (.dK (zDr kvs k v))) \/
 ∃ kvs k b,H a = some (.dT kvs) /\ y = .ref b /\ H b = some (.tup (k.map kV)) /\ kvs.length < sizeLine /\ H' = upd H a (.dT (zDr kvs k v))
theorem zEl.k {H:Hp} {a:Addr} {kvs:List (Key × V)} {k:Key} (e:H a = some (.dK kvs)):zEl H a (kV k) (zC4 kvs k):=.inl ⟨kvs,k,.inl e,rfl,rfl⟩
theorem zEl.t {k:List Key} (e:H a = some (.dT kvs)) (eb:H b = some (.tup (k.map kV))):zEl H a (.ref b) (zC4 kvs k):=.inr ⟨kvs,k,b,.inl e,rfl,eb,rfl⟩
theorem zH5.k {H:Hp} {a:Addr} {kvs:List (Key × V)} {k:Key} {v:V} (e:H a = some (.dK kvs)) (hl:kvs.length < sizeLine):zH5 H a (kV k) v (upd H a (.dK (zDr kvs k v))):=.inl ⟨kvs,k,e,rfl,hl,rfl⟩
theorem zH5.t {kvs:List (List Key × V)} {k:List Key} (e:H a = some (.dT kvs)) (eb:H b = some (.tup (k.map kV))) (hl:kvs.length < sizeLine) :
  zH5 H a (.ref b) v (upd H a (.dT (zDr kvs k v))):=.inr ⟨kvs,k,b,e,rfl,eb,hl,rfl⟩
section
variable {X:Cx} {zB:List (Addr × Obj)} {σ:St} {H:Hp} {s:Shared} {a:Addr} {y v:V} {u r:Value} {o:Option V} {A:Around} {E:Value -> Shared -> Prop}
theorem Inv.big (I:Inv X zB σ H s):sysModules < s.heap.objs.size:=by
 have h:mainGlobals < s.heap.objs.size:=(I.mod.glob.keeps I.bk).lt;exact Nat.lt_trans (by decide) h
theorem zLs (hu:A.units + 1 < cLine) (I:Inv X zB σ H s) (g:zEl H a y (some v)) (ry:zt y u) (h:∀ w' s',Inv X zB σ H s' -> zt v w' -> Q w' s') :
  wpAny (model X.prog X.w) A (getItem (.ref a) u) Q E s:=by
 rcases g with ⟨kvs,k,e,ey,l⟩ | ⟨kvs,k,b,e,ey,eb,l⟩
 ·subst ey;obtain ⟨z,hd,vs,rel,dd⟩:=zKp I.hok e;obtain ⟨w',hw,rw'⟩:=zF8.some_of (v:=v) (o:=valueAt vs k) (by rw [l]; exact rel.val k);exact wpAny_getItem_of (zKm ry) dd.mapOf hw (h w' _ (I.tok _) rw')
 ·subst ey;cases (show u = Value.ref b from ry);obtain ⟨z,hd,xs,rel,dd⟩:=zKM I.hok e;obtain ⟨w',hw,rw'⟩:=zF8.some_of (v:=v) (o:=(atKey xs k).map (·.2)) (by rw [l]; exact rel.val k);obtain ⟨p,hp,hp2⟩:=Option.map_eq_some_iff.mp hw;refine wpAny_getItem_heap (tupleKind_room_in1 hu) (zHx I.hok eb) dd hp ?_;rw [hp2];exact h w' _ (I.tok _) rw'
theorem zTG (hu:A.units + 1 < cLine) (I:Inv X zB σ H s) (g:zEl H a y o) (ry:zt y u) (h:∀ s',Inv X zB σ H s' -> Q (.bool o.isSome) s') :
  wpAny (model X.prog X.w) A (compareOp .In u (.ref a)) Q E s:=by
 rcases g with ⟨kvs,k,e,ey,l⟩ | ⟨kvs,k,b,e,ey,eb,l⟩
 ·subst ey;obtain ⟨z,hd,vs,rel,dd⟩:=zKp I.hok e;refine wpAny_in_of (zKm ry) hd dd.mapOf ?_;rw [<- (rel.val k).isSome_eq,<- l];exact h _ (I.tok _)
 ·subst ey;cases (show u = Value.ref b from ry);obtain ⟨z,hd,xs,rel,dd⟩:=zKM I.hok e;refine wpAny_in_heap (tupleKind_room_in1 hu) (zHx I.hok eb) hd dd ?_;have q:=(rel.val k).isSome_eq;rw [Option.isSome_map] at q;rw [<- q,<- l];exact h _ (I.tok _)
theorem zKn (I:Inv X zB σ H s) (mu:Mut (H a)) (hs:Heap.SameBut a s.heap h') (he:∃ q,h'.get? a = some q) (new:zAE X.prog X.w (upd H a ob) h' a ob) :
  Inv X zB σ (upd H a ob) { s with heap:=h',toks:=t' } :=
 I.write (x:=a) (e:=a) mu (.inl rfl) (fun b q hb z=>(hs.2 b hb).trans z) he new
theorem zQa (z:kvs.length <= sizeLine) (hd:(a == sysModules) = false) (rel:KV kvs vs) (dd:h'.DictOf (zAW P w) a vs) :
  zAE P w H' h' a (.dK kvs):=⟨z,hd,vs,rel,dd⟩
theorem zL1 (hu:A.units + 1 < cLine) (I:Inv X zB σ H s) (g:zH5 H a y v H') (ry:zt y u) (rv:zt v r) (h:∀ s',Inv X zB σ H' s' -> Q () s') :
  wpAny (model X.prog X.w) A (setItem (.ref a) u r) Q E s:=by
 rcases g with ⟨kvs,k,e,ey,l,eH⟩ | ⟨kvs,k,b,e,ey,eb,l,eH⟩
 ·subst ey eH;obtain ⟨z,hd,vs,rel,dd⟩:=zSp I.hok e;have hz:vs.length <= sizeLine:=by rw [<- rel.length]; exact z
  have hl:(zDr kvs k v).length <= sizeLine:=by have:=zFS kvs k v; omega
  refine wpAny_setItem_pairs (hsz:=hz) (zKm ry) dd fun h' dd' hs=>h _ ?_;have he:∃ q,h'.get? a = some q:=let ⟨q,_,_,hq,_⟩:=dd'; ⟨q,hq⟩;exact zKn I (by rw [e]; exact True.intro) hs he (zQa hl hd (rel.put k rv) dd')
 ·subst ey eH;cases (show u = Value.ref b from ry);obtain ⟨z,hd,xs,rel,dd⟩:=zRt I.hok e;have hz:xs.length <= sizeLine:=by rw [<- Paired.length rel]; exact z
  have hl:(zDr kvs k v).length <= sizeLine:=by have:=zFS kvs k v; omega
  refine wpAny_setItem_heap (hsz:=hz) (tupleKind_room_in1 hu) (zHx I.hok eb) dd fun h' dd' hs=>h _ ?_;obtain ⟨q,es,ep,hq,h2,h3,h4,_,h5⟩:=dd';refine zKn I (by rw [e]; exact True.intro) hs ⟨q,hq⟩ ⟨hl,hd,_,(rel.put k eb rv).keeps fun c ys ec=>?_,q,es,ep,hq,h2,h3,h4,h5⟩;rw [zZ (zGw ec e (fun z=>nomatch z))];exact ec
end
def zQQ (i:Expr):Prop:=∀ ov iv,subscripted i false ov iv = operate [ov,iv] (getItem ov iv)
theorem zPP {prog:Program} {w:World} {A:Around} {E:Value -> Shared -> Prop} {s:Shared} {env:Env} {value slice:Expr} {pos:Pos} {T id:String} {Q:Value -> Shared -> Prop}
  (hl:typeLookup (.type T) "__getitem__" = pure (some (.builtin id))) (hs:zQQ slice)
  (h:wpAny (model prog w) A (eval value env) (fun o s₁=>wpAny (model prog w) A (eval slice env) (fun i s₂=>s₂.TypeIs o T /\ wpAny (model prog w) A (getItem o i) Q E s₂) E s₁) E s) :
  wpAny (model prog w) A (eval (.Subscript value slice pos) env) Q E s:=by
 refine Subscript_ (zTq h (fun o s₁ h₁=>zTq h₁ (fun i s₂ h₂=>?_) fun _ _ x=>x) fun _ _ x=>x);obtain ⟨hT,h₂⟩:=h₂;unfold subscriptTail;refine zTK ?_;rw [getitemInPython_of_ne hT.not_modules];refine zTK (wpAny_specialOf hT hl ?_);have fin:wpAny (model prog w) A (subscripted slice false o i) (fun r s₃=>wpAny (model prog w) A (letTemporaryGo value o r >>= fun _=>pure r) Q E s₃) E s₂:=by
  rw [hs o i];exact wpAny_operating (zTq h₂ (fun r s₃ h₃=>zTK (wpAny_letTemporaryGo (zTM h₃))) fun _ _ x=>x)
 first
  | exact zTM (zTK fin)
  | exact zTK (zTM (zTK fin))
  | exact zTK fin
theorem zIL (I:Inv X zB σ H s) (g:zEl H a y o):s.TypeIs (.ref a) "dict" := by
 rcases g with ⟨kvs,k,e,_,_⟩ | ⟨kvs,k,b,e,_,_,_⟩
 ·obtain ⟨_,_,vs,_,dd⟩:=zKp I.hok e;exact dd.typeIs
 ·obtain ⟨_,_,xs,_,dd⟩:=zKM I.hok e;exact dd.typeIs
def zRy (td ty:TE):TE:=fun σ H Q=>td σ H fun x H1=>ty σ H1 fun y H2=>∃ a v,x = .ref a /\ zEl H2 a y (some v) /\ Q v H2
def zTE (ty td:TE):TE:=fun σ H Q=>ty σ H fun y H1=>td σ H1 fun x H2=>∃ a o,x = .ref a /\ zEl H2 a y o /\ Q (.bl o.isSome) H2
def zSA (td ty tv:TE):TS:=fun D σ H=>tv σ H fun v H1=>td σ H1 fun x H2=>ty σ H2 fun y H3=>∃ a H4,x = .ref a /\ zH5 H3 a y v H4 /\ D.nx σ H4
section
variable {X:Cx} {o i e value:Expr} {pos pos' tpos:Pos} {td ty tv:TE}
theorem zOd (hu:X.A.units + 1 < cLine) (ho:PE X o td) (hi:PE X i ty) (hs:zQQ i):PE X (.Subscript o i pos) (zRy td ty):=by
 intro zB s σ H Q I h;refine zPP PySem.F.slot_dict_getitem.lookup hs (thn (ho zB s σ H _ I h) fun u s1 ⟨x,H1,I1,rx,q1⟩=>thn (hi zB s1 σ H1 _ I1 q1) fun iv s2 ⟨y,H2,I2,ry,a,v,ex,g,q2⟩=>?_);subst ex;obtain rfl:u = Value.ref a:=rx;exact ⟨zIL I2 g,zLs hu I2 g ry fun w' s3 I3 rw'=>⟨v,H2,I3,rw',q2⟩⟩
theorem zMV (hu:X.A.units + 1 < cLine) (hi:PE X i ty) (ho:PE X o td):PC X .In i o (zTE ty td):=by
 intro zB s σ H Q I h;refine thn (hi zB s σ H _ I h) fun iv s1 ⟨y,H1,I1,ry,q1⟩=>thn (ho zB s1 σ H1 _ I1 q1) fun u s2 ⟨x,H2,I2,rx,a,ov,ex,g,q2⟩=>?_;subst ex;obtain rfl:u = Value.ref a:=rx;exact zTG hu I2 g ry fun s3 I3=>⟨.bl ov.isSome,H2,I3,rfl,q2⟩
theorem zOv (hu:X.A.units + 1 < cLine) (ho:PE X o td) (hi:PE X i ty) (hv:PE X value tv) (hs:swapsWith value (some (.Subscript o i pos')) pos.line X.env = pure false) :
  PS X (.Assign [.Subscript o i pos'] value pos) (zSA td ty tv):=by
 intro zB s σ H D I h;refine wpAny_Assign_Subscript (thn (hv zB s σ H _ I h) fun r s1 ⟨v,H1,I1,rv,q1⟩=>thn (ho zB s1 σ H1 _ I1 q1) fun u s2 ⟨x,H2,I2,rx,q2⟩=>thn (hi zB s2 σ H2 _ I2 q2) fun iv s3 ⟨y,H3,I3,ry,a,H4,ex,g,q3⟩=>?_) hs;subst ex;obtain rfl:u = Value.ref a:=rx;exact zL1 hu I3 g ry rv fun s4 I4=>⟨σ,H4,I4,q3⟩
end
theorem zND (h:Heap) (hb:sysModules < h.objs.size):zAE P w H (h.push { cls:=.type "dict", data:=.dict #[] }) h.objs.size (.dK []) :=
 ⟨Nat.zero_le _,beq_eq_false_iff_ne.mpr (Ne.symm (zTf hb)),[],.nil,Heap.DictOf.new h⟩
def zQs:TE:=fun _ H Q=>∀ p,H p = none -> Q (.ref p) (upd H p (.dK []))
section
variable {X:Cx} {pos:Pos}
theorem zNP:PE X (.Dict [] [] pos) zQs:=fun zB s σ H Q I h=>
 wpAny_Dict_empty ⟨.ref s.heap.objs.size,_,I.laid (a:=s.heap.objs.size) (o:=.dK []) (t':=s.toks) (fun _ _ q=>zTL _ q) (zTQ _) (zND s.heap I.big),rfl,h _ (I.hok.fresh (zTQ _))⟩
end
theorem zAT:∀ (names:List (Str × NameKind)) (n:Nat) (acc:List (Str × Addr)),cellsFrom n names acc = cellsFrom n names [] ++ acc
 | [],_,_=>rfl
 | (name,kind) :: r,n,acc=>by
  unfold cellsFrom;split
  ·rw [zAT r (n + 1) ((name,n) :: acc),zAT r (n + 1) [(name,n)],zUV];rfl
  ·exact zAT r n acc
theorem zB6 {α:Type} (x:Str):∀ (l r:List (Str × α)),(l ++ r).lookup x = (match l.lookup x with | some c=>some c | none=>r.lookup x)
 | [],r=>rfl
 | (k,v) :: l,r=>by
  rw [List.cons_append,zVU,zVU];cases hb:x == k with
  | true=>rfl
  | false=>exact zB6 x l r
theorem zEH:∀ (names:List (Str × NameKind)) (acc:List (Str × Addr)),
  (∀ y ∈ names,y.2 = .free -> ∃ c,env.cells.lookup y.1 = some c) ->
  (∀ x c,acc.lookup x = some c -> env.cells.lookup x = some c) ->
  ∃ cl:List (Str × Addr),(forIn names acc (fun (p:Str × NameKind) (cs:List (Str × Addr))=>(do
    if p.2 == .free then
     let a <- cellOf env p.1;pure (ForInStep.yield ((p.1,a) :: cs))
    else pure (ForInStep.yield cs):Sem (ForInStep (List (Str × Addr)))))) = pure cl /\
   (∀ x c,cl.lookup x = some c -> env.cells.lookup x = some c) /\
   (∀ x,(acc.lookup x).isSome = true -> (cl.lookup x).isSome = true) /\ ∀ y ∈ names,y.2 = .free -> (cl.lookup y.1).isSome = true
 | [],acc,_,ha=>⟨acc,by rw [List.forIn_nil],ha,fun _ h=>h,fun _ h=>nomatch h⟩
 | (n,k) :: r,acc,hf,ha=>by
  rw [zV0];by_cases hk:k = .free
  ·subst hk;obtain ⟨c,hc⟩:=hf (n,.free) zTY rfl;have hco:cellOf env n = pure c:=by unfold cellOf; rw [hc]
   obtain ⟨cl,e,h1,h2,h3⟩:=zEH r ((n,c) :: acc) (fun y hy=>hf y (zTX _ hy)) (fun x d hx=>by
    rw [zVU] at hx;cases hb:x == n with
    | true=>rw [hb] at hx; cases hx; rw [zVL.mp hb]; exact hc
    | false=>rw [hb] at hx; exact ha x d hx)
   refine ⟨cl,?_,h1,fun x hx=>h2 x ?_,fun y hy hk=>?_⟩
   ·rw [<- e];simp only [beq_self_eq_true,if_true,hco];rfl
   ·rw [zVU];cases hb:x == n with
    | true=>rfl
    | false=>exact hx
   ·rcases zTW.mp hy with z | z
    ·subst z;exact h2 n (by rw [zVU]; simp)
    ·exact h3 y z hk
  ·obtain ⟨cl,e,h1,h2,h3⟩:=zEH r acc (fun y hy=>hf y (zTX _ hy)) ha;refine ⟨cl,?_,h1,h2,fun y hy hk'=>?_⟩
   ·rw [<- e];have:(k == NameKind.free) = false:=by simpa using hk
    simp only [this,Bool.false_eq_true,if_false];rfl
   ·rcases zTW.mp hy with z | z
    ·subst z; exact absurd hk' hk
    ·exact h3 y z hk'
theorem zGX (hf:∀ y ∈ scope.names,y.2 = .free -> ∃ c,env.cells.lookup y.1 = some c) :
  ∃ cl,closureFor scope env = pure cl /\ (∀ x c,cl.lookup x = some c -> env.cells.lookup x = some c) /\ ∀ y ∈ scope.names,y.2 = .free -> (cl.lookup y.1).isSome = true:=by
 obtain ⟨cl,e,h1,_,h3⟩:=zEH (env:=env) scope.names [] hf (fun x c h=>nomatch h);refine ⟨cl,?_,h1,h3⟩;unfold closureFor;rw [show (pure cl:Sem _) = pure cl >>= pure from rfl,<- e]
theorem zIE
  (hQ:Q (newEnv scope s.heap.objs.size globals (cellsFrom (s.heap.objs.size + 1) scope.names cl) qual none .none (some env) builtinsNs)
   { s with heap:=pushCells (s.heap.push { cls:=.type "dict", data:=.dict #[] }) scope.names }) :
  wpAny M A (newFunctionEnv scope globals cl [] qual none .none (some env)) Q E s:=by
 simp only [newFunctionEnv,Option.isSome_some,if_true];refine zTK (wpAny_alloc ?_);refine zTK (wpAny_layCells _ (fun name kind cells=>by cases hkc:kind == NameKind.cell <;> simp [hkc]) _ _ _ _ ?_);rw [show ({ s with heap:=s.heap.push { cls:=.type "dict", data:=.dict #[] } }:Shared).heap.objs.size = s.heap.objs.size + 1 from zT0 ..];exact zTK (zTM (zTM hQ))
def zAf (X:Cx) (zB:List (Addr × Obj)) (scope:Scope) (cl:List (Str × Addr)) (s:Shared) (H:Hp) (fp:List Addr):Cx where
 prog:=X.prog
 w:=X.w
 K:=X.K
 mg:=X.mg
 base:=X.base
 A:=X.A
 N:=X.N
 s₀:=s
 H₀:=H
 env:={ scope:=relabel scope X.env,locals:=s.heap.objs.size + 1,globals:=X.env.globals,cells:=cellsFrom (s.heap.objs.size + 1 + 1) scope.names cl,qual:=X.env.qual,func:=none,code:=X.env.code,frame:=X.env.frame,builtins:=X.env.builtins }
 outer:=X.stack
 stack:=X.stack
 ex:=fp
 fn:=fun x=>decide (scope.names.lookup x = some .cell)
 calm:=X.calm
 pn:=X.pn ++ zB
 xe:=fun _ _=>False
theorem zAz {scope:Scope} {env:Env} (x:Str):∀ {names:List (Str × NameKind)} {k:NameKind},
  (names.map fun (n,k)=>if (k == NameKind.free && env.scope.kind == .function && env.kindOf n == some .cell) then (n,NameKind.cell) else (n,k)).lookup x = some k ->
  names.lookup x = some k \/ (names.lookup x = some .free /\ k = .cell)
 | [],_,h=>by simp at h
 | (n,k') :: r,k,h=>by
  rw [zTd] at h;by_cases hc:(k' == NameKind.free && env.scope.kind == .function && env.kindOf n == some .cell) = true
  ·simp only [hc,if_true] at h;rw [zVU] at h ⊢;cases hb:x == n with
   | true=>
    rw [hb] at h;simp only [zTu,zVL] at hc;exact .inr ⟨by rw [hc.1.1],(zUP h).symm⟩
   | false=>rw [hb] at h; exact zAz (scope:=scope) x h
  ·simp only [hc,Bool.false_eq_true,if_false] at h;rw [zVU] at h ⊢;cases hb:x == n with
   | true=>rw [hb] at h; exact .inl h
   | false=>rw [hb] at h; exact zAz (scope:=scope) x h
theorem zFo:∀ (names:List (Str × NameKind)) (n:Nat) (acc:List (Str × Addr)) (x:Str) (c:Addr),(x,c) ∈ cellsFrom n names acc -> (x,c) ∉ acc -> (x,NameKind.cell) ∈ names
 | [],_,_,_,_,h,h'=>absurd h h'
 | (name,kind) :: r,n,acc,x,c,h,h'=>by
  unfold cellsFrom at h;split at h
  ·rename_i hk;by_cases e:(x,c) = (name,n)
   ·cases e;rw [zVL] at hk;subst hk;exact zTY
   ·exact zTX _ (zFo r _ _ x c h fun z=>(zTW.mp z).elim e h')
  ·exact zTX _ (zFo r _ _ x c h h')
structure CompScope (X:Cx) (scope:Scope):Prop where
 kind:scope.kind = .function
 names:∀ y ∈ scope.names,y.2 = .local -> scope.names.lookup y.1 = some .local
 cells:∀ y ∈ scope.names,y.2 = .cell -> scope.names.lookup y.1 = some .cell
 free:∀ y ∈ scope.names,y.2 = .free -> X.env.kindOf y.1 = some .cell \/ X.env.kindOf y.1 = some .free
section
variable {X:Cx} {zB:List (Addr × Obj)} {σ σc:St} {H:Hp} {s s4:Shared} {scope:Scope} {cl:List (Str × Addr)} {fp:List Addr}
theorem zNm (S:CompScope X scope) (I:Inv X zB σ H s) (hf:∀ b ∈ fp,zDv X zB H b) (ho:∀ b:Nat,b ∈ fp -> b < s.heap.objs.size)
  (c1:∀ x c,cl.lookup x = some c -> X.env.cells.lookup x = some c) (c2:∀ y ∈ scope.names,y.2 = .free -> (cl.lookup y.1).isSome = true)
  (hl:σc.length = σ.length) (hσ:∀ (i:Nat) x v,X.N[i]? = some x -> σc[i]? = some (some v) -> (relabel scope X.env).names.lookup x ≠ none -> scope.names.lookup x = some .free /\ σ[i]? = some (some v))
  (lo:Obj) (hlo:∀ v,lo.data ≠ .cell v) (hfr:lo.isFreed = false)
  (h4:s4 = { s with heap:=pushCells ((s.heap.push lo).push { cls:=.type "dict", data:=.dict #[] }) scope.names }) :
  Inv (zAf X zB scope cl s H fp) [(s.heap.objs.size,lo)] σc H s4:=by
 subst h4;have sz1:(s.heap.push lo).objs.size = s.heap.objs.size + 1:=zT0 ..;have sz2:((s.heap.push lo).push { cls:=.type "dict", data:=.dict #[] }).objs.size = s.heap.objs.size + 1 + 1:=by rw [zT0,sz1]
 have hk:∀ b o,s.heap.get? b = some o -> (pushCells ((s.heap.push lo).push { cls:=.type "dict", data:=.dict #[] }) scope.names).get? b = some o:=fun b o e=>
  pushCells_keeps _ _ b o (zTL _ (zTL _ e))
 have ok:=cellsFrom_ok scope.names ((s.heap.push lo).push { cls:=.type "dict", data:=.dict #[] }) (s.heap.objs.size + 1 + 1) [] ⟨fun _ _ hm=>(nomatch hm),List.Pairwise.nil⟩ (by rw [sz2]; exact zTQ _);rw [sz2] at ok;have look:∀ x c,(cellsFrom (s.heap.objs.size + 1 + 1) scope.names cl).lookup x = some c -> ((cellsFrom (s.heap.objs.size + 1 + 1) scope.names []).lookup x = some c) \/ ((cellsFrom (s.heap.objs.size + 1 + 1) scope.names []).lookup x = none /\ X.env.cells.lookup x = some c):=fun x c e=>by
  rw [zAT,zB6] at e;cases q:(cellsFrom (s.heap.objs.size + 1 + 1) scope.names []).lookup x with
  | some d=>rw [q] at e; exact .inl e
  | none=>rw [q] at e; exact .inr ⟨rfl,c1 x c e⟩
 have old:∀ x (c:Nat),X.env.cells.lookup x = some c -> c < s.heap.objs.size:=fun x c e=>let ⟨_,q⟩:=I.cell x c e; q.lt;have new:∀ x (c:Nat),(cellsFrom (s.heap.objs.size + 1 + 1) scope.names []).lookup x = some c -> s.heap.objs.size + 1 + 1 <= c:=fun x c e=>(ok.empty x c (zUR e)).2;have own:∀ x,scope.names.lookup x = some .cell -> ∃ c,(cellsFrom (s.heap.objs.size + 1 + 1) scope.names []).lookup x = some c:=fun x e=>zGJ e;have cne:∀ x (c:Nat),(cellsFrom (s.heap.objs.size + 1 + 1) scope.names cl).lookup x = some c -> c < s.heap.objs.size \/ s.heap.objs.size + 1 + 1 <= c:=fun x c e=>by
  rcases look x c e with q | ⟨_,q⟩
  ·exact .inr (new x c q)
  ·exact .inl (old x c q)
 refine ⟨⟨I.ok.mod,S.kind,I.ok.glob,I.ok.blt,zU7 _,fun x y c h1 h2=>?_,fun x hx=>?_,fun x c hx h=>?_,I.ok.hd,I.ok.frames,.inl rfl,fun b hb=>⟨?_,fun x c e z=>?_⟩,I.bs,zTl I.ok.bsz I.sz,fun b o e hb=>?_,fun b hb z=>?_,I.stack,I.stkFree⟩,
  rfl,I.bare,Un.kept hk,⟨fun _=>none,?_,fun i x v h1 h2 h3=>?_⟩,fun x c e=>?_,I.hok.fresh (zU7 _),fun x c e=>?_,fun p hp=>?_,I.hok.kept hk,hl.trans I.len⟩
 ·rcases look x c h1 with a | ⟨_,a⟩ <;> rcases look y c h2 with b | ⟨_,b⟩
  ·exact name_of_addr ok.apart (zUR a) (zUR b)
  ·exact absurd (Nat.lt_of_le_of_lt (new x c a) (old y c b)) (by omega)
  ·exact absurd (Nat.lt_of_le_of_lt (new y c b) (old x c a)) (by omega)
  ·exact I.ok.inj x y c a b
 ·have hx':(relabel scope X.env).names.lookup x = some .cell \/ (relabel scope X.env).names.lookup x = some .free:=hx;have go:scope.names.lookup x = some .cell \/ scope.names.lookup x = some .free:=by
   rcases hx' with q | q
   ·rcases zAz (scope:=scope) x q with z | z
    ·exact .inl z
    ·exact .inr z.1
   ·rcases zAz (scope:=scope) x q with z | z
    ·exact .inr z
    ·exact .inr z.1
  show ∃ c,(cellsFrom (s.heap.objs.size + 1 + 1) scope.names cl).lookup x = some c;rw [zAT,zB6];rcases go with q | q
  ·obtain ⟨c,e⟩:=own x q;exact ⟨c,by rw [e]⟩
  ·cases e:(cellsFrom (s.heap.objs.size + 1 + 1) scope.names []).lookup x with
   | some d=>exact ⟨d,rfl⟩
   | none=>exact Option.isSome_iff_exists.mp (c2 (x,.free) (zUR q) rfl)
 ·obtain ⟨d,e⟩:=own x (of_decide_eq_true hx);have h':(cellsFrom (s.heap.objs.size + 1 + 1) scope.names cl).lookup x = some c:=h;rw [zAT,zB6,e] at h';cases h';exact zTl (zTl (zU7 _) (zU7 _)) (new x _ e)
 ·exact zTf (Nat.lt_succ_of_lt (ho b hb))
 ·rcases look x c e with q | ⟨_,q⟩
  ·have a:=new x c q;rw [z] at a;exact absurd (Nat.lt_of_le_of_lt a (ho b hb)) (by omega)
  ·exact (hf b hb).2.2.2.2.1 x c q z
 ·rcases (hf b hb).2.2.2.1 with z | z
  ·exact I.ok.noex b o e z
  ·exact absurd (zTj (zTV e) (zTl I.ok.bsz z)) (zT7 _)
 ·rcases zTW.mp (I.stkSub b z) with q | q
  ·exact (hf b hb).2.1 q
  ·exact (hf b hb).2.2.1 q
 ·have q:((s.heap.push lo).push { cls:=.type "dict", data:=.dict #[] }).Ns (s.heap.push lo).objs.size (fun _=>none):=Heap.Ns.new ..;rw [sz1] at q;exact q.keeps (pushCells_keeps _ _)
 ·have h3':(relabel scope X.env).names.lookup x ≠ none:=by
   rcases h3 with z | z | z <;> (intro q; have z':(relabel scope X.env).names.lookup x = _:=z; rw [q] at z'; cases z')
  obtain ⟨fr,hv⟩:=hσ i x v h1 h2 h3';obtain ⟨m,hn,hlk⟩:=I.loc;have kx:=S.free (x,.free) (zUR fr) rfl;obtain ⟨u,rv,lk⟩:=hlk i x v h1 hv (by rcases kx with z | z; exact .inr (.inl z); exact .inr (.inr z));refine ⟨u,rv,?_⟩;rcases lk with ⟨z,_⟩ | ⟨_,c,e,ic⟩
  ·rcases kx with k | k <;> (rw [k] at z; cases z)
  ·have kind:(relabel scope X.env).names.lookup x = some .cell \/ (relabel scope X.env).names.lookup x = some .free:=by
    cases q:(relabel scope X.env).names.lookup x with
    | none=>exact absurd q h3'
    | some k=>
     rcases zAz (scope:=scope) x q with z | z
     ·rw [fr] at z; cases z; exact .inr rfl
     ·rw [z.2]; exact .inl rfl
   refine .inr ⟨kind,c,?_,ic.keeps hk⟩;show (cellsFrom (s.heap.objs.size + 1 + 1) scope.names cl).lookup x = some c;rw [zAT,zB6];obtain ⟨d,hd⟩:=Option.isSome_iff_exists.mp (c2 (x,.free) (zUR fr) rfl);have:=c1 x d hd;rw [e] at this; cases this;have nn:(cellsFrom (s.heap.objs.size + 1 + 1) scope.names []).lookup x = none:=by
    cases q:(cellsFrom (s.heap.objs.size + 1 + 1) scope.names []).lookup x with
    | none=>rfl
    | some d'=>
     have z:=S.cells (x,.cell) (zFo scope.names _ [] x d' (zUR q) fun z=>nomatch z) rfl;rw [fr] at z; cases z
   rw [nn]; exact hd
 ·rcases look x c e with q | ⟨_,q⟩
  ·exact ⟨none,(ok.empty x c (zUR q)).1⟩
  ·obtain ⟨v,z⟩:=I.cell x c q;exact ⟨v,z.keeps hk⟩
 ·rcases look x c e with q | ⟨_,q⟩
  ·exact I.hok.fresh (by have:=new x c q; omega)
  ·exact I.freeC x c q
 ·have hp':p ∈ X.pn ++ zB \/ p = (s.heap.objs.size,lo):=by
   rcases zTk.mp hp with z | z
   ·exact .inl z
   ·exact .inr (by simpa using z)
  rcases hp' with z | z
  ·obtain ⟨e,n,ne,nf,d⟩:=I.pin p z;have lt:(p.1:Nat) < s.heap.objs.size:=zTV e;refine ⟨hk _ _ e,n,?_,fun q=>?_,d⟩
   ·exact zTf (Nat.lt_succ_of_lt lt)
   ·rcases zTW.mp (I.stkSub _ q) with r | r
    ·exact ne r
    ·exact nf r
  ·subst z;refine ⟨pushCells_keeps _ _ _ _ (zTL _ (zTU _ hfr)),I.hok.fresh (zTQ _),?_,fun q=>?_,hlo⟩
   ·show s.heap.objs.size ≠ s.heap.objs.size + 1;omega
   ·rcases zTW.mp (I.stkSub _ q) with r | r
    ·exact absurd I.lt (by rw [<- r]; exact zT7 _)
    ·exact I.nofs (zTQ _) r
end
def clr (own:List Nat) (σ:St):St:=own.foldl (fun σ i=>σ.set i none) σ
theorem zFt:∀ (own:List Nat) (σ:St),(clr own σ).length = σ.length
 | [],_=>rfl
 | i :: r,σ=>by
  show (clr r (σ.set i none)).length = _;rw [zFt r,List.length_set]
theorem zHN:∀ (own:List Nat) (σ:St) (j:Nat) (v:V),(clr own σ)[j]? = some (some v) -> σ[j]? = some (some v) /\ j ∉ own
 | [],_,_,_,h=>⟨h,fun z=>nomatch z⟩
 | i :: r,σ,j,v,h=>by
  have h':(clr r (σ.set i none))[j]? = some (some v):=h;obtain ⟨a,b⟩:=zHN r _ j v h';rw [zUy] at a;split at a
  ·split at a <;> cases a
  ·rename_i hne;exact ⟨a,fun z=>(zTW.mp z).elim (fun e=>hne e.symm) b⟩
def Ext (a b:St):Prop:=b.length = a.length /\ ∀ (i:Nat) v,a[i]? = some (some v) -> b[i]? = some (some v)
theorem Ext.refl (a:St):Ext a a:=⟨rfl,fun _ _ h=>h⟩
theorem Ext.set (e:Ext (clr own σ) a) (h:i ∈ own):Ext (clr own σ) (a.set i (some v)):=by
 refine ⟨by rw [List.length_set]; exact e.1,fun j u q=>?_⟩;rw [zUy];split
 ·rename_i z;exact absurd (z ▸ h) (zHN own σ j u q).2
 ·exact e.2 j u q
def zMt (X:Cx) (ifs:List Expr) (t:TT):Prop :=
 ∀ (zB:List (Addr × Obj)) (s:Shared) (σ:St) (H:Hp) (Q:Bool -> Hp -> Prop),Inv X zB σ H s -> t σ H Q ->
  wpAny (model X.prog X.w) X.A (forIn ifs true fun c r=>if r = true then do let ok <- isTrue c X.env (eval c X.env); pure (ForInStep.yield ok) else pure (ForInStep.yield r)) (TP X zB σ Q) X.xe s
def zS5:TT:=fun _ H Q=>Q true H
theorem zNS:zMt X [] zS5:=fun _ _ _ H _ I h=>wpAny_tests_nil ⟨H,I,h⟩
theorem zN1 (h:PT X c t):zMt X [c] t:=fun zB s σ H Q I hq=>wpAny_tests_one (h zB s σ H Q I hq)
section
variable {prog:Program} {w:World} {A:Around} {E:Value -> Shared -> Prop} {R:Result -> Shared -> Prop} {s:Shared}
theorem zHD (I:Nat -> Shared -> Prop)
  (turn:∀ n s,I n s -> wpAny (model prog w) A (pyNext it) (fun r s₁=>match r with
   | none=>R (.ok .next) s₁
   | some v=>wpAny (model prog w) A (letOwnedTupleGo target it v) (fun _ s₁'=>wpAny (model prog w) A (assign target env v) (fun _ s₂=>
     wpAny (model prog w) A (forIn ifs true fun c r=>if r = true then do let ok <- isTrue c env (eval c env); pure (ForInStep.yield ok) else pure (ForInStep.yield r)) (fun ok s₃=>
      if ok = true then wpAny (model prog w) A (eval elt env) (fun x s₄=>
       wpAny (model prog w) A (call (.builtin "list.append") [acc,x]) (fun _ s₅=>∃ m,m < n /\ I m s₅) (fun _ _=>False) s₄) (fun _ _=>False) s₃
      else ∃ m,m < n /\ I m s₃) (fun _ _=>False) s₂) (fun _ _=>False) s₁') (fun _ _=>False) s₁) (fun _ _=>False) s)
  (n:Nat) (h:I n s) :
  codeAny (model prog w) A (.compLoop (.ListComp elt [⟨target,iter,ifs,0⟩] scope pos) 0 it acc env) R s:=by
 refine codeAny_loop rfl I (fun n s hI=>?_) n h;show wpAny _ A ((compTurn (.ListComp elt [⟨target,iter,ifs,0⟩] scope pos) 0 it acc env).onRaise (fun x=>do noteFrame x env; theTreesLotGoes x)) _ _ s;refine wpAny_noted ?_;rw [compTurn_list];refine zTK (wpAny_standAt (zTK (zTq (turn n s hI) (fun r s₁ h₁=>?_) fun _ _ h'=>h'.elim)));cases r with
 | none=>exact zTM h₁
 | some v=>
  refine zTK (zTq h₁ (fun _ s₁' h₁'=>?_) fun _ _ h'=>h'.elim);refine zTK (zTq h₁' (fun _ s₂ h₂=>zTK (zTq h₂ (fun ok s₃ h₃=>?_) fun _ _ h'=>h'.elim)) fun _ _ h'=>h'.elim);cases ok with
  | false=>exact zTM ⟨rfl,h₃⟩
  | true=>
   exact zTK (zTK (zTq h₃ (fun x s₄ h₄=>zTK (zTq h₄ (fun _ s₅ h₅=>zTM (zTM ⟨rfl,h₅⟩)) fun _ _ h'=>h'.elim)) fun _ _ h'=>h'.elim))
end
def zNg (own:List Nat) (wi:TI) (g:TG) (tc:TT) (te:TE):TE:=fun σ H Q=>wi σ H fun J H1=>∃ W:Nat -> Nat -> List V -> Hp -> Prop,(∃ m,W 0 m [] H1) /\ ∀ i m ys H,W i m ys H ->
 (J.stop i H /\ ys.length <= sizeLine /\ ∀ D,H D = none -> Q (.ref D) (upd H D (.lst ys))) \/
 (J.go i H /\ ∀ x H',J.yld i H x H' -> g x (clr own σ) H' fun σ2 H2=>Ext (clr own σ) σ2 /\ tc σ2 H2 fun b H3=>
  if b = true then te σ2 H3 fun v H4=>ys.length < sizeLine /\ ∃ m',m' < m /\ W (i + 1) m' (ys ++ [v]) H4 else ∃ m',m' < m /\ W (i + 1) m' ys H3)
abbrev zA1 (its:List Value) (n:Nat):Obj:={ cls:=.type "list", data:=.seq its.toArray n }
section
variable {X:Cx} {zB:List (Addr × Obj)} {σ:St} {H:Hp} {s:Shared}
theorem Inv.repin (I:Inv X (pl ++ [(D,o)]) σ H s) (hpl:∀ p ∈ X.pn ++ pl,p.1 ≠ D) (hs:Heap.SameBut D s.heap h') (hD:X.s₀.heap.objs.size <= D) (hc:∀ x c,X.env.cells.lookup x = some c -> c ≠ D)
  (e:h'.get? D = some o') (hn:∀ v,o'.data ≠ .cell v):Inv X (pl ++ [(D,o')]) σ H { s with heap:=h' }:=by
 obtain ⟨e0,n0,ne0,nf0,d0⟩:=I.pin (D,o) (by simp);have I1:Inv X pl σ H s:=I.pins_of fun p hp=>I.pin p (by simp [hp]);have I2:Inv X pl σ H { s with heap:=h' }:=I1.turned (t':=s.toks) (it:=D) (fun b u hb q=>hs.extBut b u hb q) n0 ne0 (.inr hD) hc hpl;exact I2.pins_of fun p hp=>by
  rcases zTk.mp hp with z | z
  ·exact I2.pin p (zTe _ z)
  ·have:p = (D,o'):=by simpa using z
   subst this;exact ⟨e,n0,ne0,nf0,hn⟩
end
section
variable {X:Cx} {zB:List (Addr × Obj)} {σ:St} {H:Hp} {s:Shared} {scope:Scope} {cl:List (Str × Addr)} {fp:List Addr} {it:Addr} {tn:Nat -> Heap -> Prop} {J:It} {tg elt iter:Expr} {ifs:List Expr} {pos:Pos}
 {own:List Nat} {g:TG} {tc:TT} {te:TE} {E:Value -> Shared -> Prop}
structure CompIn (X:Cx) (scope:Scope) (own:List Nat):Prop where
 sc:CompScope X scope
 nm:∀ (i:Nat) x,X.N[i]? = some x -> i ∈ own \/ scope.names.lookup x = none \/ scope.names.lookup x = some .free
theorem zHz (x:Str) (h:scope.names.lookup x = none):(relabel scope env).names.lookup x = none:=by
 cases q:(relabel scope env).names.lookup x with
 | none=>rfl
 | some k=>
  rcases zAz (scope:=scope) x q with z | z
  ·rw [h] at z; cases z
  ·rw [h] at z; cases z.1
theorem zGL (C:CompIn X scope own) (hcalm:X.calm = true) (I:Inv X zB σ H s) (T:Turn X.prog X.w X.K tg J fp it tn) (st:tn 0 s.heap) (hf:∀ b ∈ fp,zDv X zB H b)
  (c1:∀ x c,cl.lookup x = some c -> X.env.cells.lookup x = some c) (c2:∀ y ∈ scope.names,y.2 = .free -> (cl.lookup y.1).isSome = true)
  (hg:PG (zAf X zB scope cl s H fp) tg g) (hi:zMt (zAf X zB scope cl s H fp) ifs tc) (he:PE (zAf X zB scope cl s H fp) elt te)
  {RR:Value -> Addr -> Result -> Shared -> Prop} {QQ:List V -> Hp -> Prop} {W:Nat -> Nat -> List V -> Hp -> Prop} {m0:Nat} (w0:W 0 m0 [] H)
  (turn:∀ i m ys H,W i m ys H -> (J.stop i H /\ ys.length <= sizeLine /\ QQ ys H) \/
   (J.go i H /\ ∀ x H',J.yld i H x H' -> g x (clr own σ) H' fun σ2 H2=>Ext (clr own σ) σ2 /\ tc σ2 H2 fun b H3=>
    if b = true then te σ2 H3 fun v H4=>ys.length < sizeLine /\ ∃ m',m' < m /\ W (i + 1) m' (ys ++ [v]) H4 else ∃ m',m' < m /\ W (i + 1) m' ys H3))
  (fin:∀ σc H' s' its n ys,Inv (zAf X zB scope cl s H fp) [(s.heap.objs.size,zA1 its n)] σc H' s' -> zg ys its -> ys.length <= sizeLine -> QQ ys H' -> RR (.ref s.heap.objs.size) (s.heap.objs.size + 1) (.ok .next) s') :
  wpAny (model X.prog X.w) X.A (newList []) (fun acc s₃=>wpAny (model X.prog X.w) X.A (newFunctionEnv scope X.env.globals cl [] X.env.qual none .none (some X.env)) (fun cenv s₄=>
   codeAny (model X.prog X.w) X.A (.compStart (.ListComp elt [⟨tg,iter,ifs,0⟩] scope pos) 0 (.ref it) acc { cenv with scope:=relabel scope X.env }) (RR acc cenv.locals) s₄) E s₃) E s:=by
 have ob:∀ b:Nat,b ∈ fp -> b < s.heap.objs.size:=fun b hb=>let ⟨_,e,_⟩:=T.obj 0 _ st b hb; zTV e;refine zTn (zIE ?_);have sz1:(s.heap.push (zA1 [] 0)).objs.size = s.heap.objs.size + 1:=zT0 ..;have I4:=zNm (X:=X) (zB:=zB) (σ:=σ) (σc:=clr own σ) (H:=H) (s:=s) (scope:=scope) (cl:=cl) (fp:=fp) C.sc I hf ob c1 c2 (zFt own σ) (fun i x v h1 h2 h3=>by
  obtain ⟨a,b⟩:=zHN own σ i v h2;rcases C.nm i x h1 with z | z | z
  ·exact absurd z b
  ·exact absurd (zHz x z) h3
  ·exact ⟨z,a⟩) (zA1 [] 0) (by intro v z; cases z) rfl rfl
 have st4:tn 0 (pushCells ((s.heap.push (zA1 [] 0)).push { cls:=.type "dict", data:=.dict #[] }) scope.names):=T.keep 0 _ _ st fun b _ o e=>pushCells_keeps _ _ b o (zTL _ (zTL _ e));dsimp only;unfold newEnv;dsimp only;rw [sz1];have hDfp:s.heap.objs.size ∉ fp:=fun z=>zT7 _ (ob _ z);have hcD:∀ x c,(zAf X zB scope cl s H fp).env.cells.lookup x = some c -> c ≠ s.heap.objs.size:=fun x c e z=>by
  obtain ⟨v,o,ho,hd⟩:=I4.cell x c e;obtain ⟨q,_⟩:=I4.pin (s.heap.objs.size,zA1 [] 0) (by simp);rw [z,q] at ho;cases ho; cases hd
 have fpk:∀ {H':Hp} {pl:List (Addr × Obj)},(∀ b ∈ fp,H' b = none) -> (∀ p ∈ pl,p.1 = s.heap.objs.size) -> ∀ b ∈ fp,zDv (zAf X zB scope cl s H fp) pl H' b:=fun {H' pl} hn hp b hb=>
  ⟨hn b hb,(I4.ok.exf b hb).1,I4.ok.exfs b hb,.inl hb,(I4.ok.exf b hb).2,fun p hq=>by
   rcases zTk.mp hq with z | z
   ·exact (hf b hb).2.2.2.2.2 p z
   ·intro e;have e2:=hp p z;rw [e] at e2;exact hDfp (e2 ▸ hb)⟩
 have loop:codeAny (model X.prog X.w) X.A (.compLoop (.ListComp elt [⟨tg,iter,ifs,0⟩] scope pos) 0 (.ref it) (.ref s.heap.objs.size) (zAf X zB scope cl s H fp).env) (RR (.ref s.heap.objs.size) (s.heap.objs.size + 1))
   { s with heap:=pushCells ((s.heap.push (zA1 [] 0)).push { cls:=.type "dict", data:=.dict #[] }) scope.names }:=by
  refine zHD (fun n s'=>∃ i H' ys its k,Inv (zAf X zB scope cl s H fp) [(s.heap.objs.size,zA1 its k)] (clr own σ) H' s' /\ zg ys its /\ tn i s'.heap /\ (∀ b ∈ fp,H' b = none) /\ W i n ys H') ?_ m0
   ⟨0,H,[],[],0,I4,.nil,st4,fun b hb=>(hf b hb).1,w0⟩
  rintro n s5 ⟨i,H5,ys,its,k,I5,r5,st5,f5,w5⟩;have pinD:∀ p ∈ [(s.heap.objs.size,zA1 its k)],p.1 = s.heap.objs.size:=fun p hp=>by
   have:p = (s.heap.objs.size,zA1 its k):=by simpa using hp
   rw [this]
  rcases turn i n ys H5 w5 with ⟨stop,hz,qq⟩ | ⟨go,step⟩
  ·refine thn (T.done (zAf X zB scope cl s H fp) rfl rfl rfl hcalm i _ s5 _ H5 _ I5 (fpk f5 pinD) st5 stop) fun r s6 ⟨hr,I6⟩=>?_;subst hr;exact fin _ H5 s6 its k ys I6 r5 hz qq
  ·refine thn (T.item (zAf X zB scope cl s H fp) rfl rfl rfl hcalm i _ s5 _ H5 _ I5 (fpk f5 pinD) st5 go) fun r s6 ⟨u,hr,h6⟩=>?_;subst hr;refine thn h6 fun _ s7 ⟨x,H7,I7,r7,y7,st7,f7⟩=>?_;have I7':=I7.pinned (fpk f7 pinD) (T.obj _ _ st7);refine thn (hg _ s7 _ H7 x u _ I7' r7 (step x H7 y7)) fun _ s8 ⟨σ8,H8,I8,x8,q8⟩=>?_;refine thn (hi _ s8 σ8 H8 _ I8 q8) fun ok s9 ⟨H9,I9,q9⟩=>?_;have back:∀ {s':Shared} {Hx:Hp},Inv (zAf X zB scope cl s H fp) ([(s.heap.objs.size,zA1 its k)] ++ zFw fp s7.heap) σ8 Hx s' -> tn (i + 1) s'.heap /\ ∀ b ∈ fp,Hx b = none:=fun {s' Hx} Ix=>
    ⟨T.keep _ _ _ st7 fun b hb o e=>(Ix.pin (b,o) (zTe _ (zTe _ (zCy hb e)))).1,fun b hb=>by
     obtain ⟨o,e,d⟩:=T.obj _ _ st7 b hb;exact (Ix.pin (b,o) (zTe _ (zTe _ (zCy hb e)))).2.1⟩
   cases ok with
   | false=>
    obtain ⟨m',hm,w'⟩:=q9;obtain ⟨b1,b2⟩:=back I9;exact ⟨m',hm,i + 1,H9,ys,its,k,(I9.weak (by rw [x8.1]) x8.2).unpinned,r5,b1,b2,w'⟩
   | true=>
    refine thn (he _ s9 σ8 H9 _ I9 q9) fun v s10 ⟨y,H10,I10,r10,hlt,m',hm,w'⟩=>?_;obtain ⟨b1,b2⟩:=back I10;have J10:=(I10.weak (by rw [x8.1]) x8.2).unpinned;obtain ⟨e10,n10,ne10,nf10,d10⟩:=J10.pin (s.heap.objs.size,zA1 its k) (by simp);have hlen:its.toArray.size <= sizeLine:=by
     have:=r5.length;rw [zTS,<- this];exact Nat.le_of_lt hlt
    refine wpAny_list_append_plain (hsz:=hlen) (show s10.heap.PlainList s.heap.objs.size its.toArray from ⟨k,e10⟩) fun h' hl' hs'=>?_;obtain ⟨k',e'⟩:=hl';have e'':h'.get? s.heap.objs.size = some (zA1 (its ++ [v]) k'):=by rw [e']; simp [zA1]
    refine ⟨m',hm,i + 1,H10,ys ++ [y],its ++ [v],k',?_,r5.append (.cons r10 .nil),T.keep _ _ _ b1 fun b hb o e=>hs'.extBut b o (fun z=>hDfp (z ▸ hb)) e,b2,w'⟩;refine Inv.repin (pl:=[]) J10 (fun p hp=>?_) hs' (zTQ _) hcD e'' (by intro v z; cases z);rw [zT9] at hp;have hp':p ∈ X.pn ++ zB:=hp;exact zTf (zTV (I.pin p hp').1)
 exact codeAny_compStart_list loop (T.self _ 0 _ _ _ st4 loop)
end
section
variable {X:Cx} {zB:List (Addr × Obj)} {σ:St} {H:Hp} {s:Shared} {scope:Scope} {cl:List (Str × Addr)} {fp:List Addr}
theorem zJE (I:Inv X zB σ H s) (hf:∀ b ∈ fp,zDv X zB H b)
  (Ic:Inv (zAf X zB scope cl s H fp) [(s.heap.objs.size,zA1 its n)] σc H' s') (rv:zg ys its) (hz:ys.length <= sizeLine) (hs:Heap.SameBut (s.heap.objs.size + 1) s'.heap h') :
  Inv X zB σ (upd H' s.heap.objs.size (.lst ys)) { s' with heap:=h' } /\ H' s.heap.objs.size = none:=by
 obtain ⟨eD,nD,_⟩:=Ic.pin (s.heap.objs.size,zA1 its n) (by simp);have nC:H' (s.heap.objs.size + 1) = none:=Ic.free;have eD':h'.get? s.heap.objs.size = some (zA1 its n):=hs.extBut _ _ (zTf (Nat.lt_succ_self _)) eD;have lt1:∀ {b:Addr} {o:Obj},s.heap.get? b = some o -> b ≠ s.heap.objs.size + 1 /\ b ≠ s.heap.objs.size:=fun e=>⟨zTf (Nat.lt_succ_of_lt (zTV e)),zTf (zTV e)⟩;have tr:∀ b u,H' b = some u -> b ≠ s.heap.objs.size + 1 /\ b ≠ s.heap.objs.size:=fun b u e=>⟨fun z=>(by rw [z,nC] at e; cases e),fun z=>(by rw [z,nD] at e; cases e)⟩;refine ⟨?_,nD⟩;have B:=Ic.base;have un:Un (frs X.stack) fp H (upd H' s.heap.objs.size (.lst ys)) s.heap h':=by
  refine ⟨fun b o e q hb hx=>hs.extBut b o (lt1 e).1 (B.keep b o e q hb hx),fun b o e q hb hx=>?_,fun b o e q hx=>?_,fun b o e hx=>?_,fun b xs e=>?_,fun b o xs e=>?_,fun b ps e=>?_⟩
  ·obtain ⟨sl,e1⟩:=B.slot b o e q hb hx;exact ⟨sl,hs.extBut b _ (lt1 e).1 e1⟩
  ·rw [zZ (lt1 e).2]; exact B.free b o e q hx
  ·obtain ⟨o',e1⟩:=B.there b o e hx;exact ⟨o',hs.extBut b _ (lt1 e).1 e1⟩
  ·have q:=B.tups b xs e;rw [zZ (tr b _ q).2]; exact q
  ·have q:=B.frzs b o xs e;rw [zZ (tr b _ q).2]; exact q
  ·obtain ⟨more,q⟩:=B.tbls b ps e;exact ⟨more,by rw [zZ (tr b _ q).2]; exact q⟩
 have hok:HOk X.prog X.w (upd H' s.heap.objs.size (.lst ys)) h':=fun b u e=>by
  by_cases hb:b = s.heap.objs.size
  ·subst hb;rw [zAX] at e; cases e;exact ⟨hz,its,n,rv,eD'⟩
  ·rw [zZ hb] at e;refine (Ic.hok b u e).stay (fun c v hc q=>hs.extBut c v ?_ q) (fun c q=>by rw [zZ (tr c _ q).2]; exact q) fun c xs q=>by rw [zZ (tr c _ q).2]; exact q
   rcases hc with z | z
   ·rw [z]; exact (tr b u e).1
   ·exact (tr c _ z).1
 exact I.call' (s':={ s' with heap:=h' }) (ch:=fp) Ic.os un hok Ic.bare fun b hb=>⟨(hf b hb).2.2.2.1,(hf b hb).2.1,(hf b hb).2.2.2.2.1,(hf b hb).2.2.2.2.2⟩
end
section
variable {X:Cx} {scope:Scope} {tg elt iter:Expr} {ifs:List Expr} {pos:Pos} {own:List Nat} {wi:TI} {g:TG} {tc:TT} {te:TE}
structure CompParts (X:Cx) (scope:Scope) (tg:Expr) (ifs:List Expr) (elt:Expr) (g:TG) (tc:TT) (te:TE):Prop where
 g:∀ zB cl s H fp,PG (zAf X zB scope cl s H fp) tg g
 c:∀ zB cl s H fp,zMt (zAf X zB scope cl s H fp) ifs tc
 e:∀ zB cl s H fp,PE (zAf X zB scope cl s H fp) elt te
theorem CompScope.closure (S:CompScope X scope) (I:Inv X zB σ H s) :
  ∃ cl,closureFor scope X.env = pure cl /\ (∀ x c,cl.lookup x = some c -> X.env.cells.lookup x = some c) /\ ∀ y ∈ scope.names,y.2 = .free -> (cl.lookup y.1).isSome = true :=
 zGX fun y hy hk=>I.ok.has y.1 (S.free y hy hk)
theorem zPA (C:CompIn X scope own) (hcalm:X.calm = true) (hi:PI X tg iter wi) (p:CompParts X scope tg ifs elt g tc te) (hs:∀ x,foldedSetIterable iter X.env x = pure x:=by intro _; rfl) :
  PE X (.ListComp elt [⟨tg,iter,ifs,0⟩] scope pos) (zNg own wi g tc te):=by
 intro zB s σ H Q I h;obtain ⟨cl,hcl,c1,c2⟩:=C.sc.closure I;rw [eval_ListComp];refine wpAny_comprehension_free (use:=none) rfl hs hcl C.sc.kind C.sc.names (thn (hi zB s σ H _ I h) fun v s1 h1=>thn h1 fun itv s2 h2=>?_);obtain ⟨it,fp,tn,J,H2,e,I2,T,st2,f2,W,⟨m0,w0⟩,turn⟩:=h2;subst e;refine zGL C hcalm I2 T st2 f2 c1 c2 (p.g _ _ _ _ _) (p.c _ _ _ _ _) (p.e _ _ _ _ _) (RR:=fun acc C r s'=>compPost (model X.prog X.w) X.A X.xe none (EP X zB σ Q) acc C r s') (QQ:=fun ys H=>∀ D,H D = none -> Q (.ref D) (upd H D (.lst ys))) w0 turn ?_;intro σc H' s' its n ys Ic rv hz qq;obtain ⟨m,hn,_⟩:=Ic.loc;refine ⟨m,hn,fun h' hs'=>?_⟩;obtain ⟨J',nD⟩:=zJE I2 f2 Ic rv hz hs';exact ⟨.ref s2.heap.objs.size,_,J',rfl,qq _ nD⟩
theorem zJk (hN:X.N.Nodup) (hi':X.N[i]? = some x) (hx:Loc X.env.scope x) (hfn:X.fn x = true \/ X.env.scope.names.lookup x = some .local)
  (C:CompIn X scope own) (hcalm:X.calm = true) (hi:PI X tg iter wi) (p:CompParts X scope tg ifs elt g tc te)
  (hsw:swapsWith (.ListComp elt [⟨tg,iter,ifs,0⟩] scope pos) (some (.Name x pos')) pos''.line X.env = pure true) (hs:∀ x,foldedSetIterable iter X.env x = pure x:=by intro _; rfl) :
  PS X (.Assign [.Name x pos'] (.ListComp elt [⟨tg,iter,ifs,0⟩] scope pos) pos'') (zOR (zNg own wi g tc te) (zDy i)):=by
 intro zB s σ H D I h;obtain ⟨cl,hcl,c1,c2⟩:=C.sc.closure I;rw [exec_Assign_Name_used _ _ _ _ hsw];refine zTK (wpAny_standAt (zTK ?_));show wpAny _ X.A (do let _ <- comprehension (.ListComp elt [⟨tg,iter,ifs,0⟩] scope pos) scope X.env _ (newList []) false (eval iter X.env) (some (assign (.Name x pos') X.env))) _ _ s
 refine zTK (zTq (wpAny_comprehension_free (use:=some (assign (.Name x pos') X.env)) (Q:=fun _ s'=>SP X zB D .next s') rfl hs hcl C.sc.kind C.sc.names
  (thn (hi zB s σ H _ I h) fun v s1 h1=>thn h1 fun itv s2 h2=>?_)) (fun _ s' hq=>zTM (zTM hq)) fun _ _ e=>e)
 obtain ⟨it,fp,tn,J,H2,e,I2,T,st2,f2,W,⟨m0,w0⟩,turn⟩:=h2;subst e
 refine zGL C hcalm I2 T st2 f2 c1 c2 (p.g _ _ _ _ _) (p.c _ _ _ _ _) (p.e _ _ _ _ _) (RR:=fun acc C r s'=>compPost (model X.prog X.w) X.A X.xe (some (assign (.Name x pos') X.env)) (fun _ s'=>SP X zB D .next s') acc C r s')
  (QQ:=fun ys H=>∀ E,H E = none -> zDy i (.ref E) σ (upd H E (.lst ys)) D.nx) w0 turn ?_
 intro σc H' s' its n ys Ic rv hz qq;obtain ⟨m,hn,_⟩:=Ic.loc;obtain ⟨J',nD⟩:=zJE (h':=s'.heap) I2 f2 Ic rv hz (.refl ..);obtain ⟨oC,es,ep,hoC,hdC,r1,r2⟩:=id hn;have nC:upd H' s2.heap.objs.size (.lst ys) (s2.heap.objs.size + 1) = none:=by rw [zZ (Nat.ne_of_gt (Nat.lt_succ_self _))]; exact Ic.free
 have K':Inv X (zB ++ [(s2.heap.objs.size + 1,oC)]) σ (upd H' s2.heap.objs.size (.lst ys)) s':=J'.pins_of fun q hq=>by
  rcases zTk.mp hq with z | z
  ·exact J'.pin q (zTe _ z)
  ·have e:q = (s2.heap.objs.size + 1,oC):=by simpa using z
   subst e;refine ⟨hoC,nC,Nat.ne_of_gt (Nat.lt_succ_of_lt I2.lt),I2.nofs (zU7 _),fun v z=>?_⟩;have z':oC.data = .cell v:=z;rw [hdC] at z'; cases z'
 show wpAny _ X.A (assign (.Name x pos') X.env (.ref s2.heap.objs.size)) _ _ _;refine thn (zK6 hN hi' hx hfn _ s' σ _ (.ref s2.heap.objs.size) (.ref s2.heap.objs.size) _ K' rfl (qq _ nD)) fun _ s'' ⟨σ'',H'',I'',q''⟩=>?_;obtain ⟨eC,_⟩:=I''.pin (s2.heap.objs.size + 1,oC) (by simp);refine ⟨m,⟨oC,es,ep,eC,hdC,r1,r2⟩,fun h' hs'=>⟨σ'',H'',?_,q''⟩⟩;have I3:Inv X zB σ'' H'' s'':=I''.unpinned;obtain ⟨_,nC'',neC,_,_⟩:=I''.pin (s2.heap.objs.size + 1,oC) (by simp);refine I3.turned (t':=s''.toks) (it:=s2.heap.objs.size + 1) (fun b o hb e=>hs'.extBut b o hb e) nC'' neC (.inr (zTl I2.sz (zU7 _))) (fun x c e z=>?_) (fun q hq z=>?_)
 ·obtain ⟨v,o,ho,hd⟩:=I3.cell x c e;rw [z,eC] at ho; cases ho;rw [hdC] at hd; cases hd
 ·obtain ⟨e,_⟩:=I2.pin q hq;exact zTf (Nat.lt_succ_of_lt (zTV e)) z
end
end L2
namespace L3
open PySem PySem.Spec PyProof.Rows L2
abbrev Sv:=List (Option V)
def zJI (H:Hp) (v:Value):Prop:=∃ a oc vs q t,v = .ref a /\ H a = some (.frz oc (.ext fun _=>True)) /\ oc.data = .fields vs /\ vs[1]? = some (.str q t)
structure Lm where
 f:Addr
 c:Value
 us:List V
set_option genInjectivity true in
inductive D where
 | non | bl (b:Bool) | int (i:Int) | str (x:Str) | tup (xs:List D) | ref (n:Nat) | fn (l:Lm) (ds:List D)
set_option genInjectivity true in
inductive MO where
 | lst (xs:List D) | fro (xs:List D) | dict (kvs:List (D × D)) | dicT (kvs:List (D × D)) | set (xs:List D) | froT (kvs:List (D × D)) | froK (kvs:List (D × D))
mutual
def Rep (L:List Addr) (H:Hp):D -> V -> Prop
 | .non,v=>v = .non
 | .bl b,v=>v = .bl b
 | .int i,v=>v = .int i
 | .str x,v=>v = .str x
 | .tup ds,v=>∃ a vs,v = .ref a /\ H a = some (.tup vs) /\ zL L H ds vs
 | .ref n,v=>∃ a,v = .ref a /\ L[n]? = some a
 | .fn l ds,v=>v = .ref l.f /\ zJI H l.c /\ zL L H ds l.us
def zL (L:List Addr) (H:Hp):List D -> List V -> Prop
 | [],vs=>vs = []
 | d :: ds,vs=>∃ v r,vs = v :: r /\ Rep L H d v /\ zL L H ds r
end
theorem zL.length:∀ {ds:List D} {vs:List V},zL L H ds vs -> vs.length = ds.length
 | [],_,h=>by unfold zL at h; subst h; rfl
 | d :: ds,_,h=>by
  unfold zL at h;obtain ⟨v,r,rfl,_,h2⟩:=h;simp [zL.length h2]
theorem zL.nil:zL L H [] []:=by unfold zL; rfl
theorem zL.cons (h:Rep L H d v) (t:zL L H ds vs):zL L H (d :: ds) (v :: vs):=by
 unfold zL; exact ⟨v,vs,rfl,h,t⟩
theorem zL.get:∀ {ds:List D} {vs:List V} {i:Nat} {d:D},zL L H ds vs -> ds[i]? = some d -> ∃ v,vs[i]? = some v /\ Rep L H d v
 | [],_,_,_,_,e=>by simp at e
 | d :: ds,_,0,d',h,e=>by
  unfold zL at h;obtain ⟨v,r,rfl,h1,h2⟩:=h;simp at e; subst e;exact ⟨v,rfl,h1⟩
 | d :: ds,_,i + 1,d',h,e=>by
  unfold zL at h;obtain ⟨v,r,rfl,h1,h2⟩:=h;obtain ⟨u,e1,e2⟩:=zL.get (i:=i) h2 (by simpa using e);exact ⟨u,by simpa using e1,e2⟩
theorem zL.app:∀ {ds es:List D} {vs ws:List V},zL L H ds vs -> zL L H es ws -> zL L H (ds ++ es) (vs ++ ws)
 | [],_,_,_,h,t=>by unfold zL at h; subst h; exact t
 | d :: ds,_,_,_,h,t=>by
  unfold zL at h;obtain ⟨v,r,rfl,h1,h2⟩:=h;exact .cons h1 (zL.app h2 t)
theorem zL.set (h:Rep L H d v):∀ {ds:List D} {vs:List V} (i:Nat),zL L H ds vs -> zL L H (ds.set i d) (vs.set i v)
 | [],_,_,t=>by unfold zL at t; subst t; exact .nil
 | _ :: _,_,0,t=>by
  unfold zL at t;obtain ⟨v',r,rfl,h1,h2⟩:=t;exact .cons h h2
 | _ :: _,_,i + 1,t=>by
  unfold zL at t;obtain ⟨v',r,rfl,h1,h2⟩:=t;exact .cons h1 (zL.set h i h2)
theorem zL.drop:∀ {ds:List D} {vs:List V} (n:Nat),zL L H ds vs -> zL L H (ds.drop n) (vs.drop n)
 | _,_,0,t=>t
 | [],_,n + 1,t=>by unfold zL at t; subst t; exact .nil
 | _ :: _,_,n + 1,t=>by
  unfold zL at t;obtain ⟨v',r,rfl,h1,h2⟩:=t;exact zL.drop n h2
theorem zL.take:∀ {ds:List D} {vs:List V} (n:Nat),zL L H ds vs -> zL L H (ds.take n) (vs.take n)
 | _,_,0,t=> .nil
 | [],_,n + 1,t=>by unfold zL at t; subst t; exact .nil
 | _ :: _,_,n + 1,t=>by
  unfold zL at t;obtain ⟨v',r,rfl,h1,h2⟩:=t;exact .cons h1 (zL.take n h2)
theorem zL.eraseIdx:∀ {ds:List D} {vs:List V} (n:Nat),zL L H ds vs -> zL L H (ds.eraseIdx n) (vs.eraseIdx n)
 | [],_,n,t=>by unfold zL at t; subst t; exact .nil
 | _ :: _,_,0,t=>by
  unfold zL at t;obtain ⟨v',r,rfl,h1,h2⟩:=t;exact h2
 | _ :: _,_,n + 1,t=>by
  unfold zL at t;obtain ⟨v',r,rfl,h1,h2⟩:=t;exact .cons h1 (zL.eraseIdx n h2)
theorem zJI.keep (h:∀ a o u,H a = some (.frz o u) -> H' a = some (.frz o u)) (x:zJI H v):zJI H' v :=
 let ⟨a,oc,vs,q,t,e1,e2,r⟩:=x; ⟨a,oc,vs,q,t,e1,h _ _ _ e2,r⟩
def zFV (H:Hp) (ps:Array Value):Prop:=PySem.TriplesOk ps.toList /\ ∀ pos v,codeAmong pos ps.toList = some v -> zJI H v
theorem zFV.keep (h:∀ a o u,H a = some (.frz o u) -> H' a = some (.frz o u)) (g:zFV H ps):zFV H' ps :=
 ⟨g.1,fun pos v e=>(g.2 pos v e).keep h⟩
abbrev NT (o:HO):Prop:=∀ ps,o ≠ .tbl ps
structure Stp (L:List Addr) (H:Hp) (L':List Addr) (H':Hp):Prop where
 pre:∃ N,L' = L ++ N
 new:∀ a ∈ L',a ∈ L \/ H a = none
 old:∀ a o,H a = some o -> a ∉ L -> NT o -> H' a = some o
 tup:∀ a xs,H a = some (.tup xs) -> H' a = some (.tup xs)
 frz:∀ a o u,H a = some (.frz o u) -> H' a = some (.frz o u)
 tbl:∀ a ps,H a = some (.tbl ps) -> ∃ ps',H' a = some (.tbl ps') /\ (zFV H ps -> zFV H' ps')
theorem Stp.refl (L:List Addr) (H:Hp):Stp L H L H:=⟨⟨[],by simp⟩,fun _ h=> .inl h,fun _ _ h _ _=>h,fun _ _ h=>h,fun _ _ _ h=>h,fun _ ps h=>⟨ps,h,id⟩⟩
theorem zEZ (hf:∀ a o u,H a = some (.frz o u) -> H' a = some (.frz o u)) (h:∀ a ps,H a = some (.tbl ps) -> H' a = some (.tbl ps)) :
  ∀ a ps,H a = some (.tbl ps) -> ∃ ps',H' a = some (.tbl ps') /\ (zFV H ps -> zFV H' ps'):=fun a ps e=>⟨ps,h a ps e,.keep hf⟩
theorem Stp.trans (a:Stp L H L1 H1) (b:Stp L1 H1 L2 H2):Stp L H L2 H2:=by
 obtain ⟨N,rfl⟩:=a.pre;obtain ⟨N',rfl⟩:=b.pre;have back:∀ c,c ∉ L -> H1 c = none -> H c = none:=fun c hc h1=>by
  cases q:H c with
  | none=>rfl
  | some o=>
   by_cases z:NT o
   ·rw [a.old c o q hc z] at h1; cases h1
   ·obtain ⟨ps,z⟩:=Classical.not_forall.mp z;rw [Classical.not_not.mp z] at q;obtain ⟨ps',e,_⟩:=a.tbl c ps q;rw [e] at h1; cases h1
 refine ⟨⟨N ++ N',by simp⟩,fun c hc=>?_,fun c o e hc nt=>?_,fun c xs e=>b.tup c xs (a.tup c xs e),fun c o u e=>b.frz c o u (a.frz c o u e),fun c ps e=>?_⟩
 ·by_cases hL:c ∈ L
  ·exact .inl hL
  ·rcases b.new c hc with z | z
   ·exact a.new c z
   ·exact .inr (back c hL z)
 ·refine b.old c o (a.old c o e hc nt) (fun z=>?_) nt;rcases a.new c z with q | q
  ·exact hc q
  ·rw [q] at e; cases e
 ·obtain ⟨p1,e1,g1⟩:=a.tbl c ps e;obtain ⟨p2,e2,g2⟩:=b.tbl c p1 e1;exact ⟨p2,e2,fun g=>g2 (g1 g)⟩
theorem Stp.grow (h:∀ a o,H a = some o -> H' a = some o):Stp L H L H':=⟨⟨[],by simp⟩,fun _ h=> .inl h,fun a o e _ _=>h a o e,fun a _ e=>h a _ e,fun a _ _ e=>h a _ e,zEZ (fun a _ _ e=>h a _ e) fun a _ e=>h a _ e⟩
theorem Stp.upd (h:H p = none):Stp L H L (upd H p o):=.grow fun a u e=>by rw [zZ (zAG e h)]; exact e
theorem zDi {L N:List Addr} {n:Nat} {a:Addr} (h:L[n]? = some a):(L ++ N)[n]? = some a:=by
 rw [zTR (zTN.mp h).1]; exact h
mutual
theorem Rep.stp {L L':List Addr} {H H':Hp} (s:Stp L H L' H'):∀ {d:D} {v:V},Rep L H d v -> Rep L' H' d v
 | .non,_,h=>by unfold Rep at h ⊢; exact h
 | .bl _,_,h=>by unfold Rep at h ⊢; exact h
 | .int _,_,h=>by unfold Rep at h ⊢; exact h
 | .str _,_,h=>by unfold Rep at h ⊢; exact h
 | .tup ds,_,h=>by
  unfold Rep at h ⊢;obtain ⟨a,vs,rfl,e,r⟩:=h;exact ⟨a,vs,rfl,s.tup a vs e,zL.stp s r⟩
 | .ref n,_,h=>by
  unfold Rep at h ⊢;obtain ⟨a,rfl,e⟩:=h;obtain ⟨N,rfl⟩:=s.pre;exact ⟨a,rfl,zDi e⟩
 | .fn _ ds,_,h=>by
  unfold Rep at h ⊢;exact ⟨h.1,h.2.1.keep s.frz,zL.stp s h.2.2⟩
theorem zL.stp (s:Stp L H L' H'):∀ {ds:List D} {vs:List V},zL L H ds vs -> zL L' H' ds vs
 | [],_,h=>by unfold zL at h ⊢; exact h
 | d :: ds,_,h=>by
  unfold zL at h ⊢;obtain ⟨v,r,rfl,h1,h2⟩:=h;exact ⟨v,r,rfl,Rep.stp s h1,zL.stp s h2⟩
end
def zBe:D -> Option Key
 | .int i=>some (.inl i)
 | .str x=>some (.inr x)
 | _=>none
def zIP:List D -> Option (List Key)
 | []=>some []
 | d :: r=>match zBe d,zIP r with
  | some k,some ks=>some (k :: ks)
  | _,_=>none
def tkD:D -> Option (List Key)
 | .tup ds=>zIP ds
 | _=>none
def zAh {κ:Type} (kf:D -> Option κ) (L:List Addr) (H:Hp):List (D × D) -> List (κ × V) -> Prop
 | [],vs=>vs = []
 | p :: r,vs=>∃ k v r',vs = (k,v) :: r' /\ kf p.1 = some k /\ Rep L H p.2 v /\ zAh kf L H r r'
theorem zAh.stp {κ:Type} {kf:D -> Option κ} {L L':List Addr} {H H':Hp} (s:Stp L H L' H'):∀ {ps:List (D × D)} {vs:List (κ × V)},zAh kf L H ps vs -> zAh kf L' H' ps vs
 | [],_,h=>h
 | p :: r,_,h=>by
  obtain ⟨k,v,r',rfl,e,h1,h2⟩:=h;exact ⟨k,v,r',rfl,e,h1.stp s,zAh.stp s h2⟩
theorem zAh.length {κ:Type} {kf:D -> Option κ} {L:List Addr} {H:Hp}:∀ {ps:List (D × D)} {vs:List (κ × V)},zAh kf L H ps vs -> vs.length = ps.length
 | [],_,h=>by unfold zAh at h; subst h; rfl
 | p :: r,_,h=>by
  obtain ⟨k,v,r',rfl,e,h1,h2⟩:=h;simp [zAh.length h2]
def zE4 (K:PySem.W.Frag) (L:List Addr) (H:Hp) (a:Addr):MO -> Prop
 | .lst xs=>∃ vs,H a = some (.lst vs) /\ zL L H xs vs
 | .fro xs=>∃ o vs,H a = some (.frz o (.lst vs)) /\ zL L H xs vs
 | .dict ps=>∃ vs,H a = some (.dK vs) /\ zAh zBe L H ps vs
 | .dicT ps=>∃ vs,H a = some (.dT vs) /\ zAh tkD L H ps vs
 | .set _=>∃ o u,H a = some (.frz o u)
 | .froT ps=>∃ o vs,H a = some (.frz o (.dT vs)) /\ zAh tkD L H ps vs
 | .froK ps=>∃ o vs,H a = some (.frz o (.dK vs)) /\ zAh zBe L H ps vs
theorem zE4.there {K:PySem.W.Frag} {L:List Addr} {H:Hp} {a:Addr} {m:MO} (h:zE4 K L H a m):∃ o,H a = some o:=by
 cases m with
 | lst xs=>obtain ⟨vs,e,_⟩:=h; exact ⟨_,e⟩
 | fro xs=>obtain ⟨o,vs,e,_⟩:=h; exact ⟨_,e⟩
 | dict ps=>obtain ⟨vs,e,_⟩:=h; exact ⟨_,e⟩
 | dicT ps=>obtain ⟨vs,e,_⟩:=h; exact ⟨_,e⟩
 | set _=>obtain ⟨o,u,e⟩:=h; exact ⟨_,e⟩
 | froT ps=>obtain ⟨o,vs,e,_⟩:=h; exact ⟨_,e⟩
 | froK ps=>obtain ⟨o,vs,e,_⟩:=h; exact ⟨_,e⟩
theorem zE4.stp {K:PySem.W.Frag} {L L':List Addr} {H H':Hp} {a:Addr} {m:MO} (s:Stp L H L' H') (hk:∀ o,NT o -> H a = some o -> H' a = some o) (h:zE4 K L H a m):zE4 K L' H' a m:=by
 cases m with
 | lst xs=>obtain ⟨vs,e,r⟩:=h; exact ⟨vs,hk _ (by intro _ z; cases z) e,r.stp s⟩
 | fro xs=>obtain ⟨o,vs,e,r⟩:=h; exact ⟨o,vs,hk _ (by intro _ z; cases z) e,r.stp s⟩
 | dict ps=>obtain ⟨vs,e,r⟩:=h; exact ⟨vs,hk _ (by intro _ z; cases z) e,r.stp s⟩
 | dicT ps=>obtain ⟨vs,e,r⟩:=h; exact ⟨vs,hk _ (by intro _ z; cases z) e,r.stp s⟩
 | set _=>obtain ⟨o,u,e⟩:=h; exact ⟨o,u,hk _ (by intro _ z; cases z) e⟩
 | froT ps=>obtain ⟨o,vs,e,r⟩:=h; exact ⟨o,vs,hk _ (by intro _ z; cases z) e,r.stp s⟩
 | froK ps=>obtain ⟨o,vs,e,r⟩:=h; exact ⟨o,vs,hk _ (by intro _ z; cases z) e,r.stp s⟩
def zI2:List Str:=["levels", "least_word", "word_into", "shows_least", "shows_into"]
def zLw (K:PySem.W.Frag) (H:Hp):Prop:=∀ x ∈ zI2,∀ c P,PySem.W.tabIn K x = some (c,P) -> ∃ ps,H P = some (.tbl ps) /\ zFV H ps
theorem zLw.stp {K:PySem.W.Frag} {L L':List Addr} {H H':Hp} (s:Stp L H L' H') (t:zLw K H):zLw K H':=fun x hx c P e=>
 let ⟨ps,e1,g⟩:=t x hx c P e;let ⟨ps',e2,g2⟩:=s.tbl P ps e1
 ⟨ps',e2,g2 g⟩
structure Cor (K:PySem.W.Frag) (L:List Addr) (M:List MO) (H:Hp):Prop where
 len:L.length = M.length
 nd:L.Nodup
 obj:∀ (n:Nat) a m,L[n]? = some a -> M[n]? = some m -> zE4 K L H a m
 tab:zLw K H
def zA0 (L:List Addr) (H:Hp) (σ:List (Option D)) (τ:Sv):Prop:=τ.length = σ.length /\ ∀ (i:Nat) d,σ[i]? = some (some d) -> ∃ v,τ[i]? = some (some v) /\ Rep L H d v
theorem zA0.stp (s:Stp L H L' H') (h:zA0 L H σ τ):zA0 L' H' σ τ :=
 ⟨h.1,fun i d e=>let ⟨v,e1,r⟩:=h.2 i d e; ⟨v,e1,r.stp s⟩⟩
theorem Cor.tracked {K:PySem.W.Frag} {L:List Addr} {M:List MO} {H:Hp} (c:Cor K L M H) {a:Addr} (h:a ∈ L):∃ o,H a = some o:=by
 obtain ⟨n,hn⟩:=List.getElem?_of_mem h;have hl:n < M.length:=by rw [<- c.len]; exact (zTN.mp hn).1
 have m:=c.obj n a M[n] hn (zTO hl);exact m.there
theorem Cor.grow {K:PySem.W.Frag} {L:List Addr} {M:List MO} {H H':Hp} (c:Cor K L M H) (h:∀ a o,H a = some o -> H' a = some o):Cor K L M H':=by
 exact ⟨c.len,c.nd,fun n a m e1 e2=>(c.obj n a m e1 e2).stp (.grow h) fun o _ e=>h a o e,c.tab.stp (Stp.grow (L:=L) h)⟩
theorem Cor.upd {K:PySem.W.Frag} {L:List Addr} {M:List MO} {H:Hp} {p:Addr} {o:HO} (c:Cor K L M H) (h:H p = none):Cor K L M (upd H p o):=c.grow fun a u e=>by rw [zZ (zAG e h)]; exact e
theorem Cor.write {K:PySem.W.Frag} {L:List Addr} {M:List MO} {H:Hp} {n:Nat} {p:Addr} {xs xs':List D} {vs':List V} (c:Cor K L M H) (h1:L[n]? = some p) (h2:M[n]? = some (.lst xs)) (r:zL L H xs' vs') :
  Cor K L (M.set n (.lst xs')) (L2.upd H p (.lst vs')) /\ Stp L H L (L2.upd H p (.lst vs')):=by
 obtain ⟨vs,hp,_⟩:=c.obj n p _ h1 h2;have st:Stp L H L (L2.upd H p (.lst vs')):=by
  refine ⟨⟨[],by simp⟩,fun a ha=> .inl ha,fun a o e ha _=>?_,fun a o e=>?_,fun a o u e=>?_,zEZ (fun a o u e=>?_) fun a ps e=>?_⟩
  ·rw [zZ (show a ≠ p from fun z=>ha (by rw [z]; exact zUG h1))]; exact e
  all_goals (rw [zZ (zGw e hp (by intro z; cases z))]; exact e)
 refine ⟨⟨by simp [c.len],c.nd,fun k a m e1 e2=>?_,c.tab.stp st⟩,st⟩;rw [zUy] at e2;split at e2
 ·rename_i hk;subst hk;rw [h1] at e1; cases e1;split at e2
  ·cases e2; exact ⟨vs',zAX,r.stp st⟩
  ·cases e2
 ·rename_i hk;have hne:a ≠ p:=fun z=>hk (by
   subst z;exact (List.getElem?_inj (zTN.mp h1).1 c.nd).mp (h1.trans e1.symm))
  exact (c.obj k a m e1 e2).stp st fun o _ e=>by rw [zZ hne]; exact e
set_option genInjectivity true in
inductive EV where
 | dat (d:D) | fl (xs:List D)
def zd (H0:Hp) (L:List Addr) (H:Hp):EV -> V -> Prop
 | .dat d,v=>Rep L H d v
 | .fl xs,v=>∃ p vs,v = .ref p /\ H0 p = none /\ H p = some (.lst vs) /\ p ∉ L /\ zL L H xs vs
abbrev Sd:=List (Option D)
abbrev Mem:=List MO
abbrev FE:=Sd -> Mem -> Option (EV × Mem)
abbrev FD:=Sd -> Mem -> Option (D × Mem)
abbrev FT:=Sd -> Mem -> Option (Bool × Mem)
abbrev FA:=Sd -> Mem -> Option (List D × Mem)
theorem Stp.there (s:Stp L H L' H') (h:H p = some o) (hp:p ∉ L):∃ o',H' p = some o':=by
 by_cases z:NT o
 ·exact ⟨o,s.old p o h hp z⟩
 ·obtain ⟨ps,z⟩:=Classical.not_forall.mp z;rw [Classical.not_not.mp z] at h;obtain ⟨ps',e,_⟩:=s.tbl p ps h;exact ⟨_,e⟩
theorem Stp.out (s:Stp L H L' H') (h:H p = some o) (hp:p ∉ L):p ∉ L':=fun z=>by
 rcases s.new p z with q | q
 ·exact hp q
 ·rw [h] at q; cases q
theorem zd.stp (s:Stp L H L' H') (h:zd H0 L H e v):zd H0 L' H' e v:=by
 cases e with
 | dat d=>exact Rep.stp s h
 | fl xs=>
  obtain ⟨p,vs,rfl,e0,e1,e2,r⟩:=h;exact ⟨p,vs,rfl,e0,s.old p _ e1 e2 (by intro _ z; cases z),s.out e1 e2,r.stp s⟩
theorem zd.back {H0 H1:Hp} {L0 L1 L:List Addr} {H:Hp} (s:Stp L0 H0 L1 H1) {M:List MO} {K:PySem.W.Frag} (c:Cor K L0 M H0) {e:EV} {v:V} (h:zd H1 L H e v) (hL:∀ a ∈ L1,a ∈ L):zd H0 L H e v:=by
 cases e with
 | dat d=>exact h
 | fl xs=>
  obtain ⟨p,vs,rfl,e0,e1,e2,r⟩:=h;refine ⟨p,vs,rfl,?_,e1,e2,r⟩;cases q:H0 p with
  | none=>rfl
  | some o=>
   by_cases hp:p ∈ L0
   ·obtain ⟨N,hN⟩:=s.pre;exact absurd (hL p (by rw [hN]; exact zUe _ hp)) e2
   ·obtain ⟨o',z⟩:=s.there q hp;rw [z] at e0; cases e0
section
variable (K:PySem.W.Frag)
def trE (f:FE):TE:=fun τ H Q=>∃ L σ M d M',Cor K L M H /\ zA0 L H σ τ /\ f σ M = some (d,M') /\ ∀ L' H' v,Stp L H L' H' -> Cor K L' M' H' -> zd H L' H' d v -> Q v H'
def trD (f:FD):TE:=fun τ H Q=>∃ L σ M d M',Cor K L M H /\ zA0 L H σ τ /\ f σ M = some (d,M') /\ ∀ L' H' v,Stp L H L' H' -> Cor K L' M' H' -> Rep L' H' d v -> Q v H'
def trT (f:FT):TT:=fun τ H Q=>∃ L σ M d M',Cor K L M H /\ zA0 L H σ τ /\ f σ M = some (d,M') /\ ∀ L' H',Stp L H L' H' -> Cor K L' M' H' -> Q d H'
def trA (f:FA):TA:=fun τ H Q=>∃ L σ M ds M',Cor K L M H /\ zA0 L H σ τ /\ f σ M = some (ds,M') /\ ∀ L' H' vs,Stp L H L' H' -> Cor K L' M' H' -> zL L' H' ds vs -> Q vs H'
end
section
variable {X:Cx} {e:Expr}
theorem PE.imp (h:PE X e t) (hi:∀ τ H Q,t' τ H Q -> t τ H Q):PE X e t':=fun zB s σ H Q I q=>h zB s σ H Q I (hi _ _ _ q)
theorem PT.imp (h:PT X e t) (hi:∀ τ H Q,t' τ H Q -> t τ H Q):PT X e t':=fun zB s σ H Q I q=>h zB s σ H Q I (hi _ _ _ q)
theorem PS.imp {st:Stmt} {t t':TS} (h:PS X st t) (hi:∀ D τ H,t' D τ H -> t D τ H):PS X st t':=fun zB s σ H D I q=>h zB s σ H D I (hi _ _ _ q)
theorem PSs.imp {st:List Stmt} {t t':TS} (h:PSs X st t) (hi:∀ D τ H,t' D τ H -> t D τ H):PSs X st t':=fun zB s σ H D I q=>h zB s σ H D I (hi _ _ _ q)
structure QE (X:Cx) (e:Expr) (f:FE):Prop where
 un:PE X e (trE X.K f)
structure QD (X:Cx) (e:Expr) (f:FD):Prop where
 un:PE X e (trD X.K f)
structure QT (X:Cx) (e:Expr) (f:FT):Prop where
 un:PT X e (trT X.K f)
structure QA (X:Cx) (es:List Expr) (f:FA):Prop where
 un:PA X es (trA X.K f)
def toD (f:FE):FD:=fun σ M=>match f σ M with
 | some (.dat d,M')=>some (d,M')
 | some (.fl xs,M')=>some (.ref M'.length,M' ++ [.lst xs])
 | none=>none
mutual
theorem Rep.more (N:List Addr):∀ {d:D} {v:V},Rep L H d v -> Rep (L ++ N) H d v
 | .non,_,h=>by unfold Rep at h ⊢; exact h
 | .bl _,_,h=>by unfold Rep at h ⊢; exact h
 | .int _,_,h=>by unfold Rep at h ⊢; exact h
 | .str _,_,h=>by unfold Rep at h ⊢; exact h
 | .tup ds,_,h=>by
  unfold Rep at h ⊢;obtain ⟨a,vs,rfl,e,r⟩:=h;exact ⟨a,vs,rfl,e,zL.more N r⟩
 | .ref n,_,h=>by
  unfold Rep at h ⊢;obtain ⟨a,rfl,e⟩:=h;exact ⟨a,rfl,zDi e⟩
 | .fn _ ds,_,h=>by
  unfold Rep at h ⊢;exact ⟨h.1,h.2.1,zL.more N h.2.2⟩
theorem zL.more (N:List Addr):∀ {ds:List D} {vs:List V},zL L H ds vs -> zL (L ++ N) H ds vs
 | [],_,h=>by unfold zL at h ⊢; exact h
 | d :: ds,_,h=>by
  unfold zL at h ⊢;obtain ⟨v,r,rfl,h1,h2⟩:=h;exact ⟨v,r,rfl,Rep.more N h1,zL.more N h2⟩
end
theorem zAh.more {κ:Type} {kf:D -> Option κ} {L:List Addr} {H:Hp} (N:List Addr):∀ {ps:List (D × D)} {vs:List (κ × V)},zAh kf L H ps vs -> zAh kf (L ++ N) H ps vs
 | [],_,h=>h
 | p :: r,_,h=>by
  obtain ⟨k,v,r',rfl,e,h1,h2⟩:=h;exact ⟨k,v,r',rfl,e,h1.more N,zAh.more N h2⟩
theorem zE4.more {K:PySem.W.Frag} {L:List Addr} {H:Hp} {a:Addr} {m:MO} (N:List Addr) (h:zE4 K L H a m):zE4 K (L ++ N) H a m:=by
 cases m with
 | lst xs=>obtain ⟨vs,e,r⟩:=h; exact ⟨vs,e,r.more N⟩
 | fro xs=>obtain ⟨o,vs,e,r⟩:=h; exact ⟨o,vs,e,r.more N⟩
 | dict ps=>obtain ⟨vs,e,r⟩:=h; exact ⟨vs,e,r.more N⟩
 | dicT ps=>obtain ⟨vs,e,r⟩:=h; exact ⟨vs,e,r.more N⟩
 | set _=>exact h
 | froT ps=>obtain ⟨o,vs,e,r⟩:=h; exact ⟨o,vs,e,r.more N⟩
 | froK ps=>obtain ⟨o,vs,e,r⟩:=h; exact ⟨o,vs,e,r.more N⟩
theorem zPn {K:PySem.W.Frag} {L L':List Addr} {M':List MO} {H H':Hp} {p:Addr} {xs:List D} {vs:List V} (s:Stp L H L' H') (c:Cor K L' M' H') (h0:H p = none) (h1:H' p = some (.lst vs)) (h2:p ∉ L') (r:zL L' H' xs vs) :
  Cor K (L' ++ [p]) (M' ++ [.lst xs]) H' /\ Stp L H (L' ++ [p]) H':=by
 refine ⟨⟨by simp [c.len],?_,fun n a m e1 e2=>?_,c.tab⟩,?_⟩
 ·rw [List.nodup_append];exact ⟨c.nd,by simp,fun a ha b hb z=>by
   have:b = p:=by simpa using hb
   subst this; subst z; exact h2 ha⟩
 ·by_cases hn:n < L'.length
  ·rw [zTR hn] at e1;rw [zTR (by rw [<- c.len]; exact hn)] at e2;exact (c.obj n a m e1 e2).more [p]
  ·have hn':n = L'.length:=by
    have:=(zTN.mp e1).1;rw [zTa] at this;simp at this; omega
   subst hn';simp at e1;rw [c.len] at e2;simp at e2;subst e1; subst e2;exact ⟨vs,h1,r.more [p]⟩
 ·obtain ⟨N,hN⟩:=s.pre;refine ⟨⟨N ++ [p],by rw [hN]; simp⟩,fun a ha=>?_,s.old,s.tup,s.frz,s.tbl⟩;rcases zTk.mp ha with z | z
  ·exact s.new a z
  ·have:a = p:=by simpa using z
   subst this; exact .inr h0
theorem Rep.last {L:List Addr} {M:List MO} {H:Hp} {K:PySem.W.Frag} {p:Addr} (c:Cor K L M H):Rep (L ++ [p]) H (.ref M.length) (.ref p):=by
 unfold Rep;exact ⟨p,rfl,by rw [<- c.len]; simp⟩
theorem zAZ {f:FE} (h:QE X e f):QD X e (toD f):=.mk <| PE.imp h.un fun τ H Q zz=>by
 obtain ⟨L,σ,M,d,M',c,rs,hf,q⟩:=zz;unfold toD at hf;split at hf
 ·rename_i d' M1 e1;cases hf;exact ⟨L,σ,M,_,_,c,rs,e1,fun L' H' v s c' r=>q L' H' v s c' r⟩
 ·rename_i xs M1 e1;cases hf;refine ⟨L,σ,M,_,_,c,rs,e1,fun L' H' v s c' r=>?_⟩;obtain ⟨p,vs,rfl,e0,e2,e3,r⟩:=r;obtain ⟨c2,s2⟩:=zPn s c' e0 e2 e3 r;exact q _ H' _ s2 c2 (Rep.last c')
 ·cases hf
def zC (i:Nat):FE:=fun σ M=>match σ[i]? with
 | some (some d)=>some (.dat d,M)
 | _=>none
theorem zh (h:PE X (.Name x pos) (zOW i)):QE X (.Name x pos) (zC i):=.mk <| PE.imp h fun τ H Q zz=>by
 obtain ⟨L,σ,M,d,M',c,rs,hf,q⟩:=zz;unfold zC at hf;split at hf
 ·rename_i d' e1;cases hf;obtain ⟨v,e2,r⟩:=rs.2 i d' e1;exact ⟨v,e2,q L H v (.refl L H) c r⟩
 ·cases hf
def fC (d:D):FE:=fun _ M=>some (.dat d,M)
theorem zES (hd:∀ L H,Rep L H d v) (h:PE X e (tC v)):QE X e (fC d):=.mk <| PE.imp h fun τ H Q zz=>by
 obtain ⟨L,σ,M,d',M',c,rs,hf,q⟩:=zz;unfold fC at hf;cases hf;exact q L H v (.refl L H) c (hd L H)
theorem zIl {i j pos}:QE X (.Constant (.int i) j pos) (fC (.int i)):=zES (fun _ _=>by unfold Rep; rfl) zQn
theorem zRn {b j pos}:QE X (.Constant (.bool b) j pos) (fC (.bl b)):=zES (fun _ _=>by unfold Rep; rfl) zPr
theorem zK1 {j pos}:QE X (.Constant .none j pos) (fC .non):=zES (fun _ _=>by unfold Rep; rfl) zQZ
theorem zNA {x j pos}:QE X (.Constant (.str x) j pos) (fC (.str x)):=zES (fun _ _=>by unfold Rep; rfl) zQA
def zH:FA:=fun _ M=>some ([],M)
def zD (f:FD) (g:FA):FA:=fun σ M=>match f σ M with
 | some (d,M1)=>match g σ M1 with
  | some (ds,M2)=>some (d :: ds,M2)
  | none=>none
 | none=>none
theorem PA.imp (h:PA X es t) (hi:∀ τ H Q,t' τ H Q -> t τ H Q):PA X es t':=fun pos zB s σ H Q I q=>h pos zB s σ H Q I (hi _ _ _ q)
theorem zBi:QA X [] zH:=.mk <| PA.imp zDP fun τ H Q zz=>by
 obtain ⟨L,σ,M,d,M',c,rs,hf,q⟩:=zz;unfold zH at hf;cases hf;exact q L H [] (.refl L H) c .nil
theorem zAD (h1:QD X e f) (h2:QA X es g) (hs:starEach (e :: es) X.env = (false,eval e X.env) :: starEach es X.env:=by rfl):QA X (e :: es) (zD f g) :=
 .mk <| PA.imp (zAc h1.un h2.un hs) fun τ H Q zz=>by
  obtain ⟨L,σ,M,d,M',c,rs,hf,q⟩:=zz;unfold zD at hf;split at hf
  ·rename_i d1 M1 e1;split at hf
   ·rename_i ds M2 e2;cases hf;refine ⟨L,σ,M,_,_,c,rs,e1,fun L1 H1 v s1 c1 r1=>⟨L1,σ,M1,_,_,c1,rs.stp s1,e2,fun L2 H2 vs s2 c2 r2=>?_⟩⟩;exact q L2 H2 _ (s1.trans s2) c2 (.cons (r1.stp s2) r2)
   ·cases hf
  ·cases hf
def zDc (g:FA):FE:=fun σ M=>match g σ M with
 | some (ds,M1)=>if ds.length <= sizeLine then some (.dat (.tup ds),M1) else none
 | none=>none
def zp (g:FA):FE:=fun σ M=>match g σ M with
 | some (ds,M1)=>if ds.length <= sizeLine then some (.fl ds,M1) else none
 | none=>none
theorem Rep.newTup (h:H p = none) (r:zL L H ds vs):Rep L (upd H p (.tup vs)) (.tup ds) (.ref p):=by
 unfold Rep;exact ⟨p,vs,rfl,zAX,r.stp (.upd h)⟩
theorem zSo {x1 pos} (h:QA X es g):QE X (.Tuple es x1 pos) (zDc g):=.mk <| PE.imp (zHZ h.un) fun τ H Q zz=>by
 obtain ⟨L,σ,M,d,M',c,rs,hf,q⟩:=zz;unfold zDc at hf;split at hf
 ·rename_i ds M1 e1;split at hf
  ·rename_i hz;cases hf;refine ⟨L,σ,M,_,_,c,rs,e1,fun L1 H1 vs s1 c1 r1=>⟨by rw [r1.length]; exact hz,fun p hp=>?_⟩⟩;exact q L1 _ _ (s1.trans (.upd hp)) (c1.upd hp) (Rep.newTup hp r1)
  ·cases hf
 ·cases hf
theorem zLW {L L1:List Addr} {H H1:Hp} {K:PySem.W.Frag} {M M1:List MO} (s:Stp L H L1 H1) (c:Cor K L M H) (c1:Cor K L1 M1 H1) {p:Addr} (hp:H1 p = none):H p = none /\ p ∉ L1:=by
 have hp1:p ∉ L1:=fun z=>by obtain ⟨o,e⟩:=c1.tracked z; rw [hp] at e; cases e
 refine ⟨?_,hp1⟩;cases q:H p with
 | none=>rfl
 | some o=>
  have:p ∉ L:=fun z=>hp1 (by obtain ⟨N,hN⟩:=s.pre; rw [hN]; exact zUe _ z);obtain ⟨o',z⟩:=s.there q this;rw [z] at hp; cases hp
theorem zd.newLst {L L1:List Addr} {H H1:Hp} {K:PySem.W.Frag} {M M1:List MO} {p:Addr} {ds:List D} {vs:List V} (s:Stp L H L1 H1) (c:Cor K L M H) (c1:Cor K L1 M1 H1) (hp:H1 p = none) (r:zL L1 H1 ds vs) :
  zd H L1 (upd H1 p (.lst vs)) (.fl ds) (.ref p):=by
 obtain ⟨a,b⟩:=zLW s c c1 hp;exact ⟨p,vs,rfl,a,zAX,b,r.stp (.upd hp)⟩
theorem zSF {pos} (h:QA X es g):QE X (.List es pos) (zp g):=.mk <| PE.imp (zQ4 h.un) fun τ H Q zz=>by
 obtain ⟨L,σ,M,d,M',c,rs,hf,q⟩:=zz;unfold zp at hf;split at hf
 ·rename_i ds M1 e1;split at hf
  ·rename_i hz;cases hf;refine ⟨L,σ,M,_,_,c,rs,e1,fun L1 H1 vs s1 c1 r1=>⟨by rw [r1.length]; exact hz,fun p hp=>?_⟩⟩;exact q L1 _ _ (s1.trans (.upd hp)) (c1.upd hp) (zd.newLst s1 c c1 hp r1)
  ·cases hf
 ·cases hf
end
abbrev FAE:=Sd -> Mem -> Option (List EV × Mem)
def zCL (H0:Hp) (L:List Addr) (H:Hp):List EV -> List V -> Prop
 | [],vs=>vs = []
 | e :: es,vs=>∃ v r,vs = v :: r /\ zd H0 L H e v /\ zCL H0 L H es r
theorem Stp.sub (s:Stp L H L' H'):∀ a ∈ L,a ∈ L':=fun a h=>by
 obtain ⟨N,hN⟩:=s.pre;rw [hN]; exact zUe _ h
theorem zCL.back {H0 H1:Hp} {L0 L1 L:List Addr} {H:Hp} (s:Stp L0 H0 L1 H1) {M:List MO} {K:PySem.W.Frag} (c:Cor K L0 M H0) (hL:∀ a ∈ L1,a ∈ L):∀ {es:List EV} {vs:List V},zCL H1 L H es vs -> zCL H0 L H es vs
 | [],_,h=>h
 | e :: es,_,h=>by
  obtain ⟨v,r,rfl,h1,h2⟩:=h;exact ⟨v,r,rfl,h1.back s c hL,zCL.back s c hL h2⟩
def zSY (K:PySem.W.Frag) (f:FAE):TA:=fun τ H Q=>∃ L σ M ds M',Cor K L M H /\ zA0 L H σ τ /\ f σ M = some (ds,M') /\ ∀ L' H' vs,Stp L H L' H' -> Cor K L' M' H' -> zCL H L' H' ds vs -> Q vs H'
structure QAE (X:Cx) (es:List Expr) (f:FAE):Prop where
 un:PA X es (zSY X.K f)
section
variable {X:Cx} {a b e:Expr} {es:List Expr} {pos:Pos}
def zc:FAE:=fun _ M=>some ([],M)
def zN (f:FE) (g:FAE):FAE:=fun σ M=>match f σ M with
 | some (d,M1)=>match g σ M1 with
  | some (ds,M2)=>some (d :: ds,M2)
  | none=>none
 | none=>none
theorem zCW:QAE X [] zc:=.mk <| PA.imp zDP fun τ H Q zz=>by
 obtain ⟨L,σ,M,d,M',c,rs,hf,q⟩:=zz;unfold zc at hf;cases hf;exact q L H [] (.refl L H) c rfl
theorem zBU (h1:QE X e f) (h2:QAE X es g) (hs:starEach (e :: es) X.env = (false,eval e X.env) :: starEach es X.env:=by rfl):QAE X (e :: es) (zN f g) :=
 .mk <| PA.imp (zAc h1.un h2.un hs) fun τ H Q zz=>by
  obtain ⟨L,σ,M,d,M',c,rs,hf,q⟩:=zz;unfold zN at hf;split at hf
  ·rename_i d1 M1 e1;split at hf
   ·rename_i ds M2 e2;cases hf;refine ⟨L,σ,M,_,_,c,rs,e1,fun L1 H1 v s1 c1 r1=>⟨L1,σ,M1,_,_,c1,rs.stp s1,e2,fun L2 H2 vs s2 c2 r2=>?_⟩⟩;exact q L2 H2 _ (s1.trans s2) c2 ⟨v,vs,rfl,r1.stp s2,r2.back s1 c s2.sub⟩
   ·cases hf
  ·cases hf
abbrev K2:=EV -> EV -> Mem -> Option (EV × Mem)
def zA7 (K:PySem.W.Frag) (r:R2) (k:K2):Prop:=∀ {L:List Addr} {M M':Mem} {H H0:Hp} {x y d:EV} {v w:V} {Q:VK},Cor K L M H -> zd H0 L H x v -> zd H0 L H y w -> k x y M = some (d,M') ->
 (∀ L' H' u,Stp L H L' H' -> Cor K L' M' H' -> zd H L' H' d u -> Q u H') -> r v w H Q
def fOp (k:K2) (f g:FE):FE:=fun σ M=>match f σ M with
 | some (x,M1)=>match g σ M1 with
  | some (y,M2)=>k x y M2
  | none=>none
 | none=>none
theorem zC0 {K:PySem.W.Frag} {r:R2} {k:K2} {f g:FE} (hk:zA7 K r k) {τ:Sv} {H:Hp} {Q:VK} (h:trE K (fOp k f g) τ H Q):tOp r (trE K f) (trE K g) τ H Q:=by
 obtain ⟨L,σ,M,d,M',c,rs,hf,q⟩:=h;unfold fOp at hf;split at hf
 ·rename_i x M1 e1;split at hf
  ·rename_i y M2 e2;refine ⟨L,σ,M,_,_,c,rs,e1,fun L1 H1 v s1 c1 r1=>⟨L1,σ,M1,_,_,c1,rs.stp s1,e2,fun L2 H2 w s2 c2 r2=>?_⟩⟩;refine hk (H0:=H) c2 (r1.stp s2) (r2.back s1 c s2.sub) hf fun L3 H3 u s3 c3 r3=>?_;exact q L3 H3 u ((s1.trans s2).trans s3) c3 (r3.back (s1.trans s2) c s3.sub)
  ·cases hf
 ·cases hf
theorem zHg (hk:zA7 X.K r k) (ho:OpR X (binaryOp op) r) (h1:QE X a f) (h2:QE X b g):QE X (.BinOp a op b pos) (fOp k f g):=.mk <| PE.imp (zSL ho h1.un h2.un) fun _ _ _ h=>zC0 hk h
theorem zMN (hk:zA7 X.K r k) (ho:OpR X (compareOp op) r) (h1:QE X a f) (h2:QE X b g) (hm:behindInMarks op b = false):QE X (.Compare a [op] [b] pos) (fOp k f g) :=
 .mk <| PE.imp (zPO ho h1.un h2.un hm) fun _ _ _ h=>zC0 hk h
def tst (f:FE):FT:=fun σ M=>match f σ M with
 | some (.dat (.bl c),M')=>some (c,M')
 | _=>none
theorem zDn {K:PySem.W.Frag} {f:FE} {τ:Sv} {H:Hp} {Q:Bool -> Hp -> Prop} (h:trT K (tst f) τ H Q):zIw (trE K f) τ H Q:=by
 obtain ⟨L,σ,M,d,M',c,rs,hf,q⟩:=h;unfold tst at hf;split at hf
 ·rename_i k M1 e1;cases hf;refine ⟨L,σ,M,_,_,c,rs,e1,fun L1 H1 v s1 c1 r1=>?_⟩;have:v = .bl d:=by unfold zd Rep at r1; exact r1
  exact ⟨d,this,q L1 H1 s1 c1⟩
 ·cases hf
theorem zEN (h:∀ τ H Q,t τ H Q -> t' τ H Q) (q:zIw t τ H Q):zIw t' τ H Q:=h _ _ _ q
theorem zCk {op:CmpOp} {r:R2} {k:K2} {f g:FE} (hk:zA7 X.K r k) (ho:OpR X (compareOp op) r) (h1:QE X a f) (h2:QE X b g) (hm:behindInMarks op b = false):QT X (.Compare a [op] [b] pos) (tst (fOp k f g)) :=
 .mk <| PT.imp (zOa ho h1.un h2.un hm) fun _ _ _ h=>zEN (fun _ _ _ z=>zC0 hk z) (zDn h)
theorem zE8 (h:QE X e f) (he:∀ whole,isTrue e X.env whole = (do let v <- whole; standAt e.pos; holding [v] (truthy v)):=by intro _; rfl):QT X e (tst f) :=
 .mk <| PT.imp (zHm h.un he) fun _ _ _ h=>zDn h
def kI (C:Int -> Int -> Bool) (g:Int -> Int -> D):K2:=fun x y M=>match x,y with
 | .dat (.int i),.dat (.int j)=>if C i j then some (.dat (g i j),M) else none
 | _,_=>none
def kI0 (g:Int -> Int -> D):K2:=kI (fun _ _=>true) g
theorem zJQ {K:PySem.W.Frag} {C:Int -> Int -> Bool} {C':Int -> Int -> Prop} {g:Int -> Int -> D} {g':Int -> Int -> V} (hC:∀ i j,C i j = true -> C' i j) (hg:∀ L H i j,Rep L H (g i j) (g' i j)):zA7 K (rI C' g') (kI C g):=by
 intro L M M' H H0 x y d v w Q c rx ry hk q;unfold kI at hk;split at hk
 ·rename_i i j;split at hk
  ·rename_i hc;cases hk;refine ⟨i,j,by unfold zd Rep at rx; exact rx,by unfold zd Rep at ry; exact ry,hC i j hc,q L H _ (.refl L H) c (hg L H i j)⟩
  ·cases hk
 ·cases hk
theorem zCx {K:PySem.W.Frag} {g:Int -> Int -> D} {g':Int -> Int -> V} (hg:∀ L H i j,Rep L H (g i j) (g' i j)):zA7 K (rI0 g') (kI0 g):=by
 intro L M M' H H0 x y d v w Q c rx ry hk q;obtain ⟨i,j,h1,h2,_,h4⟩:=zJQ (C:=fun _ _=>true) (C':=fun _ _=>True) (fun _ _ _=>trivial) hg c rx ry hk q;exact ⟨i,j,h1,h2,h4⟩
theorem zAb:Rep L H (.int i) (.int i):=by unfold Rep; rfl
theorem zAp:Rep L H (.bl i) (.bl i):=by unfold Rep; rfl
def zIm (i j:Int):Bool:=(decide (-(2 ^ 64) < i) && decide (i < 2 ^ 64)) || (decide (-(2 ^ 64) < j) && decide (j < 2 ^ 64))
abbrev zS3:K2:=kI0 fun i j=> .int (i + j)
abbrev zFy:K2:=kI0 fun i j=> .int (i - j)
abbrev zGZ:K2:=kI zIm fun i j=> .int (i * j)
abbrev zDu:K2:=kI (fun _ j=>decide (0 < j)) fun i j=> .int (i % j)
abbrev zLZ:K2:=kI (fun _ j=>decide (0 < j) && decide (j < 1073741824)) fun i j=> .int (i / j)
abbrev zMv:K2:=kI (fun i j=>decide (0 <= j) && decide (j <= 1000000) && decide (i.natAbs < 2 ^ 64)) fun i j=> .int (i ^ j.toNat)
abbrev kLt:K2:=kI0 fun i j=> .bl (decide (i < j))
abbrev kLe:K2:=kI0 fun i j=> .bl (decide (i <= j))
abbrev kGt:K2:=kI0 fun i j=> .bl (decide (j < i))
abbrev kGe:K2:=kI0 fun i j=> .bl (decide (j <= i))
section
variable {f g:FE}
theorem zR1 (h1:QE X a f) (h2:QE X b g):QE X (.BinOp a .Sub b pos) (fOp zFy f g):=zHg (zCx fun _ _ _ _=>zAb) zRP h1 h2
theorem zSe (h1:QE X a f) (h2:QE X b g):QE X (.BinOp a .Mult b pos) (fOp zGZ f g):=zHg (zJQ (fun i j h=>by
 unfold zIm at h;simp only [Bool.or_eq_true,zTu,zUc] at h;exact h) fun _ _ _ _=>zAb) zRG h1 h2
theorem zSj (h1:QE X a f) (h2:QE X b g):QE X (.BinOp a .Mod b pos) (fOp zDu f g):=zHg (zJQ (fun i j h=>of_decide_eq_true h) fun _ _ _ _=>zAb) zRW h1 h2
theorem zSn (h1:QE X a f) (h2:QE X b g):QE X (.BinOp a .FloorDiv b pos) (fOp zLZ f g):=zHg (zJQ (fun i j h=>by
 simp only [zTu,zUc] at h;exact h) fun _ _ _ _=>zAb) zOQ h1 h2
theorem zSf (h1:QE X a f) (h2:QE X b g):QE X (.BinOp a .Pow b pos) (fOp zMv f g):=zHg (zJQ (fun i j h=>by
 simp only [zTu,zUc] at h;exact ⟨h.1.1,h.1.2,h.2⟩) fun _ _ _ _=>zAb) zQg h1 h2
theorem zR2 (h1:QE X a f) (h2:QE X b g):QT X (.Compare a [.Lt] [b] pos) (tst (fOp kLt f g)):=zCk (zCx fun _ _ _ _=>zAp) zSi h1 h2 (zCv _)
theorem zSJ (h1:QE X a f) (h2:QE X b g):QT X (.Compare a [.Gt] [b] pos) (tst (fOp kGt f g)):=zCk (zCx fun _ _ _ _=>zAp) zRs h1 h2 (zCv _)
theorem zSZ (h1:QE X a f) (h2:QE X b g):QT X (.Compare a [.GtE] [b] pos) (tst (fOp kGe f g)):=zCk (zCx fun _ _ _ _=>zAp) zRv h1 h2 (zCv _)
end
end
def zA3 (M:Mem):EV -> Option (List D)
 | .fl xs=>some xs
 | .dat (.ref n)=>match M[n]? with
  | some (.lst xs)=>some xs
  | some (.fro xs)=>some xs
  | _=>none
 | _=>none
def zB7:EV -> Option (List D)
 | .dat (.tup xs)=>some xs
 | _=>none
def zAV (M:Mem) (x:EV):Option (List D):=match zB7 x with
 | some xs=>some xs
 | none=>zA3 M x
theorem zBG {K:PySem.W.Frag} {L:List Addr} {M:Mem} {H H0:Hp} {x:EV} {v:V} {xs:List D} (c:Cor K L M H) (r:zd H0 L H x v) (h:zA3 M x = some xs):∃ a vs,v = .ref a /\ Rd H a (.lst vs) /\ zL L H xs vs:=by
 cases x with
 | fl ys=>
  cases h;obtain ⟨p,vs,rfl,_,e,_,r⟩:=r;exact ⟨p,vs,rfl,.inl e,r⟩
 | dat d=>
  cases d with
  | ref n=>
   unfold zd Rep at r;obtain ⟨a,rfl,e⟩:=r;unfold zA3 at h;dsimp only at h;cases q:M[n]? with
   | none=>rw [q] at h; cases h
   | some m=>
    rw [q] at h;have z:=c.obj n a m e q;cases m with
    | lst ys=>cases h; obtain ⟨vs,e1,r1⟩:=z; exact ⟨a,vs,rfl,.inl e1,r1⟩
    | fro ys=>cases h; obtain ⟨o,vs,e1,r1⟩:=z; exact ⟨a,vs,rfl,.inr ⟨o,e1⟩,r1⟩
    | dict _=>cases h
    | dicT _=>cases h
    | set _=>cases h
    | froT _=>cases h
    | froK _=>cases h
  | _=>cases h
theorem zCM {L:List Addr} {H H0:Hp} {x:EV} {v:V} {xs:List D} (r:zd H0 L H x v) (h:zB7 x = some xs):∃ a vs,v = .ref a /\ H a = some (.tup vs) /\ zL L H xs vs:=by
 cases x with
 | fl ys=>cases h
 | dat d=>
  cases d with
  | tup ys=>cases h; unfold zd Rep at r; exact r
  | _=>cases h
theorem zFg {K:PySem.W.Frag} {L:List Addr} {M:Mem} {H H0:Hp} {x:EV} {v:V} {xs:List D} (c:Cor K L M H) (r:zd H0 L H x v) (h:zAV M x = some xs):∃ a vs,v = .ref a /\ (SqL K H a vs \/ SqT K H a vs) /\ zL L H xs vs:=by
 unfold zAV at h;cases q:zB7 x with
 | some ys=>
  rw [q] at h; cases h;obtain ⟨a,vs,e,h1,h2⟩:=zCM r q;exact ⟨a,vs,e,.inr (.of h1),h2⟩
 | none=>
  rw [q] at h;obtain ⟨a,vs,e,h1,h2⟩:=zBG c r h;exact ⟨a,vs,e,.inl (.inl h1),h2⟩
theorem zQk {L:List Addr} {H:Hp} {xs:List D} {vs:List V} {i:Int} {d:D} (r:zL L H xs vs) (h:atI xs i = some d):∃ v,atI vs i = some v /\ Rep L H d v:=by
 unfold atI at h ⊢;rw [r.length];cases q:ixN xs.length i with
 | none=>rw [q] at h; cases h
 | some j=>rw [q] at h; exact r.get h
theorem zDg {L:List Addr} {H:Hp} {i:Str}:Rep L H (.str i) (.str i):=by unfold Rep; rfl
def kIx:K2:=fun x y M=>match y with
 | .dat (.int i)=>match zAV M x with
  | some xs=>match atI xs i with
   | some d=>some (.dat d,M)
   | none=>none
  | none=>match x with
   | .dat (.str z)=>if z.length <= sizeLine then match atI z.cps.toList i with
     | some c=>some (.dat (.str ⟨#[c]⟩),M)
     | none=>none
    else none
   | _=>none
 | _=>none
theorem zQ0 {K:PySem.W.Frag}:zA7 K (rIx K) kIx:=by
 intro L M M' H H0 x y d v w Q c rx ry hk q;unfold kIx at hk;split at hk
 ·rename_i i;have ew:w = .int i:=by unfold zd Rep at ry; exact ry
  split at hk
  ·rename_i xs e1;split at hk
   ·rename_i d' e2;cases hk;obtain ⟨a,vs,rfl,hs,r⟩:=zFg c rx e1;obtain ⟨u,e3,r3⟩:=zQk r e2;rcases hs with hs | hs
    ·exact .inl ⟨a,vs,i,u,rfl,ew,hs,e3,q L H u (.refl L H) c r3⟩
    ·exact .inr (.inl ⟨a,vs,i,u,rfl,ew,hs,e3,q L H u (.refl L H) c r3⟩)
   ·cases hk
  ·split at hk
   ·rename_i z _;split at hk
    ·rename_i hz;split at hk
     ·rename_i ch e2;cases hk;have ev:v = .str z:=by unfold zd Rep at rx; exact rx
      exact .inr (.inr ⟨z,i,ch,ev,ew,hz,e2,q L H _ (.refl L H) c (zDg (L:=L) (H:=H))⟩)
     ·cases hk
    ·cases hk
   ·cases hk
 ·cases hk
section
variable {prog:Program} {w:World} {A:Around} {E:Value -> Shared -> Prop} {s:Shared}
theorem zJr {t sl:Addr} {items:Array Value} {vl vu:Value} {lo hi:Option Int} {Q:Value -> Shared -> Prop} (T:IsTup s.heap t items) (S:s.heap.IsSliceOf sl vl vu .none) (pl:IsPart vl lo) (pu:IsPart vu hi)
  (h1:HT.sIx items.size 0 lo = 0) (h2:HT.sIx items.size items.size hi = items.size) (h:Q (.ref t) s):wpAny (model prog w) A (getItem (.ref t) (.ref sl)) Q E s:=by
 obtain ⟨o,O,C,G⟩:=id S;have TS:s.TypeIs (.ref sl) "slice" := ⟨o,O,C⟩;unfold getItem;try with_reducible refine zUI ?_
 first | refine zTK (zTM ?_) | skip
 refine zTK (wpAny_sequenceKey T.typeIs (by decide) ?_);refine zTK (zTw (name:=Str.ofString "__getitem__") T.typeIs zUx (zTx zUx T.typeIs entry_tuple_getitem ?_ (args_tuple_getitem _ _)));refine zTK (m:=Builtin.Tuple.tupleItemsOf (.ref t)) (tupleItemsOf_ T (zTK (wpAny_typeOf TS ?_)));rw [zTZ (by decide)];refine zTK (HT.zCb S pl pu ?_);rw [h1,h2];show wpAny _ _ (if ((((0:Nat):Int) == 0 && (1:Int) == 1 && (items.size - 0) == items.size)) = true then _ else _) _ _ s;rw [zTZ (by simp)];unfold Builtin.Tuple.tupleIsExact;refine zTK (zTK (wpAny_typeOf T.typeIs (zTM ?_)));rw [zTZ (by decide)];exact zTK (wpAny_rule (zTM ⟨_,rfl,zTM h⟩))
end
def zS6 (K:PySem.W.Frag):V -> Option Int -> Option Int -> Hp -> VK -> Prop:=fun x lo hi H Q=>∃ a xs,x = .ref a /\ SqT K H a xs /\ (HT.sIx xs.length 0 lo = 0 /\ HT.sIx xs.length xs.length hi = xs.length) /\ Q (.ref a) H
theorem zPC {X:Cx}:SlR X (zS6 X.K):=by
 intro zB s σ H x v vl vu lo hi sl Q I rx hs pl pu h;obtain ⟨a,xs,rfl,hx,hw,q⟩:=h;cases rx;obtain ⟨its,r,ht,hz⟩:=I.tuple hx;have hlen:its.toArray.size = xs.length:=by rw [zTS]; exact r.length.symm
 exact ⟨"tuple", _,zUx.lookup,ht.typeIs,zJr ht hs pl pu (by rw [hlen]; exact hw.1) (by rw [hlen]; exact hw.2) ⟨.ref a,H,I,rfl,q⟩⟩
section
variable {X:Cx} {a b e:Expr} {es:List Expr} {pos:Pos} {f g:FE}
theorem zPB (h1:QE X a f) (h2:QE X b g) (hs:zK3 b:=by intro _ _; rfl):QE X (.Subscript a b pos) (fOp kIx f g):=.mk <| PE.imp (zSq zRN h1.un h2.un hs) fun _ _ _ h=>zC0 zQ0 h
abbrev FO:=Sd -> Mem -> Option (Option Int × Mem)
def trO (K:PySem.W.Frag) (f:FO):TO:=fun τ H Q=>∃ L σ M d M',Cor K L M H /\ zA0 L H σ τ /\ f σ M = some (d,M') /\ ∀ L' H',Stp L H L' H' -> Cor K L' M' H' -> Q d H'
structure QO (X:Cx) (e:Option Expr) (f:FO):Prop where
 un:PO X e (trO X.K f)
def zw:FO:=fun _ M=>some (none,M)
def zu (f:FE):FO:=fun σ M=>match f σ M with
 | some (.dat (.int i),M')=>some (some i,M')
 | _=>none
theorem PO.imp {e:Option Expr} {t t':TO} (h:PO X e t) (hi:∀ τ H Q,t' τ H Q -> t τ H Q):PO X e t':=fun zB s σ H Q I q=>h zB s σ H Q I (hi _ _ _ q)
theorem zKc:QO X none zw:=.mk <| PO.imp zOr fun τ H Q zz=>by
 obtain ⟨L,σ,M,d,M',c,rs,hf,q⟩:=zz;unfold zw at hf;cases hf;exact q L H (.refl L H) c
theorem zKg (h:QE X e f):QO X (some e) (zu f):=.mk <| PO.imp (zOP h.un) fun τ H Q zz=>by
 obtain ⟨L,σ,M,d,M',c,rs,hf,q⟩:=zz;unfold zu at hf;split at hf
 ·rename_i i M1 e1;cases hf;refine ⟨L,σ,M,_,_,c,rs,e1,fun L1 H1 v s1 c1 r1=>?_⟩;exact ⟨i,by unfold zd Rep at r1; exact r1,q L1 H1 s1 c1⟩
 ·cases hf
def zC3 (xs:List D) (lo hi:Option Int):List D:=(xs.drop (HT.sIx xs.length 0 lo)).take (HT.sIx xs.length xs.length hi - HT.sIx xs.length 0 lo)
theorem zKs {L:List Addr} {H:Hp} {xs:List D} {vs:List V} {lo hi:Option Int} (r:zL L H xs vs):zL L H (zC3 xs lo hi) (zJT vs lo hi):=by
 unfold zC3 zJT;rw [r.length];exact (r.drop _).take _
def kSl (x:EV) (lo hi:Option Int) (M:Mem):Option (EV × Mem):=match zB7 x with
 | some xs=>some (.dat (.tup (zC3 xs lo hi)),M)
 | none=>match zA3 M x with
  | some xs=>some (.fl (zC3 xs lo hi),M)
  | none=>none
def fSl (f:FE) (fl fh:FO):FE:=fun σ M=>match f σ M with
 | some (x,M1)=>match fl σ M1 with
  | some (lo,M2)=>match fh σ M2 with
   | some (hi,M3)=>kSl x lo hi M3
   | none=>none
  | none=>none
 | none=>none
theorem zK2 {lo hi:Option Expr} {p2:Pos} {fl fh:FO} (h:QE X e f) (hl:QO X lo fl) (hh:QO X hi fh):QE X (.Subscript e (.Slice lo hi none p2) pos) (fSl f fl fh) :=
 .mk <| PE.imp (zMc (SlR.or zOw (SlR.or zRZ zPC)) h.un hl.un hh.un) fun τ H Q zz=>by
  obtain ⟨L,σ,M,d,M',c,rs,hf,q⟩:=zz;unfold fSl at hf;split at hf
  ·rename_i x M1 e1;split at hf
   ·rename_i l M2 e2;split at hf
    ·rename_i u M3 e3;refine ⟨L,σ,M,_,_,c,rs,e1,fun L1 H1 v s1 c1 r1=>⟨L1,σ,M1,_,_,c1,rs.stp s1,e2,fun L2 H2 s2 c2=>⟨L2,σ,M2,_,_,c2,rs.stp (s1.trans s2),e3,fun L3 H3 s3 c3=>?_⟩⟩⟩;have s:=(s1.trans s2).trans s3;have r3:zd H L3 H3 x v:=(r1.stp s2).stp s3;unfold kSl at hf;cases t:zB7 x with
     | some xs=>
      rw [t] at hf;dsimp only at hf;cases hf;obtain ⟨a,vs,rfl,e4,r4⟩:=zCM r3 t;by_cases hw:HT.sIx vs.length 0 l = 0 /\ HT.sIx vs.length vs.length u = vs.length
      ·refine .inr (.inr ⟨a,vs,rfl,.of e4,hw,?_⟩);have ec:zC3 xs l u = xs:=by
        unfold zC3;rw [<- r4.length,hw.1,hw.2,r4.length];simp
       rw [ec] at q;refine q L3 H3 _ s c3 ?_;unfold zd Rep;exact ⟨a,vs,rfl,e4,r4⟩
      ·refine .inr (.inl ⟨a,vs,rfl,.of e4,hw,fun p hp=>?_⟩);exact q L3 _ _ (s.trans (.upd hp)) (c3.upd hp) (Rep.newTup hp (zKs r4))
     | none=>
      rw [t] at hf;dsimp only at hf;split at hf
      ·rename_i xs e4;cases hf;obtain ⟨a,vs,rfl,e5,r5⟩:=zBG c3 r3 e4;refine .inl ⟨a,vs,rfl,.inl e5,fun p hp=>?_⟩;exact q L3 _ _ (s.trans (.upd hp)) (c3.upd hp) (zd.newLst s c c3 hp (zKs r5))
      ·cases hf
    ·cases hf
   ·cases hf
  ·cases hf
abbrev KB:=List EV -> Mem -> Option (EV × Mem)
def zEz (K:PySem.W.Frag) (r:List V -> Hp -> VK -> Prop) (k:KB):Prop:=∀ {L:List Addr} {M M':Mem} {H H0:Hp} {xs:List EV} {d:EV} {vs:List V} {Q:VK},Cor K L M H -> zCL H0 L H xs vs -> k xs M = some (d,M') ->
 (∀ L' H' u,Stp L H L' H' -> Cor K L' M' H' -> zd H L' H' d u -> Q u H') -> r vs H Q
def fB (k:KB) (f:FAE):FE:=fun σ M=>match f σ M with
 | some (xs,M1)=>k xs M1
 | none=>none
theorem zNV {K:PySem.W.Frag} {r:List V -> Hp -> VK -> Prop} {k:KB} {f:FAE} (hk:zEz K r k) {τ:Sv} {H:Hp} {Q:VK} (h:trE K (fB k f) τ H Q):tCB r (zSY K f) τ H Q:=by
 obtain ⟨L,σ,M,d,M',c,rs,hf,q⟩:=h;unfold fB at hf;split at hf
 ·rename_i xs M1 e1;refine ⟨L,σ,M,_,_,c,rs,e1,fun L1 H1 vs s1 c1 r1=>?_⟩;refine hk c1 r1 hf fun L2 H2 u s2 c2 r2=>?_;exact q L2 H2 u (s1.trans s2) c2 (r2.back s1 c s2.sub)
 ·cases hf
theorem zCL.one {H0:Hp} {L:List Addr} {H:Hp} {x:EV} {vs:List V} (h:zCL H0 L H [x] vs):∃ v,vs = [v] /\ zd H0 L H x v:=by
 obtain ⟨v,r,rfl,h1,h2⟩:=h;unfold zCL at h2;subst h2;exact ⟨v,rfl,h1⟩
def zAx:KB:=fun xs M=>match xs with
 | [x]=>match zAV M x with
  | some ys=>some (.dat (.int ys.length),M)
  | none=>none
 | _=>none
theorem zO8:zEz X.K (fun xs H Q=>∃ p ys,xs = [.ref p] /\ (SqL X.K H p ys \/ SqT X.K H p ys) /\ Q (.int ys.length) H) zAx:=by
 intro L M M' H H0 xs d vs Q c r hk q;unfold zAx at hk;split at hk
 ·rename_i x;split at hk
  ·rename_i ys e1;cases hk;obtain ⟨v,rfl,r1⟩:=r.one;obtain ⟨a,ws,rfl,hs,r2⟩:=zFg c r1 e1;refine ⟨a,ws,rfl,hs,q L H _ (.refl L H) c ?_⟩;rw [r2.length]; exact (zAb (L:=L) (H:=H))
  ·cases hk
 ·cases hk
theorem zDp {x:Str} {p:Pos} {id:String} {r:List V -> Hp -> VK -> Prop} {k:KB} {f:FAE} (hk:zEz X.K r k) (hc:zBZ X (.builtin id) r) (hv:bootBuiltins x = some (.builtin id)) (hg:Gl X x) (hm:X.mg x = none) (ha:QAE X (e :: es) f) (hn:x ≠ "__name__" := by decide) (hdb:(x == ("__debug__" : Str)) = false:=by decide)
  (he:starEach (e :: es) X.env = (false,eval e X.env) :: starEach es X.env:=by rfl) (hpl:(backTo pos (starEach es X.env)).any (·.1) = false:=by rfl):QE X (.Call (.Name x p) (e :: es) [] pos) (fB k f) :=
 .mk <| PE.imp (zDE hc hg hm hv ha.un hn hdb he hpl) fun _ _ _ h=>zNV hk h
theorem zEr {x:Str} {p:Pos} {T:String} {r:List V -> Hp -> VK -> Prop} {k:KB} {f:FAE} (hk:zEz X.K r k) (hc:zBZ X (.type T) r) (hv:bootBuiltins x = some (.type T)) (hg:Gl X x) (hm:X.mg x = none) (ha:QAE X (e :: es) f) (hn:x ≠ "__name__" := by decide) (hdb:(x == ("__debug__" : Str)) = false:=by decide)
  (he:starEach (e :: es) X.env = (false,eval e X.env) :: starEach es X.env:=by rfl) (hpl:(backTo pos (starEach es X.env)).any (·.1) = false:=by rfl):QE X (.Call (.Name x p) (e :: es) [] pos) (fB k f) :=
 .mk <| PE.imp (zLN hc hg hm hv ha.un hn hdb he hpl) fun _ _ _ h=>zNV hk h
def zAv:KB:=fun xs M=>match xs with
 | [x]=>match zAV M x with
  | some ys=>some (.dat (.tup ys),M)
  | none=>none
 | _=>none
theorem zLk:zEz X.K (fun xs H Q=>∃ p ys,xs = [.ref p] /\ ((SqL X.K H p ys /\ ∀ l,H l = none -> Q (.ref l) (upd H l (.tup ys))) \/ (SqT X.K H p ys /\ Q (.ref p) H))) zAv:=by
 intro L M M' H H0 xs d vs Q c r hk q;unfold zAv at hk;split at hk
 ·rename_i x;split at hk
  ·rename_i ys e1;cases hk;obtain ⟨v,rfl,r1⟩:=r.one;unfold zAV at e1;cases t:zB7 x with
   | some zs=>
    rw [t] at e1; cases e1;obtain ⟨a,ws,rfl,e2,r2⟩:=zCM r1 t;refine ⟨a,ws,rfl,.inr ⟨.of e2,q L H _ (.refl L H) c ?_⟩⟩;unfold zd Rep;exact ⟨a,ws,rfl,e2,r2⟩
   | none=>
    rw [t] at e1;obtain ⟨a,ws,rfl,e2,r2⟩:=zBG c r1 e1;refine ⟨a,ws,rfl,.inl ⟨.inl e2,fun p hp=>?_⟩⟩;exact q L _ _ (.upd hp) (c.upd hp) (Rep.newTup hp r2)
  ·cases hk
 ·cases hk
end
set_option genInjectivity true in
inductive Out where
 | nx | ret (d:D) | brk | cnt
abbrev FS:=Sd -> Mem -> Option (Out × Sd × Mem)
def zP0 (E:Ends) (L:List Addr) (H:Hp) (σ:Sd):Out -> Prop
 | .nx=>∀ τ,zA0 L H σ τ -> E.nx τ H
 | .ret d=>∀ v,Rep L H d v -> E.rt v H
 | .brk=>∀ τ,zA0 L H σ τ -> E.bk τ H
 | .cnt=>∀ τ,zA0 L H σ τ -> E.ct τ H
def trS (K:PySem.W.Frag) (f:FS):TS:=fun E τ H=>∃ L σ M o σ' M',Cor K L M H /\ zA0 L H σ τ /\ f σ M = some (o,σ',M') /\ ∀ L' H',Stp L H L' H' -> Cor K L' M' H' -> zP0 E L' H' σ' o
structure QS (X:Cx) (st:Stmt) (f:FS):Prop where
 un:PS X st (trS X.K f)
structure QSs (X:Cx) (st:List Stmt) (f:FS):Prop where
 un:PSs X st (trS X.K f)
theorem zA0.set (h:zA0 L H σ τ) (r:Rep L H d v):zA0 L H (σ.set i (some d)) (τ.set i (some v)):=by
 refine ⟨by simp [h.1],fun j e q=>?_⟩;rw [zUy] at q ⊢;split at q
 ·rename_i z;subst z;split at q
  ·rename_i hl;cases q;rw [zTZ rfl,zTZ (by rw [h.1]; exact hl)];exact ⟨v,rfl,r⟩
  ·cases q
 ·rename_i z;rw [zTc z];exact h.2 j e q
theorem zOA {K:PySem.W.Frag} {f:FE} {τ:Sv} {H:Hp} {Q:VK} (h:trD K (toD f) τ H Q):trE K f τ H Q:=by
 obtain ⟨L,σ,M,d,M',c,rs,hf,q⟩:=h;unfold toD at hf;split at hf
 ·rename_i d' M1 e1;cases hf;exact ⟨L,σ,M,_,_,c,rs,e1,fun L' H' v s c' r=>q L' H' v s c' r⟩
 ·rename_i xs M1 e1;cases hf;refine ⟨L,σ,M,_,_,c,rs,e1,fun L' H' v s c' r=>?_⟩;obtain ⟨p,vs,rfl,e0,e2,e3,r⟩:=r;obtain ⟨c2,s2⟩:=zPn s c' e0 e2 e3 r;exact q _ H' _ s2 c2 (Rep.last c')
 ·cases hf
def zAw:FS:=fun σ M=>some (.nx,σ,M)
def zS (f g:FS):FS:=fun σ M=>match f σ M with
 | some (.nx,σ1,M1)=>g σ1 M1
 | r=>r
def sIf (c:FT) (f g:FS):FS:=fun σ M=>match c σ M with
 | some (true,M1)=>f σ M1
 | some (false,M1)=>g σ M1
 | none=>none
def zr (f:FE):FS:=fun σ M=>match toD f σ M with
 | some (d,M1)=>some (.ret d,σ,M1)
 | none=>none
def zAF (i:Nat) (f:FE):FS:=fun σ M=>match toD f σ M with
 | some (d,M1)=>some (.nx,σ.set i (some d),M1)
 | none=>none
def zDC (f:FE):FS:=fun σ M=>match f σ M with
 | some (_,M1)=>some (.nx,σ,M1)
 | none=>none
section
variable {X:Cx} {st:Stmt} {rest:List Stmt} {e c:Expr} {pos:Pos}
theorem zCz:QSs X [] zAw:=.mk <| PSs.imp zKX fun E τ H zz=>by
 obtain ⟨L,σ,M,o,σ',M',c,rs,hf,q⟩:=zz;unfold zAw at hf;cases hf;exact q L H (.refl L H) c τ rs
theorem zDo (h1:QS X st f) (h2:QSs X rest g):QSs X (st :: rest) (zS f g):=.mk <| PSs.imp (zGH h1.un h2.un) fun E τ H zz=>by
 obtain ⟨L,σ,M,o,σ',M',c,rs,hf,q⟩:=zz;unfold zS at hf;split at hf
 ·rename_i σ1 M1 e1;refine ⟨L,σ,M,_,_,_,c,rs,e1,fun L1 H1 s1 c1 τ1 r1=>⟨L1,σ1,M1,_,_,_,c1,r1,hf,fun L2 H2 s2 c2=>q L2 H2 (s1.trans s2) c2⟩⟩
 ·rename_i hne;refine ⟨L,σ,M,_,_,_,c,rs,hf,fun L1 H1 s1 c1=>?_⟩;have z:=q L1 H1 s1 c1;cases o with
  | nx=>exact absurd hf (hne σ' M')
  | ret d=>exact z
  | brk=>exact z
  | cnt=>exact z
theorem zEA (h1:QS X st f):QSs X [st] f:=.mk <| PSs.imp (zFd h1.un) fun _ _ _ h=>h
theorem zLi (hc:QT X c fc) (ha:QSs X a f) (hb:QSs X b g):QS X (.If c a b pos) (sIf fc f g):=.mk <| PS.imp (zMW hc.un ha.un hb.un) fun E τ H zz=>by
 obtain ⟨L,σ,M,o,σ',M',c,rs,hf,q⟩:=zz;unfold sIf at hf;split at hf
 ·rename_i M1 e1;refine ⟨L,σ,M,_,_,c,rs,e1,fun L1 H1 s1 c1=>?_⟩;exact zHl ⟨L1,σ,M1,_,_,_,c1,rs.stp s1,hf,fun L2 H2 s2 c2=>q L2 H2 (s1.trans s2) c2⟩
 ·rename_i M1 e1;refine ⟨L,σ,M,_,_,c,rs,e1,fun L1 H1 s1 c1=>?_⟩;exact zHa ⟨L1,σ,M1,_,_,_,c1,rs.stp s1,hf,fun L2 H2 s2 c2=>q L2 H2 (s1.trans s2) c2⟩
 ·cases hf
theorem zEU (h:QE X e f):QS X (.Return (some e) pos) (zr f):=.mk <| PS.imp (zNG (zAZ h).un) fun E τ H zz=>by
 obtain ⟨L,σ,M,o,σ',M',c,rs,hf,q⟩:=zz;unfold zr at hf;split at hf
 ·rename_i d M1 e1;cases hf;exact ⟨L,σ,M,_,_,c,rs,e1,fun L1 H1 v s1 c1 r1=>q L1 H1 s1 c1 v r1⟩
 ·cases hf
theorem zIZ {K:PySem.W.Frag} {i:Nat} {f:FE} {t:TE} (ht:∀ τ H Q,trE K f τ H Q -> t τ H Q) {E:Ends} {τ:Sv} {H:Hp} (h:trS K (zAF i f) E τ H):zOR t (zDy i) E τ H:=by
 obtain ⟨L,σ,M,o,σ',M',c,rs,hf,q⟩:=h;unfold zAF at hf;split at hf
 ·rename_i d M1 e1;cases hf;exact ht _ _ _ (zOA ⟨L,σ,M,_,_,c,rs,e1,fun L1 H1 v s1 c1 r1=>q L1 H1 s1 c1 _ ((rs.stp s1).set r1)⟩)
 ·cases hf
theorem zSQ {i:Nat} {x:Str} {f:FE} {pos':Pos} (hN:X.N.Nodup) (hi:X.N[i]? = some x) (hx:Loc X.env.scope x) (h:QE X e f) (hs:swapsWith e (some (.Name x pos')) pos.line X.env = pure false:=by rfl)
  (hf:X.fn x = true \/ X.env.scope.names.lookup x = some .local:=by first | exact .inl rfl | exact .inr rfl | assumption):QS X (.Assign [.Name x pos'] e pos) (zAF i f) :=
 .mk <| PS.imp (zHk hN hi hx h.un hs hf) fun _ _ _ z=>zIZ (fun _ _ _ z=>z) z
theorem zQB (h:QE X e f) (hs:swapsWith e none pos.line X.env = pure false:=by rfl):QS X (.Expr e pos) (zDC f):=.mk <| PS.imp (zOy h.un hs) fun E τ H zz=>by
 obtain ⟨L,σ,M,o,σ',M',c,rs,hf,q⟩:=zz;unfold zDC at hf;split at hf
 ·rename_i d M1 e1;cases hf;exact ⟨L,σ,M,_,_,c,rs,e1,fun L1 H1 v s1 c1 r1=>q L1 H1 s1 c1 τ (rs.stp s1)⟩
 ·cases hf
abbrev FG:=D -> Sd -> Option Sd
def GOk (g:TG) (fg:FG):Prop:=∀ {L:List Addr} {H:Hp} {σ σ':Sd} {τ:Sv} {d:D} {v:V} {Q:Sv -> Hp -> Prop},zA0 L H σ τ -> Rep L H d v -> fg d σ = some σ' -> (∀ τ',zA0 L H σ' τ' -> Q τ' H) -> g v τ H Q
def gN (i:Nat):FG:=fun d σ=>some (σ.set i (some d))
theorem zOK:GOk (zDy i) (gN i):=by
 intro L H σ σ' τ d v Q rs r hf q;unfold gN at hf;cases hf;exact q _ (rs.set r)
abbrev FI:=Sd -> Mem -> Option (List D × Option (Mem -> Prop) × Mem)
def zBJ (g:Option (Mem -> Prop)) (xs:List D) (M:Mem):Prop:=match g with
 | none=>True
 | some p=>p M
def zSK (K:PySem.W.Frag) (J:It) (L:List Addr) (H:Hp) (xs:List D) (g:Option (Mem -> Prop)):Prop:=∀ L' H' M',Stp L H L' H' -> Cor K L' M' H' -> zBJ g xs M' ->
 (∀ (i:Nat) d,xs[i]? = some d -> J.go i H' /\ ∀ v H'',J.yld i H' v H'' -> (∀ a o,H' a = some o -> H'' a = some o) /\ Rep L' H'' d v) /\ J.stop xs.length H'
def trI (K:PySem.W.Frag) (f:FI):TI:=fun τ H R=>∃ L σ M xs g M',Cor K L M H /\ zA0 L H σ τ /\ f σ M = some (xs,g,M') /\ ∀ L' H' J,Stp L H L' H' -> Cor K L' M' H' -> zSK K J L' H' xs g -> R J H'
structure QI (X:Cx) (tg e:Expr) (f:FI):Prop where
 un:PI X tg e (trI X.K f)
theorem PI.imp (h:PI X tg e t) (hi:∀ τ H R,t' τ H R -> t τ H R):PI X tg e t':=fun zB s σ H R I q=>h zB s σ H R I (hi _ _ _ q)
noncomputable def zCZ (g:FG) (b:FS) (all:List D) (gd:Option (Mem -> Prop)):List D -> Sd -> Mem -> Option (Out × Sd × Mem)
 | [],σ,M=>open Classical in if zBJ gd all M then some (.nx,σ,M) else none
 | x :: r,σ,M=>open Classical in if zBJ gd all M then match g x σ with
   | some σ1=>match b σ1 M with
    | some (.nx,σ2,M2)=>zCZ g b all gd r σ2 M2
    | some (.cnt,σ2,M2)=>zCZ g b all gd r σ2 M2
    | some (.brk,σ2,M2)=>some (.nx,σ2,M2)
    | some (.ret d,σ2,M2)=>some (.ret d,σ2,M2)
    | none=>none
   | none=>none
  else none
noncomputable def zFY (fi:FI) (g:FG) (b:FS):FS:=fun σ M=>match fi σ M with
 | some (xs,gd,M1)=>zCZ g b xs gd xs σ M1
 | none=>none
theorem zE6 {α:Type} {xs:List α} (h:i < xs.length):xs.drop i = xs[i] :: xs.drop (i + 1):=zXR h
theorem Stp.yld (s:Stp L H L' H') (h:∀ a o,H' a = some o -> H'' a = some o):Stp L H L' H'':=s.trans (.grow h)
theorem zNp {K:PySem.W.Frag} {fi:FI} {g:TG} {fg:FG} {b:FS} (hg:GOk g fg) {E:Ends} {τ:Sv} {H:Hp} (h:trS K (zFY fi fg b) E τ H):zRi (trI K fi) g (trS K b) E τ H:=by
 obtain ⟨L,σ,M,o,σf,Mf,c,rs,hf,q⟩:=h;unfold zFY at hf;split at hf
 ·rename_i xs gd M1 e1;refine ⟨L,σ,M,_,_,_,c,rs,e1,fun L1 H1 J s1 c1 it=>?_⟩
  refine ⟨fun i m τ' H'=>m = xs.length - i /\ i <= xs.length /\ ∃ L' σ' M',Stp L1 H1 L' H' /\ Cor K L' M' H' /\ zA0 L' H' σ' τ' /\ zCZ fg b xs gd (xs.drop i) σ' M' = some (o,σf,Mf),
   ⟨xs.length,by simp,Nat.zero_le _,L1,σ,M1,.refl _ _,c1,rs.stp s1,by simpa using hf⟩,?_⟩
  rintro i m τ' H' ⟨rfl,hi,L',σ',M',s',c',rs',e'⟩;by_cases hlt:i < xs.length
  ·rw [zE6 hlt] at e';unfold zCZ at e';split at e'
   ·rename_i hgd;obtain ⟨step,_⟩:=it L' H' M' s' c' hgd;obtain ⟨go,yl⟩:=step i xs[i] (zTO hlt);cases eg:fg xs[i] σ' with
    | none=>rw [eg] at e'; cases e'
    | some σ1=>
     rw [eg] at e';dsimp only at e';refine .inr ⟨go,fun τ2 H2=>∃ L2 σ2 M2,Stp L1 H1 L2 H2 /\ Cor K L2 M2 H2 /\ zA0 L2 H2 σ2 τ2 /\ zCZ fg b xs gd (xs.drop (i + 1)) σ2 M2 = some (o,σf,Mf),fun τ2 H2 ⟨L2,σ2,M2,a1,a2,a3,a4⟩=>⟨xs.length - (i + 1),by omega,rfl,hlt,L2,σ2,M2,a1,a2,a3,a4⟩,fun v H2 hy=>?_⟩;obtain ⟨gr,rv⟩:=yl v H2 hy;refine hg (zA0.stp (.grow gr) rs') rv eg fun τ2 r2=>?_;cases eb:b σ1 M' with
     | none=>rw [eb] at e'; cases e'
     | some r=>
      obtain ⟨o2,σ2,M2⟩:=r;rw [eb] at e';refine ⟨L',σ1,M',_,_,_,c'.grow gr,r2,eb,fun L3 H3 s3 c3=>?_⟩;have s13:Stp L1 H1 L3 H3:=(s'.yld gr).trans s3;cases o2 with
      | nx=>exact fun τ3 r3=>⟨L3,σ2,M2,s13,c3,r3,e'⟩
      | cnt=>exact fun τ3 r3=>⟨L3,σ2,M2,s13,c3,r3,e'⟩
      | brk=>cases e'; exact q L3 H3 (s1.trans s13) c3
      | ret d=>cases e'; exact q L3 H3 (s1.trans s13) c3
   ·cases e'
  ·have hi':i = xs.length:=by omega
   subst hi';rw [List.drop_length] at e';unfold zCZ at e';split at e'
   ·rename_i hgd;cases e';obtain ⟨_,stop⟩:=it L' H' _ s' c' hgd;exact .inl ⟨stop,q L' H' (s1.trans s') c' τ' rs'⟩
   ·cases e'
 ·cases hf
theorem zPk (hg:GOk g fg) (hp:PassesOwn (model X.prog X.w) X.A X.env X.xe) (hc:X.calm = true) (hi:QI X tg iter fi) (ht:PG X tg g) (hb:QSs X body b)
  (hs:∀ x,foldedSetIterable iter X.env x = pure x:=by intro _; rfl):QS X (.For tg iter body [] pos) (zFY fi fg b):=.mk <| PS.imp (zOB hp hc hi.un ht hb.un hs) fun _ _ _ h=>zNp hg h
end
section
variable {X:Cx} {e c iter tg elt:Expr} {pos:Pos} {scope:Scope} {ifs:List Expr}
def zBq (c:FT) (b:FS):Nat -> Sd -> Mem -> Option (Out × Sd × Mem)
 | 0,_,_=>none
 | n + 1,σ,M=>match c σ M with
  | some (true,M1)=>match b σ M1 with
   | some (.nx,σ2,M2)=>zBq c b n σ2 M2
   | some (.cnt,σ2,M2)=>zBq c b n σ2 M2
   | some (.brk,σ2,M2)=>some (.nx,σ2,M2)
   | some (.ret d,σ2,M2)=>some (.ret d,σ2,M2)
   | none=>none
  | some (false,M1)=>some (.nx,σ,M1)
  | none=>none
theorem zKC {K:PySem.W.Frag} {fc:FT} {b:FS} {n:Nat} {E:Ends} {τ:Sv} {H:Hp} (h:trS K (zBq fc b n) E τ H):zN0 (trT K fc) (trS K b) E τ H:=by
 obtain ⟨L,σ,M,o,σf,Mf,c,rs,hf,q⟩:=h;refine ⟨fun m τ' H'=>∃ L' σ' M',Stp L H L' H' /\ Cor K L' M' H' /\ zA0 L' H' σ' τ' /\ zBq fc b m σ' M' = some (o,σf,Mf),⟨n,L,σ,M,.refl _ _,c,rs,hf⟩,?_⟩;rintro m τ' H' ⟨L',σ',M',s',c',rs',e'⟩;cases m with
 | zero=>unfold zBq at e'; cases e'
 | succ m=>
  unfold zBq at e';split at e'
  ·rename_i M1 e1;refine ⟨L',σ',M',_,_,c',rs',e1,fun L1 H1 s1 c1=>zHl ?_⟩;refine ⟨fun τ2 H2=>∃ L2 σ2 M2,Stp L H L2 H2 /\ Cor K L2 M2 H2 /\ zA0 L2 H2 σ2 τ2 /\ zBq fc b m σ2 M2 = some (o,σf,Mf),fun τ2 H2 h2=>⟨m,Nat.lt_succ_self m,h2⟩,?_⟩;cases eb:b σ' M1 with
   | none=>rw [eb] at e'; cases e'
   | some r=>
    obtain ⟨o2,σ2,M2⟩:=r;rw [eb] at e';refine ⟨L1,σ',M1,_,_,_,c1,rs'.stp s1,eb,fun L3 H3 s3 c3=>?_⟩;have s13:Stp L H L3 H3:=(s'.trans s1).trans s3;cases o2 with
    | nx=>exact fun τ3 r3=>⟨L3,σ2,M2,s13,c3,r3,e'⟩
    | cnt=>exact fun τ3 r3=>⟨L3,σ2,M2,s13,c3,r3,e'⟩
    | brk=>cases e'; exact q L3 H3 s13 c3
    | ret d=>cases e'; exact q L3 H3 s13 c3
  ·rename_i M1 e1;cases e';exact ⟨L',_,M',_,_,c',rs',e1,fun L1 H1 s1 c1=>zHa (q L1 H1 (s'.trans s1) c1 τ' (rs'.stp s1))⟩
  ·cases e'
theorem zPH (n:Nat) (hp:PassesOwn (model X.prog X.w) X.A X.env X.xe) (hc:QT X c fc) (hb:QSs X body b):QS X (.While c body [] pos) (zBq fc b n) :=
 .mk <| PS.imp (zMz hp hc.un hb.un) fun _ _ _ h=>zKC h
def zJB (own:List Nat) (σ:Sd):Sd:=own.foldl (fun σ i=>σ.set i none) σ
theorem zKO:∀ (own:List Nat) {σ:Sd} {τ:Sv},zA0 L H σ τ -> zA0 L H (zJB own σ) (clr own τ)
 | [],_,_,h=>h
 | i :: r,σ,τ,h=>by
  refine zKO r (σ:=σ.set i none) (τ:=τ.set i none) ⟨by simp [h.1],fun j d q=>?_⟩;rw [zUy] at q ⊢;split at q
  ·split at q <;> cases q
  ·rename_i z;rw [zTc z];exact h.2 j d q
noncomputable def zCD (g:FG) (tc:FT) (te:FE) (σ:Sd) (all:List D) (gd:Option (Mem -> Prop)):List D -> Mem -> Option (List D × Mem)
 | [],M=>open Classical in if zBJ gd all M then some ([],M) else none
 | x :: r,M=>open Classical in if zBJ gd all M then match g x σ with
   | some σ1=>match tc σ1 M with
    | some (true,M1)=>match toD te σ1 M1 with
     | some (d,M2)=>match zCD g tc te σ all gd r M2 with
      | some (ds,M3)=>some (d :: ds,M3)
      | none=>none
     | none=>none
    | some (false,M1)=>zCD g tc te σ all gd r M1
    | none=>none
   | none=>none
  else none
noncomputable def zv (own:List Nat) (fi:FI) (g:FG) (tc:FT) (te:FE):FE:=fun σ M=>match fi σ M with
 | some (xs,gd,M1)=>if xs.length <= sizeLine then match zCD g tc te (zJB own σ) xs gd xs M1 with
   | some (ys,M2)=>some (.fl ys,M2)
   | none=>none
  else none
 | none=>none
def zMR (own:List Nat) (g:TG) (fg:FG):Prop:=∀ {L:List Addr} {H:Hp} {σ σ':Sd} {τ τ0:Sv} {d:D} {v:V} {Q:Sv -> Hp -> Prop},zA0 L H σ τ -> Ext (clr own τ0) τ -> Rep L H d v -> fg d σ = some σ' -> (∀ τ',zA0 L H σ' τ' -> Ext (clr own τ0) τ' -> Q τ' H) -> g v τ H Q
theorem zCf (hi:i ∈ own):zMR own (zDy i) (gN i):=by
 intro L H σ σ' τ τ0 d v Q rs ex r hf q;unfold gN at hf;cases hf;exact q _ (rs.set r) (ex.set hi)
theorem zG2 {K:PySem.W.Frag} {own:List Nat} {fi:FI} {g:TG} {fg:FG} {tc:FT} {te:FE} (hg:zMR own g fg) {τ:Sv} {H:Hp} {Q:VK} (h:trE K (zv own fi fg tc te) τ H Q):zNg own (trI K fi) g (trT K tc) (trD K (toD te)) τ H Q:=by
 obtain ⟨L,σ,M,d,Mf,c,rs,hf,q⟩:=h;unfold zv at hf;split at hf
 ·rename_i xs gd M1 e1;split at hf
  ·rename_i hz;split at hf
   ·rename_i zs M2 e2;cases hf;refine ⟨L,σ,M,_,_,_,c,rs,e1,fun L1 H1 J s1 c1 it=>?_⟩
    refine ⟨fun i m ys H'=>m = xs.length - i /\ i <= xs.length /\ ∃ L' M' as bs,Stp L1 H1 L' H' /\ Cor K L' M' H' /\ zL L' H' as ys /\ as.length <= i /\ zCD fg tc te (zJB own σ) xs gd (xs.drop i) M' = some (bs,Mf) /\ as ++ bs = zs,
     ⟨xs.length,by simp,Nat.zero_le _,L1,M1,[],zs,.refl _ _,c1,.nil,zTQ _,by simpa using e2,rfl⟩,?_⟩
    rintro i m ys H' ⟨rfl,hi,L',M',as,bs,s',c',r',hl,e',hab⟩;have hys:ys.length <= i:=by rw [r'.length]; exact hl
    by_cases hlt:i < xs.length
    ·rw [zE6 hlt] at e';unfold zCD at e';split at e'
     ·rename_i hgd;obtain ⟨step,_⟩:=it L' H' M' s' c' hgd;obtain ⟨go,yl⟩:=step i xs[i] (zTO hlt);split at e'
      ·rename_i σ1 eg;refine .inr ⟨go,fun v H2 hy=>?_⟩;obtain ⟨gr,rv⟩:=yl v H2 hy;have s2:Stp L1 H1 L' H2:=s'.yld gr;refine hg (zKO own ((rs.stp s1).stp s2)) (.refl _) rv eg fun τ2 r2 x2=>⟨x2,?_⟩;split at e'
       ·rename_i M3 e3;split at e'
        ·rename_i d M4 e4;split at e'
         ·rename_i ds M5 e5;cases e';refine ⟨L',σ1,M',_,_,c'.grow gr,r2,e3,fun L3 H3 s3 c3=>zHl ?_⟩;refine ⟨L3,σ1,M3,_,_,c3,r2.stp s3,e4,fun L4 H4 w s4 c4 r4=>?_⟩;have st:Stp L' H' L4 H4:=((Stp.grow gr).trans s3).trans s4;refine ⟨Nat.lt_of_le_of_lt hys (zTj hlt hz),xs.length - (i + 1),by omega,rfl,hlt,L4,M4,as ++ [d],ds,s'.trans st,c4,(r'.stp st).app (.cons r4 .nil),by simp; omega,e5,by rw [<- hab]; simp⟩
         ·cases e'
        ·cases e'
       ·rename_i M3 e3;refine ⟨L',σ1,M',_,_,c'.grow gr,r2,e3,fun L3 H3 s3 c3=>zHa ?_⟩;have st:Stp L' H' L3 H3:=(Stp.grow gr).trans s3;exact ⟨xs.length - (i + 1),by omega,rfl,hlt,L3,M3,as,bs,s'.trans st,c3,r'.stp st,by omega,e',hab⟩
       ·cases e'
      ·cases e'
     ·cases e'
    ·have hi':i = xs.length:=by omega
     subst hi';rw [List.drop_length] at e';unfold zCD at e';split at e'
     ·rename_i hgd;cases e';obtain ⟨_,stop⟩:=it L' H' _ s' c' hgd;refine .inl ⟨stop,zTl hys hz,fun p hp=>?_⟩;rw [zT9] at hab;subst hab;exact q L' _ _ ((s1.trans s').trans (.upd hp)) (c'.upd hp) (zd.newLst (s1.trans s') c c' hp r')
     ·cases e'
   ·cases hf
  ·cases hf
 ·cases hf
structure QIfs (X:Cx) (ifs:List Expr) (f:FT):Prop where
 un:zMt X ifs (trT X.K f)
def zAH:FT:=fun _ M=>some (true,M)
theorem zFx:QIfs X [] zAH:=.mk fun zB s σ H Q I h=>by
 obtain ⟨L,σ',M,d,M',c,rs,hf,q⟩:=h;unfold zAH at hf;cases hf;exact zNS zB s σ H Q I (q L H (.refl L H) c)
theorem zQd (h:QT X c f):QIfs X [c] f:=.mk (zN1 h.un)
structure QParts (X:Cx) (scope:Scope) (tg:Expr) (ifs:List Expr) (elt:Expr) (g:TG) (tc:FT) (te:FE):Prop where
 g:∀ zB cl s H fp,PG (zAf X zB scope cl s H fp) tg g
 c:∀ zB cl s H fp,QIfs (zAf X zB scope cl s H fp) ifs tc
 e:∀ zB cl s H fp,QE (zAf X zB scope cl s H fp) elt te
theorem QParts.parts {g:TG} {tc:FT} {te:FE} (p:QParts X scope tg ifs elt g tc te):CompParts X scope tg ifs elt g (trT X.K tc) (trD X.K (toD te)) :=
 ⟨p.g,fun zB cl s H fp=>(p.c zB cl s H fp).un,fun zB cl s H fp=>(zAZ (p.e zB cl s H fp)).un⟩
theorem zED (hg:zMR own g fg) (C:CompIn X scope own) (hcalm:X.calm = true) (hi:QI X tg iter fi) (p:QParts X scope tg ifs elt g tc te) (hs:∀ x,foldedSetIterable iter X.env x = pure x:=by intro _; rfl) :
  QE X (.ListComp elt [⟨tg,iter,ifs,0⟩] scope pos) (zv own fi fg tc te):=.mk <| PE.imp (zPA C hcalm hi.un p.parts hs) fun _ _ _ h=>zG2 hg h
theorem zG9 (hN:X.N.Nodup) (hi':X.N[i]? = some x) (hx:Loc X.env.scope x) (hfn:X.fn x = true \/ X.env.scope.names.lookup x = some .local)
  (hsw:swapsWith (.ListComp elt [⟨tg,iter,ifs,0⟩] scope pos) (some (.Name x pos')) pos''.line X.env = pure true)
  (hg:zMR own g fg) (C:CompIn X scope own) (hcalm:X.calm = true) (hi:QI X tg iter fi) (p:QParts X scope tg ifs elt g tc te) (hs:∀ x,foldedSetIterable iter X.env x = pure x:=by intro _; rfl) :
  QS X (.Assign [.Name x pos'] (.ListComp elt [⟨tg,iter,ifs,0⟩] scope pos) pos'') (zAF i (zv own fi fg tc te)) :=
 .mk <| PS.imp (zJk hN hi' hx hfn C hcalm hi.un p.parts hsw hs) fun _ _ _ z=>zIZ (fun _ _ _ z=>zG2 hg z) z
end
abbrev FF:=List D -> Mem -> Option (D × Mem)
def spF (K:PySem.W.Frag) (n:Nat) (g:FF):Sp:=fun vs H Q _=>∃ L ds M d M',Cor K L M H /\ zL L H ds vs /\ ds.length = n /\ g ds M = some (d,M') /\ ∀ L' H' v,Stp L H L' H' -> Cor K L' M' H' -> Rep L' H' d v -> Q v H'
def zW (g:FF) (fa:FA):FE:=fun σ M=>match fa σ M with
 | some (ds,M1)=>match g ds M1 with
  | some (d,M2)=>some (.dat d,M2)
  | none=>none
 | none=>none
section
variable {X:Cx} {e:Expr} {es:List Expr} {pos p:Pos} {x:Str} {k:Nat} {f:Addr} {fd:FuncData} {ps:List Str}
theorem zQ1 (F:FnOk X.prog X.w X.K X.mg X.base CX0 k f fd ps (spF X.K (e :: es).length g)) (hr:Room k X.A) (hg:Gl X x) (hm:X.mg x = some (.ref f)) (hk:PySem.W.keepIn X.K (.ref f) = true) (hb:zCI X.K fd ps [])
  (ha:QA X (e :: es) fa) (hl:∀ σ M ds M1,fa σ M = some (ds,M1) -> ds.length = (e :: es).length) (hdb:(x == ("__debug__" : Str)) = false:=by decide) (he:starEach (e :: es) X.env = (false,eval e X.env) :: starEach es X.env:=by rfl) (hpl:(backTo pos (starEach es X.env)).any (·.1) = false:=by rfl) :
  QE X (.Call (.Name x p) (e :: es) [] pos) (zW g fa) :=
 .mk <| PE.imp (zKq F hr hg hm hk hb .nil zR6 ha.un hdb he hpl) fun τ H Q zz=>by
  obtain ⟨L,σ,M,d,M',c,rs,hf,q⟩:=zz;unfold zW at hf;split at hf
  ·rename_i ds M1 e1;split at hf
   ·rename_i d' M2 e2;cases hf;refine ⟨L,σ,M,_,_,c,rs,e1,fun L1 H1 vs s1 c1 r1=>?_⟩;dsimp only;rw [zT9];exact ⟨L1,ds,M1,d',_,c1,r1,hl _ _ _ _ e1,e2,fun L2 H2 v s2 c2 r2=>q L2 H2 v (s1.trans s2) c2 r2⟩
   ·cases hf
  ·cases hf
def zJA (fa:FA) (n:Nat):Prop:=∀ σ M ds M1,fa σ M = some (ds,M1) -> ds.length = n
theorem zCC:zJA zH 0:=fun σ M ds M1 h=>by unfold zH at h; cases h; rfl
theorem zAY {f:FD} {g:FA} {n:Nat} (h:zJA g n):zJA (zD f g) (n + 1):=fun σ M ds M1 q=>by
 unfold zD at q;split at q
 ·split at q
  ·rename_i e2;cases q;simp [h _ _ _ _ e2]
  ·cases q
 ·cases q
def zCF (n:Nat) (b:FS):FF:=fun ds M=>match b (ds.map some ++ List.replicate (n - ds.length) none) M with
 | some (.ret d,_,M')=>some (d,M')
 | some (.nx,_,M')=>some (.non,M')
 | _=>none
theorem zCg:∀ {ds:List D} {vs:List V},zL L H ds vs -> zA0 L H (ds.map some ++ List.replicate (N.length - ds.length) none) (L2.zD4 N vs):=fun {ds vs} r=>by
 unfold L2.zD4;have hl:=r.length;refine ⟨by simp [hl],fun i d q=>?_⟩;by_cases hi:i < ds.length
 ·rw [zTR (by simpa using hi),zTh] at q;rw [zTR (by simpa [hl] using hi),zTh];cases e1:ds[i]? with
  | none=>rw [e1] at q; cases q
  | some d'=>
   rw [e1] at q; cases q;obtain ⟨v,e2,r2⟩:=r.get e1;exact ⟨v,by rw [e2]; rfl,r2⟩
 ·rw [zUZ (by simpa using hi),List.getElem?_replicate] at q;split at q <;> cases q
theorem zAq {P:Program} {w:World} {K:PySem.W.Frag} {mg:Str -> Option Value} {base:Heap} {qual:Str} {st:Stmt} {N:List Str} {b:FS} {n:Nat} (F:Fun K x qual st f fd) (S:FnScope N ps (zG st)) (hn:ps.length = n)
  (hb:∀ (cdv:Value) (A:Around) (outer:List Env) (s:Shared) (H:Hp) (E:XK),Room k (A.deeper (envOfC qual (zG st) s.heap.objs.size f cdv)) -> QSs (zIS CX0 P w K mg base N qual (zG st) f cdv A outer s H E).nox (zAj st) b) :
  FnOk P w K mg base CX0 (k + 1) f fd ps (spF K n (zCF N.length b)):=by
 refine F.ok S (fun vs H Q E h=>?_) (fun cdv A outer s H vs Q E hr h=>⟨_,(hb cdv A outer s H E hr).un,?_⟩)
 ·obtain ⟨L,ds,M,d,M',c,r,hl,_⟩:=h;rw [r.length,hl,hn]
 ·obtain ⟨L,ds,M,d,M',c,r,hl,hf,q⟩:=h;unfold zCF at hf;split at hf
  ·rename_i d' σ' M1 e1;cases hf;exact ⟨L,_,M,_,_,_,c,zCg r,e1,fun L1 H1 s1 c1 v r1=>q L1 H1 v s1 c1 r1⟩
  ·rename_i σ' M1 e1;cases hf;exact ⟨L,_,M,_,_,_,c,zCg r,e1,fun L1 H1 s1 c1 τ' r1=>q L1 H1 .non s1 c1 (by unfold Rep; rfl)⟩
  ·cases hf
mutual
def D.und (n:Nat):D -> Bool
 | .tup ds=>D.unds n ds
 | .ref k=>decide (k < n)
 | .fn _ ds=>D.unds n ds
 | _=>true
def D.unds (n:Nat):List D -> Bool
 | []=>true
 | d :: ds=>D.und n d && D.unds n ds
end
mutual
theorem Rep.less:∀ {d:D} {v:V},D.und L.length d = true -> Rep (L ++ N) H d v -> Rep L H d v
 | .non,_,_,h=>by unfold Rep at h ⊢; exact h
 | .bl _,_,_,h=>by unfold Rep at h ⊢; exact h
 | .int _,_,_,h=>by unfold Rep at h ⊢; exact h
 | .str _,_,_,h=>by unfold Rep at h ⊢; exact h
 | .tup ds,_,hb,h=>by
  unfold D.und at hb;unfold Rep at h ⊢;obtain ⟨a,vs,rfl,e,r⟩:=h;exact ⟨a,vs,rfl,e,zL.less hb r⟩
 | .ref n,_,hb,h=>by
  unfold D.und at hb;unfold Rep at h ⊢;obtain ⟨a,rfl,e⟩:=h;exact ⟨a,rfl,by rwa [zTR (of_decide_eq_true hb)] at e⟩
 | .fn _ ds,_,hb,h=>by
  unfold D.und at hb;unfold Rep at h ⊢;exact ⟨h.1,h.2.1,zL.less hb h.2.2⟩
theorem zL.less:∀ {ds:List D} {vs:List V},D.unds L.length ds = true -> zL (L ++ N) H ds vs -> zL L H ds vs
 | [],_,_,h=>by unfold zL at h ⊢; exact h
 | d :: ds,_,hb,h=>by
  unfold D.unds at hb;rw [zTu] at hb;unfold zL at h ⊢;obtain ⟨v,r,rfl,h1,h2⟩:=h;exact ⟨v,r,rfl,Rep.less hb.1 h1,zL.less hb.2 h2⟩
end
theorem zAh.less {κ:Type} {kf:D -> Option κ} {L N:List Addr} {H:Hp}:∀ {ps:List (D × D)} {vs:List (κ × V)},(ps.all fun p=>D.und L.length p.1 && D.und L.length p.2) = true -> zAh kf (L ++ N) H ps vs -> zAh kf L H ps vs
 | [],_,_,h=>h
 | p :: r,_,hb,h=>by
  rw [List.all_cons,zTu,zTu] at hb;obtain ⟨k,v,r',rfl,e,h1,h2⟩:=h;exact ⟨k,v,r',rfl,e,Rep.less hb.1.2 h1,zAh.less hb.2 h2⟩
def MO.und (n:Nat):MO -> Bool
 | .lst xs=>D.unds n xs
 | .fro xs=>D.unds n xs
 | .dict kvs=>kvs.all fun p=>D.und n p.1 && D.und n p.2
 | .dicT kvs=>kvs.all fun p=>D.und n p.1 && D.und n p.2
 | .set xs=>D.unds n xs
 | .froT kvs=>kvs.all fun p=>D.und n p.1 && D.und n p.2
 | .froK kvs=>kvs.all fun p=>D.und n p.1 && D.und n p.2
def zCe (g:FF):FF:=fun ds M=>match g ds M with
 | some (d,M')=>if D.und M.length d && (M'.take M.length).all (MO.und M.length) && decide (M.length <= M'.length) then some (d,M'.take M.length) else none
 | none=>none
theorem zDq {P:Program} {w:World} {K:PySem.W.Frag} {mg:Str -> Option Value} {base:Heap} {n:Nat} {g:FF} (h:FnOk P w K mg base CX0 k f fd ps (spF K n g)):FnOk P w K mg base CX0 k f fd ps (spF K n (zCe g)) :=
 h.imp fun vs H Q E ⟨L,ds,M,d,M',c,r,hl,hf,q⟩=>by
  unfold zCe at hf;split at hf
  ·rename_i d' M1 e1;split at hf
   ·rename_i hb;cases hf;simp only [zTu,zUc,zTv] at hb;obtain ⟨⟨hb1,hb2⟩,hb3⟩:=hb;refine ⟨L,ds,M,_,_,c,r,hl,e1,fun L1 H1 v s1 c1 r1=>?_⟩;obtain ⟨N,rfl⟩:=s1.pre;rw [<- c.len] at hb1 hb2 hb3;refine q L H1 v ⟨⟨[],by simp⟩,fun a ha=> .inl ha,s1.old,s1.tup,s1.frz,s1.tbl⟩ ⟨?_,?_,fun i a m e2 e3=>?_,c1.tab⟩ (Rep.less hb1 r1)
    ·rw [zUn,<- c.len]; omega
    ·exact (List.nodup_append.mp c1.nd).1
    ·rw [<- c.len] at e3;have hi:i < L.length:=(zTN.mp e2).1;have hm:m ∈ M1.take L.length:=zUG e3;rw [List.getElem?_take_of_lt hi] at e3;have z:=c1.obj i a m (zDi e2) e3;have bl:=hb2 m hm;cases m with
     | lst xs=>obtain ⟨ws,e4,r4⟩:=z; exact ⟨ws,e4,zL.less bl r4⟩
     | fro xs=>obtain ⟨o,ws,e4,r4⟩:=z; exact ⟨o,ws,e4,zL.less bl r4⟩
     | dict ps=>obtain ⟨vs,e,r⟩:=z; exact ⟨vs,e,zAh.less bl r⟩
     | dicT ps=>obtain ⟨vs,e,r⟩:=z; exact ⟨vs,e,zAh.less bl r⟩
     | set _=>exact z
     | froT ps=>obtain ⟨o,vs,e,r⟩:=z; exact ⟨o,vs,e,zAh.less bl r⟩
     | froK ps=>obtain ⟨o,vs,e,r⟩:=z; exact ⟨o,vs,e,zAh.less bl r⟩
   ·cases hf
  ·cases hf
theorem zQP (hl:PE X l tl):PI X tg l (fun σ H R=>tl σ H fun x H1=>∃ a,x = .ref a /\ ((∃ xs,SqL X.K H1 a xs) /\ R (Itl X.K a) H1 \/ (∃ xs,SqT X.K H1 a xs) /\ R (Itt X.K a) H1)):=by
 intro zB s σ H R I h;refine thn (hl zB s σ H _ I h) fun v s1 ⟨y,H1,I1,r1,a,hy,h1⟩=>?_;subst hy;cases r1;have fpk:∀ b ∈ [s1.heap.objs.size],zDv X zB H1 b:=fun b hb=>by
  have e:b = s1.heap.objs.size:=by simpa using hb
  subst e;exact I1.fpOk (zTQ _) (I1.hok.fresh (zTQ _))
 rcases h1 with ⟨⟨xs,hq⟩,q⟩ | ⟨⟨xs,hq⟩,q⟩
 ·obtain ⟨its,rv,pl,hz⟩:=I1.list hq;exact wpAny_pyIter_list pl.isList ⟨s1.heap.objs.size,[s1.heap.objs.size],_,_,H1,rfl,I1.kept (t':=s1.toks) fun b o e=>zTL _ e,zLy a _,⟨_,zTU _ rfl,rfl,rfl⟩,fpk,q⟩
 ·obtain ⟨its,rv,pl,hz⟩:=I1.tuple hq;exact wpAny_pyIter_tuple (show s1.heap.IsTuple a its.toArray from pl) ⟨s1.heap.objs.size,[s1.heap.objs.size],_,_,H1,rfl,I1.kept (t':=s1.toks) fun b o e=>zTL _ e,zJq a _,⟨_,zTU _ rfl,rfl,rfl⟩,fpk,q⟩
def zD5 (x:EV) (xs:List D):Option (Mem -> Prop):=match x with
 | .dat (.ref n)=>some fun M=>M[n]? = some (.lst xs) \/ M[n]? = some (.fro xs)
 | _=>none
def zAO (f:FE):FI:=fun σ M=>match f σ M with
 | some (x,M1)=>match zAV M1 x with
  | some xs=>some (xs,zD5 x xs,M1)
  | none=>none
 | none=>none
def zBl (f:FA):FI:=fun σ M=>match f σ M with
 | some ([.int j],M1)=>if -(2 ^ 62) <= j /\ j < 2 ^ 62 then some ((List.range j.toNat).map fun (k:Nat)=>D.int k,none,M1) else none
 | some ([.int i,.int j],M1)=>if -(2 ^ 62) <= i /\ i < 2 ^ 62 /\ -(2 ^ 62) <= j /\ j < 2 ^ 62 then some ((List.range (j - i).toNat).map fun (k:Nat)=>D.int (i + k),none,M1) else none
 | _=>none
theorem zEx (h:QE X e g):QI X tg e (zAO g):=.mk <| PI.imp (zQP h.un) fun τ H R zz=>by
 obtain ⟨L,σ,M,xs,gd,M',c,rs,hf,q⟩:=zz;unfold zAO at hf;split at hf
 ·rename_i y M1 e1;split at hf
  ·rename_i zs e2;cases hf;refine ⟨L,σ,M,_,_,c,rs,e1,fun L1 H1 v s1 c1 r1=>?_⟩;unfold zAV at e2;cases t:zB7 y with
   | some ws=>
    rw [t] at e2; cases e2;obtain ⟨a,vs,rfl,e3,r3⟩:=zCM r1 t;refine ⟨a,rfl,.inr ⟨⟨vs,.of e3⟩,q L1 H1 _ s1 c1 fun L2 H2 M2 s2 c2 _=>?_⟩⟩;have e4:=s2.tup a vs e3;have r4:=r3.stp s2;refine ⟨fun i d hd=>?_,⟨vs,.of e4,by rw [r4.length]; exact zTQ _⟩⟩;obtain ⟨u,hu,ru⟩:=r4.get hd;refine ⟨⟨vs,u,.of e4,hu⟩,fun v H3 ⟨hH,hv⟩=>?_⟩;subst hH;have:=hv vs (.of e4);rw [hu] at this; cases this;exact ⟨fun _ _ z=>z,ru⟩
   | none=>
    rw [t] at e2;dsimp only at e2;obtain ⟨a,vs,rfl,e3,r3⟩:=zBG c1 r1 e2;refine ⟨a,rfl,.inl ⟨⟨vs,.inl e3⟩,q L1 H1 _ s1 c1 fun L2 H2 M2 s2 c2 hgd=>?_⟩⟩;have key:∃ vs',SqL X.K H2 a vs' /\ zL L2 H2 xs vs':=by
     cases y with
     | fl ys=>
      cases e2;obtain ⟨p',vs',hp',_,e5,e6,r6⟩:=r1;cases hp';exact ⟨vs',.of (s2.old _ _ e5 e6 (by intro _ z; cases z)),r6.stp s2⟩
     | dat d=>
      cases d with
      | ref n=>
       unfold zd Rep at r1;obtain ⟨a',ha',e5⟩:=r1;cases ha';have e6:L2[n]? = some a:=by obtain ⟨N,hN⟩:=s2.pre; rw [hN]; exact zDi e5
       rcases hgd with z | z
       ·obtain ⟨vs',e7,r7⟩:=c2.obj n a _ e6 z; exact ⟨vs',.of e7,r7⟩
       ·obtain ⟨o,vs',e7,r7⟩:=c2.obj n a _ e6 z; exact ⟨vs',.inl (.inr ⟨o,e7⟩),r7⟩
      | _=>cases e2
    obtain ⟨vs',hq,r7⟩:=key;refine ⟨fun i d hd=>?_,⟨vs',hq,by rw [r7.length]; exact zTQ _⟩⟩;obtain ⟨u,hu,ru⟩:=r7.get hd;refine ⟨⟨vs',u,hq,hu⟩,fun v H3 ⟨hH,hv⟩=>?_⟩;subst hH;have:=hv vs' hq;rw [hu] at this; cases this;exact ⟨fun _ _ z=>z,ru⟩
  ·cases hf
 ·cases hf
theorem zGn (h:zL L H [.int j] vs):vs = [.int j]:=by
 unfold zL at h;obtain ⟨v,r,rfl,h1,h2⟩:=h;unfold zL at h2;unfold Rep at h1;subst h1 h2; rfl
theorem zNx {K:PySem.W.Frag} {L:List Addr} {H:Hp} {lo:Int} {n:Nat}:zSK K (Itr lo n) L H ((List.range n).map fun (k:Nat)=>D.int (lo + k)) none:=by
 intro L' H' M' s c _;refine ⟨fun i d hd=>?_,by simp [Itr]⟩;rw [zTh] at hd;cases q:(List.range n)[i]? with
 | none=>rw [q] at hd; cases hd
 | some k=>
  rw [q] at hd; cases hd;have hi:i < n:=by have:=(zTN.mp q).1; simpa using this
  rw [List.getElem?_range hi] at q; cases q;refine ⟨hi,fun v H'' ⟨hH,hv⟩=>?_⟩;subst hH hv;exact ⟨fun _ _ z=>z,zAb⟩
theorem zLg {tg a:Expr} {g:FA} (hg:Gl X "range") (hm:X.mg "range" = none) (ha:QA X [a] g) (hl:zJA g 1) (hs:starEach [a] X.env = [(false,eval a X.env)]:=by rfl):QI X tg (.Call (.Name "range" p) [a] [] pos) (zBl g) :=
 .mk <| PI.imp (zLz hg hm ha.un hs) fun τ H R zz=>by
  obtain ⟨L,σ,M,xs,gd,M',c,rs,hf,q⟩:=zz;unfold zBl at hf;split at hf
  ·rename_i j M1 e1;split at hf
   ·rename_i hb;cases hf;refine ⟨L,σ,M,_,_,c,rs,e1,fun L1 H1 vs s1 c1 r1=>⟨j,zGn r1,hb.1,hb.2,q L1 H1 _ s1 c1 ?_⟩⟩;have z:=zNx (K:=X.K) (L:=L1) (H:=H1) (lo:=0) (n:=j.toNat);simpa using z
   ·cases hf
  ·rename_i e1;have:=hl _ _ _ _ e1;simp at this
  ·cases hf
end
section
variable {X:Cx} {a b c e:Expr} {es rest:List Expr} {pos p apos cpos:Pos}
def zBs (f g:FT):FT:=fun σ M=>match f σ M with
 | some (true,M1)=>g σ M1
 | r=>r
def zDZ (f g:FT):FT:=fun σ M=>match f σ M with
 | some (false,M1)=>g σ M1
 | r=>r
def zBC (f:FT):FT:=fun σ M=>match f σ M with
 | some (k,M1)=>some (!k,M1)
 | none=>none
structure QW (X:Cx) (e:Expr) (f:FT):Prop where
 un:PW X e (trT X.K f)
theorem PW.imp (h:PW X e t) (hi:∀ τ H Q,t' τ H Q -> t τ H Q):PW X e t':=fun wh zB s σ H Q I q=>h wh zB s σ H Q I (hi _ _ _ q)
theorem zPS (h:QT X a f):QW X (.BoolOp .And [a] pos) f:=.mk (zKw h.un)
theorem zNO (h:QT X a f):QW X (.BoolOp .Or [a] pos) f:=.mk (zQJ h.un)
theorem zQM (h1:QT X a f) (h2:QW X (.BoolOp .And (b :: rest) pos) g):QW X (.BoolOp .And (a :: b :: rest) pos) (zBs f g):=.mk <| PW.imp (zJ1 h1.un h2.un) fun τ H Q zz=>by
 obtain ⟨L,σ,M,d,M',c,rs,hf,q⟩:=zz;unfold zBs at hf;split at hf
 ·rename_i M1 e1;exact ⟨L,σ,M,_,_,c,rs,e1,fun L1 H1 s1 c1=>zHl ⟨L1,σ,M1,_,_,c1,rs.stp s1,hf,fun L2 H2 s2 c2=>q L2 H2 (s1.trans s2) c2⟩⟩
 ·rename_i hne;cases d with
  | true=>exact absurd hf (hne M')
  | false=>exact ⟨L,σ,M,_,_,c,rs,hf,fun L1 H1 s1 c1=>zHa (q L1 H1 s1 c1)⟩
theorem zNR (h1:QT X a f) (h2:QW X (.BoolOp .Or (b :: rest) pos) g):QW X (.BoolOp .Or (a :: b :: rest) pos) (zDZ f g):=.mk <| PW.imp (zSX h1.un h2.un) fun τ H Q zz=>by
 obtain ⟨L,σ,M,d,M',c,rs,hf,q⟩:=zz;unfold zDZ at hf;split at hf
 ·rename_i M1 e1;exact ⟨L,σ,M,_,_,c,rs,e1,fun L1 H1 s1 c1=>zHa ⟨L1,σ,M1,_,_,c1,rs.stp s1,hf,fun L2 H2 s2 c2=>q L2 H2 (s1.trans s2) c2⟩⟩
 ·rename_i hne;cases d with
  | false=>exact absurd hf (hne M')
  | true=>exact ⟨L,σ,M,_,_,c,rs,hf,fun L1 H1 s1 c1=>zHl (q L1 H1 s1 c1)⟩
theorem zQI (h:QW X e f):QT X e f:=.mk (PW.pt h.un)
theorem zHe (h:QT X a f):QT X (.UnaryOp .Not a pos) (zBC f):=.mk <| PT.imp (zOD h.un) fun τ H Q zz=>by
 obtain ⟨L,σ,M,d,M',c,rs,hf,q⟩:=zz;unfold zBC at hf;split at hf
 ·rename_i k M1 e1;cases hf;exact ⟨L,σ,M,_,_,c,rs,e1,fun L1 H1 s1 c1=>q L1 H1 s1 c1⟩
 ·cases hf
def zEy (f g:FE):FE:=fun σ M=>match f σ M with
 | some (.dat (.bl true),M1)=>g σ M1
 | some (.dat (.bl false),M1)=>some (.dat (.bl false),M1)
 | _=>none
def zMT (f:FE):FE:=fun σ M=>match f σ M with
 | some (.dat (.bl k),M1)=>some (.dat (.bl (!k)),M1)
 | _=>none
theorem zA6 (h:zd H0 L H (.dat (.bl k)) v):v = .bl k:=by unfold zd Rep at h; exact h
theorem zHu {op} (h:QE X a f):QE X (.BoolOp op [a] pos) f:=.mk (zRU h.un)
theorem zGA (h1:QE X a f) (h2:QE X (.BoolOp .And (b :: rest) pos) g):QE X (.BoolOp .And (a :: b :: rest) pos) (zEy f g):=.mk <| PE.imp (zRO h1.un h2.un) fun τ H Q zz=>by
 obtain ⟨L,σ,M,d,M',c,rs,hf,q⟩:=zz;unfold zEy at hf;split at hf
 ·rename_i M1 e1;exact ⟨L,σ,M,_,_,c,rs,e1,fun L1 H1 v s1 c1 r1=>⟨true,zA6 r1,zHl ⟨L1,σ,M1,_,_,c1,rs.stp s1,hf,fun L2 H2 w s2 c2 r2=>q L2 H2 w (s1.trans s2) c2 (r2.back s1 c s2.sub)⟩⟩⟩
 ·rename_i M1 e1;cases hf;exact ⟨L,σ,M,_,_,c,rs,e1,fun L1 H1 v s1 c1 r1=>⟨false,zA6 r1,zHa (q L1 H1 _ s1 c1 (by have:=zA6 r1; subst this; exact r1))⟩⟩
 ·cases hf
theorem zQu (h:QE X a f):QE X (.UnaryOp .Not a pos) (zMT f):=.mk <| PE.imp (zQy h.un) fun τ H Q zz=>by
 obtain ⟨L,σ,M,d,M',c,rs,hf,q⟩:=zz;unfold zMT at hf;split at hf
 ·rename_i k M1 e1;cases hf;exact ⟨L,σ,M,_,_,c,rs,e1,fun L1 H1 v s1 c1 r1=>⟨k,zA6 r1,q L1 H1 _ s1 c1 (by unfold zd Rep; rfl)⟩⟩
 ·cases hf
def vIf (t:FT) (f g:FE):FE:=fun σ M=>match t σ M with
 | some (true,M1)=>f σ M1
 | some (false,M1)=>g σ M1
 | none=>none
theorem zOp (hc:QT X c t) (h1:QE X a f) (h2:QE X b g):QE X (.IfExp c a b pos) (vIf t f g):=.mk <| PE.imp (zMM hc.un h1.un h2.un) fun τ H Q zz=>by
 obtain ⟨L,σ,M,d,M',c,rs,hf,q⟩:=zz;unfold vIf at hf;split at hf
 ·rename_i M1 e1;exact ⟨L,σ,M,_,_,c,rs,e1,fun L1 H1 s1 c1=>zHl ⟨L1,σ,M1,_,_,c1,rs.stp s1,hf,fun L2 H2 w s2 c2 r2=>q L2 H2 w (s1.trans s2) c2 (r2.back s1 c s2.sub)⟩⟩
 ·rename_i M1 e1;exact ⟨L,σ,M,_,_,c,rs,e1,fun L1 H1 s1 c1=>zHa ⟨L1,σ,M1,_,_,c1,rs.stp s1,hf,fun L2 H2 w s2 c2 r2=>q L2 H2 w (s1.trans s2) c2 (r2.back s1 c s2.sub)⟩⟩
 ·cases hf
abbrev KM:=EV -> List D -> Mem -> Option (D × Mem)
def fM (k:KM) (f:FE) (g:FA):FE:=fun σ M=>match f σ M with
 | some (x,M1)=>match zA3 M1 x with
  | some _=>match g σ M1 with
   | some (ds,M2)=>match k x ds M2 with
    | some (d,M3)=>some (.dat d,M3)
    | none=>none
   | none=>none
  | none=>none
 | none=>none
def zO0 (K:PySem.W.Frag) (r:V -> List V -> Hp -> VK -> Prop) (k:KM):Prop:=∀ {L:List Addr} {M M':Mem} {H H0:Hp} {x:EV} {ds:List D} {d:D} {v:V} {vs:List V} {Q:VK},Cor K L M H -> zd H0 L H x v -> zL L H ds vs -> k x ds M = some (d,M') ->
 (∀ L' H' u,Stp L H L' H' -> Cor K L' M' H' -> Rep L' H' d u -> Q u H') -> r v vs H Q
theorem zJs {K:PySem.W.Frag} {r:V -> List V -> Hp -> VK -> Prop} {k:KM} {f:FE} {g:FA} (hk:zO0 K r k) {τ:Sv} {H:Hp} {Q:VK} (h:trE K (fM k f g) τ H Q):tBM K "list" r (trE K f) (trA K g) τ H Q:=by
 obtain ⟨L,σ,M,d,M',c,rs,hf,q⟩:=h;unfold fM at hf;split at hf
 ·rename_i x M1 e1;split at hf
  ·rename_i xs e2;split at hf
   ·rename_i ds M2 e3;split at hf
    ·rename_i d' M3 e4;cases hf;refine ⟨L,σ,M,_,_,c,rs,e1,fun L1 H1 v s1 c1 r1=>?_⟩;obtain ⟨a,vs,rfl,e5,r5⟩:=zBG c1 r1 e2;refine ⟨.inl ⟨rfl,vs,.inl e5⟩,L1,σ,M1,_,_,c1,rs.stp s1,e3,fun L2 H2 ws s2 c2 r2=>?_⟩;exact hk c2 (r1.stp s2) r2 e4 fun L3 H3 u s3 c3 r3=>q L3 H3 u ((s1.trans s2).trans s3) c3 r3
    ·cases hf
   ·cases hf
  ·cases hf
 ·cases hf
def zBV:KM:=fun x ds M=>match x,ds with
 | .dat (.ref n),[d]=>match M[n]? with
  | some (.lst xs)=>if xs.length < sizeLine then some (.non,M.set n (.lst (xs ++ [d]))) else none
  | _=>none
 | _,_=>none
theorem zL.one (h:zL L H [d] vs):∃ v,vs = [v] /\ Rep L H d v:=by
 unfold zL at h;obtain ⟨v,r,rfl,h1,h2⟩:=h;unfold zL at h2;subst h2;exact ⟨v,rfl,h1⟩
theorem zJz {K:PySem.W.Frag}:zO0 K zKh zBV:=by
 intro L M M' H H0 x ds d v vs Q c rx rd hk q;unfold zBV at hk;split at hk
 ·rename_i n d';split at hk
  ·rename_i xs e1;split at hk
   ·rename_i hz;cases hk;unfold zd Rep at rx;obtain ⟨a,rfl,e2⟩:=rx;obtain ⟨ws,e3,r3⟩:=c.obj n a _ e2 e1;obtain ⟨w,rfl,r4⟩:=rd.one;obtain ⟨c5,s5⟩:=c.write e2 e1 (r3.app (.cons r4 .nil));exact ⟨a,ws,w,rfl,rfl,e3,by rw [r3.length]; exact hz,q L _ _ s5 c5 (by unfold Rep; rfl)⟩
   ·cases hk
  ·cases hk
 ·cases hk
theorem zM1 (h:QE X a f) (hg:QA X [e] g) (hbase:attributeBase a "append" X.env (eval a X.env) = eval a X.env:=by rfl)
  (hfew:((backTo cpos (starEach [e] X.env)).all (fun x=> !x.1) && (backToKw cpos (keywordEach [] X.env)).all (fun x=>x.1.isSome) && decide ([e].length + ([]:List Keyword).length + (if ([]:List Keyword).isEmpty then 0 else 1) < 30)) = true:=by rfl)
  (hline:(apos.endLine == cpos.line) = true:=by rfl) (hs:starEach [e] X.env = (false,eval e X.env) :: starEach [] X.env:=by rfl) (hplain:(backTo cpos (starEach [] X.env)).any (·.1) = false:=by rfl) :
  QE X (.Call (.Attribute a "append" apos) [e] [] cpos) (fM zBV f g) :=
 .mk <| PE.imp (zI1 PySem.F.plainAttrs_list PySem.F.slot_list_append PySem.F.type_list_append zL2 h.un hg.un hbase hfew hline hs hplain) fun _ _ _ z=>zJs zJz z
def zIh:KM:=fun x ds M=>match x,ds with
 | .dat (.ref n),[.int i]=>match M[n]? with
  | some (.lst xs)=>match ixN xs.length i with
   | some k=>match xs[k]? with
    | some d=>if -(2 ^ 63) <= i /\ i < 2 ^ 63 then some (d,M.set n (.lst (xs.eraseIdx k))) else none
    | none=>none
   | none=>none
  | _=>none
 | _,_=>none
theorem zOS {K:PySem.W.Frag}:zO0 K zNZ zIh:=by
 intro L M M' H H0 x ds d v vs Q c rx rd hk q;unfold zIh at hk;split at hk
 ·rename_i n i;split at hk
  ·rename_i xs e1;split at hk
   ·rename_i k e2;split at hk
    ·rename_i d' e3;split at hk
     ·rename_i hb;cases hk;unfold zd Rep at rx;obtain ⟨a,rfl,e4⟩:=rx;obtain ⟨ws,e5,r5⟩:=c.obj n a _ e4 e1;obtain ⟨u,e6,r6⟩:=r5.get e3;obtain ⟨c5,s5⟩:=c.write e4 e1 (r5.eraseIdx k);exact ⟨a,ws,i,k,u,rfl,zGn rd,e5,hb.1,hb.2,by rw [r5.length]; exact (zHK e2).1,e6,q L _ _ s5 c5 (r6.stp s5)⟩
     ·cases hk
    ·cases hk
   ·cases hk
  ·cases hk
 ·cases hk
theorem zRx (h:QE X a f) (hg:QA X [e] g) (hbase:attributeBase a "pop" X.env (eval a X.env) = eval a X.env:=by rfl)
  (hfew:((backTo cpos (starEach [e] X.env)).all (fun x=> !x.1) && (backToKw cpos (keywordEach [] X.env)).all (fun x=>x.1.isSome) && decide ([e].length + ([]:List Keyword).length + (if ([]:List Keyword).isEmpty then 0 else 1) < 30)) = true:=by rfl)
  (hline:(apos.endLine == cpos.line) = true:=by rfl) (hs:starEach [e] X.env = (false,eval e X.env) :: starEach [] X.env:=by rfl) (hplain:(backTo cpos (starEach [] X.env)).any (·.1) = false:=by rfl) :
  QE X (.Call (.Attribute a "pop" apos) [e] [] cpos) (fM zIh f g) :=
 .mk <| PE.imp (zI1 PySem.F.plainAttrs_list PySem.F.slot_list_pop PySem.F.type_list_pop zMU h.un hg.un hbase hfew hline hs hplain) fun _ _ _ z=>zJs zOS z
def zI5 (x:EV) (i:D) (d:D) (M:Mem):Option Mem:=match x,i with
 | .dat (.ref n),.int i=>match M[n]? with
  | some (.lst xs)=>match ixN xs.length i with
   | some j=>some (M.set n (.lst (xs.set j d)))
   | none=>none
  | _=>none
 | _,_=>none
def zLf (fv fo fi:FE):FS:=fun σ M=>match toD fv σ M with
 | some (d,M1)=>match fo σ M1 with
  | some (x,M2)=>match toD fi σ M2 with
   | some (i,M3)=>match zI5 x i d M3 with
    | some M4=>some (.nx,σ,M4)
    | none=>none
   | none=>none
  | none=>none
 | none=>none
theorem zNU (hv:QE X v fv) (ho:QE X o fo) (hi:QE X i fi)
  (ha:∀ v,assign (.Subscript o i p) X.env v = (do
   let ov <- holding [v] (eval o X.env);let iv <- holding [v,ov] (eval i X.env);standAt p;holding [v,ov,iv] (setItem ov iv v);release [v,ov,iv] []):=by intro _; rfl)
  (hs:swapsWithSole [.Subscript o i p] v pos.line X.env = pure false:=by rfl) (hw:swappedStores [.Subscript o i p] v X.env = pure none:=by rfl) (h1:(assignEach [.Subscript o i p] X.env).map (·.2) = [assign (.Subscript o i p) X.env]:=by rfl) :
  QS X (.Assign [.Subscript o i p] v pos) (zLf fv fo fi):=.mk <| PS.imp (zRb (zAZ hv).un (zRR ho.un (zAZ hi).un zNh ha) hs hw h1) fun E τ H zz=>by
 obtain ⟨L,σ,M,out,σ',M',c,rs,hf,q⟩:=zz;unfold zLf at hf;split at hf
 ·rename_i d M1 e1;split at hf
  ·rename_i x M2 e2;split at hf
   ·rename_i j M3 e3;split at hf
    ·rename_i M4 e4;cases hf;refine ⟨L,σ,M,_,_,c,rs,e1,fun L1 H1 u s1 c1 r1=>⟨L1,σ,M1,_,_,c1,rs.stp s1,e2,fun L2 H2 w s2 c2 r2=>⟨L2,σ,M2,_,_,c2,rs.stp (s1.trans s2),e3,fun L3 H3 z s3 c3 r3=>?_⟩⟩⟩;have st:=(s1.trans s2).trans s3;unfold zI5 at e4;split at e4
     ·rename_i n k;split at e4
      ·rename_i xs e5;split at e4
       ·rename_i m e6;cases e4;have r2':=r2.stp s3;unfold zd Rep at r2';obtain ⟨a,rfl,e7⟩:=r2';obtain ⟨ws,e8,r8⟩:=c3.obj n a _ e7 e5;obtain ⟨c9,s9⟩:=c3.write e7 e5 (zL.set ((r1.stp s2).stp s3) m r8);exact ⟨a,ws,k,m,rfl,by unfold Rep at r3; exact r3,e8,by rw [r8.length]; exact e6,q L3 _ (st.trans s9) c9 τ ((rs.stp st).stp s9)⟩
       ·cases e4
      ·cases e4
     ·cases e4
    ·cases hf
   ·cases hf
  ·cases hf
 ·cases hf
def zD2:D -> Option V
 | .non=>some .non
 | .bl k=>some (.bl k)
 | .int i=>some (.int i)
 | .str x=>some (.str x)
 | _=>none
theorem zEc (h:Rep L H d v) (e:zD2 d = some u):v = u:=by
 cases d with
 | non=>cases e; unfold Rep at h; exact h
 | bl _=>cases e; unfold Rep at h; exact h
 | int _=>cases e; unfold Rep at h; exact h
 | str _=>cases e; unfold Rep at h; exact h
 | tup _=>cases e
 | ref _=>cases e
 | fn _ _=>cases e
def zJO (neg:Bool):K2:=fun x y M=>match x,y with
 | .dat d,.dat d'=>match zD2 d,zD2 d' with
  | some u,some w=>if zOl u w then some (.dat (.bl (if neg then !decide (u = w) else decide (u = w))),M) else none
  | _,_=>none
 | _,_=>none
theorem zG0 (h:zJO neg x y M = some (r,M')):∃ d d' u w,x = .dat d /\ y = .dat d' /\ zD2 d = some u /\ zD2 d' = some w /\ zOl u w = true /\ r = .dat (.bl (if neg then !decide (u = w) else decide (u = w))) /\ M' = M:=by
 unfold zJO at h;split at h
 ·rename_i d d';split at h
  ·rename_i u w e1 e2;split at h
   ·rename_i hs;cases h;exact ⟨d,d',u,w,rfl,rfl,e1,e2,hs,rfl,rfl⟩
   ·cases h
  ·cases h
 ·cases h
theorem zKt {K:PySem.W.Frag}:zA7 K rEq (zJO false):=by
 intro L M M' H H0 x y d v w Q c rx ry hk q;obtain ⟨d1,d2,u,z,rfl,rfl,e1,e2,hs,rfl,rfl⟩:=zG0 hk;have a1:=zEc rx e1;have a2:=zEc ry e2;subst a1 a2;exact ⟨hs,q L H _ (.refl L H) c (zAp (L:=L) (H:=H))⟩
theorem zOf {K:PySem.W.Frag}:zA7 K rNe (zJO true):=by
 intro L M M' H H0 x y d v w Q c rx ry hk q;obtain ⟨d1,d2,u,z,rfl,rfl,e1,e2,hs,rfl,rfl⟩:=zG0 hk;have a1:=zEc rx e1;have a2:=zEc ry e2;subst a1 a2;exact ⟨hs,q L H _ (.refl L H) c (zAp (L:=L) (H:=H))⟩
def zQh (neg:Bool) (K:PySem.W.Frag):R2:=fun x y H Q=>∃ p q xs,x = .ref p /\ y = .ref q /\ SqL K H p xs /\ SqL K H q [] /\ Q (.bl (if neg then !xs.isEmpty else xs.isEmpty)) H
theorem zH3 (r:zg [] its):its = []:=by cases r; rfl
theorem zJM (hu:X.A.units < cLine):OpR X (compareOp .Eq) (zQh false X.K):=by
 intro zB s σ H x y v u Q I rx ry h;obtain ⟨p,q,xs,rfl,rfl,h1,h2,hq⟩:=h;cases rx;cases ry;obtain ⟨its,rv,pl,_⟩:=I.list h1;obtain ⟨its2,rv2,pl2,_⟩:=I.list h2;cases zH3 rv2;cases rv with
 | nil=>exact SeqAt.eq_listAt (e:=fun _=>true) pl.isList pl2.isList rfl hu (fun j h1=>by simp at h1) ⟨.bl true,H,I,rfl,hq⟩
 | cons _ _=>exact SeqAt.eq_list_lengthsAt pl.isList pl2.isList (by simp) hu ⟨.bl false,H,I,rfl,hq⟩
theorem zMl (hu:X.A.units < cLine):OpR X (compareOp .NotEq) (zQh true X.K):=by
 intro zB s σ H x y v u Q I rx ry h;obtain ⟨p,q,xs,rfl,rfl,h1,h2,hq⟩:=h;cases rx;cases ry;obtain ⟨its,rv,pl,_⟩:=I.list h1;obtain ⟨its2,rv2,pl2,_⟩:=I.list h2;cases zH3 rv2;cases rv with
 | nil=>exact SeqAt.RcNeAt.lists (e:=fun _=>true) pl.isList pl2.isList rfl hu (fun j h1=>by simp at h1) _ _ _ _ ⟨.bl false,H,I,rfl,hq⟩
 | cons _ _=>exact SeqAt.RcNeAt.lists_lengths pl.isList pl2.isList (by simp) hu _ _ _ _ ⟨.bl true,H,I,rfl,hq⟩
def zLC (neg:Bool):K2:=fun x y M=>match zA3 M x,zA3 M y with
 | some xs,some []=>some (.dat (.bl (if neg then !xs.isEmpty else xs.isEmpty)),M)
 | _,_=>none
theorem zHE {K:PySem.W.Frag} {neg:Bool}:zA7 K (zQh neg K) (zLC neg):=by
 intro L M M' H H0 x y d v w Q c rx ry hk q;unfold zLC at hk;split at hk
 ·rename_i xs e1 e2;cases hk;obtain ⟨p1,vs,rfl,h1,r1⟩:=zBG c rx e1;obtain ⟨p2,ws,rfl,h2,r2⟩:=zBG c ry e2;unfold zL at r2;subst r2;refine ⟨p1,p2,vs,rfl,rfl,.inl h1,.inl h2,q L H _ (.refl L H) c ?_⟩;have:vs.isEmpty = xs.isEmpty:=by
   have:=r1.length;cases vs <;> cases xs <;> simp_all
  rw [this];exact (zAp (L:=L) (H:=H))
 ·cases hk
def kOr (k1 k2:K2):K2:=fun x y M=>match k1 x y M with
 | some r=>some r
 | none=>k2 x y M
theorem zH1 {K:PySem.W.Frag} {r1 r2:R2} {k1 k2:K2} (h1:zA7 K r1 k1) (h2:zA7 K r2 k2):zA7 K (fun x y H Q=>r1 x y H Q \/ r2 x y H Q) (kOr k1 k2):=by
 intro L M M' H H0 x y d v w Q c rx ry hk q;unfold kOr at hk;split at hk
 ·rename_i r e1;cases hk;exact .inl (h1 c rx ry e1 q)
 ·exact .inr (h2 c rx ry hk q)
abbrev kEq:K2:=kOr (zJO false) (zLC false)
abbrev kNe:K2:=kOr (zJO true) (zLC true)
variable {f g:FE}
theorem zOY (hu:X.A.units < cLine) (h1:QE X a f) (h2:QE X b g):QE X (.Compare a [.Eq] [b] pos) (fOp kEq f g):=zMN (zH1 zKt zHE) (zPu.or (zJM hu)) h1 h2 (zCv _)
theorem zSm (hu:X.A.units < cLine) (h1:QE X a f) (h2:QE X b g):QT X (.Compare a [.Eq] [b] pos) (tst (fOp kEq f g)):=zCk (zH1 zKt zHE) (zPu.or (zJM hu)) h1 h2 (zCv _)
theorem zPl (hu:X.A.units < cLine) (h1:QE X a f) (h2:QE X b g):QT X (.Compare a [.NotEq] [b] pos) (tst (fOp kNe f g)):=zCk (zH1 zOf zHE) (zRq.or (zMl hu)) h1 h2 (zCv _)
def zLl:KB:=fun xs M=>match xs with
 | [.dat (.int i)]=>some (.dat (.int (if i < 0 then -i else i)),M)
 | _=>none
theorem zPi {K:PySem.W.Frag}:zEz K (fun xs H Q=>∃ i,xs = [.int i] /\ Q (.int (if i < 0 then -i else i)) H) zLl:=by
 intro L M M' H H0 xs d vs Q c r hk q;unfold zLl at hk;split at hk
 ·rename_i i;cases hk;obtain ⟨v,rfl,r1⟩:=r.one;have:v = .int i:=by unfold zd Rep at r1; exact r1
  subst this;exact ⟨i,rfl,q L H _ (.refl L H) c (zAb (L:=L) (H:=H))⟩
 ·cases hk
def zN2:KB:=fun xs M=>match xs with
 | [.dat (.int i)]=>some (.dat (.int i),M)
 | [.dat (.bl k)]=>some (.dat (.int (if k then 1 else 0)),M)
 | _=>none
theorem zPI {K:PySem.W.Frag}:zEz K (fun xs H Q=>(∃ i,xs = [.int i] /\ Q (.int i) H) \/ ∃ k,xs = [.bl k] /\ Q (.int (if k then 1 else 0)) H) zN2:=by
 intro L M M' H H0 xs d vs Q c r hk q;unfold zN2 at hk;split at hk
 ·rename_i i;cases hk;obtain ⟨v,rfl,r1⟩:=r.one;have:v = .int i:=by unfold zd Rep at r1; exact r1
  subst this;exact .inl ⟨i,rfl,q L H _ (.refl L H) c (zAb (L:=L) (H:=H))⟩
 ·rename_i k;cases hk;obtain ⟨v,rfl,r1⟩:=r.one;have:=zA6 r1;subst this;exact .inr ⟨k,rfl,q L H _ (.refl L H) c (zAb (L:=L) (H:=H))⟩
 ·cases hk
end
section
variable {X:Cx} {a b c e:Expr} {es rest:List Expr} {pos p apos cpos:Pos}
theorem zM8 {prog:Program} {w:World} {A:Around} {E:Value -> Shared -> Prop} {s:Shared} {t b:Addr} {ws:List Value} {Q:Value -> Shared -> Prop} (ht:IsTup s.heap t #[]) (hb:IsTup s.heap b ws.toArray) (h1:Q (.ref b) s) :
  wpAny (model prog w) A (binaryOp .Add (.ref t) (.ref b)) Q E s:=by
 obtain ⟨⟨cls,dd,data,sl⟩,ho,hc,n,hd⟩:=id ht;obtain ⟨⟨cls2,dd2,data2,sl2⟩,ho2,hc2,n2,hd2⟩:=id hb;simp only at hc hd hc2 hd2;subst hc hd hc2 hd2
 exact concat_meets ⟨_,ho,rfl⟩ ⟨_,ho2,rfl⟩ noFill_tuple_add seq_tuple_add PySem.F.slot_tuple_add PySem.F.entry_tuple_add (PySem.F.args_tuple_add_2 _ _)
   (tuple_addW0 t b #[] ws.toArray n n2 dd dd2 sl sl2 (by simp)) ⟨ho,ho2,h1⟩
def zOI (K:PySem.W.Frag):R2:=fun x y H Q=>∃ a b ys,x = .ref a /\ y = .ref b /\ SqT K H a [] /\ SqT K H b ys /\ Q (.ref b) H
theorem zMw:OpR X (binaryOp .Add) (zOI X.K):=by
 intro zB s σ H x y v u Q I rx ry h;obtain ⟨a,b,ys,rfl,rfl,ha,hb,q⟩:=h;cases rx;cases ry;obtain ⟨its,r1,p1,_⟩:=I.tuple ha;obtain ⟨its2,r2,p2,_⟩:=I.tuple hb;cases zH3 r1;exact zM8 p1 p2 ⟨.ref b,H,I,rfl,q⟩
def zOH:K2:=fun x y M=>match zB7 x,zB7 y with
 | some xs,some ys=>if xs.length + ys.length <= sizeLine then some (.dat (.tup (xs ++ ys)),M) else none
 | _,_=>none
theorem zNz {K:PySem.W.Frag}:zA7 K (fun x y H Q=>zPz K x y H Q \/ zOI K x y H Q) zOH:=by
 intro L M M' H H0 x y d v w Q c rx ry hk q;unfold zOH at hk;split at hk
 ·rename_i xs ys e1 e2;split at hk
  ·rename_i hz;cases hk;obtain ⟨p1,vs,rfl,h1,r1⟩:=zCM rx e1;obtain ⟨p2,ws,rfl,h2,r2⟩:=zCM ry e2;cases xs with
   | nil=>
    refine .inr ⟨p1,p2,ws,rfl,rfl,.of (by unfold zL at r1; subst r1; exact h1),.of h2,q L H _ (.refl L H) c ?_⟩;unfold zd Rep;exact ⟨p2,ws,rfl,h2,r2⟩
   | cons x0 xr=>
    have hv:vs ≠ []:=fun z=>by have:=r1.length; rw [z] at this; simp at this
    refine .inl ⟨p1,p2,vs,ws,rfl,rfl,.of h1,.of h2,hv,by rw [r1.length,r2.length]; exact hz,fun z=>?_,fun z pp hp=>?_⟩
    ·have:ys = []:=by
      have:=r2.length; rw [z] at this;cases ys with
      | nil=>rfl
      | cons _ _=>simp at this
     subst this;refine q L H _ (.refl L H) c ?_;unfold zd Rep;rw [zT9];exact ⟨p1,vs,rfl,h1,r1⟩
    ·exact q L _ _ (.upd hp) (c.upd hp) (Rep.newTup hp (r1.app r2))
  ·cases hk
 ·cases hk
abbrev zAR:K2:=kOr zS3 zOH
variable {f g:FE}
theorem zQi (h1:QE X a f) (h2:QE X b g):QE X (.BinOp a .Add b pos) (fOp zAR f g):=zHg (zH1 (zCx fun _ _ _ _=>zAb) zNz) (zQ5.or (zPK.or zMw)) h1 h2
structure Kinds (K:PySem.W.Frag):Prop where
 k:∀ t T,t ∈ ["NoneType", "bool", "int", "str", "list", "tuple", "dict"] -> T ∈ ["int", "bool", "str", "tuple"] -> PySem.W.kitOne K (.type t) (.type T) = some (decide (t = T) || (decide (t = "bool") && decide (T = "int")))
def zFZ (M:Mem):EV -> Option String
 | .dat .non=>some "NoneType"
 | .dat (.bl _)=>some "bool"
 | .dat (.int _)=>some "int"
 | .dat (.str _)=>some "str"
 | .dat (.tup _)=>some "tuple"
 | .fl _=>some "list"
 | .dat (.ref n)=>match M[n]? with
  | some (.lst _)=>some "list"
  | some (.fro _)=>some "list"
  | some (.dict _)=>some "dict"
  | some (.dicT _)=>some "dict"
  | _=>none
 | .dat (.fn _ _)=>none
theorem zQ3 {K:PySem.W.Frag} {L:List Addr} {M:Mem} {H H0:Hp} {x:EV} {v:V} {t:String} (c:Cor K L M H) (r:zd H0 L H x v) (h:zFZ M x = some t):TyOf K H v (.type t) /\ t ∈ ["NoneType", "bool", "int", "str", "list", "tuple", "dict"]:=by
 unfold zFZ at h;split at h
 ·cases h; unfold zd Rep at r; subst r; exact ⟨.non,by simp⟩
 ·cases h; unfold zd Rep at r; subst r; exact ⟨.bl _,by simp⟩
 ·cases h; unfold zd Rep at r; subst r; exact ⟨.int _,by simp⟩
 ·cases h; unfold zd Rep at r; subst r; exact ⟨.str _,by simp⟩
 ·cases h; unfold zd Rep at r; obtain ⟨a,vs,rfl,e,_⟩:=r; exact ⟨.tup e,by simp⟩
 ·cases h;obtain ⟨p,vs,rfl,_,e,_⟩:=r;exact ⟨.lst e,by simp⟩
 ·unfold zd Rep at r;obtain ⟨a,rfl,e⟩:=r;split at h
  ·rename_i e1; cases h; obtain ⟨vs,q,_⟩:=c.obj _ a _ e e1; exact ⟨.lst q,by simp⟩
  ·rename_i e1; cases h; obtain ⟨o,vs,q,_⟩:=c.obj _ a _ e e1; exact ⟨.frz q,by simp⟩
  ·rename_i e1; cases h; obtain ⟨vs,q,_⟩:=c.obj _ a _ e e1; exact ⟨.dK q,by simp⟩
  ·rename_i e1; cases h; obtain ⟨vs,q,_⟩:=c.obj _ a _ e e1; exact ⟨.dT q,by simp⟩
  ·cases h
 ·cases h
def isT (t T:String):Bool:=decide (t = T) || (decide (t = "bool") && decide (T = "int"))
def zC2 (T:String) (f:FE):FE:=fun σ M=>match f σ M with
 | some (x,M1)=>match zFZ M1 x with
  | some t=>some (.dat (.bl (isT t T)),M1)
  | none=>none
 | none=>none
def zSd (K:PySem.W.Frag) (T:String):List V -> Hp -> VK -> Prop:=fun xs H Q=>∃ x t b,xs = [x,.ty T] /\ TyOf K H x t /\ PySem.W.kitOne K t (.type T) = some b /\ Q (.bl b) H
theorem zNW:zBZ X (.builtin "isinstance") (zSd X.K T):=by
 intro zB s σ H xs us Q I r h;obtain ⟨x,t,b,rfl,ty,e,q⟩:=h;cases r with
 | cons r1 r2=>
  cases r2 with
  | cons r3 r4=>
   cases r4;cases r3;exact zLH I r1 ty e fun tk=>⟨.bl b,H,I.tok _,rfl,q⟩
theorem zEo (hK:Kinds X.K) (hT:T ∈ ["int", "bool", "str", "tuple"]) (hg:Gl X "isinstance") (hm:X.mg "isinstance" = none) (hg2:Gl X y) (hm2:X.mg y = none) (hv2:bootBuiltins y = some (.type T)) (hn2:y ≠ "__name__") (hd2:(y == ("__debug__" : Str)) = false) (h:QE X e f)
  (he:starEach (e :: [.Name y p2]) X.env = (false,eval e X.env) :: starEach [.Name y p2] X.env:=by rfl) (he2:starEach [.Name y p2] X.env = (false,eval (.Name y p2) X.env) :: starEach [] X.env:=by rfl) (hpl:(backTo pos (starEach [.Name y p2] X.env)).any (·.1) = false:=by rfl) :
  QE X (.Call (.Name "isinstance" p1) [e,.Name y p2] [] pos) (zC2 T f) :=
 .mk <| PE.imp (zDE (r:=zSd X.K T) zNW hg hm (by rfl) (zAc h.un (zAc (zKr (v:=.ty T) hg2 hm2 hv2 rfl hn2 hd2) zDP he2) he) (by decide) (by decide) he hpl) fun τ H Q zz=>by
  obtain ⟨L,σ,M,d,M',c,rs,hf,q⟩:=zz;unfold zC2 at hf;split at hf
  ·rename_i x M1 e1;split at hf
   ·rename_i t e2;cases hf;refine ⟨L,σ,M,_,_,c,rs,e1,fun L1 H1 v s1 c1 r1=>?_⟩;obtain ⟨ty,ht⟩:=zQ3 c1 r1 e2;exact ⟨v,_,_,rfl,ty,hK.k t T ht hT,q L1 H1 _ s1 c1 (zAp (L:=L1) (H:=H1))⟩
   ·cases hf
  ·cases hf
theorem zL.two (h:zL L H [d,d'] vs):∃ v v',vs = [v,v'] /\ Rep L H d v /\ Rep L H d' v':=by
 unfold zL at h;obtain ⟨v,r,rfl,h1,h2⟩:=h;obtain ⟨v',rfl,h3⟩:=h2.one;exact ⟨v,v',rfl,h1,h3⟩
section
variable {fa:FAE}
theorem zKu (hg:Gl X "len") (hm:X.mg "len" = none) (ha:QAE X [e] fa) (he:starEach [e] X.env = (false,eval e X.env) :: starEach [] X.env:=by rfl) (hpl:(backTo pos (starEach [] X.env)).any (·.1) = false:=by rfl):QE X (.Call (.Name "len" p) [e] [] pos) (fB zAx fa) :=
 zDp zO8 zHX PySem.boot_len hg hm ha (by decide) (by decide) he hpl
theorem zHJ (hg:Gl X "tuple") (hm:X.mg "tuple" = none) (ha:QAE X [e] fa) (he:starEach [e] X.env = (false,eval e X.env) :: starEach [] X.env:=by rfl) (hpl:(backTo pos (starEach [] X.env)).any (·.1) = false:=by rfl):QE X (.Call (.Name "tuple" p) [e] [] pos) (fB zAv fa) :=
 zEr zLk zGf (by rfl) hg hm ha (by decide) (by decide) he hpl
theorem zRu (hg:Gl X "abs") (hm:X.mg "abs" = none) (ha:QAE X [e] fa) (he:starEach [e] X.env = (false,eval e X.env) :: starEach [] X.env:=by rfl) (hpl:(backTo pos (starEach [] X.env)).any (·.1) = false:=by rfl):QE X (.Call (.Name "abs" p) [e] [] pos) (fB zLl fa) :=
 zDp zPi zM3 (by rfl) hg hm ha (by decide) (by decide) he hpl
theorem zRL (hg:Gl X "int") (hm:X.mg "int" = none) (ha:QAE X [e] fa) (he:starEach [e] X.env = (false,eval e X.env) :: starEach [] X.env:=by rfl) (hpl:(backTo pos (starEach [] X.env)).any (·.1) = false:=by rfl):QE X (.Call (.Name "int" p) [e] [] pos) (fB zN2 fa) :=
 zEr zPI zLe (by rfl) hg hm ha (by decide) (by decide) he hpl
end
end
def zEh (sc scope:Scope):Bool:=scope.names.all fun y=>
 (y.2 != .local || scope.names.lookup y.1 == some .local) && (y.2 != .cell || scope.names.lookup y.1 == some .cell) && (y.2 != .free || (sc.names.lookup y.1 == some .cell || sc.names.lookup y.1 == some .free))
def zFh (N:List Str) (scope:Scope) (own:List Nat):Bool:=(List.range N.length).all fun i=>match N[i]? with
 | some x=>decide (i ∈ own) || (scope.names.lookup x == none) || (scope.names.lookup x == some .free)
 | none=>true
theorem zBy (hk:scope.kind = .function) (hs:X.env.scope = sc) (hN:X.N = N) (h1:zEh sc scope = true) (h2:zFh N scope own = true):CompIn X scope own:=by
 unfold zEh at h1;rw [zTv] at h1;refine ⟨⟨hk,fun y hy e=>?_,fun y hy e=>?_,fun y hy e=>?_⟩,fun i x e=>?_⟩
 ·have:=h1 y hy;simp [e] at this;exact this
 ·have:=h1 y hy;simp [e] at this;exact this
 ·have:=h1 y hy;simp [e] at this;show X.env.scope.names.lookup y.1 = _ \/ X.env.scope.names.lookup y.1 = _;rw [hs];exact this
 ·unfold zFh at h2;rw [zTv] at h2;rw [hN] at e;have hi:i < N.length:=(zTN.mp e).1;have:=h2 i (by simpa using hi);rw [e] at this;simp only [Bool.or_eq_true,zUc,zVL,or_assoc] at this;exact this
def zHW (K:PySem.W.Frag):Bool:=K.all fun p=>match p.2.cls with
 | .type n=>n != "list"
 | _=>true
theorem zIe:∀ {K:PySem.W.Frag},K.lookup a = some o -> (a,o) ∈ K
 | [],h=>by cases h
 | (b,u) :: r,h=>by
  have h':List.lookup a ((b,u) :: r) = some o:=h;rw [zVU] at h';cases q:a == b with
  | true=>rw [q] at h'; cases h'; rw [zVL.mp q]; exact zTY
  | false=>rw [q] at h'; exact zTX _ (zIe h')
theorem zLL {K:PySem.W.Frag} (h:zHW K = true) {o:Obj} (e:K.lookup a = some o) (hc:o.cls = .type "list"):False:=by
 unfold zHW at h;rw [zTv] at h;have:=h (a,o) (zIe e);simp [hc] at this
theorem zGu:∀ (ns:List Int),zL L H (ns.map D.int) (ns.map V.int)
 | []=> .nil
 | n :: r=> .cons (by unfold Rep; rfl) (zGu r)
def zN4 (K:PySem.W.Frag):Bool:=zI2.all fun x=>(PySem.W.tabIn K x).isNone
theorem zLB {K:PySem.W.Frag} {H:Hp} (h:zN4 K = true):zLw K H:=fun x hx c P e=>by
 unfold zN4 at h;have:=zTv.mp h x hx;rw [e] at this; cases this
theorem zN5 (hO:zON H):∀ b xs,H b ≠ some (.lst xs):=fun b xs h1=>by
 rcases hO b with z | ⟨o,xs,z⟩
 ·rw [h1] at z; cases z
 ·rw [h1] at z; cases z
theorem zLm {K:PySem.W.Frag} {m:FF} {H:Hp} {a:Addr} {ns:List Int} {E:XK} (hL:zHW K = true) (hT:zLw K H) (hO:∀ b xs,H b ≠ some (.lst xs)) (hS:SqL K H a (ns.map V.int)) (h:∃ M',m [.ref 0] [.fro (ns.map D.int)] = some (.bl true,M')) :
  spF K 1 m [.ref a] H (fun v _=>v = .bl true) E:=by
 obtain ⟨M',e⟩:=h;have hf:∃ o,H a = some (.frz o (.lst (ns.map V.int))):=by
  rcases hS with (h1 | h1) | ⟨o,its,n,h1,h2,_⟩
  ·exact (hO _ _ h1).elim
  ·exact h1
  ·exact (zLL hL h1 h2).elim
 obtain ⟨o,hf⟩:=hf;refine ⟨[a],[.ref 0],[.fro (ns.map D.int)],_,_,⟨rfl,by simp,fun n b m e1 e2=>?_,hT⟩,.cons ?_ .nil,rfl,e,fun L' H' v s c r=>?_⟩
 ·cases n with
  | zero=>simp at e1 e2; subst e1; subst e2; exact ⟨o,_,hf,zGu ns⟩
  | succ n=>simp at e1
 ·unfold Rep; exact ⟨a,rfl,rfl⟩
 ·unfold Rep at r; exact r
def Ok {α:Type} (x:Option (α × Mem)) (P:α -> Mem -> Prop):Prop:=∃ a M,x = some (a,M) /\ P a M
def OkS (x:Option (Out × Sd × Mem)) (P:Out -> Sd -> Mem -> Prop):Prop:=∃ o σ M,x = some (o,σ,M) /\ P o σ M
theorem Ok.mono {α:Type} {x:Option (α × Mem)} {P Q:α -> Mem -> Prop} (h:Ok x P) (hq:∀ a M,P a M -> Q a M):Ok x Q:=let ⟨a,M,e,p⟩:=h; ⟨a,M,e,hq a M p⟩
theorem OkS.mono {x:Option (Out × Sd × Mem)} {P Q:Out -> Sd -> Mem -> Prop} (h:OkS x P) (hq:∀ o σ M,P o σ M -> Q o σ M):OkS x Q:=let ⟨a,σ,M,e,p⟩:=h; ⟨a,σ,M,e,hq a σ M p⟩
theorem ze {α:Type} {a:α} {M:Mem} {P:α -> Mem -> Prop}:Ok (some (a,M)) P ↔ P a M:=⟨fun ⟨_,_,e,p⟩=>by cases e; exact p,fun p=>⟨a,M,rfl,p⟩⟩
theorem zFk {α:Type} {P:α -> Mem -> Prop}:Ok (none:Option (α × Mem)) P ↔ False:=⟨(fun ⟨_,_,e,_⟩=>(nomatch e)),fun h=>h.elim⟩
theorem zNy {o:Out} {σ:Sd} {M:Mem} {P:Out -> Sd -> Mem -> Prop}:OkS (some (o,σ,M)) P ↔ P o σ M:=⟨fun ⟨_,_,_,e,p⟩=>by cases e; exact p,fun p=>⟨o,σ,M,rfl,p⟩⟩
section
variable {σ:Sd} {M:Mem} {f g:FE} {P:EV -> Mem -> Prop}
theorem zV {i:Nat}:Ok (zC i σ M) P ↔ ∃ d,σ[i]? = some (some d) /\ P (.dat d) M:=by
 unfold zC;constructor
 ·rintro ⟨a,M1,e,p⟩;split at e
  ·rename_i d e1; cases e; exact ⟨d,e1,p⟩
  ·cases e
 ·rintro ⟨d,e1,p⟩;rw [e1]; exact ⟨_,_,rfl,p⟩
theorem zAL {d:D}:Ok (fC d σ M) P ↔ P (.dat d) M:=ze
theorem zb {k:K2}:Ok (fOp k f g σ M) P ↔ Ok (f σ M) fun x M1=>Ok (g σ M1) fun y M2=>Ok (k x y M2) P:=by
 unfold fOp;constructor
 ·rintro ⟨a,M1,e,p⟩;split at e
  ·rename_i x M2 e1;split at e
   ·rename_i y M3 e2;exact ⟨x,M2,e1,y,M3,e2,a,M1,e,p⟩
   ·cases e
  ·cases e
 ·rintro ⟨x,M2,e1,y,M3,e2,a,M1,e,p⟩;rw [e1]; dsimp only; rw [e2]; exact ⟨a,M1,e,p⟩
def zFa (P:D -> Mem -> Prop):EV -> Mem -> Prop
 | .dat d,M=>P d M
 | .fl xs,M=>P (.ref M.length) (M ++ [.lst xs])
theorem zAB {P:D -> Mem -> Prop}:Ok (toD f σ M) P ↔ Ok (f σ M) (zFa P):=by
 unfold toD;constructor
 ·rintro ⟨a,M1,e,p⟩;split at e
  ·rename_i d M2 e1; cases e; exact ⟨_,_,e1,p⟩
  ·rename_i xs M2 e1; cases e; exact ⟨_,_,e1,p⟩
  ·cases e
 ·rintro ⟨x,M2,e1,p⟩;rw [e1];cases x with
  | dat d=>exact ⟨d,M2,rfl,p⟩
  | fl xs=>exact ⟨_,_,rfl,p⟩
theorem zK {P:D -> Mem -> Prop} {d:D} {M:Mem}:zFa P (.dat d) M ↔ P d M:=Iff.rfl
theorem zH2 {P:D -> Mem -> Prop} {xs:List D} {M:Mem}:zFa P (.fl xs) M ↔ P (.ref M.length) (M ++ [.lst xs]):=Iff.rfl
section
variable {P:List D -> Mem -> Prop}
theorem zAr:Ok (zH σ M) P ↔ P [] M:=ze
theorem zq {f:FD} {g:FA}:Ok (zD f g σ M) P ↔ Ok (f σ M) fun d M1=>Ok (g σ M1) fun ds M2=>P (d :: ds) M2:=by
 unfold zD;constructor
 ·rintro ⟨a,M1,e,p⟩;split at e
  ·rename_i x M2 e1;split at e
   ·rename_i y M3 e2;cases e;exact ⟨x,M2,e1,y,_,e2,p⟩
   ·cases e
  ·cases e
 ·rintro ⟨x,M2,e1,y,M3,e2,p⟩;rw [e1]; dsimp only; rw [e2]; exact ⟨_,_,rfl,p⟩
end
section
variable {P:List EV -> Mem -> Prop}
theorem zBw:Ok (zc σ M) P ↔ P [] M:=ze
theorem zBE {f:FE} {g:FAE}:Ok (zN f g σ M) P ↔ Ok (f σ M) fun d M1=>Ok (g σ M1) fun ds M2=>P (d :: ds) M2:=by
 unfold zN;constructor
 ·rintro ⟨a,M1,e,p⟩;split at e
  ·rename_i x M2 e1;split at e
   ·rename_i y M3 e2;cases e;exact ⟨x,M2,e1,y,_,e2,p⟩
   ·cases e
  ·cases e
 ·rintro ⟨x,M2,e1,y,M3,e2,p⟩;rw [e1]; dsimp only; rw [e2]; exact ⟨_,_,rfl,p⟩
end
theorem zQC {a:FA}:Ok (zDc a σ M) P ↔ Ok (a σ M) fun ds M1=>ds.length <= sizeLine /\ P (.dat (.tup ds)) M1:=by
 unfold zDc;constructor
 ·rintro ⟨x,M1,e,p⟩;split at e
  ·rename_i ds M2 e1;split at e
   ·rename_i hz; cases e; exact ⟨ds,_,e1,hz,p⟩
   ·cases e
  ·cases e
 ·rintro ⟨ds,M1,e1,hz,p⟩;rw [e1]; dsimp only; rw [zTZ hz]; exact ⟨_,_,rfl,p⟩
theorem zCw {a:FA}:Ok (zp a σ M) P ↔ Ok (a σ M) fun ds M1=>ds.length <= sizeLine /\ P (.fl ds) M1:=by
 unfold zp;constructor
 ·rintro ⟨x,M1,e,p⟩;split at e
  ·rename_i ds M2 e1;split at e
   ·rename_i hz; cases e; exact ⟨ds,_,e1,hz,p⟩
   ·cases e
  ·cases e
 ·rintro ⟨ds,M1,e1,hz,p⟩;rw [e1]; dsimp only; rw [zTZ hz]; exact ⟨_,_,rfl,p⟩
theorem zIc {k:KB} {a:FAE}:Ok (fB k a σ M) P ↔ Ok (a σ M) fun xs M1=>Ok (k xs M1) P:=by
 unfold fB;constructor
 ·rintro ⟨x,M1,e,p⟩;split at e
  ·rename_i ds M2 e1; exact ⟨ds,_,e1,x,M1,e,p⟩
  ·cases e
 ·rintro ⟨ds,M1,e1,p⟩;rw [e1]; exact p
theorem zCo {m:FF} {a:FA}:Ok (zW m a σ M) P ↔ Ok (a σ M) fun ds M1=>Ok (m ds M1) fun d M2=>P (.dat d) M2:=by
 unfold zW;constructor
 ·rintro ⟨x,M1,e,p⟩;split at e
  ·rename_i ds M2 e1;split at e
   ·rename_i d M3 e2; cases e; exact ⟨ds,_,e1,d,_,e2,p⟩
   ·cases e
  ·cases e
 ·rintro ⟨ds,M1,e1,d,M2,e2,p⟩;rw [e1]; dsimp only; rw [e2]; exact ⟨_,_,rfl,p⟩
theorem zLV {k:KM} {a:FA}:Ok (fM k f a σ M) P ↔ Ok (f σ M) fun x M1=>(∃ xs,zA3 M1 x = some xs) /\ Ok (a σ M1) fun ds M2=>Ok (k x ds M2) fun d M3=>P (.dat d) M3:=by
 unfold fM;constructor
 ·rintro ⟨x,M1,e,p⟩;split at e
  ·rename_i y M2 e1;split at e
   ·rename_i xs e2;split at e
    ·rename_i ds M3 e3;split at e
     ·rename_i d M4 e4; cases e; exact ⟨y,_,e1,⟨xs,e2⟩,ds,_,e3,d,_,e4,p⟩
     ·cases e
    ·cases e
   ·cases e
  ·cases e
 ·rintro ⟨y,M1,e1,⟨xs,e2⟩,ds,M2,e3,d,M3,e4,p⟩;rw [e1]; dsimp only; rw [e2]; dsimp only; rw [e3]; dsimp only; rw [e4]; exact ⟨_,_,rfl,p⟩
theorem zQK {T:String}:Ok (zC2 T f σ M) P ↔ Ok (f σ M) fun x M1=>∃ t,zFZ M1 x = some t /\ P (.dat (.bl (isT t T))) M1:=by
 unfold zC2;constructor
 ·rintro ⟨x,M1,e,p⟩;split at e
  ·rename_i y M2 e1;split at e
   ·rename_i t e2; cases e; exact ⟨y,_,e1,t,e2,p⟩
   ·cases e
  ·cases e
 ·rintro ⟨y,M1,e1,t,e2,p⟩;rw [e1]; dsimp only; rw [e2]; exact ⟨_,_,rfl,p⟩
section
variable {P:Option Int -> Mem -> Prop}
theorem zIG:Ok (zw σ M) P ↔ P none M:=ze
def zSR (P:Option Int -> Mem -> Prop):EV -> Mem -> Prop
 | .dat (.int i),M=>P (some i) M
 | _,_=>False
theorem zIn {i:Int} {M:Mem}:zSR P (.dat (.int i)) M ↔ P (some i) M:=Iff.rfl
theorem zIo:Ok (zu f σ M) P ↔ Ok (f σ M) (zSR P):=by
 unfold zu;constructor
 ·rintro ⟨x,M1,e,p⟩;split at e
  ·rename_i i M2 e1; cases e; exact ⟨_,_,e1,p⟩
  ·cases e
 ·rintro ⟨x,M1,e1,p⟩;rw [e1];cases x with
  | fl xs=>exact p.elim
  | dat d=>
   cases d with
   | int i=>exact ⟨_,_,rfl,p⟩
   | _=>exact p.elim
end
theorem zP1 {l h:FO}:Ok (fSl f l h σ M) P ↔ Ok (f σ M) fun x M1=>Ok (l σ M1) fun lo M2=>Ok (h σ M2) fun hi M3=>Ok (kSl x lo hi M3) P:=by
 unfold fSl;constructor
 ·rintro ⟨x,M1,e,p⟩;split at e
  ·rename_i y M2 e1;split at e
   ·rename_i lo M3 e2;split at e
    ·rename_i hi M4 e3; exact ⟨y,_,e1,lo,_,e2,hi,_,e3,x,M1,e,p⟩
    ·cases e
   ·cases e
  ·cases e
 ·rintro ⟨y,M1,e1,lo,M2,e2,hi,M3,e3,p⟩;rw [e1]; dsimp only; rw [e2]; dsimp only; rw [e3]; exact p
def blP (P:Bool -> Mem -> Prop):EV -> Mem -> Prop
 | .dat (.bl k),M=>P k M
 | _,_=>False
theorem zAK {P:Bool -> Mem -> Prop} {k:Bool} {M:Mem}:blP P (.dat (.bl k)) M ↔ P k M:=Iff.rfl
theorem zBP {P:Bool -> Mem -> Prop}:Ok (tst f σ M) P ↔ Ok (f σ M) (blP P):=by
 unfold tst;constructor
 ·rintro ⟨x,M1,e,p⟩;split at e
  ·rename_i i M2 e1; cases e; exact ⟨_,_,e1,p⟩
  ·cases e
 ·rintro ⟨x,M1,e1,p⟩;rw [e1];cases x with
  | fl xs=>exact p.elim
  | dat d=>
   cases d with
   | bl i=>exact ⟨_,_,rfl,p⟩
   | _=>exact p.elim
section
variable {P:Bool -> Mem -> Prop} {s t:FT}
theorem zEn:Ok (zAH σ M) P ↔ P true M:=ze
theorem zPb:Ok (zBs s t σ M) P ↔ Ok (s σ M) fun k M1=>if k then Ok (t σ M1) P else P false M1:=by
 unfold zBs;constructor
 ·rintro ⟨x,M1,e,p⟩;split at e
  ·rename_i M2 e1; exact ⟨true,M2,e1,by dsimp only; rw [zTZ rfl]; exact ⟨x,M1,e,p⟩⟩
  ·rename_i hn;cases x with
   | true=>exact absurd e (hn M1)
   | false=>exact ⟨false,M1,e,by simpa using p⟩
 ·rintro ⟨x,M1,e1,p⟩;rw [e1];cases x with
  | true=>simpa using p
  | false=>exact ⟨false,M1,rfl,by simpa using p⟩
theorem zNB:Ok (zDZ s t σ M) P ↔ Ok (s σ M) fun k M1=>if k then P true M1 else Ok (t σ M1) P:=by
 unfold zDZ;constructor
 ·rintro ⟨x,M1,e,p⟩;split at e
  ·rename_i M2 e1; exact ⟨false,M2,e1,by simpa using ⟨x,M1,e,p⟩⟩
  ·rename_i hn;cases x with
   | false=>exact absurd e (hn M1)
   | true=>exact ⟨true,M1,e,by simpa using p⟩
 ·rintro ⟨x,M1,e1,p⟩;rw [e1];cases x with
  | false=>simpa using p
  | true=>exact ⟨true,M1,rfl,by simpa using p⟩
theorem zHT:Ok (zBC s σ M) P ↔ Ok (s σ M) fun k M1=>P (!k) M1:=by
 unfold zBC;constructor
 ·rintro ⟨x,M1,e,p⟩;split at e
  ·rename_i k M2 e1; cases e; exact ⟨k,_,e1,p⟩
  ·cases e
 ·rintro ⟨k,M1,e1,p⟩;rw [e1]; exact ⟨_,_,rfl,p⟩
end
theorem zOV:Ok (zEy f g σ M) P ↔ Ok (f σ M) (blP fun k M1=>if k then Ok (g σ M1) P else P (.dat (.bl false)) M1):=by
 unfold zEy;constructor
 ·rintro ⟨x,M1,e,p⟩;split at e
  ·rename_i M2 e1; exact ⟨_,_,e1,by rw [zAK,zTZ rfl]; exact ⟨x,M1,e,p⟩⟩
  ·rename_i M2 e1; cases e; exact ⟨_,_,e1,by rw [zAK]; simpa using p⟩
  ·cases e
 ·rintro ⟨x,M1,e1,p⟩;rw [e1];cases x with
  | fl xs=>exact p.elim
  | dat d=>
   cases d with
   | bl i=>
    rw [zAK] at p;cases i with
    | true=>simpa using p
    | false=>exact ⟨_,_,rfl,by simpa using p⟩
   | _=>exact p.elim
theorem zQb {t:FT}:Ok (vIf t f g σ M) P ↔ Ok (t σ M) fun k M1=>if k then Ok (f σ M1) P else Ok (g σ M1) P:=by
 unfold vIf;constructor
 ·rintro ⟨x,M1,e,p⟩;split at e
  ·rename_i M2 e1; exact ⟨_,_,e1,by dsimp only; rw [zTZ rfl]; exact ⟨x,M1,e,p⟩⟩
  ·rename_i M2 e1; exact ⟨_,_,e1,by simpa using ⟨x,M1,e,p⟩⟩
  ·cases e
 ·rintro ⟨x,M1,e1,p⟩;rw [e1];cases x with
  | true=>simpa using p
  | false=>simpa using p
end
section
variable {σ:Sd} {M:Mem} {f g:FS} {P:Out -> Sd -> Mem -> Prop}
def nxP (k:Sd -> Mem -> Prop) (P:Out -> Sd -> Mem -> Prop):Out -> Sd -> Mem -> Prop
 | .nx,σ,M=>k σ M
 | o,σ,M=>P o σ M
theorem zR {k:Sd -> Mem -> Prop}:nxP k P .nx σ M ↔ k σ M:=Iff.rfl
theorem zPL {k:Sd -> Mem -> Prop} {d:D}:nxP k P (.ret d) σ M ↔ P (.ret d) σ M:=Iff.rfl
theorem zAP:OkS (zAw σ M) P ↔ P .nx σ M:=zNy
theorem zM:OkS (zS f g σ M) P ↔ OkS (f σ M) (nxP (fun σ1 M1=>OkS (g σ1 M1) P) P):=by
 unfold zS;constructor
 ·rintro ⟨o,σ1,M1,e,p⟩;split at e
  ·rename_i σ2 M2 e1; exact ⟨_,_,_,e1,o,σ1,M1,e,p⟩
  ·rename_i hn;refine ⟨o,σ1,M1,e,?_⟩;cases o with
   | nx=>exact absurd e (hn σ1 M1)
   | _=>exact p
 ·rintro ⟨o,σ1,M1,e1,p⟩;rw [e1];cases o with
  | nx=>exact p
  | _=>exact ⟨_,_,_,rfl,p⟩
theorem zAI {c:FT}:OkS (sIf c f g σ M) P ↔ Ok (c σ M) fun k M1=>if k then OkS (f σ M1) P else OkS (g σ M1) P:=by
 unfold sIf;constructor
 ·rintro ⟨o,σ1,M1,e,p⟩;split at e
  ·rename_i M2 e1; exact ⟨_,_,e1,by dsimp only; rw [zTZ rfl]; exact ⟨o,σ1,M1,e,p⟩⟩
  ·rename_i M2 e1; exact ⟨_,_,e1,by simpa using ⟨o,σ1,M1,e,p⟩⟩
  ·cases e
 ·rintro ⟨x,M1,e1,p⟩;rw [e1];cases x with
  | true=>simpa using p
  | false=>simpa using p
theorem zy {h:FE}:OkS (zr h σ M) P ↔ Ok (h σ M) (zFa fun d M1=>P (.ret d) σ M1):=by
 rw [<- zAB];unfold zr;constructor
 ·rintro ⟨o,σ1,M1,e,p⟩;split at e
  ·rename_i d M2 e1; cases e; exact ⟨_,_,e1,p⟩
  ·cases e
 ·rintro ⟨x,M1,e1,p⟩;rw [e1]; exact ⟨_,_,_,rfl,p⟩
theorem zX {i:Nat} {h:FE}:OkS (zAF i h σ M) P ↔ Ok (h σ M) (zFa fun d M1=>P .nx (σ.set i (some d)) M1):=by
 rw [<- zAB];unfold zAF;constructor
 ·rintro ⟨o,σ1,M1,e,p⟩;split at e
  ·rename_i d M2 e1; cases e; exact ⟨_,_,e1,p⟩
  ·cases e
 ·rintro ⟨x,M1,e1,p⟩;rw [e1]; exact ⟨_,_,_,rfl,p⟩
theorem zDL {h:FE}:OkS (zDC h σ M) P ↔ Ok (h σ M) fun _ M1=>P .nx σ M1:=by
 unfold zDC;constructor
 ·rintro ⟨o,σ1,M1,e,p⟩;split at e
  ·rename_i d M2 e1; cases e; exact ⟨_,_,e1,p⟩
  ·cases e
 ·rintro ⟨x,M1,e1,p⟩;rw [e1]; exact ⟨_,_,_,rfl,p⟩
theorem zKZ {v o i:FE}:OkS (zLf v o i σ M) P ↔ Ok (v σ M) (zFa fun d M1=>Ok (o σ M1) fun x M2=>Ok (i σ M2) (zFa fun j M3=>∃ M4,zI5 x j d M3 = some M4 /\ P .nx σ M4)):=by
 rw [<- zAB];unfold zLf;constructor
 ·rintro ⟨o,σ1,M1,e,p⟩;split at e
  ·rename_i d M2 e1;split at e
   ·rename_i x M3 e2;split at e
    ·rename_i j M4 e3;split at e
     ·rename_i M5 e4;cases e;refine ⟨_,_,e1,_,_,e2,?_⟩;dsimp only; rw [<- zAB];exact ⟨_,_,e3,_,e4,p⟩
     ·cases e
    ·cases e
   ·cases e
  ·cases e
 ·rintro ⟨d,M1,e1,x,M2,e2,p⟩;rw [<- zAB] at p;obtain ⟨j,M3,e3,M4,e4,p⟩:=p;rw [e1]; dsimp only; rw [e2]; dsimp only; rw [e3]; dsimp only; rw [e4]; exact ⟨_,_,_,rfl,p⟩
theorem zAg {n:Nat} {ds:List D} {Q:D -> Mem -> Prop}:Ok (zCF n f ds M) Q ↔ OkS (f (ds.map some ++ List.replicate (n - ds.length) none) M) fun o _ M1=>match o with | .ret d=>Q d M1 | .nx=>Q .non M1 | _=>False:=by
 unfold zCF;constructor
 ·rintro ⟨o,M1,e,p⟩;split at e
  ·rename_i d σ1 M2 e1; cases e; exact ⟨_,_,_,e1,p⟩
  ·rename_i σ1 M2 e1; cases e; exact ⟨_,_,_,e1,p⟩
  ·cases e
 ·rintro ⟨o,σ1,M1,e1,p⟩;rw [e1];cases o with
  | ret d=>exact ⟨_,_,rfl,p⟩
  | nx=>exact ⟨_,_,rfl,p⟩
  | brk=>exact p.elim
  | cnt=>exact p.elim
theorem zFA {c:FT} {b:FS} (I:Nat -> Sd -> Mem -> Prop) (hs:∀ m σ M,I m σ M -> Ok (c σ M) fun k M1=>if k then OkS (b σ M1) fun o σ2 M2=>match o with | .nx=>∃ m',m' < m /\ I m' σ2 M2 | .cnt=>∃ m',m' < m /\ I m' σ2 M2 | .brk=>P .nx σ2 M2 | .ret d=>P (.ret d) σ2 M2 else P .nx σ M1) :
  ∀ (n m:Nat) (σ:Sd) (M:Mem),m < n -> I m σ M -> OkS (zBq c b n σ M) P
 | 0,m,σ,M,h,_=>absurd h (Nat.not_lt_zero _)
 | n + 1,m,σ,M,h,hi=>by
  obtain ⟨k,M1,e,q⟩:=hs m σ M hi;unfold zBq;rw [e];cases k with
  | false=>exact ⟨_,_,_,rfl,by simpa using q⟩
  | true=>
   rw [zTZ rfl] at q;obtain ⟨o,σ2,M2,e2,q⟩:=q;dsimp only;rw [e2];cases o with
   | nx=>obtain ⟨m',hm,q⟩:=q; exact zFA I hs n m' σ2 M2 (by omega) q
   | cnt=>obtain ⟨m',hm,q⟩:=q; exact zFA I hs n m' σ2 M2 (by omega) q
   | brk=>exact ⟨_,_,_,rfl,q⟩
   | ret d=>exact ⟨_,_,_,rfl,q⟩
theorem zDD {g:FG} {b:FS} {all:List D} {gd:Option (Mem -> Prop)} (I:List D -> Sd -> Mem -> Prop)
  (hs:∀ x r σ M,I (x :: r) σ M -> zBJ gd all M /\ ∃ σ1,g x σ = some σ1 /\ OkS (b σ1 M) fun o σ2 M2=>match o with | .nx=>I r σ2 M2 | .cnt=>I r σ2 M2 | .brk=>P .nx σ2 M2 | .ret d=>P (.ret d) σ2 M2)
  (he:∀ σ M,I [] σ M -> zBJ gd all M /\ P .nx σ M):∀ (xs:List D) (σ:Sd) (M:Mem),I xs σ M -> OkS (zCZ g b all gd xs σ M) P
 | [],σ,M,hi=>by
  unfold zCZ;obtain ⟨h1,h2⟩:=he σ M hi;rw [zTZ h1];exact ⟨_,_,_,rfl,h2⟩
 | x :: r,σ,M,hi=>by
  unfold zCZ;obtain ⟨h1,σ1,e1,o,σ2,M2,e2,q⟩:=hs x r σ M hi;rw [zTZ h1,e1];dsimp only;rw [e2];cases o with
  | nx=>exact zDD I hs he r σ2 M2 q
  | cnt=>exact zDD I hs he r σ2 M2 q
  | brk=>exact ⟨_,_,_,rfl,q⟩
  | ret d=>exact ⟨_,_,_,rfl,q⟩
theorem zCu {i:FI} {g:FG} {b:FS}:OkS (zFY i g b σ M) P ↔ ∃ xs gd M1,i σ M = some (xs,gd,M1) /\ OkS (zCZ g b xs gd xs σ M1) P:=by
 unfold zFY;constructor
 ·rintro ⟨o,σ1,M1,e,p⟩;split at e
  ·rename_i xs gd M2 e1; exact ⟨_,_,_,e1,_,_,_,e,p⟩
  ·cases e
 ·rintro ⟨xs,gd,M1,e1,p⟩;rw [e1]; exact p
theorem zB8 {g:FG} {tc:FT} {te:FE} {all:List D} {gd:Option (Mem -> Prop)} (I:List D -> List D -> Mem -> Prop)
  (hs:∀ x r acc M,I (x :: r) acc M -> zBJ gd all M /\ ∃ σ1,g x σ = some σ1 /\ Ok (tc σ1 M) fun k M1=>if k then Ok (te σ1 M1) (zFa fun d M2=>I r (acc ++ [d]) M2) else I r acc M1)
  {Q:List D -> Mem -> Prop} (he:∀ acc M,I [] acc M -> zBJ gd all M /\ Q acc M):∀ (xs acc:List D) (M:Mem),I xs acc M -> Ok (zCD g tc te σ all gd xs M) fun ys M1=>Q (acc ++ ys) M1
 | [],acc,M,hi=>by
  unfold zCD;obtain ⟨h1,h2⟩:=he acc M hi;rw [zTZ h1];exact ⟨_,_,rfl,by simpa using h2⟩
 | x :: r,acc,M,hi=>by
  unfold zCD;obtain ⟨h1,σ1,e1,k,M1,e2,q⟩:=hs x r acc M hi;rw [zTZ h1,e1];dsimp only;rw [e2];cases k with
  | false=>exact zB8 I hs he r acc M1 (by simpa using q)
  | true=>
   rw [zTZ rfl,<- zAB] at q;obtain ⟨d,M2,e3,q⟩:=q;dsimp only;rw [e3];obtain ⟨ys,M3,e4,p⟩:=zB8 I hs he r (acc ++ [d]) M2 q;dsimp only;rw [e4];exact ⟨_,_,rfl,by simpa using p⟩
theorem zCK {own:List Nat} {i:FI} {g:FG} {tc:FT} {te:FE} {Q:EV -> Mem -> Prop}:Ok (zv own i g tc te σ M) Q ↔ ∃ xs gd M1,i σ M = some (xs,gd,M1) /\ xs.length <= sizeLine /\ Ok (zCD g tc te (zJB own σ) xs gd xs M1) fun ys M2=>Q (.fl ys) M2:=by
 unfold zv;constructor
 ·rintro ⟨o,M1,e,p⟩;split at e
  ·rename_i xs gd M2 e1;split at e
   ·rename_i hz;split at e
    ·rename_i ys M3 e2; cases e; exact ⟨_,_,_,e1,hz,_,_,e2,p⟩
    ·cases e
   ·cases e
  ·cases e
 ·rintro ⟨xs,gd,M1,e1,hz,ys,M2,e2,p⟩;rw [e1]; dsimp only; rw [zTZ hz,e2]; exact ⟨_,_,rfl,p⟩
theorem zAi {h:FE} {x:EV} {M1:Mem} {xs:List D} (e:h σ M = some (x,M1)) (e2:zAV M1 x = some xs):zAO h σ M = some (xs,zD5 x xs,M1):=by
 unfold zAO; rw [e]; dsimp only; rw [e2]
theorem zD6 {a:FA} {M1:Mem} {j:Int} (e:a σ M = some ([.int j],M1)) (h1:0 <= j) (h2:j < 2 ^ 62):zBl a σ M = some ((List.range j.toNat).map fun (k:Nat)=>D.int k,none,M1):=by
 unfold zBl; rw [e]; dsimp only; rw [zTZ ⟨by omega,h2⟩]
end
section
variable {M:Mem} {P:EV -> Mem -> Prop} {i j:Int}
theorem zBB:Ok (zAR (.dat (.int i)) (.dat (.int j)) M) P ↔ P (.dat (.int (i + j))) M:=ze
theorem zPq:Ok (zFy (.dat (.int i)) (.dat (.int j)) M) P ↔ P (.dat (.int (i - j))) M:=ze
theorem zIs:Ok (zGZ (.dat (.int i)) (.dat (.int j)) M) P ↔ zIm i j = true /\ P (.dat (.int (i * j))) M:=by
 unfold zGZ kI; dsimp only; split
 ·rename_i h; rw [ze]; simp [h]
 ·rename_i h; rw [zFk]; simp [h]
theorem zDz:Ok (zDu (.dat (.int i)) (.dat (.int j)) M) P ↔ 0 < j /\ P (.dat (.int (i % j))) M:=by
 unfold zDu kI; dsimp only; split
 ·rename_i h; rw [ze]; simp at h; simp [h]
 ·rename_i h; rw [zFk]; simp at h; simp; intro h'; omega
theorem zNv:Ok (zLZ (.dat (.int i)) (.dat (.int j)) M) P ↔ (0 < j /\ j < 1073741824) /\ P (.dat (.int (i / j))) M:=by
 unfold zLZ kI; dsimp only; split
 ·rename_i h; rw [ze]; simp at h; simp [h]
 ·rename_i h; rw [zFk]; simp at h; simp; intro h' h2; have:=h h'; omega
theorem zPw:Ok (zMv (.dat (.int i)) (.dat (.int j)) M) P ↔ (0 <= j /\ j <= 1000000 /\ i.natAbs < 2 ^ 64) /\ P (.dat (.int (i ^ j.toNat))) M:=by
 unfold zMv kI; dsimp only; split
 ·rename_i h; rw [ze]; simp only [zTu,zUc] at h; simp [h]
 ·rename_i h; rw [zFk]; simp only [zTu,zUc,not_and] at h; simp only [false_iff,not_and]; intro ⟨a,b,c⟩; exact absurd c (h ⟨a,b⟩)
theorem zJ2:Ok (kLt (.dat (.int i)) (.dat (.int j)) M) P ↔ P (.dat (.bl (decide (i < j)))) M:=ze
theorem zPd:Ok (kLe (.dat (.int i)) (.dat (.int j)) M) P ↔ P (.dat (.bl (decide (i <= j)))) M:=ze
theorem zQm:Ok (kGt (.dat (.int i)) (.dat (.int j)) M) P ↔ P (.dat (.bl (decide (j < i)))) M:=ze
theorem zRz:Ok (kGe (.dat (.int i)) (.dat (.int j)) M) P ↔ P (.dat (.bl (decide (j <= i)))) M:=ze
theorem zHV:Ok (kEq (.dat (.int i)) (.dat (.int j)) M) P ↔ P (.dat (.bl (decide (i = j)))) M:=by
 have:kEq (.dat (.int i)) (.dat (.int j)) M = some (.dat (.bl (decide (V.int i = V.int j))),M):=rfl;rw [this,ze]; simp
theorem zQY:Ok (kNe (.dat (.int i)) (.dat (.int j)) M) P ↔ P (.dat (.bl (decide (i ≠ j)))) M:=by
 have:kNe (.dat (.int i)) (.dat (.int j)) M = some (.dat (.bl (!decide (V.int i = V.int j))),M):=rfl;rw [this,ze]; simp
theorem zFj {x:EV} {xs:List D} (h:zA3 M x = some xs) (hx:∀ d,x = .dat d -> zD2 d = none):Ok (kNe x (.fl []) M) P ↔ P (.dat (.bl (!xs.isEmpty))) M:=by
 have e1:zJO true x (.fl []) M = none:=by cases x <;> rfl
 have e2:kNe x (.fl []) M = some (.dat (.bl (!xs.isEmpty)),M):=by
  unfold kNe kOr; rw [e1]; unfold zLC; rw [h]; rfl
 rw [e2,ze]
theorem zMC {x:EV} {xs:List D} {d:D} (h:zAV M x = some xs) (hd:atI xs i = some d) (p:P (.dat d) M):Ok (kIx x (.dat (.int i)) M) P:=by
 have:kIx x (.dat (.int i)) M = some (.dat d,M):=by unfold kIx; dsimp only; rw [h]; dsimp only; rw [hd]
 rw [this,ze]; exact p
theorem zMH {xs:List D} {k:Nat} {d:D} (h:xs[k]? = some d):atI xs (k:Int) = some d:=zBt h
theorem zPo {x:EV} {xs:List D} (h:zAV M x = some xs):Ok (zAx [x] M) P ↔ P (.dat (.int xs.length)) M:=by
 have:zAx [x] M = some (.dat (.int xs.length),M):=by unfold zAx; dsimp only; rw [h]
 rw [this,ze]
theorem zHY {x:EV} {xs:List D} (h:zAV M x = some xs):Ok (zAv [x] M) P ↔ P (.dat (.tup xs)) M:=by
 have:zAv [x] M = some (.dat (.tup xs),M):=by unfold zAv; dsimp only; rw [h]
 rw [this,ze]
theorem zPm:Ok (zLl [.dat (.int i)] M) P ↔ P (.dat (.int (if i < 0 then -i else i))) M:=ze
theorem zP9 {k:Bool}:Ok (zN2 [.dat (.bl k)] M) P ↔ P (.dat (.int (if k then 1 else 0))) M:=ze
theorem zOF {x:EV} {xs:List D} {lo hi:Option Int} (h:zA3 M x = some xs) (ht:zB7 x = none):Ok (kSl x lo hi M) P ↔ P (.fl (zC3 xs lo hi)) M:=by
 have:kSl x lo hi M = some (.fl (zC3 xs lo hi),M):=by unfold kSl; rw [ht]; dsimp only; rw [h]
 rw [this,ze]
theorem zDh {xs:List D}:zAV M (.dat (.tup xs)) = some xs:=rfl
theorem zBH {xs:List D}:zAV M (.fl xs) = some xs:=rfl
theorem zHO {xs:List D}:zA3 M (.fl xs) = some xs:=rfl
theorem zAa {n:Nat} {xs:List D} (h:M[n]? = some (.lst xs)):zA3 M (.dat (.ref n)) = some xs:=by unfold zA3; dsimp only; rw [h]
theorem zHB {n:Nat} {xs:List D} (h:M[n]? = some (.fro xs)):zA3 M (.dat (.ref n)) = some xs:=by unfold zA3; dsimp only; rw [h]
theorem za {n:Nat} {xs:List D} (h:M[n]? = some (.lst xs)):zAV M (.dat (.ref n)) = some xs:=zAa h
theorem zO3 {n:Nat} {xs:List D} (h:M[n]? = some (.fro xs)):zAV M (.dat (.ref n)) = some xs:=zHB h
theorem zEV {n:Nat} {xs:List D} {d:D} {Q:D -> Mem -> Prop} (h:M[n]? = some (.lst xs)) (hz:xs.length < sizeLine):Ok (zBV (.dat (.ref n)) [d] M) Q ↔ Q .non (M.set n (.lst (xs ++ [d]))):=by
 have:zBV (.dat (.ref n)) [d] M = some (.non,M.set n (.lst (xs ++ [d]))):=by unfold zBV; dsimp only; rw [h]; dsimp only; rw [zTZ hz]
 rw [this,ze]
theorem zP8 {n:Nat} {x:D} {xs:List D} {Q:D -> Mem -> Prop} (h:M[n]? = some (.lst (x :: xs))):Ok (zIh (.dat (.ref n)) [.int 0] M) Q ↔ Q x (M.set n (.lst xs)):=by
 have:zIh (.dat (.ref n)) [.int 0] M = some (x,M.set n (.lst xs)):=by
  unfold zIh; dsimp only; rw [h]; dsimp only;have e:ixN (x :: xs).length 0 = some 0:=by unfold ixN; rw [zTZ (by omega),zTZ (by simp)]; rfl
  rw [e]; dsimp only [List.getElem?_cons_zero]; rw [zTZ (by decide)]; rfl
 rw [this,ze]
theorem zJP {n k:Nat} {xs:List D} {d:D} (h:M[n]? = some (.lst xs)) (hk:k < xs.length):zI5 (.dat (.ref n)) (.int k) d M = some (M.set n (.lst (xs.set k d))):=by
 unfold zI5; dsimp only; rw [h]; dsimp only;have e:ixN xs.length (k:Int) = some k:=by unfold ixN; rw [zTZ (by omega),zTZ (by omega)]; simp
 rw [e]
end
theorem zHd {m:FF} {ds:List D} {M:Mem} {Q:D -> Mem -> Prop} (h:Ok (m ds M) fun d M1=>(D.und M.length d = true /\ M.length <= M1.length /\ ∀ (j:Nat) u,j < M.length -> M1[j]? = some u -> MO.und M.length u = true) /\ Q d (M1.take M.length)):Ok (zCe m ds M) Q:=by
 obtain ⟨d,M1,e,⟨h1,h2,h3⟩,q⟩:=h;unfold zCe;rw [e];dsimp only;rw [zTZ]
 ·exact ⟨_,_,rfl,q⟩
 ·simp only [zTu,zUc,zTv];refine ⟨⟨h1,fun u hu=>?_⟩,h2⟩;obtain ⟨j,hj⟩:=List.getElem?_of_mem hu;have hlt:j < M.length:=by
   have:=(zTN.mp hj).1;rw [zUn] at this; omega
  rw [List.getElem?_take_of_lt hlt] at hj;exact h3 j u hlt hj
section
variable {prog:Program} {w:World} {A:Around} {E:Value -> Shared -> Prop} {s:Shared}
theorem TIt.but (x:h.IsTupleIter a t i) (hs:Heap.ExtBut b h h') (n:a ≠ b):h'.IsTupleIter a t i:=x.extBut hs n
theorem Tup.but (x:h.IsTuple a its) (hs:Heap.ExtBut b h h') (n:a ≠ b):h'.IsTuple a its:=x.extBut hs n
theorem zCs (I:s.heap.IsTupleIter it t i) (T:s.heap.IsTuple t its) (hx:its[i]? = some x)
  (q:∀ h',h'.IsTupleIter it t (i + 1) -> Heap.SameBut it s.heap h' -> Q x { s with heap:=h' }):wpAny (model prog w) A (Builtin.SmallTypes.nextOf (.ref it)) Q E s:=by
 obtain ⟨o,O,C,FD⟩:=id I;obtain ⟨u,U,_,m,G⟩:=T;unfold Builtin.SmallTypes.nextOf;refine zTK (zTw (name:=Str.ofString "__next__") I.typeIs PySem.F.slot_tuple_iterator_next (zTx PySem.F.slot_tuple_iterator_next I.typeIs PySem.F.entry_tuple_iterator_next ?_ (PySem.F.args_tuple_iterator_next_1 _)));refine zTK (m:=field (.ref it) 0) (zTz O FD (x:=.ref t) rfl ?_);rw [zTc (show ¬ ((Value.ref t == Value.none) = true) by exact zTg)];refine zTK (m:=field (.ref it) 1) (zTz O FD (x:=.int i 0) rfl ?_);refine zTK (m:=seqItems? (.ref t)) (wpAny_seqItems U G ?_);simp only [hx,zV9];refine zTK (wpAny_setField O FD (by simp) (zTM ⟨x,rfl,zTM (q _ ⟨_,zUC _ O (Obj.isFreed_of_fields (Obj.data_mapFields FD _)),(Obj.cls_mapFields ..).trans C,?_⟩ (Heap.SameBut.update ..))⟩));rw [Obj.data_mapFields FD];simp [rawInt]
theorem zDj (hh:A.handled = none) (I:s.heap.IsTupleIter it t i) (T:s.heap.IsTuple t its) (hx:its[i]? = none)
  (q:∀ h' e,Heap.ExtBut it s.heap h' -> (∃ o,h'.get? e = some o /\ o.cls = .type "StopIteration") -> E (.ref e) { s with heap:=h' }):wpAny (model prog w) A (Builtin.SmallTypes.nextOf (.ref it)) Q E s:=by
 obtain ⟨o,O,C,FD⟩:=id I;obtain ⟨u,U,_,m,G⟩:=T;unfold Builtin.SmallTypes.nextOf;refine zTK (zTw (name:=Str.ofString "__next__") I.typeIs PySem.F.slot_tuple_iterator_next (zTx PySem.F.slot_tuple_iterator_next I.typeIs PySem.F.entry_tuple_iterator_next ?_ (PySem.F.args_tuple_iterator_next_1 _)));refine zTK (m:=field (.ref it) 0) (zTz O FD (x:=.ref t) rfl ?_);rw [zTc (show ¬ ((Value.ref t == Value.none) = true) by exact zTg)];refine zTK (m:=field (.ref it) 1) (zTz O FD (x:=.int i 0) rfl ?_);refine zTK (m:=seqItems? (.ref t)) (wpAny_seqItems U G ?_);simp only [hx,zV9];refine zTK (wpAny_rule (zTK (wpAny_setField O FD (by simp) ?_)));refine zTK (m:=newExc (.type "StopIteration") []) ?_;simp only [newTuple,newExc];refine zTK (zTn (zTK (m:=firstArgMember _ _) (wpAny_of_eq (a:=Value.none) (by first | rfl | (simp only [firstArgMember]; rfl)) (zTn ?_ (by size_fits)))) (by size_fits));simp only [raiseNew];refine zTK (wpAny_handled ?_);first | rw [hh] | rw [show A.in1.handled = none from hh]
 exact zTK (zTM (wpAny_throw (q _ _ (((Heap.SameBut.update ..).extBut.push _).push _) ⟨_,zTU _ rfl,rfl⟩)))
structure ZipT (h:Heap) (z TI TO i1 i2 t1 t2:Addr) (f:Value) (k1 k2:Nat):Prop where
 z:IsZip h z TI TO f
 ti:IsPair h TI (.ref i1) (.ref i2)
 to:∃ a b,IsPair h TO a b
 a:h.IsTupleIter i1 t1 k1
 b:h.IsTupleIter i2 t2 k2
theorem zLU {z TI TO i1 i2 t1 t2:Addr} {k:Nat} {xs ys:Array Value} {x y:Value} {Q:Option Value -> Shared -> Prop} (D:ZipApart z TI TO i1 i2 t1 t2) (Z:ZipT s.heap z TI TO i1 i2 t1 t2 .none k k)
  (T1:s.heap.IsTuple t1 xs) (T2:s.heap.IsTuple t2 ys) (hx:xs[k]? = some x) (hy:ys[k]? = some y)
  (q:∀ h',ZipT h' z TI TO i1 i2 t1 t2 (rawInt s.heap.objs.size) (k + 1) (k + 1) -> IsPair h' s.heap.objs.size x y ->
   (∀ c o,c ∉ [z,TO,i1,i2] -> s.heap.get? c = some o -> h'.get? c = some o) -> Q (some (.ref s.heap.objs.size)) { s with heap:=h' }):wpAny (model prog w) A (pyNext (.ref z)) Q E s:=by
 obtain ⟨Z0,P0,⟨a,b,O0⟩,I1,I2⟩:=Z;have ty:s.TypeIs (.ref z) "zip" := ⟨_,Z0,rfl⟩;unfold pyNext;refine zTK (wpAny_attempt (zTw (name:=Str.ofString "__next__") ty PySem.F.slot_zip_next (zTx PySem.F.slot_zip_next ty PySem.F.entry_zip_next ?_ (PySem.F.args_zip_next_1 _))));refine zTK (m:=field (.ref z) 2) (zTz Z0 rfl (x:=.bool false) rfl ?_);refine zTK (m:=field (.ref z) 3) (zTz Z0 rfl (x:=.ref TI) rfl ?_);refine zTK (wpAny_seqItems P0 rfl ?_);refine zTK (m:=Builtin.SmallTypes.ownedTupleIsFree (.ref z)) ?_;unfold Builtin.SmallTypes.ownedTupleIsFree;refine zTK (zTz Z0 rfl (x:=.none) rfl (zTM ?_));simp only [if_true];refine zTK (wpAny_rule (zTK (zTz Z0 rfl (x:=.ref TO) rfl (zTK (wpAny_setField_rec Z0 (by simp) fun h1 Z1 e1=>?_)))));replace Z1:IsZip h1 z TI TO .ellipsis:=Z1;refine zTK ?_;simp only [zV0,List.forIn_nil,List.zipIdx_cons,List.zipIdx_nil];refine zTK (zTK (wpAny_onRaise (zTK (m:=Builtin.SmallTypes.nextOf (.ref i1)) (zCs (TIt.but I1 e1.extBut D.i1z) (Tup.but T1 e1.extBut D.l1z) hx fun h2 J1 e2=>zTM ?_))));have O2:IsPair h2 TO a b:=e2.extBut _ _ D.TOi1 (e1.extBut _ _ D.TOz O0);refine zTK (wpAny_seqItems O2 rfl (zTK (wpAny_updateSeq_pair O2 fun h3 O3 e3=>zTK (wpAny_letGo (zTM ?_)))));replace O3:IsPair h3 TO x b:=O3
 refine zTK (zTK (wpAny_onRaise (zTK (m:=Builtin.SmallTypes.nextOf (.ref i2)) (zCs (TIt.but (TIt.but (TIt.but I2 e1.extBut D.i2z) e2.extBut D.i12.symm) e3.extBut D.TOi2.symm)
  (Tup.but (Tup.but (Tup.but T2 e1.extBut D.l2z) e2.extBut D.l2i1) e3.extBut D.l2TO) hy fun h4 J2 e4=>zTM ?_))))
 have O4:IsPair h4 TO x b:=e4.extBut _ _ D.TOi2 O3;refine zTK (wpAny_seqItems O4 rfl (zTK (wpAny_updateSeq_pair O4 fun h5 O5 e5=>zTK (wpAny_letGo (zTM (zTM ?_))))));replace O5:IsPair h5 TO x y:=O5;refine zTK (wpAny_seqItems O5 rfl (zTK (wpAny_newTuple ?_)));have sz:h5.objs.size = s.heap.objs.size:=by rw [e5.1,e4.1,e3.1,e2.1,e1.1]
 have Z5:IsZip h5 z TI TO .ellipsis:=e5.extBut _ _ D.TOz.symm (e4.extBut _ _ D.i2z.symm (e3.extBut _ _ D.TOz.symm (e2.extBut _ _ D.i1z.symm Z1)));have kp:∀ c o,c ∉ [z,TO,i1,i2] -> s.heap.get? c = some o -> h5.get? c = some o:=fun c o n e=>by
  simp only [zTW,zTp,or_false,not_or] at n;obtain ⟨n1,n2,n3,n4⟩:=n;exact e5.extBut _ _ n2 (e4.extBut _ _ n4 (e3.extBut _ _ n2 (e2.extBut _ _ n3 (e1.extBut _ _ n1 e))))
 have A5:h5.IsTupleIter i1 t1 (k + 1):=TIt.but (TIt.but (TIt.but J1 e3.extBut D.TOi1.symm) e4.extBut D.i12) e5.extBut D.TOi1.symm;have B5:h5.IsTupleIter i2 t2 (k + 1):=TIt.but J2 e5.extBut D.TOi2.symm;have zl:z < h5.objs.size:=zTV Z5;refine zTK (m:=Builtin.SmallTypes.ownedTupleHandOut (.ref z) (.ref h5.objs.size)) ?_;unfold Builtin.SmallTypes.ownedTupleHandOut;have Z6:IsZip (h5.push { cls:=.type "tuple", data:=.seq #[x,y] }) z TI TO .ellipsis:=zTL _ Z5;refine zTK (wpAny_setField_rec Z6 (by simp) fun h7 Z7 e7=>?_);replace Z7:IsZip h7 z TI TO (rawInt h5.objs.size):=Z7;refine wpAny_setField_rec Z7 (by simp) fun h8 Z8 e8=>?_;replace Z8:IsZip h8 z TI TO (rawInt h5.objs.size):=Z8;have up:∀ c o,c ≠ z -> h5.get? c = some o -> h8.get? c = some o:=fun c o n e=>e8.extBut _ _ n (e7.extBut _ _ n (zTL _ e));have N8:IsPair h8 h5.objs.size x y:=e8.extBut _ _ (Nat.ne_of_gt zl) (e7.extBut _ _ (Nat.ne_of_gt zl) (zTU _ rfl));rw [sz] at Z8 N8;refine zTM ⟨_,rfl,?_⟩;rw [sz];refine zTM (q h8 ⟨Z8,up _ _ D.TIz (kp _ _ (by simp [D.TIz,D.TITO,D.TIi1,D.TIi2]) P0),⟨_,_,up _ _ D.TOz O5⟩,?_,?_⟩ N8 fun c o n e=>up c o (fun m=>n (by simp [m])) (kp c o n e))
 ·obtain ⟨o,e,r⟩:=A5; exact ⟨o,up _ _ D.i1z e,r⟩
 ·obtain ⟨o,e,r⟩:=B5; exact ⟨o,up _ _ D.i2z e,r⟩
theorem zMp {z TI TO i1 i2 t1 t2:Addr} {k:Nat} {xs ys:Array Value} {Q:Option Value -> Shared -> Prop} (hh:A.handled = none) (D:ZipApart z TI TO i1 i2 t1 t2) (Z:ZipT s.heap z TI TO i1 i2 t1 t2 .none k k)
  (T1:s.heap.IsTuple t1 xs) (T2:s.heap.IsTuple t2 ys) (he:xs[k]? = none \/ ys[k]? = none)
  (q:∀ h',(∀ c o,c ∉ [z,TO,i1,i2] -> s.heap.get? c = some o -> h'.get? c = some o) -> Q none { s with heap:=h' }):wpAny (model prog w) A (pyNext (.ref z)) Q E s:=by
 obtain ⟨Z0,P0,⟨a,b,O0⟩,I1,I2⟩:=Z;have ty:s.TypeIs (.ref z) "zip" := ⟨_,Z0,rfl⟩
 have stop:∀ (e:Addr) (h':Heap),(∀ c o,c ∉ [z,TO,i1,i2] -> s.heap.get? c = some o -> h'.get? c = some o) -> (∃ o,h'.get? e = some o /\ o.cls = .type "StopIteration") ->
   wpAny (model prog w) A (do if (<- isInstance (.ref e) (.type "StopIteration")) then pure none else throw (.ref e):Sem (Option Value)) Q E { s with heap:=h' }:=fun e h' k1 ⟨o,e1,e2⟩=>
  zTK (wpAny_isInstance (T := "StopIteration") (b:=true) ⟨o,e1,e2⟩ isSubtype_stop (zTM (q h' k1)))
 unfold pyNext;refine zTK (wpAny_attempt (zTw (name:=Str.ofString "__next__") ty PySem.F.slot_zip_next (zTx PySem.F.slot_zip_next ty PySem.F.entry_zip_next ?_ (PySem.F.args_zip_next_1 _))));refine zTK (m:=field (.ref z) 2) (zTz Z0 rfl (x:=.bool false) rfl ?_);refine zTK (m:=field (.ref z) 3) (zTz Z0 rfl (x:=.ref TI) rfl ?_);refine zTK (wpAny_seqItems P0 rfl ?_);refine zTK (m:=Builtin.SmallTypes.ownedTupleIsFree (.ref z)) ?_;unfold Builtin.SmallTypes.ownedTupleIsFree;refine zTK (zTz Z0 rfl (x:=.none) rfl (zTM ?_));simp only [if_true];refine zTK (wpAny_rule (zTK (zTz Z0 rfl (x:=.ref TO) rfl (zTK (wpAny_setField_rec Z0 (by simp) fun h1 Z1 e1=>?_)))));replace Z1:IsZip h1 z TI TO .ellipsis:=Z1;refine zTK ?_;simp only [zV0,List.forIn_nil,List.zipIdx_cons,List.zipIdx_nil];cases hx:xs[k]? with
 | none=>
  refine zTK (zTK (wpAny_onRaise (zTK (m:=Builtin.SmallTypes.nextOf (.ref i1)) (zDj hh (TIt.but I1 e1.extBut D.i1z) (Tup.but T1 e1.extBut D.l1z) hx fun h2 e e2 he=>?_))));obtain ⟨oe,o1,o2⟩:=he;have Z2:IsZip h2 z TI TO .ellipsis:=e2 _ _ D.i1z.symm Z1;have ne:e ≠ z:=fun m=>by subst m; rw [Z2] at o1; cases o1; simp at o2
  refine wpAny_setField_rec Z2 (by simp) fun h3 _ e3=>stop e h3 (fun c o n x=>?_) ⟨oe,e3.extBut _ _ ne o1,o2⟩;simp only [zTW,zTp,or_false,not_or] at n;exact e3.extBut _ _ n.1 (e2 _ _ n.2.2.1 (e1.extBut _ _ n.1 x))
 | some x=>
  have hy:ys[k]? = none:=by
   rcases he with m | m
   ·rw [hx] at m; cases m
   ·exact m
  refine zTK (zTK (wpAny_onRaise (zTK (m:=Builtin.SmallTypes.nextOf (.ref i1)) (zCs (TIt.but I1 e1.extBut D.i1z) (Tup.but T1 e1.extBut D.l1z) hx fun h2 J1 e2=>zTM ?_))));have O2:IsPair h2 TO a b:=e2.extBut _ _ D.TOi1 (e1.extBut _ _ D.TOz O0);refine zTK (wpAny_seqItems O2 rfl (zTK (wpAny_updateSeq_pair O2 fun h3 O3 e3=>zTK (wpAny_letGo (zTM ?_)))))
  refine zTK (zTK (wpAny_onRaise (zTK (m:=Builtin.SmallTypes.nextOf (.ref i2)) (zDj hh (TIt.but (TIt.but (TIt.but I2 e1.extBut D.i2z) e2.extBut D.i12.symm) e3.extBut D.TOi2.symm)
   (Tup.but (Tup.but (Tup.but T2 e1.extBut D.l2z) e2.extBut D.l2i1) e3.extBut D.l2TO) hy fun h4 e e4 he=>?_))))
  obtain ⟨oe,o1,o2⟩:=he;have Z4:IsZip h4 z TI TO .ellipsis:=e4 _ _ D.i2z.symm (e3.extBut _ _ D.TOz.symm (e2.extBut _ _ D.i1z.symm Z1));have ne:e ≠ z:=fun m=>by subst m; rw [Z4] at o1; cases o1; simp at o2
  refine wpAny_setField_rec Z4 (by simp) fun h5 _ e5=>stop e h5 (fun c o n x=>?_) ⟨oe,e5.extBut _ _ ne o1,o2⟩;simp only [zTW,zTp,or_false,not_or] at n;exact e5.extBut _ _ n.1 (e4 _ _ n.2.2.2 (e3.extBut _ _ n.2.1 (e2.extBut _ _ n.2.2.1 (e1.extBut _ _ n.1 x))))
abbrev zT1 (h:Heap) (a:Addr):Heap:=h.push { cls:=.type "tuple_iterator", data:=.fields #[.ref a,.int 0 0] }
abbrev zT2 (h:Heap) (a b:Addr):Heap:=zT1 (zT1 h a) b
abbrev zT3 (h:Heap) (a b:Addr):Heap:=(zT2 h a b).push { cls:=.type "tuple", data:=.seq #[.ref h.objs.size,.ref (zT1 h a).objs.size] }
abbrev zT4 (h:Heap) (a b:Addr):Heap:=(zT3 h a b).push { cls:=.type "tuple", data:=.seq #[.none,.none] }
abbrev zT5 (h:Heap) (a b:Addr):Heap:=(zT4 h a b).push { cls:=.type "zip", data:=.fields #[.none,.bool false,.bool false,.ref (zT2 h a b).objs.size,.ref (zT3 h a b).objs.size] }
theorem zJb (a b:Addr) (xs ys:Array Value):Meets (Builtin.«zip.__new__» ⟨[.type "zip", .ref a,.ref b],[]⟩) (fun _ R s=>s.heap.IsTuple a xs /\ s.heap.IsTuple b ys /\ R (.ok (.ret (.ref (zT4 s.heap a b).objs.size))) { s with heap:=zT5 s.heap a b }) :=
 .of_wp fun prog w A R s h=>by
  obtain ⟨hp,g,d,tk,os⟩:=s;obtain ⟨Ta,Tb,h⟩:=h;have sz:=sub_zip;have U1:Heap.IsTuple (Shared.heap ⟨hp,g,d,tk,os⟩) a xs:=Ta;have U2:Heap.IsTuple (Shared.heap ⟨hp.push { cls:=.type "tuple_iterator", data:=.fields #[.ref a,.int 0 0] },g,d,tk,os⟩) b ys:=Heap.IsTuple.push Tb _;wp_walk using wpAny_pyIter_tuple U1,wpAny_pyIter_tuple U2;exact ⟨_,rfl,h⟩
theorem zNH (Ta:s.heap.IsTuple a xs) (Tb:s.heap.IsTuple b ys)
  (h:∀ h',ZipT h' (s.heap.objs.size + 4) (s.heap.objs.size + 2) (s.heap.objs.size + 3) s.heap.objs.size (s.heap.objs.size + 1) a b .none 0 0 -> (∀ c o,s.heap.get? c = some o -> h'.get? c = some o) -> Q (.ref (s.heap.objs.size + 4)) { s with heap:=h' }) :
  wpAny (model prog w) A (call (.type "zip") [.ref a,.ref b]) Q E s:=by
 refine callType_new PySem.F.called_zip (by decide) (PySem.F.typeCall_zip_2 _ _) (PySem.F.newCall_zip_2 _ _) (fun obj=>PySem.F.args_object_init_3 obj _ _) PySem.F.entry_zip_new (zJb a b xs ys) ⟨Ta,Tb,?_⟩;have q1:(zT1 s.heap a).objs.size = s.heap.objs.size + 1:=zT0 ..;have q2:(zT2 s.heap a b).objs.size = s.heap.objs.size + 2:=by rw [zT0,q1]
 have q3:(zT3 s.heap a b).objs.size = s.heap.objs.size + 3:=by rw [zT0,q2]
 have q4:(zT4 s.heap a b).objs.size = s.heap.objs.size + 4:=by rw [zT0,q3]
 have u:∀ {h:Heap} {c:Addr} {o p:Obj},h.get? c = some o -> (h.push p).get? c = some o:=fun e=>zTL _ e;have p5:(zT5 s.heap a b).get? (zT4 s.heap a b).objs.size = some _:=zTU _ rfl;have p4:(zT5 s.heap a b).get? (zT3 s.heap a b).objs.size = some _:=u (zTU _ rfl);have p3:(zT5 s.heap a b).get? (zT2 s.heap a b).objs.size = some _:=u (u (zTU _ rfl));have p2:(zT5 s.heap a b).get? (zT1 s.heap a).objs.size = some _:=u (u (u (zTU _ rfl)));have p1:(zT5 s.heap a b).get? s.heap.objs.size = some _:=u (u (u (u (zTU _ rfl))));show _ /\ _;rw [q2,q3,q4] at p5;rw [q1,q2] at p3;rw [q3] at p4;rw [q1] at p2;rw [q4];exact ⟨⟨_,p5,rfl⟩,h _ ⟨p5,p3,⟨_,_,p4⟩,⟨_,p1,rfl,rfl⟩,⟨_,p2,rfl,rfl⟩⟩ fun c o x=>u (u (u (u (u x))))⟩
end
theorem zFI {X:Cx} {zB:List (Addr × Obj)} {σ:L2.St} {H:Hp} {s:Shared} {h':Heap} {t':Nat} {ch:List Addr} {T:Addr} {o:HO} (I:Inv X zB σ H s) (hf:∀ b ∈ ch,zDv X zB H b)
  (k:∀ b u,b ∉ ch -> s.heap.get? b = some u -> h'.get? b = some u) (hT:s.heap.objs.size <= T) (new:zAE X.prog X.w (upd H T o) h' T o):Inv X zB σ (upd H T o) { s with heap:=h',toks:=t' }:=by
 have hn:H T = none:=I.hok.fresh hT;have nch:∀ b u,H b = some u -> b ∉ ch:=fun b u e z=>by rw [(hf b z).1] at e; cases e
 have un:∀ b u,H b = some u -> upd H T o b = some u:=fun b u e=>by rw [zZ (zAG e hn)]; exact e
 refine I.step (g':=s.gens) (d':=s.drawn) (ch:=ch) (fun b hb=>⟨(hf b hb).2.2.2.1,(hf b hb).2.1,(hf b hb).2.2.2.2.1,(hf b hb).2.2.2.2.2⟩) (fun b u _ _ hc e _=>k b u hc e) (fun b u _ _ hc e _=>⟨u.slots,k b u hc e⟩)
  (fun b u _ e n=>by rw [zZ (fun z=>by rw [z] at e; exact absurd (zTV e) (Nat.not_lt.mpr hT))]; exact n) (fun b u hc e=>⟨u,k b u hc e⟩) (fun b xs e=>un b _ e) (fun b p u e=>un b _ e) (fun b ps e=>⟨#[],by rw [un b _ e]; simp⟩) (fun m hm=>?_) (fun b u e=>?_) I.bare
 ·obtain ⟨p,es,ep,ho,r⟩:=hm;exact ⟨p,es,ep,k _ p (fun z=>(hf _ z).2.1 rfl) ho,r⟩
 ·by_cases hb:b = T
  ·subst hb; rw [zAX] at e; cases e; exact new
  ·rw [zZ hb] at e;refine (I.hok b u e).stay (fun c v hc q=>k c v ?_ q) (fun c q=>un c _ q) fun c xs q=>un c _ q;rcases hc with z | z
   ·rw [z]; exact nch b u e
   ·exact nch c _ z
theorem zG7 {X:Cx} {zB:List (Addr × Obj)} {σ:L2.St} {H:Hp} {s:Shared} {h':Heap} {t':Nat} {ch:List Addr} (I:Inv X zB σ H s) (hf:∀ b ∈ ch,zDv X zB H b)
  (k:∀ b u,b ∉ ch -> s.heap.get? b = some u -> h'.get? b = some u):Inv X zB σ H { s with heap:=h',toks:=t' }:=by
 have nch:∀ b u,H b = some u -> b ∉ ch:=fun b u e z=>by rw [(hf b z).1] at e; cases e
 refine I.step (g':=s.gens) (d':=s.drawn) (ch:=ch) (fun b hb=>⟨(hf b hb).2.2.2.1,(hf b hb).2.1,(hf b hb).2.2.2.2.1,(hf b hb).2.2.2.2.2⟩) (fun b u _ _ hc e _=>k b u hc e) (fun b u _ _ hc e _=>⟨u.slots,k b u hc e⟩)
  (fun b u _ e n=>n) (fun b u hc e=>⟨u,k b u hc e⟩) (fun b xs e=>e) (fun b p u e=>e) (fun b ps e=>⟨#[],by rw [e]; simp⟩) (fun m hm=>?_) (fun b u e=>?_) I.bare
 ·obtain ⟨p,es,ep,ho,r⟩:=hm;exact ⟨p,es,ep,k _ p (fun z=>(hf _ z).2.1 rfl) ho,r⟩
 ·refine (I.hok b u e).stay (fun c v hc q=>k c v ?_ q) (fun c q=>q) fun c xs q=>q;rcases hc with z | z
  ·rw [z]; exact nch b u e
  ·exact nch c _ z
def Itz (K:PySem.W.Frag) (a b:Addr):It :=
 ⟨fun i H=>∃ xs ys x y,SqT K H a xs /\ SqT K H b ys /\ xs[i]? = some x /\ ys[i]? = some y,
  fun i H v H'=>∃ T x y,v = .ref T /\ H T = none /\ H' = upd H T (.tup [x,y]) /\ (∀ xs,SqT K H a xs -> xs[i]? = some x) /\ ∀ ys,SqT K H b ys -> ys[i]? = some y,
  fun i H=>∃ xs ys,SqT K H a xs /\ SqT K H b ys /\ (xs.length <= i \/ ys.length <= i)⟩
theorem zLF {P:Program} {w:World} {K:PySem.W.Frag} {es:List Expr} {ek:Nat} {ep:Pos} {z TI TO i1 i2 a b:Addr} (D:ZipApart z TI TO i1 i2 a b) :
  Turn P w K (.Tuple es ek ep) (Itz K a b) [z,TI,TO,i1,i2] z (fun i h=>ZipT h z TI TO i1 i2 a b .none i i) where
 mem:=by simp
 obj:=fun i h Z c hc=>by
  obtain ⟨Z0,P0,⟨x,y,O0⟩,⟨o1,e1,_,d1⟩,⟨o2,e2,_,d2⟩⟩:=Z;simp only [zTW,zTp,or_false] at hc;rcases hc with rfl | rfl | rfl | rfl | rfl
  ·exact ⟨_,Z0,fun v m=>by cases m⟩
  ·exact ⟨_,P0,fun v m=>by cases m⟩
  ·exact ⟨_,O0,fun v m=>by cases m⟩
  ·exact ⟨_,e1,fun v m=>by rw [d1] at m; cases m⟩
  ·exact ⟨_,e2,fun v m=>by rw [d2] at m; cases m⟩
 keep:=fun i h h' Z k=>by
  obtain ⟨Z0,P0,⟨x,y,O0⟩,⟨o1,e1,r1⟩,⟨o2,e2,r2⟩⟩:=Z;exact ⟨k z (by simp) _ Z0,k TI (by simp) _ P0,⟨x,y,k TO (by simp) _ O0⟩,⟨o1,k i1 (by simp) _ e1,r1⟩,⟨o2,k i2 (by simp) _ e2,r2⟩⟩
 item:=by
  intro X hP hw hK hc i zB s σ H E I hf Z hg;subst hP hw hK;obtain ⟨xs,ys,x,y,sa,sb,hx,hy⟩:=hg;obtain ⟨its,rv,p1,z1⟩:=I.tuple sa;obtain ⟨its2,rv2,p2,z2⟩:=I.tuple sb;obtain ⟨u,hu,ru⟩:=rv.get hx;obtain ⟨u2,hu2,ru2⟩:=rv2.get hy;refine zLU D Z (show s.heap.IsTuple a its.toArray from p1) (show s.heap.IsTuple b its2.toArray from p2) (x:=u) (y:=u2) (by simpa using hu) (by simpa using hu2) fun h' Z' N' kp=>⟨_,rfl,?_⟩;refine wpAny_letOwnedTupleGo_zip Z'.z fun h2 Z2 e2=>?_;have hch:∀ c ∈ [z,TO,i1,i2],zDv X zB H c:=fun c hm=>hf c (by
   simp only [zTW,zTp,or_false] at hm ⊢;rcases hm with q | q | q | q <;> simp [q])
  have kk:∀ c o,c ∉ [z,TO,i1,i2] -> s.heap.get? c = some o -> h2.get? c = some o:=fun c o n e=>e2.extBut _ _ (fun m=>n (by simp [m])) (kp c o n e);have zlt:z < s.heap.objs.size:=zTV Z.z;have NT:IsPair h2 s.heap.objs.size u u2:=e2.extBut _ _ (Nat.ne_of_gt zlt) N';have hfr:H s.heap.objs.size = none:=I.hok.fresh (zTQ _);refine ⟨.ref s.heap.objs.size,upd H s.heap.objs.size (.tup [x,y]),zFI (s:=s) (h':=h2) (t':=s.toks) I hch kk (zTQ _) ?_,rfl,⟨_,x,y,rfl,hfr,rfl,fun ws hw=>?_,fun ws hw=>?_⟩,?_,fun c hm=>?_⟩
  ·exact ⟨by show 2 <= sizeLine; decide,[u,u2],.cons ru (.cons ru2 .nil),⟨_,NT,rfl,⟨_,rfl⟩,rfl⟩⟩
  ·rw [I.tuple_inj hw sa]; exact hx
  ·rw [I.tuple_inj hw sb]; exact hy
  ·obtain ⟨_,P1,⟨q1,q2,O1⟩,⟨o1,f1,r1⟩,⟨o2,f2,r2⟩⟩:=Z';exact ⟨Z2,e2.extBut _ _ D.TIz P1,⟨q1,q2,e2.extBut _ _ D.TOz O1⟩,⟨o1,e2.extBut _ _ D.i1z f1,r1⟩,⟨o2,e2.extBut _ _ D.i2z f2,r2⟩⟩
  ·have lt:c < s.heap.objs.size:=by
    obtain ⟨Z0,P0,⟨q1,q2,O0⟩,⟨o1,f1,_⟩,⟨o2,f2,_⟩⟩:=Z;simp only [zTW,zTp,or_false] at hm;rcases hm with rfl | rfl | rfl | rfl | rfl
    ·exact zTV Z0
    ·exact zTV P0
    ·exact zTV O0
    ·exact zTV f1
    ·exact zTV f2
   rw [zZ (zTf lt)];exact (hf c hm).1
 done:=by
  intro X hP hw hK hc i zB s σ H E I hf Z hg;subst hP hw hK;obtain ⟨xs,ys,sa,sb,hz⟩:=hg;obtain ⟨its,rv,p1,z1⟩:=I.tuple sa;obtain ⟨its2,rv2,p2,z2⟩:=I.tuple sb;have l1:=rv.length;have l2:=rv2.length;refine zMp (I.ok.hd hc) D Z (show s.heap.IsTuple a its.toArray from p1) (show s.heap.IsTuple b its2.toArray from p2) ?_ fun h' kp=>⟨rfl,zG7 (s:=s) (h':=h') (t':=s.toks) I (fun c hm=>hf c (by
   simp only [zTW,zTp,or_false] at hm ⊢;rcases hm with q | q | q | q <;> simp [q])) kp⟩
  rcases hz with q | q
  ·exact .inl (by simp; omega)
  ·exact .inr (by simp; omega)
 self:=fun _ _ _ _ _ Z h=>wpAny_pyIter_zip Z.z h
section
variable {X:Cx} {a b:Expr} {es:List Expr} {ek:Nat} {ep p pos:Pos}
theorem zQD {ta:TA} (hg:Gl X "zip") (hm:X.mg "zip" = none) (ha:PA X [a,b] ta) (hs:starEach [a,b] X.env = [(false,eval a X.env),(false,eval b X.env)]:=by rfl) (hs2:starEach [b] X.env = [(false,eval b X.env)]:=by rfl) :
  PI X (.Tuple es ek ep) (.Call (.Name "zip" p) [a,b] [] pos) (fun σ H R=>ta σ H fun vs H1=>∃ l1 l2 xs ys,vs = [.ref l1,.ref l2] /\ SqT X.K H1 l1 xs /\ SqT X.K H1 l2 ys /\ R (Itz X.K l1 l2) H1):=by
 intro zB s σ H R I h;refine Call_ (zEw I hg hm (by rfl) (PyProof.Rows.callWith_type1 (thn (ha pos zB s σ H _ I h) fun us s1 ⟨vs,H1,I1,r1,q1⟩=>?_) (by rw [hs,hs2]) (by rw [hs2]; rfl)));obtain ⟨l1,l2,xs,ys,rfl,s1',s2',q⟩:=q1;cases r1 with
 | cons r rr=>
  cases rr with
  | cons r' rr=>
   cases rr;cases r;cases r';obtain ⟨its,rv,p1,_⟩:=I1.tuple s1';obtain ⟨its2,rv2,p2,_⟩:=I1.tuple s2';have d1:l1 < s1.heap.objs.size:=by obtain ⟨_,e,_⟩:=p1; exact zTV e
   have d2:l2 < s1.heap.objs.size:=by obtain ⟨_,e,_⟩:=p2; exact zTV e
   refine zNH (show s1.heap.IsTuple l1 its.toArray from p1) (show s1.heap.IsTuple l2 its2.toArray from p2) fun h' Z kp=>wpAny_pyIter_zip Z.z ?_;refine ⟨s1.heap.objs.size + 4,[s1.heap.objs.size + 4,s1.heap.objs.size + 2,s1.heap.objs.size + 3,s1.heap.objs.size,s1.heap.objs.size + 1],_,_,H1,rfl,I1.kept (t':=s1.toks) kp,zLF (zipApart_new d1 d2),Z,fun c hc=>?_,q⟩;have ge:s1.heap.objs.size <= c:=by
    simp only [zTW,zTp,or_false] at hc;rcases hc with rfl | rfl | rfl | rfl | rfl
    ·exact Nat.le_add_right _ 4
    ·exact Nat.le_add_right _ 2
    ·exact Nat.le_add_right _ 3
    ·exact zTQ _
    ·exact Nat.le_add_right _ 1
   exact I1.fpOk ge (I1.hok.fresh ge)
def zJ8 (g:FA):FI:=fun σ M=>match g σ M with
 | some ([.tup xs,.tup ys],M1)=>some ((xs.zip ys).map fun q=>D.tup [q.1,q.2],none,M1)
 | _=>none
theorem zNE (hg:Gl X "zip") (hm:X.mg "zip" = none) (ha:QA X [a,b] g) (hs:starEach [a,b] X.env = [(false,eval a X.env),(false,eval b X.env)]:=by rfl) (hs2:starEach [b] X.env = [(false,eval b X.env)]:=by rfl) :
  QI X (.Tuple es ek ep) (.Call (.Name "zip" p) [a,b] [] pos) (zJ8 g):=.mk <| PI.imp (zQD hg hm ha.un hs hs2) fun τ H R zz=>by
 obtain ⟨L,σ,M,xs,gd,M',c,rs,hf,q⟩:=zz;unfold zJ8 at hf;split at hf
 ·rename_i ds es' M1 e1;cases hf;refine ⟨L,σ,M,_,_,c,rs,e1,fun L1 H1 vs s1 c1 r1=>?_⟩;obtain ⟨v,v',rfl,r2,r3⟩:=r1.two;unfold Rep at r2 r3;obtain ⟨l1,ws1,rfl,h1,q1⟩:=r2;obtain ⟨l2,ws2,rfl,h2,q2⟩:=r3;refine ⟨l1,l2,ws1,ws2,rfl,.of h1,.of h2,q L1 H1 _ s1 c1 fun L2 H2 M2 s2 c2 _=>?_⟩;have k1:=s2.tup l1 ws1 h1;have k2:=s2.tup l2 ws2 h2;have p1:=q1.stp s2;have p2:=q2.stp s2;refine ⟨fun i d hd=>?_,⟨ws1,ws2,.of k1,.of k2,?_⟩⟩
  ·rw [zTh] at hd;cases e2:(ds.zip es')[i]? with
   | none=>rw [e2] at hd; cases hd
   | some pr=>
    rw [e2] at hd;cases hd;obtain ⟨f1,f2⟩:=List.getElem?_zip_eq_some.mp e2;obtain ⟨u,hu,ru⟩:=p1.get f1;obtain ⟨u2,hu2,ru2⟩:=p2.get f2;refine ⟨⟨ws1,ws2,u,u2,.of k1,.of k2,hu,hu2⟩,fun v H3 hy=>?_⟩;obtain ⟨T,x,y,rfl,hT,rfl,hxx,hyy⟩:=hy;have ex:=hxx ws1 (.of k1);have ey:=hyy ws2 (.of k2);rw [hu] at ex; cases ex;rw [hu2] at ey; cases ey;exact ⟨fun a o e=>by rw [zZ (zAG e hT)]; exact e,Rep.newTup hT (.cons ru (.cons ru2 .nil))⟩
  ·rw [zTT,List.length_zip,p1.length,p2.length];omega
 ·cases hf
def zBr (i j:Nat):FG:=fun d σ=>match d with
 | .tup [x,y]=>some ((σ.set i (some x)).set j (some y))
 | _=>none
abbrev gP2 (K:PySem.W.Frag) (i j:Nat):TG:=zSD K 2 (zM9 (zDy i) (zM9 (zDy j) zR7))
theorem zFn {K:PySem.W.Frag} {i j:Nat}:GOk (gP2 K i j) (zBr i j):=by
 intro L H σ σ' τ d v Q rs r hf q;unfold zBr at hf;split at hf
 ·rename_i x y;cases hf;unfold Rep at r;obtain ⟨a,vs,rfl,e,r⟩:=r;obtain ⟨v1,v2,rfl,r1,r2⟩:=r.two;exact ⟨a,_,rfl,.of e,rfl,v1,[v2],rfl,v2,[],rfl,rfl,q _ ((rs.set r1).set r2)⟩
 ·cases hf
theorem zDe {K:PySem.W.Frag} {own:List Nat} {i j:Nat} (hi:i ∈ own) (hj:j ∈ own):zMR own (gP2 K i j) (zBr i j):=by
 intro L H σ σ' τ τ0 d v Q rs ex r hf q;unfold zBr at hf;split at hf
 ·rename_i x y;cases hf;unfold Rep at r;obtain ⟨a,vs,rfl,e,r⟩:=r;obtain ⟨v1,v2,rfl,r1,r2⟩:=r.two;exact ⟨a,_,rfl,.of e,rfl,v1,[v2],rfl,v2,[],rfl,rfl,q _ ((rs.set r1).set r2) ((ex.set hi).set hj)⟩
 ·cases hf
end
section
variable {X:Cx} {a b c e:Expr} {es:List Expr} {pos p p2 pos2:Pos} {f g h:FE}
theorem zK4:∀ {bs:List Bool} {its:List Value},zg (bs.map V.bl) its -> ∀ (i:Nat) v,its[i]? = some v -> ∃ k,bs[i]? = some k /\ v = .bool k
 | [],_,.nil,_,_,h=>by simp at h
 | k :: bs,_,.cons r t,0,v,h=>by
  simp at h; subst h;exact ⟨k,rfl,r⟩
 | k :: bs,_,.cons r t,i + 1,v,h=>by
  obtain ⟨k',e1,e2⟩:=zK4 t i v (by simpa using h);exact ⟨k',by simpa using e1,e2⟩
theorem zJg (bs:List Bool):((List.range bs.length).all fun i=>(bs[i]?).getD true) = bs.all id:=by
 rw [zV2,zTv,zTv];constructor
 ·intro q k hk;obtain ⟨i,hi,rfl⟩:=List.getElem_of_mem hk;have:=q i (zTy.mpr hi);rw [zTO hi] at this;exact this
 ·intro q i hi;rw [zTO (zTy.mp hi)];exact q _ (List.getElem_mem _)
def zSE (K:PySem.W.Frag) (F:List Bool -> Bool):List V -> Hp -> VK -> Prop:=fun xs H Q=>∃ q bs,xs = [.ref q] /\ SqL K H q (bs.map V.bl) /\ Q (.bl (F bs)) H
theorem zLS (hc:X.calm = true):zBZ X (.builtin "all") (zSE X.K fun bs=>bs.all id):=by
 intro zB s σ H xs us Q I r h;obtain ⟨l,bs,rfl,hq,q⟩:=h;obtain ⟨u,rfl,rx⟩:=zDx r;cases rx;obtain ⟨its,rv,pl,_⟩:=I.list hq;have hlt:l < s.heap.objs.size:=by obtain ⟨_,z,_⟩:=pl.isList; exact zTV z
 refine call_all_walk (wpAny_pyIter_list pl.isList ⟨s.heap.objs.size,[s.heap.objs.size,l],[s.heap.objs.size],its.toArray.size,_,_,fun i=>(bs[i]?).getD true,rfl,Walks.list (A:=X.A.in1) (I.ok.hd hc) _ l (zTf hlt) its.toArray,
  ⟨⟨_,zTU _ rfl,rfl,rfl⟩,pl.isList.push _⟩,fun i v s' Q' E' hP hQ=>?_,fun h' tk hk=>?_⟩)
 ·obtain ⟨k,z,rfl⟩:=zK4 rv i v (by simpa using hP);dsimp only at hQ; rw [z] at hQ;exact zUb hQ
 ·have hl:=rv.length;rw [zTT] at hl;rw [zTS,<- hl,zJg];exact ⟨.bl _,H,I.kept (t':=tk) fun b o z=>hk b o (fun m=>by rw [zTm.mp m] at z; exact zT7 _ (zTV z)) (zTL _ z),rfl,q⟩
def zFO:List D -> Option (List Bool)
 | []=>some []
 | .bl k :: r=>match zFO r with
  | some bs=>some (k :: bs)
  | none=>none
 | _=>none
theorem zKR:∀ {ds:List D} {bs:List Bool} {vs:List V},zFO ds = some bs -> zL L H ds vs -> vs = bs.map V.bl
 | [],bs,vs,e,r=>by cases e; unfold zL at r; exact r
 | d :: ds,bs,vs,e,r=>by
  unfold zL at r;obtain ⟨v,r',rfl,r1,r2⟩:=r;cases d with
  | bl k=>
   unfold zFO at e;cases q:zFO ds with
   | none=>rw [q] at e; cases e
   | some bs'=>
    rw [q] at e; cases e;unfold Rep at r1;rw [r1,zKR q r2]; rfl
  | _=>cases e
def zMB (F:List Bool -> Bool):KB:=fun xs M=>match xs with
 | [x]=>match zA3 M x with
  | some ds=>match zFO ds with
   | some bs=>some (.dat (.bl (F bs)),M)
   | none=>none
  | none=>none
 | _=>none
theorem zPg {K:PySem.W.Frag} {F:List Bool -> Bool}:zEz K (zSE K F) (zMB F):=by
 intro L M M' H H0 xs d vs Q c r hk q;unfold zMB at hk;split at hk
 ·rename_i x;split at hk
  ·rename_i ds e1;split at hk
   ·rename_i bs e2;cases hk;obtain ⟨v,rfl,r1⟩:=r.one;obtain ⟨l,ws,rfl,h1,r2⟩:=zBG c r1 e1;have:=zKR e2 r2;subst this;exact ⟨l,bs,rfl,.inl h1,q L H _ (.refl L H) c (zAp (L:=L) (H:=H))⟩
   ·cases hk
  ·cases hk
 ·cases hk
abbrev zHi:KB:=zMB fun bs=>bs.all id
section
variable {fa:FAE}
theorem zOL (hc:X.calm = true) (hg:Gl X "all") (hm:X.mg "all" = none) (ha:QAE X [e] fa) (he:starEach [e] X.env = (false,eval e X.env) :: starEach [] X.env:=by rfl) (hpl:(backTo pos (starEach [] X.env)).any (·.1) = false:=by rfl):QE X (.Call (.Name "all" p) [e] [] pos) (fB zHi fa) :=
 zDp zPg (zLS hc) (by rfl) hg hm ha (by decide) (by decide) he hpl
end
theorem zP7 (h:zA3 M x = some ds) (hb:zFO ds = some bs):Ok (zMB F [x] M) P ↔ P (.dat (.bl (F bs))) M:=by
 have:zMB F [x] M = some (.dat (.bl (F bs)),M):=by unfold zMB; dsimp only; rw [h]; dsimp only; rw [hb]
 rw [this,ze]
theorem zE0:∀ bs:List Bool,zFO (bs.map D.bl) = some bs
 | []=>rfl
 | k :: bs=>by rw [zTd]; unfold zFO; rw [zE0 bs]
def zFv:V -> Bool
 | .non=>true
 | .bl _=>true
 | _=>false
theorem zNa:OpR X (compareOp .Is) (fun x y H Q=>zFv y = true /\ Q (.bl (decide (x = y))) H):=by
 intro zB s σ H x y v u Q I rx ry h;obtain ⟨hp,q⟩:=h;cases y with
 | non=>
  cases ry;refine wpAny_is_plain (by cases x <;> first | (cases rx; rfl) | (obtain ⟨t,rfl⟩:=rx; rfl)) (zi I q ?_);cases x <;> first | (cases rx; rfl) | (obtain ⟨t,rfl⟩:=rx; rfl)
 | bl k=>
  cases ry;refine wpAny_is_plain (by cases x <;> first | (cases rx; rfl) | (obtain ⟨t,rfl⟩:=rx; rfl)) (zi I q ?_);cases x with
  | bl k'=>cases rx; cases k <;> cases k' <;> rfl
  | _=>first | (cases rx; rfl) | (obtain ⟨t,rfl⟩:=rx; rfl)
 | _=>cases hp
theorem zN6:OpR X (compareOp .IsNot) (fun x y H Q=>zFv y = true /\ Q (.bl (!decide (x = y))) H):=by
 intro zB s σ H x y v u Q I rx ry h;obtain ⟨hp,q⟩:=h;cases y with
 | non=>
  cases ry;refine wpAny_isNot_plain (by cases x <;> first | (cases rx; rfl) | (obtain ⟨t,rfl⟩:=rx; rfl)) (zi I q ?_);cases x <;> first | (cases rx; rfl) | (obtain ⟨t,rfl⟩:=rx; rfl)
 | bl k=>
  cases ry;refine wpAny_isNot_plain (by cases x <;> first | (cases rx; rfl) | (obtain ⟨t,rfl⟩:=rx; rfl)) (zi I q ?_);cases x with
  | bl k'=>cases rx; cases k <;> cases k' <;> rfl
  | _=>first | (cases rx; rfl) | (obtain ⟨t,rfl⟩:=rx; rfl)
 | _=>cases hp
def isD:EV -> D -> Option Bool
 | x,.non=>match x with
  | .dat .non=>some true
  | _=>some false
 | x,.bl k=>match x with
  | .dat (.bl k')=>some (decide (k' = k))
  | _=>some false
 | _,_=>none
def kIs (neg:Bool):K2:=fun x y M=>match y with
 | .dat d=>match isD x d with
  | some k=>some (.dat (.bl (if neg then !k else k)),M)
  | none=>none
 | _=>none
theorem zKT (rx:zd H0 L H x v) (ry:Rep L H d w) (e:isD x d = some k):zFv w = true /\ decide (v = w) = k:=by
 cases d with
 | non=>
  unfold Rep at ry; subst ry;refine ⟨rfl,?_⟩;cases x with
  | fl xs=>obtain ⟨q,vs,rfl,_⟩:=rx; cases e; rfl
  | dat d'=>
   cases d' with
   | non=>unfold zd Rep at rx; subst rx; cases e; rfl
   | bl _=>unfold zd Rep at rx; subst rx; cases e; rfl
   | int _=>unfold zd Rep at rx; subst rx; cases e; rfl
   | str _=>unfold zd Rep at rx; subst rx; cases e; rfl
   | tup _=>unfold zd Rep at rx; obtain ⟨q,vs,rfl,_⟩:=rx; cases e; rfl
   | ref _=>unfold zd Rep at rx; obtain ⟨q,rfl,_⟩:=rx; cases e; rfl
   | fn _ _=>unfold zd Rep at rx; obtain ⟨rfl,_⟩:=rx; cases e; rfl
 | bl k'=>
  unfold Rep at ry; subst ry;refine ⟨rfl,?_⟩;cases x with
  | fl xs=>obtain ⟨q,vs,rfl,_⟩:=rx; cases e; rfl
  | dat d'=>
   cases d' with
   | non=>unfold zd Rep at rx; subst rx; cases e; rfl
   | bl j=>unfold zd Rep at rx; subst rx; cases e; cases j <;> cases k' <;> rfl
   | int _=>unfold zd Rep at rx; subst rx; cases e; rfl
   | str _=>unfold zd Rep at rx; subst rx; cases e; rfl
   | tup _=>unfold zd Rep at rx; obtain ⟨q,vs,rfl,_⟩:=rx; cases e; rfl
   | ref _=>unfold zd Rep at rx; obtain ⟨q,rfl,_⟩:=rx; cases e; rfl
   | fn _ _=>unfold zd Rep at rx; obtain ⟨rfl,_⟩:=rx; cases e; rfl
 | _=>cases e
theorem zH9 (h:kIs neg x y M = some (r,M')):∃ d k,y = .dat d /\ isD x d = some k /\ r = .dat (.bl (if neg then !k else k)) /\ M' = M:=by
 unfold kIs at h;split at h
 ·rename_i d;split at h
  ·rename_i k e1; cases h; exact ⟨d,k,rfl,e1,rfl,rfl⟩
  ·cases h
 ·cases h
theorem zNb {K:PySem.W.Frag}:zA7 K (fun x y H Q=>zFv y = true /\ Q (.bl (decide (x = y))) H) (kIs false):=by
 intro L M M' H H0 x y d v w Q cc rx ry hk q;obtain ⟨d',k,rfl,e,rfl,rfl⟩:=zH9 hk;obtain ⟨h1,h2⟩:=zKT rx ry e;refine ⟨h1,?_⟩;rw [h2];exact q L H _ (.refl L H) cc (zAp (L:=L) (H:=H))
theorem zMk {K:PySem.W.Frag}:zA7 K (fun x y H Q=>zFv y = true /\ Q (.bl (!decide (x = y))) H) (kIs true):=by
 intro L M M' H H0 x y d v w Q cc rx ry hk q;obtain ⟨d',k,rfl,e,rfl,rfl⟩:=zH9 hk;obtain ⟨h1,h2⟩:=zKT rx ry e;refine ⟨h1,?_⟩;rw [h2];exact q L H _ (.refl L H) cc (zAp (L:=L) (H:=H))
theorem zS2 (h1:QE X a f) (h2:QE X b g):QE X (.Compare a [.Is] [b] pos) (fOp (kIs false) f g):=zMN zNb zNa h1 h2 (zCv _)
theorem zPy (h1:QE X a f) (h2:QE X b g):QT X (.Compare a [.Is] [b] pos) (tst (fOp (kIs false) f g)):=zCk zNb zNa h1 h2 (zCv _)
theorem zOO (h1:QE X a f) (h2:QE X b g):QT X (.Compare a [.IsNot] [b] pos) (tst (fOp (kIs true) f g)):=zCk zMk zN6 h1 h2 (zCv _)
def zBQ (k k':K2) (f g h:FE):FE:=fun σ M=>match f σ M with
 | some (x,M1)=>match g σ M1 with
  | some (y,M2)=>match k x y M2 with
   | some (.dat (.bl true),M3)=>match h σ M3 with
    | some (w,M4)=>k' y w M4
    | none=>none
   | some (.dat (.bl false),M3)=>some (.dat (.bl false),M3)
   | _=>none
  | none=>none
 | none=>none
theorem zGR {K:PySem.W.Frag} {r r':R2} {k k':K2} (hk:zA7 K r k) (hk':zA7 K r' k') {τ:Sv} {H:Hp} {Q:VK} (z:trE K (zBQ k k' f g h) τ H Q):zJ3 r r' (trE K f) (trE K g) (trE K h) τ H Q:=by
 obtain ⟨L,σ,M,d,M',cc,rs,hf,q⟩:=z;unfold zBQ at hf;split at hf
 ·rename_i x M1 e1;split at hf
  ·rename_i y M2 e2;refine ⟨L,σ,M,_,_,cc,rs,e1,fun L1 H1 v s1 c1 r1=>⟨L1,σ,M1,_,_,c1,rs.stp s1,e2,fun L2 H2 w s2 c2 r2=>?_⟩⟩;split at hf
   ·rename_i M3 e3;split at hf
    ·rename_i u M4 e4;refine hk (H0:=H) c2 (r1.stp s2) (r2.back s1 cc s2.sub) e3 fun L3 H3 t s3 c3 r3=>⟨true,zA6 r3,zHl ?_⟩;refine ⟨L3,σ,M3,_,_,c3,rs.stp ((s1.trans s2).trans s3),e4,fun L4 H4 w4 s4 c4 r4=>?_⟩;have s13:=(s1.trans s2).trans s3;refine hk' (H0:=H) c4 (((r2.back s1 cc s2.sub).stp s3).stp s4) (r4.back s13 cc s4.sub) hf fun L5 H5 u5 s5 c5 r5=>?_;exact q L5 H5 u5 ((s13.trans s4).trans s5) c5 (r5.back (s13.trans s4) cc s5.sub)
    ·cases hf
   ·rename_i M3 e3;cases hf;refine hk (H0:=H) c2 (r1.stp s2) (r2.back s1 cc s2.sub) e3 fun L3 H3 t s3 c3 r3=>⟨false,zA6 r3,zHa ?_⟩;exact q L3 H3 _ ((s1.trans s2).trans s3) c3 (by have:=zA6 r3; subst this; exact r3)
   ·cases hf
  ·cases hf
 ·cases hf
theorem zKS (hk:zA7 X.K r k) (hk':zA7 X.K r' k') (ho:OpR X (compareOp op) r) (ho':OpR X (compareOp op') r') (h1:QE X a f) (h2:QE X b g) (h3:QE X c h)
  (hm:lastMarks [op,op'] [b,c] = false:=by with_unfolding_all rfl):QE X (.Compare a [op,op'] [b,c] pos) (zBQ k k' f g h):=.mk <| PE.imp (zNr ho ho' h1.un h2.un h3.un hm) fun _ _ _ z=>zGR hk hk' z
theorem zMO (hk:zA7 X.K r k) (hk':zA7 X.K r' k') (ho:OpR X (compareOp op) r) (ho':OpR X (compareOp op') r') (h1:QE X a f) (h2:QE X b g) (h3:QE X c h)
  (hm:lastMarks [op,op'] [b,c] = false:=by with_unfolding_all rfl):QT X (.Compare a [op,op'] [b,c] pos) (tst (zBQ k k' f g h)) :=
 .mk <| PT.imp (zMg ho ho' h1.un h2.un h3.un hm) fun _ _ _ z=>zEN (fun _ _ _ y=>zGR hk hk' y) (zDn z)
section
variable {M:Mem} {σ:Sd} {P:EV -> Mem -> Prop}
theorem zFs:Ok (zBQ k k' f g h σ M) P ↔ Ok (f σ M) fun x M1=>Ok (g σ M1) fun y M2=>Ok (k x y M2) (blP fun t M3=>if t then Ok (h σ M3) fun w M4=>Ok (k' y w M4) P else P (.dat (.bl false)) M3):=by
 unfold zBQ;constructor
 ·rintro ⟨x,M1,z,q⟩;split at z
  ·rename_i y M2 e1;split at z
   ·rename_i y' M3 e2;split at z
    ·rename_i M4 e3;split at z
     ·rename_i w M5 e4;exact ⟨_,_,e1,_,_,e2,_,_,e3,by rw [zAK,zTZ rfl]; exact ⟨_,_,e4,_,_,z,q⟩⟩
     ·cases z
    ·rename_i M4 e3;cases z;exact ⟨_,_,e1,_,_,e2,_,_,e3,by rw [zAK]; simpa using q⟩
    ·cases z
   ·cases z
  ·cases z
 ·rintro ⟨x,M1,e1,y,M2,e2,t,M3,e3,q⟩;rw [e1]; dsimp only; rw [e2]; dsimp only; rw [e3];cases t with
  | fl _=>exact q.elim
  | dat d=>
   cases d with
   | bl t=>
    rw [zAK] at q;cases t with
    | true=>
     rw [zTZ rfl] at q;obtain ⟨w,M4,e4,q⟩:=q;dsimp only; rw [e4]; exact q
    | false=>exact ⟨_,_,rfl,by simpa using q⟩
   | _=>exact q.elim
end
def zG8:KB:=fun xs M=>match xs with
 | [x]=>match zAV M x with
  | some ys=>some (.fl ys,M)
  | none=>none
 | _=>none
theorem zNF:zEz X.K (fun xs H Q=>∃ q ys,xs = [.ref q] /\ (SqL X.K H q ys \/ SqT X.K H q ys) /\ ∀ l,H l = none -> Q (.ref l) (upd H l (.lst ys))) zG8:=by
 intro L M M' H H0 xs d vs Q cc r hk q;unfold zG8 at hk;split at hk
 ·rename_i x;split at hk
  ·rename_i ys e1;cases hk;obtain ⟨v,rfl,r1⟩:=r.one;obtain ⟨l,ws,rfl,hs,r2⟩:=zFg cc r1 e1;refine ⟨l,ws,rfl,hs,fun k hk=>?_⟩;exact q L _ _ (.upd hk) (cc.upd hk) (zd.newLst (.refl L H) cc cc hk r2)
  ·cases hk
 ·cases hk
theorem zQz (hg:Gl X "list") (hm:X.mg "list" = none) (ha:QAE X [e] fa) (he:starEach [e] X.env = (false,eval e X.env) :: starEach [] X.env:=by rfl) (hpl:(backTo pos (starEach [] X.env)).any (·.1) = false:=by rfl):QE X (.Call (.Name "list" p) [e] [] pos) (fB zG8 fa) :=
 zEr zNF zH7 (by rfl) hg hm ha (by decide) (by decide) he hpl
end
open AutoSeq1 (wpAny_loadPart')
theorem zOz {P:Program} {w:World} {K:PySem.W.Frag} {mg:Str -> Option Value} {base:Heap} {k:Nat} {f:Addr} {fd:FuncData} {ps:List Str} {n:Nat}:FnOk P w K mg base CX0 k f fd ps (spF K n fun _ _=>none):=by
 have no:∀ vs H Q E,¬ spF K n (fun _ _=>none) vs H Q E:=fun vs H Q E ⟨_,_,_,_,_,_,_,_,h,_⟩=>by cases h
 exact ⟨fun vs H Q E h=>absurd h (no vs H Q E),fun A outer s H args us vs Q E _ _ _ _ h=>absurd h (no vs H Q E)⟩
def zEa:Expr -> Bool
 | .Starred .. =>false
 | _=>true
theorem zE (h:zEa e = true):starEach (e :: es) env = (false,eval e env) :: starEach es env:=by
 cases e <;> first | rfl | cases h
theorem zEp (h:zEa e = true):starEach [e] env = [(false,eval e env)]:=zE h
theorem zIf (h:zEa e = true) (h':zEa e' = true):starEach [e,e'] env = [(false,eval e env),(false,eval e' env)]:=by rw [zE h,zEp h']
theorem zn:∀ {es:List Expr},es.all zEa = true -> (backTo pos (starEach es env)).any (·.1) = false
 | [],_=>rfl
 | e :: es,h=>by
  rw [List.all_cons,zTu] at h;rw [zE h.1];have:=zn (pos:=pos) (env:=env) h.2;simpa [backTo] using this
theorem Cor.pushO {K:PySem.W.Frag} {L:List Addr} {M:List MO} {H:Hp} {p:Addr} {o:HO} {m:MO} (c:Cor K L M H) (h:H p = none) (new:zE4 K (L ++ [p]) (L2.upd H p o) p m) :
  Cor K (L ++ [p]) (M ++ [m]) (L2.upd H p o) /\ Stp L H (L ++ [p]) (L2.upd H p o):=by
 have hp:p ∉ L:=fun z=>by obtain ⟨o,e⟩:=c.tracked z; rw [h] at e; cases e
 have st:Stp L H (L ++ [p]) (L2.upd H p o):=by
  refine ⟨⟨[p],rfl⟩,fun a ha=>?_,fun a o e _ _=>?_,fun a o e=>?_,fun a o u e=>?_,zEZ (fun a o u e=>?_) fun a ps e=>?_⟩
  ·rcases zTk.mp ha with z | z
   ·exact .inl z
   ·have:a = p:=by simpa using z
    subst this; exact .inr h
  all_goals (rw [zZ (zAG e h)]; exact e)
 refine ⟨⟨by simp [c.len],?_,fun n a m e1 e2=>?_,c.tab.stp st⟩,st⟩
 ·rw [List.nodup_append];exact ⟨c.nd,by simp,fun a ha b hb z=>by
   have:b = p:=by simpa using hb
   subst this; subst z; exact hp ha⟩
 ·by_cases hn:n < L.length
  ·rw [zTR hn] at e1;rw [zTR (by rw [<- c.len]; exact hn)] at e2;exact (c.obj n a m e1 e2).stp st fun o _ e=>by rw [zZ (zAG e h)]; exact e
  ·have hn':n = L.length:=by
    have:=(zTN.mp e1).1;rw [zTa] at this;simp at this; omega
   subst hn';simp at e1;rw [c.len] at e2;simp at e2;subst e1; subst e2;exact new
theorem zE4.nt {K:PySem.W.Frag} {L:List Addr} {H:Hp} {a:Addr} {m:MO} (h:zE4 K L H a m) {o:HO} (e:H a = some o):NT o:=fun ps z=>by
 subst z;cases m with
 | lst xs=>obtain ⟨vs,e',_⟩:=h; rw [e] at e'; cases e'
 | fro xs=>obtain ⟨o,vs,e',_⟩:=h; rw [e] at e'; cases e'
 | dict ps=>obtain ⟨vs,e',_⟩:=h; rw [e] at e'; cases e'
 | dicT ps=>obtain ⟨vs,e',_⟩:=h; rw [e] at e'; cases e'
 | set _=>obtain ⟨o,u,e'⟩:=h; rw [e] at e'; cases e'
 | froT ps=>obtain ⟨o,vs,e',_⟩:=h; rw [e] at e'; cases e'
 | froK ps=>obtain ⟨o,vs,e',_⟩:=h; rw [e] at e'; cases e'
theorem Cor.nt {K:PySem.W.Frag} {L:List Addr} {M:List MO} {H:Hp} {n:Nat} {p:Addr} {o:HO} (c:Cor K L M H) (h1:L[n]? = some p) (ho:H p = some o):NT o :=
 (c.obj n p _ h1 (zTO (by rw [<- c.len]; exact (zTN.mp h1).1))).nt ho
theorem Cor.put {K:PySem.W.Frag} {L:List Addr} {M:List MO} {H:Hp} {n:Nat} {p:Addr} {o o':HO} {m:MO} (c:Cor K L M H) (h1:L[n]? = some p) (ho:H p = some o) (ht:∀ xs,o ≠ .tup xs) (hf:∀ a u,o ≠ .frz a u)
  (new:Stp L H L (L2.upd H p o') -> zE4 K L (L2.upd H p o') p m):Cor K L (M.set n m) (L2.upd H p o') /\ Stp L H L (L2.upd H p o'):=by
 have st:Stp L H L (L2.upd H p o'):=by
  have nt:=c.nt h1 ho;refine ⟨⟨[],by simp⟩,fun a ha=> .inl ha,fun a o e ha _=>?_,fun a xs e=>?_,fun a b u e=>?_,zEZ (fun a b u e=>?_) fun a ps e=>?_⟩
  ·rw [zZ (show a ≠ p from fun z=>ha (by rw [z]; exact zUG h1))]; exact e
  ·rw [zZ (zGw e ho (fun z=>ht xs z.symm))]; exact e
  ·rw [zZ (zGw e ho (fun z=>hf b u z.symm))]; exact e
  ·rw [zZ (zGw e ho (fun z=>hf b u z.symm))]; exact e
  ·rw [zZ (zGw e ho (fun z=>nt ps z.symm))]; exact e
 refine ⟨⟨by simp [c.len],c.nd,fun k a m' e1 e2=>?_,c.tab.stp st⟩,st⟩;rw [zUy] at e2;split at e2
 ·rename_i hk;subst hk;rw [h1] at e1; cases e1;split at e2
  ·cases e2; exact new st
  ·cases e2
 ·rename_i hk;have hne:a ≠ p:=fun z=>hk (by
   subst z;exact (List.getElem?_inj (zTN.mp h1).1 c.nd).mp (h1.trans e1.symm))
  exact (c.obj k a m' e1 e2).stp st fun o _ e=>by rw [zZ hne]; exact e
section
variable {X:Cx} {a b e:Expr} {pos:Pos} {f g:FE}
def zHp:FE:=fun _ M=>some (.dat (.ref M.length),M ++ [.dict []])
theorem zPW:QE X (.Dict [] [] pos) zHp:=.mk <| PE.imp zNP fun τ H Q ⟨L,σ,M,d,M',c,rs,hf,q⟩ p hp=>by
 unfold zHp at hf;cases hf;obtain ⟨c2,s2⟩:=c.pushO (m:=.dict []) hp ⟨[],zAX,rfl⟩;refine q _ _ _ s2 c2 ?_;unfold zd Rep;exact ⟨p,rfl,by rw [<- c.len]; simp⟩
theorem zFe (h:Rep L H d v) (e:zBe d = some k):v = kV k:=by
 cases d with
 | int i=>cases e; unfold Rep at h; exact h
 | str x=>cases e; unfold Rep at h; exact h
 | _=>cases e
def zFX (M:Mem):EV -> Option (List D)
 | .fl xs=>some xs
 | .dat (.ref n)=>match M[n]? with
  | some (.lst xs)=>some xs
  | _=>none
 | _=>none
theorem zNY {K:PySem.W.Frag} {L:List Addr} {M:Mem} {H H0:Hp} {x:EV} {v:V} {xs:List D} (c:Cor K L M H) (r:zd H0 L H x v) (h:zFX M x = some xs):∃ a vs,v = .ref a /\ H a = some (.lst vs) /\ zL L H xs vs:=by
 cases x with
 | fl ys=>
  cases h;obtain ⟨p,vs,rfl,_,e,_,r⟩:=r;exact ⟨p,vs,rfl,e,r⟩
 | dat d=>
  cases d with
  | ref n=>
   unfold zd Rep at r;obtain ⟨a,rfl,e⟩:=r;unfold zFX at h;dsimp only at h;split at h
   ·rename_i ys q;cases h;obtain ⟨vs,e1,r1⟩:=c.obj n a _ e q;exact ⟨a,vs,rfl,e1,r1⟩
   ·cases h
  | _=>cases h
def zAn:K2:=fun x y M=>match zFX M x,zFX M y with
 | some xs,some ys=>if xs.length + ys.length <= sizeLine then some (.fl (xs ++ ys),M) else none
 | _,_=>none
theorem zMq {K:PySem.W.Frag}:zA7 K zSb zAn:=by
 intro L M M' H H0 x y d v w Q c rx ry hk q;unfold zAn at hk;split at hk
 ·rename_i xs ys e1 e2;split at hk
  ·rename_i hz;cases hk;obtain ⟨l,vs,rfl,h1,r1⟩:=zNY c rx e1;obtain ⟨l2,ws,rfl,h2,r2⟩:=zNY c ry e2;refine ⟨l,l2,vs,ws,rfl,rfl,h1,h2,by rw [r1.length,r2.length]; exact hz,fun p hp=>?_⟩;exact q L _ _ (.upd hp) (c.upd hp) (zd.newLst (.refl L H) c c hp (r1.app r2))
  ·cases hk
 ·cases hk
theorem zRF (h1:QE X a f) (h2:QE X b g):QE X (.BinOp a .Add b pos) (fOp zAn f g):=zHg zMq zQN h1 h2
end
section
variable {X:Cx} {a b c e o:Expr} {es:List Expr} {pos p apos cpos:Pos} {f g h:FE}
def kS2 (C:Str -> Str -> Bool) (w:Str -> Str -> D):K2:=fun x y M=>match x,y with
 | .dat (.str i),.dat (.str j)=>if C i j then some (.dat (w i j),M) else none
 | _,_=>none
theorem zAA (r:zd H0 L H (.dat (.str k)) v):v = .str k:=by unfold zd Rep at r; exact r
def zFW:K2:=kS2 (fun i j=>decide (i.length + j.length <= sizeLine)) fun i j=> .str (i ++ j)
theorem zNk {K:PySem.W.Frag}:zA7 K (fun x y H Q=>∃ i j,x = .str i /\ y = .str j /\ i.length + j.length <= sizeLine /\ Q (.str (i ++ j)) H) zFW:=by
 intro L M M' H H0 x y d v w Q cc rx ry hk q;unfold zFW kS2 at hk;split at hk
 ·rename_i i j;split at hk
  ·rename_i hz;cases hk;exact ⟨i,j,zAA rx,zAA ry,of_decide_eq_true hz,q L H _ (.refl L H) cc (zDg (L:=L) (H:=H))⟩
  ·cases hk
 ·cases hk
theorem zQS (h1:QE X a f) (h2:QE X b g):QE X (.BinOp a .Add b pos) (fOp zFW f g):=zHg zNk zKE h1 h2
theorem zOZ:OpR X (binaryOp .Mult) (fun x y H Q=>∃ i n,x = .str i /\ y = .int n /\ n <= 1000 /\ -1000 <= n /\ i.length <= 1000 /\ Q (.str (Txt.mul i n)) H):=by
 intro zB s σ H x y v u Q I rx ry z;obtain ⟨i,n,rfl,rfl,h1,h2,h3,q⟩:=z;obtain ⟨t,rfl⟩:=rx;obtain ⟨t',rfl⟩:=ry;refine SB.mul ⟨?_,fun g1 _=>?_,fun g1 _=>?_⟩ fun t1 k=>⟨.str (Txt.mul i n),H,I.tok _,⟨_,rfl⟩,q⟩
 ·rw [zTt (by omega),zTt (by omega)]; rfl
 ·have:(1000:Int) <= (2 ^ 63 - 1) / n:=by
   rw [Int.le_ediv_iff_mul_le (by omega)];have:=Int.mul_le_mul_of_nonneg_left h1 (show (0:Int) <= 1000 by omega);omega
  omega
 ·unfold Builtin.Str.tooLong;have:i.length * n.toNat <= 1000 * 1000:=Nat.mul_le_mul h3 (by omega);rw [zTt];rw [sizeLine_eq]; omega
def zD1:K2:=fun x y M=>match x,y with
 | .dat (.str i),.dat (.int n)=>if n <= 1000 /\ -1000 <= n /\ i.length <= 1000 then some (.dat (.str (Txt.mul i n)),M) else none
 | _,_=>none
theorem zN9 {K:PySem.W.Frag}:zA7 K (fun x y H Q=>∃ i n,x = .str i /\ y = .int n /\ n <= 1000 /\ -1000 <= n /\ i.length <= 1000 /\ Q (.str (Txt.mul i n)) H) zD1:=by
 intro L M M' H H0 x y d v w Q cc rx ry hk q;unfold zD1 at hk;split at hk
 ·rename_i i n;split at hk
  ·rename_i hz;cases hk;exact ⟨i,n,zAA rx,by unfold zd Rep at ry; exact ry,hz.1,hz.2.1,hz.2.2,q L H _ (.refl L H) cc (zDg (L:=L) (H:=H))⟩
  ·cases hk
 ·cases hk
theorem zQW (h1:QE X a f) (h2:QE X b g):QE X (.BinOp a .Mult b pos) (fOp zD1 f g):=zHg zN9 zOZ h1 h2
theorem zMf:OpR X (compareOp .LtE) (fun x y H Q=>∃ i j,x = .str i /\ y = .str j /\ Q (.bl (!(decide (j.cps.toList < i.cps.toList)))) H):=by
 intro zB s σ H x y v u Q I rx ry z;obtain ⟨i,j,rfl,rfl,q⟩:=z;obtain ⟨t,rfl⟩:=rx;obtain ⟨t',rfl⟩:=ry;exact PySem.P.le_str (zi I q rfl)
def zJc:K2:=kS2 (fun _ _=>true) fun i j=> .bl (!(decide (j.cps.toList < i.cps.toList)))
theorem zKN {K:PySem.W.Frag}:zA7 K (fun x y H Q=>∃ i j,x = .str i /\ y = .str j /\ Q (.bl (!(decide (j.cps.toList < i.cps.toList)))) H) zJc:=by
 intro L M M' H H0 x y d v w Q cc rx ry hk q;unfold zJc kS2 at hk;split at hk
 ·rename_i i j;cases hk;exact ⟨i,j,zAA rx,zAA ry,q L H _ (.refl L H) cc (zAp (L:=L) (H:=H))⟩
 ·cases hk
def zFH:KB:=fun xs M=>match xs with
 | [.dat (.str z)]=>if z.length <= sizeLine then some (.dat (.int z.length),M) else none
 | _=>none
theorem zOC {K:PySem.W.Frag}:zEz K (fun xs H Q=>∃ z,xs = [.str z] /\ z.length <= sizeLine /\ Q (.int z.length) H) zFH:=by
 intro L M M' H H0 xs d vs Q cc r hk q;unfold zFH at hk;split at hk
 ·rename_i z;split at hk
  ·rename_i hz;cases hk;obtain ⟨v,rfl,r1⟩:=r.one;rw [zAA r1];exact ⟨z,rfl,hz,q L H _ (.refl L H) cc (zAb (L:=L) (H:=H))⟩
  ·cases hk
 ·cases hk
theorem zRj (hg:Gl X "len") (hm:X.mg "len" = none) (ha:QAE X [e] fa) (he:starEach [e] X.env = (false,eval e X.env) :: starEach [] X.env:=by rfl) (hpl:(backTo pos (starEach [] X.env)).any (·.1) = false:=by rfl):QE X (.Call (.Name "len" p) [e] [] pos) (fB zFH fa) :=
 zDp zOC zHf PySem.boot_len hg hm ha (by decide) (by decide) he hpl
def zDA (z:Str):List Str:=z.cps.toList.map fun c=>⟨#[c]⟩
theorem zGj:∀ (xs:List Str),zL L H (xs.map D.str) (xs.map V.str)
 | []=> .nil
 | x :: r=> .cons (zDg (L:=L) (H:=H)) (zGj r)
def zB4:List D -> Option (List Str)
 | []=>some []
 | .str k :: r=>match zB4 r with
  | some bs=>some (k :: bs)
  | none=>none
 | _=>none
theorem zB2:∀ {ds:List D} {bs:List Str} {vs:List V},zB4 ds = some bs -> zL L H ds vs -> vs = bs.map V.str
 | [],bs,vs,e,r=>by cases e; unfold zL at r; exact r
 | d :: ds,bs,vs,e,r=>by
  unfold zL at r;obtain ⟨v,r',rfl,r1,r2⟩:=r;cases d with
  | str k=>
   unfold zB4 at e;cases q:zB4 ds with
   | none=>rw [q] at e; cases e
   | some bs'=>
    rw [q] at e; cases e;unfold Rep at r1;rw [r1,zB2 q r2]; rfl
  | _=>cases e
theorem zIp:∀ {bs:List Str} {its:List Value},zg (bs.map V.str) its -> StrsAre its bs
 | [],_,.nil=> .nil
 | k :: bs,_,.cons r t=>by
  obtain ⟨u,rfl⟩:=r;exact .cons k u (zIp t)
def zSr (K:PySem.W.Frag):V -> List V -> Hp -> VK -> Prop:=fun x vs H Q=>∃ sep l ys,x = .str sep /\ vs = [.ref l] /\ SqL K H l (ys.map V.str) /\ (ys.map (·.length)).sum + ys.length * sep.length <= 16777216 /\ Q (.str (Txt.join sep ys)) H
theorem zOe:MtR X "str.join" (zSr X.K):=by
 intro zB s σ H x xs v us Q I rx rv z;obtain ⟨sep,l,ys,rfl,rfl,hl,hz,q⟩:=z;obtain ⟨t,rfl⟩:=rx;obtain ⟨u,rfl,ru⟩:=rv.one;cases ru;obtain ⟨its,r,pl,_⟩:=I.list hl;exact join_list pl.isList (by simpa using zIp r) hz fun t' k=>⟨.str (Txt.join sep ys),H,I.tok _,⟨_,rfl⟩,q⟩
def zEd (f:FE) (fa:FAE):FE:=fun σ M=>match f σ M with
 | some (.dat (.str sep),M1)=>match fa σ M1 with
  | some ([x],M2)=>match zA3 M2 x with
   | some ds=>match zB4 ds with
    | some ys=>if (ys.map (·.length)).sum + ys.length * sep.length <= 16777216 then some (.dat (.str (Txt.join sep ys)),M2) else none
    | none=>none
   | none=>none
  | _=>none
 | _=>none
theorem zRY (h1:QE X o f) (ha:QAE X [e] fa) (hbase:attributeBase o "join" X.env (eval o X.env) = eval o X.env:=by rfl)
  (hfew:((backTo cpos (starEach [e] X.env)).all (fun x=> !x.1) && (backToKw cpos (keywordEach [] X.env)).all (fun x=>x.1.isSome) && decide ([e].length + ([]:List Keyword).length + (if ([]:List Keyword).isEmpty then 0 else 1) < 30)) = true:=by rfl)
  (hline:(apos.endLine == cpos.line) = true:=by rfl) (hs:starEach [e] X.env = (false,eval e X.env) :: starEach [] X.env:=by rfl) (hplain:(backTo cpos (starEach [] X.env)).any (·.1) = false:=by rfl) :
  QE X (.Call (.Attribute o "join" apos) [e] [] cpos) (zEd f fa) :=
 .mk <| PE.imp (zI1 PySem.F.plainAttrs_str PySem.F.slot_str_join PySem.F.type_str_join zOe h1.un ha.un hbase hfew hline hs hplain) fun τ H Q zz=>by
  obtain ⟨L,σ,M,d,M',c,rs,hf,q⟩:=zz;unfold zEd at hf;split at hf
  ·rename_i sep M1 e1;split at hf
   ·rename_i x M2 e2;split at hf
    ·rename_i ds e3;split at hf
     ·rename_i ys e4;split at hf
      ·rename_i hz;cases hf;refine ⟨L,σ,M,_,_,c,rs,e1,fun L1 H1 v s1 c1 r1=>?_⟩;rw [zAA r1];refine ⟨rfl,L1,σ,M1,_,_,c1,rs.stp s1,e2,fun L2 H2 vs s2 c2 r2=>?_⟩;obtain ⟨v2,rfl,r3⟩:=r2.one;obtain ⟨l,ws,rfl,h1,r4⟩:=zBG c2 r3 e3;have:=zB2 e4 r4;subst this;exact ⟨sep,l,ys,rfl,rfl,.inl h1,hz,q L2 H2 _ (s1.trans s2) c2 (zDg (L:=L2) (H:=H2))⟩
      ·cases hf
     ·cases hf
    ·cases hf
   ·cases hf
  ·cases hf
def Its (z:Str):It:=⟨fun i _=>i < z.length,fun i H x H'=>H' = H /\ ∃ c,z.cps[i]? = some c /\ x = .str ⟨#[c]⟩,fun i _=>z.length <= i⟩
theorem zLJ {P:Program} {w:World} {K:PySem.W.Frag} {tg:Expr} (it:Addr) (z:Str) (t:Tok):Turn P w K tg (Its z) [it] it (fun i h=>h.IsStrIter it "str_ascii_iterator" z t i) where
 mem:=by simp
 obj:=fun i h' st b hb=>by
  have e:b = it:=by simpa using hb
  subst e;obtain ⟨o,e,c,d⟩:=st;exact ⟨o,e,fun v q=>by rw [d] at q; cases q⟩
 keep:=fun i h1 h2 st k=>by
  obtain ⟨o,e,r⟩:=st;exact ⟨o,k it (by simp) o e,r⟩
 item:=by
  intro X hP hw hK hc i zB s σ H E I hf st hg;subst hP hw hK;obtain ⟨f0,f1,f2,f3,f4,f5⟩:=hf it (by simp);refine (Walks.strAscii (I.ok.hd hc) it z t).item i s _ _ hg st fun v h' tk hv st' kk=>?_;obtain ⟨ch,u,ec,rfl⟩:=hv;have I1:Inv X zB σ H { s with heap:=h',toks:=tk }:=I.turned (fun b o hb e=>kk b o (by simpa using hb) e) f0 f1 f3 f4 f5;obtain ⟨o,e,c,d⟩:=id st';exact ⟨_,rfl,zIM (s:={ s with heap:=h',toks:=tk }) e c d (by decide) ⟨.str ⟨#[ch]⟩,H,I1,⟨u,rfl⟩,⟨rfl,ch,ec,rfl⟩,st',fun b hb=>(hf b hb).1⟩⟩
 done:=by
  intro X hP hw hK hc i zB s σ H E I hf st hg;subst hP hw hK;obtain ⟨f0,f1,f2,f3,f4,f5⟩:=hf it (by simp);have hg':z.length <= i:=hg;exact wpAny_pyNext_ascii_end (I.ok.hd hc) st (Array.getElem?_eq_none hg') fun h' eb=>⟨rfl,I.turned (t':=s.toks) (fun b o hb e=>eb b o hb e) f0 f1 f3 f4 f5⟩
 self:=fun _ _ _ _ _ st q=>wpAny_pyIter_striter_ascii st q
theorem zLX {P:Program} {w:World} {K:PySem.W.Frag} {tg:Expr} (it:Addr) (z:Str) (t:Tok):Turn P w K tg (Its z) [it] it (fun i h=>h.IsStrIter it "str_iterator" z t i) where
 mem:=by simp
 obj:=fun i h' st b hb=>by
  have e:b = it:=by simpa using hb
  subst e;obtain ⟨o,e,c,d⟩:=st;exact ⟨o,e,fun v q=>by rw [d] at q; cases q⟩
 keep:=fun i h1 h2 st k=>by
  obtain ⟨o,e,r⟩:=st;exact ⟨o,k it (by simp) o e,r⟩
 item:=by
  intro X hP hw hK hc i zB s σ H E I hf st hg;subst hP hw hK;obtain ⟨f0,f1,f2,f3,f4,f5⟩:=hf it (by simp);refine (Walks.strWide (I.ok.hd hc) it z t).item i s _ _ hg st fun v h' tk hv st' kk=>?_;obtain ⟨ch,u,ec,rfl⟩:=hv;have I1:Inv X zB σ H { s with heap:=h',toks:=tk }:=I.turned (fun b o hb e=>kk b o (by simpa using hb) e) f0 f1 f3 f4 f5;obtain ⟨o,e,c,d⟩:=id st';exact ⟨_,rfl,zIM (s:={ s with heap:=h',toks:=tk }) e c d (by decide) ⟨.str ⟨#[ch]⟩,H,I1,⟨u,rfl⟩,⟨rfl,ch,ec,rfl⟩,st',fun b hb=>(hf b hb).1⟩⟩
 done:=by
  intro X hP hw hK hc i zB s σ H E I hf st hg;subst hP hw hK;obtain ⟨f0,f1,f2,f3,f4,f5⟩:=hf it (by simp);have hg':z.length <= i:=hg;exact wpAny_pyNext_wide_end (I.ok.hd hc) st (Array.getElem?_eq_none hg') fun h' eb=>⟨rfl,I.turned (t':=s.toks) (fun b o hb e=>eb b o hb e) f0 f1 f3 f4 f5⟩
 self:=fun _ _ _ _ _ st q=>wpAny_pyIter_striter_wide st q
theorem zQH {tg l:Expr} {tl:TE} (hl:PE X l tl):PI X tg l (fun σ H R=>tl σ H fun x H1=>∃ z,x = .str z /\ R (Its z) H1):=by
 intro zB s σ H R I q;refine thn (hl zB s σ H _ I q) fun v s1 ⟨y,H1,I1,r1,z,hy,q1⟩=>?_;subst hy;obtain ⟨t,rfl⟩:=r1;have fpk:∀ b ∈ [s1.heap.objs.size],zDv X zB H1 b:=fun b hb=>by
  have e:b = s1.heap.objs.size:=by simpa using hb
  subst e;exact I1.fpOk (zTQ _) (I1.hok.fresh (zTQ _))
 cases ha:z.cps.all (· < 128)
 ·exact wpAny_pyIter_wide ha ⟨s1.heap.objs.size,[s1.heap.objs.size],_,_,H1,rfl,I1.kept (t':=s1.toks) fun b o e=>zTL _ e,zLX _ z t,⟨_,zTU _ rfl,rfl,rfl⟩,fpk,q1⟩
 ·exact wpAny_pyIter_ascii ha ⟨s1.heap.objs.size,[s1.heap.objs.size],_,_,H1,rfl,I1.kept (t':=s1.toks) fun b o e=>zTL _ e,zLJ _ z t,⟨_,zTU _ rfl,rfl,rfl⟩,fpk,q1⟩
def zLc (f:FE):FI:=fun σ M=>match f σ M with
 | some (.dat (.str z),M1)=>some ((zDA z).map D.str,none,M1)
 | _=>none
theorem zRA (h1:QE X e f):QI X tg e (zLc f):=.mk <| PI.imp (zQH h1.un) fun τ H R zz=>by
 obtain ⟨L,σ,M,xs,gd,M',c,rs,hf,q⟩:=zz;unfold zLc at hf;split at hf
 ·rename_i z M1 e1;cases hf;refine ⟨L,σ,M,_,_,c,rs,e1,fun L1 H1 v s1 c1 r1=>⟨z,zAA r1,q L1 H1 _ s1 c1 fun L2 H2 M2 s2 c2 _=>⟨fun i d hd=>?_,?_⟩⟩⟩
  ·unfold zDA at hd;rw [zTi,zTh] at hd;cases e2:z.cps.toList[i]? with
   | none=>rw [e2] at hd; cases hd
   | some ch=>
    rw [e2] at hd;cases hd;have hi:i < z.length:=by have:=(zTN.mp e2).1; rw [zT8] at this; exact this
    refine ⟨hi,fun v H3 hy=>?_⟩;obtain ⟨rfl,c',ec,rfl⟩:=hy;have:z.cps[i]? = some ch:=by simpa using e2
    rw [this] at ec; cases ec;exact ⟨fun _ _ q=>q,zDg (L:=L2) (H:=H3)⟩
  ·show z.length <= ((zDA z).map D.str).length;unfold zDA;rw [zTT,zTT,zT8];exact zTQ _
 ·cases hf
theorem zHn (hg:Gl X x) (hm:X.mg x = some (.int i t)) (hd:(x == ("__debug__" : Str)) = false:=by decide):QE X (.Name x pos) (fC (.int i)):=zES (fun _ _=>by unfold Rep; rfl) (zFi (v:=.int i) hg hm ⟨t,rfl⟩ hd)
end
end L3
namespace LR
open PySem PySem.Spec PyProof.Rows
open Sem (wp)
open Sem (wp)
open AutoSeq1 (wpAny_loadPart')
open Sem (wp)
open AutoSeq1 (wpAny_loadPart')
end LR
namespace L3
open PySem PySem.Spec PyProof.Rows L2
end L3
namespace L2
open PySem PySem.Spec PyProof.Rows
end L2
namespace LR
open PySem PySem.Spec PyProof.Rows
open Sem (wp)
end LR
namespace L3
open PySem PySem.Spec PyProof.Rows L2
end L3
namespace ST
open PySem
open Sem (wp)
open PySem.Spec PyProof.Rows
open Sem (wp)
open Sem (wp)
open Sem (wp)
open Sem (wp)
end ST
namespace L2
open PySem PySem.Spec PyProof.Rows ST
end L2
namespace ST
open PySem PySem.Spec PyProof.Rows
open Sem (wp)
end ST
namespace L2
open PySem PySem.Spec PyProof.Rows ST
end L2
namespace L3
open PySem PySem.Spec PyProof.Rows L2 ST
open AutoSeq1 (wpAny_loadPart')
theorem zQU (hh:A.handled = none) (it l:Addr) (hne:l ≠ it) (items:Array Value) :
  Draws prog w A it [it,l] items.size (fun i v=>items[i]? = some v) (fun i h=>h.IsTupleIter it l i /\ h.IsTuple l items) where
 live:=fun _ _ st=>let ⟨o,ho,_⟩:=st.1; ⟨o,ho⟩;frame:=fun _ _ _ st hk=>⟨let ⟨o,ho,r⟩:=st.1; ⟨o,hk it (by simp) o ho,r⟩,let ⟨o,ho,r⟩:=st.2; ⟨o,hk l (by simp) o ho,r⟩⟩;item:=fun i s Q E hi st hQ=>by
  refine zCs st.1 st.2 (x:=items[i]) (by simp [hi]) fun h' hit' hs'=>?_;exact hQ _ h' s.toks (by simp [hi]) ⟨hit',Tup.but st.2 hs'.extBut hne⟩ hs'
 done:=fun s Q E st hE=>zDj hh st.1 st.2 (by simp) hE
theorem zIT (l:Addr) (items:Array Value) (n:Nat) (dct:Option Addr) (sl:Array (Option Value)) :
  Meets (Builtin.«enumerate.__new__» ⟨[.type "enumerate", .ref l],[]⟩) (fun _ R s=>s.heap.get? l = some { cls:=.type "tuple", dict:=dct,data:=.seq items n,slots:=sl } /\
   R (.ok (.ret (.ref (s.heap.push { cls:=.type "tuple_iterator", data:=.fields #[.ref l,.int 0 0] }).objs.size)))
    { s with heap:=(s.heap.push { cls:=.type "tuple_iterator", data:=.fields #[.ref l,.int 0 0] }).push { cls:=.type "enumerate", data:=.fields #[.none,.bool false,.ref s.heap.objs.size,rawInt 0,.none,.none] } }) :=
 .of_wp fun prog w A R s h=>by
  obtain ⟨hp,g,d,tk,os⟩:=s; obtain ⟨hl,h⟩:=h;have hsub:=sub_enumerate;have hL:Heap.IsTuple (Shared.heap ⟨hp,g,d,tk,os⟩) l items:=⟨_,hl,rfl,n,rfl⟩;wp_walk using wpAny_loadPart' hl;refine wpAny_stack_any fun st=>zTM ?_;split
  ·rename_i c _ _ _ _ _;cases (c == Value.type "enumerate")
   ·wp_walk using wpAny_loadPart' hl,wpAny_pyIter_tuple hL;exact ⟨_,rfl,h⟩
   ·wp_walk using wpAny_loadPart' hl,wpAny_pyIter_tuple hL;exact ⟨_,rfl,h⟩
  ·wp_walk using wpAny_loadPart' hl,wpAny_pyIter_tuple hL;exact ⟨_,rfl,h⟩
section
variable {prog:Program} {w:World} {A:Around} {E:Value -> Shared -> Prop} {s:Shared}
theorem zJp (hL:s.heap.IsTuple l items)
  (h:∀ h',IsEnum h' (s.heap.objs.size + 1) s.heap.objs.size 0 .none -> h'.IsTupleIter s.heap.objs.size l 0 -> (∀ c o,s.heap.get? c = some o -> h'.get? c = some o) -> Q (.ref (s.heap.objs.size + 1)) { s with heap:=h' }) :
  wpAny (model prog w) A (call (.type "enumerate") [.ref l]) Q E s:=by
 obtain ⟨o,ho,hc,n,hd⟩:=hL;obtain ⟨ocls,odict,odata,oslots⟩:=o;simp only at hc hd;subst hc; subst hd;refine callType_new PySem.F.called_enumerate (by decide) (PySem.F.typeCall_enumerate_1 _) (PySem.F.newCall_enumerate_1 _) (fun obj=>PySem.F.args_object_init_2 obj _) PySem.F.entry_enumerate_new (zIT l items n odict oslots) ⟨ho,?_⟩;have q1:(s.heap.push { cls:=.type "tuple_iterator", data:=.fields #[.ref l,.int 0 0] }).objs.size = s.heap.objs.size + 1:=zT0 ..;have p2:((s.heap.push { cls:=.type "tuple_iterator", data:=.fields #[.ref l,.int 0 0] }).push { cls:=.type "enumerate", data:=.fields #[.none,.bool false,.ref s.heap.objs.size,rawInt 0,.none,.none] }).get? (s.heap.push { cls:=.type "tuple_iterator", data:=.fields #[.ref l,.int 0 0] }).objs.size = some _:=zTU _ rfl;show _ /\ _;rw [q1] at p2;rw [q1];exact ⟨⟨_,p2,rfl⟩,h _ p2 ⟨_,zTL _ (zTU _ rfl),rfl,rfl⟩ fun c o x=>zTL _ (zTL _ x)⟩
theorem zJJ (he:IsEnum s.heap e it i old)
  (hn:∀ (Q':Value -> Shared -> Prop) (E':Value -> Shared -> Prop),(∀ h' x,Heap.ExtBut it s.heap h' -> (∃ o,h'.get? x = some o /\ o.cls = .type "StopIteration") -> E' (.ref x) { s with heap:=h' }) -> wpAny (model prog w) A.in1 (Builtin.SmallTypes.nextOf (.ref it)) Q' E' s)
  (hQ:∀ h',Heap.ExtBut it s.heap h' -> Q none { s with heap:=h' }):wpAny (model prog w) A (pyNext (.ref e)) Q E s:=by
 have hT:s.TypeIs (.ref e) "enumerate" := ⟨_,he,rfl⟩;unfold pyNext
 refine zTK (wpAny_attempt (zTw (name:=Str.ofString "__next__") hT PySem.F.slot_enumerate_next
  (zTx PySem.F.slot_enumerate_next hT PySem.F.entry_enumerate_next ?_ (PySem.F.args_enumerate_next_1 _))))
 show wpAny _ _ (field (.ref e) 2 >>= _) _ _ _;refine zTK (zTz he rfl (x:=.ref it) rfl ?_);refine zTK (hn _ _ fun h' x he' hx'=>?_);obtain ⟨o,ho,hc⟩:=hx';refine zTK (wpAny_isInstance (T := "StopIteration") (b:=true) ⟨o,ho,hc⟩ isSubtype_stop ?_);exact zTM (hQ _ he')
end
def zIv (K:PySem.W.Frag) (isT:Bool) (a:Addr):It :=
 ⟨fun i H=>∃ xs x,(if isT then SqT K H a xs else SqL K H a xs) /\ xs[i]? = some x,
  fun i H v H'=>∃ T x,v = .ref T /\ H T = none /\ H' = upd H T (.tup [.int i,x]) /\ ∀ xs,(if isT then SqT K H a xs else SqL K H a xs) -> xs[i]? = some x,
  fun i H=>∃ xs,(if isT then SqT K H a xs else SqL K H a xs) /\ xs.length <= i⟩
def zPE (isT:Bool) (it a:Addr) (i:Nat) (h:Heap):Prop:=if isT then h.IsTupleIter it a i else h.IsListIter it a i
theorem zLj {P:Program} {w:World} {K:PySem.W.Frag} {es:List Expr} {ek:Nat} {ep:Pos} {isT:Bool} {e it a:Addr} (hei:e ≠ it) (hae:a ≠ e) (hai:a ≠ it) :
  Turn P w K (.Tuple es ek ep) (zIv K isT a) [e,it] e (fun i h=>(∃ old,IsEnum h e it i old) /\ zPE isT it a i h) where
 mem:=by simp
 obj:=fun i h ⟨⟨old,he⟩,st⟩ c hc=>by
  simp only [zTW,zTp,or_false] at hc;rcases hc with rfl | rfl
  ·exact ⟨_,he,fun v m=>by cases m⟩
  ·cases isT with
   | true=>obtain ⟨o1,e1,_,d1⟩:=(show h.IsTupleIter c a i from st); exact ⟨_,e1,fun v m=>by rw [d1] at m; cases m⟩
   | false=>obtain ⟨o1,e1,_,d1⟩:=(show h.IsListIter c a i from st); exact ⟨_,e1,fun v m=>by rw [d1] at m; cases m⟩
 keep:=fun i h h' ⟨⟨old,he⟩,st⟩ k=>by
  refine ⟨⟨old,k e (by simp) _ he⟩,?_⟩;cases isT with
  | true=>obtain ⟨o1,e1,r⟩:=(show h.IsTupleIter it a i from st); exact ⟨o1,k it (by simp) _ e1,r⟩
  | false=>obtain ⟨o1,e1,r⟩:=(show h.IsListIter it a i from st); exact ⟨o1,k it (by simp) _ e1,r⟩
 item:=by
  intro X hP hw hK hc i zB s σ H E I hf Z hg;subst hP hw hK;obtain ⟨⟨old,he⟩,st⟩:=Z;obtain ⟨xs,x,sa,hx⟩:=hg;have hch:∀ c ∈ [e,it],zDv X zB H c:=hf;have elt:e < s.heap.objs.size:=zTV he
  have fin:∀ (its:List Value) (u:Value) (h':Heap) (tk:Nat),zg xs its -> its[i]? = some u -> IsEnumOut h' e it ((i:Int) + 1) u s.heap.objs.size -> zPE isT it a (i + 1) h' -> h'.get? s.heap.objs.size = some { cls:=.type "tuple", data:=.seq #[.int i tk,u] } ->
    (∀ b o,b ≠ e -> b ≠ it -> s.heap.get? b = some o -> h'.get? b = some o) -> it < s.heap.objs.size ->
    ∃ u',some (Value.ref s.heap.objs.size) = some u' /\ wpAny (model X.prog X.w) X.A (letOwnedTupleGo (.Tuple es ek ep) (.ref e) u') (fun _ s2=>∃ x H',Inv X zB σ H' s2 /\ zt x u' /\ (zIv X.K isT a).yld i H x H' /\ ((∃ old,IsEnum s2.heap e it ((i + 1:Nat):Int) old) /\ zPE isT it a (i + 1) s2.heap) /\ ∀ b ∈ [e,it],H' b = none) E { s with heap:=h',toks:=tk + 1 }:=by
   intro its u h' tk rv hu ho st' hT hk ilt;refine ⟨_,rfl,wpAny_letOwnedTupleGo_enum ho fun h2 he2 e2=>?_⟩;have kk:∀ c o,c ∉ [e,it] -> s.heap.get? c = some o -> h2.get? c = some o:=fun c o n q=>by
    simp only [zTW,zTp,or_false,not_or] at n;exact e2.extBut _ _ n.1 (hk c o n.1 n.2 q)
   have NT:=e2.extBut _ _ (Nat.ne_of_gt elt) hT;have hfr:H s.heap.objs.size = none:=I.hok.fresh (zTQ _);obtain ⟨u2,hu2,ru⟩:=rv.get hx;rw [hu] at hu2; cases hu2;refine ⟨.ref s.heap.objs.size,upd H s.heap.objs.size (.tup [.int i,x]),zFI (s:=s) (h':=h2) (t':=tk + 1) I hch kk (zTQ _) ?_,rfl,⟨_,x,rfl,hfr,rfl,fun ws hw=>?_⟩,⟨⟨u,by simpa using he2⟩,?_⟩,fun c hm=>?_⟩
   ·exact ⟨by show 2 <= sizeLine; decide,[.int i tk,u],.cons ⟨tk,rfl⟩ (.cons ru .nil),⟨_,NT,rfl,⟨_,rfl⟩,rfl⟩⟩
   ·cases isT with
    | true=>rw [I.tuple_inj hw sa]; exact hx
    | false=>rw [I.list_inj hw sa]; exact hx
   ·cases isT with
    | true=>obtain ⟨o1,e1,r⟩:=(show h'.IsTupleIter it a (i + 1) from st'); exact ⟨o1,e2.extBut _ _ hei.symm e1,r⟩
    | false=>obtain ⟨o1,e1,r⟩:=(show h'.IsListIter it a (i + 1) from st'); exact ⟨o1,e2.extBut _ _ hei.symm e1,r⟩
   ·have lt:c < s.heap.objs.size:=by
     simp only [zTW,zTp,or_false] at hm;rcases hm with rfl | rfl
     ·exact elt
     ·exact ilt
    rw [zZ (zTf lt)];exact (hf c hm).1
  have hef:e ∉ [it,a]:=by simp only [zTW,zTp,or_false,not_or]; exact ⟨hei,hae.symm⟩
  cases isT with
  | true=>
   obtain ⟨its,rv,p1,z1⟩:=I.tuple sa;have st':s.heap.IsTupleIter it a i:=st;obtain ⟨o1,e1,_⟩:=id st';refine wpAny_pyNext_enum_itemD (zQU (prog:=X.prog) (w:=X.w) (A:=X.A.in1) (I.ok.hd hc) it a hai its.toArray) he ⟨st',show s.heap.IsTuple a its.toArray from p1⟩ (by have:=rv.length; have:=(zTN.mp hx).1; rw [zTS]; omega) hei hef fun u h' tk hu ho hs hT _ hk=>?_;exact fin its u h' tk rv (by simpa using hu) ho hs.1 hT hk (zTV e1)
  | false=>
   obtain ⟨its,rv,p1,z1⟩:=I.list sa;have st':s.heap.IsListIter it a i:=st;obtain ⟨o1,e1,_⟩:=id st';refine wpAny_pyNext_enum_itemD (Draws.list (prog:=X.prog) (w:=X.w) (A:=X.A.in1) (I.ok.hd hc) it a hai its.toArray) he ⟨st',p1.isList⟩ (by have:=rv.length; have:=(zTN.mp hx).1; rw [zTS]; omega) hei hef fun u h' tk hu ho hs hT _ hk=>?_;exact fin its u h' tk rv (by simpa using hu) ho hs.1 hT hk (zTV e1)
 done:=by
  intro X hP hw hK hc i zB s σ H E I hf Z hg;subst hP hw hK;obtain ⟨⟨old,he⟩,st⟩:=Z;obtain ⟨xs,sa,hz⟩:=hg;have out:∀ h',Heap.ExtBut it s.heap h' -> (none:Option Value) = none /\ Inv X zB σ H { s with heap:=h' }:=fun h' x=>⟨rfl,zG7 (s:=s) (h':=h') (t':=s.toks) I hf fun c o n q=>x c o (fun m=>n (by simp [m])) q⟩;cases isT with
  | true=>
   obtain ⟨its,rv,p1,z1⟩:=I.tuple sa;refine zJJ he (fun Q' E' hq=>zDj (I.ok.hd hc) (show s.heap.IsTupleIter it a i from st) (show s.heap.IsTuple a its.toArray from p1) (by have:=rv.length; simp; omega) hq) out
  | false=>
   obtain ⟨its,rv,p1,z1⟩:=I.list sa;refine zJJ he (fun Q' E' hq=>wpAny_nextOf_list_end (I.ok.hd hc) (show s.heap.IsListIter it a i from st) p1.isList (by have:=rv.length; simp; omega) hq) out
 self:=fun _ _ _ _ _ Z h=>let ⟨⟨_,he⟩,_⟩:=Z; wpAny_pyIter_enum he h
section
variable {X:Cx} {a:Expr} {es:List Expr} {ek:Nat} {ep p pos:Pos}
theorem zPR {te:TE} (hg:Gl X "enumerate") (hm:X.mg "enumerate" = none) (ha:PE X a te) (hs:starEach [a] X.env = (false,eval a X.env) :: starEach [] X.env:=by rfl) (hpl:(backTo pos (starEach [] X.env)).any (·.1) = false:=by rfl) :
  PI X (.Tuple es ek ep) (.Call (.Name "enumerate" p) [a] [] pos) (fun σ H R=>te σ H fun x H1=>∃ l,x = .ref l /\ ((∃ xs,SqT X.K H1 l xs) /\ R (zIv X.K true l) H1 \/ (∃ xs,SqL X.K H1 l xs) /\ R (zIv X.K false l) H1)):=by
 intro zB s σ H R I h;refine wpAny_Call_Name_kw (zEw I hg hm (by rfl) ?_ (by decide) (by decide));refine callWith_type1 ?_ hs hpl;rw [hs];show wpAny _ _ (spliced ((false,eval a X.env) :: backTo pos (starEach [] X.env))) _ _ s;refine Calls.spliced_cons (thn (ha zB s σ H _ I h) fun u s1 ⟨x,H1,I1,r1,l,hx,q⟩=>Calls.spliced_nil ?_);subst hx;cases r1
 have out:∀ (isT:Bool) (h':Heap),l < s1.heap.objs.size -> IsEnum h' (s1.heap.objs.size + 1) s1.heap.objs.size 0 .none -> zPE isT s1.heap.objs.size l 0 h' -> (∀ c o,s1.heap.get? c = some o -> h'.get? c = some o) -> R (zIv X.K isT l) H1 ->
   wpAny (model X.prog X.w) X.A (pyIter (.ref (s1.heap.objs.size + 1))) (PIE X zB σ (.Tuple es ek ep) R) X.xe { s1 with heap:=h' }:=by
  intro isT h' hl he st kp q;refine wpAny_pyIter_enum (s:={ s1 with heap:=h' }) he ?_;refine ⟨s1.heap.objs.size + 1,[s1.heap.objs.size + 1,s1.heap.objs.size],_,_,H1,rfl,I1.kept (t':=s1.toks) kp,zLj (isT:=isT) (Nat.ne_of_gt (Nat.lt_succ_self _)) (zTf (Nat.lt_succ_of_lt hl)) (zTf hl),⟨⟨_,he⟩,st⟩,fun c hc=>?_,q⟩;have ge:s1.heap.objs.size <= c:=by
   simp only [zTW,zTp,or_false] at hc;rcases hc with rfl | rfl
   ·exact zU7 _
   ·exact zTQ _
  exact I1.fpOk ge (I1.hok.fresh ge)
 rcases q with ⟨⟨xs,hq⟩,q⟩ | ⟨⟨xs,hq⟩,q⟩
 ·obtain ⟨its,rv,p1,_⟩:=I1.tuple hq;have hl:l < s1.heap.objs.size:=by obtain ⟨_,e,_⟩:=p1; exact zTV e
  exact zJp (show s1.heap.IsTuple l its.toArray from p1) fun h' he st kp=>out true h' hl he st kp q
 ·obtain ⟨its,rv,p1,_⟩:=I1.list hq;have hl:l < s1.heap.objs.size:=by obtain ⟨_,_,e,_⟩:=p1; exact zTV e
  exact call_enumerate_list p1.isList fun h' he st _ kp=>out false h' hl he st kp q
def zDs (xs:List D):List D:=((List.range xs.length).zip xs).map fun q=>D.tup [.int (q.1:Nat),q.2]
theorem zFm {xs:List D} {i:Nat} {d:D} (h:(zDs xs)[i]? = some d):∃ x,xs[i]? = some x /\ d = .tup [.int (i:Nat),x]:=by
 unfold zDs at h;rw [zTh] at h;cases e:((List.range xs.length).zip xs)[i]? with
 | none=>rw [e] at h; cases h
 | some pr=>
  rw [e] at h;cases h;obtain ⟨f1,f2⟩:=List.getElem?_zip_eq_some.mp e;have hi:i < xs.length:=(zTN.mp f2).1;rw [List.getElem?_range hi] at f1;cases f1;exact ⟨pr.2,f2,rfl⟩
theorem zMo (xs:List D):(zDs xs).length = xs.length:=by unfold zDs; simp
def zEi (f:FE):FI:=fun σ M=>match f σ M with
 | some (x,M1)=>match zAV M1 x with
  | some xs=>some (zDs xs,zD5 x xs,M1)
  | none=>none
 | none=>none
theorem zPJ {g:FE} (hg:Gl X "enumerate") (hm:X.mg "enumerate" = none) (h:QE X a g) (hs:starEach [a] X.env = (false,eval a X.env) :: starEach [] X.env:=by rfl) (hpl:(backTo pos (starEach [] X.env)).any (·.1) = false:=by rfl) :
  QI X (.Tuple es ek ep) (.Call (.Name "enumerate" p) [a] [] pos) (zEi g):=.mk <| PI.imp (zPR hg hm h.un hs hpl) fun τ H R zz=>by
 obtain ⟨L,σ,M,xs,gd,M',c,rs,hf,q⟩:=zz;unfold zEi at hf;split at hf
 ·rename_i y M1 e1;split at hf
  ·rename_i zs e2;cases hf;refine ⟨L,σ,M,_,_,c,rs,e1,fun L1 H1 v s1 c1 r1=>?_⟩
   have step:∀ (isT:Bool) (l:Addr) (L2:List Addr) (H2:Hp) (vs:List V),(if isT then SqT X.K H2 l vs else SqL X.K H2 l vs) -> zL L2 H2 zs vs ->
     (∀ (i:Nat) d,(zDs zs)[i]? = some d -> (zIv X.K isT l).go i H2 /\ ∀ v H'',(zIv X.K isT l).yld i H2 v H'' -> (∀ a o,H2 a = some o -> H'' a = some o) /\ Rep L2 H'' d v) /\ (zIv X.K isT l).stop (zDs zs).length H2:=by
    intro isT l L2 H2 vs hq r;refine ⟨fun i d hd=>?_,⟨vs,hq,by rw [zMo,r.length]; exact zTQ _⟩⟩;obtain ⟨x,hx,rfl⟩:=zFm hd;obtain ⟨u,hu,ru⟩:=r.get hx;refine ⟨⟨vs,u,hq,hu⟩,fun v H3 hy=>?_⟩;obtain ⟨T,x',rfl,hT,rfl,hxx⟩:=hy;have ex:=hxx vs hq;rw [hu] at ex; cases ex;exact ⟨fun a o e=>by rw [zZ (zAG e hT)]; exact e,Rep.newTup hT (.cons zAb (.cons ru .nil))⟩
   unfold zAV at e2;cases t:zB7 y with
   | some ws=>
    rw [t] at e2; cases e2;obtain ⟨a,vs,rfl,e3,r3⟩:=zCM r1 t;refine ⟨a,rfl,.inl ⟨⟨vs,.of e3⟩,q L1 H1 _ s1 c1 fun L2 H2 M2 s2 c2 _=>?_⟩⟩;exact step true a L2 H2 vs (.of (s2.tup a vs e3)) (r3.stp s2)
   | none=>
    rw [t] at e2;dsimp only at e2;obtain ⟨a,vs,rfl,e3,r3⟩:=zBG c1 r1 e2;refine ⟨a,rfl,.inr ⟨⟨vs,.inl e3⟩,q L1 H1 _ s1 c1 fun L2 H2 M2 s2 c2 hgd=>?_⟩⟩;have key:∃ vs',SqL X.K H2 a vs' /\ zL L2 H2 zs vs':=by
     cases y with
     | fl ys=>
      cases e2;obtain ⟨p',vs',hp',_,e5,e6,r6⟩:=r1;cases hp';exact ⟨vs',.of (s2.old _ _ e5 e6 (by intro _ z; cases z)),r6.stp s2⟩
     | dat d=>
      cases d with
      | ref n=>
       unfold zd Rep at r1;obtain ⟨a',ha',e5⟩:=r1;cases ha';have e6:L2[n]? = some a:=by obtain ⟨N,hN⟩:=s2.pre; rw [hN]; exact zDi e5
       rcases hgd with z | z
       ·obtain ⟨vs',e7,r7⟩:=c2.obj n a _ e6 z; exact ⟨vs',.of e7,r7⟩
       ·obtain ⟨o,vs',e7,r7⟩:=c2.obj n a _ e6 z; exact ⟨vs',.inl (.inr ⟨o,e7⟩),r7⟩
      | _=>cases e2
    obtain ⟨vs',hq,r7⟩:=key;exact step false a L2 H2 vs' hq r7
  ·cases hf
 ·cases hf
end
section
variable {κ:Type} [DecidableEq κ]
def zCN (kf:D -> Option κ) (kvs:List (D × D)) (k:κ):Option D:=(kvs.find? fun p=>decide (kf p.1 = some k)).map (·.2)
def zIR (kf:D -> Option κ) (kvs:List (D × D)) (k:κ) (kd v:D):List (D × D) :=
 if (kvs.any fun p=>decide (kf p.1 = some k)) = true then kvs.map fun p=>if kf p.1 = some k then (p.1,v) else p else kvs ++ [(kd,v)]
theorem zDX (k:κ):∀ {kvs:List (D × D)} {vs:List (κ × V)},zAh kf L H kvs vs -> (zCN kf kvs k = none /\ zC4 vs k = none) \/ ∃ d v,zCN kf kvs k = some d /\ zC4 vs k = some v /\ Rep L H d v
 | [],vs,h=>by unfold zAh at h; subst h; exact .inl ⟨rfl,rfl⟩
 | p :: r,vs,h=>by
  obtain ⟨k',v,r',rfl,e,h1,h2⟩:=h;by_cases q:k' = k
  ·subst q;exact .inr ⟨p.2,v,by unfold zCN; rw [zVB,e]; simp,by rw [zEk rfl],h1⟩
  ·have e1:zCN kf (p :: r) k = zCN kf r k:=by unfold zCN; rw [zVB,e]; simp [q]
   rw [e1,zEg q];exact zDX k h2
theorem zIk (k:κ):∀ {kvs:List (D × D)} {vs:List (κ × V)},zAh kf L H kvs vs -> (kvs.any fun p=>decide (kf p.1 = some k)) = (vs.any fun kv=>decide (kv.1 = k))
 | [],vs,h=>by unfold zAh at h; subst h; rfl
 | p :: r,vs,h=>by
  obtain ⟨k',v,r',rfl,e,h1,h2⟩:=h;rw [List.any_cons,List.any_cons,zIk k h2,e];simp
theorem zGP (k:κ) (hd:Rep L H d u):∀ {kvs:List (D × D)} {vs:List (κ × V)},zAh kf L H kvs vs -> zAh kf L H (kvs.map fun p=>if kf p.1 = some k then (p.1,d) else p) (vs.map fun kv=>if kv.1 = k then (kv.1,u) else kv)
 | [],vs,h=>by unfold zAh at h; subst h; rfl
 | p :: r,vs,h=>by
  obtain ⟨k',v,r',rfl,e,h1,h2⟩:=h;rw [zTd,zTd];by_cases q:k' = k
  ·subst q;rw [zTZ e,zTZ rfl];exact ⟨k',u,_,rfl,e,hd,zGP k' hd h2⟩
  ·rw [zTc (by rw [e]; simpa using q),zTc q];exact ⟨k',v,_,rfl,e,h1,zGP k hd h2⟩
theorem zGp (hk:kf kd = some k) (hd:Rep L H d u):∀ {kvs:List (D × D)} {vs:List (κ × V)},zAh kf L H kvs vs -> zAh kf L H (kvs ++ [(kd,d)]) (vs ++ [(k,u)])
 | [],vs,h=>by unfold zAh at h; subst h; exact ⟨k,u,[],rfl,hk,hd,rfl⟩
 | p :: r,vs,h=>by
  obtain ⟨k',v,r',rfl,e,h1,h2⟩:=h;exact ⟨k',v,_,rfl,e,h1,zGp hk hd h2⟩
theorem zKl {kf:D -> Option κ} {L:List Addr} {H:Hp} {k:κ} {kd d:D} {u:V} (hk:kf kd = some k) (hd:Rep L H d u) {kvs:List (D × D)} {vs:List (κ × V)} (h:zAh kf L H kvs vs):zAh kf L H (zIR kf kvs k kd d) (zDr vs k u):=by
 unfold zIR zDr;rw [zIk k h];split
 ·exact zGP k hd h
 ·exact zGp hk hd h
end
theorem zId:∀ {ds:List D} {vs:List V} {ks:List Key},zL L H ds vs -> zIP ds = some ks -> vs = ks.map kV
 | [],vs,ks,h,e=>by cases e; unfold zL at h; exact h
 | d :: ds,vs,ks,h,e=>by
  unfold zL at h;obtain ⟨v,r,rfl,h1,h2⟩:=h;unfold zIP at e;cases e1:zBe d with
  | none=>rw [e1] at e; cases e
  | some k=>
   cases e2:zIP ds with
   | none=>rw [e1,e2] at e; cases e
   | some ks'=>
    rw [e1,e2] at e; cases e;rw [zFe h1 e1,zId h2 e2]; rfl
theorem zKA (h:Rep L H d v) (e:tkD d = some ks):∃ b,v = .ref b /\ H b = some (.tup (ks.map kV)):=by
 cases d with
 | tup ds=>
  unfold Rep at h;obtain ⟨a,vs,rfl,e1,r⟩:=h;exact ⟨a,rfl,by rw [e1,zId r e]⟩
 | _=>cases e
def zFL (M:Mem) (x:EV) (k:D):Option (Option D):=match x with
 | .dat (.ref n)=>match M[n]? with
  | some (.dict kvs)=>match zBe k with
   | some kk=>some (zCN zBe kvs kk)
   | none=>none
  | some (.dicT kvs)=>match tkD k with
   | some kk=>some (zCN tkD kvs kk)
   | none=>none
  | some (.froK kvs)=>match zBe k with
   | some kk=>some (zCN zBe kvs kk)
   | none=>none
  | some (.froT kvs)=>match tkD k with
   | some kk=>some (zCN tkD kvs kk)
   | none=>none
  | _=>none
 | _=>none
def zSH (L:List Addr) (H:Hp):Option D -> Option V -> Prop
 | none,o=>o = none
 | some d,o=>∃ v,o = some v /\ Rep L H d v
theorem zJN {K:PySem.W.Frag} {L:List Addr} {M:Mem} {H H0:Hp} {x:EV} {v w:V} {k:D} {o:Option D} (c:Cor K L M H) (rx:zd H0 L H x v) (rk:Rep L H k w) (e:zFL M x k = some o):∃ a ov,v = .ref a /\ zEl H a w ov /\ zSH L H o ov:=by
 cases x with
 | fl xs=>cases e
 | dat d=>
  cases d with
  | ref n=>
   unfold zd Rep at rx;obtain ⟨a,rfl,ea⟩:=rx;unfold zFL at e;dsimp only at e;cases q:M[n]? with
   | none=>rw [q] at e; cases e
   | some m=>
    rw [q] at e;have z:=c.obj n a m ea q;cases m with
    | dict kvs=>
     dsimp only at e;cases e2:zBe k with
     | none=>rw [e2] at e; cases e
     | some kk=>
      rw [e2] at e;cases e;obtain ⟨vs,e3,r⟩:=z;refine ⟨a,zC4 vs kk,rfl,?_,?_⟩
      ·rw [zFe rk e2]; exact zEl.k e3
      ·rcases zDX kk r with ⟨h1,h2⟩ | ⟨d,v,h1,h2,h3⟩
       ·rw [h1,h2]; rfl
       ·rw [h1,h2]; exact ⟨v,rfl,h3⟩
    | dicT kvs=>
     dsimp only at e;cases e2:tkD k with
     | none=>rw [e2] at e; cases e
     | some kk=>
      rw [e2] at e;cases e;obtain ⟨vs,e3,r⟩:=z;obtain ⟨b,rfl,eb⟩:=zKA rk e2;refine ⟨a,zC4 vs kk,rfl,zEl.t e3 eb,?_⟩;rcases zDX kk r with ⟨h1,h2⟩ | ⟨d,v,h1,h2,h3⟩
      ·rw [h1,h2]; rfl
      ·rw [h1,h2]; exact ⟨v,rfl,h3⟩
    | froK kvs=>
     dsimp only at e;cases e2:zBe k with
     | none=>rw [e2] at e; cases e
     | some kk=>
      rw [e2] at e;cases e;obtain ⟨ob,vs,e3,r⟩:=z;refine ⟨a,zC4 vs kk,rfl,.inl ⟨vs,kk,.inr ⟨ob,e3⟩,zFe rk e2,rfl⟩,?_⟩;rcases zDX kk r with ⟨h1,h2⟩ | ⟨d,v,h1,h2,h3⟩
      ·rw [h1,h2]; rfl
      ·rw [h1,h2]; exact ⟨v,rfl,h3⟩
    | froT kvs=>
     dsimp only at e;cases e2:tkD k with
     | none=>rw [e2] at e; cases e
     | some kk=>
      rw [e2] at e;cases e;obtain ⟨ob,vs,e3,r⟩:=z;obtain ⟨b,rfl,eb⟩:=zKA rk e2;refine ⟨a,zC4 vs kk,rfl,.inr ⟨vs,kk,b,.inr ⟨ob,e3⟩,rfl,eb,rfl⟩,?_⟩;rcases zDX kk r with ⟨h1,h2⟩ | ⟨d,v,h1,h2,h3⟩
      ·rw [h1,h2]; rfl
      ·rw [h1,h2]; exact ⟨v,rfl,h3⟩
    | _=>cases e
  | _=>cases e
def zGz (M:Mem) (n:Nat) (k v:D):Option Mem:=match M[n]? with
 | some (.dict kvs)=>match zBe k with
  | some kk=>if kvs.length < sizeLine then some (M.set n (.dict (zIR zBe kvs kk k v))) else none
  | none=>none
 | some (.dicT kvs)=>match tkD k with
  | some kk=>if kvs.length < sizeLine then some (M.set n (.dicT (zIR tkD kvs kk k v))) else none
  | none=>none
 | _=>none
theorem zNu {K:PySem.W.Frag} {L:List Addr} {M M':Mem} {H:Hp} {n:Nat} {a:Addr} {k v:D} {w u:V} (c:Cor K L M H) (ea:L[n]? = some a) (rk:Rep L H k w) (rv:Rep L H v u) (e:zGz M n k v = some M'):∃ H',zH5 H a w u H' /\ Cor K L M' H' /\ Stp L H L H':=by
 unfold zGz at e;cases q:M[n]? with
 | none=>rw [q] at e; cases e
 | some m=>
  rw [q] at e;have z:=c.obj n a m ea q;cases m with
  | dict kvs=>
   dsimp only at e;cases e2:zBe k with
   | none=>rw [e2] at e; cases e
   | some kk=>
    rw [e2] at e;dsimp only at e;split at e
    ·rename_i hl;cases e;obtain ⟨vs,e3,r⟩:=z;obtain ⟨c3,s3⟩:=c.put (m:=.dict (zIR zBe kvs kk k v)) (o':=.dK (zDr vs kk u)) ea e3 (fun _ z=>by cases z) (fun _ _ z=>by cases z) fun s3=>⟨_,zAX,(zKl e2 rv r).stp s3⟩;refine ⟨_,?_,c3,s3⟩;rw [zFe rk e2]; exact zH5.k e3 (by rw [r.length]; exact hl)
    ·cases e
  | dicT kvs=>
   dsimp only at e;cases e2:tkD k with
   | none=>rw [e2] at e; cases e
   | some kk=>
    rw [e2] at e;dsimp only at e;split at e
    ·rename_i hl;cases e;obtain ⟨vs,e3,r⟩:=z;obtain ⟨b,rfl,eb⟩:=zKA rk e2;obtain ⟨c3,s3⟩:=c.put (m:=.dicT (zIR tkD kvs kk k v)) (o':=.dT (zDr vs kk u)) ea e3 (fun _ z=>by cases z) (fun _ _ z=>by cases z) fun s3=>⟨_,zAX,(zKl e2 rv r).stp s3⟩;exact ⟨_,zH5.t e3 eb (by rw [r.length]; exact hl),c3,s3⟩
    ·cases e
  | _=>cases e
section
variable {X:Cx} {a b e o i value:Expr} {pos pos' apos cpos:Pos} {f g h:FE}
def zFF:K2:=fun x y M=>match y with
 | .dat k=>match zFL M x k with
  | some (some d)=>some (.dat d,M)
  | _=>none
 | _=>none
theorem zMP {K:PySem.W.Frag}:zA7 K (fun x y H Q=>∃ a v,x = .ref a /\ zEl H a y (some v) /\ Q v H) zFF:=by
 intro L M M' H H0 x y d v w Q c rx ry hk q;unfold zFF at hk;split at hk
 ·rename_i k;split at hk
  ·rename_i d' e1;cases hk;obtain ⟨a,ov,rfl,h1,h2⟩:=zJN c rx ry e1;obtain ⟨u,rfl,r⟩:=h2;exact ⟨a,u,rfl,h1,q L H u (.refl L H) c r⟩
  ·cases hk
 ·cases hk
theorem zQl (hu:X.A.units + 1 < cLine) (h1:QE X o f) (h2:QE X i g) (hs:zQQ i:=by intro _ _; rfl):QE X (.Subscript o i pos) (fOp zFF f g):=.mk <| PE.imp (zOd hu h1.un h2.un hs) fun _ _ _ h=>zC0 zMP h
def zGe (neg:Bool):K2:=fun x y M=>match x with
  | .dat k=>match zFL M y k with
    | some o=>some (.dat (.bl (if neg then !o.isSome else o.isSome)),M)
    | none=>none
  | _=>none
theorem zNJ {o:Option D} {ov:Option V} (h:zSH L H o ov):ov.isSome = o.isSome:=by
  cases o with
  | none => have h' : ov = none := h
            rw [h']; rfl
  | some d=>obtain ⟨v,rfl,_⟩:=h; rfl
theorem zKe {K:PySem.W.Frag}:zA7 K (fun y x H Q=>∃ a o,x = .ref a /\ zEl H a y o /\ Q (.bl o.isSome) H) (zGe false):=by
 intro L M M' H H0 x y d v w Q c rx ry hk q;unfold zGe at hk;split at hk
 ·rename_i k;split at hk
  ·rename_i o e1;cases hk;obtain ⟨a,ov,rfl,h1,h2⟩:=zJN c ry rx e1;refine ⟨a,ov,rfl,h1,?_⟩;rw [zNJ h2];exact q L H _ (.refl L H) c (zAp (L:=L) (H:=H))
  ·cases hk
 ·cases hk
theorem zSN (hu:X.A.units + 1 < cLine) (h1:QE X a f) (h2:QE X b g) (hm:behindInMarks .In b = false:=by rfl):QE X (.Compare a [.In] [b] pos) (fOp (zGe false) f g):=.mk <| PE.imp (zQV (zMV hu h1.un h2.un) hm) fun _ _ _ h=>zC0 zKe h
theorem zQ2 (hu:X.A.units + 1 < cLine) (h1:QE X a f) (h2:QE X b g) (hm:behindInMarks .In b = false:=by rfl):QT X (.Compare a [.In] [b] pos) (tst (fOp (zGe false) f g)):=.mk <| PT.imp (zQT (zMV hu h1.un h2.un) hm) fun _ _ _ h=>zEN (fun _ _ _ z=>zC0 zKe z) (zDn h)
def zIr (fv fo fi:FE):FS:=fun σ M=>match toD fv σ M with
 | some (v,M1)=>match toD fo σ M1 with
  | some (.ref n,M2)=>match toD fi σ M2 with
   | some (k,M3)=>match zGz M3 n k v with
    | some M4=>some (.nx,σ,M4)
    | none=>none
   | none=>none
  | _=>none
 | none=>none
theorem zQr (hu:X.A.units + 1 < cLine) (hv:QE X value f) (ho:QE X o g) (hi:QE X i h) (hs:swapsWith value (some (.Subscript o i pos')) pos.line X.env = pure false:=by rfl):QS X (.Assign [.Subscript o i pos'] value pos) (zIr f g h) :=
 .mk <| PS.imp (zOv hu (zAZ ho).un (zAZ hi).un (zAZ hv).un hs) fun E τ H zz=>by
  obtain ⟨L,σ,M,out,σ',M',c,rs,hf,q⟩:=zz;unfold zIr at hf;split at hf
  ·rename_i v M1 e1;split at hf
   ·rename_i n M2 e2;split at hf
    ·rename_i k M3 e3;split at hf
     ·rename_i M4 e4;cases hf;refine ⟨L,σ,M,_,_,c,rs,e1,fun L1 H1 u s1 c1 r1=>⟨L1,σ,M1,_,_,c1,rs.stp s1,e2,fun L2 H2 y s2 c2 r2=>⟨L2,σ,M2,_,_,c2,(rs.stp s1).stp s2,e3,fun L3 H3 z s3 c3 r3=>?_⟩⟩⟩;unfold Rep at r2;obtain ⟨a,rfl,ea⟩:=r2;have ea3:L3[n]? = some a:=by obtain ⟨N,hN⟩:=s3.pre; rw [hN]; exact zDi ea
      obtain ⟨H4,h1,h2,h3⟩:=zNu c3 ea3 r3 ((r1.stp s2).stp s3) e4;exact ⟨a,H4,rfl,h1,q L3 H4 (((s1.trans s2).trans s3).trans h3) h2 τ ((((rs.stp s1).stp s2).stp s3).stp h3)⟩
     ·cases hf
    ·cases hf
   ·cases hf
  ·cases hf
end
end L3
namespace L2
open PySem PySem.Spec PyProof.Rows
end L2
namespace L3
open PySem PySem.Spec PyProof.Rows L2
open Builtin
section
variable {X:Cx} {a b o e e2:Expr} {pos p apos cpos:Pos} {f g:FE}
def zIV:KB:=fun xs M=>match xs with
 | [.dat (.int i),.dat (.int j)]=>some (.dat (.int (if j > i then j else i)),M)
 | _=>none
theorem zJU (r:zCL H0 L H [.dat (.int i),.dat (.int j)] vs):vs = [.int i,.int j]:=by
 unfold zCL at r;obtain ⟨v,r1,rfl,a1,a2⟩:=r;unfold zCL at a2;obtain ⟨v2,r2,rfl,b1,b2⟩:=a2;unfold zCL at b2;subst b2;unfold zd Rep at a1 b1;subst a1 b1;rfl
theorem zOJ {K:PySem.W.Frag}:zEz K (fun xs H Q=>∃ i j,xs = [.int i,.int j] /\ Q (.int (if j > i then j else i)) H) zIV:=by
 intro L M M' H H0 xs d vs Q c r hk q;unfold zIV at hk;split at hk
 ·rename_i i j;cases hk;exact ⟨i,j,zJU r,q L H _ (.refl L H) c (zAb (L:=L) (H:=H))⟩
 ·cases hk
theorem zQx (hcalm:X.calm = true) (hg:Gl X "max") (hm:X.mg "max" = none) (ha:QAE X [e,e2] fa) (he:starEach [e,e2] X.env = (false,eval e X.env) :: starEach [e2] X.env:=by rfl) (hpl:(backTo pos (starEach [e2] X.env)).any (·.1) = false:=by rfl):QE X (.Call (.Name "max" p) [e,e2] [] pos) (fB zIV fa) :=
 zDp zOJ (zLG hcalm) (by rfl) hg hm ha (by decide) (by decide) he hpl
end
end L3
namespace HT
open PySem PySem.Spec PyProof.Rows
end HT
namespace L3
open PySem PySem.Spec PyProof.Rows L2
section
variable {X:Cx} {a e e2 o:Expr} {pos p apos cpos:Pos} {f:FE}
def zIg (f:FE):FT:=fun σ M=>match f σ M with
 | some (x,M1)=>match zAV M1 x with
  | some xs=>some (!xs.isEmpty,M1)
  | none=>none
 | none=>none
theorem zKz (h:QE X a f) (he:∀ whole,isTrue a X.env whole = (do let v <- whole; standAt a.pos; holding [v] (truthy v)):=by intro _; rfl):QT X a (zIg f) :=
 .mk <| PT.imp (zIa h.un he) fun τ H Q zz=>by
  obtain ⟨L,σ,M,d,M',c,rs,hf,q⟩:=zz;unfold zIg at hf;split at hf
  ·rename_i x M1 e1;split at hf
   ·rename_i xs e2;cases hf;refine ⟨L,σ,M,_,_,c,rs,e1,fun L1 H1 v s1 c1 r1=>⟨!xs.isEmpty,?_,q L1 H1 s1 c1⟩⟩;unfold zAV at e2;have emp:∀ {vs:List V},zL L1 H1 xs vs -> (!xs.isEmpty) = !vs.isEmpty:=fun {vs} r=>by
     have:=r.length;cases xs <;> cases vs <;> first | rfl | simp at this
    cases t:zB7 x with
    | some ws=>
     rw [t] at e2; cases e2;obtain ⟨l,vs,rfl,e3,r3⟩:=zCM r1 t;exact .inr (.inl ⟨vs,.of e3,emp r3⟩)
    | none=>
     rw [t] at e2;dsimp only at e2;obtain ⟨l,vs,rfl,e3,r3⟩:=zBG c1 r1 e2;exact .inl ⟨vs,.inl e3,emp r3⟩
   ·cases hf
  ·cases hf
theorem zLa:zBZ X (.builtin "len") (fun xs H Q=>∃ (p:Addr) (kvs:List (Key × V)),xs = [.ref p] /\ H p = some (.dK kvs) /\ Q (.int kvs.length) H):=by
 intro zB s σ H xs us Q I r h;obtain ⟨p,kvs,rfl,hx,q⟩:=h;obtain ⟨u,rfl,rx⟩:=zDx r;cases rx;have hn:=zDa;obtain ⟨hz,hS,vs,r',m⟩:kvs.length <= sizeLine /\ (p == sysModules) = false /\ ∃ vs,KV kvs vs /\ s.heap.DictOf (zAW X.prog X.w) p vs:=I.hok p _ hx;have hlen:kvs.length = vs.length:=Paired.length r';exact call_len_dict hS m (by omega) ⟨.int kvs.length,H,I.tok _,⟨s.toks + 1,by rw [hlen]⟩,q⟩
def zFP:KB:=fun xs M=>match xs with
 | [.dat (.ref n)]=>match M[n]? with
  | some (.dict kvs)=>some (.dat (.int kvs.length),M)
  | _=>none
 | _=>none
theorem zMn {K:PySem.W.Frag}:zEz K (fun xs H Q=>∃ (p:Addr) (kvs:List (Key × V)),xs = [.ref p] /\ H p = some (.dK kvs) /\ Q (.int kvs.length) H) zFP:=by
 intro L M M' H H0 xs d vs Q c r hk q;unfold zFP at hk;split at hk
 ·rename_i n;split at hk
  ·rename_i kvs e1;cases hk;obtain ⟨v,rfl,r1⟩:=r.one;unfold zd Rep at r1;obtain ⟨a,rfl,e2⟩:=r1;obtain ⟨ws,e3,r3⟩:=c.obj n a _ e2 e1;have hl:=r3.length;refine ⟨a,ws,rfl,e3,?_⟩;have:=q L H (.int kvs.length) (.refl L H) c (zAb (L:=L) (H:=H));rw [<- hl] at this; exact this
  ·cases hk
 ·cases hk
theorem zMu (hg:Gl X "len") (hm:X.mg "len" = none) (ha:QAE X [e] fa) (he:starEach [e] X.env = (false,eval e X.env) :: starEach [] X.env:=by rfl) (hpl:(backTo pos (starEach [] X.env)).any (·.1) = false:=by rfl):QE X (.Call (.Name "len" p) [e] [] pos) (fB zFP fa) :=
 zDp zMn zLa PySem.boot_len hg hm ha (by decide) (by decide) he hpl
end
end L3
namespace L2
open PySem PySem.Spec PyProof.Rows
end L2
namespace L3
open PySem PySem.Spec PyProof.Rows L2
end L3
namespace L2
open PySem PySem.Spec PyProof.Rows
end L2
namespace L3
open PySem PySem.Spec PyProof.Rows L2
open SeqAt
structure Df (K:PySem.W.Frag) (mg:Str -> Option Value) (x:Str) (st:Stmt) (ps:List Str) where
 f:Addr
 fd:FuncData
 F:Fun K x x st f fd
 b:zCI K fd ps []
 m:mg x = some (.ref f)
structure Dg (K:PySem.W.Frag) (x:Str) (st:Stmt) where
 f:Addr
 {od an:Option Addr}
 {sl:Array (Option Value)}
 {oc kV dc pm cd ct:Value}
 a:PySem.W.nsIn K mainGlobals x = some (some (.ref f))
 l:K.lookup f = some ⟨oc,od,.func (PySem.W.fnOf x x (zCG st) (zAj st) (zG st) .none kV dc pm an cd ct),sl⟩
 c:PySem.W.codeIn K cd x = true
 k:PySem.W.keepIn K (.ref f) = true
abbrev Dg.df {K:PySem.W.Frag} {x:Str} {st:Stmt} {ps:List Str} {h:Heap} {mg:Str -> Option Value} (g:Dg K x st) (X:K.In h) (G:h.Ns mainGlobals mg)
  (hb:∀ (kV doc pm:Value) (an:Option Addr) (cdv ct:Value) (us:List Value),us.length = ps.length -> bindArgs (PySem.W.fnOf x x (zCG st) (zAj st) (zG st) .none kV doc pm an cdv ct) ⟨us,[]⟩ = pure (ps.zip us)):Df K mg x st ps :=
 ⟨g.f,_,zHF g.l g.c g.k,(zHF g.l g.c g.k).binds hb,PySem.W.mg_of X G g.a⟩
abbrev Od (P:Program) (w:World) (base:Heap) (k:Nat) {K:PySem.W.Frag} {mg:Str -> Option Value} {x:Str} {st:Stmt} {ps:List Str} (d:Df K mg x st ps) (m:FF):Prop:=FnOk P w K mg base CX0 k d.f d.fd ps (spF K ps.length m)
abbrev Zn (K:PySem.W.Frag) (x:Str):Prop:=PySem.W.nsIn K mainGlobals x = some none
abbrev Ki (K:PySem.W.Frag) (t T:String) (b:Bool):Prop:=PySem.W.kitOne K (.type t) (.type T) = some b
theorem zFb {P:List Value -> Prop} (h:∀ a,P [a]):∀ us:List Value,us.length = 1 -> P us
 | [a],_=>h a
theorem zLd {P:List Value -> Prop} (h:∀ a b,P [a,b]):∀ us:List Value,us.length = 2 -> P us
 | [a,b],_=>h a b
theorem zRE {P:List Value -> Prop} (h:∀ a b c,P [a,b,c]):∀ us:List Value,us.length = 3 -> P us
 | [a,b,c],_=>h a b c
theorem zTH {P:List Value -> Prop} (h:∀ a b c d e,P [a,b,c,d,e]):∀ us:List Value,us.length = 5 -> P us
 | [a,b,c,d,e],_=>h a b c d e
section
variable {X:Cx} {e:Expr} {es:List Expr} {pos p:Pos} {x:Str} {k:Nat} {st:Stmt} {ps:List Str}
theorem zLE {d:Df X.K X.mg x st ps} (F:FnOk X.prog X.w X.K X.mg X.base CX0 k d.f d.fd ps (spF X.K (e :: es).length g)) (hr:Room k X.A) (hg:Gl X x)
  (ha:QA X (e :: es) fa) (hl:∀ σ M ds M1,fa σ M = some (ds,M1) -> ds.length = (e :: es).length) (hdb:(x == ("__debug__" : Str)) = false) (he:starEach (e :: es) X.env = (false,eval e X.env) :: starEach es X.env) (hpl:(backTo pos (starEach es X.env)).any (·.1) = false) :
  QE X (.Call (.Name x p) (e :: es) [] pos) (zW g fa):=zQ1 F hr hg d.m d.F.kp d.b ha hl hdb he hpl
theorem zPY (hN:X.N.Nodup) (hi:X.N[i]? = some x) (h:QE X e f) (hx:Loc X.env.scope x:=by first | exact Or.inl rfl | exact Or.inr rfl) (hs:swapsWith e (some (.Name x pos')) pos.line X.env = pure false:=by rfl)
  (hf:X.fn x = true \/ X.env.scope.names.lookup x = some .local:=by first | exact .inl rfl | exact .inr rfl | assumption):QS X (.Assign [.Name x pos'] e pos) (zAF i f):=zSQ hN hi hx h hs hf
theorem zDK (hN:X.N.Nodup) (hi:X.N[i]? = some x) (hx:Loc X.env.scope x:=by first | exact Or.inl rfl | exact Or.inr rfl) (hf:X.fn x = true \/ X.env.scope.names.lookup x = some .local:=by first | exact .inl rfl | exact .inr rfl | assumption):PG X (.Name x pos) (zDy i):=zK6 hN hi hx hf
end
section
variable {prog:Program} {w:World} {A:Around} {E:Value -> Shared -> Prop} {s:Shared} {it d:Addr} {i ep:Nat} {o:Obj} {es:Array DictEntry}
theorem zM0 (hd:(d == sysModules) = false) (hT:s.TypeIs (.ref d) "dict") (ho:s.heap.get? d = some o) (hdat:o.data = .dict es ep)
  (hQ:Q (.ref s.heap.objs.size) { s with heap:=s.heap.push { cls:=.type "dict_keyiterator", data:=.fields #[.ref d,.int 0 0,.int es.size 0,.int ep 0] } }):wpAny (model prog w) A (pyIter (.ref d)) Q E s:=by
 refine wpAny_pyIter_slot hT F.slot_dict_iter (zTx F.slot_dict_iter hT F.entry_dict_iter ?_ (F.args_dict_iter_1 _));unfold Builtin.«dict.__iter__»;refine zTK ?_;unfold Builtin.Dict.dictSlotNone;refine zTK (wpAny_notOrdered_dict hT ?_);show wpAny _ _ (pure (Value.ref d)) _ _ s;refine zTM ?_;show wpAny _ _ (Builtin.Dict.showsAll d >>= _) _ _ s;unfold Builtin.Dict.showsAll;rw [zTc (by rw [hd]; exact zTg)];refine zTK (zTM (zTK (wpAny_dictEntries ho hdat (zTK (wpAny_dictEpoch ho hdat ?_)))));refine zTK (zTn (zTM ⟨_,rfl, "dict_keyiterator", _,⟨_,zTU _ rfl,rfl⟩,F.slot_dict_keyiterator_next.lookup,?_⟩));simpa [rawInt] using hQ
theorem zN3 (hit:s.heap.IsKeyIter it d i es.size ep) (hod:s.heap.get? d = some o) (hdd:o.data = .dict es ep) (hx:es[i]? = some e)
  (hQ:∀ h',h'.IsKeyIter it d (i + 1) es.size ep -> Heap.SameBut it s.heap h' -> Q (some e.key) { s with heap:=h' }):wpAny (model prog w) A (pyNext (.ref it)) Q E s:=by
 obtain ⟨q,ho,hc,hd⟩:=id hit;obtain ⟨hlt,hxe⟩:=Array.getElem?_eq_some_iff.mp hx;unfold pyNext;refine zTK (wpAny_attempt (zTw (name:=Str.ofString "__next__") hit.typeIs F.slot_dict_keyiterator_next (zTx F.slot_dict_keyiterator_next hit.typeIs F.entry_dict_keyiterator_next ?_ (F.args_dict_keyiterator_next_1 _))));refine zTK (zTM (zTK (zTK ?_)));first | refine zTK (wpAny_typeNameOfWhole_keyiter hit.typeIs (zTM ?_)) | refine zTK (wpAny_typeNameOf_keyiter hit.typeIs (zTM ?_))
 refine zTK (wpAny_fieldsOf ho hd ?_);simp only [show Builtin.Dict_items.ownsTuple "dict_keyiterator" = false by decide,Bool.false_eq_true,if_false];show wpAny _ _ (if (Value.ref d == Value.none) = true then _ else _) _ _ s;rw [zTc (show ¬ ((Value.ref d == Value.none) = true) from zTg)];refine zTK (zTM (zTK (wpAny_dictEntries hod hdd ?_)));rw [zTc (by simp)];refine zTK (zTM (zTK (wpAny_dictEpoch hod hdd ?_)));rw [zTc (by simp)];refine zTM ?_;simp only [show ¬ ((i:Int) < 0) from by omega,if_false,zV9,Array.getElem?_eq_getElem hlt,hxe];refine zTK ?_;first | refine zTK (wpAny_typeNameOfWhole_keyiter hit.typeIs (zTM ?_)) | refine zTK (wpAny_typeNameOf_keyiter hit.typeIs (zTM ?_))
 refine zTK (wpAny_isOneOf_keyiter hit.typeIs ?_);show wpAny _ _ (setField (.ref it) 1 (rawInt ((i:Int) + 1)) >>= _) _ _ s;refine zTK (wpAny_setField ho hd (by simp) ?_);have hit':(s.heap.update it (Obj.mapFields (·.setIfInBounds 1 (rawInt ((i:Int) + 1))))).IsKeyIter it d (i + 1) es.size ep :=
  ⟨_,zUC _ ho (Obj.isFreed_of_fields (Obj.data_mapFields hd _)),(Obj.cls_mapFields ..).trans hc,by rw [Obj.data_mapFields hd]; simp [rawInt]⟩
 refine zTK (zUI (zTK (wpAny_isOneOf_keyiter (s:={ s with heap:=s.heap.update it (Obj.mapFields (·.setIfInBounds 1 (rawInt ((i:Int) + 1)))) }) hit'.typeIs ?_)));show wpAny _ _ (pure e.key) _ _ _;exact zTM (zTM ⟨_,rfl,zTM (hQ _ hit' (Heap.SameBut.update ..))⟩)
theorem zOT (hh:A.handled = none) (hit:s.heap.IsKeyIter it d i es.size ep) (hod:s.heap.get? d = some o) (hdd:o.data = .dict es ep) (hge:es.size <= i)
  (hQ:∀ h',Heap.ExtBut it s.heap h' -> Q none { s with heap:=h' }):wpAny (model prog w) A (pyNext (.ref it)) Q E s:=by
 obtain ⟨q,ho,hc,hd⟩:=id hit;unfold pyNext;refine zTK (wpAny_attempt (zTw (name:=Str.ofString "__next__") hit.typeIs F.slot_dict_keyiterator_next (zTx F.slot_dict_keyiterator_next hit.typeIs F.entry_dict_keyiterator_next ?_ (F.args_dict_keyiterator_next_1 _))));refine zTK (zTM (zTK (zTK ?_)));first | refine zTK (wpAny_typeNameOfWhole_keyiter hit.typeIs (zTM ?_)) | refine zTK (wpAny_typeNameOf_keyiter hit.typeIs (zTM ?_))
 refine zTK (wpAny_fieldsOf ho hd ?_);simp only [show Builtin.Dict_items.ownsTuple "dict_keyiterator" = false by decide,Bool.false_eq_true,if_false];show wpAny _ _ (if (Value.ref d == Value.none) = true then _ else _) _ _ s;rw [zTc (show ¬ ((Value.ref d == Value.none) = true) from zTg)];refine zTK (zTM (zTK (wpAny_dictEntries hod hdd ?_)));rw [zTc (by simp)];refine zTK (zTM (zTK (wpAny_dictEpoch hod hdd ?_)));rw [zTc (by simp)];refine zTM ?_;simp only [show ¬ ((i:Int) < 0) from by omega,if_false,zV9,Array.getElem?_eq_none hge];refine zTK ?_;first | refine zTK (wpAny_typeNameOfWhole_keyiter hit.typeIs (zTM ?_)) | refine zTK (wpAny_typeNameOf_keyiter hit.typeIs (zTM ?_))
 show wpAny _ _ (setField (.ref it) 0 .none >>= _) _ _ s;refine zTK (wpAny_setField ho hd (by simp) ?_);show wpAny _ _ (newExc (.type "StopIteration") [] >>= _) _ _ _;refine zTK ?_;simp only [newExc,newTuple];refine zTK (zTn ?_ (by size_fits));refine zTK (m:=firstArgMember _ _) (wpAny_of_eq (a:=Value.none) (by first | rfl | (simp only [firstArgMember]; rfl)) ?_);refine zTn ?_ (by size_fits);simp only [raiseNew];refine zTK (wpAny_handled ?_);rw [show A.in1.handled = none from hh];refine zTK (zTM (wpAny_throw ?_));refine zTK (wpAny_isInstance (T := "StopIteration") (b:=true) ⟨_,zTU _ rfl,rfl⟩ isSubtype_stop ?_);exact zTM (hQ _ (((Heap.SameBut.update ..).extBut.push _).push _))
theorem zMs (lo:(d == sysModules) = false) (hc:o.cls = .type "dict") (hdd:o.data = .dict es ep):PySem.W.KdlSrc prog w "dict" d d es.size (fun i v=>∃ e,es[i]? = some e /\ v = e.key) (fun h=>h.get? d = some o) where
 type:=fun _ h=>⟨o,h,hc⟩;there:=fun _ h=>⟨zTV h,zTV h⟩;keep:=fun _ _ h k=>k d (.inl rfl) o h;notList:=by decide
 notTuple:=by decide
 hint:=fun _ _ _ _ h hq=>PySem.W.kdl_hint_dict ⟨o,h,hc⟩ hq
 iter:=fun A s hh h=>⟨_,fun i h'=>h'.IsKeyIter s.heap.objs.size d i es.size ep /\ h'.get? d = some o,(fun _ _ hq=>zM0 lo ⟨o,h,hc⟩ h hdd hq),⟨fun b hb=>by simp at hb; simp [hb],
  fun _ _ _ st hk=>⟨st.1.at fun o e=>hk _ (by simp) o e,hk d (by simp) o st.2⟩,
  fun i s2 Q E hi st hQ=>zN3 (e:=es[i]) st.1 st.2 hdd (by simp [hi]) fun h' hit' hs'=>hQ _ h' s2.toks ⟨es[i],by simp [hi],rfl⟩ ⟨hit',hs'.extBut _ _ (zTf (zTV h)) st.2⟩ fun b q hb e=>hs'.extBut b q (fun z=>hb (by simp [z])) e,
  fun s2 Q E st hQ=>zOT hh st.1 st.2 hdd (zTQ _) fun h' he'=>hQ h' s2.toks fun b q hb e=>he' b q (fun z=>hb (by simp [z])) e,
  fun _ _ _ _ st hQ=>wpAny_pyIter_keyiter st.1 hQ⟩,⟨⟨_,zTU _ rfl,rfl,rfl⟩,zTL _ h⟩⟩
end
theorem zKy:∀ {ys:List V} {us:List Value},ys.length = us.length -> (∀ (i:Nat) y u,ys[i]? = some y -> us[i]? = some u -> zt y u) -> zg ys us
 | [],[],_,_=> .nil
 | [],_ :: _,h,_=>by cases h
 | _ :: _,[],h,_=>by cases h
 | y :: ys,u :: us,h,q=> .cons (q 0 y u rfl rfl) (zKy (Nat.succ.inj h) fun i y' u' e1 e2=>q (i + 1) y' u' (by simpa using e1) (by simpa using e2))
end L3
namespace ST
open PySem PySem.Spec PyProof.Rows
section
variable {prog:Program} {w:World} {A:Around} {E:Value -> Shared -> Prop} {s:Shared} {κ:SortKind} {vs:List Value}
theorem zMx (K:PySem.W.KdlSrc prog w T r d n P OK) (hh:A.handled = none) (hok:OK s.heap) (hSr:S ≠ r) (hSd:S ≠ d) (hS:s.heap.get? S = some { cls:=.type "list", data:=.seq #[] })
  (hR:∀ h' tk acc c',(∀ b u,b ≠ S -> s.heap.get? b = some u -> h'.get? b = some u) -> h'.get? S = some { cls:=.type "list", dict:=none,data:=.seq acc c',slots:=#[] } -> ItemsOf P acc n -> R (.ok (.ret (.ref S))) { s with heap:=h',toks:=tk }) (hn:n <= sizeLine):codeAny (model prog w) A (.builtin "list.__iadd__" ⟨[.ref S,.ref r],[]⟩) R s:=by
 refine codeAny_builtin F.entry_list_iadd ?_;rw [Around.under_plainId F.plain_list_iadd _];exact PySem.W.kdl_extend K hh hok S hSr hSd (.ref S) 0 hS hR hn
theorem zII (K:PySem.W.KdlSrc prog w T r d n P OK) (hh:A.handled = none) (hok:OK s.heap) (hn:n <= sizeLine)
  (hQ:∀ h' tk acc,(∀ b u,s.heap.get? b = some u -> h'.get? b = some u) -> s.heap.objs.size <= h'.objs.size -> ItemsOf P acc n -> Q acc.toList { s with heap:=h',toks:=tk }):wpAny (model prog w) A (collect (.ref r)) Q E s:=by
 unfold collect;refine zTK (wpAny_runValue (codeAny_builtin F.entry_proto_collect ?_));rw [Around.under_plainId F.plain_proto_collect _];show wpAny _ A.in1 (newList [] >>= fun l=>again (.builtin "list.__iadd__" ⟨[l,.ref r],[]⟩)) _ _ s;have hlt:=K.there _ hok;refine zTK (zTn (zTM ⟨plainId_quiet F.plain_list_iadd _,zMx (s:={ s with heap:=s.heap.push { cls:=.type "list", data:=.seq ([]:List Value).toArray } }) K hh (K.keep _ _ hok fun b _ o e=>zTL _ e) (Nat.ne_of_gt hlt.1) (Nat.ne_of_gt hlt.2) (zTU _ rfl) (fun h' tk acc c' hk hS' hacc=>?_) hn⟩));show wpAny _ A (load s.heap.objs.size >>= _) _ _ { s with heap:=h',toks:=tk };exact zTK (wpAny_load (s:={ s with heap:=h',toks:=tk }) hS' (zTM (hQ h' tk acc (fun b u e=>hk b u (zTf (zTV e)) (zTL _ e)) (Nat.le_of_lt (zTV hS')) hacc)))
end
end ST
namespace L3
open PySem PySem.Spec PyProof.Rows L2 ST
end L3
namespace ST
open PySem PySem.Spec PyProof.Rows
end ST
namespace L3
open PySem PySem.Spec PyProof.Rows L2 ST
end L3
namespace L2
open PySem PySem.Spec PyProof.Rows
end L2
namespace L3
open PySem PySem.Spec PyProof.Rows L2
end L3
namespace L2
open PySem PySem.Spec PyProof.Rows ST
end L2
namespace L3
open PySem PySem.Spec PyProof.Rows L2 ST
theorem zG3:∀ {es:List DictEntry} {kvs:List (Key × Value)},Pairs (zAW P w) es kvs -> ∀ (i:Nat) e,es[i]? = some e -> ∃ kv,kvs[i]? = some kv /\ zFR kv.1 e.key = true
 | _,_,.nil,i,e,h=>by simp at h
 | _,_,.cons h1 h2 h3,0,e,h=>by cases h; exact ⟨_,rfl,h1⟩
 | _,_,.cons h1 h2 h3,i + 1,e,h=>zG3 h3 i e (by simpa using h)
theorem zNM:∀ {kvs:List (Key × V)} {vs:List (Key × Value)},KV kvs vs -> vs.map (·.1) = kvs.map (·.1)
 | _,_,.nil=>rfl
 | _,_,.cons h1 h2=>by rw [zTd,zTd,zNM h2,h1.1]
open PySem.Builtin.Str (occurrences partsBetween)
def zCP (x y:Str):List Str:=if (decide (x.length < y.length) || decide (PySem.Builtin.Str.strKind x < PySem.Builtin.Str.strKind y)) = true then [x] else if (occurrences x y 0 x.length (x.length + 1)).isEmpty = true then [x] else partsBetween x (occurrences x y 0 x.length (x.length + 1)) y.length
theorem zGm:∀ (tk:Nat) (xs:List Str),zg (xs.map V.str) (strsFrom tk xs)
 | _,[]=> .nil
 | tk,x :: r=> .cons ⟨tk,rfl⟩ (zGm (tk + 1) r)
section
variable {X:Cx} {o e:Expr} {apos cpos pos p:Pos} {f g:FE}
theorem zOG:MtR X "str.split" (fun x vs H Q=>∃ a b,x = .str a /\ vs = [.str b] /\ b.length = 1 /\ a.length <= 100000 /\ ∀ l,H l = none -> Q (.ref l) (upd H l (.lst ((zCP a b).map V.str)))):=by
 intro zB s σ H x xs v us Q I rx rv z;obtain ⟨a,b,rfl,rfl,hb,ha,q⟩:=z;obtain ⟨t,rfl⟩:=rx;obtain ⟨u,rfl,ru⟩:=rv.one;obtain ⟨t2,rfl⟩:=ru;have hf:H s.heap.objs.size = none:=I.hok.fresh (zTQ _);have hsz:sizeLine = 16777216:=sizeLine_eq;have hy:(b.length == 0) = false:=by rw [hb]; rfl
 have fin:∀ (tk:Nat) (vs:List Str) (its:List Value),zCP a b = vs -> vs.length <= 200000 -> zg (vs.map V.str) its -> EP X zB σ Q (.ref s.heap.objs.size) { s with toks:=tk,heap:=s.heap.push { cls:=.type "list", data:=.seq its.toArray } }:=fun tk vs its e hl hv=>by
  subst e;exact ⟨.ref s.heap.objs.size,_,I.laid (t':=tk) (fun b o e=>zTL _ e) (zTQ _) (show zAE X.prog X.w _ _ _ (.lst ((zCP a b).map V.str)) from ⟨by rw [zTT]; omega,its,0,hv,zTU _ rfl⟩),rfl,q _ hf⟩
 by_cases h1:(decide (a.length < b.length) || decide (PySem.Builtin.Str.strKind a < PySem.Builtin.Str.strKind b)) = true
 ·exact call_meets PySem.F.slot_str_split (typeIs_str _ _ _) PySem.F.entry_str_split (PySem.F.args_str_split_2 _ _) (meets_str_split_cannot_occur a b t t2 h1) (fin s.toks [a] _ (by unfold zCP; rw [zTZ h1]) (by simp) (.cons ⟨t,rfl⟩ .nil))
 ·have h1':(decide (a.length < b.length) || decide (PySem.Builtin.Str.strKind a < PySem.Builtin.Str.strKind b)) = false:=by simpa using h1
  by_cases h2:(occurrences a b 0 a.length (a.length + 1)).isEmpty = true
  ·exact call_meets PySem.F.slot_str_split (typeIs_str _ _ _) PySem.F.entry_str_split (PySem.F.args_str_split_2 _ _) (meets_str_split_not_found a b t t2 h1' hy h2) (fin s.toks [a] _ (by unfold zCP; rw [zTc h1,zTZ h2]) (by simp) (.cons ⟨t,rfl⟩ .nil))
  ·have hl:(partsBetween a (occurrences a b 0 a.length (a.length + 1)) b.length).length <= 200000:=by
    rw [length_partsBetween];have:=StrLaws.occ_length_le a b 0 a.length (a.length + 1);omega
   exact call_meets PySem.F.slot_str_split (typeIs_str _ _ _) PySem.F.entry_str_split (PySem.F.args_str_split_2 _ _) (meets_str_split_sep a b t t2 h1' hy (by simpa using h2) (by omega) (by omega)) (fin _ _ _ (by unfold zCP; rw [zTc h1,zTc h2]) hl (zGm _ _))
def zCm (f:FE) (fa:FAE):FE:=fun σ M=>match f σ M with
 | some (.dat (.str a),M1)=>match fa σ M1 with
  | some ([.dat (.str b)],M2)=>if b.length = 1 /\ a.length <= 100000 then some (.fl ((zCP a b).map D.str),M2) else none
  | _=>none
 | _=>none
theorem zOm (h1:QE X o f) (ha:QAE X [e] fa) (hbase:attributeBase o "split" X.env (eval o X.env) = eval o X.env:=by rfl)
  (hfew:((backTo cpos (starEach [e] X.env)).all (fun x=> !x.1) && (backToKw cpos (keywordEach [] X.env)).all (fun x=>x.1.isSome) && decide ([e].length + ([]:List Keyword).length + (if ([]:List Keyword).isEmpty then 0 else 1) < 30)) = true:=by rfl)
  (hline:(apos.endLine == cpos.line) = true:=by rfl) (hs:starEach [e] X.env = (false,eval e X.env) :: starEach [] X.env:=by rfl) (hplain:(backTo cpos (starEach [] X.env)).any (·.1) = false:=by rfl) :
  QE X (.Call (.Attribute o "split" apos) [e] [] cpos) (zCm f fa) :=
 .mk <| PE.imp (zI1 PySem.F.plainAttrs_str PySem.F.slot_str_split PySem.F.type_str_split zOG h1.un ha.un hbase hfew hline hs hplain) fun τ H Q zz=>by
  obtain ⟨L,σ,M,d,M',c,rs,hf,q⟩:=zz;unfold zCm at hf;split at hf
  ·rename_i a M1 e1;split at hf
   ·rename_i b M2 e2;split at hf
    ·rename_i hz;cases hf;refine ⟨L,σ,M,_,_,c,rs,e1,fun L1 H1 v s1 c1 r1=>?_⟩;rw [zAA r1];refine ⟨rfl,L1,σ,M1,_,_,c1,rs.stp s1,e2,fun L2 H2 vs s2 c2 r2=>?_⟩;obtain ⟨v2,rfl,r3⟩:=r2.one;rw [zAA r3];exact ⟨a,b,rfl,rfl,hz.1,hz.2,fun l hl=>q L2 _ _ ((s1.trans s2).trans (.upd hl)) (c2.upd hl) (zd.newLst (s1.trans s2) c c2 hl (zGj _))⟩
    ·cases hf
   ·cases hf
  ·cases hf
def zKx (f:FE):FT:=fun σ M=>match f σ M with
 | some (.dat (.str z),M1)=>if z.length <= 100000 then some (z.length != 0,M1) else none
 | _=>none
theorem zNe (h:QE X a f) (he:∀ whole,isTrue a X.env whole = (do let v <- whole; standAt a.pos; holding [v] (truthy v)):=by intro _; rfl):QT X a (zKx f) :=
 .mk <| PT.imp (zIa h.un he) fun τ H Q zz=>by
  obtain ⟨L,σ,M,d,M',c,rs,hf,q⟩:=zz;unfold zKx at hf;split at hf
  ·rename_i z M1 e1;split at hf
   ·rename_i hz;cases hf;refine ⟨L,σ,M,_,_,c,rs,e1,fun L1 H1 v s1 c1 r1=>⟨z.length != 0,?_,q L1 H1 s1 c1⟩⟩;rw [zAA r1];have hsz:sizeLine = 16777216:=sizeLine_eq;refine ⟨by omega,?_⟩;cases hl:z.length with
    | zero=>rfl
    | succ n=>simp; omega
   ·cases hf
  ·cases hf
end
open Sem (wp)
section
variable {prog:Program} {w:World} {A:Around} {E:Value -> Shared -> Prop} {s:Shared}
theorem zF4 (K:PySem.W.KdlSrc prog w "dict" d d n P OK) (hh:A.handled = none) (hok:OK s.heap) (hz:n <= sizeLine)
  (h:∀ (h':Heap) (tk:Nat) (acc:Array Value),(∀ b u,s.heap.get? b = some u -> h'.get? b = some u) -> s.heap.objs.size <= h'.objs.size -> ItemsOf P acc n -> Q₁ (.ref h'.objs.size) { s with heap:=h'.push { cls:=.type "tuple", data:=.seq acc },toks:=tk }) :
  codeAny (model prog w) A (.call (.builtin "tuple.__new__") ⟨[.type "tuple", .ref d],[]⟩) (wants Q₁ E) s:=by
 refine codeAny_of_tree ?_;show wpAny _ A.in1 (do checkBuiltinCall "tuple.__new__" ⟨[.type "tuple", .ref d],[]⟩; again (.builtin "tuple.__new__" ⟨[.type "tuple", .ref d],[]⟩)) _ _ s;refine zTK (wpAny_of_eq (F.newCall_tuple_1 _) (zTM ⟨plainId_quiet F.plain_tuple_new _,codeAny_builtin F.entry_tuple_new ?_⟩));rw [Around.under_plainId F.plain_tuple_new _];have hsub:=sub_tuple_self;have hinit:=init_tuple_lookup;have hmh:=madeHere_tuple;have hTI:=K.type _ hok;wp_walk using wpAny_typeOf hTI,zII (A:=A.in1) K hh hok hz;intro h' tk acc hk hle hacc;show wpAny _ _ (Builtin.Tuple.tupleExact acc.toList.toArray >>= fun v=>ret v) _ _ _;unfold Builtin.Tuple.tupleExact;have e:acc.toList.toArray = acc:=by simp
 rw [e];exact zTK (zTn (zTM (h h' tk acc hk hle hacc)) (by show acc.size <= sizeLine; rw [hacc.1]; exact hz))
theorem zGQ (K:PySem.W.KdlSrc prog w "dict" d d n P OK) (hh:A.handled = none) (hok:OK s.heap) (hz:n <= sizeLine)
  (h:∀ (h':Heap) (tk:Nat) (acc:Array Value),(∀ b u,s.heap.get? b = some u -> h'.get? b = some u) -> s.heap.objs.size <= h'.objs.size -> ItemsOf P acc n -> Q (.ref h'.objs.size) { s with heap:=h'.push { cls:=.type "tuple", data:=.seq acc },toks:=tk }) :
  wpAny (model prog w) A (call (.type "tuple") [.ref d]) Q E s:=by
 refine callType_codes (Q₁:=fun obj s₁=>s₁.TypeIs obj "tuple" /\ Q obj s₁) F.called_tuple (F.typeCall_tuple_1 _) F.entry_object_init (zF4 K hh hok hz fun h' tk acc h1 h2 h3=>⟨⟨_,zTU _ rfl,rfl⟩,h h' tk acc h1 h2 h3⟩) fun obj s₁ h₁=>?_;exact ⟨h₁.1,F.args_object_init_2 obj _,object_init_meets F.called_tuple.init.lookup F.called_tuple.made (by decide) prog w A.in1 _ s₁ ⟨h₁.1,rfl,h₁.2⟩⟩
end
section
variable {X:Cx} {e:Expr} {pos p:Pos}
theorem zQo (h:zFR k v = true):zt (kV k) v:=by
 rcases zAJ h with ⟨i,t,rfl,rfl⟩ | ⟨x,t,rfl,rfl⟩
 ·exact ⟨t,rfl⟩
 ·exact ⟨t,rfl⟩
theorem zLD (hc:X.calm = true):zBZ X (.type "tuple") (fun xs H Q=>∃ d kvs,xs = [.ref d] /\ H d = some (.dK kvs) /\ ∀ l,H l = none -> Q (.ref l) (upd H l (.tup (kvs.map fun q=>kV q.1)))):=by
 intro zB s σ H xs us Q I r h;obtain ⟨d,kvs,rfl,ed,q⟩:=h;obtain ⟨u,rfl,rx⟩:=zDx r;cases rx;obtain ⟨z1,z2,vs,rv,o,es,ep,h1,h2,h3,h4,h5,h6⟩:=(show zAE X.prog X.w H s.heap d (.dK kvs) from I.hok d _ ed);have hvl:vs.map (·.1) = kvs.map (·.1):=zNM rv;have hsz:es.size = kvs.length:=by
  rw [<- zT8,Pairs.length h5];have:=zVC List.length hvl;simpa using this
 refine zGQ (zMs z2 h2.1 h3) (I.ok.hd hc) h1 (by rw [hsz]; exact z1) fun h' tk acc hk hle hacc=>?_;have hal:acc.toList.length = kvs.length:=by rw [zT8,hacc.1,hsz]
 have hv:zg (kvs.map fun q=>kV q.1) acc.toList:=zKy (by rw [zTT,hal]) fun i y u e1 e2=>by
  rw [Array.getElem?_toList] at e2;obtain ⟨e',he',rfl⟩:=hacc.2 i u e2;obtain ⟨kv,e3,e4⟩:=zG3 h5 i e' (by rw [Array.getElem?_toList]; exact he');have e5:(kvs.map (·.1))[i]? = some kv.1:=by rw [<- hvl,zTh,e3]; rfl
  rw [zTh] at e1 e5;cases hn:kvs[i]? with
  | none=>rw [hn] at e1; cases e1
  | some m=>
   rw [hn] at e1 e5;cases e1;have e6:m.1 = kv.1:=zUP e5;show zt (kV m.1) _;rw [e6];exact zQo e4
 have I1:Inv X zB σ H { s with heap:=h',toks:=tk }:=I.kept hk;exact ⟨.ref h'.objs.size,_,I1.laid (t':=tk) (fun b o z=>zTL _ z) (zTQ _) (show zAE X.prog X.w _ _ _ (.tup (kvs.map fun q=>kV q.1)) from ⟨by rw [zTT]; exact z1,acc.toList,hv,by simpa using zB3.new h' acc⟩),rfl,q _ (I1.hok.fresh (zTQ _))⟩
def zGv:KB:=fun xs M=>match xs with
 | [.dat (.ref n)]=>match M[n]? with
  | some (.dict ps)=>some (.dat (.tup (ps.map (·.1))),M)
  | _=>none
 | _=>none
theorem zOM (h:zBe d = some k):Rep L H d (kV k):=by
 cases d with
 | int i=>cases h; unfold Rep; rfl
 | str x=>cases h; unfold Rep; rfl
 | _=>cases h
theorem zGK:∀ {ps:List (D × D)} {kvs:List (Key × V)},zAh zBe L H ps kvs -> zL L H (ps.map (·.1)) (kvs.map fun q=>kV q.1)
 | [],_,h=>by unfold zAh at h; subst h; exact .nil
 | p :: ps,_,h=>by
  obtain ⟨kk,v,r',rfl,e,h1,h2⟩:=h;exact .cons (zOM e) (zGK h2)
theorem zM4:zEz X.K (fun xs H Q=>∃ d kvs,xs = [.ref d] /\ H d = some (.dK kvs) /\ ∀ l,H l = none -> Q (.ref l) (upd H l (.tup (kvs.map fun q=>kV q.1)))) zGv:=by
 intro L M M' H H0 xs d vs Q cc r hk q;unfold zGv at hk;split at hk
 ·rename_i n;split at hk
  ·rename_i ps e1;cases hk;obtain ⟨v,rfl,r1⟩:=r.one;unfold zd Rep at r1;obtain ⟨a,rfl,e2⟩:=r1;obtain ⟨kvs,e3,r2⟩:=cc.obj n a _ e2 e1;exact ⟨a,kvs,rfl,e3,fun l hl=>q L _ _ (.upd hl) (cc.upd hl) (Rep.newTup hl (zGK r2))⟩
  ·cases hk
 ·cases hk
theorem zRJ (hc:X.calm = true) (hg:Gl X "tuple") (hm:X.mg "tuple" = none) (ha:QAE X [e] fa) (he:starEach [e] X.env = (false,eval e X.env) :: starEach [] X.env:=by rfl) (hpl:(backTo pos (starEach [] X.env)).any (·.1) = false:=by rfl):QE X (.Call (.Name "tuple" p) [e] [] pos) (fB zGv fa) :=
 zEr zM4 (zLD hc) (by rfl) hg hm ha (by decide) (by decide) he hpl
end
open PySem.Builtin.Str (occurrences subAt)
def ixL (c:Nat):List Nat -> Option Nat
 | []=>none
 | a :: r=>if a = c then some 0 else match ixL c r with
  | some i=>some (i + 1)
  | none=>none
theorem zRa (x:Str) (c i:Nat):(i + (⟨#[c]⟩:Str).length <= x.length /\ subAt x ⟨#[c]⟩ i = true) ↔ x.cps.toList[i]? = some c:=by
 have hl:(⟨#[c]⟩:Str).length = 1:=rfl;have hx:x.cps.toList.length = x.length:=by simp [Str.length]
 have e:((x.cps.toList.drop i).take 1 = [c]) ↔ x.cps.toList[i]? = some c:=by
  have:=List.getElem?_drop (xs:=x.cps.toList) (i:=i) (j:=0);rw [Nat.add_zero] at this;rw [<- this];cases x.cps.toList.drop i with
  | nil=>simp
  | cons a r=>simp
 rw [hl,StrLaws.subAt_eq,hl,zVL,e];refine ⟨fun h=>h.2,fun h=>⟨?_,h⟩⟩;have:=(zTN.mp h).1;omega
theorem zJK (x y:Str) (n:Nat):∀ (l:List Nat) (st:Array Nat × Nat),st.1.size = 1 -> (forIn l st (StrLaws.occBody x y n 1)).run.fst = st.1
 | [],st,_=>rfl
 | a :: r,st,h=>by
  rw [zV0];unfold StrLaws.occBody;rw [zTc (fun z=>by have:=z.1.1.1; omega)];exact zJK x y n r (st.1,st.2) h
theorem zGx (x:Str) (c:Nat):∀ (k a f:Nat) (l:List Nat),f <= a -> x.cps.toList.drop a = l -> k = l.length + 1 -> (forIn (List.range' a k) ((#[],f):Array Nat × Nat) (StrLaws.occBody x ⟨#[c]⟩ x.length 1)).run.fst.toList = match ixL c l with
  | some i=>[i + a]
  | none=>[]
 | k,a,f,[],hf,hd,hk=>by
  subst hk;have e:x.cps.toList[a]? = none:=by
   have:=List.getElem?_drop (xs:=x.cps.toList) (i:=a) (j:=0);rw [hd] at this;simpa using this.symm
  rw [List.range'_succ,zV0];unfold StrLaws.occBody;rw [zTc (fun z=>by have:=(zRa x c a).mp ⟨z.1.2,z.2⟩; rw [e] at this; cases this)];rfl
 | k,a,f,b :: r,hf,hd,hk=>by
  subst hk;have e:x.cps.toList[a]? = some b:=by
   have:=List.getElem?_drop (xs:=x.cps.toList) (i:=a) (j:=0);rw [hd] at this;simpa using this.symm
  have hd2:x.cps.toList.drop (a + 1) = r:=by
   rw [<- List.tail_drop,hd]; rfl
  rw [List.range'_succ,zV0];unfold ixL;by_cases h:b = c
  ·subst h;rw [zTZ rfl];have q:=(zRa x b a).mpr e;unfold StrLaws.occBody;rw [zTZ ⟨⟨⟨by simp,hf⟩,q.1⟩,q.2⟩];have:=zJK x ⟨#[b]⟩ x.length (List.range' (a + 1) (r.length + 1)) (#[a],a + (⟨#[b]⟩:Str).length) rfl;refine (zVC Array.toList this).trans ?_;simp
  ·rw [zTc h];have nq:¬ (x.cps.toList[a]? = some c):=fun z=>by rw [e] at z; cases z; exact h rfl
   have:=zGx x c (r.length + 1) (a + 1) f r (by omega) hd2 rfl;unfold StrLaws.occBody;rw [zTc (fun z=>nq ((zRa x c a).mp ⟨z.1.2,z.2⟩))];refine Eq.trans this ?_;cases ixL c r with
   | none=>rfl
   | some i=>simp; omega
theorem zTI (x:Str) (c:Nat):occurrences x ⟨#[c]⟩ 0 x.length 1 = match ixL c x.cps.toList with
  | some i=>[i]
  | none=>[]:=by
 rw [StrLaws.occ_eq,Nat.sub_zero];have hx:x.cps.toList.length = x.length:=by simp [Str.length]
 exact zGx x c (x.length + 1) 0 0 x.cps.toList (zTQ _) (by simp) (by rw [hx])
theorem zOE {b:Str} (h:b.cps.toList = [c]):b = ⟨#[c]⟩:=by
 obtain ⟨⟨l⟩⟩:=b;simp at h;subst h; rfl
end L3
namespace L2
open PySem PySem.Spec PyProof.Rows
def Fly (h:Heap) (P:Addr -> Prop) (e:Addr) (cls:Value) (od:Option Addr):Prop :=
 ∃ oe vs,h.get? e = some oe /\ oe.cls = cls /\ oe.dict = od /\ oe.data = .fields vs /\ 1 < vs.size /\ P e /\
  (vs[1]? = some .none \/ ∃ T oT ts,vs[1]? = some (.ref T) /\ T ≠ e /\ P T /\ h.get? T = some oT /\ oT.data = .fields ts /\ ts[3]? = some .none)
theorem Fly.imp (f:Fly h P e cls od) (i:∀ b,P b -> P' b):Fly h P' e cls od:=by
 obtain ⟨oe,vs,h1,h2,h3,h4,h5,h6,h7⟩:=f;refine ⟨oe,vs,h1,h2,h3,h4,h5,i _ h6,h7.imp_right ?_⟩;rintro ⟨T,oT,ts,a1,a2,a3,a4⟩;exact ⟨T,oT,ts,a1,a2,i _ a3,a4⟩
structure Near (P:Addr -> Prop) (fs:List Addr) (h h':Heap):Prop where
 keep:∀ b o,h.get? b = some o -> ¬ P b -> b ∉ fs -> h'.get? b = some o
 slot:∀ b o,h.get? b = some o -> ¬ P b -> ∃ sl,h'.get? b = some { o with slots:=sl }
 there:∀ b o,h.get? b = some o -> ∃ o',h'.get? b = some o'
theorem Near.trans (a:Near P fs h h1) (b:Near P fs h1 h2):Near P fs h h2 where
 keep:=fun c o e n f=>b.keep c o (a.keep c o e n f) n f;slot:=fun c o e n=>by
  obtain ⟨sl,e1⟩:=a.slot c o e n;obtain ⟨sl2,e2⟩:=b.slot c _ e1 n;exact ⟨sl2,e2⟩
 there:=fun c o e=>by
  obtain ⟨o1,e1⟩:=a.there c o e;exact b.there c o1 e1
theorem nfr {o:Obj} (h:o.data = .fields vs) (f:Array Value -> Array Value):(o.mapFields f).isFreed = false:=by
 obtain ⟨c,d,dt,sl⟩:=o;cases h; rfl
theorem zMm {o:Obj} (f:Array Value -> Array Value):(o.mapFields f).dict = o.dict:=by
 obtain ⟨c,d,dt,sl⟩:=o;cases dt <;> rfl
theorem Near.upd {h:Heap} {o:Obj} (e:h.get? a = some o) (hd:o.data = .fields vs) (hp:P a) (f:Array Value -> Array Value):Near P fs h (h.update a (Obj.mapFields f)) where
 keep:=fun b u q n _=>by rw [Heap.get?_update_ne _ _ _ _ (fun z=>n (by rw [z]; exact hp))]; exact q
 slot:=fun b u q n=>⟨u.slots,by rw [Heap.get?_update_ne _ _ _ _ (fun z=>n (by rw [z]; exact hp))]; exact q⟩;there:=fun b u q=>by
  by_cases z:b = a
  ·subst z; exact ⟨_,zUC _ e (nfr hd f)⟩
  ·exact ⟨u,by rw [Heap.get?_update_ne _ _ _ _ z]; exact q⟩
theorem zJH {A:Around} {s:Shared} {env:Env}
  (hA:A.frames = some (env :: outer)) (hF:s.heap.FunFrames base (env :: outer)) (hL:env.frame = some L)
  {oe:Obj} {vs:Array Value} (h1:s.heap.get? e = some oe) (h2:oe.cls = cls) (h3:oe.dict = od) (h4:oe.data = .fields vs) (h5:1 < vs.size) (h6:P e)
  (hP:∀ b,s.heap.objs.size <= b -> P b) (hfr:∀ b ∈ frs (env :: outer),¬ P b)
  (h:∀ h',Near P (frs (env :: outer)) s.heap h' -> Fly h' P e cls od -> Q () { s with heap:=h' }) :
  wpAny M A (do
   let a <- PySem.frameOf env;let pl <- entryPlaceOf L hn;let b <- EntryCells.newEntry head a Value.none (rawInt ↑L) Value.none pl;setField (.ref e) 1 b) (fun _ s2=>wpAny M A (setFlight (.ref e) none) Q E s2) E s:=by
 refine zTK (wpAny_frameOf_fun hA hF hL fun h' so=>?_);refine zTK (wpAny_entryPlaceOf fun pl ip=>?_);refine zTK ?_;unfold EntryCells.newEntry newFields;have hsz:h'.objs.size = s.heap.objs.size:=so.1;have ne:e ∉ frs (env :: outer):=fun z=>hfr e z h6;have e1:h'.get? e = some oe:=(so.2.1 e ne).trans h1;refine zTn ?_ (by
  show sizeOk _;rcases ip with rfl | ⟨_,_,_,_,_,_,_,rfl⟩ <;> exact (by decide:(11:Nat) <= sizeLine + 2))
 generalize hts:(List.toArray ([head,Value.ref L,Value.none,rawInt ↑L,Value.none] ++ if pl.isEmpty = true then List.replicate 6 Value.none else pl)) = ts;have ht3:3 < ts.size:=by rw [<- hts]; simp
 have hTe:h'.objs.size ≠ e:=fun z=>by
  have y:=zTV e1;rw [z] at y;exact zT7 _ y
 have e2:=zTL (o:=({ cls:=Value.type "traceback", data:=.fields ts }:Obj)) e1;refine wpAny_setField e2 h4 h5 ?_;have e3:=zUC (Obj.mapFields fun x=>x.setIfInBounds 1 (Value.ref h'.objs.size)) e2 (nfr h4 _);have eT:(h'.push { cls:=Value.type "traceback", data:=.fields ts }).get? h'.objs.size = some { cls:=Value.type "traceback", data:=.fields ts }:=zTU _ rfl;have eT2:((h'.push { cls:=Value.type "traceback", data:=.fields ts }).update e (Obj.mapFields fun x=>x.setIfInBounds 1 (Value.ref h'.objs.size))).get? h'.objs.size = some { cls:=Value.type "traceback", data:=.fields ts }:=by
  rw [Heap.get?_update_ne _ _ _ _ hTe]; exact eT
 refine wpAny_setFlight_none e3 (Obj.data_mapFields h4 _) (by simp [h5]) eT2 rfl ht3 ?_;have n1:Near P (frs (env :: outer)) s.heap h':=⟨fun b o q _ f=>(so.2.1 b f).trans q,fun b o q _=>so.2.2 b o q,fun b o q=>let ⟨sl,z⟩:=so.2.2 b o q; ⟨_,z⟩⟩;have n2:Near P (frs (env :: outer)) h' (h'.push { cls:=Value.type "traceback", data:=.fields ts }):=⟨fun b o q _ _=>zTL _ q,fun b o q _=>⟨o.slots,zTL _ q⟩,fun b o q=>⟨o,zTL _ q⟩⟩;have pT:P h'.objs.size:=hP _ (by omega);refine h _ (n1.trans (n2.trans ((Near.upd e2 h4 h6 _).trans (Near.upd eT2 rfl pT _)))) ?_;refine ⟨_,_,(Heap.get?_update_ne _ _ _ _ (Ne.symm hTe)).trans e3,(Obj.cls_mapFields _ _).trans h2,(zMm _).trans h3,Obj.data_mapFields h4 _,by simp [h5],h6,.inr ⟨h'.objs.size,_,_,by simp [h5],hTe,pT,zUC _ eT2 (nfr rfl _),rfl,by simp [ht3]⟩⟩
theorem zO5
  (hA:A.frames = some (env :: outer)) (hF:s.heap.FunFrames base (env :: outer)) (hL:env.frame = some L) (fl:Fly s.heap P e cls od)
  (hP:∀ b,s.heap.objs.size <= b -> P b) (hfr:∀ b ∈ frs (env :: outer),¬ P b)
  (h:∀ h',Near P (frs (env :: outer)) s.heap h' -> Fly h' P e cls od -> Q () { s with heap:=h' }) :
  wpAny M A (noteFrame (.ref e) env) (fun _ s2=>wpAny M A (setFlight (.ref e) none) Q E s2) E s:=by
 obtain ⟨oe,vs,h1,h2,h3,h4,h5,h6,h7⟩:=fl;unfold noteFrame;rw [hL];rcases h7 with h7 | ⟨T,oT,ts,h7,h8,h9,h10,h11,h12⟩
 ·refine zTK (zTz h1 h4 h7 ?_);exact zJH hA hF hL h1 h2 h3 h4 h5 h6 hP hfr h
 ·refine zTK (zTz h1 h4 h7 ?_);refine zTK (zTz h10 h11 h12 ?_);have h3s:3 < ts.size:=by
   have:=Array.getElem?_eq_some_iff.mp h12;exact this.1
  refine zTK (wpAny_setField h10 h11 h3s ?_);have e1:(s.heap.update T (Obj.mapFields fun x=>x.setIfInBounds 3 Value.none)).get? e = some oe:=by rw [Heap.get?_update_ne _ _ _ _ (Ne.symm h8)]; exact h1
  have n0:Near P (frs (env :: outer)) s.heap (s.heap.update T (Obj.mapFields fun x=>x.setIfInBounds 3 Value.none)):=Near.upd h10 h11 h9 _;refine zJH (base:=base) hA ?_ hL e1 h2 h3 h4 h5 h6 ?_ hfr fun h' n f=>h h' (n0.trans n) f
  ·exact Heap.FunFrames.of_keeps (fun b o q nf=>⟨o,by rw [Heap.get?_update_ne _ _ _ _ (fun z=>by subst z; rw [h10] at q; cases q; exact nf _ h11)]; exact q,rfl⟩) hF
  ·intro b hb;refine hP b ?_;simpa [Heap.update] using hb
theorem zAE.got (x:zAE P w H h a o):∃ u,h.get? a = some u:=by
 induction o with
 | lst xs=>obtain ⟨z,its,n,r,e⟩:=x; exact ⟨_,e⟩
 | tup xs=>obtain ⟨z,its,r,ob,e,c⟩:=x; exact ⟨_,e⟩
 | dK kvs=>obtain ⟨z,y,vs,r,ob,es,ep,e,c⟩:=x; exact ⟨_,e⟩
 | dT kvs=>obtain ⟨z,y,xs,r,ob,es,ep,e,c⟩:=x; exact ⟨_,e⟩
 | set S n=>obtain ⟨ob,es,ep,t,e,c⟩:=x; exact ⟨_,e⟩
 | ins C dx fs=>obtain ⟨d,z,ne,e,_⟩:=x; exact ⟨_,e⟩
 | own y=>obtain ⟨ob,e⟩:=x; exact ⟨_,e⟩
 | xd fs=>obtain ⟨mA,⟨od,es,ep,e,c⟩,r⟩:=x; exact ⟨_,e⟩
 | rng lo hi=>obtain ⟨t,u,v,e⟩:=x; exact ⟨_,e⟩
 | frz ob u ih=>obtain ⟨e,q⟩:=x; exact ⟨_,e⟩
 | tbl ps=>exact ⟨_,x⟩
 | met f y=>exact ⟨_,x⟩
 | ext φ=>obtain ⟨p,⟨o,e⟩,st⟩:=x; exact ⟨_,e⟩
def New (X:Cx) (H:Hp) (b:Addr):Prop:=X.s₀.heap.get? b = none /\ H b = none /\ b ∉ frs X.stack
section
variable {X:Cx} {zB:List (Addr × Obj)} {σ:St} {H:Hp} {s:Shared}
theorem Inv.newN (I:Inv X zB σ H s) (hx:X.ex = []) (hb:s.heap.get? b = none):New X H b:=by
 refine ⟨?_,?_,fun z=>?_⟩
 ·cases q:X.s₀.heap.get? b with
  | none=>rfl
  | some o=>
   obtain ⟨o',e⟩:=I.base.there b o q (by rw [hx]; simp);rw [hb] at e; cases e
 ·cases q:H b with
  | none=>rfl
  | some o=>
   obtain ⟨o',e⟩:=(I.hok b o q).got;rw [hb] at e; cases e
 ·obtain ⟨_,o,e,_⟩:=I.stack.mem z;rw [hb] at e; cases e
theorem Inv.nearOk (I:Inv X zB σ H s) (n:Near (New X H) (frs X.stack) s.heap h'):HOk X.prog X.w H h':=fun b u e=>by
 refine (I.hok b u e).stay (fun c v hc q=>?_) (fun _ q=>q) fun _ _ q=>q;have z:H c ≠ none:=by
  rcases hc with rfl | hc
  ·rw [e]; simp
  ·rw [hc]; simp
 exact n.keep c v q (fun p=>z p.2.1) fun p=>z (I.stkFree c p)
end
end L2
namespace L3
open PySem PySem.Spec PyProof.Rows L2
abbrev zJL:List Value:=[.type "ValueError", .type "Exception", .type "BaseException", .type "object"]
structure Xq (K:PySem.W.Frag) (N:Addr):Prop where
 n:PySem.W.nsOkIn K N = true
 i:PySem.W.nsIn K N "__init__" = some none
 g:PySem.W.nsIn K N "__getattribute__" = some none
 h:PySem.W.nsIn K N "__getattr__" = some none
 a:PySem.W.nsIn K N "args" = some none
theorem Xq.quiet {K:PySem.W.Frag} {h:Heap} (q:Xq K N) (hK:K.In h):∀ n ∈ quietNames,h.nsMap N n = none:=by
 intro n hn;simp only [quietNames,zTW,zTp,or_false] at hn;rcases hn with rfl | rfl | rfl | rfl
 ·exact PySem.W.nsMap_none_of_in hK q.n q.i
 ·exact PySem.W.nsMap_none_of_in hK q.n q.g
 ·exact PySem.W.nsMap_none_of_in hK q.n q.h
 ·exact PySem.W.nsMap_none_of_in hK q.n q.a
section
variable {K:PySem.W.Frag} {C CH:Addr} {h:Heap}
variable {prog:Program} {w:World} {A:Around} {E:Value -> Shared -> Prop} {s:Shared} {e:Addr}
theorem zLA (hK:K.In s.heap) (he:s.heap.get? e = some oe) (hc:oe.cls = .ref C) (k1:PySem.W.kitCls K (.ref C) (.ref CH) = some true) (k2:PySem.W.kitCls K (.ref CH) (.type "BaseException") = some true) (q:Q true s):wpAny M A (excMatches (.ref e) (.ref CH)) Q E s:=by
 obtain ⟨t1,t2,t3⟩:=PySem.W.kit_cls (M:=M) hK k1;obtain ⟨_,_,u3⟩:=PySem.W.kit_cls (M:=M) hK k2;unfold excMatches;refine zTK (zTK (t1 A _ _ s (fun _ _ z=>z) (wpAny_of_eq tc_notTuple ?_)));refine wpAny_ite_false rfl ?_;refine zTK (zTM ?_);refine zTK ?_;rw [zV0];refine zTK (zTK ?_);unfold isExcClass;refine zTK (t2 A _ _ s (fun _ _ z=>z) (wpAny_ite_true rfl (u3 A _ _ s (fun _ _ z=>z) ?_)));refine wpAny_ite_false rfl (zTM ?_);show wpAny _ _ (pure PUnit.unit) _ _ _;refine zTM ?_;refine zTK (wpAny_typeOf_ref he ?_);rw [hc];refine zTK ?_;rw [zV0];refine zTK (zTK (t3 A _ _ s (fun _ _ z=>z) (wpAny_ite_true rfl (zTM (zTM ?_)))));exact zTM q
end
end L3
namespace L2
open PySem PySem.Spec PyProof.Rows
section
variable {X:Cx} {zB:List (Addr × Obj)} {σ:St} {H H' H1:Hp} {s s1 s':Shared} {a:Addr} {oe:Obj} {C:Value}
theorem zLY (fl:Fly s.heap P a C od)
  (h:∀ h',Near P fs s.heap h' -> Fly h' P a C od -> Q () { s with heap:=h' }):wpAny M A (setFlight (.ref a) none) Q E s:=by
 have f0:=fl;obtain ⟨oe,vs,h1,h2,h3,h4,h5,h6,h7⟩:=fl;rcases h7 with h7 | ⟨T,oT,ts,h7,h8,h9,h10,h11,h12⟩
 ·unfold setFlight;refine zTK (zTz h1 h4 h7 ?_);refine wpAny_ite_false rfl (zTM ?_);exact h s.heap ⟨fun _ _ q _ _=>q,fun _ o q _=>⟨o.slots,q⟩,fun _ o q=>⟨o,q⟩⟩ f0
 ·have h3s:3 < ts.size:=(Array.getElem?_eq_some_iff.mp h12).1;refine wpAny_setFlight_none h1 h4 h7 h10 h11 h3s ?_;refine h _ (Near.upd h10 h11 h9 _) ?_;exact ⟨oe,vs,(Heap.get?_update_ne _ _ _ _ (Ne.symm h8)).trans h1,h2,h3,h4,h5,h6,.inr ⟨T,_,_,h7,h8,h9,zUC _ h10 (nfr h11 _),Obj.data_mapFields h11 _,by simp [h3s]⟩⟩
theorem zLQ (I:Inv X zB σ H s) (hN:X.N.Nodup) (hj:X.N[j]? = some x) (hk:X.env.scope.names.lookup x = some .local) (hv:σ[j]? = some (some v))
  (h:∀ s',Inv X zB (σ.set j none) H s' -> Q () s'):wpAny M A (unbindName X.env x) Q E s:=by
 obtain ⟨m,hn,hl⟩:=id I.loc;have hcls:(X.env.scope.kind == .class || (X.env.scope.kind == .module && X.env.locals != X.env.globals)) = false:=by rw [I.ok.kind]; rfl
 obtain ⟨u,r,l⟩:=hl j x v hj hv (.inl hk);have hm:m x = some u:=by
  rcases l with l | ⟨k,_⟩
  ·exact l.2
  ·rcases k with k | k
   ·rw [show X.env.kindOf x = some .local from hk] at k; cases k
   ·rw [show X.env.kindOf x = some .local from hk] at k; cases k
 refine wpAny_unbindName_local hk hn hm hcls fun h' u' hn' hs=>?_;obtain ⟨oL,_,_,hoL,_⟩:=id hn;have hjσ:j < σ.length:=(zTN.mp hv).1;have cne:=I.cne;refine h _ ⟨I.ok,I.os,I.bare,⟨fun b o e n hb hx=>?_,fun b o e n hb hx=>?_,I.base.free,fun b o e hx=>?_,I.base.tups,I.base.frzs,I.base.tbls⟩,⟨_,hn',fun i y v' e1 e2 e3=>?_⟩,fun y c e=>?_,I.free,I.freeC,fun p hp=>?_,fun b ob e=>?_,by simpa using I.len⟩
 ·exact (hs.2 b (zTf (zTj (zTV e) I.ok.above))).trans (I.base.keep b o e n hb hx)
 ·obtain ⟨sl,e1⟩:=I.base.slot b o e n hb hx;exact ⟨sl,(hs.2 b (zTf (zTj (zTV e) I.ok.above))).trans e1⟩
 ·obtain ⟨o',e1⟩:=I.base.there b o e hx;exact ⟨o',(hs.2 b (zTf (zTj (zTV e) I.ok.above))).trans e1⟩
 ·by_cases hij:i = j
  ·subst hij;rw [zUJ hjσ] at e2;cases e2
  ·rw [zTo (Ne.symm hij)] at e2;obtain ⟨w,r',q⟩:=hl i y v' e1 e2 e3;refine ⟨w,r',?_⟩;rcases q with ⟨k,e⟩ | ⟨k,c,e,z⟩
   ·refine .inl ⟨k,?_⟩;have:y ≠ x:=fun e=>hij (zF9 hN e1 (e ▸ hj));simp [this,e]
   ·exact .inr ⟨k,c,e,z.sameBut hs (cne y c e)⟩
 ·obtain ⟨w',z⟩:=I.cell y c e;exact ⟨w',z.sameBut hs (cne y c e)⟩
 ·obtain ⟨e,n,ne,nf,d⟩:=I.pin p hp;exact ⟨(hs.2 p.1 ne).trans e,n,ne,nf,d⟩
 ·refine (I.hok b ob e).stay (fun c w' hc q=>(hs.2 c ?_).trans q) (fun _ q=>q) fun _ _ q=>q;rintro rfl;rcases hc with rfl | hc
  ·rw [I.free] at e; cases e
  ·rw [I.free] at hc; cases hc
end
end L2
namespace L3
open PySem PySem.Spec PyProof.Rows L2
def zSB (K:PySem.W.Frag) (C a:Addr):List V -> Hp -> VK -> Prop:=fun xs H Q=>∃ y b,xs = [.ref a,y] /\
 ((∃ T,y = .ty T /\ PySem.W.kitOne K (.ref C) (.type T) = some b) \/ (∃ D,y = .ref D /\ PySem.W.kitOne K (.ref C) (.ref D) = some b) \/
  (∃ p D1 D2,y = .ref p /\ H p = some (.tup [.ref D1,.ref D2]) /\ PySem.W.kitAny K (.ref C) [.ref D1,.ref D2] = some b)) /\ Q (.bl b) H
structure Xi (K:PySem.W.Frag) (C CH:Addr) where
 {N:Addr} {nm q:Str} {bs sub:List Value} {ab:Bool} {sn:List Str} {col:Option Bool} {dd:Option Addr} {k0 k1 k2 k3 k5:Option Value}
 {c0:Value} {dh:Option Addr} {cd:ClassData} {sl:Array (Option Value)}
 l:K.lookup C = some (excClassObj nm q C N bs (.ref CH :: zJL) true sn sub ab col dd k0 k1 k2 k3 k5 "ValueError.__new__")
 lh:K.lookup CH = some ⟨c0,dh,.cls cd,sl⟩
 sa:PySem.W.findIn K (.ref C) "__setattr__" = some (some (.builtin "object.__setattr__"))
 ga:PySem.W.findIn K (.ref C) "__getattribute__" = some (some (.builtin "BaseException.__getattribute__"))
 gt:PySem.W.findIn K (.ref C) "__getattr__" = some none
 mo:PySem.W.mroIn K C (.type "object") = some true
 ks:PySem.W.kitCls K (.ref C) (.ref C) = some true
 qh:Xq K cd.ns
section
variable {K:PySem.W.Frag} {C CH:Addr} {h:Heap} {prog:Program} {w:World} {A:Around} {E:Value -> Shared -> Prop} {s:Shared} {x:Addr}
theorem zRM (c:Xi K C CH) (hK:K.In s.heap) (hx:s.heap.get? x = some o) (hc:o.cls = .ref C) (q:Q () s) :
  wpAny M A (checkBuiltinCall "object.__setattr__" ⟨[.ref x,nameV,v],[]⟩) Q E s:=by
 have SF:=F.store_ValueError;unfold checkBuiltinCall;rw [SF.kind,SF.split];refine zTK ?_;unfold isInstance;refine zTK (wpAny_typeOf_ref hx ?_);rw [hc];obtain ⟨hp,gn,dr,tks,os⟩:=s;refine wpAny_isSubtype_exc (hK _ _ c.l) ?_;refine wpAny_ite_false rfl ?_;exact wpAny_of_eq (SF.args (.ref x) nameV v) q
theorem zLI (c:Xi K C CH) (hK:K.In s.heap) (ht:PySem.W.findIn K (.ref C) name = some none) (hxC:x ≠ C) (I:s.heap.Inst x C mA) (hfd:∀ o,s.heap.get? x = some o -> ∃ vs,o.data = .fields vs) (hw:PySem.Within mA ns) (hsz:ns.length <= 100)
  (hq:∀ (h':Heap) (tk':Nat),(h'.Inst x C fun y=>if y = name then some v else mA y) -> (∀ (b:Addr) (o:Obj),b ≠ x -> (∀ (o₀:Obj) (dx:Addr),s.heap.get? x = some o₀ -> o₀.dict = some dx -> b ≠ dx) -> s.heap.get? b = some o -> h'.get? b = some o) ->
   (∀ o₀:Obj,s.heap.get? x = some o₀ -> ∃ o₁,h'.get? x = some o₁ /\ o₁.cls = o₀.cls /\ o₁.data = o₀.data /\ ∃ dx,o₁.dict = some dx /\ (o₀.dict = some dx \/ s.heap.get? dx = none)) ->
   Q (Fin.done (Flow.ret Value.none)) { s with heap:=h',toks:=tk' }) :
  wpAny (model prog w) A (Builtin.«object.__setattr__» ⟨[.ref x,.str name tk,v],[]⟩) Q E s:=by
 have SF:=F.store_ValueError;obtain ⟨o,hx,hc,hnc,hd⟩:=I;obtain ⟨hp,gn,dr,tks,os⟩:=s;have hC:hp.get? C = _:=hK _ _ c.l;unfold Builtin.«object.__setattr__»;refine wpAny_ite_false rfl (zTK ?_);rw [refuse_eq];refine zTK (wpAny_typeOf_ref hx ?_);rw [hc];refine zTK (wpAny_mroOf_exc hC ?_);rw [refuseLoop_ref,refuseLoop_ref,SF.passes];refine zTM ?_;refine zTK (zTM ?_);refine zTK (wpAny_typeOf_ref hx ?_);rw [hc];refine zTK (PySem.W.looks_findIn hK ht A _ _ _ (fun _ _ z=>z) ?_);refine zTK (zTM ?_);unfold Builtin.ObjectAttr.storeInOwnDict;refine zTK (zTM ?_);refine wpAny_ite_false rfl ?_;refine zTK ?_;unfold Builtin.ObjectAttr.ownDictForStores instanceDict;refine zTK (wpAny_loadPart_at hx ?_);rw [hc];refine zTK ?_;unfold classData;refine zTK (wpAny_load' hC ?_);refine zTM ?_;refine wpAny_ite_false rfl ?_;obtain ⟨vs,hvs⟩:=hfd _ hx;obtain ⟨oc,od,oda,osl⟩:=o;simp only at hc hvs hd hx;subst hc hvs
 have fin:∀ (d:Addr) (h1:Heap) (m1:Str -> Option Value),h1.Ns1 d m1 -> PySem.Within m1 ns -> d ≠ x -> (∀ (h':Heap) (tk':Nat),(h'.Ns1 d fun y=>if y = name then some v else m1 y) -> Heap.SameBut d h1 h' -> Q (Fin.done (Flow.ret Value.none)) ⟨h',gn,dr,tk',os⟩) ->
   wpAny (model prog w) A (Builtin.ObjectAttr.storeInDict d (.str name tk) name v) Q E ⟨h1,gn,dr,tks,os⟩:=fun d h1 m1 n1 w1 hdx k=>by
  unfold Builtin.ObjectAttr.storeInDict;refine zTK (zTM ?_);refine zTK (wpAny_nsSet1 n1 fun h' n2 sb=>?_);obtain ⟨oD,es,ep,e1,e2,e3⟩:=n2.count (Within.cons name v w1);refine zTK (wpAny_lookBehind e1 ?_ (zTM (k h' _ n2 sb)));rw [e2];exact pastItsLine_dict (by simp only [List.length_cons] at e3; have:sizeLine = 16777216:=sizeLine_eq; omega)
 rcases hd with ⟨rfl,hm⟩ | ⟨d,rfl,hdx,hns⟩
 ·refine wpAny_ite_false rfl ?_;refine zTK (wpAny_alloc ?_);have e1:(hp.push { cls:=Value.type "dict", data:=Data.dict #[] }).get? x = some ⟨.ref C,none,.fields vs,osl⟩:=zTL _ hx;have e2:(hp.push { cls:=Value.type "dict", data:=Data.dict #[] }).get? hp.objs.size = some { cls:=Value.type "dict", data:=Data.dict #[] }:=zTU _ rfl;refine zTK (wpAny_update e1 ?_);have ne:hp.objs.size ≠ x:=fun z=>by
   have y:=zTV hx;rw [z] at y;exact zT7 _ y
  refine zTM ?_;have e3:=zUC (fun o:Obj=>{ cls:=o.cls,dict:=some hp.objs.size,data:=o.data,slots:=o.slots }) e1 rfl;have e4:((hp.push { cls:=Value.type "dict", data:=Data.dict #[] }).update x fun o=>{ cls:=o.cls,dict:=some hp.objs.size,data:=o.data,slots:=o.slots }).get? hp.objs.size = some { cls:=Value.type "dict", data:=Data.dict #[] }:=by
   rw [Heap.get?_update_ne _ _ _ _ ne]; exact e2
  have n0:((hp.push { cls:=Value.type "dict", data:=Data.dict #[] }).update x fun o=>{ cls:=o.cls,dict:=some hp.objs.size,data:=o.data,slots:=o.slots }).Ns1 hp.objs.size fun _=>none:=Heap.Ns1.of_empty ⟨_,#[],_,e4,rfl,(fun e he=>absurd he (by simp)),fun _=>rfl⟩;have hmA:mA = fun _=>none:=funext hm;refine fin _ _ _ n0 (fun y hy=>absurd rfl hy) ne fun h' tk' n2 sb=>hq h' tk' ?_ ?_ ?_
  ·exact ⟨_,(sb.2 x (Ne.symm ne)).trans e3,rfl,(fun c z=>by cases z),.inr ⟨_,rfl,ne,by rw [hmA]; exact n2⟩⟩
  ·intro b ob hb _ q;have hb2:b ≠ hp.objs.size:=fun z=>by
    have y:=zTV q;rw [z] at y;exact zT7 _ y
   rw [sb.2 b hb2,Heap.get?_update_ne _ _ _ _ hb];exact zTL _ q
  ·intro o0 q;rw [hx] at q; cases q;exact ⟨_,(sb.2 x (Ne.symm ne)).trans e3,rfl,rfl,_,rfl,.inr (Heap.get?_none_of_le (zTQ _))⟩
 ·refine zTM ?_;refine fin d hp mA hns hw hdx fun h' tk' n2 sb=>hq h' tk' ?_ ?_ ?_
  ·exact ⟨_,(sb.2 x (Ne.symm hdx)).trans hx,rfl,(fun c z=>by cases z),.inr ⟨d,rfl,hdx,n2⟩⟩
  ·intro b ob hb hbd q;rw [sb.2 b (hbd _ d hx rfl)]; exact q
  ·intro o0 q;rw [hx] at q; cases q;exact ⟨_,(sb.2 x (Ne.symm hdx)).trans hx,rfl,rfl,d,rfl,.inl rfl⟩
end
section
variable {K:PySem.W.Frag} {C CH:Addr} {prog:Program} {w:World} {A:Around} {E:Value -> Shared -> Prop} {s:Shared} {x:Addr}
theorem zKW (c:Xi K C CH) (hK:K.In s.heap) (ht:PySem.W.findIn K (.ref C) name = some none) (hxC:x ≠ C) (I:s.heap.Inst x C mA) (hfd:∀ o,s.heap.get? x = some o -> ∃ vs,o.data = .fields vs) (hw:PySem.Within mA ns) (hsz:ns.length <= 100)
  (hq:∀ (h':Heap) (tk':Nat),(h'.Inst x C fun y=>if y = name then some v else mA y) -> (∀ (b:Addr) (o:Obj),b ≠ x -> (∀ (o₀:Obj) (dx:Addr),s.heap.get? x = some o₀ -> o₀.dict = some dx -> b ≠ dx) -> s.heap.get? b = some o -> h'.get? b = some o) ->
   (∀ o₀:Obj,s.heap.get? x = some o₀ -> ∃ o₁,h'.get? x = some o₁ /\ o₁.cls = o₀.cls /\ o₁.data = o₀.data /\ ∃ dx,o₁.dict = some dx /\ (o₀.dict = some dx \/ s.heap.get? dx = none)) ->
   Q () { s with heap:=h',toks:=tk' }) :
  wpAny (model prog w) A (setAttr (.ref x) name v) Q E s:=by
 have SF:=F.store_ValueError;obtain ⟨o,hx,hc,hnc,hd⟩:=id I;obtain ⟨vs,hvs⟩:=hfd _ hx;have key:∀ od,PySem.W.InstAt s.heap x o C od -> wpAny (model prog w) A (setAttr (.ref x) name v) Q E s:=fun od i=>by
  refine PySem.W.set_plain hK i c.sa (codeAny_call_builtin SF.slot.plain SF.entry (zRM (s:={ s with toks:=s.toks + 1 }) c hK hx hc ?_));exact zLI (s:={ s with toks:=s.toks + 1 }) c hK ht hxC I hfd hw hsz fun h' tk' a b d=>hq h' tk' a b d
 have hn:PySem.W.notCls o = true:=by unfold PySem.W.notCls; rw [hvs]
 rcases hd with ⟨hd,_⟩ | ⟨d,hd,_,hns⟩
 ·exact key none ⟨hx,hc,hn,by rw [hd]; trivial⟩
 ·obtain ⟨od,_,_,e,_⟩:=hns;exact key (some od) ⟨hx,hc,hn,by rw [hd]; exact e⟩
end
section
variable {K:PySem.W.Frag} {C CH:Addr} {P:Program} {w:World} {A:Around} {E:Value -> Shared -> Prop} {s:Shared} {e f:Addr} {fd:FuncData} {qual:Str} {st:Stmt} {p1 p2 p3 p4 q1 q2 q3 q4:Pos}
abbrev psI:List Str:=["self", "row", "word"]
theorem zNn (c:Xi K C CH) (ht1:PySem.W.findIn K (.ref C) "row" = some none) (ht2:PySem.W.findIn K (.ref C) "word" = some none) (F:Fun K "__init__" qual st f fd) (S:FnScope psI psI (zG st))
  (hbd:zAj st = [.Assign [.Attribute (.Name "self" p1) "row" p2] (.Name "row" p3) p4,.Assign [.Attribute (.Name "self" q1) "word" q2] (.Name "word" q3) q4]) (Bd:zCI K fd psI [])
  (hl1:(zG st).names.lookup ("self" : Str) = some .local) (hl2:(zG st).names.lookup ("row" : Str) = some .local) (hl3:(zG st).names.lookup ("word" : Str) = some .local)
  (hr:A.depth < recursionLimit) (KX:K.In s.heap) (lim:s.heap.NoLimit) (g1:s.heap.get? e = some oe) (g2:oe.cls = .ref C) (g3:oe.dict = none) (g4:oe.data = .fields vs) (heK:∀ o,K.lookup e ≠ some o)
  (hq:∀ h' tk',(h'.Inst e C fun y=>if y = "word" then some u2 else if y = "row" then some u1 else none) -> (∀ b o,b ≠ e -> s.heap.get? b = some o -> h'.get? b = some o) -> (∃ o₁ dx,h'.get? e = some o₁ /\ o₁.cls = .ref C /\ o₁.data = .fields vs /\ o₁.dict = some dx /\ s.heap.get? dx = none) -> R (.ok (.ret .none)) { s with heap:=h',toks:=tk' }) :
  codeAny (model P w) A (.call (.ref f) ⟨[.ref e,u1,u2],[]⟩) R s:=by
 obtain ⟨oc,od,kV,doc,pm,an,cdv,ct,osl,rfl,lk,hcd⟩:=F.ex;have hbind:=Bd s [.ref e,u1,u2] KX rfl;rw [zT9] at hbind;have hkind:∀ y ∈ psI.zip [Value.ref e,u1,u2],(zG st).names.lookup y.1 = some .local \/ ((zG st).names.lookup y.1 = some .cell /\ ((cellsFrom (s.heap.objs.size + 1) (zG st).names []).lookup y.1).isSome = true):=fun y hy=>by
  simp only [psI,List.zip_cons_cons,List.zip_nil_right,zTW,zTp,or_false] at hy;rcases hy with rfl | rfl | rfl
  ·exact .inl hl1
  ·exact .inl hl2
  ·exact .inl hl3
 refine codeAny_call_function hr (KX _ _ lk) rfl S.co S.gen rfl (PySem.W.codeRec_of KX hcd) (hbind _ _ _ _ ?_);refine wpAny_newFunctionEnv_cells S.kind hkind fun env he s1 x=>?_;subst he;refine ⟨lim.keeps x.toInCall.keep,codeAny_func ?_⟩;obtain ⟨h1,tk,rfl,hk⟩:=x.done;have hns:h1.Ns s.heap.objs.size (bindL (envOfC qual (zG st) s.heap.objs.size f cdv).kindOf (psI.zip [Value.ref e,u1,u2]) fun _=>none):=x.toInCall.ns;have nL:s.heap.objs.size ≠ e:=fun z=>by
  have y:=zTV g1;rw [z] at y;exact zT7 _ y
 generalize hm:bindL (envOfC qual (zG st) s.heap.objs.size f cdv).kindOf (psI.zip [Value.ref e,u1,u2]) (fun _=>none) = m at hns;have m1:m "self" = some (.ref e):=by rw [<- hm]; exact zCj (by decide) (i:=0) rfl rfl hl1
 have m2:m "row" = some u1:=by rw [<- hm]; exact zCj (by decide) (i:=1) rfl rfl hl2
 have m3:m "word" = some u2:=by rw [<- hm]; exact zCj (by decide) (i:=2) rfl rfl hl3
 have ev:∀ {B:Around} {E:Value -> Shared -> Prop} {s2:Shared} {y:Str} {u:Value} {pos:Pos} {Q:Value -> Shared -> Prop},(zG st).names.lookup y = some .local -> s2.heap.Ns s.heap.objs.size m -> m y = some u -> (y == ("__debug__" : Str)) = false -> Q u s2 -> wpAny (model P w) B (eval (.Name y pos) (envOfC qual (zG st) s.heap.objs.size f cdv)) Q E s2:=fun hy n e0 hd q=>wpAny_Name (wpAny_loadName_local S.kind hy n e0 q) hd;show wpAny _ _ (execs (zAj st) (envOfC qual (zG st) s.heap.objs.size f cdv)) _ _ _;rw [hbd];have g1':=hk _ _ g1;have heC:e ≠ C:=fun z=>heK _ (by rw [z]; exact c.l);have hI1:h1.Inst e C fun _=>none:=⟨oe,g1',g2,fun c z=>(by rw [g4] at z; cases z),.inl ⟨g3,fun _=>rfl⟩⟩;have KX1:K.In h1:=KX.keeps hk;refine wpAny_execs_cons (plainObj_wpAny_Assign_Attribute (ev hl2 hns m2 (by decide) (ev hl1 hns m1 (by decide) ?_)));refine zKW (ns:=[]) c KX1 ht1 heC hI1 (fun o q=>⟨vs,by rw [g1'] at q; cases q; exact g4⟩) (fun y hy=>absurd rfl hy) (by simp) fun h2 tk2 I2 k2 o2=>?_;obtain ⟨o1,f1,f2,f3,dx,f4,f5⟩:=o2 _ g1';have f5:h1.get? dx = none:=f5.resolve_left fun z=>by rw [g3] at z; cases z
 have k2:∀ b o,b ≠ e -> h1.get? b = some o -> h2.get? b = some o:=fun b o hb q=>k2 b o hb (fun o₀ d z y=>by rw [g1'] at z; cases z; rw [g3] at y; cases y) q;have hns2:h2.Ns s.heap.objs.size m:=by
  obtain ⟨oL,es,ep,q,r⟩:=hns;exact ⟨oL,es,ep,k2 _ _ nL q,r⟩
 have KX2:K.In h2:=fun b o q=>k2 b o (fun z=>by subst z; exact heK o q) (KX1 b o q);refine wpAny_execs_cons (plainObj_wpAny_Assign_Attribute (ev hl3 hns2 m3 (by decide) (ev hl1 hns2 m1 (by decide) ?_)));refine zKW (ns:=["row"]) c KX2 ht2 heC I2 (fun o q=>⟨vs,by rw [f1] at q; cases q; exact f3.trans g4⟩) (Within.cons "row" u1 (fun y hy=>absurd rfl hy)) (by simp) fun h3 tk3 I3 k3 o3=>?_;obtain ⟨o4,r1,r2,r3,dy,r4,r5⟩:=o3 _ f1;refine wpAny_execs_nil ?_;refine hq h3 tk3 I3 (fun b o hb q=>?_) ⟨o4,dy,r1,r2.trans (f2.trans g2),r3.trans (f3.trans g4),r4,?_⟩
 ·have q1:=k2 b o hb (hk _ _ q);refine k3 b o hb (fun o0 d z y=>?_) q1;rw [f1] at z; cases z;rw [f4] at y; cases y;intro z;rw [<- z,hk _ _ q] at f5; cases f5
 ·rcases r5 with r5 | r5
  ·rw [f4] at r5; cases r5;cases q:s.heap.get? dx with
   | none=>rfl
   | some o=>rw [hk _ _ q] at f5; cases f5
  ·cases q:s.heap.get? dy with
   | none=>rfl
   | some o=>
    have hne:dy ≠ e:=fun z=>by
     rw [z,f1] at r5; cases r5
    rw [k2 dy o hne (hk _ _ q)] at r5; cases r5
end
section
variable {K:PySem.W.Frag} {C CH:Addr} {P:Program} {w:World} {A:Around} {E:Value -> Shared -> Prop} {s:Shared} {f:Addr} {fd:FuncData} {qual:Str} {st:Stmt} {p1 p2 p3 p4 q1 q2 q3 q4:Pos}
theorem Xi.tail (c:Xi K C CH) (hK:K.In h):OwnTail h zJL (.ref CH :: zJL):=.own (hK _ _ c.lh) (Heap.Ns.of_isNs (PySem.W.isNs_of_in hK c.qh.n)) (PySem.W.nsMap_none_of_in hK c.qh.n c.qh.i) .base
structure Ii (K:PySem.W.Frag) (C:Addr) (f:Addr) (fd:FuncData) (qual:Str) (st:Stmt) (p1 p2 p3 p4 q1 q2 q3 q4:Pos):Prop where
 ini:PySem.W.findIn K (.ref C) "__init__" = some (some (.ref f))
 fn:PySem.W.typeIn K (.ref f) = some (.type "function")
 ht1:PySem.W.findIn K (.ref C) "row" = some none
 ht2:PySem.W.findIn K (.ref C) "word" = some none
 F:Fun K "__init__" qual st f fd
 S:FnScope psI psI (zG st)
 hbd:zAj st = [.Assign [.Attribute (.Name "self" p1) "row" p2] (.Name "row" p3) p4,.Assign [.Attribute (.Name "self" q1) "word" q2] (.Name "word" q3) q4]
 Bd:zCI K fd psI []
 hl1:(zG st).names.lookup ("self" : Str) = some .local
 hl2:(zG st).names.lookup ("row" : Str) = some .local
 hl3:(zG st).names.lookup ("word" : Str) = some .local
def IsE (C e:Addr) (u1 u2:Value) (h h':Heap):Prop:=∃ o dx vs,h'.get? e = some o /\ o.cls = .ref C /\ o.data = .fields vs /\ 1 < vs.size /\ vs[1]? = some .none /\ o.dict = some dx /\ h.get? e = none /\ h.get? dx = none /\ dx ≠ e /\ h'.Ns1 dx fun y=>if y = "word" then some u2 else if y = "row" then some u1 else none
theorem zGc (c:Xi K C CH) (i:Ii K C f fd qual st p1 p2 p3 p4 q1 q2 q3 q4) (hr:A.depth < recursionLimit) (KX:K.In s.heap) (lim:s.heap.NoLimit)
  (hq:∀ h' tk' e,(∀ b o,s.heap.get? b = some o -> h'.get? b = some o) -> IsE C e u1 u2 s.heap h' -> Q (Fin.done (Flow.ret (.ref e))) { s with heap:=h',toks:=tk' }) :
  wpAny (model P w) A (Builtin.«type.__call__» ⟨[.ref C,u1,u2],[]⟩) Q E s:=by
 have FB:=F.excBase_ValueError;obtain ⟨hp,gn,dr,tks,os⟩:=s;have hC:hp.get? C = _:=KX _ _ c.l;have T:OwnTail hp zJL (.ref CH :: zJL):=c.tail KX;unfold Builtin.«type.__call__»;refine wpAny_ite_false rfl ?_;refine zTK (wpAny_mroOf_exc hC ?_);refine wpAny_ite_false rfl ?_;refine zTK (wpAny_madeBy_exc hC ?_);refine zTK (zTM ?_);refine zTK (zUI (wpAny_call (codeAny_call_builtin_code (Code.quiet_builtin { pos:=[.ref C,u1,u2] } FB.quiet) (wpAny_check_new_subT FB T hC (codeAny_exc_new_subT FB T hC ?_ (by simp [sizeLine_eq]))))));have k1:∀ b o,hp.get? b = some o -> ((hp.push { cls:=Value.type "tuple", data:=Data.seq #[u1,u2] }).push { cls:=Value.ref C,data:=Data.fields #[Value.ref hp.objs.size,Value.none,Value.none,Value.none,Value.bool false,Value.none] }).get? b = some o:=fun b o q=>zTL _ (zTL _ q);have g1:((hp.push { cls:=Value.type "tuple", data:=Data.seq #[u1,u2] }).push { cls:=Value.ref C,data:=Data.fields #[Value.ref hp.objs.size,Value.none,Value.none,Value.none,Value.bool false,Value.none] }).get? (hp.objs.size + 1) = some { cls:=Value.ref C,data:=Data.fields #[Value.ref hp.objs.size,Value.none,Value.none,Value.none,Value.bool false,Value.none] }:=by
  have:=zTU (hp.push { cls:=Value.type "tuple", data:=Data.seq #[u1,u2] }) (o:={ cls:=Value.ref C,data:=Data.fields #[Value.ref hp.objs.size,Value.none,Value.none,Value.none,Value.bool false,Value.none] }) rfl;rwa [zT0] at this
 have heN:hp.get? (hp.objs.size + 1) = none:=Heap.get?_none_of_le (zU7 _);generalize hh:(hp.push { cls:=Value.type "tuple", data:=Data.seq #[u1,u2] }).push { cls:=Value.ref C,data:=Data.fields #[Value.ref hp.objs.size,Value.none,Value.none,Value.none,Value.bool false,Value.none] } = h2 at k1 g1;have KX2:K.In h2:=KX.keeps k1;show wpAny (model P w) A _ _ E ⟨h2,gn,dr,tks,os⟩;refine zTK ?_;unfold isInstance;refine zTK (wpAny_typeOf_ref g1 ?_);refine wpAny_isSubtype_exc (k1 _ _ hC) ?_;rw [show ((Value.ref C :: Value.ref CH :: zJL).contains (Value.ref C)) = true from by simp];refine wpAny_ite_false rfl ?_;have inst:PySem.W.InstAt h2 (hp.objs.size + 1) { cls:=Value.ref C,data:=Data.fields #[Value.ref hp.objs.size,Value.none,Value.none,Value.none,Value.bool false,Value.none] } C none:=⟨g1,rfl,rfl,trivial⟩;refine zTK (zUI (PySem.W.special_fn KX2 inst i.ini i.fn (wpAny_call ?_)));refine zNn (s:=⟨h2,gn,dr,tks,os⟩) c i.ht1 i.ht2 i.F i.S i.hbd i.Bd i.hl1 i.hl2 i.hl3 hr KX2 (lim.keeps k1) g1 rfl rfl rfl (fun o q=>by rw [KX _ _ q] at heN; cases heN) fun h3 tk3 I3 kk oo=>?_;obtain ⟨o4,dx,r1,r2,r3,r4,r5⟩:=oo;refine wpAny_ite_false rfl (zTM ?_);refine hq h3 tk3 (hp.objs.size + 1) (fun b o q=>kk b o (fun z=>by rw [z,heN] at q; cases q) (k1 b o q)) ?_;obtain ⟨o5,y1,y2,y3,y4⟩:=I3;rw [r1] at y1; cases y1;have hdn:hp.get? dx = none:=by
  cases q:hp.get? dx with
  | none=>rfl
  | some o=>rw [k1 _ _ q] at r5; cases r5
 rcases y4 with ⟨y4,_⟩ | ⟨d,y4,y5,y6⟩
 ·rw [r4] at y4; cases y4
 ·rw [r4] at y4; cases y4;exact ⟨o4,dx,_,r1,r2,r3,(by decide:(1:Nat) < 6),rfl,r4,heN,hdn,y5,y6⟩
theorem zLu (c:Xi K C CH) (i:Ii K C f fd qual st p1 p2 p3 p4 q1 q2 q3 q4) (hr:A.depth + 5 < recursionLimit) (KX:K.In s.heap) (lim:s.heap.NoLimit)
  (hq:∀ h' tk' e,(∀ b o,s.heap.get? b = some o -> h'.get? b = some o) -> IsE C e u1 u2 s.heap h' -> Q (.ref e) { s with heap:=h',toks:=tk' }) :
  wpAny (model P w) A (call (.ref C) [u1,u2]) Q E s:=by
 have hT:s.TypeIs (.ref C) "type" := ⟨_,KX _ _ c.l,rfl⟩;obtain ⟨hp,gn,dr,tks,os⟩:=s;have hC:hp.get? C = _:=KX _ _ c.l;refine wpAny_call (codeAny_of_tree ?_);refine zTK (wpAny_load' hC ?_);refine zTK (wpAny_specialOf hT tc_lookup ?_);refine zTK (wpAny_of_eq (tc_bind (.ref C)) ?_);refine zTK (zTM ?_);refine wpAny_ite_true rfl ?_;refine zTM ⟨rfl,?_⟩;refine codeAny_call_builtin_at (Code.quiet_builtin { pos:=[.ref C] ++ [u1,u2] } (by decide +kernel)) entry_typeCall (wpAny_check_type_call_sub hC ?_);refine zGc (s:=⟨hp,gn,dr,tks,os⟩) c i ?_ KX lim fun h' tk' e a b=>hq h' tk' e a b;have:=zKJ (A:=A) (C:=C) (us:=[u1,u2]) (kw:=[]);rw [show (A.under (.builtin "type.__call__" ⟨[.ref C] ++ [u1,u2],[]⟩)).depth = A.depth + 1 from this];omega
theorem zJh (k1:PySem.W.kitCls K (.ref C) (.type "BaseException") = some true) (c:Xi K C CH) (hh:A.handled = none)
  (h:wpAny M A x (fun v s1=>∃ e oe vs,v = .ref e /\ K.In s1.heap /\ s1.heap.get? e = some oe /\ oe.cls = .ref C /\ oe.data = .fields vs /\ vs[1]? = some .none /\ E (.ref e) s1) E s):wpAny M A (raiseStmt env (some x) none) Q E s:=by
 unfold raiseStmt;refine zTK (zTq h ?_ fun _ _ z=>z);rintro v s1 ⟨e,oe,vs,rfl,KX,g1,g2,g3,g4,hE⟩;obtain ⟨t1,t2,t3⟩:=PySem.W.kit_cls (M:=M) KX k1;have ty:∀ {Q:Bool -> Shared -> Prop},Q false s1 -> wpAny M A (isType (.ref e)) Q E s1:=fun {Q} q=>by
  obtain ⟨hp,gn,dr,tks,os⟩:=s1;unfold isType;refine zTK (wpAny_loadPart_at g1 (zTM ?_));rw [g3]; exact q
 refine zTK (zTM ?_);refine zTK (zUI ?_);unfold excFromValue;refine zTK ?_;unfold isExcClass;refine zTK (ty ?_);refine wpAny_ite_false rfl (zTM ?_);refine wpAny_ite_false rfl ?_;refine zTK ?_;unfold isInstance;refine zTK (wpAny_typeOf_ref g1 ?_);rw [g2];refine t3 A _ _ s1 (fun _ _ z=>z) ?_;refine wpAny_ite_true rfl (zTM ?_);refine zTK (ty ?_);refine wpAny_ite_false rfl ?_;refine zTK ?_;unfold raisedInstance;refine zTK (wpAny_typeOf_ref g1 ?_);rw [g2];refine zTK ((PySem.W.kit_cls (M:=M) KX c.ks).1 A _ _ s1 (fun _ _ z=>z) ?_);refine wpAny_ite_true rfl (zTM ?_);refine zTK ?_;unfold setFlight;refine zTK (zTz g1 g3 g4 ?_);refine wpAny_ite_false rfl (zTM ?_);unfold raiseNew;refine zTK (wpAny_handled ?_);rw [hh];exact wpAny_throw hE
end
end L3
namespace L2
open PySem PySem.Spec PyProof.Rows
abbrev rw2 (i:Nat) (x:Str) (t1 t2:Tok):Str -> Option Value:=fun y=>if y = "word" then some (.str x t2) else if y = "row" then some (.int i t1) else none
def zGN (h:Heap) (P:Addr -> Prop) (e C:Addr) (i:Nat) (x:Str):Prop:=∃ dx t1 t2,Fly h P e (.ref C) (some dx) /\ P dx /\ dx ≠ e /\ h.Ns1 dx (rw2 i x t1 t2)
theorem zGN.imp (f:zGN h P e C i x) (k:∀ b,P b -> P' b):zGN h P' e C i x :=
 let ⟨dx,t1,t2,a,b,c⟩:=f; ⟨dx,t1,t2,a.imp k,k _ b,c⟩
theorem zP6
  (hA:A.frames = some (env :: outer)) (hF:s.heap.FunFrames base (env :: outer)) (hL:env.frame = some L) (fl:zGN s.heap P e C i x)
  (hP:∀ b,s.heap.get? b = none -> P b) (hfr:∀ b ∈ frs (env :: outer),¬ P b)
  (h:∀ h',Near P (frs (env :: outer)) s.heap h' -> zGN h' P e C i x -> Q () { s with heap:=h' }) :
  wpAny M A (noteFrame (.ref e) env) (fun _ s2=>wpAny M A (setFlight (.ref e) none) Q E s2) E s:=by
 obtain ⟨dx,t1,t2,fl,pd,ne,ns⟩:=fl;obtain ⟨oe,vs,h1,h2,h3,h4,h5,h6,h7⟩:=fl;have tb:∀ T,vs[1]? = some (.ref T) -> P T /\ ∃ oT ts,s.heap.get? T = some oT /\ oT.data = .fields ts:=fun T e=>by
  rcases h7 with h7 | ⟨T',oT,ts,a1,a2,a3,a4,a5,a6⟩
  ·rw [h7] at e; cases e
  ·rw [a1] at e; cases e;exact ⟨a3,oT,ts,a4,a5⟩
 have imp:∀ b,(b = e \/ vs[1]? = some (.ref b) \/ s.heap.get? b = none) -> P b:=fun b z=>by
  rcases z with z | z | z
  ·rw [z]; exact h6
  ·exact (tb b z).1
  ·exact hP b z
 have fl0:Fly s.heap (fun b=>b = e \/ vs[1]? = some (.ref b) \/ s.heap.get? b = none) e (.ref C) (some dx):=by
  refine ⟨oe,vs,h1,h2,h3,h4,h5,.inl rfl,h7.imp_right ?_⟩;rintro ⟨T,oT,ts,a1,a2,a3,a4⟩;exact ⟨T,oT,ts,a1,a2,.inr (.inl a1),a4⟩
 refine zO5 (base:=base) hA hF hL fl0 (fun b hb=> .inr (.inr (Heap.get?_none_of_le hb))) (fun b hb z=>hfr b hb (imp b z)) fun h' n fy=>?_;obtain ⟨od,es,ep,d1,d2,d3⟩:=id ns;have nd:¬ (dx = e \/ vs[1]? = some (.ref dx) \/ s.heap.get? dx = none):=fun z=>by
  rcases z with z | z | z
  ·exact ne z
  ·obtain ⟨_,oT,ts,a1,a2⟩:=tb dx z;rw [d1] at a1; cases a1;rw [d2] at a2; cases a2
  ·rw [d1] at z; cases z
 refine h h' ⟨fun b o q z f=>n.keep b o q (fun y=>z (imp b y)) f,fun b o q z=>n.slot b o q fun y=>z (imp b y),n.there⟩ ⟨dx,t1,t2,fy.imp imp,pd,ne,ns.at fun o q=>n.keep dx o q nd fun z=>hfr dx z pd⟩
def CXm (C:Addr) (P:Program) (w:World):CXT:=fun outer H s E e s'=>∃ a i x H',e = .ref a /\ s'.os = s.os /\ AllBare s'.gens /\ Un (frs outer) [] H H' s.heap s'.heap /\ HOk P w H' s'.heap /\
 zGN s'.heap (fun b=>s.heap.get? b = none /\ H' b = none) a C i x /\ E (.str x i) none H'
section
variable {P:Program} {w:World} {K:PySem.W.Frag} {mg:Str -> Option Value} {base:Heap} {N:List Str} {qual:Str} {scope:Scope} {f:Addr} {cd:Value} {A:Around} {outer:List Env} {s₀:Shared} {H₀:Hp} {E:XK} {C:Addr}
abbrev cxM (C:Addr) (P:Program) (w:World) (K:PySem.W.Frag) (mg:Str -> Option Value) (base:Heap) (N:List Str) (qual:Str) (scope:Scope) (f:Addr) (cd:Value) (A:Around) (outer:List Env) (s₀:Shared) (H₀:Hp) (E:XK):Cx :=
 zIS (CXm C P w) P w K mg base N qual scope f cd A outer s₀ H₀ E
theorem zNc (I:Inv (cxM C P w K mg base N qual scope f cd A outer s₀ H₀ E) zB σ H s)
  (fl:zGN s.heap (New (cxM C P w K mg base N qual scope f cd A outer s₀ H₀ E) H) e C i x) (h:E (.str x i) none H):(cxM C P w K mg base N qual scope f cd A outer s₀ H₀ E).xe (.ref e) s:=by
 refine zTK (zP6 I.ok.frames I.stack rfl fl (fun b hb=>I.newN rfl hb) (fun b z p=>p.2.2 z) fun h' n fy=>?_);have nb:∀ b o,s₀.heap.get? b = some o -> b ∉ frs outer -> b ∉ frs (cxM C P w K mg base N qual scope f cd A outer s₀ H₀ E).stack:=fun b o q hb z=>by
  rcases zTW.mp (I.stkSub b z) with y | y
  ·exact absurd (zTj (zTV q) I.ok.above) (by rw [y]; exact zT7 _)
  ·exact hb y
 have nP:∀ b o,s₀.heap.get? b = some o -> ¬ New (cxM C P w K mg base N qual scope f cd A outer s₀ H₀ E) H b:=fun b o q p=>by
  have:=p.1;rw [show s₀.heap.get? b = none from this] at q; cases q
 refine ⟨e,i,x,H,rfl,I.os,I.bare,⟨fun b o q m hb hx=>?_,fun b o q m hb hx=>?_,I.base.free,fun b o q hx=>?_,I.base.tups,I.base.frzs,I.base.tbls⟩,I.nearOk n,fy.imp fun b p=>⟨p.1,p.2.1⟩,h⟩
 ·exact n.keep b o (I.base.keep b o q m hb hx) (nP b o q) (nb b o q hb)
 ·obtain ⟨sl,q1⟩:=I.base.slot b o q m hb hx;obtain ⟨sl2,q2⟩:=n.slot b _ q1 (nP b o q);exact ⟨sl2,q2⟩
 ·obtain ⟨o1,q1⟩:=I.base.there b o q hx;exact n.there b o1 q1
theorem zPx:zEM (CXm C P w) (cxM C P w K mg base N qual scope f cd A outer s₀ H₀ E) E:=by
 rintro zB σ H s v s' I ⟨a,i,x,H',rfl,os,bare,un,hok,fl,h⟩;have I2:Inv (cxM C P w K mg base N qual scope f cd A outer s₀ H₀ E) zB σ H' s':=I.call' os un hok bare fun b z=>absurd z (by simp);refine zNc I2 (fl.imp fun b z=>?_) h;have nw:=I.newN rfl z.1;exact ⟨nw.1,z.2,nw.2.2⟩
end
end L2
namespace L3
open PySem PySem.Spec PyProof.Rows L2
abbrev Res:=(Out × Sd × Mem) ⊕ (Nat × Str × Mem)
abbrev FMS:=Sd -> Mem -> Option Res
abbrev FFM:=List D -> Mem -> Option ((D × Mem) ⊕ (Nat × Str × Mem))
def zOh (K:PySem.W.Frag) (E:XK) (B:Ends) (L:List Addr) (H:Hp):Res -> Prop
 | .inl (o,σ',M')=>∀ L' H',Stp L H L' H' -> Cor K L' M' H' -> zP0 B L' H' σ' o
 | .inr (i,x,M')=>∀ L' H',Stp L H L' H' -> Cor K L' M' H' -> E (.str x i) none H'
theorem zOh.stp {K:PySem.W.Frag} {E:XK} {B:Ends} {L L1:List Addr} {H H1:Hp} {r:Res} (h:zOh K E B L H r) (s:Stp L H L1 H1):zOh K E B L1 H1 r:=by
 rcases r with ⟨o,σ',M'⟩ | ⟨i,x,M'⟩
 ·exact fun L' H' s' c'=>h L' H' (s.trans s') c'
 ·exact fun L' H' s' c'=>h L' H' (s.trans s') c'
def trM (K:PySem.W.Frag) (E:XK) (f:FMS):TS:=fun B τ H=>∃ L σ M r,Cor K L M H /\ zA0 L H σ τ /\ f σ M = some r /\ zOh K E B L H r
structure QM (X:Cx) (E:XK) (st:Stmt) (f:FMS):Prop where
 un:PS X st (trM X.K E f)
structure QMs (X:Cx) (E:XK) (st:List Stmt) (f:FMS):Prop where
 un:PSs X st (trM X.K E f)
def mOf (f:FS):FMS:=fun σ M=>match f σ M with
 | some r=>some (.inl r)
 | none=>none
def mIf (c:FT) (f g:FMS):FMS:=fun σ M=>match c σ M with
 | some (true,M1)=>f σ M1
 | some (false,M1)=>g σ M1
 | none=>none
def zCS (f g:FMS):FMS:=fun σ M=>match f σ M with
 | some (.inl (.nx,σ1,M1))=>g σ1 M1
 | r=>r
noncomputable def zDB (g:FG) (b:FMS) (all:List D) (gd:Option (Mem -> Prop)):List D -> Sd -> Mem -> Option Res
 | [],σ,M=>open Classical in if zBJ gd all M then some (.inl (.nx,σ,M)) else none
 | x :: r,σ,M=>open Classical in if zBJ gd all M then match g x σ with
   | some σ1=>match b σ1 M with
    | some (.inl (.nx,σ2,M2))=>zDB g b all gd r σ2 M2
    | some (.inl (.cnt,σ2,M2))=>zDB g b all gd r σ2 M2
    | some (.inl (.brk,σ2,M2))=>some (.inl (.nx,σ2,M2))
    | some (.inl (.ret d,σ2,M2))=>some (.inl (.ret d,σ2,M2))
    | some (.inr e)=>some (.inr e)
    | none=>none
   | none=>none
  else none
noncomputable def zJi (fi:FI) (g:FG) (b:FMS):FMS:=fun σ M=>match fi σ M with
 | some (xs,gd,M1)=>zDB g b xs gd xs σ M1
 | none=>none
def spM (K:PySem.W.Frag) (n:Nat) (g:FFM):Sp:=fun vs H Q E=>∃ L ds M,Cor K L M H /\ zL L H ds vs /\ ds.length = n /\
 ((∃ d M',g ds M = some (.inl (d,M')) /\ ∀ L' H' v,Stp L H L' H' -> Cor K L' M' H' -> Rep L' H' d v -> Q v H') \/ (∃ i x M',g ds M = some (.inr (i,x,M')) /\ ∀ L' H',Stp L H L' H' -> Cor K L' M' H' -> E (.str x i) none H'))
def zFG (n:Nat) (b:FMS):FFM:=fun ds M=>match b (ds.map some ++ List.replicate (n - ds.length) none) M with
 | some (.inl (.ret d,_,M'))=>some (.inl (d,M'))
 | some (.inl (.nx,_,M'))=>some (.inl (.non,M'))
 | some (.inr e)=>some (.inr e)
 | _=>none
section
variable {X:Cx} {E:XK} {st:Stmt} {rest:List Stmt} {c:Expr} {pos:Pos}
theorem zGs (h:QS X st f):QM X E st (mOf f):=.mk <| PS.imp h.un fun B τ H zz=>by
 obtain ⟨L,σ,M,r,co,rs,hf,q⟩:=zz;unfold mOf at hf;split at hf
 ·rename_i r1 e1;cases hf;obtain ⟨o,σ',M'⟩:=r1;exact ⟨L,σ,M,_,_,_,co,rs,e1,q⟩
 ·cases hf
theorem zKG (h:QSs X rest f):QMs X E rest (mOf f):=.mk <| PSs.imp h.un fun B τ H zz=>by
 obtain ⟨L,σ,M,r,co,rs,hf,q⟩:=zz;unfold mOf at hf;split at hf
 ·rename_i r1 e1;cases hf;obtain ⟨o,σ',M'⟩:=r1;exact ⟨L,σ,M,_,_,_,co,rs,e1,q⟩
 ·cases hf
theorem zCJ (h1:QM X E st f) (h2:QMs X E rest g):QMs X E (st :: rest) (zCS f g):=.mk <| PSs.imp (zGH h1.un h2.un) fun B τ H zz=>by
 obtain ⟨L,σ,M,r,co,rs,hf,q⟩:=zz;unfold zCS at hf;split at hf
 ·rename_i σ1 M1 e1;exact ⟨L,σ,M,_,co,rs,e1,fun L1 H1 s1 c1 τ1 r1=>⟨L1,σ1,M1,_,c1,r1,hf,q.stp s1⟩⟩
 ·rename_i hne;refine ⟨L,σ,M,_,co,rs,hf,?_⟩;rcases r with ⟨o,σ',M'⟩ | ⟨i,x,M'⟩
  ·intro L1 H1 s1 c1;have z:=q L1 H1 s1 c1;cases o with
   | nx=>exact absurd hf (hne σ' M')
   | ret d=>exact z
   | brk=>exact z
   | cnt=>exact z
  ·exact q
theorem zDW (h1:QM X E st f):QMs X E [st] f:=.mk <| PSs.imp (zFd h1.un) fun _ _ _ h=>h
theorem zNL (hc:QT X c fc) (ha:QMs X E a f) (hb:QMs X E b g):QM X E (.If c a b pos) (mIf fc f g):=.mk <| PS.imp (zMW hc.un ha.un hb.un) fun B τ H zz=>by
 obtain ⟨L,σ,M,r,co,rs,hf,q⟩:=zz;unfold mIf at hf;split at hf
 ·rename_i M1 e1;exact ⟨L,σ,M,_,_,co,rs,e1,fun L1 H1 s1 c1=>zHl ⟨L1,σ,M1,_,c1,rs.stp s1,hf,q.stp s1⟩⟩
 ·rename_i M1 e1;exact ⟨L,σ,M,_,_,co,rs,e1,fun L1 H1 s1 c1=>zHa ⟨L1,σ,M1,_,c1,rs.stp s1,hf,q.stp s1⟩⟩
 ·cases hf
theorem zLR {K:PySem.W.Frag} {fi:FI} {g:TG} {fg:FG} {b:FMS} (hg:GOk g fg) {B:Ends} {τ:Sv} {H:Hp} (h:trM K E (zJi fi fg b) B τ H):zRi (trI K fi) g (trM K E b) B τ H:=by
 obtain ⟨L,σ,M,rr,c,rs,hf,q⟩:=h;unfold zJi at hf;split at hf
 ·rename_i xs gd M1 e1;refine ⟨L,σ,M,_,_,_,c,rs,e1,fun L1 H1 J s1 c1 it=>?_⟩;have q1:=q.stp s1
  refine ⟨fun i m τ' H'=>m = xs.length - i /\ i <= xs.length /\ ∃ L' σ' M',Stp L1 H1 L' H' /\ Cor K L' M' H' /\ zA0 L' H' σ' τ' /\ zDB fg b xs gd (xs.drop i) σ' M' = some rr,
   ⟨xs.length,by simp,Nat.zero_le _,L1,σ,M1,.refl _ _,c1,rs.stp s1,by simpa using hf⟩,?_⟩
  rintro i m τ' H' ⟨rfl,hi,L',σ',M',s',c',rs',e'⟩;by_cases hlt:i < xs.length
  ·rw [zE6 hlt] at e';unfold zDB at e';split at e'
   ·rename_i hgd;obtain ⟨step,_⟩:=it L' H' M' s' c' hgd;obtain ⟨go,yl⟩:=step i xs[i] (zTO hlt);cases eg:fg xs[i] σ' with
    | none=>rw [eg] at e'; cases e'
    | some σ1=>
     rw [eg] at e';dsimp only at e';refine .inr ⟨go,fun τ2 H2=>∃ L2 σ2 M2,Stp L1 H1 L2 H2 /\ Cor K L2 M2 H2 /\ zA0 L2 H2 σ2 τ2 /\ zDB fg b xs gd (xs.drop (i + 1)) σ2 M2 = some rr,fun τ2 H2 ⟨L2,σ2,M2,a1,a2,a3,a4⟩=>⟨xs.length - (i + 1),by omega,rfl,hlt,L2,σ2,M2,a1,a2,a3,a4⟩,fun v H2 hy=>?_⟩;obtain ⟨gr,rv⟩:=yl v H2 hy;refine hg (zA0.stp (.grow gr) rs') rv eg fun τ2 r2=>?_;cases eb:b σ1 M' with
     | none=>rw [eb] at e'; cases e'
     | some r=>
      rw [eb] at e';refine ⟨L',σ1,M',r,c'.grow gr,r2,eb,?_⟩;have s12:Stp L1 H1 L' H2:=s'.yld gr;rcases r with ⟨o2,σ2,M2⟩ | ⟨i2,x2,M2⟩
      ·intro L3 H3 s3 c3;have s13:Stp L1 H1 L3 H3:=s12.trans s3;cases o2 with
       | nx=>exact fun τ3 r3=>⟨L3,σ2,M2,s13,c3,r3,e'⟩
       | cnt=>exact fun τ3 r3=>⟨L3,σ2,M2,s13,c3,r3,e'⟩
       | brk=>cases e'; exact q1 L3 H3 s13 c3
       | ret d=>cases e'; exact q1 L3 H3 s13 c3
      ·cases e';exact fun L3 H3 s3 c3=>q1 L3 H3 (s12.trans s3) c3
   ·cases e'
  ·have hi':i = xs.length:=by omega
   subst hi';rw [List.drop_length] at e';unfold zDB at e';split at e'
   ·rename_i hgd;cases e';obtain ⟨_,stop⟩:=it L' H' _ s' c' hgd;exact .inl ⟨stop,q1 L' H' s' c' τ' rs'⟩
   ·cases e'
 ·cases hf
theorem zNw (hg:GOk g fg) (hp:PassesOwn (model X.prog X.w) X.A X.env X.xe) (hc:X.calm = true) (hi:QI X tg iter fi) (ht:PG X tg g) (hb:QMs X E body b)
  (hs:∀ x,foldedSetIterable iter X.env x = pure x:=by intro _; rfl):QM X E (.For tg iter body [] pos) (zJi fi fg b):=.mk <| PS.imp (zOB hp hc hi.un ht hb.un hs) fun _ _ _ h=>zLR hg h
end
section
variable {x:Str} {k:Nat} {f:Addr} {fd:FuncData} {ps:List Str} {C:Addr}
theorem zH8 {P:Program} {w:World} {K:PySem.W.Frag} {mg:Str -> Option Value} {base:Heap} {qual:Str} {st:Stmt} {N:List Str} {b:FMS} {n:Nat} (F:Fun K x qual st f fd) (S:FnScope N ps (zG st)) (hn:ps.length = n)
  (hb:∀ (cdv:Value) (A:Around) (outer:List Env) (s:Shared) (H:Hp) (E:XK),Room k (A.deeper (envOfC qual (zG st) s.heap.objs.size f cdv)) -> QMs (cxM C P w K mg base N qual (zG st) f cdv A outer s H E) E (zAj st) b) :
  FnOk P w K mg base (CXm C P w) (k + 1) f fd ps (spM K n (zFG N.length b)):=by
 obtain ⟨oc,od,kV,doc,pm,an,cdv,ct,osl,rfl,lk,hcd⟩:=F.ex;refine zP5 lk hcd S (fun vs H Q E h=>?_) fun A outer s H vs Q E hr h=>⟨_,(hb cdv A outer s H E hr).un,?_⟩
 ·obtain ⟨L,ds,M,c,r,hl,_⟩:=h;rw [r.length,hl,hn]
 ·obtain ⟨L,ds,M,c,r,hl,q⟩:=h;unfold zFG at q;rcases q with ⟨d,M',e,q⟩ | ⟨i,y,M',e,q⟩
  ·split at e
   ·rename_i e1;cases e;exact ⟨L,_,M,_,c,zCg r,e1,fun L1 H1 s1 c1 v r1=>q L1 H1 v s1 c1 r1⟩
   ·rename_i e1;cases e;exact ⟨L,_,M,_,c,zCg r,e1,fun L1 H1 s1 c1 τ' r1=>q L1 H1 .non s1 c1 (by unfold Rep; rfl)⟩
   ·cases e
   ·cases e
  ·split at e
   ·cases e
   ·cases e
   ·rename_i e1;cases e;exact ⟨L,_,M,_,c,zCg r,e1,q⟩
   ·cases e
end
def zD8 (fa:FA):FMS:=fun σ M=>match fa σ M with
 | some ([.int (.ofNat i),.str x],M1)=>some (.inr (i,x,M1))
 | _=>none
section
variable {P:Program} {w:World} {K:PySem.W.Frag} {mg:Str -> Option Value} {base:Heap} {N:List Str} {qual:Str} {scope:Scope} {f:Addr} {cd:Value} {A:Around} {outer:List Env} {s₀:Shared} {H₀:Hp} {E:XK} {x:Str} {np cpos pos:Pos} {C CH:Addr}
 {e:Expr} {es:List Expr} {fi:Addr} {fd:FuncData} {qi:Str} {st:Stmt} {p1 p2 p3 p4 q1 q2 q3 q4:Pos} {k:Nat} {fa:FA}
theorem zGB (c:Xi K C CH) (i:Ii K C fi fd qi st p1 p2 p3 p4 q1 q2 q3 q4) (k1:PySem.W.kitCls K (.ref C) (.type "BaseException") = some true) (kc:PySem.W.keepIn K (.ref C) = true)
  (hr:Room k (A.deeper (envOfC qual scope s₀.heap.objs.size f cd))) (hm:mg x = some (.ref C)) (hg:Gl (cxM C P w K mg base N qual scope f cd A outer s₀ H₀ E) x) (hdb:(x == ("__debug__" : Str)) = false)
  (ha:QA (cxM C P w K mg base N qual scope f cd A outer s₀ H₀ E) (e :: es) fa)
  (he:starEach (e :: es) (envOfC qual scope s₀.heap.objs.size f cd) = (false,eval e (envOfC qual scope s₀.heap.objs.size f cd)) :: starEach es (envOfC qual scope s₀.heap.objs.size f cd)) (hpl:(backTo cpos (starEach es (envOfC qual scope s₀.heap.objs.size f cd))).any (·.1) = false) :
  QM (cxM C P w K mg base N qual scope f cd A outer s₀ H₀ E) E (.Raise (some (.Call (.Name x np) (e :: es) [] cpos)) none pos) (zD8 fa):=by
 refine ⟨fun zB s σ H D I h=>?_⟩;obtain ⟨L,σd,M,r,co,rs,hf,q⟩:=h;unfold zD8 at hf;split at hf
 ·rename_i n y M1 e1;cases hf;rw [arm_exec_Raise];refine zTK (wpAny_standAt ?_);refine zJh k1 c (I.ok.hd rfl) ?_;refine zTK (zTq (wpAny_Call_Name_kw (zEP I hg hm ?_ hdb)) (fun v s3 h3=>zTK (wpAny_standAt (zTM h3))) fun _ _ z=>z);refine PySem.W.callWith_K (h₀:=base) I.ok.mod.kin kc (zTq (ha.un cpos zB s σ H _ I ⟨L,σd,M,_,_,co,rs,e1,fun L' H' vs s' c' r'=>(⟨L',s',c',r'⟩:∃ L',Stp L H L' H' /\ Cor K L' M1 H' /\ zL L' H' _ vs)⟩) (fun us s1 ⟨vs,H1,I1,r,L',s',c',r'⟩=>⟨I1.kIn,?_⟩) fun _ _ z=>z) he hpl;have hE:=q L' H1 s' c';unfold zL at r';obtain ⟨v1,r1,rfl,h1,r'⟩:=r';unfold zL at r';obtain ⟨v2,r2,rfl,h2,r'⟩:=r';unfold zL at r';unfold Rep at h1 h2;subst r' h1 h2;cases r with
  | cons a1 r=>
   cases r with
   | cons a2 r=>
    cases r;obtain ⟨t1,rfl⟩:=a1;obtain ⟨t2,rfl⟩:=a2;refine zLu c i (Nat.lt_of_le_of_lt (Nat.add_le_add_right (Nat.le_add_right _ _) 5) hr.dp) I1.kIn I1.nolimit fun h' tk' a kk ie=>?_;obtain ⟨o,dx,vs,g1,g2,g3,g4,g5,g6,g7,g8,g9,g10⟩:=ie;have I2:=I1.kept (t':=tk') kk;refine ⟨a,o,vs,rfl,I2.kIn,g1,g2,g3,g5,?_⟩;exact zNc I2 ⟨dx,t1,t2,⟨o,vs,g1,g2,g6,g3,g4,I1.newN rfl g7,.inl g5⟩,I1.newN rfl g8,g9,g10⟩ hE
 ·cases hf
end
def zJW (i:Nat) (g:FFM) (fa:FA):FMS:=fun σ M=>match fa σ M with
 | some (ds,M1)=>match g ds M1 with
  | some (.inl (d,M2))=>some (.inl (.nx,σ.set i (some d),M2))
  | some (.inr e)=>some (.inr e)
  | none=>none
 | none=>none
def zIF (g:FFM) (fa fb:FA):FMS:=fun σ M=>match fa σ M with
 | some (ds,M1)=>match g ds M1 with
  | some (.inl (d,M2))=>match fb σ M2 with
   | some (es,M3)=>if (d :: es).length <= sizeLine then some (.inl (.ret (.tup (d :: es)),σ,M3)) else none
   | none=>none
  | some (.inr e)=>some (.inr e)
  | none=>none
 | none=>none
def fPl (g:FFM):FF:=fun ds M=>match g ds M with
 | some (.inl r)=>some r
 | _=>none
section
variable {C:Addr} {x:Str} {k:Nat} {f:Addr} {fd:FuncData} {ps:List Str} {g:FFM} {n:Nat}
theorem zMd {P:Program} {w:World} {K:PySem.W.Frag} {mg:Str -> Option Value} {base:Heap} (F:FnOk P w K mg base (CXm C P w) k f fd ps (spM K n g)):FnOk P w K mg base CX0 k f fd ps (spF K n (fPl g)):=by
 have key:∀ {vs:List V} {H:Hp} {Q:VK} {E:XK},spF K n (fPl g) vs H Q E -> spM K n g vs H Q E0:=fun {vs H Q E} h=>by
  obtain ⟨L,ds,M,d,M',c,r,hl,e,q⟩:=h;unfold fPl at e;split at e
  ·rename_i r1 e1;cases e;exact ⟨L,ds,M,c,r,hl,.inl ⟨d,M',e1,q⟩⟩
  ·cases e
 refine ⟨fun vs H Q E h=>F.len _ _ _ _ (key h),fun A outer s H args us vs Q E hr e0 hb r h=>codeAny_mono (F.run A outer s H args us vs Q E0 hr e0 hb r (key h)) fun r s' hq=>?_⟩;cases r with
 | ok fl=>cases fl <;> exact hq
 | error e=>
  obtain ⟨a,i,x,H',_,_,_,_,_,_,z⟩:=hq;exact z.elim
end
section
variable {X:Cx} {E:XK} {x xt:Str} {k i n:Nat} {f C:Addr} {fd:FuncData} {ps:List Str} {g:FFM} {fa fb:FA} {e:Expr} {es rest:List Expr} {p px pos pa:Pos}
theorem zIq (F:FnOk X.prog X.w X.K X.mg X.base (CXm C X.prog X.w) k f fd ps (spM X.K (e :: es).length g)) (hr:Room k X.A) (hg:Gl X x) (hm:X.mg x = some (.ref f)) (hk:PySem.W.keepIn X.K (.ref f) = true) (hb:zCI X.K fd ps []) (hx:zEM (CXm C X.prog X.w) X E)
  (ha:QA X (e :: es) fa) (hl:zJA fa (e :: es).length) (hdb:(x == ("__debug__" : Str)) = false:=by decide) (he:starEach (e :: es) X.env = (false,eval e X.env) :: starEach es X.env:=by rfl) (hpl:(backTo pos (starEach es X.env)).any (·.1) = false:=by rfl) :
  PE X (.Call (.Name x p) (e :: es) [] pos) (fun τ H Q=>∃ L σ M ds M1,Cor X.K L M H /\ zA0 L H σ τ /\ fa σ M = some (ds,M1) /\
   ((∃ d M',g ds M1 = some (.inl (d,M')) /\ ∀ L' H' v,Stp L H L' H' -> Cor X.K L' M' H' -> Rep L' H' d v -> Q v H') \/ (∃ i y M',g ds M1 = some (.inr (i,y,M')) /\ ∀ L' H',Stp L H L' H' -> Cor X.K L' M' H' -> E (.str y i) none H'))) :=
 PE.imp (zKq F hr hg hm hk hb .nil hx ha.un hdb he hpl) fun τ H Q zz=>by
  obtain ⟨L,σ,M,ds,M1,c,rs,hf,q⟩:=zz;refine ⟨L,σ,M,ds,M1,c,rs,hf,fun L' H' vs s' c' r'=>?_⟩;show spM _ _ _ (vs ++ []) H' Q E;rw [zT9];refine ⟨L',ds,M1,c',r',hl _ _ _ _ hf,?_⟩;rcases q with ⟨d,M',e1,q⟩ | ⟨i,y,M',e1,q⟩
  ·exact .inl ⟨d,M',e1,fun L2 H2 v s2 c2 r2=>q L2 H2 v (s'.trans s2) c2 r2⟩
  ·exact .inr ⟨i,y,M',e1,fun L2 H2 s2 c2=>q L2 H2 (s'.trans s2) c2⟩
theorem zOX (hN:X.N.Nodup) (hi:X.N[i]? = some xt) (hxt:Loc X.env.scope xt) (F:FnOk X.prog X.w X.K X.mg X.base (CXm C X.prog X.w) k f fd ps (spM X.K (e :: es).length g)) (hr:Room k X.A) (hg:Gl X x) (hm:X.mg x = some (.ref f)) (hk:PySem.W.keepIn X.K (.ref f) = true) (hb:zCI X.K fd ps []) (hx:zEM (CXm C X.prog X.w) X E)
  (ha:QA X (e :: es) fa) (hl:zJA fa (e :: es).length) (hdb:(x == ("__debug__" : Str)) = false:=by decide) (he:starEach (e :: es) X.env = (false,eval e X.env) :: starEach es X.env:=by rfl) (hpl:(backTo pos (starEach es X.env)).any (·.1) = false:=by rfl)
  (hs:swapsWith (.Call (.Name x p) (e :: es) [] pos) (some (.Name xt px)) pa.line X.env = pure false:=by rfl) (hf:X.fn xt = true \/ X.env.scope.names.lookup xt = some .local:=by first | exact .inl rfl | exact .inr rfl | assumption) :
  QM X E (.Assign [.Name xt px] (.Call (.Name x p) (e :: es) [] pos) pa) (zJW i g fa):=.mk <| PS.imp (zHk hN hi hxt (zIq (E:=E) F hr hg hm hk hb hx ha hl hdb he hpl) hs hf) fun B τ H zz=>by
 obtain ⟨L,σ,M,r,co,rs,hf,q⟩:=zz;unfold zJW at hf;split at hf
 ·rename_i ds M1 e1;refine ⟨L,σ,M,ds,M1,co,rs,e1,?_⟩;split at hf
  ·rename_i d M2 e2;cases hf;exact .inl ⟨d,M2,e2,fun L' H' v s' c' r'=>q L' H' s' c' _ ((rs.stp s').set r')⟩
  ·rename_i z e2;cases hf;obtain ⟨a,b,c⟩:=z;exact .inr ⟨a,b,c,e2,q⟩
  ·cases hf
 ·cases hf
theorem zO7 {x1} (F:FnOk X.prog X.w X.K X.mg X.base (CXm C X.prog X.w) k f fd ps (spM X.K (e :: es).length g)) (hr:Room k X.A) (hg:Gl X x) (hm:X.mg x = some (.ref f)) (hk:PySem.W.keepIn X.K (.ref f) = true) (hb:zCI X.K fd ps []) (hx:zEM (CXm C X.prog X.w) X E)
  (ha:QA X (e :: es) fa) (hl:zJA fa (e :: es).length) (hb':QA X rest fb) (hst:starEach (.Call (.Name x p) (e :: es) [] pos :: rest) X.env = (false,eval (.Call (.Name x p) (e :: es) [] pos) X.env) :: starEach rest X.env:=by rfl) (hdb:(x == ("__debug__" : Str)) = false:=by decide) (he:starEach (e :: es) X.env = (false,eval e X.env) :: starEach es X.env:=by rfl) (hpl:(backTo pos (starEach es X.env)).any (·.1) = false:=by rfl) :
  QM X E (.Return (some (.Tuple (.Call (.Name x p) (e :: es) [] pos :: rest) x1 px)) pa) (zIF g fa fb):=.mk <| PS.imp (zNG (zHZ (zAc (zIq (E:=E) F hr hg hm hk hb hx ha hl hdb he hpl) hb'.un))) fun B τ H zz=>by
 obtain ⟨L,σ,M,r,co,rs,hf,q⟩:=zz;unfold zIF at hf;split at hf
 ·rename_i ds M1 e1;refine ⟨L,σ,M,ds,M1,co,rs,e1,?_⟩;split at hf
  ·rename_i d M2 e2;split at hf
   ·rename_i es M3 e3;split at hf
    ·rename_i hz;cases hf;refine .inl ⟨d,M2,e2,fun L' H' v s' c' r'=>?_⟩;refine ⟨L',σ,M2,es,M3,c',rs.stp s',e3,fun L2 H2 vs s2 c2 r2=>?_⟩;have rr:zL L2 H2 (d :: es) (v :: vs):=zL.cons (r'.stp s2) r2;refine ⟨by rw [rr.length]; exact hz,fun a ha=>?_⟩;refine q L2 _ (s'.trans (s2.trans (.upd ha))) (c2.upd ha) _ ?_;unfold Rep;exact ⟨a,_,rfl,zAX,rr.stp (.upd ha)⟩
    ·cases hf
   ·cases hf
  ·rename_i z e2;cases hf;obtain ⟨a,b,c⟩:=z;exact .inr ⟨a,b,c,e2,q⟩
  ·cases hf
 ·cases hf
end
def zI8 (C e dx:Addr) (m:Str -> Option Value) (h:Heap):Prop:=∃ oe vs,h.get? e = some oe /\ oe.cls = .ref C /\ oe.dict = some dx /\ oe.data = .fields vs /\ h.Ns1 dx m
section
variable {K:PySem.W.Frag} {C CH e dx:Addr} {h:Heap} {m:Str -> Option Value}
theorem Xi.tailQ (c:Xi K C CH) (hK:K.In h):OwnTailQ h zJL (.ref CH :: zJL):=.own (hK _ _ c.lh) (Heap.Ns.of_isNs (PySem.W.isNs_of_in hK c.qh.n)) (c.qh.quiet hK) .base
theorem zI8.inst (x:zI8 C e dx m h):∃ oe od,PySem.W.InstAt h e oe C (some od) /\ ∀ name,PySem.W.lookIn name od = some (m name):=by
 obtain ⟨oe,vs,h1,h2,h3,h4,h5⟩:=x;obtain ⟨od,ho,hl⟩:=zHA h5;refine ⟨oe,od,⟨h1,h2,?_,?_⟩,hl⟩
 ·unfold PySem.W.notCls;rw [h4]
 ·rw [h3]; exact ho
variable {prog:Program} {w:World} {A:Around} {E:Value -> Shared -> Prop} {s:Shared} {v:Value} {name:Str}
def Xc (K:PySem.W.Frag) (C:Addr):Prop:=∀ od,PySem.W.findObj K C (some od) "__class__" = some (.bind (.builtin "getset_descriptor.__get__") (.builtin "object.__class__"))
theorem zNT (c:Xi K C CH) (hK:K.In s.heap) (x:zI8 C e dx m s.heap)
  (q:∀ {A:Around} {E:Value -> Shared -> Prop} {Q:PySem.Fin -> Shared -> Prop},Q (Fin.done (Flow.ret v)) s -> wpAny (model prog w) A (Builtin.«object.__getattribute__» ⟨[.ref e,.str name tk],[]⟩) Q E s)
  (hv:∀ {A:Around} {E:Value -> Shared -> Prop} {Q:Value -> Shared -> Prop},Q v s -> wpAny (model prog w) A (handedOut v) Q E s) (hq:Q v s) :
  wpAny (model prog w) A (getAttrBy (.ref e) (.str name tk) fl ex) Q E s:=by
 obtain ⟨oe,od,i,_⟩:=x.inst;obtain ⟨hp,gn,dr,tks,os⟩:=s;have f3:=F.attrBase_ValueError.ga.bind (.ref e);unfold getAttrBy;refine zUI (zTK (wpAny_typeOf_ref i.at_ ?_));rw [i.cls];refine zTK (PySem.W.looks_findIn hK c.ga A _ _ _ (fun _ _ z=>z) ?_);refine wpAny_ite_false rfl ?_;unfold getAttrByItsOwn;refine zTK (wpAny_ite_true rfl (PySem.W.looks_findIn hK c.gt A _ _ _ (fun _ _ z=>z) ?_));refine zTK (wpAny_attempt (zUI (wpAny_ite_false (by cases ex <;> rfl) ?_)));refine zTK (wpAny_of_eq f3 (wpAny_call ?_));refine codeAny_call_builtin F.attrBase_ValueError.ga.plain F.entry_bexc_ga ?_;refine wpAny_check_ga_own F.attrBase_ValueError (hK _ _ c.l) (c.tailQ hK) i.at_ i.cls ?_;refine q ?_;exact hv hq
theorem zHL (c:Xi K C CH) (hc:Xc K C) (hK:K.In s.heap) (x:zI8 C e dx m s.heap) (q:Q (Fin.done (Flow.ret (.ref C))) s) :
  wpAny (model prog w) A (Builtin.«object.__getattribute__» ⟨[.ref e,.str "__class__" tk],[]⟩) Q E s:=by
 obtain ⟨oe,od,i,_⟩:=x.inst;unfold Builtin.«object.__getattribute__»;refine zTK ?_;unfold slotArgs;refine wpAny_ite_false rfl (wpAny_ite_false rfl (zTM ?_));refine zTK (zTM ?_);refine zTK (wpAny_typeOf_ref i.at_ ?_);rw [i.cls];refine zTK (PySem.W.looks_find hK i (hc od) A _ _ s (fun _ _ z=>z) ?_);refine zTK (zUI (wpAny_call ?_));refine PySem.W.class_get hK i c.mo ?_;exact zTM q
theorem zIi (c:Xi K C CH) (hd:PySem.W.hasDictIn K C = true) (hf:PySem.W.findIn K (.ref C) name = some none) (hK:K.In s.heap) (x:zI8 C e dx m s.heap) (hm:m name = some v) (q:Q (Fin.done (Flow.ret v)) s) :
  wpAny (model prog w) A (Builtin.«object.__getattribute__» ⟨[.ref e,.str name tk],[]⟩) Q E s:=by
 obtain ⟨oe,od,i,hl⟩:=x.inst;unfold Builtin.«object.__getattribute__»;refine zTK ?_;unfold slotArgs;refine wpAny_ite_false rfl (wpAny_ite_false rfl (zTM ?_));refine zTK (zTM ?_);refine zTK (wpAny_typeOf_ref i.at_ ?_);rw [i.cls];refine zTK (PySem.W.looks_find hK i (PySem.W.findObj_own (v:=v) hd hf rfl (by rw [hl,hm])) A _ _ s (fun _ _ z=>z) ?_);exact zTM q
theorem zE7 (c:Xi K C CH) (hc:Xc K C):PySem.W.KitX K (.ref e) (.ref C) (zI8 C e dx m) where
 ty:=fun M h hK ⟨oe,vs,h1,h2,_⟩ A Q E s k q=>wpAny_typeOf_ref (k _ _ h1) (by rw [h2]; exact q);it:=fun M h hK _=>(PySem.W.kit_cls hK c.ks).2.1;ne:=fun h tp dd its n sl hK ht=>by
  have:=hK _ _ c.l;by_cases z:C = tp
  ·subst z;rw [ht] at this;injection this with this
   have y:=zVC Obj.cls this;simp at y
  ·simp [z]
 ca:=fun {prog w A E Q s} hK x q=>by
  unfold getAttr?;refine zTK (wpAny_mkText ?_);unfold getAttrBy?;refine zTK (wpAny_attempt (zNT (s:={ s with toks:=s.toks + 1 }) c hK x (v:=.ref C) (fun {A E Q} q=>zHL (s:={ s with toks:=s.toks + 1 }) c hc hK x q) (fun q=>zTM q) ?_));exact zTM q
end
end L3
namespace L2
open PySem PySem.Spec PyProof.Rows
abbrev inY (X:Cx) (a:Addr) (oe:Obj) (dx:Addr) (od:Obj):Cx:={ X with A:=X.A.mark (some (.ref a)),calm:=false,pn:=(dx,od) :: (a,oe) :: X.pn,xe:=fun _ _=>False }
section
variable {X:Cx} {zB:List (Addr × Obj)} {σ:St} {H H' H1:Hp} {s s1 s':Shared} {a dx:Addr} {oe od:Obj} {C:Value}
theorem Inv.inY (I:Inv X zB σ H s) (h:s.heap.get? a = some oe /\ H a = none /\ a ≠ X.env.locals /\ a ∉ X.fs /\ ∀ v,oe.data ≠ .cell v) (h':s.heap.get? dx = some od /\ H dx = none /\ dx ≠ X.env.locals /\ dx ∉ X.fs /\ ∀ v,od.data ≠ .cell v):Inv (inY X a oe dx od) zB σ H s :=
 ⟨⟨I.ok.mod,I.ok.kind,I.ok.glob,I.ok.blt,I.ok.above,I.ok.inj,I.ok.has,I.ok.cab,fun z=>Bool.noConfusion z,I.ok.frames,I.ok.stk,I.ok.exf,I.ok.bs,I.ok.bsz,I.ok.noex,I.ok.exfs,I.ok.funs,I.ok.frf⟩,I.os,I.bare,I.base,I.loc,I.cell,I.free,I.freeC,
  fun p hp=>by
   rcases zTW.mp hp with z | z
   ·rw [z]; exact h'
   ·rcases zTW.mp z with z | z
    ·rw [z]; exact h
    ·exact I.pin p z,I.hok,I.len⟩
theorem Inv.outY (ok:X.Ok) (I:Inv (L2.inY X a oe dx od) zB σ H s):Inv X zB σ H s :=
 ⟨ok,I.os,I.bare,I.base,I.loc,I.cell,I.free,I.freeC,fun p hp=>I.pin p (zTX _ (zTX _ hp)),I.hok,I.len⟩
end
end L2
namespace L3
open PySem PySem.Spec PyProof.Rows L2
def Dio (od:Obj) (m:Str -> Option Value):Prop:=∃ es ep,od.data = .dict es ep /\ StrKeys es /\ UniqKeys es /\ ∀ name,nsFind es name = m name
structure Hld (X:Cx) (C a:Addr) (oe:Obj) (dx:Addr) (od:Obj) (m:Str -> Option Value):Prop where
 p1:(a,oe) ∈ X.pn
 p2:(dx,od) ∈ X.pn
 h1:oe.cls = .ref C
 h2:oe.dict = some dx
 h3:∃ vs,oe.data = .fields vs
 h4:Dio od m
theorem Hld.isx (h:Hld X C a oe dx od m) (I:L2.Inv X zB σ H s):zI8 C a dx m s.heap:=by
 obtain ⟨vs,h3⟩:=h.h3;obtain ⟨es,ep,d1,d2⟩:=h.h4;exact ⟨oe,vs,(I.pin _ (zUe _ h.p1)).1,h.h1,h.h2,h3,od,es,ep,(I.pin _ (zUe _ h.p2)).1,d1,d2⟩
section
variable {X:Cx} {C CH a dx:Addr} {oe od:Obj} {m:Str -> Option Value}
theorem zMa (c:Xi X.K C CH) (hc:Xc X.K C) (h:Hld X C a oe dx od m):zBZ X (.builtin "isinstance") (zSB X.K C a):=by
 intro zB s σ H xs us Q I r hh;obtain ⟨y,b,rfl,hy,q⟩:=hh;cases r with
 | cons r1 r2=>
  cases r2 with
  | cons r3 r4=>
   cases r4;cases r1;have hx:zI8 C a dx m s.heap:=h.isx I;rcases hy with ⟨T,rfl,e⟩ | ⟨D,rfl,e⟩ | ⟨p,D1,D2,rfl,ht,e⟩
   ·cases r3;exact zU2 (zE7 c hc) I.kIn hx e (fun z=>nomatch z) fun tk=>⟨.bl b,H,I.tok _,rfl,q⟩
   ·cases r3;exact zU2 (zE7 c hc) I.kIn hx e (fun z=>nomatch z) fun tk=>⟨.bl b,H,I.tok _,rfl,q⟩
   ·cases r3;obtain ⟨_,its,rv,o,ho,oc,⟨n,od⟩,odd⟩:=(show zAE X.prog X.w H s.heap p (.tup [.ref D1,.ref D2]) from I.hok p _ ht);cases rv with
    | cons ra rb=>
     cases rb with
     | cons rc rd=>
      cases rd;cases ra;cases rc;obtain ⟨oc',od',oda,osl⟩:=o;simp only at oc od odd;subst oc od odd;exact PySem.W.kia_tup (its:=[.ref D1,.ref D2]) (zE7 c hc) I.kIn hx ho e (fun z=>nomatch z) fun tk=>⟨.bl b,H,I.tok _,rfl,q⟩
theorem zI3 (c:Xi X.K C CH) (hd:PySem.W.hasDictIn X.K C = true) (hf:PySem.W.findIn X.K (.ref C) f = some none) (h:Hld X C a oe dx od m) (hm:m f = some u) (r:zt v u)
  (he:PE X e ta) (hb:attributeBase e f X.env (eval e X.env) = eval e X.env):PE X (.Attribute e f pos) (fun σ H Q=>ta σ H fun x H1=>x = .ref a /\ Q v H1):=by
 intro zB s σ H Q I hq;refine zOk hb (thn (he zB s σ H _ I hq) fun y s1 ⟨x,H1,I1,rx,ex,q⟩=>?_);subst ex;obtain rfl:y = Value.ref a:=rx;unfold getAttr;refine zTK (wpAny_mkText ?_);have hx:=h.isx I1;refine zNT (s:={ s1 with toks:=s1.toks + 1 }) c I1.kIn hx (v:=u) (fun {A E Q} q=>zIi (s:={ s1 with toks:=s1.toks + 1 }) c hd hf I1.kIn hx hm q) (fun {A E Q} q=>?_) ⟨v,H1,I1.tok _,r,q⟩;cases v with
 | non=>cases (show u = Value.none from r); exact zTM q
 | bl b=>cases (show u = Value.bool b from r); exact zTM q
 | int i=>obtain ⟨t,e⟩:=(show ∃ t,u = Value.int i t from r); cases e; exact zTM q
 | str i=>obtain ⟨t,e⟩:=(show ∃ t,u = Value.str i t from r); cases e; exact zTM q
 | byt i=>obtain ⟨t,e⟩:=(show ∃ t,u = Value.bytes i t from r); cases e; exact zTM q
 | flt i=>obtain ⟨t,e⟩:=(show ∃ t,u = Value.float i t from r); cases e; exact zTM q
 | ref i=>cases (show u = Value.ref i from r); exact zTM q
 | ty i=>cases (show u = Value.type i from r); exact zTM q
end
section
variable {X:Cx} {C CH a dx:Addr} {oe od:Obj} {n:Nat} {x:Str} {t1 t2:Tok} {i j:Nat} {xe xt y1 y3 y4:Str} {D1 D2:Addr} {pb p1 p2 p3 p4 p5 p6 p7 p8 p9 q1 q2 q3 q4 q5 q6 q7 r1 r2 r3 r4 r5 r6 r7 r8 r9 r10:Pos} {kt kt2 kb:Nat}
theorem zIH (c:Xi X.K C CH) (hc:Xc X.K C) (h:Hld X C a oe dx od (rw2 n x t1 t2)) (hd:PySem.W.hasDictIn X.K C = true) (hf1:PySem.W.findIn X.K (.ref C) "row" = some none) (hf2:PySem.W.findIn X.K (.ref C) "word" = some none)
  (k1:PySem.W.kitOne X.K (.ref C) (.type "ValueError") = some true) (k2:PySem.W.kitAny X.K (.ref C) [.ref D1,.ref D2] = some false)
  (hN:X.N.Nodup) (hi:X.N[i]? = some xt) (hxt:X.env.scope.names.lookup xt = some .local)
  (hj:X.N[j]? = some xe) (hv:Vis X.env.scope xe) (hg:Gl X "isinstance") (hm:X.mg "isinstance" = none)
  (g1:Gl X y1) (m1:X.mg y1 = some (.ref C)) (g2:Gl X "ValueError") (m2:X.mg "ValueError" = none) (g3:Gl X y3) (m3:X.mg y3 = some (.ref D1)) (g4:Gl X y4) (m4:X.mg y4 = some (.ref D2))
  (d0:(xe == ("__debug__" : Str)) = false) (d0':(xe == ("__classdict__" : Str)) = false) (d1:(y1 == ("__debug__" : Str)) = false) (d3:(y3 == ("__debug__" : Str)) = false) (d4:(y4 == ("__debug__" : Str)) = false) :
  PSs X [.Assign [.Name xt r1] (.Constant (.bool false) kb r2) r3,
    .If (.BoolOp .And [.Call (.Name "isinstance" p1) [.Name xe p2,.Name y1 p3] [] p4,.Call (.Name "isinstance" p6) [.Name xe p7,.Name "ValueError" p8] [] p9,.UnaryOp .Not (.Call (.Name "isinstance" q2) [.Name xe q3,.Tuple [.Name y3 q4,.Name y4 q5] kt q6] [] q7) q1] pb)
     [.Assign [.Name xt r4] (.Tuple [.Attribute (.Name xe r5) "row" r6,.Attribute (.Name xe r7) "word" r8] kt2 r9) r10] [] p5]
   (fun B σ H=>σ[j]? = some (some (.ref a)) /\ i ≠ j /\ ∀ p q,H p = none -> upd H p (.tup [.ref D1,.ref D2]) q = none -> B.nx ((σ.set i (some (.bl false))).set i (some (.ref q))) (upd (upd H p (.tup [.ref D1,.ref D2])) q (.tup [.int n,.str x]))):=by
 have cx:zBZ X (.builtin "isinstance") (zSB X.K C a):=zMa c hc h;have vr:∀ {p:Pos},PE X (.Name xe p) (zOW j):=fun {p}=>zMQ hj hv d0 d0'
 have ks:=PW.pt (zJ1 (X:=X) (pos:=pb) (zHm (zDE cx hg hm (by rfl) (zAc (vr (p:=p2)) (zAc (zFi (pos:=p3) (v:=.ref C) g1 m1 rfl d1) zDP)) (p:=p1) (pos:=p4)))
  (zJ1 (zHm (zDE cx hg hm (by rfl) (zAc (vr (p:=p7)) (zAc (zKr (pos:=p8) (v:=.ty "ValueError") g2 m2 (by rfl) rfl) zDP)) (p:=p6) (pos:=p9)))
  (zKw (zOD (pos:=q1) (zHm (zDE cx hg hm (by rfl) (zAc (vr (p:=q3)) (zAc (zHZ (x1:=kt) (pos:=q6) (zAc (zFi (pos:=q4) (v:=.ref D1) g3 m3 rfl d3) (zAc (zFi (pos:=q5) (v:=.ref D2) g4 m4 rfl d4) zDP))) zDP)) (p:=q2) (pos:=q7)))))))
 have at1:PE X (.Attribute (.Name xe r5) "row" r6) _:=zI3 (v:=.int n) (u:=.int n t1) c hd hf1 h ((zTc (by decide +kernel)).trans (zTZ rfl)) ⟨_,rfl⟩ (vr (p:=r5)) rfl;have at2:PE X (.Attribute (.Name xe r7) "word" r8) _:=zI3 (v:=.str x) (u:=.str x t2) c hd hf2 h (zTZ rfl) ⟨_,rfl⟩ (vr (p:=r7)) rfl
 have key:=zGH (zHk (pos':=r1) (pos:=r3) hN hi (.inl hxt) (zPr (X:=X) (b:=false) (j:=kb) (pos:=r2)) rfl (.inr hxt))
  (zFd (zMW (pos:=p5) ks (zFd (zHk (pos':=r4) (pos:=r10) hN hi (.inl hxt) (zHZ (x1:=kt2) (pos:=r9) (zAc at1 (zAc at2 zDP))) rfl (.inr hxt))) zKX))
 intro zB s σ H B I hh;refine key zB s σ H B I ?_;obtain ⟨hj,ne,q⟩:=hh;have hj':(σ.set i (some (.bl false)))[j]? = some (some (.ref a)):=by rw [zTo ne]; exact hj
 refine ⟨.ref a,hj',⟨.ref C,true,rfl,.inr (.inl ⟨C,rfl,by unfold PySem.W.kitOne; simp⟩),true,rfl,?_⟩⟩;refine (show (if true = true then _ else _) from (zTZ rfl) ▸ ?_);refine ⟨.ref a,hj',⟨.ty "ValueError", true,rfl,.inl ⟨_,rfl,k1⟩,true,rfl,?_⟩⟩;refine (show (if true = true then _ else _) from (zTZ rfl) ▸ ?_);refine ⟨.ref a,hj',(by decide:(2:Nat) <= sizeLine),fun p hp=>⟨.ref p,false,rfl,.inr (.inr ⟨p,D1,D2,rfl,zAX,k2⟩),false,rfl,?_⟩⟩;refine (show (if true = true then _ else _) from (zTZ rfl) ▸ ?_);exact ⟨.ref a,hj',rfl,.ref a,hj',rfl,(by decide:(2:Nat) <= sizeLine),fun y hy=>q p y hp hy⟩
end
end L3
namespace L2
open PySem PySem.Spec PyProof.Rows
section
variable {X:Cx} {zB:List (Addr × Obj)} {σ:St} {H H' H1:Hp} {s s1 s':Shared} {a C:Addr} {i:Nat} {x:Str}
theorem zPV (fl:zGN s.heap P a C i x) (hP:∀ b,s.heap.get? b = none -> P b) (hfr:∀ b ∈ fs,¬ P b)
  (h:∀ h',Near P fs s.heap h' -> zGN h' P a C i x -> Q () { s with heap:=h' }):wpAny M A (setFlight (.ref a) none) Q E s:=by
 obtain ⟨dx,t1,t2,fl,pd,ne,ns⟩:=fl;obtain ⟨oe,vs,h1,h2,h3,h4,h5,h6,h7⟩:=fl;have tb:∀ T,vs[1]? = some (.ref T) -> P T /\ ∃ oT ts,s.heap.get? T = some oT /\ oT.data = .fields ts:=fun T e=>by
  rcases h7 with h7 | ⟨T',oT,ts,a1,a2,a3,a4,a5,a6⟩
  ·rw [h7] at e; cases e
  ·rw [a1] at e; cases e;exact ⟨a3,oT,ts,a4,a5⟩
 have imp:∀ b,(b = a \/ vs[1]? = some (.ref b) \/ s.heap.get? b = none) -> P b:=fun b z=>by
  rcases z with z | z | z
  ·rw [z]; exact h6
  ·exact (tb b z).1
  ·exact hP b z
 have fl0:Fly s.heap (fun b=>b = a \/ vs[1]? = some (.ref b) \/ s.heap.get? b = none) a (.ref C) (some dx):=by
  refine ⟨oe,vs,h1,h2,h3,h4,h5,.inl rfl,h7.imp_right ?_⟩;rintro ⟨T,oT,ts,a1,a2,a3,a4⟩;exact ⟨T,oT,ts,a1,a2,.inr (.inl a1),a4⟩
 refine zLY (fs:=fs) fl0 fun h' n fy=>?_;obtain ⟨od,es,ep,d1,d2,d3⟩:=id ns;have nd:¬ (dx = a \/ vs[1]? = some (.ref dx) \/ s.heap.get? dx = none):=fun z=>by
  rcases z with z | z | z
  ·exact ne z
  ·obtain ⟨_,oT,ts,a1,a2⟩:=tb dx z;rw [d1] at a1; cases a1;rw [d2] at a2; cases a2
  ·rw [d1] at z; cases z
 exact h h' ⟨fun b o q z f=>n.keep b o q (fun y=>z (imp b y)) f,fun b o q z=>n.slot b o q fun y=>z (imp b y),n.there⟩ ⟨dx,t1,t2,fy.imp imp,pd,ne,ns.at fun o q=>n.keep dx o q nd fun z=>hfr dx z pd⟩
structure CauM (X:Cx) (zB:List (Addr × Obj)) (σ:St) (H1:Hp) (s1:Shared) (H':Hp) (s':Shared) (a C:Addr) (i:Nat) (x:Str):Prop where
 I:Inv X zB σ H1 s1
 os:s'.os = s1.os
 bare:AllBare s'.gens
 un:Un (frs X.stack) [] H1 H' s1.heap s'.heap
 hok:HOk X.prog X.w H' s'.heap
 fl:zGN s'.heap (fun b=>s1.heap.get? b = none /\ H' b = none) a C i x
theorem CauM.inv (c:CauM X zB σ H1 s1 H' s' a C i x):Inv X zB σ H' s':=c.I.call' c.os c.un c.hok c.bare fun b z=>absurd z (by simp)
theorem CauM.near (c:CauM X zB σ H1 s1 H' s' a C i x) (n:Near (fun b=>s1.heap.get? b = none /\ H' b = none) (frs X.stack) s'.heap h') (fy:zGN h' (fun b=>s1.heap.get? b = none /\ H' b = none) a C i x) :
  CauM X zB σ H1 s1 H' { s' with heap:=h' } a C i x:=by
 have np:∀ b o,s1.heap.get? b = some o -> ¬ (s1.heap.get? b = none /\ H' b = none):=fun b o e z=>by rw [z.1] at e; cases e
 refine ⟨c.I,c.os,c.bare,⟨fun b o q m hb hx=>?_,fun b o q m hb hx=>?_,c.un.free,fun b o q hx=>?_,c.un.tups,c.un.frzs,c.un.tbls⟩,fun b u e=>?_,fy⟩
 ·exact n.keep b o (c.un.keep b o q m hb hx) (np b o q) hb
 ·obtain ⟨sl,q1⟩:=c.un.slot b o q m hb hx;obtain ⟨sl2,q2⟩:=n.slot b _ q1 (np b o q);exact ⟨sl2,q2⟩
 ·obtain ⟨o1,q1⟩:=c.un.there b o q hx;exact n.there b o1 q1
 ·refine (c.hok b u e).stay (fun d v hc q=>?_) (fun _ q=>q) fun _ _ q=>q;have z:H' d ≠ none:=by
   rcases hc with rfl | hc
   ·rw [e]; simp
   ·rw [hc]; simp
  exact n.keep d v q (fun p=>z p.2) fun p=>z (c.inv.stkFree d p)
theorem CauM.hP (c:CauM X zB σ H1 s1 H' s' a C i x) (b:Addr) (hb:s'.heap.get? b = none):s1.heap.get? b = none /\ H' b = none:=by
 constructor
 ·cases q:s1.heap.get? b with
  | none=>rfl
  | some o=>
   obtain ⟨o',e⟩:=c.un.there b o q (by simp);rw [hb] at e; cases e
 ·cases q:H' b with
  | none=>rfl
  | some o=>
   obtain ⟨o',e⟩:=(c.hok b o q).got;rw [hb] at e; cases e
theorem CauM.hfr (c:CauM X zB σ H1 s1 H' s' a C i x) (b:Addr) (hb:b ∈ frs X.stack):¬ (s1.heap.get? b = none /\ H' b = none):=fun z=>by
 obtain ⟨_,o,e,_⟩:=c.I.stack.mem hb;rw [z.1] at e; cases e
theorem CauM.pin (c:CauM X zB σ H1 s1 H' s' a C i x) (h:s'.heap.get? b = some o) (p:s1.heap.get? b = none /\ H' b = none) (hc:∀ v,o.data ≠ .cell v):s'.heap.get? b = some o /\ H' b = none /\ b ≠ X.env.locals /\ b ∉ X.fs /\ ∀ v,o.data ≠ .cell v:=by
 refine ⟨h,p.2,fun z=>?_,fun z=>?_,hc⟩
 ·obtain ⟨m,⟨o,_,_,ho,_⟩,_⟩:=c.I.loc;rw [<- z,p.1] at ho; cases ho
 ·obtain ⟨_,o,e,_⟩:=c.I.funs.mem z;rw [p.1] at e; cases e
end
end L2
namespace L3
open PySem PySem.Spec PyProof.Rows L2
def zIW (i j:Nat) (g:FFM) (fa:FA):FS:=fun σ M=>match fa σ M with
 | some (ds,M1)=>match g ds M1 with
  | some (.inl (_,M2))=>some (.nx,σ,M2)
  | some (.inr (n,x,M2))=>match σ[j]? with
   | some none=>some (.nx,σ.set i (some (.tup [.int n,.str x])),M2)
   | _=>none
  | none=>none
 | none=>none
section
variable {X:Cx} {e:Expr} {es:List Expr} {fn xt xe xh:Str} {p pos pf pc pa px ph pi hp:Pos} {k:Nat} {f:Addr} {fd:FuncData} {ps:List Str} {C CH:Addr} {g:FFM} {fa:FA}
theorem zK0 (F:FnOk X.prog X.w X.K X.mg X.base (CXm C X.prog X.w) k f fd ps (spM X.K (e :: es).length g)) (hr:Room k X.A) (hg:Gl X fn) (hm:X.mg fn = some (.ref f)) (hk:PySem.W.keepIn X.K (.ref f) = true) (hb:zCI X.K fd ps [])
  (hxe:X.xe = fun _ _=>False) (ha:QA X (e :: es) fa) (hdb:(fn == ("__debug__" : Str)) = false) (he:starEach (e :: es) X.env = (false,eval e X.env) :: starEach es X.env) (hpl:(backTo pos (starEach es X.env)).any (·.1) = false)
  (I:L2.Inv X zB τ H s) (h:trA X.K fa τ H fun vs H1=>spM X.K (e :: es).length g vs H1 Q Ex) :
  wpAny (model X.prog X.w) X.A (eval (.Call (.Name fn p) (e :: es) [] pos) X.env) (EP X zB τ Q) (fun v s'=>∃ H1 s1,L2.Inv X zB τ H1 s1 /\ CXm C X.prog X.w X.stack H1 s1 Ex v s') s:=by
 refine wpAny_Call_Name_kw (zEP I hg hm ?_ hdb);refine PySem.W.callWith_K (h₀:=X.base) I.ok.mod.kin hk (zTq (ha.un pos zB s τ H _ I h) (fun us s1 ⟨vs,H1,I1,r,q⟩=>⟨I1.kIn,?_⟩) (fun v s1 z=>by rw [hxe] at z; exact z.elim)) he hpl;have hl:(us ++ []).length = ps.length:=by rw [zT9,<- r.length]; exact F.len _ _ _ _ q
 have hb':=hb s1 us I1.kIn hl;rw [zT9] at hb';refine wpAny_call (codeAny_mono (F.run X.A X.stack s1 H1 ⟨us,[]⟩ us vs Q Ex hr I1.env0 hb' r q) fun r s' hq=>?_);cases r with
 | error v=>exact ⟨H1,s1,I1,hq⟩
 | ok fl=>
  cases fl with
  | ret u=>exact I1.after hq
  | next=>exact False.elim hq
  | brk=>exact False.elim hq
  | cont=>exact False.elim hq
theorem zQX (k1:PySem.W.kitCls X.K (.ref C) (.ref CH) = some true) (k2:PySem.W.kitCls X.K (.ref CH) (.type "BaseException") = some true)
  (F:FnOk X.prog X.w X.K X.mg X.base (CXm C X.prog X.w) k f fd ps (spM X.K (e :: es).length g)) (hr:Room k X.A) (hg:Gl X fn) (hm:X.mg fn = some (.ref f)) (hk:PySem.W.keepIn X.K (.ref f) = true) (hb:zCI X.K fd ps [])
  (hxe:X.xe = fun _ _=>False) (hst:X.stack = X.env :: X.outer) (hfr:X.env.frame = some X.env.locals)
  (ha:QA X (e :: es) fa) (hl:zJA fa (e :: es).length) (hdb:(fn == ("__debug__" : Str)) = false) (he:starEach (e :: es) X.env = (false,eval e X.env) :: starEach es X.env) (hpl:(backTo pc (starEach es X.env)).any (·.1) = false)
  (hsw:swapsWith (.Call (.Name fn pf) (e :: es) [] pc) none pa.line X.env = pure false)
  (hN:X.N.Nodup) (hi:i < X.N.length) (hij:i ≠ j) (hj:X.N[j]? = some xe) (hxl:X.env.scope.names.lookup xe = some .local)
  (hgh:Gl X xh) (hmh:X.mg xh = some (.ref CH)) (hdh:(xh == ("__debug__" : Str)) = false)
  (ht:∀ (a:Addr) (oe:Obj) (dx:Addr) (od:Obj) (n:Nat) (x:Str) (t1 t2:Tok),Hld (L2.inY X a oe dx od) C a oe dx od (rw2 n x t1 t2) -> PSs (L2.inY X a oe dx od) (st0 :: su) (fun B σ H=>σ[j]? = some (some (.ref a)) /\ i ≠ j /\ ∀ p q,H p = none -> upd H p (.tup [.ref D1,.ref D2]) q = none -> B.nx ((σ.set i (some (.bl false))).set i (some (.ref q))) (upd (upd H p (.tup [.ref D1,.ref D2])) q (.tup [.int n,.str x])))) :
  QS X (.Try [.Expr (.Call (.Name fn pf) (e :: es) [] pc) pa] [.ExceptHandler (some (.Name xh ph)) (some xe) (st0 :: su) hp] [] [] pos) (zIW i j g fa):=by
 refine ⟨fun zB s τ H B I h=>?_⟩;obtain ⟨L,σ,M,o,σ',M',c0,rs,hf,q⟩:=h;unfold zIW at hf;split at hf
 ·rename_i ds M1 e1;refine wpAny_Try_except ?_;split at hf
  ·rename_i d M2 e2;cases hf;refine wpAny_execs_cons (wpAny_Expr_any (zTq (zK0 (Q:=fun v H'=>∃ L',Stp L H L' H' /\ Cor X.K L' M' H' /\ Rep L' H' d v) (Ex:=fun _ _ _=>False) F hr hg hm hk hb hxe ha hdb he hpl I ⟨L,σ,M,_,_,c0,rs,e1,fun L1 H1 vs s1 c1 r1=>⟨L1,ds,M1,c1,r1,hl _ _ _ _ e1,.inl ⟨d,_,e2,fun L2 H2 v s2 c2 r2=>⟨L2,s1.trans s2,c2,r2⟩⟩⟩⟩) ?_ ?_) I.quiet hsw)
   ·intro v s1 ⟨x,H1,I1,r1,L',st,co,rp⟩;refine wpAny_execs_nil ?_;refine wpAny_execs_nil ?_;exact ⟨_,H1,I1,q L' H1 st co _ (rs.stp st)⟩
   ·rintro v s' ⟨H1,s1,I1,a,n,x,H',rfl,_,_,_,_,_,z⟩;exact z.elim
  ·rename_i n y M2 e2;split at hf
   ·rename_i hjn;cases hf;refine wpAny_execs_cons (wpAny_Expr_any (zTq (zK0 (Q:=fun v H'=>False) (Ex:=fun C' _ H'=>C' = .str y n /\ ∃ L',Stp L H L' H' /\ Cor X.K L' M' H') F hr hg hm hk hb hxe ha hdb he hpl I ⟨L,σ,M,_,_,c0,rs,e1,fun L1 H1 vs s1 c1 r1=>⟨L1,ds,M1,c1,r1,hl _ _ _ _ e1,.inr ⟨n,y,_,e2,fun L2 H2 s2 c2=>⟨rfl,L2,s1.trans s2,c2⟩⟩⟩⟩) ?_ ?_) I.quiet hsw)
    ·rintro v s1 ⟨x,H1,I1,r1,z⟩;exact z.elim
    ·rintro v s' ⟨H1,s1,I1,a,n',y',H',rfl,os,bare,un,hok,fl,hh,L',st,co⟩;obtain ⟨rfl,rfl⟩:y' = y /\ n' = n:=by injection hh with h1 h2; exact ⟨h1,h2⟩
     have ca:CauM X zB τ H1 s1 H' s' a C n' y':=⟨I1,os,bare,un,hok,fl⟩;have Ia:=ca.inv;refine zP6 (base:=X.base) (by rw [Ia.ok.frames,hst]) (by rw [<- hst]; exact Ia.stack) hfr fl (fun b hb=>ca.hP b hb) (fun b hb=>ca.hfr b (by rw [hst]; exact hb)) fun h' n fy=>?_;rw [<- hst] at n;have cb:=ca.near n fy;have Ib:=cb.inv;obtain ⟨dx,t1,t2,⟨oe,vs,f1,f2,f3,f4,f5,f6,f7⟩,f8,f9,f10⟩:=id cb.fl;have pa1:=cb.pin f1 f6 fun v z=>by rw [f4] at z; cases z
     obtain ⟨od,des,ep,d1,d2,d3⟩:=id f10;have pd1:=cb.pin d1 f8 fun v z=>by rw [d2] at z; cases z
     have Ic:=Ib.inY pa1 pd1;refine wpAny_handleBy_cons ?_ (by simp [byPass]);refine codeAny_handlers_test (zEP (X:=L2.inY X a oe dx od) Ic hgh hmh ?_ hdh);refine zLA Ib.kIn f1 f2 k1 k2 ?_;refine codeAny_handlers_suite_as (zPV (fs:=frs X.stack) cb.fl (fun b hb=>cb.hP b hb) (fun b hb=>cb.hfr b hb) fun h2 n2 fy2=>?_);have cc:=cb.near n2 fy2;have Id:=cc.inv;obtain ⟨dx2,t3,t4,⟨oe2,vs2,g1,g2,g3,g4,g5,g6,g7⟩,g8,g9,g10⟩:=id cc.fl;have pa2:=cc.pin g1 g6 fun v z=>by rw [g4] at z; cases z
     obtain ⟨od2,des2,ep2,d4,d5,d6⟩:=id g10;have pd2:=cc.pin d4 g8 fun v z=>by rw [d5] at z; cases z
     have Ie:=Id.inY pa2 pd2;refine zEq (X:=L2.inY X a oe2 dx2 od2) (v:=.ref a) Ie hN hj (.inl hxl) rfl (fun s3 I3=>?_) (.inr hxl);have hjl:j < τ.length:=by rw [I.len]; exact (zTN.mp hj).1
     have hld:Hld (L2.inY X a oe2 dx2 od2) C a oe2 dx2 od2 (rw2 n' y' t3 t4):=⟨zTX _ zTY,zTY,g2,g3,⟨_,g4⟩,⟨_,_,d5,d6⟩⟩;refine zTq (ht a oe2 dx2 od2 n' y' t3 t4 hld zB s3 _ H' ⟨fun τ4 H4=>∃ q L4,τ4 = (((τ.set j (some (.ref a))).set i (some (.bl false))).set i (some (.ref q))) /\ Stp L H L4 H4 /\ Cor X.K L4 M' H4 /\ H4 q = some (.tup [.int n',.str y']),fun _ _=>False,fun _ _=>False,fun _ _=>False⟩ I3 ⟨by rw [zUJ hjl],hij,fun p q hp hq=>⟨q,L',rfl,(st.trans (.upd hp)).trans (.upd hq),(co.upd hp).upd hq,zAX⟩⟩) ?_ fun _ _ z=>z.elim;intro fl4 s4 h4;cases fl4 with
     | next=>
      obtain ⟨τ4,H4,I4,q4,L4,rfl,st4,co4,ht4⟩:=h4;have I5:=Inv.outY I.ok I4;refine zTK (wpAny_bindName (zEq (v:=.non) I5 hN hj (.inl hxl) rfl (fun s5 I6=>?_) (.inr hxl)));unfold unbindBehindTheSuite;refine wpAny_onRaise (zLQ I6 hN hj hxl (v:=.non) (by rw [zUJ (by simpa using hjl)]) fun s6 I7=>?_);refine ⟨_,H4,I7,q L4 H4 st4 co4 _ ?_⟩;have rs4:=rs.stp st4;have il:i < τ.length:=by rw [I.len]; exact hi
      refine ⟨by simpa using rs4.1,fun m d y=>?_⟩;by_cases mi:m = i
      ·subst mi;rw [zUJ (by have:=rs4.1; omega)] at y;cases y;refine ⟨.ref q4,?_,?_⟩
       ·rw [zTo (Ne.symm hij),zTo (Ne.symm hij),zUJ (by simpa using il)]
       ·unfold Rep;refine ⟨q4,_,rfl,ht4,.cons (by unfold Rep; rfl) (.cons (by unfold Rep; rfl) .nil)⟩
      ·rw [zTo (Ne.symm mi)] at y;have nj:m ≠ j:=fun z=>by rw [z,hjn] at y; cases y
       obtain ⟨v,y1,y2⟩:=rs4.2 m d y;refine ⟨v,?_,y2⟩;rw [zTo (Ne.symm nj),zTo (Ne.symm nj),zTo (Ne.symm mi),zTo (Ne.symm mi),zTo (Ne.symm nj)];exact y1
     | ret v=>obtain ⟨_,_,_,_,_,z⟩:=h4; exact z.elim
     | brk=>obtain ⟨_,_,_,z⟩:=h4; exact z.elim
     | cont=>obtain ⟨_,_,_,z⟩:=h4; exact z.elim
   ·cases hf
  ·cases hf
 ·cases hf
end
def zPU:Stmt -> List Stmt
 | .ClassDef _ _ _ b _ _ _ _ _ _ _=>b
 | _=>[]
structure Ij (K:PySem.W.Frag) (C:Addr) (st:Stmt) where
 {f:Addr}
 {fd:FuncData}
 {qual:Str}
 {p1 p2 p3 p4 q1 q2 q3 q4:Pos}
 i:Ii K C f fd qual st p1 p2 p3 p4 q1 q2 q3 q4
structure Ig (K:PySem.W.Frag) (C:Addr) (st:Stmt) where
 f:Addr
 qual:Str
 {od an:Option Addr}
 {sl:Array (Option Value)}
 {oc kV dc pm cd ct:Value}
 ini:PySem.W.findIn K (.ref C) "__init__" = some (some (.ref f))
 fn:PySem.W.typeIn K (.ref f) = some (.type "function")
 ht1:PySem.W.findIn K (.ref C) "row" = some none
 ht2:PySem.W.findIn K (.ref C) "word" = some none
 l:K.lookup f = some ⟨oc,od,.func (PySem.W.fnOf "__init__" qual (zCG st) (zAj st) (zG st) .none kV dc pm an cd ct),sl⟩
 c:PySem.W.codeIn K cd qual = true
 k:PySem.W.keepIn K (.ref f) = true
abbrev Ig.ij {K:PySem.W.Frag} {C:Addr} {st:Stmt} {p1 p2 p3 p4 q1 q2 q3 q4:Pos} (g:Ig K C st) (S:FnScope psI psI (zG st))
  (hbd:zAj st = [.Assign [.Attribute (.Name "self" p1) "row" p2] (.Name "row" p3) p4,.Assign [.Attribute (.Name "self" q1) "word" q2] (.Name "word" q3) q4])
  (hl1:(zG st).names.lookup ("self" : Str) = some .local) (hl2:(zG st).names.lookup ("row" : Str) = some .local) (hl3:(zG st).names.lookup ("word" : Str) = some .local)
  (hb:∀ (kV doc pm:Value) (an:Option Addr) (cdv ct:Value) (us:List Value),us.length = psI.length -> bindArgs (PySem.W.fnOf "__init__" g.qual (zCG st) (zAj st) (zG st) .none kV doc pm an cdv ct) ⟨us,[]⟩ = pure (psI.zip us)):Ij K C st :=
 ⟨⟨g.ini,g.fn,g.ht1,g.ht2,zHF g.l g.c g.k,S,hbd,(zHF g.l g.c g.k).binds hb,hl1,hl2,hl3⟩⟩
open Builtin.Str
section
variable {X:Cx} {a b:Expr} {f g:FE} {pos:Pos}
def zNN:K2:=fun x y M=>match x,y with
 | .dat (.str b),.dat (.str a)=>match b.cps.toList with
  | [c]=>some (.dat (.bl (ixL c a.cps.toList).isSome),M)
  | _=>none
 | _,_=>none
theorem zPG {K:PySem.W.Frag}:zA7 K (fun x y H Q=>∃ i j,x = .str i /\ y = .str j /\ Q (.bl (!(occurrences j i 0 j.length 1).isEmpty)) H) zNN:=by
 intro L M M' H H0 x y d v w Q cc rx ry hk q;unfold zNN at hk;split at hk
 ·rename_i b a;split at hk
  ·rename_i c hz;cases hk;refine ⟨b,a,zAA rx,zAA ry,?_⟩;have e:(!(occurrences a b 0 a.length 1).isEmpty) = (ixL c a.cps.toList).isSome:=by
    rw [zOE hz,zTI];cases ixL c a.cps.toList <;> rfl
   rw [e];exact q L H _ (.refl L H) cc (zAp (L:=L) (H:=H))
  ·cases hk
 ·cases hk
theorem zSC (h1:QE X a f) (h2:QE X b g) (hm:behindInMarks .In b = false:=by rfl):QE X (.Compare a [.In] [b] pos) (fOp zNN f g):=zMN zPG zLp h1 h2 hm
end
section
variable {X:Cx} {a b e o:Expr} {pos p apos cpos:Pos} {f g:FE}
theorem zGk (xs:List Str):(xs.map V.str).all zEm = true:=by
 rw [zTv]; intro x hx; obtain ⟨i,_,rfl⟩:=zTb.mp hx; rfl
theorem zOg (i:Str) (xs:List Str):inV (.str i) (xs.map V.str) = decide (i ∈ xs):=by
 unfold inV;rw [List.any_map,zV2,List.any_eq_true,decide_eq_true_iff];constructor
 ·rintro ⟨y,hy,h⟩;have h:(y == i) = true:=h;rw [<- zVL.mp h]; exact hy
 ·intro h;exact ⟨i,h,show (i == i) = true from beq_self_eq_true i⟩
def zGg (neg:Bool):K2:=fun x y M=>match x with
 | .dat (.str i)=>match zAV M y with
  | some ds=>match zB4 ds with
   | some xs=>some (.dat (.bl (if neg then !(decide (i ∈ xs)) else decide (i ∈ xs))),M)
   | none=>none
  | none=>none
 | _=>none
theorem zKL {K:PySem.W.Frag} {neg:Bool}:zA7 K (rIn K neg) (zGg neg):=by
 intro L M M' H H0 x y d v w Q cc rx ry hk q;unfold zGg at hk;split at hk
 ·rename_i i;split at hk
  ·rename_i ds e1;split at hk
   ·rename_i xs e2;cases hk;have ev:v = .str i:=by unfold zd Rep at rx; exact rx
    obtain ⟨p,vs,rfl,hs,r⟩:=zFg cc ry e1;have:=zB2 e2 r;subst this;refine ⟨p,_,rfl,hs,by rw [ev]; rfl,zGk xs,?_⟩;rw [ev,zOg];exact q L H _ (.refl L H) cc (zAp (L:=L) (H:=H))
   ·cases hk
  ·cases hk
 ·cases hk
theorem zQ6 (h1:QE X a f) (h2:QE X b g) (hm:behindInMarks .In b = false:=by rfl):QT X (.Compare a [.In] [b] pos) (tst (fOp (zGg false) f g)):=zCk zKL zK9 h1 h2 hm
theorem zLO (h1:QE X a f) (h2:QE X b g) (hm:behindInMarks .NotIn b = false:=by rfl):QT X (.Compare a [.NotIn] [b] pos) (tst (fOp (zGg true) f g)):=zCk zKL zH0 h1 h2 hm
theorem zMF (i:Str):∀ {xs:List Str} {us:List Value},zg (xs.map V.str) us -> ∀ (j:Nat) (h1:j < us.length) (h2:j < xs.length),eqU (.str i) us[j] = (xs[j] == i):=by
 intro xs us r j h1 h2;obtain ⟨o,g2,t2⟩:=r.get (show (xs.map V.str)[j]? = some (V.str xs[j]) by rw [zTh,zTO h2]; rfl);rw [zTO h1] at g2;cases g2;rw [zKK t2 rfl]; rfl
theorem zLo:MtM X "list.index" (fun x vs H Q=>∃ (l:Addr) (i:Str) (xs:List Str),x = .ref l /\ vs = [.str i] /\ H l = some (.lst (xs.map V.str)) /\ xs.length <= 90000 /\ i ∈ xs /\ Q (.int (xs.idxOf i)) H):=by
 intro zB s σ H x xs v us Q I rx rv z;obtain ⟨p,i,ns,rfl,rfl,hp,hz,hi,q⟩:=z;cases rx;obtain ⟨u,rfl,ru⟩:=rv.one;have ru0:zt (.str i) u:=ru;obtain ⟨t,rfl⟩:=ru;obtain ⟨z,its,n,r,hl,ee⟩:=I.lstM hp;have hlen:its.length = ns.length:=by have:=r.length; rw [zTT] at this; exact this.symm
 have hj:ns.idxOf i < ns.length:=List.idxOf_lt_length_iff.mpr hi
 refine call_meets PySem.F.slot_list_index ⟨_,ee,rfl⟩ PySem.F.entry_list_index (PySem.F.args_list_index_2 _ _)
  (PySem.SeqAt.list_indexAt p its.toArray n none #[] (.str i t) (eqU (.str i)) (ns.idxOf i) (by simpa [hlen] using hj) (by omega) ?_ ?_) ⟨ee,fun y hy=>zCh ru0 rfl r (zGk ns) y (by simpa using hy),⟨.int (ns.idxOf i),H,I.tok _,⟨_,rfl⟩,q⟩⟩
 ·show eqU (.str i) its[ns.idxOf i] = true;rw [zMF i r _ (by omega) hj,zVL];exact List.getElem_idxOf hj
 ·intro j hjs hlt;show eqU (.str i) its[j] = false;rw [zMF i r j (by simpa using hjs) (by omega)];have h3:=List.not_of_lt_findIdx (p:=(· == i)) (xs:=ns) hlt;simpa using h3
def zCH:KM:=fun x ds M=>match x,ds with
 | .dat (.ref n),[.str i]=>match M[n]? with
  | some (.lst ds)=>match zB4 ds with
   | some xs=>if i ∈ xs /\ xs.length <= 90000 then some (.int (xs.idxOf i),M) else none
   | none=>none
  | _=>none
 | _,_=>none
theorem zJ7 {K:PySem.W.Frag}:zO0 K (fun x vs H Q=>∃ (l:Addr) (i:Str) (xs:List Str),x = .ref l /\ vs = [.str i] /\ H l = some (.lst (xs.map V.str)) /\ xs.length <= 90000 /\ i ∈ xs /\ Q (.int (xs.idxOf i)) H) zCH:=by
 intro L M M' H H0 x ds d v vs Q c rx rd hk q;unfold zCH at hk;split at hk
 ·rename_i n i;split at hk
  ·rename_i ds e1;split at hk
   ·rename_i xs e2;split at hk
    ·rename_i hi;cases hk;unfold zd Rep at rx;obtain ⟨a,rfl,e4⟩:=rx;obtain ⟨ws,e5,r5⟩:=c.obj n a _ e4 e1;have ev:=zB2 e2 r5;subst ev;have rd1:vs = [V.str i]:=zB2 (bs:=[i]) rfl rd;exact ⟨a,i,xs,rfl,rd1,e5,hi.2,hi.1,q L H _ (.refl L H) c (by unfold Rep; rfl)⟩
    ·cases hk
   ·cases hk
  ·cases hk
 ·cases hk
theorem zN8 (h:QE X a f) (hg:QA X [e] fg) (hbase:attributeBase a "index" X.env (eval a X.env) = eval a X.env:=by rfl)
  (hfew:((backTo cpos (starEach [e] X.env)).all (fun x=> !x.1) && (backToKw cpos (keywordEach [] X.env)).all (fun x=>x.1.isSome) && decide ([e].length + ([]:List Keyword).length + (if ([]:List Keyword).isEmpty then 0 else 1) < 30)) = true:=by rfl)
  (hline:(apos.endLine == cpos.line) = true:=by rfl) (hs:starEach [e] X.env = (false,eval e X.env) :: starEach [] X.env:=by rfl) (hplain:(backTo cpos (starEach [] X.env)).any (·.1) = false:=by rfl) :
  QE X (.Call (.Attribute a "index" apos) [e] [] cpos) (fM zCH f fg) :=
 .mk <| PE.imp (zI1 PySem.F.plainAttrs_list PySem.F.slot_list_index PySem.F.type_list_index zLo h.un hg.un hbase hfew hline hs hplain) fun _ _ _ z=>zJs zJ7 z
end
end L3
namespace Law
open PySem PySem.Spec PyProof.Rows L2 L3
open PySem.Builtin.Str (occurrences partsBetween strSub subAt)
def zBj (c:Nat):List Nat -> List (List Nat)
 | []=>[[]]
 | x :: r=>if x = c then [] :: zBj c r else match zBj c r with
  | p :: ps=>(x :: p) :: ps
  | []=>[[x]]
def jnL (s:List Nat):List (List Nat) -> List Nat
 | []=>[]
 | [p]=>p
 | p :: q :: r=>p ++ (s ++ jnL s (q :: r))
theorem zCX:∀ {w:List Nat},c ∉ w -> ∀ L,zBj c (w ++ c :: L) = w :: zBj c L
 | [],_,L=>by rw [zVh,zBj,zTZ rfl]
 | x :: w,h,L=>by
  have hx:x ≠ c:=fun e=>h (by rw [e]; exact zTY);rw [List.cons_append,zBj,zTc hx,zCX (fun z=>h (zTX _ z)) L]
theorem zDY:∀ {w:List Nat},c ∉ w -> zBj c w = [w]
 | [],_=>rfl
 | x :: w,h=>by
  have hx:x ≠ c:=fun e=>h (by rw [e]; exact zTY);unfold zBj;rw [zTc hx,zDY (fun z=>h (zTX _ z))]
theorem zJj:∀ {ps:List (List Nat)},ps ≠ [] -> (∀ p ∈ ps,c ∉ p) -> zBj c (jnL [c] ps) = ps
 | [],h,_=>absurd rfl h
 | [p],_,h=>zDY (h p (by simp))
 | p :: q :: r,_,h=>by
  show zBj c (p ++ ([c] ++ jnL [c] (q :: r))) = _;rw [List.singleton_append,zCX (h p (by simp)),zJj (by simp) fun x hx=>h x (zTX _ hx)]
def tok (L:List Nat):List (List Nat):=(zBj 32 L).filter fun w=> !w.isEmpty
theorem zQF (L:List Nat):tok (32 :: L) = tok L:=by
 unfold tok;rw [show zBj 32 (32 :: L) = [] :: zBj 32 L from zCX (w:=[]) (by simp) L]; rfl
theorem zHt:∀ (k:Nat) (L:List Nat),tok (List.replicate k 32 ++ L) = tok L
 | 0,L=>rfl
 | k + 1,L=>by rw [zUi,List.cons_append,zQF,zHt k L]
theorem zJR (h0:w ≠ []) (h:32 ∉ w) (L:List Nat):tok (w ++ 32 :: L) = w :: tok L:=by
 unfold tok;rw [zCX h,List.filter_cons,zTZ (by cases w with | nil=>exact absurd rfl h0 | cons _ _=>rfl)]
theorem zPh (h0:w ≠ []) (h:32 ∉ w):tok w = [w]:=by
 unfold tok;rw [zDY h,List.filter_cons,zTZ (by cases w with | nil=>exact absurd rfl h0 | cons _ _=>rfl)]; rfl
theorem zKo (b:Nat):tok (List.replicate b 32) = []:=by
 have:=zHt b [];rw [zT9] at this;rw [this]; rfl
theorem zMJ (g b:Nat):∀ {ws:List (List Nat)},(∀ w ∈ ws,w ≠ [] /\ 32 ∉ w) -> tok (jnL (List.replicate (g + 1) 32) ws ++ List.replicate b 32) = ws
 | [],_=>zKo b
 | [w],h=>by
  obtain ⟨h0,h1⟩:=h w (by simp);show tok (w ++ List.replicate b 32) = [w];cases b with
  | zero=>rw [List.replicate_zero,zT9]; exact zPh h0 h1
  | succ b=>rw [zUi,zJR h0 h1,zKo]
 | w :: q :: r,h=>by
  obtain ⟨h0,h1⟩:=h w (by simp);show tok (w ++ (List.replicate (g + 1) 32 ++ jnL (List.replicate (g + 1) 32) (q :: r)) ++ List.replicate b 32) = _;rw [zUV,zUi,List.cons_append,List.cons_append,zJR h0 h1,zUV,zHt,<- zUi,zMJ g b fun x hx=>h x (zTX _ hx)]
abbrev tx (L:List Nat):Str:=⟨L.toArray⟩
theorem zC6 (x:Str):tx x.cps.toList = x:=by cases x; simp
theorem zBp (L:List Nat):(tx L).length = L.length:=by simp [Str.length]
theorem zN7 (s:Str):∀ (ys:List Str),(Txt.join s ys).cps.toList = jnL s.cps.toList (ys.map fun y=>y.cps.toList):=by
 intro ys;unfold Txt.join;rw [StrLaws.glued_eq_join];induction ys with
 | nil=>rfl
 | cons y ys ih=>
  cases ys with
  | nil=>rfl
  | cons z r=>
   show (y ++ s ++ Str.join s (z :: r)).cps.toList = _;rw [Str.cps_append,Str.cps_append,Array.toList_append,Array.toList_append,ih,zUV]; rfl
theorem zOb (s:List Nat) (ws:List (List Nat)):Txt.join (tx s) (ws.map tx) = tx (jnL s ws):=by
 rw [<- zC6 (Txt.join (tx s) (ws.map tx)),zN7];simp [zTi,Function.comp_def]
def zIX (x:Str) (c a k:Nat):List Nat:=(List.range' a k).filter fun i=>decide (x.cps.toList[i]? = some c)
theorem zHq (x:Str) (c i:Nat):(i + (⟨#[c]⟩:Str).length <= x.length /\ subAt x ⟨#[c]⟩ i = true) ↔ x.cps.toList[i]? = some c:=by
 have hl:(⟨#[c]⟩:Str).length = 1:=rfl;have hx:x.cps.toList.length = x.length:=by simp [Str.length]
 have e:((x.cps.toList.drop i).take 1 = [c]) ↔ x.cps.toList[i]? = some c:=by
  have:=List.getElem?_drop (xs:=x.cps.toList) (i:=i) (j:=0);rw [Nat.add_zero] at this;rw [<- this];cases x.cps.toList.drop i with
  | nil=>simp
  | cons a r=>simp
 rw [hl,StrLaws.subAt_eq,hl,zVL,e];refine ⟨fun h=>h.2,fun h=>⟨?_,h⟩⟩;have:=(zTN.mp h).1;omega
theorem zHS (x:Str) (c limit:Nat):∀ (k a:Nat) (st:Array Nat × Nat),st.2 <= a -> st.1.size + k <= limit -> (forIn (List.range' a k) st (StrLaws.occBody x ⟨#[c]⟩ x.length limit)).run.fst.toList = st.1.toList ++ zIX x c a k
 | 0,a,st,_,_=>by unfold zIX; simp
 | k + 1,a,st,h1,h2=>by
  rw [List.range'_succ,zV0];unfold StrLaws.occBody zIX;rw [List.range'_succ,List.filter_cons];by_cases h:x.cps.toList[a]? = some c
  ·rw [zTZ ⟨⟨⟨by omega,h1⟩,((zHq x c a).mpr h).1⟩,((zHq x c a).mpr h).2⟩,zTZ (by simpa using h)];have:=zHS x c limit k (a + 1) (st.1.push a,a + (⟨#[c]⟩:Str).length) (by show a + 1 <= a + 1; omega) (by simp; omega);refine Eq.trans this ?_;unfold zIX;simp
  ·rw [zTc (fun z=>h ((zHq x c a).mp ⟨z.1.2,z.2⟩)),zTc (by simpa using h)];exact zHS x c limit k (a + 1) (st.1,st.2) (by show st.2 <= a + 1; omega) (by show st.1.size + k <= limit; omega)
theorem zO9 (x:Str) (c:Nat):occurrences x ⟨#[c]⟩ 0 x.length (x.length + 1) = zIX x c 0 (x.length + 1):=by
 rw [StrLaws.occ_eq,Nat.sub_zero,zHS x c (x.length + 1) (x.length + 1) 0 (#[],0) (zTQ _) (by simp)]; rfl
theorem zE2 (x:Str) (c:Nat):∀ (k b a:Nat),a <= b -> b + k = x.length + 1 -> (∀ i,a <= i -> i < b -> x.cps.toList[i]? ≠ some c) -> StrLaws.partsFrom x 1 a (zIX x c b k) = (zBj c (x.cps.toList.drop a)).map tx
 | 0,b,a,hab,hb,hn=>by
  show [strSub x a x.length] = _;have hl:x.cps.toList.length = x.length:=by simp [Str.length]
  rw [zDY]
  ·show [strSub x a x.length] = [tx (x.cps.toList.drop a)];congr 1;rw [<- zC6 (strSub x a x.length)];congr 1;rw [StrLaws.strSub_toList];exact zUv (by rw [zVs]; omega)
  ·intro z;obtain ⟨i,hi,e⟩:=List.mem_iff_getElem.mp z;rw [List.getElem_drop] at e;rw [zVs] at hi;refine hn (a + i) (by omega) (by omega) ?_;rw [zTO (by omega),e]
 | k + 1,b,a,hab,hb,hn=>by
  have hl:x.cps.toList.length = x.length:=by simp [Str.length]
  unfold zIX;rw [List.range'_succ,List.filter_cons];by_cases h:x.cps.toList[b]? = some c
  ·rw [zTZ (by simpa using h)];show strSub x a b :: StrLaws.partsFrom x 1 (b + 1) (zIX x c (b + 1) k) = _;have hbl:b < x.cps.toList.length:=(zTN.mp h).1;rw [zE2 x c k (b + 1) (b + 1) (zTQ _) (by omega) fun i h1 h2=>absurd h1 (by omega)];have e1:x.cps.toList.drop a = (x.cps.toList.drop a).take (b - a) ++ c :: x.cps.toList.drop (b + 1):=by
    conv=>lhs; rw [<- List.take_append_drop (b - a) (x.cps.toList.drop a)]
    congr 1;rw [List.drop_drop,show a + (b - a) = b by omega,zXR hbl];congr 1;rw [zTO hbl] at h;exact zUP h
   rw [e1,zCX,zTd]
   ·congr 1;rw [<- zC6 (strSub x a b),StrLaws.strSub_toList]
   ·intro z;obtain ⟨i,hi,e⟩:=List.mem_iff_getElem.mp z;rw [zUn,zVs] at hi;rw [List.getElem_take,List.getElem_drop] at e;refine hn (a + i) (by omega) (by omega) ?_;rw [zTO (by omega),e]
  ·rw [zTc (by simpa using h)];exact zE2 x c k (b + 1) a (by omega) (by omega) fun i h1 h2=>by
    by_cases e:i = b
    ·rw [e]; exact h
    ·exact hn i h1 (by omega)
theorem zMA (x:Str) (hc:c < 256):zCP x ⟨#[c]⟩ = (zBj c x.cps.toList).map tx:=by
 have key:partsBetween x (occurrences x ⟨#[c]⟩ 0 x.length (x.length + 1)) (⟨#[c]⟩:Str).length = (zBj c x.cps.toList).map tx:=by
  rw [StrLaws.partsBetween_eq,zO9];exact zE2 x c (x.length + 1) 0 0 (zTQ _) (by omega) fun i h1 h2=>absurd h2 (Nat.not_lt_zero _)
 have one:c ∉ x.cps.toList -> [x] = (zBj c x.cps.toList).map tx:=fun h=>by
  rw [zDY h]; show [x] = [tx x.cps.toList]; rw [zC6]
 unfold zCP;split
 ·rename_i h;rw [Bool.or_eq_true,zUc,zUc] at h;refine one fun z=>?_;rcases h with h | h
  ·have:=List.length_pos_of_mem z;have hl:(⟨#[c]⟩:Str).length = 1:=rfl;have hx:x.cps.toList.length = x.length:=by simp [Str.length]
   omega
  ·have:PySem.Builtin.Str.strKind (⟨#[c]⟩:Str) = 1:=by unfold PySem.Builtin.Str.strKind; rw [zTZ (by simpa using hc)]
   rw [this] at h;have:1 <= PySem.Builtin.Str.strKind x:=by unfold PySem.Builtin.Str.strKind; split <;> (try split) <;> omega
   omega
 ·split
  ·rename_i h;rw [List.isEmpty_iff] at h;rw [h] at key;rw [<- key];unfold partsBetween;simp [strSub,Str.length]
  ·exact key
noncomputable def zDH:FS:=(zS (zAF 1 (fOp zAR (fB zAx (zN (zC 0) zc)) (fC (.int 3))))
  (zS (zFY (zAO (fSl (zC 0) zw (zu (fC (.int 63))))) (gN 2) (zAF 1 (fOp zDu (fOp zAR (fOp zAR (fOp zGZ (zC 1) (fC (.int 6364136223846793))) (fOp zDu (zC 2) (fOp zMv (fC (.int 10)) (fC (.int 30))))) (fC (.int 1442695040888963))) (fC (.int 2305843009213693951)))))
  (zr (zp (zD (toD (zv [2] (zAO (fSl (zC 0) zw (zu (fC (.int 63))))) (gN 2) (tst (fOp kGe (fB zLl (zN (zC 2) zc)) (fOp zMv (fC (.int 10)) (fC (.int 18))))) (fB zLl (zN (zC 2) zc)))) (zD (toD (zC 1)) zH))))))
noncomputable def zBW:FF:=zCF 3 zDH
noncomputable def zEI:FS:=(zS (zBq (zBs (tst (fOp kNe (fOp kIx (zC 0) (fC (.int 0))) (zp zH))) (tst (fOp kEq (fOp kIx (fOp kIx (zC 0) (fC (.int 0))) (fC (.int 0))) (fC (.int 0))))) (zDC (fM zIh (fOp kIx (zC 0) (fC (.int 0))) (zD (toD (fC (.int 0))) zH))) 100)
  (zS (sIf (tst (fOp kNe (fOp kIx (zC 0) (fC (.int 0))) (zp zH))) (zS (zAF 2 (fOp zDu (fOp kIx (fOp kIx (zC 0) (fC (.int 0))) (fC (.int 0))) (zC 1)))
  (zS (zLf (fOp zLZ (fOp kIx (fOp kIx (zC 0) (fC (.int 0))) (fC (.int 0))) (zC 1)) (fOp kIx (zC 0) (fC (.int 0))) (fC (.int 0)))
  (zr (zC 2)))) zAw)
  (zS (zLf (fOp zDu (fOp zAR (fOp zGZ (fOp kIx (zC 0) (fC (.int 1))) (fC (.int 6364136223846793))) (fC (.int 1442695040888963))) (fC (.int 2305843009213693951))) (zC 0) (fC (.int 1)))
  (zr (fOp zDu (fOp zLZ (fOp zDu (fOp zGZ (fOp kIx (zC 0) (fC (.int 1))) (fOp kIx (zC 0) (fC (.int 1)))) (fC (.int 2305843009213693921))) (fC (.int 65537))) (zC 1))))))
noncomputable def zP:FF:=zCF 3 zEI
structure Gen (M:Mem) (n k:Nat):Prop where
 ex:∃ (c:List Int) (s:Int),M[n]? = some (.lst [.ref k,.int s]) /\ M[k]? = some (.lst (c.map D.int)) /\ (∀ x ∈ c,0 <= x) /\ c.length <= 63 /\ 0 <= s /\ s < 2305843009213693951
 ne:n ≠ k
 wf:∀ (j:Nat) u,M[j]? = some u -> MO.und M.length u = true
structure Nx (M M':Mem) (n k:Nat):Prop where
 gen:Gen M' n k
 len:M'.length = M.length
 fr:∀ j,j ≠ n -> j ≠ k -> M'[j]? = M[j]?
theorem Nx.refl (h:Gen M n k):Nx M M n k:=⟨h,rfl,fun _ _ _=>rfl⟩
theorem Nx.trans {M M1 M2:Mem} {n k:Nat} (a:Nx M M1 n k) (b:Nx M1 M2 n k):Nx M M2 n k:=⟨b.gen,b.len.trans a.len,fun j h1 h2=>(b.fr j h1 h2).trans (a.fr j h1 h2)⟩
theorem zBz (n:Nat):∀ c:List Int,D.unds n (c.map D.int) = true
 | []=>rfl
 | x :: r=>by
  show (D.und n (D.int x) && D.unds n (r.map D.int)) = true;rw [zBz n r]; rfl
theorem Gen.lt (h:Gen M n k):n < M.length /\ k < M.length:=by
 obtain ⟨c,s,e1,e2,_⟩:=h.ex;exact ⟨(zTN.mp e1).1,(zTN.mp e2).1⟩
theorem Gen.put {M:Mem} (h:Gen M n k) {c:List Int} (hc:∀ x ∈ c,0 <= x) (hl:c.length <= 63) (h0:0 <= s) (h1:s < 2305843009213693951) :
  Nx M ((M.set k (.lst (c.map D.int))).set n (.lst [.ref k,.int s])) n k:=by
 obtain ⟨hn,hk⟩:=h.lt;refine ⟨⟨⟨c,s,?_,?_,hc,hl,h0,h1⟩,h.ne,fun j u e=>?_⟩,by simp,fun j h1 h2=>?_⟩
 ·rw [zUJ (by simpa using hn)]
 ·rw [zTo h.ne,zUJ hk]
 ·rw [List.length_set,List.length_set];rw [zUy] at e;split at e
  ·split at e
   ·cases e;show D.unds _ _ = true;unfold D.unds D.unds D.unds D.und;simp [hk]
   ·cases e
  ·rw [zUy] at e;split at e
   ·rename_i z;subst z;cases e; exact zBz _ _
   ·exact h.wf j u e
 ·rw [zTo (Ne.symm h1),zTo (Ne.symm h2)]
theorem zFr {M:Mem} (h:M[k]? = some u):M.set k u = M:=by
 apply List.ext_getElem?;intro i;rw [zUy];split
 ·rename_i e; subst e;rw [zTZ (zTN.mp h).1]; exact h.symm
 ·rfl
theorem zIt:∀ {a b:List Int},a.map D.int = b.map D.int -> a = b
 | [],[],_=>rfl
 | [],_ :: _,h=>by cases h
 | _ :: _,[],h=>by cases h
 | x :: a,y :: b,h=>by
  rw [zTd,zTd] at h;have h1:=(List.cons.inj h).1;have h2:=zIt (List.cons.inj h).2;cases h1; rw [h2]
theorem at0 {x:D} {xs:List D}:atI (x :: xs) 0 = some x:=zMH (k:=0) rfl
theorem at1 {x y:D} {xs:List D}:atI (x :: y :: xs) 1 = some y:=zMH (k:=1) rfl
theorem zPa (h:Gen M n k) (h0:0 < m) (h1:m < 1073741824) :
  Ok (zP [.ref n,.int m] M) fun d M'=>(∃ i,d = .int i /\ 0 <= i /\ i < m) /\ Nx M M' n k:=by
 unfold zP;rw [zAg];unfold zEI;show OkS (zS _ _ [some (.ref n),some (.int m),none] M) _;rw [zM];have st:∀ {M:Mem} {c:List Int} {s:Int} {σ:Sd} {P:EV -> Mem -> Prop},σ[0]? = some (some (.ref n)) -> M[n]? = some (.lst [.ref k,.int s]) -> P (.dat (.ref k)) M -> Ok (fOp kIx (zC 0) (fC (.int 0)) σ M) P:=fun hσ hM p=>
  zb.mpr (zV.mpr ⟨_,hσ,zAL.mpr (zMC (za hM) at0 p)⟩)
 have sd:∀ {M:Mem} {s:Int} {σ:Sd} {P:EV -> Mem -> Prop},σ[0]? = some (some (.ref n)) -> M[n]? = some (.lst [.ref k,.int s]) -> P (.dat (.int s)) M -> Ok (fOp kIx (zC 0) (fC (.int 1)) σ M) P:=fun hσ hM p=>
  zb.mpr (zV.mpr ⟨_,hσ,zAL.mpr (zMC (za hM) at1 p)⟩)
 have hd:∀ {M:Mem} {c:List Int} {x s:Int} {σ:Sd} {P:EV -> Mem -> Prop},σ[0]? = some (some (.ref n)) -> M[n]? = some (.lst [.ref k,.int s]) -> M[k]? = some (.lst ((x :: c).map D.int)) -> P (.dat (.int x)) M -> Ok (fOp kIx (fOp kIx (zC 0) (fC (.int 0))) (fC (.int 0)) σ M) P:=fun {M c x s σ P} hσ hM hK p=>
  zb.mpr (st (c:=c) hσ hM (zAL.mpr (zMC (za hK) at0 p)))
 have ne:∀ {M:Mem} {c:List Int} {s:Int} {σ:Sd} {P:Bool -> Mem -> Prop},σ[0]? = some (some (.ref n)) -> M[n]? = some (.lst [.ref k,.int s]) -> M[k]? = some (.lst (c.map D.int)) -> P (!c.isEmpty) M -> Ok (tst (fOp kNe (fOp kIx (zC 0) (fC (.int 0))) (zp zH)) σ M) P:=fun {M c s σ P} hσ hM hK p=>by
  refine zBP.mpr (zb.mpr (st (c:=c) hσ hM (zCw.mpr (zAr.mpr ⟨Nat.zero_le _,?_⟩))));rw [zFj (zAa hK) (by intro d e; cases e; rfl)];rw [zAK];simpa using p
 have W:∀ (fuel m':Nat) (σ:Sd) (M':Mem),m' < fuel -> ((σ = [some (.ref n),some (.int m),none] /\ Nx M M' n k) /\ ∃ (c:List Int) (s:Int),M'[n]? = some (.lst [.ref k,.int s]) /\ M'[k]? = some (.lst (c.map D.int)) /\ c.length = m') ->
   OkS (zBq (zBs (tst (fOp kNe (fOp kIx (zC 0) (fC (.int 0))) (zp zH))) (tst (fOp kEq (fOp kIx (fOp kIx (zC 0) (fC (.int 0))) (fC (.int 0))) (fC (.int 0))))) (zDC (fM zIh (fOp kIx (zC 0) (fC (.int 0))) (zD (toD (fC (.int 0))) zH))) fuel σ M')
    (fun o σ1 M1=>o = .nx /\ σ1 = [some (.ref n),some (.int m),none] /\ Nx M M1 n k):=by
  intro fuel m' σ M' hlt hI;refine zFA (I:=fun m' σ M'=>(σ = [some (.ref n),some (.int m),none] /\ Nx M M' n k) /\ ∃ (c:List Int) (s:Int),M'[n]? = some (.lst [.ref k,.int s]) /\ M'[k]? = some (.lst (c.map D.int)) /\ c.length = m') ?_ fuel m' σ M' hlt hI;rintro m' σ M' ⟨⟨rfl,nx⟩,c,s,e1,e2,hl⟩;refine zPb.mpr (ne rfl e1 e2 ?_);cases c with
  | nil=>simp; exact nx
  | cons x c=>
   simp only [List.isEmpty_cons,Bool.not_false,if_true];refine zBP.mpr (zb.mpr (hd rfl e1 e2 (zAL.mpr (zHV.mpr (zAK.mpr ?_)))));by_cases hx:x = 0
   ·rw [zTZ (by simpa using hx)];refine zDL.mpr (zLV.mpr (st (c:=c) rfl e1 ⟨⟨_,zAa e2⟩,zq.mpr (zAB.mpr (zAL.mpr (zK.mpr (zAr.mpr ?_))))⟩));rw [zTd] at e2;rw [zP8 e2];refine ⟨c.length,by rw [<- hl]; simp,?_⟩;obtain ⟨c',s',z1,z2,z3,z4,z5,z6⟩:=nx.gen.ex;rw [e1] at z1; cases z1;rw [e2] at z2;have hcc:c' = x :: c:=by
     have:(x :: c).map D.int = c'.map D.int:=by have:=z2; simp only [Option.some.injEq,MO.lst.injEq] at this; simpa using this
     exact (zIt this).symm
    subst hcc;have P:=nx.gen.put (c:=c) (s:=s) (fun y hy=>z3 y (zTX _ hy)) (by simp at z4; omega) z5 z6;have q:((M'.set k (.lst (c.map D.int))).set n (.lst [.ref k,.int s])) = M'.set k (.lst (c.map D.int)):=zFr (by rw [zTo (Ne.symm nx.gen.ne)]; exact e1);rw [q] at P;have hk:=nx.gen.lt.2;refine ⟨⟨rfl,nx.trans P⟩,c,s,?_,?_,rfl⟩
    ·rw [zTo (Ne.symm nx.gen.ne)]; exact e1
    ·rw [zUJ hk]
   ·rw [zTc (by simpa using hx)];first | exact ⟨rfl,rfl,nx⟩ | exact ⟨trivial,trivial,nx⟩ | simpa using nx
 obtain ⟨c,s,e1,e2,e3,e4,_⟩:=h.ex;refine OkS.mono (W 100 c.length _ M (by omega) ⟨⟨rfl,.refl h⟩,c,s,e1,e2,rfl⟩) ?_;rintro o σ M1 ⟨rfl,rfl,nx⟩;rw [zR,zM,zAI];obtain ⟨c,s,e1,e2,e3,e4,e5,e6⟩:=nx.gen.ex;refine ne rfl e1 e2 ?_;cases c with
 | nil=>
  simp only [List.isEmpty_nil,Bool.not_true,Bool.false_eq_true,if_false];rw [zAP,zR,zM,zKZ];refine zb.mpr (zb.mpr (zb.mpr (sd rfl e1 (zAL.mpr (zIs.mpr ⟨by simp [zIm] <;> omega,zAL.mpr (zBB.mpr (zAL.mpr (zDz.mpr ⟨by decide,?_⟩)))⟩)))));rw [zK];refine zV.mpr ⟨_,rfl,zAL.mpr ?_⟩;rw [zK];have hs0:0 <= (s * 6364136223846793 + 1442695040888963) % 2305843009213693951:=Int.emod_nonneg _ (by decide);have hs1:(s * 6364136223846793 + 1442695040888963) % 2305843009213693951 < 2305843009213693951:=Int.emod_lt_of_pos _ (by decide);generalize (s * 6364136223846793 + 1442695040888963) % 2305843009213693951 = s' at hs0 hs1;have P:=nx.gen.put (c:=[]) (s:=s') (fun _ h=>by cases h) (by simp) hs0 hs1;rw [zFr (show M1[k]? = some (.lst (([]:List Int).map D.int)) from e2)] at P;refine ⟨_,zJP (k:=1) e1 (by simp),?_⟩;rw [zR,zy];have e1':(M1.set n (.lst [.ref k,.int s']))[n]? = some (.lst [.ref k,.int s']):=zUJ nx.gen.lt.1;refine zb.mpr (zb.mpr (zb.mpr (zb.mpr (sd rfl e1' (sd rfl e1' (zIs.mpr ⟨by simp [zIm] <;> omega,zAL.mpr (zDz.mpr ⟨by decide,zAL.mpr (zNv.mpr ⟨by decide,zV.mpr ⟨_,rfl,zDz.mpr ⟨h0,?_⟩⟩⟩)⟩)⟩))))));rw [zK];exact ⟨⟨_,rfl,Int.emod_nonneg _ (by omega),Int.emod_lt_of_pos _ h0⟩,nx.trans P⟩
 | cons x c=>
  simp only [List.isEmpty_cons,Bool.not_false,if_true];rw [zM,zX];refine zb.mpr (hd rfl e1 e2 (zV.mpr ⟨_,rfl,zDz.mpr ⟨h0,?_⟩⟩));rw [zK,zR,zM,zKZ];refine zb.mpr (hd rfl e1 e2 (zV.mpr ⟨_,rfl,zNv.mpr ⟨⟨h0,h1⟩,?_⟩⟩));rw [zK];refine st (c:=c) rfl e1 (zAL.mpr ?_);rw [zK];refine ⟨_,zJP (k:=0) e2 (by simp),?_⟩;rw [zR,zy];refine zV.mpr ⟨_,rfl,?_⟩;rw [zK,zPL];have hx:=e3 x zTY;have P:=nx.gen.put (c:=(x / m) :: c) (s:=s) (fun y hy=>by
   rcases zTW.mp hy with z | z
   ·subst z; exact Int.ediv_nonneg hx (by omega)
   ·exact e3 y (zTX _ z)) (by simpa using e4) e5 e6
  rw [zFr (k:=n) (by rw [zTo (Ne.symm nx.gen.ne)]; exact e1)] at P;exact ⟨⟨_,rfl,Int.emod_nonneg _ (by omega),Int.emod_lt_of_pos _ h0⟩,nx.trans P⟩
theorem zIU (ns:List Int) (lo hi:Option Int):∃ c:List Int,L3.zC3 (ns.map D.int) lo hi = c.map D.int /\ c.length <= ns.length:=by
 refine ⟨(ns.drop (HT.sIx ns.length 0 lo)).take (HT.sIx ns.length ns.length hi - HT.sIx ns.length 0 lo),?_,?_⟩
 ·unfold L3.zC3;rw [zTT,List.map_take,List.map_drop]
 ·rw [zUn,zVs]; omega
theorem zD0 (h:x :: r = c.map D.int):∃ y c',c = y :: c' /\ x = .int y /\ r = c'.map D.int:=by
 cases c with
 | nil=>cases h
 | cons y c'=>rw [zTd] at h; exact ⟨y,c',rfl,(List.cons.inj h).1,(List.cons.inj h).2⟩
theorem zAm:zBJ none xs M:=trivial
theorem zk (h:n <= 100000):n <= sizeLine:=zTl h (by decide)
theorem zNq {ns:List Int} (h:ns.length <= 63):Ok (zBW [.ref 0] [.fro (ns.map D.int)]) fun d M'=>d = .ref 2 /\ Gen M' 2 1 /\ M'[0]? = some (.fro (ns.map D.int)) /\ M'.length = 3:=by
 unfold zBW;rw [zAg];unfold zDH;show OkS (zS _ _ [some (.ref 0),none,none] _) _;have e0:([.fro (ns.map D.int)]:Mem)[0]? = some (.fro (ns.map D.int)):=rfl;obtain ⟨cut,ec,lc⟩:=zIU ns none (some 63);have sl:∀ {σ:Sd} {P:EV -> Mem -> Prop},σ[0]? = some (some (.ref 0)) -> P (.fl (cut.map D.int)) [.fro (ns.map D.int)] -> Ok (fSl (zC 0) zw (zu (fC (.int 63))) σ [.fro (ns.map D.int)]) P:=fun hσ p=>by
  refine zP1.mpr (zV.mpr ⟨_,hσ,zIG.mpr (zIo.mpr (zAL.mpr (zIn.mpr ?_)))⟩);rw [zOF (zHB e0) rfl,ec]; exact p
 rw [zM,zX];refine zb.mpr (zIc.mpr (zBE.mpr (zV.mpr ⟨_,rfl,zBw.mpr ((zPo (zO3 e0)).mpr (zAL.mpr (zBB.mpr ?_)))⟩)));rw [zK,zR,zM,zCu];obtain ⟨x,M1,ex,px⟩:=sl (σ:=[some (.ref 0),some (.int (((ns.map D.int).length:Int) + 3)),none]) (P:=fun x M=>x = .fl (cut.map D.int) /\ M = [.fro (ns.map D.int)]) rfl ⟨rfl,rfl⟩;obtain ⟨rfl,rfl⟩:=px;refine ⟨_,_,_,zAi ex zBH,?_⟩;refine zDD (I:=fun r σ M=>M = [.fro (ns.map D.int)] /\ (∃ c:List Int,r = c.map D.int) /\ ∃ s y,σ = [some (.ref 0),some (.int s),y] /\ 0 <= s /\ s < 2305843009213693951) ?_ ?_ _ _ _ ⟨rfl,⟨cut,rfl⟩,_,none,rfl,by simp; omega,by simp; omega⟩
 ·rintro x r σ M ⟨rfl,⟨c,hc⟩,s,y,rfl,h0,h1⟩;obtain ⟨z,c',rfl,rfl,rfl⟩:=zD0 hc;refine ⟨zAm,_,rfl,?_⟩;rw [zX];refine zb.mpr (zb.mpr (zb.mpr (zb.mpr (zV.mpr ⟨_,rfl,zAL.mpr (zIs.mpr ⟨by simp [zIm],?_⟩)⟩))));refine zb.mpr (zV.mpr ⟨_,rfl,zb.mpr (zAL.mpr (zAL.mpr (zPw.mpr ⟨by decide,zDz.mpr ⟨by decide,zBB.mpr (zAL.mpr (zBB.mpr (zAL.mpr (zDz.mpr ⟨by decide,?_⟩))))⟩⟩)))⟩);rw [zK];exact ⟨rfl,⟨c',rfl⟩,_,_,rfl,Int.emod_nonneg _ (by decide),Int.emod_lt_of_pos _ (by decide)⟩
 ·rintro σ M ⟨rfl,_,s,y,rfl,h0,h1⟩;refine ⟨zAm,?_⟩;rw [zR,zy,zCw,zq,zAB,zCK];obtain ⟨x,M1,ex,px⟩:=sl (σ:=[some (.ref 0),some (.int s),y]) (P:=fun x M=>x = .fl (cut.map D.int) /\ M = [.fro (ns.map D.int)]) rfl ⟨rfl,rfl⟩;obtain ⟨rfl,rfl⟩:=px;refine ⟨_,_,_,zAi ex zBH,by rw [zTT]; exact zk (by omega),?_⟩;refine Ok.mono (zB8 (I:=fun r acc M=>M = [.fro (ns.map D.int)] /\ (∃ c:List Int,r = c.map D.int) /\ r.length + acc.length <= 63 /\ ∃ b:List Int,acc = b.map D.int /\ ∀ x ∈ b,0 <= x) (Q:=fun acc M=>M = [.fro (ns.map D.int)] /\ acc.length <= 63 /\ ∃ b:List Int,acc = b.map D.int /\ ∀ x ∈ b,0 <= x) ?_ ?_ _ [] _ ⟨rfl,⟨cut,rfl⟩,by simp; omega,[],rfl,fun _ h=>by cases h⟩) ?_
  ·rintro x r acc M ⟨rfl,⟨c,hc⟩,hl,b,rfl,hb⟩;obtain ⟨z,c',rfl,rfl,rfl⟩:=zD0 hc;refine ⟨zAm,_,rfl,?_⟩;refine zBP.mpr (zb.mpr (zIc.mpr (zBE.mpr (zV.mpr ⟨_,rfl,zBw.mpr (zPm.mpr (zb.mpr (zAL.mpr (zAL.mpr (zPw.mpr ⟨by decide,zRz.mpr (zAK.mpr ?_)⟩)))))⟩))));by_cases hz:(10:Int) ^ (18:Int).toNat <= (if z < 0 then -z else z)
   ·rw [zTZ (by simpa using hz)];refine zIc.mpr (zBE.mpr (zV.mpr ⟨_,rfl,zBw.mpr (zPm.mpr (zK.mpr ⟨rfl,⟨c',rfl⟩,?_,b ++ [if z < 0 then -z else z],by simp,?_⟩))⟩))
    ·simp at hl ⊢; omega
    ·intro y hy;rcases zTk.mp hy with q | q
     ·exact hb y q
     ·have:y = if z < 0 then -z else z:=by simpa using q
      rw [this]; split <;> omega
   ·rw [zTc (by simpa using hz)];exact ⟨rfl,⟨c',rfl⟩,by simp at hl ⊢; omega,b,rfl,hb⟩
  ·rintro acc M ⟨rfl,_,hl,hb⟩;exact ⟨zAm,rfl,by simpa using hl,hb⟩
  ·rintro ys M ⟨rfl,hl,b,hb,hp⟩;rw [zVh] at hb hl;subst hb;rw [zH2,zq,zAB,zV];refine ⟨_,rfl,?_⟩;rw [zK,zAr];refine ⟨zk (by simp),?_⟩;rw [zH2];refine ⟨rfl,⟨⟨b,s,rfl,rfl,hp,by simpa using hl,h0,h1⟩,by decide,?_⟩,rfl,rfl⟩;intro j u e;match j,e with
   | 0,e=>cases e; exact zBz _ _
   | 1,e=>cases e; exact zBz _ _
   | 2,e=>cases e; rfl
   | j + 3,e=>simp at e
mutual
theorem zEW (h:a <= b):∀ {d:D},D.und a d = true -> D.und b d = true
 | .non,_=>by unfold D.und; rfl
 | .bl _,_=>by unfold D.und; rfl
 | .int _,_=>by unfold D.und; rfl
 | .str _,_=>by unfold D.und; rfl
 | .tup ds,e=>by unfold D.und at e ⊢; exact zBO h e
 | .ref k,e=>by unfold D.und at e ⊢; simp at e ⊢; omega
 | .fn _ ds,e=>by unfold D.und at e ⊢; exact zBO h e
theorem zBO (h:a <= b):∀ {ds:List D},D.unds a ds = true -> D.unds b ds = true
 | [],_=>by unfold D.unds; rfl
 | d :: ds,e=>by
  unfold D.unds at e ⊢;rw [zTu] at e ⊢;exact ⟨zEW h e.1,zBO h e.2⟩
end
theorem zLv (h:a <= b) (e:MO.und a u = true):MO.und b u = true:=by
 cases u with
 | lst xs=>exact zBO h e
 | fro xs=>exact zBO h e
 | set xs=>exact zBO h e
 | dict kvs | dicT kvs | froT kvs | froK kvs=>
  unfold MO.und at e ⊢;rw [zTv] at e ⊢;intro p hp;have:=e p hp;rw [zTu] at this ⊢;exact ⟨zEW h this.1,zEW h this.2⟩
theorem zBY:∀ {xs:List D},(∀ x ∈ xs,D.und n x = true) -> D.unds n xs = true
 | [],_=>rfl
 | x :: xs,h=>by
  show (D.und n x && D.unds n xs) = true;rw [h x zTY,zBY fun y hy=>h y (zTX _ hy)]; rfl
theorem zJF (c:List Int):D.und n (.tup (c.map D.int)) = true:=by unfold D.und; exact zBz n c
theorem Gen.app (h:Gen A n k) (hu:∀ u ∈ us,MO.und (A.length + us.length) u = true):Gen (A ++ us) n k:=by
 obtain ⟨c,s,e1,e2,r⟩:=h.ex;obtain ⟨hn,hk⟩:=h.lt;refine ⟨⟨c,s,by rw [zTR hn]; exact e1,by rw [zTR hk]; exact e2,r⟩,h.ne,fun j u e=>?_⟩;rw [zTa];by_cases hj:j < A.length
 ·rw [zTR hj] at e;exact zLv (by omega) (h.wf j u e)
 ·rw [zUZ (by omega)] at e;exact hu u (zUG e)
theorem Nx.split (h:Gen A n k) (x:Nx (A ++ us) M n k):∃ A',M = A' ++ us /\ Nx A A' n k:=by
 obtain ⟨hn,hk⟩:=h.lt;have hl:=x.len;rw [zTa] at hl;have ed:M.drop A.length = us:=by
  apply List.ext_getElem?;intro i;rw [List.getElem?_drop,x.fr _ (by omega) (by omega),zUZ (by omega)];congr 1; omega
 refine ⟨M.take A.length,by rw [<- ed,List.take_append_drop],?_⟩;have tk:∀ j,j < A.length -> (M.take A.length)[j]? = M[j]?:=fun j hj=>List.getElem?_take_of_lt hj;have tl:(M.take A.length).length = A.length:=by rw [zUn]; omega
 obtain ⟨c,s,e1,e2,r⟩:=x.gen.ex;refine ⟨⟨⟨c,s,(tk n hn).trans e1,(tk k hk).trans e2,r⟩,h.ne,fun j u e=>?_⟩,tl,fun j h1 h2=>?_⟩
 ·rw [tl];have hj:j < A.length:=by have:=(zTN.mp e).1; rw [tl] at this; exact this
  rw [tk j hj] at e;by_cases q1:j = n
  ·subst q1; rw [e1] at e; cases e;show D.unds _ _ = true;unfold D.unds D.unds D.unds D.und;simp [hk]
  ·by_cases q2:j = k
   ·subst q2; rw [e2] at e; cases e; exact zBz _ _
   ·rw [x.fr j q1 q2,zTR hj] at e;exact h.wf j u e
 ·by_cases hj:j < A.length
  ·rw [tk j hj,x.fr j h1 h2,zTR hj]
  ·rw [List.getElem?_eq_none (by rw [tl]; omega),List.getElem?_eq_none (by omega)]
theorem zj (h:Gen M n k) (ha:fa σ M = some (.dat (.ref n),M)) (hb:fb σ M = some (.dat (.int m),M)) (h0:0 < m) (h1:m < 1073741824)
  (q:∀ i M',0 <= i -> i < m -> Nx M M' n k -> P (.dat (.int i)) M'):Ok (zW zP (zD (toD fa) (zD (toD fb) zH)) σ M) P:=by
 rw [zCo,zq,zAB];refine ⟨_,_,ha,?_⟩;rw [zK,zq,zAB];refine ⟨_,_,hb,?_⟩;rw [zK,zAr];refine Ok.mono (zPa h h0 h1) ?_;rintro d M' ⟨⟨i,rfl,i0,i1⟩,nx⟩;exact q i M' i0 i1 nx
def zCB (i:Nat):Nat -> List D
 | 0=>[]
 | n + 1=> .int i :: zCB (i + 1) n
theorem zHb (n:Nat):∀ i,((List.range' i n).map fun (k:Nat)=>D.int k) = zCB i n:=by
 induction n with
 | zero=>intro i; rfl
 | succ n ih=>intro i; rw [List.range'_succ,zTd,ih]; rfl
theorem zI7 (n:Nat):((List.range n).map fun (k:Nat)=>D.int k) = zCB 0 n:=by rw [List.range_eq_range',zHb]
theorem zDw:∀ (n i:Nat),(zCB i n).length = n
 | 0,_=>rfl
 | n + 1,i=>by show (zCB (i + 1) n).length + 1 = _; rw [zDw n]
theorem zHR (n:Nat) (I:Nat -> Sd -> Mem -> Prop)
  (hs:∀ i σ M,i < n -> I i σ M -> ∃ σ1,g (.int i) σ = some σ1 /\ OkS (b σ1 M) fun o σ2 M2=>match o with | .nx=>I (i + 1) σ2 M2 | .cnt=>I (i + 1) σ2 M2 | .brk=>P .nx σ2 M2 | .ret d=>P (.ret d) σ2 M2)
  (he:∀ σ M,I n σ M -> P .nx σ M) (σ:Sd) (M:Mem) (h0:I 0 σ M):OkS (zCZ g b all none (zCB 0 n) σ M) P:=by
 refine zDD (I:=fun r σ M=>∃ i,i <= n /\ r = zCB i (n - i) /\ I i σ M) ?_ ?_ _ _ _ ⟨0,Nat.zero_le _,by simp,h0⟩
 ·rintro x r σ M ⟨i,hi,e,hI⟩;have hlt:i < n:=by
   rcases Nat.lt_or_ge i n with z | z
   ·exact z
   ·rw [show n - i = 0 by omega] at e; cases e
  rw [show n - i = (n - (i + 1)) + 1 by omega] at e;obtain ⟨rfl,rfl⟩:=List.cons.inj e;obtain ⟨σ1,e1,q⟩:=hs i σ M hlt hI;refine ⟨zAm,σ1,e1,OkS.mono q ?_⟩;intro o σ2 M2 z;cases o with
  | nx=>exact ⟨i + 1,hlt,rfl,z⟩
  | cnt=>exact ⟨i + 1,hlt,rfl,z⟩
  | brk=>exact z
  | ret d=>exact z
 ·rintro σ M ⟨i,hi,e,hI⟩;have:i = n:=by
   rcases Nat.lt_or_ge i n with z | z
   ·rw [show n - i = (n - (i + 1)) + 1 by omega] at e; cases e
   ·omega
  subst this;exact ⟨zAm,he σ M hI⟩
theorem zRh (n:Nat) (I:Nat -> List D -> Mem -> Prop)
  (hs:∀ i acc M,i < n -> I i acc M -> ∃ σ1,g (.int i) σ = some σ1 /\ Ok (te σ1 M) (zFa fun d M2=>I (i + 1) (acc ++ [d]) M2)) (h0:I 0 [] M) :
  Ok (zCD g zAH te σ all none (zCB 0 n) M) fun ys M1=>I n ys M1:=by
 refine Ok.mono (zB8 (I:=fun r acc M=>∃ i,i <= n /\ r = zCB i (n - i) /\ I i acc M) (Q:=fun acc M=>I n acc M) ?_ ?_ _ [] _ ⟨0,Nat.zero_le _,by simp,h0⟩) fun ys M1 q=>by simpa using q
 ·rintro x r acc M ⟨i,hi,e,hI⟩;have hlt:i < n:=by
   rcases Nat.lt_or_ge i n with z | z
   ·exact z
   ·rw [show n - i = 0 by omega] at e; cases e
  rw [show n - i = (n - (i + 1)) + 1 by omega] at e;obtain ⟨rfl,rfl⟩:=List.cons.inj e;obtain ⟨σ1,e1,q⟩:=hs i acc M hlt hI;refine ⟨zAm,σ1,e1,zEn.mpr ?_⟩;rw [zTZ rfl];refine Ok.mono q ?_;intro x M2 z;cases x with
  | dat d=>exact ⟨i + 1,hlt,rfl,z⟩
  | fl xs=>exact ⟨i + 1,hlt,rfl,z⟩
 ·rintro acc M ⟨i,hi,e,hI⟩;have:i = n:=by
   rcases Nat.lt_or_ge i n with z | z
   ·rw [show n - i = (n - (i + 1)) + 1 by omega] at e; cases e
   ·omega
  subst this;exact ⟨zAm,hI⟩
theorem zEj (e:f σ M = some (.dat (.int j),M)) (h1:0 <= j) (h2:j < 2 ^ 62):zBl (zD (toD f) zH) σ M = some (zCB 0 j.toNat,none,M):=by
 have e':(zD (toD f) zH) σ M = some ([.int j],M):=by unfold zD toD zH; rw [e]
 rw [zD6 e' h1 h2,zI7]
noncomputable def zEC:FS:=(zS (sIf (tst (fOp kEq (zC 1) (fC (.int 0)))) (zr (zW zP (zD (toD (zC 0)) (zD (toD (zC 2)) zH)))) zAw)
  (zS (sIf (tst (fOp kEq (zC 1) (fC (.int 1)))) (zr (fOp zDu (fOp zAR (zC 3) (zW zP (zD (toD (zC 0)) (zD (toD (fC (.int 3))) zH)))) (zC 2))) zAw)
  (zS (sIf (tst (fOp kEq (zC 1) (fC (.int 2)))) (zS (zAF 5 (fOp zLZ (zC 2) (fC (.int 2))))
  (zS (sIf (tst (fOp kLt (zC 3) (zC 5))) (zr (zW zP (zD (toD (zC 0)) (zD (toD (zC 5)) zH)))) zAw)
  (zr (fOp zAR (zC 5) (zW zP (zD (toD (zC 0)) (zD (toD (fOp zFy (zC 2) (zC 5))) zH))))))) zAw)
  (zS (sIf (tst (fOp kEq (zC 4) (fC (.int 0)))) (zr (fOp zDu (fOp zAR (zC 3) (fC (.int 1))) (zC 2))) zAw)
  (zS (sIf (tst (fOp kEq (zC 1) (fC (.int 3)))) (zr (fOp kIx (zp (zD (toD (zC 3)) (zD (toD (fC (.int 0))) zH))) (fB zN2 (zN (fOp kEq (zC 3) (fOp zFy (zC 2) (fC (.int 1)))) zc)))) zAw)
  (zr (fOp zDu (fOp zAR (fOp zAR (zC 3) (fC (.int 1))) (fOp zGZ (zW zP (zD (toD (zC 0)) (zD (toD (fC (.int 2))) zH))) (fOp zFy (zC 2) (fC (.int 2))))) (zC 2))))))))
noncomputable def zCA:FF:=zCF 6 zEC
noncomputable def zCT:FS:=(zS (zAF 3 (fOp zAR (fC (.int 1)) (zW zP (zD (toD (zC 0)) (zD (toD (zC 1)) zH)))))
  (zS (zAF 4 (fOp zAR (fC (.int 1)) (zW zP (zD (toD (zC 0)) (zD (toD (zC 2)) zH)))))
  (zS (zAF 5 (zW zP (zD (toD (zC 0)) (zD (toD (fC (.int 5))) zH))))
  (zS (zAF 6 (zp zH))
  (zS (zFY (zBl (zD (toD (zC 3)) zH)) (gN 7) (zDC (fM zBV (zC 6) (zD (toD (fB zAv (zN (zv [8] (zBl (zD (toD (zC 4)) zH)) (gN 8) zAH (zW zCA (zD (toD (zC 0)) (zD (toD (zC 5)) (zD (toD (zC 3)) (zD (toD (zC 7)) (zD (toD (zC 8)) zH))))))) zc))) zH))))
  (zr (fB zAv (zN (zC 6) zc))))))))
noncomputable def zA4:FF:=zCe (zCF 9 zCT)
theorem zPZ (h:Gen M n k) (hr0:0 <= room) (hr:room < rooms) (hR:rooms <= 1000) :
  Ok (zCA [.ref n,.int fam,.int rooms,.int room,.int letter] M) fun d M'=>(∃ i,d = .int i /\ 0 <= i /\ i < rooms) /\ Nx M M' n k:=by
 unfold zCA;rw [zAg];unfold zEC;show OkS (zS _ _ [some (.ref n),some (.int fam),some (.int rooms),some (.int room),some (.int letter),none] M) _;have hm:∀ x:Int,0 <= x % rooms /\ x % rooms < rooms:=fun x=>⟨Int.emod_nonneg _ (by omega),Int.emod_lt_of_pos _ (by omega)⟩;rw [zM,zAI];refine zBP.mpr (zb.mpr (zV.mpr ⟨_,rfl,zAL.mpr (zHV.mpr (zAK.mpr ?_))⟩));by_cases f0:fam = 0
 ·rw [zTZ (by simpa using f0),zy];refine zj h rfl rfl (by omega) (by omega) fun i M' i0 i1 nx=>?_;exact ⟨⟨i,rfl,i0,i1⟩,nx⟩
 rw [zTc (by simpa using f0),zAP,zR,zM,zAI];refine zBP.mpr (zb.mpr (zV.mpr ⟨_,rfl,zAL.mpr (zHV.mpr (zAK.mpr ?_))⟩));by_cases f1:fam = 1
 ·rw [zTZ (by simpa using f1),zy];refine zb.mpr (zb.mpr (zV.mpr ⟨_,rfl,zj h rfl rfl (by decide) (by decide) fun i M' i0 i1 nx=>zBB.mpr (zV.mpr ⟨_,rfl,zDz.mpr ⟨by omega,?_⟩⟩)⟩));exact ⟨⟨_,rfl,hm _⟩,nx⟩
 rw [zTc (by simpa using f1),zAP,zR,zM,zAI];refine zBP.mpr (zb.mpr (zV.mpr ⟨_,rfl,zAL.mpr (zHV.mpr (zAK.mpr ?_))⟩));by_cases f2:fam = 2
 ·rw [zTZ (by simpa using f2),zM,zX];refine zb.mpr (zV.mpr ⟨_,rfl,zAL.mpr (zNv.mpr ⟨by decide,?_⟩)⟩);rw [zK,zR,zM,zAI];refine zBP.mpr (zb.mpr (zV.mpr ⟨_,rfl,zV.mpr ⟨_,rfl,zJ2.mpr (zAK.mpr ?_)⟩⟩));by_cases hh:room < rooms / 2
  ·rw [zTZ (by simpa using hh),zy];refine zj h rfl rfl (by omega) (by omega) fun i M' i0 i1 nx=>?_;exact ⟨⟨i,rfl,i0,by omega⟩,nx⟩
  ·rw [zTc (by simpa using hh),zAP,zR,zy];refine zb.mpr (zV.mpr ⟨_,rfl,zj h rfl rfl (m:=rooms - rooms / 2) (by omega) (by omega) fun i M' i0 i1 nx=>zBB.mpr ?_⟩);exact ⟨⟨_,rfl,by omega,by omega⟩,nx⟩
 rw [zTc (by simpa using f2),zAP,zR,zM,zAI];refine zBP.mpr (zb.mpr (zV.mpr ⟨_,rfl,zAL.mpr (zHV.mpr (zAK.mpr ?_))⟩));by_cases l0:letter = 0
 ·rw [zTZ (by simpa using l0),zy];refine zb.mpr (zb.mpr (zV.mpr ⟨_,rfl,zAL.mpr (zBB.mpr (zV.mpr ⟨_,rfl,zDz.mpr ⟨by omega,?_⟩⟩))⟩));exact ⟨⟨_,rfl,hm _⟩,.refl h⟩
 rw [zTc (by simpa using l0),zAP,zR,zM,zAI];refine zBP.mpr (zb.mpr (zV.mpr ⟨_,rfl,zAL.mpr (zHV.mpr (zAK.mpr ?_))⟩));by_cases f3:fam = 3
 ·rw [zTZ (by simpa using f3),zy];refine zb.mpr (zCw.mpr (zq.mpr (zAB.mpr (zV.mpr ⟨_,rfl,zK.mpr (zq.mpr (zAB.mpr (zAL.mpr (zK.mpr (zAr.mpr ⟨zk (by simp),?_⟩)))))⟩))));refine zIc.mpr (zBE.mpr (zb.mpr (zV.mpr ⟨_,rfl,zb.mpr (zV.mpr ⟨_,rfl,zAL.mpr (zPq.mpr (zHV.mpr (zBw.mpr (zP9.mpr ?_))))⟩)⟩)));by_cases q:room = rooms - 1
  ·rw [zTZ (by simpa using q)];exact zMC zBH at1 ⟨⟨_,rfl,by omega,by omega⟩,.refl h⟩
  ·rw [zTc (by simpa using q)];exact zMC zBH at0 ⟨⟨_,rfl,by omega,by omega⟩,.refl h⟩
 rw [zTc (by simpa using f3),zAP,zR,zy];refine zb.mpr (zb.mpr (zb.mpr (zV.mpr ⟨_,rfl,zAL.mpr (zBB.mpr (zb.mpr (zj h rfl rfl (by decide) (by decide) fun i M' i0 i1 nx=>?_)))⟩)));refine zb.mpr (zV.mpr ⟨_,rfl,zAL.mpr (zPq.mpr (zIs.mpr ⟨by simp [zIm] <;> omega,zBB.mpr (zV.mpr ⟨_,rfl,zDz.mpr ⟨by omega,?_⟩⟩)⟩))⟩);exact ⟨⟨_,rfl,hm _⟩,nx⟩
def mD (zA:List (List Int)):D:=.tup (zA.map fun r=> .tup (r.map D.int))
structure IsM (zA:List (List Int)) (l:Nat):Prop where
 r0:0 < zA.length
 l0:0 < l
 row:∀ r ∈ zA,r.length = l /\ ∀ g ∈ r,0 <= g /\ g < zA.length
theorem zQp (zA:List (List Int)):D.und n (mD zA) = true:=by
 unfold mD D.und;refine zBY fun x hx=>?_;obtain ⟨r,_,rfl⟩:=zTb.mp hx;exact zJF r
theorem zNf (zA:List (List Int)):D.unds n (zA.map fun r=>D.tup (r.map D.int)) = true:=by
 refine zBY fun x hx=>?_;obtain ⟨r,_,rfl⟩:=zTb.mp hx;exact zJF r
theorem zJo (h:Gen M n k) (hm:0 < most) (hm1:most <= 999) (hl:0 < lm) (hl1:lm <= 999) :
  Ok (zA4 [.ref n,.int most,.int lm] M) fun d M'=>(∃ zA l,d = mD zA /\ IsM zA l /\ (zA.length:Int) <= most /\ (l:Int) <= lm) /\ Nx M M' n k:=by
 unfold zA4;refine zHd ?_;rw [zAg];unfold zCT;show OkS (zS _ _ [some (.ref n),some (.int most),some (.int lm),none,none,none,none,none,none] M) _;rw [zM,zX];refine zb.mpr (zAL.mpr (zj h rfl rfl (by omega) (by omega) fun R M1 R0 R1 nx1=>zBB.mpr ?_));rw [zK,zR,zM,zX];refine zb.mpr (zAL.mpr (zj nx1.gen rfl rfl (by omega) (by omega) fun L M2 L0 L1 nx2=>zBB.mpr ?_));rw [zK,zR,zM,zX];refine zj nx2.gen rfl rfl (by decide) (by decide) fun F M3 F0 F1 nx3=>?_;rw [zK,zR,zM,zX];refine zCw.mpr (zAr.mpr ⟨zk (by simp),?_⟩);rw [zH2,zR,zM,zCu];have nx:=(nx1.trans nx2).trans nx3;refine ⟨_,_,_,zEj rfl (by omega) (by omega),?_⟩;have hlen:M3.length = M.length:=nx.len;generalize eR:1 + R = Rm;generalize eL:1 + L = Lm
 refine zHR (n:=Rm.toNat) (I:=fun i σ M'=>∃ x y,σ = [some (.ref n),some (.int most),some (.int lm),some (.int Rm),some (.int Lm),some (.int F),some (.ref M.length),x,y] /\ ∃ (A:Mem) (zA:List (List Int)),M' = A ++ [.lst (zA.map fun r=>D.tup (r.map D.int))] /\ Nx M A n k /\ zA.length = i /\ ∀ r ∈ zA,r.length = Lm.toNat /\ ∀ g ∈ r,0 <= g /\ g < Rm)
  ?_ ?_ _ _ ⟨none,none,by simp [hlen],M3,[],rfl,nx,rfl,fun _ h=>by cases h⟩
 ·rintro i σ M' hi ⟨x,y,rfl,A,zA,rfl,nxA,hrl,hrow⟩;refine ⟨_,rfl,?_⟩;rw [zDL];have eA:(A ++ [MO.lst (zA.map fun r=>D.tup (r.map D.int))])[M.length]? = some (.lst (zA.map fun r=>D.tup (r.map D.int))):=by
   rw [<- nxA.len]; simp
  refine zLV.mpr (zV.mpr ⟨_,rfl,⟨_,zAa eA⟩,zq.mpr (zAB.mpr (zIc.mpr (zBE.mpr (zCK.mpr ⟨_,_,_,zEj rfl (by omega) (by omega),by rw [zDw]; exact zk (by omega),?_⟩))))⟩);refine Ok.mono (zRh (n:=Lm.toNat) (I:=fun j acc M2=>∃ (A2:Mem) (c:List Int),M2 = A2 ++ [.lst (zA.map fun r=>D.tup (r.map D.int))] /\ Nx M A2 n k /\ acc = c.map D.int /\ c.length = j /\ ∀ g ∈ c,0 <= g /\ g < Rm) ?_ ⟨A,[],rfl,nxA,rfl,rfl,fun _ h=>by cases h⟩) ?_
  ·rintro j acc M2 hj ⟨A2,c,rfl,nxA2,rfl,hcl,hc⟩;refine ⟨_,rfl,?_⟩;have gA:Gen (A2 ++ [MO.lst (zA.map fun r=>D.tup (r.map D.int))]) n k:=nxA2.gen.app (by
    intro u hu;have:u = .lst (zA.map fun r=>D.tup (r.map D.int)):=by simpa using hu
    subst this;exact zNf zA)
   refine zCo.mpr (zq.mpr (zAB.mpr (zV.mpr ⟨_,rfl,zK.mpr (zq.mpr (zAB.mpr (zV.mpr ⟨_,rfl,zK.mpr (zq.mpr (zAB.mpr (zV.mpr ⟨_,rfl,zK.mpr (zq.mpr (zAB.mpr (zV.mpr ⟨_,rfl,zK.mpr (zq.mpr (zAB.mpr (zV.mpr ⟨_,rfl,zK.mpr (zAr.mpr ?_)⟩)))⟩)))⟩)))⟩)))⟩)));refine Ok.mono (zPZ gA (by omega) (by omega) (by omega)) ?_;rintro d M4 ⟨⟨g,rfl,g0,g1⟩,nx4⟩;obtain ⟨A3,rfl,nx5⟩:=nx4.split nxA2.gen;rw [zK];refine ⟨A3,c ++ [g],rfl,nxA2.trans nx5,by simp,by simp [hcl],fun z hz=>?_⟩;rcases zTk.mp hz with q | q
   ·exact hc z q
   ·have:z = g:=by simpa using q
    subst this; exact ⟨g0,g1⟩
  ·rintro ys M2 ⟨A2,c,rfl,nxA2,rfl,hcl,hc⟩;refine zBw.mpr ((zHY zBH).mpr (zK.mpr (zAr.mpr ?_)));have eA2:(A2 ++ [MO.lst (zA.map fun r=>D.tup (r.map D.int))])[M.length]? = some (.lst (zA.map fun r=>D.tup (r.map D.int))):=by
    rw [<- nxA2.len]; simp
   rw [zEV eA2 (by rw [zTT,hrl]; exact zTj (by omega) (zk (n:=100000) (by omega)))];refine ⟨_,_,rfl,A2,zA ++ [c],?_,nxA2,by simp [hrl],fun r hr=>?_⟩
   ·rw [<- nxA2.len,List.set_append_right _ _ (by omega)];simp
   ·rcases zTk.mp hr with q | q
    ·exact hrow r q
    ·have:r = c:=by simpa using q
     subst this; exact ⟨hcl,hc⟩
 ·rintro σ M' ⟨x,y,rfl,A,zA,rfl,nxA,hrl,hrow⟩;rw [zR,zy];have eA:(A ++ [MO.lst (zA.map fun r=>D.tup (r.map D.int))])[M.length]? = some (.lst (zA.map fun r=>D.tup (r.map D.int))):=by
   rw [<- nxA.len]; simp
  refine zIc.mpr (zBE.mpr (zV.mpr ⟨_,rfl,zBw.mpr ((zHY (za eA)).mpr ?_)⟩));rw [zK];have tk:(A ++ [MO.lst (zA.map fun r=>D.tup (r.map D.int))]).take M.length = A:=by rw [<- nxA.len]; simp
  refine ⟨⟨zQp zA,by rw [zTa,nxA.len]; omega,fun j u hj e=>?_⟩,⟨zA,Lm.toNat,rfl,⟨by omega,by omega,fun r hr=>?_⟩,by omega,by omega⟩,by rw [tk]; exact nxA⟩
  ·rw [zTR (by rw [nxA.len]; exact hj)] at e;have:=nxA.gen.wf j u e;rw [nxA.len] at this;exact this
  ·obtain ⟨q1,q2⟩:=hrow r hr;exact ⟨q1,fun g hg=>⟨(q2 g hg).1,by have:=(q2 g hg).2; omega⟩⟩
theorem zJ {α:Type} {x:Option (α × Mem)} {a:α} {M:Mem} (h:Ok x fun b M'=>b = a /\ M' = M):x = some (a,M):=by
 obtain ⟨b,M',e,rfl,rfl⟩:=h; exact e
theorem zF {α:Type} {x:Option (α × Mem)} {a:α} {M:Mem} {P:α -> Mem -> Prop} (h:x = some (a,M)) (p:P a M):Ok x P:=⟨a,M,h,p⟩
theorem z0 {c:FT} {a g:FS} {σ:Sd} {M:Mem} {P:Out -> Sd -> Mem -> Prop} (hc:c σ M = some (false,M)) (h:OkS (g σ M) P):OkS (zS (sIf c a zAw) g σ M) P:=by
 rw [zM,zAI];refine zF hc ?_;rw [zTc (by decide),zAP];exact h
theorem zDb {f:FE} {σ:Sd} {M M':Mem} {k:Bool} (h:f σ M = some (.dat (.bl k),M')):zBC (tst f) σ M = some (!k,M'):=by
 unfold zBC tst; rw [h]
theorem zo {f:FE} {σ:Sd} {M:Mem} {d:D} (h:f σ M = some (.dat d,M)):zD (toD f) zH σ M = some ([d],M):=by
 unfold zD toD zH; rw [h]
theorem zAU {f:FE} {g:FA} {σ:Sd} {M:Mem} {d:D} {ds:List D} (h:f σ M = some (.dat d,M)) (hg:g σ M = some (ds,M)):zD (toD f) g σ M = some (d :: ds,M):=by
 unfold zD toD; rw [h]; dsimp only; rw [hg]
theorem zAu {m:FF} {a:FA} {σ:Sd} {M M':Mem} {ds:List D} {d:D} (h:a σ M = some (ds,M)) (hm:m ds M = some (d,M')):zW m a σ M = some (.dat d,M'):=by
 unfold zW; rw [h]; dsimp only; rw [hm]
theorem zO {k:K2} {f g:FE} {σ:Sd} {M:Mem} {x y:EV} {r:Option (EV × Mem)} (hf:f σ M = some (x,M)) (hg:g σ M = some (y,M)) (hk:k x y M = r):fOp k f g σ M = r:=by
 unfold fOp; rw [hf]; dsimp only; rw [hg]; exact hk
theorem zFT {x:EV} {xs:List D} {i:Int} {d:D} {M:Mem} (h:zAV M x = some xs) (hd:atI xs i = some d):kIx x (.dat (.int i)) M = some (.dat d,M):=zJ (zMC h hd ⟨rfl,rfl⟩)
theorem zBS {f:FE} {x:EV} {xs:List D} {σ:Sd} {M:Mem} (hf:f σ M = some (x,M)) (h:zAV M x = some xs):fB zAx (zN f zc) σ M = some (.dat (.int xs.length),M):=by
 unfold fB zN zc; rw [hf]; exact zJ ((zPo h).mpr ⟨rfl,rfl⟩)
theorem IsM.get {zA:List (List Int)} {l:Nat} (m:IsM zA l) {h:Int} (h0:0 <= h) (h1:h < zA.length):(zA.getD h.toNat []).length = l /\ ∀ g ∈ zA.getD h.toNat [],0 <= g /\ g < zA.length:=by
 refine m.row _ ?_;rw [zTP,zTO (by omega)];exact List.getElem_mem _
theorem zRT {σ:Sd} {M:Mem} {ns:List Int} {j:Nat} {i:Int} (hσ:σ[i.toNat]? = σ[i.toNat]?) (hi:zC j σ M = some (.dat (.ref 0),M)) (h0:M[0]? = some (.fro (ns.map D.int))):∃ c:List Int,fSl (zC j) zw (zu (fC (.int i))) σ M = some (.fl (c.map D.int),M) /\ c.length <= ns.length:=by
 obtain ⟨c,ec,lc⟩:=zIU ns none (some i);refine ⟨c,zJ (zP1.mpr (zF hi (zIG.mpr (zIo.mpr (zAL.mpr (zIn.mpr ?_)))))),lc⟩;rw [zOF (zHB h0) rfl,ec]; exact ⟨rfl,rfl⟩
noncomputable def zCl (g_rec:FF):FS:=(zS (sIf (tst (zC2 "tuple" (zC 1))) (zS (sIf (zDZ (zBC (tst (zC2 "tuple" (zC 0)))) (tst (fOp kNe (fB zAx (zN (zC 0) zc)) (fB zAx (zN (zC 1) zc))))) (zr (fC (.bl false))) zAw)
  (zr (fB zHi (zN (zv [2,3] (zJ8 (zD (toD (zC 0)) (zD (toD (zC 1)) zH))) (zBr 2 3) zAH (zW g_rec (zD (toD (zC 2)) (zD (toD (zC 3)) zH)))) zc)))) zAw)
  (zS (sIf (tst (fOp (kIs false) (zC 1) (fC .non))) (zr (fOp (kIs false) (zC 0) (fC .non))) zAw)
  (zS (sIf (tst (zC2 "bool" (zC 1))) (zr (zEy (zC2 "bool" (zC 0)) (fOp kEq (zC 0) (zC 1)))) zAw)
  (zS (sIf (tst (zC2 "str" (zC 1))) (zr (zEy (zC2 "str" (zC 0)) (fOp kEq (zC 0) (zC 1)))) zAw)
  (zr (zEy (zC2 "int" (zC 0)) (zEy (zMT (zC2 "bool" (zC 0))) (fOp kEq (zC 0) (zC 1)))))))))
noncomputable def zAQ:Nat -> FF
 | 0=>fun _ _=>none
 | n + 1=>zCF 4 (zCl (zAQ n))
noncomputable def zAy:FF:=zAQ 5
theorem zJv (hf:f σ M = some (x,M)) (ht:zFZ M x = some t):zC2 T f σ M = some (.dat (.bl (isT t T)),M):=by
 unfold zC2; rw [hf]; dsimp only; rw [ht]
theorem zf (h:f σ M = some (.dat (.bl k),M')):tst f σ M = some (k,M'):=by unfold tst; rw [h]
theorem isV (hf:f σ M = some (x,M)) (ht:zFZ M x = some t) (h:isT t T = k):zC2 T f σ M = some (.dat (.bl k),M):=by
 rw [zJv hf ht,h]
theorem isF (hf:f σ M = some (x,M)) (ht:zFZ M x = some t) (h:isT t T = false):tst (zC2 T f) σ M = some (false,M):=by
 rw [zf (zJv hf ht),h]
theorem zPf (hf:f σ M = some (x,M)) (ht:zFZ M x = some t) (h:isT t T = true):tst (zC2 T f) σ M = some (true,M):=by
 rw [zf (zJv hf ht),h]
theorem zAe (hc:c σ M = some (true,M)) (h:OkS (a σ M) (nxP (fun σ1 M1=>OkS (g σ1 M1) P) P)):OkS (zS (sIf c a b) g σ M) P:=by
 rw [zM,zAI];refine zF hc ?_;rw [zTZ rfl];exact h
theorem zx (hf:f σ M = some (.dat d,M)) (h:P (.ret d) σ M):OkS (zr f σ M) P:=by
 rw [zy]; exact zF hf h
def Pl:Nat -> D -> Prop
 | 0,d=>(zD2 d).isSome = true
 | n + 1,d=>(zD2 d).isSome = true \/ ∃ ds,d = .tup ds /\ ds.length <= sizeLine /\ ∀ x ∈ ds,Pl n x
theorem Pl.tup (hz:ds.length <= 100000) (h:∀ x ∈ ds,Pl n x):Pl (n + 1) (.tup ds):=.inr ⟨ds,rfl,zk hz,h⟩
theorem zF7 (h:(zD2 d).isSome = true):kEq (.dat d) (.dat d) M = some (.dat (.bl true),M):=by
 cases d with
 | tup _=>cases h
 | ref _=>cases h
 | fn _ _=>cases h
 | non=>rfl
 | bl k=>cases k <;> rfl
 | int i=>show some (EV.dat (.bl (decide (V.int i = V.int i))),M) = _; simp
 | str x=>show some (EV.dat (.bl (decide (V.str x = V.str x))),M) = _; simp
theorem zDk (hf:f σ M = some (.dat (.bl true),M)) (hg:g σ M = some (.dat (.bl true),M)):zEy f g σ M = some (.dat (.bl true),M):=by
 unfold zEy; rw [hf]; exact hg
theorem zKH (hf:f σ M = some (.dat (.bl false),M)):zMT f σ M = some (.dat (.bl true),M):=by
 unfold zMT; rw [hf]; rfl
theorem zLn:∀ (n:Nat) (d:D) (M:Mem),Pl n d -> zAQ (n + 1) [d,d] M = some (.bl true,M):=by
 intro n;have sc:∀ (n:Nat) (d:D) (M:Mem),(zD2 d).isSome = true -> zAQ (n + 1) [d,d] M = some (.bl true,M):=by
  intro n d M hs;refine zJ ?_;unfold zAQ;rw [zAg];unfold zCl;show OkS (zS _ _ [some d,some d,none,none] M) _;cases d with
  | tup _=>cases hs
  | ref _=>cases hs
  | fn _ _=>cases hs
  | non=>
   refine z0 (isF rfl rfl (by decide)) ?_;refine zAe (zf (zO rfl rfl rfl)) (zx (zO rfl rfl rfl) ⟨rfl,rfl⟩)
  | bl k=>
   refine z0 (isF rfl rfl (by decide)) (z0 (zf (zO rfl rfl rfl)) ?_);refine zAe (zPf rfl rfl (by decide)) (zx (zDk (isV rfl rfl (by decide)) (zO rfl rfl (zF7 rfl))) ⟨rfl,rfl⟩)
  | str x=>
   refine z0 (isF rfl rfl (by decide)) (z0 (zf (zO rfl rfl rfl)) (z0 (isF rfl rfl (by decide)) ?_));refine zAe (zPf rfl rfl (by decide)) (zx (zDk (isV rfl rfl (by decide)) (zO rfl rfl (zF7 rfl))) ⟨rfl,rfl⟩)
  | int i=>
   refine z0 (isF rfl rfl (by decide)) (z0 (zf (zO rfl rfl rfl)) (z0 (isF rfl rfl (by decide)) (z0 (isF rfl rfl (by decide)) ?_)));exact zx (zDk (isV rfl rfl (by decide)) (zDk (zKH (isV rfl rfl (by decide))) (zO rfl rfl (zF7 rfl)))) ⟨rfl,rfl⟩
 induction n with
 | zero=>exact fun d M h=>sc 0 d M h
 | succ n ih=>
  intro d M h;rcases h with h | ⟨ds,rfl,hz,h⟩
  ·exact sc (n + 1) d M h
  refine zJ ?_;unfold zAQ;rw [zAg];unfold zCl;show OkS (zS _ _ [some (.tup ds),some (.tup ds),none,none] M) _;refine zAe (zPf rfl rfl (by decide)) (z0 ?_ ?_)
  ·refine zJ (zNB.mpr (zHT.mpr (zF (zPf rfl rfl (by decide)) ?_)));rw [zTc (by decide)];refine zBP.mpr (zF (zO (zBS rfl zDh) (zBS rfl zDh) (zJ (zQY.mpr ⟨rfl,rfl⟩))) ?_);rw [zAK]; simp
  ·rw [zy];refine zIc.mpr (zBE.mpr (zCK.mpr ⟨(ds.zip ds).map fun q=>D.tup [q.1,q.2],none,M,rfl,?_,?_⟩))
   ·rw [zTT,List.length_zip]; omega
   ·refine Ok.mono (zB8 (I:=fun r acc M'=>M' = M /\ (∃ rest:List D,r = (rest.zip rest).map (fun q=>D.tup [q.1,q.2]) /\ ∀ x ∈ rest,Pl n x) /\ ∃ k:Nat,acc = (List.replicate k true).map D.bl) (Q:=fun acc M'=>M' = M /\ ∃ k:Nat,acc = (List.replicate k true).map D.bl) ?_ ?_ _ [] _ ⟨rfl,⟨ds,rfl,h⟩,0,rfl⟩) ?_
    ·rintro x r acc M' ⟨rfl,⟨rest,hr,hp⟩,k,rfl⟩;cases rest with
     | nil=>cases hr
     | cons y rest=>
      rw [List.zip_cons_cons,zTd] at hr;obtain ⟨rfl,rfl⟩:=List.cons.inj hr;refine ⟨zAm,_,rfl,zEn.mpr ?_⟩;rw [zTZ rfl];refine zF (zAu (zAU rfl (zo rfl)) (ih y M' (hp y zTY))) ?_;rw [zK];exact ⟨rfl,⟨rest,rfl,fun z hz=>hp z (zTX _ hz)⟩,k + 1,by rw [List.replicate_succ',zUH]; rfl⟩
    ·rintro acc M' ⟨rfl,_,hk⟩;exact ⟨zAm,rfl,hk⟩
    ·rintro ys M' ⟨rfl,k,hk⟩;rw [zVh] at hk;subst hk;refine zBw.mpr ((zP7 zHO (zE0 _)).mpr ?_);rw [zK];refine ⟨?_,rfl⟩;simp
theorem zAl {α:Type} (as:List α) (enc out:α -> D) (hi:fi σ M = some (as.map enc,gd,M)) (hgd:zBJ gd (as.map enc) M) (hz:as.length <= 100000)
  (he:∀ a ∈ as,∃ σ1,g (enc a) (zJB own σ) = some σ1 /\ te σ1 M = some (.dat (out a),M)):zv own fi g zAH te σ M = some (.fl (as.map out),M):=by
 refine zJ (zCK.mpr ⟨_,_,_,hi,by rw [zTT]; exact zk hz,?_⟩);refine Ok.mono (zB8 (I:=fun r acc M'=>M' = M /\ ∃ ra rb:List α,as = rb ++ ra /\ r = ra.map enc /\ acc = rb.map out) (Q:=fun acc M'=>M' = M /\ acc = as.map out) ?_ ?_ _ [] _ ⟨rfl,as,[],rfl,rfl,rfl⟩) ?_
 ·rintro x r acc M' ⟨rfl,ra,rb,hab,hr,rfl⟩;cases ra with
  | nil=>cases hr
  | cons a ra=>
   rw [zTd] at hr;obtain ⟨rfl,rfl⟩:=List.cons.inj hr;obtain ⟨σ1,e1,e2⟩:=he a (by rw [hab]; simp);refine ⟨hgd,σ1,e1,zEn.mpr ?_⟩;rw [zTZ rfl];refine zF e2 ?_;rw [zK];exact ⟨rfl,ra,rb ++ [a],by rw [hab]; simp,rfl,by simp⟩
 ·rintro acc M' ⟨rfl,ra,rb,hab,hr,rfl⟩;cases ra with
  | nil=>rw [zT9] at hab; subst hab; exact ⟨hgd,rfl,rfl⟩
  | cons a ra=>cases hr
 ·rintro ys M' ⟨rfl,h⟩;rw [zVh] at h;subst h;exact ⟨rfl,rfl⟩
theorem zCd (hf:f σ M = some (x,M)) (h:zAV M x = some xs):fB zAv (zN f zc) σ M = some (.dat (.tup xs),M):=by
 unfold fB zN zc; rw [hf]; exact zJ ((zHY h).mpr ⟨rfl,rfl⟩)
theorem zOq (hf:f σ M = some (.dat (.tup xs),M)):zAO f σ M = some (xs,none,M):=zAi hf zDh
theorem zE1 (hf:f σ M = some (.dat d,M)) (h:OkS (g (σ.set i (some d)) M) P):OkS (zS (zAF i f) g σ M) P:=by
 rw [zM,zX]; exact zF hf h
theorem zPp (h:f σ M = some (.dat d,M')):zD (toD f) zH σ M = some ([d],M'):=by
 unfold zD toD zH; rw [h]
theorem zGF {bs:List Bool} (h:f σ M = some (.fl (bs.map D.bl),M)):fB zHi (zN f zc) σ M = some (.dat (.bl (bs.all id)),M):=by
 unfold fB zN zc; rw [h]; exact zJ ((zP7 zHO (zE0 bs)).mpr ⟨rfl,rfl⟩)
theorem zB0 {α:Type} (xs:List α) (p:α -> Bool):(xs.map p).all id = xs.all p:=by rw [List.all_map]; rfl
noncomputable def zEu:FS:=(zS (sIf (zDZ (zBC (tst (zC2 "str" (zC 0)))) (zBC (tst (zBQ kLe kLe (fC (.int 1)) (fB zFH (zN (zC 0) zc)) (fC (.int 8)))))) (zr (fC (.bl false))) zAw)
  (zr (fB zHi (zN (zv [1] (zLc (zC 0)) (gN 1) zAH (zBQ zJc zJc (fC (.str "a")) (zC 1) (fC (.str "z")))) zc))))
noncomputable def zBT:FF:=zCF 2 zEu
def zDt (c:Nat):Bool:=decide (97 <= c) && decide (c <= 122)
def zRg (z:Str):Bool:=z.cps.toList.all zDt
def zEO (z:Str):Bool:=(decide (1 <= z.length) && decide (z.length <= 8)) && zRg z
def zGq:D -> Bool
 | .str z=>zEO z
 | _=>false
def zJ4:D -> Bool
 | .str _=>true
 | _=>false
theorem zRS (e:zFZ M (.dat d) = some t):isT t "str" = zJ4 d:=by
 cases d with
 | non=>cases e; decide
 | bl k=>cases e; exact (show isT "bool" "str" = false by decide)
 | int i=>cases e; exact (show isT "int" "str" = false by decide)
 | str x=>cases e; exact (show isT "str" "str" = true by decide)
 | tup ds=>cases e; exact (show isT "tuple" "str" = false by decide)
 | fn l ds=>
  unfold zFZ at e;first | (cases e; decide) | cases e
 | ref n=>
  unfold zFZ at e;dsimp only at e;have l:isT "list" "str" = false:=by decide
  have dd:isT "dict" "str" = false:=by decide
  split at e <;> cases e <;> first | exact l | exact dd
theorem zM2 (h:z.length <= 100000):Ok (zFH [.dat (.str z)] M) P ↔ P (.dat (.int z.length)) M:=by
 unfold zFH; dsimp only; rw [zTZ (zk h),ze]
theorem zOs (hf:f σ M = some (.dat (.str z),M)) (h:z.length <= 100000):fB zFH (zN f zc) σ M = some (.dat (.int z.length),M):=by
 unfold fB zN zc; rw [hf]; exact zJ ((zM2 h).mpr ⟨rfl,rfl⟩)
theorem zPj:Ok (zJc (.dat (.str i)) (.dat (.str j)) M) P ↔ P (.dat (.bl (!(decide (j.cps.toList < i.cps.toList))))) M:=ze
theorem zHy {a b:Nat}:([a] < [b]) ↔ a < b:=by
 rw [List.cons_lt_cons_iff];exact ⟨fun h=>h.elim id fun h=>absurd h.2 (List.not_lt_nil _),.inl⟩
theorem zSS:(Str.ofString "a").cps.toList = [97]:=by decide +kernel
theorem zSV:(Str.ofString "z").cps.toList = [122]:=by decide +kernel
theorem zPX {M:Mem} {d:D} {t:String} (h:zFZ M (.dat d) = some t) (hz:∀ z,d = .str z -> z.length <= 1000):zBT [d] M = some (.bl (zGq d),M):=by
 refine zJ ?_;unfold zBT;rw [zAg];unfold zEu;show OkS (zS _ _ [some d,none] M) _;have ts:=zRS h;rw [zM,zAI];refine zNB.mpr (zHT.mpr (zBP.mpr (zQK.mpr (zV.mpr ⟨_,rfl,t,h,zAK.mpr ?_⟩))));rw [ts];cases d with
 | str z=>
  have hl:=hz z rfl;rw [zTc (by simp [zJ4])];refine zHT.mpr (zBP.mpr (zFs.mpr (zAL.mpr (zIc.mpr (zBE.mpr (zV.mpr ⟨_,rfl,zBw.mpr ((zM2 (by omega)).mpr (zPd.mpr (zAK.mpr ?_)))⟩))))));have ret:∀ b,zEO z = b -> OkS (zr (fC (.bl b)) [some (.str z),none] M) (nxP (fun σ1 M1=>OkS (zr (fB zHi (zN (zv [1] (zLc (zC 0)) (gN 1) zAH (zBQ zJc zJc (fC (.str "a")) (zC 1) (fC (.str "z")))) zc)) σ1 M1) fun o x M1=>match o with | .ret d=>d = .bl (zGq (.str z)) /\ M1 = M | .nx=>(D.non) = .bl (zGq (.str z)) /\ M1 = M | _=>False) fun o x M1=>match o with | .ret d=>d = .bl (zGq (.str z)) /\ M1 = M | .nx=>(D.non) = .bl (zGq (.str z)) /\ M1 = M | _=>False):=fun b hb=>
   zx rfl ⟨by rw [show zGq (.str z) = zEO z from rfl,hb],rfl⟩
  by_cases h1:(1:Int) <= z.length
  ·rw [zTZ (by simpa using h1)];refine zAL.mpr (zPd.mpr (zAK.mpr ?_));by_cases h2:(z.length:Int) <= 8
   ·rw [zTc (by simpa using h2),zAP,zR];refine zx (zGF (bs:=z.cps.toList.map zDt) ?_) ⟨?_,rfl⟩
    ·rw [zTi];refine zAl (gd:=none) z.cps.toList (fun c=> .str ⟨#[c]⟩) (fun c=> .bl (zDt c)) ?_ trivial (by rw [zT8]; show z.length <= _; omega) fun c _=>⟨_,rfl,?_⟩
     ·show some ((zDA z).map D.str,none,M) = _;unfold zDA; rw [zTi]; rfl
     ·refine zJ (zFs.mpr (zAL.mpr (zV.mpr ⟨_,rfl,zPj.mpr (zAK.mpr ?_)⟩)));rw [zSS];show (if (!decide ([c] < [97])) = true then _ else _);by_cases q1:97 <= c
      ·rw [zTZ (by rw [Bool.not_eq_true',decide_eq_false_iff_not,zHy]; omega)];refine zAL.mpr (zPj.mpr ⟨?_,rfl⟩);rw [zSV];show EV.dat (.bl (!decide ([122] < [c]))) = _;unfold zDt;by_cases q2:c <= 122
       ·rw [zTt (by rw [zHy]; omega:¬ ([122] < [c])),zUX q1,zUX q2]; rfl
       ·rw [zUX (by rw [zHy]; omega:[122] < [c]),zUX q1,zTt q2]; rfl
      ·rw [zTc (by rw [Bool.not_eq_true',decide_eq_false_iff_not,zHy]; omega)];refine ⟨?_,rfl⟩;unfold zDt; simp [q1]
    ·rw [zB0];show D.bl (zRg z) = .bl (zEO z);unfold zEO;rw [zUX (by omega:1 <= z.length),zUX (by omega:z.length <= 8)]; rfl
   ·rw [zTZ (by simpa using h2)];exact ret false (by unfold zEO; rw [zTt (by omega:¬ z.length <= 8)]; simp)
  ·rw [zTc (by simpa using h1)];exact ret false (by unfold zEO; rw [zTt (by omega:¬ 1 <= z.length)]; simp)
 | _=>
  rw [zTZ (by simp [zJ4]),zTZ rfl];exact zx rfl ⟨rfl,rfl⟩
abbrev LET:Str:=Str.ofString "abcdefghijklmnopqrstuvwxyz"
theorem zOc:LET.cps.toList.length = 26:=by decide +kernel
theorem zMG (x y:Str):(x ++ y).cps.toList = x.cps.toList ++ y.cps.toList:=by
 show (x.cps ++ y.cps).toList = _; simp
theorem zGM:∀ ys:List Str,zB4 (ys.map D.str) = some ys
 | []=>rfl
 | y :: r=>by rw [zTd]; unfold zB4; rw [zGM r]
theorem zPN (hf:f σ M = some (.dat (.str sep),M))
  (h:Ok (fa σ M) fun xs M2=>∃ (x:EV) (ys:List Str),xs = [x] /\ zA3 M2 x = some (ys.map D.str) /\ (ys.map (·.length)).sum + ys.length * sep.length <= 16777216 /\ P (.dat (.str (Txt.join sep ys))) M2):Ok (zEd f fa σ M) P:=by
 obtain ⟨xs,M2,e,x,ys,rfl,hl,hz,p⟩:=h;refine ⟨_,_,?_,p⟩;unfold zEd;rw [hf]; dsimp only;rw [e]; dsimp only;rw [hl]; dsimp only;rw [zGM]; dsimp only;rw [zTZ hz]
theorem zQ8 (h:i.length + j.length <= 100000):Ok (zFW (.dat (.str i)) (.dat (.str j)) M) P ↔ P (.dat (.str (i ++ j))) M:=by
 unfold zFW kS2; dsimp only; rw [zTZ (zUX (zk h)),ze]
theorem zQ9 (h1:n <= 1000) (h2 : -1000 <= n) (h3:i.length <= 1000):Ok (zD1 (.dat (.str i)) (.dat (.int n)) M) P ↔ P (.dat (.str (Txt.mul i n))) M:=by
 unfold zD1; dsimp only; rw [zTZ ⟨h1,h2,h3⟩,ze]
open ST
def tI (xs:List Int):D:=.tup (xs.map D.int)
end Law
namespace Law
open PySem PySem.Spec PyProof.Rows L2 L3 ST
theorem zIx (h:Gen M n k) (ha:fa σ M = some (.dat (.ref n),M)) (hb:fb σ M = some (.dat (.int m),M)) (h0:0 < m) (h1:m < 1073741824) :
  Ok (zW zP (zD (toD fa) (zD (toD fb) zH)) σ M) fun x Mc=>∃ cnt:Int,x = .dat (.int cnt) /\ 0 <= cnt /\ cnt < m /\ Nx M Mc n k:=zj h ha hb h0 h1 fun i M' i0 i1 nx=>⟨i,rfl,i0,i1,nx⟩
theorem zLT (n:Nat) (hn:n < 5) (hp:Pl n d) (e1:f1 σ M = some (.dat d,M)) (e2:f2 σ M = some (.dat d,M)):zW zAy (zD (toD f1) (zD (toD f2) zH)) σ M = some (.dat (.bl true),M):=by
  refine zAu (zAU e1 (zo e2)) ?_;unfold zAy;have up:∀ (m n:Nat) (d:D),n <= m -> Pl n d -> Pl m d:=by
    intro m;induction m with
    | zero => intro n d h p; have : n = 0 := by omega
              subst this; exact p
    | succ m ih=>
      intro n d h p;cases n with
      | zero=>exact .inl p
      | succ n=>
        rcases p with p | ⟨ds,e,hz,p⟩
        · exact .inl p
        · exact .inr ⟨ds,e,hz,fun x hx=>ih n x (by omega) (p x hx)⟩
  exact zLn 4 d M (up 4 n d (by omega) hp)
theorem zMK (e:f σ M = some (.dat (mD zA),M)):fB zAx (zN f zc) σ M = some (.dat (.int zA.length),M):=by
 have:=zBS e zDh;rw [zTT] at this; exact this
end Law
namespace Law
open PySem PySem.Spec PyProof.Rows L2 L3 ST
structure Nw (M M':Mem) (n k:Nat):Prop where
 gen:Gen M' n k
 len:M.length <= M'.length
 fr:∀ j,j < M.length -> j ≠ n -> j ≠ k -> M'[j]? = M[j]?
theorem Nw.refl (h:Gen M n k):Nw M M n k:=⟨h,zTQ _,fun _ _ _ _=>rfl⟩
theorem Nw.trans {M M1 M2:Mem} {n k:Nat} (a:Nw M M1 n k) (b:Nw M1 M2 n k):Nw M M2 n k :=
 ⟨b.gen,zTl a.len b.len,fun j h h1 h2=>(b.fr j (zTj h a.len) h1 h2).trans (a.fr j h h1 h2)⟩
theorem Nx.nw (x:Nx M M' n k):Nw M M' n k:=⟨x.gen,by rw [x.len]; exact zTQ _,fun j _ h1 h2=>x.fr j h1 h2⟩
theorem Gen.lst (h:Gen A n k) (xs:List D) (hx:D.unds A.length xs = true):Nw A (A ++ [.lst xs]) n k:=⟨h.app fun u hu=>by
 have:u = .lst xs:=by simpa using hu
 subst this; exact zBO (by simp) hx,by simp,fun j hj _ _=>zTR hj⟩
theorem Nw.get (h:Nw M M' n k) (e:M[j]? = some u) (h1:j ≠ n) (h2:j ≠ k):M'[j]? = some u :=
 (h.fr j (zTN.mp e).1 h1 h2).trans e
end Law
namespace Lac
open PySem PySem.Spec PyProof.Rows L2 L3 ST Law
theorem zU (h:P (.ref M.length) (M ++ [.lst xs])):zFa P (.fl xs) M:=h
theorem zT (A:Mem) (u:MO):(A ++ [u])[A.length]? = some u:=by simp
theorem zS8 (h:0 < b):zDu (.dat (.int a)) (.dat (.int b)) M = some (.dat (.int (a % b)),M):=zJ (zDz.mpr ⟨h,rfl,rfl⟩)
end Lac
namespace Lac
open PySem PySem.Spec PyProof.Rows L2 L3 ST Law
end Lac
namespace Lac
open PySem PySem.Spec PyProof.Rows L2 L3 ST Law
end Lac
namespace Lac
open PySem PySem.Spec PyProof.Rows L2 L3 ST Law
end Lac
namespace Lac
open PySem PySem.Spec PyProof.Rows L2 L3 ST Law
theorem zBR (h:f σ M = some (.dat (.ref j),M)) (hj:M[j]? = some (.lst xs)):zIg f σ M = some (!xs.isEmpty,M):=by
 unfold zIg; rw [h]; dsimp only; rw [za hj]
end Lac
namespace Lac
open PySem PySem.Spec PyProof.Rows L2 L3 ST Law
end Lac
namespace Lac
open PySem PySem.Spec PyProof.Rows L2 L3 ST Law
theorem zBo (ha:a σ M = some (true,M)):zDZ a b σ M = some (true,M):=by unfold zDZ; rw [ha]
theorem zBk (ha:a σ M = some (false,M)) (hb:b σ M = some (k,M)):zDZ a b σ M = some (k,M):=by unfold zDZ; rw [ha]; exact hb
theorem zBI {g:FA} {σ:Sd} {M M1:Mem} {ds:List D} (h:g σ M = some (ds,M1)) (hz:ds.length <= 100000):zp g σ M = some (.fl ds,M1):=by
 unfold zp; rw [h]; dsimp only; rw [zTZ (zk hz)]
theorem zC1 {g:FA} {σ:Sd} {M M1:Mem} {ds:List D} (h:g σ M = some (ds,M1)) (hz:ds.length <= 100000):zDc g σ M = some (.dat (.tup ds),M1):=by
 unfold zDc; rw [h]; dsimp only; rw [zTZ (zk hz)]
theorem zAs {f:FE} {σ:Sd} {M M1:Mem} {xs:List D} (h:f σ M = some (.fl xs,M1)):zAO f σ M = some (xs,none,M1):=by
 unfold zAO; rw [h]; rfl
theorem zOU (hf:f σ M = some (.dat (.int i),M)) (hg:g σ M = some (.dat (.int j),M)):fB zIV (zN f (zN g zc)) σ M = some (.dat (.int (if j > i then j else i)),M):=by
 unfold fB zN zc; rw [hf]; dsimp only; rw [hg]; rfl
theorem zGr {α:Type} (hgd:zBJ gd all M) (enc out:α -> D) (keep:α -> Bool):∀ (as:List α),(∀ a ∈ as,∃ σ1,g (enc a) σ = some σ1 /\ tc σ1 M = some (keep a,M) /\ (keep a = true -> te σ1 M = some (.dat (out a),M))) -> zCD g tc te σ all gd (as.map enc) M = some ((as.filter keep).map out,M)
 | [],_=>by
  rw [List.map_nil];unfold zCD;rw [zTZ hgd]; rfl
 | a :: r,h=>by
  obtain ⟨σ1,e1,e2,e3⟩:=h a zTY;have ih:=zGr (σ:=σ) hgd enc out keep r fun b hb=>h b (zTX _ hb);rw [zTd];unfold zCD;rw [zTZ hgd,e1];dsimp only;rw [e2];cases hk:keep a with
  | false=>
   dsimp only;rw [ih,List.filter_cons_of_neg (by simp [hk])]
  | true=>
   dsimp only;rw [show toD te σ1 M = some (out a,M) by unfold toD; rw [e3 hk]];dsimp only;rw [ih,List.filter_cons_of_pos hk];rfl
theorem zm {α:Type} {own:List Nat} {fi:FI} {g:FG} {tc:FT} {te:FE} {σ:Sd} {M M1:Mem} {gd:Option (Mem -> Prop)} (as:List α) (enc out:α -> D) (keep:α -> Bool) (hi:fi σ M = some (as.map enc,gd,M1)) (hgd:zBJ gd (as.map enc) M1) (hz:as.length <= 100000)
  (he:∀ a ∈ as,∃ σ1,g (enc a) (zJB own σ) = some σ1 /\ tc σ1 M1 = some (keep a,M1) /\ (keep a = true -> te σ1 M1 = some (.dat (out a),M1))):zv own fi g tc te σ M = some (.fl ((as.filter keep).map out),M1) :=
 zJ (zCK.mpr ⟨_,_,_,hi,by rw [zTT]; exact zk hz,zF (zGr hgd enc out keep as he) ⟨rfl,rfl⟩⟩)
theorem eqE:kEq (.dat (.int a)) (.dat (.int b)) M = some (.dat (.bl (decide (a = b))),M):=zJ (zHV.mpr ⟨rfl,rfl⟩)
theorem zST:zFy (.dat (.int a)) (.dat (.int b)) M = some (.dat (.int (a - b)),M):=rfl
theorem zPQ (ha:a σ M = some (true,M)) (hb:b σ M = some (k,M)):zBs a b σ M = some (k,M):=by unfold zBs; rw [ha]; exact hb
theorem zKi (ha:a σ M = some (false,M)):zBs a b σ M = some (false,M):=by unfold zBs; rw [ha]
end Lac
namespace Lac
open PySem PySem.Spec PyProof.Rows L2 L3 ST Law
end Lac
namespace Lac
open PySem PySem.Spec PyProof.Rows L2 L3 ST Law
end Lac
namespace Lac
open PySem PySem.Spec PyProof.Rows L2 L3 ST Law
theorem zAk (h1:fv σ M = some (.dat v,M)) (h2:fo σ M = some (.dat (.ref n),M)) (h3:fi σ M = some (.dat k,M)) (h4:zGz M n k v = some M4) (q:P .nx σ M4):OkS (zIr fv fo fi σ M) P:=by
 refine ⟨.nx,σ,M4,?_,q⟩;unfold zIr toD;rw [h1]; dsimp only; rw [h2]; dsimp only; rw [h3]; dsimp only; rw [h4]
end Lac
namespace Lac
open PySem PySem.Spec PyProof.Rows L2 L3 ST Law
theorem zBm {xs:List D} {lo hi:Option Int} {a b:Nat} (ha:HT.sIx xs.length 0 lo = a) (hb:HT.sIx xs.length xs.length hi = b):L3.zC3 xs lo hi = (xs.drop a).take (b - a):=by
 unfold L3.zC3; rw [ha,hb]
theorem zBf (n:Nat) (d:Nat):HT.sIx n d none = d:=rfl
end Lac
namespace Lac
open PySem PySem.Spec PyProof.Rows L2 L3 ST Law
theorem zBN (I:Nat -> Sd -> Mem -> Prop) (hg:∀ t σ M,I t σ M -> zBJ gd all M)
  (hs:∀ t x σ M,xs[t]? = some x -> I t σ M -> ∃ σ1,g x σ = some σ1 /\ OkS (b σ1 M) fun o σ2 M2=>match o with | .nx=>I (t + 1) σ2 M2 | .cnt=>I (t + 1) σ2 M2 | .brk=>P .nx σ2 M2 | .ret d=>P (.ret d) σ2 M2)
  (he:∀ σ M,I xs.length σ M -> P .nx σ M) (σ:Sd) (M:Mem) (h0:I 0 σ M):OkS (zCZ g b all gd xs σ M) P:=by
 refine zDD (I:=fun r σ M=>∃ t,r = xs.drop t /\ t <= xs.length /\ I t σ M) ?_ ?_ _ _ _ ⟨0,rfl,Nat.zero_le _,h0⟩
 ·rintro x r σ M ⟨t,e,ht,hI⟩;have hx:xs[t]? = some x:=by
   have:=zVC (·[0]?) e;simpa using this.symm
  have hr:r = xs.drop (t + 1):=by
   have:=zVC (List.drop 1) e;simpa using this
  have hlt:=(zTN.mp hx).1;obtain ⟨σ1,e1,q⟩:=hs t x σ M hx hI;refine ⟨hg t σ M hI,σ1,e1,OkS.mono q ?_⟩;intro o σ2 M2 z;cases o with
  | nx=>exact ⟨t + 1,hr,hlt,z⟩
  | cnt=>exact ⟨t + 1,hr,hlt,z⟩
  | brk=>exact z
  | ret d=>exact z
 ·rintro σ M ⟨t,e,ht,hI⟩;have:t = xs.length:=by
   have:=zVC List.length e;rw [zVs] at this;simp at this; omega
  subst this;exact ⟨hg _ σ M hI,he σ M hI⟩
theorem zBK:zAR (.dat (.int i)) (.dat (.int j)) M = some (.dat (.int (i + j)),M):=zJ (zBB.mpr ⟨rfl,rfl⟩)
theorem zDI (ha:a σ M = some (k1,M)) (hb:b σ M = some (k2,M)):zBs a b σ M = some (k1 && k2,M):=by
 unfold zBs; rw [ha]; cases k1
 ·rfl
 ·exact hb
def Ex (M A:Mem):Prop:=∃ us,A = M ++ us
theorem Ex.refl (M:Mem):Ex M M:=⟨[],by simp⟩
theorem Ex.app (h:Ex M A) (vs:Mem):Ex M (A ++ vs):=by obtain ⟨us,rfl⟩:=h; exact ⟨us ++ vs,by simp⟩
theorem Ex.len (h:Ex M A):M.length <= A.length:=by obtain ⟨us,rfl⟩:=h; simp
theorem Ex.trans (h:Ex M A) (h2:Ex A B):Ex M B:=by obtain ⟨us,rfl⟩:=h2; exact h.app us
theorem Ex.take (h:Ex M A):A.take M.length = M:=by obtain ⟨us,rfl⟩:=h; simp
theorem zY {A:Mem} {j:Nat} {u:MO} (e:A[j]? = some u) (vs:Mem):(A ++ vs)[j]? = some u:=by rw [zTR (zTN.mp e).1]; exact e
theorem zAd {m:FF} {ds:List D} {M:Mem} {Q:D -> Prop} (wf:∀ (j:Nat) u,M[j]? = some u -> MO.und M.length u = true) (h:Ok (m ds M) fun d A=>D.und 0 d = true /\ Ex M A /\ Q d):Ok (zCe m ds M) fun d A=>A = M /\ Q d:=by
 refine zHd (Ok.mono h ?_);rintro d A ⟨hd,hx,q⟩;refine ⟨⟨zEW (Nat.zero_le _) hd,hx.len,fun j u hj e=>wf j u ?_⟩,hx.take,q⟩;obtain ⟨us,rfl⟩:=hx;rw [zTR hj] at e; exact e
theorem mlR (h:M[n]? = some (.lst xs)):zFX M (.dat (.ref n)) = some xs:=by
 unfold zFX; dsimp only; rw [h]
theorem zBL (hx:zFX M x = some xs) (hy:zFX M y = some ys) (hz:xs.length + ys.length <= 90000):zAn x y M = some (.fl (xs ++ ys),M):=by
 unfold zAn; rw [hx,hy]; dsimp only; rw [zTZ (zk (by omega))]
end Lac
namespace Lab
open PySem PySem.Spec PyProof.Rows L2 L3 ST Law
open Lac (zm zU zT zBN zBK zY Ex zBI zBL mlR zBk zBo zBR zAk zAs zAd zC1)
noncomputable def zEL:FS:=(zr (zv [1] (zAO (zCm (zC 0) (zN (fC (.str " ")) zc))) (gN 1) (zKx (zC 1)) (zC 1)))
noncomputable def zB5:FF:=zCF 2 zEL
noncomputable def zDO:FS:=(zr (fB zAx (zN (zCm (zC 0) (zN (fC (.str "\n")) zc)) zc)))
noncomputable def zBa:FF:=zCF 1 zDO
noncomputable def zE9:FS:=(zS (zAF 1 (zv [2,3] (zEi (zCm (zC 0) (zN (fC (.str "\n")) zc))) (zBr 2 3) zAH (zDc (zD (toD (zC 2)) (zD (toD (zW zB5 (zD (toD (zC 3)) zH))) zH)))))
  (zr (zv [2,4] (zAO (zC 1)) (zBr 2 4) (zIg (zC 4)) (zDc (zD (toD (zC 2)) (zD (toD (zC 4)) zH))))))
noncomputable def zCi:FF:=zCF 5 zE9
noncomputable def zDR:FS:=(zS (sIf (zBC (tst (fB zHi (zN (zv [3] (zAO (zC 0)) (gN 3) zAH (zW zBT (zD (toD (zC 3)) zH))) zc)))) (zr (fC (.str "name"))) zAw)
  (zS (sIf (zDZ (tst (fOp kNe (fB zAx (zN (zC 0) zc)) (zC 1))) (zBC (tst (zBQ kLe kLe (fC (.int 1)) (fOp zFy (fB zAx (zN (zC 0) zc)) (fC (.int 1))) (fC (.int 6)))))) (zr (fC (.str "count"))) zAw)
  (zS (sIf (tst (fOp (zGe false) (fOp kIx (zC 0) (fC (.int 0))) (zC 2))) (zr (fC (.str "twice"))) zAw)
  (zS (sIf (tst (fOp kGe (fB zFP (zN (zC 2) zc)) (fC (.int 26)))) (zr (fC (.str "many"))) zAw)
  (zr (fC .non))))))
noncomputable def zBb:FF:=zCF 4 zDR
abbrev nS (w:List Nat):D:=.str (tx w)
theorem zEv (c:Nat):∀ L:List Nat,(zBj c L).length <= L.length + 1
 | []=>by simp [zBj]
 | x :: r=>by
  have ih:=zEv c r;rw [zBj];split
  ·simp; omega
  ·split
   ·rename_i p ps e;rw [e] at ih;simp at ih ⊢; omega
   ·simp
theorem zF0 (c:Nat):∀ L:List Nat,∀ p ∈ zBj c L,p.length <= L.length
 | [],p,h=>by simp [zBj] at h; simp [h]
 | x :: r,p,h=>by
  have ih:=zF0 c r;rw [zBj] at h;split at h
  ·rcases zTW.mp h with z | z
   ·simp [z]
   ·have:=ih p z; simp; omega
  ·split at h
   ·rename_i q qs e;rw [e] at ih;rcases zTW.mp h with z | z
    ·have:=ih q (by simp); rw [z]; simp; omega
    ·have:=ih p (by simp [z]); simp; omega
   ·simp at h; simp [h]
theorem zK7 {s:Str} (h:s.cps.toList = [c]):s = ⟨#[c]⟩:=by rw [<- zC6 s,h]
theorem zMX:Str.ofString " " = ⟨#[32]⟩:=zK7 (by decide +kernel)
theorem zJ9:Str.ofString "\n" = ⟨#[10]⟩:=zK7 (by decide +kernel)
theorem zGS (hs:s = ⟨#[c]⟩) (hc:c < 256) (hf:f σ M = some (.dat (nS x),M)) (hx:x.length <= 90000):zCm f (zN (fC (.str s)) zc) σ M = some (.fl ((zBj c x).map nS),M):=by
 subst hs;unfold zCm;rw [hf];show (if (⟨#[c]⟩:Str).length = 1 /\ (tx x).length <= 100000 then some (EV.fl ((zCP (tx x) ⟨#[c]⟩).map D.str),M) else none) = _;rw [zTZ ⟨rfl,by rw [zBp]; omega⟩,zMA _ hc,zTi];simp [Function.comp_def]
theorem zNt (hx:x.length <= 80000) (M:Mem):zB5 [nS x] M = some (.ref M.length,M ++ [.lst ((tok x).map nS)]):=by
 refine zJ ?_;unfold zB5;rw [zAg];unfold zEL;show OkS (zr _ [some (nS x),none] M) _;rw [zy];have hm:=zEv 32 x;refine zF (zm (own:=[1]) (g:=gN 1) (tc:=zKx (zC 1)) (te:=zC 1) (σ:=[some (nS x),none]) (M:=M) (gd:=none) (zBj 32 x) nS nS (fun w=> !w.isEmpty) (zAs (zGS zMX (by decide) rfl (by omega))) trivial (by omega) fun w hw=>⟨_,rfl,?_,fun _=>rfl⟩) (zU ⟨rfl,rfl⟩);have hl:=zF0 32 x w hw;show (if (tx w).length <= 100000 then some ((tx w).length != 0,M) else none) = _;rw [zBp,zTZ (by omega)];cases w with
 | nil=>rfl
 | cons a b=>rfl
theorem zGI (I:Nat -> List D -> Mem -> Prop)
  (hs:∀ i x acc M,xs[i]? = some x -> I i acc M -> ∃ σ1,g x σ = some σ1 /\ Ok (te σ1 M) (zFa fun d M2=>I (i + 1) (acc ++ [d]) M2)) (h0:I 0 [] M) :
  Ok (zCD g zAH te σ all none xs M) fun ys M1=>I xs.length ys M1:=by
 refine Ok.mono (zB8 (I:=fun r acc M=>∃ i,i <= xs.length /\ r = xs.drop i /\ I i acc M) (Q:=fun acc M=>I xs.length acc M) ?_ ?_ _ [] _ ⟨0,Nat.zero_le _,by simp,h0⟩) fun ys M1 q=>by simpa using q
 ·rintro x r acc M ⟨i,hi,e,hI⟩;have hx:xs[i]? = some x:=by
   have:=zVC (·[0]?) e;simpa using this.symm
  have hr:r = xs.drop (i + 1):=by
   have:=zVC (List.drop 1) e;simpa using this
  have hlt:=(zTN.mp hx).1;obtain ⟨σ1,e1,q⟩:=hs i x acc M hx hI;refine ⟨zAm,σ1,e1,zEn.mpr ?_⟩;rw [zTZ rfl];refine Ok.mono q ?_;intro x M2 z;cases x with
  | dat d=>exact ⟨i + 1,hlt,hr,z⟩
  | fl xs=>exact ⟨i + 1,hlt,hr,z⟩
 ·rintro acc M ⟨i,hi,e,hI⟩;have:i = xs.length:=by
   have:=zVC List.length e;rw [zVs] at this;simp at this; omega
  subst this;exact ⟨zAm,hI⟩
abbrev eD (e:Nat × Nat):D:=.tup [.int (e.1:Nat),.ref e.2]
open Lac (zm zU zT zBN zBK zY Ex zBI zBL mlR zBk zBo zBR zAk zAs zAd zC1)
def phS (ks:List (List Nat)) (φ:List Nat -> Int):List (D × D):=ks.map fun w=>(nS w,.int (φ w))
theorem zH4 (h:tx a = tx b):a = b:=by
 have:=zVC (fun s:Str=>s.cps.toList) h;simpa using this
theorem zJf (w:List Nat):zBe (nS w) = some (.inr (tx w)):=rfl
theorem zPc:((phS ks φ).any fun p=>decide (zBe p.1 = some (.inr (tx x)))) = decide (x ∈ ks):=by
 unfold phS;rw [zV2,List.any_eq_true,decide_eq_true_iff];constructor
 ·rintro ⟨p,hp,e⟩;obtain ⟨y,hy,rfl⟩:=zTb.mp hp;have e:=of_decide_eq_true e;have:y = x:=zH4 (by rw [zJf] at e; injection e with e; injection e);rw [<- this]; exact hy
 ·intro hx;exact ⟨_,zTb.mpr ⟨x,hx,rfl⟩,zUX rfl⟩
theorem zGG:∀ {ks:List (List Nat)},zCN zBe (phS ks φ) (.inr (tx x)) = if x ∈ ks then some (.int (φ x)) else none
 | []=>rfl
 | k :: ks=>by
  have ih:=zGG (φ:=φ) (x:=x) (ks:=ks);unfold zCN phS at ih ⊢;rw [zTd,zVB];by_cases h:k = x
  ·subst h;rw [show decide (zBe (nS k) = some (.inr (tx k))) = true from zUX rfl,zTZ zTY]; rfl
  ·rw [show decide (zBe (nS k) = some (.inr (tx x))) = false from zTt fun e=>h (zH4 (by rw [zJf] at e; injection e with e; injection e))];dsimp only;rw [ih];by_cases hx:x ∈ ks
   ·rw [zTZ hx,zTZ (zTX _ hx)]
   ·rw [zTc hx,zTc fun e=>(zTW.mp e).elim (fun z=>h z.symm) hx]
theorem zNj (h:(ps.any fun p=>decide (zBe p.1 = some k)) = false):zIR zBe ps k d v = ps ++ [(d,v)]:=by
 unfold zIR;rw [zTc (by rw [h]; exact zTg)]
theorem zO1 (e:A[n]? = some (.dict (phS ks φ))) (hx:x ∉ ks) (hz:ks.length <= 1000):zGz A n (nS x) (.int (φ x)) = some (A.set n (.dict (phS (ks ++ [x]) φ))):=by
 unfold zGz;rw [e];dsimp only;rw [zJf];dsimp only;rw [zTZ (zTj (show (phS ks φ).length < 100000 by unfold phS; rw [zTT]; omega) (zk (zTQ _))),zNj (by rw [zPc,zTt hx])];unfold phS;rw [zUH];simp
theorem zMI (e:A[n]? = some (.dict (phS ks φ))):zGe false (.dat (nS x)) (.dat (.ref n)) A = some (.dat (.bl (decide (x ∈ ks))),A):=by
 have:zFL A (.dat (.ref n)) (nS x) = some (zCN zBe (phS ks φ) (.inr (tx x))):=by
  unfold zFL; dsimp only; rw [e]; rfl
 unfold zGe;dsimp only;rw [this];dsimp only;rw [zGG];by_cases h:x ∈ ks
 ·rw [zTZ h,zUX h]; rfl
 ·rw [zTc h,zTt h]; rfl
theorem zOt (e:A[n]? = some (.dict (phS ks φ))) (hx:x ∈ ks):zFF (.dat (.ref n)) (.dat (nS x)) A = some (.dat (.int (φ x)),A):=by
 have:zFL A (.dat (.ref n)) (nS x) = some (zCN zBe (phS ks φ) (.inr (tx x))):=by
  unfold zFL; dsimp only; rw [e]; rfl
 unfold zFF;dsimp only;rw [this,zGG,zTZ hx]
theorem zKY (hf:f σ A = some (.dat (.ref n),A)) (e:A[n]? = some (.dict (phS ks φ))):fB zFP (zN f zc) σ A = some (.dat (.int ks.length),A):=by
 unfold fB zN zc;rw [hf];show zFP [.dat (.ref n)] A = _;unfold zFP;dsimp only;rw [e];show some (EV.dat (D.int ((phS ks φ).length:Nat)),A) = _;unfold phS;rw [zTT]
def Nm (w:List Nat):Prop:=w ≠ [] /\ w.length <= 8 /\ ∀ c ∈ w,zDt c = true
theorem Nm.no (h:Nm w) (hc:zDt c = false):c ∉ w:=fun z=>by
 have:=h.2.2 c z;rw [hc] at this; cases this
structure Nms (NN:List (List Nat)):Prop where
 nd:NN.Nodup
 ok:∀ w ∈ NN,Nm w
section
variable {zA:List (List Int)} {l:Nat} {NN:List (List Nat)}
theorem zR3 (hl:NN.length = zA.length) (h:r < zA.length):NN.getD r [] ∈ NN:=by
 rw [zTP,zTO (by omega)]; exact List.getElem_mem _
theorem zLM (m:IsM zA l) (hl:NN.length = zA.length) (hi:i < zA.length):∀ x ∈ NN.getD i [] :: (zA.getD i []).map (fun g=>NN.getD g.toNat []),x ∈ NN:=fun x hx=>by
 rcases zTW.mp hx with z | z
 ·rw [z]; exact zR3 hl hi
 ·obtain ⟨g,hg,rfl⟩:=zTb.mp z;have:=(m.get (h:=(i:Nat)) (by omega) (by omega)).2 g (by rw [zV9]; exact hg);exact zR3 hl (by omega)
end
open Lac (zm zU zT zBN zBK zY Ex zBI zBL mlR zBk zBo zBR zAk zAs zAd zC1 zBm zBf)
theorem zNQ (hf:f σ A = some (.dat (.ref n),A)) (hx:A[n]? = some (.lst xs)):fSl f (zu (fC (.int 1))) zw σ A = some (.fl (xs.drop 1),A):=by
 have hc:L3.zC3 xs (some 1) none = xs.drop 1:=by
  rw [zBm (a:=min 1 xs.length) (b:=xs.length) (by show HT.sIx _ _ (some ((1:Nat):Int)) = _; rw [HT.zHc]) (by rw [zBf])];rw [zUv (by rw [zVs]; omega)];cases xs with
  | nil=>rfl
  | cons a b=>simp
 have:fSl f (zu (fC (.int 1))) zw σ A = some (.fl (L3.zC3 xs (some 1) none),A):=by
  unfold fSl;rw [hf];show kSl (.dat (.ref n)) (some 1) none A = _;unfold kSl;dsimp only [zB7];rw [zAa hx]
 rw [this,hc]
open Lac (zm zU zT zBN zBK zY Ex zBI zBL mlR zBk zBo zBR zAk zAs zAd zC1 zBm zBf)
noncomputable def zDT:FS:=(zS (zAF 2 (fC (.str "abcdefghijklmnopqrstuvwxyz")))
  (zS (zAF 3 (fOp kIx (zC 2) (zW zP (zD (toD (zC 0)) (zD (toD (fC (.int 26))) zH)))))
  (zS (zAF 4 (fOp zAR (fC (.int 1)) (zW zP (zD (toD (zC 0)) (zD (toD (fC (.int 8))) zH)))))
  (zS (zAF 5 (zW zP (zD (toD (zC 0)) (zD (toD (zC 4)) zH))))
  (zS (zAF 6 (zW zP (zD (toD (zC 0)) (zD (toD (fC (.int 26))) zH))))
  (zS (zAF 7 (zp zH))
  (zS (zFY (zBl (zD (toD (zC 1)) zH)) (gN 8) (sIf (zBs (tst (fOp kLt (zC 1) (fC (.int 9)))) (tst (fOp kGt (zC 4) (fC (.int 6))))) (zDC (fM zBV (zC 7) (zD (toD (fOp zD1 (zC 3) (fOp zAR (zC 8) (fC (.int 1))))) zH))) (zS (zAF 9 (fOp kIx (zC 2) (fOp zDu (fOp zAR (zC 6) (fOp zGZ (fC (.int 3)) (zC 8))) (fC (.int 26)))))
  (zDC (fM zBV (zC 7) (zD (toD (fOp zFW (fOp zFW (fOp zD1 (zC 3) (zC 5)) (zC 9)) (fOp zD1 (zC 3) (fOp zFy (fOp zFy (zC 4) (fC (.int 1))) (zC 5))))) zH))))))
  (zr (fB zAv (zN (zC 7) zc))))))))))
noncomputable def zBc:FF:=zCe (zCF 10 zDT)
theorem zHH (s:List Nat) {B:Nat}:∀ {ps:List (List Nat)},(∀ p ∈ ps,p.length <= B) -> (jnL s ps).length <= ps.length * (B + s.length)
 | [],_=>by simp [jnL]
 | [p],h=>by have:=h p (by simp); simp [jnL]; omega
 | p :: q :: r,h=>by
  have h1:=h p (by simp);have h2:=zHH s fun x hx=>h x (zTX p hx);show (p ++ (s ++ jnL s (q :: r))).length <= _;rw [zTa,zTa,List.length_cons,Nat.add_mul,Nat.one_mul];omega
theorem zJD {α:Type}:∀ (n:Nat) (x acc:Array α),((List.replicate n x).foldl (· ++ ·) acc).toList = acc.toList ++ (List.replicate n x.toList).flatten
 | 0,x,acc=>by simp
 | n + 1,x,acc=>by
  rw [zUi,List.foldl_cons,zJD n x (acc ++ x),zUi,List.flatten_cons,Array.toList_append,zUV]
theorem zQG (x:List Nat) (n:Nat):Txt.mul (tx x) (n:Int) = tx (List.replicate n x).flatten:=by
 rw [<- zC6 (Txt.mul (tx x) (n:Int))];congr 1;unfold Txt.mul;by_cases h:n = 0
 ·subst h; rw [zTZ (by decide)]; rfl
 ·rw [zTc (by omega)];by_cases h1:((n:Int) == 1 || (tx x).length == 0) = true
  ·rw [zTZ h1];rw [Bool.or_eq_true,zVL,zVL,zBp] at h1;rcases h1 with h1 | h1
   ·have:n = 1:=by omega
    subst this; simp
   ·have:x = []:=List.length_eq_zero_iff.mp h1;subst this;simp
  ·rw [zTc h1,zV9];show ((List.replicate n x.toArray).foldl (· ++ ·) #[]).toList = _;rw [zJD]; simp
theorem mul_one (c n:Nat):Txt.mul (tx [c]) (n:Int) = tx (List.replicate n c):=by
 rw [zQG];congr 1;induction n with
 | zero=>rfl
 | succ n ih=>rw [zUi,List.flatten_cons,ih,zUi,List.singleton_append]
theorem zOx {f g:FE} {σ:Sd} {M:Mem} {c n:Nat} {i:Int} (hf:f σ M = some (.dat (nS [c]),M)) (hg:g σ M = some (.dat (.int i),M)) (hi:i = (n:Nat)) (h:n <= 1000):fOp zD1 f g σ M = some (.dat (nS (List.replicate n c)),M):=by
 subst hi;refine zO hf hg (zJ ((zQ9 (by omega) (by omega) (by rw [zBp]; simp)).mpr ?_));rw [mul_one]; exact ⟨rfl,rfl⟩
theorem zRH (a b:List Nat):tx a ++ tx b = tx (a ++ b):=by
 rw [<- zC6 (tx a ++ tx b),zMG]
theorem zRr {f g:FE} {σ:Sd} {M:Mem} {a b:List Nat} (hf:f σ M = some (.dat (nS a),M)) (hg:g σ M = some (.dat (nS b),M)) (h:a.length + b.length <= 100000):fOp zFW f g σ M = some (.dat (nS (a ++ b)),M):=by
 refine zO hf hg (zJ ((zQ8 (by rw [zBp,zBp]; exact h)).mpr ?_));rw [zRH]; exact ⟨rfl,rfl⟩
theorem zQq:∀ i:Fin 26,LET.cps.toList[i.val]? = some (97 + i.val):=by decide +kernel
theorem zSG {M:Mem} {i:Int} (h0:0 <= i) (h1:i < 26):kIx (.dat (.str LET)) (.dat (.int i)) M = some (.dat (nS [97 + i.toNat]),M):=by
 unfold kIx;have hs:zAV M (.dat (.str LET)) = none:=rfl;dsimp only;rw [hs];dsimp only;have hl:LET.length <= sizeLine:=zk (by show LET.cps.size <= _; rw [<- zT8,zOc]; decide);have hat:atI LET.cps.toList i = some (97 + i.toNat):=by
  have:=zBt (xs:=LET.cps.toList) (j:=i.toNat) (zQq ⟨i.toNat,by omega⟩);rw [show ((i.toNat:Nat):Int) = i by omega] at this;exact this
 rw [zTZ hl,hat]
def nmL (b many size at_ first k:Nat):List Nat:=if many < 9 /\ 6 < size then List.replicate (k + 1) b else List.replicate at_ b ++ [97 + (first + 3 * k) % 26] ++ List.replicate (size - 1 - at_) b
theorem zSh {b many size at_ first k:Nat} (hb:zDt b = true) (hs:size <= 8) (ha:at_ < size) (hk:k < many):Nm (nmL b many size at_ first k):=by
 unfold nmL;split
 ·refine ⟨by simp,by rw [List.length_replicate]; omega,fun c hc=>?_⟩;rw [(List.mem_replicate.mp hc).2]; exact hb
 ·refine ⟨by simp,by simp; omega,fun c hc=>?_⟩;rcases zTk.mp hc with z | z
  ·rcases zTk.mp z with z | z
   ·rw [(List.mem_replicate.mp z).2]; exact hb
   ·rw [zTm.mp z];unfold zDt;rw [zUX (by omega),zUX (by omega)]; rfl
  ·rw [(List.mem_replicate.mp z).2]; exact hb
theorem zRQ {b many size at_ first k j:Nat} (hk:k < 26) (hj:j < 26) (e:nmL b many size at_ first k = nmL b many size at_ first j):k = j:=by
 unfold nmL at e;split at e
 ·have:=zVC List.length e;rw [List.length_replicate,List.length_replicate] at this; omega
 ·have:=zVC (·[at_]?) e;simp at this;omega
theorem zRX {b many size at_ first:Nat} (hb:zDt b = true) (hs:size <= 8) (ha:at_ < size) (hm:many <= 26):Nms ((List.range many).map (nmL b many size at_ first)):=by
 refine ⟨?_,fun w hw=>?_⟩
 ·unfold List.Nodup;rw [List.pairwise_map];refine (List.Pairwise.and_mem.mp (List.nodup_range (n:=many))).imp fun {x y} h e=>h.2.2 (zRQ ?_ ?_ e)
  ·have:=zTy.mp h.1; omega
  ·have:=zTy.mp h.2.1; omega
 ·obtain ⟨k,hk,rfl⟩:=zTb.mp hw;exact zSh hb hs ha (zTy.mp hk)
theorem zNI {M:Mem} {n k:Nat} {many:Nat} (h:Gen M n k) (h0:0 < many) (h1:many <= 26):Ok (zBc [.ref n,.int (many:Nat)] M) fun d M'=>Nx M M' n k /\ ∃ NN,d = .tup (NN.map nS) /\ Nms NN /\ NN.length = many:=by
 unfold zBc;refine zHd ?_;rw [zAg];unfold zDT;show OkS (zS _ _ [some (.ref n),some (.int (many:Nat)),none,none,none,none,none,none,none,none] M) _;refine zE1 (d:=.str LET) rfl ?_;show OkS (zS _ _ [some (.ref n),some (.int (many:Nat)),some (.str LET),none,none,none,none,none,none,none] M) _;rw [zM,zX];refine zb.mpr (zV.mpr ⟨_,rfl,zj h rfl rfl (by decide) (by decide) fun b M1 b0 b1 nx1=>zF (zSG b0 b1) ?_⟩);rw [zK,zR,zM,zX];refine zb.mpr (zAL.mpr (zj nx1.gen rfl rfl (by decide) (by decide) fun s M2 s0 s1 nx2=>zBB.mpr ?_));rw [zK,zR,zM,zX];refine zj (m:=1 + s) nx2.gen rfl rfl (by omega) (by omega) fun a M3 a0 a1 nx3=>?_;rw [zK,zR,zM,zX];refine zj nx3.gen rfl rfl (by decide) (by decide) fun f M4 f0 f1 nx4=>?_;rw [zK,zR,zM,zX];have nx:=((nx1.trans nx2).trans nx3).trans nx4;obtain ⟨fn,rfl⟩:∃ fn:Nat,f = fn:=⟨f.toNat,by omega⟩;obtain ⟨an,rfl⟩:∃ an:Nat,a = an:=⟨a.toNat,by omega⟩;obtain ⟨sn,hsn⟩:∃ sn:Nat,1 + s = sn:=⟨(1 + s).toNat,by omega⟩;rw [hsn];have hb:zDt (97 + b.toNat) = true:=by unfold zDt; rw [zUX (by omega),zUX (by omega)]; rfl
 generalize 97 + b.toNat = c at hb;refine zCw.mpr (zAr.mpr ⟨zk (by simp),zU ?_⟩);rw [zR];show OkS (zS _ _ [some (.ref n),some (.int (many:Nat)),some (.str LET),some (nS [c]),some (.int (sn:Nat)),some (.int (an:Nat)),some (.int (fn:Nat)),some (.ref M4.length),none,none] (M4 ++ [MO.lst (((List.range 0).map (nmL c many sn an fn)).map nS)])) _;rw [zM,zCu];refine ⟨_,_,_,zEj (j:=(many:Nat)) rfl (by omega) (by omega),?_⟩;rw [zV9];refine zHR (n:=many) (I:=fun t σ A=>(∃ y8 y9,σ = [some (.ref n),some (.int (many:Nat)),some (.str LET),some (nS [c]),some (.int (sn:Nat)),some (.int (an:Nat)),some (.int (fn:Nat)),some (.ref M4.length),y8,y9]) /\ A = M4 ++ [MO.lst (((List.range t).map (nmL c many sn an fn)).map nS)]) ?_ ?_ _ _ ⟨⟨_,_,rfl⟩,rfl⟩
 ·rintro t σ A ht ⟨⟨y8,y9,rfl⟩,rfl⟩;refine ⟨_,rfl,?_⟩;have eL:(M4 ++ [MO.lst (((List.range t).map (nmL c many sn an fn)).map nS)])[M4.length]? = some (.lst (((List.range t).map (nmL c many sn an fn)).map nS)):=zT _ _;have fin:∀ {w:List Nat},w = nmL c many sn an fn t -> (M4 ++ [MO.lst (((List.range t).map (nmL c many sn an fn)).map nS)]).set M4.length (.lst (((List.range t).map (nmL c many sn an fn)).map nS ++ [nS w])) = M4 ++ [MO.lst (((List.range (t + 1)).map (nmL c many sn an fn)).map nS)]:=fun {w} e=>by
   rw [List.set_append_right _ _ (zTQ _),Nat.sub_self,List.set_cons_zero,List.range_succ,zUH,zUH,e]; rfl
  have hz:(((List.range t).map (nmL c many sn an fn)).map nS).length < sizeLine:=zTj (by rw [zTT,zTT,zVM]; omega) (zk (n:=100) (by decide));show OkS (sIf _ _ _ [some (.ref n),some (.int (many:Nat)),some (.str LET),some (nS [c]),some (.int (sn:Nat)),some (.int (an:Nat)),some (.int (fn:Nat)),some (.ref M4.length),some (.int (t:Nat)),y9] (M4 ++ [MO.lst (((List.range t).map (nmL c many sn an fn)).map nS)])) _;generalize M4 ++ [MO.lst (((List.range t).map (nmL c many sn an fn)).map nS)] = A at eL fin;rw [zAI];have hc1:tst (fOp kLt (zC 1) (fC (.int 9))) [some (.ref n),some (.int (many:Nat)),some (.str LET),some (nS [c]),some (.int (sn:Nat)),some (.int (an:Nat)),some (.int (fn:Nat)),some (.ref M4.length),some (.int (t:Nat)),y9] A = some (decide ((many:Int) < 9),A):=zf (zO (x:=.dat (.int (many:Nat))) (y:=.dat (.int 9)) rfl rfl (zJ (zJ2.mpr ⟨rfl,rfl⟩)));have hc2:tst (fOp kGt (zC 4) (fC (.int 6))) [some (.ref n),some (.int (many:Nat)),some (.str LET),some (nS [c]),some (.int (sn:Nat)),some (.int (an:Nat)),some (.int (fn:Nat)),some (.ref M4.length),some (.int (t:Nat)),y9] A = some (decide ((sn:Int) > 6),A):=zf (zO (x:=.dat (.int (sn:Nat))) (y:=.dat (.int 6)) rfl rfl (zJ (zQm.mpr ⟨rfl,rfl⟩)));refine zF (Lac.zDI hc1 hc2) ?_;by_cases hq:many < 9 /\ 6 < sn
  ·rw [zTZ (by rw [zUX (by omega),zUX (by omega)]; rfl),zDL];refine zLV.mpr (zV.mpr ⟨_,rfl,⟨_,zAa eL⟩,zF (zo (zOx (c:=c) (n:=t + 1) rfl (zO (x:=.dat (.int (t:Nat))) (y:=.dat (.int 1)) rfl rfl zBK) (by omega) (by omega))) ((zEV eL hz).mpr ⟨⟨_,_,rfl⟩,fin ?_⟩)⟩);unfold nmL; rw [zTZ hq]
  ·rw [zTc (by rw [zTu,zUc,zUc]; omega)];have hs:fOp kIx (zC 2) (fOp zDu (fOp zAR (zC 6) (fOp zGZ (fC (.int 3)) (zC 8))) (fC (.int 26))) [some (.ref n),some (.int (many:Nat)),some (.str LET),some (nS [c]),some (.int (sn:Nat)),some (.int (an:Nat)),some (.int (fn:Nat)),some (.ref M4.length),some (.int (t:Nat)),y9] A = some (.dat (nS [97 + (fn + 3 * t) % 26]),A):=by
    have e1:=zO (k:=kIx) (f:=zC 2) (g:=fOp zDu (fOp zAR (zC 6) (fOp zGZ (fC (.int 3)) (zC 8))) (fC (.int 26))) (σ:=[some (.ref n),some (.int (many:Nat)),some (.str LET),some (nS [c]),some (.int (sn:Nat)),some (.int (an:Nat)),some (.int (fn:Nat)),some (.ref M4.length),some (.int (t:Nat)),y9]) (M:=A) (x:=.dat (.str LET)) (y:=.dat (.int (((fn:Int) + 3 * (t:Int)) % 26))) rfl (zO (zO (x:=.dat (.int (fn:Nat))) (y:=.dat (.int (3 * (t:Int)))) rfl (zO (x:=.dat (.int 3)) (y:=.dat (.int (t:Nat))) rfl rfl (zJ (zIs.mpr ⟨by unfold zIm; simp <;> omega,rfl,rfl⟩))) zBK) (y:=.dat (.int 26)) rfl (Lac.zS8 (by decide))) (zSG (by omega) (by omega));rw [e1];congr 5
   refine zE1 (d:=nS [97 + (fn + 3 * t) % 26]) hs ?_;show OkS (zDC _ [some (.ref n),some (.int (many:Nat)),some (.str LET),some (nS [c]),some (.int (sn:Nat)),some (.int (an:Nat)),some (.int (fn:Nat)),some (.ref M4.length),some (.int (t:Nat)),some (nS [97 + (fn + 3 * t) % 26])] A) _;rw [zDL];refine zLV.mpr (zV.mpr ⟨_,rfl,⟨_,zAa eL⟩,zF (zo (zRr (zRr (zOx (c:=c) (n:=an) rfl rfl rfl (by omega)) (b:=[97 + (fn + 3 * t) % 26]) rfl (by simp; omega)) (zOx (c:=c) (n:=sn - 1 - an) rfl (zO (zO (x:=.dat (.int (sn:Nat))) (y:=.dat (.int 1)) rfl rfl Lac.zST) (y:=.dat (.int (an:Nat))) rfl Lac.zST) (by omega) (by omega)) (by simp; omega))) ((zEV eL hz).mpr ⟨⟨_,_,rfl⟩,fin ?_⟩)⟩);unfold nmL; rw [zTc hq]
 ·rintro σ A ⟨⟨y8,y9,rfl⟩,rfl⟩;rw [zR];refine zx (d:=.tup (((List.range many).map (nmL c many sn an fn)).map nS)) (zCd (x:=.dat (.ref M4.length)) rfl (za (zT _ _))) ⟨⟨?_,by rw [zTa,nx.len]; omega,fun j u hj e=>?_⟩,?_,_,rfl,zRX hb (by omega) (by omega) h1,by simp⟩
  ·unfold D.und;exact zBY fun x hx=>by obtain ⟨w,_,rfl⟩:=zTb.mp hx; rfl
  ·rw [zTR (by rw [nx.len]; exact hj)] at e;have:=nx.gen.wf j u e;rw [nx.len] at this; exact this
  ·rw [<- nx.len,List.take_left]; exact nx
open Lac (zm zU zT zBN zBK zY Ex zBI zBL mlR zBk zBo zBR zAk zAs zAd zC1 zBm zBf)
theorem zB9 (rs:List (List Nat)):D.unds N (rs.map nS) = true:=zBY fun x hx=>by obtain ⟨w,_,rfl⟩:=zTb.mp hx; rfl
theorem zOu (hf:f σ M = some (.dat (nS sep),M))
  (h:Ok (fa σ M) fun xs M2=>∃ (x:EV) (ys:List (List Nat)),xs = [x] /\ zA3 M2 x = some (ys.map nS) /\ (∀ y ∈ ys,y.length <= 1000) /\ ys.length <= 100 /\ sep.length <= 100 /\ P (.dat (nS (jnL sep ys))) M2):Ok (zEd f fa σ M) P:=by
 refine zPN hf (Ok.mono h ?_);rintro xs M2 ⟨x,ys,rfl,hl,hy,hn,hs,q⟩;refine ⟨x,ys.map tx,rfl,by rw [hl,zTi]; rfl,?_,by rw [zOb]; exact q⟩;have:∀ zs:List (List Nat),(∀ y ∈ zs,y.length <= 1000) -> ((zs.map tx).map (·.length)).sum <= zs.length * 1000:=by
  intro zs;induction zs with
  | nil=>intro _; simp
  | cons z zs ih=>
   intro hz;have h1:=hz z (by simp);have h2:=ih fun y hy=>hz y (by simp [hy]);rw [zTd,zTd,List.sum_cons,zBp,List.length_cons,Nat.add_mul]; omega
 have h1:=this ys hy;have h2:ys.length * sep.length <= 100 * 100:=Nat.mul_le_mul hn hs;rw [zTT,zBp];omega
theorem zP4 (hs:c ∉ s):∀ {ps:List (List Nat)},(∀ p ∈ ps,c ∉ p) -> c ∉ jnL s ps
 | [],_=>by simp [jnL]
 | [p],h=>h p (by simp)
 | p :: q :: r,h=>fun z=>by
  have z:c ∈ p ++ (s ++ jnL s (q :: r)):=z;rcases zTk.mp z with z | z
  ·exact h p (by simp) z
  ·rcases zTk.mp z with z | z
   ·exact hs z
   ·exact zP4 hs (fun x hx=>h x (zTX _ hx)) z
end Lab
namespace Lah
open PySem PySem.Spec PyProof.Rows L2 L3 ST Law Lab
open Lac (zm zU zT zBN zBK zY Ex zBI zBL mlR zBk zBo zBR zAk zAs zAd zC1 zBm zBf zDI)
noncomputable def zCR:FS:=(zr (zEy (zBQ kLe kLe (fC (.int 1)) (fB zFH (zN (zC 0) zc)) (fC (.int 8))) (fB zHi (zN (zv [1] (zLc (zC 0)) (gN 1) zAH (fOp zNN (zC 1) (fC (.str "abcdefghijklmnopqrstuvwxyz")))) zc))))
noncomputable def zAo:FF:=zCF 2 zCR
noncomputable def zDG:FS:=(zS (sIf (zBC (tst (fB zHi (zN (zv [2] (zAO (zC 0)) (gN 2) zAH (zW zAo (zD (toD (zC 2)) zH))) zc)))) (zr (fC (.str "name"))) zAw)
  (zS (sIf (zDZ (tst (fOp kLt (fB zAx (zN (zC 0) zc)) (fC (.int 2)))) (zDZ (tst (fOp kGt (fB zAx (zN (zC 0) zc)) (fC (.int 7)))) (zBs (tst (fOp kNe (zC 1) (zp zH))) (tst (fOp kNe (fB zAx (zN (fOp kIx (zC 1) (fC (.int 0))) zc)) (fB zAx (zN (zC 0) zc))))))) (zr (fC (.str "count"))) zAw)
  (zS (sIf (tst (fOp (zGg false) (fOp kIx (zC 0) (fC (.int 0))) (zv [3] (zAO (zC 1)) (gN 3) zAH (fOp kIx (zC 3) (fC (.int 0)))))) (zr (fC (.str "twice"))) zAw)
  (zr (vIf (tst (fOp kGt (fB zAx (zN (zC 1) zc)) (fC (.int 25)))) (fC (.str "many")) (fC (.str "")))))))
noncomputable def zBd:FF:=zCF 4 zDG
def OkR (x:Option Res) (P:Out -> Sd -> Mem -> Prop) (R:Nat -> Str -> Mem -> Prop):Prop:=(∃ o σ M,x = some (.inl (o,σ,M)) /\ P o σ M) \/ ∃ i s M,x = some (.inr (i,s,M)) /\ R i s M
section
variable {σ:Sd} {M:Mem} {P:Out -> Sd -> Mem -> Prop} {R:Nat -> Str -> Mem -> Prop}
theorem zCq (h:OkS (f σ M) P):OkR (mOf f σ M) P R:=by
 obtain ⟨o,σ1,M1,e,p⟩:=h;exact .inl ⟨o,σ1,M1,by unfold mOf; rw [e],p⟩
theorem zBv (h:OkR (f σ M) (nxP (fun σ1 M1=>OkR (g σ1 M1) P R) P) R):OkR (zCS f g σ M) P R:=by
 rcases h with ⟨o,σ1,M1,e,p⟩ | ⟨i,s,M1,e,p⟩
 ·unfold zCS;rw [e];cases o with
  | nx=>exact p
  | ret d=>exact .inl ⟨_,_,_,rfl,p⟩
  | brk=>exact .inl ⟨_,_,_,rfl,p⟩
  | cnt=>exact .inl ⟨_,_,_,rfl,p⟩
 ·unfold zCS;rw [e];exact .inr ⟨_,_,_,rfl,p⟩
theorem zHh (h:Ok (c σ M) fun k M1=>if k then OkR (f σ M1) P R else OkR (g σ M1) P R):OkR (mIf c f g σ M) P R:=by
 obtain ⟨k,M1,e,p⟩:=h;unfold mIf;rw [e];cases k with
 | true=>simpa using p
 | false=>simpa using p
theorem zFD (h:Ok (fa σ M) fun ds M1=>∃ (i:Nat) (x:Str),ds = [.int i,.str x] /\ R i x M1):OkR (zD8 fa σ M) P R:=by
 obtain ⟨ds,M1,e,i,x,rfl,q⟩:=h;exact .inr ⟨i,x,M1,by unfold zD8; rw [e],q⟩
theorem zKb {fi:FI} {g:FG} {b:FMS} {xs:List D} {gd:Option (Mem -> Prop)} {M1:Mem} (e:fi σ M = some (xs,gd,M1)) (h:OkR (zDB g b xs gd xs σ M1) P R):OkR (zJi fi g b σ M) P R:=by
 unfold zJi; rw [e]; exact h
theorem zJ6 {all xs:List D} (I:Nat -> Sd -> Mem -> Prop) (hg:∀ t σ M,I t σ M -> zBJ gd all M)
  (hs:∀ t x σ M,xs[t]? = some x -> I t σ M -> ∃ σ1,g x σ = some σ1 /\ OkR (b σ1 M) (fun o σ2 M2=>o = .nx /\ I (t + 1) σ2 M2) R)
  (he:∀ σ M,I xs.length σ M -> P .nx σ M):∀ (k t:Nat) (σ:Sd) (M:Mem),t + k = xs.length -> I t σ M -> OkR (zDB g b all gd (xs.drop t) σ M) P R
 | 0,t,σ,M,ht,hI=>by
  rw [Nat.add_zero] at ht;subst ht;rw [List.drop_length];unfold zDB;rw [zTZ (hg _ σ M hI)];exact .inl ⟨_,_,_,rfl,he σ M hI⟩
 | k + 1,t,σ,M,ht,hI=>by
  have hlt:t < xs.length:=by omega
  rw [zXR hlt];obtain ⟨σ1,e1,q⟩:=hs t xs[t] σ M (zTO hlt) hI;unfold zDB;rw [zTZ (hg _ σ M hI),e1];dsimp only;rcases q with ⟨o,σ2,M2,e,rfl,p⟩ | ⟨i,s,M2,e,p⟩
  ·rw [e];exact zJ6 I hg hs he k (t + 1) σ2 M2 (by omega) p
  ·rw [e];exact .inr ⟨_,_,_,rfl,p⟩
end
def OkF (x:Option ((D × Mem) ⊕ (Nat × Str × Mem))) (P:D -> Mem -> Prop) (R:Nat -> Str -> Mem -> Prop):Prop:=(∃ d M,x = some (.inl (d,M)) /\ P d M) \/ ∃ i s M,x = some (.inr (i,s,M)) /\ R i s M
theorem zHQ (h:OkR (b (ds.map some ++ List.replicate (n - ds.length) none) M) (fun o _ M1=>∃ d,o = .ret d /\ P d M1) R):OkF (zFG n b ds M) P R:=by
 rcases h with ⟨o,σ1,M1,e,d,rfl,p⟩ | ⟨i,s,M1,e,p⟩
 ·exact .inl ⟨d,M1,by unfold zFG; rw [e],p⟩
 ·exact .inr ⟨i,s,M1,by unfold zFG; rw [e],p⟩
theorem zM7 {i:Nat} {g:FFM} {fa:FA} {σ:Sd} {M M1:Mem} {ds:List D} {P:Out -> Sd -> Mem -> Prop} {R:Nat -> Str -> Mem -> Prop} (ea:fa σ M = some (ds,M1)) (h:OkF (g ds M1) (fun d M2=>P .nx (σ.set i (some d)) M2) R):OkR (zJW i g fa σ M) P R:=by
 unfold zJW;rw [ea];dsimp only;rcases h with ⟨d,M2,e,p⟩ | ⟨i,s,M2,e,p⟩
 ·rw [e]; exact .inl ⟨_,_,_,rfl,p⟩
 ·rw [e]; exact .inr ⟨_,_,_,rfl,p⟩
theorem zNX {g:FFM} {fa fb:FA} {σ:Sd} {M M1:Mem} {ds:List D} {P:Out -> Sd -> Mem -> Prop} {R:Nat -> Str -> Mem -> Prop} (ea:fa σ M = some (ds,M1)) (h:OkF (g ds M1) (fun d M2=>∃ es M3,fb σ M2 = some (es,M3) /\ es.length < 1000 /\ P (.ret (.tup (d :: es))) σ M3) R):OkR (zIF g fa fb σ M) P R:=by
 unfold zIF;rw [ea];dsimp only;rcases h with ⟨d,M2,e,es,M3,e3,hz,p⟩ | ⟨i,s,M2,e,p⟩
 ·rw [e];dsimp only;rw [e3];dsimp only;rw [zTZ (zk (by rw [List.length_cons]; omega))];exact .inl ⟨_,_,_,rfl,p⟩
 ·rw [e]; exact .inr ⟨_,_,_,rfl,p⟩
abbrev Ws:=List (List Nat)
abbrev sNm:Str:=Str.ofString "name"
abbrev sCt:Str:=Str.ofString "count"
abbrev sTw:Str:=Str.ofString "twice"
abbrev sMy:Str:=Str.ofString "many"
abbrev sRm:Str:=Str.ofString "room"
abbrev sNo:Str:=Str.ofString "none"
def nmB (w:List Nat):Bool:=zEO (tx w)
def zJx (ahead:List Ws) (w:Ws):Bool:=decide (w.length < 2) || (decide (7 < w.length) || (!ahead.isEmpty && decide ((ahead.headD []).length ≠ w.length)))
def flt (ahead:List Ws) (w:Ws):Option Str :=
 if w.all nmB = false then some sNm
 else if zJx ahead w = true then some sCt
 else if w.headD [] ∈ ahead.map (·.headD []) then some sTw
 else if 25 < ahead.length then some sMy else none
def zA2:List Ws -> List (Nat × Ws) -> Option (Nat × Str)
 | _,[]=>none
 | a,(p,w) :: r=>match flt a w with
  | some s=>some (p,s)
  | none=>zA2 (a ++ [w]) r
def zAM (H:List (List Nat)):List (Nat × Ws) -> Option (Nat × Str)
 | []=>none
 | (p,w) :: r=>if w.all (fun x=>decide (x ∈ H)) = true then zAM H r else some (p,sRm)
def zQ (L:List Ws) (t:Nat):List (Nat × Ws):=((List.range t).map fun i=>(i,L.getD i [])).filter fun q=> !q.2.isEmpty
abbrev zI (zA:List (Nat × Ws)):List (List Nat):=zA.map fun q=>q.2.headD []
def zBD (L:List Ws):Option (Nat × Str):=match zA2 [] (zQ L L.length) with
 | some x=>some x
 | none=>match zAM (zI (zQ L L.length)) (zQ L L.length) with
  | some x=>some x
  | none=>if (zQ L L.length).isEmpty then some (max 1 L.length,sNo) else none
theorem zA5 (L:List Ws) (t:Nat):zQ L (t + 1) = zQ L t ++ if (L.getD t []).isEmpty then [] else [(t,L.getD t [])]:=by
 unfold zQ;rw [List.range_succ,zUH,List.filter_append];congr 1;rw [zTd,List.map_nil,List.filter_cons,List.filter_nil];cases (L.getD t []).isEmpty <;> rfl
theorem zDJ (L:List Ws) (t:Nat):∀ k:Nat,∃ r,zQ L (t + k) = zQ L t ++ r
 | 0=>⟨[],by simp⟩
 | k + 1=>by
  obtain ⟨r,e⟩:=zDJ L t k;exact ⟨r ++ _,by rw [<- Nat.add_assoc,zA5,e,zUV]⟩
theorem zDl (L:List Ws):∀ t,(zQ L t).length <= t:=fun t=>by
 unfold zQ;exact zTl (List.length_filter_le _ _) (by simp)
theorem zGt (h:q ∈ zQ L t):q.1 < t /\ q.2 = L.getD q.1 [] /\ q.2 ≠ []:=by
 unfold zQ at h;obtain ⟨h1,h2⟩:=List.mem_filter.mp h;obtain ⟨i,hi,rfl⟩:=zTb.mp h1;refine ⟨zTy.mp hi,rfl,fun e=>?_⟩;dsimp only at e h2;rw [e] at h2; cases h2
theorem zDd:∀ (r1 r2:List (Nat × Ws)) (a:List Ws),zA2 a (r1 ++ r2) = match zA2 a r1 with
  | some x=>some x
  | none=>zA2 (a ++ r1.map (·.2)) r2
 | [],r2,a=>by simp [zA2]
 | (p,w) :: r1,r2,a=>by
  rw [List.cons_append,zA2,zA2];cases flt a w with
  | some s=>rfl
  | none=>dsimp only; rw [zDd r1 r2 (a ++ [w]),zTd,zUV]; rfl
theorem zCY (H:List (List Nat)):∀ (r1 r2:List (Nat × Ws)),zAM H (r1 ++ r2) = match zAM H r1 with
  | some x=>some x
  | none=>zAM H r2
 | [],r2=>by simp [zAM]
 | (p,w) :: r1,r2=>by
  rw [List.cons_append,zAM,zAM];split
  ·exact zCY H r1 r2
  ·rfl
theorem zNC (ht:t < L.length) (h:zA2 [] (zQ L t) = none) (hw:(L.getD t []).isEmpty = false) (hf:flt ((zQ L t).map (·.2)) (L.getD t []) = some s):zA2 [] (zQ L L.length) = some (t,s):=by
 obtain ⟨r,e⟩:=zDJ L (t + 1) (L.length - (t + 1));rw [show t + 1 + (L.length - (t + 1)) = L.length by omega,zA5,hw] at e;rw [e,zUV,zDd,h];show zA2 ([] ++ _) ((t,L.getD t []) :: r) = _;rw [zVh,zA2,hf]
theorem zG5 (h:zA2 [] (zQ L t) = none) (hf:(L.getD t []).isEmpty = false -> flt ((zQ L t).map (·.2)) (L.getD t []) = none):zA2 [] (zQ L (t + 1)) = none:=by
 rw [zA5,zDd,h];cases hw:(L.getD t []).isEmpty with
 | true=>rfl
 | false=>
  show zA2 ([] ++ _) [(t,L.getD t [])] = none;rw [zVh,zA2,hf hw]; rfl
theorem zL0 (ht:t < L.length) (h:zAM H (zQ L t) = none) (hf:((L.getD t []).all fun x=>decide (x ∈ H)) = false):zAM H (zQ L L.length) = some (t,sRm):=by
 have hw:(L.getD t []).isEmpty = false:=by
  cases e:L.getD t [] with
  | nil=>rw [e] at hf; cases hf
  | cons _ _=>rfl
 obtain ⟨r,e⟩:=zDJ L (t + 1) (L.length - (t + 1));rw [show t + 1 + (L.length - (t + 1)) = L.length by omega,zA5,hw] at e;rw [e,zUV,zCY,h];show zAM H ((t,L.getD t []) :: r) = _;rw [zAM,hf]; rfl
theorem zJy (h:zAM H (zQ L t) = none) (hf:((L.getD t []).all fun x=>decide (x ∈ H)) = true):zAM H (zQ L (t + 1)) = none:=by
 rw [zA5,zCY,h];cases hw:(L.getD t []).isEmpty with
 | true=>rfl
 | false=>
  show zAM H [(t,L.getD t [])] = none;rw [zAM,hf]; rfl
theorem zMh:∀ (r:List (Nat × Ws)) (a:List Ws),(a.map (·.headD [])).Nodup -> zA2 a r = none -> ((a ++ r.map (·.2)).map (·.headD [])).Nodup
 | [],a,h,_=>by simpa using h
 | (p,w) :: r,a,h,e=>by
  rw [zA2] at e;split at e
  ·cases e
  ·rename_i hf;have hn:w.headD [] ∉ a.map (·.headD []):=fun z=>by
    unfold flt at hf;split at hf
    ·cases hf
    ·split at hf
     ·cases hf
     ·first | cases hf | (rw [zTZ z] at hf; cases hf)
   have:=zMh r (a ++ [w]) (by
    rw [zUH,List.nodup_append];refine ⟨h,by simp,fun x hx y hy e=>?_⟩;rw [zTd,List.map_nil,zTm] at hy;subst hy; subst e; exact hn hx) e
   rw [zUV] at this;simpa using this
theorem zL8 (h:zA2 [] zA = none):(zI zA).Nodup:=by
 have:=zMh zA [] (by simp) h;rw [zVh,zTi] at this;exact this
open Lac (zm zU zT zBN zBK zY Ex zBI zBL mlR zBk zBo zBR zAk zAs zAd zC1 zBm zBf zDI)
theorem zJS (hf:f σ M = some (.dat (.int n),M)):zBQ kLe kLe (fC (.int a)) f (fC (.int b)) σ M = some (.dat (.bl (decide (a <= n) && decide (n <= b))),M):=by
 refine zJ (zFs.mpr (zAL.mpr (zF hf (zPd.mpr (zAK.mpr ?_)))));by_cases h:a <= n
 ·rw [zTZ (zUX h)];exact zAL.mpr (zPd.mpr ⟨by rw [zUX h]; rfl,rfl⟩)
 ·rw [zTc (by rw [zTt h]; decide)];exact ⟨by rw [zTt h]; rfl,rfl⟩
theorem zKD (ha:a σ M = some (k1,M)) (hb:b σ M = some (k2,M)):zDZ a b σ M = some (k1 || k2,M):=by
 cases k1 with
 | false=>exact zBk ha hb
 | true=>exact zBo ha
theorem zKP (ha:f σ M = some (.dat (.bl k1),M)) (hb:g σ M = some (.dat (.bl k2),M)):zEy f g σ M = some (.dat (.bl (k1 && k2)),M):=by
 refine zJ (zOV.mpr (zF ha (zAK.mpr ?_)));cases k1 with
 | false=>exact ⟨rfl,rfl⟩
 | true=>exact zF hb ⟨rfl,rfl⟩
theorem zG1 (c:Nat):∀ (n a:Nat),(ixL c (List.range' a n)).isSome = (decide (a <= c) && decide (c < a + n))
 | 0,a=>by
  rw [List.range'_zero];show false = _;by_cases h:a <= c
  ·rw [zUX h,zTt (by omega)]; rfl
  ·rw [zTt h]; rfl
 | n + 1,a=>by
  rw [List.range'_succ];unfold ixL;by_cases h:a = c
  ·rw [zTZ h]; subst h; simp
  ·rw [zTc h];have ih:=zG1 c n (a + 1);rw [zW4.mpr (show a + 1 <= c ↔ a <= c by omega),zW4.mpr (show c < a + 1 + n ↔ c < a + (n + 1) by omega)] at ih;generalize ixL c (List.range' (a + 1) n) = X at ih ⊢;cases X <;> exact ih
theorem zSt:LET.cps.toList = List.range' 97 26:=by decide +kernel
theorem zQe (c:Nat):(ixL c LET.cps.toList).isSome = zDt c:=by
 rw [zSt,zG1];unfold zDt;rw [zW4.mpr (show c < 97 + 26 ↔ c <= 122 by omega)]
theorem zM6 (hw:w.length <= 1000) (M:Mem):zAo [nS w] M = some (.bl (nmB w),M):=by
 refine zJ ?_;unfold zAo;rw [zAg];unfold zCR;show OkS (zr _ [some (nS w),none] M) _;have h1:=zJS (a:=1) (b:=8) (zOs (f:=zC 0) (z:=tx w) (σ:=[some (nS w),none]) (M:=M) rfl (by rw [zBp]; omega));have h2:=zGF (bs:=w.map zDt) ((zAl (own:=[1]) (fi:=zLc (zC 0)) (g:=gN 1) (te:=fOp zNN (zC 1) (fC (.str LET))) (σ:=[some (nS w),none]) (M:=M) (gd:=none) w (fun c=> .str ⟨#[c]⟩) (fun c=> .bl (zDt c)) (by
  show some ((zDA (tx w)).map D.str,none,M) = _;unfold zDA; rw [zTi];simp [Function.comp_def]) trivial (by omega) fun c _=>⟨_,rfl,by
   refine zO (x:=.dat (.str ⟨#[c]⟩)) (y:=.dat (.str LET)) rfl rfl ?_;show some (EV.dat (.bl (ixL c LET.cps.toList).isSome),M) = _;rw [zQe]⟩).trans (by rw [zTi]; rfl))
 refine zx (zKP h1 h2) ⟨?_,rfl⟩;rw [zB0,zBp];unfold nmB zEO zRg;rw [zBp,zW4.mpr (show ((1:Int) <= (w.length:Nat)) ↔ 1 <= w.length by omega),zW4.mpr (show (((w.length:Nat):Int) <= 8) ↔ w.length <= 8 by omega)]
theorem zNo (hw:w.length <= 1000) (M:Mem):zBT [nS w] M = some (.bl (nmB w),M) :=
 zPX (M:=M) (d:=nS w) (t := "str") rfl fun z hz=>by
  cases hz;rw [zBp]; exact hw
def LnA (A:Mem) (js:List Nat) (L:List Ws):Prop:=js.length = L.length /\ ∀ (i j:Nat) (w:Ws),js[i]? = some j -> L[i]? = some w -> A[j]? = some (.lst (w.map nS))
theorem LnA.app (h:LnA A js L) (us:Mem):LnA (A ++ us) js L:=⟨h.1,fun i j w h1 h2=>zY (h.2 i j w h1 h2) us⟩
theorem zF6:∀ ws:List (List Nat),zB4 (ws.map nS) = some (ws.map tx)
 | []=>rfl
 | w :: ws=>by
  have ih:=zF6 ws;rw [zTd];unfold zB4;rw [ih]; rfl
theorem zMe {ws:List (List Nat)} (hf:f σ M = some (.dat (nS x),M)) (hg:g σ M = some (y,M)) (hy:zAV M y = some (ws.map nS)):fOp (zGg neg) f g σ M = some (.dat (.bl (if neg then !decide (x ∈ ws) else decide (x ∈ ws))),M):=by
 refine zO hf hg ?_;unfold zGg;dsimp only;rw [hy];dsimp only;rw [zF6];dsimp only;rw [zW4.mpr (show tx x ∈ ws.map tx ↔ x ∈ ws from ⟨fun h=>by obtain ⟨y,hy,e⟩:=zTb.mp h; rw [<- zH4 e]; exact hy,fun h=>zTb.mpr ⟨x,h,rfl⟩⟩)]
theorem zK8 (hf:f σ M = some (.dat (.ref j),M)) (ej:M[j]? = some (.lst (w.map nS))) (hw:w ≠ []):fOp kIx f (fC (.int 0)) σ M = some (.dat (nS (w.headD [])),M):=zO hf (y:=.dat (.int 0)) rfl (zFT (za ej) (by
  cases w with
  | nil=>exact absurd rfl hw
  | cons a b=>exact zBt (j:=0) rfl))
theorem zBF {α:Type} (d:α) (xs:List α):(List.range xs.length).map (fun i=>xs.getD i d) = xs:=by
 refine List.ext_getElem (by simp) fun i h1 h2=>?_;rw [List.getElem_map,List.getElem_range,zTP,zTO (by simpa using h2)]; rfl
theorem zFu (hs:zJB [v] σ = σ.set v none) (hv:v < σ.length) (hf:f σ M = some (.dat (.ref n),M)) (en:M[n]? = some (.lst (js.map D.ref))) (hL:LnA M js L) (h0:∀ w ∈ L,w ≠ []) (hz:L.length <= 1000):zv [v] (zAO f) (gN v) zAH (fOp kIx (zC v) (fC (.int 0))) σ M = some (.fl ((L.map (·.headD [])).map nS),M):=by
 have hj:(List.range L.length).map (fun i=>D.ref (js.getD i 0)) = js.map D.ref:=by
  rw [show (fun i=>D.ref (js.getD i 0)) = D.ref ∘ (fun i=>js.getD i 0) from rfl,<- zTi,<- hL.1,zBF]
 refine (zAl (own:=[v]) (fi:=zAO f) (g:=gN v) (te:=fOp kIx (zC v) (fC (.int 0))) (σ:=σ) (M:=M) (gd:=zD5 (.dat (.ref n)) (js.map D.ref)) (List.range L.length) (fun i=>D.ref (js.getD i 0)) (fun i=>nS ((L.getD i []).headD [])) (by rw [hj]; exact zAi hf (za en)) (by rw [hj]; exact Or.inl en) (by rw [zVM]; omega) fun i hi=>?_).trans ?_
 ·have hi:=zTy.mp hi;have e1:js[i]? = some (js.getD i 0):=by rw [zTP,zTO (by rw [hL.1]; exact hi)]; rfl
  have e2:L[i]? = some (L.getD i []):=by rw [zTP,zTO hi]; rfl
  have e3:=hL.2 i _ _ e1 e2;refine ⟨_,rfl,?_⟩;refine zK8 ?_ e3 (h0 _ (zUG e2));unfold zC;rw [hs,zUJ (by simpa using hv)]
 ·rw [zTi,show (fun i=>nS ((L.getD i []).headD [])) = ((nS ∘ fun w:Ws=>w.headD []) ∘ fun i=>L.getD i []) from rfl,<- zTi (g:=nS ∘ fun w:Ws=>w.headD []) (f:=fun i=>L.getD i []),zBF]
def zR4 (x:Option Str):D:=match x with
 | some s=> .str s
 | none=> .str (Str.ofString "")
theorem zL5 {A:Mem} {js:List Nat} {w:Ws} {L:List Ws} (ej:A[j]? = some (.lst (w.map nS))) (hw:∀ x ∈ w,x.length <= 1000) (hz:w.length <= 1000) (en:A[n]? = some (.lst (js.map D.ref))) (hL:LnA A js L) (h0:∀ w ∈ L,w ≠ []) (hl:L.length <= 1000):zBd [.ref j,.ref n] A = some (zR4 (flt L w),A):=by
 refine zJ ?_;unfold zBd;rw [zAg];unfold zDG;show OkS (zS _ _ [some (.ref j),some (.ref n),none,none] A) _;have hlen:=zBS (f:=zC 0) (σ:=[some (.ref j),some (.ref n),none,none]) (M:=A) (x:=.dat (.ref j)) rfl (za ej);rw [zTT] at hlen;have hall:=zGF (bs:=w.map nmB) ((zAl (own:=[2]) (fi:=zAO (zC 0)) (g:=gN 2) (te:=zW zAo (zD (toD (zC 2)) zH)) (σ:=[some (.ref j),some (.ref n),none,none]) (M:=A) (gd:=zD5 (.dat (.ref j)) (w.map nS)) w nS (fun x=> .bl (nmB x)) (zAi rfl (za ej)) (Or.inl ej) (by omega) fun x hx=>⟨_,rfl,zAu (zo (d:=nS x) rfl) (zM6 (hw x hx) A)⟩).trans (by rw [zTi]; rfl));rw [zB0] at hall;unfold flt;by_cases q1:w.all nmB = false
 ·rw [zTZ q1];rw [q1] at hall;exact zAe (zDb hall) (zx (d:=.str sNm) rfl ⟨rfl,rfl⟩)
 rw [zTc q1];rw [Bool.not_eq_false] at q1;rw [q1] at hall;refine z0 (zDb hall) ?_;have hc:zDZ (tst (fOp kLt (fB zAx (zN (zC 0) zc)) (fC (.int 2)))) (zDZ (tst (fOp kGt (fB zAx (zN (zC 0) zc)) (fC (.int 7)))) (zBs (tst (fOp kNe (zC 1) (zp zH))) (tst (fOp kNe (fB zAx (zN (fOp kIx (zC 1) (fC (.int 0))) zc)) (fB zAx (zN (zC 0) zc)))))) [some (.ref j),some (.ref n),none,none] A = some (zJx L w,A):=by
  unfold zJx;refine zKD ((zf (zO hlen (y:=.dat (.int 2)) rfl (zJ (zJ2.mpr ⟨rfl,rfl⟩)))).trans (by rw [zW4.mpr (show ((w.length:Nat):Int) < 2 ↔ w.length < 2 by omega)])) (zKD ((zf (zO hlen (y:=.dat (.int 7)) rfl (zJ (zQm.mpr ⟨rfl,rfl⟩)))).trans (by rw [zW4.mpr (show (7:Int) < ((w.length:Nat):Int) ↔ 7 < w.length by omega)])) ?_);have hne:tst (fOp kNe (zC 1) (zp zH)) [some (.ref j),some (.ref n),none,none] A = some (!L.isEmpty,A):=by
   refine zf (zO (x:=.dat (.ref n)) (y:=.fl []) rfl (zBI (ds:=[]) rfl (by simp)) (zJ ((zFj (zAa en) (fun d e=>by cases e; rfl)).mpr ⟨?_,rfl⟩)));have:=hL.1;cases js with
   | nil=>cases L with
    | nil=>rfl
    | cons _ _=>simp at this
   | cons _ _=>cases L with
    | nil=>simp at this
    | cons _ _=>rfl
  cases L with
  | nil=>exact Lac.zKi hne
  | cons u L=>
   cases js with
   | nil=>have:=hL.1; simp at this
   | cons i js=>
    have ei:=hL.2 0 i u rfl rfl;have hl0:=zBS (f:=fOp kIx (zC 1) (fC (.int 0))) (σ:=[some (.ref j),some (.ref n),none,none]) (M:=A) (x:=.dat (.ref i)) (zO (x:=.dat (.ref n)) (y:=.dat (.int 0)) rfl rfl (zFT (za en) (zBt (j:=0) rfl))) (za ei);rw [zTT] at hl0;refine zDI hne ((zf (zO hl0 hlen (zJ (zQY.mpr ⟨rfl,rfl⟩)))).trans ?_);rw [zW4.mpr (show ((u.length:Nat):Int) ≠ ((w.length:Nat):Int) ↔ u.length ≠ w.length by omega)];rfl
 by_cases q2:zJx L w = true
 ·rw [zTZ q2];rw [q2] at hc;exact zAe hc (zx (d:=.str sCt) rfl ⟨rfl,rfl⟩)
 rw [zTc q2];have hw0:w ≠ []:=fun e=>q2 (by rw [e]; rfl);rw [Bool.not_eq_true] at q2;rw [q2] at hc;refine z0 hc ?_;have hin:=zMe (neg:=false) (f:=fOp kIx (zC 0) (fC (.int 0))) (σ:=[some (.ref j),some (.ref n),none,none]) (M:=A) (zK8 rfl ej hw0) (zFu (v:=3) rfl (by simp) (f:=zC 1) rfl en hL h0 hl) zBH;by_cases q3:w.headD [] ∈ L.map (·.headD [])
 ·rw [zTZ q3];rw [zUX q3] at hin;exact zAe (zf hin) (zx (d:=.str sTw) rfl ⟨rfl,rfl⟩)
 rw [zTc q3];rw [zTt q3] at hin;refine z0 (zf hin) ?_;rw [zy,zQb];have hln:=zBS (f:=zC 1) (σ:=[some (.ref j),some (.ref n),none,none]) (M:=A) (x:=.dat (.ref n)) rfl (za en);rw [zTT,hL.1] at hln;refine zF (zf (zO hln (y:=.dat (.int 25)) rfl (zJ (zQm.mpr ⟨rfl,rfl⟩)))) ?_;by_cases q4:25 < L.length
 ·rw [zTZ (zUX (by omega)),zTZ q4];exact zAL.mpr ⟨rfl,rfl⟩
 ·rw [zTc (by rw [zUc]; omega),zTc q4];exact zAL.mpr ⟨rfl,rfl⟩
def zR8 (x:Option Str):D:=match x with
 | some s=> .str s
 | none=> .non
theorem zLq (ej:A[j]? = some (.lst (w.map nS))) (hw:∀ x ∈ w,x.length <= 1000) (hz:w.length <= 1000) (en:A[n]? = some (.dict (phS (L.map (·.headD [])) φ))) (hu:u = ((L ++ [w]).headD []).length) (hl:L.length <= 1000):zBb [.ref j,.int (u:Nat),.ref n] A = some (zR8 (flt L w),A):=by
 refine zJ ?_;unfold zBb;rw [zAg];unfold zDR;show OkS (zS _ _ [some (.ref j),some (.int (u:Nat)),some (.ref n),none] A) _;have hlen:=zBS (f:=zC 0) (σ:=[some (.ref j),some (.int (u:Nat)),some (.ref n),none]) (M:=A) (x:=.dat (.ref j)) rfl (za ej);rw [zTT] at hlen;have hall:=zGF (bs:=w.map nmB) ((zAl (own:=[3]) (fi:=zAO (zC 0)) (g:=gN 3) (te:=zW zBT (zD (toD (zC 3)) zH)) (σ:=[some (.ref j),some (.int (u:Nat)),some (.ref n),none]) (M:=A) (gd:=zD5 (.dat (.ref j)) (w.map nS)) w nS (fun x=> .bl (nmB x)) (zAi rfl (za ej)) (Or.inl ej) (by omega) fun x hx=>⟨_,rfl,zAu (zo (d:=nS x) rfl) (zNo (hw x hx) A)⟩).trans (by rw [zTi]; rfl));rw [zB0] at hall;unfold flt;by_cases q1:w.all nmB = false
 ·rw [zTZ q1];rw [q1] at hall;exact zAe (zDb hall) (zx (d:=.str sNm) rfl ⟨rfl,rfl⟩)
 rw [zTc q1];rw [Bool.not_eq_false] at q1;rw [q1] at hall;refine z0 (zDb hall) ?_;have hc:zDZ (tst (fOp kNe (fB zAx (zN (zC 0) zc)) (zC 1))) (zBC (tst (zBQ kLe kLe (fC (.int 1)) (fOp zFy (fB zAx (zN (zC 0) zc)) (fC (.int 1))) (fC (.int 6))))) [some (.ref j),some (.int (u:Nat)),some (.ref n),none] A = some (zJx L w,A):=by
  refine (zKD (zf (zO hlen (y:=.dat (.int (u:Nat))) rfl (zJ (zQY.mpr ⟨rfl,rfl⟩)))) (zDb (zJS (zO hlen (y:=.dat (.int 1)) rfl (show zFy (.dat (.int (w.length:Nat))) (.dat (.int 1)) A = some (.dat (.int ((w.length:Nat) - 1)),A) from rfl))))).trans ?_;congr 2;unfold zJx;rw [zV2];simp only [Bool.or_eq_true,zTu,Bool.not_eq_true',zUc,Bool.and_eq_false_iff,decide_eq_false_iff_not];subst hu;cases L with
  | nil=>simp; omega
  | cons a L=>simp; omega
 by_cases q2:zJx L w = true
 ·rw [zTZ q2];rw [q2] at hc;exact zAe hc (zx (d:=.str sCt) rfl ⟨rfl,rfl⟩)
 rw [zTc q2];have hw0:w ≠ []:=fun e=>q2 (by rw [e]; rfl);rw [Bool.not_eq_true] at q2;rw [q2] at hc;refine z0 hc ?_;have hin:=zO (k:=zGe false) (f:=fOp kIx (zC 0) (fC (.int 0))) (g:=zC 2) (σ:=[some (.ref j),some (.int (u:Nat)),some (.ref n),none]) (M:=A) (y:=.dat (.ref n)) (zK8 rfl ej hw0) rfl (zMI en);by_cases q3:w.headD [] ∈ L.map (·.headD [])
 ·rw [zTZ q3];rw [zUX q3] at hin;exact zAe (zf hin) (zx (d:=.str sTw) rfl ⟨rfl,rfl⟩)
 rw [zTc q3];rw [zTt q3] at hin;refine z0 (zf hin) ?_;have hln:=zKY (f:=zC 2) (σ:=[some (.ref j),some (.int (u:Nat)),some (.ref n),none]) rfl en;rw [zTT] at hln;have hge:=zf (zO (k:=kGe) (g:=fC (.int 26)) hln (y:=.dat (.int 26)) rfl (zJ (zRz.mpr ⟨rfl,rfl⟩)));by_cases q4:25 < L.length
 ·rw [zTZ q4];rw [zUX (by omega)] at hge;exact zAe hge (zx (d:=.str sMy) rfl ⟨rfl,rfl⟩)
 ·rw [zTc q4];rw [zTt (by omega)] at hge;exact z0 hge (zx (d:=.non) rfl ⟨rfl,rfl⟩)
open Lac (zm zU zT zBN zBK zY Ex zBI zBL mlR zBk zBo zBR zAk zAs zAd zC1 zBm zBf zDI)
noncomputable def zFq:FMS:=(zCS (mOf (zAF 1 zHp))
  (zCS (zJi (zAO (zC 0)) (zBr 2 3) (zCS (mOf (zAF 4 (zW zBb (zD (toD (zC 3)) (zD (toD (fB zAx (zN (fOp kIx (fOp kIx (zC 0) (fC (.int 0))) (fC (.int 1))) zc))) (zD (toD (zC 1)) zH))))))
  (zCS (mIf (tst (fOp (kIs true) (zC 4) (fC .non))) (zD8 (zD (toD (zC 2)) (zD (toD (zC 4)) zH))) (mOf zAw))
  (mOf (zIr (fB zFP (zN (zC 1) zc)) (zC 1) (fOp kIx (zC 3) (fC (.int 0))))))))
  (mOf (zr (zC 1)))))
noncomputable def zCn:FFM:=zFG 5 zFq
noncomputable def zEs:FMS:=(zCS (zJi (zAO (zC 0)) (zBr 2 3) (mIf (zBC (tst (fB zHi (zN (zv [4] (zAO (zC 3)) (gN 4) zAH (fOp (zGe false) (zC 4) (zC 1))) zc)))) (zD8 (zD (toD (zC 2)) (zD (toD (fC (.str "room"))) zH))) (mOf zAw)))
  (mOf (zr (fB zAv (zN (zv [2,3] (zAO (zC 0)) (zBr 2 3) zAH (fB zAv (zN (zv [4] (zAO (fSl (zC 3) (zu (fC (.int 1))) zw)) (gN 4) zAH (fOp zFF (zC 1) (zC 4))) zc))) zc)))))
noncomputable def zBu:FFM:=zFG 5 zEs
noncomputable def zDM:FMS:=(zCS (mOf (zAF 1 (zW zCi (zD (toD (zC 0)) zH))))
  (zCS (zJW 2 zCn (zD (toD (zC 1)) zH))
  (zCS (mIf (zBC (zIg (zC 1))) (zD8 (zD (toD (zW zBa (zD (toD (zC 0)) zH))) (zD (toD (fC (.str "none"))) zH))) (mOf zAw))
  (zIF zBu (zD (toD (zC 1)) (zD (toD (zC 2)) zH)) (zD (toD (fB zGv (zN (zC 2) zc))) zH)))))
noncomputable def zAN:FFM:=zFG 3 zDM
def RwP (A:Mem) (es:List (Nat × Nat)) (zA:List (Nat × Ws)):Prop:=es.length = zA.length /\ ∀ (i:Nat) (e:Nat × Nat) (q:Nat × Ws),es[i]? = some e -> zA[i]? = some q -> e.1 = q.1 /\ A[e.2]? = some (.lst (q.2.map nS))
theorem RwP.app (h:RwP A es zA) (us:Mem):RwP (A ++ us) es zA:=⟨h.1,fun i e q h1 h2=>⟨(h.2 i e q h1 h2).1,zY (h.2 i e q h1 h2).2 us⟩⟩
theorem zMZ (h0:rs ≠ []) (hr:∀ r ∈ rs,10 ∉ r) (hx:(jnL [10] rs).length <= 80000) (M:Mem):Ok (zCi [nS (jnL [10] rs)] M) fun d A=>∃ p es,d = .ref p /\ Ex M A /\ A[p]? = some (.lst (es.map eD)) /\ RwP A es (zQ (rs.map tok) rs.length):=by
 have hcut:=zJj h0 hr;have hlen:∀ r ∈ rs,r.length <= 80000:=fun r h=>zTl (zF0 10 (jnL [10] rs) r (by rw [hcut]; exact h)) hx;have hmany:rs.length <= 80001:=by have:=zEv 10 (jnL [10] rs); rw [hcut] at this; omega
 generalize jnL [10] rs = x at hcut hx;unfold zCi;rw [zAg];unfold zE9;show OkS (zS _ _ [some (nS x),none,none,none,none] M) _;rw [zM,zX];have hen:zEi (zCm (zC 0) (zN (fC (.str (Str.ofString "\n"))) zc)) [some (nS x),none,none,none,none] M = some (zDs (rs.map nS),none,M):=by
  unfold zEi;rw [zGS zJ9 (by decide) rfl (by omega),hcut];rfl
 refine zCK.mpr ⟨_,_,_,hen,by unfold zDs; rw [zTT,List.length_zip,zVM,zTT]; exact zk (by omega),?_⟩;refine Ok.mono (zGI (I:=fun i acc A=>Ex M A /\ ∃ es:List (Nat × Nat),acc = es.map eD /\ es.length = i /\ ∀ (j:Nat) e r,es[j]? = some e -> rs[j]? = some r -> e.1 = j /\ A[e.2]? = some (.lst ((tok r).map nS))) ?_ ⟨.refl M,[],rfl,rfl,fun j e r h=>by simp at h⟩) ?_
 ·rintro i d acc A ed ⟨hx,es,rfl,hel,hes⟩;obtain ⟨dd,edd,rfl⟩:=zFm ed;rw [zTh] at edd;obtain ⟨r,er,rfl⟩:=Option.map_eq_some_iff.mp edd;refine ⟨_,rfl,zQC.mpr (zq.mpr (zAB.mpr (zV.mpr ⟨_,rfl,zK.mpr (zq.mpr (zAB.mpr (zF (zAu (zo (d:=nS r) rfl) (zNt (hlen r (zUG er)) A)) (zK.mpr (zAr.mpr ⟨zk (by simp),zK.mpr ?_⟩)))))⟩)))⟩;refine ⟨hx.app _,es ++ [(i,A.length)],by rw [zUH]; rfl,by simp [hel],fun j e r' h1 h2=>?_⟩;by_cases q:j = i
  ·subst q;rw [zUZ (by omega),hel,Nat.sub_self] at h1;cases h1;rw [er] at h2; cases h2;exact ⟨rfl,zT _ _⟩
  ·have hj:j < es.length:=by
    have:=(zTN.mp h1).1;rw [zTa,List.length_singleton] at this; omega
   rw [zTR hj] at h1;exact ⟨(hes j e r' h1 h2).1,zY (hes j e r' h1 h2).2 _⟩
 ·rintro ys A ⟨hx,es,rfl,hel,hes⟩;refine zU ?_;rw [zR];have hn:(zDs (rs.map nS)).length = rs.length:=by unfold zDs; simp
  rw [hn] at hel;have e1:(A ++ [MO.lst (es.map eD)])[A.length]? = some (.lst (es.map eD)):=zT _ _;have hx1:=hx.app [MO.lst (es.map eD)];have hes1:∀ (j:Nat) e r,es[j]? = some e -> rs[j]? = some r -> e.1 = j /\ (A ++ [MO.lst (es.map eD)])[e.2]? = some (.lst ((tok r).map nS)):=fun j e r h1 h2=>⟨(hes j e r h1 h2).1,zY (hes j e r h1 h2).2 _⟩;generalize A ++ [MO.lst (es.map eD)] = A1 at e1 hx1 hes1;generalize A.length = p at e1;show OkS (zr _ [some (nS x),some (.ref p),none,none,none] A1) _;have hz:(es.zip rs).map (fun q=>eD q.1) = es.map eD:=by
   show (es.zip rs).map (eD ∘ Prod.fst) = _;rw [<- zTi,List.map_fst_zip (by omega)]
  have hc:=zm (own:=[2,4]) (fi:=zAO (zC 1)) (g:=zBr 2 4) (tc:=zIg (zC 4)) (te:=zDc (zD (toD (zC 2)) (zD (toD (zC 4)) zH))) (σ:=[some (nS x),some (.ref p),none,none,none]) (M:=A1) (gd:=zD5 (.dat (.ref p)) (es.map eD)) (es.zip rs) (fun q=>eD q.1) (fun q=>eD q.1) (fun q=> !(tok q.2).isEmpty) (by rw [hz]; exact zAi rfl (za e1)) (by rw [hz]; exact Or.inl e1) (by rw [List.length_zip]; omega) fun q hq=>by
   obtain ⟨j,hj,ej⟩:=List.getElem_of_mem hq;have hj':j < es.length /\ j < rs.length:=by rw [List.length_zip] at hj; omega
   have h1:es[j]? = some q.1:=by rw [zTO hj'.1,<- ej,List.getElem_zip]
   have h2:rs[j]? = some q.2:=by rw [zTO hj'.2,<- ej,List.getElem_zip]
   refine ⟨_,rfl,(zBR (j:=q.1.2) rfl (hes1 j _ _ h1 h2).2).trans ?_,fun _=>zC1 (zAU (d:=.int (q.1.1:Nat)) rfl (zo (d:=.ref q.1.2) rfl)) (by simp)⟩;cases tok q.2 <;> rfl
  rw [zy];refine zF hc (zU ?_);refine ⟨A1.length,((es.zip rs).filter fun q=> !(tok q.2).isEmpty).map (·.1),rfl,hx1.app _,by rw [zT,zTi]; rfl,?_⟩;have hW:zQ (rs.map tok) rs.length = ((es.zip rs).filter fun q=> !(tok q.2).isEmpty).map fun q=>(q.1.1,tok q.2):=by
   have e2:(List.range rs.length).map (fun i=>(i,(rs.map tok).getD i [])) = (es.zip rs).map fun q=>(q.1.1,tok q.2):=by
    refine List.ext_getElem (by rw [zTT,zTT,zVM,List.length_zip]; omega) fun i h1 h2=>?_;rw [zTT,zVM] at h1;rw [List.getElem_map,List.getElem_range,List.getElem_map,List.getElem_zip];have:=hes1 i _ _ (zTO (by omega)) (zTO h1);rw [this.1,zTP,zTh,zTO h1]; rfl
   unfold zQ;rw [e2,List.filter_map];rfl
  rw [hW];refine ⟨by rw [zTT,zTT],fun i e w h1 h2=>?_⟩;rw [zTh] at h1 h2;obtain ⟨q,hq,rfl⟩:=Option.map_eq_some_iff.mp h1;rw [hq] at h2;cases h2;have hq':=(List.mem_filter.mp (zUG hq)).1;obtain ⟨j,hj,ej⟩:=List.getElem_of_mem hq';have hj':j < es.length /\ j < rs.length:=by rw [List.length_zip] at hj; omega
  exact ⟨rfl,zY (hes1 j q.1 q.2 (by rw [zTO hj'.1,<- ej,List.getElem_zip]) (by rw [zTO hj'.2,<- ej,List.getElem_zip])).2 _⟩
theorem zQv {xs:List (List Nat)} (h:xs[t]? = some x) (hn:x ∉ xs.take t):xs.idxOf x = t:=by
 obtain ⟨hl,e⟩:=zTN.mp h;have h2:xs = xs.take t ++ x :: xs.drop (t + 1):=by
  conv=>lhs; rw [<- List.take_append_drop t xs,zXR hl,e]
 rw [h2,List.idxOf_append,zTc hn,List.idxOf_cons_self,zUn];omega
theorem zIN {α:Type} {xs:List α} {t:Nat} {x:α} (h:xs[t]? = some x):xs.take (t + 1) = xs.take t ++ [x]:=by rw [List.take_add_one,h]; rfl
theorem zOn (h:zA[t]? = some (p,w)) (hd:zA2 [] (zA.take t) = none) (hf:flt ((zA.take t).map (·.2)) w = some s):zA2 [] zA = some (p,s):=by
 obtain ⟨ht,e⟩:=zTN.mp h;conv=>lhs; rw [<- List.take_append_drop t zA]
 rw [zDd,hd,zXR ht,e];show zA2 ([] ++ _) _ = _;rw [zVh,zA2,hf]
theorem zMj {zA:List (Nat × Ws)} {t p:Nat} {w:Ws} (h:zA[t]? = some (p,w)) (hd:zA2 [] (zA.take t) = none) (hf:flt ((zA.take t).map (·.2)) w = none):zA2 [] (zA.take (t + 1)) = none:=by
 rw [zIN h,zDd,hd];show zA2 ([] ++ _) _ = _;rw [zVh,zA2,hf]; rfl
theorem zNl (h:zA[t]? = some (p,w)) (hd:zAM H (zA.take t) = none) (hf:(w.all fun x=>decide (x ∈ H)) = false):zAM H zA = some (p,sRm):=by
 obtain ⟨ht,e⟩:=zTN.mp h;conv=>lhs; rw [<- List.take_append_drop t zA]
 rw [zCY,hd,zXR ht,e];show zAM H _ = _;rw [zAM,hf]; rfl
theorem zLb {H:List (List Nat)} {zA:List (Nat × Ws)} {t p:Nat} {w:Ws} (h:zA[t]? = some (p,w)) (hd:zAM H (zA.take t) = none) (hf:(w.all fun x=>decide (x ∈ H)) = true):zAM H (zA.take (t + 1)) = none:=by
 rw [zIN h,zCY,hd];show zAM H _ = _;rw [zAM,hf]; rfl
theorem zFB:∀ {zA:List (Nat × Ws)},zAM H zA = none -> ∀ q ∈ zA,∀ x ∈ q.2,x ∈ H
 | [],_,q,h=>by cases h
 | (p,w) :: r,e,q,h=>by
  rw [zAM] at e;split at e
  ·rename_i hw;rcases zTW.mp h with z | z
   ·rw [z];intro x hx;exact of_decide_eq_true (zTv.mp hw x hx)
   ·exact zFB e q z
  ·cases e
def Szw (zA:List (Nat × Ws)):Prop:=zA.length <= 1000 /\ ∀ q ∈ zA,q.2 ≠ [] /\ q.2.length <= 1000 /\ ∀ x ∈ q.2,x.length <= 1000
abbrev phH (H:List (List Nat)) (zA:List (Nat × Ws)):MO:=.dict (phS (zI zA) fun w=>(H.idxOf w:Nat))
theorem zI0 {zA:List (Nat × Ws)} {A:Mem} {p:Nat} {es:List (Nat × Nat)} (ep:A[p]? = some (.lst (es.map eD))) (hR:RwP A es zA) (hs:Szw zA) :
  OkF (zCn [.ref p] A) (fun d B=>zA2 [] zA = none /\ d = .ref A.length /\ B = A ++ [phH (zI zA) zA]) (fun i s B=>zA2 [] zA = some (i,s) /\ Ex A B):=by
 unfold zCn;refine zHQ ?_;unfold zFq;show OkR (zCS _ _ [some (.ref p),none,none,none,none] A) _ _;refine zBv (zCq (zX.mpr (zF (show zHp _ A = some (.dat (.ref A.length),A ++ [.dict []]) from rfl) ?_)));rw [zK,zR];show OkR (zCS _ _ [some (.ref p),some (.ref A.length),none,none,none] (A ++ [phH (zI zA) (zA.take 0)])) _ _;refine zBv (zKb (zAi (h:=zC 0) (x:=.dat (.ref p)) rfl (za (zY ep _))) ?_);refine zJ6 (I:=fun t σ B=>(∃ y2 y3 y4,σ = [some (.ref p),some (.ref A.length),y2,y3,y4]) /\ zA2 [] (zA.take t) = none /\ B = A ++ [phH (zI zA) (zA.take t)]) (fun t σ B h=>by rw [h.2.2]; exact Or.inl (zY ep _)) ?_ ?_ (es.map eD).length 0 _ _ (by omega) ⟨⟨_,_,_,rfl⟩,rfl,rfl⟩
 ·rintro t d σ B ed ⟨⟨y2,y3,y4,rfl⟩,hd,rfl⟩;rw [zTh] at ed;obtain ⟨e,he,rfl⟩:=Option.map_eq_some_iff.mp ed;have htl:t < zA.length:=by rw [<- hR.1]; exact (zTN.mp he).1
  obtain ⟨⟨pl,w⟩,hq⟩:∃ q,zA[t]? = some q:=⟨_,zTO htl⟩;obtain ⟨⟨p0,w0⟩,hq0⟩:∃ q,zA[0]? = some q:=⟨_,zTO (by omega)⟩;obtain ⟨e0,he0⟩:∃ e,es[0]? = some e:=⟨_,zTO (by rw [hR.1]; omega)⟩;obtain ⟨hpl,hA⟩:=hR.2 t e _ he hq;obtain ⟨_,hA0⟩:=hR.2 0 e0 _ he0 hq0;dsimp only at hpl hA hA0;obtain ⟨hw0,hwl,hwx⟩:=hs.2 _ (zUG hq);dsimp only at hw0 hwl hwx;refine ⟨_,rfl,?_⟩;have hB:=zY hA [phH (zI zA) (zA.take t)];have hB0:=zY hA0 [phH (zI zA) (zA.take t)];have hpB:=zY ep [phH (zI zA) (zA.take t)];have hD:(A ++ [phH (zI zA) (zA.take t)])[A.length]? = some (.dict (phS (((zA.take t).map (·.2)).map (·.headD [])) fun w=>((zI zA).idxOf w:Nat))):=by
   rw [zT,zTi]; rfl
  show OkR (zCS _ _ [some (.ref p),some (.ref A.length),some (.int (e.1:Nat)),some (.ref e.2),y4] (A ++ [phH (zI zA) (zA.take t)])) _ _;have hu:w0.length = ((((zA.take t).map (·.2)) ++ [w]).headD []).length:=by
   rw [show ((zA.take t).map (·.2)) ++ [w] = (zA.take (t + 1)).map (·.2) by rw [zIN hq,zUH]; rfl];congr 1;cases zA with
   | nil=>simp at htl
   | cons a r=>simp at hq0; subst hq0; rfl
  have hf:=zLq hB hwx hwl hD hu (by rw [zTT,zUn]; have:=hs.1; omega);have hlen0:=zBS (f:=fOp kIx (fOp kIx (zC 0) (fC (.int 0))) (fC (.int 1))) (σ:=[some (.ref p),some (.ref A.length),some (.int (e.1:Nat)),some (.ref e.2),y4]) (M:=A ++ [phH (zI zA) (zA.take t)]) (x:=.dat (.ref e0.2)) (zO (x:=.dat (eD e0)) (y:=.dat (.int 1)) (zO (x:=.dat (.ref p)) (y:=.dat (.int 0)) rfl rfl (zFT (za hpB) (zBt (j:=0) (by rw [zTh,he0]; rfl)))) rfl (zFT zDh rfl)) (za hB0);rw [zTT] at hlen0;refine zBv (zCq (zX.mpr (zF (zAu (zAU (d:=.ref e.2) rfl (zAU hlen0 (zo (d:=.ref A.length) rfl))) hf) ?_)));rw [zK,zR];show OkR (zCS _ _ [some (.ref p),some (.ref A.length),some (.int (e.1:Nat)),some (.ref e.2),some (zR8 (flt ((zA.take t).map (·.2)) w))] (A ++ [phH (zI zA) (zA.take t)])) _ _;cases hfl:flt ((zA.take t).map (·.2)) w with
  | some s=>
   refine zBv (zHh (zF (zf (zO (x:=.dat (.str s)) (y:=.dat .non) rfl rfl (show kIs true (.dat (.str s)) (.dat .non) _ = some (.dat (.bl true),_) from rfl))) ?_));rw [zTZ rfl];refine zFD (zF (zAU (d:=.int (e.1:Nat)) rfl (zo (d:=.str s) rfl)) ⟨e.1,s,rfl,?_,⟨_,rfl⟩⟩);rw [hpl];exact zOn hq hd hfl
  | none=>
   have hd1:=zMj hq hd hfl;have hnd:=zL8 hd1;refine zBv (zHh (zF (zf (zO (x:=.dat .non) (y:=.dat .non) rfl rfl (show kIs true (.dat .non) (.dat .non) _ = some (.dat (.bl false),_) from rfl))) ?_));rw [zTc (by decide)];refine zCq (zAP.mpr ?_);rw [zR];have hnk:w.headD [] ∉ ((zA.take t).map (·.2)).map (·.headD []):=fun z=>by
    rw [zIN hq] at hnd;unfold zI at hnd;rw [zUH,List.nodup_append] at hnd;rw [zTi] at z;exact hnd.2.2 _ z _ (zTm.mpr rfl) rfl
   have hix:((zI zA).idxOf (w.headD []):Nat) = t:=by
    have e1:(zI zA)[t]? = some (w.headD []):=by rw [zTh,hq]; rfl
    exact zQv e1 (by rw [<- List.map_take]; rw [zTi] at hnk; exact hnk)
   have hput:=zO1 (x:=w.headD []) hD hnk (by rw [zTT,zTT,zUn]; have:=hs.1; omega);have hlD:=zKY (f:=zC 1) (σ:=[some (.ref p),some (.ref A.length),some (.int (e.1:Nat)),some (.ref e.2),some .non]) rfl hD;rw [zTT,zTT,zUn,Nat.min_eq_left (by omega)] at hlD;rw [hix] at hput;refine zCq (zAk (v:=.int (t:Nat)) (k:=nS (w.headD [])) (n:=A.length) hlD rfl (zK8 rfl hB hw0) hput ⟨rfl,⟨_,_,_,rfl⟩,hd1,?_⟩);rw [List.set_append_right _ _ (zTQ _),Nat.sub_self,List.set_cons_zero,zIN hq];unfold phH zI;rw [zUH,zTi];rfl
 ·rintro σ B ⟨⟨y2,y3,y4,rfl⟩,hd,rfl⟩;rw [zTT,hR.1,zUv (zTQ _)] at hd;rw [zR,zTT,hR.1,zUv (zTQ _)];exact zCq (zx (d:=.ref A.length) rfl ⟨_,rfl,hd,rfl,rfl⟩)
abbrev zGy (zA:List (Nat × Ws)):D:=.tup (zA.map fun r=> .tup ((r.2.drop 1).map fun x=> .int ((zI zA).idxOf x:Nat)))
theorem zI4 {A:Mem} {es:List (Nat × Nat)} (ep:A[p]? = some (.lst (es.map eD))) (hR:RwP A es zA) (hs:Szw zA) (eq:A[q]? = some (phH (zI zA) zA)) :
  OkF (zBu [.ref p,.ref q] A) (fun d B=>zAM (zI zA) zA = none /\ d = zGy zA /\ B = A) (fun i s B=>zAM (zI zA) zA = some (i,s) /\ B = A):=by
 have hat:∀ (t:Nat) (e:Nat × Nat),es[t]? = some e -> ∃ w,zA[t]? = some (e.1,w) /\ A[e.2]? = some (.lst (w.map nS)):=fun t e he=>by
  have htl:t < zA.length:=by rw [<- hR.1]; exact (zTN.mp he).1
  obtain ⟨⟨pl,w⟩,hq⟩:∃ q,zA[t]? = some q:=⟨_,zTO htl⟩;obtain ⟨hpl,hA⟩:=hR.2 t e _ he hq;dsimp only at hpl hA;exact ⟨w,by rw [hpl]; exact hq,hA⟩
 unfold zBu;refine zHQ ?_;unfold zEs;show OkR (zCS _ _ [some (.ref p),some (.ref q),none,none,none] A) _ _;refine zBv (zKb (zAi (h:=zC 0) (x:=.dat (.ref p)) rfl (za ep)) ?_);refine zJ6 (I:=fun t σ B=>(∃ y2 y3 y4,σ = [some (.ref p),some (.ref q),y2,y3,y4]) /\ zAM (zI zA) (zA.take t) = none /\ B = A) (fun t σ B h=>by rw [h.2.2]; exact Or.inl ep) ?_ ?_ (es.map eD).length 0 _ _ (by omega) ⟨⟨_,_,_,rfl⟩,rfl,rfl⟩
 ·rintro t d σ B ed ⟨⟨y2,y3,y4,rfl⟩,hd,rfl⟩;rw [zTh] at ed;obtain ⟨e,he,rfl⟩:=Option.map_eq_some_iff.mp ed;obtain ⟨w,hq,hA⟩:=hat t e he;obtain ⟨hw0,hwl,hwx⟩:=hs.2 _ (zUG hq);dsimp only at hw0 hwl hwx;refine ⟨_,rfl,?_⟩;show OkR (mIf _ _ _ [some (.ref p),some (.ref q),some (.int (e.1:Nat)),some (.ref e.2),y4] B) _ _;have hal:=zGF (bs:=w.map fun x=>decide (x ∈ zI zA)) ((zAl (own:=[4]) (fi:=zAO (zC 3)) (g:=gN 4) (te:=fOp (zGe false) (zC 4) (zC 1)) (σ:=[some (.ref p),some (.ref q),some (.int (e.1:Nat)),some (.ref e.2),y4]) (M:=B) (gd:=zD5 (.dat (.ref e.2)) (w.map nS)) w nS (fun x=> .bl (decide (x ∈ zI zA))) (zAi rfl (za hA)) (Or.inl hA) (by omega) fun x hx=>⟨_,rfl,zO (x:=.dat (nS x)) (y:=.dat (.ref q)) rfl rfl (zMI eq)⟩).trans (by rw [zTi]; rfl));rw [zB0] at hal;refine zHh (zF (zDb hal) ?_);cases hb:(w.all fun x=>decide (x ∈ zI zA)) with
  | false=>
   rw [zTZ (by decide)];exact zFD (zF (zAU (d:=.int (e.1:Nat)) rfl (zo (d:=.str sRm) rfl)) ⟨e.1,sRm,rfl,zNl hq hd hb,rfl⟩)
  | true=>
   rw [zTc (by decide)];exact zCq (zAP.mpr ⟨rfl,⟨_,_,_,rfl⟩,zLb hq hd hb,rfl⟩)
 ·rintro σ B ⟨⟨y2,y3,y4,rfl⟩,hd,rfl⟩;rw [zTT,hR.1,zUv (zTQ _)] at hd;rw [zR];have hin:=zFB hd;have hz:(List.range zA.length).map (fun r=>eD (es.getD r (0,0))) = es.map eD:=by
   rw [<- hR.1,show (fun r=>eD (es.getD r (0,0))) = eD ∘ (fun r=>es.getD r (0,0)) from rfl,<- zTi,zBF]
  refine zCq (zx (d:=zGy zA) ((zCd (zAl (own:=[2,3]) (fi:=zAO (zC 0)) (g:=zBr 2 3) (te:=fB zAv (zN (zv [4] (zAO (fSl (zC 3) (zu (fC (.int 1))) zw)) (gN 4) zAH (fOp zFF (zC 1) (zC 4))) zc)) (σ:=[some (.ref p),some (.ref q),y2,y3,y4]) (M:=B) (gd:=zD5 (.dat (.ref p)) (es.map eD)) (List.range zA.length) (fun r=>eD (es.getD r (0,0))) (fun r=> .tup (((zA.getD r (0,[])).2.drop 1).map fun x=> .int ((zI zA).idxOf x:Nat))) (by rw [hz]; exact zAi rfl (za ep)) (by rw [hz]; exact Or.inl ep) (by rw [zVM]; have:=hs.1; omega) fun r hr=>?_) zBH).trans ?_) ⟨_,rfl,hd,rfl,rfl⟩)
  ·have hr:=zTy.mp hr;have he:es[r]? = some (es.getD r (0,0)):=by rw [zTP,zTO (by rw [hR.1]; exact hr)]; rfl
   obtain ⟨w,hq,hA⟩:=hat r _ he;have hqe:zA.getD r (0,[]) = ((es.getD r (0,0)).1,w):=by rw [zTP,hq]; rfl
   rw [hqe];have hwm:=hin _ (zUG hq);obtain ⟨hw0,hwl,hwx⟩:=hs.2 _ (zUG hq);dsimp only at hwm hw0 hwl hwx ⊢;generalize es.getD r (0,0) = e at hA;refine ⟨_,rfl,?_⟩;have hsl:=zNQ (f:=zC 3) (σ:=[some (.ref p),some (.ref q),some (.int (e.1:Nat)),some (.ref e.2),y4]) rfl hA;rw [<- List.map_drop] at hsl;refine (zCd (zAl (own:=[4]) (fi:=zAO (fSl (zC 3) (zu (fC (.int 1))) zw)) (g:=gN 4) (te:=fOp zFF (zC 1) (zC 4)) (σ:=[some (.ref p),some (.ref q),some (.int (e.1:Nat)),some (.ref e.2),y4]) (M:=B) (gd:=none) (w.drop 1) nS (fun x=> .int ((zI zA).idxOf x:Nat)) (zAs hsl) trivial (by rw [zVs]; omega) fun x hx=>⟨_,rfl,?_⟩) zBH).trans rfl;exact zO (x:=.dat (.ref q)) (y:=.dat (nS x)) rfl rfl (zOt eq (hwm x (List.mem_of_mem_drop hx)))
  ·show some (EV.dat (.tup ((List.range zA.length).map ((fun q:Nat × Ws=>D.tup ((q.2.drop 1).map fun x=> .int ((zI zA).idxOf x:Nat))) ∘ fun r=>zA.getD r (0,[])))),B) = _;rw [<- zTi,zBF]
abbrev zEe (zA:List (Nat × Ws)):D:=.tup [zGy zA,.tup ((zI zA).map nS)]
theorem zIK (h0:rs ≠ []) (hr:∀ r ∈ rs,10 ∉ r) (hx:(jnL [10] rs).length <= 80000) (hs:Szw (zQ (rs.map tok) rs.length)) (M:Mem) :
  OkF (zAN [nS (jnL [10] rs)] M) (fun d B=>zBD (rs.map tok) = none /\ d = zEe (zQ (rs.map tok) rs.length) /\ Ex M B) (fun i s B=>zBD (rs.map tok) = some (i,s) /\ Ex M B):=by
 have hcut:=zJj h0 hr;unfold zBD;rw [zTT];unfold zAN;refine zHQ ?_;unfold zDM;show OkR (zCS _ _ [some (nS (jnL [10] rs)),none,none] M) _ _;refine zBv (zCq (zX.mpr (zCo.mpr (zF (zo (d:=nS (jnL [10] rs)) rfl) (Ok.mono (zMZ h0 hr hx M) ?_)))));rintro d A ⟨p,es,rfl,hx1,ep,hR⟩;rw [zK,zR];generalize zQ (rs.map tok) rs.length = zA at hR hs;show OkR (zCS _ _ [some (nS (jnL [10] rs)),some (.ref p),none] A) _ _;refine zBv (zM7 (zo (d:=.ref p) rfl) ?_);rcases zI0 ep hR hs with ⟨d,B,e,hd,rfl,rfl⟩ | ⟨i,s,B,e,hd,hx2⟩
 ·refine .inl ⟨_,_,e,zR.mpr ?_⟩;have ep':=zY ep [phH (zI zA) zA];have eq':(A ++ [phH (zI zA) zA])[A.length]? = some (phH (zI zA) zA):=zT _ _;have hR':=hR.app [phH (zI zA) zA];have hx2:=hx1.app [phH (zI zA) zA];generalize A ++ [phH (zI zA) zA] = B at ep' eq' hR' hx2;generalize A.length = q at eq';show OkR (zCS _ _ [some (nS (jnL [10] rs)),some (.ref p),some (.ref q)] B) _ _;rw [hd];dsimp only;have ht:zBC (zIg (zC 1)) [some (nS (jnL [10] rs)),some (.ref p),some (.ref q)] B = some (zA.isEmpty,B):=by
   unfold zBC;rw [zBR (f:=zC 1) (j:=p) rfl ep'];dsimp only;have:=hR.1;cases es with
   | nil=>cases zA with
    | nil=>rfl
    | cons _ _=>simp at this
   | cons _ _=>cases zA with
    | nil=>simp at this
    | cons _ _=>rfl
  refine zBv (zHh (zF ht ?_));cases hem:zA.isEmpty with
  | true=>
   rw [zTZ rfl];have hm:zBa [nS (jnL [10] rs)] B = some (.int (rs.length:Nat),B):=by
    refine zJ ?_;unfold zBa;rw [zAg];unfold zDO;show OkS (zr _ [some (nS (jnL [10] rs))] B) _;have:=zBS (f:=zCm (zC 0) (zN (fC (.str (Str.ofString "\n"))) zc)) (σ:=[some (nS (jnL [10] rs))]) (M:=B) (zGS zJ9 (by decide) rfl (by omega)) zBH;rw [hcut,zTT] at this;exact zx this ⟨rfl,rfl⟩
   refine zFD (zF (zAU (zAu (zo (d:=nS (jnL [10] rs)) rfl) hm) (zo (d:=.str sNo) rfl)) ⟨rs.length,sNo,rfl,?_,hx2⟩);rw [List.isEmpty_iff] at hem;rw [hem];have:1 <= rs.length:=List.length_pos_iff.mpr h0;show some (max 1 rs.length,sNo) = _;rw [Nat.max_eq_right this]
  | false=>
   rw [zTc (by decide)];refine zCq (zAP.mpr ?_);rw [zR];refine zNX (zAU (d:=.ref p) rfl (zo (d:=.ref q) rfl)) ?_;rcases zI4 ep' hR' hs eq' with ⟨d,C,e,hd,rfl,rfl⟩ | ⟨i,s,C,e,hd,rfl⟩
   ·refine .inl ⟨_,_,e,[.tup ((zI zA).map nS)],C,zo ?_,by simp,_,rfl,?_,rfl,hx2⟩
    ·unfold fB zN zc;show zGv [.dat (.ref q)] C = _;unfold zGv;dsimp only;rw [eq'];unfold phH phS;dsimp only;rw [zTi]; rfl
    ·rw [hd];rfl
   ·exact .inr ⟨_,_,_,e,by rw [hd],hx2⟩
 ·exact .inr ⟨_,_,_,e,by rw [hd],hx1.trans hx2⟩
open Lac (zm zU zT zBN zBK zY Ex zBI zBL mlR zBk zBo zBR zAk zAs zAd zC1 zBm zBf zDI)
noncomputable def zFC:FS:=(zS (zAF 1 (zp zH))
  (zS (zFY (zEi (zC 0)) (zBr 2 3) (sIf (tst (fOp kNe (zC 3) (zp zH))) (zS (zAF 4 (zW zBd (zD (toD (zC 3)) (zD (toD (zC 1)) zH))))
  (zS (sIf (tst (fOp kNe (zC 4) (fC (.str "")))) (zr (zDc (zD (toD (zC 2)) (zD (toD (zC 4)) zH)))) zAw)
  (zDC (fM zBV (zC 1) (zD (toD (zC 3)) zH))))) zAw))
  (zS (zAF 5 (zv [3] (zAO (zC 1)) (gN 3) zAH (fOp kIx (zC 3) (fC (.int 0)))))
  (zS (zFY (zEi (zC 0)) (zBr 2 3) (sIf (tst (fOp kNe (zv [6] (zAO (zC 3)) (gN 6) (tst (fOp (zGg true) (zC 6) (zC 5))) (zC 6)) (zp zH))) (zr (zDc (zD (toD (zC 2)) (zD (toD (fC (.str "room"))) zH)))) zAw))
  (zS (sIf (tst (fOp kEq (zC 1) (zp zH))) (zr (zDc (zD (toD (fB zIV (zN (fC (.int 1)) (zN (fB zAx (zN (zC 0) zc)) zc)))) (zD (toD (fC (.str "none"))) zH)))) zAw)
  (zr (fC .non)))))))
noncomputable def zDf:FF:=zCe (zCF 7 zFC)
noncomputable def zEJ:FS:=(zS (zAF 1 (zv [2] (zAO (zC 0)) (gN 2) (tst (fOp kNe (zC 2) (zp zH))) (zC 2)))
  (zS (zAF 3 (zv [2] (zAO (zC 1)) (gN 2) zAH (fOp kIx (zC 2) (fC (.int 0)))))
  (zr (zDc (zD (toD (fB zAv (zN (zv [2] (zAO (zC 1)) (gN 2) zAH (fB zAv (zN (zv [4] (zAO (fSl (zC 2) (zu (fC (.int 1))) zw)) (gN 4) zAH (fM zCH (zC 3) (zD (toD (zC 4)) zH))) zc))) zc))) (zD (toD (fB zAv (zN (zC 3) zc))) zH))))))
noncomputable def zB1:FF:=zCe (zCF 5 zEJ)
noncomputable def zCU:FS:=(zS (zAF 1 (fC .non))
  (zS (zIW 1 2 zAN (zD (toD (zC 0)) zH))
  (zr (zC 1))))
noncomputable def zAC:FF:=zCe (zCF 3 zCU)
theorem zP2 (h:M[j]? = some (.lst xs)):kEq (.dat (.ref j)) (.fl []) M = some (.dat (.bl xs.isEmpty),M):=by
 have e1:zJO false (.dat (.ref j)) (.fl []) M = none:=rfl;unfold kEq kOr; rw [e1]; unfold zLC; rw [zAa h]; rfl
theorem zP3 (hf:f σ M = some (.dat (.ref j),M)) (h:M[j]? = some (.lst xs)):tst (fOp kNe f (zp zH)) σ M = some (!xs.isEmpty,M) :=
 zf (zO hf (y:=.fl []) (zBI (ds:=[]) rfl (by simp)) (zJ ((zFj (zAa h) (fun d e=>by cases e; rfl)).mpr ⟨rfl,rfl⟩)))
theorem zCa {α β:Type} (f:α -> β) (xs:List α):(xs.map f).isEmpty = xs.isEmpty:=by cases xs <;> rfl
def zD7:Option (Nat × Str) -> D
 | some (p,s)=> .tup [.int (p:Nat),.str s]
 | none=> .non
theorem zIO (x:Option (Nat × Str)):D.und 0 (zD7 x) = true:=by
 cases x with
 | none=>rfl
 | some x=>obtain ⟨p,s⟩:=x; rfl
theorem zQO (h:flt L w = some s):s ≠ Str.ofString "" := by
 have k:∀ t:Str,t = sNm \/ t = sCt \/ t = sTw \/ t = sMy -> t ≠ Str.ofString "" := by
  rintro t (rfl | rfl | rfl | rfl) <;> decide +kernel
 refine k s ?_;unfold flt at h;split at h
 ·cases h; simp
 ·split at h
  ·cases h; simp
  ·split at h
   ·cases h; simp
   ·split at h <;> cases h; simp
theorem zPt (hf:f σ M = some (.dat (.str s),M)):tst (fOp kNe f (fC (.str t))) σ M = some (!decide (s = t),M):=by
 refine zf (zO hf (y:=.dat (.str t)) rfl ?_);show some (EV.dat (.bl (!decide (V.str s = V.str t))),M) = _;rw [zW4.mpr (show V.str s = V.str t ↔ s = t from ⟨fun e=>by cases e; rfl,fun e=>by rw [e]⟩)]
def Szl (L:List Ws):Prop:=L.length <= 1000 /\ ∀ w ∈ L,w.length <= 1000 /\ ∀ x ∈ w,x.length <= 1000
theorem Szl.zA (h:Szl L) (t:Nat) (ht:t <= L.length):Szw (zQ L t):=by
 refine ⟨by have:=zDl L t; have:=h.1; omega,fun q hq=>?_⟩;obtain ⟨h1,h2,h3⟩:=zGt hq;have hm:q.2 ∈ L:=by
  rw [h2,zTP,zTO (by omega)];exact List.getElem_mem _
 exact ⟨h3,h.2 _ hm⟩
theorem zHr {L:List Ws} (h:t < L.length):L[t]? = some (L.getD t []):=by rw [zTP,zTO h]; rfl
section
variable {A:Mem} {p:Nat} {js:List Nat} {L:List Ws}
theorem zKU (hL:LnA A js L) (h:(zDs (js.map D.ref))[t]? = some d):∃ j,js[t]? = some j /\ d = .tup [.int (t:Nat),.ref j] /\ t < L.length /\ A[j]? = some (.lst ((L.getD t []).map nS)):=by
 obtain ⟨x,hx,rfl⟩:=zFm h;rw [zTh] at hx;obtain ⟨j,hj,rfl⟩:=Option.map_eq_some_iff.mp hx;have ht:t < L.length:=by rw [<- hL.1]; exact (zTN.mp hj).1
 exact ⟨j,hj,rfl,ht,hL.2 t j _ hj (zHr ht)⟩
theorem zI9 (hL:LnA A js L):(zDs (js.map D.ref)).length = L.length:=by unfold zDs; simp [hL.1]
theorem enL (hf:f σ A = some (.dat (.ref p),A)) (ep:A[p]? = some (.lst (js.map D.ref))):zEi f σ A = some (zDs (js.map D.ref),zD5 (.dat (.ref p)) (js.map D.ref),A):=by
 unfold zEi; rw [hf]; dsimp only; rw [za ep]
theorem zGC (t:Nat):((zQ L t).map (·.2)).map (·.headD []) = zI (zQ L t):=by rw [zTi]; rfl
theorem zHM (t:Nat):∀ w ∈ (zQ L t).map (·.2),w ≠ []:=fun w hw=>by
 obtain ⟨q,hq,rfl⟩:=zTb.mp hw;exact (zGt hq).2.2
theorem zIu (h:M[n]? = some (.lst xs)):zBJ (zD5 (.dat (.ref n)) xs) (zDs xs) M:=Or.inl h
theorem zQE (wf:∀ (j:Nat) u,A[j]? = some u -> MO.und A.length u = true) (ep:A[p]? = some (.lst (js.map D.ref))) (hL:LnA A js L) (hs:Szl L):zDf [.ref p] A = some (zD7 (zBD L),A):=by
 refine zJ (Ok.mono (zAd (Q:=fun d=>d = zD7 (zBD L)) wf ?_) fun d B h=>⟨h.2,h.1⟩);refine Ok.mono (P:=fun d B=>Ex A B /\ d = zD7 (zBD L)) ?_ fun d B h=>⟨by rw [h.2]; exact zIO _,h⟩;have hz:=hs.1;rw [zAg];unfold zFC;show OkS (zS _ _ [some (.ref p),none,none,none,none,none,none] A) _;rw [zM,zX];refine zF (zBI (ds:=[]) rfl (by simp)) (zU ?_);rw [zR];show OkS (zS _ _ [some (.ref p),some (.ref A.length),none,none,none,none,none] (A ++ [MO.lst (([]:List Nat).map D.ref)])) _;rw [zM,zCu];refine ⟨_,_,_,enL rfl (zY ep _),?_⟩;refine zBN (I:=fun t σ B=>(∃ y2 y3 y4,σ = [some (.ref p),some (.ref A.length),y2,y3,y4,none,none]) /\ zA2 [] (zQ L t) = none /\ ∃ ks:List Nat,B = A ++ [MO.lst (ks.map D.ref)] /\ LnA A ks ((zQ L t).map (·.2))) (fun t σ B h=>by obtain ⟨_,_,ks,rfl,_⟩:=h; exact zIu (zY ep _)) ?_ ?_ _ _ ⟨⟨_,_,_,rfl⟩,rfl,[],rfl,rfl,fun i j w h=>by simp at h⟩
 ·rintro t d σ B ed ⟨⟨y2,y3,y4,rfl⟩,hd,ks,rfl,hK⟩;obtain ⟨j,hj,rfl,ht,hA⟩:=zKU hL ed;refine ⟨_,rfl,?_⟩;have hB:=zY hA [MO.lst (ks.map D.ref)];have hK':=hK.app [MO.lst (ks.map D.ref)];have eK:(A ++ [MO.lst (ks.map D.ref)])[A.length]? = some (.lst (ks.map D.ref)):=zT _ _;show OkS (sIf _ _ _ [some (.ref p),some (.ref A.length),some (.int (t:Nat)),some (.ref j),y4,none,none] (A ++ [MO.lst (ks.map D.ref)])) _;rw [zAI];refine zF (zP3 (f:=zC 3) rfl hB) ?_;rw [zCa];obtain ⟨hwl,hwx⟩:=hs.2 _ (zUG (zHr ht));cases hw:(L.getD t []).isEmpty with
  | true=>
   rw [zTc (by decide),zAP];refine ⟨⟨_,_,_,rfl⟩,zG5 hd (fun e=>by rw [hw] at e; cases e),ks,rfl,?_⟩;rw [zA5,hw,zTZ rfl,zT9];exact hK
  | false=>
   rw [zTZ (by decide)];have hkl:((zQ L t).map (·.2)).length <= 1000:=by rw [zTT]; have:=zDl L t; omega
   have hlf:=zL5 hB hwx hwl eK hK' (zHM t) hkl;refine zE1 (zAu (zAU (d:=.ref j) rfl (zo (d:=.ref A.length) rfl)) hlf) ?_;show OkS (zS _ _ [some (.ref p),some (.ref A.length),some (.int (t:Nat)),some (.ref j),some (zR4 (flt ((zQ L t).map (·.2)) (L.getD t []))),none,none] (A ++ [MO.lst (ks.map D.ref)])) _;cases hf:flt ((zQ L t).map (·.2)) (L.getD t []) with
   | some s=>
    refine zAe ((zPt (s:=s) rfl).trans (by rw [zTt (zQO hf)]; rfl)) (zx (d:=.tup [.int (t:Nat),.str s]) (zC1 (zAU (d:=.int (t:Nat)) rfl (zo (d:=.str s) rfl)) (by simp)) ?_);refine ⟨⟨_,rfl⟩,?_⟩;unfold zBD;rw [zNC ht hd hw hf]; rfl
   | none=>
    refine z0 ((zPt (s:=Str.ofString "") rfl).trans (by rw [zUX rfl]; rfl)) ?_;rw [zDL];refine zLV.mpr (zV.mpr ⟨_,rfl,⟨_,zAa eK⟩,zF (zo (d:=.ref j) rfl) ((zEV eK (zTj (by rw [zTT,hK.1]; omega) (zk (n:=2000) (by decide)))).mpr ⟨⟨_,_,_,rfl⟩,zG5 hd (fun _=>hf),ks ++ [j],?_,?_⟩)⟩)
    ·rw [List.set_append_right _ _ (zTQ _),Nat.sub_self,List.set_cons_zero,zUH]; rfl
    ·rw [zA5,hw,zTc (by decide),zUH];refine ⟨by rw [zTa,zTa,hK.1]; rfl,fun i k w h1 h2=>?_⟩;by_cases q:i < ks.length
     ·rw [zTR q] at h1;rw [zTR (by rw [<- hK.1]; exact q)] at h2;exact hK.2 i k w h1 h2
     ·have hi:i = ks.length:=by
       have:=(zTN.mp h1).1;rw [zTa,List.length_singleton] at this; omega
      subst hi;rw [zUZ (zTQ _),Nat.sub_self] at h1;rw [hK.1,zUZ (zTQ _),Nat.sub_self] at h2;cases h1; cases h2;exact hA
 ·rintro σ B ⟨⟨y2,y3,y4,rfl⟩,hd,ks,rfl,hK⟩;rw [zI9 hL] at hd hK;rw [zR];have hkl:((zQ L L.length).map (·.2)).length <= 1000:=by rw [zTT]; have:=zDl L L.length; omega
  have eK:(A ++ [MO.lst (ks.map D.ref)])[A.length]? = some (.lst (ks.map D.ref)):=zT _ _;have hh:=zFu (v:=3) (f:=zC 1) (σ:=[some (.ref p),some (.ref A.length),y2,y3,y4,none,none]) rfl (by simp) rfl eK (hK.app _) (zHM L.length) hkl;rw [zM,zX];refine zF hh (zU ?_);rw [zR,zGC];have ep1:=zY ep [MO.lst (ks.map D.ref)];have hL1:=hL.app [MO.lst (ks.map D.ref)];have hx1:Ex A (A ++ [MO.lst (ks.map D.ref)]):=⟨_,rfl⟩;generalize A ++ [MO.lst (ks.map D.ref)] = B at eK ep1 hL1 hx1;have ep2:=zY ep1 [MO.lst ((zI (zQ L L.length)).map nS)];have hL2:=hL1.app [MO.lst ((zI (zQ L L.length)).map nS)];have eK2:=zY eK [MO.lst ((zI (zQ L L.length)).map nS)];have hx2:=hx1.app [MO.lst ((zI (zQ L L.length)).map nS)];have eH:(B ++ [MO.lst ((zI (zQ L L.length)).map nS)])[B.length]? = some (.lst ((zI (zQ L L.length)).map nS)):=zT _ _;generalize B ++ [MO.lst ((zI (zQ L L.length)).map nS)] = C at ep2 hL2 eK2 hx2 eH;generalize B.length = hq at eH;show OkS (zS _ _ [some (.ref p),some (.ref A.length),y2,y3,y4,some (.ref hq),none] C) _;rw [zM,zCu];refine ⟨_,_,_,enL rfl ep2,?_⟩;refine zBN (I:=fun t σ B=>(∃ y2 y3,σ = [some (.ref p),some (.ref A.length),y2,y3,y4,some (.ref hq),none]) /\ zAM (zI (zQ L L.length)) (zQ L t) = none /\ B = C) (fun t σ B h=>by rw [h.2.2]; exact zIu ep2) ?_ ?_ _ _ ⟨⟨_,_,rfl⟩,rfl,rfl⟩
  ·rintro t d σ B ed ⟨⟨y2,y3,rfl⟩,hr,rfl⟩;obtain ⟨j,hj,rfl,ht,hA⟩:=zKU hL2 ed;refine ⟨_,rfl,?_⟩;show OkS (sIf _ _ _ [some (.ref p),some (.ref A.length),some (.int (t:Nat)),some (.ref j),y4,some (.ref hq),none] B) _;rw [zAI];obtain ⟨hwl,hwx⟩:=hs.2 _ (zUG (zHr ht));have hc:=zm (own:=[6]) (fi:=zAO (zC 3)) (g:=gN 6) (tc:=tst (fOp (zGg true) (zC 6) (zC 5))) (te:=zC 6) (σ:=[some (.ref p),some (.ref A.length),some (.int (t:Nat)),some (.ref j),y4,some (.ref hq),none]) (M:=B) (M1:=B) (gd:=zD5 (.dat (.ref j)) ((L.getD t []).map nS)) (L.getD t []) nS nS (fun x=> !decide (x ∈ zI (zQ L L.length))) (zAi rfl (za hA)) (Or.inl hA) (by omega) fun x hx=>⟨_,rfl,zf ((zMe (neg:=true) (x:=x) (y:=.dat (.ref hq)) rfl rfl (za eH)).trans (by rw [zTZ rfl])),fun _=>rfl⟩;have hne:tst (fOp kNe (zv [6] (zAO (zC 3)) (gN 6) (tst (fOp (zGg true) (zC 6) (zC 5))) (zC 6)) (zp zH)) [some (.ref p),some (.ref A.length),some (.int (t:Nat)),some (.ref j),y4,some (.ref hq),none] B = some (!((L.getD t []).all fun x=>decide (x ∈ zI (zQ L L.length))),B):=by
    refine (zf (zO hc (y:=.fl []) (zBI (ds:=[]) rfl (by simp)) (zJ ((zFj zHO (fun d e=>by cases e)).mpr ⟨rfl,rfl⟩)))).trans ?_;rw [zCa];congr 3;induction (L.getD t []) with
    | nil=>rfl
    | cons x r ih=>
     rw [List.filter_cons,List.all_cons];cases decide (x ∈ zI (zQ L L.length)) with
     | true=>exact ih
     | false=>rfl
   refine zF hne ?_;cases hb:((L.getD t []).all fun x=>decide (x ∈ zI (zQ L L.length))) with
   | true=>
    rw [zTc (by decide),zAP];exact ⟨⟨_,_,rfl⟩,zJy hr hb,rfl⟩
   | false=>
    rw [zTZ (by decide)];refine zx (d:=.tup [.int (t:Nat),.str sRm]) (zC1 (zAU (d:=.int (t:Nat)) rfl (zo (d:=.str sRm) rfl)) (by simp)) ⟨hx2,?_⟩;unfold zBD;rw [hd,zL0 ht hr hb]; rfl
  ·rintro σ B ⟨⟨y2,y3,rfl⟩,hr,rfl⟩;rw [zI9 hL] at hr;rw [zR];have hem:ks.isEmpty = (zQ L L.length).isEmpty:=by
    have:=hK.1;rw [zTT] at this;cases ks with
    | nil=>cases e:zQ L L.length with
     | nil=>rfl
     | cons _ _=>rw [e] at this; simp at this
    | cons _ _=>cases e:zQ L L.length with
     | nil=>rw [e] at this; simp at this
     | cons _ _=>rfl
   have hte:=zf (zO (k:=kEq) (f:=zC 1) (g:=zp zH) (σ:=[some (.ref p),some (.ref A.length),y2,y3,y4,some (.ref hq),none]) (x:=.dat (.ref A.length)) rfl (zBI (ds:=[]) rfl (by simp)) (zP2 eK2));rw [zCa,hem] at hte;unfold zBD;rw [hd,hr];dsimp only;cases hb:(zQ L L.length).isEmpty with
   | true=>
    rw [hb] at hte;have hlen:=zBS (f:=zC 0) (σ:=[some (.ref p),some (.ref A.length),y2,y3,y4,some (.ref hq),none]) (M:=B) (x:=.dat (.ref p)) rfl (za ep2);rw [zTT,hL.1] at hlen;refine zAe hte (zx (zC1 (zAU (Lac.zOU (i:=1) rfl hlen) (zo (d:=.str sNo) rfl)) (by simp)) ⟨hx2,?_⟩);rw [zTZ rfl];show D.tup [.int (if ((L.length:Nat):Int) > 1 then ((L.length:Nat):Int) else 1),.str sNo] = .tup [.int ((max 1 L.length:Nat):Int),.str sNo];congr 2;congr 1;split <;> omega
   | false=>
    rw [hb] at hte;rw [zTc (by decide)];exact z0 hte (zx (d:=.non) rfl ⟨hx2,rfl⟩)
theorem zKv (x:List Nat):∀ xs:List (List Nat),(xs.map tx).idxOf (tx x) = xs.idxOf x
 | []=>rfl
 | y :: xs=>by
  rw [zTd,List.idxOf_cons,List.idxOf_cons,zKv x xs];have:(tx y == tx x) = (y == x):=by
   rw [zV2,zVL,zVL];exact ⟨zH4,fun e=>by rw [e]⟩
  rw [this]
theorem zIz (zA:List (Nat × Ws)):D.und 0 (zEe zA) = true:=by
 show (D.und 0 (zGy zA) && (D.und 0 (.tup ((zI zA).map nS)) && true)) = true;have h1:D.und 0 (zGy zA) = true:=by
  show D.unds 0 _ = true;refine zBY fun x hx=>?_;obtain ⟨r,_,rfl⟩:=zTb.mp hx;show D.unds 0 _ = true;refine zBY fun x hx=>?_;obtain ⟨r,_,rfl⟩:=zTb.mp hx;rfl
 have h2:D.und 0 (.tup ((zI zA).map nS)) = true:=by
  show D.unds 0 _ = true;exact zB9 _
 rw [h1,h2]; rfl
theorem zMb (h:zBD L = none):zA2 [] (zQ L L.length) = none /\ zAM (zI (zQ L L.length)) (zQ L L.length) = none:=by
 unfold zBD at h;split at h
 ·cases h
 ·rename_i e1;split at h
  ·cases h
  ·rename_i e2;exact ⟨e1,e2⟩
theorem zPT (wf:∀ (j:Nat) u,A[j]? = some u -> MO.und A.length u = true) (ep:A[p]? = some (.lst (js.map D.ref))) (hL:LnA A js L) (hs:Szl L) (hd:zBD L = none):zB1 [.ref p] A = some (zEe (zQ L L.length),A):=by
 refine zJ (Ok.mono (zAd (Q:=fun d=>d = zEe (zQ L L.length)) wf ?_) fun d B h=>⟨h.2,h.1⟩);refine Ok.mono (P:=fun d B=>Ex A B /\ d = zEe (zQ L L.length)) ?_ fun d B h=>⟨by rw [h.2]; exact zIz _,h⟩;have hz:=hs.1;obtain ⟨_,hroom⟩:=zMb hd;have hin:=zFB hroom;rw [zAg];unfold zEJ;show OkS (zS _ _ [some (.ref p),none,none,none,none] A) _;rw [zM,zX];have hj:(List.range L.length).map (fun i=>D.ref (js.getD i 0)) = js.map D.ref:=by
  rw [show (fun i=>D.ref (js.getD i 0)) = D.ref ∘ (fun i=>js.getD i 0) from rfl,<- zTi,<- hL.1,zBF]
 have hjA:∀ i,i < L.length -> A[js.getD i 0]? = some (.lst ((L.getD i []).map nS)):=fun i hi=>hL.2 i _ _ (by rw [zTP,zTO (by rw [hL.1]; exact hi)]; rfl) (zHr hi);have hc:=zm (own:=[2]) (fi:=zAO (zC 0)) (g:=gN 2) (tc:=tst (fOp kNe (zC 2) (zp zH))) (te:=zC 2) (σ:=[some (.ref p),none,none,none,none]) (M:=A) (M1:=A) (gd:=zD5 (.dat (.ref p)) (js.map D.ref)) (List.range L.length) (fun i=>D.ref (js.getD i 0)) (fun i=>D.ref (js.getD i 0)) (fun i=> !(L.getD i []).isEmpty) (by rw [hj]; exact zAi rfl (za ep)) (by rw [hj]; exact Or.inl ep) (by rw [zVM]; omega) fun i hi=>⟨_,rfl,(zP3 (f:=zC 2) rfl (hjA i (zTy.mp hi))).trans (by rw [zCa]),fun _=>rfl⟩;refine zF hc (zU ?_);rw [zR];have hrows:zQ L L.length = ((List.range L.length).filter fun i=> !(L.getD i []).isEmpty).map fun i=>(i,L.getD i []):=by
  unfold zQ;rw [List.filter_map]; rfl
 generalize hI:((List.range L.length).filter fun i=> !(L.getD i []).isEmpty) = I at hrows;have hIl:∀ i ∈ I,i < L.length:=fun i hi=>by rw [<- hI] at hi; exact zTy.mp (List.mem_filter.mp hi).1
 have hK:LnA A (I.map fun i=>js.getD i 0) ((zQ L L.length).map (·.2)):=by
  rw [hrows,zTi];refine ⟨by rw [zTT,zTT],fun i k w h1 h2=>?_⟩;rw [zTh] at h1 h2;obtain ⟨x,hx,rfl⟩:=Option.map_eq_some_iff.mp h1;rw [hx] at h2;cases h2;exact hjA x (hIl x (zUG hx))
 rw [show I.map (fun i=>D.ref (js.getD i 0)) = (I.map fun i=>js.getD i 0).map D.ref by rw [zTi]; rfl];generalize I.map (fun i=>js.getD i 0) = ks at hK;have hkl:((zQ L L.length).map (·.2)).length <= 1000:=by rw [zTT]; have:=zDl L L.length; omega
 have hx1:Ex A (A ++ [MO.lst (ks.map D.ref)]):=⟨_,rfl⟩;have eK:(A ++ [MO.lst (ks.map D.ref)])[A.length]? = some (.lst (ks.map D.ref)):=zT _ _;have hK1:=hK.app [MO.lst (ks.map D.ref)];generalize A ++ [MO.lst (ks.map D.ref)] = B at hx1 eK hK1;generalize A.length = kq at eK;show OkS (zS _ _ [some (.ref p),some (.ref kq),none,none,none] B) _;have hh:=zFu (v:=2) (f:=zC 1) (σ:=[some (.ref p),some (.ref kq),none,none,none]) rfl (by simp) rfl eK hK1 (zHM L.length) hkl;rw [zM,zX];refine zF hh (zU ?_);rw [zR,zGC];have hx2:=hx1.app [MO.lst ((zI (zQ L L.length)).map nS)];have eK2:=zY eK [MO.lst ((zI (zQ L L.length)).map nS)];have hK2:=hK1.app [MO.lst ((zI (zQ L L.length)).map nS)];have eH:(B ++ [MO.lst ((zI (zQ L L.length)).map nS)])[B.length]? = some (.lst ((zI (zQ L L.length)).map nS)):=zT _ _;generalize B ++ [MO.lst ((zI (zQ L L.length)).map nS)] = C at hx2 eK2 hK2 eH;generalize B.length = hq at eH;have hszw:=hs.zA L.length (zTQ _);generalize zQ L L.length = zA at hK2 hin hkl eH hszw;show OkS (zr _ [some (.ref p),some (.ref kq),none,some (.ref hq),none] C) _;rw [zTT] at hkl;have hkj:(List.range zA.length).map (fun i=>D.ref (ks.getD i 0)) = ks.map D.ref:=by
  have:=hK2.1;rw [zTT] at this;rw [show (fun i=>D.ref (ks.getD i 0)) = D.ref ∘ (fun i=>ks.getD i 0) from rfl,<- zTi,<- this,zBF]
 have hm:=(zCd (zAl (own:=[2]) (fi:=zAO (zC 1)) (g:=gN 2) (te:=fB zAv (zN (zv [4] (zAO (fSl (zC 2) (zu (fC (.int 1))) zw)) (gN 4) zAH (fM zCH (zC 3) (zD (toD (zC 4)) zH))) zc)) (σ:=[some (.ref p),some (.ref kq),none,some (.ref hq),none]) (M:=C) (gd:=zD5 (.dat (.ref kq)) (ks.map D.ref)) (List.range zA.length) (fun i=>D.ref (ks.getD i 0)) (fun r=> .tup (((zA.getD r (0,[])).2.drop 1).map fun x=> .int ((zI zA).idxOf x:Nat))) (by rw [hkj]; exact zAi rfl (za eK2)) (by rw [hkj]; exact Or.inl eK2) (by rw [zVM]; omega) fun r hr=>?_) zBH)
 ·refine zx (d:=zEe zA) (zC1 (zAU (d:=zGy zA) (hm.trans ?_) (zo (d:=.tup ((zI zA).map nS)) (zCd (x:=.dat (.ref hq)) rfl (za eH)))) (by simp)) ⟨hx2,rfl⟩;show some (EV.dat (.tup ((List.range zA.length).map ((fun q:Nat × Ws=>D.tup ((q.2.drop 1).map fun x=> .int ((zI zA).idxOf x:Nat))) ∘ fun r=>zA.getD r (0,[])))),C) = _;rw [<- zTi,zBF]
 ·have hr:=zTy.mp hr;have hq1:zA[r]? = some (zA.getD r (0,[])):=by rw [zTP,zTO hr]; rfl
  have hA:=hK2.2 r (ks.getD r 0) _ (by rw [zTP,zTO (by have:=hK2.1; rw [zTT] at this; omega)]; rfl) (by rw [zTh,hq1]; rfl);have hwm:=hin _ (zUG hq1);obtain ⟨hw0,hwl,hwx⟩:=hszw.2 _ (zUG hq1);generalize zA.getD r (0,[]) = q at hA hwm hwl hwx;generalize ks.getD r 0 = k at hA;refine ⟨_,rfl,?_⟩;have hsl:=zNQ (f:=zC 2) (σ:=[some (.ref p),some (.ref kq),some (.ref k),some (.ref hq),none]) rfl hA;rw [<- List.map_drop] at hsl;refine (zCd (zAl (own:=[4]) (fi:=zAO (fSl (zC 2) (zu (fC (.int 1))) zw)) (g:=gN 4) (te:=fM zCH (zC 3) (zD (toD (zC 4)) zH)) (σ:=[some (.ref p),some (.ref kq),some (.ref k),some (.ref hq),none]) (M:=C) (gd:=none) (q.2.drop 1) nS (fun x=> .int ((zI zA).idxOf x:Nat)) (zAs hsl) trivial (by rw [zVs]; omega) fun x hx=>⟨_,rfl,?_⟩) zBH).trans rfl;refine zJ (zLV.mpr (zV.mpr ⟨_,rfl,⟨_,zAa eH⟩,zF (zo (d:=nS x) rfl) ?_⟩));have hk:zCH (.dat (.ref hq)) [nS x] C = some (.int ((zI zA).idxOf x:Nat),C):=by
   unfold zCH;dsimp only;rw [eH];dsimp only;rw [zF6];dsimp only;rw [zTZ ⟨zTb.mpr ⟨x,hwm x (List.mem_of_mem_drop hx),rfl⟩,by rw [zTT,zTT]; omega⟩,zKv]
  exact zF hk ⟨rfl,rfl⟩
end
theorem zEK (h0:rs ≠ []) (hr:∀ r ∈ rs,10 ∉ r) (hx:(jnL [10] rs).length <= 80000) (hs:Szw (zQ (rs.map tok) rs.length)) (wf:∀ (j:Nat) u,M[j]? = some u -> MO.und M.length u = true):zAC [nS (jnL [10] rs)] M = some (zD7 (zBD (rs.map tok)),M):=by
 refine zJ (Ok.mono (zAd (Q:=fun d=>d = zD7 (zBD (rs.map tok))) wf ?_) fun d B h=>⟨h.2,h.1⟩);refine Ok.mono (P:=fun d B=>Ex M B /\ d = zD7 (zBD (rs.map tok))) ?_ fun d B h=>⟨by rw [h.2]; exact zIO _,h⟩;rw [zAg];unfold zCU;show OkS (zS _ _ [some (nS (jnL [10] rs)),none,none] M) _;refine zE1 (d:=.non) rfl ?_;show OkS (zS _ _ [some (nS (jnL [10] rs)),some .non,none] M) _;rw [zM];rcases zIK h0 hr hx hs M with ⟨d,B,e,hd,rfl,hx1⟩ | ⟨i,s,B,e,hd,hx1⟩
 ·refine ⟨.nx,[some (nS (jnL [10] rs)),some .non,none],B,?_,?_⟩
  ·unfold zIW;rw [zo (d:=nS (jnL [10] rs)) rfl];dsimp only;rw [e]
  ·rw [zR,hd];exact zx (d:=.non) rfl ⟨hx1,rfl⟩
 ·refine ⟨.nx,[some (nS (jnL [10] rs)),some (.tup [.int (i:Nat),.str s]),none],B,?_,?_⟩
  ·unfold zIW;rw [zo (d:=nS (jnL [10] rs)) rfl];dsimp only;rw [e]; rfl
  ·rw [zR,hd];exact zx (d:=.tup [.int (i:Nat),.str s]) rfl ⟨hx1,rfl⟩
theorem zJ0 (h0:rs ≠ []) (hr:∀ r ∈ rs,10 ∉ r) (hx:(jnL [10] rs).length <= 80000) (hs:Szw (zQ (rs.map tok) rs.length)) (hd:zBD (rs.map tok) = none) (wf:∀ (j:Nat) u,M[j]? = some u -> MO.und M.length u = true):zCe (fPl zAN) [nS (jnL [10] rs)] M = some (zEe (zQ (rs.map tok) rs.length),M):=by
 refine zJ (Ok.mono (zAd (Q:=fun d=>d = zEe (zQ (rs.map tok) rs.length)) wf ?_) fun d B h=>⟨h.2,h.1⟩);rcases zIK h0 hr hx hs M with ⟨d,B,e,_,rfl,hx1⟩ | ⟨i,s,B,e,h,_⟩
 ·refine ⟨_,_,?_,zIz _,hx1,rfl⟩;unfold fPl;rw [e]
 ·rw [hd] at h; cases h
open Lac (zm zU zT zBN zBK zY Ex zBI zBL mlR zBk zBo zBR zAk zAs zAd zC1 zBm zBf zDI eqE)
noncomputable def zCr:FS:=(zS (sIf (tst (fOp kEq (zC 1) (zp zH))) (zr (zp (zD (toD (zp (zD (toD (fC (.str "a"))) zH))) zH))) zAw)
  (zS (zAF 2 (zW zP (zD (toD (zC 0)) (zD (toD (fB zAx (zN (zC 1) zc))) zH))))
  (zS (zAF 3 (fB zG8 (zN (fOp kIx (zC 1) (zC 2)) zc)))
  (zS (zAF 4 (zW zP (zD (toD (zC 0)) (zD (toD (fOp zAR (fB zAx (zN (zC 3) zc)) (fC (.int 1)))) zH))))
  (zS (zAF 5 (fSl (fOp kIx (zC 1) (zW zP (zD (toD (zC 0)) (zD (toD (fB zAx (zN (zC 1) zc))) zH)))) zw (zu (fC (.int 1)))))
  (zS (zAF 6 (fOp kIx (zp (zD (toD (fC (.str "A"))) (zD (toD (fC (.str "a1"))) (zD (toD (fC (.str "abcdefghi"))) (zD (toD (fC (.str "-"))) (zD (toD (fC (.str "a.b"))) (zD (toD (fC (.str "freshly"))) (zD (toD (fC (.str "more"))) (zD (toD (fC (.str "a"))) zH))))))))) (zW zP (zD (toD (zC 0)) (zD (toD (fC (.int 8))) zH)))))
  (zS (zAF 7 (zW zP (zD (toD (zC 0)) (zD (toD (fC (.int 9))) zH))))
  (zS (sIf (tst (fOp kLt (zC 7) (fC (.int 3)))) (zAF 3 (fOp zAn (fOp zAn (fSl (zC 3) zw (zu (zC 4))) (fOp kIx (zp (zD (toD (zp (zD (toD (zC 6)) zH))) (zD (toD (zC 5)) (zD (toD (zp zH)) zH)))) (zC 7))) (fSl (zC 3) (zu (fOp zAR (zC 4) (fC (.int 1)))) zw))) (sIf (tst (fOp kLt (zC 7) (fC (.int 5)))) (zAF 3 (fOp zAn (fOp zAn (fSl (zC 3) zw (zu (zC 4))) (zp (zD (toD (zC 6)) zH))) (fSl (zC 3) (zu (zC 4)) zw))) (sIf (tst (fOp kEq (zC 7) (fC (.int 5)))) (zr (fOp zAn (fSl (zC 1) zw (zu (zC 2))) (fSl (zC 1) (zu (fOp zAR (zC 2) (fC (.int 1)))) zw))) (sIf (tst (fOp kEq (zC 7) (fC (.int 6)))) (zr (fOp zAn (fOp zAn (fSl (zC 1) zw (zu (zC 2))) (zp (zD (toD (fOp kIx (zC 1) (zC 2))) zH))) (fSl (zC 1) (zu (zC 2)) zw))) (sIf (tst (fOp kEq (zC 7) (fC (.int 7)))) (zr (fOp zAn (fOp zAn (fSl (zC 1) zw (zu (zC 2))) (zp (zD (toD (zp zH)) zH))) (fSl (zC 1) (zu (zC 2)) zw))) (zr (fOp zAn (zC 1) (zp (zD (toD (fOp zAn (zp (zD (toD (fC (.str "freshly"))) zH)) (fSl (zC 3) (zu (fC (.int 1))) zw))) zH)))))))))
  (zr (fOp zAn (fOp zAn (fSl (zC 1) zw (zu (zC 2))) (zp (zD (toD (zC 3)) zH))) (fSl (zC 1) (zu (fOp zAR (zC 2) (fC (.int 1)))) zw)))))))))))
noncomputable def zA9:FF:=zCF 8 zCr
def Gw (x:List Nat):Prop:=x ≠ [] /\ x.length <= 9 /\ 32 ∉ x /\ 10 ∉ x
theorem Nm.gw (h:Nm x):Gw x:=⟨h.1,by have:=h.2.1; omega,h.no (by decide),h.no (by decide)⟩
def Bd (m:Nat) (L:List Ws):Prop:=L.length <= 26 + m /\ ∀ w ∈ L,w.length <= 7 + m /\ ∀ x ∈ w,Gw x
def Lin (A:Mem) (n k p:Nat) (L:List Ws):Prop:=p ≠ n /\ p ≠ k /\ ∃ js:List Nat,A[p]? = some (.lst (js.map D.ref)) /\ LnA A js L /\ ∀ j ∈ js,j ≠ n /\ j ≠ k
section
variable {A:Mem}
theorem LnA.take (h:LnA A js L) (t:Nat):LnA A (js.take t) (L.take t):=by
 refine ⟨by rw [zUn,zUn,h.1],fun i j w h1 h2=>?_⟩;rw [List.getElem?_take] at h1 h2;split at h1
 ·rename_i hi;rw [zTZ hi] at h2;exact h.2 i j w h1 h2
 ·cases h1
theorem LnA.drop (h:LnA A js L) (t:Nat):LnA A (js.drop t) (L.drop t):=by
 refine ⟨by rw [zVs,zVs,h.1],fun i j w h1 h2=>?_⟩;rw [List.getElem?_drop] at h1 h2;exact h.2 _ j w h1 h2
theorem LnA.cat {js ks:List Nat} {L K:List Ws} (h:LnA A js L) (h':LnA A ks K):LnA A (js ++ ks) (L ++ K):=by
 refine ⟨by rw [zTa,zTa,h.1,h'.1],fun i j w h1 h2=>?_⟩;by_cases q:i < js.length
 ·rw [zTR q] at h1;rw [zTR (by rw [<- h.1]; exact q)] at h2;exact h.2 i j w h1 h2
 ·rw [zUZ (by omega)] at h1;rw [zUZ (by rw [<- h.1]; omega),<- h.1] at h2;exact h'.2 _ j w h1 h2
theorem LnA.one (h:A[j]? = some (.lst (w.map nS))):LnA A [j] [w]:=by
 refine ⟨rfl,fun i k v h1 h2=>?_⟩;cases i with
 | zero=>cases h1; cases h2; exact h
 | succ i=>simp at h1
theorem LnA.nw (h:LnA A js L) (hj:∀ j ∈ js,j ≠ n /\ j ≠ k) (nw:Nw A B n k):LnA B js L :=
 ⟨h.1,fun i j w h1 h2=>nw.get (h.2 i j w h1 h2) (hj j (zUG h1)).1 (hj j (zUG h1)).2⟩
theorem Lin.nw (h:Lin A n k p L) (nw:Nw A B n k):Lin B n k p L:=by
 obtain ⟨h1,h2,js,e,hL,hj⟩:=h;exact ⟨h1,h2,js,nw.get e h1 h2,hL.nw hj nw,hj⟩
theorem LnA.und (h:LnA A js L):D.unds A.length (js.map D.ref) = true:=by
 refine zBY fun x hx=>?_;obtain ⟨j,hj,rfl⟩:=zTb.mp hx;obtain ⟨i,hi,rfl⟩:=List.getElem_of_mem hj;have:=h.2 i _ _ (zTO hi) (zTO (by rw [<- h.1]; exact hi));exact zUX (zTN.mp this).1
theorem Lin.lay (g:Gen A n k) (h:LnA A js L) (hj:∀ j ∈ js,j ≠ n /\ j ≠ k):Nw A (A ++ [.lst (js.map D.ref)]) n k /\ Lin (A ++ [.lst (js.map D.ref)]) n k A.length L:=by
 obtain ⟨hn,hk⟩:=g.lt;exact ⟨g.lst _ h.und,by omega,by omega,js,zT _ _,h.app _,hj⟩
theorem zCc {n k:Nat} {js ks:List Nat} (h:∀ j ∈ js,j ≠ n /\ j ≠ k) (h':∀ j ∈ ks,j ≠ n /\ j ≠ k):∀ j ∈ js ++ ks,j ≠ n /\ j ≠ k:=fun j hj=>(zTk.mp hj).elim (h j) (h' j)
theorem zBM (h1:j ≠ n) (h2:j ≠ k):∀ i ∈ [j],i ≠ n /\ i ≠ k:=fun i hi=>by rw [zTm.mp hi]; exact ⟨h1,h2⟩
variable {f g:FE} {σ:Sd} {j s:Nat} {xs:List D}
theorem zGD (hf:f σ A = some (.dat (.ref j),A)) (ej:A[j]? = some (.lst xs)) (hg:g σ A = some (.dat (.int i),A)) (hi:i = (s:Nat)):fSl f (zu g) zw σ A = some (.fl (xs.drop s),A):=by
 subst hi;have hc:L3.zC3 xs (some (s:Int)) none = xs.drop s:=by
  rw [zBm (a:=min s xs.length) (b:=xs.length) (by rw [HT.zHc]) (by rw [zBf])];rw [zUv (by rw [zVs]; omega)];by_cases q:s <= xs.length
  ·rw [Nat.min_eq_left q]
  ·rw [Nat.min_eq_right (by omega),List.drop_of_length_le (zTQ _),List.drop_of_length_le (by omega)]
 have:fSl f (zu g) zw σ A = some (.fl (L3.zC3 xs (some (s:Int)) none),A):=by
  unfold fSl zu;rw [hf];dsimp only;rw [hg];show kSl (.dat (.ref j)) (some (s:Int)) none A = _;unfold kSl;dsimp only [zB7];rw [zAa ej]
 rw [this,hc]
theorem zKf (hf:f σ A = some (.dat (.ref j),A)) (ej:A[j]? = some (.lst xs)) (hg:g σ A = some (.dat (.int i),A)) (hi:i = (s:Nat)):fSl f zw (zu g) σ A = some (.fl (xs.take s),A):=by
 subst hi;have hc:L3.zC3 xs none (some (s:Int)) = xs.take s:=by
  rw [zBm (a:=0) (b:=min s xs.length) (by rw [zBf]) (by rw [HT.zHc])];rw [List.drop_zero,Nat.sub_zero];by_cases q:s <= xs.length
  ·rw [Nat.min_eq_left q]
  ·rw [Nat.min_eq_right (by omega),zUv (zTQ _),zUv (by omega)]
 have:fSl f zw (zu g) σ A = some (.fl (L3.zC3 xs none (some (s:Int))),A):=by
  unfold fSl zu zw;rw [hf];dsimp only;rw [hg];show kSl (.dat (.ref j)) none (some (s:Int)) A = _;unfold kSl;dsimp only [zB7];rw [zAa ej]
 rw [this,hc]
theorem zDU (hf:f σ A = some (x,A)) (hg:g σ A = some (y,A)) (hx:zFX A x = some xs) (hy:zFX A y = some ys) (hz:xs.length + ys.length <= 90000):fOp zAn f g σ A = some (.fl (xs ++ ys),A):=zO hf hg (zBL hx hy hz)
theorem zAt (M:Mem) (xs:List D):zFX M (.fl xs) = some xs:=rfl
theorem zO4 (hf:f σ A = some (x,A)) (h:zAV A x = some xs):fB zG8 (zN f zc) σ A = some (.fl xs,A):=by
 unfold fB zN zc; rw [hf]; dsimp only; unfold zG8; dsimp only; rw [h]
end
theorem zBn (h:s.cps.toList = L):s = tx L:=by rw [<- zC6 s,h]
def ODD:List (List Nat):=[[65],[97,49],[97,98,99,100,101,102,103,104,105],[45],[97,46,98],[102,114,101,115,104,108,121],[109,111,114,101],[97]]
theorem zNi:[D.str (Str.ofString "A"),.str (Str.ofString "a1"),.str (Str.ofString "abcdefghi"),.str (Str.ofString "-"),.str (Str.ofString "a.b"),.str (Str.ofString "freshly"),.str (Str.ofString "more"),.str (Str.ofString "a")] = ODD.map nS:=by
 rw [zBn (s:=Str.ofString "A") (L:=[65]) (by decide +kernel),zBn (s:=Str.ofString "a1") (L:=[97,49]) (by decide +kernel),zBn (s:=Str.ofString "abcdefghi") (L:=[97,98,99,100,101,102,103,104,105]) (by decide +kernel),zBn (s:=Str.ofString "-") (L:=[45]) (by decide +kernel),zBn (s:=Str.ofString "a.b") (L:=[97,46,98]) (by decide +kernel),zBn (s:=Str.ofString "freshly") (L:=[102,114,101,115,104,108,121]) (by decide +kernel),zBn (s:=Str.ofString "more") (L:=[109,111,114,101]) (by decide +kernel),zBn (s:=Str.ofString "a") (L:=[97]) (by decide +kernel)];rfl
theorem zJu:∀ x ∈ ODD,Gw x:=by
 intro x hx;unfold ODD at hx;simp only [zTW,zTp,or_false] at hx;rcases hx with rfl | rfl | rfl | rfl | rfl | rfl | rfl | rfl <;> exact ⟨by simp,by decide,by decide,by decide⟩
abbrev FRE:List Nat:=[102,114,101,115,104,108,121]
theorem zOj:Str.ofString "freshly" = tx FRE:=zBn (by decide +kernel)
theorem zSU:Str.ofString "a" = tx [97]:=zBn (by decide +kernel)
theorem Bd.put {L:List Ws} (h:Bd m L) {V:List Ws} (hv:V.length <= 1) (hV:∀ w ∈ V,w.length <= 7 + (m + 1) /\ ∀ x ∈ w,Gw x) (hab:a <= b):Bd (m + 1) (L.take a ++ V ++ L.drop b):=by
 refine ⟨?_,fun w hw=>?_⟩
 ·have:=h.1;rw [zTa,zTa,zUn,zVs]; omega
 ·rcases zTk.mp hw with z | z
  ·rcases zTk.mp z with z | z
   ·have:=h.2 w (List.mem_of_mem_take z); exact ⟨by omega,this.2⟩
   ·exact hV w z
  ·have:=h.2 w (List.mem_of_mem_drop z); exact ⟨by omega,this.2⟩
theorem zKj {w:Ws} (h:w.length <= 7 + m) (hx:∀ x ∈ w,Gw x) {V:Ws} (hv:V.length <= 1) (hV:∀ x ∈ V,Gw x) (hab:a <= b):(w.take a ++ V ++ w.drop b).length <= 7 + (m + 1) /\ ∀ x ∈ w.take a ++ V ++ w.drop b,Gw x:=by
 refine ⟨?_,fun x hx'=>?_⟩
 ·rw [zTa,zTa,zUn,zVs]; omega
 ·rcases zTk.mp hx' with z | z
  ·rcases zTk.mp z with z | z
   ·exact hx x (List.mem_of_mem_take z)
   ·exact hV x z
  ·exact hx x (List.mem_of_mem_drop z)
abbrev spS (n p i a s b:Nat) (o:List Nat) (v:Int):Sd:=[some (.ref n),some (.ref p),some (.int (i:Nat)),some (.ref a),some (.int (s:Nat)),some (.ref b),some (nS o),some (.int v)]
theorem zLt {M:Mem} {n k p m:Nat} {L:List Ws} (h:Gen M n k) (hL:Lin M n k p L) (hb:Bd m L) (hm:m <= 10):Ok (zA9 [.ref n,.ref p] M) fun d B=>∃ q L',d = .ref q /\ Nw M B n k /\ Lin B n k q L' /\ Bd (m + 1) L':=by
 obtain ⟨hn,hk⟩:=h.lt;obtain ⟨hb1,hb2⟩:=hb;unfold zA9;rw [zAg];unfold zCr;show OkS (zS _ _ [some (.ref n),some (.ref p),none,none,none,none,none,none] M) _;have hte:tst (fOp kEq (zC 1) (zp zH)) [some (.ref n),some (.ref p),none,none,none,none,none,none] M = some (L.isEmpty,M):=by
  obtain ⟨_,_,js,ep,hA,_⟩:=hL;refine (zf (zO (k:=kEq) (f:=zC 1) (g:=zp zH) (x:=.dat (.ref p)) rfl (zBI (ds:=[]) rfl (by simp)) (zP2 ep))).trans ?_;rw [zCa];have:=hA.1;cases js with
  | nil=>cases L with
   | nil=>rfl
   | cons _ _=>simp at this
  | cons _ _=>cases L with
   | nil=>simp at this
   | cons _ _=>rfl
 cases hem:L.isEmpty with
 | true=>
  rw [hem] at hte;refine zAe hte ?_;rw [zy];refine zCw.mpr (zq.mpr (zAB.mpr (zF (zBI (zo (d:=nS [97]) (by show some (EV.dat (D.str (Str.ofString "a")),M) = _; rw [zSU])) (by simp)) (zU (zAr.mpr ⟨zk (by simp),zU ?_⟩)))));have nw1:=h.lst [nS [97]] rfl;have e1:(M ++ [MO.lst [nS [97]]])[M.length]? = some (.lst (([[97]]:Ws).map nS)):=zT _ _;obtain ⟨nw2,hL2⟩:=Lin.lay (js:=[M.length]) nw1.gen (LnA.one e1) (zBM (by omega) (by omega));exact ⟨_,_,rfl,nw1.trans nw2,hL2,⟨by simp; omega,fun w hw=>by rw [zTm.mp hw]; exact ⟨by simp; omega,fun x hx=>by rw [zTm.mp hx]; exact zJu [97] (by unfold ODD; simp)⟩⟩⟩
 | false=>
 rw [hem] at hte;refine z0 hte ?_
 have hpos:0 < L.length:=by cases L with
  | nil=>cases hem
  | cons _ _=>simp
 have lenp:∀ {σ:Sd} {A:Mem},zC 1 σ A = some (.dat (.ref p),A) -> Lin A n k p L -> fB zAx (zN (zC 1) zc) σ A = some (.dat (.int (L.length:Nat)),A):=fun {σ A} hf hl=>by
  obtain ⟨_,_,js,ep,hA,_⟩:=hl;have:=zBS hf (za ep);rw [zTT,hA.1] at this; exact this
 have atp:∀ {σ:Sd} {A:Mem} {g:FE} {i:Nat},zC 1 σ A = some (.dat (.ref p),A) -> Lin A n k p L -> g σ A = some (.dat (.int (i:Nat)),A) -> i < L.length -> ∃ j,fOp kIx (zC 1) g σ A = some (.dat (.ref j),A) /\ A[j]? = some (.lst ((L.getD i []).map nS)) /\ j ≠ n /\ j ≠ k:=fun {σ A g i} hf hl hg hi=>by
  obtain ⟨_,_,js,ep,hA,hj⟩:=hl;have e1:js[i]? = some (js.getD i 0):=by rw [zTP,zTO (by rw [hA.1]; exact hi)]; rfl
  exact ⟨js.getD i 0,zO hf hg (zFT (za ep) (zBt (by rw [zTh,e1]; rfl))),hA.2 i _ _ e1 (zHr hi),hj _ (zUG e1)⟩
 rw [zM,zX];refine zj h rfl (lenp rfl hL) (by omega) (by omega) fun i M1 i0 i1 nx1=>?_;obtain ⟨i,rfl⟩:∃ j:Nat,i = j:=⟨i.toNat,by omega⟩;have hi:i < L.length:=by omega
 rw [zK,zR];have hL1:=hL.nw nx1.nw;obtain ⟨wl,wg⟩:=hb2 _ (zUG (zHr hi));generalize hw:L.getD i [] = w at wl wg;show OkS (zS _ _ [some (.ref n),some (.ref p),some (.int (i:Nat)),none,none,none,none,none] M1) _;obtain ⟨j0,ej,ew,_,_⟩:=atp (g:=zC 2) (σ:=[some (.ref n),some (.ref p),some (.int (i:Nat)),none,none,none,none,none]) rfl hL1 rfl hi;rw [hw] at ew;rw [zM,zX];refine zF (zO4 ej (za ew)) (zU ?_);rw [zR];have nw2:=nx1.nw.trans (nx1.gen.lst (w.map nS) (zB9 _));have ea:(M1 ++ [MO.lst (w.map nS)])[M1.length]? = some (.lst (w.map nS)):=zT _ _;have han:M1.length ≠ n /\ M1.length ≠ k:=by rw [nx1.len]; omega
 generalize M1 ++ [MO.lst (w.map nS)] = M2 at nw2 ea;generalize M1.length = a at ea han;show OkS (zS _ _ [some (.ref n),some (.ref p),some (.int (i:Nat)),some (.ref a),none,none,none,none] M2) _;have hla:=zBS (f:=zC 3) (σ:=[some (.ref n),some (.ref p),some (.int (i:Nat)),some (.ref a),none,none,none,none]) (M:=M2) (x:=.dat (.ref a)) rfl (za ea);rw [zTT] at hla;rw [zM,zX];refine zj (m:=(w.length:Nat) + 1) nw2.gen rfl (zO hla (y:=.dat (.int 1)) rfl zBK) (by omega) (by omega) fun s M3 s0 s1 nx3=>?_;obtain ⟨s,rfl⟩:∃ j:Nat,s = j:=⟨s.toNat,by omega⟩;rw [zK,zR];have nw3:=nw2.trans nx3.nw;have ea3:=nx3.nw.get ea han.1 han.2;show OkS (zS _ _ [some (.ref n),some (.ref p),some (.int (i:Nat)),some (.ref a),some (.int (s:Nat)),none,none,none] M3) _;rw [zM,zX];have hop:Ok (fOp kIx (zC 1) (zW zP (zD (toD (zC 0)) (zD (toD (fB zAx (zN (zC 1) zc))) zH))) [some (.ref n),some (.ref p),some (.int (i:Nat)),some (.ref a),some (.int (s:Nat)),none,none,none] M3) fun x M4=>∃ (j u:Nat),x = .dat (.ref j) /\ u < L.length /\ M4[j]? = some (.lst ((L.getD u []).map nS)) /\ Nx M3 M4 n k:=by
  refine zb.mpr (zV.mpr ⟨_,rfl,zj nw3.gen rfl (lenp rfl (hL.nw nw3)) (by omega) (by omega) fun u M4 u0 u1 nx4=>?_⟩);obtain ⟨u,rfl⟩:∃ j:Nat,u = j:=⟨u.toNat,by omega⟩;obtain ⟨j,e1,e2,_,_⟩:=atp (g:=fC (.int (u:Nat))) (σ:=[some (.ref n),some (.ref p)]) rfl (hL.nw (nw3.trans nx4.nw)) rfl (show u < L.length by omega);have e1:kIx (.dat (.ref p)) (.dat (.int (u:Nat))) M4 = some (.dat (.ref j),M4):=e1;exact zF e1 ⟨j,u,rfl,by omega,e2,nx4⟩
 obtain ⟨x,M4,eo,j,u,rfl,hu,ej4,nx4⟩:=hop;have hsl:fSl (fOp kIx (zC 1) (zW zP (zD (toD (zC 0)) (zD (toD (fB zAx (zN (zC 1) zc))) zH)))) zw (zu (fC (.int 1))) [some (.ref n),some (.ref p),some (.int (i:Nat)),some (.ref a),some (.int (s:Nat)),none,none,none] M3 = some (.fl (((L.getD u []).take 1).map nS),M4):=by
  have:=zKf (f:=fun _ M=>some (.dat (.ref j),M)) (g:=fC (.int 1)) (σ:=[]) (s:=1) rfl ej4 (i:=1) rfl rfl;rw [<- List.map_take] at this;rw [<- this];unfold fSl;rw [eo];rfl
 refine zF hsl (zU ?_);rw [zR];have nw4:=nw3.trans nx4.nw;have ea4:=nx4.nw.get ea3 han.1 han.2;have og:∀ x ∈ (L.getD u []).take 1,Gw x:=fun x hx=>(hb2 _ (zUG (zHr hu))).2 x (List.mem_of_mem_take hx);have ol:((L.getD u []).take 1).length <= 1:=by rw [zUn]; omega
 generalize (L.getD u []).take 1 = ot at og ol;have nwb:=nw4.gen.lst (ot.map nS) (zB9 _);have eb:(M4 ++ [MO.lst (ot.map nS)])[M4.length]? = some (.lst (ot.map nS)):=zT _ _;have ea5:=zY ea4 [MO.lst (ot.map nS)];have hbn:M4.length ≠ n /\ M4.length ≠ k:=by have:=nw4.len; omega
 have nw5:=nw4.trans nwb;generalize M4 ++ [MO.lst (ot.map nS)] = M5 at nw5 eb ea5;generalize M4.length = b at eb hbn;show OkS (zS _ _ [some (.ref n),some (.ref p),some (.int (i:Nat)),some (.ref a),some (.int (s:Nat)),some (.ref b),none,none] M5) _;rw [zM,zX];have hodd:zp (zD (toD (fC (.str "A"))) (zD (toD (fC (.str "a1"))) (zD (toD (fC (.str "abcdefghi"))) (zD (toD (fC (.str "-"))) (zD (toD (fC (.str "a.b"))) (zD (toD (fC (.str "freshly"))) (zD (toD (fC (.str "more"))) (zD (toD (fC (.str "a"))) zH)))))))) [some (.ref n),some (.ref p),some (.int (i:Nat)),some (.ref a),some (.int (s:Nat)),some (.ref b),none,none] M5 = some (.fl (ODD.map nS),M5):=by
  rw [<- zNi];exact zBI (zAU rfl (zAU rfl (zAU rfl (zAU rfl (zAU rfl (zAU rfl (zAU rfl (zo rfl)))))))) (by simp)
 refine zb.mpr (zF hodd (zj nw5.gen rfl rfl (by decide) (by decide) fun c M6 c0 c1 nx6=>?_));obtain ⟨c,rfl⟩:∃ j:Nat,c = j:=⟨c.toNat,by omega⟩;have hc8:c < ODD.length:=by show c < 8; omega
 have ec:ODD[c]? = some (ODD.getD c []):=by rw [zTP,zTO hc8]; rfl
 have gO:=zJu _ (zUG ec);refine zF (zFT zBH (zBt (by rw [zTh,ec]; rfl))) ?_;generalize ODD.getD c [] = o at gO;rw [zK,zR];have nw6:=nw5.trans nx6.nw;have ea6:=nx6.nw.get ea5 han.1 han.2;have eb6:=nx6.nw.get eb hbn.1 hbn.2;show OkS (zS _ _ [some (.ref n),some (.ref p),some (.int (i:Nat)),some (.ref a),some (.int (s:Nat)),some (.ref b),some (nS o),none] M6) _;rw [zM,zX];refine zj nw6.gen rfl rfl (by decide) (by decide) fun v M7 v0 v1 nx7=>?_;rw [zK,zR];have nw:=nw6.trans nx7.nw;have ea:=nx7.nw.get ea6 han.1 han.2;have eb:=nx7.nw.get eb6 hbn.1 hbn.2;have hLn:=hL.nw nw;clear hL hL1 nw2 nw3 nw4 nwb nw5 nw6 nx1 nx3 nx4 nx6 nx7 ea3 ea4 ea5 ea6 eb6;generalize M7 = A at nw ea eb hLn;have gA:=nw.gen;have hlen:=nw.len;obtain ⟨_,_,js,ep,hA,hj⟩:=id hLn;show OkS (zS _ _ (spS n p i a s b o v) A) _;have fin:∀ {B:Mem} {z:Nat} {V:List Ws} {y:EV} {ks:List Nat},Nw A B n k -> zFX B y = some (ks.map D.ref) -> LnA B ks V -> (∀ j ∈ ks,j ≠ n /\ j ≠ k) -> V.length <= 1 -> (∀ w ∈ V,w.length <= 7 + (m + 1) /\ ∀ x ∈ w,Gw x) -> i <= z -> zFa (fun d B'=>∃ q L',d = .ref q /\ Nw M B' n k /\ Lin B' n k q L' /\ Bd (m + 1) L') (.fl ((js.take i).map D.ref ++ ks.map D.ref ++ (js.drop z).map D.ref)) B:=fun {B z V y ks} nwB hy hK hk' hv hV hz=>by
  refine zU ?_;have hAB:=hA.nw hj nwB;rw [<- zUH,<- zUH];obtain ⟨nwl,hl⟩:=Lin.lay nwB.gen (((hAB.take i).cat hK).cat (hAB.drop z)) (zCc (zCc (fun j hj'=>hj j (List.mem_of_mem_take hj')) hk') fun j hj'=>hj j (List.mem_of_mem_drop hj'));exact ⟨_,_,rfl,(nw.trans nwB).trans nwl,hl,Bd.put ⟨hb1,hb2⟩ hv hV hz⟩
 have hjl:js.length <= 100:=by rw [hA.1]; omega
 have last:∀ {B:Mem} {w':Ws} {c:Nat},Nw A B n k -> B[c]? = some (.lst (w'.map nS)) -> c ≠ n -> c ≠ k -> w'.length <= 7 + (m + 1) -> (∀ x ∈ w',Gw x) -> OkS (zr (fOp zAn (fOp zAn (fSl (zC 1) zw (zu (zC 2))) (zp (zD (toD (zC 3)) zH))) (fSl (zC 1) (zu (fOp zAR (zC 2) (fC (.int 1)))) zw)) (spS n p i c s b o v) B) (fun o _ M1=>match o with | .ret d=>(∃ q L',d = .ref q /\ Nw M M1 n k /\ Lin M1 n k q L' /\ Bd (m + 1) L') | .nx=>(∃ q L',D.non = .ref q /\ Nw M M1 n k /\ Lin M1 n k q L' /\ Bd (m + 1) L') | _=>False):=fun {B w' c} nwB ec c1 c2 wl' wg'=>by
  have epB:=nwB.get ep hLn.1 hLn.2.1;rw [zy];have e1:=zKf (f:=zC 1) (g:=zC 2) (σ:=spS n p i c s b o v) (s:=i) rfl epB rfl rfl;have e2:=zGD (f:=zC 1) (g:=fOp zAR (zC 2) (fC (.int 1))) (σ:=spS n p i c s b o v) (s:=i + 1) (i:=(i:Int) + 1) rfl epB (zO (x:=.dat (.int (i:Nat))) (y:=.dat (.int 1)) rfl rfl zBK) (by omega);have e3:zp (zD (toD (zC 3)) zH) (spS n p i c s b o v) B = some (.fl (([c]:List Nat).map D.ref),B):=zBI (zo (d:=.ref c) rfl) (by simp);rw [<- List.map_take] at e1;rw [<- List.map_drop] at e2;have e4:=zDU (zDU e1 e3 (zAt _ _) (zAt _ _) (by simp [zUn]; omega)) e2 (zAt _ _) (zAt _ _) (by simp [zUn,zVs]; omega);refine zF e4 (fin (y:=.fl (([c]:List Nat).map D.ref)) nwB rfl (LnA.one ec) (zBM c1 c2) (by simp) (fun w hw=>by rw [zTm.mp hw]; exact ⟨wl',wg'⟩) (zU7 _))
 have hwl:w.length <= 100:=by omega
 have f1:=zKf (f:=zC 3) (g:=zC 4) (σ:=spS n p i a s b o v) (s:=s) rfl ea rfl rfl;rw [<- List.map_take] at f1;by_cases q1:v < 3
 ·refine zAe ((zf (zO (x:=.dat (.int v)) (y:=.dat (.int 3)) rfl rfl (zJ (zJ2.mpr ⟨rfl,rfl⟩)))).trans (by rw [zUX q1])) ?_;rw [zX];refine zb.mpr (zb.mpr (zF f1 ?_));have hX:∃ (r:Nat) (V:Ws),fOp kIx (zp (zD (toD (zp (zD (toD (zC 6)) zH))) (zD (toD (zC 5)) (zD (toD (zp zH)) zH)))) (zC 7) (spS n p i a s b o v) A = some (.dat (.ref r),A ++ [MO.lst [nS o]] ++ [MO.lst []]) /\ (A ++ [MO.lst [nS o]] ++ [MO.lst []])[r]? = some (.lst (V.map nS)) /\ V.length <= 1 /\ ∀ x ∈ V,Gw x:=by
   have hl:zp (zD (toD (zp (zD (toD (zC 6)) zH))) (zD (toD (zC 5)) (zD (toD (zp zH)) zH))) (spS n p i a s b o v) A = some (.fl [.ref A.length,.ref b,.ref (A ++ [MO.lst [nS o]]).length],A ++ [MO.lst [nS o]] ++ [MO.lst []]):=by
    refine zJ (zCw.mpr (zq.mpr (zAB.mpr (zF (zBI (zo (d:=nS o) rfl) (by simp)) (zU (zq.mpr (zAB.mpr (zV.mpr ⟨.ref b,rfl,zK.mpr (zq.mpr (zAB.mpr (zF (zBI (ds:=[]) rfl (by simp)) (zU (zAr.mpr ⟨zk (by simp),rfl,rfl⟩)))))⟩))))))))
   have gt:∀ (z:Nat) (r:Nat),[D.ref A.length,.ref b,.ref (A ++ [MO.lst [nS o]]).length][z]? = some (.ref r) -> v = (z:Int) -> fOp kIx (zp (zD (toD (zp (zD (toD (zC 6)) zH))) (zD (toD (zC 5)) (zD (toD (zp zH)) zH)))) (zC 7) (spS n p i a s b o v) A = some (.dat (.ref r),A ++ [MO.lst [nS o]] ++ [MO.lst []]):=fun z r hz hv=>by
    unfold fOp;rw [hl];subst hv;exact zFT zBH (zBt hz)
   rcases (show v = 0 \/ v = 1 \/ v = 2 by omega) with q | q | q
   ·exact ⟨A.length,[o],gt 0 _ rfl q,zY (zT A (MO.lst [nS o])) _,by simp,fun x hx=>by rw [zTm.mp hx]; exact gO⟩
   ·exact ⟨b,ot,gt 1 _ rfl q,zY (zY eb _) _,ol,og⟩
   ·exact ⟨_,[],gt 2 _ rfl q,zT _ (MO.lst []),by simp,fun x hx=>by cases hx⟩
  obtain ⟨r,V,eX,er,hV,hVg⟩:=hX;have nwA:=(gA.lst [nS o] rfl).trans ((gA.lst [nS o] rfl).gen.lst [] rfl);have eaA:=zY (zY ea [MO.lst [nS o]]) [MO.lst []];generalize A ++ [MO.lst [nS o]] ++ [MO.lst []] = B at eX er nwA eaA;refine zF eX (zF (zBL (zAt _ _) (mlR er) (by simp [zUn]; omega)) ?_);have f2:=zGD (f:=zC 3) (g:=fOp zAR (zC 4) (fC (.int 1))) (σ:=spS n p i a s b o v) (s:=s + 1) (i:=(s:Int) + 1) rfl eaA (zO (x:=.dat (.int (s:Nat))) (y:=.dat (.int 1)) rfl rfl zBK) (by omega);rw [<- List.map_drop] at f2;refine zF f2 (zF (zBL (zAt _ _) (zAt _ _) (by simp [zUn,zVs]; omega)) (zU ?_));rw [<- zUH,<- zUH,zR];obtain ⟨r1,r2⟩:=zKj wl wg hV hVg (zU7 s);have hB:=nwA.len;exact last (nwA.trans (nwA.gen.lst _ (zB9 _))) (zT _ _) (by omega) (by omega) r1 r2
 refine zM.mpr (zAI.mpr (zF ((zf (zO (x:=.dat (.int v)) (y:=.dat (.int 3)) rfl rfl (zJ (zJ2.mpr ⟨rfl,rfl⟩)))).trans (by rw [zTt q1])) ?_));rw [zTc (by decide)];by_cases q2:v < 5
 ·refine zAI.mpr (zF ((zf (zO (x:=.dat (.int v)) (y:=.dat (.int 5)) rfl rfl (zJ (zJ2.mpr ⟨rfl,rfl⟩)))).trans (by rw [zUX q2])) ?_);rw [zTZ rfl,zX];have f2:=zGD (f:=zC 3) (g:=zC 4) (σ:=spS n p i a s b o v) (s:=s) rfl ea rfl rfl;rw [<- List.map_drop] at f2;have f3:zp (zD (toD (zC 6)) zH) (spS n p i a s b o v) A = some (.fl (([o]:Ws).map nS),A):=zBI (zo (d:=nS o) rfl) (by simp);refine zF (zDU (zDU f1 f3 (zAt _ _) (zAt _ _) (by simp [zUn]; omega)) f2 (zAt _ _) (zAt _ _) (by simp [zUn,zVs]; omega)) (zU ?_);rw [<- zUH,<- zUH,zR];obtain ⟨r1,r2⟩:=zKj (V:=[o]) wl wg (by simp) (fun x hx=>by rw [zTm.mp hx]; exact gO) (zTQ s);exact last (gA.lst _ (zB9 _)) (zT _ _) (by omega) (by omega) r1 r2
 refine zAI.mpr (zF ((zf (zO (x:=.dat (.int v)) (y:=.dat (.int 5)) rfl rfl (zJ (zJ2.mpr ⟨rfl,rfl⟩)))).trans (by rw [zTt q2])) ?_);rw [zTc (by decide)];have l1:=zKf (f:=zC 1) (g:=zC 2) (σ:=spS n p i a s b o v) (s:=i) rfl ep rfl rfl;rw [<- List.map_take] at l1;by_cases q3:v = 5
 ·refine zAI.mpr (zF ((zf (zO (x:=.dat (.int v)) (y:=.dat (.int 5)) rfl rfl eqE)).trans (by rw [zUX q3])) ?_);rw [zTZ rfl,zy];have l2:=zGD (f:=zC 1) (g:=fOp zAR (zC 2) (fC (.int 1))) (σ:=spS n p i a s b o v) (s:=i + 1) (i:=(i:Int) + 1) rfl ep (zO (x:=.dat (.int (i:Nat))) (y:=.dat (.int 1)) rfl rfl zBK) (by omega);rw [<- List.map_drop] at l2;refine zF (zDU l1 l2 (zAt _ _) (zAt _ _) (by simp [zUn,zVs]; omega)) ?_;have:=fin (y:=.fl []) (ks:=[]) (V:=[]) (z:=i + 1) (.refl gA) rfl ⟨rfl,fun i j w h=>by simp at h⟩ (fun j hj=>by cases hj) (by simp) (fun w hw=>by cases hw) (zU7 _);rw [List.map_nil,zT9] at this;exact this
 refine zAI.mpr (zF ((zf (zO (x:=.dat (.int v)) (y:=.dat (.int 5)) rfl rfl eqE)).trans (by rw [zTt q3])) ?_);rw [zTc (by decide)];have l2:=zGD (f:=zC 1) (g:=zC 2) (σ:=spS n p i a s b o v) (s:=i) rfl ep rfl rfl;rw [<- List.map_drop] at l2;by_cases q4:v = 6
 ·refine zAI.mpr (zF ((zf (zO (x:=.dat (.int v)) (y:=.dat (.int 6)) rfl rfl eqE)).trans (by rw [zUX q4])) ?_);rw [zTZ rfl,zy];obtain ⟨j,e1,e2,j1,j2⟩:=atp (g:=zC 2) (σ:=spS n p i a s b o v) rfl hLn rfl hi;rw [hw] at e2;have l3:zp (zD (toD (fOp kIx (zC 1) (zC 2))) zH) (spS n p i a s b o v) A = some (.fl (([j]:List Nat).map D.ref),A):=zBI (zo e1) (by simp);refine zF (zDU (zDU l1 l3 (zAt _ _) (zAt _ _) (by simp [zUn]; omega)) l2 (zAt _ _) (zAt _ _) (by simp [zUn,zVs]; omega)) ?_;exact fin (y:=.fl (([j]:List Nat).map D.ref)) (.refl gA) rfl (LnA.one e2) (zBM j1 j2) (by simp) (fun w' hw'=>by rw [zTm.mp hw']; exact ⟨by omega,wg⟩) (zTQ _)
 refine zAI.mpr (zF ((zf (zO (x:=.dat (.int v)) (y:=.dat (.int 6)) rfl rfl eqE)).trans (by rw [zTt q4])) ?_);rw [zTc (by decide)];by_cases q5:v = 7
 ·refine zAI.mpr (zF ((zf (zO (x:=.dat (.int v)) (y:=.dat (.int 7)) rfl rfl eqE)).trans (by rw [zUX q5])) ?_);rw [zTZ rfl,zy];have nwE:=gA.lst [] rfl;have l3:zp (zD (toD (zp zH)) zH) (spS n p i a s b o v) A = some (.fl (([A.length]:List Nat).map D.ref),A ++ [MO.lst []]):=zJ (zCw.mpr (zq.mpr (zAB.mpr (zF (zBI (ds:=[]) rfl (by simp)) (zU (zAr.mpr ⟨zk (by simp),rfl,rfl⟩))))));have eE:(A ++ [MO.lst []])[A.length]? = some (.lst (([]:Ws).map nS)):=zT _ _;refine zb.mpr (zb.mpr (zF l1 (zF l3 (zF (zBL (zAt _ _) (zAt _ _) (by simp [zUn]; omega)) ?_))));have l4:=zGD (f:=zC 1) (g:=zC 2) (σ:=spS n p i a s b o v) (s:=i) rfl (zY ep [MO.lst []]) rfl rfl;rw [<- List.map_drop] at l4;refine zF l4 (zF (zBL (zAt _ _) (zAt _ _) (by simp [zUn,zVs]; omega)) ?_);exact fin (y:=.fl (([A.length]:List Nat).map D.ref)) nwE rfl (LnA.one eE) (zBM (by omega) (by omega)) (by simp) (fun w' hw'=>by rw [zTm.mp hw']; exact ⟨by simp,fun x hx=>by cases hx⟩) (zTQ _)
 refine zAI.mpr (zF ((zf (zO (x:=.dat (.int v)) (y:=.dat (.int 7)) rfl rfl eqE)).trans (by rw [zTt q5])) ?_);rw [zTc (by decide),zy];have f2:=zGD (f:=zC 3) (g:=fC (.int 1)) (σ:=spS n p i a s b o v) (s:=1) (i:=1) rfl ea rfl rfl;rw [<- List.map_drop] at f2;have f3:zp (zD (toD (fC (.str (Str.ofString "freshly")))) zH) (spS n p i a s b o v) A = some (.fl (([FRE]:Ws).map nS),A):=zBI (zo (d:=nS FRE) (by show some (EV.dat (D.str (Str.ofString "freshly")),A) = _; rw [zOj])) (by simp);have f4:=zDU f3 f2 (zAt _ _) (zAt _ _) (by simp [zVs]; omega);rw [<- zUH] at f4;have l3:zp (zD (toD (fOp zAn (zp (zD (toD (fC (.str (Str.ofString "freshly")))) zH)) (fSl (zC 3) (zu (fC (.int 1))) zw))) zH) (spS n p i a s b o v) A = some (.fl (([A.length]:List Nat).map D.ref),A ++ [MO.lst (([FRE] ++ w.drop 1).map nS)]):=zJ (zCw.mpr (zq.mpr (zAB.mpr (zF f4 (zU (zAr.mpr ⟨zk (by simp),rfl,rfl⟩))))));have nwE:=gA.lst (([FRE] ++ w.drop 1).map nS) (zB9 _);have eE:(A ++ [MO.lst (([FRE] ++ w.drop 1).map nS)])[A.length]? = some (.lst (([FRE] ++ w.drop 1).map nS)):=zT _ _;have epE:=zY ep [MO.lst (([FRE] ++ w.drop 1).map nS)];refine zb.mpr (zV.mpr ⟨.ref p,rfl,zF l3 (zF (zBL (mlR epE) (zAt _ _) (by simp; omega)) (zU ?_))⟩);generalize A ++ [MO.lst (([FRE] ++ w.drop 1).map nS)] = B at nwE eE;rw [<- zUH];obtain ⟨nwl,hl⟩:=Lin.lay nwE.gen ((hA.nw hj nwE).cat (LnA.one eE)) (zCc hj (zBM (by omega) (by omega)));refine ⟨_,_,rfl,(nw.trans nwE).trans nwl,hl,⟨by rw [zTa,List.length_singleton]; omega,fun w' hw'=>?_⟩⟩;rcases zTk.mp hw' with z | z
 ·have:=hb2 w' z; exact ⟨by omega,this.2⟩
 ·rw [zTm.mp z];refine ⟨by simp; omega,fun x hx=>?_⟩;rcases zTk.mp hx with z | z
  ·rw [zTm.mp z]; exact zJu _ (by unfold ODD; simp)
  ·exact wg x (List.mem_of_mem_drop z)
open Lac (zm zU zT zBN zBK zY Ex zBI zBL mlR zBk zBo zBR zAk zAs zAd zC1 zBm zBf zDI eqE)
noncomputable def zNK:FS:=(zS (zAF 1 (zW zBW (zD (toD (zC 0)) zH)))
  (zS (zFY (zBl (zD (toD (fOp zAR (fC (.int 2)) (fB zAx (zN (fSl (zC 0) zw (zu (fC (.int 12)))) zc)))) zH)) (gN 2) (zS (zAF 3 (zW zA4 (zD (toD (zC 1)) (zD (toD (fC (.int 26))) (zD (toD (fC (.int 6))) zH)))))
  (zS (zAF 4 (zW zBc (zD (toD (zC 1)) (zD (toD (fB zAx (zN (zC 3) zc))) zH))))
  (zS (zAF 5 (zv [6,8] (zJ8 (zD (toD (zC 4)) (zD (toD (zC 3)) zH))) (zBr 6 8) zAH (fOp zAn (zp (zD (toD (zC 6)) zH)) (zv [7] (zAO (zC 8)) (gN 7) zAH (fOp kIx (zC 4) (zC 7))))))
  (zS (sIf (tst (fOp kEq (zW zP (zD (toD (zC 1)) (zD (toD (fC (.int 16))) zH))) (fC (.int 0)))) (zAF 5 (zv [9] (zBl (zD (toD (zW zP (zD (toD (zC 1)) (zD (toD (fC (.int 4))) zH)))) zH)) (gN 9) zAH (zp zH))) zAw)
  (zS (zFY (zBl (zD (toD (zW zP (zD (toD (zC 1)) (zD (toD (fC (.int 4))) zH)))) zH)) (gN 9) (zAF 5 (zW zA9 (zD (toD (zC 1)) (zD (toD (zC 5)) zH)))))
  (zS (zAF 10 (fOp zD1 (fC (.str " ")) (fOp zAR (fC (.int 1)) (zW zP (zD (toD (zC 1)) (zD (toD (fC (.int 3))) zH))))))
  (zS (zAF 11 (zEd (fC (.str "\n")) (zN (zv [12] (zAO (zC 5)) (gN 12) zAH (zEd (zC 10) (zN (zC 12) zc))) zc)))
  (zS (zAF 13 (zW zDf (zD (toD (zC 5)) zH)))
  (zS (sIf (zBC (tst (zW zAy (zD (toD (zW zAC (zD (toD (zC 11)) zH))) (zD (toD (zC 13)) zH))))) (zr (fC (.bl false))) zAw)
  (sIf (zBs (tst (fOp (kIs false) (zC 13) (fC .non))) (zBC (tst (zW zAy (zD (toD (zW (zCe (fPl zAN)) (zD (toD (zC 11)) zH))) (zD (toD (zW zB1 (zD (toD (zC 5)) zH))) zH)))))) (zr (fC (.bl false))) zAw)))))))))))
  (zr (zEy (zW zAy (zD (toD (zW zAC (zD (toD (fC (.str ""))) zH))) (zD (toD (zDc (zD (toD (fC (.int 1))) (zD (toD (fC (.str "none"))) zH)))) zH))) (zW zAy (zD (toD (zW zAC (zD (toD (fC (.str "\n  \n"))) zH))) (zD (toD (zDc (zD (toD (fC (.int 3))) (zD (toD (fC (.str "none"))) zH)))) zH)))))))
noncomputable def zFU:FF:=zCF 14 zNK
theorem zPs (hf:f σ M = some (.dat (nS sep),M)) (hg:g σ M = some (x,M)) (hx:zA3 M x = some (ys.map nS)) (hy:∀ y ∈ ys,y.length <= 1000) (hn:ys.length <= 100) (hs:sep.length <= 100):zEd f (zN g zc) σ M = some (.dat (nS (jnL sep ys)),M) :=
 zJ (zOu hf (zBE.mpr (zF hg (zBw.mpr ⟨x,ys,rfl,hx,hy,hn,hs,rfl,rfl⟩))))
theorem nlC:fC (.str (Str.ofString "\n")) σ M = some (.dat (nS [10]),M):=by rw [zJ9]; rfl
def rwW (zA:List (List Int)) (NN:List (List Nat)) (r:Nat):List (List Nat):=NN.getD r [] :: (zA.getD r []).map fun g=>NN.getD g.toNat []
section
variable {zA:List (List Int)} {l:Nat} {NN:List (List Nat)}
theorem zRw (m:IsM zA l) (hl6:l <= 6) (n:Nms NN) (hl:NN.length = zA.length) (hr:r < zA.length):(rwW zA NN r).length <= 7 /\ ∀ x ∈ rwW zA NN r,Gw x:=by
 have h1:=(m.get (h:=(r:Nat)) (by omega) (by omega)).1;rw [zV9] at h1;exact ⟨by unfold rwW; rw [List.length_cons,zTT]; omega,fun x hx=>Nm.gw (n.ok x (zLM m hl hr x hx))⟩
theorem zRe (m:IsM zA l) (hl6:l <= 6) (hl:NN.length = zA.length) (hr:r < zA.length) (e1:f1 σ A = some (.dat (nS (NN.getD r [])),A)) (e2:f2 σ A = some (.dat (tI (zA.getD r [])),A)) (e3:∀ g:Int,∃ σ1,gN v (.int g) (zJB [v] σ) = some σ1 /\ f3 σ1 A = some (.dat (.tup (NN.map nS)),A) /\ zC v σ1 A = some (.dat (.int g),A)) :
  fOp zAn (zp (zD (toD f1) zH)) (zv [v] (zAO f2) (gN v) zAH (fOp kIx f3 (zC v))) σ A = some (.fl ((rwW zA NN r).map nS),A):=by
 have h1:=m.get (h:=(r:Nat)) (by omega) (by omega);rw [zV9] at h1;have hc:=zAl (own:=[v]) (fi:=zAO f2) (g:=gN v) (te:=fOp kIx f3 (zC v)) (σ:=σ) (M:=A) (gd:=none) (zA.getD r []) D.int (fun g=>nS (NN.getD g.toNat [])) (zOq e2) trivial (by omega) fun g hg=>by
  obtain ⟨σ1,q1,q2,q3⟩:=e3 g;obtain ⟨g0,g1⟩:=h1.2 g hg;refine ⟨σ1,q1,zO q2 q3 (zFT zDh ?_)⟩;have hlt:g.toNat < NN.length:=by omega
  have:=zBt (xs:=NN.map nS) (j:=g.toNat) (v:=nS (NN.getD g.toNat [])) (by rw [zTh,zTP,zTO hlt]; rfl);rw [show ((g.toNat:Nat):Int) = g by omega] at this;exact this
 refine (zO (zBI (zo e1) (by simp)) hc (zBL (xs:=[nS (NN.getD r [])]) rfl rfl (by rw [zTT,List.length_singleton]; omega))).trans ?_;unfold rwW;rw [zTd,zTi]; rfl
end
def zHU (g:List Nat) (L:List Ws):List (List Nat):=if L = [] then [[]] else L.map (jnL g)
theorem zRk (hg:g <= 2) (hm:m <= 3) (hb:Bd m L):zHU (List.replicate (g + 1) 32) L ≠ [] /\ (∀ r ∈ zHU (List.replicate (g + 1) 32) L,10 ∉ r) /\ (jnL [10] (zHU (List.replicate (g + 1) 32) L)).length <= 80000 /\ jnL [10] (zHU (List.replicate (g + 1) 32) L) = jnL [10] (L.map (jnL (List.replicate (g + 1) 32)))
  /\ zBD ((zHU (List.replicate (g + 1) 32) L).map tok) = zBD L /\ zQ ((zHU (List.replicate (g + 1) 32) L).map tok) (zHU (List.replicate (g + 1) 32) L).length = zQ L L.length:=by
 unfold zHU;by_cases h:L = []
 ·subst h;rw [zTZ rfl];exact ⟨by simp,fun r hr=>by rw [zTm.mp hr]; simp,by simp [jnL],rfl,rfl,rfl⟩
 ·rw [zTc h];have ht:(L.map (jnL (List.replicate (g + 1) 32))).map tok = L:=by
   rw [zTi];refine (List.map_congr_left fun w hw=>?_).trans (List.map_id _);have:=zMJ g 0 (ws:=w) fun x hx=>⟨((hb.2 w hw).2 x hx).1,((hb.2 w hw).2 x hx).2.2.1⟩;simpa using this
  refine ⟨by simpa using h,fun r hr=>?_,?_,rfl,by rw [ht],by rw [ht,zTT]⟩
  ·obtain ⟨w,hw,rfl⟩:=zTb.mp hr;exact zP4 (fun z=>by have:=(List.mem_replicate.mp z).2; omega) fun x hx=>((hb.2 w hw).2 x hx).2.2.2
  ·have h1:=zHH [10] (B:=120) (ps:=L.map (jnL (List.replicate (g + 1) 32))) fun y hy=>by
    obtain ⟨w,hw,rfl⟩:=zTb.mp hy;have h2:=zHH (List.replicate (g + 1) 32) (B:=9) (ps:=w) fun x hx=>((hb.2 w hw).2 x hx).2.1;rw [List.length_replicate] at h2;have h3:w.length * (9 + (g + 1)) <= 10 * 12:=Nat.mul_le_mul (by have:=(hb.2 w hw).1; omega) (by omega);omega
   have h2:(L.map (jnL (List.replicate (g + 1) 32))).length * (120 + [10].length) <= 29 * 121:=Nat.mul_le_mul (by rw [zTT]; have:=hb.1; omega) (by simp);omega
theorem zRd (hm:m <= 3) (hb:Bd m L):Szl L:=⟨by have:=hb.1; omega,fun w hw=>⟨by have:=(hb.2 w hw).1; omega,fun x hx=>by have:=((hb.2 w hw).2 x hx).2.1; omega⟩⟩
theorem zJd (x:Option (Nat × Str)):Pl 1 (zD7 x):=by
 cases x with
 | none=>exact .inl rfl
 | some x=>
  obtain ⟨p,s⟩:=x;refine Pl.tup (by simp) fun y hy=>?_;rcases zTW.mp hy with z | z
  ·rw [z]; exact rfl
  ·rw [zTm.mp z]; exact rfl
theorem zO6 (hs:Szw zA):Pl 3 (zEe zA):=by
 have hz:=hs.1;refine Pl.tup (by simp) fun x hx=>?_;rcases zTW.mp hx with z | z
 ·rw [z];refine Pl.tup (by rw [zTT]; omega) fun y hy=>?_;obtain ⟨r,hr,rfl⟩:=zTb.mp hy;refine Pl.tup (by rw [zTT,zVs]; have:=(hs.2 r hr).2.1; omega) fun y hy=>?_;obtain ⟨x,_,rfl⟩:=zTb.mp hy;exact rfl
 ·rw [zTm.mp z];refine Pl.tup (by rw [zTT,zTT]; omega) fun y hy=>?_;obtain ⟨w,_,rfl⟩:=zTb.mp hy;exact .inl rfl
abbrev sL (t:Nat) (md nm:D) (y5 y6 y7 y8 y9 y10 y11 y12 y13:Option D):Sd:=[some (.ref 0),some (.ref 2),some (.int (t:Nat)),some md,some nm,y5,y6,y7,y8,y9,y10,y11,y12,y13]
theorem zNs (g:Gen A n k) (m:IsM zA l) (h26:zA.length <= 26) (hl6:l <= 6) (nn:Nms NN) (hl:NN.length = zA.length)
  (q:∀ js B,Nw A B n k -> LnA B js ((List.range zA.length).map (rwW zA NN)) -> (∀ j ∈ js,j ≠ n /\ j ≠ k) -> Q (.fl (js.map D.ref)) B) :
  Ok (zv [6,8] (zJ8 (zD (toD (zC 4)) (zD (toD (zC 3)) zH))) (zBr 6 8) zAH (fOp zAn (zp (zD (toD (zC 6)) zH)) (zv [7] (zAO (zC 8)) (gN 7) zAH (fOp kIx (zC 4) (zC 7)))) (sL t (mD zA) (.tup (NN.map nS)) y5 y6 y7 y8 y9 y10 y11 y12 y13) A) Q:=by
 obtain ⟨hn,hk⟩:=g.lt;have hz:zJ8 (zD (toD (zC 4)) (zD (toD (zC 3)) zH)) (sL t (mD zA) (.tup (NN.map nS)) y5 y6 y7 y8 y9 y10 y11 y12 y13) A = some (((NN.map nS).zip (zA.map tI)).map (fun q=>D.tup [q.1,q.2]),none,A):=by
  unfold zJ8;rw [zAU (d:=.tup (NN.map nS)) rfl (zo (d:=mD zA) rfl)];rfl
 have hlen:(((NN.map nS).zip (zA.map tI)).map (fun q=>D.tup [q.1,q.2])).length = zA.length:=by simp [hl]
 refine zCK.mpr ⟨_,_,_,hz,by rw [hlen]; exact zk (by omega),?_⟩;refine Ok.mono (zGI (I:=fun i acc B=>Nw A B n k /\ ∃ js:List Nat,acc = js.map D.ref /\ LnA B js ((List.range i).map (rwW zA NN)) /\ ∀ j ∈ js,j ≠ n /\ j ≠ k) ?_ ⟨.refl g,[],rfl,⟨rfl,fun i j w h=>by simp at h⟩,fun j hj=>by cases hj⟩) ?_
 ·rintro i d acc B ed ⟨nw,js,rfl,hL,hj⟩;rw [zTh] at ed;obtain ⟨⟨a,b⟩,eab,rfl⟩:=Option.map_eq_some_iff.mp ed;have hi:i < zA.length:=by
   have:=(zTN.mp eab).1;simpa [hl] using this
  have e2:=eab;rw [List.getElem?_zip_eq_some,zTh,zTh,zTO hi,zTO (show i < NN.length by omega)] at e2;obtain ⟨e3,e4⟩:=e2;cases e3;cases e4;have eN:NN.getD i [] = NN[i]'(by omega):=by rw [zTP,zTO (by omega)]; rfl
  have eR:zA.getD i [] = zA[i]:=by rw [zTP,zTO hi]; rfl
  refine ⟨_,rfl,zF (zRe m hl6 hl hi (f1:=zC 6) (f2:=zC 8) (f3:=zC 4) (v:=7) (by rw [eN]; rfl) (by rw [eR]; rfl) fun g=>⟨_,rfl,rfl,rfl⟩) (zU ?_)⟩;have nw1:=nw.gen.lst ((rwW zA NN i).map nS) (zB9 _);have hlB:=nw.len;refine ⟨nw.trans nw1,js ++ [B.length],by rw [zUH]; rfl,?_,zCc hj (zBM (by omega) (by omega))⟩;rw [List.range_succ,zUH];exact (hL.app _).cat (LnA.one (zT _ _))
 ·rintro ys B ⟨nw,js,rfl,hL,hj⟩;rw [hlen] at hL;exact q js B nw hL hj
theorem zMy (g:Gen A n k) (ha:fa σ A = some (.dat (.ref n),A)) (hb:fb σ A = some (.dat (.int 4),A))
  (q:∀ (u:Nat) js B,u <= 3 -> Nw A B n k -> LnA B js (List.replicate u []) -> (∀ j ∈ js,j ≠ n /\ j ≠ k) -> Q (.fl (js.map D.ref)) B) :
  Ok (zv [v] (zBl (zD (toD (zW zP (zD (toD fa) (zD (toD fb) zH)))) zH)) (gN v) zAH (zp zH) σ A) Q:=by
 obtain ⟨hn,hk⟩:=g.lt;obtain ⟨x,A1,ex,u,rfl,u0,u1,nx⟩:=zIx g ha hb (by decide) (by decide);obtain ⟨u,rfl⟩:∃ w:Nat,u = w:=⟨u.toNat,by omega⟩;have hr:=zD6 (zPp ex) u0 (by omega);rw [zV9] at hr;refine zCK.mpr ⟨_,_,_,hr,by rw [zTT,zVM]; exact zk (by omega),?_⟩;refine Ok.mono (zGI (I:=fun i acc B=>Nw A B n k /\ ∃ js:List Nat,acc = js.map D.ref /\ LnA B js (List.replicate i []) /\ ∀ j ∈ js,j ≠ n /\ j ≠ k) ?_ ⟨nx.nw,[],rfl,⟨rfl,fun i j w h=>by simp at h⟩,fun j hj=>by cases hj⟩) ?_
 ·rintro i d acc B ed ⟨nw,js,rfl,hL,hj⟩;refine ⟨_,rfl,zF (zBI (ds:=[]) rfl (by simp)) (zU ?_)⟩;have nw1:=nw.gen.lst [] rfl;have hlB:=nw.len;refine ⟨nw.trans nw1,js ++ [B.length],by rw [zUH]; rfl,?_,zCc hj (zBM (by omega) (by omega))⟩;rw [List.replicate_succ'];exact (hL.app _).cat (LnA.one (zT _ _))
 ·rintro ys B ⟨nw,js,rfl,hL,hj⟩;rw [zTT,zVM] at hL;exact q u js B (by omega) nw hL hj
theorem zFf (hn:n <= 3) (hp:Pl n d) (e1:f1 σ M = some (.dat d,M)) (e2:f2 σ M = some (.dat d,M)):zW zAy (zD (toD f1) (zD (toD f2) zH)) σ M = some (.dat (.bl true),M):=zLT (σ:=σ) (M:=M) (f1:=f1) (f2:=f2) (d:=d) n (by omega) hp e1 e2
theorem zMi (ns:List Int) (h:ns.length <= 63):∃ M',zFU [.ref 0] [.fro (ns.map D.int)] = some (.bl true,M'):=by
 suffices hh:Ok (zFU [.ref 0] [.fro (ns.map D.int)]) fun d _=>d = .bl true by
  obtain ⟨d,M',e,rfl⟩:=hh;exact ⟨M',e⟩
 unfold zFU;rw [zAg];unfold zNK;show OkS (zS _ _ [some (.ref 0),none,none,none,none,none,none,none,none,none,none,none,none,none] _) _;rw [zM,zX];refine zCo.mpr (zF (zo (d:=.ref 0) rfl) (Ok.mono (zNq h) ?_));rintro d M1 ⟨rfl,g1,e0,hl3⟩;rw [zK,zR];show OkS (zS _ _ [some (.ref 0),some (.ref 2),none,none,none,none,none,none,none,none,none,none,none,none] M1) _;rw [zM,zCu];obtain ⟨c,ec,lc⟩:=zRT (σ:=[some (.ref 0),some (.ref 2),none,none,none,none,none,none,none,none,none,none,none,none]) (M:=M1) (j:=0) (i:=12) rfl rfl e0;have elen:=zBS ec zBH;rw [zTT] at elen;refine ⟨_,_,_,zEj (j:=2 + (c.length:Int)) (zO (x:=.dat (.int 2)) rfl elen zBK) (by omega) (by omega),?_⟩;refine zHR (n:=(2 + (c.length:Int)).toNat) (I:=fun t σ A=>(∃ y2 y3 y4 y5 y6 y7 y8 y9 y10 y11 y12 y13,σ = [some (.ref 0),some (.ref 2),y2,y3,y4,y5,y6,y7,y8,y9,y10,y11,y12,y13]) /\ Gen A 2 1) ?_ ?_ _ _ ⟨⟨_,_,_,_,_,_,_,_,_,_,_,_,rfl⟩,g1⟩
 ·rintro t σ A0 ht ⟨⟨y2,y3,y4,y5,y6,y7,y8,y9,y10,y11,y12,y13,rfl⟩,g0⟩;refine ⟨_,rfl,?_⟩;show OkS (zS _ _ [some (.ref 0),some (.ref 2),some (.int (t:Nat)),y3,y4,y5,y6,y7,y8,y9,y10,y11,y12,y13] A0) _;rw [zM,zX];refine zCo.mpr (zF (zAU (d:=.ref 2) rfl (zAU (d:=.int 26) rfl (zo (d:=.int 6) rfl))) (Ok.mono (zJo g0 (by decide) (by decide) (by decide) (by decide)) ?_));rintro d A1 ⟨⟨zA,l,rfl,m,h26,hl6⟩,nx1⟩;have h26:zA.length <= 26:=by omega
  have hl6:l <= 6:=by omega
  have hr0:=m.r0;rw [zK,zR];show OkS (zS _ _ [some (.ref 0),some (.ref 2),some (.int (t:Nat)),some (mD zA),y4,y5,y6,y7,y8,y9,y10,y11,y12,y13] A1) _;rw [zM,zX];refine zCo.mpr (zF (zAU (d:=.ref 2) rfl (zo (zMK rfl))) (Ok.mono (zNI nx1.gen hr0 h26) ?_));rintro d A2 ⟨nx2,NN,rfl,n,hl⟩;have g2:=nx2.gen;rw [zK,zR];show OkS (zS _ _ (sL t (mD zA) (.tup (NN.map nS)) y5 y6 y7 y8 y9 y10 y11 y12 y13) A2) _;rw [zM,zX];refine zNs g2 m h26 hl6 n hl fun js A3 nw3 hK hj=>zU ?_;rw [zR];obtain ⟨nw4,hL⟩:=Lin.lay nw3.gen hK hj;have hb:Bd 0 ((List.range zA.length).map (rwW zA NN)):=⟨by rw [zTT,zVM]; omega,fun w hw=>by
   obtain ⟨r,hr,rfl⟩:=zTb.mp hw;exact zRw m hl6 n hl (zTy.mp hr)⟩
  have g4:=nw4.gen;generalize A3 ++ [MO.lst (js.map D.ref)] = A4 at hL g4;generalize A3.length = p at hL;generalize (List.range zA.length).map (rwW zA NN) = L at hL hb;show OkS (zS _ _ (sL t (mD zA) (.tup (NN.map nS)) (some (.ref p)) y6 y7 y8 y9 y10 y11 y12 y13) A4) _;rw [zM];refine OkS.mono (P:=fun o σ A=>o = .nx /\ ∃ p L,σ = sL t (mD zA) (.tup (NN.map nS)) (some (.ref p)) y6 y7 y8 y9 y10 y11 y12 y13 /\ Gen A 2 1 /\ Lin A 2 1 p L /\ Bd 0 L) ?_ ?_
  ·rw [zAI];refine zBP.mpr (zb.mpr (zj g4 rfl rfl (by decide) (by decide) fun u A5 u0 u1 nx5=>zAL.mpr (zHV.mpr (zAK.mpr ?_))));have hL5:=hL.nw nx5.nw;by_cases q:u = 0
   ·rw [zTZ (zUX q),zX];refine zMy nx5.gen rfl rfl fun w ks A6 hw nw6 hK hk=>zU ?_;obtain ⟨nw7,hL7⟩:=Lin.lay nw6.gen hK hk;exact ⟨rfl,_,_,rfl,nw7.gen,hL7,by rw [List.length_replicate]; omega,fun w hw=>by rw [(List.mem_replicate.mp hw).2]; exact ⟨by simp,fun x hx=>by cases hx⟩⟩
   ·rw [zTc (by rw [zUc]; exact q),zAP];exact ⟨rfl,p,L,rfl,nx5.gen,hL5,hb⟩
  clear hL hb g4;rintro o σ A5 ⟨rfl,p,L,rfl,g5,hL,hb⟩;rw [zR,zM,zCu];obtain ⟨x,A6,ex,v,rfl,v0,v1,nx6⟩:=zIx (m:=4) (fa:=zC 1) (fb:=fC (.int 4)) (σ:=sL t (mD zA) (.tup (NN.map nS)) (some (.ref p)) y6 y7 y8 y9 y10 y11 y12 y13) g5 rfl rfl (by decide) (by decide);obtain ⟨v,rfl⟩:∃ w:Nat,v = w:=⟨v.toNat,by omega⟩;refine ⟨zCB 0 v,none,A6,by rw [zD6 (zPp ex) v0 (by omega),zI7,zV9],?_⟩;refine zHR (n:=v) (I:=fun s σ A=>∃ p L y9,σ = sL t (mD zA) (.tup (NN.map nS)) (some (.ref p)) y6 y7 y8 y9 y10 y11 y12 y13 /\ Gen A 2 1 /\ Lin A 2 1 p L /\ Bd s L) ?_ ?_ _ _ ⟨p,L,_,rfl,nx6.gen,hL.nw nx6.nw,hb⟩
  ·rintro s σ A hs ⟨p,L,y9,rfl,g,hL,hb⟩;refine ⟨_,rfl,?_⟩;show OkS (zAF _ _ (sL t (mD zA) (.tup (NN.map nS)) (some (.ref p)) y6 y7 y8 (some (.int (s:Nat))) y10 y11 y12 y13) A) _;rw [zX];refine zCo.mpr (zF (zAU (d:=.ref 2) rfl (zo (d:=.ref p) rfl)) (Ok.mono (zLt g hL hb (by omega)) ?_));rintro d B ⟨q,L',rfl,nw,hL',hb'⟩;exact ⟨q,L',_,rfl,nw.gen,hL',hb'⟩
  clear hL hb g5 nx6;rintro σ A6 ⟨p,L,y9',rfl,g6,hL,hb⟩;have hv:v <= 3:=by omega
  rw [zR,zM,zX];refine zb.mpr (zAL.mpr (zb.mpr (zAL.mpr (zj g6 rfl rfl (by decide) (by decide) fun g A7 g0 g1 nx7=>zBB.mpr ?_))));obtain ⟨gn,rfl⟩:∃ w:Nat,g = w:=⟨g.toNat,by omega⟩;refine zF (zOx (f:=fC (.str (Str.ofString " "))) (g:=fC (.int (1 + (gn:Nat)))) (σ:=[]) (c:=32) (n:=gn + 1) (by rw [zMX]; rfl) rfl (by omega) (by omega)) ?_;rw [zK,zR];have gA:=nx7.gen;have hLA:=hL.nw nx7.nw;clear hL nx7 g6;show OkS (zS _ _ (sL t (mD zA) (.tup (NN.map nS)) (some (.ref p)) y6 y7 y8 y9' (some (nS (List.replicate (gn + 1) 32))) y11 y12 y13) A7) _;generalize A7 = A at gA hLA;obtain ⟨hp2,hp1,js,ep,hJ,hjj⟩:=id hLA;obtain ⟨r0,r10,rl,re,rd,rr⟩:=zRk (g:=gn) (by omega) hv hb;have hsz:=zRd hv hb;have hszw:=hsz.zA L.length (zTQ _);have wf:=gA.wf;have hjr:(List.range L.length).map (fun i=>D.ref (js.getD i 0)) = js.map D.ref:=by
   rw [show (fun i=>D.ref (js.getD i 0)) = D.ref ∘ (fun i=>js.getD i 0) from rfl,<- zTi,<- hJ.1,zBF]
  have hgl:(List.replicate (gn + 1) 32).length <= 3:=by rw [List.length_replicate]; omega
  have hcj:=zAl (own:=[12]) (fi:=zAO (zC 5)) (g:=gN 12) (te:=zEd (zC 10) (zN (zC 12) zc)) (σ:=sL t (mD zA) (.tup (NN.map nS)) (some (.ref p)) y6 y7 y8 y9' (some (nS (List.replicate (gn + 1) 32))) y11 y12 y13) (M:=A) (gd:=zD5 (.dat (.ref p)) (js.map D.ref)) (List.range L.length) (fun i=>D.ref (js.getD i 0)) (fun i=>nS (jnL (List.replicate (gn + 1) 32) (L.getD i []))) (by rw [hjr]; exact zAi rfl (za ep)) (by rw [hjr]; exact Or.inl ep) (by rw [zVM]; have:=hsz.1; omega) fun i hi=>by
   have hi:=zTy.mp hi;have hA:=hJ.2 i _ _ (show js[i]? = some (js.getD i 0) by rw [zTP,zTO (by rw [hJ.1]; exact hi)]; rfl) (zHr hi);have hbw:=hb.2 _ (zUG (zHr hi));exact ⟨_,rfl,zPs (x:=.dat (.ref (js.getD i 0))) rfl rfl (zAa hA) (fun y hy=>by have:=(hbw.2 y hy).2.1; omega) (by omega) (by omega)⟩
  have hout:(List.range L.length).map (fun i=>nS (jnL (List.replicate (gn + 1) 32) (L.getD i []))) = (L.map (jnL (List.replicate (gn + 1) 32))).map nS:=by
   rw [show (fun i=>nS (jnL (List.replicate (gn + 1) 32) (L.getD i []))) = (nS ∘ jnL (List.replicate (gn + 1) 32)) ∘ (fun i=>L.getD i []) from rfl,<- zTi,zBF,zTi]
  rw [hout] at hcj;have hlens:∀ y ∈ L.map (jnL (List.replicate (gn + 1) 32)),y.length <= 1000:=fun y hy=>by
   obtain ⟨w,hw,rfl⟩:=zTb.mp hy;have h2:=zHH (List.replicate (gn + 1) 32) (B:=9) (ps:=w) fun x hx=>((hb.2 w hw).2 x hx).2.1;have h3:w.length * (9 + (List.replicate (gn + 1) 32).length) <= 10 * 12:=Nat.mul_le_mul (by have:=(hb.2 w hw).1; omega) (by omega);omega
  have htx:=zPs nlC hcj zHO hlens (by rw [zTT]; have:=hb.1; omega) (by simp);rw [<- re] at htx;generalize zHU (List.replicate (gn + 1) 32) L = rs at r0 r10 rl rd rr htx;have hszr:Szw (zQ (rs.map tok) rs.length):=by rw [rr]; exact hszw
  refine zE1 htx ?_;show OkS (zS _ _ (sL t (mD zA) (.tup (NN.map nS)) (some (.ref p)) y6 y7 y8 y9' (some (nS (List.replicate (gn + 1) 32))) (some (nS (jnL [10] rs))) y12 y13) A) _;refine zE1 (zAu (zo (d:=.ref p) rfl) (zQE wf ep hJ hsz)) ?_;show OkS (zS _ _ (sL t (mD zA) (.tup (NN.map nS)) (some (.ref p)) y6 y7 y8 y9' (some (nS (List.replicate (gn + 1) 32))) (some (nS (jnL [10] rs))) y12 (some (zD7 (zBD L)))) A) _;have href:=zEK r0 r10 rl hszr wf;rw [rd] at href;have c1:=zFf (σ:=sL t (mD zA) (.tup (NN.map nS)) (some (.ref p)) y6 y7 y8 y9' (some (nS (List.replicate (gn + 1) 32))) (some (nS (jnL [10] rs))) y12 (some (zD7 (zBD L)))) (f1:=zW zAC (zD (toD (zC 11)) zH)) (f2:=zC 13) (n:=1) (by omega) (zJd (zBD L)) (zAu (zo (d:=nS (jnL [10] rs)) rfl) href) rfl;refine z0 (zDb c1) ?_;rw [zAI];have hnon:∀ b,(zBD L).isNone = b -> tst (fOp (kIs false) (zC 13) (fC .non)) (sL t (mD zA) (.tup (NN.map nS)) (some (.ref p)) y6 y7 y8 y9' (some (nS (List.replicate (gn + 1) 32))) (some (nS (jnL [10] rs))) y12 (some (zD7 (zBD L)))) A = some (b,A):=fun b hb=>by
   refine zf (zO (x:=.dat (zD7 (zBD L))) (y:=.dat .non) rfl rfl ?_);rw [<- hb];cases zBD L with
   | none=>rfl
   | some x=>rfl
  cases hd:zBD L with
  | some x=>
   have:=hnon false (by rw [hd]; rfl);rw [hd] at this;refine zF (Lac.zKi this) ?_;rw [zTc (by decide),zAP];exact ⟨⟨_,_,_,_,_,_,_,_,_,_,_,_,rfl⟩,gA⟩
  | none=>
   have h1:=hnon true (by rw [hd]; rfl);have h2:=zJ0 r0 r10 rl hszr (by rw [rd]; exact hd) wf;rw [rr] at h2;have c2:=zFf (σ:=sL t (mD zA) (.tup (NN.map nS)) (some (.ref p)) y6 y7 y8 y9' (some (nS (List.replicate (gn + 1) 32))) (some (nS (jnL [10] rs))) y12 (some (zD7 (zBD L)))) (f1:=zW (zCe (fPl zAN)) (zD (toD (zC 11)) zH)) (f2:=zW zB1 (zD (toD (zC 5)) zH)) (n:=3) (by omega) (zO6 hszw) (zAu (zo (d:=nS (jnL [10] rs)) rfl) h2) (zAu (zo (d:=.ref p) rfl) (zPT wf ep hJ hsz hd));rw [hd] at h1 c2;refine zF (Lac.zPQ h1 (zDb c2)) ?_;rw [zTc (by decide),zAP];exact ⟨⟨_,_,_,_,_,_,_,_,_,_,_,_,rfl⟩,gA⟩
 ·rintro σ A ⟨⟨y2,y3,y4,y5,y6,y7,y8,y9,y10,y11,y12,y13,rfl⟩,g⟩;rw [zR];have wf:=g.wf;have hs1:Szl ([[]]:List Ws):=⟨by simp,fun w hw=>by rw [zTm.mp hw]; exact ⟨by simp,fun x hx=>by cases hx⟩⟩;have hr1:=zEK (rs:=[[]]) (by simp) (by simp) (by simp [jnL]) (hs1.zA 1 (by simp)) wf;have hs2:Szl ([[],[],[]]:List Ws):=⟨by simp,fun w hw=>by
   have:w = []:=by simpa using hw
   rw [this]; exact ⟨by simp,fun x hx=>by cases hx⟩⟩
  have hr2:=zEK (rs:=[[],[32,32],[]]) (by simp) (by simp) (by simp [jnL]) (hs2.zA 3 (by simp)) wf;have e1:Str.ofString "" = tx (jnL [10] [[]]):=zBn (by decide +kernel);have e2:Str.ofString "\n  \n" = tx (jnL [10] [[],[32,32],[]]):=zBn (by decide +kernel);have d1:zD7 (zBD (([[]]:List (List Nat)).map tok)) = .tup [.int (1:Nat),.str sNo]:=rfl;have d2:zD7 (zBD (([[],[32,32],[]]:List (List Nat)).map tok)) = .tup [.int (3:Nat),.str sNo]:=rfl;rw [d1] at hr1;rw [d2] at hr2;have c1:=zFf (σ:=[some (.ref 0),some (.ref 2),y2,y3,y4,y5,y6,y7,y8,y9,y10,y11,y12,y13]) (f1:=zW zAC (zD (toD (fC (.str (Str.ofString "")))) zH)) (f2:=zDc (zD (toD (fC (.int 1))) (zD (toD (fC (.str (Str.ofString "none")))) zH))) (n:=1) (by omega) (zJd (some (1,sNo))) (zAu (zo (d:=nS (jnL [10] [[]])) (by show some (EV.dat (D.str (Str.ofString "")),A) = _; rw [e1])) hr1) (zC1 (zAU (d:=.int 1) rfl (zo (d:=.str sNo) rfl)) (by simp));have c2:=zFf (σ:=[some (.ref 0),some (.ref 2),y2,y3,y4,y5,y6,y7,y8,y9,y10,y11,y12,y13]) (f1:=zW zAC (zD (toD (fC (.str (Str.ofString "\n  \n")))) zH)) (f2:=zDc (zD (toD (fC (.int 3))) (zD (toD (fC (.str (Str.ofString "none")))) zH))) (n:=1) (by omega) (zJd (some (3,sNo))) (zAu (zo (d:=nS (jnL [10] [[],[32,32],[]])) (by show some (EV.dat (D.str (Str.ofString "\n  \n")),A) = _; rw [e2])) hr2) (zC1 (zAU (d:=.int 3) rfl (zo (d:=.str sNo) rfl)) (by simp));exact zx (zKP c1 c2) rfl
end Lah
set_option maxHeartbeats 4000000
namespace Lah
open PySem PySem.Spec PyProof.Rows L2 L3 Law
open Lab
-- the text by places
def top (i:Nat):Stmt:=PySem.Challenge.pw_bringhome_k08_machines_refused.main.body.getD i (.Pass ⟨0,0,0,0⟩)
abbrev zSk:Stmt:=(zPU (top 2)).getD 0 (.Pass ⟨0,0,0,0⟩)
abbrev zEt:Stmt:=top 9
abbrev zEE:Stmt:=top 10
abbrev zE5:Stmt:=top 11
abbrev zDS:Stmt:=top 12
abbrev zC9:Stmt:=top 13
abbrev zEB:Stmt:=top 14
abbrev zBA:Stmt:=top 15
abbrev zCE:Stmt:=top 16
abbrev zDN:Stmt:=top 18
abbrev zD9:Stmt:=top 19
abbrev zEG:Stmt:=top 20
abbrev zCQ:Stmt:=top 21
abbrev zDV:Stmt:=top 22
abbrev zCp:Stmt:=top 23
abbrev zCO:Stmt:=top 24
abbrev zC8:Stmt:=top 25
abbrev zE3:Stmt:=top 26
abbrev zEF:Stmt:=top 27
abbrev zCt:Stmt:=top 28
abbrev zCV:Stmt:=top 29
abbrev zM5:Stmt:=top 30
structure Txt (K:PySem.W.Frag) (mg:Str -> Option Value) where
  d_is_name:Df K mg "is_name" zEt ["thing"]
  d_words_in:Df K mg "words_in" zEE ["row"]
  d_rows_in:Df K mg "rows_in" zE5 ["text"]
  d_rows_many:Df K mg "rows_many" zDS ["text"]
  d_row_fault:Df K mg "row_fault" zC9 ["words", "due", "ahead"]
  d_numbered:Df K mg "numbered" zEB ["rows"]
  d_machine_of:Df K mg "machine_of" zBA ["rows", "rooms"]
  d_read_machine:Df K mg "read_machine" zCE ["text"]
  d_law_begin:Df K mg "_law_begin" zDN ["_law_script"]
  d_law_next:Df K mg "_law_next" zD9 ["_law_state", "_law_many"]
  d_law_goal:Df K mg "_law_goal" zEG ["_law_state", "_law_family", "_law_rooms", "_law_room", "_law_letter"]
  d_law_machine:Df K mg "_law_machine" zCQ ["_law_state", "_law_most", "_law_letters_most"]
  d_law_names:Df K mg "_law_names" zDV ["_law_state", "_law_many"]
  d_law_same:Df K mg "_law_same" zCp ["_law_found", "_law_due_here"]
  d_law_is_name:Df K mg "_law_is_name" zCO ["_law_word"]
  d_law_fault:Df K mg "_law_fault" zC8 ["_law_words", "_law_ahead"]
  d_law_due:Df K mg "_law_due" zE3 ["_law_lines"]
  d_law_told:Df K mg "_law_told" zEF ["_law_lines"]
  d_law_spoilt:Df K mg "_law_spoilt" zCt ["_law_state", "_law_lines"]
  d_law_refused:Df K mg "_law_refused" zCV ["_law_text"]
  d_law:Df K mg "law" zM5 ["_law_script"]
  z_all:mg "all" = none
  z_isinstance:mg "isinstance" = none
  z_str:mg "str" = none
  z_len:mg "len" = none
  z_enumerate:mg "enumerate" = none
  z_tuple:mg "tuple" = none
  z_abs:mg "abs" = none
  z_int:mg "int" = none
  z_range:mg "range" = none
  z_bool:mg "bool" = none
  z_zip:mg "zip" = none
  z_max:mg "max" = none
  z_list:mg "list" = none
  z_ValueError:mg "ValueError" = none
  t_LONGEST_NAME:Tok
  g_LONGEST_NAME:mg "LONGEST_NAME" = some (.int 8 t_LONGEST_NAME)
  t_MOST_LETTERS:Tok
  g_MOST_LETTERS:mg "MOST_LETTERS" = some (.int 6 t_MOST_LETTERS)
  t_MOST_ROOMS:Tok
  g_MOST_ROOMS:mg "MOST_ROOMS" = some (.int 26 t_MOST_ROOMS)
  x_NoMachine:Addr
  xm_NoMachine:mg "NoMachine" = some (.ref x_NoMachine)
  x_HomeError:Addr
  xm_HomeError:mg "HomeError" = some (.ref x_HomeError)
  x_NoWord:Addr
  xm_NoWord:mg "NoWord" = some (.ref x_NoWord)
  x_NoSheet:Addr
  xm_NoSheet:mg "NoSheet" = some (.ref x_NoSheet)
  xi:Xi K x_NoMachine x_HomeError
  xc:Xc K x_NoMachine
  xhd:PySem.W.hasDictIn K x_NoMachine = true
  xj:Ij K x_NoMachine zSk
  xkc:PySem.W.keepIn K (.ref x_NoMachine) = true
  xk1:PySem.W.kitCls K (.ref x_NoMachine) (.ref x_HomeError) = some true
  xk2:PySem.W.kitCls K (.ref x_HomeError) (.type "BaseException") = some true
  xk3:PySem.W.kitOne K (.ref x_NoMachine) (.type "ValueError") = some true
  xk4:PySem.W.kitAny K (.ref x_NoMachine) [.ref x_NoWord,.ref x_NoSheet] = some false
  xk5:PySem.W.kitCls K (.ref x_NoMachine) (.type "BaseException") = some true
  kinds:Kinds K
section
variable {P:Program} {w:World} {K:PySem.W.Frag} {mg:Str -> Option Value} {base:Heap}
theorem zDm {X:Cx} {scope sc:Scope} {own:List Nat} {N ps:List Str} (_:FnScope N ps sc) (hk:scope.kind = .function) (hs:X.env.scope = sc) (hN:X.N = N) (h1:zEh sc scope = true) (h2:zFh N scope own = true):CompIn X scope own:=zBy hk hs hN h1 h2
theorem zL3 {X:Cx} {scope sc sd:Scope} {own:List Nat} {N ps:List Str} (_:FnScope N ps sd) (hk:scope.kind = .function) (hs:X.env.scope = sc) (hN:X.N = N) (h1:zEh sc scope = true) (h2:zFh N scope own = true):CompIn X scope own:=zBy hk hs hN h1 h2
set_option hygiene false in
local macro_rules | `(tactic| decreasing_trivial)=> `(tactic| repeat' first
  | refine zh (pv _)
  | refine zAZ ?_
  | refine zAD ?_ ?_ (zE rfl)
  | refine zIl
  | refine zBi
  | refine zAY ?_
  | refine zDo ?_ ?_
  | refine zEA ?_
  | refine zCC
  | refine zEU ?_
  | refine zBU ?_ ?_ (zE rfl)
  | refine zLE (by first | exact zFN T | exact zFK T | exact zDQ T | exact zFM T | exact zF3 T | exact zDF T | exact zFJ T | exact zET T | exact zBh T | exact zEY T | exact zC7 T | exact zER T | exact zD3 T | exact zGE T | exact zFE T) (hr.mono (by omega)) rfl ?_ ?_ (by decide) (zE rfl) (zn rfl)
  | refine zCW
  | refine zNA
  | refine zDK sc.nd rfl
  | refine zLi ?_ ?_ ?_
  | refine zSF ?_
  | refine zPB ?_ ?_
  | refine zCz
  | refine zQi ?_ ?_
  | refine zKc
  | refine zKg ?_
  | refine zK2 ?_ ?_ ?_
  | refine zFx
  | refine zEx ?_
  | refine zKu rfl T.z_len ?_ (zE rfl) rfl
  | refine zRF ?_ ?_
  | refine zED (zCf (by decide)) (zDm sc rfl rfl rfl (by decide +kernel) (by decide +kernel)) rfl ?_ ⟨fun _ _ _ _ _=>?_,fun _ _ _ _ _=>?_,fun _ _ _ _ _=>?_⟩
  | refine zSm hr.units0 ?_ ?_
  | refine zSj ?_ ?_
  | refine zA8 ?_ ?_
  | refine zPl hr.units0 ?_ ?_
  | refine zSo ?_
  | refine zHe ?_
  | refine zHJ rfl T.z_tuple ?_ (zE rfl) rfl
  | refine zR1 ?_ ?_
  | refine zLg rfl T.z_range ?_ ?_ (zEp rfl)
  | refine zQd ?_
  | refine zSe ?_ ?_
  | refine zPk zOK PassesOwn.never rfl ?_ ?_ ?_
  | refine zQB ?_
  | refine zEb
  | refine zF1 rfl ?_
  | refine zR2 ?_ ?_
  | refine zOL rfl rfl T.z_all ?_ (zE rfl) rfl
  | refine zPS ?_
  | refine zK1
  | refine zQW ?_ ?_
  | refine zM1 ?_ ?_
  | refine zNO ?_
  | refine zRn
  | refine zOm ?_ ?_
  | refine zSn ?_ ?_
  | refine zPJ rfl T.z_enumerate ?_ (zE rfl) rfl
  | refine zSJ ?_ ?_
  | refine zRj rfl T.z_len ?_ (zE rfl) rfl
  | refine zMO (zCx fun _ _ _ _=>zAp) (zCx fun _ _ _ _=>zAp) zKQ zKQ ?_ ?_ ?_
  | refine zRA ?_
  | refine zSf ?_ ?_
  | refine zRu rfl T.z_abs ?_ (zE rfl) rfl
  | refine zSZ ?_ ?_
  | refine zNU ?_ ?_ ?_
  | refine zHu ?_
  | refine zGA ?_ ?_
  | refine zG9 sc.nd rfl (by first | exact Or.inl rfl | exact Or.inr rfl) (by first | exact .inl rfl | exact .inr rfl) rfl (zCf (by decide)) (zDm sc rfl rfl rfl (by decide +kernel) (by decide +kernel)) rfl ?_ ⟨fun _ _ _ _ _=>?_,fun _ _ _ _ _=>?_,fun _ _ _ _ _=>?_⟩
  | refine zED (zCf (by decide)) (zL3 sc rfl rfl rfl (by rfl) (by decide +kernel)) rfl ?_ ⟨fun _ _ _ _ _=>?_,fun _ _ _ _ _=>?_,fun _ _ _ _ _=>?_⟩
  | refine zG9 sc.nd rfl (by first | exact Or.inl rfl | exact Or.inr rfl) (by first | exact .inl rfl | exact .inr rfl) rfl (zDe (K:=K) (by decide) (by decide)) (zDm sc rfl rfl rfl (by decide +kernel) (by decide +kernel)) rfl ?_ ⟨fun _ _ _ _ _=>?_,fun _ _ _ _ _=>?_,fun _ _ _ _ _=>?_⟩
  | refine zQS ?_ ?_
  | refine zPk (zFn (K:=K)) PassesOwn.never rfl ?_ ?_ ?_
  | refine zRY ?_ ?_
  | refine zEo T.kinds (by decide) rfl T.z_isinstance rfl T.z_str (by rfl) (by decide) (by decide) ?_ (zE rfl) (zE rfl) (zn rfl)
  | refine zHn rfl T.g_LONGEST_NAME
  | refine zKS zKN zKN zMf zMf ?_ ?_ ?_
  | refine zNe ?_
  | refine zRx ?_ ?_
  | refine zPH _ PassesOwn.never ?_ ?_
  | refine zKS (zCx fun _ _ _ _=>zAp) (zCx fun _ _ _ _=>zAp) zKQ zKQ ?_ ?_ ?_
  | refine zSC ?_ ?_
  | refine zN8 ?_ ?_
  | refine zKz ?_
  | refine zED (zDe (K:=K) (by decide) (by decide)) (zDm sc rfl rfl rfl (by decide +kernel) (by decide +kernel)) rfl ?_ ⟨fun _ _ _ _ _=>?_,fun _ _ _ _ _=>?_,fun _ _ _ _ _=>?_⟩
  | refine zHn rfl T.g_MOST_LETTERS
  | refine zQ2 (zKV hr) ?_ ?_
  | refine zMu rfl T.z_len ?_ (zE rfl) rfl
  | refine zHn rfl T.g_MOST_ROOMS
  | refine zOY hr.units0 ?_ ?_
  | refine zRL rfl T.z_int ?_ (zE rfl) rfl
  | refine zNR ?_ ?_
  | refine zQ6 ?_ ?_
  | refine zOp ?_ ?_ ?_
  | refine zQz rfl T.z_list ?_ (zE rfl) rfl
  | refine zLO ?_ ?_
  | refine zQx rfl rfl T.z_max ?_ (zE rfl) (zn rfl)
  | refine zQX T.xk1 T.xk2 (by first | exact zFN T | exact zFK T | exact zDQ T | exact zFM T | exact zF3 T | exact zDF T | exact zFJ T | exact zET T | exact zBh T | exact zEY T | exact zC7 T | exact zER T | exact zD3 T | exact zGE T | exact zFE T) (hr.mono (by omega)) rfl T.d_read_machine.m T.d_read_machine.F.kp T.d_read_machine.b rfl rfl rfl ?_ ?_ (by decide) (zE rfl) (zn rfl) rfl sc.nd (Nat.lt_of_lt_of_eq (by decide:1 < 3) rfl) (by decide) rfl rfl rfl T.xm_HomeError (by decide) (fun a oe dx od n x t1 t2 hld=>zIH T.xi T.xc hld T.xhd T.xj.i.ht1 T.xj.i.ht2 T.xk3 T.xk4 sc.nd rfl rfl rfl (Or.inl rfl) rfl T.z_isinstance rfl T.xm_NoMachine rfl T.z_ValueError rfl T.xm_NoWord rfl T.xm_NoSheet (by decide) (by decide) (by decide) (by decide) (by decide))
  | refine zNE rfl T.z_zip ?_ (zIf rfl rfl) (zEp rfl)
  | refine zPy ?_ ?_
  | refine zLE (zDq (zMd (zBh T))) (hr.mono (by omega)) rfl ?_ ?_ (by decide) (zE rfl) (zn rfl)
  | refine zPY sc.nd rfl ?_
  | refine zQI (zQM ?_ ?_)
  | refine zQI (zNR ?_ ?_)
  | refine zE8 ?_)
abbrev zL4:List Str:=["thing", "sign"]
theorem zJ5:FnScope zL4 ["thing"] (zG zEt):=⟨rfl,rfl,rfl,by decide +kernel,rfl,by decide +kernel,by decide +kernel⟩
theorem zF3 (T:Txt K mg):Od P w base 1 T.d_is_name zBT:=by
  unfold zBT;have sc:=zJ5;exact zAq (n:=1) T.d_is_name.F sc rfl (fun cdv A outer s H E hr=>by
    unfold zEu;decreasing_trivial)
abbrev zJa:List Str:=["row", "word"]
theorem zIA:FnScope zJa ["row"] (zG zEE):=⟨rfl,rfl,rfl,by decide +kernel,rfl,by decide +kernel,by decide +kernel⟩
theorem zFM (T:Txt K mg):Od P w base 1 T.d_words_in zB5:=by
  unfold zB5;have sc:=zIA;exact zAq (n:=1) T.d_words_in.F sc rfl (fun cdv A outer s H E hr=>by
    unfold zEL;decreasing_trivial)
abbrev zIy:List Str:=["text"]
theorem zHG:FnScope zIy ["text"] (zG zDS):=⟨rfl,rfl,rfl,by decide +kernel,rfl,by decide +kernel,by decide +kernel⟩
theorem zHo (T:Txt K mg):Od P w base 1 T.d_rows_many zBa:=by
  unfold zBa;have sc:=zHG;exact zAq (n:=1) T.d_rows_many.F sc rfl (fun cdv A outer s H E hr=>by
    unfold zDO;decreasing_trivial)
abbrev zBx:List Str:=["rows", "rooms", "at", "words", "word"]
theorem zAS:FnScope zBx ["rows", "rooms"] (zG zBA):=⟨rfl,rfl,rfl,by decide +kernel,rfl,by decide +kernel,by decide +kernel⟩
theorem zGa (T:Txt K mg):FnOk P w K mg base (CXm T.x_NoMachine P w) 1 T.d_machine_of.f T.d_machine_of.fd ["rows", "rooms"] (spM K 2 zBu) :=
  zH8 (n:=2) T.d_machine_of.F zAS rfl fun cdv A outer s H E hr=>(zCJ (zNw zFn PassesOwn.leaving rfl (zEx (zh (pv 0))) (zF1 rfl (zA8 (zDK (i:=2) zAS.nd rfl) (zA8 (zDK (i:=3) zAS.nd rfl) zEb))) (zDW (zNL (zHe (zE8 (zOL rfl rfl T.z_all (zBU (zED (zCf (i:=4) (by decide)) (zBy (sc:=zG zBA) (N:=zBx) rfl rfl rfl (by decide +kernel) (by decide +kernel)) rfl (zEx (zh (pv 3))) ⟨fun _ _ _ _ _=>(zDK (i:=4) zAS.nd rfl),fun _ _ _ _ _=>zFx,fun _ _ _ _ _=>(zSN (zKV hr) (zh (pv 4)) (zh (pv 1)))⟩) zCW (zE rfl)) (zE rfl) rfl))) (zDW (zGB T.xi T.xj.i T.xk5 T.xkc hr T.xm_NoMachine rfl (by decide) (zAD (zAZ (zh (pv 2))) (zAD (zAZ zNA) zBi (zE rfl)) (zE rfl)) (zE rfl) (zn rfl))) (zKG zCz))))
    (zDW (zGs (zEU (zHJ rfl T.z_tuple (zBU (zED (zDe (i:=2) (j:=3) (by decide) (by decide)) (zBy (sc:=zG zBA) (N:=zBx) rfl rfl rfl (by decide +kernel) (by decide +kernel)) rfl (zEx (zh (pv 0))) ⟨fun _ _ _ _ _=>(zF1 rfl (zA8 (zDK (i:=2) zAS.nd rfl) (zA8 (zDK (i:=3) zAS.nd rfl) zEb))),fun _ _ _ _ _=>zFx,fun _ _ _ _ _=>(zHJ rfl T.z_tuple (zBU (zED (zCf (i:=4) (by decide)) (zBy (N:=zBx) rfl rfl rfl (by rfl) (by decide +kernel)) rfl (zEx (zK2 (zh (pv 3)) (zKg zIl) zKc)) ⟨fun _ _ _ _ _=>(zDK (i:=4) zAS.nd rfl),fun _ _ _ _ _=>zFx,fun _ _ _ _ _=>(zQl (zKV hr) (zh (pv 1)) (zh (pv 4)))⟩) zCW (zE rfl)) (zE rfl) rfl)⟩) zCW (zE rfl)) (zE rfl) rfl)))))
abbrev zIj:List Str:=["_law_script", "_law_seed", "_law_cell"]
theorem zHI:FnScope zIj ["_law_script"] (zG zDN):=⟨rfl,rfl,rfl,by decide +kernel,rfl,by decide +kernel,by decide +kernel⟩
theorem zEY (T:Txt K mg):Od P w base 1 T.d_law_begin zBW:=by
  unfold zBW;have sc:=zHI;exact zAq (n:=1) T.d_law_begin.F sc rfl (fun cdv A outer s H E hr=>by
    unfold zDH;decreasing_trivial)
abbrev zKF:List Str:=["_law_state", "_law_many", "_law_digit"]
theorem zJV:FnScope zKF ["_law_state", "_law_many"] (zG zD9):=⟨rfl,rfl,rfl,by decide +kernel,rfl,by decide +kernel,by decide +kernel⟩
theorem zFN (T:Txt K mg):Od P w base 1 T.d_law_next zP:=by
  unfold zP;have sc:=zJV;exact zAq (n:=2) T.d_law_next.F sc rfl (fun cdv A outer s H E hr=>by
    unfold zEI;decreasing_trivial)
abbrev zGW:List Str:=["_law_word", "_law_sign"]
theorem zF2:FnScope zGW ["_law_word"] (zG zCO):=⟨rfl,rfl,rfl,by decide +kernel,rfl,by decide +kernel,by decide +kernel⟩
theorem zDF (T:Txt K mg):Od P w base 1 T.d_law_is_name zAo:=by
  unfold zAo;have sc:=zF2;exact zAq (n:=1) T.d_law_is_name.F sc rfl (fun cdv A outer s H E hr=>by
    unfold zCR;decreasing_trivial)
abbrev zJm:List Str:=["_law_lines", "_law_rows", "_law_words", "_law_heads", "_law_word"]
theorem zIQ:FnScope zJm ["_law_lines"] (zG zEF):=⟨rfl,rfl,rfl,by decide +kernel,rfl,by decide +kernel,by decide +kernel⟩
theorem zFE (T:Txt K mg):Od P w base 1 T.d_law_told zB1:=by
  unfold zB1;have sc:=zIQ;exact zDq (zAq (n:=1) T.d_law_told.F sc rfl (fun cdv A outer s H E hr=>by
    unfold zEJ;decreasing_trivial))
abbrev zLx:List Str:=["text", "rows", "at", "row", "words"]
theorem zKI:FnScope zLx ["text"] (zG zE5):=⟨rfl,rfl,rfl,by decide +kernel,rfl,by decide +kernel,by decide +kernel⟩
theorem zKB (T:Txt K mg):Od P w base 2 T.d_rows_in zCi:=by
  unfold zCi;have sc:=zKI;exact zAq (n:=1) T.d_rows_in.F sc rfl (fun cdv A outer s H E hr=>by
    unfold zE9;decreasing_trivial)
abbrev zIb:List Str:=["words", "due", "ahead", "word"]
theorem zHs:FnScope zIb ["words", "due", "ahead"] (zG zC9):=⟨rfl,rfl,rfl,by decide +kernel,rfl,by decide +kernel,by decide +kernel⟩
theorem zH6 (T:Txt K mg):Od P w base 2 T.d_row_fault zBb:=by
  unfold zBb;have sc:=zHs;exact zAq (n:=3) T.d_row_fault.F sc rfl (fun cdv A outer s H E hr=>by
    unfold zDR;decreasing_trivial)
abbrev zJw:List Str:=["_law_state", "_law_family", "_law_rooms", "_law_room", "_law_letter", "_law_half"]
theorem zI6:FnScope zJw ["_law_state", "_law_family", "_law_rooms", "_law_room", "_law_letter"] (zG zEG):=⟨rfl,rfl,rfl,by decide +kernel,rfl,by decide +kernel,by decide +kernel⟩
theorem zFJ (T:Txt K mg):Od P w base 2 T.d_law_goal zCA:=by
  unfold zCA;have sc:=zI6;exact zAq (n:=5) T.d_law_goal.F sc rfl (fun cdv A outer s H E hr=>by
    unfold zEC;decreasing_trivial)
abbrev zJG:List Str:=["_law_state", "_law_many", "_law_letters", "_law_base", "_law_size", "_law_at", "_law_first", "_law_found", "_law_k", "_law_sign"]
theorem zHv:FnScope zJG ["_law_state", "_law_many"] (zG zDV):=⟨rfl,rfl,rfl,by decide +kernel,rfl,by decide +kernel,by decide +kernel⟩
theorem zER (T:Txt K mg):Od P w base 2 T.d_law_names zBc:=by
  unfold zBc;have sc:=zHv;exact zDq (zAq (n:=2) T.d_law_names.F sc rfl (fun cdv A outer s H E hr=>by
    unfold zDT;decreasing_trivial))
abbrev zIY:List Str:=["_law_words", "_law_ahead", "_law_word", "_law_other"]
theorem zHw:FnScope zIY ["_law_words", "_law_ahead"] (zG zC8):=⟨rfl,rfl,rfl,by decide +kernel,rfl,by decide +kernel,by decide +kernel⟩
theorem zET (T:Txt K mg):Od P w base 2 T.d_law_fault zBd:=by
  unfold zBd;have sc:=zHw;exact zAq (n:=2) T.d_law_fault.F sc rfl (fun cdv A outer s H E hr=>by
    unfold zDG;decreasing_trivial)
abbrev zHj:List Str:=["_law_state", "_law_lines", "_law_at", "_law_words", "_law_spot", "_law_other", "_law_odd", "_law_way"]
theorem zGV:FnScope zHj ["_law_state", "_law_lines"] (zG zCt):=⟨rfl,rfl,rfl,by decide +kernel,rfl,by decide +kernel,by decide +kernel⟩
theorem zD3 (T:Txt K mg):Od P w base 2 T.d_law_spoilt zA9:=by
  unfold zA9;have sc:=zGV;exact zAq (n:=2) T.d_law_spoilt.F sc rfl (fun cdv A outer s H E hr=>by
    unfold zCr;decreasing_trivial)
abbrev zJZ:List Str:=["rows", "rooms", "at", "words", "fault"]
theorem zBX:FnScope zJZ ["rows"] (zG zEB):=⟨rfl,rfl,rfl,by decide +kernel,rfl,by decide +kernel,by decide +kernel⟩
theorem zIC (T:Txt K mg):FnOk P w K mg base (CXm T.x_NoMachine P w) 3 T.d_numbered.f T.d_numbered.fd ["rows"] (spM K 1 zCn) :=
  zH8 (n:=1) T.d_numbered.F zBX rfl fun cdv A outer s H E hr=>(zCJ (zGs (zPY (i:=1) zBX.nd rfl zPW))
    (zCJ (zNw zFn PassesOwn.leaving rfl (zEx (zh (pv 0))) (zF1 rfl (zA8 (zDK (i:=2) zBX.nd rfl) (zA8 (zDK (i:=3) zBX.nd rfl) zEb))) (zCJ (zGs (zPY (i:=4) zBX.nd rfl (zLE (zH6 T) (hr.mono (by omega)) rfl (zAD (zAZ (zh (pv 3))) (zAD (zAZ (zKu rfl T.z_len (zBU (zPB (zPB (zh (pv 0)) zIl) zIl) zCW (zE rfl)) (zE rfl) rfl)) (zAD (zAZ (zh (pv 1))) zBi (zE rfl)) (zE rfl)) (zE rfl)) (zAY (zAY (zAY zCC))) (by decide) (zE rfl) (zn rfl))))
    (zCJ (zNL (zOO (zh (pv 4)) zK1) (zDW (zGB T.xi T.xj.i T.xk5 T.xkc hr T.xm_NoMachine rfl (by decide) (zAD (zAZ (zh (pv 2))) (zAD (zAZ (zh (pv 4))) zBi (zE rfl)) (zE rfl)) (zE rfl) (zn rfl))) (zKG zCz))
    (zDW (zGs (zQr (zKV hr) (zMu rfl T.z_len (zBU (zh (pv 1)) zCW (zE rfl)) (zE rfl) rfl) (zh (pv 1)) (zPB (zh (pv 3)) zIl)))))))
    (zDW (zGs (zEU (zh (pv 1)))))))
abbrev zGb:List Str:=["_law_state", "_law_most", "_law_letters_most", "_law_rooms", "_law_letters", "_law_family", "_law_rows", "_law_room", "_law_letter"]
theorem zFl:FnScope zGb ["_law_state", "_law_most", "_law_letters_most"] (zG zCQ):=⟨rfl,rfl,rfl,by decide +kernel,rfl,by decide +kernel,by decide +kernel⟩
theorem zC7 (T:Txt K mg):Od P w base 3 T.d_law_machine zA4:=by
  unfold zA4;have sc:=zFl;exact zDq (zAq (n:=3) T.d_law_machine.F sc rfl (fun cdv A outer s H E hr=>by
    unfold zCT;decreasing_trivial))
abbrev zL6:List Str:=["_law_lines", "_law_ahead", "_law_place", "_law_words", "_law_fault_here", "_law_heads", "_law_word"]
theorem zJl:FnScope zL6 ["_law_lines"] (zG zE3):=⟨rfl,rfl,rfl,by decide +kernel,rfl,by decide +kernel,by decide +kernel⟩
theorem zGE (T:Txt K mg):Od P w base 3 T.d_law_due zDf:=by
  unfold zDf;have sc:=zJl;exact zDq (zAq (n:=1) T.d_law_due.F sc rfl (fun cdv A outer s H E hr=>by
    unfold zFC;decreasing_trivial))
abbrev zGO:List Str:=["text", "rows", "rooms"]
theorem zBg:FnScope zGO ["text"] (zG zCE):=⟨rfl,rfl,rfl,by decide +kernel,rfl,by decide +kernel,by decide +kernel⟩
theorem zBh (T:Txt K mg):FnOk P w K mg base (CXm T.x_NoMachine P w) 4 T.d_read_machine.f T.d_read_machine.fd ["text"] (spM K 1 zAN) :=
  zH8 (n:=1) T.d_read_machine.F zBg rfl fun cdv A outer s H E hr=>(zCJ (zGs (zPY (i:=1) zBg.nd rfl (zLE (zKB T) (hr.mono (by omega)) rfl (zAD (zAZ (zh (pv 0))) zBi (zE rfl)) (zAY zCC) (by decide) (zE rfl) (zn rfl))))
    (zCJ (zOX (i:=2) zBg.nd rfl (Or.inl rfl) (zIC T) (hr.mono (by omega)) rfl T.d_numbered.m T.d_numbered.F.kp T.d_numbered.b zPx (zAD (zAZ (zh (pv 1))) zBi (zE rfl)) (zAY zCC) (by decide) (zE rfl) (zn rfl) rfl (Or.inl rfl))
    (zCJ (zNL (zHe (zKz (zh (pv 1)))) (zDW (zGB T.xi T.xj.i T.xk5 T.xkc hr T.xm_NoMachine rfl (by decide) (zAD (zAZ (zLE (zHo T) (hr.mono (by omega)) rfl (zAD (zAZ (zh (pv 0))) zBi (zE rfl)) (zAY zCC) (by decide) (zE rfl) (zn rfl))) (zAD (zAZ zNA) zBi (zE rfl)) (zE rfl)) (zE rfl) (zn rfl))) (zKG zCz))
    (zDW (zO7 (zGa T) (hr.mono (by omega)) rfl T.d_machine_of.m T.d_machine_of.F.kp T.d_machine_of.b zPx (zAD (zAZ (zh (pv 1))) (zAD (zAZ (zh (pv 2))) zBi (zE rfl)) (zE rfl)) (zAY (zAY zCC)) (zAD (zAZ (zRJ rfl rfl T.z_tuple (zBU (zh (pv 2)) zCW (zE rfl)) (zE rfl) rfl)) zBi (zE rfl)) (zE rfl) (by decide) (zE rfl) (zn rfl))))))
abbrev zF5:List Str:=["_law_found", "_law_due_here", "_law_one", "_law_other"]
theorem zC5:FnScope zF5 ["_law_found", "_law_due_here"] (zG zCp):=⟨rfl,rfl,rfl,by decide +kernel,rfl,by decide +kernel,by decide +kernel⟩
theorem zEQ (T:Txt K mg):∀ n:Nat,FnOk P w K mg base CX0 (n + 0) T.d_law_same.f T.d_law_same.fd ["_law_found", "_law_due_here"] (spF K 2 (zAQ n))
  | 0=>zOz
  | n + 1=>by
    have hrec:=zEQ T n;unfold zAQ;rw [show n + 1 + 0 = (n + 0) + 1 by omega];exact zAq (n:=2) T.d_law_same.F zC5 rfl (fun cdv A outer s H E hr=>by
      unfold zCl;exact (zDo (zLi (zE8 (zEo T.kinds (by decide) rfl T.z_isinstance rfl T.z_tuple (by rfl) (by decide) (by decide) (zh (pv 1)) (zE rfl) (zE rfl) (zn rfl))) (zDo (zLi (zQI (zNR (zHe (zE8 (zEo T.kinds (by decide) rfl T.z_isinstance rfl T.z_tuple (by rfl) (by decide) (by decide) (zh (pv 0)) (zE rfl) (zE rfl) (zn rfl)))) (zNO (zPl hr.units0 (zKu rfl T.z_len (zBU (zh (pv 0)) zCW (zE rfl)) (zE rfl) rfl) (zKu rfl T.z_len (zBU (zh (pv 1)) zCW (zE rfl)) (zE rfl) rfl))))) (zEA (zEU zRn)) zCz)
    (zEA (zEU (zOL rfl rfl T.z_all (zBU (zED (zDe (i:=2) (j:=3) (by decide) (by decide)) (zBy (sc:=zG zCp) (N:=zF5) rfl rfl rfl (by decide +kernel) (by decide +kernel)) rfl (zNE rfl T.z_zip (zAD (zAZ (zh (pv 0))) (zAD (zAZ (zh (pv 1))) zBi (zE rfl)) (zE rfl)) (zIf rfl rfl) (zEp rfl)) ⟨fun _ _ _ _ _=>(zF1 rfl (zA8 (zDK (i:=2) zC5.nd rfl) (zA8 (zDK (i:=3) zC5.nd rfl) zEb))),fun _ _ _ _ _=>zFx,fun _ _ _ _ _=>(zLE hrec (hr.mono (by omega)) rfl (zAD (zAZ (zh (pv 2))) (zAD (zAZ (zh (pv 3))) zBi (zE rfl)) (zE rfl)) (zAY (zAY zCC)) (by decide) (zE rfl) (zn rfl))⟩) zCW (zE rfl)) (zE rfl) rfl)))) zCz)
    (zDo (zLi (zPy (zh (pv 1)) zK1) (zEA (zEU (zS2 (zh (pv 0)) zK1))) zCz)
    (zDo (zLi (zE8 (zEo T.kinds (by decide) rfl T.z_isinstance rfl T.z_bool (by rfl) (by decide) (by decide) (zh (pv 1)) (zE rfl) (zE rfl) (zn rfl))) (zEA (zEU (zGA (zEo T.kinds (by decide) rfl T.z_isinstance rfl T.z_bool (by rfl) (by decide) (by decide) (zh (pv 0)) (zE rfl) (zE rfl) (zn rfl)) (zHu (zOY hr.units0 (zh (pv 0)) (zh (pv 1))))))) zCz)
    (zDo (zLi (zE8 (zEo T.kinds (by decide) rfl T.z_isinstance rfl T.z_str (by rfl) (by decide) (by decide) (zh (pv 1)) (zE rfl) (zE rfl) (zn rfl))) (zEA (zEU (zGA (zEo T.kinds (by decide) rfl T.z_isinstance rfl T.z_str (by rfl) (by decide) (by decide) (zh (pv 0)) (zE rfl) (zE rfl) (zn rfl)) (zHu (zOY hr.units0 (zh (pv 0)) (zh (pv 1))))))) zCz)
    (zEA (zEU (zGA (zEo T.kinds (by decide) rfl T.z_isinstance rfl T.z_int (by rfl) (by decide) (by decide) (zh (pv 0)) (zE rfl) (zE rfl) (zn rfl)) (zGA (zQu (zEo T.kinds (by decide) rfl T.z_isinstance rfl T.z_bool (by rfl) (by decide) (by decide) (zh (pv 0)) (zE rfl) (zE rfl) (zn rfl))) (zHu (zOY hr.units0 (zh (pv 0)) (zh (pv 1)))))))))))))
theorem zFK (T:Txt K mg):Od P w base 5 T.d_law_same zAy:=zEQ T 5
abbrev zGY:List Str:=["_law_text", "_law_told_here", "e"]
theorem zFz:FnScope zGY ["_law_text"] (zG zCV):=⟨rfl,rfl,rfl,by decide +kernel,rfl,by decide +kernel,by decide +kernel⟩
theorem zDQ (T:Txt K mg):Od P w base 5 T.d_law_refused zAC:=by
  unfold zAC;have sc:=zFz;exact zDq (zAq (n:=1) T.d_law_refused.F sc rfl (fun cdv A outer s H E hr=>by
    unfold zCU;decreasing_trivial))
abbrev zSa:List Str:=["_law_script", "_law_state", "_law_turn", "_law_machine_here", "_law_names_here", "_law_lines", "_law_name", "_law_goal_here", "_law_row", "_law_k", "_law_gap", "_law_text", "_law_words", "_law_due_here"]
theorem zRK:FnScope zSa ["_law_script"] (zG zM5):=⟨rfl,rfl,rfl,by decide +kernel,rfl,by decide +kernel,by decide +kernel⟩
theorem zRf (T:Txt K mg):Od P w base 6 T.d_law zFU:=by
  unfold zFU;have sc:=zRK;exact zAq (n:=1) T.d_law.F sc rfl (fun cdv A outer s H E hr=>by
    unfold zNK;decreasing_trivial)
end
set_option maxHeartbeats 0 in
theorem all_mk {l:PySem.W.OpenLaw} {w:World} {K:PySem.W.Frag} {h:Heap} {mg:Str -> Option Value} {fa:Addr} (X:K.In h) (G:h.Ns mainGlobals mg) (hfa:mg "law" = some (.ref fa))
    {tt1:Tok} {tt2:Tok} {tt3:Tok} {C1:Addr} {C2:Addr} {C3:Addr} {C4:Addr}(g1:Dg K "is_name" zEt) (g2:Dg K "words_in" zEE) (g3:Dg K "rows_in" zE5) (g4:Dg K "rows_many" zDS) (g5:Dg K "row_fault" zC9) (g6:Dg K "numbered" zEB) (g7:Dg K "machine_of" zBA) (g8:Dg K "read_machine" zCE) (g9:Dg K "_law_begin" zDN) (g10:Dg K "_law_next" zD9) (g11:Dg K "_law_goal" zEG) (g12:Dg K "_law_machine" zCQ) (g13:Dg K "_law_names" zDV) (g14:Dg K "_law_same" zCp) (g15:Dg K "_law_is_name" zCO) (g16:Dg K "_law_fault" zC8) (g17:Dg K "_law_due" zE3) (g18:Dg K "_law_told" zEF) (g19:Dg K "_law_spoilt" zCt) (g20:Dg K "_law_refused" zCV) (g21:Dg K "law" zM5) (z1:Zn K "all") (z2:Zn K "isinstance") (z3:Zn K "str") (z4:Zn K "len") (z5:Zn K "enumerate") (z6:Zn K "tuple") (z7:Zn K "abs") (z8:Zn K "int") (z9:Zn K "range") (z10:Zn K "bool") (z11:Zn K "zip") (z12:Zn K "max") (z13:Zn K "list") (z14:Zn K "ValueError") (w1:PySem.W.nsIn K mainGlobals "LONGEST_NAME" = some (some (.int 8 tt1))) (w2:PySem.W.nsIn K mainGlobals "MOST_LETTERS" = some (some (.int 6 tt2))) (w3:PySem.W.nsIn K mainGlobals "MOST_ROOMS" = some (some (.int 26 tt3))) (xa1:PySem.W.nsIn K mainGlobals "NoMachine" = some (some (.ref C1))) (xa2:PySem.W.nsIn K mainGlobals "HomeError" = some (some (.ref C2))) (xa3:PySem.W.nsIn K mainGlobals "NoWord" = some (some (.ref C3))) (xa4:PySem.W.nsIn K mainGlobals "NoSheet" = some (some (.ref C4))) (xi:Xi K C1 C2) (xc:Xc K C1) (xhd:PySem.W.hasDictIn K C1 = true) (xg:Ig K C1 zSk) (xkc:PySem.W.keepIn K (.ref C1) = true) (xk1:PySem.W.kitCls K (.ref C1) (.ref C2) = some true) (xk2:PySem.W.kitCls K (.ref C2) (.type "BaseException") = some true) (xk3:PySem.W.kitOne K (.ref C1) (.type "ValueError") = some true) (xk4:PySem.W.kitAny K (.ref C1) [.ref C3,.ref C4] = some false) (xk5:PySem.W.kitCls K (.ref C1) (.type "BaseException") = some true) (y1:Ki K "NoneType" "int" false) (y2:Ki K "NoneType" "bool" false) (y3:Ki K "NoneType" "str" false) (y4:Ki K "NoneType" "tuple" false) (y5:Ki K "bool" "int" true) (y6:Ki K "bool" "bool" true) (y7:Ki K "bool" "str" false) (y8:Ki K "bool" "tuple" false) (y9:Ki K "int" "int" true) (y10:Ki K "int" "bool" false) (y11:Ki K "int" "str" false) (y12:Ki K "int" "tuple" false) (y13:Ki K "str" "int" false) (y14:Ki K "str" "bool" false) (y15:Ki K "str" "str" true) (y16:Ki K "str" "tuple" false) (y17:Ki K "list" "int" false) (y18:Ki K "list" "bool" false) (y19:Ki K "list" "str" false) (y20:Ki K "list" "tuple" false) (y21:Ki K "tuple" "int" false) (y22:Ki K "tuple" "bool" false) (y23:Ki K "tuple" "str" false) (y24:Ki K "tuple" "tuple" true) (y25:Ki K "dict" "int" false) (y26:Ki K "dict" "bool" false) (y27:Ki K "dict" "str" false) (y28:Ki K "dict" "tuple" false) :
    ∃ fd:FuncData,(∀ (s:Shared) (v:Value),BindsTo s fd ⟨[v],[]⟩ [("_law_script", v)]) /\ ∀ base:Heap,K.In base -> base.Ns mainGlobals mg -> FnOk l.prog w K mg base CX0 6 fa fd ["_law_script"] (spF K 1 zFU):=by
  have e:=hfa.symm.trans (PySem.W.mg_of X G g21.a);cases e;have kinds:Kinds K:=⟨by
    intro t T ht hT;simp only [zTW,zTp,or_false] at ht hT;rcases ht with rfl | rfl | rfl | rfl | rfl | rfl | rfl <;> rcases hT with rfl | rfl | rfl | rfl <;> assumption⟩
  let T:Txt K mg:=⟨g1.df X G fun _ _ _ _ _ _=>zFb fun _=>rfl,g2.df X G fun _ _ _ _ _ _=>zFb fun _=>rfl,g3.df X G fun _ _ _ _ _ _=>zFb fun _=>rfl,g4.df X G fun _ _ _ _ _ _=>zFb fun _=>rfl,g5.df X G fun _ _ _ _ _ _=>zRE fun _ _ _=>rfl,g6.df X G fun _ _ _ _ _ _=>zFb fun _=>rfl,g7.df X G fun _ _ _ _ _ _=>zLd fun _ _=>rfl,g8.df X G fun _ _ _ _ _ _=>zFb fun _=>rfl,g9.df X G fun _ _ _ _ _ _=>zFb fun _=>rfl,g10.df X G fun _ _ _ _ _ _=>zLd fun _ _=>rfl,g11.df X G fun _ _ _ _ _ _=>zTH fun _ _ _ _ _=>rfl,g12.df X G fun _ _ _ _ _ _=>zRE fun _ _ _=>rfl,g13.df X G fun _ _ _ _ _ _=>zLd fun _ _=>rfl,g14.df X G fun _ _ _ _ _ _=>zLd fun _ _=>rfl,g15.df X G fun _ _ _ _ _ _=>zFb fun _=>rfl,g16.df X G fun _ _ _ _ _ _=>zLd fun _ _=>rfl,g17.df X G fun _ _ _ _ _ _=>zFb fun _=>rfl,g18.df X G fun _ _ _ _ _ _=>zFb fun _=>rfl,g19.df X G fun _ _ _ _ _ _=>zLd fun _ _=>rfl,g20.df X G fun _ _ _ _ _ _=>zFb fun _=>rfl,g21.df X G fun _ _ _ _ _ _=>zFb fun _=>rfl,zUO X G z1,zUO X G z2,zUO X G z3,zUO X G z4,zUO X G z5,zUO X G z6,zUO X G z7,zUO X G z8,zUO X G z9,zUO X G z10,zUO X G z11,zUO X G z12,zUO X G z13,zUO X G z14,_,PySem.W.mg_of X G w1,_,PySem.W.mg_of X G w2,_,PySem.W.mg_of X G w3,_,PySem.W.mg_of X G xa1,_,PySem.W.mg_of X G xa2,_,PySem.W.mg_of X G xa3,_,PySem.W.mg_of X G xa4,xi,xc,xhd,xg.ij ⟨rfl,rfl,rfl,by decide +kernel,rfl,by decide +kernel,by decide +kernel⟩ rfl rfl rfl rfl fun _ _ _ _ _ _=>zRE fun _ _ _=>rfl,xkc,xk1,xk2,xk3,xk4,xk5,kinds⟩;refine ⟨T.d_law.fd,fun s v=> .of_eq rfl,fun base _ _=>?_⟩;exact zRf (P:=l.prog) (w:=w) (base:=base) T
theorem walk {l:PySem.W.OpenLaw} {q:Program} {loose:List Str} {XP:(Str -> Option Value) -> Heap -> Prop} {YP:World -> Heap -> Prop} {d:DefRec} {K:Params -> PySem.W.Frag} (hn:l.most = some 63) (hdf:d.params.defaults = [])
    (hY:∀ (w:World) (h:Heap),YP w h -> (K w.params).In h) (hL:∀ w:World,zHW (K w.params) = true) (hT:∀ w:World,zN4 (K w.params) = true)
    (F:∀ (w:World) (mg:Str -> Option Value) (fa:Addr) (h:Heap),(K w.params).In h -> h.Ns mainGlobals mg -> mg d.name = some (.ref fa) ->
      ∃ fd:FuncData,(∀ (s:Shared) (u:Value),BindsTo s fd ⟨[u],[]⟩ [("_law_script", u)]) /\ ∀ base:Heap,(K w.params).In base -> base.Ns mainGlobals mg -> FnOk l.prog w (K w.params) mg base CX0 6 fa fd ["_law_script"] (spF (K w.params) 1 zFU)) :
    PySem.W.WalkO q loose XP YP l.row.toRowW d [] (fun f vs=>PySem.call f vs) :=
  L2.zPM (n:=63) (k:=6) (x := "_law_script") (CX:=fun _=>CX0) (sp:=fun w=>spF (K w.params) 1 zFU) hn (by decide) hdf ⟨rfl,by decide,by decide⟩ hY F
    (fun w H a ns hl hO hS=>zLm (hL w) (zLB (hT w)) (zN5 hO) hS (zMi ns hl)) fun _ _ _ _ _ z=>z
end Lah
open PySem PySem.W PyProof.Rows
set_option maxRecDepth 100000 in
set_option maxHeartbeats 0 in
theorem PySem.Challenge.cw_bringhome_k08_machines_refused_holds : PySem.Challenge.rw_bringhome_k08_machines_refused.Holds := by
  w_on; o_law; k_head; (case hw=>w_witness2);k_fill;refine Lah.walk (l:=PySem.Challenge.rw_bringhome_k08_machines_refused) rfl rfl (fun w h Y=>PySem.W.kIn_of Y) (fun w=>by rfl) (fun w=>by rfl) ?F
  case F=>
    intro w mg fa h KX G hmg;refine' Lah.all_mk KX G hmg ?_ ?_ ?_ ?_ ?_ ?_ ?_ ?_ ?_ ?_ ?_ ?_ ?_ ?_ ?_ ?_ ?_ ?_ ?_ ?_ ?_ ?_ ?_ ?_ ?_ ?_ ?_ ?_ ?_ ?_ ?_ ?_ ?_ ?_ ?_ ?_ ?_ ?_ ?_ ?_ ?_ ?_ ?_ ?_ ?_ ?_ ?_ ?_ ?_ ?_ ?_ ?_ ?_ ?_ ?_ ?_ ?_ ?_ ?_ ?_ ?_ ?_ ?_ ?_ ?_ ?_ ?_ ?_ ?_ ?_ ?_ ?_ ?_ ?_ ?_ ?_ ?_ ?_ ?_ ?_;all_goals try (first | exact ⟨_,by k_is,by k_is,by k_is,by k_is⟩ | exact ⟨by k_is,by k_is,by k_is,by k_is,by k_is,by rfl,by rfl,⟨by with_unfolding_all rfl,by rfl,by rfl,by rfl,by rfl⟩⟩ | exact ⟨_,_,by k_is,by k_is,by k_is,by k_is,by k_is,by k_is,by k_is⟩ | (intro od; rfl) | (unfold L3.Zn; k_is) | (unfold L3.Ki; kit_is) | k_is | rfl)
